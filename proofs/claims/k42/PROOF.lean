import PyProof.Rows.All
import Wide.All
import OpenK.AllK
import Wide.FinOn
import PyProof.EqAt
import PyProof.EqKinds
import PyProof.TupleCall
import Lean
import PySem.Challenge.RW_lazycols_k42_some_rows
set_option Elab.async false
set_option linter.all false
set_option maxRecDepth 100000
set_option maxHeartbeats 4000000
set_option genSizeOfSpec false
namespace L2
abbrev Fg:=PySem.W.Frag
end L2
namespace L2
open PySem PySem.Spec PyProof.Rows
theorem dM{F:FuncData}{ps:List Str}(h:∀a0,bindArgs F ⟨[a0],[]⟩=pure (ps.zip [a0])):∀us:List Value,us.length=1->bindArgs F ⟨us,[]⟩=pure (ps.zip us)
 | [a0],_=>h a0
theorem dJ{F:FuncData}{ps:List Str}(h:∀a0 a1,bindArgs F ⟨[a0,a1],[]⟩=pure (ps.zip [a0,a1])):∀us:List Value,us.length=2->bindArgs F ⟨us,[]⟩=pure (ps.zip us)
 | [a0,a1],_=>h a0 a1
theorem dP{F:FuncData}{ps:List Str}(h:∀a0 a1 a2,bindArgs F ⟨[a0,a1,a2],[]⟩=pure (ps.zip [a0,a1,a2])):∀us:List Value,us.length=3->bindArgs F ⟨us,[]⟩=pure (ps.zip us)
 | [a0,a1,a2],_=>h a0 a1 a2
theorem mF{F:FuncData}{ps:List Str}(h:∀a0 a1 a2 a3,bindArgs F ⟨[a0,a1,a2,a3],[]⟩=pure (ps.zip [a0,a1,a2,a3])):∀us:List Value,us.length=4->bindArgs F ⟨us,[]⟩=pure (ps.zip us)
 | [a0,a1,a2,a3],_=>h a0 a1 a2 a3
theorem bi5{F:FuncData}{ps:List Str}(h:∀a0 a1 a2 a3 a4,bindArgs F ⟨[a0,a1,a2,a3,a4],[]⟩=pure (ps.zip [a0,a1,a2,a3,a4])):∀us:List Value,us.length=5->bindArgs F ⟨us,[]⟩=pure (ps.zip us)
 | [a0,a1,a2,a3,a4],_=>h a0 a1 a2 a3 a4
theorem bi6{F:FuncData}{ps:List Str}(h:∀a0 a1 a2 a3 a4 a5,bindArgs F ⟨[a0,a1,a2,a3,a4,a5],[]⟩=pure (ps.zip [a0,a1,a2,a3,a4,a5])):∀us:List Value,us.length=6->bindArgs F ⟨us,[]⟩=pure (ps.zip us)
 | [a0,a1,a2,a3,a4,a5],_=>h a0 a1 a2 a3 a4 a5
theorem lt2{n:Nat}(h:n<2:=by first|assumption|omega):n=0\/ n=1:=by omega
theorem lt3{n:Nat}(h:n<3:=by first|assumption|omega):n=0\/ n=1\/ n=2:=by omega
abbrev aC:=Sum Int Str
def qF:aC->Value->Bool
 | .inl k,v=>Value.isInt k v
 | .inr x,v=>Value.isStrOf x v
def keyH(w:World):aC->Int
 | .inl k=>hashInt k
 | .inr x=>hashStr w x
theorem kU:∀{k:aC} {v:Value},qF k v=true->(∃i t,k=Sum.inl i/\v=Value.int i t)\/ (∃x t,k=Sum.inr x/\v=Value.str x t)
 | .inl i,v,h=>by
  obtain⟨t,e⟩:=Value.isInt_shape (k:=i) (v:=v) h
  exact .inl ⟨i,t,rfl,e⟩
 | .inr x,v,h=>by
  obtain⟨t,e⟩:=Value.isStrOf_shape (x:=x) (v:=v) h
  exact .inr ⟨x,t,rfl,e⟩
theorem b5R(i:Int)(t:Tok):qF (.inl i) (.int i t)=true:=by simp[qF,Value.isInt]
theorem b4F(x:Str)(t:Tok):qF (.inr x) (.str x t)=true:=by simp[qF,Value.isStrOf]
theorem b7c(a b:Int):decide ((Sum.inl a:aC)=Sum.inl b)=(a==b):=by
 by_cases e:a=b
 ·subst e;simp
 ·have h:¬(Sum.inl a:aC)=Sum.inl b:=fun q=>e (Sum.inl.inj q)
  rw[decide_eq_false h]
  exact(beq_eq_false_iff_ne.mpr e).symm
theorem b6a(a b:Str):decide ((Sum.inr a:aC)=Sum.inr b)=decide (a=b):=by
 by_cases e:a=b
 ·subst e;simp
 ·have h:¬(Sum.inr a:aC)=Sum.inr b:=fun q=>e (Sum.inr.inj q)
  rw[decide_eq_false h,decide_eq_false e]
theorem b8m(a:Int)(b:Str):decide ((Sum.inl a:aC)=Sum.inr b)=false:=decide_eq_false (fun q=>nomatch q)
theorem b7e(a:Str)(b:Int):decide ((Sum.inr a:aC)=Sum.inl b)=false:=decide_eq_false (fun q=>nomatch q)
def fQ(prog:Program)(w:World):PySem.KeyKind prog w aC where
 is:=qF
 hash:=keyH w
 inj:=fun v a b ha hb=>by
  rcases kU ha with⟨i,t,rfl,rfl⟩|⟨x,t,rfl,rfl⟩
  ·rcases kU hb with⟨j,u,rfl,e⟩|⟨y,u,rfl,e⟩
   ·injection e with e1 _;rw[e1]
   ·exact nomatch e
  ·rcases kU hb with⟨j,u,rfl,e⟩|⟨y,u,rfl,e⟩
   ·exact nomatch e
   ·injection e with e1 _;rw[e1]
 byValue:=fun k v h=>by
  rcases kU h with⟨i,t,rfl,rfl⟩|⟨x,t,rfl,rfl⟩<;>rfl
 pyHash:=fun hv h=>by
  rcases kU hv with⟨i,t,rfl,rfl⟩|⟨x,t,rfl,rfl⟩
  ·exact wpAny_pyHash_int h
  ·exact wpAny_pyHash_str h
 eqBool:=fun hu hv h=>by
  rcases kU hu with⟨i,t,rfl,rfl⟩|⟨x,t,rfl,rfl⟩
  ·rcases kU hv with⟨j,u,rfl,rfl⟩|⟨y,u,rfl,rfl⟩
   ·rw[b7c]at h;exact wpAny_eqBool_int h
   ·rw[b8m]at h;exact SeqAt.EqAt.int_str i t y u _ _ _ _ h
  ·rcases kU hv with⟨j,u,rfl,rfl⟩|⟨y,u,rfl,rfl⟩
   ·rw[b7e]at h;exact SeqAt.EqAt.str_int x t j u _ _ _ _ h
   ·rw[b6a]at h;exact wpAny_eqBool_str h
 «strs» :=fun k x t v h=>by
  rcases kU h with⟨i,u,rfl,e⟩|⟨y,u,rfl,e⟩
  ·exact nomatch e
  ·injection e with e1 _
   subst e1
   cases v<;>rfl
theorem b8I(prog:Program)(w:World)(i:Int)(t:Tok):(fQ prog w).is (.inl i) (.int i t)=true:=b5R i t
theorem b5F(prog:Program)(w:World)(x:Str)(t:Tok):(fQ prog w).is (.inr x) (.str x t)=true:=b4F x t
inductive V where
 |non|bl(b:Bool)|int(i:Int)|str(x:Str)|byt(b:Array UInt8)|flt(b:UInt64)|ref(a:Addr)|ty(n:String)
 deriving DecidableEq
def bI:V->Value->Prop
 | .non,u=>u=Value.none
 | .bl b,u=>u=Value.bool b
 | .int i,u=>∃t,u=Value.int i t
 | .str x,u=>∃t,u=Value.str x t
 | .byt b,u=>∃t,u=Value.bytes b t
 | .flt b,u=>∃t,u=Value.float b t
 | .ref a,u=>u=Value.ref a
 | .ty n,u=>u=Value.type n
abbrev bH:List V->List Value->Prop:=Paired bI
theorem bH.length{xs:List V}{us:List Value}(r:bH xs us):xs.length=us.length:=Paired.length r
theorem bH.get:∀{xs:List V} {us:List Value} {i:Nat} {x:V},bH xs us->xs[i]?=some x->∃u,us[i]?=some u/\bI x u
 |_,_,_,_,.nil,e=>by simp at e
 |_,_,0,_,.cons r _,e=>by simp at e;subst e;exact⟨_,rfl,r⟩
 |_,_,i+ 1,x,.cons _ t,e=>by
  obtain⟨u,h1,h2⟩:=bH.get (i:=i) (x:=x) t (by simpa using e)
  exact⟨u,by simpa using h1,h2⟩
theorem bH.append:∀{xs ys:List V} {us ws:List Value},bH xs us->bH ys ws->bH (xs++ ys) (us++ ws)
 |_,_,_,_,.nil,s=>s
 |_,_,_,_,.cons r t,s=> .cons r (bH.append t s)
theorem bH.take:∀{xs:List V} {us:List Value} (n:Nat),bH xs us->bH (xs.take n) (us.take n)
 |_,_,0,_=> .nil
 |_,_,_+ 1,.nil=> .nil
 |_,_,n+ 1,.cons r t=> .cons r (bH.take n t)
theorem bH.drop:∀{xs:List V} {us:List Value} (n:Nat),bH xs us->bH (xs.drop n) (us.drop n)
 |_,_,0,r=>r
 |_,_,_+ 1,.nil=> .nil
 |_,_,n+ 1,.cons _ t=>bH.drop n t
def fR:Option V->Option Value->Prop
 |some v,some u=>bI v u
 |none,none=>True
 |_,_=>False
def KV{κ:Type}:List (κ×V)->List (κ×Value)->Prop:=Paired fun(p:κ×V) (q:κ×Value)=>p.1=q.1/\bI p.2 q.2
def kV:aC->V
 | .inl i=> .int i
 | .inr x=> .str x
inductive HO where
 |lst(xs:List V)
 |tup(xs:List V)
 |dK(kvs:List (aC×V))|dT(kvs:List (List aC×V))
 |set(S:Int->Bool)(n:Nat)
 |ins(C dx:Addr)(fs:List (Str×V))
 |own(x:Addr)
 |xd(fs:List (Str×V))
 |met(f x:Addr)
 |rng(lo hi:Int)
 |frz(o:Obj)(u:HO)
 |tbl(ps:Array Value)
 |ext(φ:Heap->Prop)
abbrev Hp:=Addr->Option HO
def upd(H:Hp)(a:Addr)(o:HO):Hp:=fun b=>if b=a then some o else H b
theorem aK{H:Hp}{a:Addr}{o:HO}:upd H a o a=some o:=by unfold upd;rw[if_pos rfl]
theorem aH{H:Hp}{a b:Addr}{o:HO}(h:b≠a):upd H a o b=H b:=by unfold upd;rw[if_neg h]
theorem jX{H:Hp}{a b:Addr}{o u:HO}(h:H a=some o)(h':H b=some u)(d:o≠u):a≠b:=by
 intro e;subst e;rw[h]at h';exact d (Option.some.inj h')
theorem bD{H:Hp}{a b:Addr}{o:HO}(h:H a=some o)(h':H b=none):a≠b:=by
 intro e;subst e;rw[h]at h';cases h'
section
variable(P:Program)(w:World)
def cV(H:Hp)(h:Heap)(a:Addr):HO->Prop
 | .lst xs=>xs.length<=sizeLine/\∃(its:List Value) (n:Nat),bH xs its/\h.get? a=some {cls:=.type "list",data:=.seq its.toArray n}
 | .tup xs=>xs.length<=sizeLine/\∃its:List Value,bH xs its/\IsTup h a its.toArray
 | .dK kvs=>kvs.length<=sizeLine/\(a==sysModules)=false/\∃vs,KV kvs vs/\h.DictOf (fQ P w) a vs
 | .dT kvs=>kvs.length<=sizeLine/\(a==sysModules)=false/\∃xs:List (List aC×Addr×Value),
  Paired (fun(p:List aC×V) (q:List aC×Addr×Value)=>p.1=q.1/\H q.2.1=some (.tup (p.1.map kV))/\bI p.2 q.2.2) kvs xs/\
  ∃o es ep,h.get? a=some o/\o.ExactDict/\o.data= .dict es ep/\es.toList=xs.map (entryOfKey (tupleKind (fQ P w)))/\(xs.map (·.1)).Nodup
 | .set S n=>h.SetOf (intKind P w) a S n
 | .ins C dx fs=>H dx=some (.own a)/\fs.length<=1000/\dx≠a/\h.get? a=some (PySem.W.instObj C dx)/\
  ∃mA,h.Ns1 dx mA/\(∀f,fR (fs.lookup f) (mA f))/\PySem.Within mA (fs.map (·.1))
 | .own _=>∃o,h.get? a=some o
 | .xd fs=>∃mA,h.Ns1 a mA/\∀f,fR (fs.lookup f) (mA f)
 | .rng lo hi=>∃t u v,h.get? a=some {cls:=.type "range",data:=.fields #[.int lo t,.int hi u,.int 1 v]}
 | .frz o u=>h.get? a=some o/\cV H h a u
 | .tbl ps=>h.get? a=some {cls:=.none,data:=.fields ps}
 | .met f x=>h.get? a=some (PySem.W.methodObj (.ref f) (.ref x))
 | .ext φ=>φ h/\(∃o,h.get? a=some o)/\∀h1 h2:Heap,φ h1->(∀o,h1.get? a=some o->h2.get? a=some o)->φ h2
def cA(H:Hp)(h:Heap):Prop:=∀a o,H a=some o->cV P w H h a o
end
section
variable{P:Program}{w:World}{H H':Hp}{h h':Heap}{a:Addr}{o:HO}
theorem cV.lt(x:cV P w H h a o):a<h.objs.size:=by
 cases o with
 |lst xs=>obtain⟨_,_,_,_,e⟩:=x;exact Heap.lt_size e
 |tup xs=>obtain⟨_,_,_,p⟩:=x;exact p.lt
 |dK kvs=>obtain⟨_,_,_,_,o,_,_,e,_⟩:=x;exact Heap.lt_size e
 |dT kvs=>obtain⟨_,_,_,_,o,_,_,e,_⟩:=x;exact Heap.lt_size e
 |set S n=>obtain⟨o,_,_,_,e,_⟩:=x;exact Heap.lt_size e
 |ins C dx fs=>obtain⟨_,_,_,e,_⟩:=x;exact Heap.lt_size e
 |own y=>obtain⟨_,e⟩:=x;exact Heap.lt_size e
 |xd fs=>obtain⟨_,⟨_,_,_,e,_⟩,_⟩:=x;exact Heap.lt_size e
 |rng lo hi=>obtain⟨_,_,_,e⟩:=x;exact Heap.lt_size e
 |frz ob u=>obtain⟨e,_⟩:=x;exact Heap.lt_size e
 |tbl ps=>exact Heap.lt_size (show h.get? a=some _ from x)
 |met f y=>exact Heap.lt_size (show h.get? a=some _ from x)
 |ext φ=>obtain⟨_,⟨_,e⟩,_⟩:=x;exact Heap.lt_size e
theorem Paired.mapP{α β:Type}{F G:α->β->Prop}:∀{l₁:List α} {l₂:List β},Paired F l₁ l₂->(∀a b,F a b->G a b)->Paired G l₁ l₂
 |_,_,.nil,_=> .nil
 |_,_,.cons r t,f=> .cons (f _ _ r) (Paired.mapP t f)
theorem cV.stay(x:cV P w H h a o)(k:∀b u,(b=a\/ H b=some (.own a))->h.get? b=some u->h'.get? b=some u)
 (ho:∀b,H b=some (.own a)->H' b=some (.own a))(ht:∀b xs,H b=some (.tup xs)->H' b=some (.tup xs)):cV P w H' h' a o:=by
 induction o with
 |lst xs=>obtain⟨z,its,n,r,e⟩:=x;exact⟨z,its,n,r,k _ _ (.inl rfl) e⟩
 |tup xs=>obtain⟨z,its,r,ob,e,c⟩:=x;exact⟨z,its,r,ob,k _ _ (.inl rfl) e,c⟩
 |dK kvs=>obtain⟨z,y,vs,r,ob,es,ep,e,c⟩:=x;exact⟨z,y,vs,r,ob,es,ep,k _ _ (.inl rfl) e,c⟩
 |dT kvs=>
  obtain⟨z,y,xs,r,ob,es,ep,e,c⟩:=x
  exact⟨z,y,xs,Paired.mapP r fun p q z=>⟨z.1,ht _ _ z.2.1,z.2.2⟩,ob,es,ep,k _ _ (.inl rfl) e,c⟩
 |set S n=>obtain⟨ob,es,ep,t,e,c⟩:=x;exact⟨ob,es,ep,t,k _ _ (.inl rfl) e,c⟩
 |ins C dx fs=>
  obtain⟨d,z,ne,e,mA,⟨od,es,ep,e2,c⟩,r⟩:=x
  exact⟨ho _ d,z,ne,k _ _ (.inl rfl) e,mA,⟨od,es,ep,k _ _ (.inr d) e2,c⟩,r⟩
 |own y=>obtain⟨ob,e⟩:=x;exact⟨ob,k _ _ (.inl rfl) e⟩
 |xd fs=>obtain⟨mA,⟨od,es,ep,e,c⟩,r⟩:=x;exact⟨mA,⟨od,es,ep,k _ _ (.inl rfl) e,c⟩,r⟩
 |rng lo hi=>obtain⟨t,u,v,e⟩:=x;exact⟨t,u,v,k _ _ (.inl rfl) e⟩
 |frz ob u ih=>obtain⟨e,q⟩:=x;exact⟨k _ _ (.inl rfl) e,ih q⟩
 |tbl ps=>
  have e:h.get? a=some {cls:=.none,data:=.fields ps}:=x
  show h'.get? a=some {cls:=.none,data:=.fields ps}
  exact k a _ (.inl rfl) e
 |met f y=>
  have e:h.get? a=some (PySem.W.methodObj (.ref f) (.ref y)):=x
  show h'.get? a=some (PySem.W.methodObj (.ref f) (.ref y))
  exact k a _ (.inl rfl) e
 |ext φ=>obtain⟨p,⟨o,e⟩,st⟩:=x;exact⟨st _ _ p fun o q=>k _ _ (.inl rfl) q,⟨o,k _ _ (.inl rfl) e⟩,st⟩
theorem cA.lt(x:cA P w H h)(e:H a=some o):a<h.objs.size:=(x a o e).lt
theorem cA.fresh(x:cA P w H h)(e:h.objs.size<=a):H a=none:=by
 cases q:H a with
 |none=>rfl
 |some u=>exact absurd (Nat.lt_of_lt_of_le (x.lt q) e) (Nat.lt_irrefl _)
theorem cA.kept(x:cA P w H h)(k:∀b u,h.get? b=some u->h'.get? b=some u):cA P w H h':=fun a o e=>
 (x a o e).stay (fun b u _ q=>k b u q) (fun _ q=>q) fun _ _ q=>q
theorem cA.laid(x:cA P w H h)(k:∀b u,h.get? b=some u->h'.get? b=some u)(hp:h.objs.size<=a)(new:cV P w (upd H a o) h' a o):cA P w (upd H a o) h':=fun b u e=>by
 have hn:=x.fresh hp
 by_cases hb:b=a
 ·subst hb;rw[aK]at e;cases e;exact new
 ·rw[aH hb]at e
  exact(x b u e).stay (fun c v _ q=>k c v q) (fun c q=>by rw[aH (bD q hn)];exact q) fun c xs q=>by rw[aH (bD q hn)];exact q
end
def Rd(H:Hp)(a:Addr)(u:HO):Prop:=H a=some u\/ ∃o,H a=some (.frz o u)
theorem Rd.ok{P:Program}{w:World}{H:Hp}{h:Heap}{a:Addr}{u:HO}(r:Rd H a u)(x:cA P w H h):cV P w H h a u:=by
 rcases r with r|⟨o,r⟩
 ·exact x a u r
 ·obtain⟨_,q⟩:=x a _ r
  exact q
def vC:Option HO->Prop
 |some (.lst _)=>True
 |some (.dK _)=>True
 |some (.dT _)=>True
 |some (.set _ _)=>True
 |some (.ins _ _ _)=>True
 |some (.ext _)=>True
 |_=>False
section
variable{P:Program}{w:World}{H:Hp}{h h':Heap}{x e:Addr}{o':HO}
theorem cA.write(ok:cA P w H h)(mu:vC (H x))(he:e=x\/ H e=some (.own x))(k:∀b u,b≠e->h.get? b=some u->h'.get? b=some u)(heo:∃u,h'.get? e=some u)
 (new:cV P w (upd H x o') h' x o'):cA P w (upd H x o') h':=fun b u q=>by
 have nown:∀c y,H c=some (.own y)->c≠x:=fun c y r z=>by subst z;rw[r]at mu;exact mu
 have ntup:∀c xs,H c=some (.tup xs)->c≠x:=fun c xs r z=>by subst z;rw[r]at mu;exact mu
 by_cases hb:b=x
 ·subst hb;rw[aK]at q;cases q;exact new
 ·rw[aH hb]at q
  by_cases hbe:b=e
  ·have q':H b=some (.own x):=by
    rcases he with z|z
    ·exact absurd (hbe.trans z) hb
    ·rw[hbe];exact z
   rw[q]at q';cases q'
   obtain⟨v,hv⟩:=heo
   exact⟨v,by rw[hbe];exact hv⟩
  ·refine(ok b u q).stay (fun c v hc r=>k c v ?_ r) (fun c r=>by rw[aH (nown c b r)];exact r) fun c xs r=>by rw[aH (ntup c xs r)];exact r
   rcases hc with rfl|hc
   ·exact hbe
   ·rintro rfl
    rcases he with z|z
    ·exact nown c b hc z
    ·rw[hc]at z;cases z;exact hb rfl
end
structure Un(fs ex:List Addr)(H H':Hp)(h h':Heap):Prop where
 keep:∀b o,h.get? b=some o->H b=none->b∉fs->b∉ex->h'.get? b=some o
 slot:∀b o,h.get? b=some o->H b=none->b∈fs->b∉ex->∃sl,h'.get? b=some {o with slots:=sl}
 free:∀b o,h.get? b=some o->H b=none->b∉ex->H' b=none
 there:∀b o,h.get? b=some o->b∉ex->∃o',h'.get? b=some o'
 tups:∀b xs,H b=some (.tup xs)->H' b=some (.tup xs)
 frzs:∀b o u,H b=some (.frz o u)->H' b=some (.frz o u)
 tbls:∀b ps,H b=some (.tbl ps)->∃more,H' b=some (.tbl (ps++ more))
section
variable{fs fs' ex ex':List Addr}{H H1 H2:Hp}{h h1 h2 h':Heap}{a x e:Addr}{o:HO}
theorem Un.any(u:Un fs ex H H1 h h1){b:Addr}{ob:Obj}(q:h.get? b=some ob)(n:H b=none)(hx:b∉ex):∃sl,h1.get? b=some {ob with slots:=sl}:=by
 by_cases hb:b∈fs
 ·exact u.slot b ob q n hb hx
 ·exact⟨ob.slots,u.keep b ob q n hb hx⟩
theorem Un.kept(k:∀b u,h.get? b=some u->h'.get? b=some u):Un fs ex H H h h':=
 ⟨fun b ob q _ _ _=>k b ob q,fun b ob q _ _ _=>⟨ob.slots,k b ob q⟩,fun _ _ _ n _=>n,fun b ob q _=>⟨ob,k b ob q⟩,fun _ _ q=>q,fun _ _ _ q=>q,fun _ ps q=>⟨#[],by rw[q];simp⟩⟩
theorem Un.refl:Un fs ex H H h h:=Un.kept fun _ _ q=>q
theorem Un.laid(k:∀b u,h.get? b=some u->h'.get? b=some u)(hp:h.objs.size<=a)(hn:H a=none):Un fs ex H (upd H a o) h h' where
 keep:=fun b u q _ _ _=>k b u q
 slot:=fun b u q _ _ _=>⟨u.slots,k b u q⟩
 free:=fun b u q n _=>by rw[aH (Nat.ne_of_lt (Nat.lt_of_lt_of_le (Heap.lt_size q) hp))];exact n
 there:=fun b u q _=>⟨u,k b u q⟩
 tups:=fun b xs q=>by rw[aH (bD q hn)];exact q
 frzs:=fun b u xs q=>by rw[aH (bD q hn)];exact q
 tbls:=fun b ps q=>⟨#[],by rw[aH (bD q hn),q];simp⟩
theorem Un.write(mu:vC (H x))(he:e=x\/ H e=some (.own x))(k:∀b u,b≠e->h.get? b=some u->h'.get? b=some u)(heo:∃u,h'.get? e=some u):Un fs ex H (upd H x o) h h':=by
 have hx:∀b,H b=none->b≠x:=fun b n z=>by subst z;rw[n]at mu;exact mu
 have hb:∀b,H b=none->b≠e:=fun b n z=>by
  subst z
  rcases he with r|r
  ·exact hx b n r
  ·rw[n]at r;cases r
 have hm:∀b u,H b=some u->¬vC (some u)->b≠x:=fun b u q nm z=>by subst z;rw[q]at mu;exact nm mu
 refine⟨fun b u q n _ _=>k b u (hb b n) q,fun b u q n _ _=>⟨u.slots,k b u (hb b n) q⟩,fun b u q n _=>by rw[aH (hx b n)];exact n,fun b u q _=> ?_,
  fun b xs q=>by rw[aH (hm b _ q fun z=>z)];exact q,fun b u xs q=>by rw[aH (hm b _ q fun z=>z)];exact q,fun b ps q=>⟨#[],by rw[aH (hm b _ q fun z=>z),q];simp⟩⟩
 by_cases hbe:b=e
 ·subst hbe;exact heo
 ·exact⟨u,k b u hbe q⟩
end
noncomputable def trk (h:Heap) (H:Hp):List Addr:=(List.range h.objs.size).filter fun a=>(H a).isSome
noncomputable def kQ (h:Heap) (H:Hp):Heap:=PySem.W.hideAll h (trk h H)
theorem b7x(h:Heap)(H:Hp):(kQ h H).objs.size=h.objs.size:=PySem.W.hideAll_size _ _
theorem c0g{h:Heap}{H:Hp}{b:Addr}{o:Obj}(e:h.get? b=some o)(n:H b=none):(kQ h H).get? b=some o:=
 PySem.W.hideAll_get _ e fun hm=>by
  have q:(H b).isSome=true:=(List.mem_filter.mp hm).2
  rw[n]at q;simp at q
theorem b6u{h:Heap}{H:Hp}{b:Addr}{o:Obj}(e:(kQ h H).get? b=some o):h.get? b=some o/\H b=none:=by
 have e':h.get? b=some o:=PySem.W.of_hideAll (trk h H) e
 refine⟨e',?_⟩
 cases q:H b with
 |none=>rfl
 |some x=>
  have hm:b∈trk h H:=List.mem_filter.mpr ⟨List.mem_range.mpr (Heap.lt_size e'),by simp[q]⟩
  have z:(kQ h H).get? b=none:=PySem.W.hideAll_none (trk h H) hm
  rw[z]at e;cases e
noncomputable def b9j (g h:Heap) (L:Addr):List (Addr×Obj):=(List.range h.objs.size).filterMap fun a=>if a=L\/ (g.get? a).isSome=true then none else(h.get? a).map fun o=>(a,o)
noncomputable def eJ (g h:Heap) (L d:Addr):List (Addr×Obj):=(b9j g h L).filter fun p=>decide (p.1≠d)
structure Mod(K:Fg)(mg:Str->Option Value)(base:Heap):Prop where
 kin:K.In base
 glob:base.Ns mainGlobals mg
 blt:∃mb,base.Ns builtinsNs mb/\∀x:Str,x≠ "__name__" ->mb x=bootBuiltins x
 nolimit:base.NoLimit
structure Cx where
 prog:Program
 w:World
 K:Fg
 mg:Str->Option Value
 base:Heap
 A:Around
 N:List Str
 s₀:Shared
 H₀:Hp
 env:Env
 outer:List Env
 stack:List Env
 ex:List Addr
 fn:Str->Bool
 calm:Bool
 pn:List (Addr×Obj)
 xe:Value->Shared->Prop
def gG(l:List Env):List Addr:=l.filterMap (·.frame)
abbrev Cx.fs(X:Cx):List Addr:=gG X.outer
def Vis(sc:Scope)(x:Str):Prop:=sc.names.lookup x=some .local\/ sc.names.lookup x=some .cell\/ sc.names.lookup x=some .free
def yY(sc:Scope)(x:Str):Prop:=sc.names.lookup x=some .local\/ sc.names.lookup x=some .cell
def Look(env:Env)(h:Heap)(m:Str->Option Value)(x:Str)(u:Value):Prop:=
 (env.kindOf x=some .local/\m x=some u)\/ ((env.kindOf x=some .cell\/ env.kindOf x=some .free)/\∃c,env.cells.lookup x=some c/\h.IsCell c (some u))
structure Cx.Ok(X:Cx):Prop where
 mod:Mod X.K X.mg X.base
 kind:X.env.scope.kind= .function
 glob:X.env.globals=mainGlobals
 blt:X.env.builtins=builtinsNs
 above:X.s₀.heap.objs.size<=X.env.locals
 inj:∀x y c,X.env.cells.lookup x=some c->X.env.cells.lookup y=some c->x=y
 has:∀x,(X.env.kindOf x=some .cell\/ X.env.kindOf x=some .free)->∃c,X.env.cells.lookup x=some c
 cab:∀x c,X.fn x=true->X.env.cells.lookup x=some c->X.s₀.heap.objs.size<=c
 hd:X.calm=true->X.A.handled=none
 frames:X.A.frames=some X.stack
 stk:X.stack=X.outer\/ (X.stack=X.env::X.outer/\X.env.frame=some X.env.locals)
 exf:∀b∈X.ex,b≠X.env.locals/\∀x c,X.env.cells.lookup x=some c->c≠b
 bs:∀b o,X.base.get? b=some o->X.s₀.heap.get? b=some o/\X.H₀ b=none
 bsz:X.base.objs.size<=X.s₀.heap.objs.size
 noex:∀b o,X.base.get? b=some o->b∉X.ex
 exfs:∀b∈X.ex,b∉X.fs
 funs:X.s₀.heap.FunFrames X.base X.outer
 frf:∀b∈X.fs,X.H₀ b=none
structure Inv(X:Cx)(pins:List (Addr×Obj))(σ:List (Option V))(H:Hp)(s:Shared):Prop where
 ok:X.Ok
 os:s.os=X.s₀.os
 bare:AllBare s.gens
 base:Un X.fs X.ex X.H₀ H X.s₀.heap s.heap
 loc:∃m,s.heap.Ns X.env.locals m/\∀(i:Nat) (x:Str) (v:V),X.N[i]?=some x->σ[i]?=some (some v)->Vis X.env.scope x->∃u,bI v u/\Look X.env s.heap m x u
 cell:∀x c,X.env.cells.lookup x=some c->∃v,s.heap.IsCell c v
 free:H X.env.locals=none
 freeC:∀x c,X.env.cells.lookup x=some c->H c=none
 pin:∀p∈X.pn++ pins,s.heap.get? p.1=some p.2/\H p.1=none/\p.1≠X.env.locals/\p.1∉X.fs/\∀v,p.2.data≠ .cell v
 hok:cA X.prog X.w H s.heap
 len:σ.length=X.N.length
section
variable{X:Cx}{pins:List (Addr×Obj)}{σ:List (Option V)}{H H':Hp}{s:Shared}{h':Heap}
theorem Cx.Ok.nofr(ok:X.Ok){b:Addr}{o:Obj}(e:X.base.get? b=some o):b∉X.fs:=fun hb=>by
 have:=(ok.funs.mem hb).1
 rw[e]at this;cases this
theorem Inv.bs(I:Inv X pins σ H s):∀b o,X.base.get? b=some o->s.heap.get? b=some o/\H b=none:=fun b o e=>
 ⟨I.base.keep b o (I.ok.bs b o e).1 (I.ok.bs b o e).2 (I.ok.nofr e) (I.ok.noex b o e),I.base.free b o (I.ok.bs b o e).1 (I.ok.bs b o e).2 (I.ok.noex b o e)⟩
theorem Inv.bk(I:Inv X pins σ H s):∀b o,X.base.get? b=some o->s.heap.get? b=some o:=fun b o e=>(I.bs b o e).1
theorem Inv.mod(I:Inv X pins σ H s):Mod X.K X.mg X.base:=I.ok.mod
theorem Inv.kIn(I:Inv X pins σ H s):X.K.In s.heap:=I.ok.mod.kin.keeps I.bk
theorem Inv.lt(I:Inv X pins σ H s):X.env.locals<s.heap.objs.size:=let ⟨_,hn,_⟩:=I.loc;hn.lt
theorem Inv.sz(I:Inv X pins σ H s):X.s₀.heap.objs.size<=s.heap.objs.size:=Nat.le_trans I.ok.above (Nat.le_of_lt I.lt)
theorem Inv.nofs(I:Inv X pins σ H s){a:Addr}(h:s.heap.objs.size<=a):a∉X.fs:=fun hb=>by
 obtain⟨_,o,ho,_⟩:=I.ok.funs.mem hb
 exact absurd (Nat.lt_of_lt_of_le (Heap.lt_size ho) (Nat.le_trans I.sz h)) (Nat.lt_irrefl _)
theorem Inv.cne(I:Inv X pins σ H s):∀x c,X.env.cells.lookup x=some c->c≠X.env.locals:=fun x c e z=>by
 obtain⟨v,o,ho,hd⟩:=I.cell x c e
 obtain⟨m,⟨o',es,ep,ho',hd',_⟩,_⟩:=I.loc
 rw[z,ho']at ho;cases ho;rw[hd']at hd;cases hd
theorem Inv.funs(I:Inv X pins σ H s):s.heap.FunFrames X.base X.outer:=by
 have all:∀(l:List Env),(∀b∈gG l,b∈X.fs)->X.s₀.heap.FunFrames X.base l->s.heap.FunFrames X.base l:=by
  intro l
  induction l with
  |nil=>intro _ _;trivial
  |cons env r ih=>
   intro hs hl
   obtain⟨hk,⟨L,o,hf,hn,ho,hd⟩,hr⟩:=hl
   have hL:L∈X.fs:=hs L (by unfold gG;rw[List.filterMap_cons,hf];exact List.mem_cons_self)
   obtain⟨sl,e⟩:=I.base.slot L o ho (I.ok.frf L hL) hL fun z=>I.ok.exfs L z hL
   exact⟨hk,⟨L,_,hf,hn,e,hd⟩,ih (fun b hb=>hs b (by unfold gG;rw[List.filterMap_cons,hf];exact List.mem_cons_of_mem _ hb)) hr⟩
 exact all X.outer (fun _ hb=>hb) I.ok.funs
theorem Inv.stack(I:Inv X pins σ H s):s.heap.FunFrames X.base X.stack:=by
 rcases I.ok.stk with e|⟨e,hf⟩
 ·rw[e];exact I.funs
 ·rw[e]
  obtain⟨m,hn,_⟩:=I.loc
  refine .cons (by rw[I.ok.kind];decide) hf hn ?_ I.funs
  exact Heap.get?_none_of_le (Nat.le_trans I.ok.bsz I.ok.above)
theorem Inv.stkSub(I:Inv X pins σ H s):∀b∈gG X.stack,b∈X.env.locals::X.fs:=fun b hb=>by
 rcases I.ok.stk with e|⟨e,hf⟩
 ·rw[e]at hb;exact List.mem_cons_of_mem _ hb
 ·rw[e]at hb
  unfold gG at hb
  rw[List.filterMap_cons,hf]at hb
  exact hb
theorem Inv.stkFree(I:Inv X pins σ H s):∀b∈gG X.stack,H b=none:=fun b hb=>by
 rcases List.mem_cons.mp (I.stkSub b hb)with e|hb
 ·rw[e];exact I.free
 ·obtain⟨_,o,ho,_⟩:=I.ok.funs.mem hb
  exact I.base.free b o ho (I.ok.frf b hb) fun z=>I.ok.exfs b z hb
theorem Inv.step{g':Array GenState}{t':Nat}{d':Drawn}{ch:List Addr}(I:Inv X pins σ H s)
 (hch:∀b∈ch,(b∈X.ex\/ X.s₀.heap.objs.size<=b)/\b≠X.env.locals/\(∀x c,X.env.cells.lookup x=some c->c≠b)/\∀p∈X.pn++ pins,p.1≠b)
 (keep:∀b o,b≠X.env.locals->b∉X.fs->b∉ch->s.heap.get? b=some o->H b=none->h'.get? b=some o)
 (slot:∀b o,b≠X.env.locals->b∈X.fs->b∉ch->s.heap.get? b=some o->H b=none->∃sl,h'.get? b=some {o with slots:=sl})(free:∀b o,b∉ch->s.heap.get? b=some o->H b=none->H' b=none)
 (there:∀b o,b∉ch->s.heap.get? b=some o->∃o',h'.get? b=some o')
 (tups:∀b xs,H b=some (.tup xs)->H' b=some (.tup xs))(frzs:∀b o u,H b=some (.frz o u)->H' b=some (.frz o u))(tbls:∀b ps,H b=some (.tbl ps)->∃more,H' b=some (.tbl (ps++ more)))
 (ns:∀m,s.heap.Ns X.env.locals m->h'.Ns X.env.locals m)(hok:cA X.prog X.w H' h')(hg:AllBare g'):
 Inv X pins σ H' {s with heap:=h',gens:=g',drawn:=d',toks:=t'}:=by
 have neL:∀b o,X.s₀.heap.get? b=some o->b≠X.env.locals:=fun b o e=>Nat.ne_of_lt (Nat.lt_of_lt_of_le (Heap.lt_size e) I.ok.above)
 have neC:∀b o,X.s₀.heap.get? b=some o->b∉X.ex->b∉ch:=fun b o e hx hb=>by
  rcases(hch b hb).1 with z|z
  ·exact hx z
  ·exact absurd (Nat.lt_of_lt_of_le (Heap.lt_size e) z) (Nat.lt_irrefl _)
 have aU:∀x c,X.env.cells.lookup x=some c->∀v,s.heap.IsCell c v->h'.IsCell c v:=fun x c e v ⟨o,ho,hd⟩=>by
  have nch:c∉ch:=fun z=>(hch c z).2.2.1 x c e rfl
  by_cases hc:c∈X.fs
  ·obtain⟨sl,q⟩:=slot c o (I.cne x c e) hc nch ho (I.freeC x c e)
   exact⟨_,q,hd⟩
  ·exact⟨o,keep c o (I.cne x c e) hc nch ho (I.freeC x c e),hd⟩
 refine⟨I.ok,I.os,hg,⟨fun b o e n hb hx=> ?_,fun b o e n hb hx=> ?_,fun b o e n hx=> ?_,fun b o e hx=> ?_,fun b xs e=>tups b xs (I.base.tups b xs e),fun b o xs e=>frzs b o xs (I.base.frzs b o xs e),fun b ps e=> ?_⟩,?_,fun x c e=> ?_,?_,fun x c e=> ?_,fun p hp=> ?_,hok,I.len⟩
 ·exact keep b o (neL b o e) hb (neC b o e hx) (I.base.keep b o e n hb hx) (I.base.free b o e n hx)
 ·obtain⟨sl,e1⟩:=I.base.slot b o e n hb hx
  obtain⟨sl',e2⟩:=slot b _ (neL b o e) hb (neC b o e hx) e1 (I.base.free b o e n hx)
  exact⟨sl',e2⟩
 ·obtain⟨o',e1⟩:=I.base.there b o e hx
  exact free b o' (neC b o e hx) e1 (I.base.free b o e n hx)
 ·obtain⟨o',e1⟩:=I.base.there b o e hx
  exact there b o' (neC b o e hx) e1
 ·obtain⟨m1,e1⟩:=I.base.tbls b ps e
  obtain⟨m2,e2⟩:=tbls b _ e1
  exact⟨m1++ m2,by rw[e2,Array.append_assoc]⟩
 ·obtain⟨m,hn,hl⟩:=I.loc
  refine⟨m,ns m hn,fun i x v e1 e2 e3=> ?_⟩
  obtain⟨u,r,l⟩:=hl i x v e1 e2 e3
  refine⟨u,r,?_⟩
  rcases l with l|⟨k,c,e,z⟩
  ·exact .inl l
  ·exact .inr ⟨k,c,e,aU x c e _ z⟩
 ·obtain⟨v,z⟩:=I.cell x c e
  exact⟨v,aU x c e v z⟩
 ·obtain⟨m,⟨o,_,_,ho,_⟩,_⟩:=I.loc
  exact free _ o (fun z=>(hch _ z).2.1 rfl) ho I.free
 ·obtain⟨v,o,ho,hd⟩:=I.cell x c e
  exact free c o (fun z=>(hch c z).2.2.1 x c e rfl) ho (I.freeC x c e)
 ·obtain⟨e,n,ne,nf,d⟩:=I.pin p hp
  have nch:p.1∉ch:=fun z=>(hch p.1 z).2.2.2 p hp rfl
  exact⟨keep p.1 p.2 ne nf nch e n,free p.1 p.2 nch e n,ne,nf,d⟩
theorem Inv.un{t':Nat}(I:Inv X pins σ H s)(u:Un X.fs [] H H' s.heap h')(hok:cA X.prog X.w H' h'):Inv X pins σ H' {s with heap:=h',toks:=t'}:=by
 obtain⟨m,⟨o,es,ep,ho,r⟩,_⟩:=id I.loc
 obtain⟨sl,hL⟩:=u.any ho I.free (by simp)
 exact I.step (g':=s.gens) (d':=s.drawn) (ch:=[]) (fun _ z=>nomatch z) (fun b o _ hb _ e n=>u.keep b o e n hb (by simp)) (fun b o _ hb _ e n=>u.slot b o e n hb (by simp)) (fun b o _ e n=>u.free b o e n (by simp)) (fun b o _ e=>u.there b o e (by simp)) u.tups u.frzs u.tbls (fun m' hm=>by
  obtain⟨o',es',ep',ho',r'⟩:=hm
  rw[ho]at ho';cases ho'
  exact⟨_,es',ep',hL,r'⟩) hok I.bare
theorem Inv.call{g':Array GenState}{t':Nat}{d':Drawn}{ch:List Addr}(I:Inv X pins σ H s)(u:Un (gG X.stack) ch H H' s.heap h')(hok:cA X.prog X.w H' h')(hg:AllBare g')
 (hch:∀b∈ch,(b∈X.ex\/ X.s₀.heap.objs.size<=b)/\b≠X.env.locals/\(∀x c,X.env.cells.lookup x=some c->c≠b)/\∀p∈X.pn++ pins,p.1≠b):
 Inv X pins σ H' {s with heap:=h',gens:=g',drawn:=d',toks:=t'}:=by
 obtain⟨m,⟨o,es,ep,ho,r⟩,_⟩:=id I.loc
 obtain⟨sl,hL⟩:=u.any ho I.free fun z=>(hch _ z).2.1 rfl
 exact I.step (ch:=ch) hch (fun b o hL hb hc e n=>u.keep b o e n (fun z=>(List.mem_cons.mp (I.stkSub b z)).elim hL hb) hc) (fun b o _ _ hc e n=>u.any e n hc) (fun b o hc e n=>u.free b o e n hc) (fun b o hc e=>u.there b o e hc) u.tups u.frzs u.tbls (fun m' hm=>by
  obtain⟨o',es',ep',ho',r'⟩:=hm
  rw[ho]at ho';cases ho'
  exact⟨_,es',ep',hL,r'⟩) hok hg
theorem Inv.turned{t':Nat}{it:Addr}(I:Inv X pins σ H s)(k:∀b o,b≠it->s.heap.get? b=some o->h'.get? b=some o)(hn:H it=none)(hL:it≠X.env.locals)
 (h1:it∈X.ex\/ X.s₀.heap.objs.size<=it)(h2:∀x c,X.env.cells.lookup x=some c->c≠it)(h3:∀p∈X.pn++ pins,p.1≠it):Inv X pins σ H {s with heap:=h',toks:=t'}:=by
 have nit:∀b u,H b=some u->b≠it:=fun b u e z=>by rw[z,hn]at e;cases e
 refine I.step (g':=s.gens) (d':=s.drawn) (ch:=[it]) (fun b hb=> ?_) (fun b o _ _ hc e _=>k b o (fun z=>hc (by simp[z])) e) (fun b o _ _ hc e _=>⟨o.slots,k b o (fun z=>hc (by simp[z])) e⟩) (fun _ _ _ _ n=>n)
  (fun b o hc e=>⟨o,k b o (fun z=>hc (by simp[z])) e⟩) (fun _ _ e=>e) (fun _ _ _ e=>e) (fun b ps e=>⟨#[],by rw[e];simp⟩) (fun m hm=> ?_) (fun b u e=> ?_) I.bare
 ·have e:b=it:=by simpa using hb
  subst e
  exact⟨h1,hL,h2,h3⟩
 ·obtain⟨o,es,ep,ho,r⟩:=hm
  exact⟨o,es,ep,k _ o (Ne.symm hL) ho,r⟩
 ·refine(I.hok b u e).stay (fun c v hc q=>k c v ?_ q) (fun _ q=>q) fun _ _ q=>q
  rcases hc with z|z
  ·rw[z];exact nit b u e
  ·exact nit c _ z
theorem Inv.tok(I:Inv X pins σ H s)(t:Nat):Inv X pins σ H {s with toks:=t}:=I.un (h':=s.heap) (t':=t) Un.refl I.hok
theorem Inv.kept{t':Nat}(I:Inv X pins σ H s)(k:∀b u,s.heap.get? b=some u->h'.get? b=some u):Inv X pins σ H {s with heap:=h',toks:=t'}:=I.un (Un.kept k) (I.hok.kept k)
theorem Inv.laid{a:Addr}{o:HO}{t':Nat}(I:Inv X pins σ H s)(k:∀b u,s.heap.get? b=some u->h'.get? b=some u)(hp:s.heap.objs.size<=a)(new:cV X.prog X.w (upd H a o) h' a o):
 Inv X pins σ (upd H a o) {s with heap:=h',toks:=t'}:=I.un (Un.laid k hp (I.hok.fresh hp)) (I.hok.laid k hp new)
theorem Inv.write{x e:Addr}{o:HO}{t':Nat}(I:Inv X pins σ H s)(mu:vC (H x))(he:e=x\/ H e=some (.own x))(k:∀b u,b≠e->s.heap.get? b=some u->h'.get? b=some u)(heo:∃u,h'.get? e=some u)
 (new:cV X.prog X.w (upd H x o) h' x o):Inv X pins σ (upd H x o) {s with heap:=h',toks:=t'}:=I.un (Un.write mu he k heo) (I.hok.write mu he k heo new)
theorem Inv.pins_of{pins':List (Addr×Obj)}(I:Inv X pins σ H s)(h:∀p∈pins',s.heap.get? p.1=some p.2/\H p.1=none/\p.1≠X.env.locals/\p.1∉X.fs/\∀v,p.2.data≠ .cell v):Inv X pins' σ H s:=
 ⟨I.ok,I.os,I.bare,I.base,I.loc,I.cell,I.free,I.freeC,fun p hp=>(List.mem_append.mp hp).elim (fun z=>I.pin p (List.mem_append_left _ z)) (h p),I.hok,I.len⟩
theorem b37{N:List Str}(hN:N.Nodup){i j:Nat}{x:Str}(a:N[i]?=some x)(b:N[j]?=some x):i=j:=by
 obtain⟨h1,e1⟩:=List.getElem?_eq_some_iff.mp a
 obtain⟨h2,e2⟩:=List.getElem?_eq_some_iff.mp b
 exact(List.getElem_inj hN).mp (e1.trans e2.symm)
theorem b3Q{M:Model}{A:Around}{E:Value->Shared->Prop}{i:Nat}{x:Str}{v:V}{u:Value}{Q:Unit->Shared->Prop}(I:Inv X pins σ H s)(hN:X.N.Nodup)(hi:X.N[i]?=some x)(hx:yY X.env.scope x)(r:bI v u)
 (h:∀s',Inv X pins (σ.set i (some v)) H s'->(∃a,Heap.SameBut a s.heap s'.heap/\(a=X.env.locals\/ X.env.cells.lookup x=some a))->Q () s')(hf:X.fn x=true\/ X.env.scope.names.lookup x=some .local:=by first|exact .inl rfl|exact .inr rfl|assumption):wpAny M A (storeName X.env x u) Q E s:=by
 obtain⟨m,hn,hl⟩:=id I.loc
 have hcls:(X.env.scope.kind== .class||(X.env.scope.kind== .module&&X.env.locals !=X.env.globals))=false:=by rw[I.ok.kind];rfl
 have hiσ:i<σ.length:=by rw[I.len];exact(List.getElem?_eq_some_iff.mp hi).1
 have cne:=I.cne
 have tracked:∀{a:Addr} {h':Heap},(∃o,s.heap.get? a=some o/\H a=none)->Heap.SameBut a s.heap h'->cA X.prog X.w H h':=fun{a h'} ha hs b ob e=>by
  obtain⟨_,_,hfree⟩:=ha
  refine(I.hok b ob e).stay (fun c w' hc q=>(hs.2 c ?_).trans q) (fun _ q=>q) fun _ _ q=>q
  rintro rfl
  rcases hc with rfl|hc
  ·rw[hfree]at e;cases e
  ·rw[hfree]at hc;cases hc
 rcases hx with hk|hk
 ·refine wpAny_storeName_local hk hn (fun h' hn' hs=> ?_) hcls
  obtain⟨oL,_,_,hoL,_⟩:=id hn
  refine h _ ⟨I.ok,I.os,I.bare,⟨fun b o e n hb hx=> ?_,fun b o e n hb hx=> ?_,I.base.free,fun b o e hx=> ?_,I.base.tups,I.base.frzs,I.base.tbls⟩,⟨_,hn',fun j y v' e1 e2 e3=> ?_⟩,fun y c e=> ?_,I.free,I.freeC,fun p hp=> ?_,tracked ⟨oL,hoL,I.free⟩ hs,by simpa using I.len⟩ ⟨_,hs,.inl rfl⟩
  ·exact(hs.2 b (Nat.ne_of_lt (Nat.lt_of_lt_of_le (Heap.lt_size e) I.ok.above))).trans (I.base.keep b o e n hb hx)
  ·obtain⟨sl,e1⟩:=I.base.slot b o e n hb hx
   exact⟨sl,(hs.2 b (Nat.ne_of_lt (Nat.lt_of_lt_of_le (Heap.lt_size e) I.ok.above))).trans e1⟩
  ·obtain⟨o',e1⟩:=I.base.there b o e hx
   exact⟨o',(hs.2 b (Nat.ne_of_lt (Nat.lt_of_lt_of_le (Heap.lt_size e) I.ok.above))).trans e1⟩
  ·by_cases hj:j=i
   ·subst hj
    rw[hi]at e1;cases e1
    rw[List.getElem?_set_self hiσ]at e2
    cases e2
    exact⟨u,r,.inl ⟨hk,by simp⟩⟩
   ·rw[List.getElem?_set_ne (Ne.symm hj)]at e2
    obtain⟨u',r',q⟩:=hl j y v' e1 e2 e3
    refine⟨u',r',?_⟩
    rcases q with⟨k,e⟩|⟨k,c,e,z⟩
    ·refine .inl ⟨k,?_⟩
     have:y≠x:=fun e=>hj (b37 hN e1 (e▸hi))
     simp[this,e]
    ·exact .inr ⟨k,c,e,z.sameBut hs (cne y c e)⟩
  ·obtain⟨w',z⟩:=I.cell y c e
   exact⟨w',z.sameBut hs (cne y c e)⟩
  ·obtain⟨e,n,ne,nf,d⟩:=I.pin p hp
   exact⟨(hs.2 p.1 ne).trans e,n,ne,nf,d⟩
 ·have hfn:X.fn x=true:=by
   rcases hf with z|z
   ·exact z
   ·rw[z]at hk;cases hk
  obtain⟨c,hc⟩:=I.ok.has x (.inl hk)
  obtain⟨w',z⟩:=I.cell x c hc
  refine wpAny_storeName_cell I.ok.kind hk hc z (fun h' hc' hs=> ?_)
  obtain⟨oc,hoc,hocd⟩:=id z
  refine h {s with heap:=h'} ⟨I.ok,I.os,I.bare,⟨fun b o e n hb hx=> ?_,fun b o e n hb hx=> ?_,I.base.free,fun b o e hx=> ?_,I.base.tups,I.base.frzs,I.base.tbls⟩,⟨m,hn.sameBut hs (Ne.symm (cne x c hc)),fun j y v' e1 e2 e3=> ?_⟩,fun y c' e=> ?_,I.free,I.freeC,fun p hp=> ?_,tracked ⟨oc,hoc,I.freeC x c hc⟩ hs,by simpa using I.len⟩ ⟨c,hs,.inr hc⟩
  ·exact(hs.2 b (Nat.ne_of_lt (Nat.lt_of_lt_of_le (Heap.lt_size e) (I.ok.cab x c hfn hc)))).trans (I.base.keep b o e n hb hx)
  ·obtain⟨sl,e1⟩:=I.base.slot b o e n hb hx
   exact⟨sl,(hs.2 b (Nat.ne_of_lt (Nat.lt_of_lt_of_le (Heap.lt_size e) (I.ok.cab x c hfn hc)))).trans e1⟩
  ·obtain⟨o',e1⟩:=I.base.there b o e hx
   exact⟨o',(hs.2 b (Nat.ne_of_lt (Nat.lt_of_lt_of_le (Heap.lt_size e) (I.ok.cab x c hfn hc)))).trans e1⟩
  ·by_cases hj:j=i
   ·subst hj
    rw[hi]at e1;cases e1
    rw[List.getElem?_set_self hiσ]at e2
    cases e2
    exact⟨u,r,.inr ⟨.inl hk,c,hc,hc'⟩⟩
   ·rw[List.getElem?_set_ne (Ne.symm hj)]at e2
    obtain⟨u',r',q⟩:=hl j y v' e1 e2 e3
    refine⟨u',r',?_⟩
    rcases q with q|⟨k,c',e,z'⟩
    ·exact .inl q
    ·refine .inr ⟨k,c',e,z'.sameBut hs ?_⟩
     rintro rfl
     exact hj (b37 hN e1 (I.ok.inj _ _ _ e hc▸hi))
  ·by_cases hcc:c'=c
   ·subst hcc;exact⟨_,hc'⟩
   ·obtain⟨w2,z2⟩:=I.cell y c' e
    exact⟨w2,z2.sameBut hs hcc⟩
  ·obtain⟨e,n,ne,nf,d⟩:=I.pin p hp
   refine⟨(hs.2 p.1 ?_).trans e,n,ne,nf,d⟩
   intro q
   rw[q,hoc]at e
   have q':oc=p.2:=Option.some.inj e
   exact d w' (by rw[<- q'];exact hocd)
theorem b1B{M:Model}{A:Around}{E:Value->Shared->Prop}{i:Nat}{x:Str}{v:V}{u:Value}{Q:Unit->Shared->Prop}(I:Inv X pins σ H s)(hN:X.N.Nodup)(hi:X.N[i]?=some x)(hx:yY X.env.scope x)(r:bI v u)
 (h:∀s',Inv X pins (σ.set i (some v)) H s'->Q () s')(hf:X.fn x=true\/ X.env.scope.names.lookup x=some .local:=by first|exact .inl rfl|exact .inr rfl|assumption):wpAny M A (storeName X.env x u) Q E s:=
 b3Q I hN hi hx r (fun s' I' _=>h s' I') hf
theorem Inv.call'{s':Shared}{ch:List Addr}(I:Inv X pins σ H s)(ho:s'.os=s.os)(u:Un (gG X.stack) ch H H' s.heap s'.heap)(hok:cA X.prog X.w H' s'.heap)(hg:AllBare s'.gens)
 (hch:∀b∈ch,(b∈X.ex\/ X.s₀.heap.objs.size<=b)/\b≠X.env.locals/\(∀x c,X.env.cells.lookup x=some c->c≠b)/\∀p∈X.pn++ pins,p.1≠b):Inv X pins σ H' s':=by
 obtain⟨h',g',d',t',o'⟩:=s'
 have e:o'=s.os:=ho
 subst e
 exact I.call (g':=g') (t':=t') (d':=d') u hok hg hch
end
abbrev XK:=Value->Option Addr->Hp->Prop
abbrev St:=List (Option V)
abbrev VK:=V->Hp->Prop
abbrev TE:=St->Hp->VK->Prop
abbrev TT:=St->Hp->(Bool->Hp->Prop)->Prop
abbrev TA:=St->Hp->(List V->Hp->Prop)->Prop
structure lD where
 nx:St->Hp->Prop
 rt:VK
 bk:St->Hp->Prop:=fun _ _=>False
 ct:St->Hp->Prop:=fun _ _=>False
abbrev TS:=lD->St->Hp->Prop
def EP(X:Cx)(pins:List (Addr×Obj))(σ:St)(Q:VK)(u:Value)(s':Shared):Prop:=∃v H',Inv X pins σ H' s'/\bI v u/\Q v H'
def TP(X:Cx)(pins:List (Addr×Obj))(σ:St)(Q:Bool->Hp->Prop)(b:Bool)(s':Shared):Prop:=∃H',Inv X pins σ H' s'/\Q b H'
def AP(X:Cx)(pins:List (Addr×Obj))(σ:St)(Q:List V->Hp->Prop)(us:List Value)(s':Shared):Prop:=∃vs H',Inv X pins σ H' s'/\bH vs us/\Q vs H'
def SP(X:Cx)(pins:List (Addr×Obj))(D:lD)(f:Flow)(s':Shared):Prop:=
 match f with
 | .next=>∃σ' H',Inv X pins σ' H' s'/\D.nx σ' H'
 | .brk=>∃σ' H',Inv X pins σ' H' s'/\D.bk σ' H'
 | .cont=>∃σ' H',Inv X pins σ' H' s'/\D.ct σ' H'
 | .ret u=>∃v σ' H',Inv X pins σ' H' s'/\bI v u/\D.rt v H'
def PE(X:Cx)(e:Expr)(t:TE):Prop:=
 ∀(pins:List (Addr×Obj)) (s:Shared) (σ:St) (H:Hp) (Q:VK),Inv X pins σ H s->t σ H Q->wpAny (model X.prog X.w) X.A (eval e X.env) (EP X pins σ Q) X.xe s
def PT(X:Cx)(e:Expr)(t:TT):Prop:=
 ∀(pins:List (Addr×Obj)) (s:Shared) (σ:St) (H:Hp) (Q:Bool->Hp->Prop),Inv X pins σ H s->t σ H Q->wpAny (model X.prog X.w) X.A (isTrue e X.env (eval e X.env)) (TP X pins σ Q) X.xe s
def PW(X:Cx)(e:Expr)(t:TT):Prop:=
 ∀(whole:Sem Value) (pins:List (Addr×Obj)) (s:Shared) (σ:St) (H:Hp) (Q:Bool->Hp->Prop),Inv X pins σ H s->t σ H Q->wpAny (model X.prog X.w) X.A (isTrue e X.env whole) (TP X pins σ Q) X.xe s
theorem PW.pt{X:Cx}{e:Expr}{t:TT}(h:PW X e t):PT X e t:=h _
def PA(X:Cx)(es:List Expr)(t:TA):Prop:=
 ∀(pos:Pos) (pins:List (Addr×Obj)) (s:Shared) (σ:St) (H:Hp) (Q:List V->Hp->Prop),Inv X pins σ H s->t σ H Q->wpAny (model X.prog X.w) X.A (spliced (backTo pos (starEach es X.env))) (AP X pins σ Q) X.xe s
def PS(X:Cx)(st:Stmt)(t:TS):Prop:=
 ∀(pins:List (Addr×Obj)) (s:Shared) (σ:St) (H:Hp) (D:lD),Inv X pins σ H s->t D σ H->wpAny (model X.prog X.w) X.A (exec st X.env) (SP X pins D) X.xe s
def eL(X:Cx)(st:List Stmt)(t:TS):Prop:=
 ∀(pins:List (Addr×Obj)) (s:Shared) (σ:St) (H:Hp) (D:lD),Inv X pins σ H s->t D σ H->wpAny (model X.prog X.w) X.A (execs st X.env) (SP X pins D) X.xe s
theorem aR{α:Type}{t:Sem α}{Q Q':α->Shared->Prop}{M:Model}{A:Around}{E:Value->Shared->Prop}{s:Shared}(h:wpAny M A t Q E s)(hQ:∀a s,Q a s->Q' a s):wpAny M A t Q' E s:=wpAny_mono h hQ fun _ _ x=>x
section
variable{X:Cx}
theorem bin{a b:Expr}{ta tb:TE}(ha:PE X a ta)(hb:PE X b tb){pins:List (Addr×Obj)}{s:Shared}{σ:St}{H:Hp}{R:V->V->Hp->Prop}(I:Inv X pins σ H s)(h:ta σ H fun x H1=>tb σ H1 fun y H2=>R x y H2)
 {α:Type}{Q:α->Shared->Prop}{f:Value->Value->Sem α}
 (hf:∀v u s2 x y H2,Inv X pins σ H2 s2->bI x v->bI y u->R x y H2->wpAny (model X.prog X.w) X.A (f v u) Q X.xe s2):
 wpAny (model X.prog X.w) X.A (eval a X.env) (fun v s₁=>wpAny (model X.prog X.w) X.A (eval b X.env) (fun u s₂=>wpAny (model X.prog X.w) X.A (f v u) Q X.xe s₂) X.xe s₁) X.xe s:=by
 refine aR (ha pins s σ H _ I h) fun v s1 ⟨x,H1,I1,r1,q1⟩=> ?_
 refine aR (hb pins s1 σ H1 _ I1 q1) fun u s2 ⟨y,H2,I2,r2,q2⟩=> ?_
 exact hf v u s2 x y H2 I2 r1 r2 q2
def jU(i:Nat):TE:=fun σ H Q=>∃v,σ[i]?=some (some v)/\Q v H
def tC(v:V):TE:=fun _ H Q=>Q v H
theorem b1Y{i:Nat}{x:Str}{pos:Pos}(hN:X.N[i]?=some x)(hv:Vis X.env.scope x)(hd:(x==("__debug__":Str))=false:=by decide)(hcd:(x==("__classdict__":Str))=false:=by decide):PE X (.Name x pos) (jU i):=by
 intro pins s σ H Q I h
 obtain⟨v,e,h⟩:=h
 obtain⟨m,hn,hl⟩:=I.loc
 obtain⟨u,r,l⟩:=hl i x v hN e hv
 have fin:EP X pins σ Q u s:=⟨v,H,I,r,h⟩
 rcases l with⟨hk,hm⟩|⟨hk,c,hc,hcell⟩
 ·exact wpAny_Name (wpAny_loadName_local I.ok.kind hk hn hm fin) hd
 ·rcases hk with hk|hk
  ·exact wpAny_Name (wpAny_loadName_cell I.ok.kind hk hc hcell fin) hd
  ·exact wpAny_Name (wpAny_loadName_free I.ok.kind hk hc hcell fin hcd) hd
theorem aW{i j pos}:PE X (.Constant (.int i) j pos) (tC (.int i)):=fun _ _ _ H _ I h=>wpAny_Constant_int ⟨.int i,H,I.tok _,⟨_,rfl⟩,h⟩
theorem iD{b j pos}:PE X (.Constant (.bool b) j pos) (tC (.bl b)):=fun _ _ _ H _ I h=>Constant_bool ⟨.bl b,H,I,rfl,h⟩
theorem iG{j pos}:PE X (.Constant .none j pos) (tC .non):=fun _ _ _ H _ I h=>Constant_none ⟨.non,H,I,rfl,h⟩
theorem hU{x j pos}:PE X (.Constant (.str x) j pos) (tC (.str x)):=fun _ _ _ H _ I h=>Calls.Constant_str ⟨.str x,H,I.tok _,⟨_,rfl⟩,h⟩
def Gl(X:Cx)(x:Str):Prop:=X.env.kindOf x=some .globalImplicit
theorem a0T{E:Value->Shared->Prop}{pins:List (Addr×Obj)}{s:Shared}{σ:St}{H:Hp}{x:Str}{u:Value}{pos:Pos}{Q:Value->Shared->Prop}(I:Inv X pins σ H s)(hg:Gl X x)(hm:X.mg x=some u)(h:Q u s)
 (hd:(x==("__debug__":Str))=false:=by decide):wpAny (model X.prog X.w) X.A (eval (.Name x pos) X.env) Q E s:=
 Calls.Name_function_global I.ok.kind hg (Calls.loadGlobal_global (by rw[I.ok.glob];exact I.mod.glob.keeps I.bk) hm h) hd
theorem oK{E:Value->Shared->Prop}{pins:List (Addr×Obj)}{s:Shared}{σ:St}{H:Hp}{x:Str}{u:Value}{pos:Pos}{Q:Value->Shared->Prop}(I:Inv X pins σ H s)(hg:Gl X x)(hm:X.mg x=none)(hv:bootBuiltins x=some u)(h:Q u s)
 (hn:x≠ "__name__":=by decide)(hd:(x==("__debug__":Str))=false:=by decide):wpAny (model X.prog X.w) X.A (eval (.Name x pos) X.env) Q E s:=by
 obtain⟨mb,h1,h2⟩:=I.mod.blt
 exact Calls.Name_function_global I.ok.kind hg (Calls.loadGlobal_builtin (by rw[I.ok.glob];exact I.mod.glob.keeps I.bk) hm (by rw[I.ok.blt];exact h1.keeps I.bk) ((h2 x hn).trans hv) h) hd
theorem a6m{x:Str}{v:V}{u:Value}{pos:Pos}(hg:Gl X x)(hm:X.mg x=some u)(r:bI v u)(hd:(x==("__debug__":Str))=false:=by decide):PE X (.Name x pos) (tC v):=
 fun _ _ _ H _ I h=>a0T I hg hm ⟨v,H,I,r,h⟩ hd
theorem b92{x:Str}{v:V}{u:Value}{pos:Pos}(hg:Gl X x)(hm:X.mg x=none)(hv:bootBuiltins x=some u)(r:bI v u)(hn:x≠ "__name__":=by decide)(hd:(x==("__debug__":Str))=false:=by decide):PE X (.Name x pos) (tC v):=
 fun _ _ _ H _ I h=>oK I hg hm hv ⟨v,H,I,r,h⟩ hn hd
variable{a b:Expr}{ta tb:TE}{pos:Pos}
def PC(X:Cx)(op:CmpOp)(a b:Expr)(t:TE):Prop:=
 ∀(pins:List (Addr×Obj)) (s:Shared) (σ:St) (H:Hp) (Q:VK),Inv X pins σ H s->t σ H Q->
  wpAny (model X.prog X.w) X.A (eval a X.env) (fun v s₁=>wpAny (model X.prog X.w) X.A (eval b X.env) (fun u s₂=>wpAny (model X.prog X.w) X.A (compareOp op v u) (EP X pins σ Q) X.xe s₂) X.xe s₁) X.xe s
theorem b3L(b:Expr){op:CmpOp}(h:op≠ .In)(h2:op≠ .NotIn):behindInMarks op b=false:=by
 have e1:(op==CmpOp.In)=false:=by cases op<;>first|rfl|exact absurd rfl h
 have e2:(op==CmpOp.NotIn)=false:=by cases op<;>first|rfl|exact absurd rfl h2
 cases b<;>simp[behindInMarks,e1,e2]
def tB(t:TE):TT:=fun σ H Q=>t σ H fun x H1=>∃c,x= .bl c/\Q c H1
theorem b0D{op:CmpOp}{t:TE}(h:PC X op a b t)(h1:behindInMarks op b=false:=by first|exact b3L _ (by decide) (by decide)|rfl):PE X (.Compare a [op] [b] pos) t:=fun pins s σ H Q I hw=>wpAny_Compare1 (h pins s σ H Q I hw) h1
theorem jP{op:CmpOp}{t:TE}(h:PC X op a b t)(h1:behindInMarks op b=false:=by first|exact b3L _ (by decide) (by decide)|rfl):PT X (.Compare a [op] [b] pos) (tB t):=by
 intro pins s σ H Q I hw
 refine wpAny_isTrue_Compare1 (aR (h pins s σ H _ I hw) fun v s1 h1=>aR h1 fun u s2 h2=>aR h2 fun c s3 ⟨x,H1,I1,r1,q1⟩=> ?_) h1
 obtain⟨d,rfl,q⟩:=q1
 cases r1
 exact wpAny_truthy_bool ⟨H1,I1,q⟩
theorem cH{e:Expr}{t:TE}(h:PE X e t)(he:∀whole,isTrue e X.env whole=(do let v<- whole;standAt e.pos;holding [v] (truthy v)):=by intro _;rfl):PT X e (tB t):=by
 intro pins s σ H Q I hw
 refine isTrue_plain (aR (h pins s σ H _ I hw) fun v s1 ⟨x,H1,I1,r1,q1⟩=> ?_) (he _)
 obtain⟨d,rfl,q⟩:=q1
 cases r1
 exact wpAny_truthy_bool ⟨H1,I1,q⟩
variable{tA tB':TT}{eJ:List Expr}
def tAnd(t u:TT):TT:=fun σ H Q=>t σ H fun c H1=>if c=true then u σ H1 Q else Q false H1
def tOr(t u:TT):TT:=fun σ H Q=>t σ H fun c H1=>if c=true then Q true H1 else u σ H1 Q
def tNot(t:TT):TT:=fun σ H Q=>t σ H fun c H1=>Q (!c) H1
theorem oR(ha:PT X a tA):PW X (.BoolOp .And [a] pos) tA:=by
 intro wh pins s σ H Q I h
 refine isTrue_and (aR (ha pins s σ H Q I h) fun c s1 e=> ?_)
 cases c with
 |true=>exact isTrue_and_nil e
 |false=>exact e
theorem gP(ha:PT X a tA):PW X (.BoolOp .Or [a] pos) tA:=by
 intro wh pins s σ H Q I h
 refine isTrue_or (aR (ha pins s σ H Q I h) fun c s1 e=> ?_)
 cases c with
 |false=>exact isTrue_or_nil e
 |true=>exact e
theorem oY(ha:PT X a tA)(hb:PW X (.BoolOp .And (b::eJ) pos) tB'):PW X (.BoolOp .And (a::b::eJ) pos) (tAnd tA tB'):=by
 intro wh pins s σ H Q I h
 refine isTrue_and (aR (ha pins s σ H _ I h) fun c s1 ⟨H1,I1,q1⟩=> ?_)
 cases c with
 |true=>exact hb wh pins s1 σ H1 Q I1 q1
 |false=>exact⟨H1,I1,q1⟩
theorem fP(ha:PT X a tA)(hb:PW X (.BoolOp .Or (b::eJ) pos) tB'):PW X (.BoolOp .Or (a::b::eJ) pos) (tOr tA tB'):=by
 intro wh pins s σ H Q I h
 refine isTrue_or (aR (ha pins s σ H _ I h) fun c s1 ⟨H1,I1,q1⟩=> ?_)
 cases c with
 |true=>exact⟨H1,I1,q1⟩
 |false=>exact hb wh pins s1 σ H1 Q I1 q1
theorem dC(ha:PT X a tA):PT X (.UnaryOp .Not a pos) (tNot tA):=by
 intro pins s σ H Q I h
 exact isTrue_not (ha pins s σ H (fun c H1=>Q (!c) H1) I h)
def b5L(ta tb:TE):TE:=fun σ H Q=>ta σ H fun x H1=>∃c,x= .bl c/\if c=true then tb σ H1 Q else Q (.bl false) H1
def tOrV(ta tb:TE):TE:=fun σ H Q=>ta σ H fun x H1=>∃c,x= .bl c/\if c=true then Q (.bl true) H1 else tb σ H1 Q
def b4B(ta:TE):TE:=fun σ H Q=>ta σ H fun x H1=>∃c,x= .bl c/\Q (.bl (!c)) H1
theorem mC{op}{t:TE}(h:PE X a t):PE X (.BoolOp op [a] pos) t:=fun pins s σ H Q I hw=>BoolOp_one (h pins s σ H Q I hw)
theorem kE(ha:PE X a ta)(hb:PE X (.BoolOp .And (b::eJ) pos) tb):PE X (.BoolOp .And (a::b::eJ) pos) (b5L ta tb):=by
 intro pins s σ H Q I h
 refine BoolOp_and (aR (ha pins s σ H _ I h) fun v s1 ⟨x,H1,I1,r1,q1⟩=> ?_)
 obtain⟨c,rfl,q1⟩:=q1
 cases r1
 refine wpAny_truthy_bool ?_
 cases c with
 |true=>exact hb pins s1 σ H1 Q I1 q1
 |false=>exact⟨.bl false,H1,I1,rfl,q1⟩
theorem b8c(ha:PE X a ta)(hb:PE X (.BoolOp .Or (b::eJ) pos) tb):PE X (.BoolOp .Or (a::b::eJ) pos) (tOrV ta tb):=by
 intro pins s σ H Q I h
 refine BoolOp_or (aR (ha pins s σ H _ I h) fun v s1 ⟨x,H1,I1,r1,q1⟩=> ?_)
 obtain⟨c,rfl,q1⟩:=q1
 cases r1
 refine wpAny_truthy_bool ?_
 cases c with
 |false=>exact hb pins s1 σ H1 Q I1 q1
 |true=>exact⟨.bl true,H1,I1,rfl,q1⟩
theorem a9r(ha:PE X a ta):PE X (.UnaryOp .Not a pos) (b4B ta):=by
 intro pins s σ H Q I h
 refine UnaryOp_ (aR (ha pins s σ H _ I h) fun v s1 ⟨x,H1,I1,r1,q1⟩=> ?_)
 obtain⟨c,rfl,q1⟩:=q1
 cases r1
 exact not_of (wpAny_truthy_bool ⟨.bl (!c),H1,I1,rfl,q1⟩)
end
def aL(K:Fg)(H:Hp)(a:Addr)(xs:List V):Prop:=
 Rd H a (.lst xs)\/
  ∃(o:Obj) (its:Array Value) (n:Nat),K.lookup a=some o/\o.cls= .type "list" /\o.dict=none/\o.data= .seq its n/\its.size<=sizeLine/\bH xs its.toList
def bU(K:Fg)(H:Hp)(a:Addr)(xs:List V):Prop:=
 Rd H a (.tup xs)\/
  ∃(o:Obj) (its:Array Value) (n:Nat),K.lookup a=some o/\o.cls= .type "tuple" /\o.data= .seq its n/\its.size<=sizeLine/\bH xs its.toList
noncomputable def absV:Value->Option V
 | .none=>some .non
 | .bool b=>some (.bl b)
 | .int i _=>some (.int i)
 | .str x _=>some (.str x)
 | .bytes b _=>some (.byt b)
 | .float b _=>some (.flt b)
 | .ref a=>some (.ref a)
 | .type n=>some (.ty n)
 |_=>none
theorem bI.abs{x:V}{u:Value}(r:bI x u):absV u=some x:=by
 cases x with
 |non=>cases r;rfl
 |bl _=>cases r;rfl
 |int _=>obtain⟨t,rfl⟩:=r;rfl
 |str _=>obtain⟨t,rfl⟩:=r;rfl
 |byt _=>obtain⟨t,rfl⟩:=r;rfl
 |flt _=>obtain⟨t,rfl⟩:=r;rfl
 |ref _=>cases r;rfl
 |ty _=>cases r;rfl
theorem bI.inj{x y:V}{u:Value}(r:bI x u)(q:bI y u):x=y:=Option.some.inj (r.abs.symm.trans q.abs)
theorem bH.inj:∀{xs ys:List V} {us:List Value},bH xs us->bH ys us->xs=ys
 |_,_,_,.nil,.nil=>rfl
 |_,_,_,.cons r t,.cons r' t'=>by rw[r.inj r',bH.inj t t']
section
variable{X:Cx}{pins:List (Addr×Obj)}{σ:St}{H:Hp}{s:Shared}{a:Addr}{xs ys:List V}
theorem aL.of{K:Fg}(h:H a=some (.lst xs)):aL K H a xs:=.inl (.inl h)
theorem bU.of{K:Fg}(h:H a=some (.tup xs)):bU K H a xs:=.inl (.inl h)
theorem Inv.list(I:Inv X pins σ H s)(h:aL X.K H a xs):∃its:List Value,bH xs its/\PlainL s.heap a its.toArray/\xs.length<=sizeLine:=by
 rcases h with h|⟨o,its,n,hk,hc,hd,hs,hz,r⟩
 ·obtain⟨z,its,n,r,e⟩:=h.ok I.hok
  exact⟨its,r,⟨_,n,e,rfl,rfl,rfl⟩,z⟩
 ·refine⟨its.toList,r,⟨o,n,I.kIn a o hk,hc,hd,by simpa using hs⟩,?_⟩
  have e:=r.length
  simp only[Array.length_toList]at e
  omega
theorem Inv.tuple(I:Inv X pins σ H s)(h:bU X.K H a xs):∃its:List Value,bH xs its/\IsTup s.heap a its.toArray/\xs.length<=sizeLine:=by
 rcases h with h|⟨o,its,n,hk,hc,hs,hz,r⟩
 ·obtain⟨z,its,r,p⟩:=h.ok I.hok
  exact⟨its,r,p,z⟩
 ·refine⟨its.toList,r,⟨o,I.kIn a o hk,hc,n,by simpa using hs⟩,?_⟩
  have e:=r.length
  simp only[Array.length_toList]at e
  omega
theorem Inv.list_inj(I:Inv X pins σ H s)(h:aL X.K H a xs)(h':aL X.K H a ys):xs=ys:=by
 obtain⟨its,r,⟨o,n,e,_,_,d⟩,_⟩:=I.list h
 obtain⟨its',r',⟨o',n',e',_,_,d'⟩,_⟩:=I.list h'
 rw[e]at e';cases e'
 rw[d]at d'
 injection d' with d1 _
 have:its=its':=by simpa using congrArg Array.toList d1
 subst this
 exact r.inj r'
end
abbrev Cx.wish(X:Cx)(E:Value->Shared->Prop):Cx:={X with xe:=E}
abbrev Cx.nox(X:Cx):Cx:=X.wish fun _ _=>False
theorem Cx.Ok.wish{X:Cx}(ok:X.Ok)(E:Value->Shared->Prop):(X.wish E).Ok:=
 ⟨ok.mod,ok.kind,ok.glob,ok.blt,ok.above,ok.inj,ok.has,ok.cab,ok.hd,ok.frames,ok.stk,ok.exf,ok.bs,ok.bsz,ok.noex,ok.exfs,ok.funs,ok.frf⟩
theorem Cx.Ok.unwish{X:Cx}{E:Value->Shared->Prop}(ok:(X.wish E).Ok):X.Ok:=
 ⟨ok.mod,ok.kind,ok.glob,ok.blt,ok.above,ok.inj,ok.has,ok.cab,ok.hd,ok.frames,ok.stk,ok.exf,ok.bs,ok.bsz,ok.noex,ok.exfs,ok.funs,ok.frf⟩
section
variable{X:Cx}{pins:List (Addr×Obj)}{σ:St}{H:Hp}{s:Shared}{E:Value->Shared->Prop}
theorem Inv.wish(I:Inv X pins σ H s)(E:Value->Shared->Prop):Inv (X.wish E) pins σ H s:=⟨I.ok.wish E,I.os,I.bare,I.base,I.loc,I.cell,I.free,I.freeC,I.pin,I.hok,I.len⟩
theorem Inv.unwish(I:Inv (X.wish E) pins σ H s):Inv X pins σ H s:=⟨I.ok.unwish,I.os,I.bare,I.base,I.loc,I.cell,I.free,I.freeC,I.pin,I.hok,I.len⟩
theorem SP.unwish{D:lD}{f:Flow}{s':Shared}(h:SP (X.wish E) pins D f s'):SP X pins D f s':=by
 cases f with
 |next=>obtain⟨σ',H',I,q⟩:=h;exact⟨σ',H',I.unwish,q⟩
 |brk=>obtain⟨σ',H',I,q⟩:=h;exact⟨σ',H',I.unwish,q⟩
 |cont=>obtain⟨σ',H',I,q⟩:=h;exact⟨σ',H',I.unwish,q⟩
 |ret u=>obtain⟨v,σ',H',I,r,q⟩:=h;exact⟨v,σ',H',I.unwish,r,q⟩
theorem eL.nox{st:List Stmt}{t:TS}(h:eL X.nox st t):eL X st t:=fun pins s σ H D I hw=>
 wpAny_mono (h pins s σ H D (I.wish _) hw) (fun _ _ q=>q.unwish) fun _ _ z=>False.elim z
end
section
variable{X:Cx}{st:Stmt}{eJ:List Stmt}{t u:TS}{e:Expr}{te:TE}{pos:Pos}
def b4M:TS:=fun D σ H=>D.nx σ H
def tSeq(t u:TS):TS:=fun D σ H=>t {D with nx:=u D} σ H
theorem bO:eL X [] b4M:=fun _ _ σ H _ I h=>wpAny_execs_nil ⟨σ,H,I,h⟩
theorem aJ(h1:PS X st t)(h2:eL X eJ u):eL X (st::eJ) (tSeq t u):=by
 intro pins s σ H D I h
 refine wpAny_execs_cons (aR (h1 pins s σ H {D with nx:=u D} I h) fun f s1 q=> ?_)
 cases f with
 |next=>
  obtain⟨σ',H',I',q⟩:=q
  exact h2 pins s1 σ' H' D I' q
 |ret v=>exact q
 |brk=>exact q
 |cont=>exact q
theorem aI(h1:PS X st t):eL X [st] t:=by
 intro pins s σ H D I h
 refine wpAny_execs_cons (aR (h1 pins s σ H D I h) fun f s1 q=> ?_)
 cases f with
 |next=>exact wpAny_execs_nil q
 |ret v=>exact q
 |brk=>exact q
 |cont=>exact q
theorem Inv.quiet{pins:List (Addr×Obj)}{σ:St}{H:Hp}{s:Shared}(I:Inv X pins σ H s):interactive X.env=false:=by simp[interactive,I.ok.kind]
def b7M(te:TE):TS:=fun D σ H=>te σ H fun _ H1=>D.nx σ H1
theorem bZ(he:PE X e te)(hs:swapsWith e none pos.line X.env=pure false:=by rfl):PS X (.Expr e pos) (b7M te):=by
 intro pins s σ H D I h
 exact wpAny_Expr_any (aR (he pins s σ H _ I h) fun v s1 ⟨x,H1,I1,r1,q1⟩=>⟨σ,H1,I1,q1⟩) I.quiet hs
def tRet(te:TE):TS:=fun D σ H=>te σ H D.rt
theorem bE(he:PE X e te):PS X (.Return (some e) pos) (tRet te):=by
 intro pins s σ H D I h
 exact wpAny_Return_some (aR (he pins s σ H _ I h) fun v s1 ⟨x,H1,I1,r1,q1⟩=>⟨x,σ,H1,I1,r1,q1⟩)
def tIfS(c:TT)(t u:TS):TS:=fun D σ H=>c σ H fun b H1=>if b=true then t D σ H1 else u D σ H1
theorem bN{c:Expr}{a b:List Stmt}{tc:TT}(hc:PT X c tc)(ha:eL X a t)(hb:eL X b u):PS X (.If c a b pos) (tIfS tc t u):=by
 intro pins s σ H D I h
 refine wpAny_If (aR (hc pins s σ H _ I h) fun d s1 ⟨H1,I1,q1⟩=> ?_)
 cases d with
 |true=>exact ha pins s1 σ H1 D I1 q1
 |false=>exact hb pins s1 σ H1 D I1 q1
end
abbrev TG:=V->St->Hp->(St->Hp->Prop)->Prop
abbrev nX:=List V->St->Hp->(St->Hp->Prop)->Prop
def PG(X:Cx)(target:Expr)(t:TG):Prop:=
 ∀(pins:List (Addr×Obj)) (s:Shared) (σ:St) (H:Hp) (v:V) (u:Value) (Q:St->Hp->Prop),Inv X pins σ H s->bI v u->t v σ H Q->
  wpAny (model X.prog X.w) X.A (assign target X.env u) (fun _ s'=>∃σ' H',Inv X pins σ' H' s'/\Q σ' H') X.xe s
def vJ(X:Cx)(ts:List Expr)(t:nX):Prop:=
 ∀(pins:List (Addr×Obj)) (s:Shared) (σ:St) (H:Hp) (vs:List V) (us:List Value) (Q:St->Hp->Prop),Inv X pins σ H s->bH vs us->t vs σ H Q->
  wpAny (model X.prog X.w) X.A (assignInOrder ((assignEach ts X.env).map (·.2)) us) (fun _ s'=>∃σ' H',Inv X pins σ' H' s'/\Q σ' H') X.xe s
section
variable{X:Cx}{pos:Pos}
noncomputable def gF(i:Nat):TG:=fun v σ H Q=>Q (σ.set i (some v)) H
theorem dL{i:Nat}{x:Str}(hN:X.N.Nodup)(hi:X.N[i]?=some x)(hx:yY X.env.scope x)(hf:X.fn x=true\/ X.env.scope.names.lookup x=some .local:=by first|exact .inl rfl|exact .inr rfl|assumption):PG X (.Name x pos) (gF i):=by
 intro pins s σ H v u Q I r h
 exact wpAny_assign_Name (b1B I hN hi hx r (fun s' I'=>⟨_,H,I',h⟩) hf)
noncomputable def qB:nX:=fun vs σ H Q=>vs= [] /\Q σ H
noncomputable def kG (t:TG) (u:nX):nX:=fun vs σ H Q=>∃v r,vs=v::r/\t v σ H fun σ' H'=>u r σ' H' Q
theorem nT:vJ X [] qB:=by
 intro pins s σ H vs us Q I r h
 obtain⟨e,h⟩:=h
 subst e
 cases r
 exact assignInOrder_nil ⟨σ,H,I,h⟩
theorem hZ{e:Expr}{es:List Expr}{t:TG}{u:nX}(h1:PG X e t)(h2:vJ X es u)
 (hs:(assignEach (e::es) X.env).map (·.2)=assign e X.env::(assignEach es X.env).map (·.2):=by rfl):vJ X (e::es) (kG t u):=by
 intro pins s σ H vs us Q I r h
 obtain⟨v,vr,e1,h⟩:=h
 subst e1
 cases r with
 |cons r rr=>
  rw[hs]
  refine assignInOrder_cons (aR (h1 pins s σ H _ _ _ I r h) fun _ s1 ⟨σ1,H1,I1,q1⟩=> ?_)
  exact h2 pins s1 σ1 H1 _ _ Q I1 rr q1
noncomputable def xT (K:Fg) (n:Nat) (t:nX):TG:=fun v σ H Q=>∃a xs,v= .ref a/\bU K H a xs/\xs.length=n/\t xs σ H Q
theorem oO{es:List Expr}{k:Nat}{t:nX}{n:Nat}(hc:X.calm=true)(h:vJ X es t)
 (hn:(assignEach es X.env).length=n:=by rfl)(hst:(assignEach es X.env).findIdx? (·.1)=none:=by rfl):PG X (.Tuple es k pos) (xT X.K n t):=by
 intro pins s σ H v u Q I r hw
 obtain⟨a,xs,e1,hq,hl,hw⟩:=hw
 subst e1
 cases r
 obtain⟨its,rv,ht,hz⟩:=I.tuple hq
 refine assign_Tuple_tuple (I.ok.hd hc) ht (by simp[hn,<- hl,rv.length]) hst fun h' hx=> ?_
 have I1:Inv X pins σ H {s with heap:=h'}:=I.kept (t':=s.toks) fun b o e=>hx b o (Nat.ne_of_lt (Heap.lt_size e)) e
 exact h pins _ σ H xs _ Q I1 (by simpa using rv) hw
def tAsg(te:TE)(g:TG):TS:=fun D σ H=>te σ H fun x H1=>g x σ H1 D.nx
theorem b4t{tg e:Expr}{te:TE}{g:TG}(he:PE X e te)(hg:PG X tg g)(hs:swapsWithSole [tg] e pos.line X.env=pure false:=by rfl)(hw:swappedStores [tg] e X.env=pure none:=by rfl)
 (h1:(assignEach [tg] X.env).map (·.2)= [assign tg X.env]:=by rfl):PS X (.Assign [tg] e pos) (tAsg te g):=by
 intro pins s σ H D I h
 refine wpAny_Assign_stores (aR (he pins s σ H _ I h) fun v s1 ⟨x,H1,I1,r1,q1⟩=> ?_) hs hw
 rw[h1]
 exact aR (hg pins s1 σ H1 x v _ I1 r1 q1) fun _ s2 q=>q
theorem bV{i:Nat}{x:Str}{e:Expr}{te:TE}{pos':Pos}(hN:X.N.Nodup)(hi:X.N[i]?=some x)(hx:yY X.env.scope x)(he:PE X e te)(hs:swapsWith e (some (.Name x pos')) pos.line X.env=pure false:=by rfl)(hf:X.fn x=true\/ X.env.scope.names.lookup x=some .local:=by first|exact .inl rfl|exact .inr rfl|assumption):
 PS X (.Assign [.Name x pos'] e pos) (tAsg te (gF i)):=by
 intro pins s σ H D I h
 refine wpAny_Assign_Name (aR (he pins s σ H _ I h) fun v s1 ⟨y,H1,I1,r1,q1⟩=> ?_) hs
 exact b1B I1 hN hi hx r1 (fun s2 I2=>⟨_,H1,I2,q1⟩) hf
def b9u(c:TT)(tb:TS):TS:=fun D σ H=>∃W:Nat->St->Hp->Prop,(∃m,W m σ H)/\∀m σ H,W m σ H->
 c σ H fun b H1=>if b=true then∃N:St->Hp->Prop,(∀σ' H',N σ' H'->∃m',m'<m/\W m' σ' H')/\tb {D with nx:=N,ct:=N,bk:=D.nx} σ H1 else D.nx σ H1
theorem a6w{c:Expr}{body:List Stmt}{tc:TT}{tb:TS}(hp:PassesOwn (model X.prog X.w) X.A X.env X.xe)(hc:PT X c tc)(hb:eL X body tb):PS X (.While c body [] pos) (b9u tc tb):=by
 intro pins s σ H D I h
 obtain⟨W,⟨m0,w0⟩,turn⟩:=h
 refine wpAny_While (codeAny_whileLoop (fun n s'=>∃σ' H',Inv X pins σ' H' s'/\W n σ' H') ?_ m0 ⟨σ,H,I,w0⟩)
 rintro n s1 ⟨σ1,H1,I1,w1⟩
 refine wpAny_passesOwn hp (aR (hc pins s1 σ1 H1 _ I1 (turn n σ1 H1 w1)) fun b s2 ⟨H2,I2,q2⟩=> ?_)
 cases b with
 |true=>
  obtain⟨N,hN,q2⟩:=q2
  rw[if_pos rfl]
  refine wpAny_passesOwn hp (aR (hb pins s2 σ1 H2 _ I2 q2) fun f s3 q3=> ?_)
  cases f with
  |next=>
   obtain⟨σ3,H3,I3,n3⟩:=q3
   obtain⟨m',hm,w3⟩:=hN σ3 H3 n3
   exact⟨m',hm,σ3,H3,I3,w3⟩
  |cont=>
   obtain⟨σ3,H3,I3,n3⟩:=q3
   obtain⟨m',hm,w3⟩:=hN σ3 H3 n3
   exact⟨m',hm,σ3,H3,I3,w3⟩
  |brk=>exact q3
  |ret v=>exact q3
 |false=>
  rw[if_neg Bool.false_ne_true]
  exact wpAny_execs_nil ⟨σ1,H2,I2,q2⟩
end
structure It where
 go:Nat->Hp->Prop
 yld:Nat->Hp->V->Hp->Prop
 stop:Nat->Hp->Prop
def gZ(X:Cx)(pins:List (Addr×Obj))(H:Hp)(b:Addr):Prop:=
 H b=none/\b≠X.env.locals/\b∉X.fs/\(b∈X.ex\/ X.s₀.heap.objs.size<=b)/\(∀x c,X.env.cells.lookup x=some c->c≠b)/\∀p∈X.pn++ pins,p.1≠b
theorem Inv.fpOk{X:Cx}{pins:List (Addr×Obj)}{σ:St}{H H':Hp}{s:Shared}{b:Addr}(I:Inv X pins σ H s)(hb:s.heap.objs.size<=b)(hn:H' b=none):gZ X pins H' b:=by
 refine⟨hn,Nat.ne_of_gt (Nat.lt_of_lt_of_le I.lt hb),I.nofs hb,.inr (Nat.le_trans I.sz hb),fun x c e z=> ?_,fun p hp z=> ?_⟩
 ·obtain⟨v,q⟩:=I.cell x c e
  exact absurd (Nat.lt_of_lt_of_le q.lt (by rw[z];exact hb)) (Nat.lt_irrefl _)
 ·exact absurd (Nat.lt_of_lt_of_le (Heap.lt_size (I.pin p hp).1) (by rw[z];exact hb)) (Nat.lt_irrefl _)
structure oU(P:Program)(w:World)(K:Fg)(tg:Expr)(J:It)(fp:List Addr)(it:Addr)(tn:Nat->Heap->Prop):Prop where
 mem:it∈fp
 obj:∀i h,tn i h->∀b∈fp,∃o,h.get? b=some o/\∀v,o.data≠ .cell v
 keep:∀i h h',tn i h->(∀b∈fp,∀o,h.get? b=some o->h'.get? b=some o)->tn i h'
 item:∀(X:Cx),X.prog=P->X.w=w->X.K=K->X.calm=true->∀(i:Nat) (pins:List (Addr×Obj)) (s:Shared) (σ:St) (H:Hp) (E:Value->Shared->Prop),Inv X pins σ H s->(∀b∈fp,gZ X pins H b)->tn i s.heap->J.go i H->
  wpAny (model P w) X.A (pyNext (.ref it)) (fun r s1=>∃u,r=some u/\
   wpAny (model P w) X.A (letOwnedTupleGo tg (.ref it) u) (fun _ s2=>∃x H',Inv X pins σ H' s2/\bI x u/\J.yld i H x H'/\tn (i+ 1) s2.heap/\∀b∈fp,H' b=none) E s1) E s
 done:∀(X:Cx),X.prog=P->X.w=w->X.K=K->X.calm=true->∀(i:Nat) (pins:List (Addr×Obj)) (s:Shared) (σ:St) (H:Hp) (E:Value->Shared->Prop),Inv X pins σ H s->(∀b∈fp,gZ X pins H b)->tn i s.heap->J.stop i H->
  wpAny (model P w) X.A (pyNext (.ref it)) (fun r s1=>r=none/\Inv X pins σ H s1) E s
 self:∀(A:Around) (i:Nat) (s:Shared) (Q:Value->Shared->Prop) (E:Value->Shared->Prop),tn i s.heap->Q (.ref it) s->wpAny (model P w) A (pyIter (.ref it)) Q E s
abbrev TI:=St->Hp->(It->Hp->Prop)->Prop
def PIE(X:Cx)(pins:List (Addr×Obj))(σ:St)(tg:Expr)(R:It->Hp->Prop)(itv:Value)(s2:Shared):Prop:=
 ∃(it:Addr) (fp:List Addr) (tn:Nat->Heap->Prop) (J:It) (H':Hp),itv= .ref it/\Inv X pins σ H' s2/\oU X.prog X.w X.K tg J fp it tn/\tn 0 s2.heap/\(∀b∈fp,gZ X pins H' b)/\R J H'
def PI(X:Cx)(tg iter:Expr)(wi:TI):Prop:=
 ∀(pins:List (Addr×Obj)) (s:Shared) (σ:St) (H:Hp) (R:It->Hp->Prop),Inv X pins σ H s->wi σ H R->
  wpAny (model X.prog X.w) X.A (eval iter X.env) (fun v s1=>wpAny (model X.prog X.w) X.A (pyIter v) (PIE X pins σ tg R) X.xe s1) X.xe s
theorem a0B{M:Model}{A:Around}{E:Value->Shared->Prop}{s:Shared}{tg:Expr}{it:Addr}{u:Value}{o:Obj}{n:String}{vs:Array Value}{Q:Unit->Shared->Prop}(ho:s.heap.get? it=some o)(hc:o.cls= .type n)(hd:o.data= .fields vs)
 (hn:["enumerate","zip","dict_itemiterator","dict_reverseitemiterator","odict_iterator","itertools.zip_longest","itertools.pairwise"].contains n=false)(hQ:Q () s):wpAny M A (letOwnedTupleGo tg (.ref it) u) Q E s:=by
 unfold letOwnedTupleGo
 cases tg<;>first
  |exact wpAny_pure hQ
  |(cases u<;>first
   |exact wpAny_pure hQ
   | (refine wpAny_bind (wpAny_load ho ?_)
      rw[hc,hd]
      show wpAny M A (if(["enumerate","zip","dict_itemiterator","dict_reverseitemiterator","odict_iterator","itertools.zip_longest","itertools.pairwise"].contains n&&vs[0]?==some (rawInt _))=true then _ else _) Q E s
      rw[if_neg (by intro h;rw[hn,Bool.false_and]at h;cases h)]
      exact wpAny_pure hQ))
noncomputable def lV (K:Fg) (a:Addr):It:=
 ⟨fun i H=>∃xs x,aL K H a xs/\xs[i]?=some x,fun i H x H'=>H'=H/\∀xs,aL K H a xs->xs[i]?=some x,fun i H=>∃xs,aL K H a xs/\xs.length<=i⟩
noncomputable def lR (lo:Int) (n:Nat):It:=⟨fun i _=>i<n,fun i H x H'=>H'=H/\x= .int (lo+ i),fun i _=>n<=i⟩
theorem b5W{P:Program}{w:World}{K:Fg}{tg:Expr}(a it:Addr):oU P w K tg (lV K a) [it] it (fun i h=>h.IsListIter it a i) where
 mem:=by simp
 obj:=fun i h st b hb=>by
  have e:b=it:=by simpa using hb
  subst e
  obtain⟨o,e,c,d⟩:=st
  exact⟨o,e,fun v z=>by rw[d]at z;cases z⟩
 keep:=fun i h h' st k=>st.at fun o e=>k it (by simp) o e
 item:=by
  intro X hP hw hK hc i pins s σ H E I hf st hg
  subst hP hw hK
  obtain⟨xs,x,hq,hx⟩:=hg
  obtain⟨its,rv,p,hz⟩:=I.list hq
  obtain⟨u,hu,ru⟩:=rv.get hx
  obtain⟨f0,f1,f2,f3,f4,f5⟩:=hf it (by simp)
  refine wpAny_pyNext_list_item st p.isList (x:=u) (by simpa using hu) fun h' st' sb=> ?_
  have I1:Inv X pins σ H {s with heap:=h'}:=I.turned (t':=s.toks) (fun b o hb e=>(sb.2 b hb).trans e) f0 f1 f3 f4 f5
  obtain⟨o,e,c,d⟩:=id st'
  exact⟨u,rfl,a0B (s:={s with heap:=h'}) e c d (by decide) ⟨x,H,I1,ru,⟨rfl,fun ys hy=>by rw[I.list_inj hy hq];exact hx⟩,st',fun b hb=>(hf b hb).1⟩⟩
 done:=by
  intro X hP hw hK hc i pins s σ H E I hf st hg
  subst hP hw hK
  obtain⟨xs,hq,hx⟩:=hg
  obtain⟨its,rv,p,hz⟩:=I.list hq
  obtain⟨f0,f1,f2,f3,f4,f5⟩:=hf it (by simp)
  have hl:=rv.length
  exact wpAny_pyNext_list_end (I.ok.hd hc) st p.isList (by simp;omega) fun h' eb=>⟨rfl,I.turned (t':=s.toks) (fun b o hb e=>eb b o hb e) f0 f1 f3 f4 f5⟩
 self:=fun _ _ _ _ _ st h=>wpAny_pyIter_listiter st h
theorem b8t{P:Program}{w:World}{K:Fg}{tg:Expr}(it:Addr)(lo:Int)(n:Nat):oU P w K tg (lR lo n) [it] it (fun i h=>IsRangeIter h it (lo+ (i:Nat)* 1) ((n:Int)- (i:Nat)) 1) where
 mem:=by simp
 obj:=fun i h st b hb=>by
  have e:b=it:=by simpa using hb
  subst e
  exact⟨_,st,fun v z=>by
   have z':Data.fields _=Data.cell v:=z
   cases z'⟩
 keep:=fun i h h' st k=>k it (by simp) _ st
 item:=by
  intro X hP hw hK hc i pins s σ H E I hf st hg
  subst hP hw hK
  obtain⟨f0,f1,f2,f3,f4,f5⟩:=hf it (by simp)
  have W:=Walks.range (prog:=X.prog) (w:=X.w) (I.ok.hd hc) it lo 1 n
  refine W.item i s _ _ hg st fun v h' tk hv st' kk=> ?_
  obtain⟨t,rfl⟩:=hv
  have I1:Inv X pins σ H {s with heap:=h',toks:=tk}:=I.turned (fun b o hb e=>kk b o (by simpa using hb) e) f0 f1 f3 f4 f5
  refine⟨_,rfl,a0B (s:={s with heap:=h',toks:=tk}) (n:= "range_iterator") st' rfl rfl (by decide) ⟨.int (lo+ i),H,I1,⟨t,?_⟩,⟨rfl,rfl⟩,st',fun b hb=>(hf b hb).1⟩⟩
  rw[Int.mul_one]
 done:=by
  intro X hP hw hK hc i pins s σ H E I hf st hg
  subst hP hw hK
  obtain⟨f0,f1,f2,f3,f4,f5⟩:=hf it (by simp)
  exact wpAny_pyNext_range_end (I.ok.hd hc) st (by have:n<=i:=hg;omega) fun h' eb=>⟨rfl,I.turned (t':=s.toks) (fun b o hb e=>eb b o hb e) f0 f1 f3 f4 f5⟩
 self:=fun _ _ _ _ _ st h=>wpAny_pyIter_rangeiter st h
section
variable{X:Cx}{tg:Expr}
def b5J(K:Fg)(tl:TE):TI:=fun σ H R=>tl σ H fun x H1=>∃a,x= .ref a/\(∃xs,aL K H1 a xs)/\R (lV K a) H1
theorem fL{l:Expr}{tl:TE}(hl:PE X l tl):PI X tg l (b5J X.K tl):=by
 intro pins s σ H R I h
 refine aR (hl pins s σ H _ I h) fun v s1 ⟨x,H1,I1,r1,q1⟩=> ?_
 obtain⟨a,e,⟨xs,hq⟩,q⟩:=q1
 subst e
 cases r1
 obtain⟨its,rv,p,hz⟩:=I1.list hq
 refine wpAny_pyIter_list p.isList ?_
 refine⟨s1.heap.objs.size,[s1.heap.objs.size],_,_,H1,rfl,I1.kept (t':=s1.toks) fun b o e=>Heap.get?_push_of_some _ e,b5W a _,⟨_,Heap.get?_push_size _ rfl,rfl,rfl⟩,fun b hb=> ?_,q⟩
 have e:b=s1.heap.objs.size:=by simpa using hb
 subst e
 exact I1.fpOk (Nat.le_refl _) (I1.hok.fresh (Nat.le_refl _))
theorem b34{pins:List (Addr×Obj)}{σ:St}{H:Hp}{s:Shared}{R:It->Hp->Prop}{E:Value->Shared->Prop}{lo hi:Int}{t u v:Tok}{tk:Nat}(I:Inv X pins σ H s)(h1: -(2^ 62)<=lo)(h2:lo<2^ 62)(h3: -(2^ 62)<=hi)(h4:hi<2^ 62)
 (q:R (lR lo (hi- lo).toNat) H):wpAny (model X.prog X.w) X.A (pyIter (.ref s.heap.objs.size)) (PIE X pins σ tg R) E {s with heap:=s.heap.push {cls:=.type "range",data:=.fields #[.int lo t,.int hi u,.int 1 v]},toks:=tk}:=by
 refine wpAny_pyIter_range (IsRange.new ..) (small_one h1 h2 h3 h4) ?_
 have I1:Inv X pins σ H {s with heap:=s.heap.push {cls:=.type "range",data:=.fields #[.int lo t,.int hi u,.int 1 v]},toks:=tk}:=I.kept fun b o e=>Heap.get?_push_of_some _ e
 refine⟨(s.heap.push {cls:=.type "range",data:=.fields #[.int lo t,.int hi u,.int 1 v]}).objs.size,[(s.heap.push {cls:=.type "range",data:=.fields #[.int lo t,.int hi u,.int 1 v]}).objs.size],_,_,H,rfl,
  I1.kept (t':=tk) fun b o e=>Heap.get?_push_of_some _ e,b8t _ lo (hi- lo).toNat,?_,fun b hb=> ?_,q⟩
 ·have e1:lo+ ((0:Nat):Int)* 1=lo:=by simp
  have e2:(((hi- lo).toNat:Nat):Int)- ((0:Nat):Int)=Builtin.Range.rangeSize lo hi 1:=by rw[rangeSize_one];split<;>omega
  show IsRangeIter _ _ (lo+ ((0:Nat):Int)* 1) ((((hi- lo).toNat:Nat):Int)- ((0:Nat):Int)) 1
  rw[e1,e2]
  exact Heap.get?_push_size _ rfl
 ·have e:b=(s.heap.push {cls:=.type "range",data:=.fields #[.int lo t,.int hi u,.int 1 v]}).objs.size:=by simpa using hb
  subst e
  exact I1.fpOk (Nat.le_refl _) (I1.hok.fresh (Nat.le_refl _))
def b8X(ta:TA):TI:=fun σ H R=>ta σ H fun vs H1=>∃j:Int,vs= [.int j] /\ -(2^ 62)<=j/\j<2^ 62/\R (lR 0 j.toNat) H1
def b8Q(ta:TA):TI:=fun σ H R=>ta σ H fun vs H1=>∃i j:Int,vs= [.int i,.int j] /\(-(2^ 62)<=i/\i<2^ 62/\ -(2^ 62)<=j/\j<2^ 62)/\R (lR i (j- i).toNat) H1
theorem oC{a:Expr}{ta:TA}{p pos:Pos}(hg:Gl X "range")(hm:X.mg "range"=none)(ha:PA X [a] ta)(hs:starEach [a] X.env= [(false,eval a X.env)]:=by rfl):PI X tg (.Call (.Name "range" p) [a] [] pos) (b8X ta):=by
 intro pins s σ H R I h
 refine Call_ (oK I hg hm boot_range (PyProof.Rows.callWith_type1 (aR (ha pos pins s σ H _ I h) fun us s1 ⟨vs,H1,I1,r1,q1⟩=> ?_) hs rfl))
 obtain⟨j,e,q1,q2,q⟩:=q1
 subst e
 cases r1 with
 |cons r rr=>
  cases rr
  obtain⟨t,rfl⟩:=r
  exact call_range_1 (b34 I1 (by omega) (by omega) q1 q2 (by simpa using q))
theorem b4f{a b:Expr}{ta:TA}{p pos:Pos}(hg:Gl X "range")(hm:X.mg "range"=none)(ha:PA X [a,b] ta)(hs:starEach [a,b] X.env= [(false,eval a X.env),(false,eval b X.env)]:=by rfl)(hs2:starEach [b] X.env= [(false,eval b X.env)]:=by rfl):
 PI X tg (.Call (.Name "range" p) [a,b] [] pos) (b8Q ta):=by
 intro pins s σ H R I h
 refine Call_ (oK I hg hm boot_range (PyProof.Rows.callWith_type1 (aR (ha pos pins s σ H _ I h) fun us s1 ⟨vs,H1,I1,r1,q1⟩=> ?_) (by rw[hs,hs2]) (by rw[hs2];rfl)))
 obtain⟨i,j,e,⟨q1,q2,q3,q4⟩,q⟩:=q1
 subst e
 cases r1 with
 |cons r rr=>
  cases rr with
  |cons r' rr=>
   cases rr
   obtain⟨t,rfl⟩:=r
   obtain⟨t',rfl⟩:=r'
   exact call_range_2 (b34 I1 q1 q2 q3 q4 q)
def tFor(wi:TI)(g:TG)(tb:TS):TS:=fun D σ H=>wi σ H fun J H1=>∃W:Nat->Nat->St->Hp->Prop,(∃m,W 0 m σ H1)/\∀i m σ H,W i m σ H->
 (J.stop i H/\D.nx σ H)\/ (J.go i H/\∃N:St->Hp->Prop,(∀σ' H',N σ' H'->∃m',m'<m/\W (i+ 1) m' σ' H')/\∀x H',J.yld i H x H'->g x σ H' fun σ2 H2=>tb {D with nx:=N,ct:=N,bk:=D.nx} σ2 H2)
noncomputable def pQ (fp:List Addr) (h:Heap):List (Addr×Obj):=fp.filterMap fun b=>(h.get? b).map fun o=>(b,o)
theorem pJ{fp:List Addr}{h:Heap}{b:Addr}{o:Obj}(hb:b∈fp)(e:h.get? b=some o):(b,o)∈pQ fp h:=List.mem_filterMap.mpr ⟨b,hb,by rw[e];rfl⟩
theorem b6f{fp:List Addr}{h:Heap}{p:Addr×Obj}(hp:p∈pQ fp h):p.1∈fp/\h.get? p.1=some p.2:=by
 obtain⟨b,hb,e⟩:=List.mem_filterMap.mp hp
 cases q:h.get? b with
 |none=>rw[q]at e;cases e
 |some o=>
  rw[q]at e
  have e':(b,o)=p:=Option.some.inj e
  subst e'
  exact⟨hb,q⟩
theorem Inv.pinned{pins:List (Addr×Obj)}{σ:St}{H:Hp}{s:Shared}{fp:List Addr}(I:Inv X pins σ H s)(hf:∀b∈fp,gZ X pins H b)(ho:∀b∈fp,∃o,s.heap.get? b=some o/\∀v,o.data≠ .cell v):Inv X (pins++ pQ fp s.heap) σ H s:=
 I.pins_of fun p hp=>(List.mem_append.mp hp).elim (fun z=>I.pin p (List.mem_append_right _ z)) fun z=>by
  obtain⟨hb,e⟩:=b6f z
  obtain⟨f0,f1,f2,_⟩:=hf p.1 hb
  obtain⟨o,e',d⟩:=ho p.1 hb
  rw[e]at e';cases e'
  exact⟨e,f0,f1,f2,d⟩
theorem Inv.unpinned{pins pl:List (Addr×Obj)}{σ:St}{H:Hp}{s:Shared}(I:Inv X (pins++ pl) σ H s):Inv X pins σ H s:=I.pins_of fun p hp=>I.pin p (List.mem_append_right _ (List.mem_append_left _ hp))
theorem gW{iter:Expr}{body:List Stmt}{wi:TI}{g:TG}{tb:TS}{pos:Pos}(hp:PassesOwn (model X.prog X.w) X.A X.env X.xe)(hc:X.calm=true)(hi:PI X tg iter wi)(hg:PG X tg g)(hb:eL X body tb)
 (hs:∀x,foldedSetIterable iter X.env x=pure x:=by intro _;rfl):PS X (.For tg iter body [] pos) (tFor wi g tb):=by
 intro pins s σ H D I h
 refine wpAny_For (aR (hi pins s σ H _ I h) fun v s1 h1=>aR h1 fun itv s2 h2=> ?_) hs
 obtain⟨it,fp,tn,J,H2,e,I2,T,st2,f2,W,⟨m0,w0⟩,turn⟩:=h2
 subst e
 have stat:∀{H':Hp},(∀b∈fp,H' b=none)->∀b∈fp,gZ X pins H' b:=fun hn b hb=>⟨hn b hb,(f2 b hb).2⟩
 refine codeAny_forLoop_any (fun n s'=>∃i σ' H',Inv X pins σ' H' s'/\tn i s'.heap/\(∀b∈fp,H' b=none)/\W i n σ' H') ?_ m0 ⟨0,σ,H2,I2,st2,fun b hb=>(f2 b hb).1,w0⟩
 rintro n s3 ⟨i,σ3,H3,I3,st3,fr3,w3⟩
 rcases turn i n σ3 H3 w3 with⟨stop,qn⟩|⟨go,N,hN,step⟩
 ·refine wpAny_passesOwn hp (aR (T.done X rfl rfl rfl hc i pins s3 σ3 H3 X.xe I3 (stat fr3) st3 stop) fun r s4 ⟨hr,I4⟩=> ?_)
  subst hr
  exact wpAny_execs_nil ⟨σ3,H3,I4,qn⟩
 ·refine wpAny_passesOwn hp (aR (T.item X rfl rfl rfl hc i pins s3 σ3 H3 X.xe I3 (stat fr3) st3 go) fun r s4 ⟨u,hr,h4⟩=> ?_)
  subst hr
  refine wpAny_passesOwn hp (aR h4 fun _ s5 ⟨x,H5,I5,r5,y5,st5,fr5⟩=> ?_)
  have I5':=I5.pinned (stat fr5) (T.obj _ _ st5)
  refine wpAny_passesOwn hp (aR (hg _ s5 σ3 H5 x u _ I5' r5 (step x H5 y5)) fun _ s6 ⟨σ6,H6,I6,q6⟩=> ?_)
  refine wpAny_passesOwn hp (aR (hb _ s6 σ6 H6 _ I6 q6) fun f s7 q7=> ?_)
  have again:∀{σ7:St} {H7:Hp},Inv X (pins++ pQ fp s5.heap) σ7 H7 s7->N σ7 H7->∃m,m<n/\∃i σ' H',Inv X pins σ' H' s7/\tn i s7.heap/\(∀b∈fp,H' b=none)/\W i m σ' H':=fun{σ7 H7} I7 n7=>by
   obtain⟨m',hm,w7⟩:=hN σ7 H7 n7
   refine⟨m',hm,i+ 1,σ7,H7,I7.unpinned,T.keep _ _ _ st5 fun b hb o e=>(I7.pin (b,o) (List.mem_append_right _ (List.mem_append_right _ (pJ hb e)))).1,fun b hb=> ?_,w7⟩
   obtain⟨o,e,d⟩:=T.obj _ _ st5 b hb
   exact(I7.pin (b,o) (List.mem_append_right _ (List.mem_append_right _ (pJ hb e)))).2.1
  cases f with
  |next=>obtain⟨σ7,H7,I7,n7⟩:=q7;exact again I7 n7
  |cont=>obtain⟨σ7,H7,I7,n7⟩:=q7;exact again I7 n7
  |brk=>obtain⟨σ7,H7,I7,q7⟩:=q7;exact⟨σ7,H7,I7.unpinned,q7⟩
  |ret v=>obtain⟨x7,σ7,H7,I7,r7,q7⟩:=q7;exact⟨x7,σ7,H7,I7.unpinned,r7,q7⟩
end
theorem kM{K:Fg}{a:Addr}{xs:List V}{g:TG}{tb:TS}{D:lD}{σ:St}{H:Hp}(Pv:Nat->St->Hp->Prop)(h0:Pv 0 σ H)(hl:∀i σ H,i<=xs.length->Pv i σ H->aL K H a xs)
 (hs:∀i x σ H,xs[i]?=some x->Pv i σ H->g x σ H fun σ2 H2=>tb {D with nx:=Pv (i+ 1),ct:=Pv (i+ 1),bk:=D.nx} σ2 H2)(hd:∀σ H,Pv xs.length σ H->D.nx σ H):
 ∃W:Nat->Nat->St->Hp->Prop,(∃m,W 0 m σ H)/\∀i m σ H,W i m σ H->
  ((lV K a).stop i H/\D.nx σ H)\/ ((lV K a).go i H/\∃N:St->Hp->Prop,(∀σ' H',N σ' H'->∃m',m'<m/\W (i+ 1) m' σ' H')/\∀x H',(lV K a).yld i H x H'->g x σ H' fun σ2 H2=>tb {D with nx:=N,ct:=N,bk:=D.nx} σ2 H2):=by
 refine⟨fun i m σ H=>m=xs.length- i/\i<=xs.length/\Pv i σ H,⟨xs.length,by simp,Nat.zero_le _,h0⟩,?_⟩
 rintro i m σ H ⟨rfl,hi,p⟩
 have q:=hl i σ H hi p
 by_cases hlt:i<xs.length
 ·refine .inr ⟨⟨xs,xs[i],q,by simp[hlt]⟩,Pv (i+ 1),fun σ' H' p'=>⟨xs.length- (i+ 1),by omega,rfl,hlt,p'⟩,fun x H' y=> ?_⟩
  obtain⟨e,y⟩:=y
  subst e
  exact hs i x σ _ (y xs q) p
 ·have e:i=xs.length:=by omega
  subst e
  exact .inl ⟨⟨xs,q,Nat.le_refl _⟩,hd σ H p⟩
theorem yR{lo:Int}{n:Nat}{g:TG}{tb:TS}{D:lD}{σ:St}{H:Hp}(Pv:Nat->St->Hp->Prop)(h0:Pv 0 σ H)
 (hs:∀i σ H,i<n->Pv i σ H->g (.int (lo+ i)) σ H fun σ2 H2=>tb {D with nx:=Pv (i+ 1),ct:=Pv (i+ 1),bk:=D.nx} σ2 H2)(hd:∀σ H,Pv n σ H->D.nx σ H):
 ∃W:Nat->Nat->St->Hp->Prop,(∃m,W 0 m σ H)/\∀i m σ H,W i m σ H->
  ((lR lo n).stop i H/\D.nx σ H)\/ ((lR lo n).go i H/\∃N:St->Hp->Prop,(∀σ' H',N σ' H'->∃m',m'<m/\W (i+ 1) m' σ' H')/\∀x H',(lR lo n).yld i H x H'->g x σ H' fun σ2 H2=>tb {D with nx:=N,ct:=N,bk:=D.nx} σ2 H2):=by
 refine⟨fun i m σ H=>m=n- i/\i<=n/\Pv i σ H,⟨n,by simp,Nat.zero_le _,h0⟩,?_⟩
 rintro i m σ H ⟨rfl,hi,p⟩
 by_cases hlt:i<n
 ·refine .inr ⟨hlt,Pv (i+ 1),fun σ' H' p'=>⟨n- (i+ 1),by omega,rfl,hlt,p'⟩,fun x H' y=> ?_⟩
  obtain⟨e,y⟩:=y
  subst e y
  exact hs i σ _ hlt p
 ·have e:i=n:=by omega
  subst e
  exact .inl ⟨Nat.le_refl _,hd σ H p⟩
abbrev R2:=V->V->Hp->VK->Prop
def cY(X:Cx)(f:Value->Value->Sem Value)(r:R2):Prop:=
 ∀(pins:List (Addr×Obj)) (s:Shared) (σ:St) (H:Hp) (x y:V) (v u:Value) (Q:VK),Inv X pins σ H s->bI x v->bI y u->r x y H Q->
  wpAny (model X.prog X.w) X.A (f v u) (EP X pins σ Q) X.xe s
def UnR(X:Cx)(f:Value->Sem Value)(r:V->Hp->VK->Prop):Prop:=
 ∀(pins:List (Addr×Obj)) (s:Shared) (σ:St) (H:Hp) (x:V) (v:Value) (Q:VK),Inv X pins σ H s->bI x v->r x H Q->
  wpAny (model X.prog X.w) X.A (f v) (EP X pins σ Q) X.xe s
def jC(X:Cx)(f:Value)(r:List V->Hp->VK->Prop):Prop:=
 ∀(pins:List (Addr×Obj)) (s:Shared) (σ:St) (H:Hp) (xs:List V) (us:List Value) (Q:VK),Inv X pins σ H s->bH xs us->r xs H Q->
  wpAny (model X.prog X.w) X.A (call f us) (EP X pins σ Q) X.xe s
def TruR(X:Cx)(r:V->Hp->(Bool->Hp->Prop)->Prop):Prop:=
 ∀(pins:List (Addr×Obj)) (s:Shared) (σ:St) (H:Hp) (x:V) (v:Value) (Q:Bool->Hp->Prop),Inv X pins σ H s->bI x v->r x H Q->
  wpAny (model X.prog X.w) X.A (truthy v) (TP X pins σ Q) X.xe s
def nO(r:R2)(ta tb:TE):TE:=fun σ H Q=>ta σ H fun x H1=>tb σ H1 fun y H2=>r x y H2 Q
def tUn(r:V->Hp->VK->Prop)(ta:TE):TE:=fun σ H Q=>ta σ H fun x H1=>r x H1 Q
noncomputable def rI (C:Int->Int->Prop) (g:Int->Int->V):R2:=fun x y H Q=>∃i j,x= .int i/\y= .int j/\C i j/\Q (g i j) H
noncomputable def nE (g:Int->Int->V):R2:=fun x y H Q=>∃i j,x= .int i/\y= .int j/\Q (g i j) H
def rU(g:Int->V):V->Hp->VK->Prop:=fun x H Q=>∃i,x= .int i/\Q (g i) H
section
variable{X:Cx}{a b c:Expr}{ta tb tc:TE}{pos:Pos}
theorem binT(ha:PE X a ta)(hb:PE X b tb){pins:List (Addr×Obj)}{s:Shared}{σ:St}{H:Hp}{R:V->V->Hp->Prop}(I:Inv X pins σ H s)
 (h:ta σ H fun x H1=>tb σ H1 fun y H2=>R x y H2){Q:Value->Shared->Prop}{f:Value->Value->Sem Value}
 (hf:∀v u s2 x y H2,Inv X pins σ H2 s2->bI x v->bI y u->R x y H2->wpAny (model X.prog X.w) X.A (f v u) Q X.xe s2):
 wpAny (model X.prog X.w) X.A (eval a X.env) (fun v s₁=>wpAny (model X.prog X.w) X.A (eval b X.env) (fun u s₂=>wpAny (model X.prog X.w) X.A (f v u) Q X.xe s₂) X.xe s₁) X.xe s:=by
 refine aR (ha pins s σ H _ I h) fun v s1 ⟨x,H1,I1,r1,q1⟩=> ?_
 refine aR (hb pins s1 σ H1 _ I1 q1) fun u s2 ⟨y,H2,I2,r2,q2⟩=> ?_
 exact hf v u s2 x y H2 I2 r1 r2 q2
theorem bQ{op:Operator}{r:R2}(ho:cY X (binaryOp op) r)(ha:PE X a ta)(hb:PE X b tb):PE X (.BinOp a op b pos) (nO r ta tb):=by
 intro pins s σ H Q I h
 exact wpAny_BinOp (binT ha hb I h fun v u s2 x y H2 I2 rx ry q=>ho pins s2 σ H2 x y v u Q I2 rx ry q)
theorem a7t{op:UnaryOp}{r:V->Hp->VK->Prop}(ho:UnR X (unaryOp op) r)(ha:PE X a ta):PE X (.UnaryOp op a pos) (tUn r ta):=by
 intro pins s σ H Q I h
 exact UnaryOp_ (aR (ha pins s σ H _ I h) fun v s1 ⟨x,H1,I1,r1,q1⟩=>ho pins s1 σ H1 x v Q I1 r1 q1)
theorem zE{f:Value->Value->Sem Value}{C:Int->Int->Prop}{g:Int->Int->Int}
 (rule:∀(i j:Int) (t u:Tok) (s:Shared) (Q:Value->Shared->Prop) (E:Value->Shared->Prop),C i j->Q (.int (g i j) s.toks) {s with toks:=s.toks+ 1} ->wpAny (model X.prog X.w) X.A (f (.int i t) (.int j u)) Q E s):
 cY X f (rI C fun i j=> .int (g i j)):=by
 intro pins s σ H x y v u Q I rx ry h
 obtain⟨i,j,rfl,rfl,hc,q⟩:=h
 obtain⟨t,rfl⟩:=rx
 obtain⟨t',rfl⟩:=ry
 exact rule i j t t' s _ _ hc ⟨.int (g i j),H,I.tok _,⟨_,rfl⟩,q⟩
theorem opI0{f:Value->Value->Sem Value}{g:Int->Int->Int}
 (rule:∀(i j:Int) (t u:Tok) (s:Shared) (Q:Value->Shared->Prop) (E:Value->Shared->Prop),Q (.int (g i j) s.toks) {s with toks:=s.toks+ 1} ->wpAny (model X.prog X.w) X.A (f (.int i t) (.int j u)) Q E s):
 cY X f (nE fun i j=> .int (g i j)):=by
 intro pins s σ H x y v u Q I rx ry h
 obtain⟨i,j,rfl,rfl,q⟩:=h
 obtain⟨t,rfl⟩:=rx
 obtain⟨t',rfl⟩:=ry
 exact rule i j t t' s _ _ ⟨.int (g i j),H,I.tok _,⟨_,rfl⟩,q⟩
theorem opB0{f:Value->Value->Sem Value}{g:Int->Int->Bool}
 (rule:∀(i j:Int) (t u:Tok) (s:Shared) (Q:Value->Shared->Prop) (E:Value->Shared->Prop),Q (.bool (g i j)) s->wpAny (model X.prog X.w) X.A (f (.int i t) (.int j u)) Q E s):
 cY X f (nE fun i j=> .bl (g i j)):=by
 intro pins s σ H x y v u Q I rx ry h
 obtain⟨i,j,rfl,rfl,q⟩:=h
 obtain⟨t,rfl⟩:=rx
 obtain⟨t',rfl⟩:=ry
 exact rule i j t t' s _ _ ⟨.bl (g i j),H,I,rfl,q⟩
def CDiv(i j:Int):Prop:=0<j/\j<1073741824
def CPow(i j:Int):Prop:=0<=j/\j<=1000000/\i.natAbs<2^ 64
def CMul(i j:Int):Prop:=(-(2^ 64)<i/\i<2^ 64)\/ (-(2^ 64)<j/\j<2^ 64)
theorem CMul.ok{i j:Int}(h:CMul i j):IntMulOk i j:=by
 rcases h with⟨h1,h2⟩|⟨h1,h2⟩
 ·exact .of_left (intBits_le_64 h1 h2)
 ·exact .of_right (intBits_le_64 h1 h2)
theorem lU:cY X (binaryOp .Add) (nE fun i j=> .int (i+ j)):=opI0 fun _ _ _ _ _ _ _ q=>add_int q
theorem lL:cY X (binaryOp .Sub) (nE fun i j=> .int (i- j)):=opI0 fun _ _ _ _ _ _ _ q=>sub_int q
theorem mM:cY X (binaryOp .Mult) (rI CMul fun i j=> .int (i* j)):=zE fun _ _ _ _ _ _ _ hc q=>mul_int q hc.ok
theorem oW:cY X (binaryOp .FloorDiv) (rI CDiv fun i j=> .int (i/ j)):=zE fun i j _ _ _ _ _ hc q=>by
 have h1:(0:Int)<j:=hc.1
 have h2:j<1073741824:=hc.2
 exact floordiv_int (by omega) (by rw[Int.fdiv_eq_ediv_of_nonneg i (by omega)];exact q) (.inl (PyProof.noPylong_small (by omega)))
theorem jA:cY X (binaryOp .Mod) (rI (fun _ j=>0<j) fun i j=> .int (i% j)):=zE fun i j _ _ _ _ _ hc q=>by
 have h1:(0:Int)<j:=hc
 exact mod_int' (by omega) (by rw[Int.fmod_eq_emod_of_nonneg i (by omega)];exact q)
theorem uC:cY X (binaryOp .Pow) (rI CPow fun i j=> .int (i^ j.toNat)):=zE fun _ _ _ _ _ _ _ hc q=>pow_int_small hc.1 hc.2.1 hc.2.2 q
theorem unI{f:Value->Sem Value}{g:Int->Int}
 (rule:∀(i:Int) (t:Tok) (s:Shared) (Q:Value->Shared->Prop) (E:Value->Shared->Prop),Q (.int (g i) s.toks) {s with toks:=s.toks+ 1} ->wpAny (model X.prog X.w) X.A (f (.int i t)) Q E s):
 UnR X f (rU fun i=> .int (g i)):=by
 intro pins s σ H x v Q I rx h
 obtain⟨i,rfl,q⟩:=h
 obtain⟨t,rfl⟩:=rx
 exact rule i t s _ _ ⟨.int (g i),H,I.tok _,⟨_,rfl⟩,q⟩
theorem a3e:UnR X (unaryOp .USub) (rU fun i=> .int (-i)):=unI fun _ _ _ _ _ q=>neg_int q
end
noncomputable def scal:V->V->Bool
 | .non,.non=>true| .non,.int _=>true| .int _,.non=>true| .non,.bl _=>true| .bl _,.non=>true| .non,.str _=>true| .str _,.non=>true
 | .int _,.int _=>true| .bl _,.bl _=>true| .str _,.str _=>true| .byt _,.byt _=>true
 | .int _,.str _=>true| .str _,.int _=>true| .bl _,.str _=>true| .str _,.bl _=>true
 |_,_=>false
noncomputable def rEq:R2:=fun x y H Q=>scal x y=true/\Q (.bl (decide (x=y))) H
noncomputable def rNe:R2:=fun x y H Q=>scal x y=true/\Q (.bl (!decide (x=y))) H
theorem a8g{i j:Int}:decide (V.int i=V.int j)=(i==j):=by
 rw[Bool.eq_iff_iff]
 simp
theorem b2o{i j:Bool}:decide (V.bl i=V.bl j)=(i==j):=by
 rw[Bool.eq_iff_iff]
 simp
theorem b3b{i j:Str}:decide (V.str i=V.str j)=(i==j):=by
 rw[Bool.eq_iff_iff]
 simp
theorem b1H{i j:Array UInt8}:decide (V.byt i=V.byt j)=(i.toList==j.toList):=by
 rw[Bool.eq_iff_iff]
 cases i
 cases j
 simp
section
variable{X:Cx}{a b c:Expr}{ta tb tc:TE}{pos:Pos}
theorem cX{pins:List (Addr×Obj)}{σ:St}{H:Hp}{s:Shared}{Q:VK}{k k':Bool}(I:Inv X pins σ H s)(q:Q (.bl k) H)(e:k=k'):EP X pins σ Q (.bool k') s:=by
 subst e
 exact⟨.bl k,H,I,rfl,q⟩
theorem lW:cY X (compareOp .Eq) rEq:=by
 intro pins s σ H x y v u Q I rx ry h
 obtain⟨hs,q⟩:=h
 cases x with
 |non=>
  cases rx
  cases y with
  |non=>cases ry;exact PySem.EqNone.eq_none_none (cX I q (by simp))
  |bl j=>cases ry;exact PySem.EqNone.eq_none_bool (cX I q (by simp))
  |int j=>obtain⟨t',rfl⟩:=ry;exact PySem.EqNone.eq_none_int (cX I q (by simp))
  |str j=>obtain⟨t',rfl⟩:=ry;exact PySem.EqNone.eq_none_str (cX I q (by simp))
  |_=>exact absurd (show false=true from hs) Bool.false_ne_true
 |bl i=>
  cases rx
  cases y with
  |non=>cases ry;exact PySem.EqNone.eq_bool_none (cX I q (by simp))
  |bl j=>cases ry;exact eq_bool (cX I q b2o)
  |str j=>obtain⟨t',rfl⟩:=ry;exact PySem.EqMixed.eq_bool_str (cX I q (by simp))
  |_=>exact absurd (show false=true from hs) Bool.false_ne_true
 |int i=>
  obtain⟨t,rfl⟩:=rx
  cases y with
  |non=>cases ry;exact PySem.EqNone.eq_int_none (cX I q (by simp))
  |int j=>obtain⟨t',rfl⟩:=ry;exact eq_int (cX I q a8g)
  |str j=>obtain⟨t',rfl⟩:=ry;exact PySem.EqMixed.eq_int_str (cX I q (by simp))
  |_=>exact absurd (show false=true from hs) Bool.false_ne_true
 |str i=>
  obtain⟨t,rfl⟩:=rx
  cases y with
  |non=>cases ry;exact PySem.EqNone.eq_str_none (cX I q (by simp))
  |bl j=>cases ry;exact PySem.EqMixed.eq_str_bool (cX I q (by simp))
  |int j=>obtain⟨t',rfl⟩:=ry;exact PySem.EqMixed.eq_str_int (cX I q (by simp))
  |str j=>obtain⟨t',rfl⟩:=ry;exact eq_str (cX I q b3b)
  |_=>exact absurd (show false=true from hs) Bool.false_ne_true
 |byt i=>
  obtain⟨t,rfl⟩:=rx
  cases y with
  |byt j=>obtain⟨t',rfl⟩:=ry;exact PySem.W.eq_bytes (cX I q b1H)
  |_=>exact absurd (show false=true from hs) Bool.false_ne_true
 |_=>cases y<;>exact absurd (show false=true from hs) Bool.false_ne_true
theorem qM:cY X (compareOp .NotEq) rNe:=by
 intro pins s σ H x y v u Q I rx ry h
 obtain⟨hs,q⟩:=h
 cases x with
 |non=>
  cases rx
  cases y with
  |non=>cases ry;exact PySem.EqNone.ne_none_none (cX I q (by simp))
  |bl j=>cases ry;exact PySem.EqNone.ne_none_bool (cX I q (by simp))
  |int j=>obtain⟨t',rfl⟩:=ry;exact PySem.EqNone.ne_none_int (cX I q (by simp))
  |str j=>obtain⟨t',rfl⟩:=ry;exact PySem.EqNone.ne_none_str (cX I q (by simp))
  |_=>exact absurd (show false=true from hs) Bool.false_ne_true
 |bl i=>
  cases rx
  cases y with
  |non=>cases ry;exact PySem.EqNone.ne_bool_none (cX I q (by simp))
  |bl j=>cases ry;exact ne_bool (cX I q (congrArg not b2o))
  |str j=>obtain⟨t',rfl⟩:=ry;exact PySem.EqMixed.ne_bool_str (cX I q (by simp))
  |_=>exact absurd (show false=true from hs) Bool.false_ne_true
 |int i=>
  obtain⟨t,rfl⟩:=rx
  cases y with
  |non=>cases ry;exact PySem.EqNone.ne_int_none (cX I q (by simp))
  |int j=>obtain⟨t',rfl⟩:=ry;exact ne_int (cX I q (congrArg not a8g))
  |str j=>obtain⟨t',rfl⟩:=ry;exact PySem.EqMixed.ne_int_str (cX I q (by simp))
  |_=>exact absurd (show false=true from hs) Bool.false_ne_true
 |str i=>
  obtain⟨t,rfl⟩:=rx
  cases y with
  |non=>cases ry;exact PySem.EqNone.ne_str_none (cX I q (by simp))
  |bl j=>cases ry;exact PySem.EqMixed.ne_str_bool (cX I q (by simp))
  |int j=>obtain⟨t',rfl⟩:=ry;exact PySem.EqMixed.ne_str_int (cX I q (by simp))
  |str j=>obtain⟨t',rfl⟩:=ry;exact ne_str (cX I q (congrArg not b3b))
  |_=>exact absurd (show false=true from hs) Bool.false_ne_true
 |byt i=>
  obtain⟨t,rfl⟩:=rx
  cases y with
  |byt j=>obtain⟨t',rfl⟩:=ry;exact PySem.W.ne_bytes (cX I q (congrArg not b1H))
  |_=>exact absurd (show false=true from hs) Bool.false_ne_true
 |_=>cases y<;>exact absurd (show false=true from hs) Bool.false_ne_true
theorem a0s:cY X (compareOp .Lt) (nE fun i j=> .bl (decide (i<j))):=opB0 fun _ _ _ _ _ _ _ q=>lt_int q
theorem nM:cY X (compareOp .LtE) (nE fun i j=> .bl (decide (i<=j))):=opB0 fun _ _ _ _ _ _ _ q=>le_int q
theorem b6W:cY X (compareOp .Gt) (nE fun i j=> .bl (decide (j<i))):=opB0 fun _ _ _ _ _ _ _ q=>gt_int q
theorem b0Y:cY X (compareOp .GtE) (nE fun i j=> .bl (decide (j<=i))):=opB0 fun _ _ _ _ _ _ _ q=>ge_int q
theorem b45:cY X (compareOp .In) (fun x y H Q=>∃i j,x= .str i/\y= .str j/\Q (.bl (!(Builtin.Str.occurrences j i 0 j.length 1).isEmpty)) H):=by
 intro pins s σ H x y v u Q I rx ry h
 obtain⟨i,j,rfl,rfl,q⟩:=h
 obtain⟨t,rfl⟩:=rx
 obtain⟨t',rfl⟩:=ry
 exact in_str (cX I q rfl)
theorem qU:cY X (compareOp .Is) (fun x y H Q=>y= .non/\Q (.bl (decide (x= .non))) H):=by
 intro pins s σ H x y v u Q I rx ry h
 obtain⟨rfl,q⟩:=h
 cases ry
 refine is_none_gen (cX I q ?_)
 cases x<;>first
  |(cases rx;rfl)
  |(obtain⟨t,rfl⟩:=rx;rfl)
theorem b53:cY X (compareOp .IsNot) (fun x y H Q=>y= .non/\Q (.bl (!decide (x= .non))) H):=by
 intro pins s σ H x y v u Q I rx ry h
 obtain⟨rfl,q⟩:=h
 cases ry
 refine isnot_none_gen (cX I q ?_)
 cases x<;>first
  |(cases rx;rfl)
  |(obtain⟨t,rfl⟩:=rx;rfl)
theorem cO(b:Expr){op:CmpOp}(h:op≠ .In:=by decide)(h2:op≠ .NotIn:=by decide):behindInMarks op b=false:=by
 have e1:(op==CmpOp.In)=false:=by cases op<;>first|rfl|exact absurd rfl h
 have e2:(op==CmpOp.NotIn)=false:=by cases op<;>first|rfl|exact absurd rfl h2
 cases b<;>simp[behindInMarks,e1,e2]
theorem mD{op:CmpOp}{r:R2}(ho:cY X (compareOp op) r)(ha:PE X a ta)(hb:PE X b tb)(hm:behindInMarks op b=false):PE X (.Compare a [op] [b] pos) (nO r ta tb):=by
 intro pins s σ H Q I h
 exact wpAny_Compare1 (binT ha hb I h fun v u s2 x y H2 I2 rx ry q=>ho pins s2 σ H2 x y v u Q I2 rx ry q) hm
def a0d(t:TE):TT:=fun σ H Q=>t σ H fun x H'=>∃k,x= .bl k/\Q k H'
theorem cJ{op:CmpOp}{r:R2}(ho:cY X (compareOp op) r)(ha:PE X a ta)(hb:PE X b tb)(hm:behindInMarks op b=false):PT X (.Compare a [op] [b] pos) (a0d (nO r ta tb)):=by
 intro pins s σ H Q I h
 refine wpAny_isTrue_Compare1 (aR (ha pins s σ H _ I h) fun v s1 ⟨x,H1,I1,r1,q1⟩=>aR (hb pins s1 σ H1 _ I1 q1) fun u s2 ⟨y,H2,I2,r2,q2⟩=>
  aR (ho pins s2 σ H2 x y v u _ I2 r1 r2 q2) fun c s3 ⟨z,H3,I3,r3,k,e,q3⟩=> ?_) hm
 subst e
 cases r3
 exact wpAny_truthy_bool ⟨H3,I3,q3⟩
def b49(r r':R2)(ta tb tc:TE):TE:=fun σ H Q=>ta σ H fun x H1=>tb σ H1 fun y H2=>r x y H2 fun z H3=>∃k,z= .bl k/\
 (if k=true then tc σ H3 fun w' H4=>r' y w' H4 Q else Q (.bl false) H3)
theorem a2S{op op':CmpOp}{r r':R2}(ho:cY X (compareOp op) r)(ho':cY X (compareOp op') r')(ha:PE X a ta)(hb:PE X b tb)(hc:PE X c tc)
 (hm:lastMarks [op,op'] [b,c]=false:=by with_unfolding_all rfl):PT X (.Compare a [op,op'] [b,c] pos) (a0d (b49 r r' ta tb tc)):=by
 intro pins s σ H Q I h
 refine isTrue_chain (aR (ha pins s σ H _ I h) fun v s1 ⟨x,H1,I1,r1,q1⟩=>test_link (aR (hb pins s1 σ H1 _ I1 q1) fun u s2 ⟨y,H2,I2,r2,q2⟩=>
  aR (ho pins s2 σ H2 x y v u _ I2 r1 r2 q2) fun d s3 ⟨z,H3,I3,r3,k,e,q3⟩=> ?_)) hm
 subst e
 cases r3
 refine wpAny_truthy_bool ?_
 cases k with
 |false=>
  obtain⟨k',e',q'⟩:=q3
  cases e'
  exact ite_ff ⟨H3,I3,q'⟩
 |true=>
  refine ite_tt (test_last (aR (hc pins s3 σ H3 _ I3 q3) fun w' s4 ⟨z',H4,I4,r4,q4⟩=>aR (ho' pins s4 σ H4 y z' u w' _ I4 r2 r4 q4) fun d' s5 ⟨z2,H5,I5,r5,k2,e2,q5⟩=> ?_))
  subst e2
  cases r5
  exact wpAny_truthy_bool ⟨H5,I5,q5⟩
def TruV(K:Fg)(x:V)(H:Hp)(k:Bool):Prop:=
 match x with
 | .non=>k=false
 | .bl b=>k=b
 | .int i=>k=(i !=0)
 | .str y=>y.length<=sizeLine/\k=((y.length:Int) !=0)
 | .byt y=>y.size<=sizeLine/\k=((y.size:Int) !=0)
 | .ref p=>(∃xs,aL K H p xs/\k= !xs.isEmpty)\/ (∃xs,bU K H p xs/\k= !xs.isEmpty)\/ ∃kvs,H p=some (.dK kvs)/\k= !kvs.isEmpty
 |_=>False
theorem b9Y{κ:Type}{kvs:List (κ×V)}{vs:List (κ×Value)}(r:KV kvs vs):(!vs.isEmpty)= !kvs.isEmpty:=by
 cases r<;>rfl
theorem b30{xs:List V}{its:List Value}(r:bH xs its):(!its.toArray.isEmpty)= !xs.isEmpty:=by
 cases r<;>simp
theorem wD:(sizeLine:Nat)<2^ 63:=by rw[sizeLine_eq];decide
theorem b4s:TruR X (fun x H Q=>∃k,TruV X.K x H k/\Q k H):=by
 intro pins s σ H x v Q I rx h
 obtain⟨k,e,q⟩:=h
 have hl:=wD
 have hs:sizeLine=16777216:=sizeLine_eq
 cases x with
 |non=>
  cases rx
  have e':k=false:=e
  subst e'
  exact truthy_none ⟨H,I,q⟩
 |bl b=>
  cases rx
  have e':k=b:=e
  subst e'
  exact wpAny_truthy_bool ⟨H,I,q⟩
 |int i=>
  obtain⟨t,rfl⟩:=rx
  have e':k=(i !=0):=e
  subst e'
  exact PySem.P.truthy_int ⟨H,I,q⟩
 |str y=>
  obtain⟨t,rfl⟩:=rx
  obtain⟨hy,e'⟩:y.length<=sizeLine/\k=((y.length:Int) !=0):=e
  subst e'
  exact PySem.P.truthy_str (by omega) ⟨H,I.tok _,q⟩
 |byt y=>
  obtain⟨t,rfl⟩:=rx
  obtain⟨hy,e'⟩:y.size<=sizeLine/\k=((y.size:Int) !=0):=e
  subst e'
  exact PySem.W.truthy_bytes (by omega) ⟨H,I.tok _,q⟩
 |ref p=>
  cases rx
  have e':(∃xs,aL X.K H p xs/\k= !xs.isEmpty)\/ (∃xs,bU X.K H p xs/\k= !xs.isEmpty)\/ ∃kvs,H p=some (.dK kvs)/\k= !kvs.isEmpty:=e
  rcases e' with⟨xs,hx,e'⟩|⟨xs,hx,e'⟩|⟨kvs,hx,e'⟩
  ·subst e'
   obtain⟨its,r,pl,hz⟩:=I.list hx
   have hlen:=r.length
   exact wpAny_truthy_list pl.isList (by simp only[List.size_toArray];omega) ⟨H,I.tok _,by rw[b30 r];exact q⟩
  ·subst e'
   obtain⟨its,r,pl,hz⟩:=I.tuple hx
   have hlen:=r.length
   exact truthy_tuple pl (by simp only[List.size_toArray];omega) ⟨H,I.tok _,by rw[b30 r];exact q⟩
  ·subst e'
   obtain⟨hz,hS,vs,r,m⟩:kvs.length<=sizeLine/\(p==sysModules)=false/\∃vs,KV kvs vs/\s.heap.DictOf (fQ X.prog X.w) p vs:=I.hok p _ hx
   have hlen:kvs.length=vs.length:=Paired.length r
   exact wpAny_truthy_dict hS m (by omega) ⟨H,I.tok _,by rw[b9Y r];exact q⟩
 |_=>exact(show False from e).elim
theorem b2Y(ha:PE X a ta)(he:∀whole,isTrue a X.env whole=(do let v<- whole;standAt a.pos;holding [v] (truthy v))):
 PT X a (fun σ H Q=>ta σ H fun x H'=>∃k,TruV X.K x H' k/\Q k H'):=by
 intro pins s σ H Q I h
 exact isTrue_plain (aR (ha pins s σ H _ I h) fun v s1 ⟨x,H1,I1,r1,q1⟩=>b4s pins s1 σ H1 x v Q I1 r1 q1) (he _)
theorem b8G:cY X (binaryOp .Add) (fun x y H Q=>∃i j,x= .str i/\y= .str j/\i.length+ j.length<=sizeLine/\Q (.str (i++ j)) H):=by
 intro pins s σ H x y v u Q I rx ry h
 obtain⟨i,j,rfl,rfl,hz,q⟩:=h
 obtain⟨t,rfl⟩:=rx
 obtain⟨t',rfl⟩:=ry
 exact add_str (fun t' tk=>⟨.str (i++ j),H,I.tok _,⟨_,rfl⟩,q⟩) hz
theorem nB{x:V}{us:List Value}(r:bH [x] us):∃u,us= [u] /\bI x u:=by
 cases r with
 |cons r1 r2=>cases r2;exact⟨_,rfl,r1⟩
theorem b52{x y:V}{us:List Value}(r:bH [x,y] us):∃u w',us= [u,w'] /\bI x u/\bI y w':=by
 cases r with
 |cons r1 r2=>
  cases r2 with
  |cons r3 r4=>cases r4;exact⟨_,_,rfl,r1,r3⟩
theorem b4q:jC X (.builtin "abs") (fun xs H Q=>∃i,xs= [.int i] /\Q (.int (if i<0 then-i else i)) H):=by
 intro pins s σ H xs us Q I r h
 obtain⟨i,rfl,q⟩:=h
 obtain⟨u,rfl,t,rfl⟩:=nB r
 exact call_abs_int fun u tk=>⟨.int (if i<0 then-i else i),H,I.tok _,⟨_,rfl⟩,q⟩
theorem c0n(hc:X.calm=true):jC X (.builtin "max") (fun xs H Q=>∃i j,xs= [.int i,.int j] /\Q (.int (if j>i then j else i)) H):=by
 intro pins s σ H xs us Q I r h
 obtain⟨i,j,rfl,q⟩:=h
 obtain⟨u,w',rfl,⟨t,rfl⟩,⟨t',rfl⟩⟩:=b52 r
 refine max_two_ints (I.ok.hd hc) fun h' tk k=>⟨_,H,I.kept k,?_,q⟩
 by_cases hj:j>i
 ·rw[if_pos hj,if_pos hj];exact⟨_,rfl⟩
 ·rw[if_neg hj,if_neg hj];exact⟨_,rfl⟩
theorem c0v:jC X (.type "int") (fun xs H Q=>(∃i,xs= [.int i] /\Q (.int i) H)\/ ∃k,xs= [.bl k] /\Q (.int (if k then 1 else 0)) H):=by
 intro pins s σ H xs us Q I r h
 rcases h with⟨i,rfl,q⟩|⟨k,rfl,q⟩
 ·obtain⟨u,rfl,t,rfl⟩:=nB r
  exact call_int_int ⟨.int i,H,I,⟨_,rfl⟩,q⟩
 ·obtain⟨u,rfl,r1⟩:=nB r
  cases r1
  exact call_int_bool ⟨.int (if k then 1 else 0),H,I.tok _,⟨_,rfl⟩,q⟩
def LenV(K:Fg)(x:V)(H:Hp)(n:Nat):Prop:=
 match x with
 | .str y=>y.length<=sizeLine/\n=y.length
 | .byt y=>y.size<=sizeLine/\n=y.size
 | .ref p=>(∃xs,aL K H p xs/\n=xs.length)\/ ∃xs,bU K H p xs/\n=xs.length
 |_=>False
theorem fX:jC X (.builtin "len") (fun xs H Q=>∃x n,xs= [x] /\LenV X.K x H n/\Q (.int n) H):=by
 intro pins s σ H xs us Q I r h
 obtain⟨x,n,rfl,e,q⟩:=h
 obtain⟨u,rfl,rx⟩:=nB r
 have hl:=wD
 have hs:sizeLine=16777216:=sizeLine_eq
 cases x with
 |str y=>
  obtain⟨t,rfl⟩:=rx
  obtain⟨hy,e'⟩:y.length<=sizeLine/\n=y.length:=e
  subst e'
  exact len_str (by omega) ⟨.int _,H,I.tok _,⟨_,rfl⟩,q⟩
 |byt y=>
  obtain⟨t,rfl⟩:=rx
  obtain⟨hy,e'⟩:y.size<=sizeLine/\n=y.size:=e
  subst e'
  exact PySem.W.len_bytes (by omega) ⟨.int _,H,I.tok _,⟨_,rfl⟩,q⟩
 |ref p=>
  cases rx
  have e':(∃xs,aL X.K H p xs/\n=xs.length)\/ ∃xs,bU X.K H p xs/\n=xs.length:=e
  rcases e' with⟨xs,hx,e'⟩|⟨xs,hx,e'⟩
  ·subst e'
   obtain⟨its,r',pl,hz⟩:=I.list hx
   have hlen:=r'.length
   exact Calls.call_len_list pl.isList (by simp only[List.size_toArray];omega) ⟨.int xs.length,H,I.tok _,⟨_,by simp only[List.size_toArray];rw[hlen]⟩,q⟩
  ·subst e'
   obtain⟨its,r',pl,hz⟩:=I.tuple hx
   have hlen:=r'.length
   exact len_tuple pl (by simp only[List.size_toArray];omega) ⟨.int xs.length,H,I.tok _,⟨_,by simp only[List.size_toArray];rw[hlen]⟩,q⟩
 |_=>exact(show False from e).elim
end
structure oH(h:Heap)(x dx C:Addr)(mA:Str->Option Value):Prop where
 obj:h.get? x=some (PySem.W.instObj C dx)
 ns:h.Ns1 dx mA
 ne:dx≠x
theorem b5w{h:Heap}{dx:Addr}{mA:Str->Option Value}(n:h.Ns1 dx mA):∃od,h.get? dx=some od/\∀name,PySem.W.lookIn name od=some (mA name):=by
 obtain⟨o,es,ep,ho,hd,hk,_,hm⟩:=n
 refine⟨o,ho,fun name=> ?_⟩
 have e:=hm name
 unfold nsFind findBy at e
 rw[<- Array.find?_toList]at e
 unfold PySem.W.lookIn
 rw[hd]
 dsimp only
 split
 ·rename_i y q
  rw[q]at e
  exact congrArg some e
 ·rename_i q
  rw[q]at e
  have a:es.toList.any (·.refKey)=false:=by
   rw[List.any_eq_false]
   intro y hy
   obtain⟨z,t,hkey⟩:=hk y (Array.mem_toList_iff.mp hy)
   simp[DictEntry.refKey,hkey]
  have a':¬es.toList.any (·.refKey)=true:=by rw[a];exact Bool.false_ne_true
  rw[if_neg a']
  exact congrArg some e
theorem oH.look{h:Heap}{x dx C:Addr}{mA:Str->Option Value}(I:oH h x dx C mA):∃od,PySem.W.InstAt h x (PySem.W.instObj C dx) C (some od)/\∀name,PySem.W.lookIn name od=some (mA name):=
 let ⟨od,ho,hl⟩:=b5w I.ns
 ⟨od,⟨I.obj,rfl,rfl,ho⟩,hl⟩
section
variable{prog:Program}{w:World}{A:Around}{E:Value->Shared->Prop}{s:Shared}{K:Fg}{x dx C f:Addr}{mA:Str->Option Value}{name:Str}{v:Value}
theorem b6X{expr:Bool}{Q:Value->Shared->Prop}(X:K.In s.heap)(I:oH s.heap x dx C mA)(hg:PySem.W.plainGet K C name=true)(hh:PySem.W.hasDictIn K C=true)
 (ha:PySem.W.findIn K (.ref C) name=some none)(hv:mA name=some v)(hv':PySem.W.handedIn v=true)(h:Q v {s with toks:=s.toks+ 1}):
 wpAny (model prog w) A (getAttr (.ref x) name expr) Q E s:=by
 obtain⟨od,J,hl⟩:=I.look
 exact PySem.W.get_value X J (PySem.W.plainGet_of hg).1 (PySem.W.findObj_own hh ha rfl (by rw[hl,hv])) hv' h
theorem b6s{pl:Sem Bool}{Q:Value×List Value->Shared->Prop}(X:K.In s.heap)(I:oH s.heap x dx C mA)(hg:PySem.W.plainGet K C name=true)
 (hf:PySem.W.findIn K (.ref C) name=some (some (.ref f)))(ht:PySem.W.isFn K (.ref f)=true)(hv:mA name=none)(h:Q (.ref f,[.ref x]) s):
 wpAny (model prog w) A (getMethod (.ref x) name pl) Q E s:=by
 obtain⟨od,J,hl⟩:=I.look
 exact PySem.W.method_fn X J (PySem.W.plainGet_of hg).1 (PySem.W.plainGet_of hg).2 hf (beq_iff_eq.mp ht) (by show(PySem.W.lookIn name od).map (·.isSome)=some false;rw[hl,hv];rfl) h
theorem b8U{ns:List Str}{Q:Unit->Shared->Prop}(X:K.In s.heap)(I:oH s.heap x dx C mA)
 (hs:PySem.W.findIn K (.ref C) "__setattr__"=some (some (.builtin "object.__setattr__")))(hp:PySem.W.plainOver K C=true)(ht:PySem.W.takerIn K C name=some none)(hh:PySem.W.hasDictIn K C=true)
 (hw:PySem.Within mA ns)(hsz:ns.length<=sizeLine)
 (h:∀h',oH h' x dx C (fun y=>if y=name then some v else mA y)->Heap.SameBut dx s.heap h'->Q () {s with heap:=h',toks:=s.toks+ 2}):
 wpAny (model prog w) A (setAttr (.ref x) name v) Q E s:=by
 obtain⟨od,J,hl⟩:=I.look
 refine PySem.W.set_plain X J hs (PySem.W.osa_open (s:={s with toks:=s.toks+ 1}) (r:=none) X J hp ht fun b=> ?_)
 obtain⟨cd,hc,hd'⟩:=PySem.W.any_some hh
 have hx:s.heap.get? x=some ⟨.ref C,some dx,.plain,#[]⟩:=I.obj
 refine wpAny_bind (wpAny_pure (wpAny_bind (wpAny_bind (wpAny_loadPart hx (wpAny_bind (PySem.W.Looks.here (s:={s with toks:=s.toks+ 1}) (PySem.W.looks_clsIn X hc) ?_))))))
 rw[hd']
 refine wpAny_pure (a:=some dx) (wpAny_bind (wpAny_pure (wpAny_bind ?_)))
 refine wpAny_nsSet1 (s:={s with toks:=s.toks+ 1}) I.ns fun h' hn2 hs2=> ?_
 obtain⟨oD,esD,epD,hoD,hdD,hcD⟩:=hn2.count (PySem.Within.cons name v hw)
 refine wpAny_bind (wpAny_lookBehind hoD (by rw[hdD];exact pastItsLine_dict (Nat.le_trans hcD (by rw[List.length_cons];omega))) ?_)
 exact wpAny_pure (h _ ⟨(hs2.2 _ (Ne.symm I.ne)).trans I.obj,hn2,I.ne⟩ hs2)
theorem b6R{R:Result->Shared->Prop}{vs:List Value}{kw:List (Str×Value)}(X:K.In s.heap)(hm:PySem.W.makesIn K C=true)
 (hi:PySem.W.findIn K (.ref C) "__init__"=some (some (.ref f)))(hf:PySem.W.typeIn K (.ref f)=some (.type "function"))
 (h:codeAny (model prog w) (A.under (.builtin "type.__call__" ⟨.ref C::vs,kw⟩)) (.call (.ref f) ⟨.ref (s.heap.objs.size+ 1)::vs,kw⟩) (PySem.W.InitBack (s.heap.objs.size+ 1) R)
  {s with heap:=(s.heap.push PySem.W.emptyDict).push (PySem.W.instObj C s.heap.objs.size)}):
 codeAny (model prog w) A (.call (.ref C) ⟨vs,kw⟩) R s:=by
 obtain⟨hh,g,d,t,os⟩:=s
 exact PySem.W.make_core (PySem.W.makes_of X hm) (PySem.W.looks_findIn X hi) (fun self=>PySem.W.bind_fn X self hf) (.inl rfl) h
end
noncomputable def aQ (f:Str) (v:V):List (Str×V)->List (Str×V)
 | []=> [(f,v)]
 |(g,x)::r=>if g=f then(g,v)::r else(g,x)::aQ f v r
theorem b2B(f g:Str)(v:V):∀fs:List (Str×V),(aQ f v fs).lookup g=if g=f then some v else fs.lookup g
 | []=>by
  show List.lookup g [(f,v)]=_
  by_cases h:g=f
  ·have hb:(g==f)=true:=beq_iff_eq.mpr h
   simp only[List.lookup,hb,if_pos h]
  ·have hb:(g==f)=false:=beq_eq_false_iff_ne.mpr h
   simp only[List.lookup,hb,if_neg h]
 |(k,x)::r=>by
  have ih:=b2B f g v r
  rw[show aQ f v ((k,x)::r)=(if k=f then(k,v)::r else(k,x)::aQ f v r) from rfl]
  by_cases hk:k=f
  ·rw[if_pos hk]
   by_cases h:g=k
   ·have hb:(g==k)=true:=beq_iff_eq.mpr h
    simp only[List.lookup,hb,if_pos (h.trans hk)]
   ·have hb:(g==k)=false:=beq_eq_false_iff_ne.mpr h
    simp only[List.lookup,hb,if_neg (fun e:g=f=>h (e.trans hk.symm))]
  ·rw[if_neg hk]
   by_cases h:g=k
   ·have hb:(g==k)=true:=beq_iff_eq.mpr h
    simp only[List.lookup,hb,if_neg (fun e:g=f=>hk (h.symm.trans e))]
   ·have hb:(g==k)=false:=beq_eq_false_iff_ne.mpr h
    simp only[List.lookup,hb]
    exact ih
theorem a3X(f:Str)(v:V):∀fs:List (Str×V),f∈(aQ f v fs).map (·.1)/\∀g,g∈fs.map (·.1)->g∈(aQ f v fs).map (·.1)
 | []=>⟨by simp[aQ],fun g h=>by simp at h⟩
 |(k,x)::r=>by
  obtain⟨i1,i2⟩:=a3X f v r
  rw[show aQ f v ((k,x)::r)=(if k=f then(k,v)::r else(k,x)::aQ f v r) from rfl]
  by_cases hk:k=f
  ·rw[if_pos hk]
   subst hk
   exact⟨by simp,fun g h=>by simpa using h⟩
  ·rw[if_neg hk]
   refine⟨?_,fun g h=> ?_⟩
   ·rw[List.map_cons]
    exact List.mem_cons_of_mem _ i1
   ·rw[List.map_cons]at h|-
    rcases List.mem_cons.mp h with e|e
    ·exact List.mem_cons.mpr (.inl e)
    ·exact List.mem_cons_of_mem _ (i2 g e)
theorem b4b(f:Str)(v:V):∀fs:List (Str×V),(aQ f v fs).length<=fs.length+ 1
 | []=>by simp[aQ]
 |(k,x)::r=>by
  have ih:=b4b f v r
  rw[show aQ f v ((k,x)::r)=(if k=f then(k,v)::r else(k,x)::aQ f v r) from rfl]
  by_cases hk:k=f
  ·rw[if_pos hk,List.length_cons,List.length_cons];omega
  ·rw[if_neg hk,List.length_cons,List.length_cons];omega
theorem fR.some_of{v:V}{o:Option Value}(r:fR (some v) o):∃u,o=some u/\bI v u:=by
 cases o with
 |none=>exact(show False from r).elim
 |some u=>exact⟨u,rfl,r⟩
theorem fR.none_of{o:Option Value}(r:fR none o):o=none:=by
 cases o with
 |none=>rfl
 |some u=>exact(show False from r).elim
theorem b8P{v:V}{u:Value}(r:bI v u):PySem.W.handedIn u=true:=by
 cases v with
 |non=>cases (show u=Value.none from r);rfl
 |bl b=>cases (show u=Value.bool b from r);rfl
 |int i=>obtain⟨t,e⟩:=(show∃t,u=Value.int i t from r);cases e;rfl
 |str x=>obtain⟨t,e⟩:=(show∃t,u=Value.str x t from r);cases e;rfl
 |byt b=>obtain⟨t,e⟩:=(show∃t,u=Value.bytes b t from r);cases e;rfl
 |flt b=>obtain⟨t,e⟩:=(show∃t,u=Value.float b t from r);cases e;rfl
 |ref a=>cases (show u=Value.ref a from r);rfl
 |ty n=>cases (show u=Value.type n from r);rfl
section
variable{P:Program}{w:World}{H H':Hp}{h h':Heap}{a C dx:Addr}{fs fs':List (Str×V)}
theorem rZ(hok:cA P w H h)(e:H a=some (.ins C dx fs)):∃mA,oH h a dx C mA/\(∀f,fR (fs.lookup f) (mA f))/\PySem.Within mA (fs.map (·.1))/\fs.length<=1000/\H dx=some (.own a):=by
 obtain⟨d,z,ne,ob,mA,n,r,q⟩:=(show cV P w H h a (.ins C dx fs) from hok a _ e)
 exact⟨mA,⟨ob,n,ne⟩,r,q,z,d⟩
end
structure bX(K:Fg)(C:Addr):Prop where
 pg:PySem.W.plainGet K C Str.empty=true
 hd:PySem.W.hasDictIn K C=true
 po:PySem.W.plainOver K C=true
 sa:PySem.W.findIn K (.ref C) "__setattr__"=some (some (.builtin "object.__setattr__"))
theorem bX.get{K:Fg}{C:Addr}(c:bX K C)(f:Str):PySem.W.plainGet K C f=true:=c.pg
def cE(K:Fg)(C:Addr)(f:Str):Prop:=PySem.W.findIn K (.ref C) f=some none
theorem cE.taker{K:Fg}{C:Addr}{f:Str}(n:cE K C f):PySem.W.takerIn K C f=some none:=by
 unfold PySem.W.takerIn
 rw[show PySem.W.findIn K (.ref C) f=some none from n]
 rfl
structure Con(K:Fg)(C:Addr)(f:Str)(v:V)(u:Value):Prop where
 at_:PySem.W.findIn K (.ref C) f=some (some u)
 rel:bI v u
 get:PySem.W.specialIn K u "__get__"=some none
 cp:PySem.W.copiedNames.contains f=false
structure wB(K:Fg)(C:Addr)(m:Str)(f:Addr):Prop where
 at_:PySem.W.findIn K (.ref C) m=some (some (.ref f))
 fn:PySem.W.isFn K (.ref f)=true
 kp:PySem.W.keepIn K (.ref f)=true
section
variable{X:Cx}{pins:List (Addr×Obj)}{σ:St}{H:Hp}{s:Shared}{a C dx:Addr}{fs:List (Str×V)}{f:Str}{v:V}{A:Around}{E:Value->Shared->Prop}
theorem b20{b:Bool}{Q:Value->Shared->Prop}(I:Inv X pins σ H s)(e:H a=some (.ins C dx fs))(c:bX X.K C)(n:cE X.K C f)(l:fs.lookup f=some v)
 (h:∀u s',Inv X pins σ H s'->bI v u->Q u s'):wpAny (model X.prog X.w) A (getAttr (.ref a) f b) Q E s:=by
 obtain⟨mA,O,r,_,_,_⟩:=rZ I.hok e
 obtain⟨u,hu,ru⟩:=fR.some_of (v:=v) (o:=mA f) (by rw[<- l];exact r f)
 exact b6X I.kIn O (c.get f) c.hd n hu (b8P ru) (h u _ (I.tok _) ru)
theorem rT{m:Str}{g:Addr}{pl:Sem Bool}{Q:Value×List Value->Shared->Prop}(I:Inv X pins σ H s)(e:H a=some (.ins C dx fs))(c:bX X.K C)(k:wB X.K C m g)(l:fs.lookup m=none)
 (h:Q (.ref g,[.ref a]) s):wpAny (model X.prog X.w) A (getMethod (.ref a) m pl) Q E s:=by
 obtain⟨mA,O,r,_,_,_⟩:=rZ I.hok e
 have hn:mA m=none:=fR.none_of (by rw[<- l];exact r m)
 exact b6s I.kIn O (c.get m) k.at_ k.fn hn h
theorem b6q{y:V}{u:Value}{Q:Unit->Shared->Prop}(I:Inv X pins σ H s)(e:H a=some (.ins C dx fs))(c:bX X.K C)(n:cE X.K C f)(hl:fs.length<1000)(ry:bI y u)
 (h:∀s',Inv X pins σ (upd H a (.ins C dx (aQ f y fs))) s'->Q () s'):wpAny (model X.prog X.w) A (setAttr (.ref a) f u) Q E s:=by
 obtain⟨mA,O,r,wi,_,ho⟩:=rZ I.hok e
 have hz:(fs.map (·.1)).length<=sizeLine:=by rw[List.length_map,sizeLine_eq];omega
 refine b8U I.kIn O c.sa c.po n.taker c.hd wi hz fun h' O' sb=>h _ ?_
 have hd:∃o,h'.get? dx=some o:=let ⟨o,_,_,e',_⟩:=O'.ns;⟨o,e'⟩
 refine I.write (x:=a) (e:=dx) (by rw[e];exact True.intro) (.inr ho) (fun b q hb z=>(sb.2 b hb).trans z) hd ?_
 refine⟨by rw[aH O.ne];exact ho,?_,O.ne,O'.obj,_,O'.ns,fun g=> ?_,fun g hg=> ?_⟩
 ·have:=b4b f y fs;omega
 ·show fR ((aQ f y fs).lookup g) (if g=f then some u else mA g)
  rw[b2B]
  by_cases q:g=f
  ·rw[if_pos q,if_pos q];exact ry
  ·rw[if_neg q,if_neg q];exact r g
 ·by_cases q:g=f
  ·rw[q];exact(a3X f y fs).1
  ·refine(a3X f y fs).2 g (wi g fun z=>hg ?_)
   show(if g=f then some u else mA g)=none
   rw[if_neg q];exact z
theorem Inv.made(I:Inv X pins σ H s):Inv X pins σ (upd (upd H s.heap.objs.size (.own (s.heap.objs.size+ 1))) (s.heap.objs.size+ 1) (.ins C s.heap.objs.size []))
 {s with heap:=(s.heap.push PySem.W.emptyDict).push (PySem.W.instObj C s.heap.objs.size)}:=by
 have e1:(s.heap.push PySem.W.emptyDict).get? s.heap.objs.size=some PySem.W.emptyDict:=Heap.get?_push_size s.heap rfl
 have e2:((s.heap.push PySem.W.emptyDict).push (PySem.W.instObj C s.heap.objs.size)).get? (s.heap.objs.size+ 1)=some (PySem.W.instObj C s.heap.objs.size):=by
  have:=Heap.get?_push_size (s.heap.push PySem.W.emptyDict) (o:=PySem.W.instObj C s.heap.objs.size) rfl
  rwa [Heap.size_push]at this
 have e3:(s.heap.push PySem.W.emptyDict).Ns s.heap.objs.size (fun _=>none):=⟨PySem.W.emptyDict,#[],_,e1,rfl,(fun e he=>absurd he (by simp)),fun _=>rfl⟩
 have I1:=I.laid (a:=s.heap.objs.size) (o:=.own (s.heap.objs.size+ 1)) (h':=s.heap.push PySem.W.emptyDict) (t':=s.toks) (fun b u q=>Heap.get?_push_of_some _ q) (Nat.le_refl _) ⟨_,e1⟩
 refine I1.laid (a:=s.heap.objs.size+ 1) (o:=.ins C s.heap.objs.size []) (t':=s.toks) (fun b u q=>Heap.get?_push_of_some _ q) (Nat.le_of_eq (Heap.size_push _ _)) ?_
 have ne:s.heap.objs.size≠s.heap.objs.size+ 1:=Nat.ne_of_lt (Nat.lt_succ_self _)
 refine⟨by rw[aH ne,aK],Nat.zero_le _,ne,e2,fun _=>none,(Heap.Ns1.of_empty e3).at fun o q=>Heap.get?_push_of_some _ q,fun _=>True.intro,fun y hy=>absurd rfl hy⟩
theorem b5Y{prog:Program}{w:World}{env:Env}{e:Expr}{f:Str}{pos:Pos}{s:Shared}{Q:Value->Shared->Prop}(hb:attributeBase e f env (eval e env)=eval e env)
 (h:wpAny (model prog w) A (eval e env) (fun o s₁=>wpAny (model prog w) A (getAttr o f true) Q E s₁) E s):wpAny (model prog w) A (eval (.Attribute e f pos) env) Q E s:=
 Attribute_any_ h (by rw[arm_eval_Attribute,hb])
end
def tFld(K:Fg)(ta:TE)(f:Str):TE:=fun σ H Q=>ta σ H fun x H1=>∃a C dx fs v,x= .ref a/\H1 a=some (.ins C dx fs)/\bX K C/\cE K C f/\fs.lookup f=some v/\Q v H1
def sFld(K:Fg)(ta tv:TE)(f:Str):TS:=fun D σ H=>tv σ H fun y H1=>ta σ H1 fun x H2=>∃a C dx fs,x= .ref a/\H2 a=some (.ins C dx fs)/\bX K C/\cE K C f/\fs.length<1000/\
 D.nx σ (upd H2 a (.ins C dx (aQ f y fs)))
section
variable{X:Cx}{o e value:Expr}{f:Str}{pos pos' tpos:Pos}{ta tv:TE}
theorem aX(he:PE X e ta)(hb:attributeBase e f X.env (eval e X.env)=eval e X.env):PE X (.Attribute e f pos) (tFld X.K ta f):=by
 intro pins s σ H Q I h
 refine b5Y hb (aR (he pins s σ H _ I h) fun u s1 ⟨x,H1,I1,rx,a,C,dx,fs,v,ex,ea,c,n,l,q⟩=> ?_)
 subst ex
 obtain rfl:u=Value.ref a:=rx
 exact b20 I1 ea c n l fun u' s2 I2 ru=>⟨v,H1,I2,ru,q⟩
theorem cM(ha:PE X o ta)(hv:PE X value tv)(hs:swapsWith value (some (.Attribute o f pos')) pos.line X.env=pure false):PS X (.Assign [.Attribute o f pos'] value pos) (sFld X.K ta tv f):=by
 intro pins s σ H D I h
 refine plainObj_wpAny_Assign_Attribute (aR (hv pins s σ H _ I h) fun u s1 ⟨y,H1,I1,ry,q⟩=>aR (ha pins s1 σ H1 _ I1 q) fun ov s2 ⟨x,H2,I2,rx,a,C,dx,fs,ex,ea,c,n,l,q2⟩=> ?_) hs
 subst ex
 obtain rfl:ov=Value.ref a:=rx
 exact b6q I2 ea c n l ry fun s3 I3=>⟨σ,_,I3,q2⟩
theorem methcall_of{pl:Sem Bool}{m:Str}{apos:Pos}{args:List Expr}{pins:List (Addr×Obj)}{s:Shared}{σ:St}{H:Hp}{Q:Value->Shared->Prop}{te:TE}(he:PE X e te)(I:Inv X pins σ H s)
 (h:te σ H fun x H1=>∃a C dx fs g,x= .ref a/\H1 a=some (.ins C dx fs)/\bX X.K C/\wB X.K C m g/\fs.lookup m=none/\
  ∀s1,Inv X pins σ H1 s1->wpAny (model X.prog X.w) X.A (callWith pos (.ref g) [.ref a] (backTo pos (starEach args X.env)) (backToKw pos (keywordEach [] X.env))) Q X.xe s1)
 (ht:eval (.Call (.Attribute e m apos) args [] pos) X.env=(do
  let ov<- eval e X.env
  standAt apos.atName
  let (f,first)<- holding [ov] (getMethod ov m pl)
  callWith pos f first (backTo pos (starEach args X.env)) (backToKw pos (keywordEach [] X.env)))):
 wpAny (model X.prog X.w) X.A (eval (.Call (.Attribute e m apos) args [] pos) X.env) Q X.xe s:=by
 refine PySem.W.methodCall_KW (pl:=pl) (aR (he pins s σ H _ I h) fun u s1 ⟨x,H1,I1,rx,a,C,dx,fs,g,ex,ea,c,k,l,q⟩=> ?_) ht
 subst ex
 obtain rfl:u=Value.ref a:=rx
 exact rT I1 ea c k l (q s1 I1)
end
section
variable{X:Cx}{pins:List (Addr×Obj)}{σ:St}{H:Hp}{s:Shared}{A:Around}{E:Value->Shared->Prop}{Q:Value->Shared->Prop}{c:Value}{b:Bool}
inductive gN(K:Fg)(H:Hp):V->Value->Prop where
 |non:gN K H .non (.type "NoneType")
 |bl (x:Bool):gN K H (.bl x) (.type "bool")
 |int (i:Int):gN K H (.int i) (.type "int")
 |str (x:Str):gN K H (.str x) (.type "str")
 |flt (x:UInt64):gN K H (.flt x) (.type "float")
 |lst {a:Addr} {xs:List V} (e:H a=some (.lst xs)):gN K H (.ref a) (.type "list")
 |frz {a:Addr} {o:Obj} {xs:List V} (e:H a=some (.frz o (.lst xs))):gN K H (.ref a) (.type "list")
 |tup {a:Addr} {xs:List V} (e:H a=some (.tup xs)):gN K H (.ref a) (.type "tuple")
 |dK {a:Addr} {kvs:List (aC×V)} (e:H a=some (.dK kvs)):gN K H (.ref a) (.type "dict")
 |dT {a:Addr} {kvs:List (List aC×V)} (e:H a=some (.dT kvs)):gN K H (.ref a) (.type "dict")
 |ins {a C dx:Addr} {fs:List (Str×V)} (e:H a=some (.ins C dx fs)) (cl:bX K C) (ha:PySem.W.findIn K (.ref C) "__class__"=some (some (.builtin "object.__class__")))
  (hn:PySem.W.specialIn K (.builtin "object.__class__") "__get__"=some (some (.builtin "getset_descriptor.__get__"))) (htk:PySem.W.takesIn K (.builtin "object.__class__")=some true)
  (hm:PySem.W.mroIn K C (.type "object")=some true):gN K H (.ref a) (.ref C)
theorem b4u{x:V}{u t:Value}(I:Inv X pins σ H s)(rx:bI x u)(ty:gN X.K H x t)(e:PySem.W.kitOne X.K t c=some b)(h:∀tk,Q (.bool b) {s with toks:=tk}):
 wpAny (model X.prog X.w) A (call (.builtin "isinstance") [u,c]) Q E s:=by
 cases ty with
 |non=>cases (show u=Value.none from rx);exact PySem.W.kia_one PySem.W.kitx_none I.kIn True.intro e (fun z=>nomatch z) h
 |bl y=>cases (show u=Value.bool y from rx);exact PySem.W.kia_one PySem.W.kitx_bool I.kIn True.intro e (fun z=>nomatch z) h
 |int i=>obtain⟨t,q⟩:=(show∃t,u=Value.int i t from rx);cases q;exact PySem.W.kia_one PySem.W.kitx_int I.kIn True.intro e (fun z=>nomatch z) h
 |str y=>obtain⟨t,q⟩:=(show∃t,u=Value.str y t from rx);cases q;exact PySem.W.kia_one PySem.W.kitx_str I.kIn True.intro e (fun z=>nomatch z) h
 |flt y=>obtain⟨t,q⟩:=(show∃t,u=Value.float y t from rx);cases q;exact PySem.W.kia_one PySem.W.kitx_float I.kIn True.intro e (fun z=>nomatch z) h
 | @lst a xs ea=>
  cases (show u=Value.ref a from rx)
  obtain⟨_,_,n,_,h1⟩:=(show cV X.prog X.w H s.heap a (.lst xs) from I.hok a _ ea)
  exact PySem.W.kia_one PySem.W.kitx_list I.kIn ⟨_,h1,rfl⟩ e (fun z=>nomatch z) h
 | @frz a ob xs ea=>
  cases (show u=Value.ref a from rx)
  obtain⟨_,_,_,n,_,h1⟩:=(show cV X.prog X.w H s.heap a (.frz ob (.lst xs)) from I.hok a _ ea)
  exact PySem.W.kia_one PySem.W.kitx_list I.kIn ⟨_,h1,rfl⟩ e (fun z=>nomatch z) h
 | @tup a xs ea=>
  cases (show u=Value.ref a from rx)
  obtain⟨_,_,_,p⟩:=(show cV X.prog X.w H s.heap a (.tup xs) from I.hok a _ ea)
  obtain⟨o,h1,h2,_⟩:=p
  exact PySem.W.kia_one PySem.W.kitx_tuple I.kIn ⟨o,h1,h2⟩ e (fun z=>nomatch z) h
 | @dK a kvs ea=>
  cases (show u=Value.ref a from rx)
  obtain⟨_,_,vs,_,p⟩:=(show cV X.prog X.w H s.heap a (.dK kvs) from I.hok a _ ea)
  obtain⟨o,es,ep,h1,h2,_⟩:=p
  exact PySem.W.kia_one PySem.W.kitx_dict I.kIn ⟨o,h1,h2.1⟩ e (fun z=>nomatch z) h
 | @dT a kvs ea=>
  cases (show u=Value.ref a from rx)
  obtain⟨_,_,xs,_,o,es,ep,h1,h2,_⟩:=(show cV X.prog X.w H s.heap a (.dT kvs) from I.hok a _ ea)
  exact PySem.W.kia_one PySem.W.kitx_dict I.kIn ⟨o,h1,h2.1⟩ e (fun z=>nomatch z) h
 | @ins a C dx fs ea cl ha hn htk hm=>
  cases (show u=Value.ref a from rx)
  obtain⟨mA,O,_⟩:=rZ I.hok ea
  obtain⟨od,J,_⟩:=O.look
  exact PySem.W.kia_one (PySem.W.kitx_own (cl.get _) cl.hd ha hn htk hm) I.kIn J e (fun z=>nomatch z) h
end
structure bT(k:Nat)(A:Around):Prop where
 hd:A.handled=none
 dp:A.depth+ 3* k+ 5<recursionLimit
 un:A.units+ 16* k+ 200<cLine
theorem bT.mono{j k:Nat}{A:Around}(r:bT k A)(h:j<=k):bT j A:=⟨r.hd,by have:=r.dp;omega,by have:=r.un;omega⟩
theorem bT.deeper{k:Nat}{A:Around}(r:bT (k+ 1) A)(env:Env):bT k (A.deeper env):=
 ⟨r.hd,by have:=r.dp;show A.depth+ 1+ 3* k+ 5<_;omega,by have:=r.un;show A.units+ 3+ 16* k+ 200<_;omega⟩
theorem b7B{A:Around}{C:Addr}{us:List Value}{kw:List (Str×Value)}:(A.under (.builtin "type.__call__" ⟨.ref C::us,kw⟩)).depth=A.depth+ 1:=by
 first|rfl|simp[Around.under,Code.weight,Code.isCreation,Code.isGuard,Code.isCaller,Code.frames,Code.isFrame,guardIds]
theorem b7d{A:Around}{C:Addr}{us:List Value}{kw:List (Str×Value)}:(A.under (.builtin "type.__call__" ⟨.ref C::us,kw⟩)).units=A.units+ 1:=by
 first|rfl|simp[Around.under,Code.cUnits,Code.frames,Code.isFrame]
theorem bT.make{k:Nat}{A:Around}(r:bT (k+ 1) A)(C:Addr)(us:List Value)(kw:List (Str×Value)):bT k (A.under (.builtin "type.__call__" ⟨.ref C::us,kw⟩)):=
 ⟨r.hd,by have:=r.dp;rw[b7B];omega,by have:=r.un;rw[b7d];omega⟩
theorem bT.depth{k:Nat}{A:Around}(r:bT k A):A.depth<recursionLimit:=by have:=r.dp;omega
theorem bT.units{k:Nat}{A:Around}(r:bT k A):A.units+ 64<cLine:=by have:=r.un;omega
def lQ:TA:=fun _ H Q=>Q [] H
def nV(ta:TE)(tr:TA):TA:=fun σ H Q=>ta σ H fun x H1=>tr σ H1 fun xs H2=>Q (x::xs) H2
section
variable{X:Cx}{e:Expr}{es:List Expr}{te:TE}{t:TA}{pos:Pos}
theorem aE:PA X [] lQ:=fun _ _ _ _ H Q I h=>Calls.spliced_nil ⟨[],H,I,.nil,h⟩
theorem aA(ha:PE X e te)(hr:PA X es t)(hs:starEach (e::es) X.env=(false,eval e X.env)::starEach es X.env:=by rfl):PA X (e::es) (nV te t):=by
 intro pos pins s σ H Q I h
 rw[hs]
 show wpAny _ _ (spliced ((false,eval e X.env)::backTo pos (starEach es X.env))) _ _ s
 refine Calls.spliced_cons (aR (ha pins s σ H _ I h) fun u s1 ⟨x,H1,I1,r1,q1⟩=> ?_)
 exact aR (hr pos pins s1 σ H1 _ I1 q1) fun us s2 ⟨xs,H2,I2,r2,q2⟩=>⟨x::xs,H2,I2,.cons r1 r2,q2⟩
def tTup(t:TA):TE:=fun σ H Q=>t σ H fun xs H1=>xs.length<=sizeLine/\∀p,H1 p=none->Q (.ref p) (upd H1 p (.tup xs))
def tLst(t:TA):TE:=fun σ H Q=>t σ H fun xs H1=>xs.length<=sizeLine/\∀p,H1 p=none->Q (.ref p) (upd H1 p (.lst xs))
theorem fU{x1}(h:PA X es t):PE X (.Tuple es x1 pos) (tTup t):=by
 intro pins s σ H Q I hq
 refine wpAny_Tuple_spliced (aR (h pos pins s σ H _ I hq) fun us s1 ⟨xs,H1,I1,r,z,q⟩=>⟨by rw[<- r.length];exact z,?_⟩)
 have hf:H1 s1.heap.objs.size=none:=I1.hok.fresh (Nat.le_refl _)
 refine⟨.ref s1.heap.objs.size,upd H1 s1.heap.objs.size (.tup xs),I1.laid (t':=s1.toks) (fun b u e=>Heap.get?_push_of_some _ e) (Nat.le_refl _) ?_,rfl,q _ hf⟩
 exact⟨z,us,r,⟨_,Heap.get?_push_size _ rfl,rfl,_,rfl⟩⟩
theorem gH(h:PA X es t):PE X (.List es pos) (tLst t):=by
 intro pins s σ H Q I hq
 refine wpAny_List_spliced (aR (h pos pins s σ H _ I hq) fun us s1 ⟨xs,H1,I1,r,z,q⟩=>⟨by rw[<- r.length];exact z,?_⟩)
 have hf:H1 s1.heap.objs.size=none:=I1.hok.fresh (Nat.le_refl _)
 refine⟨.ref s1.heap.objs.size,upd H1 s1.heap.objs.size (.lst xs),I1.laid (t':=s1.toks) (fun b u e=>Heap.get?_push_of_some _ e) (Nat.le_refl _) ?_,rfl,q _ hf⟩
 exact⟨z,us,0,r,Heap.get?_push_size _ rfl⟩
end
abbrev Sp:=List V->Hp->VK->XK->Prop
abbrev eN:=List Env->Hp->Shared->XK->Value->Shared->Prop
structure kX(P:Program)(w:World)(K:Fg)(mg:Str->Option Value)(base:Heap)(A:Around)(outer:List Env)(s:Shared)(H:Hp):Prop where
 frames:A.frames=some outer
 mod:Mod K mg base
 bs:∀b o,base.get? b=some o->s.heap.get? b=some o/\H b=none
 bsz:base.objs.size<=s.heap.objs.size
 funs:s.heap.FunFrames base outer
 frf:∀b∈gG outer,H b=none
 hok:cA P w H s.heap
 bare:AllBare s.gens
def CE(outer:List Env)(P:Program)(w:World)(H:Hp)(s:Shared)(Q:VK)(u:Value)(s':Shared):Prop:=
 ∃v H',s'.os=s.os/\AllBare s'.gens/\Un (gG outer) [] H H' s.heap s'.heap/\cA P w H' s'.heap/\bI v u/\Q v H'
def CR(CX:eN)(outer:List Env)(P:Program)(w:World)(H:Hp)(s:Shared)(Q:VK)(E:XK)(r:Result)(s':Shared):Prop:=
 match r with
 | .ok (.ret u)=>CE outer P w H s Q u s'
 | .ok _=>False
 | .error e=>CX outer H s E e s'
structure eU(P:Program)(w:World)(K:Fg)(mg:Str->Option Value)(base:Heap)(CX:eN)(k:Nat)(f:Addr)(fd:FuncData)(ps:List Str)(sp:Sp):Prop where
 len:∀vs H Q E,sp vs H Q E->vs.length=ps.length
 run:∀(A:Around) (outer:List Env) (s:Shared) (H:Hp) (args:Args) (us:List Value) (vs:List V) (Q:VK) (E:XK),bT k A->kX P w K mg base A outer s H->BindsTo s fd args (ps.zip us)->bH vs us->sp vs H Q E->
  codeAny (model P w) A (.call (.ref f) args) (CR CX outer P w H s Q E) s
theorem eU.mono{P:Program}{w:World}{K:Fg}{mg:Str->Option Value}{base:Heap}{CX:eN}{j k:Nat}{f:Addr}{fd:FuncData}{ps:List Str}{sp:Sp}(F:eU P w K mg base CX j f fd ps sp)(h:j<=k):
 eU P w K mg base CX k f fd ps sp:=⟨F.len,fun A outer s H args us vs Q E hr=>F.run A outer s H args us vs Q E (hr.mono h)⟩
theorem kX.make{P:Program}{w:World}{K:Fg}{mg:Str->Option Value}{base:Heap}{A:Around}{outer:List Env}{s:Shared}{H:Hp}(e:kX P w K mg base A outer s H)(C:Addr)(us:List Value)(kw:List (Str×Value)):
 kX P w K mg base (A.under (.builtin "type.__call__" ⟨.ref C::us,kw⟩)) outer s H:=⟨by first|exact e.frames|(simpa [Around.under,Code.envs,Code.isFrame,pushEnvs] using e.frames),e.mod,e.bs,e.bsz,e.funs,e.frf,e.hok,e.bare⟩
section
variable{X:Cx}{pins:List (Addr×Obj)}{σ:St}{H:Hp}{s s':Shared}
theorem Inv.env0(I:Inv X pins σ H s):kX X.prog X.w X.K X.mg X.base X.A X.stack s H:=
 ⟨I.ok.frames,I.ok.mod,I.bs,Nat.le_trans I.ok.bsz I.sz,I.stack,I.stkFree,I.hok,I.bare⟩
theorem Inv.after{Q:VK}{u:Value}(I:Inv X pins σ H s)(h:CE X.stack X.prog X.w H s Q u s'):EP X pins σ Q u s':=by
 obtain⟨v,H',os,bare,un,hok,r,q⟩:=h
 obtain⟨hh,g,d,t,os'⟩:=s'
 obtain rfl:os'=s.os:=os
 exact⟨v,H',I.call (h':=hh) (g':=g) (d':=d) (t':=t) (ch:=[]) un hok bare (fun b z=>absurd z (by simp)),r,q⟩
end
def a9U(sp:Sp)(dvs:List V)(E:XK)(t:TA):TE:=fun σ H Q=>t σ H fun vs H1=>sp (vs++ dvs) H1 Q E
def xX(C:Addr)(m:Str)(sp:Sp)(dvs:List V)(E:XK)(ta:TE)(t:TA):TE:=fun σ H Q=>ta σ H fun x H1=>∃a dx fs,x= .ref a/\H1 a=some (.ins C dx fs)/\fs.lookup m=none/\
 t σ H1 fun vs H2=>sp (x::(vs++ dvs)) H2 Q E
def zN(C:Addr)(sp:Sp)(dvs:List V)(E:XK)(t:TA):TE:=fun σ H Q=>t σ H fun vs H1=>∀x dx,H1 x=none->H1 dx=none->dx≠x->
 sp (.ref x::(vs++ dvs)) (upd (upd H1 dx (.own x)) x (.ins C dx [])) (fun v H2=>v= .non/\Q (.ref x) H2) E
def iK(K:Fg)(fd:FuncData)(ps:List Str)(ds:List Value):Prop:=
 ∀(s:Shared) (us:List Value),K.In s.heap->(us++ ds).length=ps.length->BindsTo s fd ⟨us,[]⟩ (ps.zip (us++ ds))
theorem iK.all{K:Fg}{fd:FuncData}{ps:List Str}(h:∀us:List Value,us.length=ps.length->bindArgs fd ⟨us,[]⟩=pure (ps.zip us)):iK K fd ps []:=fun s us _ hl=>by
 rw[List.append_nil]at hl|-
 exact .of_eq (h us hl)
def gL(CX:eN)(X:Cx)(E:XK):Prop:=∀(pins:List (Addr×Obj)) (σ:St) (H:Hp) (s:Shared) (e:Value) (s':Shared),Inv X pins σ H s->CX X.stack H s E e s'->X.xe e s'
section
variable{X:Cx}{CX:eN}{k:Nat}{f C:Addr}{fd:FuncData}{ps:List Str}{sp:Sp}{dvs:List V}{ds:List Value}{E:XK}{x m:Str}{p pos apos:Pos}{e o:Expr}{es:List Expr}{ta:TE}{t:TA}
theorem rL{pins:List (Addr×Obj)}{σ:St}{H:Hp}{s:Shared}{Q:VK}{us:List Value}{vs:List V}(F:eU X.prog X.w X.K X.mg X.base CX k f fd ps sp)(hr:bT k X.A)(hb:iK X.K fd ps ds)(hd:bH dvs ds)(hx:gL CX X E)
 (I:Inv X pins σ H s)(r:bH vs us)(h:sp (vs++ dvs) H Q E):wpAny (model X.prog X.w) X.A (call (.ref f) us) (EP X pins σ Q) X.xe s:=by
 have r2:bH (vs++ dvs) (us++ ds):=r.append hd
 have hl:(us++ ds).length=ps.length:=by rw[<- r2.length];exact F.len _ _ _ _ h
 refine wpAny_call (codeAny_mono (F.run X.A X.stack s H ⟨us,[]⟩ (us++ ds) (vs++ dvs) Q E hr I.env0 (hb s us I.kIn hl) r2 h) fun r s' hq=> ?_)
 cases r with
 |error e=>exact hx pins σ H s e s' I hq
 |ok fl=>
  cases fl with
  |ret u=>exact I.after hq
  |next=>exact False.elim hq
  |brk=>exact False.elim hq
  |cont=>exact False.elim hq
theorem b9L(F:eU X.prog X.w X.K X.mg X.base CX k f fd ps sp)(hr:bT k X.A)(hg:Gl X x)(hm:X.mg x=some (.ref f))(hk:PySem.W.keepIn X.K (.ref f)=true)(hb:iK X.K fd ps ds)(hd:bH dvs ds)(hx:gL CX X E)
 (ha:PA X (e::es) t)(hdb:(x==("__debug__":Str))=false:=by decide)(he:starEach (e::es) X.env=(false,eval e X.env)::starEach es X.env:=by rfl)(hpl:(backTo pos (starEach es X.env)).any (·.1)=false:=by rfl):
 PE X (.Call (.Name x p) (e::es) [] pos) (a9U sp dvs E t):=by
 intro pins s σ H Q I h
 refine wpAny_Call_Name_kw (a0T I hg hm ?_ hdb)
 refine PySem.W.callWith_K (h₀:=X.base) I.ok.mod.kin hk (aR (ha pos pins s σ H _ I h) fun us s1 ⟨vs,H1,I1,r,q⟩=>⟨I1.kIn,?_⟩) he hpl
 exact rL F hr hb hd hx I1 r q
theorem b8f{pl:Sem Bool}(he:PE X o ta)(c:bX X.K C)(hm:wB X.K C m f)(F:eU X.prog X.w X.K X.mg X.base CX k f fd ps sp)(hr:bT k X.A)(hb:iK X.K fd ps ds)(hd:bH dvs ds)(hx:gL CX X E)(ha:PA X (e::es) t)
 (hst:starEach (e::es) X.env=(false,eval e X.env)::starEach es X.env:=by rfl)(hpl:(backTo pos (starEach es X.env)).any (·.1)=false:=by rfl)
 (ht:eval (.Call (.Attribute o m apos) (e::es) [] pos) X.env=(do
  let ov<- eval o X.env
  standAt apos.atName
  let (f,first)<- holding [ov] (getMethod ov m pl)
  callWith pos f first (backTo pos (starEach (e::es) X.env)) (backToKw pos (keywordEach [] X.env))):=by rfl):
 PE X (.Call (.Attribute o m apos) (e::es) [] pos) (xX C m sp dvs E ta t):=by
 intro pins s σ H Q I h
 refine PySem.W.methodCall_KW (pl:=pl) (aR (he pins s σ H _ I h) fun u s1 ⟨x,H1,I1,rx,a,dx,fs,ex,ea,l,q⟩=> ?_) ht
 subst ex
 obtain rfl:u=Value.ref a:=rx
 refine rT I1 ea c hm l ?_
 refine PySem.W.callWith_K (first:=[.ref a]) (h₀:=X.base) I.ok.mod.kin hm.kp (aR (ha pos pins s1 σ H1 _ I1 q) fun us s2 ⟨vs,H2,I2,r,q2⟩=>⟨I2.kIn,?_⟩) hst hpl
 exact rL (us:=.ref a::us) (vs:=.ref a::vs) F hr hb hd hx I2 (.cons rfl r) q2
theorem b99{pl:Sem Bool}(he:PE X o ta)(c:bX X.K C)(hm:wB X.K C m f)(F:eU X.prog X.w X.K X.mg X.base CX k f fd ps sp)(hr:bT k X.A)(hb:iK X.K fd ps ds)(hd:bH dvs ds)(hx:gL CX X E)
 (ht:eval (.Call (.Attribute o m apos) [] [] pos) X.env=(do
  let ov<- eval o X.env
  standAt apos.atName
  let (f,first)<- holding [ov] (getMethod ov m pl)
  callWith pos f first (backTo pos (starEach [] X.env)) (backToKw pos (keywordEach [] X.env))):=by rfl):
 PE X (.Call (.Attribute o m apos) [] [] pos) (xX C m sp dvs E ta lQ):=by
 intro pins s σ H Q I h
 refine PySem.W.methodCall_KW (pl:=pl) (aR (he pins s σ H _ I h) fun u s1 ⟨x,H1,I1,rx,a,dx,fs,ex,ea,l,q⟩=> ?_) ht
 subst ex
 obtain rfl:u=Value.ref a:=rx
 refine rT I1 ea c hm l ?_
 exact PySem.W.callWith_K0 (first:=[.ref a]) I1.kIn hm.kp (rL (us:=[.ref a]) (vs:=[.ref a]) F hr hb hd hx I1 (.cons rfl .nil) q)
structure Mk(K:Fg)(C f:Addr):Prop where
 makes:PySem.W.makesIn K C=true
 init:PySem.W.findIn K (.ref C) "__init__"=some (some (.ref f))
 fn:PySem.W.isFn K (.ref f)=true
 kp:PySem.W.keepIn K (.ref C)=true
theorem b2x{pins:List (Addr×Obj)}{σ:St}{H:Hp}{s:Shared}{Q:VK}{us:List Value}{vs:List V}(M:Mk X.K C f)(F:eU X.prog X.w X.K X.mg X.base CX k f fd ps sp)(hr:bT (k+ 1) X.A)(hb:iK X.K fd ps ds)(hd:bH dvs ds)
 (hx:gL CX X E)(I:Inv X pins σ H s)(r:bH vs us)
 (h:∀x dx,H x=none->H dx=none->dx≠x->sp (.ref x::(vs++ dvs)) (upd (upd H dx (.own x)) x (.ins C dx [])) (fun v H2=>v= .non/\Q (.ref x) H2) E):
 wpAny (model X.prog X.w) X.A (call (.ref C) us) (EP X pins σ Q) X.xe s:=by
 have hq:=h (s.heap.objs.size+ 1) s.heap.objs.size (I.hok.fresh (Nat.le_succ _)) (I.hok.fresh (Nat.le_refl _)) (Nat.ne_of_lt (Nat.lt_succ_self _))
 have I2:=Inv.made (C:=C) I
 have r2:bH (V.ref (s.heap.objs.size+ 1)::(vs++ dvs)) (Value.ref (s.heap.objs.size+ 1)::(us++ ds)):=.cons rfl (r.append hd)
 have hl:(Value.ref (s.heap.objs.size+ 1)::us++ ds).length=ps.length:=by
  have e:=r2.length
  rw[F.len _ _ _ _ hq]at e
  exact e.symm
 refine wpAny_call (b6R (f:=f) I.kIn M.makes M.init (beq_iff_eq.mp M.fn) (codeAny_mono (F.run _ X.stack _ _ ⟨Value.ref (s.heap.objs.size+ 1)::us,[]⟩ (Value.ref (s.heap.objs.size+ 1)::(us++ ds)) _ _ E (hr.make C us [])
  (I2.env0.make C us []) (hb _ (Value.ref (s.heap.objs.size+ 1)::us) I2.kIn hl) r2 hq) fun r s' hq'=> ?_))
 cases r with
 |error e=>exact hx pins σ _ _ e s' I2 hq'
 |ok fl=>
  cases fl with
  |ret u=>
   obtain⟨v,H',I3,rv,ev,q3⟩:=I2.after hq'
   subst ev
   exact⟨rv,⟨V.ref (s.heap.objs.size+ 1),H',I3,rfl,q3⟩⟩
  |next=>exact False.elim hq'
  |brk=>exact False.elim hq'
  |cont=>exact False.elim hq'
theorem b6j(M:Mk X.K C f)(F:eU X.prog X.w X.K X.mg X.base CX k f fd ps sp)(hr:bT (k+ 1) X.A)(hg:Gl X x)(hm:X.mg x=some (.ref C))(hb:iK X.K fd ps ds)(hd:bH dvs ds)(hx:gL CX X E)
 (ha:PA X (e::es) t)(hdb:(x==("__debug__":Str))=false:=by decide)(he:starEach (e::es) X.env=(false,eval e X.env)::starEach es X.env:=by rfl)(hpl:(backTo pos (starEach es X.env)).any (·.1)=false:=by rfl):
 PE X (.Call (.Name x p) (e::es) [] pos) (zN C sp dvs E t):=by
 intro pins s σ H Q I h
 refine wpAny_Call_Name_kw (a0T I hg hm ?_ hdb)
 refine PySem.W.callWith_K (h₀:=X.base) I.ok.mod.kin M.kp (aR (ha pos pins s σ H _ I h) fun us s1 ⟨vs,H1,I1,r,q⟩=>⟨I1.kIn,?_⟩) he hpl
 exact b2x M F hr hb hd hx I1 r q
theorem b98(M:Mk X.K C f)(F:eU X.prog X.w X.K X.mg X.base CX k f fd ps sp)(hr:bT (k+ 1) X.A)(hg:Gl X x)(hm:X.mg x=some (.ref C))(hb:iK X.K fd ps ds)(hd:bH dvs ds)(hx:gL CX X E)
 (hdb:(x==("__debug__":Str))=false:=by decide):PE X (.Call (.Name x p) [] [] pos) (zN C sp dvs E lQ):=by
 intro pins s σ H Q I h
 refine wpAny_Call_Name_kw (a0T I hg hm ?_ hdb)
 exact PySem.W.callWith_K0 I.kIn M.kp (b2x (us:=[]) M F hr hb hd hx I .nil h)
end
section
variable{X:Cx}{CX:eN}{k:Nat}{f C:Addr}{fd:FuncData}{ps ks:List Str}{sp:Sp}{E:XK}{x m:Str}{p pos apos kpos:Pos}{e o:Expr}{es:List Expr}{kws:List Keyword}{te ta:TE}{t tk:TA}{nm:Option Str}
structure KBinds(K:Fg)(fd:FuncData)(ps ks:List Str)(g:List Value->List Value->List Value)(gV:List V->List V->List V):Prop where
 to:∀(s:Shared) (us ws:List Value),K.In s.heap->(g us ws).length=ps.length->BindsTo s fd ⟨us,ks.zip ws⟩ (ps.zip (g us ws))
 rel:∀{vs:List V} {us:List Value} {zs:List V} {ws:List Value},bH vs us->bH zs ws->bH (gV vs zs) (g us ws)
variable{g:List Value->List Value->List Value}{gV:List V->List V->List V}
end
structure aY(N P:List Str)(sc:Scope):Prop where
 kind:sc.kind= .function
 co:sc.isCoroutine=false
 gen:sc.isGenerator=false
 nd:N.Nodup
 pre:N.take P.length=P
 par:∀x∈P,sc.names.lookup x=some .local\/ sc.names.lookup x=some .cell
 nofree:∀y∈sc.names,y.2≠ .free
theorem b3M{kindOf:Str->Option NameKind}{x:Str}:∀{binds:List (Str×Value)} {m:Str->Option Value},(∀v,(x,v)∉binds)->bindL kindOf binds m x=m x
 | [],_,_=>rfl
 |(n,v)::r,m,h=>by
  unfold bindL
  rw[b3M fun w hw=>h w (List.mem_cons_of_mem _ hw)]
  split
  ·have:x≠n:=by rintro rfl;exact h v List.mem_cons_self
   simp[this]
  ·rfl
theorem b3S{kindOf:Str->Option NameKind}{x:Str}:∀{binds:List (Str×Value)} {m:Str->Option Value},(∀v,(x,v)∉binds)->bindC kindOf binds m x=m x
 | [],_,_=>rfl
 |(n,v)::r,m,h=>by
  unfold bindC
  rw[b3S fun w hw=>h w (List.mem_cons_of_mem _ hw)]
  split
  ·rfl
  ·have:x≠n:=by rintro rfl;exact h v List.mem_cons_self
   simp[this]
theorem b3R{kindOf:Str->Option NameKind}{x:Str}{v:Value}:∀{P:List Str} {vs:List Value} {i:Nat} {m:Str->Option Value},P.Nodup->P[i]?=some x->vs[i]?=some v->kindOf x=some .local->
 bindL kindOf (P.zip vs) m x=some v
 | [],_,_,_,_,h,_,_=>by simp at h
 |_::_,[],_,_,_,_,h,_=>by simp at h
 |p::P,w::vs,0,m,nd,h1,h2,hk=>by
  simp at h1 h2;subst h1;subst h2
  show bindL kindOf ((p,w)::P.zip vs) m p=_
  unfold bindL
  rw[b3M fun v hv=>(List.nodup_cons.mp nd).1 (List.of_mem_zip hv).1,if_pos hk]
  simp
 |p::P,w::vs,i+ 1,m,nd,h1,h2,hk=>by
  show bindL kindOf ((p,w)::P.zip vs) m x=_
  unfold bindL
  exact b3R (i:=i) (List.nodup_cons.mp nd).2 (by simpa using h1) (by simpa using h2) hk
theorem b09{kindOf:Str->Option NameKind}{x:Str}{v:Value}:∀{P:List Str} {vs:List Value} {i:Nat} {m:Str->Option Value},P.Nodup->P[i]?=some x->vs[i]?=some v->kindOf x≠some .local->
 bindC kindOf (P.zip vs) m x=some v
 | [],_,_,_,_,h,_,_=>by simp at h
 |_::_,[],_,_,_,_,h,_=>by simp at h
 |p::P,w::vs,0,m,nd,h1,h2,hk=>by
  simp at h1 h2;subst h1;subst h2
  show bindC kindOf ((p,w)::P.zip vs) m p=_
  unfold bindC
  rw[b3S fun v hv=>(List.nodup_cons.mp nd).1 (List.of_mem_zip hv).1,if_neg hk]
  simp
 |p::P,w::vs,i+ 1,m,nd,h1,h2,hk=>by
  show bindC kindOf ((p,w)::P.zip vs) m x=_
  unfold bindC
  exact b09 (i:=i) (List.nodup_cons.mp nd).2 (by simpa using h1) (by simpa using h2) hk
def start(N:List Str)(vs:List V):St:=vs.map some++ List.replicate (N.length- vs.length) none
def dX(CX:eN)(P:Program)(w:World)(K:Fg)(mg:Str->Option Value)(base:Heap)(N:List Str)(qual:Str)(scope:Scope)(f:Addr)(cd:Value)(A:Around)(outer:List Env)(s:Shared)(H:Hp)(E:XK):Cx where
 prog:=P
 w:=w
 K:=K
 mg:=mg
 base:=base
 A:=A.deeper (envOfC qual scope s.heap.objs.size f cd)
 N:=N
 s₀:=s
 H₀:=H
 env:=envOfC qual scope s.heap.objs.size f cd
 outer:=outer
 stack:=envOfC qual scope s.heap.objs.size f cd::outer
 ex:=[]
 calm:=true
 fn:=fun _=>true
 pn:=[]
 xe:=fun e s'=>wpAny (model P w) (A.deeper (envOfC qual scope s.heap.objs.size f cd)) (leaving (envOfC qual scope s.heap.objs.size f cd) e) (fun _ s''=>CX outer H s E e s'') (fun e' s''=>CX outer H s E e' s'') s'
theorem b1E{sc:Scope}{n:Nat}{x:Str}(h:sc.names.lookup x=some .cell):∃c,(cellsFrom n sc.names []).lookup x=some c:=by
 have q:=PySem.W.cellsFrom_some sc.names n [] (.inl h)
 exact Option.isSome_iff_exists.mp q
theorem b5V{CX:eN}{P:Program}{w:World}{K:Fg}{mg:Str->Option Value}{base:Heap}{N ps:List Str}{qual:Str}{scope:Scope}{f:Addr}{cd:Value}{A:Around}{outer:List Env}{s s1:Shared}{H:Hp}{E:XK}{us:List Value}{vs:List V}
 (S:aY N ps scope)(hd:A.handled=none)(e0:kX P w K mg base A outer s H)(hl:vs.length=ps.length)(r:bH vs us)
 (x:InCallC s s.heap.objs.size (bindL (envOfC qual scope s.heap.objs.size f cd).kindOf (ps.zip us) fun _=>none) (cellsFrom (s.heap.objs.size+ 1) scope.names []) (bindC (envOfC qual scope s.heap.objs.size f cd).kindOf (ps.zip us) fun _=>none) s1):
 Inv (dX CX P w K mg base N qual scope f cd A outer s H E) [] (start N vs) H s1:=by
 have hpl:ps.length<=N.length:=by have:=congrArg List.length S.pre;rw[List.length_take]at this;omega
 obtain⟨h1,tk,rfl,hk⟩:=x.done
 have noA:∀b:Addr,b∉(dX CX P w K mg base N qual scope f cd A outer s H E).ex:=fun b z=>absurd (show b∈([]:List Addr) from z) (by simp)
 refine⟨⟨e0.mod,S.kind,rfl,rfl,Nat.le_refl _,fun y z c h1 h2=> ?_,fun y hy=> ?_,fun y c _ h=> ?_,fun _=>hd,Around.frames_deeper e0.frames,.inr ⟨rfl,rfl⟩,fun b z=>absurd z (noA b),e0.bs,e0.bsz,fun b _ _=>noA b,fun b z=>absurd z (noA b),e0.funs,e0.frf⟩,
  rfl,e0.bare,Un.kept hk,⟨_,x.toInCall.ns,fun i y v h1 h2 h3=> ?_⟩,fun y c h=>⟨_,x.cell y c h⟩,e0.hok.fresh (Nat.le_refl _),fun y c h=> ?_,fun p hp=>absurd (show p∈([]:List (Addr×Obj)) from hp) (by simp),e0.hok.kept hk,?_⟩
 ·exact name_of_addr x.apart (PySem.mem_of_lookup h1) (PySem.mem_of_lookup h2)
 ·have hy:scope.names.lookup y=some .cell\/ scope.names.lookup y=some .free:=hy
  rcases hy with hy|hy
  ·exact b1E hy
  ·exact absurd rfl (S.nofree _ (PySem.mem_of_lookup hy))
 ·exact Nat.le_of_lt (x.above y c (PySem.mem_of_lookup h))
 ·have hi:i<vs.length:=by
   unfold start at h2
   by_cases hi:i<vs.length
   ·exact hi
   ·rw[List.getElem?_append_right (by simpa using hi)]at h2
    rw[List.getElem?_replicate]at h2
    split at h2<;>cases h2
  have ha:vs[i]?=some v:=by
   unfold start at h2
   rw[List.getElem?_append_left (by simpa using hi),List.getElem?_map]at h2
   cases e:vs[i]? with
   |none=>rw[e]at h2;cases h2
   |some a=>rw[e]at h2;cases h2;rfl
  obtain⟨u,hu,rv⟩:=r.get ha
  have hp:ps[i]?=some y:=by
   rw[<- S.pre,List.getElem?_take_of_lt (by omega)];exact h1
  have ndP:ps.Nodup:=by rw[<- S.pre];exact S.nd.sublist (List.take_sublist _ _)
  refine⟨u,rv,?_⟩
  rcases S.par y (List.mem_of_getElem? hp)with k|k
  ·exact .inl ⟨k,b3R ndP hp hu k⟩
  ·obtain⟨c,e⟩:=b1E (n:=s.heap.objs.size+ 1) k
   refine .inr ⟨.inl k,c,e,?_⟩
   have q:=x.cell y c e
   rw[b09 ndP hp hu (by show scope.names.lookup y≠_;rw[k];decide)]at q
   exact q
 ·exact e0.hok.fresh (Nat.le_of_lt (x.above y c (PySem.mem_of_lookup h)))
 ·unfold start
  show _=N.length
  rw[List.length_append,List.length_map,List.length_replicate]
  omega
theorem a5h{CX:eN}{P:Program}{w:World}{K:Fg}{mg:Str->Option Value}{base:Heap}{k:Nat}{f:Addr}{name qual:Str}{params:Arguments}{body:List Stmt}{scope:Scope}{dV kV doc pm cdv ct oc:Value}{an od:Option Addr}
 {osl:Array (Option Value)}{N ps:List Str}{sp:Sp}(lk:K.lookup f=some ⟨oc,od,.func (PySem.W.fnOf name qual params body scope dV kV doc pm an cdv ct),osl⟩)(hcd:PySem.W.codeIn K cdv qual=true)(S:aY N ps scope)
 (len:∀vs H Q E,sp vs H Q E->vs.length=ps.length)
 (hbody:∀(A:Around) (outer:List Env) (s:Shared) (H:Hp) (vs:List V) (Q:VK) (E:XK),bT k (A.deeper (envOfC qual scope s.heap.objs.size f cdv))->sp vs H Q E->
  ∃t,eL (dX CX P w K mg base N qual scope f cdv A outer s H E) body t/\t {nx:=fun _ H'=>Q .non H',rt:=Q} (start N vs) H):
 eU P w K mg base CX (k+ 1) f (PySem.W.fnOf name qual params body scope dV kV doc pm an cdv ct) ps sp:=by
 refine⟨len,fun A outer s H args us vs Q E hr e0 hb r hsp=> ?_⟩
 have hl:=len _ _ _ _ hsp
 have KX:K.In s.heap:=e0.mod.kin.keeps fun b o e=>(e0.bs b o e).1
 have lim:s.heap.NoLimit:=e0.mod.nolimit.keeps fun b o e=>(e0.bs b o e).1
 have hkind:∀y∈ps.zip us,scope.names.lookup y.1=some .local\/ (scope.names.lookup y.1=some .cell/\((cellsFrom (s.heap.objs.size+ 1) scope.names []).lookup y.1).isSome=true):=fun⟨n,v⟩ hy=>by
  rcases S.par n (List.of_mem_zip hy).1 with q|q
  ·exact .inl q
  ·exact .inr ⟨q,PySem.W.cellsFrom_some _ _ _ (.inl q)⟩
 refine codeAny_call_function hr.depth (KX _ _ lk) rfl S.co S.gen rfl (PySem.W.codeRec_of KX hcd) (hb _ _ _ _ ?_)
 refine wpAny_newFunctionEnv_cells S.kind hkind fun env he s1 x=> ?_
 subst he
 refine⟨lim.keeps x.toInCall.keep,codeAny_func ?_⟩
 obtain⟨t,ht,hq⟩:=hbody A outer s H vs Q E (hr.deeper _) hsp
 have I:Inv (dX CX P w K mg base N qual scope f cdv A outer s H E) [] (start N vs) H s1:=b5V S hr.hd e0 hl r x
 refine wpAny_mono (ht [] s1 (start N vs) H _ I hq) (fun fl s' hs=> ?_) fun e s' hs=>hs
 have fin:∀{σ':St} {H':Hp} {v:V} {u:Value},Inv (dX CX P w K mg base N qual scope f cdv A outer s H E) [] σ' H' s'->bI v u->Q v H'->CE outer P w H s Q u s':=
  fun{σ' H' v u} J rv q=>⟨v,H',J.os,J.bare,J.base,J.hok,rv,q⟩
 cases fl with
 |ret u=>
  obtain⟨v,σ',H',J,rv,q⟩:=hs
  exact fin J rv q
 |next=>
  obtain⟨σ',H',J,q⟩:=hs
  exact fin (v:=V.non) (u:=Value.none) J rfl q
 |brk=>
  obtain⟨_,_,_,q⟩:=hs
  exact False.elim q
 |cont=>
  obtain⟨_,_,_,q⟩:=hs
  exact False.elim q
section
variable{X:Cx}{x:Str}{p pos:Pos}{e:Expr}{es:List Expr}{t:TA}{id T:String}{r:List V->Hp->VK->Prop}
def tCB(r:List V->Hp->VK->Prop)(t:TA):TE:=fun σ H Q=>t σ H fun vs H1=>r vs H1 Q
theorem cD(hc:jC X (.builtin id) r)(hg:Gl X x)(hm:X.mg x=none)(hv:bootBuiltins x=some (.builtin id))(ha:PA X (e::es) t)(hn:x≠ "__name__":=by decide)(hdb:(x==("__debug__":Str))=false:=by decide)
 (he:starEach (e::es) X.env=(false,eval e X.env)::starEach es X.env:=by rfl)(hpl:(backTo pos (starEach es X.env)).any (·.1)=false:=by rfl):PE X (.Call (.Name x p) (e::es) [] pos) (tCB r t):=by
 intro pins s σ H Q I h
 refine wpAny_Call_Name_kw (oK I hg hm hv ?_ hn hdb)
 exact PyProof.Rows.callWith_builtin1 (aR (ha pos pins s σ H _ I h) fun us s1 ⟨vs,H1,I1,r1,q1⟩=>hc pins s1 σ H1 vs us Q I1 r1 q1) he hpl
theorem kP(hc:jC X (.type T) r)(hg:Gl X x)(hm:X.mg x=none)(hv:bootBuiltins x=some (.type T))(ha:PA X (e::es) t)(hn:x≠ "__name__":=by decide)(hdb:(x==("__debug__":Str))=false:=by decide)
 (he:starEach (e::es) X.env=(false,eval e X.env)::starEach es X.env:=by rfl)(hpl:(backTo pos (starEach es X.env)).any (·.1)=false:=by rfl):PE X (.Call (.Name x p) (e::es) [] pos) (tCB r t):=by
 intro pins s σ H Q I h
 refine wpAny_Call_Name_kw (oK I hg hm hv ?_ hn hdb)
 exact PyProof.Rows.callWith_type1 (aR (ha pos pins s σ H _ I h) fun us s1 ⟨vs,H1,I1,r1,q1⟩=>hc pins s1 σ H1 vs us Q I1 r1 q1) he hpl
end
end L2
namespace HT
open PySem PyProof.Rows
section
variable{prog:Program}{w:World}{A:Around}{E:Value->Shared->Prop}{s:Shared}
noncomputable def sIx(n d:Nat):Option Int->Nat
 |none=>d
 |some v=>if v<0 then(v+ (n:Int)).toNat else min v.toNat n
end
end HT
namespace L2
open PySem PySem.Spec PyProof.Rows
abbrev TO:=St->Hp->(Option Int->Hp->Prop)->Prop
section
variable{X:Cx}{e:Expr}{te:TE}{lo hi:Option Expr}{tl th:TO}{pos p2:Pos}
def yM(X:Cx)(r:V->Option Int->Option Int->Hp->VK->Prop):Prop:=
 ∀(pins:List (Addr×Obj)) (s:Shared) (σ:St) (H:Hp) (x:V) (v vl vu:Value) (lo hi:Option Int) (sl:Addr) (Q:VK),Inv X pins σ H s->bI x v->s.heap.IsSliceOf sl vl vu .none->IsPart vl lo->IsPart vu hi->r x lo hi H Q->
  ∃T id,typeLookup (.type T) "__getitem__"=pure (some (.builtin id))/\s.TypeIs v T/\wpAny (model X.prog X.w) X.A (getItem v (.ref sl)) (EP X pins σ Q) X.xe s
theorem yM.or{r r':V->Option Int->Option Int->Hp->VK->Prop}(h:yM X r)(h':yM X r'):yM X (fun x lo hi H Q=>r x lo hi H Q\/ r' x lo hi H Q):=by
 intro pins s σ H x v vl vu lo hi sl Q I rx hs pl pu q
 rcases q with q|q
 ·exact h pins s σ H x v vl vu lo hi sl Q I rx hs pl pu q
 ·exact h' pins s σ H x v vl vu lo hi sl Q I rx hs pl pu q
noncomputable def cutV (xs:List V) (lo hi:Option Int):List V:=(xs.drop (HT.sIx xs.length 0 lo)).take (HT.sIx xs.length xs.length hi- HT.sIx xs.length 0 lo)
theorem b8i(xs:List V)(lo hi:Option Int):(cutV xs lo hi).length<=xs.length:=by
 unfold cutV
 rw[List.length_take,List.length_drop]
 omega
end
def jW(n:Nat)(i:Int):Option Nat:=if 0<=i then(if i<n then some i.toNat else none) else if-(n:Int)<=i then some (i+ n).toNat else none
def bY{α:Type}(xs:List α)(i:Int):Option α:=(jW xs.length i).bind fun j=>xs[j]?
theorem b8j{n:Nat}{i:Int}{j:Nat}(h:jW n i=some j):seqIndex? i n=some j/\j<n/\ -(n:Int)<=i/\i<n:=by
 unfold jW at h
 by_cases h0:0<=i
 ·rw[if_pos h0]at h
  by_cases h1:i<n
  ·rw[if_pos h1]at h
   have e:i.toNat=j:=Option.some.inj h
   exact⟨by rw[seqIndex_of h0 h1,e],by omega,by omega,h1⟩
  ·rw[if_neg h1]at h;cases h
 ·rw[if_neg h0]at h
  by_cases h1: -(n:Int)<=i
  ·rw[if_pos h1]at h
   have e:(i+ n).toNat=j:=Option.some.inj h
   exact⟨by rw[seqIndex_neg (by omega) h1,e],by omega,h1,by omega⟩
  ·rw[if_neg h1]at h;cases h
theorem a7T{α:Type}{xs:List α}{i:Int}{v:α}(h:bY xs i=some v):∃j,seqIndex? i xs.length=some j/\xs[j]?=some v/\j<xs.length/\ -(xs.length:Int)<=i/\i<xs.length:=by
 unfold bY at h
 cases e:jW xs.length i with
 |none=>rw[e]at h;cases h
 |some j=>
  rw[e]at h
  obtain⟨h1,h2,h3,h4⟩:=b8j e
  exact⟨j,h1,h,h2,h3,h4⟩
theorem b6m{α:Type}{xs:List α}{j:Nat}{v:α}(h:xs[j]?=some v):bY xs (j:Int)=some v:=by
 have hj:j<xs.length:=(List.getElem?_eq_some_iff.mp h).1
 have e:jW xs.length (j:Int)=some j:=by
  unfold jW
  rw[if_pos (by omega),if_pos (by omega)];simp
 unfold bY;rw[e];exact h
theorem b18{α:Type}(xs:List α)(v:α):bY (xs++ [v]) (-1)=some v:=by
 have hl:(xs++ [v]).length=xs.length+ 1:=by simp
 have e:jW (xs++ [v]).length (-1)=some xs.length:=by
  unfold jW
  rw[hl,if_neg (by decide),if_pos (by omega)]
  congr 1
  omega
 unfold bY
 rw[e]
 show(xs++ [v])[xs.length]?=some v
 simp
def b4L(b:Expr):Prop:=∀o i,subscripted b false o i=operate [o,i] (getItem o i)
def zM(X:Cx)(r:R2):Prop:=
 ∀(value slice:Expr) (pins:List (Addr×Obj)) (s:Shared) (σ:St) (H:Hp) (x y:V) (v u:Value) (Q:VK),Inv X pins σ H s->bI x v->bI y u->r x y H Q->
  subscripted slice false v u=operate [v,u] (getItem v u)->wpAny (model X.prog X.w) X.A (subscriptTail value slice v u) (EP X pins σ Q) X.xe s
def MtR(X:Cx)(id:String)(r:V->List V->Hp->VK->Prop):Prop:=
 ∀(pins:List (Addr×Obj)) (s:Shared) (σ:St) (H:Hp) (x:V) (xs:List V) (v:Value) (us:List Value) (Q:VK),Inv X pins σ H s->bI x v->bH xs us->r x xs H Q->
  wpAny (model X.prog X.w) X.A (call (.builtin id) (v::us)) (EP X pins σ Q) X.xe s
section
variable{X:Cx}{a b:Expr}{ta tb:TE}{pos:Pos}
theorem bP{r:R2}(hr:zM X r)(ha:PE X a ta)(hb:PE X b tb)(hs:b4L b):PE X (.Subscript a b pos) (nO r ta tb):=by
 intro pins s σ H Q I h
 exact Subscript_ (binT ha hb I h fun v u s2 x y H2 I2 rx ry q=>hr a b pins s2 σ H2 x y v u Q I2 rx ry q (hs _ _))
noncomputable def rIxL (K:Fg):R2:=fun x y H Q=>∃p xs i v,x= .ref p/\y= .int i/\aL K H p xs/\bY xs i=some v/\Q v H
noncomputable def rIxT (K:Fg):R2:=fun x y H Q=>∃p xs i v,x= .ref p/\y= .int i/\bU K H p xs/\bY xs i=some v/\Q v H
noncomputable def rIxS:R2:=fun x y H Q=>∃z i c,x= .str z/\y= .int i/\z.length<=sizeLine/\bY z.cps.toList i=some c/\Q (.str ⟨#[c]⟩) H
theorem dD:zM X (rIxL X.K):=by
 intro value slice pins s σ H x y v u Q I rx ry h hs
 obtain⟨p,xs,i,z,rfl,rfl,hq,he,q⟩:=h
 cases rx
 obtain⟨t,rfl⟩:=ry
 obtain⟨its,r,pl,hz⟩:=I.list hq
 obtain⟨j,h1,h2,h3,h4,h5⟩:=a7T he
 obtain⟨w,ew,rw'⟩:=r.get h2
 have hl:=r.length
 have hn:=wD
 have fin:EP X pins σ Q w s:=⟨z,H,I,rw',q⟩
 by_cases h0:0<=i
 ·have hj:i.toNat=j:=by
   rw[seqIndex_of h0 h5]at h1
   exact Option.some.inj h1
  exact item_listR pl.isList h0 (by omega) (by rw[hj];simpa using ew) fin hs
 ·have hj:(i+ (its.toArray.size:Int)).toNat=j:=by
   rw[seqIndex_neg (by omega) h4]at h1
   rw[List.size_toArray,<- hl]
   exact Option.some.inj h1
  exact subscriptTail_builtinR (x:=w) pl.isList.typeIs slot_list_getitem.lookup
   (wpAny_getItem_list_neg (Q:=fun r s'=>r=w/\EP X pins σ Q r s') pl.isList (by omega) (by rw[List.size_toArray]<;>omega) (by omega) (by rw[hj];simpa using ew) ⟨rfl,fin⟩) hs
theorem eW:zM X (rIxT X.K):=by
 intro value slice pins s σ H x y v u Q I rx ry h hs
 obtain⟨p,xs,i,z,rfl,rfl,hq,he,q⟩:=h
 cases rx
 obtain⟨t,rfl⟩:=ry
 obtain⟨its,r,pl,hz⟩:=I.tuple hq
 obtain⟨j,h1,h2,h3,h4,h5⟩:=a7T he
 obtain⟨w,ew,rw'⟩:=r.get h2
 have hl:=r.length
 have hn:=wD
 have fin:EP X pins σ Q w s:=⟨z,H,I,rw',q⟩
 exact subscriptTail_builtinR (x:=w) pl.typeIs slot_tuple_getitem.lookup
  (getItem_tuple (j:=j) (Q:=fun r s'=>r=w/\EP X pins σ Q r s') pl (by omega) (by omega) (by rw[List.size_toArray,<- hl];exact h1) (by simpa using ew) ⟨rfl,fin⟩) hs
theorem b4W:zM X rIxS:=by
 intro value slice pins s σ H x y v u Q I rx ry h hs
 obtain⟨z,i,c,rfl,rfl,hz,he,q⟩:=h
 obtain⟨t,rfl⟩:=rx
 obtain⟨t',rfl⟩:=ry
 obtain⟨j,h1,h2,h3,h4,h5⟩:=a7T he
 have hl:z.cps.toList.length=z.length:=by simp[Str.length]
 rw[hl]at h1 h4 h5
 have hn:=wD
 exact tail_any (typeIs_str s z t) slot_str_getitem.lookup (getItem_str (c:=c) (by
  have e1:decide (i< -(2^ 63:Int))=false:=decide_eq_false (by omega)
  have e2:decide (i>=2^ 63)=false:=decide_eq_false (by omega)
  rw[e1,e2,Bool.or_false]) (by rw[h1];simpa using h2) ⟨.str ⟨#[c]⟩,H,I.tok _,⟨_,rfl⟩,q⟩) hs
theorem b88(lo hi:Option Int)(n:Nat):(sliceBounds lo hi none n).1=((HT.sIx n 0 lo:Nat):Int)/\(sliceBounds lo hi none n).2.1=((HT.sIx n n hi:Nat):Int)/\(sliceBounds lo hi none n).2.2=1:=by
 refine⟨?_,?_,rfl⟩
 ·cases lo with
  |none=>simp[sliceBounds,HT.sIx]
  |some i=>
   simp only[sliceBounds,HT.sIx,Option.getD_none,show(1:Int)>0 by decide,if_true]
   by_cases h:i<0
   ·simp only[h,if_true]<;>omega
   ·simp only[h,if_false]<;>omega
 ·cases hi with
  |none=>simp[sliceBounds,HT.sIx]
  |some i=>
   simp only[sliceBounds,HT.sIx,Option.getD_none,show(1:Int)>0 by decide,if_true]
   by_cases h:i<0
   ·simp only[h,if_true]<;>omega
   ·simp only[h,if_false]<;>omega
theorem b5a(its:List Value)(lo hi:Option Int):slicePick its.toArray lo hi none=((its.drop (HT.sIx its.length 0 lo)).take (HT.sIx its.length its.length hi- HT.sIx its.length 0 lo)).toArray:=by
 obtain⟨h1,h2,h3⟩:=b88 lo hi its.toArray.size
 unfold slicePick
 rw[h1,h2,h3]
 simp only[sliceRange_one,pick_run,List.size_toArray]<;>rfl
def rSlL(K:Fg):V->Option Int->Option Int->Hp->VK->Prop:=fun x lo hi H Q=>∃a xs,x= .ref a/\aL K H a xs/\∀p,H p=none->Q (.ref p) (upd H p (.lst (cutV xs lo hi)))
theorem sl_list:yM X (rSlL X.K):=by
 intro pins s σ H x v vl vu lo hi sl Q I rx hs pl pu h
 obtain⟨a,xs,rfl,hx,q⟩:=h
 cases rx
 obtain⟨its,r,ht,hz⟩:=I.list hx
 have hlen:=r.length
 refine⟨"list",_,slot_list_getitem.lookup,ht.isList.typeIs,?_⟩
 refine wpAny_getItem_list_slice ht.isList hs pl pu .none (by simp) ?_ (by rw[List.size_toArray]<;>omega)
 rw[b5a,<- hlen]
 refine⟨.ref s.heap.objs.size,_,I.laid (t':=s.toks) (o:=.lst (cutV xs lo hi)) (fun b ob q=>Heap.get?_push_of_some _ q) (Nat.le_refl _) ?_,rfl,q _ (I.hok.fresh (Nat.le_refl _))⟩
 exact⟨Nat.le_trans (b8i xs lo hi) hz,_,0,(r.drop (HT.sIx xs.length 0 lo)).take (HT.sIx xs.length xs.length hi- HT.sIx xs.length 0 lo),Heap.get?_push_size _ rfl⟩
noncomputable def mB:V->Bool
 | .non=>true
 | .bl _=>true
 | .int _=>true
 | .str _=>true
 |_=>false
noncomputable def lH:V->V->Bool
 | .non,.non=>true
 | .bl a,.bl b=>a==b
 | .bl a,.int b=>(if a then 1 else 0)==b
 | .int a,.bl b=>a==(if b then 1 else 0)
 | .int a,.int b=>a==b
 | .str a,.str b=>a==b
 |_,_=>false
theorem c0o{A:Around}{s:Shared}{y x:V}{u v:Value}(ry:bI y u)(rx:bI x v)(fy:mB y=true)(fx:mB x=true):SeqAt.EqAt A s u v (lH y x):=by
 cases y with
 |non=>
  cases ry
  cases x with
  |non=>cases rx;exact SeqAt.EqAt.same _
  |bl b=>cases rx;exact SeqAt.EqAt.none_bool b
  |int b=>obtain⟨t,rfl⟩:=rx;exact SeqAt.EqAt.none_int b t
  |str b=>obtain⟨t,rfl⟩:=rx;exact SeqAt.EqAt.none_str b t
  |_=>exact absurd (show false=true from fx) Bool.false_ne_true
 |bl a=>
  cases ry
  cases x with
  |non=>cases rx;exact SeqAt.EqAt.bool_none a
  |bl b=>cases rx;exact SeqAt.EqAt.bool_bool a b
  |int b=>obtain⟨t,rfl⟩:=rx;exact SeqAt.EqAt.bool_int a b t
  |str b=>obtain⟨t,rfl⟩:=rx;exact SeqAt.EqAt.bool_str a b t
  |_=>exact absurd (show false=true from fx) Bool.false_ne_true
 |int a=>
  obtain⟨t',rfl⟩:=ry
  cases x with
  |non=>cases rx;exact SeqAt.EqAt.int_none a t'
  |bl b=>cases rx;exact SeqAt.EqAt.int_bool a t' b
  |int b=>obtain⟨t,rfl⟩:=rx;exact SeqAt.EqAt.int_int a t' b t
  |str b=>obtain⟨t,rfl⟩:=rx;exact SeqAt.EqAt.int_str a t' b t
  |_=>exact absurd (show false=true from fx) Bool.false_ne_true
 |str a=>
  obtain⟨t',rfl⟩:=ry
  cases x with
  |non=>cases rx;exact SeqAt.EqAt.str_none a t'
  |bl b=>cases rx;exact SeqAt.EqAt.str_bool a t' b
  |int b=>obtain⟨t,rfl⟩:=rx;exact SeqAt.EqAt.str_int a t' b t
  |str b=>obtain⟨t,rfl⟩:=rx;exact SeqAt.EqAt.str_str a t' b t
  |_=>exact absurd (show false=true from fx) Bool.false_ne_true
 |_=>exact absurd (show false=true from fy) Bool.false_ne_true
noncomputable def hW (x:V) (u:Value):Bool:=match u with
 | .none=>lH .non x
 | .bool b=>lH (.bl b) x
 | .int i _=>lH (.int i) x
 | .str z _=>lH (.str z) x
 |_=>false
theorem b2p{x y:V}{u:Value}(r:bI y u)(f:mB y=true):hW x u=lH y x:=by
 cases y with
 |non=>cases r;rfl
 |bl b=>cases r;rfl
 |int i=>obtain⟨t,rfl⟩:=r;rfl
 |str z=>obtain⟨t,rfl⟩:=r;rfl
 |_=>exact absurd (show false=true from f) Bool.false_ne_true
theorem uF{x:V}:∀{xs:List V} {us:List Value},bH xs us->xs.all mB=true->us.any (hW x)=xs.any fun y=>lH y x
 |_,_,.nil,_=>rfl
 |y::xs,u::us,.cons r t,f=>by
  rw[List.all_cons,Bool.and_eq_true]at f
  rw[List.any_cons,List.any_cons,b2p r f.1,uF t f.2]
theorem vU{A:Around}{s:Shared}{x:V}{v:Value}(rx:bI x v)(fx:mB x=true):∀{xs:List V} {us:List Value},bH xs us->xs.all mB=true->∀u∈us,SeqAt.EqAt A s u v (hW x u)
 |_,_,.nil,_=>fun u hu=>by cases hu
 |y::xs,u::us,.cons r t,f=>fun u' hu=>by
  rw[List.all_cons,Bool.and_eq_true]at f
  rcases List.mem_cons.mp hu with rfl|hu
  ·rw[b2p r f.1];exact c0o r rx f.1 fx
  ·exact vU rx fx t f.2 u' hu
noncomputable def gM (x:V) (xs:List V):Bool:=xs.any fun y=>lH y x
noncomputable def rIn (K:Fg) (neg:Bool):R2:=fun x y H Q=>∃p xs,y= .ref p/\(aL K H p xs\/ bU K H p xs)/\mB x=true/\xs.all mB=true/\Q (.bl (if neg then !gM x xs else gM x xs)) H
theorem a89:cY X (compareOp .In) (rIn X.K false):=by
 intro pins s σ H x y v u Q I rx ry h
 obtain⟨p,xs,rfl,hq,fx,fs,q⟩:=h
 cases ry
 rcases hq with hq|hq
 ·obtain⟨its,r,pl,hz⟩:=I.list hq
  refine SeqAt.in_listAt (hW x) pl.isList (fun w hw=>vU rx fx r fs w (by simpa using hw)) ⟨.bl _,H,I,rfl,?_⟩
  rw[show its.toArray.any (hW x)=its.any (hW x)by simp,uF r fs]
  exact q
 ·obtain⟨its,r,pl,hz⟩:=I.tuple hq
  refine SeqAt.in_tupleAt (hW x) pl (fun w hw=>vU rx fx r fs w (by simpa using hw)) ⟨.bl _,H,I,rfl,?_⟩
  rw[show its.toArray.any (hW x)=its.any (hW x)by simp,uF r fs]
  exact q
theorem zK:cY X (compareOp .NotIn) (rIn X.K true):=by
 intro pins s σ H x y v u Q I rx ry h
 obtain⟨p,xs,rfl,hq,fx,fs,q⟩:=h
 cases ry
 rcases hq with hq|hq
 ·obtain⟨its,r,pl,hz⟩:=I.list hq
  refine SeqAt.notIn_listAt (hW x) pl.isList (fun w hw=>vU rx fx r fs w (by simpa using hw)) ⟨.bl _,H,I,rfl,?_⟩
  rw[show its.toArray.any (hW x)=its.any (hW x)by simp,uF r fs]
  exact q
 ·obtain⟨its,r,pl,hz⟩:=I.tuple hq
  refine SeqAt.notIn_tupleAt (hW x) pl (fun w hw=>vU rx fx r fs w (by simpa using hw)) ⟨.bl _,H,I,rfl,?_⟩
  rw[show its.toArray.any (hW x)=its.any (hW x)by simp,uF r fs]
  exact q
theorem xN:jC X (.type "list") (fun xs H Q=>∃p ys,xs= [.ref p] /\(aL X.K H p ys\/ bU X.K H p ys)/\∀l,H l=none->Q (.ref l) (upd H l (.lst ys))):=by
 intro pins s σ H xs us Q I r h
 obtain⟨p,ys,rfl,hq,q⟩:=h
 obtain⟨u,rfl,rx⟩:=nB r
 cases rx
 have fin:∀(its:List Value),bH ys its->ys.length<=sizeLine->∀(h':Heap) (c':Nat),(∀b o',s.heap.get? b=some o'->h'.get? b=some o')->
  h'.get? s.heap.objs.size=some {cls:=.type "list",dict:=none,data:=.seq its.toArray c',slots:= #[]} ->EP X pins σ Q (.ref s.heap.objs.size) {s with heap:=h'}:=fun its r' hz h' c' kp e=>
  ⟨.ref s.heap.objs.size,_,I.laid (t':=s.toks) kp (Nat.le_refl _) (show cV X.prog X.w _ h' _ (.lst ys) from⟨hz,its,c',r',e⟩),rfl,q _ (I.hok.fresh (Nat.le_refl _))⟩
 rcases hq with hq|hq
 ·obtain⟨its,r',pl,hz⟩:=I.list hq
  have hlen:=r'.length
  obtain⟨o,ho,hc,n,hd⟩:=pl.isList
  exact call_list_seq p (.inl rfl) ho hc hd (fun h' c' kp e=>fin its r' hz h' c' kp e) (by simp only[List.size_toArray]<;>omega)
 ·obtain⟨its,r',pl,hz⟩:=I.tuple hq
  have hlen:=r'.length
  obtain⟨o,ho,hc,n,hd⟩:=pl
  exact call_list_seq p (.inr rfl) ho hc hd (fun h' c' kp e=>fin its r' hz h' c' kp e) (by simp only[List.size_toArray]<;>omega)
def tyV(K:Fg)(T:String)(x:V)(H:Hp):Prop:=match x with
 | .str _=>T= "str"
 | .int _=>T= "int"
 | .ref p=>(T= "list" /\∃xs,aL K H p xs)\/ (T= "tuple" /\∃o,K.lookup p=some o/\o.cls= .type "tuple" /\o.dict=none)\/
  (T= "dict" /\((∃kvs,H p=some (.dK kvs))\/ ∃kvs,H p=some (.dT kvs)))\/ (T= "set" /\∃S n,H p=some (.set S n))
 |_=>False
theorem b3F{pins:List (Addr×Obj)}{σ:St}{H:Hp}{s:Shared}{T:String}{x:V}{v:Value}(I:Inv X pins σ H s)(r:bI x v)(ty:tyV X.K T x H):
 s.TypeIs v T/\∀a,v= .ref a->∃ob,s.heap.get? a=some ob/\ob.dict=none:=by
 cases x with
 |str z=>
  obtain⟨t,rfl⟩:=r
  cases (show T= "str" from ty)
  exact⟨typeIs_str s z t,fun _ e=>nomatch e⟩
 |int i=>
  obtain⟨t,rfl⟩:=r
  cases (show T= "int" from ty)
  exact⟨typeIs_int s i t,fun _ e=>nomatch e⟩
 |ref p=>
  cases r
  rcases ty with⟨rfl,xs,hq⟩|⟨rfl,o,hk,hc,hd⟩|⟨rfl,hk⟩|⟨rfl,S,n,hk⟩
  ·obtain⟨its,_,pl,_⟩:=I.list hq
   refine⟨pl.isList.typeIs,fun a e=> ?_⟩
   cases e
   obtain⟨o,n,e,c,hd,_⟩:=pl
   exact⟨o,e,hd⟩
  ·refine⟨⟨o,I.kIn p o hk,hc⟩,fun a e=> ?_⟩
   cases e
   exact⟨o,I.kIn _ o hk,hd⟩
  ·have z:∃o,s.heap.get? p=some o/\o.ExactDict:=by
    rcases hk with⟨kvs,hk⟩|⟨kvs,hk⟩
    ·obtain⟨_,_,_,_,o,_,_,e,ex,_⟩:=I.hok p _ hk
     exact⟨o,e,ex⟩
    ·obtain⟨_,_,_,_,o,_,_,e,ex,_⟩:=I.hok p _ hk
     exact⟨o,e,ex⟩
   obtain⟨o,e,ex⟩:=z
   refine⟨⟨o,e,ex.1⟩,fun a e2=> ?_⟩
   cases e2
   exact⟨o,e,ex.2.1⟩
  ·obtain⟨o,_,_,_,e,ex,_⟩:=I.hok p _ hk
   refine⟨⟨o,e,ex.1⟩,fun a e2=> ?_⟩
   cases e2
   exact⟨o,e,ex.2.1⟩
 |_=>exact False.elim ty
def tBM0(K:Fg)(T:String)(r:V->List V->Hp->VK->Prop)(to:TE):TE:=fun σ H Q=>to σ H fun x H1=>tyV K T x H1/\r x [] H1 Q
def tBM(K:Fg)(T:String)(r:V->List V->Hp->VK->Prop)(to:TE)(t:TA):TE:=fun σ H Q=>to σ H fun x H1=>tyV K T x H1/\t σ H1 fun xs H2=>r x xs H2 Q
variable{o e:Expr}{es:List Expr}{to:TE}{t:TA}{name:Str}{apos cpos:Pos}{T id:String}{r:V->List V->Hp->VK->Prop}
theorem b86(pa:PlainAttrs T)(slot:Slot T name id)(hty:typeOf (.builtin id)=pure (.type "method_descriptor"))(hm:MtR X id r)(ho:PE X o to)
 (hbase:attributeBase o name X.env (eval o X.env)=eval o X.env:=by rfl)(hline:(apos.endLine==cpos.line)=true:=by rfl):PE X (.Call (.Attribute o name apos) [] [] cpos) (tBM0 X.K T r to):=by
 intro pins s σ H Q I h
 refine wpAny_Call_method0_late hbase hline (aR (ho pins s σ H _ I h) fun v s1 ⟨x,H1,I1,r1,ty,q1⟩=> ?_)
 obtain⟨h1,h2⟩:=b3F I1 r1 ty
 exact⟨T,id,pa,slot,hty,h1,h2,Calls.callWith_builtin rfl (PySem.evalArgs_none (hm pins s1 σ H1 x [] v [] Q I1 r1 .nil q1))⟩
theorem iJ(pa:PlainAttrs T)(slot:Slot T name id)(hty:typeOf (.builtin id)=pure (.type "method_descriptor"))(hm:MtR X id r)(ho:PE X o to)(ha:PA X (e::es) t)
 (hbase:attributeBase o name X.env (eval o X.env)=eval o X.env:=by rfl)
 (hfew:((backTo cpos (starEach (e::es) X.env)).all (fun x=> !x.1)&&(backToKw cpos (keywordEach [] X.env)).all (fun x=>x.1.isSome)
  &&decide ((e::es).length+ ([]:List Keyword).length+ (if([]:List Keyword).isEmpty then 0 else 1)<30))=true:=by rfl)
 (hline:(apos.endLine==cpos.line)=true:=by rfl)(hs:starEach (e::es) X.env=(false,eval e X.env)::starEach es X.env:=by rfl)(hplain:(backTo cpos (starEach es X.env)).any (·.1)=false:=by rfl):
 PE X (.Call (.Attribute o name apos) (e::es) [] cpos) (tBM X.K T r to t):=by
 intro pins s σ H Q I h
 refine wpAny_Call_method_late hbase hfew hline rfl (aR (ho pins s σ H _ I h) fun v s1 ⟨x,H1,I1,r1,ty,q1⟩=> ?_)
 obtain⟨h1,h2⟩:=b3F I1 r1 ty
 refine⟨T,id,pa,slot,hty,h1,h2,?_⟩
 have hA:=ha cpos pins s1 σ H1 _ I1 q1
 rw[hs]at hA|-
 refine Calls.callWith_builtin (by show(false||(backTo cpos (starEach es X.env)).any (·.1))=false;rw[hplain]<;>rfl) (Calls.evalArgs_plain ?_)
 exact aR hA fun us s2 ⟨vs,H2,I2,r2,q2⟩=>hm pins s2 σ H2 x vs v us Q I2 r1 r2 q2
end
def MtM(X:Cx)(id:String)(r:V->List V->Hp->VK->Prop):Prop:=
 ∀(pins:List (Addr×Obj)) (s:Shared) (σ:St) (H:Hp) (x:V) (xs:List V) (v:Value) (us:List Value) (Q:VK),Inv X pins σ H s->bI x v->bH xs us->r x xs H Q->
  wpAny (model X.prog X.w) X.A (call (.builtin id) (v::us)) (EP X pins σ Q) X.xe s
theorem bH.one:∀{x:V} {us:List Value},bH [x] us->∃u,us= [u] /\bI x u
 |_,_,.cons r .nil=>⟨_,rfl,r⟩
theorem bH.two:∀{x y:V} {us:List Value},bH [x,y] us->∃u v,us= [u,v] /\bI x u/\bI y v
 |_,_,_,.cons r (.cons q .nil)=>⟨_,_,rfl,r,q⟩
theorem bH.zero:∀{us:List Value},bH [] us->us= []
 |_,.nil=>rfl
theorem bH.dropLast{xs:List V}{us:List Value}(h:bH xs us):bH xs.dropLast us.dropLast:=by
 induction h with
 |nil=>exact .nil
 |cons r t ih=>
  cases t with
  |nil=>exact .nil
  |cons q t'=>exact .cons r ih
theorem b7p{α:Type}(l:List α):l.eraseIdx (l.length- 1)=l.dropLast:=by
 induction l with
 |nil=>rfl
 |cons a r ih=>
  cases r with
  |nil=>rfl
  |cons b r=>
   have e:(a::b::r).length- 1=((b::r).length- 1)+ 1:=by
    have h1:(a::b::r).length=r.length+ 2:=rfl
    have h2:(b::r).length=r.length+ 1:=rfl
    omega
   rw[e,List.eraseIdx_cons_succ,ih]
   all_goals rfl
section
variable{X:Cx}{pins:List (Addr×Obj)}{σ:St}{H:Hp}{s:Shared}{l b:Addr}{xs ys zs:List V}
theorem Inv.lset{its its':List Value}{n:Nat}{f:Array Value->Array Value}{t':Nat}(I:Inv X pins σ H s)(hH:H l=some (.lst xs))
 (e:s.heap.get? l=some {cls:=.type "list",data:=.seq its.toArray n})(hf:f its.toArray=its'.toArray)(hv:bH ys its')(hz:ys.length<=sizeLine):
 Inv X pins σ (upd H l (.lst ys)) {s with heap:=s.heap.update l (Obj.mapSeq f),toks:=t'}:=by
 have q:=PySem.IsL.update e f
 rw[hf]at q
 refine I.write (x:=l) (e:=l) (by rw[hH];exact trivial) (.inl rfl) (fun b' u hb hu=>(Heap.get?_update_other s.heap (Obj.mapSeq f) (Ne.symm hb)).trans hu) ⟨_,q⟩ ?_
 exact⟨hz,its',_,hv,q⟩
theorem Inv.lnew{its:List Value}{t':Nat}(I:Inv X pins σ H s)(hv:bH ys its)(hz:ys.length<=sizeLine):
 Inv X pins σ (upd H s.heap.objs.size (.lst ys)) {s with heap:=s.heap.push {cls:=.type "list",data:=.seq its.toArray},toks:=t'}:=
 I.laid (fun _ _ q=>Heap.get?_push_of_some _ q) (Nat.le_refl _) ⟨hz,its,0,hv,Heap.get?_push_size _ rfl⟩
theorem Inv.lstM(I:Inv X pins σ H s)(hH:H l=some (.lst xs)):xs.length<=sizeLine/\∃(its:List Value) (n:Nat),bH xs its/\xs.length=its.length/\s.heap.get? l=some {cls:=.type "list",data:=.seq its.toArray n}:=by
 obtain⟨z,its,n,r,e⟩:=I.hok l _ hH
 exact⟨z,its,n,r,r.length,e⟩
end
section
variable{X:Cx}
def b6P:V->List V->Hp->VK->Prop:=fun x vs H Q=>∃l xs y,x= .ref l/\vs= [y] /\H l=some (.lst xs)/\xs.length<sizeLine/\Q .non (upd H l (.lst (xs++ [y])))
theorem gT:MtM X "list.append" b6P:=by
 intro pins s σ H x vs v us Q I rx rv h
 obtain⟨l,xs,y,rfl,rfl,hH,hz,q⟩:=h
 cases rx
 obtain⟨u,rfl,ru⟩:=rv.one
 obtain⟨z,its,n,r,hl,e⟩:=I.lstM hH
 refine call_meets F.slot_list_append ⟨_,e,rfl⟩ F.entry_list_append (F.args_list_append_2 _ _) (PySem.list_append l its.toArray n u (by rw[List.size_toArray];omega)) ⟨e,?_⟩
 refine⟨.non,_,I.lset (its':=its++ [u]) hH e (by simp) (r.append (.cons ru .nil)) ?_,rfl,q⟩
 rw[List.length_append,List.length_singleton]
 omega
def rPop:V->List V->Hp->VK->Prop:=fun x vs H Q=>∃l xs y,x= .ref l/\vs= [] /\H l=some (.lst xs)/\xs[xs.length- 1]?=some y/\Q y (upd H l (.lst xs.dropLast))
theorem b63:MtM X "list.pop" rPop:=by
 intro pins s σ H x vs v us Q I rx rv h
 obtain⟨l,xs,y,rfl,rfl,hH,hy,q⟩:=h
 cases rx
 have hus:=rv.zero
 subst hus
 obtain⟨z,its,n,r,hl,e⟩:=I.lstM hH
 obtain⟨u,hu,ru⟩:=r.get hy
 have hy':its.toArray[its.toArray.size- 1]?=some u:=by
  show its.toArray[its.length- 1]?=some u
  rw[<- Array.getElem?_toList,<- hl]
  exact hu
 refine call_meets F.slot_list_pop ⟨_,e,rfl⟩ F.entry_list_pop (F.args_list_pop_1 _) (MeetsSeq.list_pop_last l its.toArray n u hy' (by rw[List.size_toArray];omega)) ⟨e,?_⟩
 refine⟨y,_,I.lset (its':=its.dropLast) hH e ?_ r.dropLast ?_,ru,q⟩
 ·show its.toArray.eraseIdxIfInBounds (its.toArray.size- 1)=its.dropLast.toArray
  rw[List.size_toArray,List.eraseIdxIfInBounds_toArray,b7p]
 ·rw[List.length_dropLast]
  omega
end
section
variable{κ:Type} [DecidableEq κ]
def aO(kvs:List (κ×V))(k:κ):Option V:=(kvs.find? fun kv=>decide (kv.1=k)).map (·.2)
def aT(kvs:List (κ×V))(k:κ)(v:V):List (κ×V):=
 if(kvs.any fun kv=>decide (kv.1=k))=true then kvs.map (fun kv=>if kv.1=k then(kv.1,v) else kv) else kvs++ [(k,v)]
theorem gJ{p:κ×V}{r:List (κ×V)}{k:κ}(e:p.1=k):aO (p::r) k=some p.2:=by simp[aO,List.find?_cons,e]
theorem jF{p:κ×V}{r:List (κ×V)}{k:κ}(e:¬p.1=k):aO (p::r) k=aO r k:=by simp[aO,List.find?_cons,e]
theorem oQ(k:κ):∀kvs:List (κ×V),(kvs.any fun kv=>decide (kv.1=k))=(aO kvs k).isSome
 | []=>rfl
 |p::r=>by
  rw[List.any_cons]
  by_cases e:p.1=k
  ·simp only[gJ e,decide_eq_true e,Bool.true_or,Option.isSome_some]
  ·rw[jF e,decide_eq_false e,Bool.false_or];exact oQ k r
theorem b2h(k j:κ)(y:V):∀kvs:List (κ×V),aO (kvs.map fun kv=>if kv.1=k then(kv.1,y) else kv) j=(aO kvs j).map fun x=>if j=k then y else x
 | []=>rfl
 |p::r=>by
  have ih:=b2h k j y r
  rw[List.map_cons]
  by_cases h:p.1=k
  ·rw[if_pos h]
   by_cases e:p.1=j
   ·rw[gJ (p:=(p.1,y)) e,gJ e,Option.map_some,if_pos (e.symm.trans h)]
   ·rw[jF (p:=(p.1,y)) e,jF e,ih]
  ·rw[if_neg h]
   by_cases e:p.1=j
   ·rw[gJ (p:=p) e,gJ e,Option.map_some,if_neg (fun z=>h (e.trans z))]
   ·rw[jF (p:=p) e,jF e,ih]
theorem b2M(k j:κ)(y:V):∀kvs:List (κ×V),aO kvs k=none->aO (kvs++ [(k,y)]) j=if j=k then some y else aO kvs j
 | [],_=>by
  by_cases e:k=j
  ·rw[if_pos e.symm];exact gJ (p:=(k,y)) e
  ·rw[if_neg (fun z=>e z.symm)];exact jF (p:=(k,y)) e
 |p::r,hn=>by
  rw[List.cons_append]
  have hk:¬p.1=k:=fun z=>by rw[gJ z]at hn;cases hn
  rw[jF hk]at hn
  have ih:=b2M k j y r hn
  by_cases e:p.1=j
  ·rw[gJ e,gJ e,if_neg (fun z=>hk (e.trans z))]
  ·rw[jF e,jF e,ih]
theorem iE(kvs:List (κ×V))(k j:κ)(y:V):aO (aT kvs k y) j=if j=k then some y else aO kvs j:=by
 unfold aT
 by_cases a:(kvs.any fun kv=>decide (kv.1=k))=true
 ·rw[if_pos a,b2h]
  rw[oQ]at a
  by_cases e:j=k
  ·obtain⟨x,hx⟩:=Option.isSome_iff_exists.mp a
   rw[if_pos e,e,hx,Option.map_some,if_pos rfl]
  ·rw[if_neg e]
   cases aO kvs j with
   |none=>rfl
   |some x=>rw[Option.map_some,if_neg e]
 ·rw[if_neg a]
  refine b2M k j y kvs ?_
  rw[oQ]at a
  cases q:aO kvs k with
  |none=>rfl
  |some x=>rw[q]at a;exact(a rfl).elim
theorem a5W(kvs:List (κ×V))(k:κ)(v:V):(aT kvs k v).length<=kvs.length+ 1:=by
 unfold aT
 split
 ·rw[List.length_map];omega
 ·rw[List.length_append,List.length_cons,List.length_nil];omega
theorem a1u{kvs:List (κ×V)}{k:κ}(v:V)(h:aO kvs k=none):aT kvs k v=kvs++ [(k,v)]:=by
 unfold aT
 rw[oQ,h]
 exact if_neg (by decide)
theorem fR.isSome_eq{o:Option V}{u:Option Value}(r:fR o u):o.isSome=u.isSome:=by
 cases o with
 |none=>cases u with
  |none=>rfl
  |some _=>exact(show False from r).elim
 |some _=>cases u with
  |none=>exact(show False from r).elim
  |some _=>rfl
theorem fR.getD{o:Option V}{u:Option Value}{d:V}{d':Value}(r:fR o u)(rd:bI d d'):bI (o.getD d) (u.getD d'):=by
 cases o with
 |none=>cases u with
  |none=>exact rd
  |some _=>exact(show False from r).elim
 |some _=>cases u with
  |none=>exact(show False from r).elim
  |some _=>exact r
theorem KV.val{kvs:List (κ×V)}{vs:List (κ×Value)}(r:KV kvs vs)(k:κ):fR (aO kvs k) (valueAt vs k):=by
 unfold KV at r
 induction r with
 |nil=>exact True.intro
 | @cons p q ps qs h t ih=>
  obtain⟨h1,h2⟩:=h
  by_cases e:p.1=k
  ·have e':q.1=k:=h1.symm.trans e
   have b:valueAt (q::qs) k=some q.2:=by simp[valueAt,List.find?_cons,e']
   rw[gJ e,b];exact h2
  ·have e':¬q.1=k:=fun z=>e (h1.trans z)
   have b:valueAt (q::qs) k=valueAt qs k:=by simp[valueAt,List.find?_cons,e']
   rw[jF e,b];exact ih
theorem KV.any{kvs:List (κ×V)}{vs:List (κ×Value)}(r:KV kvs vs)(k:κ):(kvs.any fun kv=>decide (kv.1=k))=vs.any fun kv=>decide (kv.1=k):=by
 unfold KV at r
 induction r with
 |nil=>rfl
 |cons h t ih=>rw[List.any_cons,List.any_cons,ih,h.1]
theorem KV.repl{kvs:List (κ×V)}{vs:List (κ×Value)}(r:KV kvs vs)(k:κ){y:V}{u:Value}(ry:bI y u):
 KV (kvs.map fun kv=>if kv.1=k then(kv.1,y) else kv) (vs.map fun kv=>if kv.1=k then(kv.1,u) else kv):=by
 unfold KV at r|-
 induction r with
 |nil=>exact .nil
 | @cons p q ps qs h t ih=>
  rw[List.map_cons,List.map_cons]
  refine .cons ?_ ih
  obtain⟨h1,h2⟩:=h
  by_cases e:p.1=k
  ·rw[if_pos e,if_pos (h1.symm.trans e)];exact⟨h1,ry⟩
  ·rw[if_neg e,if_neg (fun z=>e (h1.trans z))];exact⟨h1,h2⟩
theorem KV.put{kvs:List (κ×V)}{vs:List (κ×Value)}(r:KV kvs vs)(k:κ){y:V}{u:Value}(ry:bI y u):KV (aT kvs k y) (stored vs k u):=by
 unfold aT stored
 rw[r.any k]
 by_cases e:(vs.any fun kv=>decide (kv.1=k))=true
 ·rw[if_pos e,if_pos e];exact r.repl k ry
 ·rw[if_neg e,if_neg e];exact Paired.snoc r ⟨rfl,ry⟩
theorem KV.length{kvs:List (κ×V)}{vs:List (κ×Value)}(r:KV kvs vs):kvs.length=vs.length:=Paired.length r
end
theorem rH{P:Program}{w:World}{k:aC}{u:Value}(r:bI (kV k) u):(fQ P w).is k u=true:=by
 cases k with
 |inl i=>obtain⟨t,e⟩:=(show∃t,u=Value.int i t from r);subst e;exact b8I P w i t
 |inr x=>obtain⟨t,e⟩:=(show∃t,u=Value.str x t from r);subst e;exact b5F P w x t
theorem b2W{P:Program}{w:World}:∀{ks:List aC} {us:List Value},bH (ks.map kV) us->ItemsAre (fQ P w) ks us
 | [],_,r=>by rw[List.map_nil]at r;cases r;exact .nil
 |k::ks,_,r=>by
  rw[List.map_cons]at r
  cases r with
  |cons h t=>exact .cons (rH h) (b2W t)
abbrev KT(H:Hp):List (List aC×V)->List (List aC×Addr×Value)->Prop:=Paired fun p q=>p.1=q.1/\H q.2.1=some (.tup (p.1.map kV))/\bI p.2 q.2.2
theorem KT.val{H:Hp}{kvs:List (List aC×V)}{xs:List (List aC×Addr×Value)}(r:KT H kvs xs)(k:List aC):fR (aO kvs k) ((atKey xs k).map (·.2)):=by
 induction r with
 |nil=>exact True.intro
 | @cons p q ps qs h t ih=>
  obtain⟨h1,_,h2⟩:=h
  by_cases e:p.1=k
  ·have e':q.1=k:=h1.symm.trans e
   have b:atKey (q::qs) k=some q.2:=by simp[atKey,List.find?_cons,e']
   rw[gJ e,b];exact h2
  ·have e':¬q.1=k:=fun z=>e (h1.trans z)
   have b:atKey (q::qs) k=atKey qs k:=by simp[atKey,List.find?_cons,e']
   rw[jF e,b];exact ih
theorem KT.repl{H:Hp}{kvs:List (List aC×V)}{xs:List (List aC×Addr×Value)}(r:KT H kvs xs)(k:List aC){y:V}{u:Value}(ry:bI y u):
 KT H (kvs.map fun kv=>if kv.1=k then(kv.1,y) else kv) (xs.map (putAt k u)):=by
 induction r with
 |nil=>exact .nil
 | @cons p q ps qs h t ih=>
  rw[List.map_cons,List.map_cons]
  refine .cons ?_ ih
  obtain⟨h1,h2,h3⟩:=h
  unfold putAt
  by_cases e:p.1=k
  ·rw[if_pos e,if_pos (h1.symm.trans e)];exact⟨h1,h2,ry⟩
  ·rw[if_neg e,if_neg (fun z=>e (h1.trans z))];exact⟨h1,h2,h3⟩
theorem KT.put{H:Hp}{kvs:List (List aC×V)}{xs:List (List aC×Addr×Value)}(r:KT H kvs xs)(k:List aC){b:Addr}{y:V}{u:Value}(hb:H b=some (.tup (k.map kV)))(ry:bI y u):
 KT H (aT kvs k y) (storedH xs k b u):=by
 have e:(kvs.any fun kv=>decide (kv.1=k))=(atKey xs k).isSome:=by
  rw[oQ,(r.val k).isSome_eq,Option.isSome_map]
 unfold aT storedH
 rw[e]
 by_cases q:(atKey xs k).isSome=true
 ·rw[if_pos q,if_pos q];exact r.repl k ry
 ·rw[if_neg q,if_neg q];exact Paired.snoc r ⟨rfl,hb,ry⟩
theorem KT.keeps{H H':Hp}{kvs:List (List aC×V)}{xs:List (List aC×Addr×Value)}(r:KT H kvs xs)(ht:∀b ys,H b=some (.tup ys)->H' b=some (.tup ys)):KT H' kvs xs:=
 Paired.mapP r fun _ _ z=>⟨z.1,ht _ _ z.2.1,z.2.2⟩
section
variable{P:Program}{w:World}{H:Hp}{h:Heap}{a:Addr}
theorem b3h{u:HO}(ok:cA P w H h)(e:Rd H a u):cV P w H h a u:=e.ok ok
theorem nC{kvs:List (aC×V)}(ok:cA P w H h)(e:Rd H a (.dK kvs)):kvs.length<=sizeLine/\(a==sysModules)=false/\∃vs,KV kvs vs/\h.DictOf (fQ P w) a vs:=
 show cV P w H h a (.dK kvs) from b3h ok e
theorem b6A{kvs:List (aC×V)}(ok:cA P w H h)(e:H a=some (.dK kvs)):kvs.length<=sizeLine/\(a==sysModules)=false/\∃vs,KV kvs vs/\h.DictOf (fQ P w) a vs:=nC ok (.inl e)
theorem pI{ks:List aC}(ok:cA P w H h)(e:H a=some (.tup (ks.map kV))):(tupleKind (fQ P w)).is h ks a:=by
 obtain⟨_,its,r,o,h1,h2,n,h3⟩:=(show cV P w H h a (.tup (ks.map kV)) from ok a _ e)
 exact⟨o,its.toArray,n,h1,h2,h3,by simpa using b2W r⟩
theorem nN{kvs:List (List aC×V)}(ok:cA P w H h)(e:Rd H a (.dT kvs)):kvs.length<=sizeLine/\(a==sysModules)=false/\
 ∃xs,KT H kvs xs/\h.DictOfH (tupleKind (fQ P w)) a xs:=by
 obtain⟨z,y,xs,r,o,es,ep,h1,h2,h3,h4,h5⟩:=(show cV P w H h a (.dT kvs) from b3h ok e)
 refine⟨z,y,xs,r,o,es,ep,h1,h2,h3,h4,fun x hx=> ?_,h5⟩
 have all:∀{l:List (List aC×V)} {m:List (List aC×Addr×Value)},KT H l m->∀x∈m,(tupleKind (fQ P w)).is h x.1 x.2.1:=by
  intro l m q
  induction q with
  |nil=>intro x hx;exact nomatch hx
  | @cons p q ps qs hq t ih=>
   intro x hx
   rcases List.mem_cons.mp hx with e|hx
   ·subst e
    exact pI ok (by rw[<- hq.1];exact hq.2.1)
   ·exact ih x hx
 exact all r x hx
theorem b7L{kvs:List (List aC×V)}(ok:cA P w H h)(e:H a=some (.dT kvs)):kvs.length<=sizeLine/\(a==sysModules)=false/\
 ∃xs,KT H kvs xs/\h.DictOfH (tupleKind (fQ P w)) a xs:=nN ok (.inl e)
end
def cC(H:Hp)(a:Addr)(y:V)(r:Option V):Prop:=
 (∃kvs k,Rd H a (.dK kvs)/\y=kV k/\r=aO kvs k)\/ ∃kvs k b,Rd H a (.dT kvs)/\y= .ref b/\H b=some (.tup (k.map kV))/\r=aO kvs k
def iC(H:Hp)(a:Addr)(y v:V)(H':Hp):Prop:=
 (∃kvs k,H a=some (.dK kvs)/\y=kV k/\kvs.length<sizeLine/\H'=upd H a (.dK (aT kvs k v)))\/
 ∃kvs k b,H a=some (.dT kvs)/\y= .ref b/\H b=some (.tup (k.map kV))/\kvs.length<sizeLine/\H'=upd H a (.dT (aT kvs k v))
theorem cC.k{H:Hp}{a:Addr}{kvs:List (aC×V)}{k:aC}(e:H a=some (.dK kvs)):cC H a (kV k) (aO kvs k):=.inl ⟨kvs,k,.inl e,rfl,rfl⟩
theorem cC.t{H:Hp}{a b:Addr}{kvs:List (List aC×V)}{k:List aC}(e:H a=some (.dT kvs))(eb:H b=some (.tup (k.map kV))):cC H a (.ref b) (aO kvs k):=.inr ⟨kvs,k,b,.inl e,rfl,eb,rfl⟩
theorem iC.k{H:Hp}{a:Addr}{kvs:List (aC×V)}{k:aC}{v:V}(e:H a=some (.dK kvs))(hl:kvs.length<sizeLine):iC H a (kV k) v (upd H a (.dK (aT kvs k v))):=.inl ⟨kvs,k,e,rfl,hl,rfl⟩
theorem iC.t{H:Hp}{a b:Addr}{kvs:List (List aC×V)}{k:List aC}{v:V}(e:H a=some (.dT kvs))(eb:H b=some (.tup (k.map kV)))(hl:kvs.length<sizeLine):
 iC H a (.ref b) v (upd H a (.dT (aT kvs k v))):=.inr ⟨kvs,k,b,e,rfl,eb,hl,rfl⟩
section
variable{X:Cx}{pins:List (Addr×Obj)}{σ:St}{H:Hp}{s:Shared}{a:Addr}{y v:V}{u r:Value}{o:Option V}{A:Around}{E:Value->Shared->Prop}
theorem Inv.big(I:Inv X pins σ H s):sysModules<s.heap.objs.size:=by
 have h:mainGlobals<s.heap.objs.size:=(I.mod.glob.keeps I.bk).lt
 exact Nat.lt_trans (by decide) h
theorem b9M{Q:Value->Shared->Prop}(hu:A.units+ 1<cLine)(I:Inv X pins σ H s)(g:cC H a y (some v))(ry:bI y u)(h:∀w' s',Inv X pins σ H s'->bI v w'->Q w' s'):
 wpAny (model X.prog X.w) A (getItem (.ref a) u) Q E s:=by
 rcases g with⟨kvs,k,e,ey,l⟩|⟨kvs,k,b,e,ey,eb,l⟩
 ·subst ey
  obtain⟨z,hd,vs,rel,dd⟩:=nC I.hok e
  obtain⟨w',hw,rw'⟩:=fR.some_of (v:=v) (o:=valueAt vs k) (by rw[l];exact rel.val k)
  exact wpAny_getItem_of (rH ry) dd.mapOf hw (h w' _ (I.tok _) rw')
 ·subst ey
  cases (show u=Value.ref b from ry)
  obtain⟨z,hd,xs,rel,dd⟩:=nN I.hok e
  obtain⟨w',hw,rw'⟩:=fR.some_of (v:=v) (o:=(atKey xs k).map (·.2)) (by rw[l];exact rel.val k)
  obtain⟨p,hp,hp2⟩:=Option.map_eq_some_iff.mp hw
  refine wpAny_getItem_heap (tupleKind_room_in1 hu) (pI I.hok eb) dd hp ?_
  rw[hp2]
  exact h w' _ (I.tok _) rw'
theorem d_in{Q:Value->Shared->Prop}(hu:A.units+ 1<cLine)(I:Inv X pins σ H s)(g:cC H a y o)(ry:bI y u)(h:∀s',Inv X pins σ H s'->Q (.bool o.isSome) s'):
 wpAny (model X.prog X.w) A (compareOp .In u (.ref a)) Q E s:=by
 rcases g with⟨kvs,k,e,ey,l⟩|⟨kvs,k,b,e,ey,eb,l⟩
 ·subst ey
  obtain⟨z,hd,vs,rel,dd⟩:=nC I.hok e
  refine wpAny_in_of (rH ry) hd dd.mapOf ?_
  rw[<- (rel.val k).isSome_eq,<- l]
  exact h _ (I.tok _)
 ·subst ey
  cases (show u=Value.ref b from ry)
  obtain⟨z,hd,xs,rel,dd⟩:=nN I.hok e
  refine wpAny_in_heap (tupleKind_room_in1 hu) (pI I.hok eb) hd dd ?_
  have q:=(rel.val k).isSome_eq
  rw[Option.isSome_map]at q
  rw[<- q,<- l]
  exact h _ (I.tok _)
theorem b6d{Q:Value->Shared->Prop}(hu:A.units+ 1<cLine)(I:Inv X pins σ H s)(g:cC H a y o)(ry:bI y u)(h:∀s',Inv X pins σ H s'->Q (.bool (!o.isSome)) s'):
 wpAny (model X.prog X.w) A (compareOp .NotIn u (.ref a)) Q E s:=by
 rcases g with⟨kvs,k,e,ey,l⟩|⟨kvs,k,b,e,ey,eb,l⟩
 ·subst ey
  obtain⟨z,hd,vs,rel,dd⟩:=nC I.hok e
  refine wpAny_notIn_of (rH ry) hd dd.mapOf ?_
  rw[<- (rel.val k).isSome_eq,<- l]
  exact h _ (I.tok _)
 ·subst ey
  cases (show u=Value.ref b from ry)
  obtain⟨z,hd,xs,rel,dd⟩:=nN I.hok e
  refine wpAny_notIn_heap (tupleKind_room_in1 hu) (pI I.hok eb) hd dd ?_
  have q:=(rel.val k).isSome_eq
  rw[Option.isSome_map]at q
  rw[<- q,<- l]
  exact h _ (I.tok _)
theorem b3P{h':Heap}{t':Nat}{ob:HO}(I:Inv X pins σ H s)(mu:vC (H a))(hs:Heap.SameBut a s.heap h')(he:∃q,h'.get? a=some q)(new:cV X.prog X.w (upd H a ob) h' a ob):
 Inv X pins σ (upd H a ob) {s with heap:=h',toks:=t'}:=
 I.write (x:=a) (e:=a) mu (.inl rfl) (fun b q hb z=>(hs.2 b hb).trans z) he new
theorem b5e{P:Program}{w:World}{H':Hp}{h':Heap}{kvs:List (aC×V)}{vs:List (aC×Value)}(z:kvs.length<=sizeLine)(hd:(a==sysModules)=false)(rel:KV kvs vs)(dd:h'.DictOf (fQ P w) a vs):
 cV P w H' h' a (.dK kvs):=⟨z,hd,vs,rel,dd⟩
theorem b4T{H':Hp}{Q:Unit->Shared->Prop}(hu:A.units+ 1<cLine)(I:Inv X pins σ H s)(g:iC H a y v H')(ry:bI y u)(rv:bI v r)(h:∀s',Inv X pins σ H' s'->Q () s'):
 wpAny (model X.prog X.w) A (setItem (.ref a) u r) Q E s:=by
 rcases g with⟨kvs,k,e,ey,l,eH⟩|⟨kvs,k,b,e,ey,eb,l,eH⟩
 ·subst ey eH
  obtain⟨z,hd,vs,rel,dd⟩:=b6A I.hok e
  have hz:vs.length<=sizeLine:=by rw[<- rel.length];exact z
  have hl:(aT kvs k v).length<=sizeLine:=by have:=a5W kvs k v;omega
  refine wpAny_setItem_pairs (hsz:=hz) (rH ry) dd fun h' dd' hs=>h _ ?_
  have he:∃q,h'.get? a=some q:=let ⟨q,_,_,hq,_⟩:=dd';⟨q,hq⟩
  exact b3P I (by rw[e];exact True.intro) hs he (b5e hl hd (rel.put k rv) dd')
 ·subst ey eH
  cases (show u=Value.ref b from ry)
  obtain⟨z,hd,xs,rel,dd⟩:=b7L I.hok e
  have hz:xs.length<=sizeLine:=by rw[<- Paired.length rel];exact z
  have hl:(aT kvs k v).length<=sizeLine:=by have:=a5W kvs k v;omega
  refine wpAny_setItem_heap (hsz:=hz) (tupleKind_room_in1 hu) (pI I.hok eb) dd fun h' dd' hs=>h _ ?_
  obtain⟨q,es,ep,hq,h2,h3,h4,_,h5⟩:=dd'
  refine b3P I (by rw[e];exact True.intro) hs ⟨q,hq⟩ ⟨hl,hd,_,(rel.put k eb rv).keeps fun c ys ec=> ?_,q,es,ep,hq,h2,h3,h4,h5⟩
  rw[aH (jX ec e (fun z=>nomatch z))]
  exact ec
end
section
variable{X:Cx}{pins:List (Addr×Obj)}{σ:St}{H:Hp}{s:Shared}{a:Addr}{kvs:List (aC×V)}{k:aC}{u:Value}{A:Around}{E:Value->Shared->Prop}
theorem b6G{Q:Value->Shared->Prop}(I:Inv X pins σ H s)(e:Rd H a (.dK kvs))(h:∀t s',Inv X pins σ H s'->Q (.int kvs.length t) s'):wpAny (model X.prog X.w) A (call (.builtin "len") [.ref a]) Q E s:=by
 obtain⟨z,hd,vs,rel,dd⟩:=nC I.hok e
 refine call_len_dict hd dd (by rw[<- rel.length];rw[sizeLine_eq]at z;omega) ?_
 rw[<- rel.length]
 exact h _ _ (I.tok _)
end
def NoSl(i:Expr):Prop:=∀ov iv,subscripted i false ov iv=operate [ov,iv] (getItem ov iv)
theorem b6U{prog:Program}{w:World}{A:Around}{E:Value->Shared->Prop}{s:Shared}{env:Env}{value slice:Expr}{pos:Pos}{T id:String}{Q:Value->Shared->Prop}
 (hl:typeLookup (.type T) "__getitem__"=pure (some (.builtin id)))(hs:NoSl slice)
 (h:wpAny (model prog w) A (eval value env) (fun o s₁=>wpAny (model prog w) A (eval slice env) (fun i s₂=>s₂.TypeIs o T/\wpAny (model prog w) A (getItem o i) Q E s₂) E s₁) E s):
 wpAny (model prog w) A (eval (.Subscript value slice pos) env) Q E s:=by
 refine Subscript_ (wpAny_mono h (fun o s₁ h₁=>wpAny_mono h₁ (fun i s₂ h₂=> ?_) fun _ _ x=>x) fun _ _ x=>x)
 obtain⟨hT,h₂⟩:=h₂
 unfold subscriptTail
 refine wpAny_bind ?_
 rw[getitemInPython_of_ne hT.not_modules]
 refine wpAny_bind (wpAny_specialOf hT hl ?_)
 have fin:wpAny (model prog w) A (subscripted slice false o i) (fun r s₃=>wpAny (model prog w) A (letTemporaryGo value o r>>=fun _=>pure r) Q E s₃) E s₂:=by
  rw[hs o i]
  exact wpAny_operating (wpAny_mono h₂ (fun r s₃ h₃=>wpAny_bind (wpAny_letTemporaryGo (wpAny_pure h₃))) fun _ _ x=>x)
 first
  |exact wpAny_pure (wpAny_bind fin)
  |exact wpAny_bind (wpAny_pure (wpAny_bind fin))
  |exact wpAny_bind fin
theorem b8F{X:Cx}{pins:List (Addr×Obj)}{σ:St}{H:Hp}{s:Shared}{a:Addr}{y:V}{o:Option V}(I:Inv X pins σ H s)(g:cC H a y o):s.TypeIs (.ref a) "dict":=by
 rcases g with⟨kvs,k,e,_,_⟩|⟨kvs,k,b,e,_,_,_⟩
 ·obtain⟨_,_,vs,_,dd⟩:=nC I.hok e
  exact dd.typeIs
 ·obtain⟨_,_,xs,_,dd⟩:=nN I.hok e
  exact dd.typeIs
def b9Q(td ty:TE):TE:=fun σ H Q=>td σ H fun x H1=>ty σ H1 fun y H2=>∃a v,x= .ref a/\cC H2 a y (some v)/\Q v H2
def tDIn(ty td:TE):TE:=fun σ H Q=>ty σ H fun y H1=>td σ H1 fun x H2=>∃a o,x= .ref a/\cC H2 a y o/\Q (.bl o.isSome) H2
def b6Z(ty td:TE):TE:=fun σ H Q=>ty σ H fun y H1=>td σ H1 fun x H2=>∃a o,x= .ref a/\cC H2 a y o/\Q (.bl (!o.isSome)) H2
def b4X(td ty tv:TE):TS:=fun D σ H=>tv σ H fun v H1=>td σ H1 fun x H2=>ty σ H2 fun y H3=>∃a H4,x= .ref a/\iC H3 a y v H4/\D.nx σ H4
section
variable{X:Cx}{o i e value:Expr}{pos pos' tpos:Pos}{td ty tv:TE}
theorem fV(hu:X.A.units+ 1<cLine)(ho:PE X o td)(hi:PE X i ty)(hs:NoSl i):PE X (.Subscript o i pos) (b9Q td ty):=by
 intro pins s σ H Q I h
 refine b6U PySem.F.slot_dict_getitem.lookup hs (aR (ho pins s σ H _ I h) fun u s1 ⟨x,H1,I1,rx,q1⟩=>aR (hi pins s1 σ H1 _ I1 q1) fun iv s2 ⟨y,H2,I2,ry,a,v,ex,g,q2⟩=> ?_)
 subst ex
 obtain rfl:u=Value.ref a:=rx
 exact⟨b8F I2 g,b9M hu I2 g ry fun w' s3 I3 rw'=>⟨v,H2,I3,rw',q2⟩⟩
theorem qI(hu:X.A.units+ 1<cLine)(hi:PE X i ty)(ho:PE X o td):PC X .In i o (tDIn ty td):=by
 intro pins s σ H Q I h
 refine aR (hi pins s σ H _ I h) fun iv s1 ⟨y,H1,I1,ry,q1⟩=>aR (ho pins s1 σ H1 _ I1 q1) fun u s2 ⟨x,H2,I2,rx,a,ov,ex,g,q2⟩=> ?_
 subst ex
 obtain rfl:u=Value.ref a:=rx
 exact d_in hu I2 g ry fun s3 I3=>⟨.bl ov.isSome,H2,I3,rfl,q2⟩
theorem mH(hu:X.A.units+ 1<cLine)(hi:PE X i ty)(ho:PE X o td):PC X .NotIn i o (b6Z ty td):=by
 intro pins s σ H Q I h
 refine aR (hi pins s σ H _ I h) fun iv s1 ⟨y,H1,I1,ry,q1⟩=>aR (ho pins s1 σ H1 _ I1 q1) fun u s2 ⟨x,H2,I2,rx,a,ov,ex,g,q2⟩=> ?_
 subst ex
 obtain rfl:u=Value.ref a:=rx
 exact b6d hu I2 g ry fun s3 I3=>⟨.bl (!ov.isSome),H2,I3,rfl,q2⟩
theorem jI(hu:X.A.units+ 1<cLine)(ho:PE X o td)(hi:PE X i ty)(hv:PE X value tv)(hs:swapsWith value (some (.Subscript o i pos')) pos.line X.env=pure false):
 PS X (.Assign [.Subscript o i pos'] value pos) (b4X td ty tv):=by
 intro pins s σ H D I h
 refine wpAny_Assign_Subscript (aR (hv pins s σ H _ I h) fun r s1 ⟨v,H1,I1,rv,q1⟩=>aR (ho pins s1 σ H1 _ I1 q1) fun u s2 ⟨x,H2,I2,rx,q2⟩=>aR (hi pins s2 σ H2 _ I2 q2) fun iv s3 ⟨y,H3,I3,ry,a,H4,ex,g,q3⟩=> ?_) hs
 subst ex
 obtain rfl:u=Value.ref a:=rx
 exact b4T hu I3 g ry rv fun s4 I4=>⟨σ,H4,I4,q3⟩
end
theorem b5E{P:Program}{w:World}{H:Hp}(h:Heap)(hb:sysModules<h.objs.size):cV P w H (h.push {cls:=.type "dict",data:=.dict #[]}) h.objs.size (.dK []):=
 ⟨Nat.zero_le _,beq_eq_false_iff_ne.mpr (Ne.symm (Nat.ne_of_lt hb)),[],.nil,Heap.DictOf.new h⟩
theorem c0q{P:Program}{w:World}{H:Hp}(h:Heap)(hb:sysModules<h.objs.size):cV P w H (h.push {cls:=.type "dict",data:=.dict #[]}) h.objs.size (.dT []):=
 ⟨Nat.zero_le _,beq_eq_false_iff_ne.mpr (Ne.symm (Nat.ne_of_lt hb)),[],.nil,_,#[],0,Heap.get?_push_size _ rfl,⟨rfl,rfl,rfl⟩,rfl,rfl,List.nodup_nil⟩
def b6J:TE:=fun _ H Q=>∀p,H p=none->Q (.ref p) (upd H p (.dK []))
def b6x:TE:=fun _ H Q=>∀p,H p=none->Q (.ref p) (upd H p (.dT []))
section
variable{X:Cx}{pos:Pos}
theorem xW:PE X (.Dict [] [] pos) b6J:=fun pins s σ H Q I h=>
 wpAny_Dict_empty ⟨.ref s.heap.objs.size,_,I.laid (a:=s.heap.objs.size) (o:=.dK []) (t':=s.toks) (fun _ _ q=>Heap.get?_push_of_some _ q) (Nat.le_refl _) (b5E s.heap I.big),rfl,h _ (I.hok.fresh (Nat.le_refl _))⟩
theorem uD:PE X (.Dict [] [] pos) b6x:=fun pins s σ H Q I h=>
 wpAny_Dict_empty ⟨.ref s.heap.objs.size,_,I.laid (a:=s.heap.objs.size) (o:=.dT []) (t':=s.toks) (fun _ _ q=>Heap.get?_push_of_some _ q) (Nat.le_refl _) (c0q s.heap I.big),rfl,h _ (I.hok.fresh (Nat.le_refl _))⟩
end
def b1i:List (TE×TE)->St->Hp->(List (V×V)->Hp->Prop)->Prop
 | [],_,H,Q=>Q [] H
 |(tk,tv)::r,σ,H,Q=>tk σ H fun x H1=>tv σ H1 fun y H2=>b1i r σ H2 fun ps H3=>Q ((x,y)::ps) H3
abbrev VV:List (V×V)->List (Value×Value)->Prop:=Paired fun p q=>bI p.1 q.1/\bI p.2 q.2
def PPs(X:Cx)(pos:Pos)(keys:List (Option Expr))(values:List Expr)(trs:List (TE×TE)):Prop:=
 ∀(pins:List (Addr×Obj)) (s:Shared) (σ:St) (H:Hp) (Q:List (V×V)->Hp->Prop),Inv X pins σ H s->b1i trs σ H Q->
  wpAny (model X.prog X.w) X.A (evalPairs (pairTrees keys values X.env pos)) (fun vs s'=>∃ps H',Inv X pins σ H' s'/\VV ps vs/\Q ps H') X.xe s
structure M1(X:Cx)(o:Expr)(m:Str)(apos:Pos)(e:Expr)(cpos:Pos):Prop where
 base:attributeBase o m X.env (eval o X.env)=eval o X.env
 few:((backTo cpos (starEach [e] X.env)).all (fun x=> !x.1)&&(backToKw cpos (keywordEach [] X.env)).all (fun x=>x.1.isSome)
  &&decide (([e]:List Expr).length+ ([]:List Keyword).length+ (if([]:List Keyword).isEmpty then 0 else 1)<30))=true
 line:(apos.endLine==cpos.line)=true
 trees:backTo cpos (starEach [e] X.env)= [(false,eval e X.env)]
structure M2(X:Cx)(o:Expr)(m:Str)(apos:Pos)(e f:Expr)(cpos:Pos):Prop where
 base:attributeBase o m X.env (eval o X.env)=eval o X.env
 few:((backTo cpos (starEach [e,f] X.env)).all (fun x=> !x.1)&&(backToKw cpos (keywordEach [] X.env)).all (fun x=>x.1.isSome)
  &&decide (([e,f]:List Expr).length+ ([]:List Keyword).length+ (if([]:List Keyword).isEmpty then 0 else 1)<30))=true
 line:(apos.endLine==cpos.line)=true
 trees:backTo cpos (starEach [e,f] X.env)= [(false,eval e X.env),(false,eval f X.env)]
def IsD(H:Hp)(a:Addr):Prop:=(∃kvs,Rd H a (.dK kvs))\/ ∃kvs,Rd H a (.dT kvs)
theorem b65{X:Cx}{pins:List (Addr×Obj)}{σ:St}{H:Hp}{s:Shared}{a:Addr}(I:Inv X pins σ H s)(d:IsD H a):
 s.TypeIs (.ref a) "dict" /\(∀b,Value.ref a= .ref b->∃ob,s.heap.get? b=some ob/\ob.dict=none)/\(a==sysModules)=false:=by
 rcases d with⟨kvs,e⟩|⟨kvs,e⟩
 ·obtain⟨_,hd,vs,_,dd⟩:=nC I.hok e
  refine⟨dd.typeIs,fun b q=> ?_,hd⟩
  cases q
  obtain⟨ob,_,_,h1,h2,_⟩:=dd
  exact⟨ob,h1,h2.2.1⟩
 ·obtain⟨_,hd,xs,_,dd⟩:=nN I.hok e
  refine⟨dd.typeIs,fun b q=> ?_,hd⟩
  cases q
  obtain⟨ob,_,_,h1,h2,_⟩:=dd
  exact⟨ob,h1,h2.2.1⟩
section
variable{X:Cx}{pins:List (Addr×Obj)}{σ:St}{H:Hp}{s:Shared}{a:Addr}{y d:V}{u r:Value}{o:Option V}{A:Around}{E:Value->Shared->Prop}
theorem b67{Q:Value->Shared->Prop}(hu:A.units+ 1<cLine)(I:Inv X pins σ H s)(g:cC H a y o)(ry:bI y u)(rd:bI d r)(h:∀w' s',Inv X pins σ H s'->bI (o.getD d) w'->Q w' s'):
 wpAny (model X.prog X.w) A (call (.builtin "dict.get") [.ref a,u,r]) Q E s:=by
 rcases g with⟨kvs,k,e,ey,l⟩|⟨kvs,k,b,e,ey,eb,l⟩
 ·subst ey
  obtain⟨z,hd,vs,rel,dd⟩:=nC I.hok e
  refine call_meetsIn PySem.F.slot_dict_get dd.typeIs PySem.F.entry_dict_get (PySem.F.args_dict_get_3 _ _ _) (meets_dict_get_default (fQ X.prog X.w) a (rH ry) hd r) ⟨_,dd.mapOf,h _ _ (I.tok _) ?_⟩
  rw[l]
  exact(rel.val k).getD rd
 ·subst ey
  cases (show u=Value.ref b from ry)
  obtain⟨z,hd,xs,rel,dd⟩:=nN I.hok e
  refine call_meetsIn PySem.F.slot_dict_get dd.typeIs PySem.F.entry_dict_get (PySem.F.args_dict_get_3 _ _ _) (meetsH_dict_get_default (tupleKind (fQ X.prog X.w)) a b hd r) ⟨tupleKind_room_in1 hu,k,xs,pI I.hok eb,dd,h _ _ (I.tok _) ?_⟩
  rw[l]
  exact(rel.val k).getD rd
end
def b8R(td ty tx:TE):TE:=fun σ H Q=>td σ H fun x H1=>∃a,x= .ref a/\IsD H1 a/\ty σ H1 fun y H2=>tx σ H2 fun z H3=>∃o,cC H3 a y o/\Q (o.getD z) H3
section
variable{X:Cx}{o e f:Expr}{apos cpos:Pos}{td ty tx:TE}
theorem b7j(hu:X.A.units+ 1<cLine)(ho:PE X o td)(he:PE X e ty)(hf:PE X f tx)(m:M2 X o "get" apos e f cpos):PE X (.Call (.Attribute o "get" apos) [e,f] [] cpos) (b8R td ty tx):=by
 intro pins s σ H Q I h
 refine wpAny_Call_method m.base m.few m.line PySem.F.plainAttrs_dict PySem.F.slot_dict_get PySem.F.type_dict_get (aR (ho pins s σ H _ I h) fun u s1 ⟨x,H1,I1,rx,a,ex,d,q1⟩=> ?_)
 subst ex
 obtain rfl:u=Value.ref a:=rx
 obtain⟨t1,t2,_⟩:=b65 I1 d
 refine⟨t1,t2,?_⟩
 rw[m.trees]
 refine Calls.callWith_builtin rfl (Calls.evalArgs_plain (Calls.spliced_cons (aR (he pins s1 σ H1 _ I1 q1) fun iv s2 ⟨y,H2,I2,ry,q2⟩=>
  Calls.spliced_cons (aR (hf pins s2 σ H2 _ I2 q2) fun fv s3 ⟨z,H3,I3,rz,ov,g,q3⟩=>Calls.spliced_nil ?_))))
 exact b67 hu I3 g ry rz fun w' s4 I4 rw'=>⟨_,H3,I4,rw',q3⟩
end
end L2
namespace Att
open PySem PySem.W PySem.Calls PyProof.Rows
theorem b6Q{P:Params}{h:Heap}:∀(ns:List Int) (vs:List Value),WellAll P h vs (ns.map WData.int)->IntsAre vs ns:=by
 intro ns
 induction ns with
 |nil=>
  intro vs w
  rw[List.map_nil]at w
  cases w
  exact .nil
 |cons n ns ih=>
  intro vs w
  rw[List.map_cons]at w
  cases w with
  |cons a b=>
   cases a
   exact .cons _ _ (ih _ b)
theorem b6C{l:OpenLaw}{n:Nat}(hn:l.most=some n){P:Params}{h:Heap}{args:List WData}{vals:List Value}
 (hpre:l.row.toRowW.claim.pre args=true)(hwl:WellAll P h vals args):
 ∃a vs ns,vals= [Value.ref a] /\args= [WData.list (ns.map WData.int)] /\h.get? a=some {cls:=.type "list",data:=.seq vs.toArray} /\IntsAre vs ns/\ns.length<=n:=by
 have hsh:WShape.hasAll [] args [.list .int]=true:=(pre_splitW hpre).1
 have hc:l.pre.holds [] {args:=args}=true:=(pre_splitW hpre).2
 obtain⟨d,r,rfl,h1,h2⟩:=hasAllW_cons hsh
 obtain rfl:=hasAllW_nil h2
 obtain⟨xs,rfl,h3⟩:=hasW_list h1
 obtain⟨ns,rfl⟩:=items_int h3
 have hlen:ns.length<=n:=by
  unfold OpenLaw.pre at hc
  have h4:(WTm.not (.lt (.lit (.int (n:Int))) (.len (.arg 0)))).holds [] {args:=[.list (ns.map .int)]}=true:=by
   have h4:=(holds_andW hc).1
   rw[hn]at h4
   exact h4
  have h5:=condW_of h4 (w_not (w_lt w_lit (w_len_list (w_arg rfl))))
  rw[List.length_map]at h5
  refine Nat.le_of_not_lt fun q=> ?_
  have q':(n:Int)<((ns.length:Nat):Int):=by omega
  first
   |(rw[decide_eq_true q']at h5;exact absurd h5 (by decide))
   |(simp at h5;omega)
 cases hwl with
 |cons w1 w2=>
  cases w2
  cases w1 with
  |list ho hall=>exact⟨_,_,ns,rfl,rfl,ho,b6Q ns _ hall,hlen⟩
theorem b8A(l:OpenLaw)(args:List WData):l.row.toRowW.claim.post args (.bool true) args=true:=
 postW_of (r:=l.row.toRowW) (X:=(true==true))
  (show WShape.has [] (.bool true) .bool=true by first|rfl|decide|simp[WShape.has,WShape.arms,WShape.armsAll])
  (show(WTm.eq .res (.lit (.bool true))).value [] {args:=args,res:=some (.bool true),after:=args}=some (.bool (true==true)) from w_eq_bool (w_res rfl) w_lit) rfl
theorem attach_call{l:OpenLaw}{n:Nat}{q:Program}{loose:List Str}{XP:(Str->Option Value)->Heap->Prop}{YP:World->Heap->Prop}{d:DefRec}
 (hn:l.most=some n)(hdf:d.params.defaults= [])
 (call:∀(w:World) (s₀ s₁:Shared) (mg mb:Str->Option Value) (fa:Addr) (o:Obj) (pm cd doc:Value) (a:Addr) (vs:List Value) (ns:List Int),
  Ground q loose [] XP w s₀ mg mb s₁.heap->YP w s₁.heap->
  s₁.heap.get? fa=some o->o.data= .func (docDef d.name d.params d.body d.scope pm cd doc)->s₁.heap.CodeRec cd d.name->mg d.name=some (.ref fa)->
  s₁.heap.get? a=some {cls:=.type "list",data:=.seq vs.toArray} ->IntsAre vs ns->ns.length<=n->s₁.gens= #[] ->
  codeAny (model l.prog w) callerA (.call (.ref fa) ⟨[.ref a],[]⟩) (fun r s'=>r= .ok (.ret (.bool true))/\OldK s₁.heap s'.heap/\s'.os=s₁.os/\AllBare s'.gens) s₁):
 WalkO q loose XP YP l.row.toRowW d [] (fun f vs=>PySem.call f vs):=by
 intro w s₀ s₁ mg mb G Y fa o pm cd doc dV kV ho hd hcd hD hmg hg args vals as hpre hlay hrd hwl hlo
 obtain rfl:dV= .none:=Dflts.none hD hdf
 obtain rfl:kV= .none:=Dflts.noKw hD
 obtain⟨a,vs,ns,rfl,rfl,hobj,hints,hlen⟩:=b6C hn hpre hwl
 refine enter_call (codeAny_mono (call w s₀ s₁ mg mb fa o pm cd doc a vs ns G Y ho (fd_plain hd) hcd hmg hobj hints hlen hg) fun r s' hq=> ?_)
 obtain⟨rfl,h2,h3,h4⟩:=hq
 exact⟨.inl ⟨.bool true,.bool true,[],rfl,fun _=>rfl,.bool true,b8A l _,fun _=>⟨List.Pairwise.nil,fun _ hm=>(nomatch hm)⟩⟩,h2,h3,h4⟩
section
variable{prog:Program}{w:World}{A:Around}{E:Value->Shared->Prop}{s:Shared}{K:Frag}
noncomputable def ledger(h:Heap)(L d:Addr):List (Addr×Obj):=(List.range h.objs.size).filterMap fun a=>if a=L\/ a=d then none else(h.get? a).map fun o=>(a,o)
end
end Att
namespace L2
open PySem PySem.Spec PyProof.Rows
theorem b3t:∀{vs:List Value} {ns:List Int},IntsAre vs ns->bH (ns.map V.int) vs
 |_,_,.nil=> .nil
 |_,_,.cons n t h=> .cons ⟨t,rfl⟩ (b3t h)
def aV(s:Stmt):Arguments:=match s with
 | .FunctionDef _ a _ _ _ _ _ _ _ _=>a
 |_=>{posonlyargs:=[],args:=[],vararg:=none,kwonlyargs:=[],kw_defaults:=[],kwarg:=none,defaults:=[]}
def aS(s:Stmt):List Stmt:=match s with
 | .FunctionDef _ _ b _ _ _ _ _ _ _=>b
 |_=> []
def aF(s:Stmt):Scope:=match s with
 | .FunctionDef _ _ _ _ _ _ sc _ _ _=>sc
 |_=>{kind:=.function,names:=[],isGenerator:=false,isCoroutine:=false}
abbrev aB:eN:=fun _ _ _ _ _ _=>False
abbrev E0:XK:=fun _ _ _=>False
theorem aM{X:Cx}:gL aB X E0:=fun _ _ _ _ _ _ _ h=>h.elim
structure iX(K:Fg)(x qual:Str)(st:Stmt)(f:Addr)(fd:FuncData):Prop where
 ex:∃(oc:Value) (od:Option Addr) (kV doc pm:Value) (an:Option Addr) (cdv ct:Value) (osl:Array (Option Value)),
  fd=PySem.W.fnOf x qual (aV st) (aS st) (aF st) .none kV doc pm an cdv ct/\K.lookup f=some ⟨oc,od,.func fd,osl⟩ /\PySem.W.codeIn K cdv qual=true
 kp:PySem.W.keepIn K (.ref f)=true
section
variable{P:Program}{w:World}{K:Fg}{mg:Str->Option Value}{base:Heap}
theorem iX.ok{x qual:Str}{st:Stmt}{f:Addr}{fd:FuncData}{N ps:List Str}{k:Nat}{sp:Sp}(F:iX K x qual st f fd)(S:aY N ps (aF st))(len:∀vs H Q E,sp vs H Q E->vs.length=ps.length)
 (hbody:∀(cdv:Value) (A:Around) (outer:List Env) (s:Shared) (H:Hp) (vs:List V) (Q:VK) (E:XK),bT k (A.deeper (envOfC qual (aF st) s.heap.objs.size f cdv))->sp vs H Q E->
  ∃t,eL (dX aB P w K mg base N qual (aF st) f cdv A outer s H E).nox (aS st) t/\t {nx:=fun _ H'=>Q .non H',rt:=Q} (start N vs) H):eU P w K mg base aB (k+ 1) f fd ps sp:=by
 obtain⟨oc,od,kV,doc,pm,an,cdv,ct,osl,rfl,lk,hcd⟩:=F.ex
 refine a5h lk hcd S len fun A outer s H vs Q E hr hsp=> ?_
 obtain⟨t,h,q⟩:=hbody cdv A outer s H vs Q E hr hsp
 exact⟨t,h.nox,q⟩
theorem iX.binds{x qual:Str}{st:Stmt}{f:Addr}{fd:FuncData}{ps:List Str}(F:iX K x qual st f fd)
 (h:∀(kV doc pm:Value) (an:Option Addr) (cdv ct:Value) (us:List Value),us.length=ps.length->bindArgs (PySem.W.fnOf x qual (aV st) (aS st) (aF st) .none kV doc pm an cdv ct) ⟨us,[]⟩=pure (ps.zip us)):iK K fd ps []:=by
 obtain⟨oc,od,kV,doc,pm,an,cdv,ct,osl,rfl,lk,hcd⟩:=F.ex
 exact .all (h kV doc pm an cdv ct)
theorem a0g{x qual:Str}{st:Stmt}{f:Addr}{oc:Value}{od an:Option Addr}{osl:Array (Option Value)}{kV doc pm cdv ct:Value}(l:K.lookup f=some ⟨oc,od,.func (PySem.W.fnOf x qual (aV st) (aS st) (aF st) .none kV doc pm an cdv ct),osl⟩)
 (c:PySem.W.codeIn K cdv qual=true)(k:PySem.W.keepIn K (.ref f)=true):iX K x qual st f (PySem.W.fnOf x qual (aV st) (aS st) (aF st) .none kV doc pm an cdv ct):=⟨⟨oc,od,kV,doc,pm,an,cdv,ct,osl,rfl,l,c⟩,k⟩
end
theorem eC{A:Around}{k:Nat}(hr:bT k A):A.units+ 1<cLine:=Nat.lt_of_le_of_lt (Nat.add_le_add_left (by decide:1<=64) _) hr.units
theorem cQ{n:Nat}(h:n<=1000):n<sizeLine:=Nat.lt_of_le_of_lt h (by decide)
section
variable{X:Cx}
theorem pv(i:Nat){x:Str}{pos:Pos}(hN:X.N[i]?=some x:=by rfl)(hv:Vis X.env.scope x:=by first|exact Or.inl rfl|exact Or.inr (Or.inl rfl)|exact Or.inr (Or.inr rfl))(hd:(x==("__debug__":Str))=false:=by decide)
 (hcd:(x==("__classdict__":Str))=false:=by decide):PE X (.Name x pos) (jU i):=b1Y hN hv hd hcd
theorem b2f:jC X (.builtin "len") (fun xs H Q=>∃a kvs,xs= [V.ref a] /\H a=some (.dK kvs)/\Q (.int kvs.length) H):=by
 intro pins s σ H xs us Q I r h
 obtain⟨a,kvs,rfl,ha,q⟩:=h
 obtain⟨u,rfl,ru⟩:=nB r
 cases ru
 exact b6G I (.inl ha) fun t s' I'=>⟨.int kvs.length,H,I',⟨t,rfl⟩,q⟩
end
theorem bJ{A B:Prop}(h:B):if false=true then A else B:=by
 rw[if_neg Bool.false_ne_true]
 exact h
theorem cG{A B:Prop}(h:A):if true=true then A else B:=by
 rw[if_pos rfl]
 exact h
theorem dN{c A B:Prop} [Decidable c](h1:c->A)(h2:¬c->B):if c then A else B:=by
 by_cases h:c
 ·rw[if_pos h]
  exact h1 h
 ·rw[if_neg h]
  exact h2 h
def aG(H H':Hp):Prop:=∀b o,H b=some o->H' b=some o
theorem aG.refl(H:Hp):aG H H:=fun _ _ h=>h
theorem aG.trans{H H1 H2:Hp}(a:aG H H1)(b:aG H1 H2):aG H H2:=fun c o h=>b c o (a c o h)
theorem aG.seq{K:Fg}{H H':Hp}{a:Addr}{xs:List V}(e:aG H H')(h:aL K H a xs):aL K H' a xs:=by
 rcases h with(h|⟨o,h⟩)|h
 ·exact .inl (.inl (e _ _ h))
 ·exact .inl (.inr ⟨o,e _ _ h⟩)
 ·exact .inr h
section
variable{κ:Type} [DecidableEq κ]
theorem b8e{kvs:List (κ×V)}{k:κ}(h:aO kvs k=none):¬k∈kvs.map (·.1):=by
 intro m
 obtain⟨p,hp,e⟩:=List.mem_map.mp m
 have q:(kvs.any fun kv=>decide (kv.1=k))=true:=List.any_eq_true.mpr ⟨p,hp,decide_eq_true e⟩
 rw[oQ,h]at q
 exact absurd q (by simp)
theorem b24:∀{l:List κ} {k:κ},l.Nodup->¬k∈l->(l++ [k]).Nodup
 | [],k,_,_=>by simp
 |a::r,k,h,hk=>by
  obtain⟨h1,h2⟩:=List.nodup_cons.mp h
  show(a::(r++ [k])).Nodup
  refine List.nodup_cons.mpr ⟨fun m=> ?_,b24 h2 fun m=>hk (List.mem_cons.mpr (Or.inr m))⟩
  rcases List.mem_append.mp m with q|q
  ·exact h1 q
  ·exact hk (List.mem_cons.mpr (Or.inl (List.mem_singleton.mp q).symm))
theorem b1z{kvs:List (κ×V)}{k:κ}(v:V)(hn:(kvs.map (·.1)).Nodup)(h:aO kvs k=none):((aT kvs k v).map (·.1)).Nodup:=by
 rw[a1u v h,List.map_append]
 exact b24 hn (b8e h)
end
section
variable{X:Cx}{a b c:Expr}{ta tb tc:TE}{pos:Pos}
theorem rE{x:Str}{i:Int}(h:∃t,X.mg x=some (.int i t))(hg:Gl X x:=by rfl)(hd:(x==("__debug__":Str))=false:=by decide):PE X (.Name x pos) (tC (.int i)):=by
 obtain⟨t,h⟩:=h
 exact a6m hg h ⟨t,rfl⟩ hd
theorem b7T{x z:Str}(h:∃t,X.mg x=some (.str z t))(hg:Gl X x:=by rfl)(hd:(x==("__debug__":Str))=false:=by decide):PE X (.Name x pos) (tC (.str z)):=by
 obtain⟨t,h⟩:=h
 exact a6m hg h ⟨t,rfl⟩ hd
theorem b2K{x:Str}{f:Addr}(h:X.mg x=some (.ref f))(hg:Gl X x:=by rfl)(hd:(x==("__debug__":Str))=false:=by decide):PE X (.Name x pos) (tC (.ref f)):=a6m hg h rfl hd
theorem fC{x:Str}{T:String}(hm:X.mg x=none)(hv:bootBuiltins x=some (.type T))(hg:Gl X x:=by rfl)(hn:x≠ "__name__":=by decide)(hd:(x==("__debug__":Str))=false:=by decide):PE X (.Name x pos) (tC (.ty T)):=b92 hg hm hv rfl hn hd
end
mutual
inductive Dt(K:Fg)(H:Hp):V->PyData->Prop where
 |non:Dt K H .non .none
 |bl (b:Bool):Dt K H (.bl b) (.bool b)
 |int (i:Int):Dt K H (.int i) (.int i)
 |str (x:Str):Dt K H (.str x) (.str x)
 |lst {a:Addr} {xs:List V} {ds:List PyData}:aL K H a xs->cS K H xs ds->Dt K H (.ref a) (.list ds)
 |tup {a:Addr} {xs:List V} {ds:List PyData}:bU K H a xs->cS K H xs ds->Dt K H (.ref a) (.tuple ds)
 |dK {a:Addr} {kvs:List (aC×V)}:H a=some (.dK kvs)->Dt K H (.ref a) (.dict [])
 |dT {a:Addr} {kvs:List (List aC×V)}:H a=some (.dT kvs)->Dt K H (.ref a) (.dict [])
inductive cS(K:Fg)(H:Hp):List V->List PyData->Prop where
 |nil:cS K H [] []
 |cons {v:V} {d:PyData} {vs:List V} {ds:List PyData}:Dt K H v d->cS K H vs ds->cS K H (v::vs) (d::ds)
end
section
variable{X:Cx}{pins:List (Addr×Obj)}{σ:St}{H H':Hp}{s:Shared}
mutual
theorem Dt.reads(I:Inv X pins σ H s):∀{v:V} {d:PyData} {u:Value},Dt X.K H v d->bI v u->d.canLay0=true->∃as,Reads s.heap u d as
 |_,_,_,.non,r,_=>by cases r;exact⟨_,.none⟩
 |_,_,_,.bl b,r,_=>by cases r;exact⟨_,.bool b⟩
 |_,_,_,.int i,r,_=>by obtain⟨t,rfl⟩:=r;exact⟨_,.int i t⟩
 |_,_,_,.str x,r,_=>by obtain⟨t,rfl⟩:=r;exact⟨_,.str x t⟩
 |_,_,_,.lst h hd,r,l=>by
  cases r
  obtain⟨its,rv,⟨o,n,e,hc,_,hs⟩,_⟩:=I.list h
  obtain⟨as,ra⟩:=cS.reads I hd rv (by rw[PyData.canLay0]at l;exact l)
  exact⟨_,.list e hc hs (by simpa using ra)⟩
 |_,_,_,.tup h hd,r,l=>by
  cases r
  obtain⟨its,rv,⟨o,e,hc,n,hs⟩,_⟩:=I.tuple h
  obtain⟨as,ra⟩:=cS.reads I hd rv (by rw[PyData.canLay0]at l;exact l)
  exact⟨_,.tuple e hc hs (by simpa using ra)⟩
 |_,_,_,.dK _,_,l=>by rw[PyData.canLay0]at l;cases l
 |_,_,_,.dT _,_,l=>by rw[PyData.canLay0]at l;cases l
theorem cS.reads(I:Inv X pins σ H s):∀{vs:List V} {ds:List PyData} {us:List Value},cS X.K H vs ds->bH vs us->PyData.canLayAll0 ds=true->∃as,ReadsAll s.heap us ds as
 |_,_,_,.nil,r,_=>by cases r;exact⟨_,.nil⟩
 |_,_,_,.cons h hd,r,l=>by
  rw[PyData.canLayAll0,Bool.and_eq_true]at l
  cases r with
  |cons r1 rr=>
   obtain⟨as,ra⟩:=Dt.reads I h r1 l.1
   obtain⟨bs,rb⟩:=cS.reads I hd rr l.2
   exact⟨_,.cons ra rb⟩
end
theorem aG.seqT{K:Fg}{a:Addr}{xs:List V}(e:aG H H')(h:bU K H a xs):bU K H' a xs:=by
 rcases h with(h|⟨o,h⟩)|h
 ·exact .inl (.inl (e _ _ h))
 ·exact .inl (.inr ⟨o,e _ _ h⟩)
 ·exact .inr h
mutual
theorem Dt.same{K:Fg}(e:aG H H'):∀{v:V} {d:PyData},Dt K H v d->Dt K H' v d
 |_,_,.non=> .non
 |_,_,.bl b=> .bl b
 |_,_,.int i=> .int i
 |_,_,.str x=> .str x
 |_,_,.lst h hd=> .lst (e.seq h) (cS.same e hd)
 |_,_,.tup h hd=> .tup (aG.seqT e h) (cS.same e hd)
 |_,_,.dK h=> .dK (e _ _ h)
 |_,_,.dT h=> .dT (e _ _ h)
theorem cS.same{K:Fg}(e:aG H H'):∀{vs:List V} {ds:List PyData},cS K H vs ds->cS K H' vs ds
 |_,_,.nil=> .nil
 |_,_,.cons h hd=> .cons (Dt.same e h) (cS.same e hd)
end
theorem cS.get{K:Fg}:∀{vs:List V} {ds:List PyData} {i:Nat} {v:V},cS K H vs ds->vs[i]?=some v->∃d,ds[i]?=some d/\Dt K H v d
 |_,_,_,_,.nil,e=>by simp at e
 |_,_,0,_,.cons h _,e=>by simp at e;subst e;exact⟨_,rfl,h⟩
 |_,_,i+ 1,v,.cons _ t,e=>by
  obtain⟨d,h1,h2⟩:=cS.get (i:=i) (v:=v) t (by simpa using e)
  exact⟨d,by simpa using h1,h2⟩
theorem cS.length{K:Fg}:∀{vs:List V} {ds:List PyData},cS K H vs ds->vs.length=ds.length
 |_,_,.nil=>rfl
 |_,_,.cons _ t=>by rw[List.length_cons,List.length_cons,cS.length t]
theorem b3q(hu:X.A.units+ 64<cLine):cY X (compareOp .Eq) (fun x y H Q=>∃dx dy,Dt X.K H x dx/\Dt X.K H y dy/\dx.canLay0=true/\dy.canLay0=true/\dx.depth<=64/\Q (.bl (PyData.eqv dx dy)) H):=by
 intro pins s σ H x y v u Q I rx ry h
 obtain⟨dx,dy,hx,hy,lx,ly,hd,q⟩:=h
 obtain⟨as,ra⟩:=Dt.reads I hx rx lx
 obtain⟨bs,rb⟩:=Dt.reads I hy ry ly
 exact SeqAt.compareEq_reads ra rb lx ly (by have:=Nat.min_le_left dx.depth dy.depth;omega) ⟨.bl _,H,I,rfl,q⟩
theorem oS(hu:X.A.units+ 64<cLine):cY X (compareOp .NotEq) (fun x y H Q=>∃dx dy,Dt X.K H x dx/\Dt X.K H y dy/\dx.canLay0=true/\dy.canLay0=true/\dx.depth<=64/\Q (.bl (!PyData.eqv dx dy)) H):=by
 intro pins s σ H x y v u Q I rx ry h
 obtain⟨dx,dy,hx,hy,lx,ly,hd,q⟩:=h
 obtain⟨as,ra⟩:=Dt.reads I hx rx lx
 obtain⟨bs,rb⟩:=Dt.reads I hy ry ly
 exact SeqAt.compareNe_reads ra rb lx ly (by have:=Nat.min_le_left dx.depth dy.depth;omega) ⟨.bl _,H,I,rfl,q⟩
end
noncomputable def Its (x:Str):It:=⟨fun i _=>i<x.cps.size,fun i H v H'=>H'=H/\∃c,x.cps[i]?=some c/\v= .str ⟨#[c]⟩,fun i _=>x.cps.size<=i⟩
theorem b6H{P:Program}{w:World}{K:Fg}{tg:Expr}(it:Addr)(x:Str)(t:Tok):∀ty:String,(ty= "str_ascii_iterator"\/ ty= "str_iterator")->oU P w K tg (Its x) [it] it (fun i h=>h.IsStrIter it ty x t i):=by
 intro ty hty
 refine⟨by simp,?_,?_,?_,?_,?_⟩
 ·intro i h st b hb
  have e:b=it:=by simpa using hb
  subst e
  obtain⟨o,e,c,d⟩:=st
  exact⟨o,e,fun v z=>by rw[d]at z;cases z⟩
 ·intro i h h' st k
  obtain⟨o,e,c,d⟩:=st
  exact⟨o,k it (by simp) o e,c,d⟩
 ·intro X hP hw hK hc i pins s σ H E I hf st hg
  subst hP hw hK
  obtain⟨f0,f1,f2,f3,f4,f5⟩:=hf it (by simp)
  have hi:i<x.cps.size:=hg
  have hx:x.cps[i]?=some x.cps[i]:=by simp[hi]
  have fin:∀h',h'.IsStrIter it ty x t (i+ 1)->Heap.SameBut it s.heap h'->∃u,some (Value.str ⟨#[x.cps[i]]⟩ s.toks)=some u/\
   wpAny (model X.prog X.w) X.A (letOwnedTupleGo tg (.ref it) u) (fun _ s2=>∃y H',Inv X pins σ H' s2/\bI y u/\(Its x).yld i H y H'/\s2.heap.IsStrIter it ty x t (i+ 1)/\∀b∈ [it],H' b=none) E {s with heap:=h',toks:=s.toks+ 1}:=by
   intro h' st' sb
   have I1:Inv X pins σ H {s with heap:=h',toks:=s.toks+ 1}:=I.turned (fun b o hb e=>(sb.2 b hb).trans e) f0 f1 f3 f4 f5
   obtain⟨o,e,c,d⟩:=id st'
   refine⟨_,rfl,a0B (s:={s with heap:=h',toks:=s.toks+ 1}) e c d ?_ ⟨.str ⟨#[x.cps[i]]⟩,H,I1,⟨_,rfl⟩,⟨rfl,_,hx,rfl⟩,st',fun b hb=>(hf b hb).1⟩⟩
   rcases hty with rfl|rfl<;>decide
  rcases hty with rfl|rfl
  ·exact wpAny_pyNext_ascii_item st hx fin
  ·exact wpAny_pyNext_wide_item st hx fin
 ·intro X hP hw hK hc i pins s σ H E I hf st hg
  subst hP hw hK
  obtain⟨f0,f1,f2,f3,f4,f5⟩:=hf it (by simp)
  have hi:x.cps.size<=i:=hg
  have hx:x.cps[i]?=none:=by simp[hi]
  have fin:∀h',Heap.ExtBut it s.heap h'->(none:Option Value)=none/\Inv X pins σ H {s with heap:=h'}:=fun h' eb=>⟨rfl,I.turned (t':=s.toks) (fun b o hb e=>eb b o hb e) f0 f1 f3 f4 f5⟩
  rcases hty with rfl|rfl
  ·exact wpAny_pyNext_ascii_end (I.ok.hd hc) st hx fin
  ·exact wpAny_pyNext_wide_end (I.ok.hd hc) st hx fin
 ·intro A i s Q E st h
  rcases hty with rfl|rfl
  ·exact wpAny_pyIter_striter_ascii st h
  ·exact wpAny_pyIter_striter_wide st h
section
variable{X:Cx}{tg:Expr}
def iStr(tl:TE):TI:=fun σ H R=>tl σ H fun v H1=>∃x,v= .str x/\R (Its x) H1
theorem b7b{l:Expr}{tl:TE}(hl:PE X l tl):PI X tg l (iStr tl):=by
 intro pins s σ H R I h
 refine aR (hl pins s σ H _ I h) fun v s1 ⟨y,H1,I1,r1,q1⟩=> ?_
 obtain⟨x,e,q⟩:=q1
 subst e
 obtain⟨t,rfl⟩:=r1
 have fin:∀ty:String,(ty= "str_ascii_iterator"\/ ty= "str_iterator")->PIE X pins σ tg R (.ref s1.heap.objs.size) {s1 with heap:=s1.heap.push {cls:=.type ty,data:=.fields #[.str x t,.int 0 0]}}:=fun ty hty=>by
  refine⟨s1.heap.objs.size,[s1.heap.objs.size],_,_,H1,rfl,I1.kept (t':=s1.toks) fun b o e=>Heap.get?_push_of_some _ e,b6H _ x t ty hty,⟨_,Heap.get?_push_size _ rfl,rfl,rfl⟩,fun b hb=> ?_,q⟩
  have e:b=s1.heap.objs.size:=by simpa using hb
  subst e
  exact I1.fpOk (Nat.le_refl _) (I1.hok.fresh (Nat.le_refl _))
 cases ha:x.cps.all (·<128)
 ·exact wpAny_pyIter_wide ha (fin _ (.inr rfl))
 ·exact wpAny_pyIter_ascii ha (fin _ (.inl rfl))
end
section
variable{prog:Program}{w:World}{A:Around}{R:Result->Shared->Prop}{s:Shared}
theorem b3m{elt target iter:Expr}{ifs:List Expr}{scope:Scope}{pos:Pos}{it acc:Value}{env:Env}(I:Nat->Shared->Prop)
 (turn:∀n s,I n s->wpAny (model prog w) A (pyNext it) (fun r s₁=>match r with
  |none=>R (.ok .next) s₁
  |some v=>wpAny (model prog w) A (letOwnedTupleGo target it v) (fun _ s₁'=>wpAny (model prog w) A (assign target env v) (fun _ s₂=>
   wpAny (model prog w) A (forIn ifs true fun c r=>if r=true then do let ok<- isTrue c env (eval c env);pure (ForInStep.yield ok) else pure (ForInStep.yield r)) (fun ok s₃=>
    if ok=true then wpAny (model prog w) A (eval elt env) (fun x s₄=>
     wpAny (model prog w) A (call (.builtin "list.append") [acc,x]) (fun _ s₅=>∃m,m<n/\I m s₅) (fun _ _=>False) s₄) (fun _ _=>False) s₃
    else∃m,m<n/\I m s₃) (fun _ _=>False) s₂) (fun _ _=>False) s₁') (fun _ _=>False) s₁) (fun _ _=>False) s)
 (n:Nat)(h:I n s):
 codeAny (model prog w) A (.compLoop (.ListComp elt [⟨target,iter,ifs,0⟩] scope pos) 0 it acc env) R s:=by
 refine codeAny_loop rfl I (fun n s hI=> ?_) n h
 show wpAny _ A ((compTurn (.ListComp elt [⟨target,iter,ifs,0⟩] scope pos) 0 it acc env).onRaise (fun x=>do noteFrame x env;theTreesLotGoes x)) _ _ s
 refine wpAny_noted ?_
 rw[compTurn_list]
 refine wpAny_bind (wpAny_standAt (wpAny_bind (wpAny_mono (turn n s hI) (fun r s₁ h₁=> ?_) fun _ _ h'=>h'.elim)))
 cases r with
 |none=>exact wpAny_pure h₁
 |some v=>
  refine wpAny_bind (wpAny_mono h₁ (fun _ s₁' h₁'=> ?_) fun _ _ h'=>h'.elim)
  refine wpAny_bind (wpAny_mono h₁' (fun _ s₂ h₂=>wpAny_bind (wpAny_mono h₂ (fun ok s₃ h₃=> ?_) fun _ _ h'=>h'.elim)) fun _ _ h'=>h'.elim)
  cases ok with
  |false=>exact wpAny_pure ⟨rfl,h₃⟩
  |true=>
   exact wpAny_bind (wpAny_bind (wpAny_mono h₃ (fun x s₄ h₄=>wpAny_bind (wpAny_mono h₄ (fun _ s₅ h₅=>wpAny_pure (wpAny_pure ⟨rfl,h₅⟩)) fun _ _ h'=>h'.elim)) fun _ _ h'=>h'.elim))
end
noncomputable def fE (X:Cx) (scope:Scope) (cl:List (Str×Addr)) (C:Addr) (N':List Str) (fp:List Addr) (pins:List (Addr×Obj)) (s:Shared) (H:Hp):Cx where
 prog:=X.prog
 w:=X.w
 K:=X.K
 mg:=X.mg
 base:=X.base
 A:=X.A
 N:=N'
 s₀:=s
 H₀:=H
 env:=compEnvC scope cl C X.env
 outer:=X.stack
 stack:=X.stack
 ex:=fp
 calm:=X.calm
 fn:=fun _=>false
 pn:=X.pn++ pins
 xe:=fun _ _=>False
structure lF(X:Cx)(scope:Scope)(cl:List (Str×Addr))(cp:List (Nat×Str)):Prop where
 kind:scope.kind= .function
 nocell:∀y∈scope.names,y.2≠ .cell
 names:∀y∈scope.names,y.2= .local->scope.names.lookup y.1=some .local
 clos:closureFor scope X.env=pure cl
 sub:∀x c,cl.lookup x=some c->X.env.cells.lookup x=some c
 has:∀x,((relabel scope X.env).names.lookup x=some .cell\/ (relabel scope X.env).names.lookup x=some .free)->∃c,cl.lookup x=some c
 at':∀p∈cp,X.N[p.1]?=some p.2/\(X.env.scope.names.lookup p.2=some .cell\/ X.env.scope.names.lookup p.2=some .free)/\((relabel scope X.env).names.lookup p.2=some .cell\/ (relabel scope X.env).names.lookup p.2=some .free)
noncomputable def dE (cp:List (Nat×Str)) (σ:St):St:=cp.map fun p=>(σ[p.1]?).getD none
section
variable{X:Cx}{pins:List (Addr×Obj)}{σ:St}{H:Hp}{s:Shared}{scope:Scope}{cl:List (Str×Addr)}{cp:List (Nat×Str)}{fp:List Addr}{x:Str}
theorem b8u(I:Inv X pins σ H s)(c:lF X scope cl cp)(hf:∀b∈fp,gZ X pins H b)(hfo:∀b∈fp,b<s.heap.objs.size){h':Heap}{ty:String}{tk:Nat}{m:Str->Option Value}(hm:h'.Ns s.heap.objs.size m)
 (sb:Heap.SameBut s.heap.objs.size (s.heap.push {cls:=.type ty,data:=.dict #[]}) h'):
 Inv (fE X scope cl s.heap.objs.size (x::cp.map (·.2)) fp pins s H) [] (none::dE cp σ) H {s with heap:=h',toks:=tk}:=by
 have old:∀b o,s.heap.get? b=some o->h'.get? b=some o:=fun b o e=>(sb.2 b (Nat.ne_of_lt (Heap.lt_size e))).trans (Heap.get?_push_of_some _ e)
 have hC:H s.heap.objs.size=none:=I.hok.fresh (Nat.le_refl _)
 refine⟨⟨I.ok.mod,c.kind,I.ok.glob,I.ok.blt,Nat.le_refl _,fun y z k h1 h2=>I.ok.inj y z k (c.sub _ _ h1) (c.sub _ _ h2),c.has,fun y k z=>(Bool.noConfusion z),I.ok.hd,I.ok.frames,.inl rfl,fun b hb=> ?_,fun b o e=>I.bs b o e,Nat.le_trans I.ok.bsz I.sz,fun b o e hb=> ?_,fun b hb hz=> ?_,I.stack,I.stkFree⟩,
  rfl,I.bare,Un.kept old,⟨m,hm,fun i y v h1 h2 h3=> ?_⟩,fun y k e=> ?_,hC,fun y k e=>I.freeC y k (c.sub y k e),fun p hp=> ?_,I.hok.kept old,?_⟩
 ·obtain⟨f0,f1,f2,f3,f4,f5⟩:=hf b hb
  exact⟨Nat.ne_of_lt (hfo b hb),fun y k e=>f4 y k (c.sub y k e)⟩
 ·obtain⟨f0,f1,f2,f3,f4,f5⟩:=hf b hb
  rcases f3 with z|z
  ·exact I.ok.noex b o e z
  ·exact absurd (Nat.lt_of_lt_of_le (Heap.lt_size (I.ok.bs b o e).1) z) (Nat.lt_irrefl _)
 ·obtain⟨f0,f1,f2,f3,f4,f5⟩:=hf b hb
  rcases List.mem_cons.mp (I.stkSub b hz)with e|e
  ·exact f1 e
  ·exact f2 e
 ·cases i with
  |zero=>simp at h2
  |succ i=>
   have h1':(cp.map (·.2))[i]?=some y:=by
    have z:(x::cp.map (·.2))[i+ 1]?=some y:=h1
    rw[List.getElem?_cons_succ]at z
    exact z
   have h2':(dE cp σ)[i]?=some (some v):=by simpa using h2
   unfold dE at h2'
   rw[List.getElem?_map]at h1' h2'
   cases e:cp[i]? with
   |none=>rw[e]at h1';cases h1'
   |some p=>
    rw[e]at h1' h2'
    simp only[Option.map_some,Option.some.injEq]at h1' h2'
    obtain⟨k1,k2,k3⟩:=c.at' p (List.mem_of_getElem? e)
    subst h1'
    have h2'':σ[p.1]?=some (some v):=by
     cases q:σ[p.1]? with
     |none=>rw[q]at h2';cases h2'
     |some z=>rw[q]at h2';simpa using h2'
    obtain⟨m0,hn0,hl0⟩:=I.loc
    obtain⟨u,r,l⟩:=hl0 p.1 p.2 v k1 h2'' (k2.elim (fun z=> .inr (.inl z)) fun z=> .inr (.inr z))
    refine⟨u,r,.inr ⟨k3,?_⟩⟩
    rcases l with⟨z,_⟩|⟨_,cc,e1,e2⟩
    ·have z':X.env.scope.names.lookup p.2=some .local:=z
     rcases k2 with k|k<;>(rw[z']at k;cases k)
    ·obtain⟨cc',e3⟩:=c.has p.2 k3
     have e4:=c.sub _ _ e3
     rw[e1]at e4
     cases e4
     obtain⟨o,ho,hd⟩:=e2
     exact⟨cc,e3,o,old _ _ ho,hd⟩
 ·obtain⟨v,o,ho,hd⟩:=I.cell y k (c.sub y k e)
  exact⟨v,o,old _ _ ho,hd⟩
 ·have hp':p∈X.pn++ pins:=by
   rcases List.mem_append.mp hp with z|z
   ·exact z
   ·cases z
  obtain⟨e,n,ne,nf,d⟩:=I.pin p hp'
  refine⟨old _ _ e,n,Nat.ne_of_lt (Heap.lt_size e),fun hz=> ?_,d⟩
  rcases List.mem_cons.mp (I.stkSub p.1 hz)with q|q
  ·exact ne q
  ·exact nf q
 ·show(none::dE cp σ).length=(x::cp.map (·.2)).length
  simp[dE]
theorem Inv.uncomp{C:Addr}{N':List Str}{σ':St}{H':Hp}{s':Shared}{h'':Heap}(I:Inv X pins σ H s)(hC:C=s.heap.objs.size)(hf:∀b∈fp,gZ X pins H b)(J:Inv (fE X scope cl C N' fp pins s H) [] σ' H' s')(sb:Heap.SameBut C s'.heap h''):
 Inv X pins σ H' {s' with heap:=h''}:=by
 have ne:∀b o,s.heap.get? b=some o->b≠C:=fun b o e=>by rw[hC];exact Nat.ne_of_lt (Heap.lt_size e)
 have B:Un (gG X.stack) fp H H' s.heap s'.heap:=J.base
 refine I.call' (s':={s' with heap:=h''}) (ch:=fp) (show s'.os=s.os from J.os) ⟨fun b o e n hb hx=> ?_,fun b o e n hb hx=> ?_,B.free,fun b o e hx=> ?_,B.tups,B.frzs,B.tbls⟩ (fun b ob e=> ?_) J.bare fun b hb=> ?_
 ·exact(sb.2 b (ne b o e)).trans (B.keep b o e n hb hx)
 ·obtain⟨sl,q⟩:=B.slot b o e n hb hx
  exact⟨sl,(sb.2 b (ne b o e)).trans q⟩
 ·obtain⟨o',q⟩:=B.there b o e hx
  exact⟨o',(sb.2 b (ne b o e)).trans q⟩
 ·have hfree:H' C=none:=J.free
  refine(J.hok b ob e).stay (fun k w' hk q=>(sb.2 k ?_).trans q) (fun _ q=>q) fun _ _ q=>q
  rintro rfl
  rcases hk with rfl|hk
  ·rw[hfree]at e;cases e
  ·rw[hfree]at hk;cases hk
 ·obtain⟨f0,f1,f2,f3,f4,f5⟩:=hf b hb
  exact⟨f3,f1,f4,f5⟩
end
def mK(X:Cx)(ifs:List Expr)(t:TT):Prop:=
 ∀(pins:List (Addr×Obj)) (s:Shared) (σ:St) (H:Hp) (Q:Bool->Hp->Prop),Inv X pins σ H s->t σ H Q->
  wpAny (model X.prog X.w) X.A (forIn ifs true fun c r=>if r=true then do let ok<- isTrue c X.env (eval c X.env);pure (ForInStep.yield ok) else pure (ForInStep.yield r)) (TP X pins σ Q) X.xe s
def mU:TT:=fun _ H Q=>Q true H
theorem kK{X:Cx}:mK X [] mU:=fun _ _ _ H _ I h=>wpAny_tests_nil ⟨H,I,h⟩
theorem b17{X:Cx}{c:Expr}{t:TT}(h:PT X c t):mK X [c] t:=fun pins s σ H Q I q=>wpAny_tests_one (h pins s σ H Q I q)
def mN(cp:List (Nat×Str))(tt:TT)(te:TE)(σ:St)(J:It)(D:Addr)(Q:VK)(H1:Hp):Prop:=
 ∃W:Nat->Nat->Hp->Prop,(∃m,W 0 m (upd H1 D (.lst [])))/\∀i m H2,W i m H2->(J.stop i H2/\Q (.ref D) H2)\/
  (J.go i H2/\∃(N:VK) (N':Hp->Prop),(∀y H5,N y H5->∃ys m',H5 D=some (.lst ys)/\ys.length<sizeLine/\m'<m/\W (i+ 1) m' (upd H5 D (.lst (ys++ [y]))))/\(∀H4,N' H4->∃m',m'<m/\W (i+ 1) m' H4)/\
   ∀v H3,J.yld i H2 v H3->tt (some v::dE cp σ) H3 fun b H4=>if b=true then te (some v::dE cp σ) H4 N else N' H4)
def b1l(cp:List (Nat×Str))(wi:TI)(tt:TT)(te:TE):TE:=fun σ H Q=>wi σ H fun J H1=>∀D,H1 D=none->mN cp tt te σ J D Q H1
section
variable{X:Cx}{scope:Scope}{cl:List (Str×Addr)}{cp:List (Nat×Str)}{x:Str}{px pos:Pos}{elt iter:Expr}{ifs:List Expr}{wi:TI}{tt:TT}{te:TE}
theorem b1M{pins:List (Addr×Obj)}{σ:St}{H2:Hp}{s2:Shared}{it:Addr}{fp:List Addr}{tn:Nat->Heap->Prop}{J:It}{Q:VK}{R:Addr->Result->Shared->Prop}{E:Value->Shared->Prop}(c:lF X scope cl cp)(hcalm:X.calm=true)(hx:scope.names.lookup x=some .local)(hnd:(x::cp.map (·.2)).Nodup)
 (ht:∀C fp pins s H,mK (fE X scope cl C (x::cp.map (·.2)) fp pins s H) ifs tt)(he:∀C fp pins s H,PE (fE X scope cl C (x::cp.map (·.2)) fp pins s H) elt te)
 (I2:Inv X pins σ H2 s2)(T:oU X.prog X.w X.K (.Name x px) J fp it tn)(st2:tn 0 s2.heap)(f2:∀b∈fp,gZ X pins H2 b)(q:mN cp tt te σ J s2.heap.objs.size Q H2)
 (hR:∀(C:Addr) (H':Hp) (s':Shared),(∃m,s'.heap.Ns C m)->X.s₀.heap.objs.size<=C->H' C=none->C≠X.env.locals->(∀x c,X.env.cells.lookup x=some c->c≠C)->(∀p∈X.pn++ pins,p.1≠C)->(∀h'',Heap.SameBut C s'.heap h''->Inv X pins σ H' {s' with heap:=h''})->Q (.ref s2.heap.objs.size) H'->R C (.ok .next) s'):
 wpAny (model X.prog X.w) X.A (newList []) (fun acc s₃=>wpAny (model X.prog X.w) X.A (newFunctionEnv scope X.env.globals cl [] X.env.qual none .none (some X.env)) (fun cenv s₄=>
  acc= .ref s2.heap.objs.size/\codeAny (model X.prog X.w) X.A (.compStart (.ListComp elt [⟨.Name x px,iter,ifs,0⟩] scope pos) 0 (.ref it) acc {cenv with scope:=relabel scope X.env}) (R cenv.locals) s₄) E s₃) E s2:=by
 obtain⟨W,⟨m0,w0⟩,turn⟩:=q
 refine wpAny_newObj_type ?_
 have I3:Inv X pins σ (upd H2 s2.heap.objs.size (.lst [])) {s2 with heap:=s2.heap.push {cls:=.type "list",dict:=none,data:=.seq ([]:List Value).toArray}}:=
  I2.lnew (t':=s2.toks) (ys:=[]) (its:=[]) .nil (Nat.zero_le _)
 have fpo:∀b∈fp,b<s2.heap.objs.size:=fun b hb=>by
  obtain⟨o,e,_⟩:=T.obj _ _ st2 b hb
  exact Heap.lt_size e
 have f3:∀b∈fp,gZ X pins (upd H2 s2.heap.objs.size (.lst [])) b:=fun b hb=>⟨by rw[aH (Nat.ne_of_lt (fpo b hb))];exact(f2 b hb).1,(f2 b hb).2⟩
 generalize hs3:({s2 with heap:=s2.heap.push {cls:=.type "list",dict:=none,data:=.seq ([]:List Value).toArray}}:Shared)=s3 at I3
 have e3:s3.heap=s2.heap.push {cls:=.type "list",dict:=none,data:=.seq ([]:List Value).toArray}:=by rw[<- hs3]
 have sz3:s2.heap.objs.size<s3.heap.objs.size:=by rw[e3,Heap.size_push];exact Nat.lt_succ_self _
 refine wpAny_newFunctionEnv c.nocell (by intro y hy;cases hy) (fun h₁ hns sb=> ?_) c.kind
 have J3:=b8u (x:=x) (tk:=s3.toks+ ([]:List (Str×Value)).length) I3 c f3 (fun b hb=>Nat.lt_trans (fpo b hb) sz3) hns sb
 refine⟨rfl,?_⟩
 have st3:tn 0 h₁:=T.keep _ _ _ st2 fun b hb o e=>(sb.2 b (Nat.ne_of_lt (Nat.lt_trans (fpo b hb) sz3))).trans (Heap.get?_push_of_some _ (by rw[e3];exact Heap.get?_push_of_some _ e))
 generalize hX:fE X scope cl s3.heap.objs.size (x::cp.map (·.2)) fp pins s3 (upd H2 s2.heap.objs.size (.lst []))=X' at J3
 have eA:X'.A=X.A:=by rw[<- hX];rfl
 have eP:X'.prog=X.prog:=by rw[<- hX];rfl
 have ew:X'.w=X.w:=by rw[<- hX];rfl
 have eK:X'.K=X.K:=by rw[<- hX];rfl
 have ec:X'.calm=true:=by rw[<- hX];exact hcalm
 have ee:X'.env=compEnvC scope cl s3.heap.objs.size X.env:=by rw[<- hX];rfl
 have ex:X'.xe=fun _ _=>False:=by rw[<- hX];rfl
 have fpX:∀{H':Hp},(∀b∈fp,H' b=none)->∀b∈fp,gZ X' [] H' b:=fun hn b hb=>by
  obtain⟨f0,f1,f2',f3',f4,f5⟩:=f3 b hb
  subst hX
  refine⟨hn b hb,Nat.ne_of_lt (Nat.lt_trans (fpo b hb) sz3),fun hz=> ?_,.inl hb,fun y k e=>f4 y k (c.sub y k e),fun p hp=> ?_⟩
  ·rcases List.mem_cons.mp (I3.stkSub b hz)with e|e
   ·exact f1 e
   ·exact f2' e
  ·rcases List.mem_append.mp hp with z|z
   ·exact f5 p z
   ·cases z
 have pT:=ht s3.heap.objs.size fp pins s3 (upd H2 s2.heap.objs.size (.lst []))
 have pE:=he s3.heap.objs.size fp pins s3 (upd H2 s2.heap.objs.size (.lst []))
 have pG:PG X' (.Name x px) (gF 0):=by
  subst hX
  exact dL hnd rfl (.inl (lookup_relabel_local hx)) (.inr (lookup_relabel_local hx))
 rw[hX]at pT pE
 have loop:codeAny (model X.prog X.w) X.A (.compLoop (.ListComp elt [⟨.Name x px,iter,ifs,0⟩] scope pos) 0 (.ref it) (.ref s2.heap.objs.size) (compEnvC scope cl s3.heap.objs.size X.env)) (R s3.heap.objs.size) {s3 with heap:=h₁,toks:=s3.toks+ ([]:List (Str×Value)).length}:=by
  refine b3m (fun n s'=>∃i o H',Inv X' [] (o::dE cp σ) H' s'/\tn i s'.heap/\(∀b∈fp,H' b=none)/\W i n H') ?_ m0 ⟨0,none,_,J3,st3,fun b hb=>(f3 b hb).1,w0⟩
  rintro n s5 ⟨i,o,H5,J5,st5,fr5,w5⟩
  rcases turn i n H5 w5 with⟨stop,qn⟩|⟨go,N,N',hN,hN',step⟩
  ·have z:=T.done X' eP ew eK ec i [] s5 _ H5 (fun _ _=>False) J5 (fpX fr5) st5 stop
   rw[eA]at z
   refine aR z fun r s6 ⟨hr,J6⟩=> ?_
   subst hr
   subst hX
   obtain⟨m6,hn6,_⟩:=J6.loc
   refine hR s3.heap.objs.size H5 s6 ⟨m6,hn6⟩ I3.sz J6.free (Nat.ne_of_gt I3.lt) (fun y k e z=> ?_) (fun p hp z=> ?_) (fun h'' sb'=>I3.uncomp rfl f3 J6 sb') qn
   ·obtain⟨v,w'⟩:=I3.cell y k e
    exact absurd w'.lt (by rw[z];exact Nat.lt_irrefl _)
   ·exact absurd (Heap.lt_size (I3.pin p hp).1) (by rw[z];exact Nat.lt_irrefl _)
  ·have z:=T.item X' eP ew eK ec i [] s5 _ H5 (fun _ _=>False) J5 (fpX fr5) st5 go
   rw[eA]at z
   refine aR z fun r s6 ⟨u,hr,h6⟩=> ?_
   subst hr
   refine aR h6 fun _ s7 ⟨v,H7,J7,r7,y7,st7,fr7⟩=> ?_
   have J7':=J7.pinned (fpX fr7) (T.obj _ _ st7)
   have z8:=pG _ s7 _ H7 v u (fun σ' H'=>σ'=some v::dE cp σ/\H'=H7) J7' r7 ⟨rfl,rfl⟩
   rw[eA,eP,ew,ee,ex]at z8
   refine aR z8 fun _ s8 ⟨σ8,H8,J8,e8,e8'⟩=> ?_
   subst e8 e8'
   have z9:=pT _ s8 _ H8 _ J8 (step v H8 y7)
   rw[eA,eP,ew,ee,ex]at z9
   refine aR z9 fun ok s9 ⟨H9,J9,q9⟩=> ?_
   have fin:∀{H':Hp} {s':Shared},Inv X' ([] ++ pQ fp s7.heap) (some v::dE cp σ) H' s'->(∃m',m'<n/\W (i+ 1) m' H')->∃m,m<n/\∃i o H',Inv X' [] (o::dE cp σ) H' s'/\tn i s'.heap/\(∀b∈fp,H' b=none)/\W i m H':=fun{H' s'} K' ⟨m',hm,w'⟩=>by
    refine⟨m',hm,i+ 1,some v,H',K'.unpinned,T.keep _ _ _ st7 fun b hb ob e=>(K'.pin (b,ob) (List.mem_append_right _ (List.mem_append_right _ (pJ hb e)))).1,fun b hb=> ?_,w'⟩
    obtain⟨ob,e,d⟩:=T.obj _ _ st7 b hb
    exact(K'.pin (b,ob) (List.mem_append_right _ (List.mem_append_right _ (pJ hb e)))).2.1
   cases ok with
   |false=>
    rw[if_neg Bool.false_ne_true]at q9|-
    exact fin J9 (hN' _ q9)
   |true=>
    rw[if_pos rfl]at q9|-
    have z10:=pE _ s9 _ H9 _ J9 q9
    rw[eA,eP,ew,ee,ex]at z10
    refine aR z10 fun u10 s10 ⟨y,H10,J10,r10,n10⟩=> ?_
    obtain⟨ys,m',hD,hz,hm,w'⟩:=hN y H10 n10
    have z11:=gT (X:=X') _ s10 _ H10 (.ref s2.heap.objs.size) [y] (.ref s2.heap.objs.size) [u10] (fun _ H'=>H'=upd H10 s2.heap.objs.size (.lst (ys++ [y]))) J10 rfl (.cons r10 .nil) ⟨_,ys,y,rfl,rfl,hD,hz,rfl⟩
    rw[eA,eP,ew,ex]at z11
    refine aR z11 fun u11 s11 ⟨y',H11,J11,r11,e11⟩=> ?_
    subst e11
    exact fin J11 ⟨m',hm,w'⟩
 exact codeAny_compStart_list loop (T.self _ 0 _ _ _ st3 loop)
theorem lC(c:lF X scope cl cp)(hcalm:X.calm=true)(hx:scope.names.lookup x=some .local)(hnd:(x::cp.map (·.2)).Nodup)(hi:PI X (.Name x px) iter wi)
 (ht:∀C fp pins s H,mK (fE X scope cl C (x::cp.map (·.2)) fp pins s H) ifs tt)(he:∀C fp pins s H,PE (fE X scope cl C (x::cp.map (·.2)) fp pins s H) elt te)
 (hs:∀v,foldedSetIterable iter X.env v=pure v:=by intro _;rfl):PE X (.ListComp elt [⟨.Name x px,iter,ifs,0⟩] scope pos) (b1l cp wi tt te):=by
 intro pins s σ H Q I h
 rw[eval_ListComp]
 refine wpAny_comprehension_free (use:=none) (g:=⟨.Name x px,iter,ifs,0⟩) (gs:=[]) (cl:=cl) rfl hs c.clos c.kind c.names ?_
 refine aR (hi pins s σ H _ I h) fun v s1 h1=>aR h1 fun itv s2 h2=> ?_
 obtain⟨it,fp,tn,J,H2,e,I2,T,st2,f2,q⟩:=h2
 subst e
 refine aR (b1M (iter:=iter) (pos:=pos) (R:=fun C=>compPost (model X.prog X.w) X.A X.xe none (EP X pins σ Q) (.ref s2.heap.objs.size) C) c hcalm hx hnd ht he I2 T st2 f2 (q _ (I2.hok.fresh (Nat.le_refl _))) ?_) fun acc s3 h3=>aR h3 fun cenv s4 h4=> ?_
 ·rintro C H' s' ⟨m,hn⟩ _ _ _ _ _ hI hq
  exact⟨m,hn,fun h'' sb=>⟨.ref s2.heap.objs.size,H',hI h'' sb,rfl,hq⟩⟩
 ·obtain⟨e,h4⟩:=h4
  subst e
  exact h4
theorem b9y{i:Nat}{y:Str}{py:Pos}{pos':Pos}(hN:X.N.Nodup)(hi':X.N[i]?=some y)(hy:X.env.scope.names.lookup y=some .local)(c:lF X scope cl cp)(hcalm:X.calm=true)(hx:scope.names.lookup x=some .local)(hnd:(x::cp.map (·.2)).Nodup)(hi:PI X (.Name x px) iter wi)
 (ht:∀C fp pins s H,mK (fE X scope cl C (x::cp.map (·.2)) fp pins s H) ifs tt)(he:∀C fp pins s H,PE (fE X scope cl C (x::cp.map (·.2)) fp pins s H) elt te)
 (hsw:swapsWith (.ListComp elt [⟨.Name x px,iter,ifs,0⟩] scope pos) (some (.Name y py)) pos'.line X.env=pure true)
 (hs:∀v,foldedSetIterable iter X.env v=pure v:=by intro _;rfl):PS X (.Assign [.Name y py] (.ListComp elt [⟨.Name x px,iter,ifs,0⟩] scope pos) pos') (tAsg (b1l cp wi tt te) (gF i)):=by
 intro pins s σ H D I h
 rw[exec_Assign_Name_used _ _ _ _ hsw]
 refine wpAny_bind (wpAny_standAt (wpAny_bind (wpAny_bind ?_)))
 refine wpAny_comprehension_free (use:=some (assign (.Name y py) X.env)) (g:=⟨.Name x px,iter,ifs,0⟩) (gs:=[]) (cl:=cl) rfl hs c.clos c.kind c.names ?_
 refine aR (hi pins s σ H _ I h) fun v s1 h1=>aR h1 fun itv s2 h2=> ?_
 obtain⟨it,fp,tn,J,H2,e,I2,T,st2,f2,q⟩:=h2
 subst e
 refine aR (b1M (iter:=iter) (pos:=pos) (R:=fun C=>compPost (model X.prog X.w) X.A X.xe (some (assign (.Name y py) X.env)) (fun _ s'=>wpAny (model X.prog X.w) X.A (pure ()) (fun _ s'=>wpAny (model X.prog X.w) X.A (pure Flow.next) (SP X pins D) X.xe s') X.xe s') (.ref s2.heap.objs.size) C) c hcalm hx hnd ht he I2 T st2 f2 (q _ (I2.hok.fresh (Nat.le_refl _))) ?_) fun acc s3 h3=>aR h3 fun cenv s4 h4=> ?_
 ·rintro C H' s' ⟨m,hn⟩ hC0 hCn hCL hCc hCp hI hq
  have I':Inv X pins σ H' s':=hI s'.heap (Heap.SameBut.refl ..)
  refine wpAny_assign_Name (b3Q (v:=.ref s2.heap.objs.size) I' hN hi' (.inl hy) rfl (fun s'' I'' hb=> ?_) (.inr hy))
  obtain⟨a,sb,ha⟩:=hb
  have hne:C≠a:=by
   rcases ha with z|z
   ·rw[z];exact hCL
   ·exact fun e=>hCc y a z e.symm
  refine⟨m,hn.sameBut sb hne,fun h'' sb''=>wpAny_pure (wpAny_pure ⟨_,H',?_,hq⟩)⟩
  exact I''.turned (t':=s''.toks) (fun b o hb e=>(sb''.2 b hb).trans e) hCn hCL (.inr hC0) hCc hCp
 ·obtain⟨e,h4⟩:=h4
  subst e
  exact h4
end
theorem b15:∀{bs:List Bool} {us:List Value},bH (bs.map V.bl) us->∀(i:Nat) (v:Value),us[i]?=some v->∃b:Bool,bs[i]?=some b/\v=Value.bool b
 | [],_,.nil,i,v,h=>by simp at h
 |b::bs,u::us,.cons r t,0,v,h=>by
  simp at h
  subst h
  cases r
  exact⟨b,rfl,rfl⟩
 |b::bs,u::us,.cons r t,i+ 1,v,h=>by
  obtain⟨b',e1,e2⟩:=b15 t i v (by simpa using h)
  exact⟨b',by simpa using e1,e2⟩
section
variable{X:Cx}
theorem b2s(hc:X.calm=true):jC X (.builtin "all") (fun xs H Q=>∃(a:Addr) (bs:List Bool),xs= [.ref a] /\aL X.K H a (bs.map V.bl)/\Q (.bl (bs.all id)) H):=by
 intro pins s σ H xs us Q I r h
 obtain⟨a,bs,rfl,hq,q⟩:=h
 obtain⟨u,rfl,ru⟩:=r.one
 cases ru
 obtain⟨its,rv,pl,hz⟩:=I.list hq
 have hl:s.heap.IsList a its.toArray:=pl.isList
 have hlt:a<s.heap.objs.size:=by obtain⟨_,e,_⟩:=hl;exact Heap.lt_size e
 refine call_all_walk (wpAny_pyIter_list hl ?_)
 refine⟨s.heap.objs.size,[s.heap.objs.size,a],[s.heap.objs.size],its.toArray.size,_,_,fun i=>(bs[i]?).getD true,rfl,Walks.list (A:=X.A.in1) (I.ok.hd hc) _ a (Nat.ne_of_lt hlt) its.toArray,
  ⟨⟨_,Heap.get?_push_size _ rfl,rfl,rfl⟩,hl.push _⟩,fun i v s' Q' E' hP hQ=> ?_,fun h' tk hk=> ?_⟩
 ·obtain⟨b,e,rfl⟩:=b15 rv i v (by simpa using hP)
  simp only[e,Option.getD_some]at hQ
  exact wpAny_truthy_bool hQ
 ·have e:((List.range its.toArray.size).all fun i=>(bs[i]?).getD true)=bs.all id:=by
   have:=rv.length
   rw[List.length_map]at this
   rw[List.size_toArray,<- this]
   exact PyProof.Rows.LSm.range_all bs
  rw[e]
  refine⟨.bl _,H,I.kept (t':=tk) fun b o e'=>hk b o (fun hm=> ?_) (Heap.get?_push_of_some _ e'),rfl,q⟩
  rw[List.mem_singleton.mp hm]at e'
  exact Nat.lt_irrefl _ (Heap.lt_size e')
end
structure bK(P:Program)(w:World)(K:Fg)(mg:Str->Option Value)(base:Heap)(CX:eN)(k:Nat)(x:Str)(ps:List Str)(sp:Sp):Prop where
 ex:∃f fd,eU P w K mg base CX k f fd ps sp/\mg x=some (.ref f)/\PySem.W.keepIn K (.ref f)=true/\iK K fd ps []
section
variable{X:Cx}{CX:eN}{k:Nat}{ps:List Str}{sp:Sp}{E:XK}{x:Str}{p pos:Pos}{e:Expr}{es:List Expr}{t:TA}
theorem bR(G:bK X.prog X.w X.K X.mg X.base CX k x ps sp)(hr:bT k X.A)(hx:gL CX X E)(ha:PA X (e::es) t)(hg:Gl X x:=by rfl)(hdb:(x==("__debug__":Str))=false:=by decide)
 (he:starEach (e::es) X.env=(false,eval e X.env)::starEach es X.env:=by rfl)(hpl:(backTo pos (starEach es X.env)).any (·.1)=false:=by rfl):PE X (.Call (.Name x p) (e::es) [] pos) (a9U sp [] E t):=by
 obtain⟨f,fd,F,hm,hk,hb⟩:=G.ex
 exact b9L F hr hg hm hk hb .nil hx ha hdb he hpl
end
def jE(D:Addr)(Pv:Nat->List V->Hp->Prop)(i:Nat)(ys:List V):VK:=fun y H5=>H5 D=some (.lst ys)/\ys.length<sizeLine/\Pv (i+ 1) (ys++ [y]) (upd H5 D (.lst (ys++ [y])))
theorem a8n{cp:List (Nat×Str)}{te:TE}{σ:St}{J:It}{n:Nat}{D:Addr}{Q:VK}{H1:Hp}(Pv:Nat->List V->Hp->Prop)(h0:Pv 0 [] (upd H1 D (.lst [])))
 (hg:∀i ys H,H D=some (.lst ys)->Pv i ys H->(i<n->J.go i H)/\(i=n->J.stop i H))
 (hs:∀i ys H v H',i<n->H D=some (.lst ys)->Pv i ys H->J.yld i H v H'->te (some v::dE cp σ) H' (jE D Pv i ys))
 (hd:∀ys H,H D=some (.lst ys)->Pv n ys H->Q (.ref D) H):mN cp mU te σ J D Q H1:=by
 refine⟨fun i m H=>m=n- i/\i<=n/\∃ys,H D=some (.lst ys)/\Pv i ys H,⟨n,by simp,Nat.zero_le _,[],aK,h0⟩,?_⟩
 rintro i m H ⟨rfl,hi,ys,hD,p⟩
 by_cases hlt:i<n
 ·refine .inr ⟨(hg i ys H hD p).1 hlt,jE D Pv i ys,fun _=>False,fun y H5 ⟨h1,h2,h3⟩=>⟨ys,n- (i+ 1),h1,h2,by omega,rfl,hlt,_,aK,h3⟩,fun _ z=>z.elim,fun v H' y=> ?_⟩
  exact hs i ys H v H' hlt hD p y
 ·have e:i=n:=by omega
  subst e
  exact .inl ⟨(hg i ys H hD p).2 rfl,hd ys H hD p⟩
theorem b3Y{cp:List (Nat×Str)}{te:TE}{σ:St}{lo:Int}{n:Nat}{D:Addr}{Q:VK}{H1:Hp}(Pv:Nat->List V->Hp->Prop)(h0:Pv 0 [] (upd H1 D (.lst [])))
 (hs:∀i ys H,i<n->H D=some (.lst ys)->Pv i ys H->te (some (.int (lo+ i))::dE cp σ) H (jE D Pv i ys))
 (hd:∀ys H,H D=some (.lst ys)->Pv n ys H->Q (.ref D) H):mN cp mU te σ (lR lo n) D Q H1:=
 a8n (n:=n) Pv h0 (fun i ys H _ _=>⟨fun h=>h,fun h=>by subst h;exact Nat.le_refl _⟩) (fun i ys H v H' hi hD p y=>by
  obtain⟨e,rfl⟩:=y
  subst e
  exact hs i ys _ hi hD p) hd
theorem b5q{cp:List (Nat×Str)}{te:TE}{σ:St}{x:Str}{D:Addr}{Q:VK}{H1:Hp}(Pv:Nat->List V->Hp->Prop)(h0:Pv 0 [] (upd H1 D (.lst [])))
 (hs:∀i c ys H,x.cps[i]?=some c->H D=some (.lst ys)->Pv i ys H->te (some (.str ⟨#[c]⟩)::dE cp σ) H (jE D Pv i ys))
 (hd:∀ys H,H D=some (.lst ys)->Pv x.cps.size ys H->Q (.ref D) H):mN cp mU te σ (Its x) D Q H1:=
 a8n (n:=x.cps.size) Pv h0 (fun i ys H _ _=>⟨fun h=>h,fun h=>by subst h;exact Nat.le_refl _⟩) (fun i ys H v H' hi hD p y=>by
  obtain⟨e,c,hc,rfl⟩:=y
  subst e
  exact hs i c ys _ hc hD p) hd
theorem qJ{K:Fg}{cp:List (Nat×Str)}{te:TE}{σ:St}{a:Addr}{xs:List V}{D:Addr}{Q:VK}{H1:Hp}(Pv:Nat->List V->Hp->Prop)(h0:Pv 0 [] (upd H1 D (.lst [])))
 (hl:∀i ys H,H D=some (.lst ys)->Pv i ys H->aL K H a xs)
 (hs:∀i x ys H,xs[i]?=some x->H D=some (.lst ys)->Pv i ys H->te (some x::dE cp σ) H (jE D Pv i ys))
 (hd:∀ys H,H D=some (.lst ys)->Pv xs.length ys H->Q (.ref D) H):mN cp mU te σ (lV K a) D Q H1:=
 a8n (n:=xs.length) Pv h0 (fun i ys H hD p=>⟨fun h=>⟨xs,xs[i],hl i ys H hD p,by simp[h]⟩,fun h=>by subst h;exact⟨xs,hl _ ys H hD p,Nat.le_refl _⟩⟩) (fun i ys H v H' hi hD p y=>by
  obtain⟨e,y⟩:=y
  subst e
  exact hs i v ys _ (y xs (hl i ys _ hD p)) hD p) hd
inductive Kd where
 |non|bl|int|str|lst|tup|dct
 deriving DecidableEq
def Kd.nm:Kd->String
 | .non=> "NoneType"| .bl=> "bool"| .int=> "int"| .str=> "str"| .lst=> "list"| .tup=> "tuple"| .dct=> "dict"
theorem a5Y(K:Fg)(a:Kd):PySem.W.kitOne K (.type a.nm) (.type "int")=some (decide (a= .int\/ a= .bl)):=by cases a<;>kernel_rfl
theorem a1q(K:Fg)(a:Kd):PySem.W.kitOne K (.type a.nm) (.type "bool")=some (decide (a= .bl)):=by cases a<;>kernel_rfl
theorem a9n(K:Fg)(a:Kd):PySem.W.kitOne K (.type a.nm) (.type "str")=some (decide (a= .str)):=by cases a<;>kernel_rfl
theorem wN(K:Fg)(a:Kd):PySem.W.kitOne K (.type a.nm) (.type "list")=some (decide (a= .lst)):=by cases a<;>kernel_rfl
theorem tY(K:Fg)(a:Kd):PySem.W.kitOne K (.type a.nm) (.type "tuple")=some (decide (a= .tup)):=by cases a<;>kernel_rfl
noncomputable def iB:PyData->Kd
 | .none=> .non| .bool _=> .bl| .int _=> .int| .str _=> .str| .list _=> .lst| .tuple _=> .tup| .dict _=> .dct
theorem fS{X:Cx}:jC X (.builtin "isinstance") (fun xs H Q=>∃x T d k,xs= [x,.ty T] /\Dt X.K H x d/\PySem.W.kitOne X.K (.type (iB d).nm) (.type T)=some k/\Q (.bl k) H):=by
 intro pins s σ H xs us Q I r h
 obtain⟨x,T,d,k,rfl,hd,e,q⟩:=h
 obtain⟨u,c,rfl,r1,r2⟩:=r.two
 cases r2
 have fin:∀tk,EP X pins σ Q (.bool k) {s with toks:=tk}:=fun tk=>⟨.bl k,H,I.tok tk,rfl,q⟩
 cases hd with
 |non=>cases r1;exact PySem.W.kia_one PySem.W.kitx_none I.kIn True.intro e (fun z=>nomatch z) fin
 |bl b=>cases r1;exact PySem.W.kia_one PySem.W.kitx_bool I.kIn True.intro e (fun z=>nomatch z) fin
 |int i=>obtain⟨t,rfl⟩:=r1;exact PySem.W.kia_one PySem.W.kitx_int I.kIn True.intro e (fun z=>nomatch z) fin
 |str z=>obtain⟨t,rfl⟩:=r1;exact PySem.W.kia_one PySem.W.kitx_str I.kIn True.intro e (fun z=>nomatch z) fin
 |lst hq _=>
  cases r1
  obtain⟨its,_,⟨o,n,eo,hc,_,_⟩,_⟩:=I.list hq
  exact PySem.W.kia_one PySem.W.kitx_list I.kIn ⟨o,eo,hc⟩ e (fun z=>nomatch z) fin
 |tup hq _=>
  cases r1
  obtain⟨its,_,⟨o,eo,hc,_⟩,_⟩:=I.tuple hq
  exact PySem.W.kia_one PySem.W.kitx_tuple I.kIn ⟨o,eo,hc⟩ e (fun z=>nomatch z) fin
 |dK ea=>
  cases r1
  obtain⟨_,_,vs,_,o,es,ep,h1,h2,_⟩:=I.hok _ _ ea
  exact PySem.W.kia_one PySem.W.kitx_dict I.kIn ⟨o,h1,h2.1⟩ e (fun z=>nomatch z) fin
 |dT ea=>
  cases r1
  obtain⟨_,_,zs,_,o,es,ep,h1,h2,_⟩:=I.hok _ _ ea
  exact PySem.W.kia_one PySem.W.kitx_dict I.kIn ⟨o,h1,h2.1⟩ e (fun z=>nomatch z) fin
theorem oT{X:Cx}{scope:Scope}(kind:scope.kind= .function:=by rfl)(plain:∀y∈scope.names,y.2= .local\/ y.2= .globalImplicit:=by decide)(names:∀y∈scope.names,y.2= .local->scope.names.lookup y.1=some .local:=by decide+kernel):lF X scope [] [] where
 kind:=kind
 nocell:=fun y hy z=>by rcases plain y hy with h|h<;>rw[h]at z<;>cases z
 names:=names
 clos:=closureFor_none fun y hy z=>by rcases plain y hy with h|h<;>rw[h]at z<;>cases z
 sub:=fun x c e=>by cases e
 has:=fun x h=>by
  have hm:∀(k:NameKind),(relabel scope X.env).names.lookup x=some k->k= .local\/ k= .globalImplicit:=fun k e=>by
   have m:=PySem.mem_of_lookup e
   unfold relabel at m
   obtain⟨⟨n,k'⟩,hy,e'⟩:=List.mem_map.mp m
   have q:=plain _ hy
   have nf:(k'==NameKind.free)=false:=by rcases q with h|h<;>(have h':k'=_:=h;subst h';rfl)
   simp only[nf,Bool.false_and,Bool.false_eq_true,if_false]at e'
   have:k'=k:=congrArg (·.2) e'
   rw[<- this]
   exact q
  rcases h with h|h
  ·rcases hm _ h with z|z<;>cases z
  ·rcases hm _ h with z|z<;>cases z
 at':=fun p hp=>by cases hp
structure dU(K:Fg)(mg:Str->Option Value)(x:Str)(st:Stmt):Prop where
 ex:∃f fd,iX K x x st f fd/\mg x=some (.ref f)
section
variable{P:Program}{w:World}{K:Fg}{mg:Str->Option Value}{base:Heap}
theorem eF{h:Heap}{x:Str}{st:Stmt}{f:Addr}{oc:Value}{od an:Option Addr}{osl:Array (Option Value)}{kV doc pm cdv ct:Value}(X:K.In h)(G:h.Ns mainGlobals mg)(a:PySem.W.nsIn K mainGlobals x=some (some (.ref f)))
 (l:K.lookup f=some ⟨oc,od,.func (PySem.W.fnOf x x (aV st) (aS st) (aF st) .none kV doc pm an cdv ct),osl⟩)(c:PySem.W.codeIn K cdv x=true)(k:PySem.W.keepIn K (.ref f)=true):dU K mg x st:=
 ⟨f,_,a0g l c k,PySem.W.mg_of X G a⟩
theorem dU.known{x:Str}{st:Stmt}{N ps:List Str}{k:Nat}{sp:Sp}(D:dU K mg x st)(S:aY N ps (aF st))
 (hb:∀(kV doc pm:Value) (an:Option Addr) (cdv ct:Value) (us:List Value),us.length=ps.length->bindArgs (PySem.W.fnOf x x (aV st) (aS st) (aF st) .none kV doc pm an cdv ct) ⟨us,[]⟩=pure (ps.zip us))
 (len:∀vs H Q E,sp vs H Q E->vs.length=ps.length)
 (hbody:∀(f:Addr) (cdv:Value) (A:Around) (outer:List Env) (s:Shared) (H:Hp) (vs:List V) (Q:VK) (E:XK),bT k (A.deeper (envOfC x (aF st) s.heap.objs.size f cdv))->sp vs H Q E->
  ∃t,eL (dX aB P w K mg base N x (aF st) f cdv A outer s H E).nox (aS st) t/\t {nx:=fun _ H'=>Q .non H',rt:=Q} (start N vs) H):bK P w K mg base aB (k+ 1) x ps sp:=by
 obtain⟨f,fd,F,hm⟩:=D.ex
 exact⟨f,fd,F.ok S len fun cdv A outer s H vs Q E hr h=>hbody f cdv A outer s H vs Q E hr h,hm,F.kp,F.binds hb⟩
end
theorem aG.new{H:Hp}{D:Addr}{o:HO}(h:H D=none):aG H (upd H D o):=fun b u e=>by rw[aH (bD e h)];exact e
theorem aG.on{H H2:Hp}{D:Addr}{o:HO}(e:aG H H2)(h:H D=none):aG H (upd H2 D o):=fun b u z=>by rw[aH (bD z h)];exact e b u z
abbrev one(c:Nat):Str:=⟨#[c]⟩
theorem b7N{α:Type}(xs:List α)(i:Int)(h0:0<=i)(h:i<xs.length):∃v,bY xs i=some v/\xs[i.toNat]?=some v:=by
 have e:i=(i.toNat:Int):=by omega
 have hl:i.toNat<xs.length:=by omega
 generalize i.toNat=j at e hl
 subst e
 exact⟨_,b6m (List.getElem?_eq_getElem hl),List.getElem?_eq_getElem hl⟩
theorem b8x{n:Nat}{i:Int}(h0:0<=i)(h:i<n):jW n i=some i.toNat:=by
 unfold jW
 rw[if_pos h0,if_pos h]
theorem mG{K:Fg}{H:Hp}:∀zs:List Str,cS K H (zs.map V.str) (zs.map PyData.str)
 | []=> .nil
 |z::r=> .cons (.str z) (mG r)
theorem b4A{cs:List Nat}(h:∀c∈cs,c<128):PyData.canLay0 (.str ⟨cs.toArray⟩)=true:=by
 have:∀c∈cs,c<1114112:=fun c hc=>by have:=h c hc;omega
 simp[PyData.canLay0,PyData.strOk]
 exact this
theorem sl{n:Nat}(h:n<=1000:=by simp):n<=sizeLine:=Nat.le_of_lt (cQ h)
theorem b3f:bootBuiltins "all"=some (.builtin "all"):=by kernel_rfl
theorem fH:bootBuiltins "isinstance"=some (.builtin "isinstance"):=by kernel_rfl
theorem b84:bootBuiltins "abs"=some (.builtin "abs"):=by kernel_rfl
theorem fJ:bootBuiltins "len"=some (.builtin "len"):=by kernel_rfl
theorem zJ:bootBuiltins "int"=some (.type "int"):=by kernel_rfl
theorem a3c:bootBuiltins "bool"=some (.type "bool"):=by kernel_rfl
theorem a3k:bootBuiltins "str"=some (.type "str"):=by kernel_rfl
theorem iR:bootBuiltins "list"=some (.type "list"):=by kernel_rfl
theorem vO:bootBuiltins "tuple"=some (.type "tuple"):=by kernel_rfl
structure Flew(fs own:List Addr)(h h':Heap):Prop where
 keep:∀b o,b∉own->b∉fs->h.get? b=some o->h'.get? b=some o
 slot:∀b o,b∉own->h.get? b=some o->∃sl,h'.get? b=some {o with slots:=sl}
structure ExcK(K:Fg)(C:Addr):Prop where
 hga:PySem.W.findIn K (.ref C) "__getattribute__"=some (some (.builtin "BaseException.__getattribute__"))
 hk:PySem.W.findIn K (.ref C) "__getattr__"=some none
 hc:∃cd,PySem.W.clsIn K C=some cd
 ha:PySem.W.findIn K (.ref C) "__class__"=some (some (.builtin "object.__class__"))
 hn:PySem.W.specialIn K (.builtin "object.__class__") "__get__"=some (some (.builtin "getset_descriptor.__get__"))
 ht:PySem.W.takesIn K (.builtin "object.__class__")=some true
 hm:PySem.W.mroIn K C (.type "object")=some true
 hb:PySem.W.mroIn K C (.type "BaseException")=some true
theorem a5b:∀{xs:List V} {us:List Value},us.length=xs.length->(∀(j:Nat) (x:V) (u:Value),xs[j]?=some x->us[j]?=some u->bI x u)->bH xs us
 | [],[],_,_=> .nil
 |x::xs,u::us,hl,h=> .cons (h 0 x u rfl rfl) (a5b (by simpa using hl) fun j y v e1 e2=>h (j+ 1) y v (by simpa using e1) (by simpa using e2))
 | [],_::_,hl,_=>by simp at hl
 |_::_,[],hl,_=>by simp at hl
def eT(lo:Int)(n:Nat):List V:=(List.range n).map fun(i:Nat)=>V.int (lo+ (i:Int))
theorem pZ(lo:Int)(n:Nat):(eT lo n).length=n:=by unfold eT;rw[List.length_map,List.length_range]
section
variable{X:Cx}
theorem b3N:jC X (.type "range") (fun xs H Q=>∃j:Int,xs= [.int j] /\∀p,H p=none->Q (.ref p) (upd H p (.rng 0 j))):=by
 intro pins s σ H xs us Q I r h
 obtain⟨j,rfl,q⟩:=h
 obtain⟨u,rfl,t,rfl⟩:=nB r
 refine call_range_1 ⟨.ref s.heap.objs.size,_,I.laid (a:=s.heap.objs.size) (o:=.rng 0 j) (fun _ _ q=>Heap.get?_push_of_some _ q) (Nat.le_refl _) ?_,rfl,q _ (I.hok.fresh (Nat.le_refl _))⟩
 exact⟨_,_,_,Heap.get?_push_size _ rfl⟩
theorem b2J(hc:X.calm=true):jC X (.type "list") (fun xs H Q=>∃p lo hi,xs= [.ref p] /\H p=some (.rng lo hi)/\ -(2^ 62)<=lo/\lo<2^ 62/\ -(2^ 62)<=hi/\hi<2^ 62/\(hi- lo).toNat<=2^ 24/\∀l,H l=none->Q (.ref l) (upd H l (.lst (eT lo (hi- lo).toNat)))):=by
 intro pins s σ H xs us Q I r h
 obtain⟨p,lo,hi,rfl,hp,h1,h2,h3,h4,h5,q⟩:=h
 obtain⟨u,rfl,rx⟩:=nB r
 cases rx
 obtain⟨t,u,v,e⟩:=I.hok p _ hp
 have hn:Builtin.Range.rangeSize lo hi 1=((hi- lo).toNat:Int):=by rw[rangeSize_one];split<;>omega
 refine call_list_range (I.ok.hd hc) (show IsRange s.heap p lo hi 1 t u v from e) (small_one h1 h2 h3 h4) hn h5 fun h' tk acc c kp hD hI=> ?_
 refine⟨.ref s.heap.objs.size,_,I.laid (t':=tk) (o:=.lst (eT lo (hi- lo).toNat)) kp (Nat.le_refl _) ?_,rfl,q _ (I.hok.fresh (Nat.le_refl _))⟩
 refine⟨by rw[pZ,sizeLine_eq];exact h5,acc.toList,c,a5b (by rw[pZ,Array.length_toList];exact hI.1) fun j x u e1 e2=> ?_,by rw[Array.toArray_toList];exact hD⟩
 rw[Array.getElem?_toList]at e2
 obtain⟨t',rfl⟩:=hI.2 j u e2
 unfold eT at e1
 rw[List.getElem?_map]at e1
 cases z:(List.range (hi- lo).toNat)[j]? with
 |none=>rw[z]at e1;cases e1
 |some i=>
  rw[z]at e1
  have:i=j:=by
   have hl:j<(List.range (hi- lo).toNat).length:=(List.getElem?_eq_some_iff.mp z).1
   rw[List.getElem?_eq_getElem hl,List.getElem_range]at z
   exact(Option.some.inj z).symm
  subst this
  cases e1
  exact⟨t',by rw[Int.mul_one]⟩
theorem b61{P:Program}{w:World}{k:aC}{u:Value}(h:(fQ P w).is k u=true):bI (kV k) u:=by
 rcases kU h with⟨i,t,rfl,rfl⟩|⟨x,t,rfl,rfl⟩
 ·exact⟨t,rfl⟩
 ·exact⟨t,rfl⟩
theorem KV.fst{κ:Type}:∀{kvs:List (κ×V)} {vs:List (κ×Value)},KV kvs vs->kvs.map (·.1)=vs.map (·.1)
 |_,_,.nil=>rfl
 |_,_,.cons r t=>by rw[List.map_cons,List.map_cons,r.1,KV.fst t]
end
def bL(s:Stmt)(j:Nat):Stmt:=match s with
 | .ClassDef _ _ _ body _ _ _ _ _ _ _=>body.getD j (.Pass ⟨0,0,0,0⟩)
 |_=> .Pass ⟨0,0,0,0⟩
theorem b2z:bootBuiltins "range"=some (.type "range"):=by kernel_rfl
structure aN(P:Program)(w:World)(K:Fg)(mg:Str->Option Value)(base:Heap)(CX:eN)(k:Nat)(C:Addr)(m:Str)(ps:List Str)(sp:Sp):Prop where
 ex:∃f fd,eU P w K mg base CX k f fd ps sp/\wB K C m f/\iK K fd ps []
structure dI(P:Program)(w:World)(K:Fg)(mg:Str->Option Value)(base:Heap)(CX:eN)(k:Nat)(C:Addr)(ps:List Str)(sp:Sp):Prop where
 ex:∃f fd,eU P w K mg base CX k f fd ps sp/\Mk K C f/\iK K fd ps []
structure bA(K:Fg)(C:Addr)(m qual:Str)(st:Stmt):Prop where
 ex:∃f fd,iX K m qual st f fd/\PySem.W.findIn K (.ref C) m=some (some (.ref f))/\PySem.W.isFn K (.ref f)=true
section
variable{P:Program}{w:World}{K:Fg}{mg:Str->Option Value}{base:Heap}{C:Addr}
theorem bF{m qual:Str}{st:Stmt}{f:Addr}{oc:Value}{od an:Option Addr}{osl:Array (Option Value)}{kV doc pm cdv ct:Value}(a:PySem.W.findIn K (.ref C) m=some (some (.ref f)))(i:PySem.W.isFn K (.ref f)=true)
 (l:K.lookup f=some ⟨oc,od,.func (PySem.W.fnOf m qual (aV st) (aS st) (aF st) .none kV doc pm an cdv ct),osl⟩)(c:PySem.W.codeIn K cdv qual=true)(k:PySem.W.keepIn K (.ref f)=true):bA K C m qual st:=
 ⟨f,_,a0g l c k,a,i⟩
theorem bA.known{m qual:Str}{st:Stmt}{N ps:List Str}{k:Nat}{sp:Sp}(D:bA K C m qual st)(S:aY N ps (aF st))
 (hb:∀(kV doc pm:Value) (an:Option Addr) (cdv ct:Value) (us:List Value),us.length=ps.length->bindArgs (PySem.W.fnOf m qual (aV st) (aS st) (aF st) .none kV doc pm an cdv ct) ⟨us,[]⟩=pure (ps.zip us))
 (len:∀vs H Q E,sp vs H Q E->vs.length=ps.length)
 (hbody:∀(f:Addr) (cdv:Value) (A:Around) (outer:List Env) (s:Shared) (H:Hp) (vs:List V) (Q:VK) (E:XK),bT k (A.deeper (envOfC qual (aF st) s.heap.objs.size f cdv))->sp vs H Q E->
  ∃t,eL (dX aB P w K mg base N qual (aF st) f cdv A outer s H E).nox (aS st) t/\t {nx:=fun _ H'=>Q .non H',rt:=Q} (start N vs) H):aN P w K mg base aB (k+ 1) C m ps sp:=by
 obtain⟨f,fd,F,ha,hi⟩:=D.ex
 exact⟨f,fd,F.ok S len fun cdv A outer s H vs Q E hr h=>hbody f cdv A outer s H vs Q E hr h,⟨ha,hi,F.kp⟩,F.binds hb⟩
theorem aN.init{CX:eN}{k:Nat}{ps:List Str}{sp:Sp}(G:aN P w K mg base CX k C "__init__" ps sp)(mk:PySem.W.makesIn K C=true)(kc:PySem.W.keepIn K (.ref C)=true):dI P w K mg base CX k C ps sp:=by
 obtain⟨f,fd,F,hm,hb⟩:=G.ex
 exact⟨f,fd,F,⟨mk,hm.at_,hm.fn,kc⟩,hb⟩
end
section
variable{X:Cx}{CX:eN}{k:Nat}{C:Addr}{ps:List Str}{sp:Sp}{E:XK}{x m:Str}{p pos apos:Pos}{e o:Expr}{es:List Expr}{t:TA}{ta:TE}
theorem bW{pl:Sem Bool}(he:PE X o ta)(c:bX X.K C)(G:aN X.prog X.w X.K X.mg X.base CX k C m ps sp)(hr:bT k X.A)(hx:gL CX X E)(ha:PA X (e::es) t)
 (hst:starEach (e::es) X.env=(false,eval e X.env)::starEach es X.env:=by rfl)(hpl:(backTo pos (starEach es X.env)).any (·.1)=false:=by rfl)
 (ht:eval (.Call (.Attribute o m apos) (e::es) [] pos) X.env=(do
  let ov<- eval o X.env
  standAt apos.atName
  let (f,first)<- holding [ov] (getMethod ov m pl)
  callWith pos f first (backTo pos (starEach (e::es) X.env)) (backToKw pos (keywordEach [] X.env))):=by rfl):
 PE X (.Call (.Attribute o m apos) (e::es) [] pos) (xX C m sp [] E ta t):=by
 obtain⟨f,fd,F,hm,hb⟩:=G.ex
 exact b8f (pl:=pl) he c hm F hr hb .nil hx ha hst hpl ht
theorem lJ{pl:Sem Bool}(he:PE X o ta)(c:bX X.K C)(G:aN X.prog X.w X.K X.mg X.base CX k C m ps sp)(hr:bT k X.A)(hx:gL CX X E)
 (ht:eval (.Call (.Attribute o m apos) [] [] pos) X.env=(do
  let ov<- eval o X.env
  standAt apos.atName
  let (f,first)<- holding [ov] (getMethod ov m pl)
  callWith pos f first (backTo pos (starEach [] X.env)) (backToKw pos (keywordEach [] X.env))):=by rfl):
 PE X (.Call (.Attribute o m apos) [] [] pos) (xX C m sp [] E ta lQ):=by
 obtain⟨f,fd,F,hm,hb⟩:=G.ex
 exact b99 (pl:=pl) he c hm F hr hb .nil hx ht
theorem jO(G:dI X.prog X.w X.K X.mg X.base CX k C ps sp)(hr:bT (k+ 1) X.A)(hm:X.mg x=some (.ref C))(hx:gL CX X E)
 (ha:PA X (e::es) t)(hg:Gl X x:=by rfl)(hdb:(x==("__debug__":Str))=false:=by decide)(he:starEach (e::es) X.env=(false,eval e X.env)::starEach es X.env:=by rfl)(hpl:(backTo pos (starEach es X.env)).any (·.1)=false:=by rfl):
 PE X (.Call (.Name x p) (e::es) [] pos) (zN C sp [] E t):=by
 obtain⟨f,fd,F,M,hb⟩:=G.ex
 exact b6j M F hr hg hm hb .nil hx ha hdb he hpl
end
noncomputable def eS (cells:List (Str×Addr)):List (Str×NameKind)->List (Str×Addr)->List (Str×Addr)
 | [],acc=>acc
 |(n,k)::r,acc=>eS cells r (if k== .free then(n,(cells.lookup n).getD 0)::acc else acc)
theorem a1i{env:Env}:∀{names:List (Str×NameKind)} {acc:List (Str×Addr)},(∀y∈names,y.2= .free->∃c,env.cells.lookup y.1=some c)->
 (forIn names acc fun(x:Str×NameKind) (cs:List (Str×Addr))=>(do
  let (name,kind):=x
  if kind==NameKind.free then(do let a<- cellOf env name;pure (ForInStep.yield ((name,a)::cs))) else pure (ForInStep.yield cs):Sem (ForInStep (List (Str×Addr)))))=pure (eS env.cells names acc)
 | [],acc,_=>rfl
 |(n,k)::r,acc,h=>by
  rw[List.forIn_cons]
  by_cases hk:(k==NameKind.free)=true
  ·obtain⟨c,hc⟩:=h (n,k) List.mem_cons_self (by simpa using hk)
   have e:cellOf env n=pure c:=by unfold cellOf;rw[show env.cells.lookup n=some c from hc]
   have ih:=a1i (env:=env) (names:=r) (acc:=(n,c)::acc) fun y hy=>h y (List.mem_cons_of_mem _ hy)
   show(do let r<- (if k==NameKind.free then(do let a<- cellOf env n;pure (ForInStep.yield ((n,a)::acc))) else pure (ForInStep.yield acc):Sem (ForInStep (List (Str×Addr))));_)=_
   rw[if_pos hk,e,pure_bind,pure_bind]
   refine Eq.trans ih ?_
   show _=pure (eS env.cells r (if(k==NameKind.free)=true then(n,(env.cells.lookup n).getD 0)::acc else acc))
   rw[if_pos hk,show env.cells.lookup n=some c from hc]
   rfl
  ·have ih:=a1i (env:=env) (names:=r) (acc:=acc) fun y hy=>h y (List.mem_cons_of_mem _ hy)
   show(do let r<- (if k==NameKind.free then(do let a<- cellOf env n;pure (ForInStep.yield ((n,a)::acc))) else pure (ForInStep.yield acc):Sem (ForInStep (List (Str×Addr))));_)=_
   rw[if_neg hk,pure_bind]
   refine Eq.trans ih ?_
   show _=pure (eS env.cells r (if(k==NameKind.free)=true then(n,(env.cells.lookup n).getD 0)::acc else acc))
   rw[if_neg hk]
theorem a7F{cells:List (Str×Addr)}:∀{names:List (Str×NameKind)} {acc:List (Str×Addr)},(∀y∈names,y.2= .free->∃c,cells.lookup y.1=some c)->(∀x c,acc.lookup x=some c->cells.lookup x=some c)->
 ∀x c,(eS cells names acc).lookup x=some c->cells.lookup x=some c
 | [],_,_,h=>h
 |(n,k)::r,acc,hf,h=>by
  refine a7F (names:=r) (fun y hy=>hf y (List.mem_cons_of_mem _ hy)) ?_
  intro x c e
  by_cases hk:(k==NameKind.free)=true
  ·obtain⟨c',hc⟩:=hf (n,k) List.mem_cons_self (by simpa using hk)
   have hc':cells.lookup n=some c':=hc
   rw[if_pos hk,hc',List.lookup_cons]at e
   by_cases hx:(x==n)=true
   ·rw[hx]at e
    cases e
    have:x=n:=by simpa using hx
    rw[this]
    exact hc'
   ·rw[show (x==n)=false by simpa using hx]at e
    exact h x c e
  ·rw[if_neg hk]at e
   exact h x c e
theorem b3o{cells:List (Str×Addr)}:∀{names:List (Str×NameKind)} {acc:List (Str×Addr)} {x:Str},(∃c,acc.lookup x=some c)->∃c,(eS cells names acc).lookup x=some c
 | [],_,_,h=>h
 |(n,k)::r,acc,x,⟨c,h⟩=>by
  refine b3o (names:=r) ?_
  by_cases hk:(k==NameKind.free)=true
  ·rw[if_pos hk,List.lookup_cons]
   cases hx:x==n with
   |true=>exact⟨_,rfl⟩
   |false=>exact⟨c,h⟩
  ·rw[if_neg hk]
   exact⟨c,h⟩
theorem wO{cells:List (Str×Addr)}:∀{names:List (Str×NameKind)} {acc:List (Str×Addr)} {x:Str},(x,NameKind.free)∈names->∃c,(eS cells names acc).lookup x=some c
 |(n,k)::r,acc,x,h=>by
  rcases List.mem_cons.mp h with e|h
  ·cases e
   refine b3o (names:=r) ⟨(cells.lookup n).getD 0,?_⟩
   rw[if_pos (by rfl),List.lookup_cons,beq_self_eq_true]
  ·exact wO (names:=r) h
theorem b3p{env:Env}:∀{names:List (Str×NameKind)} {x:Str},names.lookup x=some .free->
 (names.map fun(n,k)=>if(k==NameKind.free&&env.scope.kind== .function&&env.kindOf n==some .cell) then(n,NameKind.cell) else(n,k)).lookup x=some .cell\/
 (names.map fun(n,k)=>if(k==NameKind.free&&env.scope.kind== .function&&env.kindOf n==some .cell) then(n,NameKind.cell) else(n,k)).lookup x=some .free
 | [],_,h=>by simp at h
 |(n,k)::r,x,h=>by
  have ih:= @b3p env r x
  rw[List.lookup_cons]at h
  rw[List.map_cons]
  cases hx:x==n with
  |true=>
   rw[hx]at h
   cases h
   by_cases hc:(NameKind.free==NameKind.free&&env.scope.kind== .function&&env.kindOf n==some .cell)=true
   ·simp only[hc,if_true,List.lookup_cons,hx]
    exact .inl trivial
   ·simp only[hc,if_false,List.lookup_cons,hx,Bool.false_eq_true]
    exact .inr trivial
  |false=>
   rw[hx]at h
   by_cases hc:(k==NameKind.free&&env.scope.kind== .function&&env.kindOf n==some .cell)=true
   ·simp only[hc,if_true,List.lookup_cons,hx]
    exact ih h
   ·simp only[hc,if_false,List.lookup_cons,hx,Bool.false_eq_true]
    exact ih h
theorem lP{X:Cx}{scope:Scope}{cp:List (Nat×Str)}{sc:Scope}{N:List Str}(hcell:∀x,X.env.scope.names.lookup x=some .cell->∃c,X.env.cells.lookup x=some c)(hs:X.env.scope=sc:=by rfl)(hN:X.N=N:=by rfl)
 (kind:scope.kind= .function:=by rfl)(plain:∀y∈scope.names,y.2≠ .cell:=by decide)(names:∀y∈scope.names,y.2= .local->scope.names.lookup y.1=some .local:=by decide+kernel)
 (free:∀y∈scope.names,y.2= .free->sc.names.lookup y.1=some .cell:=by decide+kernel)(at':∀p∈cp,N[p.1]?=some p.2/\sc.names.lookup p.2=some .cell/\scope.names.lookup p.2=some .free:=by decide+kernel):
 lF X scope (eS X.env.cells scope.names []) cp:=by
 subst hs hN
 have hf:∀y∈scope.names,y.2= .free->∃c,X.env.cells.lookup y.1=some c:=fun y hy e=>hcell _ (free y hy e)
 refine⟨kind,plain,names,?_,a7F hf (fun x c e=>by cases e),fun x h=> ?_,fun p hp=> ?_⟩
 ·show closureFor scope X.env=_
  simp only[closureFor]
  have:=a1i (env:=X.env) (acc:=[]) hf
  exact(congrArg (fun z=>z>>=fun r=>pure r) this).trans (pure_bind _ _)
 ·have hm:∀k,(relabel scope X.env).names.lookup x=some k->(k= .cell\/ k= .free)->(x,NameKind.free)∈scope.names:=fun k e hk=>by
   have m:=PySem.mem_of_lookup e
   unfold relabel at m
   obtain⟨⟨n,k'⟩,hy,e'⟩:=List.mem_map.mp m
   have nc:=plain _ hy
   by_cases hc:(k'==NameKind.free&&X.env.scope.kind== .function&&X.env.kindOf n==some .cell)=true
   ·simp only[hc,if_true]at e'
    have e1:n=x:=congrArg (·.1) e'
    have:k'= .free:=by simp only[Bool.and_eq_true,beq_iff_eq]at hc;exact hc.1.1
    subst e1 this
    exact hy
   ·simp only[hc,if_false,Bool.false_eq_true]at e'
    have e1:n=x:=congrArg (·.1) e'
    have e2:k'=k:=congrArg (·.2) e'
    subst e1 e2
    rcases hk with z|z
    ·exact absurd z nc
    ·subst z;exact hy
  rcases h with h|h
  ·exact wO (hm _ h (.inl rfl))
  ·exact wO (hm _ h (.inr rfl))
 ·obtain⟨h1,h2,h3⟩:=at' p hp
  exact⟨h1,.inl h2,b3p h3⟩
def nG(X:Cx)(d:Addr):Prop:=(∀xs,X.H₀ d≠some (.tup xs))/\(∀o u,X.H₀ d≠some (.frz o u))/\∀ps,X.H₀ d≠some (.tbl ps)
section
variable{X:Cx}{pins:List (Addr×Obj)}{σ:St}{H:Hp}{s:Shared}{d:Addr}
theorem Inv.retag{u u':HO}(I:Inv X pins σ H s)(e:H d=some u)(nf:nG X d)(no:∀x,u≠ .own x)(nt:∀xs,u≠ .tup xs)(new:cV X.prog X.w (upd H d u') s.heap d u'):Inv X pins σ (upd H d u') s:=by
 have hn:∀b,H b=none->upd H d u' b=none:=fun b n=>by rw[aH (bD e n).symm];exact n
 refine⟨I.ok,I.os,I.bare,⟨I.base.keep,I.base.slot,fun b o q n hx=>hn b (I.base.free b o q n hx),I.base.there,fun b xs q=> ?_,fun b o v q=> ?_,fun b ps q=> ?_⟩,I.loc,I.cell,hn _ I.free,fun x c q=>hn _ (I.freeC x c q),fun p hp=> ?_,fun b v q=> ?_,I.len⟩
 ·have:b≠d:=fun z=>nf.1 xs (z▸q)
  rw[aH this]
  exact I.base.tups b xs q
 ·have:b≠d:=fun z=>nf.2.1 o v (z▸q)
  rw[aH this]
  exact I.base.frzs b o v q
 ·have:b≠d:=fun z=>nf.2.2 ps (z▸q)
  rw[aH this]
  exact I.base.tbls b ps q
 ·obtain⟨a1,a2,a3,a4,a5⟩:=I.pin p hp
  exact⟨a1,hn _ a2,a3,a4,a5⟩
 ·by_cases hb:b=d
  ·subst hb
   rw[aK]at q
   cases q
   exact new
  ·rw[aH hb]at q
   refine(I.hok b v q).stay (fun _ _ _ r=>r) (fun c r=> ?_) fun c xs r=> ?_
   ·rw[aH (jX r e (fun z=>no _ z.symm))]
    exact r
   ·rw[aH (jX r e (fun z=>nt _ z.symm))]
    exact r
theorem Inv.nof{u:HO}(I:Inv X pins σ H s)(e:H d=some u)(h1:∀xs,u≠ .tup xs)(h2:∀o v,u≠ .frz o v)(h3:∀ps,u≠ .tbl ps):nG X d:=by
 refine⟨fun xs q=> ?_,fun o v q=> ?_,fun ps q=> ?_⟩
 ·have:=(I.base.tups d xs q).symm.trans e
  exact h1 xs (Option.some.inj this).symm
 ·have:=(I.base.frzs d o v q).symm.trans e
  exact h2 o v (Option.some.inj this).symm
 ·obtain⟨m,q'⟩:=I.base.tbls d ps q
  have:=q'.symm.trans e
  exact h3 _ (Option.some.inj this).symm
theorem Inv.freeze{kvs:List (aC×V)}(I:Inv X pins σ H s)(e:H d=some (.dK kvs)):nG X d/\∃o,s.heap.get? d=some o/\Inv X pins σ (upd H d (.frz o (.dK kvs))) s:=by
 have nf:nG X d:=I.nof e (by intro _ z;cases z) (by intro _ _ z;cases z) (by intro _ z;cases z)
 have ok:cV X.prog X.w H s.heap d (.dK kvs):=I.hok d _ e
 obtain⟨z,hs,vs,rel,o,es,ep,ho,r⟩:=id ok
 exact⟨nf,o,ho,I.retag e nf (by intro _ z;cases z) (by intro _ z;cases z) ⟨ho,z,hs,vs,rel,o,es,ep,ho,r⟩⟩
theorem Inv.thaw{o:Obj}{kvs:List (aC×V)}(I:Inv X pins σ H s)(nf:nG X d)(e:H d=some (.frz o (.dK kvs))):Inv X pins σ (upd H d (.dK kvs)) s:=by
 obtain⟨_,q⟩:=(show cV X.prog X.w H s.heap d (.frz o (.dK kvs)) from I.hok d _ e)
 exact I.retag e nf (by intro _ z;cases z) (by intro _ z;cases z) q
end
noncomputable def uA (a:Addr) (o:Obj) (kvs:List (aC×V)):It:=
 ⟨fun i H=>H a=some (.frz o (.dK kvs))/\i<kvs.length,fun i H x H'=>H'=H/\∃p,kvs[i]?=some p/\x=kV p.1,fun i H=>H a=some (.frz o (.dK kvs))/\kvs.length<=i⟩
theorem b1Z{P:Program}{w:World}{H:Hp}{h:Heap}{a:Addr}{o:Obj}{kvs:List (aC×V)}{es:Array DictEntry}{ep:Nat}(ok:cA P w H h)(e:H a=some (.frz o (.dK kvs)))(ho:o.data= .dict es ep):
 (a==sysModules)=false/\∃vs,KV kvs vs/\h.DictAt (fQ P w) a vs ep:=by
 obtain⟨e1,z,hs,vs,rel,o',es',ep',ho',r1,r2,r3⟩:=(show cV P w H h a (.frz o (.dK kvs)) from ok a _ e)
 rw[e1]at ho'
 cases ho'
 have:=r2.symm.trans ho
 cases this
 exact⟨hs,vs,rel,o,_,e1,r1,r2,r3⟩
theorem b9A{P:Program}{w:World}{K:Fg}{tg:Expr}(a it:Addr)(o:Obj)(kvs:List (aC×V)){es:Array DictEntry}{ep:Nat}(hod:o.data= .dict es ep):oU P w K tg (uA a o kvs) [it] it (fun i h=>h.IsKeyIter it a i kvs.length ep) where
 mem:=by simp
 obj:=fun i h st b hb=>by
  have e:b=it:=by simpa using hb
  subst e
  obtain⟨o,e,c,d⟩:=st
  exact⟨o,e,fun v z=>by rw[d]at z;cases z⟩
 keep:=fun i h h' st k=>st.at fun o e=>k it (by simp) o e
 item:=by
  intro X hP hw hK hc i pins s σ H E I hf st hg
  subst hP hw hK
  obtain⟨ha,hi⟩:=hg
  obtain⟨_,vs,rel,dat⟩:=b1Z I.hok ha hod
  have hl:kvs.length=vs.length:=Paired.length rel
  obtain⟨⟨k,x⟩,hx⟩:∃p,vs[i]?=some p:=⟨vs[i]'(by omega),by simp⟩
  obtain⟨f0,f1,f2,f3,f4,f5⟩:=hf it (by simp)
  rw[hl]at st
  refine wpAny_pyNext_dict_item st dat hx fun u h' hu st' sb=> ?_
  have I1:Inv X pins σ H {s with heap:=h'}:=I.turned (t':=s.toks) (fun b o hb e=>sb.extBut b o hb e) f0 f1 f3 f4 f5
  obtain⟨o1,e1,c1,d1⟩:=id st'
  refine⟨u,rfl,a0B (s:={s with heap:=h'}) e1 c1 d1 (by decide) ⟨kV k,H,I1,b61 hu,⟨rfl,?_⟩,by rw[hl];exact st',fun b hb=>(hf b hb).1⟩⟩
  refine⟨kvs[i],by simp[hi],?_⟩
  have e5:(kvs.map (·.1))[i]?=some k:=by rw[KV.fst rel,List.getElem?_map,hx];rfl
  rw[List.getElem?_map,List.getElem?_eq_getElem hi]at e5
  rw[<- Option.some.inj e5]
 done:=by
  intro X hP hw hK hc i pins s σ H E I hf st hg
  subst hP hw hK
  obtain⟨ha,hi⟩:=hg
  obtain⟨_,vs,rel,dat⟩:=b1Z I.hok ha hod
  have hl:kvs.length=vs.length:=Paired.length rel
  obtain⟨f0,f1,f2,f3,f4,f5⟩:=hf it (by simp)
  rw[hl]at st
  exact wpAny_pyNext_dict_end (I.ok.hd hc) st dat (by simp;omega) fun h' eb=>⟨rfl,I.turned (t':=s.toks) (fun b o hb e=>eb b o hb e) f0 f1 f3 f4 f5⟩
 self:=fun _ _ _ _ _ st h=>wpAny_pyIter_keyiter st h
section
variable{X:Cx}{tg:Expr}
def b2T(X:Cx)(tl:TE):TI:=fun σ H R=>tl σ H fun x H1=>∃a kvs,x= .ref a/\H1 a=some (.dK kvs)/\(nG X a->∀o,R (uA a o kvs) (upd H1 a (.frz o (.dK kvs))))
theorem b6h{l:Expr}{tl:TE}(hl:PE X l tl):PI X tg l (b2T X tl):=by
 intro pins s σ H R I h
 refine aR (hl pins s σ H _ I h) fun v s1 ⟨x,H1,I1,r1,q1⟩=> ?_
 obtain⟨a,kvs,e,ha,q⟩:=q1
 subst e
 cases r1
 obtain⟨nf,o,ho,I2⟩:=I1.freeze ha
 obtain⟨z,hs,vs,rel,o',es,ep,ho',r1,r2,r3⟩:=(show cV X.prog X.w H1 s1.heap a (.dK kvs) from I1.hok a _ ha)
 rw[ho]at ho'
 cases ho'
 have hl:kvs.length=vs.length:=Paired.length rel
 have dat:s1.heap.DictAt (fQ X.prog X.w) a vs ep:=⟨o,es,ho,r1,r2,r3⟩
 refine wpAny_pyIter_dict hs dat ?_
 refine⟨s1.heap.objs.size,[s1.heap.objs.size],_,_,_,rfl,I2.kept (t':=s1.toks) fun b o e=>Heap.get?_push_of_some _ e,b9A a _ o kvs r2,⟨_,Heap.get?_push_size _ rfl,rfl,by rw[hl];rfl⟩,fun b hb=> ?_,q nf o⟩
 have e:b=s1.heap.objs.size:=by simpa using hb
 subst e
 exact I2.fpOk (Nat.le_refl _) (I2.hok.fresh (Nat.le_refl _))
noncomputable def b3y (X:Cx) (D:lD):lD where
 nx:=fun σ H=>∃a o kvs,nG X a/\H a=some (.frz o (.dK kvs))/\D.nx σ (upd H a (.dK kvs))
 rt:=fun v H=>∃a o kvs,nG X a/\H a=some (.frz o (.dK kvs))/\D.rt v (upd H a (.dK kvs))
 bk:=D.bk
 ct:=D.ct
def b5z(X:Cx)(tl:TE)(g:TG)(tb:TS):TS:=fun D σ H=>tFor (b2T X tl) g tb (b3y X D) σ H
theorem b3u{iter:Expr}{body:List Stmt}{tl:TE}{g:TG}{tb:TS}{pos:Pos}(hp:PassesOwn (model X.prog X.w) X.A X.env X.xe)(hc:X.calm=true)(hl:PE X iter tl)(hg:PG X tg g)(hb:eL X body tb)
 (hs:∀x,foldedSetIterable iter X.env x=pure x:=by intro _;rfl):PS X (.For tg iter body [] pos) (b5z X tl g tb):=by
 intro pins s σ H D I h
 refine aR (gW hp hc (b6h hl) hg hb hs pins s σ H (b3y X D) I h) fun f s' q=> ?_
 cases f with
 |next=>obtain⟨σ',H',I',a,o,kvs,nf,e,q⟩:=q;exact⟨σ',_,I'.thaw nf e,q⟩
 |cont=>exact q
 |brk=>exact q
 |ret v=>obtain⟨x,σ',H',I',r,a,o,kvs,nf,e,q⟩:=q;exact⟨x,σ',_,I'.thaw nf e,r,q⟩
end
theorem b3e{a:Addr}{ob:Obj}{kvs:List (aC×V)}{g:TG}{tb:TS}{D:lD}{σ:St}{H:Hp}(Pv:Nat->St->Hp->Prop)(h0:Pv 0 σ H)(hl:∀i σ H,i<=kvs.length->Pv i σ H->H a=some (.frz ob (.dK kvs)))
 (hs:∀i p σ H,kvs[i]?=some p->Pv i σ H->g (kV p.1) σ H fun σ2 H2=>tb {D with nx:=Pv (i+ 1),ct:=Pv (i+ 1),bk:=D.nx} σ2 H2)(hd:∀σ H,Pv kvs.length σ H->D.nx σ H):
 ∃W:Nat->Nat->St->Hp->Prop,(∃m,W 0 m σ H)/\∀i m σ H,W i m σ H->
  ((uA a ob kvs).stop i H/\D.nx σ H)\/ ((uA a ob kvs).go i H/\∃N:St->Hp->Prop,(∀σ' H',N σ' H'->∃m',m'<m/\W (i+ 1) m' σ' H')/\∀x H',(uA a ob kvs).yld i H x H'->g x σ H' fun σ2 H2=>tb {D with nx:=N,ct:=N,bk:=D.nx} σ2 H2):=by
 refine⟨fun i m σ H=>m=kvs.length- i/\i<=kvs.length/\Pv i σ H,⟨kvs.length,by simp,Nat.zero_le _,h0⟩,?_⟩
 rintro i m σ H ⟨rfl,hi,p⟩
 have q:=hl i σ H hi p
 by_cases hlt:i<kvs.length
 ·refine .inr ⟨⟨q,hlt⟩,Pv (i+ 1),fun σ' H' p'=>⟨kvs.length- (i+ 1),by omega,rfl,hlt,p'⟩,fun x H' y=> ?_⟩
  obtain⟨e,pr,hp,ex⟩:=y
  subst e ex
  exact hs i pr σ _ hp p
 ·have e:i=kvs.length:=by omega
  subst e
  exact .inl ⟨⟨q,Nat.le_refl _⟩,hd σ H p⟩
section
variable{X:Cx}{e st:Expr}{te:TE}{ts:TO}{p2 pos:Pos}
theorem cF{st:Stmt}:PS X st (fun _ _ _=>False):=fun _ _ _ _ _ _ h=>h.elim
end
structure iN(mg:Str->Option Value)(base:Heap)(c P:Addr):Prop where
 hd:PySem.W.CodeHd base c P
 bt:base.BuiltinsAt mg P
theorem b9x{H:Hp}{a:Addr}{o:HO}(h:H a=some o):upd H a o=H:=by
 funext b
 unfold upd
 split
 ·rename_i e;subst e;exact h.symm
 ·rfl
section
variable{X:Cx}
theorem b2w:∀{xs:List Value} {l c:Nat} {a:Addr},TriplesOk xs->TriplesOk (xs++ [rawInt l,rawInt c,.ref a])
 | [],_,_,_,_=>trivial
 | .int _ _:: .int _ _::_::eJ,_,_,_,t=>b2w (xs:=eJ) t
theorem b9c{ps:Array Value}{l c:Nat}{a:Addr}(t:TriplesOk ps.toList):TriplesOk (ps++ #[rawInt l,rawInt c,.ref a]).toList:=by
 rw[Array.toList_append]
 exact b2w t
end
structure b58(q:Program)(K:Fg)(z:Addr×Addr):Prop where
 ex:∃x:Str,((recsOf q).find? (fun e=>e.name==x)).isSome=true/\PySem.W.tabIn K x=some z
theorem b1Q{K:Fg}{h:Heap}{a:Addr}{ps:Array Value}(hK:PySem.W.noTabs K=true)(X:K.In h)(e:h.get? a=some (PySem.W.tabObj ps)):K.lookup a=none:=by
 cases q:K.lookup a with
 |none=>rfl
 |some o=>
  have e2:=X a o q
  rw[e]at e2
  cases e2
  have h2:=List.all_eq_true.mp hK (a,_) (PySem.W.mem_of_lookupK q)
  exact absurd (show false=true from h2) Bool.false_ne_true
structure ClsM(K:Fg)(C:Addr)(m:Str):Prop where
 ga:PySem.W.specialIn K (.ref C) "__getattribute__"=some (some (.builtin "type.__getattribute__"))
 ex:∃(mc:Value) (f:Addr),PySem.W.readsIn K C mc=true/\PySem.W.findCls K (.ref C) mc m=some (.val (.ref f))/\PySem.W.findIn K (.ref C) m=some (some (.ref f))
section
variable{X:Cx}{CX:eN}{k:Nat}{C:Addr}{ps:List Str}{sp:Sp}{E:XK}{x m:Str}{p pos apos:Pos}{e o:Expr}{es:List Expr}{t:TA}{ta:TE}
theorem b4i{pl:Sem Bool}(he:PE X o (tC (.ref C)))(c:ClsM X.K C m)(G:aN X.prog X.w X.K X.mg X.base CX k C m ps sp)(hr:bT k X.A)(hx:gL CX X E)(ha:PA X (e::es) t)
 (hst:starEach (e::es) X.env=(false,eval e X.env)::starEach es X.env:=by rfl)(hpl:(backTo pos (starEach es X.env)).any (·.1)=false:=by rfl)
 (ht:eval (.Call (.Attribute o m apos) (e::es) [] pos) X.env=(do
  let ov<- eval o X.env
  standAt apos.atName
  let (f,first)<- holding [ov] (getMethod ov m pl)
  callWith pos f first (backTo pos (starEach (e::es) X.env)) (backToKw pos (keywordEach [] X.env))):=by rfl):
 PE X (.Call (.Attribute o m apos) (e::es) [] pos) (a9U sp [] E t):=by
 obtain⟨f,fd,F,hm,hb⟩:=G.ex
 intro pins s σ H Q I h
 refine PySem.W.methodCall_KW (pl:=pl) (aR (he pins s σ H (fun v H1=>v= .ref C/\H1=H) I ⟨rfl,rfl⟩) fun u s1 ⟨x,H1,I1,rx,q⟩=> ?_) ht
 obtain⟨rfl,rfl⟩:=q
 obtain rfl:u=Value.ref C:=rx
 obtain⟨mc,f',h1,h2,h3⟩:=c.ex
 have e1:=hm.at_
 rw[h3]at e1
 cases e1
 refine PySem.W.method_cls I1.kIn c.ga (PySem.W.cls_value I1.kIn h1 h2 rfl ?_)
 refine PySem.W.callWith_K (first:=[]) (h₀:=X.base) I.ok.mod.kin hm.kp (aR (ha pos pins _ σ _ _ (I1.tok _) h) fun us s2 ⟨vs,H2,I2,r,q2⟩=>⟨I2.kIn,?_⟩) hst hpl
 exact rL (us:=us) (vs:=vs) F hr hb .nil hx I2 r q2
end
structure DefT(K:Fg)(mg:Str->Option Value)(x:Str)(st:Stmt)(z:Addr×Addr):Prop where
 ex:∃f fd,iX K x x st f fd/\mg x=some (.ref f)/\fd.code= .ref z.1
 tab:PySem.W.tabIn K x=some z
section
variable{P:Program}{w:World}{K:Fg}{mg:Str->Option Value}{base:Heap}
theorem b90{x:Str}{f c p:Addr}{oc wo:Value}{od wd:Option Addr}{fd:FuncData}{osl ws:Array (Option Value)}{vs:Array Value}(a:PySem.W.nsIn K mainGlobals x=some (some (.ref f)))
 (l:K.lookup f=some ⟨oc,od,.func fd,osl⟩)(hc:fd.code= .ref c)(w:K.lookup c=some ⟨wo,wd,.fields vs,ws⟩)(h:vs[11]?=some (.ref p)):PySem.W.tabIn K x=some (c,p):=by
 unfold PySem.W.tabIn
 rw[a]
 dsimp only
 rw[l]
 dsimp only
 rw[hc]
 dsimp only
 rw[w]
 dsimp only
 rw[h]
theorem b6e{h:Heap}{x:Str}{st:Stmt}{f c p:Addr}{oc wo:Value}{od an wd:Option Addr}{osl ws:Array (Option Value)}{kV doc pm ct:Value}{vs:Array Value}(X:K.In h)(G:h.Ns mainGlobals mg)(a:PySem.W.nsIn K mainGlobals x=some (some (.ref f)))
 (l:K.lookup f=some ⟨oc,od,.func (PySem.W.fnOf x x (aV st) (aS st) (aF st) .none kV doc pm an (.ref c) ct),osl⟩)(hc:PySem.W.codeIn K (.ref c) x=true)(k:PySem.W.keepIn K (.ref f)=true)
 (w:K.lookup c=some ⟨wo,wd,.fields vs,ws⟩)(t:vs[11]?=some (.ref p)):DefT K mg x st (c,p):=
 ⟨⟨f,_,a0g l hc k,PySem.W.mg_of X G a,rfl⟩,b90 a l rfl w t⟩
end
section
variable{X:Cx}
theorem op_inD(hu:X.A.units+ 64<cLine):cY X (compareOp .In) (fun x y H Q=>∃d ds,Dt X.K H x d/\Dt X.K H y (.list ds)/\d.canLay0=true/\(PyData.list ds).canLay0=true/\d.depth<=62/\Q (.bl (ds.any fun z=>PyData.eqv z d)) H):=by
 intro pins s σ H x y v u Q I rx ry h
 obtain⟨d,ds,hx,hy,lx,ly,hd,q⟩:=h
 obtain⟨as,ra⟩:=Dt.reads I hx rx lx
 obtain⟨bs,rb⟩:=Dt.reads I hy ry ly
 exact SeqAt.in_list_reads rb ra ly lx (by have:=Nat.min_le_right (PyData.depthAll ds) d.depth;omega) ⟨.bl _,H,I,rfl,q⟩
theorem b25(hu:X.A.units+ 64<cLine):cY X (compareOp .NotIn) (fun x y H Q=>∃d ds,Dt X.K H x d/\Dt X.K H y (.list ds)/\d.canLay0=true/\(PyData.list ds).canLay0=true/\d.depth<=62/\Q (.bl (!ds.any fun z=>PyData.eqv z d)) H):=by
 intro pins s σ H x y v u Q I rx ry h
 obtain⟨d,ds,hx,hy,lx,ly,hd,q⟩:=h
 obtain⟨as,ra⟩:=Dt.reads I hx rx lx
 obtain⟨bs,rb⟩:=Dt.reads I hy ry ly
 exact SeqAt.notIn_list_reads rb ra ly lx (by have:=Nat.min_le_right (PyData.depthAll ds) d.depth;omega) ⟨.bl _,H,I,rfl,q⟩
end
abbrev fO(p:Str×Str):PyData:=.tuple [.str p.1,.str p.2]
theorem a2L(p q:Str×Str):PyData.eqv (fO p) (fO q)=decide (p=q):=by
 obtain⟨a,b⟩:=p
 obtain⟨c,d⟩:=q
 show(a==c&&(b==d&&true))=decide ((a,b)=(c,d))
 rw[Bool.and_true]
 by_cases h1:a=c
 ·by_cases h2:b=d
  ·subst h1;subst h2
   simp
  ·rw[decide_eq_false (fun e=>h2 (Prod.mk.inj e).2),beq_eq_false_iff_ne.mpr h2,Bool.and_false]
 ·rw[decide_eq_false (fun e=>h1 (Prod.mk.inj e).1),beq_eq_false_iff_ne.mpr h1,Bool.false_and]
theorem a6Q(p:Str×Str):∀ps:List (Str×Str),((ps.map fO).any fun z=>PyData.eqv z (fO p))=decide (p∈ps)
 | []=>rfl
 |q::ps=>by
  rw[List.map_cons,List.any_cons,a6Q p ps,a2L]
  by_cases h:p=q
  ·subst h;simp
  ·rw[decide_eq_false (fun e=>h e.symm),Bool.false_or]
   simp[h]
noncomputable def dH (ps:List (Str×Str)):List (Str×Str):=ps.foldl (fun acc p=>if p∈acc then acc else acc++ [p]) []
theorem b1g(ps:List (Str×Str))(p:Str×Str):dH (ps++ [p])=if p∈dH ps then dH ps else dH ps++ [p]:=by
 unfold dH
 rw[List.foldl_append]
 rfl
theorem b0E:∀ps:List (Str×Str),(dH ps).length<=ps.length:=by
 suffices h:∀(ps acc:List (Str×Str)),(ps.foldl (fun acc p=>if p∈acc then acc else acc++ [p]) acc).length<=acc.length+ ps.length by
  intro ps
  have:=h ps []
  simpa [dH] using this
 intro ps
 induction ps with
 |nil=>intro acc;simp
 |cons p ps ih=>
  intro acc
  rw[List.foldl_cons]
  refine Nat.le_trans (ih _) ?_
  split
  ·simp
  ·simp;omega
theorem zW:∀{ps:List (Str×Str)} {p:Str×Str},p∈dH ps->p∈ps:=by
 suffices h:∀(ps acc:List (Str×Str)) (p:Str×Str),p∈ps.foldl (fun acc p=>if p∈acc then acc else acc++ [p]) acc->p∈acc\/ p∈ps by
  intro ps p hp
  rcases h ps [] p hp with h|h
  ·cases h
  ·exact h
 intro ps
 induction ps with
 |nil=>intro acc p h;exact .inl h
 |cons q ps ih=>
  intro acc p h
  rw[List.foldl_cons]at h
  rcases ih _ p h with h|h
  ·split at h
   ·exact .inl h
   ·rcases List.mem_append.mp h with h|h
    ·exact .inl h
    ·exact .inr (by rw[List.mem_singleton.mp h];exact List.mem_cons_self)
  ·exact .inr (List.mem_cons_of_mem _ h)
def Fz(o:Obj):HO:=.frz o (.ext fun _=>True)
theorem a3H{P:Program}{w:World}{H:Hp}{h:Heap}{a:Addr}{o:Obj}(e:h.get? a=some o):cV P w H h a (Fz o):=⟨e,trivial,⟨o,e⟩,fun _ _ _ _=>trivial⟩
theorem kO{P:Program}{w:World}{H:Hp}{h:Heap}{a:Addr}{o:Obj}(x:cA P w H h)(e:H a=some (Fz o)):h.get? a=some o:=(x a _ e).1
def b2O(q:Str)(o:Obj):Prop:=∃vs t,o.data= .fields vs/\vs[1]?=some (.str q t)
def fB(P:Addr)(S:List Addr):HO:=.ext fun h=>∃ps:Array Value,h.get? P=some (PySem.W.tabObj ps)/\TriplesOk ps.toList/\∀pos cv,codeAmong pos ps.toList=some cv->∃c∈S,cv= .ref c
def gQ(q:Str)(H:Hp)(P:Addr):Prop:=∃S,H P=some (fB P S)/\∀c∈S,∃o,H c=some (Fz o)/\b2O q o
def gA(q:Str)(params:Arguments)(body:Expr)(scope:Scope)(clos:List (Str×Addr))(H:Hp)(fa:Addr):Prop:=
 ∃pm c ctv o,H fa=some (Fz (PySem.W.kla_obj "<lambda>" q params body scope clos pm c ctv))/\H c=some (Fz o)/\b2O q o
theorem b07{P:Program}{w:World}{H:Hp}{h:Heap}{a:Addr}{ps:Array Value}{S:List Addr}(e:h.get? a=some (PySem.W.tabObj ps))(t:TriplesOk ps.toList)(c:∀pos cv,codeAmong pos ps.toList=some cv->∃c∈S,cv= .ref c):cV P w H h a (fB a S):=
 ⟨⟨ps,e,t,c⟩,⟨_,e⟩,fun h1 h2 ⟨qs,e1,t1⟩ k=>⟨qs,k _ e1,t1⟩⟩
theorem b3W{pos:Pos}{l c:Nat}{a:Addr}{cv:Value}:∀{xs:List Value},TriplesOk xs->codeAmong pos (xs++ [rawInt l,rawInt c,.ref a])=some cv->codeAmong pos xs=some cv\/ cv= .ref a
 | [],_,h=>by
  right
  simp only[List.nil_append,rawInt,codeAmong]at h
  split at h
  ·exact(Option.some.inj h).symm
  ·cases h
 | .int x _:: .int y _::z::eJ,t,h=>by
  simp only[List.cons_append,codeAmong]at h|-
  split at h
  ·rename_i e
   rw[if_pos e]
   exact .inl h
  ·rename_i e
   rw[if_neg e]
   exact b3W (xs:=eJ) t h
theorem b3j{P:Program}{w:World}{H:Hp}{h:Heap}{c:Addr}{o:Obj}(x:cA P w H h)(hn:H c=none)(e:h.get? c=some o):cA P w (upd H c (Fz o)) h:=fun b u q=>by
 by_cases hb:b=c
 ·subst hb;rw[aK]at q;cases q;exact a3H e
 ·rw[aH hb]at q
  exact(x b u q).stay (fun _ _ _ z=>z) (fun d z=>by rw[aH (bD z hn)];exact z) fun d xs z=>by rw[aH (bD z hn)];exact z
def b1K(P:Addr)(H H':Hp):Prop:=∀b o,b≠P->H b=some o->H' b=some o
def b97(P:Addr)(q:Str)(params:Arguments)(body:Expr)(scope:Scope)(clos:List (Str×Addr)):TE:=fun _ H Q=>gQ q H P/\∀a H',H a=none->b1K P H H'->gQ q H' P->gA q params body scope clos H' a->Q (.ref a) H'
section
variable{X:Cx}
theorem a5n{params:Arguments}{body:Expr}{scope:Scope}{pos:Pos}{c P:Addr}{clos:List (Str×Addr)}(M:iN X.mg X.base c P)(hc:X.env.code= .ref c)(hcl:closureFor scope X.env=pure clos)(hdef:defaultsOf params X.env=([],[])):
 PE X (.Lambda params body scope pos) (b97 P (X.env.qual++ "<lambda>") params body scope clos):=by
 intro pins s σ H Q I h
 obtain⟨⟨S,hP,hS⟩,q⟩:=h
 obtain⟨⟨ps,e,t,tc⟩,_,_⟩:=I.hok P _ hP
 have hg:s.heap.Ns mainGlobals X.mg:=I.mod.glob.keeps I.bk
 have C:=M.hd.keeps I.bk
 have hb:s.heap.BuiltinsAt X.mg P:=let ⟨bm,o,b1,b2,b3,b4,b5,r⟩:=M.bt;⟨bm,o,b1,b2,b3,b4,I.bk _ _ b5,r⟩
 have hgP:mainGlobals≠P:=fun z=>by
  obtain⟨o,es,ep,e1,hd,_⟩:=hg
  rw[z,e]at e1;cases e1;cases hd
 refine PySem.W.kla_eval hdef ?_
 cases hf:codeAmong pos ps.toList with
 |none=>
  refine PySem.W.kla_makeFunction (mg:=X.mg) hcl I.ok.glob hg hc C e t hf hgP hb fun c' ctv h' tk hx hge hlt hrec htb=> ?_
  obtain⟨c1,oc,vs,tq,ec,goc,doc,dq⟩:=hrec
  obtain rfl:c'=c1:=by cases ec;rfl
  have nP:∀b,H b=none->b≠P:=fun b n z=>by rw[z,hP]at n;cases n
  have hPlt:P<s.heap.objs.size:=Heap.lt_size e
  have goc':(h'.push (PySem.W.kla_obj "<lambda>" (X.env.qual++ "<lambda>") params body scope clos ((X.mg "__name__").getD .none) c' ctv)).get? c'=some oc:=Heap.get?_push_of_some _ goc
  have cP:c'≠P:=Nat.ne_of_gt (Nat.lt_of_lt_of_le hPlt hge)
  have aP:h'.objs.size≠P:=Nat.ne_of_gt (Nat.lt_of_lt_of_le hPlt (Nat.le_of_lt (Nat.lt_of_le_of_lt hge hlt)))
  have ac:h'.objs.size≠c':=Nat.ne_of_gt hlt
  have fr:∀b,s.heap.objs.size<=b->H b=none:=fun b z=>I.hok.fresh z
  have hk:∀b u,b≠P->s.heap.get? b=some u->(h'.push (PySem.W.kla_obj "<lambda>" (X.env.qual++ "<lambda>") params body scope clos ((X.mg "__name__").getD .none) c' ctv)).get? b=some u:=fun b u nb eb=>Heap.get?_push_of_some _ (hx b u nb eb)
  have hok1:cA X.prog X.w (upd H P (fB P (c'::S))) (h'.push (PySem.W.kla_obj "<lambda>" (X.env.qual++ "<lambda>") params body scope clos ((X.mg "__name__").getD .none) c' ctv)):=
   I.hok.write (x:=P) (e:=P) (by rw[hP];trivial) (.inl rfl) hk ⟨_,Heap.get?_push_of_some _ htb⟩ (b07 (Heap.get?_push_of_some _ htb) (b9c t) fun pos cv z=>by
    rw[Array.toList_append]at z
    rcases b3W t z with z|z
    ·obtain⟨d,hd,r⟩:=tc pos cv z
     exact⟨d,List.mem_cons_of_mem _ hd,r⟩
    ·exact⟨c',List.mem_cons_self,z⟩)
  have n1:upd H P (fB P (c'::S)) c'=none:=by rw[aH cP];exact fr _ hge
  have hok2:=b3j hok1 n1 goc'
  have n2:upd (upd H P (fB P (c'::S))) c' (Fz oc) h'.objs.size=none:=by rw[aH ac,aH aP];exact fr _ (Nat.le_of_lt (Nat.lt_of_le_of_lt hge hlt))
  have hok3:=b3j hok2 n2 (Heap.get?_push_size _ rfl)
  have sm:∀b,b≠P->H b≠none->upd (upd (upd H P (fB P (c'::S))) c' (Fz oc)) h'.objs.size (Fz (PySem.W.kla_obj "<lambda>" (X.env.qual++ "<lambda>") params body scope clos ((X.mg "__name__").getD .none) c' ctv)) b=H b:=fun b z1 z2=>by
   have y1:b≠h'.objs.size:=fun z=>z2 (by rw[z];exact fr _ (Nat.le_of_lt (Nat.lt_of_le_of_lt hge hlt)))
   have y2:b≠c':=fun z=>z2 (by rw[z];exact fr _ hge)
   rw[aH y1,aH y2,aH z1]
  have sv:∀b o,b≠P->H b=some o->upd (upd (upd H P (fB P (c'::S))) c' (Fz oc)) h'.objs.size (Fz (PySem.W.kla_obj "<lambda>" (X.env.qual++ "<lambda>") params body scope clos ((X.mg "__name__").getD .none) c' ctv)) b=some o:=fun b o z1 z2=>by
   rw[sm b z1 (by rw[z2];intro z;cases z)];exact z2
  have J:=I.step (h':=h'.push (PySem.W.kla_obj "<lambda>" (X.env.qual++ "<lambda>") params body scope clos ((X.mg "__name__").getD .none) c' ctv)) (g':=s.gens) (t':=tk) (d':=s.drawn) (ch:=[]) (fun _ z=>nomatch z)
   (fun b o _ _ _ eb n=>hk b o (nP b n) eb) (fun b o _ _ _ eb n=>⟨o.slots,hk b o (nP b n) eb⟩)
   (fun b o _ eb n=>by rw[aH (Nat.ne_of_lt (Nat.lt_of_lt_of_le (Heap.lt_size eb) (Nat.le_of_lt (Nat.lt_of_le_of_lt hge hlt)))),aH (Nat.ne_of_lt (Nat.lt_of_lt_of_le (Heap.lt_size eb) hge)),aH (nP b n)];exact n)
   (fun b o _ eb=>by
    by_cases z:b=P
    ·subst z;exact⟨_,Heap.get?_push_of_some _ htb⟩
    ·exact⟨o,hk b o z eb⟩)
   (fun b xs z=>sv b _ (fun y=>by rw[y,hP]at z;cases z) z) (fun b o u z=>sv b _ (fun y=>by rw[y,hP]at z;cases z) z) (fun b ps z=>⟨#[],by rw[sv b _ (fun y=>by rw[y,hP]at z;cases z) z];simp⟩)
   (fun m ⟨o,es,ep,ho,r⟩=>⟨o,es,ep,hk _ o (nP _ I.free) ho,r⟩) hok3 I.bare
  refine⟨.ref h'.objs.size,_,J,rfl,q _ _ (fr _ (Nat.le_of_lt (Nat.lt_of_le_of_lt hge hlt))) (fun b o z1 z2=>sv b o z1 z2) ⟨c'::S,?_,fun d hd=> ?_⟩ ⟨_,c',ctv,oc,aK,?_,vs,tq,doc,dq⟩⟩
  ·rw[aH (Ne.symm aP),aH (Ne.symm cP),aK]
  ·rcases List.mem_cons.mp hd with rfl|hd
   ·exact⟨oc,by rw[aH (Ne.symm ac),aK],vs,tq,doc,dq⟩
   ·obtain⟨o,e1,e2⟩:=hS d hd
    exact⟨o,sv d _ (fun y=>by rw[y,hP]at e1;cases e1) e1,e2⟩
  ·rw[aH (Ne.symm ac),aK]
 |some cv=>
  obtain⟨d,hd,rfl⟩:=tc _ _ hf
  obtain⟨od,e1,e2⟩:=hS d hd
  refine PySem.W.kla_makeFunctionHit (mg:=X.mg) hcl I.ok.glob hg hc C e t hf hb fun ctv h' tk hk hsz=> ?_
  have fr:H h'.objs.size=none:=I.hok.fresh hsz
  have sv:∀b o,H b=some o->upd H h'.objs.size (Fz (PySem.W.kla_obj "<lambda>" (X.env.qual++ "<lambda>") params body scope clos ((X.mg "__name__").getD .none) d ctv)) b=some o:=fun b o z=>by
   rw[aH (bD z fr)];exact z
  refine⟨.ref h'.objs.size,_,I.laid (a:=h'.objs.size) (o:=Fz (PySem.W.kla_obj "<lambda>" (X.env.qual++ "<lambda>") params body scope clos ((X.mg "__name__").getD .none) d ctv)) (fun b o eb=>Heap.get?_push_of_some _ (hk b o eb)) hsz (a3H (Heap.get?_push_size _ rfl)),rfl,
   q _ _ fr (fun b o _ z=>sv b o z) ⟨S,sv _ _ hP,fun d' hd'=> ?_⟩ ⟨_,d,ctv,od,aK,sv _ _ e1,e2⟩⟩
  obtain⟨o,e3,e4⟩:=hS d' hd'
  exact⟨o,sv _ _ e3,e4⟩
end
abbrev eR:=Addr->Option Obj
noncomputable def dY (f:eR) (H:Hp):Hp:=fun b=>match f b with
 |some o=>some (Fz o)
 |none=>H b
noncomputable def dR (f:eR) (H:Hp):Hp:=fun b=>match f b with
 |some _=>none
 |none=>H b
theorem lT{f:eR}{H:Hp}{b:Addr}{o:Obj}(e:f b=some o):dY f H b=some (Fz o):=by unfold dY;rw[e]
theorem eI{f:eR}{H:Hp}{b:Addr}(e:f b=none):dY f H b=H b:=by unfold dY;rw[e]
theorem jY{f:eR}{H:Hp}{b:Addr}{o:Obj}(e:f b=some o):dR f H b=none:=by unfold dR;rw[e]
theorem dQ{f:eR}{H:Hp}{b:Addr}(e:f b=none):dR f H b=H b:=by unfold dR;rw[e]
theorem a6u{f:eR}{H:Hp}(h:∀b o,f b=some o->H b=none):dR f (dY f H)=H:=by
 funext b
 cases e:f b with
 |none=>rw[dQ e,eI e]
 |some o=>rw[jY e,h b o e]
section
variable{P:Program}{w:World}{H H':Hp}{h h':Heap}{f:eR}{fs:List Addr}
theorem b2y(x:cA P w H h)(hf:∀b o,f b=some o->H b=none/\h.get? b=some o):cA P w (dY f H) h:=fun b u q=>by
 have keep:∀c v,H c=some v->dY f H c=some v:=fun c v z=>by
  cases e:f c with
  |none=>rw[eI e];exact z
  |some o=>rw[(hf c o e).1]at z;cases z
 cases e:f b with
 |none=>
  rw[eI e]at q
  exact(x b u q).stay (fun _ _ _ z=>z) (fun c z=>keep c _ z) fun c xs z=>keep c _ z
 |some o=>
  rw[lT e]at q
  cases q
  exact a3H (hf b o e).2
theorem b2X(x:cA P w H h)(hf:∀b o,f b=some o->H b=some (Fz o)):cA P w (dR f H) h:=fun b u q=>by
 cases e:f b with
 |some o=>rw[jY e]at q;cases q
 |none=>
  rw[dQ e]at q
  refine(x b u q).stay (fun _ _ _ z=>z) (fun c z=> ?_) fun c xs z=> ?_
  ·cases e2:f c with
   |none=>rw[dQ e2];exact z
   |some o=>rw[hf c o e2]at z;cases z
  ·cases e2:f c with
   |none=>rw[dQ e2];exact z
   |some o=>rw[hf c o e2]at z;cases z
theorem b8J(hf:∀b o,f b=some o->H b=none/\h.get? b=some o)(u:Un fs [] (dY f H) H' h h')(hok:cA P w H' h'):Un fs [] H (dR f H') h h'/\cA P w (dR f H') h':=by
 have at':∀b o,f b=some o->H' b=some (Fz o):=fun b o e=>u.frzs b o _ (lT e)
 have nf:∀b v,H b=some v->f b=none:=fun b v z=>by
  cases e:f b with
  |none=>rfl
  |some o=>rw[(hf b o e).1]at z;cases z
 refine⟨⟨fun b o e n hb hx=> ?_,fun b o e n hb hx=> ?_,fun b o e n hx=> ?_,fun b o e hx=>u.there b o e hx,fun b xs z=> ?_,fun b o v z=> ?_,fun b ps z=> ?_⟩,b2X hok at'⟩
 ·cases e2:f b with
  |none=>exact u.keep b o e (by rw[eI e2];exact n) hb hx
  |some o2=>
   have:=(hf b o2 e2).2
   rw[e]at this
   cases this
   exact kO hok (at' b o e2)
 ·cases e2:f b with
  |none=>exact u.slot b o e (by rw[eI e2];exact n) hb hx
  |some o2=>
   have:=(hf b o2 e2).2
   rw[e]at this
   cases this
   exact⟨o.slots,kO hok (at' b o e2)⟩
 ·cases e2:f b with
  |none=>rw[dQ e2];exact u.free b o e (by rw[eI e2];exact n) hx
  |some o2=>exact jY e2
 ·rw[dQ (nf b _ z)];exact u.tups b xs (by rw[eI (nf b _ z)];exact z)
 ·rw[dQ (nf b _ z)];exact u.frzs b o v (by rw[eI (nf b _ z)];exact z)
 ·rw[dQ (nf b _ z)];exact u.tbls b ps (by rw[eI (nf b _ z)];exact z)
theorem b7R(hf:∀b o,f b=some o->H b=some (Fz o))(hok0:cA P w H h)(hfs:∀b∈fs,H b=none)(u:Un fs [] (dR f H) H' h h')(hok:cA P w H' h'):Un fs [] H (dY f H') h h'/\cA P w (dY f H') h':=by
 have fr:∀b o,f b=some o->H' b=none/\h'.get? b=some o:=fun b o e=>by
  have g:=kO hok0 (hf b o e)
  exact⟨u.free b o g (jY e) (by simp),u.keep b o g (jY e) (fun z=>by have:=hfs b z;rw[hf b o e]at this;cases this) (by simp)⟩
 have nf:∀b,H b=none->f b=none:=fun b z=>by
  cases e:f b with
  |none=>rfl
  |some o=>rw[hf b o e]at z;cases z
 have nz:∀b v,H b=some v->(∀o,v≠Fz o)->f b=none:=fun b v z ne=>by
  cases e:f b with
  |none=>rfl
  |some o=>rw[hf b o e]at z;exact absurd (Option.some.inj z).symm (ne o)
 refine⟨⟨fun b o e n hb hx=>u.keep b o e (by rw[dQ (nf b n)];exact n) hb hx,fun b o e n hb hx=>u.slot b o e (by rw[dQ (nf b n)];exact n) hb hx,fun b o e n hx=> ?_,fun b o e hx=>u.there b o e hx,fun b xs z=> ?_,fun b o v z=> ?_,fun b ps z=> ?_⟩,b2y hok fr⟩
 ·rw[eI (nf b n)];exact u.free b o e (by rw[dQ (nf b n)];exact n) hx
 ·have e:=nz b _ z (fun o q=>by cases q)
  rw[eI e];exact u.tups b xs (by rw[dQ e];exact z)
 ·cases e:f b with
  |none=>rw[eI e];exact u.frzs b o v (by rw[dQ e];exact z)
  |some o2=>rw[lT e,<- hf b o2 e];exact z
 ·have e:=nz b _ z (fun o q=>by cases q)
  rw[eI e];exact u.tbls b ps (by rw[dQ e];exact z)
end
structure pX(X:Cx)(σ:St)(H:Hp)(f:eR):Prop where
 free:∀b o,f b=some o->H b=none
 cell:∀x c,X.env.cells.lookup x=some c->∃o v,f c=some o/\o.data= .cell v
 val:∀(i:Nat) x v,X.N[i]?=some x->σ[i]?=some (some v)->X.env.scope.names.lookup x=some .cell->∃c o u,X.env.cells.lookup x=some c/\f c=some o/\o.data= .cell (some u)/\bI v u
 inj:∀x y c,X.env.cells.lookup x=some c->X.env.cells.lookup y=some c->x=y
theorem b7A{X:Cx}{pins:List (Addr×Obj)}{σ:St}{H:Hp}{s:Shared}(I:Inv X pins σ H s)(hfn:∀x,X.fn x=true):∃f:eR,pX X σ H f/\(∀b o,f b=some o->H b=none/\s.heap.get? b=some o/\X.base.get? b=none/\b∉gG X.stack):=by
 classical
 let f:eR:=fun b=>if(∃x,X.env.cells.lookup x=some b) then s.heap.get? b else none
 have fe:∀{b o},f b=some o->(∃x,X.env.cells.lookup x=some b)/\s.heap.get? b=some o:=fun{b o} e=>by
  by_cases z:∃x,X.env.cells.lookup x=some b
  ·exact⟨z,by rw[show f b=s.heap.get? b from if_pos z]at e;exact e⟩
  ·rw[show f b=none from if_neg z]at e;cases e
 have ff:∀{x c},X.env.cells.lookup x=some c->f c=s.heap.get? c:=fun{x c} e=>if_pos ⟨x,e⟩
 refine⟨f,⟨fun b o e=> ?_,fun x c e=> ?_,fun i x v e1 e2 e3=> ?_,I.ok.inj⟩,fun b o e=> ?_⟩
 ·obtain⟨⟨x,z⟩,_⟩:=fe e
  exact I.freeC x b z
 ·obtain⟨v,o,ho,hd⟩:=I.cell x c e
  exact⟨o,v,by rw[ff e];exact ho,hd⟩
 ·obtain⟨m,_,hl⟩:=I.loc
  obtain⟨u,r,l⟩:=hl i x v e1 e2 (.inr (.inl e3))
  rcases l with⟨k,_⟩|⟨_,c,ec,o,ho,hd⟩
  ·have k':X.env.scope.names.lookup x=some .local:=k
   rw[e3]at k';cases k'
  ·exact⟨c,o,u,ec,by rw[ff ec];exact ho,hd,r⟩
 ·obtain⟨⟨x,z⟩,g⟩:=fe e
  refine⟨I.freeC x b z,g,?_,fun hb=> ?_⟩
  ·exact Heap.get?_none_of_le (Nat.le_trans I.ok.bsz (I.ok.cab x b (hfn x) z))
  ·rcases List.mem_cons.mp (I.stkSub b hb)with e2|hb
   ·exact I.cne x b z e2
   ·obtain⟨_,ob,ho,_⟩:=I.ok.funs.mem hb
    exact absurd (Nat.lt_of_lt_of_le (Heap.lt_size ho) (I.ok.cab x b (hfn x) z)) (Nat.lt_irrefl _)
theorem b5O{X:Cx}{k:Nat}{fa:Addr}{fd:FuncData}{ps:List Str}{sp:Sp}{pins:List (Addr×Obj)}{σ:St}{H:Hp}{s:Shared}{Q:VK}{us:List Value}{vs:List V}(hfn:∀x,X.fn x=true)(F:eU X.prog X.w X.K X.mg X.base aB k fa fd ps sp)(hr:bT k X.A)(hb:iK X.K fd ps [])
 (I:Inv X pins σ H s)(r:bH vs us)(h:∀f,pX X σ H f->sp vs (dY f H) (fun v H'=>Q v (dR f H')) E0):wpAny (model X.prog X.w) X.A (call (.ref fa) us) (EP X pins σ Q) X.xe s:=by
 obtain⟨f,L,hf⟩:=b7A I hfn
 have q:=h f L
 have hl:(us++ []).length=ps.length:=by rw[List.append_nil,<- r.length];exact F.len _ _ _ _ q
 have e0:kX X.prog X.w X.K X.mg X.base X.A X.stack s (dY f H):=by
  have e:=I.env0
  refine⟨e.frames,e.mod,fun b o z=>⟨(e.bs b o z).1,?_⟩,e.bsz,e.funs,fun b z=> ?_,b2y e.hok fun b o z=>⟨(hf b o z).1,(hf b o z).2.1⟩,e.bare⟩
  ·cases q2:f b with
   |none=>rw[eI q2];exact(e.bs b o z).2
   |some ob=>rw[(hf b ob q2).2.2.1]at z;cases z
  ·cases q2:f b with
   |none=>rw[eI q2];exact e.frf b z
   |some ob=>exact absurd z (hf b ob q2).2.2.2
 have bd:=hb s us I.kIn hl
 rw[List.append_nil]at bd
 refine wpAny_call (codeAny_mono (F.run X.A X.stack s (dY f H) ⟨us,[]⟩ us vs _ E0 hr e0 bd r q) fun r s' hq=> ?_)
 cases r with
 |error e=>exact False.elim hq
 |ok fl=>
  cases fl with
  |ret u=>
   obtain⟨v,H',os,bare,un,hok,rv,qv⟩:=hq
   obtain⟨u1,u2⟩:=b8J (fun b o z=>⟨(hf b o z).1,(hf b o z).2.1⟩) un hok
   exact I.after ⟨v,_,os,bare,u1,u2,rv,qv⟩
  |next=>exact False.elim hq
  |brk=>exact False.elim hq
  |cont=>exact False.elim hq
def b9q(X:Cx)(C:Addr)(m:Str)(sp:Sp)(ta:TE)(t:TA):TE:=fun σ H Q=>ta σ H fun x H1=>∃a dx fs,x= .ref a/\H1 a=some (.ins C dx fs)/\fs.lookup m=none/\
 t σ H1 fun vs H2=>∀f,pX X σ H2 f->sp (x::vs) (dY f H2) (fun v H'=>Q v (dR f H')) E0
section
variable{X:Cx}{k:Nat}{C:Addr}{ps:List Str}{sp:Sp}{x m:Str}{p pos apos:Pos}{e o:Expr}{es:List Expr}{t:TA}{ta:TE}
theorem b68{pl:Sem Bool}(he:PE X o ta)(c:bX X.K C)(G:aN X.prog X.w X.K X.mg X.base aB k C m ps sp)(hr:bT k X.A)(ha:PA X (e::es) t)(hfn:∀x,X.fn x=true:=by exact fun _=>rfl)
 (hst:starEach (e::es) X.env=(false,eval e X.env)::starEach es X.env:=by rfl)(hpl:(backTo pos (starEach es X.env)).any (·.1)=false:=by rfl)
 (ht:eval (.Call (.Attribute o m apos) (e::es) [] pos) X.env=(do
  let ov<- eval o X.env
  standAt apos.atName
  let (f,first)<- holding [ov] (getMethod ov m pl)
  callWith pos f first (backTo pos (starEach (e::es) X.env)) (backToKw pos (keywordEach [] X.env))):=by rfl):
 PE X (.Call (.Attribute o m apos) (e::es) [] pos) (b9q X C m sp ta t):=by
 obtain⟨f,fd,F,hm,hb⟩:=G.ex
 intro pins s σ H Q I h
 refine PySem.W.methodCall_KW (pl:=pl) (aR (he pins s σ H _ I h) fun u s1 ⟨x,H1,I1,rx,a,dx,fs,ex,ea,l,q⟩=> ?_) ht
 subst ex
 obtain rfl:u=Value.ref a:=rx
 refine rT I1 ea c hm l ?_
 refine PySem.W.callWith_K (first:=[.ref a]) (h₀:=X.base) I.ok.mod.kin hm.kp (aR (ha pos pins s1 σ H1 _ I1 q) fun us s2 ⟨vs,H2,I2,r,q2⟩=>⟨I2.kIn,?_⟩) hst hpl
 exact b5O (us:=.ref a::us) (vs:=.ref a::vs) hfn F hr hb I2 (.cons rfl r) q2
end
structure dZ(P:Program)(w:World)(K:Fg)(mg:Str->Option Value)(base:Heap)(k:Nat)(fa:Addr)(sp:Sp):Prop where
 fn:∀vs H Q E,sp vs H Q E->∃c d fd sl,H fa=some (Fz ⟨c,d,.func fd,sl⟩)
 run:∀(A:Around) (outer:List Env) (s:Shared) (H:Hp) (us:List Value) (vs:List V) (Q:VK) (E:XK),bT k A->kX P w K mg base A outer s H->bH vs us->sp vs H Q E->
  codeAny (model P w) A (.call (.ref fa) ⟨us,[]⟩) (CR aB outer P w H s Q E) s
theorem dZ.mono{P:Program}{w:World}{K:Fg}{mg:Str->Option Value}{base:Heap}{j k:Nat}{fa:Addr}{sp:Sp}(F:dZ P w K mg base j fa sp)(h:j<=k):dZ P w K mg base k fa sp:=
 ⟨F.fn,fun A outer s H us vs Q E hr=>F.run A outer s H us vs Q E (hr.mono h)⟩
theorem dZ.imp{P:Program}{w:World}{K:Fg}{mg:Str->Option Value}{base:Heap}{k:Nat}{fa:Addr}{sp sp':Sp}(F:dZ P w K mg base k fa sp)(h:∀vs H Q E,sp' vs H Q E->sp vs H Q E):dZ P w K mg base k fa sp':=
 ⟨fun vs H Q E z=>F.fn vs H Q E (h _ _ _ _ z),fun A outer s H us vs Q E hr e0 r z=>F.run A outer s H us vs Q E hr e0 r (h _ _ _ _ z)⟩
def b6E(P:Program)(w:World)(K:Fg)(mg:Str->Option Value)(base:Heap)(k:Nat)(i:Nat)(t:TA):TE:=fun σ H Q=>∃fa sp,σ[i]?=some (some (.ref fa))/\dZ P w K mg base k fa sp/\t σ H fun vs H1=>sp vs H1 Q E0
section
variable{X:Cx}{k:Nat}{x:Str}{p pos:Pos}{e:Expr}{es:List Expr}{t:TA}
theorem b69(i:Nat)(hr:bT k X.A)(ha:PA X (e::es) t)(hN:X.N[i]?=some x:=by rfl)(hv:Vis X.env.scope x:=by first|exact Or.inl rfl|exact Or.inr (Or.inl rfl)|exact Or.inr (Or.inr rfl))(hd:(x==("__debug__":Str))=false:=by decide)
 (hcd:(x==("__classdict__":Str))=false:=by decide)(he:starEach (e::es) X.env=(false,eval e X.env)::starEach es X.env:=by rfl)(hpl:(backTo pos (starEach es X.env)).any (·.1)=false:=by rfl):
 PE X (.Call (.Name x p) (e::es) [] pos) (b6E X.prog X.w X.K X.mg X.base k i t):=by
 intro pins s σ H Q I h
 obtain⟨fa,sp,e1,F,h⟩:=h
 refine wpAny_Call_Name_kw (aR (b1Y hN hv hd hcd pins s σ H (fun v H1=>v= .ref fa/\H1=H) I ⟨_,e1,rfl,rfl⟩) fun u s1 ⟨v,H1,I1,rv,q⟩=> ?_)
 obtain⟨rfl,rfl⟩:=q
 obtain rfl:u=Value.ref fa:=rv
 show wpAny _ _ (callWith pos (.ref fa) [] (backTo pos (starEach (e::es) X.env)) []) _ _ _
 rw[he]
 refine PySem.W.callWith_of (P:=fun h=>∃c d fd sl,h.get? fa=some ⟨c,d,.func fd,sl⟩) (by show((false||(backTo pos (starEach es X.env)).any (·.1))||false)=false;rw[hpl];rfl)
  (fun h ⟨c,d,fd,sl,z⟩=>⟨.frame,.inl rfl,(PySem.W.Looks.ld (part:=none) z).andThen .now⟩) (PySem.Calls.evalArgs_plain ?_)
 have ha':=ha pos pins s1 σ H1 _ I1 h
 rw[he]at ha'
 refine aR ha' fun us s2 ⟨vs,H2,I2,r,q2⟩=> ?_
 obtain⟨c,d,fd,sl,z⟩:=F.fn _ _ _ _ q2
 refine⟨⟨c,d,fd,sl,kO I2.hok z⟩,?_⟩
 refine wpAny_call (codeAny_mono (F.run X.A X.stack s2 H2 us vs Q E0 hr I2.env0 r q2) fun r s' hq=> ?_)
 cases r with
 |error e=>exact False.elim hq
 |ok fl=>
  cases fl with
  |ret u=>exact I2.after hq
  |next=>exact False.elim hq
  |brk=>exact False.elim hq
  |cont=>exact False.elim hq
end
theorem b1U{α:Type}{x:Str}{u:α}:∀{l:List (Str×α)},(l.map (·.1)).Nodup->(x,u)∈l->l.lookup x=some u
 |(y,v)::r,nd,h=>by
  rw[List.map_cons,List.nodup_cons]at nd
  rw[List.lookup_cons]
  rcases List.mem_cons.mp h with e|h2
  ·cases e;rw[beq_self_eq_true]
  ·have:(x==y)=false:=by
    cases z:x==y with
    |false=>rfl
    |true=>
     have:x=y:=by simpa using z
     subst this
     exact absurd (show x∈r.map (·.1) from List.mem_map.mpr ⟨(x,u),h2,rfl⟩) nd.1
   rw[this]
   exact b1U nd.2 h2
theorem b73{ps:List Str}{us:List Value}{i:Nat}{x:Str}{u:Value}(nd:ps.Nodup)(hl:us.length=ps.length)(h1:ps[i]?=some x)(h2:us[i]?=some u):(ps.zip us).reverse.lookup x=some u:=by
 refine b1U ?_ ?_
 ·rw[List.map_reverse]
  refine List.pairwise_reverse.mpr ?_
  rw[List.map_fst_zip (by omega)]
  exact nd.imp Ne.symm
 ·rw[List.mem_reverse]
  have:(ps.zip us)[i]?=some (x,u):=by rw[List.getElem?_zip_eq_some];exact⟨h1,h2⟩
  exact List.mem_of_getElem? this
noncomputable def oF (P:Program) (w:World) (K:Fg) (mg:Str->Option Value) (base:Heap) (N:List Str) (q:Str) (scope:Scope) (fa:Addr) (cd:Value) (clos:List (Str×Addr)) (A:Around) (outer:List Env) (s:Shared) (H:Hp):Cx where
 prog:=P
 w:=w
 K:=K
 mg:=mg
 base:=base
 A:=A.deeper (PySem.W.envX q scope s.heap.objs.size fa cd clos)
 N:=N
 s₀:=s
 H₀:=H
 env:=PySem.W.envX q scope s.heap.objs.size fa cd clos
 outer:=outer
 stack:=PySem.W.envX q scope s.heap.objs.size fa cd clos::outer
 ex:=[]
 calm:=true
 fn:=fun _=>false
 pn:=[]
 xe:=fun _ _=>False
def mL(fa:Addr)(f:eR)(q:Str)(params:Arguments)(body:Expr)(scope:Scope)(clos:List (Str×Addr))(n:Nat)(spB:List V->Hp->VK->Prop):Sp:=fun vs H Q _=>
 vs.length=n/\gA q params body scope clos H fa/\(∀b o,f b=some o->H b=some (Fz o))/\spB vs (dR f H) fun v H'=>(∀b o,f b=some o->H' b=none)->Q v (dY f H')
theorem b2H{X:Cx}{σ:St}{H₁:Hp}{f:eR}{q:Str}{params:Arguments}{body:Expr}{scope:Scope}{fa:Addr}{ps:List Str}{cp:List (Nat×Str)}{cv:List V}{k:Nat}{spB:List V->Hp->VK->Prop}(L:pX X σ H₁ f)
 (hcell:∀x,X.env.scope.names.lookup x=some .cell->∃c,X.env.cells.lookup x=some c)
 (hcv:cp.map (fun p=>σ[p.1]?)=cv.map fun v=>some (some v))
 (hcp:∀p∈cp,X.N[p.1]?=some p.2/\X.env.scope.names.lookup p.2=some .cell/\scope.names.lookup p.2=some .free)
 (free:∀y∈scope.names,y.2= .free->X.env.scope.names.lookup y.1=some .cell)
 (kind:scope.kind= .function)(co:scope.isCoroutine=false)(gen:scope.isGenerator=false)(nocell:∀y∈scope.names,y.2≠ .cell)(par:∀x∈ps,scope.names.lookup x=some .local)(nd:(ps++ cp.map (·.2)).Nodup)
 (hb:∀(pm ctv:Value) (c:Addr) (clos:List (Str×Addr)) (us:List Value),us.length=ps.length->bindArgs (PySem.W.kla_fn "<lambda>" q params body scope clos pm (.ref c) ctv) ⟨us,[]⟩=pure (ps.zip us))
 (hbody:∀(cd:Value) (A:Around) (outer:List Env) (s:Shared) (H:Hp) (vs:List V) (Q:VK),bT k (A.deeper (PySem.W.envX q scope s.heap.objs.size fa cd (eS X.env.cells scope.names [])))->spB vs H Q->
  ∃t,PE (oF X.prog X.w X.K X.mg X.base (ps++ cp.map (·.2)) q scope fa cd (eS X.env.cells scope.names []) A outer s H) body t/\t ((vs++ cv).map some) H Q):
 dZ X.prog X.w X.K X.mg X.base (k+ 1) fa (mL fa f q params body scope (eS X.env.cells scope.names []) ps.length spB):=by
 have sub:=a7F (cells:=X.env.cells) (names:=scope.names) (acc:=[]) (fun y hy e=>hcell _ (free y hy e)) (fun x c e=>by cases e)
 refine⟨fun vs H Q E ⟨_,⟨pm,c,ctv,o,e1,_⟩,_⟩=>⟨_,_,_,_,e1⟩,fun A outer s H us vs Q E hr e0 r ⟨hl,⟨pm,c,ctv,o,e1,e2,ws,tq,e3,e4⟩,hf,hsp⟩=> ?_⟩
 have hus:us.length=ps.length:=by rw[<- r.length];exact hl
 have hcd:s.heap.CodeRec (.ref c) q:=⟨c,o,ws,tq,rfl,kO e0.hok e2,e3,e4⟩
 have lim:s.heap.NoLimit:=e0.mod.nolimit.keeps fun b o e=>(e0.bs b o e).1
 refine PySem.W.kla_callFunE hr.depth (kO e0.hok e1) rfl co gen rfl hcd ?_
 rw[hb pm ctv c _ us hus]
 refine wpAny_pure (wpAny_newFunctionEnv nocell (fun y hy=>par y.1 (List.of_mem_zip hy).1) (fun h₁ hns hsb=>⟨lim.fresh _ hsb,?_⟩) kind)
 show codeAny _ _ (.expr body (PySem.W.envX q scope s.heap.objs.size fa (.ref c) (eS X.env.cells scope.names []))) _ _
 have hk:∀b o,s.heap.get? b=some o->h₁.get? b=some o:=fun b o e=>hsb.extBut b o (Nat.ne_of_lt (Heap.lt_size e)) (Heap.get?_push_of_some _ e)
 obtain⟨t,ht,hq⟩:=hbody (.ref c) A outer s (dR f H) vs _ (hr.deeper _) hsp
 have hok':cA X.prog X.w (dR f H) s.heap:=b2X e0.hok hf
 have hl2:(vs++ cv).length=(ps++ cp.map (·.2)).length:=by
  rw[List.length_append,List.length_append,List.length_map,hl]
  have:=congrArg List.length hcv
  rw[List.length_map,List.length_map]at this
  omega
 have cl:∀x c,(eS X.env.cells scope.names []).lookup x=some c->∃o v,f c=some o/\o.data= .cell v/\h₁.get? c=some o:=fun x c e=>by
  obtain⟨o,v,h1,h2⟩:=L.cell x c (sub x c e)
  exact⟨o,v,h1,h2,hk _ _ (kO e0.hok (hf c o h1))⟩
 have unN:∀b,H b=none->dR f H b=none:=fun b z=>by
  cases e:f b with
  |none=>rw[dQ e];exact z
  |some o=>exact jY e
 have I:Inv (oF X.prog X.w X.K X.mg X.base (ps++ cp.map (·.2)) q scope fa (.ref c) (eS X.env.cells scope.names []) A outer s (dR f H)) [] ((vs++ cv).map some) (dR f H) {s with heap:=h₁,toks:=s.toks+ (ps.zip us).length}:=by
  have noA:∀b:Addr,b∉(oF X.prog X.w X.K X.mg X.base (ps++ cp.map (·.2)) q scope fa (.ref c) (eS X.env.cells scope.names []) A outer s (dR f H)).ex:=fun b z=>absurd (show b∈([]:List Addr) from z) (by simp)
  refine⟨⟨e0.mod,kind,rfl,rfl,Nat.le_refl _,fun y z c h1 h2=>L.inj y z c (sub _ _ h1) (sub _ _ h2),fun y hy=> ?_,(fun y c z _=>by cases z),fun _=>hr.hd,Around.frames_deeper e0.frames,.inr ⟨rfl,rfl⟩,fun b z=>absurd z (noA b),fun b o z=>⟨(e0.bs b o z).1,unN b (e0.bs b o z).2⟩,e0.bsz,fun b _ _=>noA b,fun b z=>absurd z (noA b),e0.funs,fun b z=>unN b (e0.frf b z)⟩,
   rfl,e0.bare,Un.kept hk,⟨_,hns,fun i y v h1 h2 h3=> ?_⟩,fun y c h=> ?_,hok'.fresh (Nat.le_refl _),fun y c h=> ?_,fun p hp=>absurd (show p∈([]:List (Addr×Obj)) from hp) (by simp),hok'.kept hk,by rw[List.length_map];exact hl2⟩
  ·have hy':scope.names.lookup y=some .cell\/ scope.names.lookup y=some .free:=hy
   rcases hy' with hy'|hy'
   ·exact absurd rfl (nocell _ (PySem.mem_of_lookup hy'))
   ·exact wO (PySem.mem_of_lookup hy')
  ·rw[List.getElem?_map]at h2
   have h2':(vs++ cv)[i]?=some v:=by
    cases z:(vs++ cv)[i]? with
    |none=>rw[z]at h2;cases h2
    |some v'=>rw[z]at h2;cases h2;rfl
   by_cases hi:i<ps.length
   ·have h1':ps[i]?=some y:=by
     have:(ps++ cp.map (·.2))[i]?=some y:=h1
     rw[List.getElem?_append_left hi]at this
     exact this
    rw[List.getElem?_append_left (by omega)]at h2'
    obtain⟨u,hu,ru⟩:=r.get h2'
    exact⟨u,ru,.inl ⟨par y (List.mem_of_getElem? h1'),b73 (List.nodup_append.mp nd).1 hus h1' hu⟩⟩
   ·have h1':(cp.map (·.2))[i- ps.length]?=some y:=by
     have:(ps++ cp.map (·.2))[i]?=some y:=h1
     rw[List.getElem?_append_right (by omega)]at this
     exact this
    rw[List.getElem?_append_right (by omega),hl]at h2'
    rw[List.getElem?_map]at h1'
    cases hp:cp[i- ps.length]? with
    |none=>rw[hp]at h1';cases h1'
    |some p=>
     rw[hp]at h1'
     cases h1'
     have h4:σ[p.1]?=some (some v):=by
      have:=congrArg (fun l=>l[i- ps.length]?) hcv
      simp only[List.getElem?_map,hp,h2',Option.map_some]at this
      exact Option.some.inj this
     obtain⟨g1,g2,g3⟩:=hcp p (List.mem_of_getElem? hp)
     obtain⟨c',o',u,k1,k2,k3,k4⟩:=L.val p.1 p.2 v g1 h4 g2
     obtain⟨c2,k5⟩:=wO (cells:=X.env.cells) (acc:=[]) (PySem.mem_of_lookup g3)
     have k6:=sub _ _ k5
     rw[k1]at k6
     cases k6
     exact⟨u,k4,.inr ⟨.inr g3,c',k5,o',hk _ _ (kO e0.hok (hf c' o' k2)),k3⟩⟩
  ·obtain⟨o,v,_,z1,z2⟩:=cl y c h
   exact⟨v,o,z2,z1⟩
  ·obtain⟨o,v,z,_⟩:=cl y c h
   exact jY z
 refine PySem.W.kla_codeExpr (wpAny_mono (ht [] _ _ _ _ I hq) (fun u s' ⟨v,H',J,rv,qv⟩=> ?_) fun e s' hs=>False.elim hs)
 obtain⟨u1,u2⟩:=b7R hf e0.hok e0.frf (show Un (gG outer) [] (dR f H) H' s.heap s'.heap from J.base) J.hok
 exact⟨v,dY f H',J.os,J.bare,u1,u2,rv,qv fun b o e=>J.base.free b o (kO e0.hok (hf b o e)) (jY e) (by simp[oF])⟩
abbrev wP(tabs:List (Addr×Addr))(H:Hp):Prop:=∀z∈tabs,H z.2=some (fB z.2 [])
abbrev pC(tabs:List (Addr×Addr))(H:Hp):Prop:=∀z∈tabs,∃S,H z.2=some (fB z.2 S)
theorem b5n{P:Program}{w:World}{K:Fg}{mg mb:Str->Option Value}{CX:eN}{k:Nat}{fa a:Addr}{fd:FuncData}{x:Str}{sp:Sp}{s₁:Shared}{vs:List Value}{ns:List Int}{tabs:List (Addr×Addr)}
 (KX:K.In s₁.heap)(hns:s₁.heap.Ns mainGlobals mg)(hb:s₁.heap.Ns builtinsNs mb)(hbb:∀x:Str,x≠ "__name__" ->mb x=bootBuiltins x)(hlim:s₁.heap.NoLimit)(hg:s₁.gens= #[])
 (ha:s₁.heap.get? a=some {cls:=.type "list",data:=.seq vs.toArray})(hi:IntsAre vs ns)(hl:ns.length<=sizeLine)(hr:bT k callerA)
 (hT:∀z∈tabs,PySem.W.CodeHd s₁.heap z.1 z.2/\s₁.heap.get? z.2=some (PySem.W.tabObj #[])/\K.lookup z.2=none)
 (hbm:∃bm ob,mg "__builtins__"=some (.ref bm)/\bm≠builtinsNs/\s₁.heap.get? bm=some ob/\ob.cls= .type "module" /\ob.dict=some builtinsNs/\ob.data= .plain)
 (F:∀base:Heap,K.In base->base.Ns mainGlobals mg->(∀z∈tabs,iN mg base z.1 z.2)->eU P w K mg base CX k fa fd [x] sp)(hbind:∀(s:Shared) (u:Value),BindsTo s fd ⟨[u],[]⟩ [(x,u)])
 (hsp:∀H:Hp,wP tabs H->aL K H a (ns.map V.int)->sp [.ref a] H (fun v H'=>v= .bl true/\pC tabs H') fun _ _ _=>False)
 (hCX:∀H e s',CX [] H s₁ (fun _ _ _=>False) e s'->False):
 codeAny (model P w) callerA (.call (.ref fa) ⟨[.ref a],[]⟩) (fun r s'=>r= .ok (.ret (.bool true))/\OldK s₁.heap s'.heap/\s'.os=s₁.os/\AllBare s'.gens) s₁:=by
 have rv:=b3t hi
 have lenV:=hi.length
 have neT:∀z∈tabs,z.2≠a:=fun z hz e=>by
  have e1:=(hT z hz).2.1
  rw[e,ha]at e1
  cases e1
 have core:∀H:Hp,wP tabs H->(∀b,H b=none\/ (b=a/\K.lookup a=none/\∃o xs,H b=some (.frz o (.lst xs)))\/ ∃z∈tabs,b=z.2)->aL K H a (ns.map V.int)->cA P w H s₁.heap->
  codeAny (model P w) callerA (.call (.ref fa) ⟨[.ref a],[]⟩) (fun r s'=>r= .ok (.ret (.bool true))/\OldK s₁.heap s'.heap/\s'.os=s₁.os/\AllBare s'.gens) s₁:=by
  intro H hTb hO hS hok
  have base_of:∀{b:Addr} {o:Obj},s₁.heap.get? b=some o->H b=none->(kQ s₁.heap H).get? b=some o:=fun e n=>c0g e n
  have free:∀{b:Addr} {o:Obj},s₁.heap.get? b=some o->o≠{cls:=.type "list",data:=.seq vs.toArray} ->o≠PySem.W.tabObj #[] ->H b=none:=fun{b o} e n1 n2=>by
   rcases hO b with z|⟨rfl,_,_⟩|⟨z,hz,rfl⟩
   ·exact z
   ·rw[ha]at e;exact absurd (Option.some.inj e).symm n1
   ·rw[(hT z hz).2.1]at e;exact absurd (Option.some.inj e).symm n2
  have noA:∀{b:Addr} {o:Obj} {es:Array DictEntry} {ep:Nat},s₁.heap.get? b=some o->o.data= .dict es ep->H b=none:=fun{b o es ep} e d=>
   free e (fun z=>by rw[z]at d;cases d) (fun z=>by rw[z]at d;cases d)
  have nsK:∀{b:Addr} {m:Str->Option Value},s₁.heap.Ns b m->(kQ s₁.heap H).Ns b m:=fun{b m} ⟨o,es,ep,e,d,r⟩=>⟨o,es,ep,base_of e (noA e d),d,r⟩
  have hKb:K.In (kQ s₁.heap H):=fun b o e=>base_of (KX b o e) (by
   rcases hO b with z|⟨rfl,z,_⟩|⟨z,hz,rfl⟩
   ·exact z
   ·rw[z]at e;cases e
   ·rw[(hT z hz).2.2]at e;cases e)
  have hM:Mod K mg (kQ s₁.heap H):=⟨hKb,nsK hns,⟨mb,nsK hb,hbb⟩,let ⟨mc,h1,h2⟩:=hlim;⟨mc,nsK h1,h2⟩⟩
  have e0:kX P w K mg (kQ s₁.heap H) callerA [] s₁ H:=⟨rfl,hM,fun b o e=>b6u e,Nat.le_of_eq (b7x _ _),trivial,fun b hb=>absurd (show b∈([]:List Addr) from hb) (by simp),hok,.of_eq hg⟩
  have hMk:∀z∈tabs,iN mg (kQ s₁.heap H) z.1 z.2:=fun z hz=>by
   obtain⟨⟨o,ws,file,tf,flags,tg,inF,text,tt,e1,e2,r⟩,e3,_⟩:=hT z hz
   obtain⟨bm,ob,b1,b2,b3,b4,b5,b6⟩:=hbm
   refine⟨⟨o,ws,file,tf,flags,tg,inF,text,tt,base_of e1 (free e1 (fun q=>by rw[q]at e2;exact absurd (Value.type.inj e2) (by decide)) (fun q=>by rw[q]at e2;cases e2)),e2,r⟩,bm,ob,b1,b2,fun q=> ?_,fun q=> ?_,base_of b3 (free b3 (fun q=>by rw[q]at b4;exact absurd (Value.type.inj b4) (by decide)) (fun q=>by rw[q]at b4;cases b4)),b4,b5,b6⟩
   ·obtain⟨o',es,ep,e',d',_⟩:=hns
    rw[q,e']at b3;cases b3;rw[d']at b6;cases b6
   ·rw[q,e3]at b3;cases b3;cases b4
  refine codeAny_mono ((F _ hKb (nsK hns) hMk).run callerA [] s₁ H ⟨[.ref a],[]⟩ [.ref a] [.ref a] _ _ hr e0 (hbind s₁ (.ref a)) (.cons rfl .nil) (hsp H hTb hS)) fun r s' h=> ?_
  cases r with
  |error e=>exact(hCX H e s' h).elim
  |ok fl=>
   cases fl with
   |next=>exact False.elim h
   |brk=>exact False.elim h
   |cont=>exact False.elim h
   |ret u=>
    obtain⟨v,H',os,bare,un,hok',r',q⟩:=h
    obtain⟨q',hT'⟩:v= .bl true/\pC tabs H':=q
    subst q'
    obtain rfl:u=Value.bool true:=r'
    refine⟨rfl,⟨fun b o e=> ?_,fun b o e=>un.there b o e (by simp)⟩,os,bare⟩
    rcases hO b with z|⟨rfl,_,ob,xs,z⟩|⟨z,hz,rfl⟩
    ·exact .inl (un.keep b o e z (by intro z;exact absurd (show b∈([]:List Addr) from z) (by simp)) (by simp))
    ·have z2:=un.frzs b ob _ z
     obtain⟨e1,_⟩:=hok b _ z
     obtain⟨e2,_⟩:=hok' b _ z2
     rw[e]at e1;cases e1
     exact .inl e2
    ·obtain⟨S4,z4⟩:=hT' z hz
     obtain⟨⟨ps,e4,_⟩,_⟩:=hok' z.2 _ z4
     have e3:=(hT z hz).2.1
     rw[e3]at e
     cases e
     exact .inr (.inl ⟨((hT z hz).1.tab e3).isCodeTable,rfl,#[],ps,rfl,by rw[e4,Array.empty_append]⟩)
 have hTok:∀(H:Hp) (z:Addr×Addr),z∈tabs->cV P w H s₁.heap z.2 (fB z.2 []):=fun H z hz=>b07 (hT z hz).2.1 trivial fun pos cv e=>by cases e
 classical
 let Ht:Hp:=fun b=>if b∈tabs.map (·.2) then some (fB b []) else none
 have hHt:wP tabs Ht:=fun z hz=>if_pos (List.mem_map_of_mem hz)
 have ofHt:∀b u,Ht b=some u->∃z∈tabs,b=z.2/\u=fB z.2 []:=fun b u e=>by
  by_cases hb:b∈tabs.map (·.2)
  ·have e':=(if_pos hb).symm.trans e
   obtain⟨z,hz,rfl⟩:=List.mem_map.mp hb
   exact⟨z,hz,rfl,(Option.some.inj e').symm⟩
  ·have e':=(if_neg hb).symm.trans e
   cases e'
 cases hk:K.lookup a with
 |some o=>
  have e:=KX a o hk
  rw[ha]at e
  cases e
  refine core Ht hHt (fun b=> ?_) (.inr ⟨_,vs.toArray,_,hk,rfl,rfl,rfl,by rw[List.size_toArray,lenV];exact hl,by simpa using rv⟩) (fun b u z=> ?_)
  ·cases q:Ht b with
   |none=>exact .inl rfl
   |some u=>obtain⟨z,hz,e,_⟩:=ofHt b u q;exact .inr (.inr ⟨z,hz,e⟩)
  ·obtain⟨y,hy,rfl,rfl⟩:=ofHt b u z
   exact hTok _ y hy
 |none=>
  refine core (fun b=>if b=a then some (.frz {cls:=.type "list",data:=.seq vs.toArray} (.lst (ns.map V.int))) else Ht b) (fun z hz=> ?_) (fun b=> ?_) (.inl (.inr ⟨{cls:=.type "list",data:=.seq vs.toArray},if_pos rfl⟩)) (fun b u z=> ?_)
  ·exact(if_neg (neT z hz)).trans (hHt z hz)
  ·by_cases hb:b=a
   ·exact .inr (.inl ⟨hb,hk,_,_,if_pos hb⟩)
   ·cases q:Ht b with
    |none=>exact .inl (if_neg hb)
    |some u=>obtain⟨z,hz,e,_⟩:=ofHt b u q;exact .inr (.inr ⟨z,hz,e⟩)
  ·by_cases hb:b=a
   ·have z':=(if_pos hb).symm.trans z
    cases z'
    subst hb
    exact⟨ha,by rw[List.length_map];exact hl,vs,_,rv,ha⟩
   ·have z':=(if_neg hb).symm.trans z
    obtain⟨y,hy,rfl,rfl⟩:=ofHt b u z'
    exact hTok _ y hy
def b4p(P:Program)(w:World)(K:Fg)(mg:Str->Option Value)(base:Heap)(k:Nat)(m:Str)(ta:TE)(t:TA):TE:=fun σ H Q=>ta σ H fun x H1=>∃a C dx fs fa sp,x= .ref a/\H1 a=some (.ins C dx fs)/\bX K C/\cE K C m/\fs.lookup m=some (.ref fa)/\dZ P w K mg base k fa sp/\t σ H1 fun vs H2=>sp vs H2 Q E0
section
variable{X:Cx}{k:Nat}{m:Str}{p pos apos:Pos}{e o:Expr}{es:List Expr}{ta:TE}{t:TA}
theorem b6i{pl:Sem Bool}(he:PE X o ta)(hr:bT k X.A)(ha:PA X (e::es) t)
 (hst:starEach (e::es) X.env=(false,eval e X.env)::starEach es X.env:=by rfl)(hpl:(backTo pos (starEach es X.env)).any (·.1)=false:=by rfl)
 (ht:eval (.Call (.Attribute o m apos) (e::es) [] pos) X.env=(do
  let ov<- eval o X.env
  standAt apos.atName
  let (f,first)<- holding [ov] (getMethod ov m pl)
  callWith pos f first (backTo pos (starEach (e::es) X.env)) (backToKw pos (keywordEach [] X.env))):=by rfl):
 PE X (.Call (.Attribute o m apos) (e::es) [] pos) (b4p X.prog X.w X.K X.mg X.base k m ta t):=by
 intro pins s σ H Q I h
 refine PySem.W.methodCall_KW (pl:=pl) (aR (he pins s σ H _ I h) fun u s1 ⟨x,H1,I1,rx,a,C,dx,fs,fa,sp,ex,ea,c,n,l,F,q⟩=> ?_) ht
 subst ex
 obtain rfl:u=Value.ref a:=rx
 obtain⟨mA,O,_,_,_,_⟩:=rZ I1.hok ea
 obtain⟨od,J,_⟩:=O.look
 refine PySem.W.method_usual (r:=none) I1.kIn J (PySem.W.plainGet_of (c.get m)).1 (PySem.W.plainGet_of (c.get m)).2 n rfl ?_
 refine b20 I1 ea c n l fun u2 s2 I2 ru=> ?_
 obtain rfl:u2=Value.ref fa:=ru
 show wpAny _ _ (callWith pos (.ref fa) [] (backTo pos (starEach (e::es) X.env)) []) _ _ _
 rw[hst]
 refine PySem.W.callWith_of (P:=fun h=>∃c d fd sl,h.get? fa=some ⟨c,d,.func fd,sl⟩) (by show((false||(backTo pos (starEach es X.env)).any (·.1))||false)=false;rw[hpl];rfl)
  (fun h ⟨c,d,fd,sl,z⟩=>⟨.frame,.inl rfl,(PySem.W.Looks.ld (part:=none) z).andThen .now⟩) (PySem.Calls.evalArgs_plain ?_)
 have ha':=ha pos pins s2 σ H1 _ I2 q
 rw[hst]at ha'
 refine aR ha' fun us s3 ⟨vs,H2,I3,r,q2⟩=> ?_
 obtain⟨c,d,fd,sl,z⟩:=F.fn _ _ _ _ q2
 refine⟨⟨c,d,fd,sl,kO I3.hok z⟩,?_⟩
 refine wpAny_call (codeAny_mono (F.run X.A X.stack s3 H2 us vs Q E0 hr I3.env0 r q2) fun r s' hq=> ?_)
 cases r with
 |error e=>exact False.elim hq
 |ok fl=>
  cases fl with
  |ret u=>exact I3.after hq
  |next=>exact False.elim hq
  |brk=>exact False.elim hq
  |cont=>exact False.elim hq
end
structure b6v where
 nx:St->Hp->Prop
 rt:V->St->Hp->Prop
abbrev TSR:=b6v->St->Hp->Prop
structure PEw(X:Cx)(e:Expr)(t:TE):Prop where
 run:PE X e t
structure PAw(X:Cx)(es:List Expr)(t:TA):Prop where
 run:PA X es t
structure PTw(X:Cx)(e:Expr)(t:TT):Prop where
 run:PT X e t
structure PSw(X:Cx)(st:Stmt)(t:TS):Prop where
 run:PS X st t
structure PSsw(X:Cx)(st:List Stmt)(t:TS):Prop where
 run:eL X st t
def b2l(R:Addr->Sp->Prop)(m:Str)(E:XK)(ta:TE)(t:TA):TE:=fun σ H Q=>ta σ H fun x H1=>∃C sp a dx fs,R C sp/\x= .ref a/\H1 a=some (.ins C dx fs)/\fs.lookup m=none/\t σ H1 fun vs H2=>sp (x::vs) H2 Q E
section
variable{X:Cx}{CX:eN}{k:Nat}{R:Addr->Sp->Prop}{ps:List Str}{E:XK}{m:Str}{pos apos:Pos}{e o:Expr}{es:List Expr}{t:TA}{ta:TE}
theorem kF{pl:Sem Bool}(he:PE X o ta)(hR:∀C sp,R C sp->bX X.K C/\aN X.prog X.w X.K X.mg X.base CX k C m ps sp)(hr:bT k X.A)(hx:gL CX X E)(ha:PA X (e::es) t)
 (hst:starEach (e::es) X.env=(false,eval e X.env)::starEach es X.env:=by rfl)(hpl:(backTo pos (starEach es X.env)).any (·.1)=false:=by rfl)
 (ht:eval (.Call (.Attribute o m apos) (e::es) [] pos) X.env=(do
  let ov<- eval o X.env
  standAt apos.atName
  let (f,first)<- holding [ov] (getMethod ov m pl)
  callWith pos f first (backTo pos (starEach (e::es) X.env)) (backToKw pos (keywordEach [] X.env))):=by rfl):
 PE X (.Call (.Attribute o m apos) (e::es) [] pos) (b2l R m E ta t):=by
 intro pins s σ H Q I h
 refine PySem.W.methodCall_KW (pl:=pl) (aR (he pins s σ H _ I h) fun u s1 ⟨x,H1,I1,rx,C,sp,a,dx,fs,hC,ex,ea,l,q⟩=> ?_) ht
 obtain⟨c,G⟩:=hR C sp hC
 obtain⟨f,fd,F,hm,hb⟩:=G.ex
 subst ex
 obtain rfl:u=Value.ref a:=rx
 refine rT I1 ea c hm l ?_
 refine PySem.W.callWith_K (first:=[.ref a]) (h₀:=X.base) I.ok.mod.kin hm.kp (aR (ha pos pins s1 σ H1 _ I1 q) fun us s2 ⟨vs,H2,I2,r,q2⟩=>⟨I2.kIn,?_⟩) hst hpl
 exact rL (us:=.ref a::us) (vs:=.ref a::vs) F hr hb .nil hx I2 (.cons rfl r) (by rw[List.append_nil];exact q2)
end
theorem aN.le{P:Program}{w:World}{K:Fg}{mg:Str->Option Value}{base:Heap}{CX:eN}{j k:Nat}{C:Addr}{m:Str}{ps:List Str}{sp:Sp}(G:aN P w K mg base CX j C m ps sp)(h:j<=k):aN P w K mg base CX k C m ps sp:=by
 obtain⟨f,fd,F,hm,hb⟩:=G.ex
 exact⟨f,fd,F.mono h,hm,hb⟩
theorem b9t:typeLookup (.type "list_reverseiterator") "__len__"=pure none:=by rw[typeLookup_type,builtinLookup_eq_fast];kernel_rfl
theorem b4H:typeLookup (.type "list_reverseiterator") "__length_hint__"=pure (some (.builtin "list_reverseiterator.__length_hint__")):=by rw[typeLookup_type,builtinLookup_eq_fast];kernel_rfl
section
variable{prog:Program}{w:World}{A:Around}{s:Shared}
theorem b5c{E:Value->Shared->Prop}{r:Addr}{Q:Bool->Shared->Prop}(hT:s.TypeIs (.ref r) "list_reverseiterator")(h:Q false s):wpAny (model prog w) A (Builtin.List.listLengthHint (.ref r)) Q E s:=by
 unfold Builtin.List.listLengthHint
 refine wpAny_bind (wpAny_specialOf hT b9t ?_)
 show wpAny _ A (specialOf (Value.ref r) (Str.ofString "__length_hint__")>>=_) _ _ _
 refine wpAny_bind (wpAny_specialOf hT b4H ?_)
 generalize hid:("list_reverseiterator.__length_hint__":String)=id0
 wp_delta
 rw[show splitId id0=some ("list_reverseiterator","__length_hint__") from by subst hid;decide+kernel]
 subst hid
 refine wpAny_bind (wpAny_isInstance (b:=true) hT (by rw[isSubtype_type];kernel_rfl) ?_)
 exact wpAny_pure h
theorem b5h{R:Result->Shared->Prop}(hh:A.handled=none){I l S:Addr}{items:Array Value}(hne:l≠I)(hit:s.heap.IsRevIter I l ((items.size:Int)- 1))(hl:s.heap.IsList l items)(hSI:S≠I)(hSl:S≠l)
 (hS:s.heap.get? S=some {cls:=.type "list",data:=.seq #[]})(hn:items.size<=sizeLine)
 (hR:∀h' tk acc' c',(∀b o,b≠S->b≠I->s.heap.get? b=some o->h'.get? b=some o)->h'.get? S=some {cls:=.type "list",dict:=none,data:=.seq acc' c',slots:= #[]} ->ItemsOf (fun i v=>items[items.size- 1- i]?=some v) acc' items.size->R (.ok (.ret .none)) {s with heap:=h',toks:=tk}):
 wpAny (model prog w) A.in1 (Builtin.«list.__init__» ⟨[.ref S,.ref I],[]⟩)
  (fun fin s'=>match fin with| .done f=>R (.ok f) s'| .again c'=>c'.quiet=true/\codeAny (model prog w) A c' R s') (fun e s'=>R (.error e) s') s:=by
 have W:=Walks.listRev (prog:=prog) (w:=w) (A:=A.in1) hh I l hne items
 have hSf:S∉ [I,l]:=by simp only[List.mem_cons,List.not_mem_nil,or_false,not_or];exact⟨hSI,hSl⟩
 have e0:(items.size:Int)- 1- ((0:Nat):Int)=(items.size:Int)- 1:=by omega
 show wpAny _ A.in1 (do let old<- Builtin.List.listItems (.ref S);Builtin.List.listUpdate (.ref S) (fun _=> #[]);letGo old.toList.reverse;Builtin.List.listExtendWith (.ref S) (.ref I) .none) _ _ s
 refine wpAny_bind ?_
 unfold Builtin.List.listItems
 refine wpAny_bind (wpAny_seqItems hS rfl (wpAny_pure ?_))
 show wpAny _ A.in1 (updateSeq S (fun _=> #[])>>=fun _=>letGo (#[]:Array Value).toList.reverse>>=fun _=>Builtin.List.listExtendWith (.ref S) (.ref I) .none) _ _ s
 refine wpAny_bind (wpAny_updateSeq hS rfl ?_)
 have hS₂:=Heap.get?_update_self (Obj.mapSeq (fun _=>(#[]:Array Value))) hS rfl
 have oth:∀b o,b≠S->s.heap.get? b=some o->(s.heap.update S (Obj.mapSeq (fun _=>(#[]:Array Value)))).get? b=some o:=
  fun b o hb e=>(Heap.get?_update_other _ _ (Ne.symm hb)).trans e
 refine wpAny_bind (wpAny_letGo ?_)
 have hit2:=hit.at (h':=s.heap.update S (Obj.mapSeq (fun _=>(#[]:Array Value)))) fun o e=>oth I o hSI.symm e
 have hl2:=hl.at (h':=s.heap.update S (Obj.mapSeq (fun _=>(#[]:Array Value)))) fun o e=>oth l o hSl.symm e
 unfold Builtin.List.listExtendWith
 refine wpAny_bind (wpAny_typeOf hit2.typeIs ?_)
 have h1:Builtin.List.listSameRef (.ref S) (.ref I)=false:=by simp[Builtin.List.listSameRef,hSI]
 have h2:(Value.type "list_reverseiterator"==Value.type "list")=false:=by decide
 have h3:(Value.type "list_reverseiterator"==Value.type "tuple")=false:=by decide
 simp only[h1,h2,h3,Bool.or_false,Bool.false_eq_true,if_false]
 refine wpAny_bind (wpAny_pyIter_revIter hit2 ?_)
 refine wpAny_bind (wpAny_holding (b5c hit2.typeIs ?_))
 rw[if_neg (by decide)]
 refine wpAny_pure ⟨plainId_quiet F.plain_extend_loop _,codeAny_extend_loopS W.toS hn S hSf .none items.size 0 _ #[] _ rfl (Nat.zero_le _) ⟨Nat.zero_le _,by rw[e0];exact hit2,hl2⟩ hS₂ (ItemsOf.nil _) fun s' acc' c' hm hS' hacc=> ?_⟩
 rw[Moved.eq_with hm]
 refine hR s'.heap s'.toks acc' c' (fun b o hb hbI e=>hm.heap b o (fun hmem=> ?_) (oth b o hb e)) hS' hacc
 rcases List.mem_cons.mp hmem with e'|hmem
 ·exact hb e'
 ·exact hbI (List.mem_singleton.mp hmem)
theorem b4j{E:Value->Shared->Prop}{Q:Value->Shared->Prop}(hh:A.handled=none){I l:Addr}{items:Array Value}(hne:l≠I)(hit:s.heap.IsRevIter I l ((items.size:Int)- 1))(hl:s.heap.IsList l items)(hn:items.size<=sizeLine)
 (hQ:∀h' tk acc' c',(∀b o,b≠I->s.heap.get? b=some o->h'.get? b=some o)->h'.get? s.heap.objs.size=some {cls:=.type "list",dict:=none,data:=.seq acc' c',slots:= #[]} ->ItemsOf (fun i v=>items[items.size- 1- i]?=some v) acc' items.size->Q (.ref s.heap.objs.size) {s with heap:=h',toks:=tk}):
 wpAny (model prog w) A (call (.type "list") [.ref I]) Q E s:=by
 refine callType_codes (Q₁:=fun obj s₁=>obj= .ref s.heap.objs.size/\s₁={s with heap:=s.heap.push {cls:=.type "list",data:=.seq #[]}}) F.called_list (F.typeCall_list_1 _) F.entry_list_init
  (code_list_new _ ⟨rfl,rfl⟩) fun obj s₁ h₁=> ?_
 obtain⟨rfl,rfl⟩:=h₁
 have hS:(s.heap.push {cls:=.type "list",data:=.seq #[]}).get? s.heap.objs.size=some {cls:=.type "list",data:=.seq #[]}:=Heap.get?_push_size _ rfl
 have ltI:I<s.heap.objs.size:=let ⟨o,ho,_⟩:=hit;Heap.lt_size ho
 have ltl:l<s.heap.objs.size:=let ⟨o,ho,_⟩:=hl;Heap.lt_size ho
 refine⟨⟨_,hS,rfl⟩,F.args_list_init_2 _ _,b5h (A:=A.in1) hh hne (hit.at fun o e=>Heap.get?_push_of_some _ e) (hl.at fun o e=>Heap.get?_push_of_some _ e) (Nat.ne_of_gt ltI) (Nat.ne_of_gt ltl) hS hn fun h' tk acc' c' hk hS' hacc=> ?_⟩
 exact⟨rfl,hQ h' tk acc' c' (fun b o hb e=>hk b o (Nat.ne_of_lt (Heap.lt_size e)) hb (Heap.get?_push_of_some _ e)) hS' hacc⟩
end
def b55(K:Fg)(te:TE):TE:=fun σ H Q=>te σ H fun x H1=>∃p ys,x= .ref p/\aL K H1 p ys/\∀l,H1 l=none->Q (.ref l) (upd H1 l (.lst ys.reverse))
section
variable{X:Cx}{e:Expr}{te:TE}{x x':Str}{p p' pos pos':Pos}
theorem b8S(hc:X.calm=true)(he:PE X e te)(hg:Gl X x)(hm:X.mg x=none)(hv:bootBuiltins x=some (.type "list"))(hg':Gl X x')(hm':X.mg x'=none)(hv':bootBuiltins x'=some (.type "reversed"))
 (hn:x≠ "__name__":=by decide)(hdb:(x==("__debug__":Str))=false:=by decide)(hn':x'≠ "__name__":=by decide)(hdb':(x'==("__debug__":Str))=false:=by decide)
 (h1:starEach [e] X.env= [(false,eval e X.env)]:=by rfl)(h2:starEach [.Call (.Name x' p') [e] [] pos'] X.env= [(false,eval (.Call (.Name x' p') [e] [] pos') X.env)]:=by rfl):
 PE X (.Call (.Name x p) [.Call (.Name x' p') [e] [] pos'] [] pos) (b55 X.K te):=by
 intro pins s σ H Q I h
 refine wpAny_Call_Name_kw (oK I hg hm hv ?_ hn hdb)
 refine PyProof.Rows.callWith_type1 ?_ h2 rfl
 rw[h2]
 refine Calls.spliced_cons ?_
 refine wpAny_Call_Name_kw (oK I hg' hm' hv' ?_ hn' hdb')
 refine PyProof.Rows.callWith_type1 ?_ h1 rfl
 rw[h1]
 refine Calls.spliced_cons (aR (he pins s σ H _ I h) fun u s1 ⟨v,H1,I1,rv,q,ys,ex,hq,k⟩=> ?_)
 subst ex
 cases rv
 refine Calls.spliced_nil ?_
 obtain⟨its,r',pl,hz⟩:=I1.list hq
 have hlen:=r'.length
 refine call_reversed_list pl.isList ?_
 refine Calls.spliced_nil ?_
 have hsz:its.toArray.size=its.length:=by simp
 have kp1:∀b o,s1.heap.get? b=some o->(s1.heap.push (revObj q ((its.toArray.size:Int)- 1))).get? b=some o:=fun b o e=>Heap.get?_push_of_some _ e
 have I2:Inv X pins σ H1 {s1 with heap:=s1.heap.push (revObj q ((its.toArray.size:Int)- 1))}:=I1.kept (t':=s1.toks) kp1
 have hD:(s1.heap.push (revObj q ((its.toArray.size:Int)- 1))).get? s1.heap.objs.size=some (revObj q ((its.toArray.size:Int)- 1)):=Heap.get?_push_size _ rfl
 have hit:(s1.heap.push (revObj q ((its.toArray.size:Int)- 1))).IsRevIter s1.heap.objs.size q ((its.toArray.size:Int)- 1):=⟨_,hD,rfl,rfl⟩
 have ltq:q<s1.heap.objs.size:=by obtain⟨o,ho,_⟩:=pl.isList;exact Heap.lt_size ho
 refine b4j (s:={s1 with heap:=s1.heap.push (revObj q ((its.toArray.size:Int)- 1))}) (I2.ok.hd hc) (Nat.ne_of_lt ltq) hit (pl.isList.at fun o e=>kp1 q o e) (by rw[hsz];omega) fun h' tk acc c hk hS hI=> ?_
 have its':acc.toList.length=ys.reverse.length:=by rw[Array.length_toList,hI.1,hsz,List.length_reverse];omega
 have hvals:bH ys.reverse acc.toList:=a5b its' fun j y u e1 e2=>by
  rw[Array.getElem?_toList]at e2
  have e3:=hI.2 j u e2
  have hj:j<ys.length:=by
   have:=(List.getElem?_eq_some_iff.mp e1).1
   simpa using this
  rw[List.getElem?_reverse hj]at e1
  have e4:its[its.length- 1- j]?=some u:=by simpa using e3
  rw[<- hlen]at e4
  obtain⟨u',e5,r5⟩:=bH.get r' e1
  rw[e4]at e5
  cases e5
  exact r5
 let s2:Shared:={s1 with heap:=s1.heap.push (revObj q ((its.toArray.size:Int)- 1))}
 have I2':Inv X pins σ (upd H1 s2.heap.objs.size (.lst ys.reverse)) {s2 with heap:=s2.heap.push {cls:=.type "list",dict:=none,data:=.seq acc c,slots:= #[]},toks:=tk}:=by
  refine I2.laid (t':=tk) (o:=.lst ys.reverse) (fun b o e=>Heap.get?_push_of_some _ e) (Nat.le_refl _) ?_
  exact⟨by rw[List.length_reverse];exact hz,acc.toList,c,hvals,by rw[Array.toArray_toList];exact Heap.get?_push_size _ rfl⟩
 have ltD:s1.heap.objs.size<s2.heap.objs.size:=Heap.lt_size hD
 have I3:Inv X pins σ (upd H1 s2.heap.objs.size (.lst ys.reverse)) {s1 with heap:=h',toks:=tk}:=by
  refine Inv.turned (s:={s2 with heap:=s2.heap.push {cls:=.type "list",dict:=none,data:=.seq acc c,slots:= #[]},toks:=tk}) (it:=s1.heap.objs.size) I2' (fun b o hb e=> ?_) (by rw[aH (Nat.ne_of_lt ltD)];exact I1.hok.fresh (Nat.le_refl _)) ?_ (.inr I1.sz) ?_ ?_
  ·by_cases z:b=s2.heap.objs.size
   ·subst z
    rw[show (s2.heap.push {cls:=.type "list",dict:=none,data:=.seq acc c,slots:= #[]}).get? s2.heap.objs.size=some {cls:=.type "list",dict:=none,data:=.seq acc c,slots:= #[]} from Heap.get?_push_size _ rfl]at e
    rw[<- e]
    exact hS
   ·rcases Heap.get?_push_cases e with⟨z',_⟩|e
    ·exact absurd z' z
    ·exact hk b o hb e
  ·obtain⟨m,⟨o,_,_,ho,_⟩,_⟩:=I1.loc
   exact Nat.ne_of_gt (Heap.lt_size ho)
  ·intro y c e
   obtain⟨v,o,ho,_⟩:=I1.cell y c e
   exact Nat.ne_of_lt (Heap.lt_size ho)
  ·intro pr hp
   exact Nat.ne_of_lt (Heap.lt_size (I1.pin pr hp).1)
 exact⟨.ref s2.heap.objs.size,_,I3,rfl,k _ (I2.hok.fresh (Nat.le_refl _))⟩
end
structure PPw(X:Cx)(pos:Pos)(keys:List (Option Expr))(values:List Expr)(trs:List (TE×TE)):Prop where
 run:PPs X pos keys values trs
def dA(ys:List V):List (aC×V):=(List.range ys.length).filterMap fun(i:Nat)=>(ys[i]?).map fun v=>((.inl (i:Int):aC),v)
structure KDict(P:Params)(K:Fg)(p:Addr):Prop where
 ex:∃(es:Array DictEntry) (n:Nat),K.lookup p=some ⟨.type "dict",none,.dict es n,#[]⟩ /\PySem.W.KeysLit P es.toList
 lo:(p==sysModules)=false
structure FnV(P:Program)(w:World)(K:Fg)(mg:Str->Option Value)(base:Heap)(k:Nat)(fa:Addr)(sp:Sp):Prop where
 kp:PySem.W.keepIn K (.ref fa)=true
 run:∀(A:Around) (outer:List Env) (s:Shared) (H:Hp) (us:List Value) (vs:List V) (Q:VK) (E:XK),bT k A->kX P w K mg base A outer s H->K.In s.heap->bH vs us->sp vs H Q E->
  codeAny (model P w) A (.call (.ref fa) ⟨us,[]⟩) (CR aB outer P w H s Q E) s
theorem nQ(z:Str):∀zs:List Str,gM (.str z) (zs.map V.str)=decide (z∈zs)
 | []=>rfl
 |y::r=>by
  have ih:=nQ z r
  unfold gM at ih|-
  rw[List.map_cons,List.any_cons,ih]
  have e:lH (.str y) (.str z)=decide (y=z):=by
   by_cases h:y=z<;>simp[lH,h]
  rw[e,<- Bool.decide_or]
  congr 1
  rw[List.mem_cons]
  exact propext ⟨fun h=>h.imp Eq.symm id,fun h=>h.imp Eq.symm id⟩
theorem nL:∀zs:List Str,(zs.map V.str).all mB=true
 | []=>rfl
 |y::r=>by
  rw[List.map_cons,List.all_cons,nL r]
  rfl
structure jR(K:Fg)(mg:Str->Option Value)(cls m qual:Str)(st:Stmt)(z:Addr×Addr):Prop where
 ex:∃C f fd,mg cls=some (.ref C)/\iX K m qual st f fd/\PySem.W.findIn K (.ref C) m=some (some (.ref f))/\PySem.W.isFn K (.ref f)=true/\fd.code= .ref z.1
 hd:PySem.W.codeHdIn K z.1 z.2=true
section
variable{P:Program}{w:World}{K:Fg}{mg:Str->Option Value}{base:Heap}
theorem b8d{h:Heap}{cls m qual:Str}{st:Stmt}{C f c p:Addr}{oc:Value}{od an:Option Addr}{osl:Array (Option Value)}{kV doc pm ct:Value}(X:K.In h)(G:h.Ns mainGlobals mg)(n:PySem.W.nsIn K mainGlobals cls=some (some (.ref C)))(a:PySem.W.findIn K (.ref C) m=some (some (.ref f)))(i:PySem.W.isFn K (.ref f)=true)
 (l:K.lookup f=some ⟨oc,od,.func (PySem.W.fnOf m qual (aV st) (aS st) (aF st) .none kV doc pm an (.ref c) ct),osl⟩)(hc:PySem.W.codeIn K (.ref c) qual=true)(k:PySem.W.keepIn K (.ref f)=true)(hd:PySem.W.codeHdIn K c p=true):jR K mg cls m qual st (c,p):=
 ⟨⟨C,f,_,PySem.W.mg_of X G n,a0g l hc k,a,i,rfl⟩,hd⟩
theorem jR.known{cls m qual:Str}{st:Stmt}{N ps:List Str}{k:Nat}{sp:Sp}{z:Addr×Addr}{C:Addr}(D:jR K mg cls m qual st z)(hC:mg cls=some (.ref C))(S:aY N ps (aF st))
 (hb:∀(kV doc pm:Value) (an:Option Addr) (cdv ct:Value) (us:List Value),us.length=ps.length->bindArgs (PySem.W.fnOf m qual (aV st) (aS st) (aF st) .none kV doc pm an cdv ct) ⟨us,[]⟩=pure (ps.zip us))
 (len:∀vs H Q E,sp vs H Q E->vs.length=ps.length)
 (hbody:∀(f:Addr) (A:Around) (outer:List Env) (s:Shared) (H:Hp) (vs:List V) (Q:VK) (E:XK),bT k (A.deeper (envOfC qual (aF st) s.heap.objs.size f (.ref z.1)))->sp vs H Q E->
  ∃t,eL (dX aB P w K mg base N qual (aF st) f (.ref z.1) A outer s H E).nox (aS st) t/\t {nx:=fun _ H'=>Q .non H',rt:=Q} (start N vs) H):aN P w K mg base aB (k+ 1) C m ps sp:=by
 obtain⟨C',f,fd,hC',F,ha,hi,hc⟩:=D.ex
 rw[hC]at hC'
 cases hC'
 refine⟨f,fd,?_,⟨ha,hi,F.kp⟩,F.binds hb⟩
 obtain⟨oc,od,kV,doc,pm,an,cdv,ct,osl,rfl,lk,hcd⟩:=F.ex
 have e:cdv= .ref z.1:=hc
 subst e
 refine a5h lk hcd S len fun A outer s H vs Q E hr hsp=> ?_
 obtain⟨t,h,q⟩:=hbody f A outer s H vs Q E hr hsp
 exact⟨t,h.nox,q⟩
end
theorem b5d{l:PySem.W.OpenLaw}{n k:Nat}{q:Program}{loose:List Str}{XP:(Str->Option Value)->Heap->Prop}{YP:World->Heap->Prop}{d:DefRec}{K:Params->Fg}{CX:World->eN}{sp:World->List (Addr×Addr)->Sp}{x:Str}
 (hn:l.most=some n)(hn2:n<=sizeLine)(hdf:d.params.defaults= [])(hr:bT k callerA)
 (hY:∀(w:World) (h:Heap),YP w h->(K w.params).In h)
 (F:∀(w:World) (mg:Str->Option Value) (fa:Addr) (h:Heap),YP w h->(K w.params).In h->h.Ns mainGlobals mg->mg d.name=some (.ref fa)->
  PySem.W.noTabs (K w.params)=true/\∃tabs:List (Addr×Addr),(∀z∈tabs,b58 q (K w.params) z\/ (PySem.W.codeHdIn (K w.params) z.1 z.2=true/\h.get? z.2=some (PySem.W.tabObj #[])))/\∃fd:FuncData,(∀(s:Shared) (u:Value),BindsTo s fd ⟨[u],[]⟩ [(x,u)])/\
   ∀base:Heap,(K w.params).In base->base.Ns mainGlobals mg->(∀z∈tabs,iN mg base z.1 z.2)->eU l.prog w (K w.params) mg base (CX w) k fa fd [x] (sp w tabs))
 (hsp:∀(w:World) (tabs:List (Addr×Addr)) (H:Hp) (a:Addr) (ns:List Int),ns.length<=n->wP tabs H->aL (K w.params) H a (ns.map V.int)->sp w tabs [.ref a] H (fun v H'=>v= .bl true/\pC tabs H') fun _ _ _=>False)
 (hCX:∀(w:World) (H:Hp) (s:Shared) (e:Value) (s':Shared),CX w [] H s (fun _ _ _=>False) e s'->False):
 PySem.W.WalkO q loose XP YP l.row.toRowW d [] (fun f vs=>PySem.call f vs):=by
 refine Att.attach_call hn hdf fun w s₀ s₁ mg mb fa o pm cd doc a vs ns G Y ho hd hcd hmg hobj hints hlen hg=> ?_
 have KX:=hY w _ Y
 obtain⟨hnT,tabs,hTb,fd,hb,hF⟩:=F w mg fa _ Y KX G.T.g hmg
 refine b5n KX G.T.g G.T.b G.T.builtins G.T.nolimit hg hobj hints (Nat.le_trans hlen hn2) hr (fun z hz=> ?_) G.T.bmain hF hb (fun H hO hS=>hsp w tabs H a ns hlen hO hS) fun H e s'=>hCX w H s₁ e s'
 rcases hTb z hz with t|⟨t1,t2⟩
 ·obtain⟨y,h1,h2⟩:=t.ex
  obtain⟨d',h1⟩:=Option.isSome_iff_exists.mp h1
  obtain⟨t1,t2⟩:=PySem.W.tab_of G.T KX h1 h2
  exact⟨t1,t2,b1Q hnT KX t2⟩
 ·exact⟨PySem.W.codeHd_of_K KX t1,t2,b1Q hnT KX t2⟩
theorem b1c{X:Cx}:jC X (.builtin "isinstance") (fun xs H Q=>∃x T t k,xs= [x,.ty T] /\gN X.K H x t/\PySem.W.kitOne X.K t (.type T)=some k/\Q (.bl k) H):=by
 intro pins s σ H xs us Q I r h
 obtain⟨x,T,t,k,rfl,ty,e,q⟩:=h
 cases r with
 |cons r1 rr=>
  cases rr with
  |cons r2 rr=>
   cases rr
   cases r2
   exact b4u I r1 ty e fun tk=>⟨.bl k,H,I.tok tk,rfl,q⟩
structure LentC(X:Cx)(σ:St)(H:Hp)(f:eR):Prop extends pX X σ H f where
 only:∀b o,f b=some o->∃v,o.data= .cell v
section
variable{X:Cx}{k:Nat}{C:Addr}{ps:List Str}{sp:Sp}{x m:Str}{p pos apos:Pos}{e o:Expr}{es:List Expr}{t:TA}{ta:TE}{CX:eN}{E:XK}
theorem b7J(G:dI X.prog X.w X.K X.mg X.base CX k C ps sp)(hr:bT (k+ 1) X.A)(hm:X.mg x=some (.ref C))(hx:gL CX X E)(hg:Gl X x:=by rfl)(hdb:(x==("__debug__":Str))=false:=by decide):
 PE X (.Call (.Name x p) [] [] pos) (zN C sp [] E lQ):=by
 obtain⟨f,fd,F,M,hb⟩:=G.ex
 exact b98 M F hr hg hm hb .nil hx hdb
end
section
variable{X:Cx}{CX:eN}{k:Nat}{R:Addr->Sp->Prop}{ps:List Str}{E:XK}{m:Str}{pos apos:Pos}{o:Expr}{ta:TE}
theorem iQ{pl:Sem Bool}(he:PE X o ta)(hR:∀C sp,R C sp->bX X.K C/\aN X.prog X.w X.K X.mg X.base CX k C m ps sp)(hr:bT k X.A)(hx:gL CX X E)
 (ht:eval (.Call (.Attribute o m apos) [] [] pos) X.env=(do
  let ov<- eval o X.env
  standAt apos.atName
  let (f,first)<- holding [ov] (getMethod ov m pl)
  callWith pos f first (backTo pos (starEach [] X.env)) (backToKw pos (keywordEach [] X.env))):=by rfl):
 PE X (.Call (.Attribute o m apos) [] [] pos) (b2l R m E ta lQ):=by
 intro pins s σ H Q I h
 refine PySem.W.methodCall_KW (pl:=pl) (aR (he pins s σ H _ I h) fun u s1 ⟨x,H1,I1,rx,C,sp,a,dx,fs,hC,ex,ea,l,q⟩=> ?_) ht
 obtain⟨c,G⟩:=hR C sp hC
 obtain⟨f,fd,F,hm,hb⟩:=G.ex
 subst ex
 obtain rfl:u=Value.ref a:=rx
 refine rT I1 ea c hm l ?_
 exact PySem.W.callWith_K0 (first:=[.ref a]) I1.kIn hm.kp (rL (us:=[.ref a]) (vs:=[.ref a]) F hr hb .nil hx I1 (.cons rfl .nil) q)
end
def b9m(r r' r'':R2)(ta tb tc td:TE):TE:=fun σ H Q=>ta σ H fun x H1=>tb σ H1 fun y H2=>r x y H2 fun z H3=>∃k,z= .bl k/\
 (if k=true then tc σ H3 fun w' H4=>r' y w' H4 fun z H5=>∃k,z= .bl k/\(if k=true then td σ H5 fun v' H6=>r'' w' v' H6 Q else Q (.bl false) H5) else Q (.bl false) H3)
section
variable{X:Cx}{a b c d:Expr}{ta tb tc td:TE}{pos:Pos}
theorem b8K{op op' op'':CmpOp}{r r' r'':R2}(ho:cY X (compareOp op) r)(ho':cY X (compareOp op') r')(ho'':cY X (compareOp op'') r'')(ha:PE X a ta)(hb:PE X b tb)(hc:PE X c tc)(hd:PE X d td)
 (hm:lastMarks [op,op',op''] [b,c,d]=false:=by with_unfolding_all rfl):PT X (.Compare a [op,op',op''] [b,c,d] pos) (a0d (b9m r r' r'' ta tb tc td)):=by
 intro pins s σ H Q I h
 refine isTrue_chain (aR (ha pins s σ H _ I h) fun v s1 ⟨x,H1,I1,r1,q1⟩=>test_link (aR (hb pins s1 σ H1 _ I1 q1) fun u s2 ⟨y,H2,I2,r2,q2⟩=>
  aR (ho pins s2 σ H2 x y v u _ I2 r1 r2 q2) fun e s3 ⟨z,H3,I3,r3,k,ek,q3⟩=> ?_)) hm
 subst ek
 cases r3
 refine wpAny_truthy_bool ?_
 cases k with
 |false=>
  obtain⟨k',e',q'⟩:=q3
  cases e'
  exact ite_ff ⟨H3,I3,q'⟩
 |true=>
  refine ite_tt (test_link (aR (hc pins s3 σ H3 _ I3 q3) fun w' s4 ⟨z',H4,I4,r4,q4⟩=>aR (ho' pins s4 σ H4 y z' u w' _ I4 r2 r4 q4) fun d' s5 ⟨z2,H5,I5,r5,k2,e2,q5⟩=> ?_))
  subst e2
  cases r5
  refine wpAny_truthy_bool ?_
  cases k2 with
  |false=>
   obtain⟨k',e',q'⟩:=q5
   cases e'
   exact ite_ff ⟨H5,I5,q'⟩
  |true=>
   refine ite_tt (test_last (aR (hd pins s5 σ H5 _ I5 q5) fun w'' s6 ⟨z'',H6,I6,r6,q6⟩=>aR (ho'' pins s6 σ H6 z' z'' w' w'' _ I6 r4 r6 q6) fun d'' s7 ⟨z3,H7,I7,r7,k3,e3,q7⟩=> ?_))
   subst e3
   cases r7
   exact wpAny_truthy_bool ⟨H7,I7,q7⟩
end
section
variable{X:Cx}{pins:List (Addr×Obj)}{σ:St}{H:Hp}{s:Shared}{scope:Scope}{cl:List (Str×Addr)}{cp:List (Nat×Str)}{fp:List Addr}{x x2:Str}
theorem b6T(I:Inv X pins σ H s)(c:lF X scope cl cp)(hf:∀b∈fp,gZ X pins H b)(hfo:∀b∈fp,b<s.heap.objs.size){h':Heap}{ty:String}{tk:Nat}{m:Str->Option Value}(hm:h'.Ns s.heap.objs.size m)
 (sb:Heap.SameBut s.heap.objs.size (s.heap.push {cls:=.type ty,data:=.dict #[]}) h'):
 Inv (fE X scope cl s.heap.objs.size (x::x2::cp.map (·.2)) fp pins s H) [] (none::none::dE cp σ) H {s with heap:=h',toks:=tk}:=by
 have old:∀b o,s.heap.get? b=some o->h'.get? b=some o:=fun b o e=>(sb.2 b (Nat.ne_of_lt (Heap.lt_size e))).trans (Heap.get?_push_of_some _ e)
 have hC:H s.heap.objs.size=none:=I.hok.fresh (Nat.le_refl _)
 refine⟨⟨I.ok.mod,c.kind,I.ok.glob,I.ok.blt,Nat.le_refl _,fun y z k h1 h2=>I.ok.inj y z k (c.sub _ _ h1) (c.sub _ _ h2),c.has,fun y k z=>(Bool.noConfusion z),I.ok.hd,I.ok.frames,.inl rfl,fun b hb=> ?_,fun b o e=>I.bs b o e,Nat.le_trans I.ok.bsz I.sz,fun b o e hb=> ?_,fun b hb hz=> ?_,I.stack,I.stkFree⟩,
  rfl,I.bare,Un.kept old,⟨m,hm,fun i y v h1 h2 h3=> ?_⟩,fun y k e=> ?_,hC,fun y k e=>I.freeC y k (c.sub y k e),fun p hp=> ?_,I.hok.kept old,?_⟩
 ·obtain⟨f0,f1,f2,f3,f4,f5⟩:=hf b hb
  exact⟨Nat.ne_of_lt (hfo b hb),fun y k e=>f4 y k (c.sub y k e)⟩
 ·obtain⟨f0,f1,f2,f3,f4,f5⟩:=hf b hb
  rcases f3 with z|z
  ·exact I.ok.noex b o e z
  ·exact absurd (Nat.lt_of_lt_of_le (Heap.lt_size (I.ok.bs b o e).1) z) (Nat.lt_irrefl _)
 ·obtain⟨f0,f1,f2,f3,f4,f5⟩:=hf b hb
  rcases List.mem_cons.mp (I.stkSub b hz)with e|e
  ·exact f1 e
  ·exact f2 e
 ·rcases i with _|_|i
  ·simp at h2
  ·simp at h2
  ·
   have h1':(cp.map (·.2))[i]?=some y:=by
    have z:(x::x2::cp.map (·.2))[i+ 1+ 1]?=some y:=h1
    rw[List.getElem?_cons_succ,List.getElem?_cons_succ]at z
    exact z
   have h2':(dE cp σ)[i]?=some (some v):=by simpa using h2
   unfold dE at h2'
   rw[List.getElem?_map]at h1' h2'
   cases e:cp[i]? with
   |none=>rw[e]at h1';cases h1'
   |some p=>
    rw[e]at h1' h2'
    simp only[Option.map_some,Option.some.injEq]at h1' h2'
    obtain⟨k1,k2,k3⟩:=c.at' p (List.mem_of_getElem? e)
    subst h1'
    have h2'':σ[p.1]?=some (some v):=by
     cases q:σ[p.1]? with
     |none=>rw[q]at h2';cases h2'
     |some z=>rw[q]at h2';simpa using h2'
    obtain⟨m0,hn0,hl0⟩:=I.loc
    obtain⟨u,r,l⟩:=hl0 p.1 p.2 v k1 h2'' (k2.elim (fun z=> .inr (.inl z)) fun z=> .inr (.inr z))
    refine⟨u,r,.inr ⟨k3,?_⟩⟩
    rcases l with⟨z,_⟩|⟨_,cc,e1,e2⟩
    ·have z':X.env.scope.names.lookup p.2=some .local:=z
     rcases k2 with k|k<;>(rw[z']at k;cases k)
    ·obtain⟨cc',e3⟩:=c.has p.2 k3
     have e4:=c.sub _ _ e3
     rw[e1]at e4
     cases e4
     obtain⟨o,ho,hd⟩:=e2
     exact⟨cc,e3,o,old _ _ ho,hd⟩
 ·obtain⟨v,o,ho,hd⟩:=I.cell y k (c.sub y k e)
  exact⟨v,o,old _ _ ho,hd⟩
 ·have hp':p∈X.pn++ pins:=by
   rcases List.mem_append.mp hp with z|z
   ·exact z
   ·cases z
  obtain⟨e,n,ne,nf,d⟩:=I.pin p hp'
  refine⟨old _ _ e,n,Nat.ne_of_lt (Heap.lt_size e),fun hz=> ?_,d⟩
  rcases List.mem_cons.mp (I.stkSub p.1 hz)with q|q
  ·exact ne q
  ·exact nf q
 ·show(none::none::dE cp σ).length=(x::x2::cp.map (·.2)).length
  simp[dE]
end
def a0N(cp:List (Nat×Str))(tg:TG)(tt:TT)(te:TE)(σ:St)(J:It)(D:Addr)(Q:VK)(H1:Hp):Prop:=
 ∃W:Nat->Nat->Hp->Prop,(∃m,W 0 m (upd H1 D (.lst [])))/\∀i m H2,W i m H2->(J.stop i H2/\Q (.ref D) H2)\/
  (J.go i H2/\∃(N:VK) (N':Hp->Prop),(∀y H5,N y H5->∃ys m',H5 D=some (.lst ys)/\ys.length<sizeLine/\m'<m/\W (i+ 1) m' (upd H5 D (.lst (ys++ [y]))))/\(∀H4,N' H4->∃m',m'<m/\W (i+ 1) m' H4)/\
   ∀v H3 o o',J.yld i H2 v H3->tg v (o::o'::dE cp σ) H3 fun σ' H4=>∃a b,σ'=some a::some b::dE cp σ/\tt σ' H4 fun k H5=>if k=true then te σ' H5 N else N' H5)
def b3H(cp:List (Nat×Str))(wi:TI)(tg:TG)(tt:TT)(te:TE):TE:=fun σ H Q=>wi σ H fun J H1=>∀D,H1 D=none->a0N cp tg tt te σ J D Q H1
section
variable{X:Cx}{scope:Scope}{cl:List (Str×Addr)}{cp:List (Nat×Str)}{x x2:Str}{tgt:Expr}{tg:TG}{pos:Pos}{elt iter:Expr}{ifs:List Expr}{wi:TI}{tt:TT}{te:TE}
theorem b8y{pins:List (Addr×Obj)}{σ:St}{H2:Hp}{s2:Shared}{it:Addr}{fp:List Addr}{tn:Nat->Heap->Prop}{J:It}{Q:VK}{R:Addr->Result->Shared->Prop}{E:Value->Shared->Prop}(c:lF X scope cl cp)(hcalm:X.calm=true)(hg:∀C fp pins s H,PG (fE X scope cl C (x::x2::cp.map (·.2)) fp pins s H) tgt tg)
 (ht:∀C fp pins s H,mK (fE X scope cl C (x::x2::cp.map (·.2)) fp pins s H) ifs tt)(he:∀C fp pins s H,PE (fE X scope cl C (x::x2::cp.map (·.2)) fp pins s H) elt te)
 (I2:Inv X pins σ H2 s2)(T:oU X.prog X.w X.K tgt J fp it tn)(st2:tn 0 s2.heap)(f2:∀b∈fp,gZ X pins H2 b)(q:a0N cp tg tt te σ J s2.heap.objs.size Q H2)
 (hR:∀(C:Addr) (H':Hp) (s':Shared),(∃m,s'.heap.Ns C m)->X.s₀.heap.objs.size<=C->H' C=none->C≠X.env.locals->(∀x c,X.env.cells.lookup x=some c->c≠C)->(∀p∈X.pn++ pins,p.1≠C)->(∀h'',Heap.SameBut C s'.heap h''->Inv X pins σ H' {s' with heap:=h''})->Q (.ref s2.heap.objs.size) H'->R C (.ok .next) s'):
 wpAny (model X.prog X.w) X.A (newList []) (fun acc s₃=>wpAny (model X.prog X.w) X.A (newFunctionEnv scope X.env.globals cl [] X.env.qual none .none (some X.env)) (fun cenv s₄=>
  acc= .ref s2.heap.objs.size/\codeAny (model X.prog X.w) X.A (.compStart (.ListComp elt [⟨tgt,iter,ifs,0⟩] scope pos) 0 (.ref it) acc {cenv with scope:=relabel scope X.env}) (R cenv.locals) s₄) E s₃) E s2:=by
 obtain⟨W,⟨m0,w0⟩,turn⟩:=q
 refine wpAny_newObj_type ?_
 have I3:Inv X pins σ (upd H2 s2.heap.objs.size (.lst [])) {s2 with heap:=s2.heap.push {cls:=.type "list",dict:=none,data:=.seq ([]:List Value).toArray}}:=
  I2.lnew (t':=s2.toks) (ys:=[]) (its:=[]) .nil (Nat.zero_le _)
 have fpo:∀b∈fp,b<s2.heap.objs.size:=fun b hb=>by
  obtain⟨o,e,_⟩:=T.obj _ _ st2 b hb
  exact Heap.lt_size e
 have f3:∀b∈fp,gZ X pins (upd H2 s2.heap.objs.size (.lst [])) b:=fun b hb=>⟨by rw[aH (Nat.ne_of_lt (fpo b hb))];exact(f2 b hb).1,(f2 b hb).2⟩
 generalize hs3:({s2 with heap:=s2.heap.push {cls:=.type "list",dict:=none,data:=.seq ([]:List Value).toArray}}:Shared)=s3 at I3
 have e3:s3.heap=s2.heap.push {cls:=.type "list",dict:=none,data:=.seq ([]:List Value).toArray}:=by rw[<- hs3]
 have sz3:s2.heap.objs.size<s3.heap.objs.size:=by rw[e3,Heap.size_push];exact Nat.lt_succ_self _
 refine wpAny_newFunctionEnv c.nocell (by intro y hy;cases hy) (fun h₁ hns sb=> ?_) c.kind
 have J3:=b6T (x:=x) (x2:=x2) (tk:=s3.toks+ ([]:List (Str×Value)).length) I3 c f3 (fun b hb=>Nat.lt_trans (fpo b hb) sz3) hns sb
 refine⟨rfl,?_⟩
 have st3:tn 0 h₁:=T.keep _ _ _ st2 fun b hb o e=>(sb.2 b (Nat.ne_of_lt (Nat.lt_trans (fpo b hb) sz3))).trans (Heap.get?_push_of_some _ (by rw[e3];exact Heap.get?_push_of_some _ e))
 generalize hX:fE X scope cl s3.heap.objs.size (x::x2::cp.map (·.2)) fp pins s3 (upd H2 s2.heap.objs.size (.lst []))=X' at J3
 have eA:X'.A=X.A:=by rw[<- hX];rfl
 have eP:X'.prog=X.prog:=by rw[<- hX];rfl
 have ew:X'.w=X.w:=by rw[<- hX];rfl
 have eK:X'.K=X.K:=by rw[<- hX];rfl
 have ec:X'.calm=true:=by rw[<- hX];exact hcalm
 have ee:X'.env=compEnvC scope cl s3.heap.objs.size X.env:=by rw[<- hX];rfl
 have ex:X'.xe=fun _ _=>False:=by rw[<- hX];rfl
 have fpX:∀{H':Hp},(∀b∈fp,H' b=none)->∀b∈fp,gZ X' [] H' b:=fun hn b hb=>by
  obtain⟨f0,f1,f2',f3',f4,f5⟩:=f3 b hb
  subst hX
  refine⟨hn b hb,Nat.ne_of_lt (Nat.lt_trans (fpo b hb) sz3),fun hz=> ?_,.inl hb,fun y k e=>f4 y k (c.sub y k e),fun p hp=> ?_⟩
  ·rcases List.mem_cons.mp (I3.stkSub b hz)with e|e
   ·exact f1 e
   ·exact f2' e
  ·rcases List.mem_append.mp hp with z|z
   ·exact f5 p z
   ·cases z
 have pT:=ht s3.heap.objs.size fp pins s3 (upd H2 s2.heap.objs.size (.lst []))
 have pE:=he s3.heap.objs.size fp pins s3 (upd H2 s2.heap.objs.size (.lst []))
 have pG:=hg s3.heap.objs.size fp pins s3 (upd H2 s2.heap.objs.size (.lst []))
 rw[hX]at pT pE pG
 have loop:codeAny (model X.prog X.w) X.A (.compLoop (.ListComp elt [⟨tgt,iter,ifs,0⟩] scope pos) 0 (.ref it) (.ref s2.heap.objs.size) (compEnvC scope cl s3.heap.objs.size X.env)) (R s3.heap.objs.size) {s3 with heap:=h₁,toks:=s3.toks+ ([]:List (Str×Value)).length}:=by
  refine b3m (fun n s'=>∃i o o' H',Inv X' [] (o::o'::dE cp σ) H' s'/\tn i s'.heap/\(∀b∈fp,H' b=none)/\W i n H') ?_ m0 ⟨0,none,none,_,J3,st3,fun b hb=>(f3 b hb).1,w0⟩
  rintro n s5 ⟨i,o,o',H5,J5,st5,fr5,w5⟩
  rcases turn i n H5 w5 with⟨stop,qn⟩|⟨go,N,N',hN,hN',step⟩
  ·have z:=T.done X' eP ew eK ec i [] s5 _ H5 (fun _ _=>False) J5 (fpX fr5) st5 stop
   rw[eA]at z
   refine aR z fun r s6 ⟨hr,J6⟩=> ?_
   subst hr
   subst hX
   obtain⟨m6,hn6,_⟩:=J6.loc
   refine hR s3.heap.objs.size H5 s6 ⟨m6,hn6⟩ I3.sz J6.free (Nat.ne_of_gt I3.lt) (fun y k e z=> ?_) (fun p hp z=> ?_) (fun h'' sb'=>I3.uncomp rfl f3 J6 sb') qn
   ·obtain⟨v,w'⟩:=I3.cell y k e
    exact absurd w'.lt (by rw[z];exact Nat.lt_irrefl _)
   ·exact absurd (Heap.lt_size (I3.pin p hp).1) (by rw[z];exact Nat.lt_irrefl _)
  ·have z:=T.item X' eP ew eK ec i [] s5 _ H5 (fun _ _=>False) J5 (fpX fr5) st5 go
   rw[eA]at z
   refine aR z fun r s6 ⟨u,hr,h6⟩=> ?_
   subst hr
   refine aR h6 fun _ s7 ⟨v,H7,J7,r7,y7,st7,fr7⟩=> ?_
   have J7':=J7.pinned (fpX fr7) (T.obj _ _ st7)
   have z8:=pG _ s7 _ H7 v u _ J7' r7 (step v H7 o o' y7)
   rw[eA,eP,ew,ee,ex]at z8
   refine aR z8 fun _ s8 ⟨σ8,H8,J8,va,vb,e8,q8⟩=> ?_
   subst e8
   have z9:=pT _ s8 _ H8 _ J8 q8
   rw[eA,eP,ew,ee,ex]at z9
   refine aR z9 fun ok s9 ⟨H9,J9,q9⟩=> ?_
   have fin:∀{H':Hp} {s':Shared},Inv X' ([] ++ pQ fp s7.heap) (some va::some vb::dE cp σ) H' s'->(∃m',m'<n/\W (i+ 1) m' H')->∃m,m<n/\∃i o o' H',Inv X' [] (o::o'::dE cp σ) H' s'/\tn i s'.heap/\(∀b∈fp,H' b=none)/\W i m H':=fun{H' s'} K' ⟨m',hm,w'⟩=>by
    refine⟨m',hm,i+ 1,some va,some vb,H',K'.unpinned,T.keep _ _ _ st7 fun b hb ob e=>(K'.pin (b,ob) (List.mem_append_right _ (List.mem_append_right _ (pJ hb e)))).1,fun b hb=> ?_,w'⟩
    obtain⟨ob,e,d⟩:=T.obj _ _ st7 b hb
    exact(K'.pin (b,ob) (List.mem_append_right _ (List.mem_append_right _ (pJ hb e)))).2.1
   cases ok with
   |false=>
    rw[if_neg Bool.false_ne_true]at q9|-
    exact fin J9 (hN' _ q9)
   |true=>
    rw[if_pos rfl]at q9|-
    have z10:=pE _ s9 _ H9 _ J9 q9
    rw[eA,eP,ew,ee,ex]at z10
    refine aR z10 fun u10 s10 ⟨y,H10,J10,r10,n10⟩=> ?_
    obtain⟨ys,m',hD,hz,hm,w'⟩:=hN y H10 n10
    have z11:=gT (X:=X') _ s10 _ H10 (.ref s2.heap.objs.size) [y] (.ref s2.heap.objs.size) [u10] (fun _ H'=>H'=upd H10 s2.heap.objs.size (.lst (ys++ [y]))) J10 rfl (.cons r10 .nil) ⟨_,ys,y,rfl,rfl,hD,hz,rfl⟩
    rw[eA,eP,ew,ex]at z11
    refine aR z11 fun u11 s11 ⟨y',H11,J11,r11,e11⟩=> ?_
    subst e11
    exact fin J11 ⟨m',hm,w'⟩
 exact codeAny_compStart_list loop (T.self _ 0 _ _ _ st3 loop)
theorem b8v(c:lF X scope cl cp)(hcalm:X.calm=true)(hg:∀C fp pins s H,PG (fE X scope cl C (x::x2::cp.map (·.2)) fp pins s H) tgt tg)(hi:PI X tgt iter wi)
 (ht:∀C fp pins s H,mK (fE X scope cl C (x::x2::cp.map (·.2)) fp pins s H) ifs tt)(he:∀C fp pins s H,PE (fE X scope cl C (x::x2::cp.map (·.2)) fp pins s H) elt te)
 (hs:∀v,foldedSetIterable iter X.env v=pure v:=by intro _;rfl):PE X (.ListComp elt [⟨tgt,iter,ifs,0⟩] scope pos) (b3H cp wi tg tt te):=by
 intro pins s σ H Q I h
 rw[eval_ListComp]
 refine wpAny_comprehension_free (use:=none) (g:=⟨tgt,iter,ifs,0⟩) (gs:=[]) (cl:=cl) rfl hs c.clos c.kind c.names ?_
 refine aR (hi pins s σ H _ I h) fun v s1 h1=>aR h1 fun itv s2 h2=> ?_
 obtain⟨it,fp,tn,J,H2,e,I2,T,st2,f2,q⟩:=h2
 subst e
 refine aR (b8y (iter:=iter) (pos:=pos) (R:=fun C=>compPost (model X.prog X.w) X.A X.xe none (EP X pins σ Q) (.ref s2.heap.objs.size) C) c hcalm hg ht he I2 T st2 f2 (q _ (I2.hok.fresh (Nat.le_refl _))) ?_) fun acc s3 h3=>aR h3 fun cenv s4 h4=> ?_
 ·rintro C H' s' ⟨m,hn⟩ _ _ _ _ _ hI hq
  exact⟨m,hn,fun h'' sb=>⟨.ref s2.heap.objs.size,H',hI h'' sb,rfl,hq⟩⟩
 ·obtain⟨e,h4⟩:=h4
  subst e
  exact h4
theorem b9S{C:Addr}{fp:List Addr}{pins:List (Addr×Obj)}{s:Shared}{H:Hp}{p1 p2:Pos}(hx:scope.names.lookup x=some .local)(hx2:scope.names.lookup x2=some .local)(hnd:(x::x2::cp.map (·.2)).Nodup):vJ (fE X scope cl C (x::x2::cp.map (·.2)) fp pins s H) [.Name x p1,.Name x2 p2] (kG (gF 0) (kG (gF 1) qB)):=
 hZ (dL hnd rfl (.inl (lookup_relabel_local hx)) (.inr (lookup_relabel_local hx))) (hZ (dL hnd rfl (.inl (lookup_relabel_local hx2)) (.inr (lookup_relabel_local hx2))) nT)
theorem b1d{k:Nat}{px px2 pt:Pos}(c:lF X scope cl cp)(hcalm:X.calm=true)(hx:scope.names.lookup x=some .local)(hx2:scope.names.lookup x2=some .local)(hnd:(x::x2::cp.map (·.2)).Nodup)(hi:PI X (.Tuple [.Name x px,.Name x2 px2] k pt) iter wi)
 (ht:∀C fp pins s H,mK (fE X scope cl C (x::x2::cp.map (·.2)) fp pins s H) ifs tt)(he:∀C fp pins s H,PE (fE X scope cl C (x::x2::cp.map (·.2)) fp pins s H) elt te)
 (hs:∀v,foldedSetIterable iter X.env v=pure v:=by intro _;rfl):PE X (.ListComp elt [⟨.Tuple [.Name x px,.Name x2 px2] k pt,iter,ifs,0⟩] scope pos) (b3H cp wi (xT X.K 2 (kG (gF 0) (kG (gF 1) qB))) tt te):=
 b8v c hcalm (fun C fp pins s H=>oO hcalm (b9S hx hx2 hnd)) hi ht he hs
end
theorem b4k{K:Fg}{cp:List (Nat×Str)}{tg:TG}{te:TE}{σ:St}{a:Addr}{xs:List V}{D:Addr}{Q:VK}{H1:Hp}(Pv:Nat->List V->Hp->Prop)(h0:Pv 0 [] (upd H1 D (.lst [])))
 (hl:∀i ys H,H D=some (.lst ys)->Pv i ys H->aL K H a xs)
 (hs:∀i x ys H o o',xs[i]?=some x->H D=some (.lst ys)->Pv i ys H->tg x (o::o'::dE cp σ) H fun σ' H4=>∃b b',σ'=some b::some b'::dE cp σ/\te σ' H4 (jE D Pv i ys))
 (mono:∀v σ0 H (R R':St->Hp->Prop),(∀σ' H',R σ' H'->R' σ' H')->tg v σ0 H R->tg v σ0 H R')
 (hd:∀ys H,H D=some (.lst ys)->Pv xs.length ys H->Q (.ref D) H):a0N cp tg mU te σ (lV K a) D Q H1:=by
 refine⟨fun i m H=>m=xs.length- i/\i<=xs.length/\∃ys,H D=some (.lst ys)/\Pv i ys H,⟨xs.length,by simp,Nat.zero_le _,[],aK,h0⟩,?_⟩
 rintro i m H ⟨rfl,hi,ys,hD,p⟩
 by_cases hlt:i<xs.length
 ·refine .inr ⟨⟨xs,xs[i],hl i ys H hD p,by simp[hlt]⟩,jE D Pv i ys,fun H4=>∃ys',H4 D=some (.lst ys')/\Pv (i+ 1) ys' H4,fun y H5 ⟨h1,h2,h3⟩=>⟨ys,xs.length- (i+ 1),h1,h2,by omega,rfl,hlt,_,aK,h3⟩,fun H4 ⟨ys',h1,h2⟩=>⟨xs.length- (i+ 1),by omega,rfl,hlt,ys',h1,h2⟩,fun v H' o o' y=> ?_⟩
  obtain⟨e,y⟩:=y
  subst e
  refine mono _ _ _ _ _ ?_ (hs i v ys _ o o' (y xs (hl i ys _ hD p)) hD p)
  rintro σ' H4 ⟨b,b',e,q⟩
  refine⟨b,b',e,?_⟩
  unfold mU
  simp only[if_true]
  exact q
 ·have e:i=xs.length:=by omega
  subst e
  exact .inl ⟨⟨xs,hl _ ys H hD p,Nat.le_refl _⟩,hd ys H hD p⟩
theorem b5S{K:Fg}:∀v σ0 H (R R':St->Hp->Prop),(∀σ' H',R σ' H'->R' σ' H')->xT K 2 (kG (gF 0) (kG (gF 1) qB)) v σ0 H R->xT K 2 (kG (gF 0) (kG (gF 1) qB)) v σ0 H R':=by
 rintro v σ0 H R R' h ⟨a,xs,e1,e2,e3,v1,r1,e4,v2,r2,e5,e6,q⟩
 exact⟨a,xs,e1,e2,e3,v1,r1,e4,v2,r2,e5,e6,h _ _ q⟩
end L2
namespace My
open PySem L2
def bC(i:Nat):Stmt:=PySem.Challenge.pw_lazycols_k42_some_rows.main.body.getD i (.Pass ⟨0,0,0,0⟩)
abbrev wK:Stmt:=bC 15
abbrev rW:Stmt:=bC 16
abbrev vQ:Stmt:=bC 17
abbrev xS:Stmt:=bC 18
abbrev tS:Stmt:=bC 19
abbrev vK:Stmt:=bC 20
abbrev uG:Stmt:=bC 23
abbrev xO:Stmt:=bC 24
abbrev tW:Stmt:=bC 25
abbrev tT:Stmt:=bC 26
abbrev rY:Stmt:=bC 32
abbrev tJ:Stmt:=bC 33
abbrev yF:Stmt:=bC 34
abbrev tP:Stmt:=bC 37
abbrev xV:Stmt:=bC 47
abbrev uJ:Stmt:=bC 48
abbrev uN:Stmt:=bC 56
abbrev uU:Stmt:=bC 57
abbrev sQ:Stmt:=bC 58
abbrev uP:Stmt:=bC 59
abbrev wJ:Stmt:=bC 60
abbrev uY:Stmt:=bC 61
abbrev uI:Stmt:=bC 62
abbrev iA:Stmt:=bC 63
abbrev wZ:Stmt:=bL (bC 27) 0
abbrev oX:Stmt:=bL (bC 27) 1
abbrev uO:Stmt:=bL (bC 28) 0
abbrev mS:Stmt:=bL (bC 28) 1
abbrev mR:Stmt:=bL (bC 28) 2
abbrev yI:Stmt:=bL (bC 35) 0
abbrev wW:Stmt:=bL (bC 35) 1
abbrev a0Q:Stmt:=bL (bC 35) 2
abbrev zG:Stmt:=bL (bC 35) 3
abbrev oP:Stmt:=bL (bC 35) 4
abbrev a0m:Stmt:=bL (bC 35) 5
abbrev xL:Stmt:=bL (bC 35) 7
abbrev uQ:Stmt:=bL (bC 35) 11
abbrev uT:Stmt:=bL (bC 35) 13
abbrev tD:Stmt:=bL (bC 38) 0
abbrev xP:Stmt:=bL (bC 38) 1
abbrev qT:Stmt:=bL (bC 39) 0
abbrev a0D:Stmt:=bL (bC 39) 1
abbrev qC:Stmt:=bL (bC 39) 2
abbrev rR:Stmt:=bL (bC 39) 3
abbrev mZ:Stmt:=bL (bC 39) 4
abbrev mX:Stmt:=bL (bC 39) 5
abbrev jZ:Stmt:=bL (bC 39) 6
abbrev mI:Stmt:=bL (bC 39) 7
abbrev mO:Stmt:=bL (bC 39) 9
abbrev yE:Stmt:=bL (bC 40) 0
abbrev vD:Stmt:=bL (bC 40) 1
abbrev xM:Stmt:=bL (bC 40) 2
abbrev sM:Stmt:=bL (bC 40) 3
abbrev vX:Stmt:=bL (bC 40) 4
abbrev sF:Stmt:=bL (bC 41) 0
abbrev mQ:Stmt:=bL (bC 41) 1
abbrev yB:Stmt:=bL (bC 41) 2
abbrev wE:Stmt:=bL (bC 43) 0
abbrev sC:Stmt:=bL (bC 43) 1
abbrev tF:Stmt:=bL (bC 43) 2
abbrev uS:Stmt:=bL (bC 43) 3
abbrev wH:Stmt:=bL (bC 43) 4
abbrev oM:Stmt:=bL (bC 43) 5
abbrev xC:Stmt:=bL (bC 44) 0
abbrev xI:Stmt:=bL (bC 44) 1
abbrev rV:Stmt:=bL (bC 45) 0
abbrev sJ:Stmt:=bL (bC 45) 1
abbrev yK:Stmt:=bL (bC 52) 0
abbrev xB:Stmt:=bL (bC 52) 1
abbrev uZ:Stmt:=bL (bC 53) 0
abbrev wT:Stmt:=bL (bC 53) 1
abbrev lK:Stmt:=bL (bC 53) 2
abbrev eY:Stmt:=bL (bC 53) 3
abbrev yA:Stmt:=bL (bC 53) 4
abbrev yO:Stmt:=bL (bC 53) 5
abbrev vI:Stmt:=bL (bC 54) 0
abbrev sN:Stmt:=bL (bC 54) 1
abbrev wF:Stmt:=bL (bC 54) 2
abbrev yD:Stmt:=bL (bC 54) 3
abbrev a0O:Stmt:=bL (bC 54) 8
abbrev vR:Stmt:=bL (bC 54) 9
abbrev tQ:Stmt:=bL (bC 54) 11
abbrev yN:Stmt:=bL (bC 54) 12
abbrev mW:Stmt:=bL (bC 54) 13
abbrev vF:Stmt:=bL (bC 54) 16
abbrev vB:Stmt:=bL (bC 54) 17
abbrev tV:Stmt:=bL (bC 54) 18
abbrev wM:Stmt:=bL (bC 54) 19
abbrev sY:Stmt:=bL (bC 54) 20
abbrev xJ:Stmt:=bL (bC 54) 21
abbrev uH:Stmt:=bL (bC 54) 22
structure a0I(K:Fg)(mg:Str->Option Value)(C:Addr):Prop where
 c:mg "Rule"=some (.ref C)
 cl:bX K C
 mks:PySem.W.makesIn K C=true
 kc:PySem.W.keepIn K (.ref C)=true
 hc:PySem.W.findIn K (.ref C) "__class__"=some (some (.builtin "object.__class__"))
 n_function:cE K C "function"
 m_init:bA K C "__init__" "Rule.__init__" wZ
 v_init:ClsM K C "__init__"
 m_reckon:bA K C "reckon" "Rule.reckon" oX
structure kY(K:Fg)(mg:Str->Option Value)(C:Addr):Prop where
 c:mg "Cells"=some (.ref C)
 cl:bX K C
 mks:PySem.W.makesIn K C=true
 kc:PySem.W.keepIn K (.ref C)=true
 hc:PySem.W.findIn K (.ref C) "__class__"=some (some (.builtin "object.__class__"))
 n_function:cE K C "function"
 n_names:cE K C "names"
 m_init:bA K C "__init__" "Cells.__init__" uO
 m_leans:bA K C "leans" "Cells.leans" mS
 m_gather:bA K C "gather" "Cells.gather" mR
 m_reckon:bA K C "reckon" "Rule.reckon" oX
 isl:PySem.W.kitOne K (.ref C) (.type "list")=some false
 own:PySem.W.mroIn K C (.type "object")=some true/\PySem.W.specialIn K (.builtin "object.__class__") "__get__"=some (some (.builtin "getset_descriptor.__get__"))/\PySem.W.takesIn K (.builtin "object.__class__")=some true
structure dO(K:Fg)(mg:Str->Option Value)(C:Addr):Prop where
 c:mg "Table"=some (.ref C)
 cl:bX K C
 mks:PySem.W.makesIn K C=true
 kc:PySem.W.keepIn K (.ref C)=true
 hc:PySem.W.findIn K (.ref C) "__class__"=some (some (.builtin "object.__class__"))
 n_row_numbers:cE K C "row_numbers"
 n_fresh_number:cE K C "fresh_number"
 n_kept:cE K C "kept"
 m_init:bA K C "__init__" "Table.__init__" yI
 m_many:bA K C "many" "Table.many" wW
 m_numbers:bA K C "numbers" "Table.numbers" a0Q
 m_columns:bA K C "columns" "Table.columns" zG
 m_give:bA K C "give" "Table.give" oP
 m_drop:bA K C "drop" "Table.drop" a0m
 m_at:bA K C "at" "Table.at" xL
 m_number_at:bA K C "number_at" "Table.number_at" uQ
 m_check_column:bA K C "check_column" "Table.check_column" uT
structure rF(K:Fg)(mg:Str->Option Value)(C:Addr):Prop where
 c:mg "Spot"=some (.ref C)
 cl:bX K C
 mks:PySem.W.makesIn K C=true
 kc:PySem.W.keepIn K (.ref C)=true
 hc:PySem.W.findIn K (.ref C) "__class__"=some (some (.builtin "object.__class__"))
 n_sheet:cE K C "sheet"
 n_name:cE K C "name"
 n_column:cE K C "column"
 n_place:cE K C "place"
 m_init:bA K C "__init__" "Spot.__init__" tD
 m_told:bA K C "told" "Spot.told" xP
structure b4y(K:Fg)(mg:Str->Option Value)(C:Addr):Prop where
 c:mg "View"=some (.ref C)
 cl:bX K C
 mks:PySem.W.makesIn K C=true
 kc:PySem.W.keepIn K (.ref C)=true
 hc:PySem.W.findIn K (.ref C) "__class__"=some (some (.builtin "object.__class__"))
 m_columns:bA K C "columns" "View.columns" qT
 m_rows:bA K C "rows" "View.rows" a0D
 m_value_at:bA K C "value_at" "View.value_at" qC
 m_spots_at:bA K C "spots_at" "View.spots_at" rR
 m_many:bA K C "many" "View.many" mZ
 m_look:bA K C "look" "View.look" mX
 m_shown:bA K C "shown" "View.shown" jZ
 m_spots:bA K C "spots" "View.spots" mI
 m_asked_row:bA K C "asked_row" "View.asked_row" mO
structure rQ(K:Fg)(mg:Str->Option Value)(C:Addr):Prop where
 c:mg "Whole"=some (.ref C)
 cl:bX K C
 mks:PySem.W.makesIn K C=true
 kc:PySem.W.keepIn K (.ref C)=true
 hc:PySem.W.findIn K (.ref C) "__class__"=some (some (.builtin "object.__class__"))
 n_sheet:cE K C "sheet"
 n_name:cE K C "name"
 m_init:bA K C "__init__" "Whole.__init__" yE
 m_columns:bA K C "columns" "Whole.columns" vD
 m_rows:bA K C "rows" "Whole.rows" xM
 m_value_at:bA K C "value_at" "Whole.value_at" sM
 m_spots_at:bA K C "spots_at" "Whole.spots_at" vX
 m_many:bA K C "many" "View.many" mZ
 m_look:bA K C "look" "View.look" mX
 m_shown:bA K C "shown" "View.shown" jZ
 m_spots:bA K C "spots" "View.spots" mI
 m_asked_row:bA K C "asked_row" "View.asked_row" mO
structure qP(K:Fg)(mg:Str->Option Value)(C:Addr):Prop where
 c:mg "Some"=some (.ref C)
 cl:bX K C
 mks:PySem.W.makesIn K C=true
 kc:PySem.W.keepIn K (.ref C)=true
 hc:PySem.W.findIn K (.ref C) "__class__"=some (some (.builtin "object.__class__"))
 n_view:cE K C "view"
 n_column:cE K C "column"
 m_init:bA K C "__init__" "Some.__init__" sF
 m_rows:bA K C "rows" "Some.rows" mQ
 m_has_row:bA K C "has_row" "Some.has_row" yB
 m_columns:bA K C "columns" "View.columns" qT
 m_value_at:bA K C "value_at" "View.value_at" qC
 m_spots_at:bA K C "spots_at" "View.spots_at" rR
 m_many:bA K C "many" "View.many" mZ
 m_look:bA K C "look" "View.look" mX
 m_shown:bA K C "shown" "View.shown" jZ
 m_spots:bA K C "spots" "View.spots" mI
 m_asked_row:bA K C "asked_row" "View.asked_row" mO
structure cU(K:Fg)(mg:Str->Option Value)(C:Addr):Prop where
 c:mg "Board"=some (.ref C)
 cl:bX K C
 mks:PySem.W.makesIn K C=true
 kc:PySem.W.keepIn K (.ref C)=true
 hc:PySem.W.findIn K (.ref C) "__class__"=some (some (.builtin "object.__class__"))
 n_given:cE K C "given"
 n_rules:cE K C "rules"
 n_memory:cE K C "memory"
 n_order:cE K C "order"
 m_init:bA K C "__init__" "Board.__init__" wE
 m_has_column:bA K C "has_column" "Board.has_column" sC
 m_content:bA K C "content" "Board.content" tF
 m_set_column:bA K C "set_column" "Board.set_column" uS
 m_empty_column:bA K C "empty_column" "Board.empty_column" wH
 m_outcome:bA K C "outcome" "Board.outcome" oM
structure zP(K:Fg)(mg:Str->Option Value)(C:Addr):Prop where
 c:mg "TableTold"=some (.ref C)
 cl:bX K C
 mks:PySem.W.makesIn K C=true
 kc:PySem.W.keepIn K (.ref C)=true
 hc:PySem.W.findIn K (.ref C) "__class__"=some (some (.builtin "object.__class__"))
 n_boards:cE K C "boards"
 n_name:cE K C "name"
 n_size:cE K C "size"
 m_init:bA K C "__init__" "TableTold.__init__" xC
 m_take:bA K C "take" "TableTold.take" xI
structure pN(K:Fg)(mg:Str->Option Value)(C:Addr):Prop where
 c:mg "ColumnSet"=some (.ref C)
 cl:bX K C
 mks:PySem.W.makesIn K C=true
 kc:PySem.W.keepIn K (.ref C)=true
 hc:PySem.W.findIn K (.ref C) "__class__"=some (some (.builtin "object.__class__"))
 n_board:cE K C "board"
 n_column:cE K C "column"
 n_after:cE K C "after"
 n_before:cE K C "before"
 m_init:bA K C "__init__" "ColumnSet.__init__" rV
 m_take:bA K C "take" "ColumnSet.take" sJ
structure lG(K:Fg)(mg:Str->Option Value)(C:Addr):Prop where
 c:mg "Trial"=some (.ref C)
 cl:bX K C
 mks:PySem.W.makesIn K C=true
 kc:PySem.W.keepIn K (.ref C)=true
 hc:PySem.W.findIn K (.ref C) "__class__"=some (some (.builtin "object.__class__"))
 n_finder:cE K C "finder"
 n_looked:cE K C "looked"
 n_lacking:cE K C "lacking"
 m_init:bA K C "__init__" "Trial.__init__" yK
 m_look:bA K C "look" "Trial.look" xB
structure eM(K:Fg)(mg:Str->Option Value)(C:Addr):Prop where
 c:mg "Finder"=some (.ref C)
 cl:bX K C
 mks:PySem.W.makesIn K C=true
 kc:PySem.W.keepIn K (.ref C)=true
 hc:PySem.W.findIn K (.ref C) "__class__"=some (some (.builtin "object.__class__"))
 n_boards:cE K C "boards"
 n_found:cE K C "found"
 n_looked:cE K C "looked"
 m_init:bA K C "__init__" "Finder.__init__" uZ
 m_value_of:bA K C "value_of" "Finder.value_of" wT
 m_attempt:bA K C "attempt" "Finder.attempt" lK
 m_gathered:bA K C "gathered" "Finder.gathered" eY
 m_settle:bA K C "settle" "Finder.settle" yA
 m_knows:bA K C "knows" "Finder.knows" yO
structure eZ(K:Fg)(mg:Str->Option Value)(C:Addr):Prop where
 c:mg "Sheet"=some (.ref C)
 cl:bX K C
 mks:PySem.W.makesIn K C=true
 kc:PySem.W.keepIn K (.ref C)=true
 hc:PySem.W.findIn K (.ref C) "__class__"=some (some (.builtin "object.__class__"))
 n_boards:cE K C "boards"
 n_changes:cE K C "changes"
 n_finder:cE K C "finder"
 m_init:bA K C "__init__" "Sheet.__init__" vI
 m_table:bA K C "table" "Sheet.table" sN
 m_give:bA K C "give" "Sheet.give" wF
 m_rule:bA K C "rule" "Sheet.rule" yD
 m_tables:bA K C "tables" "Sheet.tables" a0O
 m_columns:bA K C "columns" "Sheet.columns" vR
 m_many:bA K C "many" "Sheet.many" tQ
 m_cell:bA K C "cell" "Sheet.cell" yN
 m_stretch:bA K C "stretch" "Sheet.stretch" mW
 m_make:bA K C "make" "Sheet.make" vF
 m_board_of:bA K C "board_of" "Sheet.board_of" vB
 m_board_with:bA K C "board_with" "Sheet.board_with" tV
 m_board_for:bA K C "board_for" "Sheet.board_for" wM
 m_check_cell:bA K C "check_cell" "Sheet.check_cell" sY
 m_check_leans:bA K C "check_leans" "Sheet.check_leans" xJ
 m_check_ring:bA K C "check_ring" "Sheet.check_ring" uH
structure aZ(K:Fg)(mg:Str->Option Value):Prop where
 len:mg "len"=none
 isinstance:mg "isinstance"=none
 int:mg "int"=none
 bool:mg "bool"=none
 str:mg "str"=none
 all:mg "all"=none
 range:mg "range"=none
 abs:mg "abs"=none
 list:mg "list"=none
 tuple:mg "tuple"=none
 max:mg "max"=none
 reversed:mg "reversed"=none
 ValueError:mg "ValueError"=none
 g_LETTERS:∃t,mg "LETTERS"=some (.str ("abcdefghijklmnopqrstuvwxyz":Str) t)
 g_MOST_LETTERS:∃t,mg "MOST_LETTERS"=some (.int 8 t)
 g_ODD:∃p,mg "ODD"=some (.ref p)/\∀H,bU K H p [V.str ("fault":Str),V.str ("odd":Str)]
 g_MOST_NAMES:∃t,mg "MOST_NAMES"=some (.int 6 t)
 g_MOST_ROWS:∃t,mg "MOST_ROWS"=some (.int 30 t)
 g_MOST_COLUMNS:∃t,mg "MOST_COLUMNS"=some (.int 8 t)
 g_MOST_TABLES:∃t,mg "MOST_TABLES"=some (.int 4 t)
 g_UNKNOWN:∃p,mg "UNKNOWN"=some (.ref p)/\∀H,bU K H p [V.str ("fault":Str),V.str ("unknown":Str)]
 d_is_whole:dU K mg "is_whole" wK
 d_is_number:dU K mg "is_number" rW
 d_is_name:dU K mg "is_name" vQ
 d_is_fault:dU K mg "is_fault" xS
 d_is_value:dU K mg "is_value" tS
 d_settled:dU K mg "settled" vK
 d_check_name:dU K mg "check_name" uG
 d_checked_names:dU K mg "checked_names" xO
 d_each_once:dU K mg "each_once" tW
 d_look_in_turn:dU K mg "look_in_turn" tT
 d_check_size:dU K mg "check_size" rY
 d_check_place:dU K mg "check_place" tJ
 d_check_values:dU K mg "check_values" yF
 d_check_column:dU K mg "check_column" tP
 d_ring_from:dU K mg "ring_from" xV
 d_way_to:dU K mg "way_to" uJ
 d_law_cell_at:dU K mg "_law_cell_at" uN
 d_law_value:dU K mg "_law_value" uU
 d_law_names:dU K mg "_law_names" sQ
 d_law_same_value:dU K mg "_law_same_value" uP
 d_law_less:dU K mg "_law_less" wJ
 d_law_columns:dU K mg "_law_columns" uY
 d_law_checked:dU K mg "_law_checked" uI
 d_law:dU K mg "law" iA
 notabs:PySem.W.noTabs K=true
 t_Rule:∃C,a0I K mg C
 t_Cells:∃C,kY K mg C
 t_Table:∃C,dO K mg C
 t_Spot:∃C,rF K mg C
 t_View:∃C,b4y K mg C
 t_Whole:∃C,rQ K mg C
 t_Some:∃C,qP K mg C
 t_Board:∃C,cU K mg C
 t_TableTold:∃C,zP K mg C
 t_ColumnSet:∃C,pN K mg C
 t_Trial:∃C,lG K mg C
 t_Finder:∃C,eM K mg C
 t_Sheet:∃C,eZ K mg C
structure Tbs(h:Heap)(K:Fg)(mg:Str->Option Value):Prop where
 bs:∃z_law z_Finder_gathered:Addr×Addr,DefT K mg "law" iA z_law/\jR K mg "Finder" "gathered" "Finder.gathered" eY z_Finder_gathered/\z_law.2≠z_Finder_gathered.2/\h.get? z_Finder_gathered.2=some (PySem.W.tabObj #[])
abbrev jT:Str:= "abcdefghijklmnopqrstuvwxyz"
def qL(c:Nat):Bool:= !(Builtin.Str.occurrences jT ⟨#[c]⟩ 0 jT.length 1).isEmpty
def lM(t:Str):Bool:=decide ((1:Int)<=t.length)&&decide ((t.length:Int)<=8)&&t.cps.toList.all qL
noncomputable def oV:PyData->Bool
 | .int _=>true
 |_=>false
def fM:PyData->Bool
 | .int i=>decide ((if i<0 then-i else i)<10^ (60:Int).toNat)
 |_=>false
def fI:PyData->Bool
 | .str t=>lM t
 |_=>false
def hV:PyData->Bool
 | .tuple [.str z,d]=>decide (z= "fault")&&fI d
 |_=>false
def jM(d:PyData):Bool:=fM d||hV d
def zH(d:PyData):Prop:=∀t,d= .str t->t.length<=1000
def lY(d:PyData):Prop:=∀ds,d= .tuple ds->∀e∈ds,zH e
theorem lO{t:Str}(h:t.length<=1000):zH (.str t):=fun z e=>by cases e;exact h
theorem b12{d:PyData}(h:iB d≠ .tup):lY d:=fun z e=>by subst e;exact absurd rfl h
theorem b8a{ds:List PyData}(h:∀e∈ds,zH e):lY (.tuple ds):=fun z e=>by cases e;exact h
section
variable{P:Program}{w:World}{K:Fg}{mg:Str->Option Value}{base:Heap}
def tM(K:Fg):Sp:=fun vs H Q _=>∃x d,vs= [x] /\Dt K H x d/\Q (.bl (oV d)) H
theorem b9o:aY ["thing"] ["thing"] (aF wK):=⟨rfl,rfl,rfl,by decide+kernel,rfl,by decide+kernel,by decide+kernel⟩
theorem mV(T:aZ K mg):bK P w K mg base aB 1 "is_whole" ["thing"] (tM K):=by
 refine T.d_is_whole.known b9o (fun _ _ _ _ _ _ us hl=>dM (fun _=>rfl) us hl) (fun vs H Q E h=> ?_) (fun f cdv A outer s H vs Q E hr h=> ?_)
 ·obtain⟨x,a,rfl,_⟩:=h
  rfl
 ·obtain⟨x,d,rfl,hd,q⟩:=h
  refine⟨_,(aI (bE (kE (cD fS rfl T.isinstance fH (aA (pv 0) (aA (fC T.int zJ) aE))) (mC (a9r (cD fS rfl T.isinstance fH (aA (pv 0) (aA (fC T.bool a3c) aE)))))))),?_⟩
  refine⟨_,rfl,x,"int",d,_,rfl,hd,a5Y K _,_,rfl,?_⟩
  refine dN (fun h1=> ?_) (fun h1=> ?_)
  ·refine⟨_,rfl,x,"bool",d,_,rfl,hd,a1q K _,_,rfl,?_⟩
   have e:(!decide (iB d=Kd.bl))=oV d:=by cases d<;>simp[iB,oV]at h1|-
   show Q (.bl (!decide (iB d=Kd.bl))) H
   rw[e]
   exact q
  ·have e:false=oV d:=by cases d<;>simp[iB,oV]at h1|-
   show Q (.bl false) H
   rw[e]
   exact q
def lN(K:Fg):Sp:=fun vs H Q _=>∃x d,vs= [x] /\Dt K H x d/\zH d/\∀H',aG H H'->Q (.bl (fI d)) H'
theorem b5x:aY ["thing"] ["thing"] (aF vQ):=⟨rfl,rfl,rfl,by decide+kernel,rfl,by decide+kernel,by decide+kernel⟩
theorem jL(T:aZ K mg):bK P w K mg base aB 1 "is_name" ["thing"] (lN K):=by
 refine T.d_is_name.known b5x (fun _ _ _ _ _ _ us hl=>dM (fun _=>rfl) us hl) (fun vs H Q E h=> ?_) (fun f cdv A outer s H vs Q E hr h=> ?_)
 ·obtain⟨x,a,rfl,_⟩:=h
  rfl
 ·obtain⟨x,d,rfl,hd,hsh,q⟩:=h
  refine⟨_,(aJ (bN (PW.pt (fP (dC (cH (cD fS rfl T.isinstance fH (aA (pv 0) (aA (fC T.str a3k) aE))) (fun _=>rfl))) (gP (dC (a2S nM nM aW (cD fX rfl T.len fJ (aA (pv 0) aE)) (rE T.g_MOST_LETTERS)))))) (aI (bE iD)) bO)
   (aI (bE (cD (b2s rfl) rfl T.all b3f (aA (lC oT rfl rfl (by decide) (b7b (pv 0)) (fun _ _ _ _ _=>kK) (fun _ _ _ _ _=>(mD b45 (pv 0) (b7T T.g_LETTERS) (by with_unfolding_all rfl)))) aE))))),?_⟩
  refine⟨_,rfl,x,"str",d,_,rfl,hd,a9n K _,_,rfl,?_⟩
  by_cases hk:iB d= .str
  ·obtain⟨t,rfl⟩:∃t,d= .str t:=by cases d<;>simp[iB]at hk|-
   cases hd
   have ht:t.length<=1000:=hsh t rfl
   refine bJ ?_
   refine⟨_,rfl,_,_,rfl,⟨sl ht,rfl⟩,_,_,rfl,rfl,_,rfl,?_⟩
   refine dN (fun h1=> ?_) (fun h1=> ?_)
   ·refine⟨_,_,rfl,rfl,_,rfl,?_⟩
    refine dN (fun h2=> ?_) (fun h2=> ?_)
    ·have e:fI (.str t)=false:=by
      show lM t=false
      unfold lM
      have:decide ((t.length:Int)<=8)=false:=by simpa using h2
      rw[this,Bool.and_false,Bool.false_and]
     rw[<- e]
     exact q H (aG.refl H)
    ·have h8:t.cps.size<=8:=by
      have:(t.length:Int)<=8:=by simpa using h2
      show t.length<=8
      omega
     refine⟨_,rfl,t,rfl,fun D hD=> ?_⟩
     refine b5q (x:=t) (fun i ys H2=>ys=(t.cps.toList.take i).map (fun c=>V.bl (qL c))/\aG H H2) ⟨rfl,aG.new hD⟩ ?_ ?_
     ·rintro i c ys H2 hc h2D ⟨rfl,s2⟩
      have hi:i<t.cps.size:=(Array.getElem?_eq_some_iff.mp hc).1
      refine⟨_,rfl,_,_,rfl,rfl,h2D,?_,?_,s2.on hD⟩
      ·rw[List.length_map,List.length_take,Array.length_toList]
       exact cQ (by omega)
      ·rw[List.take_add_one,List.map_append,Array.getElem?_toList,hc]
       rfl
     ·rintro ys H2 h2D ⟨rfl,s2⟩
      refine⟨D,t.cps.toList.map qL,rfl,aL.of ?_,?_⟩
      ·rw[h2D,List.take_of_length_le (by simp),List.map_map]
       rfl
      ·have e:fI (.str t)=(t.cps.toList.map qL).all id:=by
        show lM t=_
        unfold lM
        have e1:decide ((1:Int)<=t.length)=true:=h1
        have e2:decide ((t.length:Int)<=8)=true:=by simpa using h2
        rw[e1,e2,Bool.true_and,Bool.true_and,List.all_map]
        rfl
       rw[<- e]
       exact q H2 s2
   ·refine⟨_,rfl,?_⟩
    refine cG ?_
    have e:fI (.str t)=false:=by
     show lM t=false
     unfold lM
     have:decide ((1:Int)<=t.length)=false:=by simpa using h1
     rw[this,Bool.false_and,Bool.false_and]
    rw[<- e]
    exact q H (aG.refl H)
  ·rw[decide_eq_false hk]
   refine cG (cG ?_)
   have e:fI d=false:=by cases d<;>simp[iB]at hk<;>rfl
   rw[<- e]
   exact q H (aG.refl H)
def b2Z(K:Fg):Sp:=fun vs H Q _=>∃x d,vs= [x] /\Dt K H x d/\Q (.bl (fM d)) H
theorem b46:aY ["thing"] ["thing"] (aF rW):=⟨rfl,rfl,rfl,by decide+kernel,rfl,by decide+kernel,by decide+kernel⟩
theorem xA(T:aZ K mg):bK P w K mg base aB 2 "is_number" ["thing"] (b2Z K):=by
 have G_is_whole:bK P w K mg base aB 1 "is_whole" ["thing"] (tM K):=mV T
 refine T.d_is_number.known b46 (fun _ _ _ _ _ _ us hl=>dM (fun _=>rfl) us hl) (fun vs H Q E h=> ?_) (fun f cdv A outer s H vs Q E hr h=> ?_)
 ·obtain⟨x,a,rfl,_⟩:=h
  rfl
 ·obtain⟨x,d,rfl,hd,q⟩:=h
  refine⟨_,(aI (bE (kE (bR G_is_whole (hr.mono (by decide)) aM (aA (pv 0) aE)) (mC (mD a0s (cD b4q rfl T.abs b84 (aA (pv 0) aE)) (bQ uC aW aW) (cO _)))))),?_⟩
  refine⟨_,rfl,x,d,rfl,hd,_,rfl,?_⟩
  refine dN (fun h1=> ?_) (fun h1=> ?_)
  ·obtain⟨i,rfl⟩:∃i,d= .int i:=by cases d<;>simp[oV]at h1|-
   cases hd
   exact⟨_,rfl,i,rfl,_,_,rfl,rfl,⟨by decide,by decide,by decide⟩,_,_,rfl,rfl,q⟩
  ·have e:fM d=false:=by cases d<;>simp[oV]at h1<;>rfl
   show Q (.bl false) H
   rw[<- e]
   exact q
def zF(K:Fg):Sp:=fun vs H Q _=>∃x d,vs= [x] /\Dt K H x d/\lY d/\∀H',aG H H'->Q (.bl (hV d)) H'
theorem b6V:aY ["thing"] ["thing"] (aF xS):=⟨rfl,rfl,rfl,by decide+kernel,rfl,by decide+kernel,by decide+kernel⟩
theorem b93{ds:List PyData}(h:ds.length≠2):hV (.tuple ds)=false:=by
 match ds,h with
 | [],_=>rfl
 | [a],_=>cases a<;>rfl
 | [a,b],h=>exact absurd rfl h
 |a::b::c::r,_=>cases a<;>rfl
theorem oA(T:aZ K mg):bK P w K mg base aB 2 "is_fault" ["thing"] (zF K):=by
 have G_is_name:bK P w K mg base aB 1 "is_name" ["thing"] (lN K):=jL T
 refine T.d_is_fault.known b6V (fun _ _ _ _ _ _ us hl=>dM (fun _=>rfl) us hl) (fun vs H Q E h=> ?_) (fun f cdv A outer s H vs Q E hr h=> ?_)
 ·obtain⟨x,a,rfl,_⟩:=h
  rfl
 ·obtain⟨x,d,rfl,hd,hsh,q⟩:=h
  refine⟨_,(aJ (bN (PW.pt (fP (dC (cH (cD fS rfl T.isinstance fH (aA (pv 0) (aA (fC T.tuple vO) aE))) (fun _=>rfl))) (gP (cJ qM (cD fX rfl T.len fJ (aA (pv 0) aE)) aW (cO _))))) (aI (bE iD)) bO)
   (aI (bE (kE (cD fS rfl T.isinstance fH (aA (bP eW (pv 0) aW (fun _ _=>rfl)) (aA (fC T.str a3k) aE))) (kE (mD lW (bP eW (pv 0) aW (fun _ _=>rfl)) hU (cO _)) (mC (bR G_is_name (hr.mono (by decide)) aM (aA (bP eW (pv 0) aW (fun _ _=>rfl)) aE)))))))),?_⟩
  refine⟨_,rfl,x,"tuple",d,_,rfl,hd,tY K _,_,rfl,?_⟩
  by_cases hk:iB d= .tup
  ·obtain⟨ds,rfl⟩:∃ds,d= .tuple ds:=by cases d<;>simp[iB]at hk|-
   cases hd with
   | @tup a xs _ hq hall=>
    refine bJ ?_
    refine⟨_,rfl,_,_,rfl,.inr ⟨_,hq,rfl⟩,rfl,_,rfl,?_⟩
    have hl:=hall.length
    refine dN (fun h1=> ?_) (fun h1=> ?_)
    ·have h1':xs.length≠2:=by
      intro z
      rw[z]at h1
      exact absurd h1 (by decide)
     have e:=b93 (ds:=ds) (by rw[<- hl];exact h1')
     rw[<- e]
     exact q H (aG.refl H)
    ·have h1':xs.length=2:=by
      have z:¬(!decide (V.int (xs.length:Int)=V.int 2))=true:=h1
      have z2:(xs.length:Int)=2:=by simpa using z
      omega
     match xs,ds,hall,h1',hl with
     | [y,z],_,.cons (d:=d1) h2 (.cons (d:=d2) h3 .nil),_,_=>
      have a0:bY [y,z] 0=some y:=rfl
      have a1:bY [y,z] 1=some z:=rfl
      refine⟨_,rfl,_,_,_,_,rfl,rfl,hq,a0,y,"str",d1,_,rfl,h2,a9n K _,_,rfl,?_⟩
      refine dN (fun h4=> ?_) (fun h4=> ?_)
      ·obtain⟨t,rfl⟩:∃t,d1= .str t:=by cases d1<;>simp[iB]at h4|-
       cases h2
       refine⟨_,rfl,_,_,_,_,rfl,rfl,hq,a0,rfl,_,rfl,?_⟩
       refine dN (fun h5=> ?_) (fun h5=> ?_)
       ·have h5':t= "fault":=by
         have z5:V.str t=V.str "fault":=by simpa using h5
         exact V.str.inj z5
        refine⟨_,rfl,_,_,_,_,rfl,rfl,hq,a1,z,d2,rfl,h3,hsh _ rfl _ (List.mem_cons_of_mem _ List.mem_cons_self),fun H' s'=> ?_⟩
        ·have e:hV (.tuple [.str t,d2])=fI d2:=by
          show(decide (t= "fault")&&fI d2)=fI d2
          rw[decide_eq_true h5',Bool.true_and]
         rw[<- e]
         exact q H' s'
       ·have h5':t≠ "fault":=fun z5=>h5 (by rw[z5];rfl)
        have e:hV (.tuple [.str t,d2])=false:=by
         show(decide (t= "fault")&&fI d2)=false
         rw[decide_eq_false h5',Bool.false_and]
        show Q (.bl false) H
        rw[<- e]
        exact q H (aG.refl H)
      ·have e:hV (.tuple [d1,d2])=false:=by cases d1<;>simp[iB]at h4<;>rfl
       show Q (.bl false) H
       rw[<- e]
       exact q H (aG.refl H)
  ·rw[decide_eq_false hk]
   refine cG (cG ?_)
   have e:hV d=false:=by cases d<;>simp[iB]at hk<;>rfl
   rw[<- e]
   exact q H (aG.refl H)
def a2t(K:Fg):Sp:=fun vs H Q _=>∃x d,vs= [x] /\Dt K H x d/\lY d/\∀H',aG H H'->Q (.bl (jM d)) H'
theorem b66:aY ["thing"] ["thing"] (aF tS):=⟨rfl,rfl,rfl,by decide+kernel,rfl,by decide+kernel,by decide+kernel⟩
theorem rG(T:aZ K mg):bK P w K mg base aB 3 "is_value" ["thing"] (a2t K):=by
 have G_is_number:bK P w K mg base aB 2 "is_number" ["thing"] (b2Z K):=xA T
 have G_is_fault:bK P w K mg base aB 2 "is_fault" ["thing"] (zF K):=oA T
 refine T.d_is_value.known b66 (fun _ _ _ _ _ _ us hl=>dM (fun _=>rfl) us hl) (fun vs H Q E h=> ?_) (fun f cdv A outer s H vs Q E hr h=> ?_)
 ·obtain⟨x,a,rfl,_⟩:=h
  rfl
 ·obtain⟨x,d,rfl,hd,hsh,q⟩:=h
  refine⟨_,(aI (bE (b8c (bR G_is_number (hr.mono (by decide)) aM (aA (pv 0) aE)) (mC (bR G_is_fault (hr.mono (by decide)) aM (aA (pv 0) aE)))))),?_⟩
  refine⟨_,rfl,x,d,rfl,hd,_,rfl,?_⟩
  refine dN (fun h1=> ?_) (fun h1=> ?_)
  ·have e:jM d=true:=by unfold jM;rw[h1,Bool.true_or]
   show Q (.bl true) H
   rw[<- e]
   exact q H (aG.refl H)
  ·refine⟨_,rfl,x,d,rfl,hd,hsh,fun H' s'=> ?_⟩
   have e:jM d=hV d:=by
    unfold jM
    have:fM d=false:=by simpa using h1
    rw[this,Bool.false_or]
   rw[<- e]
   exact q H' s'
end
def Nl(t:Str):Prop:=1<=t.length/\t.length<=8/\∀c∈t.cps.toList,c∈jT.cps.toList
theorem Nl.name{t:Str}(h:Nl t):lM t=true:=by
 unfold lM
 have a1:decide ((1:Int)<=t.length)=true:=by rw[decide_eq_true_eq];have:=h.1;omega
 have a2:decide ((t.length:Int)<=8)=true:=by rw[decide_eq_true_eq];have:=h.2.1;omega
 have a3:t.cps.toList.all qL=true:=by
  rw[List.all_eq_true]
  intro c hc
  have:∀c∈jT.cps.toList,qL c=true:=by decide+kernel
  exact this c (h.2.2 c hc)
 rw[a1,a2,a3]
 rfl
theorem Nl.lay{z:Str}(h:Nl z):PyData.canLay0 (.str z)=true:=by
 obtain⟨⟨l⟩⟩:=z
 have:∀c∈jT.cps.toList,c<128:=by decide+kernel
 exact b4A fun c hc=>this c (h.2.2 c hc)
theorem a0j{p:Str×Str}(h1:Nl p.1)(h2:Nl p.2):(fO p).canLay0=true:=by
 show PyData.canLayAll0 [.str p.1,.str p.2]=true
 show(PyData.canLay0 (.str p.1)&&(PyData.canLay0 (.str p.2)&&true))=true
 rw[h1.lay,h2.lay]
 rfl
def b1X(K:Fg)(H:Hp)(xs:List V)(ps:List (Str×Str)):Prop:=cS K H xs (ps.map fO)/\∀p∈ps,Nl p.1/\Nl p.2
theorem a9Z:∀{ps:List (Str×Str)},(∀p∈ps,Nl p.1/\Nl p.2)->(PyData.list (ps.map fO)).canLay0=true
 | [],_=>rfl
 |p::ps,h=>by
  show((fO p).canLay0&&PyData.canLayAll0 (ps.map fO))=true
  have e:PyData.canLayAll0 (ps.map fO)=true:=a9Z fun q hq=>h q (List.mem_cons_of_mem _ hq)
  rw[e,a0j (h p List.mem_cons_self).1 (h p List.mem_cons_self).2]
  rfl
theorem cS.snoc{K:Fg}{H:Hp}:∀{xs:List V} {ds:List PyData} {x:V} {d:PyData},cS K H xs ds->Dt K H x d->cS K H (xs++ [x]) (ds++ [d])
 |_,_,_,_,.nil,h=> .cons h .nil
 |_,_,_,_,.cons h t,q=> .cons h (cS.snoc t q)
section
variable{P:Program}{w:World}{K:Fg}{mg:Str->Option Value}{base:Heap}
def b3U:Sp:=fun vs H Q _=>∃z:Str,vs= [.str z] /\Nl z/\∀H',aG H H'->Q .non H'
theorem b5g:aY ["name"] ["name"] (aF uG):=⟨rfl,rfl,rfl,by decide+kernel,rfl,by decide+kernel,by decide+kernel⟩
theorem uE(T:aZ K mg):bK P w K mg base aB 2 "check_name" ["name"] b3U:=by
 have G_is_name:bK P w K mg base aB 1 "is_name" ["thing"] (lN K):=jL T
 refine T.d_check_name.known b5g (fun _ _ _ _ _ _ us hl=>dM (fun _=>rfl) us hl) (fun vs H Q E h=> ?_) (fun f cdv A outer s H vs Q E hr h=> ?_)
 ·obtain⟨z,rfl,_⟩:=h
  rfl
 ·obtain⟨z,rfl,hz,q⟩:=h
  refine⟨_,(aI (bN (dC (cH (bR G_is_name (hr.mono (by decide)) aM (aA (pv 0) aE)) (fun _=>rfl))) (aI cF) bO)),?_⟩
  have h8:=hz.2.1
  refine⟨_,rfl,_,_,rfl,.str z,lO (by omega),fun H' s'=>⟨_,rfl,?_⟩⟩
  rw[show fI (.str z)=true from hz.name]
  exact bJ (q H' s')
def b29(K:Fg):Sp:=fun vs H Q _=>∃(a:Addr) (zs:List Str),vs= [.ref a] /\aL K H a (zs.map V.str)/\zs.length<=6/\(∀z∈zs,Nl z)/\∀H' l,aG H H'->H l=none->H' l=some (.lst (zs.map V.str))->Q (.ref l) H'
theorem mG{K:Fg}{H:Hp}:∀zs:List Str,cS K H (zs.map V.str) (zs.map PyData.str)
 | []=> .nil
 |z::zs=> .cons (.str z) (mG zs)
theorem b1o:aY ["names","name"] ["names"] (aF xO):=⟨rfl,rfl,rfl,by decide+kernel,rfl,by decide+kernel,by decide+kernel⟩
theorem vS(T:aZ K mg):bK P w K mg base aB 3 "checked_names" ["names"] (b29 K):=by
 have G_check_name:bK P w K mg base aB 2 "check_name" ["name"] b3U:=uE T
 refine T.d_checked_names.known b1o (fun _ _ _ _ _ _ us hl=>dM (fun _=>rfl) us hl) (fun vs H Q E h=> ?_) (fun f cdv A outer s H vs Q E hr h=> ?_)
 ·obtain⟨a,zs,rfl,_⟩:=h
  rfl
 ·obtain⟨a,zs,rfl,hq,h6,hz,q⟩:=h
  refine⟨_,(aJ (bN (PW.pt (fP (dC (cH (cD fS rfl T.isinstance fH (aA (pv 0) (aA (fC T.list iR) aE))) (fun _=>rfl))) (gP (cJ b6W (cD fX rfl T.len fJ (aA (pv 0) aE)) (rE T.g_MOST_NAMES) (cO _))))) (aI cF) bO)
   (aJ (gW PassesOwn.never rfl (fL (pv 0)) (dL (i:=1) b1o.nd rfl (Or.inl rfl)) (aI (bZ (bR G_check_name (hr.mono (by decide)) aM (aA (pv 1) aE)))))
   (aI (bE (kP xN rfl T.list iR (aA (pv 0) aE)))))),?_⟩
  refine⟨_,rfl,_,"list",_,_,rfl,Dt.lst hq (mG zs),wN K _,_,rfl,bJ ?_⟩
  refine⟨_,rfl,_,_,rfl,.inl ⟨_,hq,rfl⟩,_,_,rfl,rfl,_,rfl,?_⟩
  rw[List.length_map,decide_eq_false (by omega)]
  refine bJ ?_
  refine⟨_,rfl,a,rfl,⟨_,hq⟩,?_⟩
  refine kM (K:=K) (a:=a) (xs:=zs.map V.str) (fun i σ H2=>∃o,σ= [some (.ref a),o] /\aG H H2) ⟨_,rfl,aG.refl H⟩ (fun i σ H2 _ ⟨_,_,s2⟩=>s2.seq hq) ?_ ?_
  ·rintro i x σ H2 hx ⟨o,rfl,s2⟩
   rw[List.getElem?_map]at hx
   cases e:zs[i]? with
   |none=>rw[e]at hx;cases hx
   |some z=>
    rw[e]at hx
    cases hx
    exact⟨_,rfl,z,rfl,hz z (List.mem_of_getElem? e),fun H3 s3=>⟨_,rfl,s2.trans s3⟩⟩
  ·rintro σ H2 ⟨o,rfl,s2⟩
   refine⟨_,rfl,a,_,rfl,.inl (s2.seq hq),fun l hl=> ?_⟩
   have hl':H l=none:=by
    cases e:H l with
    |none=>rfl
    |some u=>rw[s2 _ _ e]at hl;cases hl
   exact q _ l (s2.trans (aG.new hl)) hl' aK
def b80(K:Fg):Sp:=fun vs H Q _=>∃(a:Addr) (xs:List V) (ps:List (Str×Str)),vs= [.ref a] /\aL K H a xs/\b1X K H xs ps/\ps.length<=100/\
 ∀H' l ys,aG H H'->H l=none->H' l=some (.lst ys)->b1X K H' ys (dH ps)->Q (.ref l) H'
theorem rD:aY ["spots","found","spot"] ["spots"] (aF tW):=⟨rfl,rfl,rfl,by decide+kernel,rfl,by decide+kernel,by decide+kernel⟩
theorem a0S(T:aZ K mg):bK P w K mg base aB 2 "each_once" ["spots"] (b80 K):=by
 refine T.d_each_once.known rD (fun _ _ _ _ _ _ us hl=>dM (fun _=>rfl) us hl) (fun vs H Q E h=> ?_) (fun f cdv A outer s H vs Q E hr h=> ?_)
 ·obtain⟨a,xs,ps,rfl,_⟩:=h
  rfl
 ·obtain⟨a,xs,ps,rfl,hq,hsp,h100,q⟩:=h
  refine⟨_,(aJ (bV (i:=1) rD.nd rfl (Or.inl rfl) (gH aE))
   (aJ (gW PassesOwn.never rfl (fL (pv 0)) (dL (i:=2) rD.nd rfl (Or.inl rfl)) (aI (bN (cJ (b25 hr.units) (pv 2) (pv 1) (by with_unfolding_all rfl)) (aI (bZ (iJ PySem.F.plainAttrs_list PySem.F.slot_list_append PySem.F.type_list_append gT (pv 1) (aA (pv 2) aE)))) bO)))
   (aI (bE (pv 1))))),?_⟩
  have hlx:xs.length=ps.length:=by rw[hsp.1.length,List.length_map]
  refine⟨sl,fun l hl=> ?_⟩
  refine⟨_,rfl,a,rfl,⟨_,(aG.new hl).seq hq⟩,?_⟩
  refine kM (K:=K) (a:=a) (xs:=xs) (fun i σ H2=>∃o ys,σ= [some (.ref a),some (.ref l),o] /\aG H H2/\H2 l=some (.lst ys)/\cS K H ys ((dH (ps.take i)).map fO)) ⟨_,[],rfl,aG.new hl,aK,.nil⟩ (fun i σ H2 _ ⟨_,_,_,s2,_⟩=>s2.seq hq) ?_ ?_
  ·rintro i x σ H2 hx ⟨o,ys,rfl,s2,h2,hd⟩
   obtain⟨d,hd1,hd2⟩:=hsp.1.get hx
   rw[List.getElem?_map]at hd1
   cases e:ps[i]? with
   |none=>rw[e]at hd1;cases hd1
   |some p=>
    rw[e]at hd1
    cases hd1
    have hp:=List.mem_of_getElem? e
    have hle:((dH (ps.take i)).map fO).length=ys.length:=hd.length.symm
    rw[List.length_map]at hle
    have hyl:ys.length<=100:=by
     have h3:=b0E (ps.take i)
     rw[List.length_take]at h3
     omega
    have lay2:(PyData.list ((dH (ps.take i)).map fO)).canLay0=true:=a9Z fun p' hp'=>hsp.2 p' (List.mem_of_mem_take (zW hp'))
    have et:dH (ps.take (i+ 1))=if p∈dH (ps.take i) then dH (ps.take i) else dH (ps.take i)++ [p]:=by
     rw[List.take_add_one,e]
     exact b1g _ _
    refine⟨_,rfl,_,rfl,fO p,_,hd2.same s2,Dt.lst (aL.of h2) (cS.same s2 hd),a0j (hsp.2 p hp).1 (hsp.2 p hp).2,lay2,(show max 0 (max 0 0)+ 1<=62 by decide),_,rfl,?_⟩
    rw[a6Q]
    by_cases hm:p∈dH (ps.take i)
    ·rw[decide_eq_true hm]
     rw[if_pos hm]at et
     exact bJ ⟨_,ys,rfl,s2,h2,by rw[et];exact hd⟩
    ·rw[decide_eq_false hm]
     rw[if_neg hm]at et
     refine cG ?_
     refine⟨_,rfl,.inl ⟨rfl,_,aL.of h2⟩,_,rfl,l,_,_,rfl,rfl,h2,cQ (by omega),?_⟩
     have s3:aG H (upd H2 l (.lst (ys++ [x]))):=s2.on hl
     refine⟨_,ys++ [x],rfl,s3,aK,?_⟩
     rw[et,List.map_append]
     exact cS.snoc hd hd2
  ·rintro σ H2 ⟨o,ys,rfl,s2,h2,hd⟩
   refine⟨_,rfl,q H2 l ys s2 hl h2 ⟨?_,fun p hp=>hsp.2 p (zW hp)⟩⟩
   rw[hlx,List.take_length]at hd
   exact cS.same s2 hd
end
def qZ(r:Addr)(n:Int)(d:Addr):List (Str×V):=[("row_numbers",V.ref r),("fresh_number",V.int n),("kept",V.ref d)]
theorem b3c(r:Addr)(n:Int)(d:Addr):(qZ r n d).lookup ("row_numbers":Str)=some (.ref r):=rfl
theorem flds_fresh(r:Addr)(n:Int)(d:Addr):(qZ r n d).lookup ("fresh_number":Str)=some (.int n):=by
 show(match (("fresh_number":Str)==("row_numbers":Str))with|true=>some (V.ref r)|false=>_)=_
 rw[show (("fresh_number":Str)==("row_numbers":Str))=false by decide+kernel]
 rfl
theorem wR(r:Addr)(n:Int)(d:Addr):(qZ r n d).lookup ("kept":Str)=some (.ref d):=by
 show(match (("kept":Str)==("row_numbers":Str))with|true=>some (V.ref r)|false=>(match (("kept":Str)==("fresh_number":Str))with|true=>some (V.int n)|false=>_))=_
 rw[show (("kept":Str)==("row_numbers":Str))=false by decide+kernel,show(("kept":Str)==("fresh_number":Str))=false by decide+kernel]
 rfl
theorem jJ{r:Addr}{n:Int}{d:Addr}{m:Str}(h:(m==("row_numbers":Str)||m==("fresh_number":Str)||m==("kept":Str))=false:=by decide+kernel):(qZ r n d).lookup m=none:=by
 simp only[Bool.or_eq_false_iff]at h
 obtain⟨⟨h1,h2⟩,h3⟩:=h
 show(match (m==("row_numbers":Str))with|true=>some (V.ref r)|false=>(match (m==("fresh_number":Str))with|true=>some (V.int n)|false=>(match (m==("kept":Str))with|true=>some (V.ref d)|false=>none)))=none
 rw[h1,h2,h3]
theorem b7a(r:Addr)(n:Int)(d:Addr):aQ "kept" (.ref d) (aQ "fresh_number" (.int n) (aQ "row_numbers" (.ref r) []))=qZ r n d:=by
 show aQ "kept" (.ref d) (if("row_numbers":Str)= "fresh_number" then _ else _)=_
 rw[if_neg (by decide+kernel)]
 show(if("row_numbers":Str)= "kept" then _ else _::(if("fresh_number":Str)= "kept" then _ else _))=_
 rw[if_neg (by decide+kernel),if_neg (by decide+kernel)]
 rfl
structure kH(C:Addr)(H:Hp)(p r d:Addr)(xs:List V)(n:Int)(kvs:List (aC×V)):Prop where
 at_:∃dx,H p=some (.ins C dx (qZ r n d))
 rows:H r=some (.lst xs)
 kept:H d=some (.dK kvs)
theorem kH.same{C:Addr}{H H':Hp}{p r d:Addr}{xs:List V}{n:Int}{kvs:List (aC×V)}(T:kH C H p r d xs n kvs)(s:aG H H'):kH C H' p r d xs n kvs:=by
 obtain⟨dx,h⟩:=T.at_
 exact⟨⟨dx,s _ _ h⟩,s _ _ T.rows,s _ _ T.kept⟩
def Pv(K:Fg)(H:Hp)(v:V)(d:PyData):Prop:=(∃i,v= .int i/\d= .int i/\fM (.int i)=true)\/ ∃a y,v= .ref a/\H a=some (.tup [.str ("fault":Str),.str y])/\d= .tuple [.str "fault",.str y] /\Nl y
def Vd(d:PyData):Prop:=(∃i,d= .int i/\fM (.int i)=true)\/ ∃y,d= .tuple [.str "fault",.str y] /\Nl y
theorem Pv.dt{K:Fg}{H:Hp}{v:V}{d:PyData}(h:Pv K H v d):Dt K H v d:=by
 rcases h with⟨i,rfl,rfl,_⟩|⟨a,y,rfl,h,rfl,_⟩
 ·exact .int i
 ·exact .tup (bU.of h) (.cons (.str _) (.cons (.str _) .nil))
theorem Pv.vd{K:Fg}{H:Hp}{v:V}{d:PyData}(h:Pv K H v d):Vd d:=by
 rcases h with⟨i,rfl,rfl,hb⟩|⟨a,y,rfl,h,rfl,hy⟩
 ·exact .inl ⟨i,rfl,hb⟩
 ·exact .inr ⟨y,rfl,hy⟩
def bS(H H':Hp):Prop:=∀a xs,H a=some (.tup xs)->H' a=some (.tup xs)
theorem bS.of{H H':Hp}(s:aG H H'):bS H H':=fun a xs e=>s _ _ e
theorem bS.trans{H H1 H2:Hp}(a:bS H H1)(b:bS H1 H2):bS H H2:=fun c xs e=>b c xs (a c xs e)
theorem bS.upd{H:Hp}{l:Addr}{o o':HO}(h:H l=some o)(n:∀xs,o≠ .tup xs):bS H (L2.upd H l o'):=fun a xs e=>by
 rw[aH (fun z=>by rw[z,h]at e;exact n _ (Option.some.inj e))]
 exact e
theorem Pv.keep{K:Fg}{H H':Hp}{v:V}{d:PyData}(s:bS H H')(h:Pv K H v d):Pv K H' v d:=by
 rcases h with h|⟨a,y,rfl,h,rfl,hy⟩
 ·exact .inl h
 ·exact .inr ⟨a,y,rfl,s _ _ h,rfl,hy⟩
theorem Pv.same{K:Fg}{H H':Hp}{v:V}{d:PyData}(h:Pv K H v d)(s:aG H H'):Pv K H' v d:=h.keep (bS.of s)
theorem Vd.short{d:PyData}(h:Vd d):lY d/\jM d=true:=by
 rcases h with⟨i,rfl,hb⟩|⟨y,rfl,hy⟩
 ·refine⟨b12 (by intro z;cases z),?_⟩
  show(fM (.int i)||hV (.int i))=true
  rw[hb];rfl
 ·have l8:=hy.2.1
  refine⟨b8a (by
   intro e he
   simp only[List.mem_cons,List.not_mem_nil,or_false]at he
   rcases he with rfl|rfl
   ·exact lO (by decide)
   ·exact lO (by omega)),?_⟩
  show(fM _||hV (.tuple [.str "fault",.str y]))=true
  rw[show hV (.tuple [.str "fault",.str y])=true by
   show(decide (("fault":Str)= "fault")&&fI (.str y))=true
   rw[decide_eq_true rfl,Bool.true_and]
   exact Nl.name hy,Bool.or_true]
theorem Vd.lay{d:PyData}(h:Vd d):d.canLay0=true/\d.depth<=62:=by
 rcases h with⟨i,rfl,hb⟩|⟨z,rfl,hz⟩
 ·exact⟨rfl,(show 0<=62 by decide)⟩
 ·refine⟨?_,(show 1<=62 by decide)⟩
  have lz:=Nl.lay hz
  have l1:PyData.canLay0 (.str ("fault":Str))=true:=by decide+kernel
  simp only[PyData.canLay0,PyData.canLayAll0,Bool.and_true,Bool.and_eq_true]at l1 lz|-
  exact⟨l1,lz⟩
def cI(K:Fg)(H:Hp):List V->List PyData->Prop:=Paired (Pv K H)
theorem cI.keep{K:Fg}{H H':Hp}(s:bS H H'):∀{xs:List V} {ds:List PyData},cI K H xs ds->cI K H' xs ds
 |_,_,.nil=> .nil
 |_,_,.cons h t=> .cons (h.keep s) (cI.keep s t)
theorem cI.dt{K:Fg}{H:Hp}:∀{xs:List V} {ds:List PyData},cI K H xs ds->cS K H xs ds
 |_,_,.nil=> .nil
 |_,_,.cons h t=> .cons h.dt (cI.dt t)
theorem cI.vd{K:Fg}{H:Hp}:∀{xs:List V} {ds:List PyData},cI K H xs ds->∀d∈ds,Vd d
 |_,_,.nil,_,h=>by cases h
 |_,_,.cons h t,d,hd=>by
  rcases List.mem_cons.mp hd with rfl|hd
  ·exact h.vd
  ·exact cI.vd t d hd
section
variable{P:Program}{w:World}{K:Fg}{mg:Str->Option Value}{base:Heap}
def b06:Sp:=fun vs H Q _=>∃m:Nat,vs= [.int (m:Int)] /\m<=30/\Q .non H
theorem c0u:aY ["many"] ["many"] (aF rY):=⟨rfl,rfl,rfl,by decide+kernel,rfl,by decide+kernel,by decide+kernel⟩
theorem qD(T:aZ K mg):bK P w K mg base aB 2 "check_size" ["many"] b06:=by
 have G_is_whole:bK P w K mg base aB 1 "is_whole" ["thing"] (tM K):=mV T
 refine T.d_check_size.known c0u (fun _ _ _ _ _ _ us hl=>dM (fun _=>rfl) us hl) (fun vs H Q E h=> ?_) (fun f cdv A outer s H vs Q E hr h=> ?_)
 ·obtain⟨m,rfl,_⟩:=h
  rfl
 ·obtain⟨m,rfl,hm,q⟩:=h
  refine⟨_,(aI (bN (PW.pt (fP (dC (cH (bR G_is_whole (hr.mono (by decide)) aM (aA (pv 0) aE)) (fun _=>rfl))) (gP (dC (a2S nM nM aW (pv 0) (rE T.g_MOST_ROWS)))))) (aI cF) bO)),?_⟩
  refine⟨_,rfl,_,.int (m:Int),rfl,.int _,_,rfl,bJ ?_⟩
  refine⟨_,rfl,_,_,rfl,rfl,_,rfl,?_⟩
  rw[decide_eq_true (show(0:Int)<=(m:Int)by omega)]
  refine cG ⟨_,_,rfl,rfl,_,rfl,?_⟩
  rw[decide_eq_true (show(m:Int)<=30 by omega)]
  exact bJ q
def uK:Sp:=fun vs H Q _=>∃p m:Nat,vs= [.int (p:Int),.int (m:Int)] /\p<m/\Q .non H
theorem b6k:aY ["place","places"] ["place","places"] (aF tJ):=⟨rfl,rfl,rfl,by decide+kernel,rfl,by decide+kernel,by decide+kernel⟩
theorem mJ(T:aZ K mg):bK P w K mg base aB 2 "check_place" ["place","places"] uK:=by
 have G_is_whole:bK P w K mg base aB 1 "is_whole" ["thing"] (tM K):=mV T
 refine T.d_check_place.known b6k (fun _ _ _ _ _ _ us hl=>dJ (fun _ _=>rfl) us hl) (fun vs H Q E h=> ?_) (fun f cdv A outer s H vs Q E hr h=> ?_)
 ·obtain⟨p,m,rfl,_⟩:=h
  rfl
 ·obtain⟨p,m,rfl,hm,q⟩:=h
  refine⟨_,(aI (bN (PW.pt (fP (dC (cH (bR G_is_whole (hr.mono (by decide)) aM (aA (pv 0) aE)) (fun _=>rfl))) (gP (dC (a2S nM a0s aW (pv 0) (pv 1)))))) (aI cF) bO)),?_⟩
  refine⟨_,rfl,_,.int (p:Int),rfl,.int _,_,rfl,bJ ?_⟩
  refine⟨_,rfl,_,_,rfl,rfl,_,rfl,?_⟩
  rw[decide_eq_true (show(0:Int)<=(p:Int)by omega)]
  refine cG ⟨_,rfl,_,_,rfl,rfl,_,rfl,?_⟩
  rw[decide_eq_true (show(p:Int)<(m:Int)by omega)]
  exact bJ q
def a5d(K:Fg):Sp:=fun vs H Q _=>∃(a:Addr) (xs:List V) (ds:List PyData),vs= [.ref a,.int (xs.length:Int)] /\aL K H a xs/\cI K H xs ds/\xs.length<=1000/\∀H',aG H H'->Q .non H'
theorem b6B:aY ["values","many"] ["values","many"] (aF yF):=⟨rfl,rfl,rfl,by decide+kernel,rfl,by decide+kernel,by decide+kernel⟩
theorem qG(T:aZ K mg):bK P w K mg base aB 4 "check_values" ["values","many"] (a5d K):=by
 have G_is_value:bK P w K mg base aB 3 "is_value" ["thing"] (a2t K):=rG T
 refine T.d_check_values.known b6B (fun _ _ _ _ _ _ us hl=>dJ (fun _ _=>rfl) us hl) (fun vs H Q E h=> ?_) (fun f cdv A outer s H vs Q E hr h=> ?_)
 ·obtain⟨a,xs,ds,rfl,_⟩:=h
  rfl
 ·obtain⟨a,xs,ds,rfl,hq,hp,l1000,q⟩:=h
  have hl:xs.length=ds.length:=Paired.length hp
  refine⟨_,(aI (bN (PW.pt (fP (dC (cH (cD fS rfl T.isinstance fH (aA (pv 0) (aA (fC T.list iR) aE))) (fun _=>rfl))) (fP (cJ qM (cD fX rfl T.len fJ (aA (pv 0) aE)) (pv 1) (cO _)) (gP (dC (cH (cD (b2s rfl) rfl T.all b3f (aA (lC oT rfl rfl (by decide) (fL (pv 0)) (fun _ _ _ _ _=>kK) (fun _ _ _ _ _=>(bR G_is_value (hr.mono (by decide)) aM (aA (pv 0) aE)))) aE)) (fun _=>rfl))))))) (aI cF) bO)),?_⟩
  refine⟨_,rfl,_,"list",.list ds,_,rfl,.lst hq hp.dt,wN K _,_,rfl,bJ ?_⟩
  refine⟨_,rfl,_,_,rfl,.inl ⟨_,hq,rfl⟩,_,rfl,rfl,_,rfl,?_⟩
  rw[decide_eq_true rfl]
  refine bJ ⟨_,rfl,a,rfl,⟨_,hq⟩,fun D hD=> ?_⟩
  refine qJ (K:=K) (a:=a) (xs:=xs) (fun i ys H2=>ys=(List.replicate i (V.bl true))/\aG H H2) ⟨rfl,aG.new hD⟩ (fun i ys H2 _ ⟨_,s2⟩=>s2.seq hq) ?_ ?_
  ·rintro i v ys H2 hv h2D ⟨rfl,s2⟩
   obtain⟨e,he,hde⟩:=hp.dt.get hv
   have ve:=hp.vd e (List.mem_of_getElem? he)
   have hi:i<xs.length:=(List.getElem?_eq_some_iff.mp hv).1
   refine⟨_,rfl,v,e,rfl,hde.same s2,ve.short.1,fun H3 s3=>⟨s3 _ _ h2D,?_,?_,?_⟩⟩
   ·rw[List.length_replicate]
    exact cQ (by omega)
   ·rw[ve.short.2,List.replicate_succ']
   ·exact(s2.trans s3).on hD
  ·rintro ys H2 h2D ⟨rfl,s2⟩
   refine⟨D,List.replicate xs.length true,rfl,aL.of (by rw[h2D,List.map_replicate]),_,rfl,?_⟩
   rw[show (List.replicate xs.length true).all id=true by rw[List.all_eq_true];intro b hb;exact(List.mem_replicate.mp hb).2]
   exact bJ (q _ s2)
def b2C(K:Fg)(C:Addr):Sp:=fun vs H Q _=>∃(p dx:Addr) (m:Nat),vs= [.ref p,.int (m:Int)] /\H p=some (.ins C dx [])/\m<=30/\
 ∀H' r e,kH C H' p r e (eT 0 m) (m:Int) [] ->H r=none->H e=none->r≠e->(∀b o,H b=some o->b≠p->H' b=some o)->Q .non H'
theorem b8E:aY ["self","many"] ["self","many"] (aF yI):=⟨rfl,rfl,rfl,by decide+kernel,rfl,by decide+kernel,by decide+kernel⟩
theorem xD(T:aZ K mg){C:Addr}(Y:dO K mg C):dI P w K mg base aB 3 C ["self","many"] (b2C K C):=by
 have G_check_size:bK P w K mg base aB 2 "check_size" ["many"] b06:=qD T
 refine(Y.m_init.known b8E (fun _ _ _ _ _ _ us hl=>dJ (fun _ _=>rfl) us hl) (fun vs H Q E h=> ?_) (fun f cdv A outer s H vs Q E hr h=> ?_)).init Y.mks Y.kc
 ·obtain⟨p,dx,m,rfl,_⟩:=h
  rfl
 ·obtain⟨p,dx,m,rfl,hp,hm,q1⟩:=h
  refine⟨_,(aJ (bZ (bR G_check_size (hr.mono (by decide)) aM (aA (pv 1) aE)))
   (aJ (cM (pv 0) (kP (b2J rfl) rfl T.list iR (aA (kP b3N rfl T.range b2z (aA (pv 1) aE)) aE)) rfl)
   (aJ (cM (pv 0) (cD fX rfl T.len fJ (aA (aX (pv 0) rfl) aE)) rfl)
   (aI (cM (pv 0) xW rfl))))),?_⟩
  refine⟨_,rfl,m,rfl,hm,?_⟩
  refine⟨_,rfl,(m:Int),rfl,fun g hg=>⟨g,0,(m:Int),rfl,aK,by omega,by omega,by omega,by omega,by omega,fun r hr0=> ?_⟩⟩
  have ngp:p≠g:=bD hp hg
  have hgr:r≠g:=fun z=>by rw[z,aK]at hr0;cases hr0
  have hr':H r=none:=by rw[aH hgr]at hr0;exact hr0
  have npr:p≠r:=bD hp hr'
  rw[Int.sub_zero,Int.toNat_natCast]
  refine⟨_,rfl,p,C,dx,[],rfl,(by rw[aH npr,aH ngp];exact hp),Y.cl,Y.n_row_numbers,(by show 0<1000;decide),?_⟩
  refine⟨_,rfl,p,C,dx,_,_,rfl,aK,Y.cl,Y.n_row_numbers,rfl,_,_,rfl,.inl ⟨_,aL.of (by rw[aH npr.symm,aK]),rfl⟩,?_⟩
  refine⟨_,rfl,p,C,dx,_,rfl,aK,Y.cl,Y.n_fresh_number,(by show 1<1000;decide),?_⟩
  intro e he
  have npe:p≠e:=fun z=>by rw[<- z,aK]at he;cases he
  have nre:r≠e:=fun z=>by rw[<- z,aH npr.symm,aH npr.symm,aK]at he;cases he
  have nge:g≠e:=fun z=>by rw[<- z,aH ngp.symm,aH ngp.symm,aH hgr.symm,aK]at he;cases he
  have he':H e=none:=by rw[aH npe.symm,aH npe.symm,aH nre.symm,aH nge.symm]at he;exact he
  refine⟨_,rfl,p,C,dx,_,rfl,(by rw[aH npe];exact aK),Y.cl,Y.n_kept,(by show(aQ "fresh_number" _ (aQ "row_numbers" _ [])).length<1000;show(if("row_numbers":Str)= "fresh_number" then _ else _:List (Str×V)).length<1000;rw[if_neg (by decide+kernel)];show 2<1000;decide),?_⟩
  refine q1 _ r e ⟨⟨dx,?_⟩,?_,?_⟩ hr' he' nre fun b o hb hbp=> ?_
  ·rw[aK]
   refine congrArg (fun l=>some (HO.ins C dx l)) ?_
   have:=b7a r (eT 0 m).length e
   rw[pZ]at this|-
   exact this
  ·rw[aH npr.symm,aH nre,aH npr.symm,aH npr.symm,aK]
  ·rw[aH npe.symm,aK]
  ·rw[aH hbp,aH (bD hb he'),aH hbp,aH hbp,aH (bD hb hr'),aH (bD hb hg)]
   exact hb
def lS(C:Addr):Sp:=fun vs H Q _=>∃p r d xs n kvs,vs= [.ref p] /\kH C H p r d xs n kvs/\Q (.int xs.length) H
theorem b9z:aY ["self"] ["self"] (aF wW):=⟨rfl,rfl,rfl,by decide+kernel,rfl,by decide+kernel,by decide+kernel⟩
theorem jS(T:aZ K mg){C:Addr}(Y:dO K mg C):aN P w K mg base aB 1 C "many" ["self"] (lS C):=by
 refine Y.m_many.known b9z (fun _ _ _ _ _ _ us hl=>dM (fun _=>rfl) us hl) (fun vs H Q E h=> ?_) (fun f cdv A outer s H vs Q E hr h=> ?_)
 ·obtain⟨p,r,d,xs,n,kvs,rfl,_⟩:=h
  rfl
 ·obtain⟨p,r,d,xs,n,kvs,rfl,⟨⟨dx,hp⟩,hr',hd⟩,q⟩:=h
  refine⟨_,(aI (bE (cD fX rfl T.len fJ (aA (aX (pv 0) rfl) aE)))),?_⟩
  exact⟨_,rfl,p,C,dx,_,_,rfl,hp,Y.cl,Y.n_row_numbers,b3c _ _ _,_,_,rfl,.inl ⟨_,aL.of hr',rfl⟩,q⟩
def b1x(C:Addr):Sp:=fun vs H Q _=>∃p r d xs n kvs t v,vs= [.ref p,.str t] /\kH C H p r d xs n kvs/\Nl t/\aO kvs (.inr t:aC)=some v/\∀H',aG H H'->Q .non H'
theorem b7K:aY ["self","column"] ["self","column"] (aF uT):=⟨rfl,rfl,rfl,by decide+kernel,rfl,by decide+kernel,by decide+kernel⟩
theorem wL(T:aZ K mg){C:Addr}(Y:dO K mg C):aN P w K mg base aB 2 C "check_column" ["self","column"] (b1x C):=by
 have G_is_name:bK P w K mg base aB 1 "is_name" ["thing"] (lN K):=jL T
 refine Y.m_check_column.known b7K (fun _ _ _ _ _ _ us hl=>dJ (fun _ _=>rfl) us hl) (fun vs H Q E h=> ?_) (fun f cdv A outer s H vs Q E hr h=> ?_)
 ·obtain⟨p,r,d,xs,n,kvs,t,v,rfl,_⟩:=h
  rfl
 ·obtain⟨p,r,d,xs,n,kvs,t,v,rfl,TA,ht,hv,q⟩:=h
  refine⟨_,(aI (bN (PW.pt (fP (dC (cH (bR G_is_name (hr.mono (by decide)) aM (aA (pv 1) aE)) (fun _=>rfl))) (gP (jP (mH (eC hr) (pv 1) (aX (pv 0) rfl)))))) (aI cF) bO)),?_⟩
  have h8:=ht.2.1
  refine⟨_,rfl,_,.str t,rfl,.str t,lO (by omega),fun H' s'=>⟨_,rfl,?_⟩⟩
  rw[show fI (.str t)=true from ht.name]
  obtain⟨⟨dx,h1⟩,_,h3⟩:=TA.same s'
  refine bJ ⟨_,rfl,_,rfl,p,C,dx,_,_,rfl,h1,Y.cl,Y.n_kept,wR _ _ _,d,_,rfl,cC.k (k:=Sum.inr t) h3,_,rfl,?_⟩
  rw[hv]
  exact bJ (q _ s')
def spAt(C:Addr):Sp:=fun vs H Q _=>∃p r d xs n kvs t l ys,∃(i:Nat) (v:V),vs= [.ref p,.str t,.int (i:Int)] /\kH C H p r d xs n kvs/\Nl t/\aO kvs (.inr t:aC)=some (.ref l)/\H l=some (.lst ys)/\i<xs.length/\bY ys (i:Int)=some v/\∀H',aG H H'->Q v H'
theorem b9n:aY ["self","column","place"] ["self","column","place"] (aF xL):=⟨rfl,rfl,rfl,by decide+kernel,rfl,by decide+kernel,by decide+kernel⟩
theorem yJ(T:aZ K mg){C:Addr}(Y:dO K mg C):aN P w K mg base aB 3 C "at" ["self","column","place"] (spAt C):=by
 have G_check_column:aN P w K mg base aB 2 C "check_column" ["self","column"] (b1x C):=wL T Y
 have G_check_place:bK P w K mg base aB 2 "check_place" ["place","places"] uK:=mJ T
 have G_many:aN P w K mg base aB 1 C "many" ["self"] (lS C):=jS T Y
 refine Y.m_at.known b9n (fun _ _ _ _ _ _ us hl=>dP (fun _ _ _=>rfl) us hl) (fun vs H Q E h=> ?_) (fun f cdv A outer s H vs Q E hr h=> ?_)
 ·obtain⟨p,r,d,xs,n,kvs,t,l,ys,i,v,rfl,_⟩:=h
  rfl
 ·obtain⟨p,r,d,xs,n,kvs,t,l,ys,i,v,rfl,TA,ht,hv,hl,hi,ha,q⟩:=h
  refine⟨_,(aJ (bZ (bW (pv 0) Y.cl G_check_column (hr.mono (by decide)) aM (aA (pv 1) aE)))
   (aJ (bZ (bR G_check_place (hr.mono (by decide)) aM (aA (pv 2) (aA (lJ (pv 0) Y.cl G_many (hr.mono (by decide)) aM) aE))))
   (aI (bE (bP dD (fV (eC hr) (aX (pv 0) rfl) (pv 1) (fun _ _=>rfl)) (pv 2) (fun _ _=>rfl)))))),?_⟩
  obtain⟨⟨dx,h1⟩,h2,h3⟩:=id TA
  refine⟨_,rfl,p,dx,_,rfl,h1,jJ,_,rfl,p,r,d,xs,n,kvs,t,_,rfl,TA,ht,hv,fun H1 s1=> ?_⟩
  refine⟨_,rfl,_,rfl,p,dx,_,rfl,s1 _ _ h1,jJ,p,r,d,xs,n,kvs,rfl,TA.same s1,i,xs.length,rfl,hi,?_⟩
  exact⟨_,rfl,p,C,dx,_,_,rfl,s1 _ _ h1,Y.cl,Y.n_kept,wR _ _ _,_,rfl,d,.ref l,rfl,hv▸cC.k (k:=Sum.inr t) (s1 _ _ h3),_,rfl,l,_,_,v,rfl,rfl,aL.of (s1 _ _ hl),ha,q _ s1⟩
def b23(C:Addr):Sp:=fun vs H Q _=>∃p r d xs n kvs,∃(i:Nat) (v:V),vs= [.ref p,.int (i:Int)] /\kH C H p r d xs n kvs/\i<xs.length/\bY xs (i:Int)=some v/\Q v H
theorem b7Q:aY ["self","place"] ["self","place"] (aF uQ):=⟨rfl,rfl,rfl,by decide+kernel,rfl,by decide+kernel,by decide+kernel⟩
theorem uW(T:aZ K mg){C:Addr}(Y:dO K mg C):aN P w K mg base aB 3 C "number_at" ["self","place"] (b23 C):=by
 have G_check_place:bK P w K mg base aB 2 "check_place" ["place","places"] uK:=mJ T
 have G_many:aN P w K mg base aB 1 C "many" ["self"] (lS C):=jS T Y
 refine Y.m_number_at.known b7Q (fun _ _ _ _ _ _ us hl=>dJ (fun _ _=>rfl) us hl) (fun vs H Q E h=> ?_) (fun f cdv A outer s H vs Q E hr h=> ?_)
 ·obtain⟨p,r,d,xs,n,kvs,i,v,rfl,_⟩:=h
  rfl
 ·obtain⟨p,r,d,xs,n,kvs,i,v,rfl,TA,hi,ha,q⟩:=h
  refine⟨_,(aJ (bZ (bR G_check_place (hr.mono (by decide)) aM (aA (pv 1) (aA (lJ (pv 0) Y.cl G_many (hr.mono (by decide)) aM) aE))))
   (aI (bE (bP dD (aX (pv 0) rfl) (pv 1) (fun _ _=>rfl))))),?_⟩
  obtain⟨⟨dx,h1⟩,h2,h3⟩:=id TA
  refine⟨_,rfl,_,rfl,p,dx,_,rfl,h1,jJ,p,r,d,xs,n,kvs,rfl,TA,i,xs.length,rfl,hi,?_⟩
  exact⟨_,rfl,p,C,dx,_,_,rfl,h1,Y.cl,Y.n_row_numbers,b3c _ _ _,_,rfl,r,_,_,v,rfl,rfl,aL.of h2,ha,q⟩
def b1V(K:Fg)(C:Addr):Sp:=fun vs H Q _=>∃p r d xs n kvs t a ys ds,vs= [.ref p,.str t,.ref a] /\kH C H p r d xs n kvs/\Nl t/\((aO kvs (.inr t:aC)).isSome=true\/ kvs.length<8)/\kvs.length<=1000/\aL K H a ys/\cI K H ys ds/\ys.length=xs.length/\ys.length<=1000/\
 ∀H' l,aG H H'->H' l=none->Q .non (upd (upd H' l (.lst ys)) d (.dK (aT kvs (.inr t:aC) (.ref l))))
theorem b4O:aY ["self","column","values"] ["self","column","values"] (aF oP):=⟨rfl,rfl,rfl,by decide+kernel,rfl,by decide+kernel,by decide+kernel⟩
theorem wA(T:aZ K mg){C:Addr}(Y:dO K mg C):aN P w K mg base aB 5 C "give" ["self","column","values"] (b1V K C):=by
 have G_is_name:bK P w K mg base aB 1 "is_name" ["thing"] (lN K):=jL T
 have G_check_values:bK P w K mg base aB 4 "check_values" ["values","many"] (a5d K):=qG T
 have G_many:aN P w K mg base aB 1 C "many" ["self"] (lS C):=jS T Y
 refine Y.m_give.known b4O (fun _ _ _ _ _ _ us hl=>dP (fun _ _ _=>rfl) us hl) (fun vs H Q E h=> ?_) (fun f cdv A outer s H vs Q E hr h=> ?_)
 ·obtain⟨p,r,d,xs,n,kvs,t,a,ys,ds,rfl,_⟩:=h
  rfl
 ·obtain⟨p,r,d,xs,n,kvs,t,a,ys,ds,rfl,TA,ht,hc,hk,hs,hp,hl,l1000,q⟩:=h
  have eJ:∃t',eL (dX aB P w K mg base ["self","column","values"] "Table.give" (aF oP) f cdv A outer s H E).nox ((aS oP).drop 2) t'/\
   ∀(H1:Hp),aG H H1->t' {nx:=fun _ H'=>Q .non H',rt:=Q} [some (.ref p),some (.str t),some (.ref a)] H1:=by
   refine⟨_,(aJ (bZ (bR G_check_values (hr.mono (by decide)) aM (aA (pv 2) (aA (lJ (pv 0) Y.cl G_many (hr.mono (by decide)) aM) aE))))
    (aI (jI (eC hr) (aX (pv 0) rfl) (pv 1) (kP xN rfl T.list iR (aA (pv 2) aE)) rfl))),fun H1 s1=> ?_⟩
   obtain⟨⟨dx,h1⟩,h2,h3⟩:=TA.same s1
   refine⟨_,rfl,_,rfl,p,dx,_,rfl,h1,jJ,p,r,d,xs,n,kvs,rfl,TA.same s1,a,ys,ds,(by rw[hl];rfl),s1.seq hs,hp.keep (bS.of s1),l1000,fun H2 s2=> ?_⟩
   have s12:=s1.trans s2
   refine⟨_,rfl,a,ys,rfl,.inl (s12.seq hs),fun l hl=> ?_⟩
   have c1:aG H2 (upd H2 l (.lst ys)):=aG.new hl
   refine⟨_,rfl,p,C,dx,_,_,rfl,c1 _ _ (s2 _ _ h1),Y.cl,Y.n_kept,wR _ _ _,_,rfl,d,_,rfl,iC.k (k:=Sum.inr t) (c1 _ _ (s2 _ _ h3)) (cQ hk),?_⟩
   exact q H2 l s12 hl
  obtain⟨t2,ht2,r2⟩:=eJ
  refine⟨_,(aJ (bN (dC (cH (bR G_is_name (hr.mono (by decide)) aM (aA (pv 1) aE)) (fun _=>rfl))) (aI cF) bO)
   (aJ (bN (PW.pt (oY (jP (mH (eC hr) (pv 1) (aX (pv 0) rfl))) (oR (cJ b0Y (cD b2f rfl T.len fJ (aA (aX (pv 0) rfl) aE)) (rE T.g_MOST_COLUMNS) (cO _))))) (aI cF) bO)
   ht2)),?_⟩
  have h8:=ht.2.1
  refine⟨_,rfl,_,.str t,rfl,.str t,lO (by omega),fun H1 s1=>⟨_,rfl,?_⟩⟩
  rw[show fI (.str t)=true from ht.name]
  obtain⟨⟨dx,h2⟩,_,h3⟩:=TA.same s1
  refine bJ ⟨_,rfl,_,rfl,p,C,dx,_,_,rfl,h2,Y.cl,Y.n_kept,wR _ _ _,d,_,rfl,cC.k (k:=Sum.inr t) h3,_,rfl,?_⟩
  cases e:aO kvs (Sum.inr t:aC)with
  |some v=>exact bJ (bJ (r2 H1 s1))
  |none=>
   have hc':kvs.length<8:=by
    rcases hc with hc|hc
    ·rw[e]at hc;cases hc
    ·exact hc
   refine cG ⟨_,rfl,p,C,dx,_,_,rfl,h2,Y.cl,Y.n_kept,wR _ _ _,d,kvs,rfl,h3,_,_,rfl,rfl,_,rfl,?_⟩
   rw[decide_eq_false (show¬(kvs.length:Int)>=8 by omega)]
   exact bJ (r2 H1 s1)
end
theorem fT{H H':Hp}{a:Addr}(s:aG H H')(h:H' a=none):H a=none:=by
 cases e:H a with
 |none=>rfl
 |some o=>rw[s _ _ e]at h;cases h
def bG(p:Addr)(H H':Hp):Prop:=∀b o,b≠p->H b=some o->H' b=some o
theorem bG.of{p:Addr}{H H':Hp}(s:aG H H'):bG p H H':=fun b o _ e=>s b o e
theorem bG.trans{p:Addr}{H H1 H2:Hp}(a:bG p H H1)(b:bG p H1 H2):bG p H H2:=fun c o n e=>b c o n (a c o n e)
theorem b9J{H:Hp}{p b C D dx dy:Addr}{fs gs:List (Str×V)}(h:H p=some (.ins C dx fs))(g:H b=some (.ins D dy gs))(n:fs.length≠gs.length):p≠b:=fun z=>by
 rw[z,g]at h
 cases h
 exact n rfl
structure BM where
 b:Addr
 g:Addr
 r:Addr
 e:Addr
 ru:Addr
 me:Addr
 od:Addr
 xs:List V
 n:Int
 kvs:List (aC×V)
 rus:List (aC×V)
 mes:List (aC×V)
 ord:List Str
def lZ(g ru me od:Addr):List (Str×V):=[("given",V.ref g),("rules",V.ref ru),("memory",V.ref me),("order",V.ref od)]
theorem dG(g ru me od:Addr):(lZ g ru me od).lookup ("given":Str)=some (.ref g)/\(lZ g ru me od).lookup ("rules":Str)=some (.ref ru)/\(lZ g ru me od).lookup ("memory":Str)=some (.ref me)/\(lZ g ru me od).lookup ("order":Str)=some (.ref od):=⟨rfl,rfl,rfl,rfl⟩
theorem pF{g ru me od:Addr}{m:Str}(h:(m==("given":Str)||m==("rules":Str)||m==("memory":Str)||m==("order":Str))=false:=by decide+kernel):(lZ g ru me od).lookup m=none:=by
 simp only[Bool.or_eq_false_iff]at h
 obtain⟨⟨⟨h1,h2⟩,h3⟩,h4⟩:=h
 unfold lZ
 simp[List.lookup,h1,h2,h3,h4]
theorem b5b(g ru me od:Addr):aQ "order" (.ref od) (aQ "memory" (.ref me) (aQ "rules" (.ref ru) (aQ "given" (.ref g) [])))=lZ g ru me od:=by
 rfl
structure cW(CB CT:Addr)(H:Hp)(B:BM):Prop where
 at_:∃dx,H B.b=some (.ins CB dx (lZ B.g B.ru B.me B.od))
 tab:kH CT H B.g B.r B.e B.xs B.n B.kvs
 rul:H B.ru=some (.dK B.rus)
 mem:H B.me=some (.dK B.mes)
 ord:H B.od=some (.lst (B.ord.map V.str))
theorem cW.same{CB CT:Addr}{H H':Hp}{B:BM}(h:cW CB CT H B)(s:aG H H'):cW CB CT H' B:=
 ⟨let ⟨dx,e⟩:=h.at_;⟨dx,s _ _ e⟩,h.tab.same s,s _ _ h.rul,s _ _ h.mem,s _ _ h.ord⟩
def BM.foot(B:BM):List Addr:=[B.b,B.g,B.r,B.e,B.ru,B.me,B.od]
structure BM.sep(B:BM):Prop where
 ro:B.r≠B.od
 eu:B.e≠B.ru
 em:B.e≠B.me
 um:B.ru≠B.me
section
variable{P:Program}{w:World}{K:Fg}{mg:Str->Option Value}{base:Heap}
def b1W(CB CT:Addr):Sp:=fun vs H Q _=>∃(p dx:Addr) (m:Nat),vs= [.ref p,.int (m:Int)] /\H p=some (.ins CB dx [])/\m<=30/\
 ∀H' g r e ru me od,cW CB CT H' ⟨p,g,r,e,ru,me,od,eT 0 m,(m:Int),[],[],[],[]⟩ ->BM.sep ⟨p,g,r,e,ru,me,od,eT 0 m,(m:Int),[],[],[],[]⟩ ->(∀x∈ [g,r,e,ru,me,od],H x=none)->(∀b o,H b=some o->b≠p->H' b=some o)->Q .non H'
theorem b9X:aY ["self","many"] ["self","many"] (aF wE):=⟨rfl,rfl,rfl,by decide+kernel,rfl,by decide+kernel,by decide+kernel⟩
theorem vT(T:aZ K mg){CB CT:Addr}(Y:cU K mg CB)(Z:dO K mg CT):dI P w K mg base aB 5 CB ["self","many"] (b1W CB CT):=by
 have GI:dI P w K mg base aB 3 CT ["self","many"] (b2C K CT):=xD T Z
 refine(Y.m_init.known b9X (fun _ _ _ _ _ _ us hl=>dJ (fun _ _=>rfl) us hl) (fun vs H Q E h=> ?_) (fun f cdv A outer s H vs Q E hr h=> ?_)).init Y.mks Y.kc
 ·obtain⟨p,dx,m,rfl,_⟩:=h
  rfl
 ·obtain⟨p,dx,m,rfl,hp,hm,q⟩:=h
  refine⟨_,(aJ (cM (pv 0) (jO GI hr Z.c aM (aA (pv 1) aE)) rfl)
   (aJ (cM (pv 0) xW rfl)
   (aJ (cM (pv 0) xW rfl)
   (aI (cM (pv 0) (gH aE) rfl))))),?_⟩
  refine⟨_,rfl,?_⟩
  intro g dg hg hdg ne
  refine⟨g,dg,m,rfl,aK,hm,fun H1 r e TA hr1 he1 nre b1=>⟨rfl,?_⟩⟩
  have s1:aG H H1:=fun b o z=>b1 b o (by rw[aH (bD z hg),aH (bD z hdg)];exact z) (bD z hg)
  have npg:p≠g:=bD hp hg
  have hr0:H r=none:=by
   by_cases z:r=g
   ·rw[z];exact hg
   ·by_cases z2:r=dg
    ·rw[z2];exact hdg
    ·rw[aH z,aH z2]at hr1;exact hr1
  have he0:H e=none:=by
   by_cases z:e=g
   ·rw[z];exact hg
   ·by_cases z2:e=dg
    ·rw[z2];exact hdg
    ·rw[aH z,aH z2]at he1;exact he1
  obtain⟨⟨dt,ht⟩,hrr,hee⟩:=TA
  refine⟨_,rfl,p,CB,dx,[],rfl,s1 _ _ hp,Y.cl,Y.n_given,(by show 0<1000;decide),?_⟩
  have u2:∀b o,b≠p->H1 b=some o->upd H1 p (.ins CB dx (aQ "given" (.ref g) [])) b=some o:=fun b o n z=>by rw[aH n];exact z
  have p2:upd H1 p (.ins CB dx (aQ "given" (.ref g) [])) p=some (.ins CB dx (aQ "given" (.ref g) [])):=aK
  have n2:∀b,upd H1 p (.ins CB dx (aQ "given" (.ref g) [])) b=none->H1 b=none/\b≠p:=fun b z=>by
   have:b≠p:=fun y=>by rw[y,aK]at z;cases z
   rw[aH this]at z
   exact⟨z,this⟩
  generalize upd H1 p (.ins CB dx (aQ "given" (.ref g) []))=H2 at u2 p2 n2|-
  have b1':∀b,H1 b=none->H b=none:=fun b z=>by
   cases e9:H b with
   |none=>rfl
   |some o=>rw[s1 _ _ e9]at z;cases z
  refine fun ru hru=> ?_
  have s3:=aG.new (o:=.dK []) hru
  have h3:upd H2 ru (.dK []) ru=some (.dK []):=aK
  have n3:∀b,upd H2 ru (.dK []) b=none->H2 b=none/\b≠ru:=fun b z=>by
   have:b≠ru:=fun y=>by rw[y,aK]at z;cases z
   rw[aH this]at z
   exact⟨z,this⟩
  refine⟨_,rfl,p,CB,dx,_,rfl,s3 _ _ p2,Y.cl,Y.n_rules,(by show 1<1000;decide),?_⟩
  have hru2:=n2 _ hru
  generalize upd H2 ru (.dK [])=H3 at s3 h3 n3|-
  have u4:∀b o,b≠p->H3 b=some o->upd H3 p (.ins CB dx (aQ "rules" (.ref ru) (aQ "given" (.ref g) []))) b=some o:=fun b o n z=>by rw[aH n];exact z
  have p4:upd H3 p (.ins CB dx (aQ "rules" (.ref ru) (aQ "given" (.ref g) []))) p=some (.ins CB dx (aQ "rules" (.ref ru) (aQ "given" (.ref g) []))):=aK
  have n4:∀b,upd H3 p (.ins CB dx (aQ "rules" (.ref ru) (aQ "given" (.ref g) []))) b=none->H3 b=none/\b≠p:=fun b z=>by
   have:b≠p:=fun y=>by rw[y,aK]at z;cases z
   rw[aH this]at z
   exact⟨z,this⟩
  generalize upd H3 p (.ins CB dx (aQ "rules" (.ref ru) (aQ "given" (.ref g) [])))=H4 at u4 p4 n4|-
  refine fun me hme=> ?_
  have s5:=aG.new (o:=.dK []) hme
  have h5:upd H4 me (.dK []) me=some (.dK []):=aK
  have n5:∀b,upd H4 me (.dK []) b=none->H4 b=none/\b≠me:=fun b z=>by
   have:b≠me:=fun y=>by rw[y,aK]at z;cases z
   rw[aH this]at z
   exact⟨z,this⟩
  refine⟨_,rfl,p,CB,dx,_,rfl,s5 _ _ p4,Y.cl,Y.n_memory,(by show 2<1000;decide),?_⟩
  have hme4:=n4 _ hme
  have hme3:=n3 _ hme4.1
  have hme2:=n2 _ hme3.1
  generalize upd H4 me (.dK [])=H5 at s5 h5 n5|-
  have u6:∀b o,b≠p->H5 b=some o->upd H5 p (.ins CB dx (aQ "memory" (.ref me) (aQ "rules" (.ref ru) (aQ "given" (.ref g) [])))) b=some o:=fun b o n z=>by rw[aH n];exact z
  have p6:upd H5 p (.ins CB dx (aQ "memory" (.ref me) (aQ "rules" (.ref ru) (aQ "given" (.ref g) [])))) p=some (.ins CB dx (aQ "memory" (.ref me) (aQ "rules" (.ref ru) (aQ "given" (.ref g) [])))):=aK
  have n6:∀b,upd H5 p (.ins CB dx (aQ "memory" (.ref me) (aQ "rules" (.ref ru) (aQ "given" (.ref g) [])))) b=none->H5 b=none/\b≠p:=fun b z=>by
   have:b≠p:=fun y=>by rw[y,aK]at z;cases z
   rw[aH this]at z
   exact⟨z,this⟩
  generalize upd H5 p (.ins CB dx (aQ "memory" (.ref me) (aQ "rules" (.ref ru) (aQ "given" (.ref g) []))))=H6 at u6 p6 n6|-
  refine⟨sl,fun od hod=> ?_⟩
  have s7:=aG.new (o:=.lst []) hod
  have h7:upd H6 od (.lst []) od=some (.lst []):=aK
  refine⟨_,rfl,p,CB,dx,_,rfl,s7 _ _ p6,Y.cl,Y.n_order,(by show 3<1000;decide),?_⟩
  have hod6:=n6 _ hod
  have hod5:=n5 _ hod6.1
  have hod4:=n4 _ hod5.1
  have hod3:=n3 _ hod4.1
  have hod2:=n2 _ hod3.1
  generalize upd H6 od (.lst [])=H7 at s7 h7|-
  have up:∀b o,b≠p->H1 b=some o->upd H7 p (.ins CB dx (aQ "order" (.ref od) (aQ "memory" (.ref me) (aQ "rules" (.ref ru) (aQ "given" (.ref g) []))))) b=some o:=fun b o n z=>by
   rw[aH n]
   exact s7 _ _ (u6 _ _ n (s5 _ _ (u4 _ _ n (s3 _ _ (u2 _ _ n z)))))
  have p9:upd H7 p (.ins CB dx (aQ "order" (.ref od) (aQ "memory" (.ref me) (aQ "rules" (.ref ru) (aQ "given" (.ref g) []))))) p=some (.ins CB dx (lZ g ru me od)):=by rw[aK,b5b]
  have npr:r≠p:=fun z=>by rw[z,hp]at hr0;cases hr0
  have npe:e≠p:=fun z=>by rw[z,hp]at he0;cases he0
  have o7:upd H7 p (.ins CB dx (aQ "order" (.ref od) (aQ "memory" (.ref me) (aQ "rules" (.ref ru) (aQ "given" (.ref g) []))))) od=some (.lst []):=by rw[aH hod6.2];exact h7
  have m7:upd H7 p (.ins CB dx (aQ "order" (.ref od) (aQ "memory" (.ref me) (aQ "rules" (.ref ru) (aQ "given" (.ref g) []))))) me=some (.dK []):=by
   rw[aH hme4.2]
   exact s7 _ _ (u6 _ _ hme4.2 h5)
  have r7:upd H7 p (.ins CB dx (aQ "order" (.ref od) (aQ "memory" (.ref me) (aQ "rules" (.ref ru) (aQ "given" (.ref g) []))))) ru=some (.dK []):=by
   rw[aH hru2.2]
   exact s7 _ _ (u6 _ _ hru2.2 (s5 _ _ (u4 _ _ hru2.2 h3)))
  generalize upd H7 p (.ins CB dx (aQ "order" (.ref od) (aQ "memory" (.ref me) (aQ "rules" (.ref ru) (aQ "given" (.ref g) [])))))=H9 at up p9 o7 m7 r7|-
  refine q H9 g r e ru me od ⟨⟨dx,p9⟩,⟨⟨dt,up _ _ npg.symm ht⟩,up _ _ npr hrr,up _ _ npe hee⟩,r7,m7,o7⟩ ⟨?_,?_,?_,?_⟩ ?_ fun b o z n=>up _ _ n (s1 _ _ z)
  ·exact bD hrr hod2.1
  ·exact bD hee hru2.1
  ·exact bD hee hme2.1
  ·exact fun z=>hme3.2 z.symm
  ·intro x hx
   simp only[List.mem_cons,List.not_mem_nil,or_false]at hx
   rcases hx with rfl|rfl|rfl|rfl|rfl|rfl
   ·exact hg
   ·exact hr0
   ·exact he0
   ·exact b1' _ hru2.1
   ·exact b1' _ hme2.1
   ·exact b1' _ hod2.1
def a8F(CB CT:Addr):Sp:=fun vs H Q _=>∃(B:BM) (t:Str),vs= [.ref B.b,.str t] /\cW CB CT H B/\Nl t/\∀H',aG H H'->Q (.bl (decide (t∈B.ord))) H'
theorem b8g:aY ["self","column"] ["self","column"] (aF sC):=⟨rfl,rfl,rfl,by decide+kernel,rfl,by decide+kernel,by decide+kernel⟩
theorem pR(T:aZ K mg){CB CT:Addr}(Y:cU K mg CB):aN P w K mg base aB 2 CB "has_column" ["self","column"] (a8F CB CT):=by
 have G_is_name:bK P w K mg base aB 1 "is_name" ["thing"] (lN K):=jL T
 refine Y.m_has_column.known b8g (fun _ _ _ _ _ _ us hl=>dJ (fun _ _=>rfl) us hl) (fun vs H Q E h=> ?_) (fun f cdv A outer s H vs Q E hr h=> ?_)
 ·obtain⟨B,t,rfl,_⟩:=h
  rfl
 ·obtain⟨B,t,rfl,hB,ht,q⟩:=h
  refine⟨_,(aI (bE (kE (bR G_is_name (hr.mono (by decide)) aM (aA (pv 1) aE)) (mC (mD a89 (pv 1) (aX (pv 0) rfl) (by with_unfolding_all rfl)))))),?_⟩
  have h8:=ht.2.1
  refine⟨_,rfl,_,.str t,rfl,.str t,lO (by omega),fun H' s'=>⟨_,rfl,?_⟩⟩
  rw[show fI (.str t)=true from ht.name]
  obtain⟨⟨dx,h1⟩,_,_,_,h5⟩:=hB.same s'
  refine cG ⟨_,rfl,_,rfl,B.b,CB,dx,_,_,rfl,h1,Y.cl,Y.n_order,(dG _ _ _ _).2.2.2,B.od,_,rfl,.inl (aL.of h5),rfl,nL _,?_⟩
  rw[show (if false=true then !gM (.str t) (B.ord.map V.str) else gM (.str t) (B.ord.map V.str))=decide (t∈B.ord)by rw[if_neg Bool.false_ne_true,nQ]]
  exact q _ s'
def qO(B:BM)(t:Str):Prop:=aO B.rus (.inr t:aC)=none/\t∉B.ord
def yU(CB CT:Addr):Sp:=fun vs H Q _=>∃(B:BM) (t:Str),vs= [.ref B.b,.str t] /\cW CB CT H B/\qO B t/\Q .non H
theorem b9O:aY ["self","column"] ["self","column"] (aF tF):=⟨rfl,rfl,rfl,by decide+kernel,rfl,by decide+kernel,by decide+kernel⟩
theorem tH(T:aZ K mg){CB CT:Addr}(Y:cU K mg CB):aN P w K mg base aB 2 CB "content" ["self","column"] (yU CB CT):=by
 refine Y.m_content.known b9O (fun _ _ _ _ _ _ us hl=>dJ (fun _ _=>rfl) us hl) (fun vs H Q E h=> ?_) (fun f cdv A outer s H vs Q E hr h=> ?_)
 ·obtain⟨B,t,rfl,_⟩:=h
  rfl
 ·obtain⟨B,t,rfl,hB,⟨n1,n2⟩,q⟩:=h
  refine⟨_,(aJ (bN (jP (qI (eC hr) (pv 1) (aX (pv 0) rfl))) (aI cF) bO)
   (aJ (bN (cJ a89 (pv 1) (aX (pv 0) rfl) (by with_unfolding_all rfl)) (aI cF) bO)
   (aI (bE iG)))),?_⟩
  obtain⟨⟨dx,h1⟩,_,h3,_,h5⟩:=id hB
  refine⟨_,rfl,_,rfl,B.b,CB,dx,_,_,rfl,h1,Y.cl,Y.n_rules,(dG _ _ _ _).2.1,B.ru,_,rfl,cC.k (k:=Sum.inr t) h3,_,rfl,?_⟩
  rw[n1]
  refine bJ ⟨_,rfl,_,rfl,B.b,CB,dx,_,_,rfl,h1,Y.cl,Y.n_order,(dG _ _ _ _).2.2.2,B.od,_,rfl,.inl (aL.of h5),rfl,nL _,_,rfl,?_⟩
  rw[show (if false=true then !gM (.str t) (B.ord.map V.str) else gM (.str t) (B.ord.map V.str))=false by rw[if_neg Bool.false_ne_true,nQ,decide_eq_false n2]]
  exact bJ q
theorem b9C:aY ["self","column"] ["self","column"] (aF wH):=⟨rfl,rfl,rfl,by decide+kernel,rfl,by decide+kernel,by decide+kernel⟩
theorem qN(T:aZ K mg){CB CT:Addr}(Y:cU K mg CB):aN P w K mg base aB 2 CB "empty_column" ["self","column"] (yU CB CT):=by
 refine Y.m_empty_column.known b9C (fun _ _ _ _ _ _ us hl=>dJ (fun _ _=>rfl) us hl) (fun vs H Q E h=> ?_) (fun f cdv A outer s H vs Q E hr h=> ?_)
 ·obtain⟨B,t,rfl,_⟩:=h
  rfl
 ·obtain⟨B,t,rfl,hB,⟨n1,n2⟩,q⟩:=h
  refine⟨_,(aI (bN (jP (qI (eC hr) (pv 1) (aX (pv 0) rfl))) (aJ cF (aI cF)) (aI (bN (cJ a89 (pv 1) (aX (pv 0) rfl) (by with_unfolding_all rfl)) (aI cF) bO)))),?_⟩
  obtain⟨⟨dx,h1⟩,_,h3,_,h5⟩:=id hB
  refine⟨_,rfl,_,rfl,B.b,CB,dx,_,_,rfl,h1,Y.cl,Y.n_rules,(dG _ _ _ _).2.1,B.ru,_,rfl,cC.k (k:=Sum.inr t) h3,_,rfl,?_⟩
  rw[n1]
  refine bJ ⟨_,rfl,_,rfl,B.b,CB,dx,_,_,rfl,h1,Y.cl,Y.n_order,(dG _ _ _ _).2.2.2,B.od,_,rfl,.inl (aL.of h5),rfl,nL _,_,rfl,?_⟩
  rw[show (if false=true then !gM (.str t) (B.ord.map V.str) else gM (.str t) (B.ord.map V.str))=false by rw[if_neg Bool.false_ne_true,nQ,decide_eq_false n2]]
  exact bJ q
def a7s(K:Fg)(CB CT:Addr):Sp:=fun vs H Q _=>∃(B:BM) (t:Str) (a:Addr) (ys:List V) (ds:List PyData),vs= [.ref B.b,.str t,.ref a] /\cW CB CT H B/\B.sep/\qO B t/\Nl t/\H a=some (.lst ys)/\a≠B.od/\cI K H ys ds/\ys.length=B.xs.length/\ys.length<=30/\B.kvs.length<8/\B.ord.length<100/\
 ∀H' l,H l=none->cW CB CT H' {B with kvs:=aT B.kvs (.inr t:aC) (.ref l),ord:=B.ord++ [t]} ->H' l=some (.lst ys)->(∀b o,b≠B.od->b≠B.e->H b=some o->H' b=some o)->Q .non H'
theorem b2D:aY ["self","column","content"] ["self","column","content"] (aF uS):=⟨rfl,rfl,rfl,by decide+kernel,rfl,by decide+kernel,by decide+kernel⟩
theorem b6L(T:aZ K mg){CB CT:Addr}(Y:cU K mg CB)(Z:dO K mg CT):aN P w K mg base aB 6 CB "set_column" ["self","column","content"] (a7s K CB CT):=by
 have G_empty:aN P w K mg base aB 2 CB "empty_column" ["self","column"] (yU CB CT):=qN T Y
 have G_give:aN P w K mg base aB 5 CT "give" ["self","column","values"] (b1V K CT):=wA T Z
 refine Y.m_set_column.known b2D (fun _ _ _ _ _ _ us hl=>dP (fun _ _ _=>rfl) us hl) (fun vs H Q E h=> ?_) (fun f cdv A outer s H vs Q E hr h=> ?_)
 ·obtain⟨B,t,a,ys,ds,rfl,_⟩:=h
  rfl
 ·obtain⟨B,t,a,ys,ds,rfl,hB,sp,⟨n1,n2⟩,ht,ha,nao,hp,hl,l30,k8,o100,q⟩:=h
  refine⟨_,(aJ (bZ (bW (pv 0) Y.cl G_empty (hr.mono (by decide)) aM (aA (pv 1) aE)))
   (aJ (bN (cJ qU (pv 2) iG (cO _)) (aJ cF (aI cF)) bO)
   (aJ (bN (cJ zK (pv 1) (aX (pv 0) rfl) (by with_unfolding_all rfl)) (aI (bZ (iJ PySem.F.plainAttrs_list PySem.F.slot_list_append PySem.F.type_list_append gT (aX (pv 0) rfl) (aA (pv 1) aE)))) bO)
   (aI (bN (cH (cD b1c rfl T.isinstance fH (aA (pv 2) (aA (fC T.list iR) aE))) (fun _=>rfl)) (aI (bZ (bW (aX (pv 0) rfl) Z.cl G_give (hr.mono (by decide)) aM (aA (pv 1) (aA (pv 2) aE))))) (aJ cF (aI cF))))))),?_⟩
  obtain⟨⟨dx,h1⟩,tb,h3,h4,h5⟩:=id hB
  refine⟨_,rfl,B.b,dx,_,rfl,h1,pF,_,rfl,B,t,rfl,hB,⟨n1,n2⟩,?_⟩
  refine⟨_,rfl,rfl,_,rfl,?_⟩
  rw[decide_eq_false (show¬V.ref a=V.non from fun z=>by cases z)]
  refine bJ ⟨_,rfl,_,rfl,B.b,CB,dx,_,_,rfl,h1,Y.cl,Y.n_order,(dG _ _ _ _).2.2.2,B.od,_,rfl,.inl (aL.of h5),rfl,nL _,_,rfl,?_⟩
  rw[show (if true=true then !gM (.str t) (B.ord.map V.str) else gM (.str t) (B.ord.map V.str))=true by rw[if_pos rfl,nQ,decide_eq_false n2];rfl]
  refine cG ⟨_,rfl,B.b,CB,dx,_,_,rfl,h1,Y.cl,Y.n_order,(dG _ _ _ _).2.2.2,.inl ⟨rfl,_,aL.of h5⟩,_,rfl,B.od,_,_,rfl,rfl,h5,cQ (by rw[List.length_map];omega),?_⟩
  have u6:∀b o,b≠B.od->H b=some o->upd H B.od (.lst (B.ord.map V.str++ [.str t])) b=some o:=fun b o n z=>by rw[aH n];exact z
  have o6:upd H B.od (.lst (B.ord.map V.str++ [.str t])) B.od=some (.lst ((B.ord++ [t]).map V.str)):=by rw[aK,List.map_append];rfl
  have kt:bS H (upd H B.od (.lst (B.ord.map V.str++ [.str t]))):=bS.upd h5 (fun xs z=>by cases z)
  have n6:∀b,upd H B.od (.lst (B.ord.map V.str++ [.str t])) b=none->H b=none:=fun b z=>by
   have:b≠B.od:=fun y=>by rw[y,aK]at z;cases z
   rw[aH this]at z
   exact z
  generalize upd H B.od (.lst (B.ord.map V.str++ [.str t]))=H6 at u6 o6 kt n6|-
  have a6:=u6 _ _ nao ha
  have b6:=u6 _ _ (fun z=>by rw[z,h5]at h1;cases h1) h1
  obtain⟨⟨dt,t1⟩,t2,t3⟩:=id tb
  have g6:=u6 _ _ (fun z=>by rw[z,h5]at t1;cases t1) t1
  have e6:=u6 _ _ (fun z=>by rw[z,h5]at t3;cases t3) t3
  have tb6:kH CT H6 B.g B.r B.e B.xs B.n B.kvs:=⟨⟨dt,g6⟩,u6 _ _ sp.ro t2,e6⟩
  refine⟨_,rfl,_,"list",.type "list",_,rfl,.lst a6,wN K .lst,_,rfl,cG ?_⟩
  refine⟨_,rfl,B.b,CB,dx,_,_,rfl,b6,Y.cl,Y.n_given,(dG _ _ _ _).1,B.g,dt,_,rfl,g6,jJ,_,rfl,_,rfl,B.g,B.r,B.e,B.xs,B.n,B.kvs,t,a,ys,ds,rfl,tb6,ht,.inr k8,by omega,aL.of a6,hp.keep kt,hl,by omega,fun H7 l s7 hl7=> ?_⟩
  have u9:∀b o,b≠B.e->H7 b=some o->upd (upd H7 l (.lst ys)) B.e (.dK (aT B.kvs (.inr t:aC) (.ref l))) b=some o:=fun b o n z=>by
   rw[aH n,aH (bD z hl7)]
   exact z
  have nle:l≠B.e:=fun z=>by rw[z,s7 _ _ e6]at hl7;cases hl7
  have e9:upd (upd H7 l (.lst ys)) B.e (.dK (aT B.kvs (.inr t:aC) (.ref l))) B.e=some (.dK (aT B.kvs (.inr t:aC) (.ref l))):=aK
  have l9:upd (upd H7 l (.lst ys)) B.e (.dK (aT B.kvs (.inr t:aC) (.ref l))) l=some (.lst ys):=by rw[aH nle,aK]
  generalize upd (upd H7 l (.lst ys)) B.e (.dK (aT B.kvs (.inr t:aC) (.ref l)))=H9 at u9 e9 l9|-
  have up:∀b o,b≠B.od->b≠B.e->H b=some o->H9 b=some o:=fun b o n1 n2 z=>u9 _ _ n2 (s7 _ _ (u6 _ _ n1 z))
  have ne_:∀{b:Addr} {o:HO},H6 b=some o->(∀kvs,o≠ .dK kvs)->b≠B.e:=fun z n y=>by rw[y,e6]at z;exact n _ (Option.some.inj z).symm
  refine q H9 l (n6 _ (fT s7 hl7)) ⟨⟨dx,u9 _ _ (ne_ b6 (fun kvs z=>by cases z)) (s7 _ _ b6)⟩,⟨⟨dt,u9 _ _ (ne_ g6 (fun kvs z=>by cases z)) (s7 _ _ g6)⟩,?_,e9⟩,?_,?_,?_⟩ l9 up
  ·exact up _ _ sp.ro (fun z=>by rw[z,t3]at t2;cases t2) t2
  ·exact up _ _ (fun z=>by rw[z,h5]at h3;cases h3) sp.eu.symm h3
  ·exact up _ _ (fun z=>by rw[z,h5]at h4;cases h4) sp.em.symm h4
  ·exact u9 _ _ (ne_ o6 (fun kvs z=>by cases z)) (s7 _ _ o6)
def a2R(K:Fg)(CB CT:Addr):Sp:=fun vs H Q _=>∃(B:BM) (t:Str) (a C dx:Addr) (fs:List (Str×V)),vs= [.ref B.b,.str t,.ref a] /\cW CB CT H B/\B.sep/\qO B t/\H a=some (.ins C dx fs)/\gN K H (.ref a) (.ref C)/\PySem.W.kitOne K (.ref C) (.type "list")=some false/\B.rus.length<100/\B.mes.length<100/\B.ord.length<100/\
 ∀H' m,H m=none->cW CB CT H' {B with rus:=aT B.rus (.inr t:aC) (.ref a),mes:=aT B.mes (.inr t:aC) (.ref m),ord:=B.ord++ [t]} ->H' m=some (.dK [])->(∀b o,b≠B.od->b≠B.ru->b≠B.me->H b=some o->H' b=some o)->Q .non H'
theorem c0j(T:aZ K mg){CB CT:Addr}(Y:cU K mg CB):aN P w K mg base aB 6 CB "set_column" ["self","column","content"] (a2R K CB CT):=by
 have G_empty:aN P w K mg base aB 2 CB "empty_column" ["self","column"] (yU CB CT):=qN T Y
 refine Y.m_set_column.known b2D (fun _ _ _ _ _ _ us hl=>dP (fun _ _ _=>rfl) us hl) (fun vs H Q E h=> ?_) (fun f cdv A outer s H vs Q E hr h=> ?_)
 ·obtain⟨B,t,a,C,dc,fs,rfl,_⟩:=h
  rfl
 ·obtain⟨B,t,a,C,dc,fs,rfl,hB,sp,⟨n1,n2⟩,ha,hty,hk,r100,m100,o100,q⟩:=h
  refine⟨_,(aJ (bZ (bW (pv 0) Y.cl G_empty (hr.mono (by decide)) aM (aA (pv 1) aE)))
   (aJ (bN (cJ qU (pv 2) iG (cO _)) (aJ cF (aI cF)) bO)
   (aJ (bN (cJ zK (pv 1) (aX (pv 0) rfl) (by with_unfolding_all rfl)) (aI (bZ (iJ PySem.F.plainAttrs_list PySem.F.slot_list_append PySem.F.type_list_append gT (aX (pv 0) rfl) (aA (pv 1) aE)))) bO)
   (aI (bN (cH (cD b1c rfl T.isinstance fH (aA (pv 2) (aA (fC T.list iR) aE))) (fun _=>rfl)) (aI cF) (aJ (jI (eC hr) (aX (pv 0) rfl) (pv 1) (pv 2) rfl) (aI (jI (eC hr) (aX (pv 0) rfl) (pv 1) xW rfl)))))))),?_⟩
  obtain⟨⟨dx,h1⟩,tb,h3,h4,h5⟩:=id hB
  refine⟨_,rfl,B.b,dx,_,rfl,h1,pF,_,rfl,B,t,rfl,hB,⟨n1,n2⟩,?_⟩
  refine⟨_,rfl,rfl,_,rfl,?_⟩
  rw[decide_eq_false (show¬V.ref a=V.non from fun z=>by cases z)]
  refine bJ ⟨_,rfl,_,rfl,B.b,CB,dx,_,_,rfl,h1,Y.cl,Y.n_order,(dG _ _ _ _).2.2.2,B.od,_,rfl,.inl (aL.of h5),rfl,nL _,_,rfl,?_⟩
  rw[show (if true=true then !gM (.str t) (B.ord.map V.str) else gM (.str t) (B.ord.map V.str))=true by rw[if_pos rfl,nQ,decide_eq_false n2];rfl]
  refine cG ⟨_,rfl,B.b,CB,dx,_,_,rfl,h1,Y.cl,Y.n_order,(dG _ _ _ _).2.2.2,.inl ⟨rfl,_,aL.of h5⟩,_,rfl,B.od,_,_,rfl,rfl,h5,cQ (by rw[List.length_map];omega),?_⟩
  have u6:∀b o,b≠B.od->H b=some o->upd H B.od (.lst (B.ord.map V.str++ [.str t])) b=some o:=fun b o n z=>by rw[aH n];exact z
  have o6:upd H B.od (.lst (B.ord.map V.str++ [.str t])) B.od=some (.lst ((B.ord++ [t]).map V.str)):=by rw[aK,List.map_append];rfl
  have n6:∀b,upd H B.od (.lst (B.ord.map V.str++ [.str t])) b=none->H b=none/\b≠B.od:=fun b z=>by
   have:b≠B.od:=fun y=>by rw[y,aK]at z;cases z
   rw[aH this]at z
   exact⟨z,this⟩
  generalize upd H B.od (.lst (B.ord.map V.str++ [.str t]))=H6 at u6 o6 n6|-
  have nl5:∀{b:Addr} {o:HO},H b=some o->(∀xs,o≠ .lst xs)->b≠B.od:=fun z n y=>by rw[y,h5]at z;exact n _ (Option.some.inj z).symm
  have a6:=u6 _ _ (nl5 ha (fun xs z=>by cases z)) ha
  have b6:=u6 _ _ (nl5 h1 (fun xs z=>by cases z)) h1
  have r6:=u6 _ _ (nl5 h3 (fun xs z=>by cases z)) h3
  have m6:=u6 _ _ (nl5 h4 (fun xs z=>by cases z)) h4
  have ty6:gN K H6 (.ref a) (.ref C):=by
   cases hty with
   |ins e1 e2 e3 e4 e5 e6=>exact .ins (u6 _ _ (nl5 e1 (fun xs z=>by cases z)) e1) e2 e3 e4 e5 e6
  refine⟨_,rfl,_,"list",.ref C,_,rfl,ty6,hk,_,rfl,bJ ?_⟩
  refine⟨_,rfl,_,rfl,B.b,CB,dx,_,_,rfl,b6,Y.cl,Y.n_rules,(dG _ _ _ _).2.1,_,rfl,B.ru,_,rfl,iC.k (k:=Sum.inr t) r6 (cQ (by omega)),?_⟩
  have u7:∀b o,b≠B.ru->H6 b=some o->upd H6 B.ru (.dK (aT B.rus (.inr t:aC) (.ref a))) b=some o:=fun b o n z=>by rw[aH n];exact z
  have r7:upd H6 B.ru (.dK (aT B.rus (.inr t:aC) (.ref a))) B.ru=some (.dK (aT B.rus (.inr t:aC) (.ref a))):=aK
  have n7:∀b,upd H6 B.ru (.dK (aT B.rus (.inr t:aC) (.ref a))) b=none->H6 b=none:=fun b z=>by
   have:b≠B.ru:=fun y=>by rw[y,aK]at z;cases z
   rw[aH this]at z
   exact z
  generalize upd H6 B.ru (.dK (aT B.rus (.inr t:aC) (.ref a)))=H7 at u7 r7 n7|-
  have b7:=u7 _ _ (fun z=>by rw[z,r6]at b6;cases b6) b6
  have m7:=u7 _ _ sp.um.symm m6
  refine fun m hm=> ?_
  have s8:=aG.new (o:=.dK []) hm
  refine⟨_,rfl,B.b,CB,dx,_,_,rfl,s8 _ _ b7,Y.cl,Y.n_memory,(dG _ _ _ _).2.2.1,_,rfl,B.me,_,rfl,iC.k (k:=Sum.inr t) (s8 _ _ m7) (cQ (by omega)),?_⟩
  have nmm:m≠B.me:=fun z=>by rw[z,m7]at hm;cases hm
  have u9:∀b o,b≠B.me->H7 b=some o->upd (upd H7 m (.dK [])) B.me (.dK (aT B.mes (.inr t:aC) (.ref m))) b=some o:=fun b o n z=>by
   rw[aH n]
   exact s8 _ _ z
  have e9:upd (upd H7 m (.dK [])) B.me (.dK (aT B.mes (.inr t:aC) (.ref m))) B.me=some (.dK (aT B.mes (.inr t:aC) (.ref m))):=aK
  have d9:upd (upd H7 m (.dK [])) B.me (.dK (aT B.mes (.inr t:aC) (.ref m))) m=some (.dK []):=by rw[aH nmm,aK]
  generalize upd (upd H7 m (.dK [])) B.me (.dK (aT B.mes (.inr t:aC) (.ref m)))=H9 at u9 e9 d9|-
  have up:∀b o,b≠B.od->b≠B.ru->b≠B.me->H b=some o->H9 b=some o:=fun b o n1 n2 n3 z=>u9 _ _ n3 (u7 _ _ n2 (u6 _ _ n1 z))
  obtain⟨⟨dt,t1⟩,t2,t3⟩:=id tb
  have nd3:∀{b:Addr} {o:HO},H b=some o->(∀kvs,o≠ .dK kvs)->b≠B.ru/\b≠B.me:=fun z n=>⟨fun y=>by rw[y,h3]at z;exact n _ (Option.some.inj z).symm,fun y=>by rw[y,h4]at z;exact n _ (Option.some.inj z).symm⟩
  have i1:=nd3 h1 (fun kvs z=>by cases z)
  have i2:=nd3 t1 (fun kvs z=>by cases z)
  have i3:=nd3 t2 (fun kvs z=>by cases z)
  have i5:=nd3 h5 (fun kvs z=>by cases z)
  refine q H9 m (n6 _ (n7 _ hm)).1 ⟨⟨dx,up _ _ (nl5 h1 (fun xs z=>by cases z)) i1.1 i1.2 h1⟩,⟨⟨dt,up _ _ (nl5 t1 (fun xs z=>by cases z)) i2.1 i2.2 t1⟩,up _ _ sp.ro i3.1 i3.2 t2,up _ _ (nl5 t3 (fun xs z=>by cases z)) sp.eu sp.em t3⟩,?_,e9,?_⟩ d9 up
  ·exact u9 _ _ sp.um r7
  ·exact u9 _ _ i5.2 (u7 _ _ i5.1 o6)
end
noncomputable def rO (bd:Addr) (nm:Str) (m:Nat):List (Str×V):=[("boards",V.ref bd),("name",V.str nm),("size",V.int (m:Int))]
theorem a0b(bd:Addr)(nm:Str)(m:Nat):(rO bd nm m).lookup ("boards":Str)=some (.ref bd)/\(rO bd nm m).lookup ("name":Str)=some (.str nm)/\(rO bd nm m).lookup ("size":Str)=some (.int (m:Int))/\(rO bd nm m).lookup ("take":Str)=none:=⟨rfl,rfl,rfl,rfl⟩
noncomputable def mT (b:Addr) (t:Str) (a:Addr):List (Str×V):=[("board",V.ref b),("column",V.str t),("after",V.ref a),("before",V.non)]
theorem a9P(b:Addr)(t:Str)(a:Addr):(mT b t a).lookup ("board":Str)=some (.ref b)/\(mT b t a).lookup ("column":Str)=some (.str t)/\(mT b t a).lookup ("after":Str)=some (.ref a)/\(mT b t a).lookup ("take":Str)=none/\aQ "before" .non (mT b t a)=mT b t a:=⟨rfl,rfl,rfl,rfl,rfl⟩
section
variable{P:Program}{w:World}{K:Fg}{mg:Str->Option Value}{base:Heap}
def b1k(C:Addr):Sp:=fun vs H Q _=>∃(p dx bd:Addr) (nm:Str) (m:Nat),vs= [.ref p,.ref bd,.str nm,.int (m:Int)] /\H p=some (.ins C dx [])/\∀H',bG p H H'->H' p=some (.ins C dx (rO bd nm m))->Q .non H'
theorem b8W:aY ["self","boards","name","size"] ["self","boards","name","size"] (aF xC):=⟨rfl,rfl,rfl,by decide+kernel,rfl,by decide+kernel,by decide+kernel⟩
theorem xK(T:aZ K mg){C:Addr}(Y:zP K mg C):dI P w K mg base aB 1 C ["self","boards","name","size"] (b1k C):=by
 refine(Y.m_init.known b8W (fun _ _ _ _ _ _ us hl=>mF (fun _ _ _ _=>rfl) us hl) (fun vs H Q E h=> ?_) (fun f cdv A outer s H vs Q E hr h=> ?_)).init Y.mks Y.kc
 ·obtain⟨p,dx,bd,nm,m,rfl,_⟩:=h
  rfl
 ·obtain⟨p,dx,bd,nm,m,rfl,hp,q⟩:=h
  refine⟨_,(aJ (cM (pv 0) (pv 1) rfl) (aJ (cM (pv 0) (pv 2) rfl) (aI (cM (pv 0) (pv 3) rfl)))),?_⟩
  refine⟨_,rfl,_,rfl,p,C,dx,[],rfl,hp,Y.cl,Y.n_boards,(by show 0<1000;decide),?_⟩
  refine⟨_,rfl,_,rfl,p,C,dx,_,rfl,aK,Y.cl,Y.n_name,(by show 1<1000;decide),?_⟩
  refine⟨_,rfl,_,rfl,p,C,dx,_,rfl,aK,Y.cl,Y.n_size,(by show 2<1000;decide),?_⟩
  exact q _ (fun b o n z=>by rw[aH n,aH n,aH n];exact z) aK
def a4F(C:Addr):Sp:=fun vs H Q _=>∃(p dx b a:Addr) (t:Str),vs= [.ref p,.ref b,.str t,.ref a] /\H p=some (.ins C dx [])/\∀H',bG p H H'->H' p=some (.ins C dx (mT b t a))->Q .non H'
theorem b5y:aY ["self","board","column","content"] ["self","board","column","content"] (aF rV):=⟨rfl,rfl,rfl,by decide+kernel,rfl,by decide+kernel,by decide+kernel⟩
theorem rJ(T:aZ K mg){C:Addr}(Y:pN K mg C):dI P w K mg base aB 1 C ["self","board","column","content"] (a4F C):=by
 refine(Y.m_init.known b5y (fun _ _ _ _ _ _ us hl=>mF (fun _ _ _ _=>rfl) us hl) (fun vs H Q E h=> ?_) (fun f cdv A outer s H vs Q E hr h=> ?_)).init Y.mks Y.kc
 ·obtain⟨p,dx,b,a,t,rfl,_⟩:=h
  rfl
 ·obtain⟨p,dx,b,a,t,rfl,hp,q⟩:=h
  refine⟨_,(aJ (cM (pv 0) (pv 1) rfl) (aJ (cM (pv 0) (pv 2) rfl) (aJ (cM (pv 0) (pv 3) rfl) (aI (cM (pv 0) iG rfl))))),?_⟩
  refine⟨_,rfl,_,rfl,p,C,dx,[],rfl,hp,Y.cl,Y.n_board,(by show 0<1000;decide),?_⟩
  refine⟨_,rfl,_,rfl,p,C,dx,_,rfl,aK,Y.cl,Y.n_column,(by show 1<1000;decide),?_⟩
  refine⟨_,rfl,_,rfl,p,C,dx,_,rfl,aK,Y.cl,Y.n_after,(by show 2<1000;decide),?_⟩
  refine⟨_,rfl,p,C,dx,_,rfl,aK,Y.cl,Y.n_before,(by show 3<1000;decide),?_⟩
  exact q _ (fun b o n z=>by rw[aH n,aH n,aH n,aH n];exact z) aK
def spTT(C CB CT:Addr):Sp:=fun vs H Q _=>∃(p dx bd:Addr) (nm:Str) (m:Nat) (kb:List (aC×V)),vs= [.ref p] /\H p=some (.ins C dx (rO bd nm m))/\H bd=some (.dK kb)/\kb.length<100/\m<=30/\
 ∀H' b g r e ru me od,cW CB CT H' ⟨b,g,r,e,ru,me,od,eT 0 m,(m:Int),[],[],[],[]⟩ ->BM.sep ⟨b,g,r,e,ru,me,od,eT 0 m,(m:Int),[],[],[],[]⟩ ->(∀x∈ [b,g,r,e,ru,me,od],H x=none)->H' bd=some (.dK (aT kb (.inr nm:aC) (.ref b)))->(∀x o,x≠bd->H x=some o->H' x=some o)->Q .non H'
theorem b4S:aY ["self"] ["self"] (aF xI):=⟨rfl,rfl,rfl,by decide+kernel,rfl,by decide+kernel,by decide+kernel⟩
theorem tZ(T:aZ K mg){C CB CT:Addr}(Y:zP K mg C)(W:cU K mg CB)(Z:dO K mg CT):aN P w K mg base aB 7 C "take" ["self"] (spTT C CB CT):=by
 have GI:dI P w K mg base aB 5 CB ["self","many"] (b1W CB CT):=vT T W Z
 refine Y.m_take.known b4S (fun _ _ _ _ _ _ us hl=>dM (fun _=>rfl) us hl) (fun vs H Q E h=> ?_) (fun f cdv A outer s H vs Q E hr h=> ?_)
 ·obtain⟨p,dx,bd,nm,m,kb,rfl,_⟩:=h
  rfl
 ·obtain⟨p,dx,bd,nm,m,kb,rfl,hp,hb,kl,hm,q⟩:=h
  refine⟨_,(aI (jI (eC hr) (aX (pv 0) rfl) (aX (pv 0) rfl) (jO GI hr W.c aM (aA (aX (pv 0) rfl) aE)) rfl)),?_⟩
  refine⟨_,rfl,p,C,dx,_,_,rfl,hp,Y.cl,Y.n_size,(a0b _ _ _).2.2.1,?_⟩
  intro b db hb0 hdb ne
  refine⟨b,db,m,rfl,aK,hm,fun H1 g r e ru me od hB sp fr fm=>⟨rfl,?_⟩⟩
  have s1:aG H H1:=fun x o z=>fm x o (by rw[aH (bD z hb0),aH (bD z hdb)];exact z) (bD z hb0)
  have fr':∀x∈ [b,g,r,e,ru,me,od],H x=none:=fun x hx=>by
   rcases List.mem_cons.mp hx with rfl|hx
   ·exact hb0
   ·have:=fr x hx
    by_cases z:x=b
    ·rw[z];exact hb0
    ·by_cases z2:x=db
     ·rw[z2];exact hdb
     ·rw[aH z,aH z2]at this;exact this
  refine⟨_,rfl,p,C,dx,_,_,rfl,s1 _ _ hp,Y.cl,Y.n_boards,(a0b _ _ _).1,_,rfl,p,C,dx,_,_,rfl,s1 _ _ hp,Y.cl,Y.n_name,(a0b _ _ _).2.1,bd,_,rfl,iC.k (k:=Sum.inr nm) (s1 _ _ hb) (cQ (by omega)),?_⟩
  have nb:∀{x:Addr},x∈ [b,g,r,e,ru,me,od] ->x≠bd:=fun hx z=>by rw[<- z,fr' _ hx]at hb;cases hb
  have u:∀x o,x≠bd->H1 x=some o->upd H1 bd (.dK (aT kb (.inr nm:aC) (.ref b))) x=some o:=fun x o n z=>by rw[aH n];exact z
  obtain⟨⟨d1,e1⟩,⟨⟨d2,e2⟩,e3,e4⟩,e5,e6,e7⟩:=hB
  exact q _ b g r e ru me od ⟨⟨d1,u _ _ (nb (by simp)) e1⟩,⟨⟨d2,u _ _ (nb (by simp)) e2⟩,u _ _ (nb (by simp)) e3,u _ _ (nb (by simp)) e4⟩,u _ _ (nb (by simp)) e5,u _ _ (nb (by simp)) e6,u _ _ (nb (by simp)) e7⟩ sp fr' aK (fun x o n z=>u _ _ n (s1 _ _ z))
def spCS(C CB CT:Addr)(sp:Sp):Sp:=fun vs H Q _=>∃(p dx a:Addr) (B:BM) (t:Str),vs= [.ref p] /\H p=some (.ins C dx (mT B.b t a))/\cW CB CT H B/\qO B t/\sp [.ref B.b,.str t,.ref a] H (fun _ H'=>Q .non H') E0
theorem b47:aY ["self"] ["self"] (aF sJ):=⟨rfl,rfl,rfl,by decide+kernel,rfl,by decide+kernel,by decide+kernel⟩
theorem qH(T:aZ K mg){C CB CT:Addr}(Y:pN K mg C)(W:cU K mg CB){sp:Sp}(G:aN P w K mg base aB 6 CB "set_column" ["self","column","content"] sp):aN P w K mg base aB 7 C "take" ["self"] (spCS C CB CT sp):=by
 have G_content:aN P w K mg base aB 2 CB "content" ["self","column"] (yU CB CT):=tH T W
 refine Y.m_take.known b47 (fun _ _ _ _ _ _ us hl=>dM (fun _=>rfl) us hl) (fun vs H Q E h=> ?_) (fun f cdv A outer s H vs Q E hr h=> ?_)
 ·obtain⟨p,dx,a,B,t,rfl,_⟩:=h
  rfl
 ·obtain⟨p,dx,a,B,t,rfl,hp,hB,hn,q⟩:=h
  refine⟨_,(aJ (cM (pv 0) (bW (aX (pv 0) rfl) W.cl G_content (hr.mono (by decide)) aM (aA (aX (pv 0) rfl) aE)) rfl)
   (aI (bZ (bW (aX (pv 0) rfl) W.cl G hr aM (aA (aX (pv 0) rfl) (aA (aX (pv 0) rfl) aE)))))),?_⟩
  obtain⟨c1,c2,c3,c4,c5⟩:=a9P B.b t a
  obtain⟨dB,h1⟩:=hB.at_
  refine⟨_,rfl,p,C,dx,_,_,rfl,hp,Y.cl,Y.n_board,c1,B.b,dB,_,rfl,h1,pF,_,rfl,p,C,dx,_,_,rfl,hp,Y.cl,Y.n_column,c2,B,t,rfl,hB,hn,?_⟩
  refine⟨_,rfl,p,C,dx,_,rfl,hp,Y.cl,Y.n_before,(by show 4<1000;decide),?_⟩
  rw[c5,b9x hp]
  exact⟨_,rfl,p,C,dx,_,_,rfl,hp,Y.cl,Y.n_board,c1,B.b,dB,_,rfl,h1,pF,_,rfl,p,C,dx,_,_,rfl,hp,Y.cl,Y.n_column,c2,_,rfl,p,C,dx,_,_,rfl,hp,Y.cl,Y.n_after,c3,q⟩
end
def eB(bd ch fi:Addr):List (Str×V):=[("boards",V.ref bd),("changes",V.ref ch),("finder",V.ref fi)]
theorem kN(bd ch fi:Addr):(eB bd ch fi).lookup ("boards":Str)=some (.ref bd)/\(eB bd ch fi).lookup ("changes":Str)=some (.ref ch)/\(eB bd ch fi).lookup ("finder":Str)=some (.ref fi)/\∀fi',aQ "finder" (.ref fi') (eB bd ch fi)=eB bd ch fi':=⟨rfl,rfl,rfl,fun _=>rfl⟩
theorem eO{bd ch fi:Addr}{m:Str}(h:(m==("boards":Str)||m==("changes":Str)||m==("finder":Str))=false:=by decide+kernel):(eB bd ch fi).lookup m=none:=by
 simp only[Bool.or_eq_false_iff]at h
 obtain⟨⟨h1,h2⟩,h3⟩:=h
 unfold eB
 simp[List.lookup,h1,h2,h3]
def fY(bd fd lk:Addr):List (Str×V):=[("boards",V.ref bd),("found",V.ref fd),("looked",V.ref lk)]
theorem jH(bd fd lk:Addr):(fY bd fd lk).lookup ("boards":Str)=some (.ref bd)/\(fY bd fd lk).lookup ("found":Str)=some (.ref fd)/\(fY bd fd lk).lookup ("looked":Str)=some (.ref lk):=⟨rfl,rfl,rfl⟩
theorem kJ{bd fd lk:Addr}{m:Str}(h:(m==("boards":Str)||m==("found":Str)||m==("looked":Str))=false:=by decide+kernel):(fY bd fd lk).lookup m=none:=by
 simp only[Bool.or_eq_false_iff]at h
 obtain⟨⟨h1,h2⟩,h3⟩:=h
 unfold fY
 simp[List.lookup,h1,h2,h3]
section
variable{P:Program}{w:World}{K:Fg}{mg:Str->Option Value}{base:Heap}
def spFI(C:Addr):Sp:=fun vs H Q _=>∃(p dx bd:Addr),vs= [.ref p,.ref bd] /\H p=some (.ins C dx [])/\
 ∀H' fd lk,H fd=none->H lk=none->fd≠lk->H' p=some (.ins C dx (fY bd fd lk))->H' fd=some (.dT [])->H' lk=some (.dT [])->bG p H H'->Q .non H'
theorem b4C:aY ["self","boards"] ["self","boards"] (aF uZ):=⟨rfl,rfl,rfl,by decide+kernel,rfl,by decide+kernel,by decide+kernel⟩
theorem qW(T:aZ K mg){C:Addr}(Y:eM K mg C):dI P w K mg base aB 1 C ["self","boards"] (spFI C):=by
 refine(Y.m_init.known b4C (fun _ _ _ _ _ _ us hl=>dJ (fun _ _=>rfl) us hl) (fun vs H Q E h=> ?_) (fun f cdv A outer s H vs Q E hr h=> ?_)).init Y.mks Y.kc
 ·obtain⟨p,dx,bd,rfl,_⟩:=h
  rfl
 ·obtain⟨p,dx,bd,rfl,hp,q⟩:=h
  refine⟨_,(aJ (cM (pv 0) (pv 1) rfl) (aJ (cM (pv 0) uD rfl) (aI (cM (pv 0) uD rfl)))),?_⟩
  refine⟨_,rfl,_,rfl,p,C,dx,[],rfl,hp,Y.cl,Y.n_boards,(by show 0<1000;decide),?_⟩
  have u1:∀b o,b≠p->H b=some o->upd H p (.ins C dx (aQ "boards" (.ref bd) [])) b=some o:=fun b o n z=>by rw[aH n];exact z
  have p1:upd H p (.ins C dx (aQ "boards" (.ref bd) [])) p=some (.ins C dx (aQ "boards" (.ref bd) [])):=aK
  have n1:∀b,upd H p (.ins C dx (aQ "boards" (.ref bd) [])) b=none->H b=none/\b≠p:=fun b z=>by
   have:b≠p:=fun y=>by rw[y,aK]at z;cases z
   rw[aH this]at z
   exact⟨z,this⟩
  generalize upd H p (.ins C dx (aQ "boards" (.ref bd) []))=H1 at u1 p1 n1|-
  refine fun fd hfd=> ?_
  have s2:=aG.new (o:=.dT []) hfd
  have h2:upd H1 fd (.dT []) fd=some (.dT []):=aK
  have n2:∀b,upd H1 fd (.dT []) b=none->H1 b=none/\b≠fd:=fun b z=>by
   have:b≠fd:=fun y=>by rw[y,aK]at z;cases z
   rw[aH this]at z
   exact⟨z,this⟩
  refine⟨_,rfl,p,C,dx,_,rfl,s2 _ _ p1,Y.cl,Y.n_found,(by show 1<1000;decide),?_⟩
  have hf:=n1 _ hfd
  generalize upd H1 fd (.dT [])=H2 at s2 h2 n2|-
  have u3:∀b o,b≠p->H2 b=some o->upd H2 p (.ins C dx (aQ "found" (.ref fd) (aQ "boards" (.ref bd) []))) b=some o:=fun b o n z=>by rw[aH n];exact z
  have p3:upd H2 p (.ins C dx (aQ "found" (.ref fd) (aQ "boards" (.ref bd) []))) p=some (.ins C dx (aQ "found" (.ref fd) (aQ "boards" (.ref bd) []))):=aK
  have n3:∀b,upd H2 p (.ins C dx (aQ "found" (.ref fd) (aQ "boards" (.ref bd) []))) b=none->H2 b=none/\b≠p:=fun b z=>by
   have:b≠p:=fun y=>by rw[y,aK]at z;cases z
   rw[aH this]at z
   exact⟨z,this⟩
  generalize upd H2 p (.ins C dx (aQ "found" (.ref fd) (aQ "boards" (.ref bd) [])))=H3 at u3 p3 n3|-
  refine fun lk hlk=> ?_
  have s4:=aG.new (o:=.dT []) hlk
  have h4:upd H3 lk (.dT []) lk=some (.dT []):=aK
  refine⟨_,rfl,p,C,dx,_,rfl,s4 _ _ p3,Y.cl,Y.n_looked,(by show 2<1000;decide),?_⟩
  have k3:=n3 _ hlk
  have k2:=n2 _ k3.1
  have k1:=n1 _ k2.1
  generalize upd H3 lk (.dT [])=H4 at s4 h4|-
  exact q _ fd lk hf.1 k1.1 k2.2.symm aK (by rw[aH hf.2];exact s4 _ _ (u3 _ _ hf.2 h2)) (by rw[aH k1.2];exact h4) (fun b o n z=>by rw[aH n];exact s4 _ _ (u3 _ _ n (s2 _ _ (u1 _ _ n z))))
def spMk(CS CF C:Addr)(sp:Sp):Sp:=fun vs H Q _=>∃(s c bd ch fi dx dc:Addr) (cs:List V) (fs:List (Str×V)),vs= [.ref s,.ref c] /\H c=some (.ins C dc fs)/\fs.lookup ("take":Str)=none/\
 sp [.ref c] H (fun _ H1=>H1 s=some (.ins CS dx (eB bd ch fi))/\H1 ch=some (.lst cs)/\cs.length<900/\∀H2 fi' fd lk df,H1 fi'=none->H1 fd=none->H1 lk=none->fd≠lk->H2 s=some (.ins CS dx (eB bd ch fi'))->H2 ch=some (.lst (cs++ [.ref c]))->H2 fi'=some (.ins CF df (fY bd fd lk))->H2 fd=some (.dT [])->H2 lk=some (.dT [])->
  (∀x o,x≠s->x≠ch->H1 x=some o->H2 x=some o)->Q .non H2) E0
theorem b4G:aY ["self","change"] ["self","change"] (aF vF):=⟨rfl,rfl,rfl,by decide+kernel,rfl,by decide+kernel,by decide+kernel⟩
def jV(sp:Sp):Prop:=∀vs H (Q Q':VK),(∀v H',Q v H'->Q' v H')->sp vs H Q E0->sp vs H Q' E0
theorem oI(T:aZ K mg){CS CF C:Addr}(Y:eZ K mg CS)(Z:eM K mg CF)(cl:bX K C){sp:Sp}(mono:jV sp)(G:aN P w K mg base aB 7 C "take" ["self"] sp):aN P w K mg base aB 8 CS "make" ["self","change"] (spMk CS CF C sp):=by
 have GI:dI P w K mg base aB 1 CF ["self","boards"] (spFI CF):=qW T Z
 refine Y.m_make.known b4G (fun _ _ _ _ _ _ us hl=>dJ (fun _ _=>rfl) us hl) (fun vs H Q E h=> ?_) (fun f cdv A outer s H vs Q E hr h=> ?_)
 ·obtain⟨s',c,bd,ch,fi,dx,dc,cs,fs,rfl,_⟩:=h
  rfl
 ·obtain⟨s',c,bd,ch,fi,dx,dc,cs,fs,rfl,hc,hf,q⟩:=h
  refine⟨_,(aJ (bZ (lJ (pv 1) cl G hr aM))
   (aJ (bZ (iJ PySem.F.plainAttrs_list PySem.F.slot_list_append PySem.F.type_list_append gT (aX (pv 0) rfl) (aA (pv 1) aE)))
   (aI (cM (pv 0) (jO GI (hr.mono (by decide)) Z.c aM (aA (aX (pv 0) rfl) aE)) rfl)))),?_⟩
  refine⟨_,rfl,c,dc,fs,rfl,hc,hf,?_⟩
  refine mono _ _ _ _ (fun v0 H1 hQ=> ?_) q
  obtain⟨h1,h2,l9,qq⟩:=hQ
  obtain⟨a1,a2,a3,a4⟩:=kN bd ch fi
  refine⟨_,rfl,s',CS,dx,_,_,rfl,h1,Y.cl,Y.n_changes,a2,.inl ⟨rfl,_,aL.of h2⟩,_,rfl,ch,_,_,rfl,rfl,h2,cQ (by omega),?_⟩
  have nsc:s'≠ch:=fun z=>by rw[z,h2]at h1;cases h1
  have u2:∀x o,x≠ch->H1 x=some o->upd H1 ch (.lst (cs++ [.ref c])) x=some o:=fun x o n z=>by rw[aH n];exact z
  have c2:upd H1 ch (.lst (cs++ [.ref c])) ch=some (.lst (cs++ [.ref c])):=aK
  have n2:∀b,upd H1 ch (.lst (cs++ [.ref c])) b=none->H1 b=none/\b≠ch:=fun b z=>by
   have:b≠ch:=fun y=>by rw[y,aK]at z;cases z
   rw[aH this]at z
   exact⟨z,this⟩
  generalize upd H1 ch (.lst (cs++ [.ref c]))=H2 at u2 c2 n2|-
  have s2:=u2 _ _ nsc h1
  refine⟨_,rfl,s',CS,dx,_,_,rfl,s2,Y.cl,Y.n_boards,a1,?_⟩
  intro fi' df hfi hdf ne
  refine⟨fi',df,bd,rfl,aK,fun H3 fd lk hfd hlk nfl g1 g2 g3 b3=>⟨rfl,?_⟩⟩
  have s3:aG H2 H3:=fun b o z=>b3 b o (bD z hfi) (by rw[aH (bD z hfi),aH (bD z hdf)];exact z)
  have fr:∀{x:Addr},upd (upd H2 df (.own fi')) fi' (.ins CF df []) x=none->H2 x=none:=fun{x} z=>by
   by_cases z1:x=fi'
   ·rw[z1];exact hfi
   ·by_cases z2:x=df
    ·rw[z2];exact hdf
    ·rw[aH z1,aH z2]at z;exact z
  refine⟨_,rfl,s',CS,dx,_,rfl,s3 _ _ s2,Y.cl,Y.n_finder,(by show 3<1000;decide),?_⟩
  rw[a4]
  have ns:∀{x:Addr},H2 x=none->x≠s':=fun z y=>by rw[y,s2]at z;cases z
  exact qq _ fi' fd lk df (n2 _ hfi).1 (n2 _ (fr hfd)).1 (n2 _ (fr hlk)).1 nfl aK (by rw[aH nsc.symm];exact s3 _ _ c2) (by rw[aH (ns hfi)];exact g1) (by rw[aH (ns (fr hfd))];exact g2) (by rw[aH (ns (fr hlk))];exact g3) (fun x o n1 n2' z=>by rw[aH n1];exact s3 _ _ (u2 _ _ n2' z))
def sO(CS CB CT:Addr):Sp:=fun vs H Q _=>∃(s bd ch fi dx:Addr) (kb:List (aC×V)) (nm:Str) (v:V),vs= [.ref s,.str nm] /\H s=some (.ins CS dx (eB bd ch fi))/\H bd=some (.dK kb)/\Nl nm/\aO kb (.inr nm:aC)=some v/\∀H',aG H H'->Q v H'
theorem b9Z:aY ["self","table"] ["self","table"] (aF vB):=⟨rfl,rfl,rfl,by decide+kernel,rfl,by decide+kernel,by decide+kernel⟩
theorem nD(T:aZ K mg){CS CB CT:Addr}(Y:eZ K mg CS):aN P w K mg base aB 2 CS "board_of" ["self","table"] (sO CS CB CT):=by
 have G_is_name:bK P w K mg base aB 1 "is_name" ["thing"] (lN K):=jL T
 refine Y.m_board_of.known b9Z (fun _ _ _ _ _ _ us hl=>dJ (fun _ _=>rfl) us hl) (fun vs H Q E h=> ?_) (fun f cdv A outer s H vs Q E hr h=> ?_)
 ·obtain⟨s',bd,ch,fi,dx,kb,nm,v,rfl,_⟩:=h
  rfl
 ·obtain⟨s',bd,ch,fi,dx,kb,nm,v,rfl,h1,h2,ht,hv,q⟩:=h
  refine⟨_,(aJ (bN (PW.pt (fP (dC (cH (bR G_is_name (hr.mono (by decide)) aM (aA (pv 1) aE)) (fun _=>rfl))) (gP (jP (mH (eC hr) (pv 1) (aX (pv 0) rfl)))))) (aI cF) bO)
   (aI (bE (fV (eC hr) (aX (pv 0) rfl) (pv 1) (fun _ _=>rfl))))),?_⟩
  have h8:=ht.2.1
  refine⟨_,rfl,_,.str nm,rfl,.str nm,lO (by omega),fun H' s9=>⟨_,rfl,?_⟩⟩
  rw[show fI (.str nm)=true from ht.name]
  refine bJ ⟨_,rfl,_,rfl,s',CS,dx,_,_,rfl,s9 _ _ h1,Y.cl,Y.n_boards,(kN _ _ _).1,bd,_,rfl,cC.k (k:=Sum.inr nm) (s9 _ _ h2),_,rfl,?_⟩
  rw[hv]
  exact bJ ⟨_,rfl,s',CS,dx,_,_,rfl,s9 _ _ h1,Y.cl,Y.n_boards,(kN _ _ _).1,_,rfl,bd,v,rfl,hv▸cC.k (k:=Sum.inr nm) (s9 _ _ h2),q _ s9⟩
def a3O(CS CB CT:Addr):Sp:=fun vs H Q _=>∃(s bd ch fi dx:Addr) (kb:List (aC×V)) (nm t:Str) (B:BM),vs= [.ref s,.str nm,.str t] /\H s=some (.ins CS dx (eB bd ch fi))/\H bd=some (.dK kb)/\Nl nm/\aO kb (.inr nm:aC)=some (.ref B.b)/\cW CB CT H B/\Nl t/\t∈B.ord/\∀H',aG H H'->Q (.ref B.b) H'
theorem b1y:aY ["self","table","column","board"] ["self","table","column"] (aF tV):=⟨rfl,rfl,rfl,by decide+kernel,rfl,by decide+kernel,by decide+kernel⟩
theorem rM(T:aZ K mg){CS CB CT:Addr}(Y:eZ K mg CS)(W:cU K mg CB):aN P w K mg base aB 3 CS "board_with" ["self","table","column"] (a3O CS CB CT):=by
 have G_of:aN P w K mg base aB 2 CS "board_of" ["self","table"] (sO CS CB CT):=nD T Y
 have G_has:aN P w K mg base aB 2 CB "has_column" ["self","column"] (a8F CB CT):=pR T W
 refine Y.m_board_with.known b1y (fun _ _ _ _ _ _ us hl=>dP (fun _ _ _=>rfl) us hl) (fun vs H Q E h=> ?_) (fun f cdv A outer s H vs Q E hr h=> ?_)
 ·obtain⟨s',bd,ch,fi,dx,kb,nm,t,B,rfl,_⟩:=h
  rfl
 ·obtain⟨s',bd,ch,fi,dx,kb,nm,t,B,rfl,h1,h2,hn,hv,hB,ht,ho,q⟩:=h
  refine⟨_,(aJ (bV (i:=3) b1y.nd rfl (Or.inl rfl) (bW (pv 0) Y.cl G_of hr aM (aA (pv 1) aE)))
   (aJ (bN (dC (cH (bW (pv 3) W.cl G_has hr aM (aA (pv 2) aE)) (fun _=>rfl))) (aI cF) bO)
   (aI (bE (pv 3))))),?_⟩
  refine⟨_,rfl,s',dx,_,rfl,h1,eO,_,rfl,s',bd,ch,fi,dx,kb,nm,_,rfl,h1,h2,hn,hv,fun H1 s1=> ?_⟩
  have hB1:=hB.same s1
  obtain⟨dB,b1⟩:=hB1.at_
  refine⟨_,rfl,B.b,dB,_,rfl,b1,pF,_,rfl,B,t,rfl,hB1,ht,fun H2 s2=>⟨_,rfl,?_⟩⟩
  rw[decide_eq_true ho]
  exact bJ ⟨_,rfl,q _ (s1.trans s2)⟩
def a6d(CS CB CT:Addr):Sp:=fun vs H Q _=>∃(s bd ch fi dx:Addr) (kb:List (aC×V)) (nm t:Str) (B:BM),vs= [.ref s,.str nm,.str t] /\H s=some (.ins CS dx (eB bd ch fi))/\H bd=some (.dK kb)/\Nl nm/\aO kb (.inr nm:aC)=some (.ref B.b)/\cW CB CT H B/\Nl t/\B.ord.length<8/\∀H',aG H H'->Q (.ref B.b) H'
theorem b2n:aY ["self","table","column","board"] ["self","table","column"] (aF wM):=⟨rfl,rfl,rfl,by decide+kernel,rfl,by decide+kernel,by decide+kernel⟩
theorem pP(T:aZ K mg){CS CB CT:Addr}(Y:eZ K mg CS)(W:cU K mg CB):aN P w K mg base aB 3 CS "board_for" ["self","table","column"] (a6d CS CB CT):=by
 have G_of:aN P w K mg base aB 2 CS "board_of" ["self","table"] (sO CS CB CT):=nD T Y
 have G_is_name:bK P w K mg base aB 1 "is_name" ["thing"] (lN K):=jL T
 refine Y.m_board_for.known b2n (fun _ _ _ _ _ _ us hl=>dP (fun _ _ _=>rfl) us hl) (fun vs H Q E h=> ?_) (fun f cdv A outer s H vs Q E hr h=> ?_)
 ·obtain⟨s',bd,ch,fi,dx,kb,nm,t,B,rfl,_⟩:=h
  rfl
 ·obtain⟨s',bd,ch,fi,dx,kb,nm,t,B,rfl,h1,h2,hn,hv,hB,ht,ho,q⟩:=h
  refine⟨_,(aJ (bV (i:=3) b2n.nd rfl (Or.inl rfl) (bW (pv 0) Y.cl G_of hr aM (aA (pv 1) aE)))
   (aJ (bN (dC (cH (bR G_is_name (hr.mono (by decide)) aM (aA (pv 2) aE)) (fun _=>rfl))) (aI cF) bO)
   (aJ (bN (PW.pt (oY (cJ zK (pv 2) (aX (pv 3) rfl) (by with_unfolding_all rfl)) (oR (cJ b0Y (cD fX rfl T.len fJ (aA (aX (pv 3) rfl) aE)) (rE T.g_MOST_COLUMNS) (cO _))))) (aI cF) bO)
   (aI (bE (pv 3)))))),?_⟩
  refine⟨_,rfl,s',dx,_,rfl,h1,eO,_,rfl,s',bd,ch,fi,dx,kb,nm,_,rfl,h1,h2,hn,hv,fun H1 s1=> ?_⟩
  have h8:=ht.2.1
  refine⟨_,rfl,_,.str t,rfl,.str t,lO (by omega),fun H2 s2=>⟨_,rfl,?_⟩⟩
  rw[show fI (.str t)=true from ht.name]
  obtain⟨⟨dB,b1⟩,_,_,_,o1⟩:=(hB.same s1).same s2
  refine bJ ⟨_,rfl,_,rfl,B.b,CB,dB,_,_,rfl,b1,W.cl,W.n_order,(dG _ _ _ _).2.2.2,B.od,_,rfl,.inl (aL.of o1),rfl,nL _,_,rfl,?_⟩
  have fin:Q (.ref B.b) H2:=q _ (s1.trans s2)
  refine dN (fun _=> ?_) (fun _=> ?_)
  ·refine⟨_,rfl,B.b,CB,dB,_,_,rfl,b1,W.cl,W.n_order,(dG _ _ _ _).2.2.2,_,_,rfl,.inl ⟨_,aL.of o1,rfl⟩,_,_,rfl,rfl,_,rfl,?_⟩
   rw[List.length_map,decide_eq_false (show¬(B.ord.length:Int)>=8 by omega)]
   exact bJ ⟨_,rfl,fin⟩
  ·exact bJ ⟨_,rfl,fin⟩
def iY(P:Program)(w:World)(K:Fg)(mg:Str->Option Value)(base:Heap)(k:Nat)(m qual:Str)(st:Stmt)(ps:List Str)(sp:Sp):Prop:=∀f fd,iX K m qual st f fd->eU P w K mg base aB k f fd ps sp
theorem a1M{m qual:Str}{st:Stmt}{N ps:List Str}{k:Nat}{sp:Sp}(S:aY N ps (aF st))(len:∀vs H Q E,sp vs H Q E->vs.length=ps.length)
 (hbody:∀(f:Addr) (cdv:Value) (A:Around) (outer:List Env) (s:Shared) (H:Hp) (vs:List V) (Q:VK) (E:XK),bT k (A.deeper (PyProof.Rows.envOfC qual (aF st) s.heap.objs.size f cdv))->sp vs H Q E->
  ∃t,eL (dX aB P w K mg base N qual (aF st) f cdv A outer s H E).nox (aS st) t/\t {nx:=fun _ H'=>Q .non H',rt:=Q} (start N vs) H):iY P w K mg base (k+ 1) m qual st ps sp:=fun f fd F=>
 F.ok S len fun cdv A outer s H vs Q E hr h=>hbody f cdv A outer s H vs Q E hr h
theorem iY.le{m qual:Str}{st:Stmt}{ps:List Str}{j k:Nat}{sp:Sp}(G:iY P w K mg base j m qual st ps sp)(h:j<=k):iY P w K mg base k m qual st ps sp:=fun f fd F=>(G f fd F).mono h
theorem iY.or{m qual:Str}{st:Stmt}{ps:List Str}{k:Nat}{sp sp':Sp}(G:iY P w K mg base k m qual st ps sp)(G':iY P w K mg base k m qual st ps sp'):iY P w K mg base k m qual st ps (fun vs H Q E=>sp vs H Q E\/ sp' vs H Q E):=fun f fd F=>
 ⟨fun vs H Q E h=>h.elim ((G f fd F).len vs H Q E) ((G' f fd F).len vs H Q E),fun A outer s H args us vs Q E hr he hb hv h=>h.elim (fun h=>(G f fd F).run A outer s H args us vs Q E hr he hb hv h) fun h=>(G' f fd F).run A outer s H args us vs Q E hr he hb hv h⟩
theorem iY.known{C:Addr}{m qual:Str}{st:Stmt}{ps:List Str}{k:Nat}{sp:Sp}(G:iY P w K mg base k m qual st ps sp)(D:bA K C m qual st)
 (hb:∀(kV doc pm:Value) (an:Option Addr) (cdv ct:Value) (us:List Value),us.length=ps.length->bindArgs (PySem.W.fnOf m qual (aV st) (aS st) (aF st) .none kV doc pm an cdv ct) ⟨us,[]⟩=pure (ps.zip us)):aN P w K mg base aB k C m ps sp:=by
 obtain⟨f,fd,F,ha,hi⟩:=D.ex
 exact⟨f,fd,G f fd F,⟨ha,hi,F.kp⟩,F.binds hb⟩
end
abbrev Ky:=List aC
def aU(t c:Str)(p:Nat):Ky:=[.inr t,.inr c,.inl (p:Int)]
structure dF(CF CB CT:Addr)(H:Hp)(fi bd fd lk:Addr)(nm:Str)(B:BM)(kf:List (Ky×V)):Prop where
 fin:∃dx,H fi=some (.ins CF dx (fY bd fd lk))
 bds:∃kb,H bd=some (.dK kb)/\aO kb (.inr nm:aC)=some (.ref B.b)
 B:cW CB CT H B
 fnd:H fd=some (.dT kf)
 len:kf.length<900
theorem dF.same{CF CB CT:Addr}{H H':Hp}{fi bd fd lk:Addr}{nm:Str}{B:BM}{kf:List (Ky×V)}(h:dF CF CB CT H fi bd fd lk nm B kf)(s:aG H H'):dF CF CB CT H' fi bd fd lk nm B kf:=
 ⟨let ⟨dx,e⟩:=h.fin;⟨dx,s _ _ e⟩,let ⟨kb,e1,e2⟩:=h.bds;⟨kb,s _ _ e1,e2⟩,h.B.same s,s _ _ h.fnd,h.len⟩
theorem dF.put{CF CB CT:Addr}{H H':Hp}{fi bd fd lk:Addr}{nm:Str}{B:BM}{kf kf':List (Ky×V)}(h:dF CF CB CT H fi bd fd lk nm B kf)(s:bG fd H H')(e:H' fd=some (.dT kf'))(l:kf'.length<900):dF CF CB CT H' fi bd fd lk nm B kf':=by
 have u:∀{x:Addr} {o:HO},H x=some o->(∀kvs,o≠ .dT kvs)->H' x=some o:=fun z n=>s _ _ (fun y=>by rw[y,h.fnd]at z;exact n _ (Option.some.inj z).symm) z
 obtain⟨dx,e1⟩:=h.fin
 obtain⟨kb,e2,e3⟩:=h.bds
 obtain⟨⟨d1,b1⟩,⟨⟨d2,b2⟩,b3,b4⟩,b5,b6,b7⟩:=h.B
 exact⟨⟨dx,u e1 (fun _ z=>by cases z)⟩,⟨kb,u e2 (fun _ z=>by cases z),e3⟩,⟨⟨d1,u b1 (fun _ z=>by cases z)⟩,⟨⟨d2,u b2 (fun _ z=>by cases z)⟩,u b3 (fun _ z=>by cases z),u b4 (fun _ z=>by cases z)⟩,u b5 (fun _ z=>by cases z),u b6 (fun _ z=>by cases z),u b7 (fun _ z=>by cases z)⟩,e,l⟩
section
variable{P:Program}{w:World}{K:Fg}{mg:Str->Option Value}{base:Heap}
def a31(CF CB CT:Addr):Sp:=fun vs H Q _=>∃(fi bd fd lk ce l:Addr) (nm c:Str) (p:Nat) (B:BM) (kf:List (Ky×V)) (ys:List V) (v:V),vs= [.ref fi,.ref ce] /\dF CF CB CT H fi bd fd lk nm B kf/\H ce=some (.tup ((aU nm c p).map kV))/\aO B.rus (.inr c:aC)=none/\Nl c/\aO B.kvs (.inr c:aC)=some (.ref l)/\H l=some (.lst ys)/\p<B.xs.length/\bY ys (p:Int)=some v/\(∀v',aO kf (aU nm c p)=some v'->v'=v)/\kf.length<899/\
 ∀H' kf',(kf'=kf\/ kf'=aT kf (aU nm c p) v)->aO kf' (aU nm c p)=some v->dF CF CB CT H' fi bd fd lk nm B kf'->bG fd H H'->Q (.bl true) H'
theorem a0J:aY ["self","cell","board"] ["self","cell"] (aF yO):=⟨rfl,rfl,rfl,by decide+kernel,rfl,by decide+kernel,by decide+kernel⟩
theorem b38(T:aZ K mg){CF CB CT:Addr}(Y:eM K mg CF)(W:cU K mg CB)(Z:dO K mg CT):aN P w K mg base aB 4 CF "knows" ["self","cell"] (a31 CF CB CT):=by
 have G_at:aN P w K mg base aB 3 CT "at" ["self","column","place"] (spAt CT):=yJ T Z
 refine Y.m_knows.known a0J (fun _ _ _ _ _ _ us hl=>dJ (fun _ _=>rfl) us hl) (fun vs H Q E h=> ?_) (fun f cdv A outer s H vs Q E hr h=> ?_)
 ·obtain⟨fi,bd,fd,lk,ce,l,nm,c,p,B,kf,ys,v,rfl,_⟩:=h
  rfl
 ·obtain⟨fi,bd,fd,lk,ce,l,nm,c,p,B,kf,ys,v,rfl,hF,hce,hru,hc,hv,hl,hp,ha,hcon,kl,q⟩:=h
  have hu:=eC hr
  refine⟨_,(aJ (bV (i:=2) a0J.nd rfl (Or.inl rfl) (fV hu (aX (pv 0) rfl) (bP eW (pv 1) aW (fun _ _=>rfl)) (fun _ _=>rfl)))
   (aJ (bN (PW.pt (oY (jP (mH hu (pv 1) (aX (pv 0) rfl))) (oR (jP (mH hu (bP eW (pv 1) aW (fun _ _=>rfl)) (aX (pv 2) rfl)))))) (aI (jI hu (aX (pv 0) rfl) (pv 1) (bW (aX (pv 2) rfl) Z.cl G_at hr aM (aA (bP eW (pv 1) aW (fun _ _=>rfl)) (aA (bP eW (pv 1) aW (fun _ _=>rfl)) aE))) rfl)) bO)
   (aI (bE (b0D (qI hu (pv 1) (aX (pv 0) rfl)) (by with_unfolding_all rfl)))))),?_⟩
  obtain⟨dx,e1⟩:=hF.fin
  obtain⟨kb,e2,e3⟩:=hF.bds
  obtain⟨⟨d1,b1⟩,tb,b5,_,_⟩:=id hF.B
  obtain⟨⟨d2,b2⟩,b3,b4⟩:=id tb
  have e4:=hF.fnd
  obtain⟨a1,a2,a3⟩:=jH bd fd lk
  refine⟨_,rfl,fi,CF,dx,_,_,rfl,e1,Y.cl,Y.n_boards,a1,_,rfl,ce,_,_,_,rfl,rfl,bU.of hce,rfl,bd,_,rfl,e3▸cC.k (k:=Sum.inr nm) e2,?_⟩
  have dgf:∀{H':Hp} {kf':List (Ky×V)},H' fd=some (.dT kf')->H' ce=some (.tup ((aU nm c p).map kV))->cC H' fd (.ref ce) (aO kf' (aU nm c p)):=fun e g=> .inr ⟨_,aU nm c p,ce,.inl e,rfl,g,rfl⟩
  refine⟨_,rfl,_,rfl,fi,CF,dx,_,_,rfl,e1,Y.cl,Y.n_found,a2,fd,_,rfl,dgf e4 hce,_,rfl,?_⟩
  cases hk:aO kf (aU nm c p)with
  |some v'=>
   obtain rfl:=hcon v' hk
   refine bJ (bJ ⟨_,rfl,_,rfl,fi,CF,dx,_,_,rfl,e1,Y.cl,Y.n_found,a2,fd,_,rfl,dgf e4 hce,?_⟩)
   rw[hk]
   exact q H kf (.inl rfl) hk hF (bG.of (aG.refl H))
  |none=>
   refine cG ⟨_,rfl,ce,_,_,_,rfl,rfl,bU.of hce,rfl,_,rfl,B.b,CB,d1,_,_,rfl,b1,W.cl,W.n_rules,(dG _ _ _ _).2.1,B.ru,_,rfl,cC.k (k:=Sum.inr c) b5,_,rfl,?_⟩
   rw[hru]
   refine cG ⟨_,rfl,B.b,CB,d1,_,_,rfl,b1,W.cl,W.n_given,(dG _ _ _ _).1,B.g,d2,_,rfl,b2,jJ,_,rfl,ce,_,_,_,rfl,rfl,bU.of hce,rfl,_,rfl,ce,_,_,_,rfl,rfl,bU.of hce,rfl,B.g,B.r,B.e,B.xs,B.n,B.kvs,c,l,ys,p,v,rfl,tb,hc,hv,hl,hp,ha,fun H1 s1=> ?_⟩
   have F1:=hF.same s1
   have c1:=s1 _ _ hce
   have nce:ce≠fd:=fun z=>by rw[z,e4]at hce;cases hce
   refine⟨_,rfl,fi,CF,dx,_,_,rfl,s1 _ _ e1,Y.cl,Y.n_found,a2,_,rfl,fd,_,rfl,.inr ⟨kf,aU nm c p,ce,F1.fnd,rfl,c1,cQ (by omega),rfl⟩,?_⟩
   have vp:aO (aT kf (aU nm c p) v) (aU nm c p)=some v:=by rw[iE,if_pos rfl]
   have lp:=a5W kf (aU nm c p) v
   have b2':bG fd H1 (upd H1 fd (.dT (aT kf (aU nm c p) v))):=fun b o n z=>by rw[aH n];exact z
   have F2:=F1.put b2' aK (by omega)
   have c2:=b2' _ _ nce c1
   have f2:=F2.fnd
   generalize upd H1 fd (.dT (aT kf (aU nm c p) v))=H2 at b2' F2 c2 f2|-
   obtain⟨dx2,e12⟩:=F2.fin
   refine⟨_,rfl,_,rfl,fi,CF,dx2,_,_,rfl,e12,Y.cl,Y.n_found,a2,fd,_,rfl,dgf f2 c2,?_⟩
   rw[vp]
   exact q H2 _ (.inr rfl) vp F2 ((bG.of s1).trans b2')
def a9E(CF CB CT:Addr):Sp:=fun vs H Q _=>∃(fi bd fd lk ce:Addr) (nm c:Str) (p:Nat) (B:BM) (kf:List (Ky×V)) (r:V),vs= [.ref fi,.ref ce] /\dF CF CB CT H fi bd fd lk nm B kf/\H ce=some (.tup ((aU nm c p).map kV))/\aO B.rus (.inr c:aC)=some r/\Q (.bl (aO kf (aU nm c p)).isSome) H
theorem b19(T:aZ K mg){CF CB CT:Addr}(Y:eM K mg CF)(W:cU K mg CB):aN P w K mg base aB 4 CF "knows" ["self","cell"] (a9E CF CB CT):=by
 refine Y.m_knows.known a0J (fun _ _ _ _ _ _ us hl=>dJ (fun _ _=>rfl) us hl) (fun vs H Q E h=> ?_) (fun f cdv A outer s H vs Q E hr h=> ?_)
 ·obtain⟨fi,bd,fd,lk,ce,nm,c,p,B,kf,r,rfl,_⟩:=h
  rfl
 ·obtain⟨fi,bd,fd,lk,ce,nm,c,p,B,kf,r,rfl,hF,hce,hru,q⟩:=h
  have hu:=eC hr
  refine⟨_,(aJ (bV (i:=2) a0J.nd rfl (Or.inl rfl) (fV hu (aX (pv 0) rfl) (bP eW (pv 1) aW (fun _ _=>rfl)) (fun _ _=>rfl)))
   (aJ (bN (PW.pt (oY (jP (mH hu (pv 1) (aX (pv 0) rfl))) (oR (jP (mH hu (bP eW (pv 1) aW (fun _ _=>rfl)) (aX (pv 2) rfl)))))) (aI cF) bO)
   (aI (bE (b0D (qI hu (pv 1) (aX (pv 0) rfl)) (by with_unfolding_all rfl)))))),?_⟩
  obtain⟨dx,e1⟩:=hF.fin
  obtain⟨kb,e2,e3⟩:=hF.bds
  obtain⟨⟨d1,b1⟩,tb,b5,_,_⟩:=id hF.B
  have e4:=hF.fnd
  obtain⟨a1,a2,a3⟩:=jH bd fd lk
  refine⟨_,rfl,fi,CF,dx,_,_,rfl,e1,Y.cl,Y.n_boards,a1,_,rfl,ce,_,_,_,rfl,rfl,bU.of hce,rfl,bd,_,rfl,e3▸cC.k (k:=Sum.inr nm) e2,?_⟩
  have dgf:cC H fd (.ref ce) (aO kf (aU nm c p)):=.inr ⟨_,aU nm c p,ce,.inl e4,rfl,hce,rfl⟩
  refine⟨_,rfl,_,rfl,fi,CF,dx,_,_,rfl,e1,Y.cl,Y.n_found,a2,fd,_,rfl,dgf,_,rfl,?_⟩
  refine dN (fun _=> ?_) (fun _=> ?_)
  ·refine⟨_,rfl,ce,_,_,_,rfl,rfl,bU.of hce,rfl,_,rfl,B.b,CB,d1,_,_,rfl,b1,W.cl,W.n_rules,(dG _ _ _ _).2.1,B.ru,_,rfl,cC.k (k:=Sum.inr c) b5,_,rfl,?_⟩
   rw[hru]
   exact bJ ⟨_,rfl,_,rfl,fi,CF,dx,_,_,rfl,e1,Y.cl,Y.n_found,a2,fd,_,rfl,dgf,q⟩
  ·exact bJ ⟨_,rfl,_,rfl,fi,CF,dx,_,_,rfl,e1,Y.cl,Y.n_found,a2,fd,_,rfl,dgf,q⟩
def lX(fi tl:Addr)(u:V):List (Str×V):=[("finder",V.ref fi),("looked",V.ref tl),("lacking",u)]
theorem a6c(fi tl:Addr)(u:V):(lX fi tl u).lookup ("finder":Str)=some (.ref fi)/\(lX fi tl u).lookup ("looked":Str)=some (.ref tl)/\(lX fi tl u).lookup ("lacking":Str)=some u/\(lX fi tl u).lookup ("look":Str)=none:=⟨rfl,rfl,rfl,rfl⟩
def b39(C:Addr):Sp:=fun vs H Q _=>∃(p dx fi:Addr),vs= [.ref p,.ref fi] /\H p=some (.ins C dx [])/\
 ∀H' tl,H tl=none->H' p=some (.ins C dx (lX fi tl .non))->H' tl=some (.dT [])->bG p H H'->Q .non H'
theorem b6b:aY ["self","finder"] ["self","finder"] (aF yK):=⟨rfl,rfl,rfl,by decide+kernel,rfl,by decide+kernel,by decide+kernel⟩
theorem sW(T:aZ K mg){C:Addr}(Y:lG K mg C):dI P w K mg base aB 1 C ["self","finder"] (b39 C):=by
 refine(Y.m_init.known b6b (fun _ _ _ _ _ _ us hl=>dJ (fun _ _=>rfl) us hl) (fun vs H Q E h=> ?_) (fun f cdv A outer s H vs Q E hr h=> ?_)).init Y.mks Y.kc
 ·obtain⟨p,dx,fi,rfl,_⟩:=h
  rfl
 ·obtain⟨p,dx,fi,rfl,hp,q⟩:=h
  refine⟨_,(aJ (cM (pv 0) (pv 1) rfl) (aJ (cM (pv 0) uD rfl) (aI (cM (pv 0) iG rfl)))),?_⟩
  refine⟨_,rfl,_,rfl,p,C,dx,[],rfl,hp,Y.cl,Y.n_finder,(by show 0<1000;decide),?_⟩
  have u1:∀b o,b≠p->H b=some o->upd H p (.ins C dx (aQ "finder" (.ref fi) [])) b=some o:=fun b o n z=>by rw[aH n];exact z
  have p1:upd H p (.ins C dx (aQ "finder" (.ref fi) [])) p=some (.ins C dx (aQ "finder" (.ref fi) [])):=aK
  have n1:∀b,upd H p (.ins C dx (aQ "finder" (.ref fi) [])) b=none->H b=none/\b≠p:=fun b z=>by
   have:b≠p:=fun y=>by rw[y,aK]at z;cases z
   rw[aH this]at z
   exact⟨z,this⟩
  generalize upd H p (.ins C dx (aQ "finder" (.ref fi) []))=H1 at u1 p1 n1|-
  refine fun tl htl=> ?_
  have s2:=aG.new (o:=.dT []) htl
  have h2:upd H1 tl (.dT []) tl=some (.dT []):=aK
  refine⟨_,rfl,p,C,dx,_,rfl,s2 _ _ p1,Y.cl,Y.n_looked,(by show 1<1000;decide),?_⟩
  have ht:=n1 _ htl
  generalize upd H1 tl (.dT [])=H2 at s2 h2|-
  refine⟨_,rfl,p,C,dx,_,rfl,aK,Y.cl,Y.n_lacking,(by show 2<1000;decide),?_⟩
  exact q _ tl ht.1 aK (by rw[aH ht.2,aH ht.2];exact h2) (fun b o n z=>by rw[aH n,aH n];exact s2 _ _ (u1 _ _ n z))
def b2U(CR CF CB CT:Addr):Sp:=fun vs H Q _=>∃(tr tl fi bd fd lk l dx:Addr) (nm c:Str) (p:Nat) (B:BM) (kf kt:List (Ky×V)) (ys:List V) (v:V),vs= [.ref tr,.str nm,.str c,.int (p:Int)] /\H tr=some (.ins CR dx (lX fi tl .non))/\H tl=some (.dT kt)/\kt.length<900/\tl≠fd/\dF CF CB CT H fi bd fd lk nm B kf/\aO B.rus (.inr c:aC)=none/\Nl c/\aO B.kvs (.inr c:aC)=some (.ref l)/\H l=some (.lst ys)/\p<B.xs.length/\bY ys (p:Int)=some v/\(∀v',aO kf (aU nm c p)=some v'->v'=v)/\kf.length<899/\
 ∀H' kf',(kf'=kf\/ kf'=aT kf (aU nm c p) v)->dF CF CB CT H' fi bd fd lk nm B kf'->H' tl=some (.dT (aT kt (aU nm c p) (.bl true)))->(∀x o,x≠fd->x≠tl->H x=some o->H' x=some o)->Q v H'
theorem b1v:aY ["self","table","column","place","cell"] ["self","table","column","place"] (aF xB):=⟨rfl,rfl,rfl,by decide+kernel,rfl,by decide+kernel,by decide+kernel⟩
theorem b7k(T:aZ K mg){CR CF CB CT:Addr}(X:lG K mg CR)(Y:eM K mg CF)(W:cU K mg CB)(Z:dO K mg CT):aN P w K mg base aB 5 CR "look" ["self","table","column","place"] (b2U CR CF CB CT):=by
 have G_knows:aN P w K mg base aB 4 CF "knows" ["self","cell"] (a31 CF CB CT):=b38 T Y W Z
 refine X.m_look.known b1v (fun _ _ _ _ _ _ us hl=>mF (fun _ _ _ _=>rfl) us hl) (fun vs H Q E h=> ?_) (fun f cdv A outer s H vs Q E hr h=> ?_)
 ·obtain⟨tr,tl,fi,bd,fd,lk,l,dx,nm,c,p,B,kf,kt,ys,v,rfl,_⟩:=h
  rfl
 ·obtain⟨tr,tl,fi,bd,fd,lk,l,dx,nm,c,p,B,kf,kt,ys,v,rfl,htr,htl,ktl,ntf,hF,hru,hc,hv,hl,hp,ha,hcon,kl,q⟩:=h
  have hu:=eC hr
  refine⟨_,(aJ (bV (i:=4) b1v.nd rfl (Or.inl rfl) (fU (aA (pv 1) (aA (pv 2) (aA (pv 3) aE)))))
   (aJ (jI hu (aX (pv 0) rfl) (pv 4) iD rfl)
   (aJ (bN (PW.pt (oY (cJ qU (aX (pv 0) rfl) iG (cO _)) (oR (dC (cH (bW (aX (pv 0) rfl) Y.cl G_knows hr aM (aA (pv 4) aE)) (fun _=>rfl)))))) (aI cF) bO)
   (aJ (bN (cJ qU (aX (pv 0) rfl) iG (cO _)) (aI (bE (fV hu (aX (aX (pv 0) rfl) rfl) (pv 4) (fun _ _=>rfl)))) bO)
   (aI cF))))),?_⟩
  obtain⟨a1,a2,a3,a4⟩:=a6c fi tl .non
  refine⟨_,rfl,_,rfl,_,rfl,sl,fun ce hce=> ?_⟩
  have s1:=aG.new (o:=.tup ((aU nm c p).map kV)) hce
  have c1:upd H ce (.tup ((aU nm c p).map kV)) ce=some (.tup ((aU nm c p).map kV)):=aK
  have hcf:H ce=none:=hce
  generalize hH1:upd H ce (.tup ((aU nm c p).map kV))=H1 at s1 c1
  rw[show upd H ce (.tup [V.str nm,V.str c,V.int (p:Int)])=H1 from hH1]
  have nct:ce≠tl:=fun z=>by rw[z,htl]at hcf;cases hcf
  refine⟨_,rfl,tr,CR,dx,_,_,rfl,s1 _ _ htr,X.cl,X.n_looked,a2,_,rfl,tl,_,rfl,.inr ⟨kt,aU nm c p,ce,s1 _ _ htl,rfl,c1,cQ (by omega),rfl⟩,?_⟩
  have u2:bG tl H1 (upd H1 tl (.dT (aT kt (aU nm c p) (.bl true)))):=fun b o n z=>by rw[aH n];exact z
  have t2:upd H1 tl (.dT (aT kt (aU nm c p) (.bl true))) tl=some (.dT (aT kt (aU nm c p) (.bl true))):=aK
  generalize upd H1 tl (.dT (aT kt (aU nm c p) (.bl true)))=H2 at u2 t2|-
  have ntr:tr≠tl:=fun z=>by rw[z,htl]at htr;cases htr
  have tr2:=u2 _ _ ntr (s1 _ _ htr)
  have hF1:=hF.same s1
  have hl1:=s1 _ _ htl
  have nd:∀{x:Addr} {o:HO},H1 x=some o->(∀kvs,o≠ .dT kvs)->H2 x=some o:=fun z n=>u2 _ _ (fun y=>by rw[y,hl1]at z;exact n _ (Option.some.inj z).symm) z
  have F2:dF CF CB CT H2 fi bd fd lk nm B kf:=by
   obtain⟨d0,e1⟩:=hF1.fin
   obtain⟨kb,e2,e3⟩:=hF1.bds
   obtain⟨⟨d1,b1⟩,⟨⟨d2,b2⟩,b3,b4⟩,b5,b6,b7⟩:=hF1.B
   exact⟨⟨d0,nd e1 (fun _ z=>by cases z)⟩,⟨kb,nd e2 (fun _ z=>by cases z),e3⟩,⟨⟨d1,nd b1 (fun _ z=>by cases z)⟩,⟨⟨d2,nd b2 (fun _ z=>by cases z)⟩,nd b3 (fun _ z=>by cases z),nd b4 (fun _ z=>by cases z)⟩,nd b5 (fun _ z=>by cases z),nd b6 (fun _ z=>by cases z),nd b7 (fun _ z=>by cases z)⟩,u2 _ _ ntf.symm hF1.fnd,hF1.len⟩
  obtain⟨df,f2⟩:=F2.fin
  refine⟨_,rfl,tr,CR,dx,_,_,rfl,tr2,X.cl,X.n_lacking,a3,rfl,_,rfl,cG ?_⟩
  refine⟨_,rfl,tr,CR,dx,_,_,rfl,tr2,X.cl,X.n_finder,a1,fi,df,_,rfl,f2,kJ,_,rfl,fi,bd,fd,lk,ce,l,nm,c,p,B,kf,ys,v,rfl,F2,u2 _ _ nct c1,hru,hc,hv,nd (s1 _ _ hl) (fun _ z=>by cases z),hp,ha,hcon,kl,fun H3 kf' hk' vk' F3 b3=>⟨_,rfl,bJ ?_⟩⟩
  have ntrf:tr≠fd:=fun z=>by rw[z,hF.fnd]at htr;cases htr
  have ncf:ce≠fd:=fun z=>by rw[z,hF.fnd]at hcf;cases hcf
  have tr3:=b3 _ _ ntrf tr2
  obtain⟨df3,f3⟩:=F3.fin
  refine⟨_,rfl,tr,CR,dx,_,_,rfl,tr3,X.cl,X.n_lacking,a3,rfl,_,rfl,cG ?_⟩
  refine⟨_,rfl,tr,CR,dx,_,_,rfl,tr3,X.cl,X.n_finder,a1,fi,CF,df3,_,_,rfl,f3,Y.cl,Y.n_found,(jH _ _ _).2.1,_,rfl,fd,v,rfl,?_,?_⟩
  ·rw[<- vk']
   exact .inr ⟨_,aU nm c p,ce,.inl F3.fnd,rfl,b3 _ _ ncf (u2 _ _ nct c1),rfl⟩
  ·exact q H3 kf' hk' F3 (b3 _ _ ntf t2) (fun x o n1 n2 z=>b3 _ _ n1 (u2 _ _ n2 (s1 _ _ z)))
end
def eX(H H':Hp):Prop:=∀b u,H b=some (Fz u)->H' b=some (Fz u)
theorem eX.of{H H':Hp}(s:aG H H'):eX H H':=fun b u e=>s _ _ e
def oddD:PyData:=.tuple [.str "fault",.str "odd"]
def gI(d:PyData):PyData:=if jM d then d else oddD
def pL(K:Fg)(v:V)(d:PyData):Prop:=(∃i,v= .int i/\d= .int i/\fM (.int i)=true)\/ (∃a,v= .ref a/\d=oddD/\∀H,bU K H a [.str ("fault":Str),.str ("odd":Str)])
def b4R(K:Fg)(LP:Hp->Prop)(ca:Addr)(g:List Int->PyData)(ok:List Int->Prop):Sp:=fun vs H Q _=>∃(l:Addr) (is:List Int) (cs:List V),vs= [.ref l] /\LP H/\H l=some (.lst (is.map V.int))/\H ca=some (.lst cs)/\cs.length<900/\ok is/\is.length<=100/\ca≠l/\
 ∀H' v,bG ca H H'->H' ca=some (.lst cs)->(∃i,g is= .int i/\v= .int i)->Q v H'
def lE(P:Program)(w:World)(K:Fg)(mg:Str->Option Value)(base:Heap)(k:Nat)(H:Hp)(fa ca:Addr)(g:List Int->PyData)(ok:List Int->Prop):Prop:=∃LP,dZ P w K mg base k fa (b4R K LP ca g ok)/\LP H/\∀H H',eX H H'->LP H->LP H'
theorem lE.keep{P:Program}{w:World}{K:Fg}{mg:Str->Option Value}{base:Heap}{k:Nat}{H H':Hp}{fa ca:Addr}{g:List Int->PyData}{ok:List Int->Prop}(s:eX H H')(h:lE P w K mg base k H fa ca g ok):lE P w K mg base k H' fa ca g ok:=by
 obtain⟨LP,h1,h2,h3⟩:=h
 exact⟨LP,h1,h3 _ _ s h2,h3⟩
def RF(fs:List (Str×V))(fa:Addr):Prop:=fs.lookup ("function":Str)=some (.ref fa)/\fs.lookup ("reckon":Str)=none
section
variable{P:Program}{w:World}{K:Fg}{mg:Str->Option Value}{base:Heap}
def b26(K:Fg)(p:Addr):Sp:=fun vs H Q _=>∃x d,vs= [x] /\Dt K H x d/\lY d/\∀H',aG H H'->Q (if jM d then x else .ref p) H'
theorem b8z:aY ["thing"] ["thing"] (aF vK):=⟨rfl,rfl,rfl,by decide+kernel,rfl,by decide+kernel,by decide+kernel⟩
theorem uL(T:aZ K mg){p:Addr}(hp:mg "ODD"=some (.ref p)):bK P w K mg base aB 4 "settled" ["thing"] (b26 K p):=by
 have G_is_value:bK P w K mg base aB 3 "is_value" ["thing"] (a2t K):=rG T
 refine T.d_settled.known b8z (fun _ _ _ _ _ _ us hl=>dM (fun _=>rfl) us hl) (fun vs H Q E h=> ?_) (fun f cdv A outer s H vs Q E hr h=> ?_)
 ·obtain⟨x,d,rfl,_⟩:=h
  rfl
 ·obtain⟨x,d,rfl,hd,hsh,q⟩:=h
  refine⟨_,(aJ (bN (cH (bR G_is_value (hr.mono (by decide)) aM (aA (pv 0) aE)) (fun _=>rfl)) (aI (bE (pv 0))) bO)
   (aI (bE (b2K hp)))),?_⟩
  refine⟨_,rfl,x,d,rfl,hd,hsh,fun H' s'=>⟨_,rfl,?_⟩⟩
  have q':=q H' s'
  refine dN (fun h1=> ?_) (fun h1=> ?_)
  ·rw[if_pos h1]at q'
   exact⟨_,rfl,q'⟩
  ·rw[if_neg h1]at q'
   exact q'
def b2c(P:Program)(w:World)(K:Fg)(mg:Str->Option Value)(base:Heap)(k:Nat)(C:Addr):Sp:=fun vs H Q _=>∃(p a fa ca dx:Addr) (fs:List (Str×V)) (g:List Int->PyData) (ok:List Int->Prop) (is:List Int) (cs:List V),vs= [.ref p,.ref a] /\H p=some (.ins C dx fs)/\RF fs fa/\lE P w K mg base k H fa ca g ok/\H a=some (.lst (is.map V.int))/\H ca=some (.lst cs)/\cs.length<900/\ok is/\is.length<=100/\lY (g is)/\
 ∀H' v,bG ca H H'->H' ca=some (.lst cs)->pL K v (gI (g is))->Q v H'
theorem b6o:aY ["self","some"] ["self","some"] (aF oX):=⟨rfl,rfl,rfl,by decide+kernel,rfl,by decide+kernel,by decide+kernel⟩
structure yH(K:Fg)(C:Addr):Prop where
 cl:bX K C
 rk:bA K C "reckon" "Rule.reckon" oX
 nf:cE K C "function"
theorem b5U(T:aZ K mg){C:Addr}(Y:yH K C){k:Nat}(hk:4<=k):aN P w K mg base aB (k+ 1) C "reckon" ["self","some"] (b2c P w K mg base k C):=by
 obtain⟨pO,hpO,hO⟩:=T.g_ODD
 have G_settled:bK P w K mg base aB 4 "settled" ["thing"] (b26 K pO):=uL T hpO
 refine Y.rk.known b6o (fun _ _ _ _ _ _ us hl=>dJ (fun _ _=>rfl) us hl) (fun vs H Q E h=> ?_) (fun f cdv A outer s H vs Q E hr h=> ?_)
 ·obtain⟨p,a,fa,ca,dx,fs,g,ok,is,cs,rfl,_⟩:=h
  rfl
 ·obtain⟨p,a,fa,ca,dx,fs,g,ok,is,cs,rfl,hp,hfs,⟨LP,F,lp,stb⟩,ha,hca,cl,l0,l1,hsh,q⟩:=h
  refine⟨_,(aI (bE (bR G_settled (hr.mono hk) aM (aA (b6i (k:=k) (pv 0) hr (aA (kP xN rfl T.list iR (aA (pv 1) aE)) aE)) aE)))),?_⟩
  refine⟨_,rfl,p,C,dx,_,fa,_,rfl,hp,Y.cl,Y.nf,hfs.1,F,_,rfl,a,_,rfl,.inl (aL.of ha),fun xl hxl=> ?_⟩
  have s1:=aG.new (o:=.lst (is.map V.int)) hxl
  refine⟨xl,is,cs,rfl,stb _ _ (eX.of s1) lp,aK,s1 _ _ hca,cl,l0,l1,bD hca hxl,fun H3 v b3 h3 hd=> ?_⟩
  obtain⟨ii,hg,rfl⟩:=hd
  refine⟨_,_,rfl,.int ii,hg▸hsh,fun H4 s4=> ?_⟩
  refine q H4 _ (((bG.of s1).trans b3).trans (bG.of s4)) (s4 _ _ h3) ?_
  rw[hg]
  unfold gI
  by_cases c:jM (.int ii)=true
  ·rw[if_pos c,if_pos c]
   exact .inl ⟨ii,rfl,rfl,by simpa [jM,hV] using c⟩
  ·rw[if_neg c,if_neg c]
   exact .inr ⟨_,rfl,rfl,hO⟩
theorem a9c(is:List Int):(PyData.list (is.map PyData.int)).canLay0=true/\(PyData.list (is.map PyData.int)).depth<=64:=by
 have h1:PyData.canLayAll0 (is.map PyData.int)=true:=by
  induction is with
  |nil=>rfl
  |cons i r ih=>rw[List.map_cons,PyData.canLayAll0,ih];rfl
 have h2:PyData.depthAll (is.map PyData.int)=0:=by
  induction is with
  |nil=>rfl
  |cons i r ih=>
   have h3:PyData.canLayAll0 (r.map PyData.int)=true:=by
    have:=h1
    rw[List.map_cons,PyData.canLayAll0,Bool.and_eq_true]at this
    exact this.2
   rw[List.map_cons]
   show max 0 (PyData.depthAll (r.map PyData.int))=0
   rw[ih h3]
   rfl
 refine⟨h1,?_⟩
 show PyData.depthAll (is.map PyData.int)+ 1<=64
 rw[h2]
 decide
theorem yT{K:Fg}{H:Hp}:∀is:List Int,cS K H (is.map V.int) (is.map PyData.int)
 | []=> .nil
 |i::r=> .cons (.int i) (yT r)
theorem a6v:∀is js:List Int,PyData.eqv (.list (is.map PyData.int)) (.list (js.map PyData.int))=decide (is=js)
 | [],[]=>by simp[PyData.eqv,PyData.eqvAll]
 | [],j::js=>by simp[PyData.eqv,PyData.eqvAll]
 |i::is,[]=>by simp[PyData.eqv,PyData.eqvAll]
 |i::is,j::js=>by
  have ih:=a6v is js
  simp only[PyData.eqv]at ih
  simp only[List.map_cons,PyData.eqv,PyData.eqvAll,ih]
  by_cases h1:i=j<;>by_cases h2:is=js<;>simp[h1,h2]
def rN(H:Hp)(mk:List (aC×V))(num:Int)(js:List Int)(vv:V):Prop:=∃tp lo,aO mk (.inl num:aC)=some (.ref tp)/\H tp=some (.tup [.ref lo,vv])/\H lo=some (.lst (js.map V.int))
def b2V(P:Program)(w:World)(K:Fg)(mg:Str->Option Value)(base:Heap)(k:Nat)(CB CT CG:Addr):Sp:=fun vs H Q _=>∃(sm gr mc fa ca dx:Addr) (c:Str) (fs:List (Str×V)) (p:Nat) (num:Int) (B:BM) (mk:List (aC×V)) (g:List Int->PyData) (ok:List Int->Prop) (is:List Int) (cs:List V),vs= [.ref B.b,.str c,.int (p:Int),.ref sm] /\cW CB CT H B/\aO B.rus (.inr c:aC)=some (.ref gr)/\aO B.mes (.inr c:aC)=some (.ref mc)/\H mc=some (.dK mk)/\mk.length<100/\p<B.xs.length/\bY B.xs (p:Int)=some (.int num)/\
 H gr=some (.ins CG dx fs)/\RF fs fa/\lE P w K mg base k H fa ca g ok/\H sm=some (.lst (is.map V.int))/\H ca=some (.lst cs)/\cs.length<900/\ok is/\is.length<=100/\lY (g is)/\Vd (gI (g is))/\
 ((∃vv,rN H mk num is vv/\Q vv H)\/ ((aO mk (.inl num:aC)=none\/ ∃js vv,rN H mk num js vv/\js≠is)/\
   ∀H' v tp,(∀x o,x≠ca->x≠mc->H x=some o->H' x=some o)->H' ca=some (.lst cs)->H tp=none->H' tp=some (.tup [.ref sm,v])->H' mc=some (.dK (aT mk (.inl num:aC) (.ref tp)))->pL K v (gI (g is))->Q v H'))
abbrev Nou:List Str:=["self","column","place","some","remembered","number"]
theorem a7I:aY Nou ["self","column","place","some"] (aF oM):=⟨rfl,rfl,rfl,by decide+kernel,rfl,by decide+kernel,by decide+kernel⟩
theorem xR(T:aZ K mg){CB CT CG:Addr}(Y:cU K mg CB)(Z:dO K mg CT)(W:yH K CG){k:Nat}(hk:4<=k):aN P w K mg base aB (k+ 2) CB "outcome" ["self","column","place","some"] (b2V P w K mg base k CB CT CG):=by
 have G_num:aN P w K mg base aB 3 CT "number_at" ["self","place"] (b23 CT):=uW T Z
 have G_rck:aN P w K mg base aB (k+ 1) CG "reckon" ["self","some"] (b2c P w K mg base k CG):=b5U T W hk
 refine Y.m_outcome.known a7I (fun _ _ _ _ _ _ us hl=>mF (fun _ _ _ _=>rfl) us hl) (fun vs H Q E h=> ?_) (fun f cdv A outer s H vs Q E hr h=> ?_)
 ·obtain⟨sm,gr,mc,fa,ca,dx,c,fs,p,num,B,mk,g,ok,is,cs,rfl,_⟩:=h
  rfl
 ·obtain⟨sm,gr,mc,fa,ca,dx,c,fs,p,num,B,mk,g,ok,is,cs,rfl,hB,hru,hme,hmc,ml,hp,hnum,hgr,hfs,FN,hsm,hca,cl,l0,l1,hsh,hvd,q⟩:=h
  have hu:=eC hr
  have eJ:∃t,eL (dX aB P w K mg base Nou "Board.outcome" (aF oM) f cdv A outer s H E).nox ((aS oM).drop 3) t/\
   ∀(H1:Hp) (tp:Addr) (x v:V) (mk':List (aC×V)),H1 mc=some (.dK mk')->aO mk' (.inl num:aC)=some (.ref tp)->H1 tp=some (.tup [x,v])->Q v H1->t {nx:=fun _ H'=>Q .non H',rt:=Q} [some (.ref B.b),some (.str c),some (.int (p:Int)),some (.ref sm),some (.ref mc),some (.int num)] H1:=by
   refine⟨_,(aI (bE (bP eW (fV hu (pv 4) (pv 5) (fun _ _=>rfl)) aW (fun _ _=>rfl)))),fun H1 tp x v mk' e1 e2 e3 q'=> ?_⟩
   exact⟨_,rfl,_,rfl,mc,_,rfl,e2▸cC.k (k:=Sum.inl num) e1,tp,_,_,_,rfl,rfl,bU.of e3,rfl,q'⟩
  obtain⟨tR,hR,qR⟩:=eJ
  refine⟨_,(aJ (bV (i:=4) a7I.nd rfl (Or.inl rfl) (fV hu (aX (pv 0) rfl) (pv 1) (fun _ _=>rfl)))
   (aJ (bV (i:=5) a7I.nd rfl (Or.inl rfl) (bW (aX (pv 0) rfl) Z.cl G_num (hr.mono (by omega)) aM (aA (pv 2) aE)))
   (aJ (bN (PW.pt (fP (jP (mH hu (pv 5) (pv 4))) (gP (cJ (oS hr.units) (bP eW (fV hu (pv 4) (pv 5) (fun _ _=>rfl)) aW (fun _ _=>rfl)) (pv 3) (cO _))))) (aI (jI hu (pv 4) (pv 5) (fU (aA (pv 3) (aA (bW (fV hu (aX (pv 0) rfl) (pv 1) (fun _ _=>rfl)) W.cl G_rck hr aM (aA (pv 3) aE)) aE))) rfl)) bO)
   hR))),?_⟩
  obtain⟨⟨d1,b1⟩,tb,b3,b4,_⟩:=id hB
  obtain⟨⟨d2,b2⟩,_,_⟩:=id tb
  refine⟨_,rfl,B.b,CB,d1,_,_,rfl,b1,Y.cl,Y.n_memory,(dG _ _ _ _).2.2.1,_,rfl,B.me,_,rfl,hme▸cC.k (k:=Sum.inr c) b4,?_⟩
  refine⟨_,rfl,B.b,CB,d1,_,_,rfl,b1,Y.cl,Y.n_given,(dG _ _ _ _).1,B.g,d2,_,rfl,b2,jJ,_,rfl,B.g,B.r,B.e,B.xs,B.n,B.kvs,p,_,rfl,tb,hp,hnum,?_⟩
  refine⟨_,rfl,_,rfl,mc,_,rfl,cC.k (k:=Sum.inl num) hmc,_,rfl,?_⟩
  have lay:=a9c is
  have ncm:mc≠ca:=fun z=>by rw[z,hca]at hmc;cases hmc
  rcases q with⟨vv,⟨tp,lo,e1,e2,e3⟩,qv⟩|⟨hw,q⟩
  ·rw[e1]
   refine bJ ⟨_,rfl,_,rfl,mc,_,rfl,e1▸cC.k (k:=Sum.inl num) hmc,tp,_,_,_,rfl,rfl,bU.of e2,rfl,_,rfl,.list (is.map .int),.list (is.map .int),.lst (aL.of e3) (yT is),.lst (aL.of hsm) (yT is),lay.1,lay.1,lay.2,_,rfl,?_⟩
   rw[a6v,decide_eq_true rfl]
   exact bJ (qR H tp _ vv mk hmc e1 e2 qv)
  have fin:∀(H1:Hp) (v:V) (tp:Addr),bG ca H H1->H1 ca=some (.lst cs)->pL K v (gI (g is))->H1 tp=none->
   ∃H4,iC (upd H1 tp (.tup [.ref sm,v])) mc (.int num) (.ref tp) H4/\tR {nx:=fun _ H'=>Q .non H',rt:=Q} [some (.ref B.b),some (.str c),some (.int (p:Int)),some (.ref sm),some (.ref mc),some (.int num)] H4:=fun H1 v tp bb h1 hd htp=>by
   have s2:=aG.new (o:=.tup [.ref sm,v]) htp
   have m2:=s2 _ _ (bb _ _ ncm hmc)
   have t2:upd H1 tp (.tup [.ref sm,v]) tp=some (.tup [.ref sm,v]):=aK
   refine⟨_,iC.k (k:=Sum.inl num) m2 (cQ (by omega)),?_⟩
   generalize upd H1 tp (.tup [.ref sm,v])=H2 at s2 m2 t2|-
   have u3:∀x o,x≠mc->H2 x=some o->upd H2 mc (.dK (aT mk (.inl num:aC) (.ref tp))) x=some o:=fun x o n z=>by rw[aH n];exact z
   have m3:upd H2 mc (.dK (aT mk (.inl num:aC) (.ref tp))) mc=some (.dK (aT mk (.inl num:aC) (.ref tp))):=aK
   generalize upd H2 mc (.dK (aT mk (.inl num:aC) (.ref tp)))=H3 at u3 m3|-
   have nm:∀{x:Addr} {o:HO},H2 x=some o->(∀kvs,o≠ .dK kvs)->x≠mc:=fun z n y=>by rw[y,m2]at z;exact n _ (Option.some.inj z).symm
   have t3:=u3 _ _ (nm t2 (fun _ z=>by cases z)) t2
   have htp0:H tp=none:=by
    cases e:H tp with
    |none=>rfl
    |some o=>
     by_cases z:tp=ca
     ·rw[z,h1]at htp;cases htp
     ·rw[bb _ _ z e]at htp;cases htp
   refine qR H3 tp _ v _ m3 (by rw[iE,if_pos rfl]) t3 (q H3 v tp (fun x o n1 n2 z=>u3 _ _ n2 (s2 _ _ (bb _ _ n1 z))) ?_ htp0 t3 m3 ?_)
   ·exact u3 _ _ ncm.symm (s2 _ _ h1)
   ·exact hd
  rcases hw with e0|⟨js,vv,⟨tp0,lo,e1,e2,e3⟩,hne⟩
  ·rw[e0]
   refine cG (cG ?_)
   refine⟨_,rfl,_,rfl,B.b,CB,d1,_,_,rfl,b1,Y.cl,Y.n_rules,(dG _ _ _ _).2.1,_,rfl,B.ru,_,rfl,hru▸cC.k (k:=Sum.inr c) b3,gr,dx,_,rfl,hgr,hfs.2,_,rfl,gr,sm,fa,ca,dx,fs,g,ok,is,cs,rfl,hgr,hfs,FN,hsm,hca,cl,l0,l1,hsh,fun H1 v bb h1 hd=>⟨sl,fun tp htp=> ?_⟩⟩
   obtain⟨H4,p4,q4⟩:=fin H1 v tp bb h1 hd htp
   exact⟨_,rfl,_,rfl,mc,H4,rfl,p4,q4⟩
  ·rw[e1]
   refine bJ ⟨_,rfl,_,rfl,mc,_,rfl,e1▸cC.k (k:=Sum.inl num) hmc,tp0,_,_,_,rfl,rfl,bU.of e2,rfl,_,rfl,.list (js.map .int),.list (is.map .int),.lst (aL.of e3) (yT js),.lst (aL.of hsm) (yT is),(a9c js).1,lay.1,(a9c js).2,_,rfl,?_⟩
   rw[a6v,decide_eq_false hne]
   refine cG ?_
   refine⟨_,rfl,_,rfl,B.b,CB,d1,_,_,rfl,b1,Y.cl,Y.n_rules,(dG _ _ _ _).2.1,_,rfl,B.ru,_,rfl,hru▸cC.k (k:=Sum.inr c) b3,gr,dx,_,rfl,hgr,hfs.2,_,rfl,gr,sm,fa,ca,dx,fs,g,ok,is,cs,rfl,hgr,hfs,FN,hsm,hca,cl,l0,l1,hsh,fun H1 v bb h1 hd=>⟨sl,fun tp htp=> ?_⟩⟩
   obtain⟨H4,p4,q4⟩:=fin H1 v tp bb h1 hd htp
   exact⟨_,rfl,_,rfl,mc,H4,rfl,p4,q4⟩
end
def isT:PyData->Bool
 | .tuple _=>true
 |_=>false
def b2g:PyData->Int
 | .int i=>i
 |_=>0
def gR:List PyData->List Int->PyData ⊕ List Int
 | [],acc=> .inr acc
 |d::r,acc=>if isT d then .inl d else gR r (acc++ [b2g d])
theorem b7W(d:PyData)(r:List PyData)(acc:List Int):gR (d::r) acc=if isT d then .inl d else gR r (acc++ [b2g d]):=by rw[gR]
theorem b22:∀{ds:List PyData} {acc is:List Int},gR ds acc= .inr is->is.length=acc.length+ ds.length
 | [],acc,is,h=>by cases h;rfl
 |d::r,acc,is,h=>by
  unfold gR at h
  split at h
  ·cases h
  ·have:=b22 h
   rw[List.length_append]at this
   rw[List.length_cons,this]
   show acc.length+ 1+ r.length=_
   omega
theorem eQ{xs:List V}{i:Nat}{v:V}(h:xs[i]?=some v):bY xs (i:Int)=some v:=by
 have hi:=(List.getElem?_eq_some_iff.mp h).1
 unfold bY
 rw[b8x (by omega) (by omega),Int.toNat_natCast]
 exact h
theorem b4P{α:Type}{zs:List α}{i:Nat}{z:α}(h:zs[i]?=some z):zs.drop i=z::zs.drop (i+ 1):=by
 obtain⟨hi,e⟩:=List.getElem?_eq_some_iff.mp h
 rw[List.drop_eq_getElem_cons hi,e]
theorem cI.at{K:Fg}{H:Hp}:∀{xs:List V} {ds:List PyData} {i:Nat},cI K H xs ds->i<ds.length->∃v d,xs[i]?=some v/\ds[i]?=some d/\Pv K H v d
 |_,_,_,.nil,h=>absurd h (Nat.not_lt_zero _)
 |_,_,0,.cons h _,_=>⟨_,_,rfl,rfl,h⟩
 |_,_,i+ 1,.cons _ t,h=>by simpa using cI.at t (Nat.lt_of_succ_lt_succ h)
theorem Pv.isT{K:Fg}{H:Hp}{v:V}{d:PyData}(h:Pv K H v d):hV d=My.isT d:=by
 rcases h with⟨i,_,rfl,_⟩|⟨a,y,_,_,rfl,hy⟩
 ·rfl
 ·show(decide (("fault":Str)= "fault")&&fI (.str y))=true
  rw[decide_eq_true rfl,Bool.true_and]
  exact Nl.name hy
def fA(x y:Addr)(H H':Hp):Prop:=∀b o,b≠x->b≠y->H b=some o->H' b=some o
theorem fA.of{x y:Addr}{H H':Hp}(s:aG H H'):fA x y H H':=fun b o _ _ e=>s b o e
theorem fA.trans{x y:Addr}{H H1 H2:Hp}(a:fA x y H H1)(b:fA x y H1 H2):fA x y H H2:=fun c o n m e=>b c o n m (a c o n m e)
structure iP(J:Hp->Prop)(W:List Addr)(x y:Addr):Prop where
 there:∀H,J H->∀b∈W,H b≠none
 stay:∀H H',(∀b o,b∈W->H b=some o->H' b=some o)->eX H H'->J H->J H'
 x:∀H,J H->∃k,H x=some (.dT k)
 y:∀H,J H->∃k,H y=some (.dT k)
theorem iP.same{J:Hp->Prop}{W:List Addr}{x y:Addr}(S:iP J W x y){H H':Hp}(s:aG H H')(h:J H):J H':=S.stay _ _ (fun b o _ e=>s _ _ e) (eX.of s) h
theorem iP.tup{J:Hp->Prop}{W:List Addr}{x y:Addr}(S:iP J W x y){H H':Hp}(h:J H)(f:fA x y H H'):bS H H':=fun a xs e=>by
 obtain⟨k1,h1⟩:=S.x H h
 obtain⟨k2,h2⟩:=S.y H h
 exact f _ _ (fun z=>by rw[z,h1]at e;cases e) (fun z=>by rw[z,h2]at e;cases e) e
def yL(J:Hp->Prop)(x y:Addr)(gv:Str->Str->Option (List V)):Sp:=fun vs H Q _=>∃(t c:Str) (p:Nat) (ys:List V) (v:V),vs= [.str t,.str c,.int (p:Int)] /\J H/\gv t c=some ys/\p<ys.length/\bY ys (p:Int)=some v/\∀H',fA x y H H'->J H'->Q v H'
def a1Z(J:Hp->Prop)(mv:Str->Nat->Prop):Sp:=fun vs H Q _=>∃(t:Str) (m:Nat),vs= [.str t] /\mv t m/\J H/\∀H',aG H H'->Q (.int (m:Int)) H'
def Giv(gv:Str->Str->Option (List V))(v:V):Prop:=∃(t c:Str) (ys:List V) (p:Nat),gv t c=some ys/\bY ys (p:Int)=some v
def pS(K:Fg)(gv:Str->Str->Option (List V))(H H':Hp)(fv:V):PyData ⊕ List Int->Prop
 | .inl d=>∃ta v,fv= .ref ta/\H' ta=some (.tup [.str ("value":Str),v])/\Pv K H' v d/\Giv gv v
 | .inr is=>∃ta l,fv= .ref ta/\H' ta=some (.tup [.str ("call":Str),.ref l])/\H' l=some (.lst (is.map V.int))/\H l=none
def sG(K:Fg)(gv:Str->Str->Option (List V))(H:Hp)(x:V)(d:PyData):Prop:=∃a t c p ys v,x= .ref a/\H a=some (.tup [.str t,.str c,.int ((p:Nat):Int)])/\gv t c=some ys/\p<ys.length/\bY ys (p:Int)=some v/\Pv K H v d
theorem sG.keep{K:Fg}{gv:Str->Str->Option (List V)}{H H':Hp}{x:V}{d:PyData}(k:bS H H')(h:sG K gv H x d):sG K gv H' x d:=by
 obtain⟨a,t,c,p,ys,v,h1,h2,h3,h4,h5,h6⟩:=h
 exact⟨a,t,c,p,ys,v,h1,k _ _ h2,h3,h4,h5,h6.keep k⟩
theorem a8o{α β:Type}{R:α->β->Prop}:∀{xs:List α} {ys:List β} {i:Nat} {x:α},Paired R xs ys->xs[i]?=some x->∃y,ys[i]?=some y/\R x y
 |_,_,_,_,.nil,e=>by simp at e
 |_,_,0,_,.cons h _,e=>by simp at e;subst e;exact⟨_,rfl,h⟩
 |_,_,i+ 1,_,.cons _ t,e=>by simpa using a8o (i:=i) t (by simpa using e)
section
variable{P:Program}{w:World}{K:Fg}{mg:Str->Option Value}{base:Heap}
def b2S(P:Program)(w:World)(K:Fg)(mg:Str->Option Value)(base:Heap)(k:Nat):Sp:=fun vs H Q _=>∃(look cl x y:Addr) (J:Hp->Prop) (W:List Addr) (gv:Str->Str->Option (List V)) (cv:List V) (ds:List PyData),vs= [.ref look,.ref cl] /\dZ P w K mg base k look (yL J x y gv)/\J H/\iP J W x y/\H cl=some (.lst cv)/\Paired (sG K gv H) cv ds/\ds.length<=100/\
 ∀H' fv,fA x y H H'->J H'->pS K gv H H' fv (gR ds [])->Q fv H'
abbrev b41:List Str:=["look","cells","numbers","table","column","place","value"]
theorem pY:aY b41 ["look","cells"] (aF tT):=⟨rfl,rfl,rfl,by decide+kernel,rfl,by decide+kernel,by decide+kernel⟩
theorem tO(T:aZ K mg){k:Nat}(hk:2<=k):bK P w K mg base aB (k+ 1) "look_in_turn" ["look","cells"] (b2S P w K mg base k):=by
 have G_is_fault:bK P w K mg base aB 2 "is_fault" ["thing"] (zF K):=oA T
 refine T.d_look_in_turn.known pY (fun _ _ _ _ _ _ us hl=>dJ (fun _ _=>rfl) us hl) (fun vs H Q E h=> ?_) (fun f cdv A outer s H vs Q E hr h=> ?_)
 ·obtain⟨look,cl,x,y,J,W,gv,cv,ds,rfl,_⟩:=h
  rfl
 ·obtain⟨look,cl,x,y,J,W,gv,cv,ds,rfl,F1,hJ,S,hc,hp,l100,q⟩:=h
  refine⟨_,(aJ (bV (i:=2) pY.nd rfl (Or.inl rfl) (gH aE))
   (aJ (gW PassesOwn.never rfl (fL (pv 1)) (oO rfl (hZ (dL (i:=3) pY.nd rfl (Or.inl rfl)) (hZ (dL (i:=4) pY.nd rfl (Or.inl rfl)) (hZ (dL (i:=5) pY.nd rfl (Or.inl rfl)) nT)))) (aJ (bV (i:=6) pY.nd rfl (Or.inl rfl) (b69 0 hr (aA (pv 3) (aA (pv 4) (aA (pv 5) aE)))))
   (aJ (bN (cH (bR G_is_fault (hr.mono hk) aM (aA (pv 6) aE)) (fun _=>rfl)) (aI (bE (fU (aA hU (aA (pv 6) aE))))) bO)
   (aI (bZ (iJ PySem.F.plainAttrs_list PySem.F.slot_list_append PySem.F.type_list_append gT (pv 2) (aA (pv 6) aE)))))))
   (aI (bE (fU (aA hU (aA (pv 2) aE))))))),?_⟩
  refine⟨sl,fun nl hnl=> ?_⟩
  have s1:=aG.new (o:=.lst []) hnl
  have n1:upd H nl (.lst []) nl=some (.lst []):=aK
  have J1:=S.same s1 hJ
  generalize upd H nl (.lst [])=H1 at s1 n1 J1|-
  have lcv:cv.length=ds.length:=Paired.length hp
  have nxy:∀{b:Addr} {o:HO} {Hb:Hp},J Hb->Hb b=some o->(∀k,o≠ .dT k)->b≠x/\b≠y:=fun{b o Hb} hj e n=>by
   obtain⟨k1,h1⟩:=S.x Hb hj
   obtain⟨k2,h2⟩:=S.y Hb hj
   exact⟨(fun z=>by rw[z,h1]at e;exact n _ (Option.some.inj e).symm),(fun z=>by rw[z,h2]at e;exact n _ (Option.some.inj e).symm)⟩
  have ncl:=nxy hJ hc (fun _ z=>by cases z)
  have nnl:=nxy J1 n1 (fun _ z=>by cases z)
  have nW:nl∉W:=fun mw=>S.there _ hJ nl mw hnl
  refine⟨_,rfl,cl,rfl,⟨_,aL.of (s1 _ _ hc)⟩,?_⟩
  refine kM (K:=K) (a:=cl) (xs:=cv) (fun i σ H2=>∃o3 o4 o5 o6 is,σ= [some (.ref look),some (.ref cl),some (.ref nl),o3,o4,o5,o6] /\fA x y H H2/\J H2/\H2 nl=some (.lst (is.map V.int))/\is.length<=i/\gR (ds.drop i) is=gR ds [])
   ⟨_,_,_,_,[],rfl,fA.of s1,J1,n1,Nat.le_refl _,rfl⟩ (by rintro i σ H2 _ ⟨_,_,_,_,_,_,f2,_⟩;exact aL.of (f2 _ _ ncl.1 ncl.2 hc)) ?_ ?_
  ·rintro i v0 σ H2 hx ⟨o3,o4,o5,o6,is,rfl,f2,J2,h2,li,ht⟩
   obtain⟨d,hd,hcel⟩:=a8o hp hx
   have hi:i<cv.length:=(List.getElem?_eq_some_iff.mp hx).1
   obtain⟨a,t,c,p,ys,v,rfl,ha,hg,hpl,hat,hpv⟩:=hcel.keep (S.tup hJ f2)
   rw[b4P hd]at ht
   refine⟨a,_,rfl,bU.of ha,rfl,_,_,rfl,_,_,rfl,_,_,rfl,rfl,?_⟩
   refine⟨look,_,rfl,F1,_,rfl,_,rfl,_,rfl,t,c,p,ys,v,rfl,J2,hg,hpl,hat,fun H3 f3 J3=> ?_⟩
   have f23:=f2.trans f3
   have p3:=hpv.keep (S.tup J2 f3)
   have h3:=f3 _ _ nnl.1 nnl.2 h2
   refine⟨_,rfl,v,d,rfl,p3.dt,p3.vd.short.1,fun H4 s4=>⟨_,rfl,?_⟩⟩
   rw[p3.isT]
   have h4:=s4 _ _ h3
   have J4:=S.same s4 J3
   have f4:=f23.trans (fA.of s4)
   have p4:=p3.same s4
   rw[b7W]at ht
   rcases p3 with⟨j,rfl,rfl,bj⟩|⟨b,z,rfl,_,rfl,hz⟩
   ·rw[if_neg (show¬isT (.int j)=true from Bool.false_ne_true)]at ht
    refine bJ ⟨_,rfl,.inl ⟨rfl,_,aL.of h4⟩,_,rfl,nl,_,_,rfl,rfl,h4,cQ (by rw[List.length_map];omega),?_⟩
    have bu:∀b ob,b≠nl->H4 b=some ob->upd H4 nl (.lst (is.map V.int++ [.int j])) b=some ob:=fun b ob nb e=>by rw[aH nb];exact e
    refine⟨_,_,_,_,is++ [j],rfl,fun b ob n1 n2 e=>bu _ _ (bD e hnl) (f4 _ _ n1 n2 e),S.stay _ _ (fun b ob mb e=>bu _ _ (fun z=>nW (z▸mb)) e) (fun b u e=>bu _ _ (fun z=>by rw[z,h4]at e;cases e) e) J4,(by rw[List.map_append];exact aK),by rw[List.length_append];show is.length+ 1<=i+ 1;omega,ht⟩
   ·rw[if_pos (show isT (.tuple _)=true from rfl)]at ht
    refine cG ⟨_,rfl,sl,fun tp htp=> ?_⟩
    have s5:=aG.new (o:=.tup [.str ("value":Str),.ref b]) htp
    refine q _ _ (f4.trans (fA.of s5)) (S.same s5 J4) ?_
    rw[<- ht]
    exact⟨tp,_,rfl,aK,p4.same s5,t,c,ys,p,hg,hat⟩
  ·rintro σ H2 ⟨o3,o4,o5,o6,is,rfl,f2,J2,h2,li,ht⟩
   rw[lcv,List.drop_length]at ht
   refine⟨_,rfl,sl,fun tp htp=> ?_⟩
   have s3:=aG.new (o:=.tup [.str ("call":Str),.ref nl]) htp
   refine q _ _ (f2.trans (fA.of s3)) (S.same s3 J2) ?_
   rw[<- ht]
   exact⟨tp,nl,rfl,aK,s3 _ _ h2,hnl⟩
end
def eE(Ks:List Ky)(kvs:List (Ky×V)):Prop:=(kvs.map (·.1)).Nodup/\∀k∈kvs.map (·.1),k∈Ks
theorem a3B{α:Type} [DecidableEq α]:∀{l m:List α},l.Nodup->(∀x∈l,x∈m)->l.length<=m.length
 | [],_,_,_=>Nat.zero_le _
 |x::r,m,h,hs=>by
  rw[List.nodup_cons]at h
  have hx:=hs x List.mem_cons_self
  have:=a3B (l:=r) (m:=m.erase x) h.2 fun y hy=>(List.mem_erase_of_ne (fun e=>by rw[e]at hy;exact h.1 hy)).mpr (hs y (List.mem_cons_of_mem _ hy))
  rw[List.length_erase_of_mem hx]at this
  have:0<m.length:=List.length_pos_of_mem hx
  rw[List.length_cons]
  omega
theorem eE.len{Ks:List Ky}{kvs:List (Ky×V)}(h:eE Ks kvs):kvs.length<=Ks.length:=by
 have:=a3B h.1 h.2
 rwa [List.length_map]at this
theorem eE.nil{Ks:List Ky}:eE Ks []:=⟨List.nodup_nil,fun k hk=>by cases hk⟩
theorem b6y{kvs:List (Ky×V)}{k:Ky}{v x:V}(h:aO kvs k=some x):(aT kvs k v).map (·.1)=kvs.map (·.1):=by
 unfold aT
 rw[oQ,h,if_pos (show(some x).isSome=true from rfl),List.map_map]
 refine List.map_congr_left fun p _=> ?_
 show(if p.1=k then _ else _:Ky×V).1=p.1
 split<;>rfl
theorem eE.put{Ks:List Ky}{kvs:List (Ky×V)}{k:Ky}{v:V}(h:eE Ks kvs)(hk:k∈Ks):eE Ks (aT kvs k v):=by
 cases e:aO kvs k with
 |some x=>unfold eE;rw[b6y e];exact h
 |none=>
  refine⟨b1z v h.1 e,fun k' hk'=> ?_⟩
  rw[a1u v e,List.map_append]at hk'
  rcases List.mem_append.mp hk' with hk'|hk'
  ·exact h.2 k' hk'
  ·rw[List.mem_singleton.mp hk']
   exact hk
theorem rS{t t' c c':Str}{p p':Nat}(h:aU t c p=aU t' c' p'):t=t'/\c=c'/\p=p':=by
 unfold aU at h
 simp only[List.cons.injEq,Sum.inr.injEq,Sum.inl.injEq,and_true]at h
 exact⟨h.1,h.2.1,by omega⟩
structure nI where
 fi:Addr
 bd:Addr
 fd:Addr
 lk:Addr
 tr:Addr
 tl:Addr
 tabs:List (Str×BM)
 Ks:List Ky
 gv:Str->Str->Option (List V)
 kf0:List (Ky×V)
structure Ok3(tabs:List (Str×BM))(Ks:List Ky)(gv:Str->Str->Option (List V)):Prop where
 k8:Ks.length<=800
 g:∀t c ys,gv t c=some ys->∃B,(t,B)∈tabs/\Nl c/\Nl t/\aO B.rus (.inr c:aC)=none/\ys.length=B.xs.length/\∀p,p<ys.length->aU t c p∈Ks
structure J3(CR CF CB CT:Addr)(X:nI)(H:Hp):Prop where
 kf:∃kf,(∀tb∈X.tabs,dF CF CB CT H X.fi X.bd X.fd X.lk tb.1 tb.2 kf)/\H X.fd=some (.dT kf)/\eE X.Ks kf/\(∀t c p v ys,X.gv t c=some ys->aO kf (aU t c p)=some v->bY ys (p:Int)=some v)/\∀t c p,X.gv t c=none->aO kf (aU t c p)=aO X.kf0 (aU t c p)
 tr:∃dx,H X.tr=some (.ins CR dx (lX X.fi X.tl .non))
 tl:∃kt,H X.tl=some (.dT kt)/\eE X.Ks kt
 cols:∀t c ys B,X.gv t c=some ys->(t,B)∈X.tabs->∃l,aO B.kvs (.inr c:aC)=some (.ref l)/\H l=some (.lst ys)
theorem dF.mvW{CF CB CT:Addr}{H H':Hp}{fi bd fd lk:Addr}{nm:Str}{B:BM}{kf:List (Ky×V)}(F:dF CF CB CT H fi bd fd lk nm B kf)(u:∀b o,b∈ [fi,bd,fd] ++ B.foot->H b=some o->H' b=some o):dF CF CB CT H' fi bd fd lk nm B kf:=by
 obtain⟨dx,e1⟩:=F.fin
 obtain⟨kb,e2,e3⟩:=F.bds
 obtain⟨⟨d1,b1⟩,⟨⟨d2,b2⟩,b3,b4⟩,b5,b6,b7⟩:=F.B
 exact⟨⟨dx,u _ _ (by simp[BM.foot]) e1⟩,⟨kb,u _ _ (by simp[BM.foot]) e2,e3⟩,⟨⟨d1,u _ _ (by simp[BM.foot]) b1⟩,⟨⟨d2,u _ _ (by simp[BM.foot]) b2⟩,u _ _ (by simp[BM.foot]) b3,u _ _ (by simp[BM.foot]) b4⟩,u _ _ (by simp[BM.foot]) b5,u _ _ (by simp[BM.foot]) b6,u _ _ (by simp[BM.foot]) b7⟩,u _ _ (by simp[BM.foot]) F.fnd,F.len⟩
theorem dF.isthere{CF CB CT:Addr}{H:Hp}{fi bd fd lk:Addr}{nm:Str}{B:BM}{kf:List (Ky×V)}(F:dF CF CB CT H fi bd fd lk nm B kf){b:Addr}(hb:b∈ [fi,bd,fd] ++ B.foot):H b≠none:=fun z=>by
 obtain⟨dx,e1⟩:=F.fin
 obtain⟨kb,e2,e3⟩:=F.bds
 obtain⟨⟨d1,b1⟩,⟨⟨d2,b2⟩,b3,b4⟩,b5,b6,b7⟩:=F.B
 have e0:=F.fnd
 simp only[BM.foot,List.cons_append,List.nil_append,List.mem_cons,List.not_mem_nil,or_false]at hb
 rcases hb with rfl|rfl|rfl|rfl|rfl|rfl|rfl|rfl|rfl|rfl
 ·rw[e1]at z;cases z
 ·rw[e2]at z;cases z
 ·rw[e0]at z;cases z
 ·rw[b1]at z;cases z
 ·rw[b2]at z;cases z
 ·rw[b3]at z;cases z
 ·rw[b4]at z;cases z
 ·rw[b5]at z;cases z
 ·rw[b6]at z;cases z
 ·rw[b7]at z;cases z
structure Wof(X:nI)(W:List Addr):Prop where
 o:X.fd∈W/\X.tr∈W/\X.tl∈W
 f:∀tb∈X.tabs,∀b∈ [X.fi,X.bd,X.fd] ++ tb.2.foot,b∈W
 c:∀t c ys B l,X.gv t c=some ys->(t,B)∈X.tabs->aO B.kvs (.inr c:aC)=some (.ref l)->l∈W
 n:∀b∈W,b=X.fd\/ b=X.tr\/ b=X.tl\/ (∃tb∈X.tabs,b∈ [X.fi,X.bd,X.fd] ++ tb.2.foot)\/ ∃t c ys B,X.gv t c=some ys/\(t,B)∈X.tabs/\aO B.kvs (.inr c:aC)=some (.ref b)
theorem J3.st{CR CF CB CT:Addr}{X:nI}{W:List Addr}(w:Wof X W):iP (J3 CR CF CB CT X) W X.fd X.tl where
 there:=fun H h b mb z=>by
  obtain⟨kf,F,e0,_⟩:=h.kf
  obtain⟨d3,t1⟩:=h.tr
  obtain⟨kt,t2,_⟩:=h.tl
  rcases w.n b mb with rfl|rfl|rfl|⟨tb,h1,h2⟩|⟨t,c,ys,B,g1,g2,g3⟩
  ·rw[e0]at z;cases z
  ·rw[t1]at z;cases z
  ·rw[t2]at z;cases z
  ·exact(F tb h1).isthere h2 z
  ·obtain⟨l,g4,g5⟩:=h.cols t c ys B g1 g2
   rw[g3]at g4
   cases g4
   rw[g5]at z;cases z
 stay:=fun H H' k kz h=>by
  obtain⟨kf,F,e0,r1,r2,r3⟩:=h.kf
  obtain⟨d3,t1⟩:=h.tr
  obtain⟨kt,t2,t3⟩:=h.tl
  exact⟨⟨kf,fun tb htb=>(F tb htb).mvW fun b o hb e=>k _ _ (w.f tb htb b hb) e,k _ _ w.o.1 e0,r1,r2,r3⟩,⟨d3,k _ _ w.o.2.1 t1⟩,⟨kt,k _ _ w.o.2.2 t2,t3⟩,fun t c ys B g1 g2=>by
   obtain⟨l,g3,g4⟩:=h.cols t c ys B g1 g2
   exact⟨l,g3,k _ _ (w.c t c ys B l g1 g2 g3) g4⟩⟩
 x:=fun H h=>let ⟨kf,_,e,_⟩:=h.kf;⟨kf,e⟩
 y:=fun H h=>let ⟨kt,e,_⟩:=h.tl;⟨kt,e⟩
theorem J3.look{CR CF CB CT:Addr}{X:nI}(ne:X.tl≠X.fd)(O:Ok3 X.tabs X.Ks X.gv){H H':Hp}{t c:Str}{p:Nat}{ys:List V}{v:V}{kf kf' kt:List (Ky×V)}(hJ:J3 CR CF CB CT X H)(g:X.gv t c=some ys)(hp:p<ys.length)(ha:bY ys (p:Int)=some v)
 (hF:∀tb∈X.tabs,dF CF CB CT H X.fi X.bd X.fd X.lk tb.1 tb.2 kf)(w0:H X.fd=some (.dT kf))(w1:eE X.Ks kf)(w2:∀t c p v ys,X.gv t c=some ys->aO kf (aU t c p)=some v->bY ys (p:Int)=some v)(w3:∀t c p,X.gv t c=none->aO kf (aU t c p)=aO X.kf0 (aU t c p))
 (hk:kf'=kf\/ kf'=aT kf (aU t c p) v)(fd':H' X.fd=some (.dT kf'))(tl0:H X.tl=some (.dT kt))(tk:eE X.Ks kt)(tl':H' X.tl=some (.dT (aT kt (aU t c p) (.bl true))))(fr:∀x o,x≠X.fd->x≠X.tl->H x=some o->H' x=some o):J3 CR CF CB CT X H':=by
 obtain⟨B0,hB0,_,_,_,_,hin⟩:=O.g t c ys g
 have mem:=hin p hp
 have k8:=O.k8
 have k:∀{x:Addr} {o:HO},H x=some o->(∀kvs,o≠ .dT kvs)->H' x=some o:=fun e n=>fr _ _ (fun y=>by rw[y,w0]at e;exact n _ (Option.some.inj e).symm) (fun y=>by rw[y,tl0]at e;exact n _ (Option.some.inj e).symm) e
 have w1':eE X.Ks kf':=by
  rcases hk with rfl|rfl
  ·exact w1
  ·exact w1.put mem
 have l':=w1'.len
 refine⟨⟨kf',fun tb htb=> ?_,fd',w1',fun t' c' p' v' ys' g' e=> ?_,fun t' c' p' g'=> ?_⟩,hJ.tr.imp fun _ e=>k e (fun _ y=>by cases y),⟨_,tl',tk.put mem⟩,fun t' c' ys' B' g1 g2=> ?_⟩
 ·obtain⟨dx,e1⟩:=(hF tb htb).fin
  obtain⟨kb,e2,e3⟩:=(hF tb htb).bds
  obtain⟨⟨d1,b1⟩,⟨⟨d2,b2⟩,b3,b4⟩,b5,b6,b7⟩:=(hF tb htb).B
  exact⟨⟨dx,k e1 (fun _ y=>by cases y)⟩,⟨kb,k e2 (fun _ y=>by cases y),e3⟩,⟨⟨d1,k b1 (fun _ y=>by cases y)⟩,⟨⟨d2,k b2 (fun _ y=>by cases y)⟩,k b3 (fun _ y=>by cases y),k b4 (fun _ y=>by cases y)⟩,k b5 (fun _ y=>by cases y),k b6 (fun _ y=>by cases y),k b7 (fun _ y=>by cases y)⟩,fd',by omega⟩
 ·rcases hk with rfl|rfl
  ·exact w2 t' c' p' v' ys' g' e
  ·rw[iE]at e
   split at e
   ·next h=>
    obtain⟨rfl,rfl,rfl⟩:=rS h
    rw[g]at g'
    rw[<- Option.some.inj g',<- Option.some.inj e]
    exact ha
   ·exact w2 t' c' p' v' ys' g' e
 ·rcases hk with rfl|rfl
  ·exact w3 t' c' p' g'
  ·rw[iE,if_neg (fun h=>by
    obtain⟨rfl,rfl,rfl⟩:=rS h
    rw[g]at g'
    cases g')]
   exact w3 t' c' p' g'
 ·obtain⟨l,g3,g4⟩:=hJ.cols t' c' ys' B' g1 g2
  exact⟨l,g3,k g4 (fun _ y=>by cases y)⟩
theorem b1h{X:Cx}{σ:St}{H₁:Hp}{f:eR}{q:Str}{params:Arguments}{body:Expr}{scope:Scope}{fa:Addr}{ps:List Str}{cp:List (Nat×Str)}{cv:List V}{k:Nat}{spB:List V->Hp->VK->Prop}{sc:Scope}{N:List Str}(la:gA q params body scope (eS X.env.cells scope.names []) H₁ fa)(L:pX X σ H₁ f)
 (hcell:∀x,X.env.scope.names.lookup x=some .cell->∃c,X.env.cells.lookup x=some c)
 (hcv:cp.map (fun p=>σ[p.1]?)=cv.map fun v=>some (some v))
 (hb:∀(pm ctv:Value) (c:Addr) (clos:List (Str×Addr)) (us:List Value),us.length=ps.length->bindArgs (PySem.W.kla_fn "<lambda>" q params body scope clos pm (.ref c) ctv) ⟨us,[]⟩=pure (ps.zip us))
 (hbody:∀(cd:Value) (A:Around) (outer:List Env) (s:Shared) (H:Hp) (vs:List V) (Q:VK),bT k (A.deeper (PySem.W.envX q scope s.heap.objs.size fa cd (eS X.env.cells scope.names [])))->spB vs H Q->
  ∃t,PE (oF X.prog X.w X.K X.mg X.base (ps++ cp.map (·.2)) q scope fa cd (eS X.env.cells scope.names []) A outer s H) body t/\t ((vs++ cv).map some) H Q)
 (hs:X.env.scope=sc:=by rfl)(hN:X.N=N:=by rfl)
 (hcp:∀p∈cp,N[p.1]?=some p.2/\sc.names.lookup p.2=some .cell/\scope.names.lookup p.2=some .free:=by decide+kernel)
 (free:∀y∈scope.names,y.2= .free->sc.names.lookup y.1=some .cell:=by decide+kernel)
 (kind:scope.kind= .function:=by rfl)(co:scope.isCoroutine=false:=by rfl)(gen:scope.isGenerator=false:=by rfl)(nocell:∀y∈scope.names,y.2≠ .cell:=by decide+kernel)(par:∀x∈ps,scope.names.lookup x=some .local:=by decide+kernel)(nd:(ps++ cp.map (·.2)).Nodup:=by decide+kernel):
 dZ X.prog X.w X.K X.mg X.base (k+ 1) fa (mL fa f q params body scope (eS X.env.cells scope.names []) ps.length spB):=by
 subst hs hN
 exact b2H L hcell hcv hcp free kind co gen nocell par nd hb hbody
theorem rP{f:eR}{H:Hp}{b:Addr}{o:HO}(h:dR f H b=some o):f b=none/\H b=some o:=by
 cases e:f b with
 |none=>rw[dQ e]at h;exact⟨rfl,h⟩
 |some ob=>rw[jY e]at h;cases h
theorem a6u{f:eR}{H:Hp}(h:∀b o,f b=some o->H b=none):dR f (dY f H)=H:=by
 funext b
 cases e:f b with
 |none=>rw[dQ e,eI e]
 |some ob=>rw[jY e,h b ob e]
def JL(f:eR)(LL J:Hp->Prop)(H:Hp):Prop:=LL H/\(∀b o,f b=some o->H b=some (Fz o))/\J (dR f H)
theorem JL.st{f:eR}{LL J:Hp->Prop}{W:List Addr}{x y:Addr}(S:iP J W x y)(sl:∀H H',eX H H'->LL H->LL H'):iP (JL f LL J) W x y where
 there:=fun H h b mb z=>S.there _ h.2.2 b mb (by
  cases e:f b with
  |none=>rw[dQ e];exact z
  |some ob=>exact jY e)
 stay:=fun H H' k kz h=>⟨sl _ _ kz h.1,fun b o e=>kz _ _ (h.2.1 b o e),S.stay _ _ (fun b o mb e=>by
  obtain⟨e1,e2⟩:=rP e
  rw[dQ e1]
  exact k _ _ mb e2) (fun b u e=>by
  obtain⟨e1,e2⟩:=rP e
  rw[dQ e1]
  exact kz _ _ e2) h.2.2⟩
 x:=fun H h=>let ⟨k,e⟩:=S.x _ h.2.2;⟨k,(rP e).2⟩
 y:=fun H h=>let ⟨k,e⟩:=S.y _ h.2.2;⟨k,(rP e).2⟩
section
variable{P:Program}{w:World}{K:Fg}{mg:Str->Option Value}{base:Heap}{k:Nat}{q:Str}{params:Arguments}{body:Expr}{scope:Scope}{clos:List (Str×Addr)}{fa:Addr}{f:eR}
theorem b6F{LL J:Hp->Prop}{W:List Addr}{x y:Addr}(S:iP J W x y)(sl:∀H H',eX H H'->LL H->LL H'){H H':Hp}(h:JL f LL J H)(fr:∀b o,f b=some o->H' b=none)(u:fA x y (dR f H) H')(j:J H'):fA x y H (dY f H')/\JL f LL J (dY f H'):=by
 have f2:fA x y H (dY f H'):=fun b o n1 n2 e=>by
  cases e2:f b with
  |none=>rw[eI e2];exact u _ _ n1 n2 (by rw[dQ e2];exact e)
  |some ob=>rw[h.2.1 b ob e2]at e;rw[lT e2];exact e
 obtain⟨k1,e1⟩:=S.x _ h.2.2
 obtain⟨k2,e2⟩:=S.y _ h.2.2
 have ex:=(rP e1).2
 have ey:=(rP e2).2
 refine⟨f2,sl _ _ (fun b u' e=>f2 _ _ (fun z=>by rw[z,ex]at e;cases e) (fun z=>by rw[z,ey]at e;cases e) e) h.1,fun b o e=>lT e,?_⟩
 rw[a6u fr]
 exact j
def b0i(J:Hp->Prop)(x y:Addr)(gv:Str->Str->Option (List V)):List V->Hp->VK->Prop:=fun vs H Q=>∃(t c:Str) (p:Nat) (ys:List V) (v:V),vs= [.str t,.str c,.int (p:Int)] /\J H/\gv t c=some ys/\p<ys.length/\bY ys (p:Int)=some v/\∀H',fA x y H H'->J H'->Q v H'
theorem b9s{LL J:Hp->Prop}{W:List Addr}{x y:Addr}{gv:Str->Str->Option (List V)}(S:iP J W x y)(sl:∀H H',eX H H'->LL H->LL H')(la:∀H,LL H->gA q params body scope clos H fa)
 (F:dZ P w K mg base k fa (mL fa f q params body scope clos 3 (b0i J x y gv))):dZ P w K mg base k fa (yL (JL f LL J) x y gv):=by
 refine F.imp fun vs H Q E h=> ?_
 obtain⟨t,c,p,ys,v,rfl,hJ,hg,hp,ha,qq⟩:=h
 refine⟨rfl,la _ hJ.1,hJ.2.1,t,c,p,ys,v,rfl,hJ.2.2,hg,hp,ha,fun H' u j fr=> ?_⟩
 obtain⟨f2,j2⟩:=b6F S sl hJ fr u j
 exact qq _ f2 j2
def a1E(J:Hp->Prop)(mv:Str->Nat->Prop):List V->Hp->VK->Prop:=fun vs H Q=>∃(t:Str) (m:Nat),vs= [.str t] /\mv t m/\J H/\∀H',aG H H'->Q (.int (m:Int)) H'
theorem b5s{LL J:Hp->Prop}{mv:Str->Nat->Prop}(la:∀H,LL H->gA q params body scope clos H fa)
 (F:dZ P w K mg base k fa (mL fa f q params body scope clos 1 (a1E J mv))):dZ P w K mg base k fa (a1Z (JL f LL J) mv):=by
 refine F.imp fun vs H Q E h=> ?_
 obtain⟨t,m,rfl,hm,hJ,qq⟩:=h
 refine⟨rfl,la _ hJ.1,hJ.2.1,t,m,rfl,hm,hJ.2.2,fun H' s' fr=> ?_⟩
 refine qq _ (fun b o e=> ?_)
 cases e2:f b with
 |none=>rw[eI e2];exact s' b o (by rw[dQ e2];exact e)
 |some ob=>rw[hJ.2.1 b ob e2]at e;rw[lT e2];exact e
end
theorem nY{q:Str}{params:Arguments}{body:Expr}{scope:Scope}{clos:List (Str×Addr)}{H H':Hp}{fa:Addr}(s:eX H H')(h:gA q params body scope clos H fa):gA q params body scope clos H' fa:=by
 obtain⟨pm,c,ctv,o,e1,e2,e3⟩:=h
 exact⟨pm,c,ctv,o,s _ _ e1,s _ _ e2,e3⟩
theorem b5C{P:Program}{w:World}{K:Fg}{mg:Str->Option Value}{base:Heap}{k:Nat}{q q':Str}{params params':Arguments}{body body':Expr}{scope scope':Scope}{clos clos':List (Str×Addr)}{la lm:Addr}{f:eR}{J:Hp->Prop}{W:List Addr}{x y:Addr}{gv:Str->Str->Option (List V)}{mv:Str->Nat->Prop}{H:Hp}(S:iP J W x y)(free:∀b o,f b=some o->H b=none)(hJ:J H)(lA:gA q params body scope clos H la)(lB:gA q' params' body' scope' clos' H lm)
 (F1:dZ P w K mg base k la (mL la f q params body scope clos 3 (b0i J x y gv)))(F2:dZ P w K mg base k lm (mL lm f q' params' body' scope' clos' 1 (a1E J mv))):
 ∃J',J' (dY f H)/\iP J' W x y/\(∀H1,J' H1->(∀b o,f b=some o->H1 b=some (Fz o))/\J (dR f H1))/\dZ P w K mg base k la (yL J' x y gv)/\dZ P w K mg base k lm (a1Z J' mv):=by
 have st:∀H H':Hp,eX H H'->(gA q params body scope clos H la/\gA q' params' body' scope' clos' H lm)->gA q params body scope clos H' la/\gA q' params' body' scope' clos' H' lm:=fun H H' s h=>⟨nY s h.1,nY s h.2⟩
 have kz:eX H (dY f H):=fun b u e=>by
  cases e2:f b with
  |none=>rw[eI e2];exact e
  |some ob=>rw[free b ob e2]at e;cases e
 refine⟨JL f (fun H=>gA q params body scope clos H la/\gA q' params' body' scope' clos' H lm) J,⟨st _ _ kz ⟨lA,lB⟩,fun b o e=>lT e,?_⟩,JL.st S st,fun H1 h=>h.2,b9s S st (fun H h=>h.1) F1,b5s (fun H h=>h.2) F2⟩
 rw[a6u free]
 exact hJ
abbrev jK:Str:=("Finder.gathered":Str)++ ".<locals>." ++ "<lambda>"
def b5o(H H':Hp):Prop:=∀b o,(∀φ,o≠ .ext φ)->H b=some o->H' b=some o
def mvX(tabs:List (Str×BM))(t:Str)(m:Nat):Prop:=∃B,(t,B)∈tabs/\B.xs.length=m
section
variable{P:Program}{w:World}{K:Fg}{mg:Str->Option Value}{base:Heap}
def zC(P:Program)(w:World)(K:Fg)(mg:Str->Option Value)(base:Heap)(spg:Sp)(gr:Addr)(tabs:List (Str×BM))(gv:Str->Str->Option (List V))(fd tl:Addr)(nm c:Str)(p:Nat)(tf:PyData ⊕ List Int)(H:Hp):Prop:=
 ∀(look many:Addr) (J:Hp->Prop) (W:List Addr) (HB:Hp) (Q':VK),b5o H HB->J HB->iP J W fd tl->dZ P w K mg base 6 look (yL J fd tl gv)->dZ P w K mg base 6 many (a1Z J (mvX tabs))->
  (∀H' fv,fA fd tl HB H'->J H'->pS K gv HB H' fv tf->Q' fv H')->spg [.ref gr,.ref look,.ref many,.str nm,.str c,.int (p:Int)] HB Q' E0
def b2k(P:Program)(w:World)(K:Fg)(mg:Str->Option Value)(base:Heap)(CR CF CB CT CG zt:Addr)(spg:Sp):Sp:=fun vs H Q _=>∃(X:nI) (W:List Addr) (gr dx:Addr) (fs:List (Str×V)) (nm c:Str) (B:BM) (p:Nat) (tf:PyData ⊕ List Int),vs= [.ref X.fi,.ref X.tr,.str nm,.str c,.int (p:Int)] /\J3 CR CF CB CT X H/\X.tl≠X.fd/\Ok3 X.tabs X.Ks X.gv/\Wof X W/\zt∉W/\(nm,B)∈X.tabs/\aO B.rus (.inr c:aC)=some (.ref gr)/\H gr=some (.ins CG dx fs)/\fs.lookup ("gather":Str)=none/\gQ jK H zt/\zC P w K mg base spg gr X.tabs X.gv X.fd X.tl nm c p tf H/\
 ∀H' fv,(∀b o,b≠X.fd->b≠X.tl->b≠zt->H b=some o->H' b=some o)->J3 CR CF CB CT X H'->gQ jK H' zt->pS K X.gv H H' fv tf->Q fv H'
abbrev lI:List Str:=["self","trial","table","column","place"]
theorem b9f:aY lI lI (aF eY):=⟨rfl,rfl,rfl,by decide+kernel,rfl,by decide+kernel,by decide+kernel⟩
theorem b4E(T:aZ K mg){CR CF CB CT CG:Addr}(R:lG K mg CR)(Y:eM K mg CF)(Wb:cU K mg CB)(Z:dO K mg CT)(clG:bX K CG){z:Addr×Addr}(B2:jR K mg "Finder" "gathered" "Finder.gathered" eY z)(M:iN mg base z.1 z.2){spg:Sp}(G_gather:aN P w K mg base aB 8 CG "gather" ["self","look","many","table","column","place"] spg):aN P w K mg base aB 9 CF "gathered" lI (b2k P w K mg base CR CF CB CT CG z.2 spg):=by
 have G_look:aN P w K mg base aB 5 CR "look" ["self","table","column","place"] (b2U CR CF CB CT):=b7k T R Y Wb Z
 have G_many:aN P w K mg base aB 1 CT "many" ["self"] (lS CT):=jS T Z
 refine B2.known Y.c b9f (fun _ _ _ _ _ _ us hl=>bi5 (fun _ _ _ _ _=>rfl) us hl) (fun vs H Q E h=> ?_) (fun f A outer s H vs Q E hr h=> ?_)
 ·obtain⟨X,W,gr,dx,fs,nm,c,B,p,tf,rfl,_⟩:=h
  rfl
 ·obtain⟨X,W,gr,dx,fs,nm,c,B,p,tf,rfl,hJ,netl,O,wof,nzW,hB,hru,hgr,hno,tb,use,q⟩:=h
  have S:=J3.st (CR:=CR) (CF:=CF) (CB:=CB) (CT:=CT) wof
  have hu:=eC hr
  have hcl:∀x,(dX aB P w K mg base lI "Finder.gathered" (aF eY) f (.ref z.1) A outer s H E).nox.env.scope.names.lookup x=some .cell->∃c,(dX aB P w K mg base lI "Finder.gathered" (aF eY) f (.ref z.1) A outer s H E).nox.env.cells.lookup x=some c:=fun x hx=>Option.isSome_iff_exists.mp (PySem.W.cellsFrom_some _ _ _ (.inl hx))
  refine⟨_,(aI (bE (b68 (fV hu (aX (fV hu (aX (pv 0) rfl) (pv 2) (fun _ _=>rfl)) rfl) (pv 3) (fun _ _=>rfl)) clG G_gather hr (aA (a5n M rfl (lP (sc:=aF eY) (N:=lI) (cp:=[(1,"trial")]) hcl).clos rfl) (aA (a5n M rfl (lP (sc:=aF eY) (N:=lI) (cp:=[(0,"self")]) hcl).clos rfl) (aA (pv 2) (aA (pv 3) (aA (pv 4) aE)))))))),?_⟩
  obtain⟨kf,F0,e0,r1,r2,r3⟩:=hJ.kf
  have F:=F0 _ hB
  obtain⟨d0,e1⟩:=F.fin
  obtain⟨kb,e2,e3⟩:=F.bds
  obtain⟨⟨d1,b1⟩,_,b5,_,_⟩:=id F.B
  refine⟨_,rfl,X.fi,CF,d0,_,_,rfl,e1,Y.cl,Y.n_boards,(jH _ _ _).1,_,rfl,X.bd,_,rfl,e3▸cC.k (k:=Sum.inr nm) e2,B.b,CB,d1,_,_,rfl,b1,Wb.cl,Wb.n_rules,(dG _ _ _ _).2.1,_,rfl,B.ru,_,rfl,hru▸cC.k (k:=Sum.inr c) b5,gr,dx,_,rfl,hgr,hno,tb,fun la HA hla sA tA lA=>⟨tA,fun lm HB hlm sB tB lB=>⟨_,rfl,_,rfl,_,rfl,fun f' Ln=> ?_⟩⟩⟩
  obtain⟨S0,t0,_⟩:=id tb
  have uB:b1K z.2 H HB:=fun b o n e=>sB b o n (sA b o n e)
  have nz:∀{b:Addr} {o:HO},H b=some o->(∀φ,o≠ .ext φ)->b≠z.2:=fun e n y=>by rw[y,t0]at e;exact n _ (Option.some.inj e).symm
  obtain⟨SA,tA0,_⟩:=id tA
  have kzAB:eX HA HB:=fun b u e=>sB _ _ (fun y=>by rw[y,tA0]at e;cases e) e
  have kzB:eX H HB:=fun b u e=>uB _ _ (nz e (fun φ y=>by cases y)) e
  have JB:J3 CR CF CB CT X HB:=S.stay _ _ (fun b o mb e=>uB _ _ (fun y=>nzW (y▸mb)) e) kzB hJ
  have F1:=b1h (sc:=aF eY) (N:=lI) (ps:=["theirs","name","row"]) (cp:=[(1,"trial")]) (cv:=[.ref X.tr]) (k:=5) (spB:=b0i (J3 CR CF CB CT X) X.fd X.tl X.gv) (nY kzAB lA) Ln hcl rfl (fun _ _ _ _ us hl=>dP (fun _ _ _=>rfl) us hl) (fun cd A' outer' s' H' vs Q' hr' h'=>by
   obtain⟨t',c',p',ys',v',rfl,hJ',g',hp',ha',q'⟩:=h'
   refine⟨_,(bW (pv 3) R.cl G_look hr' aM (aA (pv 0) (aA (pv 1) (aA (pv 2) aE)))),?_⟩
   obtain⟨B',hB',cN,tN,cR,cL,cK⟩:=O.g t' c' ys' g'
   obtain⟨kf',F',w0,w1,w2,w3⟩:=hJ'.kf
   obtain⟨d3,t1⟩:=hJ'.tr
   obtain⟨kt',t2,t3⟩:=hJ'.tl
   obtain⟨l',g3,g4⟩:=hJ'.cols t' c' ys' B' g' hB'
   have kl:=w1.len
   have tl':=t3.len
   have k8:=O.k8
   refine⟨_,rfl,X.tr,d3,_,rfl,t1,(a6c _ _ _).2.2.2,_,rfl,_,rfl,_,rfl,X.tr,X.tl,X.fi,X.bd,X.fd,X.lk,l',d3,t',c',p',B',kf',kt',ys',v',rfl,t1,t2,by omega,netl,F' _ hB',cR,cN,g3,g4,by omega,ha',fun v2 hv2=> ?_,by omega,fun H2 kf2 hk2 F2 ht2 fr2=>q' H2 fr2 (J3.look netl O hJ' g' hp' ha' F' w0 w1 w2 w3 hk2 F2.fnd t2 t3 ht2 fr2)⟩
   have:=w2 t' c' p' v2 ys' g' hv2
   rw[ha']at this
   exact(Option.some.inj this).symm)
  have F2:=b1h (sc:=aF eY) (N:=lI) (ps:=["theirs"]) (cp:=[(0,"self")]) (cv:=[.ref X.fi]) (k:=5) (spB:=a1E (J3 CR CF CB CT X) (mvX X.tabs)) lB Ln hcl rfl (fun _ _ _ _ us hl=>dM (fun _=>rfl) us hl) (fun cd A' outer' s' H' vs Q' hr' h'=>by
   obtain⟨t',m',rfl,⟨B',hB',rfl⟩,hJ',q'⟩:=h'
   refine⟨_,(lJ (aX (fV (eC hr') (aX (pv 1) rfl) (pv 0) (fun _ _=>rfl)) rfl) Z.cl G_many (hr'.mono (by decide)) aM),?_⟩
   obtain⟨kf',F0',_⟩:=hJ'.kf
   have F':=F0' _ hB'
   obtain⟨d0',e1'⟩:=F'.fin
   obtain⟨kb',e2',e3'⟩:=F'.bds
   obtain⟨⟨d1',b1'⟩,tb',_,_,_⟩:=id F'.B
   obtain⟨⟨d2',b2'⟩,_,_⟩:=id tb'
   exact⟨_,rfl,X.fi,CF,d0',_,_,rfl,e1',Y.cl,Y.n_boards,(jH _ _ _).1,_,rfl,X.bd,_,rfl,e3'▸cC.k (k:=Sum.inr t') e2',B'.b,CB,d1',_,_,rfl,b1',Wb.cl,Wb.n_given,(dG _ _ _ _).1,B'.g,d2',_,rfl,b2',jJ,B'.g,B'.r,B'.e,B'.xs,B'.n,B'.kvs,rfl,tb',q' _ (aG.refl _)⟩)
  obtain⟨J',j1,S',j2,L1,L2⟩:=b5C S Ln.free JB (nY kzAB lA) lB F1 F2
  have nofL:∀b o,HB b=some o->f' b=none:=fun b o e=>by
   cases e2:f' b with
   |none=>rfl
   |some ob=>rw[Ln.free b ob e2]at e;cases e
  have sL:aG HB (dY f' HB):=fun b o e=>by rw[eI (nofL b o e)];exact e
  refine use la lm J' W (dY f' HB) _ (fun b o n e=>sL _ _ (uB _ _ (nz e n) e)) j1 S' L1 L2 fun H' fv fr J2 told=> ?_
  obtain⟨lf,JJ⟩:=j2 _ J2
  have KN:∀{b:Addr} {o:HO},(∀u,o≠Fz u)->H' b=some o->dR f' H' b=some o:=fun{b o} n e=>by
   cases e2:f' b with
   |none=>rw[dQ e2];exact e
   |some ob=>rw[lf b ob e2]at e;exact absurd (Option.some.inj e).symm (n ob)
  have up:∀{b:Addr} {o:HO},b≠X.fd->b≠X.tl->HB b=some o->dR f' H' b=some o:=fun{b o} n1 n2 e=>by
   rw[dQ (nofL b o e)]
   exact fr _ _ n1 n2 (sL _ _ e)
  obtain⟨kx,ex⟩:=S.x _ JB
  obtain⟨ky,ey⟩:=S.y _ JB
  have nxy:∀{b:Addr} {o:HO},HB b=some o->(∀kvs,o≠ .dT kvs)->b≠X.fd/\b≠X.tl:=fun e n=>⟨(fun y=>by rw[y,ex]at e;exact n _ (Option.some.inj e).symm),(fun y=>by rw[y,ey]at e;exact n _ (Option.some.inj e).symm)⟩
  refine q _ fv (fun b o n1 n2 n3 e=>up n1 n2 (uB _ _ n3 e)) JJ ?_ ?_
  ·obtain⟨SB,tB0,tB1⟩:=tB
   have n0:=nxy tB0 (fun _ y=>by cases y)
   refine⟨SB,up n0.1 n0.2 tB0,fun c' hc'=> ?_⟩
   obtain⟨o,o1,o2⟩:=tB1 c' hc'
   have n1:=nxy o1 (fun _ y=>by cases y)
   exact⟨o,up n1.1 n1.2 o1,o2⟩
  ·have ktu:bS H' (dR f' H'):=fun a xs e=>KN (fun u y=>by cases y) e
   cases tf with
   |inl d=>
    obtain⟨a,v,r1',r2',r3',r4'⟩:=told
    exact⟨a,v,r1',ktu _ _ r2',r3'.keep ktu,r4'⟩
   |inr is=>
    obtain⟨a,l,r1',r2',r3',r4'⟩:=told
    refine⟨a,l,r1',ktu _ _ r2',KN (fun u y=>by cases y) r3',?_⟩
    cases e:H l with
    |none=>rfl
    |some o=>
     exfalso
     by_cases y:l=z.2
     ·rw[y]at r4'
      obtain⟨SB,tB0,_⟩:=tB
      rw[sL _ _ tB0]at r4'
      cases r4'
     ·rw[sL _ _ (uB _ _ y e)]at r4'
      cases r4'
def b2E(K:Fg)(CF CB CT:Addr)(sp:Sp):Sp:=fun vs H Q _=>∃(fi ce ta:Addr),vs= [.ref fi,.ref ce,.ref ta] /\
 ((∃v,H ta=some (.tup [.str ("value":Str),v])/\Q v H)\/
  ∃(bd fd lk l:Addr) (nm c:Str) (p:Nat) (B:BM) (kf:List (Ky×V)),H ta=some (.tup [.str ("call":Str),.ref l])/\dF CF CB CT H fi bd fd lk nm B kf/\H ce=some (.tup ((aU nm c p).map kV))/\sp [.ref B.b,.str c,.int (p:Int),.ref l] H Q E0)
theorem b5N:aY ["self","cell","told"] ["self","cell","told"] (aF yA):=⟨rfl,rfl,rfl,by decide+kernel,rfl,by decide+kernel,by decide+kernel⟩
theorem b6I(T:aZ K mg){CF CB CT:Addr}(Y:eM K mg CF)(Wb:cU K mg CB){sp:Sp}{k:Nat}(G:aN P w K mg base aB k CB "outcome" ["self","column","place","some"] sp):aN P w K mg base aB (k+ 1) CF "settle" ["self","cell","told"] (b2E K CF CB CT sp):=by
 refine Y.m_settle.known b5N (fun _ _ _ _ _ _ us hl=>dP (fun _ _ _=>rfl) us hl) (fun vs H Q E h=> ?_) (fun f cdv A outer s H vs Q E hr h=> ?_)
 ·obtain⟨fi,ce,ta,rfl,_⟩:=h
  rfl
 ·obtain⟨fi,ce,ta,rfl,h⟩:=h
  have hu:=eC hr
  refine⟨_,(aJ (bN (cJ lW (bP eW (pv 2) aW (fun _ _=>rfl)) hU (cO _)) (aI (bE (bP eW (pv 2) aW (fun _ _=>rfl)))) bO)
   (aI (bE (bW (fV hu (aX (pv 0) rfl) (bP eW (pv 1) aW (fun _ _=>rfl)) (fun _ _=>rfl)) Wb.cl G hr aM (aA (bP eW (pv 1) aW (fun _ _=>rfl)) (aA (bP eW (pv 1) aW (fun _ _=>rfl)) (aA (bP eW (pv 2) aW (fun _ _=>rfl)) aE))))))),?_⟩
  rcases h with⟨v,hta,q⟩|⟨bd,fd,lk,l,nm,c,p,B,kf,hta,F,hce,q⟩
  ·refine⟨_,rfl,ta,_,_,_,rfl,rfl,bU.of hta,rfl,rfl,_,rfl,dN (fun _=> ?_) (fun h=>absurd (decide_eq_true rfl) h)⟩
   exact⟨_,rfl,ta,_,_,_,rfl,rfl,bU.of hta,rfl,q⟩
  ·refine⟨_,rfl,ta,_,_,_,rfl,rfl,bU.of hta,rfl,rfl,_,rfl,dN (fun h=>absurd (V.str.inj (of_decide_eq_true h)) (by decide)) (fun _=> ?_)⟩
   obtain⟨d0,e1⟩:=F.fin
   obtain⟨kb,e2,e3⟩:=F.bds
   obtain⟨d1,b1⟩:=F.B.at_
   exact⟨_,rfl,fi,CF,d0,_,_,rfl,e1,Y.cl,Y.n_boards,(jH _ _ _).1,_,rfl,ce,_,_,_,rfl,rfl,bU.of hce,rfl,bd,_,rfl,e3▸cC.k (k:=Sum.inr nm) e2,B.b,d1,_,rfl,b1,pF,_,rfl,ce,_,_,_,rfl,rfl,bU.of hce,rfl,_,rfl,ce,_,_,_,rfl,rfl,bU.of hce,rfl,_,rfl,ta,_,_,_,rfl,rfl,bU.of hta,rfl,q⟩
def zB(CF CB CT:Addr):Sp:=fun vs H Q _=>∃(fi bd fd lk ce:Addr) (nm c:Str) (p:Nat) (B:BM) (kf:List (Ky×V)) (r v:V),vs= [.ref fi,.ref ce] /\dF CF CB CT H fi bd fd lk nm B kf/\H ce=some (.tup ((aU nm c p).map kV))/\aO B.rus (.inr c:aC)=some r/\aO kf (aU nm c p)=some v/\Q .non H
abbrev b8l:List Str:=["self","cell","trial","told"]
theorem a0x:aY b8l ["self","cell"] (aF lK):=⟨rfl,rfl,rfl,by decide+kernel,rfl,by decide+kernel,by decide+kernel⟩
theorem b7D(T:aZ K mg){CF CB CT:Addr}(Y:eM K mg CF)(Wb:cU K mg CB):iY P w K mg base 5 "attempt" "Finder.attempt" lK ["self","cell"] (zB CF CB CT):=by
 have G_knows:aN P w K mg base aB 4 CF "knows" ["self","cell"] (a9E CF CB CT):=b19 T Y Wb
 refine a1M a0x (fun vs H Q E h=> ?_) (fun f cdv A outer s H vs Q E hr h=> ?_)
 ·obtain⟨fi,bd,fd,lk,ce,nm,c,p,B,kf,r,v,rfl,_⟩:=h
  rfl
 ·obtain⟨fi,bd,fd,lk,ce,nm,c,p,B,kf,r,v,rfl,F,hce,hru,hv,q⟩:=h
  refine⟨_,(aJ (bN (cH (bW (pv 0) Y.cl G_knows hr aM (aA (pv 1) aE)) (fun _=>rfl)) (aI (bE iG)) bO)
   (aJ cF (aJ cF (aJ cF (aI cF))))),?_⟩
  obtain⟨d0,e1⟩:=F.fin
  refine⟨_,rfl,fi,d0,_,rfl,e1,kJ,_,rfl,fi,bd,fd,lk,ce,nm,c,p,B,kf,r,rfl,F,hce,hru,_,rfl,?_⟩
  rw[hv]
  exact cG q
end
structure gK where
 fi:Addr
 bd:Addr
 fd:Addr
 lk:Addr
 tabs:List (Str×BM)
 Ks:List Ky
 gv:Str->Str->Option (List V)
 nm:Str
 c:Str
 B:BM
 gr:Addr
 fa:Addr
 ca:Addr
 mc:Addr
 fs:List (Str×V)
 g:List Int->PyData
 ok:List Int->Prop
structure oB(X:gK):Prop where
 o3:Ok3 X.tabs X.Ks X.gv
 hB:(X.nm,X.B)∈X.tabs
 ru:aO X.B.rus (.inr X.c:aC)=some (.ref X.gr)
 me:aO X.B.mes (.inr X.c:aC)=some (.ref X.mc)
 no:X.gv X.nm X.c=none
 kin:∀p,p<X.B.xs.length->aU X.nm X.c p∈X.Ks
 rf:RF X.fs X.fa
 ga:X.fs.lookup ("gather":Str)=none
 gg:∀is,X.ok is->lY (X.g is)/\Vd (gI (X.g is))
 fl:X.fd≠X.lk
 mb:X.mc≠X.bd
 mm:∀tb∈X.tabs,X.mc≠tb.2.e/\X.mc≠tb.2.ru/\X.mc≠tb.2.me
 cc:∀tb∈X.tabs,X.ca≠tb.2.r/\X.ca≠tb.2.od
 cl:∀t c ys B,X.gv t c=some ys->(t,B)∈X.tabs->aO B.kvs (.inr c:aC)≠some (.ref X.ca)
section
variable{P:Program}{w:World}{K:Fg}{mg:Str->Option Value}{base:Heap}
structure iO(P:Program)(w:World)(K:Fg)(mg:Str->Option Value)(base:Heap)(CF CB CT CG:Addr)(X:gK)(kf kl:List (Ky×V))(mk:List (aC×V))(H:Hp):Prop where
 F:∀tb∈X.tabs,dF CF CB CT H X.fi X.bd X.fd X.lk tb.1 tb.2 kf
 ko:eE X.Ks kf
 fo:∀t c p v ys,X.gv t c=some ys->aO kf (aU t c p)=some v->bY ys (p:Int)=some v
 hl:H X.lk=some (.dT kl)
 lo:eE X.Ks kl
 cols:∀t c ys B,X.gv t c=some ys->(t,B)∈X.tabs->∃l,aO B.kvs (.inr c:aC)=some (.ref l)/\H l=some (.lst ys)
 gr:∃dx,H X.gr=some (.ins CG dx X.fs)
 fn:lE P w K mg base 4 H X.fa X.ca X.g X.ok
 mc:H X.mc=some (.dK mk)
theorem iO.fnd{CF CB CT CG:Addr}{X:gK}{kf kl:List (Ky×V)}{mk:List (aC×V)}{H:Hp}(G:iO P w K mg base CF CB CT CG X kf kl mk H)(O:oB X):H X.fd=some (.dT kf):=(G.F _ O.hB).fnd
theorem iO.same{CF CB CT CG:Addr}{X:gK}{kf kl:List (Ky×V)}{mk:List (aC×V)}{H H':Hp}(G:iO P w K mg base CF CB CT CG X kf kl mk H)(s:aG H H'):iO P w K mg base CF CB CT CG X kf kl mk H':=
 ⟨fun tb h=>(G.F tb h).same s,G.ko,G.fo,s _ _ G.hl,G.lo,fun t c ys B g h=>let ⟨l,a,b⟩:=G.cols t c ys B g h;⟨l,a,s _ _ b⟩,G.gr.imp fun _ e=>s _ _ e,G.fn.keep (eX.of s),s _ _ G.mc⟩
def oZ(K:Fg)(X:gK)(num:Int)(wo:Option (List Int×V))(mk mk':List (aC×V))(cs:List V)(v:V)(H H':Hp):PyData ⊕ List Int->Prop
 | .inl d=>Pv K H' v d/\Giv X.gv v/\mk'=mk/\H' X.ca=some (.lst cs)
 | .inr is=>(wo=some (is,v)/\mk'=mk/\H' X.ca=some (.lst cs))\/
  ((∀vv,wo≠some (is,vv))/\∃tp sm,H tp=none/\H sm=none/\H' X.ca=some (.lst cs)/\H' tp=some (.tup [.ref sm,v])/\H' sm=some (.lst (is.map V.int))/\mk'=aT mk (.inl num:aC) (.ref tp)/\pL K v (gI (X.g is)))
def sD(a b c d e:Addr)(H H':Hp):Prop:=∀x o,x≠a->x≠b->x≠c->x≠d->x≠e->H x=some o->H' x=some o
def xZ(H:Hp)(mk:List (aC×V))(p:Int):Option (List Int×V)->Prop
 |none=>aO mk (.inl p:aC)=none
 |some jv=>rN H mk p jv.1 jv.2
theorem pH{q:Str}{H H':Hp}{z:Addr}(h:gQ q H z)(k:∀b o,(∀x,o≠ .dT x)->(∀x,o≠ .dK x)->(∀x,o≠ .lst x)->H b=some o->H' b=some o):gQ q H' z:=by
 obtain⟨S,h1,h2⟩:=h
 refine⟨S,k _ _ (fun x y=>by cases y) (fun x y=>by cases y) (fun x y=>by cases y) h1,fun c hc=> ?_⟩
 obtain⟨o,o1,o2⟩:=h2 c hc
 exact⟨o,k _ _ (fun x y=>by cases y) (fun x y=>by cases y) (fun x y=>by cases y) o1,o2⟩
theorem iO.to{CF CB CT CG zt:Addr}{X:gK}(O:oB X){kf kl kf' kl':List (Ky×V)}{mk mk':List (aC×V)}{cs:List V}{H H':Hp}(G:iO P w K mg base CF CB CT CG X kf kl mk H)(fr:sD X.fd X.lk zt X.ca X.mc H H')(tb:gQ jK H zt)(hca:H X.ca=some (.lst cs))(hfd:H' X.fd=some (.dT kf'))(hlk:H' X.lk=some (.dT kl'))(hmc:H' X.mc=some (.dK mk'))(ko:eE X.Ks kf')(lo:eE X.Ks kl')(fo:∀t c p v ys,X.gv t c=some ys->aO kf' (aU t c p)=some v->bY ys (p:Int)=some v):iO P w K mg base CF CB CT CG X kf' kl' mk' H':=by
 obtain⟨S0,t0,_⟩:=tb
 have fd0:=G.fnd O
 have u:∀{b:Addr} {o:HO},H b=some o->(∀x,o≠ .dT x)->(∀x,o≠ .ext x)->b≠X.ca->b≠X.mc->H' b=some o:=fun{b o} e n1 n2 n3 n4=>fr b o (fun y=>by rw[y,fd0]at e;exact n1 _ (Option.some.inj e).symm) (fun y=>by rw[y,G.hl]at e;exact n1 _ (Option.some.inj e).symm) (fun y=>by rw[y,t0]at e;exact n2 _ (Option.some.inj e).symm) n3 n4 e
 have na:∀{b:Addr} {o:HO},H b=some o->(∀x,o≠ .lst x)->b≠X.ca:=fun e n y=>by rw[y,hca]at e;exact n _ (Option.some.inj e).symm
 have nm:∀{b:Addr} {o:HO},H b=some o->(∀x,o≠ .dK x)->b≠X.mc:=fun e n y=>by rw[y,G.mc]at e;exact n _ (Option.some.inj e).symm
 have ui:∀{b C dx:Addr} {fs:List (Str×V)},H b=some (.ins C dx fs)->H' b=some (.ins C dx fs):=fun e=>u e (fun _ y=>by cases y) (fun _ y=>by cases y) (na e (fun _ y=>by cases y)) (nm e (fun _ y=>by cases y))
 have ul:∀{b:Addr} {xs:List V},H b=some (.lst xs)->b≠X.ca->H' b=some (.lst xs):=fun e n=>u e (fun _ y=>by cases y) (fun _ y=>by cases y) n (nm e (fun _ y=>by cases y))
 have ud:∀{b:Addr} {xs:List (aC×V)},H b=some (.dK xs)->b≠X.mc->H' b=some (.dK xs):=fun e n=>u e (fun _ y=>by cases y) (fun _ y=>by cases y) (na e (fun _ y=>by cases y)) n
 have kz:eX H H':=fun a x e=>u e (fun _ y=>by cases y) (fun _ y=>by cases y) (na e (fun _ y=>by cases y)) (nm e (fun _ y=>by cases y))
 have l':=ko.len
 have k8:=O.o3.k8
 refine⟨fun tb htb=> ?_,ko,fo,hlk,lo,fun t c ys B g h=>let ⟨l,h1,h2⟩:=G.cols t c ys B g h;⟨l,h1,ul h2 (fun y=>O.cl t c ys B g h (y▸h1))⟩,G.gr.imp fun _ e=>ui e,G.fn.keep kz,hmc⟩
 obtain⟨d0,e1⟩:=(G.F tb htb).fin
 obtain⟨kb,e2,e3⟩:=(G.F tb htb).bds
 obtain⟨⟨d1,b1⟩,⟨⟨d2,b2⟩,b3,b4⟩,b5,b6,b7⟩:=(G.F tb htb).B
 obtain⟨m1,m2,m3⟩:=O.mm tb htb
 obtain⟨c1,c2⟩:=O.cc tb htb
 exact⟨⟨d0,ui e1⟩,⟨kb,ud e2 O.mb.symm,e3⟩,⟨⟨d1,ui b1⟩,⟨⟨d2,ui b2⟩,ul b3 c1.symm,ud b4 m1.symm⟩,ud b5 m2.symm,ud b6 m3.symm,ul b7 c2.symm⟩,hfd,by omega⟩
theorem b6S{κ:Type} [DecidableEq κ]{kvs:List (κ×V)}{k:κ}{v:V}(h:aO kvs k=some v):(k,v)∈kvs:=by
 unfold aO at h
 cases e:kvs.find? fun kv=>decide (kv.1=k)with
 |none=>rw[e]at h;cases h
 |some kv=>
  rw[e]at h
  have h2:kv.2=v:=Option.some.inj h
  have h1:kv.1=k:=by have:=List.find?_some e;simpa using this
  rw[<- h1,<- h2]
  exact List.mem_of_find?_eq_some e
open Classical in
noncomputable def a6a (tabs:List (Str×BM)) (gv:Str->Str->Option (List V)):List Addr:=tabs.flatMap fun tb=>tb.2.kvs.filterMap fun kv=>match kv with
 |(.inr c,.ref l)=>if(gv tb.1 c).isSome/\aO tb.2.kvs (.inr c:aC)=some (.ref l) then some l else none
 |_=>none
theorem b6O{tabs:List (Str×BM)}{gv:Str->Str->Option (List V)}{t c:Str}{ys:List V}{B:BM}{l:Addr}(g:gv t c=some ys)(h:(t,B)∈tabs)(e:aO B.kvs (.inr c:aC)=some (.ref l)):l∈a6a tabs gv:=by
 refine List.mem_flatMap.mpr ⟨(t,B),h,List.mem_filterMap.mpr ⟨_,b6S e,?_⟩⟩
 show(if(gv t c).isSome/\aO B.kvs (.inr c:aC)=some (.ref l) then some l else none)=some l
 rw[if_pos ⟨by rw[g];rfl,e⟩]
theorem b42{tabs:List (Str×BM)}{gv:Str->Str->Option (List V)}{l:Addr}(h:l∈a6a tabs gv):∃t c ys B,gv t c=some ys/\(t,B)∈tabs/\aO B.kvs (.inr c:aC)=some (.ref l):=by
 obtain⟨tb,h1,h2⟩:=List.mem_flatMap.mp h
 obtain⟨kv,h3,h4⟩:=List.mem_filterMap.mp h2
 split at h4
 ·next c l'=>
  split at h4
  ·next hc=>
   cases h4
   obtain⟨ys,hy⟩:=Option.isSome_iff_exists.mp hc.1
   exact⟨tb.1,c,ys,tb.2,hy,h1,hc.2⟩
  ·cases h4
 ·cases h4
theorem dF.noext{CF CB CT:Addr}{H:Hp}{fi bd fd lk:Addr}{nm:Str}{B:BM}{kf:List (Ky×V)}(F:dF CF CB CT H fi bd fd lk nm B kf){b:Addr}(hb:b∈ [fi,bd,fd] ++ B.foot){φ:Heap->Prop}(z:H b=some (HO.ext φ)):False:=by
 obtain⟨dx,e1⟩:=F.fin
 obtain⟨kb,e2,e3⟩:=F.bds
 obtain⟨⟨d1,b1⟩,⟨⟨d2,b2⟩,b3,b4⟩,b5,b6,b7⟩:=F.B
 have e0:=F.fnd
 simp only[BM.foot,List.cons_append,List.nil_append,List.mem_cons,List.not_mem_nil,or_false]at hb
 rcases hb with rfl|rfl|rfl|rfl|rfl|rfl|rfl|rfl|rfl|rfl
 ·rw[e1]at z;cases z
 ·rw[e2]at z;cases z
 ·rw[e0]at z;cases z
 ·rw[b1]at z;cases z
 ·rw[b2]at z;cases z
 ·rw[b3]at z;cases z
 ·rw[b4]at z;cases z
 ·rw[b5]at z;cases z
 ·rw[b6]at z;cases z
 ·rw[b7]at z;cases z
noncomputable def W3 (X:nI):List Addr:=[X.fd,X.tr,X.tl] ++ (X.tabs.flatMap fun tb=> [X.fi,X.bd,X.fd] ++ tb.2.foot)++ a6a X.tabs X.gv
theorem b7H(X:nI):Wof X (W3 X) where
 o:=⟨by simp[W3],by simp[W3],by simp[W3]⟩
 f:=fun tb h b hb=>List.mem_append_left _ (List.mem_append_right _ (List.mem_flatMap.mpr ⟨tb,h,hb⟩))
 c:=fun t c ys B l g h e=>List.mem_append_right _ (b6O g h e)
 n:=fun b hb=>by
  rcases List.mem_append.mp hb with hb|hb
  ·rcases List.mem_append.mp hb with hb|hb
   ·simp only[List.mem_cons,List.not_mem_nil,or_false]at hb
    rcases hb with h|h|h
    ·exact .inl h
    ·exact .inr (.inl h)
    ·exact .inr (.inr (.inl h))
   ·obtain⟨tb,h1,h2⟩:=List.mem_flatMap.mp hb
    exact .inr (.inr (.inr (.inl ⟨tb,h1,h2⟩)))
  ·exact .inr (.inr (.inr (.inr (b42 hb))))
def zS(P:Program)(w:World)(K:Fg)(mg:Str->Option Value)(base:Heap)(CF CB CT CG zt:Addr)(spg:Sp):Sp:=fun vs H Q _=>∃(X:gK) (ce:Addr) (p:Nat) (num:Int) (tf:PyData ⊕ List Int) (kf kl:List (Ky×V)) (mk:List (aC×V)) (cs:List V) (wo:Option (List Int×V)),vs= [.ref X.fi,.ref ce] /\oB X/\iO P w K mg base CF CB CT CG X kf kl mk H/\mk.length<90/\H ce=some (.tup ((aU X.nm X.c p).map kV))/\p<X.B.xs.length/\bY X.B.xs (p:Int)=some (.int num)/\aO kf (aU X.nm X.c p)=none/\gQ jK H zt/\H X.ca=some (.lst cs)/\cs.length<900/\xZ H mk num wo/\(∀tl,zC P w K mg base spg X.gr X.tabs X.gv X.fd tl X.nm X.c p tf H)/\(∀is,tf= .inr is->X.ok is/\is.length<=100)/\
 ∀H' v kf' kl' mk',iO P w K mg base CF CB CT CG X kf' kl' mk' H'->gQ jK H' zt->sD X.fd X.lk zt X.ca X.mc H H'->aO kf' (aU X.nm X.c p)=some v->(∀t c p',X.gv t c=none->aU t c p'≠aU X.nm X.c p->aO kf' (aU t c p')=aO kf (aU t c p'))->oZ K X num wo mk mk' cs v H H' tf->Q .non H'
theorem b9K(T:aZ K mg){CR CF CB CT CG:Addr}(R:lG K mg CR)(Y:eM K mg CF)(Wb:cU K mg CB)(Z:dO K mg CT)(Gr:yH K CG){z:Addr×Addr}(B2:jR K mg "Finder" "gathered" "Finder.gathered" eY z)(M:iN mg base z.1 z.2){spg:Sp}(G_gather:aN P w K mg base aB 8 CG "gather" ["self","look","many","table","column","place"] spg):iY P w K mg base 10 "attempt" "Finder.attempt" lK ["self","cell"] (zS P w K mg base CF CB CT CG z.2 spg):=by
 have G_knows:aN P w K mg base aB 4 CF "knows" ["self","cell"] (a9E CF CB CT):=b19 T Y Wb
 have GI:dI P w K mg base aB 1 CR ["self","finder"] (b39 CR):=sW T R
 have G_gd:aN P w K mg base aB 9 CF "gathered" lI (b2k P w K mg base CR CF CB CT CG z.2 spg):=b4E T R Y Wb Z Gr.cl B2 M G_gather
 have G_st:aN P w K mg base aB 7 CF "settle" ["self","cell","told"] (b2E K CF CB CT (b2V P w K mg base 4 CB CT CG)):=b6I T Y Wb (xR T Wb Z Gr (k:=4) (Nat.le_refl _))
 refine a1M a0x (fun vs H Q E h=> ?_) (fun f cdv A outer s H vs Q E hr h=> ?_)
 ·obtain⟨X,ce,p,num,tf,kf,kl,mk,cs,wo,rfl,_⟩:=h
  rfl
 ·obtain⟨X,ce,p,num,tf,kf,kl,mk,cs,wo,rfl,O,G,mk9,hce,hp,hnum,hno,tb,hca,cl,hw,use,hok,q⟩:=h
  have GF:=G.F _ O.hB
  have fd0:H X.fd=some (.dT kf):=GF.fnd
  have k8:=O.o3.k8
  have hu:=eC hr
  refine⟨_,(aJ (bN (cH (bW (pv 0) Y.cl G_knows (hr.mono (by decide)) aM (aA (pv 1) aE)) (fun _=>rfl)) (aI (bE iG)) bO)
   (aJ (bV (i:=2) a0x.nd rfl (Or.inl rfl) (jO GI (hr.mono (by decide)) R.c aM (aA (pv 0) aE)))
   (aJ (bV (i:=3) a0x.nd rfl (Or.inl rfl) (bW (pv 0) Y.cl G_gd hr aM (aA (pv 2) (aA (bP eW (pv 1) aW (fun _ _=>rfl)) (aA (bP eW (pv 1) aW (fun _ _=>rfl)) (aA (bP eW (pv 1) aW (fun _ _=>rfl)) aE))))))
   (aJ (bN (cJ qU (aX (pv 2) rfl) iG (cO _)) (aJ (jI hu (aX (pv 0) rfl) (pv 1) (aX (pv 2) rfl) rfl) (aI (jI hu (aX (pv 0) rfl) (pv 1) (bW (pv 0) Y.cl G_st (hr.mono (by decide)) aM (aA (pv 1) (aA (pv 3) aE))) rfl))) bO)
   (aI (bE (aX (pv 2) rfl))))))),?_⟩
  obtain⟨d0,e1⟩:=GF.fin
  refine⟨_,rfl,X.fi,d0,_,rfl,e1,kJ,_,rfl,X.fi,X.bd,X.fd,X.lk,ce,X.nm,X.c,p,X.B,kf,_,rfl,GF,hce,O.ru,_,rfl,?_⟩
  rw[hno]
  refine bJ ⟨_,rfl,?_⟩
  intro tr dt htr hdt ne
  refine⟨tr,dt,X.fi,rfl,aK,fun H1 tl htl t1 t2 b1=>⟨rfl,?_⟩⟩
  have s1:aG H H1:=fun b o e=>b1 b o (bD e htr) (by rw[aH (bD e htr),aH (bD e hdt)];exact e)
  have htl0:H tl=none:=by
   by_cases y:tl=tr
   ·rw[y];exact htr
   ·by_cases y2:tl=dt
    ·rw[y2];exact hdt
    ·rw[aH y,aH y2]at htl;exact htl
  have ce1:=s1 _ _ hce
  obtain⟨dxg,hgr⟩:=G.gr
  let Y8:nI:=⟨X.fi,X.bd,X.fd,X.lk,tr,tl,X.tabs,X.Ks,X.gv,kf⟩
  have J1:J3 CR CF CB CT Y8 H1:=⟨⟨kf,fun tb h=>(G.F tb h).same s1,s1 _ _ fd0,G.ko,G.fo,fun _ _ _ _=>rfl⟩,⟨dt,t1⟩,⟨[],t2,eE.nil⟩,fun t c ys B g h=>let ⟨l,h1,h2⟩:=G.cols t c ys B g h;⟨l,h1,s1 _ _ h2⟩⟩
  have ntf:tl≠X.fd:=fun y=>by rw[y,fd0]at htl0;cases htl0
  have wof:=b7H Y8
  obtain⟨Sz,tz,_⟩:=id tb
  have tb1:gQ jK H1 z.2:=pH tb fun b o _ _ _ e=>s1 _ _ e
  have nzW:z.2∉W3 Y8:=by
   intro hm
   have t1z:=s1 _ _ tz
   rcases wof.n _ hm with h|h|h|⟨tb',h1,h2⟩|⟨t',c',ys',B',g1,g2,g3⟩
   ·have h:z.2=X.fd:=h
    rw[h,s1 _ _ fd0]at t1z;cases t1z
   ·have h:z.2=tr:=h
    rw[h,t1]at t1z;cases t1z
   ·have h:z.2=tl:=h
    rw[h,t2]at t1z;cases t1z
   ·exact((G.F tb' h1).same s1).noext h2 t1z
   ·obtain⟨l',g4,g5⟩:=G.cols t' c' ys' B' g1 g2
    have g3:aO B'.kvs (.inr c':aC)=some (.ref z.2):=g3
    rw[g3]at g4
    cases g4
    rw[s1 _ _ g5]at t1z;cases t1z
  refine⟨_,rfl,X.fi,d0,_,rfl,s1 _ _ e1,kJ,_,rfl,_,rfl,ce,_,_,_,rfl,rfl,bU.of ce1,rfl,_,rfl,ce,_,_,_,rfl,rfl,bU.of ce1,rfl,_,rfl,ce,_,_,_,rfl,rfl,bU.of ce1,rfl,
   Y8,W3 Y8,X.gr,dxg,X.fs,X.nm,X.c,X.B,p,tf,rfl,J1,ntf,O.o3,wof,nzW,O.hB,O.ru,s1 _ _ hgr,O.ga,tb1,(fun look many J W HB Q' kx=>use tl look many J W HB Q' (fun b o n e=>kx b o n (s1 _ _ e))),fun H2 fv fr J2 tb2 told=> ?_⟩
  obtain⟨kf2,F2',w02,ko2,fo2,ru2⟩:=J2.kf
  have F2:dF CF CB CT H2 X.fi X.bd X.fd X.lk X.nm X.B kf2:=F2' _ O.hB
  obtain⟨d3,tr2⟩:=J2.tr
  obtain⟨kt2,tl2,to2⟩:=J2.tl
  obtain⟨a1,a2,a3,a4⟩:=a6c X.fi tl .non
  obtain⟨d02,f2⟩:=F2.fin
  have up2:∀{x:Addr} {o:HO},x≠X.fd->x≠z.2->H x=some o->H2 x=some o:=fun n1 n2 e=>fr _ _ n1 (bD e htl0) n2 (s1 _ _ e)
  have nz:∀{b:Addr} {o:HO},H b=some o->(∀x,o≠ .ext x)->b≠z.2:=fun e n y=>by rw[y,tz]at e;exact n _ (Option.some.inj e).symm
  have nf:∀{b:Addr} {o:HO},H b=some o->(∀x,o≠ .dT x)->b≠X.fd:=fun e n y=>by rw[y,fd0]at e;exact n _ (Option.some.inj e).symm
  have lk2:=up2 O.fl.symm (nz G.hl (fun _ y=>by cases y)) G.hl
  have ce2:=up2 (nf hce (fun _ y=>by cases y)) (nz hce (fun _ y=>by cases y)) hce
  have nl2:=G.lo.len
  refine⟨_,rfl,tr,CR,d3,_,_,rfl,tr2,R.cl,R.n_lacking,a3,rfl,_,rfl,cG ?_⟩
  refine⟨_,rfl,tr,CR,d3,_,_,rfl,tr2,R.cl,R.n_looked,a2,_,rfl,X.fi,CF,d02,_,_,rfl,f2,Y.cl,Y.n_looked,(jH _ _ _).2.2,_,rfl,X.lk,_,rfl,.inr ⟨kl,aU X.nm X.c p,ce,lk2,rfl,ce2,cQ (by omega),rfl⟩,?_⟩
  have u3:bG X.lk H2 (upd H2 X.lk (.dT (aT kl (aU X.nm X.c p) (.ref tl)))):=fun b o n e=>by rw[aH n];exact e
  have lk3:upd H2 X.lk (.dT (aT kl (aU X.nm X.c p) (.ref tl))) X.lk=some (.dT (aT kl (aU X.nm X.c p) (.ref tl))):=aK
  have n3:∀b,upd H2 X.lk (.dT (aT kl (aU X.nm X.c p) (.ref tl))) b=none->H2 b=none:=fun b y=>by
   have:b≠X.lk:=fun y'=>by rw[y',aK]at y;cases y
   rw[aH this]at y
   exact y
  generalize upd H2 X.lk (.dT (aT kl (aU X.nm X.c p) (.ref tl)))=H3 at u3 lk3 n3|-
  have k3:∀{b:Addr} {o:HO},H2 b=some o->(∀x,o≠ .dT x)->H3 b=some o:=fun e n=>u3 _ _ (fun y=>by rw[y,lk2]at e;exact n _ (Option.some.inj e).symm) e
  have fd3:=u3 _ _ O.fl F2.fnd
  have F3:dF CF CB CT H3 X.fi X.bd X.fd X.lk X.nm X.B kf2:=by
   obtain⟨d0,e1⟩:=F2.fin
   obtain⟨kb,e2,e3⟩:=F2.bds
   obtain⟨⟨d1,b1⟩,⟨⟨d2,b2⟩,b3,b4⟩,b5,b6,b7⟩:=F2.B
   exact⟨⟨d0,k3 e1 (fun _ y=>by cases y)⟩,⟨kb,k3 e2 (fun _ y=>by cases y),e3⟩,⟨⟨d1,k3 b1 (fun _ y=>by cases y)⟩,⟨⟨d2,k3 b2 (fun _ y=>by cases y)⟩,k3 b3 (fun _ y=>by cases y),k3 b4 (fun _ y=>by cases y)⟩,k3 b5 (fun _ y=>by cases y),k3 b6 (fun _ y=>by cases y),k3 b7 (fun _ y=>by cases y)⟩,fd3,F2.len⟩
  have fr3:∀{x:Addr} {o:HO},x≠X.fd->x≠X.lk->x≠z.2->H x=some o->H3 x=some o:=fun n1 n2 n3 e=>u3 _ _ n2 (up2 n1 n3 e)
  have q3:∀{x:Addr} {o:HO},H x=some o->(∀y,o≠ .dT y)->(∀y,o≠ .ext y)->H3 x=some o:=fun e n1 n2=>k3 (up2 (nf e n1) (nz e n2) e) n1
  have ce3:=q3 hce (fun _ y=>by cases y) (fun _ y=>by cases y)
  have tr3:=k3 tr2 (fun _ y=>by cases y)
  have tb3:gQ jK H3 z.2:=pH tb2 fun b o n1 _ _ e=>k3 e n1
  have ca3:=q3 hca (fun _ y=>by cases y) (fun _ y=>by cases y)
  have mc3:=q3 G.mc (fun _ y=>by cases y) (fun _ y=>by cases y)
  have gr3:=q3 hgr (fun _ y=>by cases y) (fun _ y=>by cases y)
  have kz3:eX H H3:=fun b u e=>q3 e (fun _ y=>by cases y) (fun _ y=>by cases y)
  have none3:∀{x:Addr},H3 x=none->H x=none:=fun{x} e=>by
   cases e2:H x with
   |none=>rfl
   |some o=>
    by_cases y1:x=X.fd
    ·rw[y1,fd3]at e;cases e
    ·by_cases y2:x=X.lk
     ·rw[y2,lk3]at e;cases e
     ·by_cases y3:x=z.2
      ·obtain⟨S3,h3,_⟩:=tb3
       rw[y3,h3]at e;cases e
      ·rw[fr3 y1 y2 y3 e2]at e;cases e
  have l2:kf2.length<=X.Ks.length:=ko2.len
  have fin:∀(H5:Hp) (v:V) (mk':List (aC×V)),(∀x o,x≠X.ca->x≠X.mc->H3 x=some o->H5 x=some o)->H5 X.mc=some (.dK mk')->(∀H6,bG X.fd H5 H6->oZ K X num wo mk mk' cs v H H6 tf)->
   ∃d5 H6,H5 X.fi=some (.ins CF d5 (fY X.bd X.fd X.lk))/\iC H5 X.fd (.ref ce) v H6/\H6 tr=some (.ins CR d3 (lX X.fi tl .non))/\Q .non H6:=fun H5 v mk' f5 mc5 en=>by
   have k5:∀{b:Addr} {o:HO},H3 b=some o->(∀x,o≠ .lst x)->(∀x,o≠ .dK x)->H5 b=some o:=fun e n1 n2=>f5 _ _ (fun y=>by rw[y,ca3]at e;exact n1 _ (Option.some.inj e).symm) (fun y=>by rw[y,mc3]at e;exact n2 _ (Option.some.inj e).symm) e
   obtain⟨d5,e5⟩:=F3.fin
   have fd5:=k5 fd3 (fun _ y=>by cases y) (fun _ y=>by cases y)
   have ce5:=k5 ce3 (fun _ y=>by cases y) (fun _ y=>by cases y)
   refine⟨d5,_,k5 e5 (fun _ y=>by cases y) (fun _ y=>by cases y),.inr ⟨kf2,aU X.nm X.c p,ce,fd5,rfl,ce5,cQ (by omega),rfl⟩,?_⟩
   have u6:bG X.fd H5 (upd H5 X.fd (.dT (aT kf2 (aU X.nm X.c p) v))):=fun b o n e=>by rw[aH n];exact e
   have fd6:upd H5 X.fd (.dT (aT kf2 (aU X.nm X.c p) v)) X.fd=some (.dT (aT kf2 (aU X.nm X.c p) v)):=aK
   generalize upd H5 X.fd (.dT (aT kf2 (aU X.nm X.c p) v))=H6 at u6 fd6|-
   have k6:∀{b:Addr} {o:HO},H5 b=some o->(∀x,o≠ .dT x)->H6 b=some o:=fun e n=>u6 _ _ (fun y=>by rw[y,fd5]at e;exact n _ (Option.some.inj e).symm) e
   have fr6:sD X.fd X.lk z.2 X.ca X.mc H H6:=fun x o n1 n2 n3 n4 n5 e=>u6 _ _ n1 (f5 _ _ n4 n5 (fr3 n1 n2 n3 e))
   refine⟨k6 (k5 tr3 (fun _ y=>by cases y) (fun _ y=>by cases y)) (fun _ y=>by cases y),?_⟩
   refine q H6 v (aT kf2 (aU X.nm X.c p) v) (aT kl (aU X.nm X.c p) (.ref tl)) mk' (G.to O fr6 tb hca fd6 (u6 _ _ O.fl.symm (k5 lk3 (fun _ y=>by cases y) (fun _ y=>by cases y))) (k6 mc5 (fun _ y=>by cases y)) (ko2.put (O.kin p hp)) (G.lo.put (O.kin p hp)) (fun t c p' v' ys g e=> ?_)) (pH tb3 fun b o n1 n2 n3 e=>k6 (k5 e n3 n2) n1) fr6 (by rw[iE,if_pos rfl]) (fun t c p' g ne=> ?_) (en H6 u6)
   ·rw[iE,if_neg (fun y=>by
     obtain⟨rfl,rfl,_⟩:=rS y
     rw[O.no]at g
     cases g)]at e
    exact fo2 t c p' v' ys g e
   ·rw[iE,if_neg ne]
    exact ru2 t c p' g
  obtain⟨d03,f3⟩:=F3.fin
  cases tf with
  |inl d=>
   obtain⟨ta,v,rfl,hta,hpv,hgv⟩:=told
   have kt3:bS H2 H3:=fun a xs e=>k3 e (fun _ y=>by cases y)
   obtain⟨d5,H6,g1,g2,g3,g4⟩:=fin H3 v mk (fun x o _ _ e=>e) mc3 (fun H6 b6=>by
    exact⟨(hpv.keep kt3).keep (fun a xs e=>b6 _ _ (fun y=>by rw[y,fd3]at e;cases e) e),hgv,rfl,b6 _ _ (fun y=>by rw[y,fd3]at ca3;cases ca3) ca3⟩)
   exact⟨_,rfl,X.fi,d03,_,rfl,f3,kJ,_,rfl,_,rfl,X.fi,ce,ta,rfl,.inl ⟨v,kt3 _ _ hta,_,rfl,X.fi,CF,d5,_,_,rfl,g1,Y.cl,Y.n_found,(jH _ _ _).2.1,_,rfl,X.fd,H6,rfl,g2,_,rfl,tr,CR,d3,_,_,rfl,g3,R.cl,R.n_lacking,a3,g4⟩⟩
  |inr is=>
   obtain⟨ta,l,rfl,hta,hl2,hl0⟩:=told
   have hl3:=k3 hl2 (fun _ y=>by cases y)
   have hta3:=k3 hta (fun _ y=>by cases y)
   have hlH:H l=none:=fT s1 hl0
   obtain⟨okis,l100⟩:=hok is rfl
   obtain⟨sh,vd⟩:=O.gg is okis
   have was3:∀{js vv},rN H mk num js vv->rN H3 mk num js vv:=fun⟨tp,lo,w1,w2,w3⟩=>⟨tp,lo,w1,q3 w2 (fun _ y=>by cases y) (fun _ y=>by cases y),q3 w3 (fun _ y=>by cases y) (fun _ y=>by cases y)⟩
   refine⟨_,rfl,X.fi,d03,_,rfl,f3,kJ,_,rfl,_,rfl,X.fi,ce,ta,rfl,.inr ⟨X.bd,X.fd,X.lk,l,X.nm,X.c,p,X.B,kf2,hta3,F3,ce3,l,X.gr,X.mc,X.fa,X.ca,dxg,X.c,X.fs,p,num,X.B,mk,X.g,X.ok,is,cs,rfl,F3.B,O.ru,O.me,mc3,by omega,hp,hnum,gr3,O.rf,G.fn.keep kz3,hl3,ca3,cl,okis,l100,sh,vd,?_⟩⟩
   have called:(∀vv,wo≠some (is,vv))->∀H5 v tp,(∀x o,x≠X.ca->x≠X.mc->H3 x=some o->H5 x=some o)->H5 X.ca=some (.lst cs)->H3 tp=none->H5 tp=some (.tup [.ref l,v])->H5 X.mc=some (.dK (aT mk (.inl num:aC) (.ref tp)))->pL K v (gI (X.g is))->
    ∃d5 H6,H5 X.fi=some (.ins CF d5 (fY X.bd X.fd X.lk))/\iC H5 X.fd (.ref ce) v H6/\H6 tr=some (.ins CR d3 (lX X.fi tl .non))/\Q .non H6:=fun hh H5 v tp f5 g1 n2 g3 g4 g5=>by
    have fd5:H5 X.fd=some (.dT kf2):=f5 _ _ (fun y=>by rw[<- y,fd3]at ca3;cases ca3) (fun y=>by rw[<- y,fd3]at mc3;cases mc3) fd3
    refine fin H5 v _ f5 g4 (fun H6 b6=> ?_)
    ·have k6:∀{b:Addr} {o:HO},H5 b=some o->(∀x,o≠ .dT x)->H6 b=some o:=fun e n=>b6 _ _ (fun y=>by rw[y,fd5]at e;exact n _ (Option.some.inj e).symm) e
     refine .inr ⟨hh,tp,l,none3 n2,hlH,k6 g1 (fun _ y=>by cases y),k6 g3 (fun _ y=>by cases y),k6 (f5 _ _ ?_ (fun y=>by rw[y,mc3]at hl3;cases hl3) hl3) (fun _ y=>by cases y),rfl,?_⟩
     ·exact fun y=>by rw[y,hca]at hlH;cases hlH
     ·exact g5
   rcases wo with _|⟨js,vv⟩
   ·have hn:∀vv,(none:Option (List Int×V))≠some (is,vv):=fun _ y=>by cases y
    refine .inr ⟨.inl hw,fun H5 v tp f5 g1 n2 g3 g4 g5=> ?_⟩
    obtain⟨d5,H6,r1,r2,r3,r4⟩:=called hn H5 v tp f5 g1 n2 g3 g4 g5
    exact⟨_,rfl,X.fi,CF,d5,_,_,rfl,r1,Y.cl,Y.n_found,(jH _ _ _).2.1,_,rfl,X.fd,H6,rfl,r2,_,rfl,tr,CR,d3,_,_,rfl,r3,R.cl,R.n_lacking,a3,r4⟩
   ·have hw:rN H mk num js vv:=hw
    by_cases hj:js=is
    ·subst hj
     refine .inl ⟨vv,was3 hw,?_⟩
     obtain⟨d5,H6,r1,r2,r3,r4⟩:=fin H3 vv mk (fun x o _ _ e=>e) mc3 (fun H6 b6=>by
      exact .inl ⟨rfl,rfl,b6 _ _ (fun y=>by rw[y,fd3]at ca3;cases ca3) ca3⟩)
     exact⟨_,rfl,X.fi,CF,d5,_,_,rfl,r1,Y.cl,Y.n_found,(jH _ _ _).2.1,_,rfl,X.fd,H6,rfl,r2,_,rfl,tr,CR,d3,_,_,rfl,r3,R.cl,R.n_lacking,a3,r4⟩
    ·refine .inr ⟨.inr ⟨js,vv,was3 hw,hj⟩,fun H5 v tp f5 g1 n2 g3 g4 g5=> ?_⟩
     obtain⟨d5,H6,r1,r2,r3,r4⟩:=called (fun v2 y=>hj (congrArg (·.1) (Option.some.inj y))) H5 v tp f5 g1 n2 g3 g4 g5
     exact⟨_,rfl,X.fi,CF,d5,_,_,rfl,r1,Y.cl,Y.n_found,(jH _ _ _).2.1,_,rfl,X.fd,H6,rfl,r2,_,rfl,tr,CR,d3,_,_,rfl,r3,R.cl,R.n_lacking,a3,r4⟩
def jG(CF:Addr)(sp:Sp):Sp:=fun vs H Q _=>∃(fi ce bd fd lk d0:Addr) (ky:Ky),vs= [.ref fi,.ref ce] /\H fi=some (.ins CF d0 (fY bd fd lk))/\
 ∀H1 wl,H wl=none->aG H H1->H1 wl=some (.lst [.ref ce])->sp [.ref fi,.ref ce] H1 (fun v H2=>v= .non/\∃d2 kf v2,H2 wl=some (.lst [.ref ce])/\H2 fi=some (.ins CF d2 (fY bd fd lk))/\H2 fd=some (.dT kf)/\H2 ce=some (.tup (ky.map kV))/\aO kf ky=some v2/\∀H3,bG wl H2 H3->Q v2 H3) E0
abbrev Nvo:List Str:=["self","cell","waiting","lacking"]
theorem a7f:aY Nvo ["self","cell"] (aF wT):=⟨rfl,rfl,rfl,by decide+kernel,rfl,by decide+kernel,by decide+kernel⟩
theorem b3x(T:aZ K mg){CF:Addr}(Y:eM K mg CF){k:Nat}{sp:Sp}(mono:jV sp)(G:aN P w K mg base aB k CF "attempt" ["self","cell"] sp):aN P w K mg base aB (k+ 1) CF "value_of" ["self","cell"] (jG CF sp):=by
 refine Y.m_value_of.known a7f (fun _ _ _ _ _ _ us hl=>dJ (fun _ _=>rfl) us hl) (fun vs H Q E h=> ?_) (fun f cdv A outer s H vs Q E hr h=> ?_)
 ·obtain⟨fi,ce,bd,fd,lk,d0,ky,rfl,_⟩:=h
  rfl
 ·obtain⟨fi,ce,bd,fd,lk,d0,ky,rfl,hfi,q⟩:=h
  have hu:=eC hr
  refine⟨_,(aJ (bV (i:=2) a7f.nd rfl (Or.inl rfl) (gH (aA (pv 1) aE)))
   (aJ (a6w PassesOwn.never (b2Y (pv 2) (fun _=>rfl)) (aJ (bV (i:=3) a7f.nd rfl (Or.inl rfl) (bW (pv 0) Y.cl G hr aM (aA (bP dD (pv 2) (a7t a3e aW) (fun _ _=>rfl)) aE)))
   (aI (bN (cJ qU (pv 3) iG (cO _)) (aI (bZ (b86 PySem.F.plainAttrs_list PySem.F.slot_list_pop PySem.F.type_list_pop b63 (pv 2)))) (aI cF)))))
   (aI (bE (fV hu (aX (pv 0) rfl) (pv 1) (fun _ _=>rfl)))))),?_⟩
  refine⟨_,rfl,sl,fun wl hwl=> ?_⟩
  have s1:=aG.new (o:=.lst [.ref ce]) hwl
  have w1:upd H wl (.lst [.ref ce]) wl=some (.lst [.ref ce]):=aK
  generalize upd H wl (.lst [.ref ce])=H1 at s1 w1|-
  have q1:=q H1 wl hwl s1 w1
  let Wf:Nat->St->Hp->Prop:=fun m σ H2=>(m=1/\σ= [some (.ref fi),some (.ref ce),some (.ref wl),none] /\H2=H1)\/ (m=0/\σ= [some (.ref fi),some (.ref ce),some (.ref wl),some .non] /\∃d2 kf v2,H2 wl=some (.lst [])/\H2 fi=some (.ins CF d2 (fY bd fd lk))/\H2 fd=some (.dT kf)/\H2 ce=some (.tup (ky.map kV))/\aO kf ky=some v2/\Q v2 H2)
  refine⟨Wf,⟨1,.inl ⟨rfl,rfl,rfl⟩⟩,?_⟩
  rintro m σ H2 (⟨rfl,rfl,rfl⟩|⟨rfl,rfl,d2,kf,v2,h1,h2,h3,h4,h5,h6⟩)
  ·refine⟨_,rfl,_,.inl ⟨_,aL.of w1,rfl⟩,?_⟩
   refine dN (fun g=> ?_) (fun g=>absurd rfl g)
   refine⟨fun σ' H'=>∃m',m'<1/\Wf m' σ' H',fun σ' H' h=>h,?_⟩
   refine⟨_,rfl,fi,d0,_,rfl,s1 _ _ hfi,kJ,_,rfl,_,rfl,wl,_,_,_,rfl,rfl,aL.of w1,rfl,?_⟩
   refine mono _ _ _ _ (fun v H3 hQ=> ?_) q1
   obtain⟨rfl,d2,kf,v2,h1,h2,h3,h4,h5,h6⟩:=hQ
   refine⟨_,rfl,rfl,_,rfl,cG ?_⟩
   refine⟨_,rfl,.inl ⟨rfl,_,aL.of h1⟩,wl,_,_,rfl,rfl,h1,rfl,?_⟩
   have u:bG wl H3 (upd H3 wl (.lst [])):=fun b o n e=>by rw[aH n];exact e
   refine⟨0,by decide,.inr ⟨rfl,rfl,d2,kf,v2,aK,u _ _ (fun y=>by rw[y,h1]at h2;cases h2) h2,u _ _ (fun y=>by rw[y,h1]at h3;cases h3) h3,u _ _ (fun y=>by rw[y,h1]at h4;cases h4) h4,h5,h6 _ u⟩⟩
  ·refine⟨_,rfl,_,.inl ⟨_,aL.of h1,rfl⟩,?_⟩
   refine dN (fun g=>by cases g) (fun g=> ?_)
   refine⟨_,rfl,fi,CF,d2,_,_,rfl,h2,Y.cl,Y.n_found,(jH _ _ _).2.1,_,rfl,fd,v2,rfl,.inr ⟨kf,ky,ce,.inl h3,rfl,h4,h5.symm⟩,h6⟩
theorem b6g{CF CB CT:Addr}:jV (zB CF CB CT):=fun vs H Q Q' hQ h=>by
 obtain⟨fi,bd,fd,lk,ce,nm,c,p,B,kf,r,v,a1,a2,a3,a4,a5,q⟩:=h
 exact⟨fi,bd,fd,lk,ce,nm,c,p,B,kf,r,v,a1,a2,a3,a4,a5,hQ _ _ q⟩
theorem b6M{CF CB CT CG zt:Addr}{spg:Sp}:jV (zS P w K mg base CF CB CT CG zt spg):=fun vs H Q Q' hQ h=>by
 obtain⟨X,ce,p,num,tf,kf,kl,mk,cs,wo,a1,a2,a3,a4,a5,a6,a7,a8,a9,b1,b2,b3,b4,b5,q⟩:=h
 exact⟨X,ce,p,num,tf,kf,kl,mk,cs,wo,a1,a2,a3,a4,a5,a6,a7,a8,a9,b1,b2,b3,b4,b5,fun H' v kf' kl' mk' c1 c2 c3 c4 c5 c6=>hQ _ _ (q H' v kf' kl' mk' c1 c2 c3 c4 c5 c6)⟩
def iV(CS CB CT:Addr)(s bd ch fi:Addr)(kb:List (aC×V))(nm:Str)(B:BM)(H:Hp):Prop:=(∃dx,H s=some (.ins CS dx (eB bd ch fi)))/\H bd=some (.dK kb)/\Nl nm/\aO kb (.inr nm:aC)=some (.ref B.b)/\cW CB CT H B
theorem iV.same{CS CB CT s bd ch fi:Addr}{kb:List (aC×V)}{nm:Str}{B:BM}{H H':Hp}(h:iV CS CB CT s bd ch fi kb nm B H)(e:aG H H'):iV CS CB CT s bd ch fi kb nm B H':=
 ⟨h.1.imp fun _ x=>e _ _ x,e _ _ h.2.1,h.2.2.1,h.2.2.2.1,h.2.2.2.2.same e⟩
def b1S(CS CB CT:Addr):Sp:=fun vs H Q _=>∃(s bd ch fi:Addr) (kb:List (aC×V)) (nm t:Str) (p:Nat) (B:BM),vs= [.ref s,.str nm,.str t,.int (p:Int)] /\iV CS CB CT s bd ch fi kb nm B H/\Nl t/\t∈B.ord/\p<B.xs.length/\∀H',aG H H'->Q .non H'
theorem b7s:aY ["self","table","column","place"] ["self","table","column","place"] (aF sY):=⟨rfl,rfl,rfl,by decide+kernel,rfl,by decide+kernel,by decide+kernel⟩
theorem xH(T:aZ K mg){CS CB CT:Addr}(Y:eZ K mg CS)(W:cU K mg CB)(Z:dO K mg CT):aN P w K mg base aB 4 CS "check_cell" ["self","table","column","place"] (b1S CS CB CT):=by
 have G_with:aN P w K mg base aB 3 CS "board_with" ["self","table","column"] (a3O CS CB CT):=rM T Y W
 have G_pl:bK P w K mg base aB 2 "check_place" ["place","places"] uK:=mJ T
 have G_many:aN P w K mg base aB 1 CT "many" ["self"] (lS CT):=jS T Z
 refine Y.m_check_cell.known b7s (fun _ _ _ _ _ _ us hl=>mF (fun _ _ _ _=>rfl) us hl) (fun vs H Q E h=> ?_) (fun f cdv A outer s H vs Q E hr h=> ?_)
 ·obtain⟨s',bd,ch,fi,kb,nm,t,p,B,rfl,_⟩:=h
  rfl
 ·obtain⟨s',bd,ch,fi,kb,nm,t,p,B,rfl,hS,ht,hm,hp,q⟩:=h
  refine⟨_,aI (bZ (bR G_pl (hr.mono (by decide)) aM (aA (pv 3) (aA (lJ (aX (bW (pv 0) Y.cl G_with hr aM (aA (pv 1) (aA (pv 2) aE))) rfl) Z.cl G_many (hr.mono (by decide)) aM) aE)))),?_⟩
  obtain⟨dx,hs⟩:=hS.1
  refine⟨_,rfl,_,rfl,s',dx,_,rfl,hs,eO,_,rfl,_,rfl,s',bd,ch,fi,dx,kb,nm,t,B,rfl,hs,hS.2.1,hS.2.2.1,hS.2.2.2.1,hS.2.2.2.2,ht,hm,fun H1 s1=> ?_⟩
  obtain⟨dB,hb⟩:=hS.2.2.2.2.at_
  obtain⟨dT,hT⟩:=hS.2.2.2.2.tab.at_
  exact⟨B.b,CB,dB,_,_,rfl,s1 _ _ hb,W.cl,W.n_given,(dG _ _ _ _).1,B.g,dT,_,rfl,s1 _ _ hT,jJ,B.g,B.r,B.e,B.xs,B.n,B.kvs,rfl,hS.2.2.2.2.tab.same s1,p,B.xs.length,rfl,hp,q H1 s1⟩
def kW(CS CF CB CT:Addr)(sp:Sp):Sp:=fun vs H Q _=>∃(s bd ch fi df:Addr) (kb:List (aC×V)) (nm t:Str) (p:Nat) (B:BM) (fs:List (Str×V)),vs= [.ref s,.str nm,.str t,.int (p:Int)] /\iV CS CB CT s bd ch fi kb nm B H/\Nl t/\t∈B.ord/\p<B.xs.length/\H fi=some (.ins CF df fs)/\fs.lookup ("value_of":Str)=none/\
 ∀H1 ce,H ce=none->aG H H1->H1 ce=some (.tup ((aU nm t p).map kV))->sp [.ref fi,.ref ce] H1 Q E0
theorem b4e:aY ["self","table","column","place"] ["self","table","column","place"] (aF yN):=⟨rfl,rfl,rfl,by decide+kernel,rfl,by decide+kernel,by decide+kernel⟩
theorem sI(T:aZ K mg){CS CF CB CT:Addr}(Y:eZ K mg CS)(F:eM K mg CF)(W:cU K mg CB)(Z:dO K mg CT){k:Nat}{sp:Sp}(hk:4<=k)(G:aN P w K mg base aB k CF "value_of" ["self","cell"] sp):aN P w K mg base aB (k+ 1) CS "cell" ["self","table","column","place"] (kW CS CF CB CT sp):=by
 have G_chk:aN P w K mg base aB 4 CS "check_cell" ["self","table","column","place"] (b1S CS CB CT):=xH T Y W Z
 refine Y.m_cell.known b4e (fun _ _ _ _ _ _ us hl=>mF (fun _ _ _ _=>rfl) us hl) (fun vs H Q E h=> ?_) (fun f cdv A outer s H vs Q E hr h=> ?_)
 ·obtain⟨s',bd,ch,fi,df,kb,nm,t,p,B,fs,rfl,_⟩:=h
  rfl
 ·obtain⟨s',bd,ch,fi,df,kb,nm,t,p,B,fs,rfl,hS,ht,hm,hp,hfi,hno,q⟩:=h
  refine⟨_,aJ (bZ (bW (pv 0) Y.cl G_chk (hr.mono hk) aM (aA (pv 1) (aA (pv 2) (aA (pv 3) aE)))))
   (aI (bE (bW (aX (pv 0) rfl) F.cl G hr aM (aA (fU (aA (pv 1) (aA (pv 2) (aA (pv 3) aE)))) aE)))),?_⟩
  obtain⟨dx,hs⟩:=hS.1
  refine⟨_,rfl,s',dx,_,rfl,hs,eO,_,rfl,_,rfl,_,rfl,s',bd,ch,fi,kb,nm,t,p,B,rfl,hS,ht,hm,hp,fun H1 s1=> ?_⟩
  refine⟨_,rfl,s',CS,dx,_,_,rfl,s1 _ _ hs,Y.cl,Y.n_finder,(kN _ _ _).2.2.1,fi,df,fs,rfl,s1 _ _ hfi,hno,_,rfl,_,rfl,_,rfl,sl,fun ce hce=> ?_⟩
  exact q _ ce (fT s1 hce) (s1.trans (aG.new hce)) aK
theorem xZ.same{H H':Hp}{mk:List (aC×V)}{p:Int}:∀{wo:Option (List Int×V)},xZ H mk p wo->aG H H'->xZ H' mk p wo
 |none,h,_=>h
 |some jv,⟨tp,lo,a,b,c⟩,s=>⟨tp,lo,a,s _ _ b,s _ _ c⟩
theorem oZ.to{X:gK}{num:Int}{wo:Option (List Int×V)}{mk mk':List (aC×V)}{cs:List V}{v:V}{H H1 H2 H3:Hp}{wl:Addr}{zs:List V}(s:aG H H1)(w1:H1 wl=some (.lst zs))(w2:H2 wl=some (.lst zs))(hwl:H wl=none)(b:bG wl H2 H3)(cn:H X.ca≠none):
 ∀{told:PyData ⊕ List Int},(∀is,told= .inr is->Vd (gI (X.g is)))->oZ K X num wo mk mk' cs v H1 H2 told->oZ K X num wo mk mk' cs v H H3 told
 | .inl d,_,⟨a1,a0,a2,a3⟩=>⟨a1.keep (fun a xs e=>b _ _ (fun y=>by rw[y,w2]at e;cases e) e),a0,a2,b _ _ (fun y=>cn (y▸hwl)) a3⟩
 | .inr is,_,.inl ⟨a1,a2,a3⟩=> .inl ⟨a1,a2,b _ _ (fun y=>cn (y▸hwl)) a3⟩
 | .inr is,hv,.inr ⟨a1,tp,sm,a3,a4,a5,a7,a8,a9,a10⟩=>by
  have nw:∀{x:Addr},H1 x=none->x≠wl:=fun e y=>by rw[y,w1]at e;cases e
  refine .inr ⟨a1,tp,sm,fT s a3,fT s a4,b _ _ (fun y=>cn (y▸hwl)) a5,b _ _ (nw a3) a7,b _ _ (nw a4) a8,a9,?_⟩
  exact a10
theorem c0i{CS CF CB CT CG:Addr}{X:gK}{s ch:Addr}{kb:List (aC×V)}{kf kl:List (Ky×V)}{mk:List (aC×V)}{H:Hp}{Q:VK}{p:Nat}{v:V}(O:oB X)(G:iO P w K mg base CF CB CT CG X kf kl mk H)(hS:iV CS CB CT s X.bd ch X.fi kb X.nm X.B H)(nc:Nl X.c)(co:X.c∈X.B.ord)(hp:p<X.B.xs.length)(hv:aO kf (aU X.nm X.c p)=some v)(q:∀H',aG H H'->Q v H'):
 kW CS CF CB CT (jG CF (zB CF CB CT)) [.ref s,.str X.nm,.str X.c,.int (p:Int)] H Q E0:=by
 have GF:=G.F _ O.hB
 obtain⟨df,hfi⟩:=GF.fin
 refine⟨s,X.bd,ch,X.fi,df,kb,X.nm,X.c,p,X.B,_,rfl,hS,nc,co,hp,hfi,kJ,fun H1 ce hce s1 c1=> ?_⟩
 refine⟨X.fi,ce,X.bd,X.fd,X.lk,df,aU X.nm X.c p,rfl,s1 _ _ hfi,fun H2 wl hwl s2 w2=> ?_⟩
 have F2:=(GF.same s1).same s2
 obtain⟨d2,f2⟩:=F2.fin
 exact⟨X.fi,X.bd,X.fd,X.lk,ce,X.nm,X.c,p,X.B,kf,_,v,rfl,F2,s2 _ _ c1,O.ru,hv,rfl,d2,kf,v,w2,f2,F2.fnd,s2 _ _ c1,hv,fun H3 b=>q H3 fun x o e=>b _ _ (fun y=>by rw[y]at e;rw[s1 _ _ e]at hwl;cases hwl) (s2 _ _ (s1 _ _ e))⟩
theorem b74{CS CF CB CT CG zt:Addr}{spg:Sp}{X:gK}{s ch:Addr}{kb:List (aC×V)}{kf kl:List (Ky×V)}{mk:List (aC×V)}{H:Hp}{Q:VK}{p:Nat}{num:Int}{tf:PyData ⊕ List Int}{cs:List V}{wo:Option (List Int×V)}(O:oB X)(G:iO P w K mg base CF CB CT CG X kf kl mk H)(mk9:mk.length<90)(hS:iV CS CB CT s X.bd ch X.fi kb X.nm X.B H)(nc:Nl X.c)(co:X.c∈X.B.ord)(hp:p<X.B.xs.length)(hnum:bY X.B.xs (p:Int)=some (.int num))(hno:aO kf (aU X.nm X.c p)=none)(tb:gQ jK H zt)(hca:H X.ca=some (.lst cs))(cl:cs.length<900)(hw:xZ H mk num wo)(use:∀tl,zC P w K mg base spg X.gr X.tabs X.gv X.fd tl X.nm X.c p tf H)(hok:∀is,tf= .inr is->X.ok is/\is.length<=100)
 (q:∀H' v kf' kl' mk',iO P w K mg base CF CB CT CG X kf' kl' mk' H'->gQ jK H' zt->sD X.fd X.lk zt X.ca X.mc H H'->aO kf' (aU X.nm X.c p)=some v->(∀t c p',X.gv t c=none->aU t c p'≠aU X.nm X.c p->aO kf' (aU t c p')=aO kf (aU t c p'))->oZ K X num wo mk mk' cs v H H' tf->Q v H'):
 kW CS CF CB CT (jG CF (zS P w K mg base CF CB CT CG zt spg)) [.ref s,.str X.nm,.str X.c,.int (p:Int)] H Q E0:=by
 have GF:=G.F _ O.hB
 have fd0:=GF.fnd
 obtain⟨df,hfi⟩:=GF.fin
 refine⟨s,X.bd,ch,X.fi,df,kb,X.nm,X.c,p,X.B,_,rfl,hS,nc,co,hp,hfi,kJ,fun H1 ce hce s1 c1=> ?_⟩
 refine⟨X.fi,ce,X.bd,X.fd,X.lk,df,aU X.nm X.c p,rfl,s1 _ _ hfi,fun H2 wl hwl s2 w2=> ?_⟩
 have s12:=s1.trans s2
 have hwl0:H wl=none:=fT s1 hwl
 have tk:∀{z:Addr},gQ jK H z->gQ jK H2 z:=fun h=>pH h fun b o _ _ _ e=>s12 _ _ e
 refine⟨X,ce,p,num,tf,kf,kl,mk,cs,wo,rfl,O,G.same s12,mk9,s2 _ _ c1,hp,hnum,hno,tk tb,s12 _ _ hca,cl,hw.same s12,(fun tl look many J W HB Q' kx=>use tl look many J W HB Q' (fun b o n e=>kx b o n (s12 _ _ e))),hok,fun H3 v kf' kl' mk' G3 tb3 fr3 hv3 ru3 en3=>⟨rfl,?_⟩⟩
 obtain⟨d3,f3⟩:=(G3.F _ O.hB).fin
 have fd3:=(G3.F _ O.hB).fnd
 obtain⟨Sz,tz,_⟩:=id tb
 have nw:∀{x:Addr} {o:HO},H x=some o->x≠wl:=fun e y=>by rw[y,hwl0]at e;cases e
 have w3:H3 wl=some (.lst [.ref ce]):=fr3 _ _ (nw fd0).symm (nw G.hl).symm (nw tz).symm (nw hca).symm (nw G.mc).symm w2
 have c3:H3 ce=some (.tup ((aU X.nm X.c p).map kV)):=by
  have ne:∀{x:Addr} {o:HO},H x=some o->ce≠x:=fun e y=>by rw[<- y,hce]at e;cases e
  exact fr3 _ _ (ne fd0) (ne G.hl) (ne tz) (ne hca) (ne G.mc) (s2 _ _ c1)
 refine⟨d3,kf',v,w3,f3,fd3,c3,hv3,fun H4 b4=> ?_⟩
 have fr4:sD X.fd X.lk zt X.ca X.mc H H4:=fun x o n1 n2 n3 n4 n5 e=>b4 _ _ (nw e) (fr3 _ _ n1 n2 n3 n4 n5 (s12 _ _ e))
 have k4:∀{x:Addr} {o:HO},H3 x=some o->(∀y,o≠ .lst y)->H4 x=some o:=fun e n=>b4 _ _ (fun y=>by rw[y,w3]at e;exact n _ (Option.some.inj e).symm) e
 refine q H4 v kf' kl' mk' (G.to O fr4 tb hca (k4 fd3 (fun _ y=>by cases y)) (k4 G3.hl (fun _ y=>by cases y)) (k4 G3.mc (fun _ y=>by cases y)) G3.ko G3.lo G3.fo) (pH tb3 fun b o _ _ n e=>k4 e n) fr4 hv3 ru3 ?_
 exact oZ.to s12 w2 w3 hwl0 b4 (by rw[hca];exact fun y=>by cases y) (fun is e=>(O.gg is (hok is e).1).2) en3
end
theorem b5u{C CB CT:Addr}:jV (spTT C CB CT):=fun vs H Q Q' hQ h=>by
 obtain⟨p,dx,bd,nm,m,kb,e1,e2,e3,e4,e5,q⟩:=h
 exact⟨p,dx,bd,nm,m,kb,e1,e2,e3,e4,e5,fun H' b g r e ru me od a1 a2 a3 a4 a5=>hQ _ _ (q H' b g r e ru me od a1 a2 a3 a4 a5)⟩
theorem b91{K:Fg}{CB CT:Addr}:jV (a7s K CB CT):=fun vs H Q Q' hQ h=>by
 obtain⟨B,t,a,ys,ds,e1,e2,e3,e4,e5,e6,e7,e8,e9,e10,e11,e12,q⟩:=h
 exact⟨B,t,a,ys,ds,e1,e2,e3,e4,e5,e6,e7,e8,e9,e10,e11,e12,fun H' l a1 a2 a3 a4=>hQ _ _ (q H' l a1 a2 a3 a4)⟩
theorem b9P{K:Fg}{CB CT:Addr}:jV (a2R K CB CT):=fun vs H Q Q' hQ h=>by
 obtain⟨B,t,a,C,dx,fs,e1,e2,e3,e4,e5,e6,e7,e8,e9,e10,q⟩:=h
 exact⟨B,t,a,C,dx,fs,e1,e2,e3,e4,e5,e6,e7,e8,e9,e10,fun H' m a1 a2 a3 a4=>hQ _ _ (q H' m a1 a2 a3 a4)⟩
theorem b3V{C CB CT:Addr}{sp:Sp}(h:jV sp):jV (spCS C CB CT sp):=fun vs H Q Q' hQ g=>by
 obtain⟨p,dx,a,B,t,e1,e2,e3,e4,q⟩:=g
 exact⟨p,dx,a,B,t,e1,e2,e3,e4,h _ _ _ _ (fun v H' z=>hQ _ _ z) q⟩
theorem kC{H:Hp}{a b:Addr}{o:HO}(h:upd H a o b=none):H b=none/\b≠a:=by
 have:b≠a:=fun y=>by rw[y,aK]at h;cases h
 rw[aH this]at h
 exact⟨h,this⟩
section
variable{P:Program}{w:World}{K:Fg}{mg:Str->Option Value}{base:Heap}
theorem c0l(bd ch fi:Addr):aQ "finder" (.ref fi) (aQ "changes" (.ref ch) (aQ "boards" (.ref bd) []))=eB bd ch fi:=by
 rfl
def spSI(CS CF:Addr):Sp:=fun vs H Q _=>∃(p dx:Addr),vs= [.ref p] /\H p=some (.ins CS dx [])/\
 ∀H' bd ch fi fd lk df,(∀x∈ [bd,ch,fi,fd,lk],H x=none)->fd≠lk->H' p=some (.ins CS dx (eB bd ch fi))->H' bd=some (.dK [])->H' ch=some (.lst [])->H' fi=some (.ins CF df (fY bd fd lk))->H' fd=some (.dT [])->H' lk=some (.dT [])->bG p H H'->Q .non H'
theorem b9r:aY ["self"] ["self"] (aF vI):=⟨rfl,rfl,rfl,by decide+kernel,rfl,by decide+kernel,by decide+kernel⟩
theorem vH(T:aZ K mg){CS CF:Addr}(Y:eZ K mg CS)(Z:eM K mg CF):dI P w K mg base aB 3 CS ["self"] (spSI CS CF):=by
 have GI:dI P w K mg base aB 1 CF ["self","boards"] (spFI CF):=qW T Z
 refine(Y.m_init.known b9r (fun _ _ _ _ _ _ us hl=>dM (fun _=>rfl) us hl) (fun vs H Q E h=> ?_) (fun f cdv A outer s H vs Q E hr h=> ?_)).init Y.mks Y.kc
 ·obtain⟨p,dx,rfl,_⟩:=h
  rfl
 ·obtain⟨p,dx,rfl,hp,q⟩:=h
  refine⟨_,(aJ (cM (pv 0) xW rfl)
   (aJ (cM (pv 0) (gH aE) rfl)
   (aI (cM (pv 0) (jO GI hr Z.c aM (aA (aX (pv 0) rfl) aE)) rfl)))),?_⟩
  intro bd hbd
  have s1:=aG.new (o:=.dK []) hbd
  have b1:upd H bd (.dK []) bd=some (.dK []):=aK
  have n1:∀{b:Addr},upd H bd (.dK []) b=none->H b=none/\b≠bd:=kC
  generalize upd H bd (.dK [])=H1 at s1 b1 n1|-
  refine⟨_,rfl,p,CS,dx,[],rfl,s1 _ _ hp,Y.cl,Y.n_boards,(by show 0<1000;decide),?_⟩
  have u2:bG p H1 (upd H1 p (.ins CS dx (aQ "boards" (.ref bd) []))):=fun b o n z=>by rw[aH n];exact z
  have p2:upd H1 p (.ins CS dx (aQ "boards" (.ref bd) [])) p=some (.ins CS dx (aQ "boards" (.ref bd) [])):=aK
  have n2:∀{b:Addr},upd H1 p (.ins CS dx (aQ "boards" (.ref bd) [])) b=none->H1 b=none/\b≠p:=kC
  generalize upd H1 p (.ins CS dx (aQ "boards" (.ref bd) []))=H2 at u2 p2 n2|-
  refine⟨sl,fun ch hch=> ?_⟩
  have s3:=aG.new (o:=.lst []) hch
  have c3:upd H2 ch (.lst []) ch=some (.lst []):=aK
  have n3:∀{b:Addr},upd H2 ch (.lst []) b=none->H2 b=none/\b≠ch:=kC
  generalize upd H2 ch (.lst [])=H3 at s3 c3 n3|-
  refine⟨_,rfl,p,CS,dx,_,rfl,s3 _ _ p2,Y.cl,Y.n_changes,(by show 1<1000;decide),?_⟩
  have u4:bG p H3 (upd H3 p (.ins CS dx (aQ "changes" (.ref ch) (aQ "boards" (.ref bd) [])))):=fun b o n z=>by rw[aH n];exact z
  have p4:upd H3 p (.ins CS dx (aQ "changes" (.ref ch) (aQ "boards" (.ref bd) []))) p=some (.ins CS dx (aQ "changes" (.ref ch) (aQ "boards" (.ref bd) []))):=aK
  have n4:∀{b:Addr},upd H3 p (.ins CS dx (aQ "changes" (.ref ch) (aQ "boards" (.ref bd) []))) b=none->H3 b=none/\b≠p:=kC
  generalize upd H3 p (.ins CS dx (aQ "changes" (.ref ch) (aQ "boards" (.ref bd) [])))=H4 at u4 p4 n4|-
  have npb:bd≠p:=fun y=>by rw[y,hp]at hbd;cases hbd
  have npc:ch≠p:=fun y=>by rw[y,p2]at hch;cases hch
  refine⟨_,rfl,p,CS,dx,_,_,rfl,p4,Y.cl,Y.n_boards,(show List.lookup ("boards":Str) (aQ "changes" (V.ref ch) (aQ "boards" (V.ref bd) []))=some (.ref bd) from rfl),?_⟩
  intro fi df hfi hdf ne
  refine⟨fi,df,bd,rfl,aK,fun H5 fd lk hfd hlk nfl g1 g2 g3 b5=>⟨rfl,?_⟩⟩
  have s5:aG H4 H5:=fun b o z=>b5 b o (bD z hfi) (by rw[aH (bD z hfi),aH (bD z hdf)];exact z)
  have fr:∀{x:Addr},upd (upd H4 df (.own fi)) fi (.ins CF df []) x=none->H4 x=none:=fun{x} z=>(kC (kC z).1).1
  refine⟨_,rfl,p,CS,dx,_,rfl,s5 _ _ p4,Y.cl,Y.n_finder,(by show 2<1000;decide),?_⟩
  rw[c0l]
  have u6:bG p H5 (upd H5 p (.ins CS dx (eB bd ch fi))):=fun b o n z=>by rw[aH n];exact z
  have dn:∀{x:Addr},H4 x=none->H x=none/\x≠p:=fun z=>⟨(n1 (n2 (n3 (n4 z).1).1).1).1,(n4 z).2⟩
  have gG:=dn (fr hfd)
  have frl:=dn (fr hlk)
  have frf:=dn hfi
  have hc0:H ch=none:=(n1 (n2 hch).1).1
  refine q _ bd ch fi fd lk df (fun x hx=> ?_) nfl aK (u6 _ _ npb (s5 _ _ (u4 _ _ npb (s3 _ _ (u2 _ _ npb b1))))) (u6 _ _ npc (s5 _ _ (u4 _ _ npc c3))) (u6 _ _ frf.2 g1) (u6 _ _ gG.2 g2) (u6 _ _ frl.2 g3) (fun b o n z=>u6 _ _ n (s5 _ _ (u4 _ _ n (s3 _ _ (u2 _ _ n (s1 _ _ z))))))
  simp only[List.mem_cons,List.not_mem_nil,or_false]at hx
  rcases hx with rfl|rfl|rfl|rfl|rfl
  ·exact hbd
  ·exact hc0
  ·exact frf.1
  ·exact gG.1
  ·exact frl.1
def zI(CS:Addr)(s bd ch:Addr)(cs:List V)(kb:List (aC×V))(H:Hp):Prop:=(∃dx fi,H s=some (.ins CS dx (eB bd ch fi)))/\H ch=some (.lst cs)/\H bd=some (.dK kb)
def a09(CS CF:Addr)(s bd ch fi fd lk:Addr)(cs:List V)(kb:List (aC×V))(H0 H:Hp):Prop:=(∃dx,H s=some (.ins CS dx (eB bd ch fi)))/\H ch=some (.lst cs)/\H bd=some (.dK kb)/\(∃df,H fi=some (.ins CF df (fY bd fd lk)))/\H fd=some (.dT [])/\H lk=some (.dT [])/\fd≠lk/\H0 fi=none/\H0 fd=none/\H0 lk=none
def b3w(CS CF CB CT:Addr):Sp:=fun vs H Q _=>∃(s bd ch:Addr) (cs:List V) (kb:List (aC×V)) (nm:Str) (m:Nat),vs= [.ref s,.str nm,.int (m:Int)] /\zI CS s bd ch cs kb H/\cs.length<900/\kb.length<4/\Nl nm/\aO kb (.inr nm:aC)=none/\m<=30/\
 ∀H' fi fd lk c b g r e ru me od,a09 CS CF s bd ch fi fd lk (cs++ [.ref c]) (aT kb (.inr nm:aC) (.ref b)) H H'->cW CB CT H' ⟨b,g,r,e,ru,me,od,eT 0 m,(m:Int),[],[],[],[]⟩ ->BM.sep ⟨b,g,r,e,ru,me,od,eT 0 m,(m:Int),[],[],[],[]⟩ ->(∀x∈ [b,g,r,e,ru,me,od],H x=none)->(∀x o,x≠s->x≠ch->x≠bd->H x=some o->H' x=some o)->Q .non H'
theorem b9I:aY ["self","name","many"] ["self","name","many"] (aF sN):=⟨rfl,rfl,rfl,by decide+kernel,rfl,by decide+kernel,by decide+kernel⟩
theorem xQ(T:aZ K mg){CS CF CB CT CC:Addr}(Y:eZ K mg CS)(Z:eM K mg CF)(W:cU K mg CB)(U:dO K mg CT)(C:zP K mg CC):aN P w K mg base aB 9 CS "table" ["self","name","many"] (b3w CS CF CB CT):=by
 have G_is_name:bK P w K mg base aB 1 "is_name" ["thing"] (lN K):=jL T
 have G_size:bK P w K mg base aB 2 "check_size" ["many"] b06:=qD T
 have GI:dI P w K mg base aB 1 CC ["self","boards","name","size"] (b1k CC):=xK T C
 have G_make:aN P w K mg base aB 8 CS "make" ["self","change"] (spMk CS CF CC (spTT CC CB CT)):=oI T Y Z C.cl b5u (tZ T C W U)
 refine Y.m_table.known b9I (fun _ _ _ _ _ _ us hl=>dP (fun _ _ _=>rfl) us hl) (fun vs H Q E h=> ?_) (fun f cdv A outer s H vs Q E hr h=> ?_)
 ·obtain⟨s',bd,ch,cs,kb,nm,m,rfl,_⟩:=h
  rfl
 ·obtain⟨s',bd,ch,cs,kb,nm,m,rfl,hS,cl,kl,hn,hv,hm,q⟩:=h
  have hu:=eC hr
  refine⟨_,(aJ (bN (PW.pt (fP (dC (cH (bR G_is_name (hr.mono (by decide)) aM (aA (pv 1) aE)) (fun _=>rfl))) (gP (jP (qI hu (pv 1) (aX (pv 0) rfl)))))) (aI cF) bO)
   (aJ (bZ (bR G_size (hr.mono (by decide)) aM (aA (pv 2) aE)))
   (aJ (bN (cJ b0Y (cD b2f rfl T.len fJ (aA (aX (pv 0) rfl) aE)) (rE T.g_MOST_TABLES) (cO _)) (aI cF) bO)
   (aI (bZ (bW (pv 0) Y.cl G_make hr aM (aA (jO GI (hr.mono (by decide)) C.c aM (aA (aX (pv 0) rfl) (aA (pv 1) (aA (pv 2) aE)))) aE))))))),?_⟩
  have h8:=hn.2.1
  obtain⟨⟨dx,fi0,h1⟩,h2,h3⟩:=hS
  obtain⟨a1,a2,a3,a4⟩:=kN bd ch fi0
  refine⟨_,rfl,_,.str nm,rfl,.str nm,lO (by omega),fun H0 s9=>⟨_,rfl,?_⟩⟩
  rw[show fI (.str nm)=true from hn.name]
  have h1:=s9 _ _ h1
  have h2':=s9 _ _ h2
  have h3':=s9 _ _ h3
  refine bJ ⟨_,rfl,_,rfl,s',CS,dx,_,_,rfl,h1,Y.cl,Y.n_boards,a1,bd,_,rfl,cC.k (k:=Sum.inr nm) h3',_,rfl,?_⟩
  rw[hv]
  refine bJ ⟨_,rfl,m,rfl,hm,?_⟩
  refine⟨_,rfl,s',CS,dx,_,_,rfl,h1,Y.cl,Y.n_boards,a1,bd,kb,rfl,h3',_,_,rfl,rfl,_,rfl,?_⟩
  refine dN (fun g=>absurd (of_decide_eq_true g) (by omega)) (fun g=> ?_)
  refine⟨_,rfl,s',dx,_,rfl,h1,eO,_,rfl,s',CS,dx,_,_,rfl,h1,Y.cl,Y.n_boards,a1,_,rfl,_,rfl,?_⟩
  intro c dc hc hdc ne
  refine⟨c,dc,bd,nm,m,rfl,aK,fun H1 b1 c1=>⟨rfl,?_⟩⟩
  have s1:aG H0 H1:=fun b o z=>b1 b o (bD z hc) (by rw[aH (bD z hc),aH (bD z hdc)];exact z)
  refine⟨s',c,bd,ch,fi0,dx,dc,cs,_,rfl,c1,(a0b _ _ _).2.2.2,c,dc,bd,nm,m,kb,rfl,c1,s1 _ _ h3',by omega,hm,fun H2 b g r e ru me od B2 sp2 fr2 bd2 u2=> ?_⟩
  have ns:s'≠bd:=fun y=>by rw[y,h3']at h1;cases h1
  have nc:ch≠bd:=fun y=>by rw[y,h3']at h2';cases h2'
  have nsc:s'≠ch:=fun y=>by rw[y,h2']at h1;cases h1
  refine⟨u2 _ _ ns (s1 _ _ h1),u2 _ _ nc (s1 _ _ h2'),cl,fun H3 fi fd lk df f1 f2 f3 nfl g1 g2 g3 g4 g5 u3=> ?_⟩
  have n0:∀{x:Addr},H2 x=none->H x=none:=fun{x} e=>by
   cases e2:H x with
   |none=>rfl
   |some o=>
    by_cases y:x=bd
    ·rw[y,bd2]at e;cases e
    ·rw[u2 _ _ y (s1 _ _ (s9 _ _ e2))]at e;cases e
  have k3:∀{x:Addr} {o:HO},H2 x=some o->x≠s'->x≠ch->H3 x=some o:=fun e n m=>u3 _ _ n m e
  have fr:∀x∈ [b,g,r,e,ru,me,od],H x=none:=fun x hx=>fT (s9.trans s1) (fr2 x hx)
  have nb:∀{x:Addr},x∈ [b,g,r,e,ru,me,od] ->x≠s'/\x≠ch:=fun hx=>⟨fun y=>by{have:=s1 _ _ h1;rw[<- y,fr2 _ hx]at this;cases this},fun y=>by{have:=s1 _ _ h2';rw[<- y,fr2 _ hx]at this;cases this}⟩
  obtain⟨⟨d1,e1⟩,⟨⟨d2,e2⟩,e3,e4⟩,e5,e6,e7⟩:=B2
  have kb2:∀{x:Addr} {o:HO},x∈ [b,g,r,e,ru,me,od] ->H2 x=some o->H3 x=some o:=fun hx e=>k3 e (nb hx).1 (nb hx).2
  exact q H3 fi fd lk c b g r e ru me od ⟨⟨dx,g1⟩,g2,k3 bd2 ns.symm nc.symm,⟨df,g3⟩,g4,g5,nfl,n0 f1,n0 f2,n0 f3⟩ ⟨⟨d1,kb2 (by simp) e1⟩,⟨⟨d2,kb2 (by simp) e2⟩,kb2 (by simp) e3,kb2 (by simp) e4⟩,kb2 (by simp) e5,kb2 (by simp) e6,kb2 (by simp) e7⟩ sp2 fr (fun x o n1 n2 n3 e=>k3 (u2 _ _ n3 (s1 _ _ (s9 _ _ e))) n1 n2)
theorem cW.off{CS CB CT s ch:Addr}{cs:List V}{H H':Hp}{B:BM}(h:cW CB CT H B)(hs:∃dx bd ch' fi,H s=some (.ins CS dx (eB bd ch' fi)))(hc:H ch=some (.lst cs))(n1:ch≠B.r)(n2:ch≠B.od)(u:∀x o,x≠s->x≠ch->H x=some o->H' x=some o):cW CB CT H' B:=by
 obtain⟨dx,bd,ch',fi,hs⟩:=hs
 obtain⟨⟨d1,e1⟩,⟨⟨d2,e2⟩,e3,e4⟩,e5,e6,e7⟩:=h
 have k:∀{x:Addr} {o:HO},H x=some o->(∀a b c,o≠ .ins a b c)->x≠ch->H' x=some o:=fun e n m=>u _ _ (fun y=>by rw[y,hs]at e;exact n _ _ _ (Option.some.inj e).symm) m e
 have nc:∀{x:Addr} {o:HO},H x=some o->(∀a,o≠ .lst a)->x≠ch:=fun e n y=>by rw[y,hc]at e;exact n _ (Option.some.inj e).symm
 refine⟨⟨d1,u _ _ (b9J e1 hs (show 4≠3 by decide)) (nc e1 (fun _ y=>by cases y)) e1⟩,⟨⟨d2,u _ _ (fun y=> ?_) (nc e2 (fun _ y=>by cases y)) e2⟩,k e3 (fun _ _ _ y=>by cases y) n1.symm,k e4 (fun _ _ _ y=>by cases y) (nc e4 (fun _ y=>by cases y))⟩,k e5 (fun _ _ _ y=>by cases y) (nc e5 (fun _ y=>by cases y)),k e6 (fun _ _ _ y=>by cases y) (nc e6 (fun _ y=>by cases y)),k e7 (fun _ _ _ y=>by cases y) n2.symm⟩
 rw[y,hs]at e2
 cases e2
structure a0h(bd ch:Addr)(B:BM):Prop where
 r:ch≠B.r
 o:ch≠B.od
 e:bd≠B.e
 u:bd≠B.ru
 m:bd≠B.me
def b10(K:Fg)(CS CF CB CT:Addr):Sp:=fun vs H Q _=>∃(s bd ch a:Addr) (cs:List V) (kb:List (aC×V)) (nm t:Str) (ys:List V) (ds:List PyData) (B:BM),vs= [.ref s,.str nm,.str t,.ref a] /\zI CS s bd ch cs kb H/\cs.length<900/\Nl nm/\aO kb (.inr nm:aC)=some (.ref B.b)/\cW CB CT H B/\B.sep/\a0h bd ch B/\qO B t/\Nl t/\H a=some (.lst ys)/\a≠B.od/\cI K H ys ds/\ys.length=B.xs.length/\ys.length<=30/\B.kvs.length<8/\B.ord.length<8/\
 ∀H' fi fd lk c l,a09 CS CF s bd ch fi fd lk (cs++ [.ref c]) kb H H'->H l=none->cW CB CT H' {B with kvs:=aT B.kvs (.inr t:aC) (.ref l),ord:=B.ord++ [t]} ->H' l=some (.lst ys)->(∀x o,x≠s->x≠ch->x≠B.od->x≠B.e->H x=some o->H' x=some o)->Q .non H'
theorem b2G:aY ["self","table","column","values","board"] ["self","table","column","values"] (aF wF):=⟨rfl,rfl,rfl,by decide+kernel,rfl,by decide+kernel,by decide+kernel⟩
theorem sX(T:aZ K mg){CS CF CB CT CC:Addr}(Y:eZ K mg CS)(Z:eM K mg CF)(W:cU K mg CB)(U:dO K mg CT)(C:pN K mg CC):aN P w K mg base aB 9 CS "give" ["self","table","column","values"] (b10 K CS CF CB CT):=by
 have G_for:aN P w K mg base aB 3 CS "board_for" ["self","table","column"] (a6d CS CB CT):=pP T Y W
 have G_many:aN P w K mg base aB 1 CT "many" ["self"] (lS CT):=jS T U
 have G_cv:bK P w K mg base aB 4 "check_values" ["values","many"] (a5d K):=qG T
 have GI:dI P w K mg base aB 1 CC ["self","board","column","content"] (a4F CC):=rJ T C
 have G_make:aN P w K mg base aB 8 CS "make" ["self","change"] (spMk CS CF CC (spCS CC CB CT (a7s K CB CT))):=oI T Y Z C.cl (b3V b91) (qH T C W (b6L T W U))
 refine Y.m_give.known b2G (fun _ _ _ _ _ _ us hl=>mF (fun _ _ _ _=>rfl) us hl) (fun vs H Q E h=> ?_) (fun f cdv A outer s H vs Q E hr h=> ?_)
 ·obtain⟨s',bd,ch,a,cs,kb,nm,t,ys,ds,B,rfl,_⟩:=h
  rfl
 ·obtain⟨s',bd,ch,a,cs,kb,nm,t,ys,ds,B,rfl,hS,cl,hn,hv,hB,sep,ss,new,ht,ha,nao,hp,ly,l30,k8,o8,q⟩:=h
  refine⟨_,(aJ (bV (i:=4) b2G.nd rfl (Or.inl rfl) (bW (pv 0) Y.cl G_for (hr.mono (by decide)) aM (aA (pv 1) (aA (pv 2) aE))))
   (aJ (bZ (bR G_cv (hr.mono (by decide)) aM (aA (pv 3) (aA (lJ (aX (pv 4) rfl) U.cl G_many (hr.mono (by decide)) aM) aE))))
   (aI (bZ (bW (pv 0) Y.cl G_make hr aM (aA (jO GI (hr.mono (by decide)) C.c aM (aA (pv 4) (aA (pv 2) (aA (pv 3) aE)))) aE)))))),?_⟩
  obtain⟨⟨dx,fi0,h1⟩,h2,h3⟩:=hS
  refine⟨_,rfl,s',dx,_,rfl,h1,eO,_,rfl,_,rfl,s',bd,ch,fi0,dx,kb,nm,t,B,rfl,h1,h3,hn,hv,hB,ht,o8,fun H1 s1=> ?_⟩
  obtain⟨dB,b1⟩:=(hB.same s1).at_
  obtain⟨dT,t1⟩:=(hB.same s1).tab.at_
  refine⟨_,rfl,_,rfl,B.b,CB,dB,_,_,rfl,b1,W.cl,W.n_given,(dG _ _ _ _).1,B.g,dT,_,rfl,t1,jJ,B.g,B.r,B.e,B.xs,B.n,B.kvs,rfl,(hB.same s1).tab,?_⟩
  refine⟨a,ys,ds,by rw[ly];rfl,aL.of (s1 _ _ ha),hp.keep (bS.of s1),by omega,fun H2 s2=> ?_⟩
  have s12:=s1.trans s2
  refine⟨_,rfl,s',dx,_,rfl,s12 _ _ h1,eO,_,rfl,_,rfl,_,rfl,?_⟩
  intro c dc hc hdc ne
  refine⟨c,dc,B.b,a,t,rfl,aK,fun H3 b3 c3=>⟨rfl,?_⟩⟩
  have s3:aG H H3:=fun b o z=>b3 b o (bD (s12 _ _ z) hc) (by rw[aH (bD (s12 _ _ z) hc),aH (bD (s12 _ _ z) hdc)];exact s12 _ _ z)
  have hB3:=hB.same s3
  refine⟨s',c,bd,ch,fi0,dx,dc,cs,_,rfl,c3,(a9P _ _ _).2.2.2.1,c,dc,a,B,t,rfl,c3,hB3,new,B,t,a,ys,ds,rfl,hB3,sep,new,ht,s3 _ _ ha,nao,hp.keep (bS.of s3),ly,l30,k8,by omega,fun H4 l hl B4 l4 u4=> ?_⟩
  have hB0:=hB.ord
  have he0:=hB.tab.kept
  have k4:∀{x:Addr} {o:HO},H x=some o->x≠B.od->x≠B.e->H4 x=some o:=fun e n m=>u4 _ _ n m (s3 _ _ e)
  have ns:s'≠B.od/\s'≠B.e:=⟨fun y=>by{rw[y,hB0]at h1;cases h1},fun y=>by{rw[y,he0]at h1;cases h1}⟩
  have nce:ch≠B.e:=fun y=>by rw[y,he0]at h2;cases h2
  have nbo:bd≠B.od:=fun y=>by rw[y,hB0]at h3;cases h3
  have ns4:=k4 h1 ns.1 ns.2
  have ch4:=k4 h2 ss.o nce
  refine⟨ns4,ch4,cl,fun H5 fi fd lk df f1 f2 f3 nfl g1 g2 g3 g4 g5 u5=> ?_⟩
  have nn:∀{x:Addr},H4 x=none->H x=none:=fun{x} e=>by
   cases e2:H x with
   |none=>rfl
   |some o=>
    by_cases y:x=B.od
    ·rw[y,B4.ord]at e;cases e
    ·by_cases y2:x=B.e
     ·rw[y2,B4.tab.kept]at e;cases e
     ·rw[k4 e2 y y2]at e;cases e
  have hl0:H l=none:=fT s3 hl
  have nl:l≠s'/\l≠ch:=⟨fun y=>by{rw[y,h1]at hl0;cases hl0},fun y=>by{rw[y,h2]at hl0;cases hl0}⟩
  have nb:bd≠s'/\bd≠ch:=⟨fun y=>by{rw[y,h1]at h3;cases h3},fun y=>by{rw[y,h2]at h3;cases h3}⟩
  exact q H5 fi fd lk c l ⟨⟨dx,g1⟩,g2,u5 _ _ nb.1 nb.2 (k4 h3 nbo ss.e),⟨df,g3⟩,g4,g5,nfl,nn f1,nn f2,nn f3⟩ hl0 (B4.off ⟨dx,bd,ch,fi0,ns4⟩ ch4 ss.r ss.o u5) (u5 _ _ nl.1 nl.2 l4) (fun x o n1 n2 n3 n4 e=>u5 _ _ n1 n2 (k4 e n3 n4))
end
abbrev aD:=Str×Str
inductive gY(adj:aD->List aD)(s:aD):Nat->aD->Prop
 |zero:gY adj s 0 s
 |step {n:Nat} {x y:aD}:gY adj s n x->y∈adj x->gY adj s (n+ 1) y
theorem gY.inv{adj:aD->List aD}{s:aD}{n:Nat}{y:aD}(h:gY adj s (n+ 1) y):∃x,gY adj s n x/\y∈adj x:=by
 cases h with
 |step h1 h2=>exact⟨_,h1,h2⟩
structure nK(adj:aD->List aD)(s:aD)(ys:List aD):Prop where
 hd:ys[0]?=some s
 nd:ys.Nodup
 nx:∀i x,ys[i]?=some x->∃y,ys[(i+ 1)% ys.length]?=some y/\y∈adj x
inductive cT(cm:aD->Option aD)(s:aD):aD->List aD->Prop
 |nil:cT cm s s [s]
 |cons {x u:aD} {ps:List aD}:x≠s->cm x=some u->cT cm s u ps->cT cm s x (x::ps)
theorem cT.uniq{cm:aD->Option aD}{s:aD}:∀{x:aD} {ps qs:List aD},cT cm s x ps->cT cm s x qs->ps=qs
 |_,_,_,.nil,.nil=>rfl
 |_,_,_,.nil,.cons h _ _=>absurd rfl h
 |_,_,_,.cons h _ _,.nil=>absurd rfl h
 |_,_,_,.cons _ e b,.cons _ e' b'=>by
  rw[e]at e'
  cases e'
  rw[cT.uniq b b']
theorem cT.mem{cm:aD->Option aD}{s:aD}:∀{x y:aD} {ps:List aD},cT cm s x ps->y∈ps->∃qs,cT cm s y qs/\qs.length<=ps.length/\∃pre,ps=pre++ qs
 |_,y,_,.nil,h=>by rw[List.mem_singleton.mp h];exact⟨[_],.nil,Nat.le_refl _,[],rfl⟩
 |_,y,_,.cons (x:=x) (ps:=ps) h e b,hm=>by
  rcases List.mem_cons.mp hm with rfl|hm
  ·exact⟨_,.cons h e b,Nat.le_refl _,[],rfl⟩
  ·obtain⟨qs,h1,h2,pre,h3⟩:=cT.mem b hm
   exact⟨qs,h1,Nat.le_succ_of_le h2,x::pre,by rw[h3];rfl⟩
theorem cT.nodup{cm:aD->Option aD}{s:aD}:∀{x:aD} {ps:List aD},cT cm s x ps->ps.Nodup
 |_,_,.nil=>by simp
 |_,_,.cons (x:=x) (ps:=ps) h e b=>by
  rw[List.nodup_cons]
  refine⟨fun hm=> ?_,b.nodup⟩
  obtain⟨qs,h1,h2,_⟩:=b.mem hm
  have:=cT.uniq h1 (.cons h e b)
  rw[this,List.length_cons]at h2
  omega
theorem cT.last{cm:aD->Option aD}{s:aD}:∀{x:aD} {ps:List aD},cT cm s x ps->ps.getLast?=some s
 |_,_,.nil=>rfl
 |_,_,.cons (x:=x) (ps:=ps) h e b=>by
  have:=b.last
  cases ps with
  |nil=>cases b
  |cons p r=>rw[List.getLast?_cons_cons];exact this
theorem cT.head{cm:aD->Option aD}{s:aD}{x:aD}{ps:List aD}(h:cT cm s x ps):ps[0]?=some x:=by
 cases h<;>rfl
theorem cT.next{cm:aD->Option aD}{s:aD}:∀{x:aD} {ps:List aD} {i:Nat} {y z:aD},cT cm s x ps->ps[i]?=some y->ps[i+ 1]?=some z->y≠s/\cm y=some z
 |_,_,i,y,z,.nil,h1,h2=>by simp at h2
 |_,_,0,y,z,.cons (x:=x) (ps:=ps) h e b,h1,h2=>by
  simp at h1
  subst h1
  have h2:ps[0]?=some z:=by simpa using h2
  rw[b.head]at h2
  cases h2
  exact⟨h,e⟩
 |_,_,i+ 1,y,z,.cons h e b,h1,h2=>cT.next (i:=i) b (by simpa using h1) (by simpa using h2)
theorem cT.ext{cm cm':aD->Option aD}{s:aD}(hc:∀x u,cm x=some u->cm' x=some u):∀{x:aD} {ps:List aD},cT cm s x ps->cT cm' s x ps
 |_,_,.nil=> .nil
 |_,_,.cons h e b=> .cons h (hc _ _ e) (b.ext hc)
theorem cT.drop{cm:aD->Option aD}{s:aD}:∀{x y:aD} {ps:List aD} {i:Nat},cT cm s x ps->ps[i]?=some y->cT cm s y (ps.drop i)
 |_,_,_,0,h,e=>by
  rw[h.head]at e
  cases e
  exact h
 |_,_,_,i+ 1,.nil,e=>by simp at e
 |_,_,_,i+ 1,.cons _ _ b,e=>cT.drop (i:=i) b (by simpa using e)
theorem cT.ring{adj:aD->List aD}{cm:aD->Option aD}{s x:aD}{ps:List aD}(hc:∀z u,cm z=some u->z∈adj u)(hs:s∈adj x)(h:cT cm s x ps):nK adj s ps.reverse:=by
 have hl:ps.getLast?=some s:=h.last
 have hpos:0<ps.length:=by
  cases ps with
  |nil=>simp at hl
  |cons=>simp
 have hls:ps[ps.length- 1]?=some s:=by rw[<- List.getLast?_eq_getElem?];exact hl
 refine⟨?_,?_,fun i z hz=> ?_⟩
 ·rw[List.getElem?_reverse hpos]
  simpa using hls
 ·exact List.pairwise_reverse.mpr (h.nodup.imp fun h=>Ne.symm h)
 ·have hi:i<ps.length:=by
   have:=(List.getElem?_eq_some_iff.mp hz).1
   simpa using this
  rw[List.length_reverse]
  rw[List.getElem?_reverse hi]at hz
  by_cases g:i+ 1<ps.length
  ·rw[Nat.mod_eq_of_lt g,List.getElem?_reverse g]
   obtain⟨y,hy⟩:∃y,ps[ps.length- 1- (i+ 1)]?=some y:=⟨_,List.getElem?_eq_getElem (by omega)⟩
   have e:ps.length- 1- i=(ps.length- 1- (i+ 1))+ 1:=by omega
   rw[e]at hz
   exact⟨y,hy,hc _ _ (h.next hy hz).2⟩
  ·have e:i+ 1=ps.length:=by omega
   rw[e,Nat.mod_self,List.getElem?_reverse hpos]
   have e0:ps.length- 1- i=0:=by omega
   rw[e0,h.head]at hz
   cases hz
   exact⟨s,by simpa using hls,hs⟩
theorem nK.walk{adj:aD->List aD}{s:aD}{ys:List aD}(R:nK adj s ys):∀(i:Nat) (x:aD),ys[i]?=some x->gY adj s i x
 |0,x,h=>by
  rw[R.hd]at h
  cases h
  exact .zero
 |i+ 1,x,h=>by
  have hi:i+ 1<ys.length:=(List.getElem?_eq_some_iff.mp h).1
  obtain⟨z,hz⟩:∃z,ys[i]?=some z:=⟨_,List.getElem?_eq_getElem (by omega)⟩
  obtain⟨y,h1,h2⟩:=R.nx i z hz
  rw[Nat.mod_eq_of_lt hi,h]at h1
  cases h1
  exact .step (R.walk i z hz) h2
theorem nK.pos{adj:aD->List aD}{s:aD}{ys:List aD}(R:nK adj s ys):0<ys.length:=(List.getElem?_eq_some_iff.mp R.hd).1
theorem nK.back{adj:aD->List aD}{s:aD}{ys:List aD}(R:nK adj s ys):gY adj s ys.length s:=by
 have hp:=R.pos
 obtain⟨z,hz⟩:∃z,ys[ys.length- 1]?=some z:=⟨_,List.getElem?_eq_getElem (by omega)⟩
 obtain⟨y,h1,h2⟩:=R.nx _ z hz
 have e:ys.length- 1+ 1=ys.length:=by omega
 rw[e,Nat.mod_self,R.hd]at h1
 cases h1
 have:=gY.step (R.walk _ z hz) h2
 rw[e]at this
 exact this
def jD(cm:aD->Option aD)(nodes:List aD):Nat:=(nodes.filter fun z=>(cm z).isNone).length
theorem b2A{cm cm':aD->Option aD}(hc:∀x,(cm x).isSome->(cm' x).isSome):∀nodes:List aD,jD cm' nodes<=jD cm nodes
 | []=>Nat.le_refl _
 |z::r=>by
  have ih:=b2A hc r
  unfold jD at ih|-
  rw[List.filter_cons,List.filter_cons]
  cases e:cm z with
  |none=>cases e':cm' z<;>simp<;>omega
  |some u=>
   have:=hc z (by rw[e];rfl)
   cases e':cm' z with
   |none=>rw[e']at this;cases this
   |some u'=>simpa using ih
theorem a3T{cm cm':aD->Option aD}(hc:∀x,(cm x).isSome->(cm' x).isSome){y:aD}(h0:cm y=none)(h1:(cm' y).isSome):∀{nodes:List aD},y∈nodes->jD cm' nodes+ 1<=jD cm nodes
 |z::r,hy=>by
  have le:=b2A hc r
  unfold jD at le|-
  rw[List.filter_cons,List.filter_cons]
  rcases List.mem_cons.mp hy with rfl|hy
  ·rw[h0]
   cases e':cm' y with
   |none=>rw[e']at h1;cases h1
   |some u=>simpa using Nat.succ_le_succ le
  ·have ih:=a3T hc h0 h1 hy
   unfold jD at ih
   cases e:cm z with
   |none=>cases e':cm' z<;>simp<;>omega
   |some u=>
    have:=hc z (by rw[e];rfl)
    cases e':cm' z with
    |none=>rw[e']at this;cases this
    |some u'=>simpa using ih
theorem a4N(cm:aD->Option aD)(nodes:List aD):jD cm nodes<=nodes.length:=List.length_filter_le _ _
def Done(adj:aD->List aD)(s:aD)(cm:aD->Option aD)(x:aD):Prop:=∀y∈adj x,y≠s/\(cm y).isSome
structure kR(adj:aD->List aD)(s:aD)(nodes:List aD)(r:Nat)(cm:aD->Option aD)(wz:List aD):Prop where
 c:∀z u,cm z=some u->z∈adj u/\z≠s
 d:∀x∈wz,∃ps,cT cm s x ps/\ps.length=r+ 1
 f:∀x,(x=s\/ (cm x).isSome)->Done adj s cm x\/ x∈wz
 w:∀x∈wz,x=s\/ (cm x).isSome
 q:∀x,gY adj s r x->x=s\/ (cm x).isSome
 n:∀k,k+ 1<=r->¬gY adj s (k+ 1) s
 b:wz= []\/ r+ jD cm nodes<=nodes.length
theorem kR.start{adj:aD->List aD}{s:aD}{nodes:List aD}:kR adj s nodes 0 (fun _=>none) [s] where
 c:=fun _ _ h=>by cases h
 d:=fun x hx=>by rw[List.mem_singleton.mp hx];exact⟨[s],.nil,rfl⟩
 f:=fun x hx=>by
  rcases hx with rfl|hx
  ·exact .inr (by simp)
  ·cases hx
 w:=fun x hx=> .inl (List.mem_singleton.mp hx)
 q:=fun x hx=>by cases hx;exact .inl rfl
 n:=fun k hk=>by omega
 b:=.inr (by have:=a4N (fun _=>none) nodes;omega)
theorem kR.over{adj:aD->List aD}{s:aD}{nodes:List aD}{r:Nat}{cm:aD->Option aD}(B:kR adj s nodes r cm []):∀n,¬gY adj s (n+ 1) s:=by
 have all:∀n x,gY adj s n x->x=s\/ (cm x).isSome:=by
  intro n
  induction n with
  |zero=>intro x h;cases h;exact .inl rfl
  |succ n ih=>
   intro x h
   obtain⟨z,h1,h2⟩:=h.inv
   rcases B.f z (ih z h1)with g|g
   ·exact .inr (g x h2).2
   ·cases g
 intro n h
 obtain⟨z,h1,h2⟩:=h.inv
 rcases B.f z (all n z h1)with g|g
 ·exact(g s h2).1 rfl
 ·cases g
structure iS(adj:aD->List aD)(s:aD)(nodes:List aD)(r:Nat)(cm0:aD->Option aD)(wz:List aD)(i:Nat)(cm:aD->Option aD)(fz:List aD):Prop where
 c:∀z u,cm z=some u->z∈adj u/\z≠s
 e:∀z u,cm0 z=some u->cm z=some u
 d:∀x∈fz,∃ps,cT cm s x ps/\ps.length=r+ 2
 f:∀x,(x=s\/ (cm x).isSome)->Done adj s cm x\/ x∈wz.drop i\/ x∈fz
 w:∀x∈fz,x≠s/\(cm x).isSome/\cm0 x=none
 l:fz.length+ jD cm nodes<=jD cm0 nodes
theorem iS.start{adj:aD->List aD}{s:aD}{nodes:List aD}{r:Nat}{cm:aD->Option aD}{wz:List aD}(B:kR adj s nodes r cm wz):iS adj s nodes r cm wz 0 cm [] where
 c:=B.c
 e:=fun _ _ h=>h
 d:=fun _ h=>by cases h
 f:=fun x hx=>(B.f x hx).imp id fun h=> .inl (by simpa using h)
 w:=fun _ h=>by cases h
 l:=by simp
theorem iS.next{adj:aD->List aD}{s:aD}{nodes:List aD}{r i:Nat}{cm0 cm:aD->Option aD}{wz fz:List aD}{x:aD}(M:iS adj s nodes r cm0 wz i cm fz)(hx:wz[i]?=some x)(hd:Done adj s cm x):iS adj s nodes r cm0 wz (i+ 1) cm fz:=
 ⟨M.c,M.e,M.d,fun y hy=>by
  rcases M.f y hy with h|h|h
  ·exact .inl h
  ·have hi:i<wz.length:=(List.getElem?_eq_some_iff.mp hx).1
   rw[List.drop_eq_getElem_cons hi]at h
   rcases List.mem_cons.mp h with h|h
   ·have:wz[i]=x:=(List.getElem?_eq_some_iff.mp hx).2
    rw[h,this]
    exact .inl hd
   ·exact .inr (.inl h)
  ·exact .inr (.inr h),M.w,M.l⟩
noncomputable def gO (cm:aD->Option aD) (y x:aD):aD->Option aD:=fun z=>if z=y then some x else cm z
theorem iS.put{adj:aD->List aD}{s:aD}{nodes:List aD}{r i:Nat}{cm0 cm:aD->Option aD}{wz fz:List aD}{x y:aD}(B:kR adj s nodes r cm0 wz)(M:iS adj s nodes r cm0 wz i cm fz)(hx:x∈wz)(hy:y∈adj x)(hs:y≠s)(h0:cm y=none)(hn:y∈nodes):
 iS adj s nodes r cm0 wz i (gO cm y x) (fz++ [y]):=by
 have ext:∀z u,cm z=some u->gO cm y x z=some u:=fun z u h=>by
  unfold gO
  rw[if_neg (fun e=>by rw[e,h0]at h;cases h)]
  exact h
 have some':∀z,(cm z).isSome->(gO cm y x z).isSome:=fun z h=>by
  obtain⟨u,hu⟩:=Option.isSome_iff_exists.mp h
  rw[ext z u hu];rfl
 have at':gO cm y x y=some x:=by unfold gO;rw[if_pos rfl]
 refine⟨fun z u h=> ?_,fun z u h=>ext z u (M.e z u h),fun z hz=> ?_,fun z hz=> ?_,fun z hz=> ?_,?_⟩
 ·unfold gO at h
  by_cases e:z=y
  ·rw[if_pos e]at h
   cases h
   rw[e]
   exact⟨hy,hs⟩
  ·rw[if_neg e]at h
   exact M.c z u h
 ·rcases List.mem_append.mp hz with hz|hz
  ·obtain⟨ps,h1,h2⟩:=M.d z hz
   exact⟨ps,h1.ext ext,h2⟩
  ·rw[List.mem_singleton.mp hz]
   obtain⟨ps,h1,h2⟩:=B.d x hx
   exact⟨y::ps,.cons hs at' ((h1.ext M.e).ext ext),by rw[List.length_cons,h2]⟩
 ·by_cases e:z=y
  ·exact .inr (.inr (by rw[e];simp))
  ·have hz':z=s\/ (cm z).isSome:=hz.imp id fun h=>by
    unfold gO at h
    rw[if_neg e]at h
    exact h
   rcases M.f z hz' with h|h|h
   ·exact .inl fun u hu=>⟨(h u hu).1,some' u (h u hu).2⟩
   ·exact .inr (.inl h)
   ·exact .inr (.inr (List.mem_append_left _ h))
 ·rcases List.mem_append.mp hz with hz|hz
  ·obtain⟨h1,h2,h3⟩:=M.w z hz
   exact⟨h1,some' z h2,h3⟩
  ·rw[List.mem_singleton.mp hz]
   refine⟨hs,by rw[at'];rfl,?_⟩
   cases e:cm0 y with
   |none=>rfl
   |some u=>rw[M.e y u e]at h0;cases h0
 ·have h1:=a3T some' h0 (by rw[at'];rfl) hn
  have h2:=M.l
  rw[List.length_append,List.length_singleton]
  omega
theorem iS.over{adj:aD->List aD}{s:aD}{nodes:List aD}{r:Nat}{cm0 cm:aD->Option aD}{wz fz:List aD}(B:kR adj s nodes r cm0 wz)(M:iS adj s nodes r cm0 wz wz.length cm fz)(hw:wz≠ []):kR adj s nodes (r+ 1) cm fz:=by
 have some':∀z,(cm0 z).isSome->(cm z).isSome:=fun z h=>by
  obtain⟨u,hu⟩:=Option.isSome_iff_exists.mp h
  rw[M.e z u hu];rfl
 have old:∀x,(x=s\/ (cm0 x).isSome)->Done adj s cm x:=fun x hx=>by
  rcases M.f x (hx.imp id (some' x))with h|h|h
  ·exact h
  ·simp at h
  ·obtain⟨h1,_,h3⟩:=M.w x h
   rcases hx with hx|hx
   ·exact absurd hx h1
   ·rw[h3]at hx;cases hx
 refine⟨M.c,M.d,fun x hx=> ?_,fun x hx=> .inr (M.w x hx).2.1,fun x hx=> ?_,fun k hk h=> ?_,?_⟩
 ·rcases M.f x hx with h|h|h
  ·exact .inl h
  ·simp at h
  ·exact .inr h
 ·obtain⟨z,h1,h2⟩:=hx.inv
  exact .inr (old z (B.q z h1) x h2).2
 ·by_cases g:k+ 1<=r
  ·exact B.n k g h
  ·have e:k=r:=by omega
   subst e
   obtain⟨z,h1,h2⟩:=h.inv
   exact(old z (B.q z h1) s h2).1 rfl
 ·by_cases g:fz= []
  ·exact .inl g
  ·refine .inr ?_
   have hl:=M.l
   have hp:0<fz.length:=List.length_pos_iff.mpr g
   rcases B.b with b|b
   ·exact absurd b hw
   ·omega
theorem b7w:bootBuiltins "reversed"=some (.type "reversed"):=by kernel_rfl
def N2(z:aD):Prop:=Nl z.1/\Nl z.2
theorem N2.lay{z:aD}(h:N2 z):(fO z).canLay0=true:=a0j h.1 h.2
theorem bG.upd{p:Addr}{H:Hp}{o:HO}:bG p H (upd H p o):=fun b u n e=>by rw[aH n];exact e
def kS(z:aD):List aC:=[.inr z.1,.inr z.2]
theorem b2Q{z u:aD}(h:kS z=kS u):z=u:=by
 obtain⟨a,b⟩:=z
 obtain⟨c,d⟩:=u
 simp only[kS,List.cons.injEq,Sum.inr.injEq,and_true]at h
 rw[h.1,h.2]
def fN(H:Hp)(v:V)(z:aD):Prop:=∃a,v= .ref a/\H a=some (.tup [.str z.1,.str z.2])
theorem fN.mapT{H H':Hp}{v:V}{z:aD}(k:∀a xs,H a=some (.tup xs)->H' a=some (.tup xs))(h:fN H v z):fN H' v z:=let ⟨a,e,g⟩:=h;⟨a,e,k _ _ g⟩
theorem fN.same{H H':Hp}{v:V}{z:aD}(s:aG H H')(h:fN H v z):fN H' v z:=h.mapT fun a xs e=>s _ _ e
theorem fN.dt{K:Fg}{H:Hp}{v:V}{z:aD}(h:fN H v z):Dt K H v (fO z):=by
 obtain⟨a,rfl,g⟩:=h
 exact .tup (bU.of g) (.cons (.str _) (.cons (.str _) .nil))
def cB(H:Hp):List V->List aD->Prop:=Paired (fN H)
theorem cB.mapT{H H':Hp}(k:∀a xs,H a=some (.tup xs)->H' a=some (.tup xs)):∀{vs:List V} {zs:List aD},cB H vs zs->cB H' vs zs
 |_,_,.nil=> .nil
 |_,_,.cons r t=> .cons (r.mapT k) (cB.mapT k t)
theorem cB.same{H H':Hp}{vs:List V}{zs:List aD}(s:aG H H')(h:cB H vs zs):cB H' vs zs:=h.mapT fun a xs e=>s _ _ e
theorem cB.length{H:Hp}{vs:List V}{zs:List aD}(h:cB H vs zs):vs.length=zs.length:=Paired.length h
theorem cB.at{H:Hp}:∀{vs:List V} {zs:List aD} {i:Nat} {v:V},cB H vs zs->vs[i]?=some v->∃z,zs[i]?=some z/\fN H v z
 |_,_,_,_,.nil,e=>by simp at e
 |_,_,0,_,.cons r _,e=>by simp at e;subst e;exact⟨_,rfl,r⟩
 |_,_,i+ 1,v,.cons _ t,e=>by
  obtain⟨z,h1,h2⟩:=cB.at (i:=i) (v:=v) t (by simpa using e)
  exact⟨z,by simpa using h1,h2⟩
theorem cB.snoc{H:Hp}{v:V}{z:aD}(h:fN H v z):∀{vs:List V} {zs:List aD},cB H vs zs->cB H (vs++ [v]) (zs++ [z])
 |_,_,.nil=> .cons h .nil
 |_,_,.cons r t=> .cons r (cB.snoc h t)
theorem cB.rev{H:Hp}:∀{vs:List V} {zs:List aD},cB H vs zs->cB H vs.reverse zs.reverse
 |_,_,.nil=> .nil
 |_,_,.cons r t=>by
  rw[List.reverse_cons,List.reverse_cons]
  exact(cB.rev t).snoc r
theorem cB.dt{K:Fg}{H:Hp}:∀{vs:List V} {zs:List aD},cB H vs zs->cS K H vs (zs.map fO)
 |_,_,.nil=> .nil
 |_,_,.cons r t=> .cons r.dt (cB.dt t)
theorem cB.last{H:Hp}{vs:List V}{zs:List aD}{z:aD}(h:cB H vs (zs++ [z])):∃ws v,vs=ws++ [v] /\fN H v z:=by
 have hl:=h.length
 rw[List.length_append,List.length_singleton]at hl
 have ne:vs≠ []:=fun e=>by rw[e]at hl;simp at hl
 refine⟨vs.dropLast,vs.getLast ne,(List.dropLast_concat_getLast ne).symm,?_⟩
 have hi:vs[zs.length]?=some (vs.getLast ne):=by
  rw[List.getLast_eq_getElem,List.getElem?_eq_getElem (by omega)]
  congr 2
  omega
 obtain⟨u,h1,h2⟩:=h.at hi
 rw[List.getElem?_append_right (Nat.le_refl _)]at h1
 simp at h1
 rw[h1]
 exact h2
def mY(H:Hp)(cvs:List (List aC×V))(cm:aD->Option aD):Prop:=∀z,(cm z=none/\aO cvs (kS z)=none)\/ ∃u v,cm z=some u/\aO cvs (kS z)=some v/\fN H v u
theorem mY.mapT{H H':Hp}{cvs:List (List aC×V)}{cm:aD->Option aD}(k:∀a xs,H a=some (.tup xs)->H' a=some (.tup xs))(h:mY H cvs cm):mY H' cvs cm:=fun z=>(h z).imp id fun⟨u,v,e1,e2,e3⟩=>⟨u,v,e1,e2,e3.mapT k⟩
theorem pM{α:Type}{xs:List α}{i:Nat}{x:α}(h:xs[i]?=some x):xs.take (i+ 1)=xs.take i++ [x]:=by
 rw[List.take_add_one,h]
 rfl
section
variable{P:Program}{w:World}{K:Fg}{mg:Str->Option Value}{base:Heap}
def b2a(K:Fg):Sp:=fun vs H Q _=>∃(cd:Addr) (v0 vl:V) (cvs:List (List aC×V)) (cm:aD->Option aD) (s x:aD) (ps:List aD),vs= [.ref cd,v0,vl] /\H cd=some (.dT cvs)/\mY H cvs cm/\fN H v0 s/\fN H vl x/\cT cm s x ps/\ps.length<=900/\(∀p∈ps,N2 p)/\
 ∀H' l vs',aG H H'->H l=none->H' l=some (.lst vs')->cB H' vs' ps.reverse->Q (.ref l) H'
theorem b3E:aY ["came_from","spot","last","way"] ["came_from","spot","last"] (aF uJ):=⟨rfl,rfl,rfl,by decide+kernel,rfl,by decide+kernel,by decide+kernel⟩
theorem vV(T:aZ K mg):bK P w K mg base aB 1 "way_to" ["came_from","spot","last"] (b2a K):=by
 refine T.d_way_to.known b3E (fun _ _ _ _ _ _ us hl=>dP (fun _ _ _=>rfl) us hl) (fun vs H Q E h=> ?_) (fun f cdv A outer s H vs Q E hr h=> ?_)
 ·obtain⟨cd,v0,vl,cvs,cm,z,x,ps,rfl,_⟩:=h
  rfl
 ·obtain⟨cd,v0,vl,cvs,cm,z,x,ps,rfl,hcd,hcm,h0,hx,hB,h900,hN,q⟩:=h
  have hu:=eC hr
  refine⟨_,(aJ (bV (i:=3) b3E.nd rfl (Or.inl rfl) (gH (aA (pv 2) aE)))
   (aJ (a6w PassesOwn.never (cJ (oS hr.units) (bP dD (pv 3) (a7t a3e aW) (fun _ _=>rfl)) (pv 1) (cO _)) (aI (bZ (iJ PySem.F.plainAttrs_list PySem.F.slot_list_append PySem.F.type_list_append gT (pv 3) (aA (fV hu (pv 0) (bP dD (pv 3) (a7t a3e aW) (fun _ _=>rfl)) (fun _ _=>rfl)) aE)))))
   (aI (bE (b8S rfl (pv 3) rfl T.list iR rfl T.reversed b7w))))),?_⟩
  refine⟨_,rfl,sl,fun wl hwl=> ?_⟩
  have tup0:∀{H2:Hp},bG wl H H2->∀a xs,H a=some (.tup xs)->H2 a=some (.tup xs):=fun{H2} b a xs e=>b _ _ (bD e hwl) e
  have hNz:N2 z:=by
   have:=hB.last
   exact hN z (List.mem_of_getLast? this)
  refine⟨fun m σ H2=>∃(i:Nat) (ws:List V),σ= [some (.ref cd),some v0,some vl,some (.ref wl)] /\m=ps.length- i/\i<ps.length/\bG wl H H2/\H2 wl=some (.lst ws)/\cB H2 ws (ps.take (i+ 1)),⟨ps.length,0,[vl],rfl,by omega,?_,fun b o n e=>by rw[aH n];exact e,aK,?_⟩,?_⟩
  ·have:=(List.getElem?_eq_some_iff.mp hB.head).1
   exact this
  ·rw[pM hB.head]
   exact .cons (hx.same (aG.new hwl)) .nil
  ·rintro m σ H2 ⟨i,ws,rfl,rfl,hi,b2,hw2,hS⟩
   obtain⟨y,hy⟩:∃y,ps[i]?=some y:=⟨_,List.getElem?_eq_getElem hi⟩
   have hyN:N2 y:=hN y (List.mem_of_getElem? hy)
   have hBi:=hB.drop hy
   rw[pM hy]at hS
   obtain⟨ws',v,rfl,hv⟩:=hS.last
   have h02:=h0.mapT (tup0 b2)
   refine⟨_,rfl,_,rfl,wl,_,_,_,rfl,rfl,aL.of hw2,b18 _ _,_,rfl,_,_,hv.dt,h02.dt,hyN.lay,hNz.lay,(show max 0 (max 0 0)+ 1<=64 by decide),_,rfl,?_⟩
   rw[a2L]
   refine dN (fun g=> ?_) (fun g=> ?_)
   ·have g:y≠z:=by simpa using g
    have hlen:(ps.drop i).length=ps.length- i:=List.length_drop
    generalize hD:ps.drop i=pd at hBi hlen
    cases hBi with
    |nil=>exact absurd rfl g
    | @cons _ u ps' _ hu' hb'=>
     have hps':ps.drop (i+ 1)=ps':=by
      have:(ps.drop i).drop 1=ps':=by rw[hD];rfl
      rw[List.drop_drop]at this
      exact this
     have hi1:ps[i+ 1]?=some u:=by
      have:=hb'.head
      rw[<- hps',List.getElem?_drop]at this
      exact this
     obtain⟨av,rfl,hav⟩:=hv
     rcases hcm y with⟨e,_⟩|⟨u',v',e1,e2,e3⟩
     ·rw[e]at hu';cases hu'
     ·rw[e1]at hu'
      cases hu'
      have hl2:ps.take i++ [y]=ps.take (i+ 1):=(pM hy).symm
      have hwl':(ws'++ [V.ref av]).length<=900:=by
       rw[hS.length,hl2,List.length_take]
       omega
      refine⟨fun σ' H'=>∃(j:Nat) (ws:List V),σ'= [some (.ref cd),some v0,some vl,some (.ref wl)] /\j=i+ 1/\j<ps.length/\bG wl H H'/\H' wl=some (.lst ws)/\cB H' ws (ps.take (j+ 1)),fun σ' H' ⟨j,ws,h1,h2,h3,h4,h5,h6⟩=>⟨ps.length- j,by omega,j,ws,h1,rfl,h3,h4,h5,h6⟩,?_⟩
      refine⟨_,rfl,.inl ⟨rfl,_,aL.of hw2⟩,_,rfl,_,rfl,_,rfl,wl,_,_,_,rfl,rfl,aL.of hw2,b18 _ _,cd,v',rfl,e2▸cC.t (k:=kS y) (b2 _ _ (bD hcd hwl) hcd) hav,wl,_,_,rfl,rfl,hw2,cQ (by omega),?_⟩
      have tup2:∀a xs,H2 a=some (.tup xs)->upd H2 wl (.lst (ws'++ [.ref av] ++ [v'])) a=some (.tup xs):=fun a xs e=>by rw[aH (jX e hw2 (fun z=>by cases z))];exact e
      refine⟨i+ 1,_,rfl,rfl,(List.getElem?_eq_some_iff.mp hi1).1,b2.trans bG.upd,aK,?_⟩
      rw[pM hi1,<- hl2]
      exact(hS.mapT tup2).snoc ((e3.mapT (tup0 b2)).mapT tup2)
   ·have g:y=z:=by
     by_cases e:y=z
     ·exact e
     ·exact absurd (by simp[e]) g
    subst g
    have hi1:i+ 1=ps.length:=by
     have:=cT.uniq hBi .nil
     have hl:(ps.drop i).length=1:=by rw[this];rfl
     rw[List.length_drop]at hl
     omega
    refine⟨_,rfl,wl,_,rfl,aL.of hw2,fun l hl=> ?_⟩
    have s2:=aG.new (o:=.lst (ws'++ [v]).reverse) hl
    refine q _ l _ (fun b o e=>s2 _ _ (b2 _ _ (bD e hwl) e)) ?_ aK ?_
    ·cases e:H l with
     |none=>rfl
     |some o=>rw[b2 _ _ (fun z=>by rw[z,hw2]at hl;cases hl) e]at hl;cases hl
    ·have e:ps.take i++ [y]=ps:=by rw[<- pM hy,hi1,List.take_length]
     rw[e]at hS
     exact(hS.same s2).rev
end
theorem b9a{n:Nat}(h:n<3000):n<sizeLine:=Nat.lt_trans h (by decide)
def fK(p q:Addr)(H H':Hp):Prop:=∀b o,b≠p->b≠q->H b=some o->H' b=some o
theorem fK.of{p q:Addr}{H H':Hp}(s:aG H H'):fK p q H H':=fun b o _ _ e=>s b o e
theorem fK.trans{p q:Addr}{H H1 H2:Hp}(a:fK p q H H1)(b:fK p q H1 H2):fK p q H H2:=fun c o n m e=>b c o n m (a c o n m e)
theorem fK.u1{p q:Addr}{H:Hp}{o:HO}:fK p q H (upd H p o):=fun b u n _ e=>by rw[aH n];exact e
theorem fK.u2{p q:Addr}{H:Hp}{o:HO}:fK p q H (upd H q o):=fun b u _ n e=>by rw[aH n];exact e
theorem b02{H H':Hp}{l:Addr}(s:aG H H')(h:H' l=none):H l=none:=by
 cases e:H l with
 |none=>rfl
 |some o=>rw[s l o e]at h;cases h
theorem cT.each{cm:aD->Option aD}{s:aD}:∀{x:aD} {ps:List aD},cT cm s x ps->∀p∈ps,p=s\/ ∃u,cm p=some u
 |_,_,.nil,p,hp=> .inl (List.mem_singleton.mp hp)
 |_,_,.cons h e b,p,hp=>by
  rcases List.mem_cons.mp hp with rfl|hp
  ·exact .inr ⟨_,e⟩
  ·exact b.each p hp
structure qA(H:Hp)(gd:Addr)(kvs:List (List aC×V))(adj:aD->List aD):Prop where
 d:H gd=some (.dT kvs)
 a:∀z,(aO kvs (kS z)=none/\adj z= [])\/ ∃l vs,aO kvs (kS z)=some (.ref l)/\H l=some (.lst vs)/\cB H vs (adj z)
 n:∀z,∀y∈adj z,N2 y
 l:∀z,(adj z).length<=100
theorem qA.same{H H':Hp}{gd:Addr}{kvs:List (List aC×V)}{adj:aD->List aD}(s:aG H H')(h:qA H gd kvs adj):qA H' gd kvs adj:=
 ⟨s _ _ h.d,fun z=>(h.a z).imp id fun⟨l,vs,e1,e2,e3⟩=>⟨l,vs,e1,s _ _ e2,e3.same s⟩,h.n,h.l⟩
theorem mY.put{H:Hp}{cvs:List (List aC×V)}{cm:aD->Option aD}{y x:aD}{v:V}(h:mY H cvs cm)(hv:fN H v x):mY H (aT cvs (kS y) v) (gO cm y x):=fun z=>by
 unfold gO
 rw[iE]
 by_cases e:z=y
 ·rw[if_pos e,if_pos (by rw[e])]
  exact .inr ⟨x,v,rfl,rfl,hv⟩
 ·rw[if_neg e,if_neg (fun h=>e (b2Q h))]
  exact h z
theorem b1b{κ:Type} [DecidableEq κ](kvs:List (κ×V))(k:κ)(y:V):(aT kvs k y).length<=kvs.length+ 1:=by
 unfold aT
 split
 ·rw[List.length_map];omega
 ·rw[List.length_append];exact Nat.le_refl _
structure oJ(H0 H:Hp)(cd fl:Addr)(cvs:List (List aC×V))(cm:aD->Option aD)(nodes:List aD)(fvs:List V)(fz:List aD):Prop where
 s:aG H0 H
 c:H cd=some (.dT cvs)
 o:mY H cvs cm
 l:cvs.length+ jD cm nodes<=nodes.length
 f:H fl=some (.lst fvs)
 z:cB H fvs fz
theorem oJ.same{H0 H H':Hp}{cd fl:Addr}{cvs:List (List aC×V)}{cm:aD->Option aD}{nodes:List aD}{fvs:List V}{fz:List aD}(s:aG H H')(h:oJ H0 H cd fl cvs cm nodes fvs fz):oJ H0 H' cd fl cvs cm nodes fvs fz:=
 ⟨h.s.trans s,s _ _ h.c,h.o.mapT fun a xs e=>s _ _ e,h.l,s _ _ h.f,h.z.same s⟩
section
variable{P:Program}{w:World}{K:Fg}{mg:Str->Option Value}{base:Heap}
def b32(K:Fg):Sp:=fun vs H Q _=>∃(gd:Addr) (v0:V) (kvs:List (List aC×V)) (adj:aD->List aD) (s:aD) (nodes:List aD),vs= [.ref gd,v0] /\qA H gd kvs adj/\fN H v0 s/\N2 s/\(∀z,∀y∈adj z,y∈nodes)/\nodes.length<=100/\
 ∀H',aG H H'->((∀n,¬gY adj s (n+ 1) s)->Q .non H')/\∀l vs' ys,H l=none->H' l=some (.lst vs')->cB H' vs' ys->nK adj s ys->(∀n,n+ 1<ys.length->¬gY adj s (n+ 1) s)->Q (.ref l) H'
theorem nR:aY ["leanings","spot","came_from","waiting","farther","leaning","leant"] ["leanings","spot"] (aF xV):=⟨rfl,rfl,rfl,by decide+kernel,rfl,by decide+kernel,by decide+kernel⟩
theorem wG(T:aZ K mg):bK P w K mg base aB 2 "ring_from" ["leanings","spot"] (b32 K):=by
 have G_way_to:bK P w K mg base aB 1 "way_to" ["came_from","spot","last"] (b2a K):=vV T
 refine T.d_ring_from.known nR (fun _ _ _ _ _ _ us hl=>dJ (fun _ _=>rfl) us hl) (fun vs H Q E h=> ?_) (fun f cdv A outer s H vs Q E hr h=> ?_)
 ·obtain⟨gd,v0,kvs,adj,z,nodes,rfl,_⟩:=h
  rfl
 ·obtain⟨gd,v0,kvs,adj,z,nodes,rfl,hG,h0,hzN,hnodes,h100,q⟩:=h
  have hu:=eC hr
  refine⟨_,(aJ (bV (i:=2) nR.nd rfl (Or.inl rfl) uD)
   (aJ (bV (i:=3) nR.nd rfl (Or.inl rfl) (gH (aA (pv 1) aE)))
   (aJ (a6w PassesOwn.never (b2Y (pv 3) (fun _=>rfl)) (aJ (bV (i:=4) nR.nd rfl (Or.inl rfl) (gH aE))
   (aJ (gW PassesOwn.never rfl (fL (pv 3)) (dL (i:=5) nR.nd rfl (Or.inl rfl)) (aI (gW PassesOwn.never rfl (fL (b7j hu (pv 0) (pv 5) (gH aE) ⟨rfl,rfl,rfl,rfl⟩)) (dL (i:=6) nR.nd rfl (Or.inl rfl))
   (aJ (bN (cJ (b3q hr.units) (pv 6) (pv 1) (cO _)) (aI (bE (bR G_way_to (hr.mono (by decide)) aM (aA (pv 2) (aA (pv 1) (aA (pv 5) aE)))))) bO)
   (aI (bN (jP (mH hu (pv 6) (pv 2))) (aJ (jI hu (pv 2) (pv 6) (pv 5) rfl) (aI (bZ (iJ PySem.F.plainAttrs_list PySem.F.slot_list_append PySem.F.type_list_append gT (pv 4) (aA (pv 6) aE))))) bO))))))
   (aI (bV (i:=3) nR.nd rfl (Or.inl rfl) (pv 4))))))
   (aI (bE iG))))),?_⟩
  intro cd hcd
  have s1:=aG.new (o:=.dT []) hcd
  have hc1:=aK (H:=H) (a:=cd) (o:=.dT [])
  generalize upd H cd (.dT [])=H1 at s1 hc1|-
  refine⟨_,rfl,sl,fun wl hwl=> ?_⟩
  have s2:=aG.new (o:=.lst [v0]) hwl
  let Wf:Nat->St->Hp->Prop:=fun m σ H2=>∃(r:Nat) (cm:aD->Option aD) (wz:List aD) (cvs:List (List aC×V)) (wl:Addr) (wvs:List V) (o4 o5 o6:Option V),σ= [some (.ref gd),some v0,some (.ref cd),some (.ref wl),o4,o5,o6] /\m=2* jD cm nodes+ (if wz= [] then 0 else 1)/\oJ H H2 cd wl cvs cm nodes wvs wz/\H wl=none/\kR adj z nodes r cm wz
  refine⟨Wf,⟨_,0,fun _=>none,[z],[],wl,[v0],_,_,_,rfl,rfl,⟨s1.trans s2,s2 _ _ hc1,fun y=> .inl ⟨rfl,rfl⟩,by have:=a4N (fun _=>none) nodes;simpa using this,aK,.cons (h0.same (s1.trans s2)) .nil⟩,b02 s1 hwl,kR.start⟩,?_⟩
  clear hwl s2 wl
  rintro m σ H2 ⟨r,cm,wz,cvs,wl,wvs,o4,o5,o6,rfl,hm,A2,hwl,B⟩
  refine⟨_,rfl,_,.inl ⟨wvs,aL.of A2.f,rfl⟩,?_⟩
  refine dN (fun g=> ?_) (fun g=> ?_)
  ·have hwz:wz≠ []:=fun e=>by
    have:=A2.z.length
    rw[e]at this
    have:wvs= []:=List.length_eq_zero_iff.mp this
    rw[this]at g
    cases g
   refine⟨fun σ' H'=>∃m',m'<m/\Wf m' σ' H',fun σ' H' h=>h,?_⟩
   refine⟨sl,fun fl hfl=> ?_⟩
   have s3:=aG.new (o:=.lst []) hfl
   have A3:oJ H (upd H2 fl (.lst [])) cd fl cvs cm nodes [] []:=⟨A2.s.trans s3,s3 _ _ A2.c,A2.o.mapT fun a xs e=>s3 _ _ e,A2.l,aK,.nil⟩
   have hw3:=s3 _ _ A2.f
   have hwz3:=A2.z.same s3
   have ncf:cd≠fl:=bD A2.c hfl
   have nwf:wl≠fl:=bD A2.f hfl
   have nwc:wl≠cd:=jX A2.f A2.c (fun z=>by cases z)
   have hfl0:H fl=none:=b02 A2.s hfl
   generalize upd H2 fl (.lst [])=H3 at A3 hw3 hwz3|-
   refine⟨_,rfl,wl,rfl,⟨_,aL.of hw3⟩,?_⟩
   refine kM (K:=K) (a:=wl) (xs:=wvs) (fun i σ H4=>∃(cm':aD->Option aD) (fz:List aD) (cvs':List (List aC×V)) (fvs:List V) (o5 o6:Option V),σ= [some (.ref gd),some v0,some (.ref cd),some (.ref wl),some (.ref fl),o5,o6] /\fK cd fl H3 H4/\oJ H H4 cd fl cvs' cm' nodes fvs fz/\iS adj z nodes r cm wz i cm' fz)
    ⟨cm,[],cvs,[],_,_,rfl,fK.of (aG.refl _),A3,iS.start B⟩ (by rintro i σ H4 _ ⟨_,_,_,_,_,_,_,b4,_⟩;exact aL.of (b4 _ _ nwc nwf hw3)) ?_ ?_
   ·rintro i x σ H4 hx ⟨cm',fz,cvs',fvs,o5,o6,rfl,b4,A4,M4⟩
    obtain⟨xz,hxz,hxs⟩:=hwz3.at hx
    have tup34:∀a xs,H3 a=some (.tup xs)->H4 a=some (.tup xs):=fun a xs e=>b4 _ _ (jX e A3.c (fun z=>by cases z)) (jX e A3.f (fun z=>by cases z)) e
    have hx4:=hxs.mapT tup34
    have hG4:=hG.same A4.s
    obtain⟨ax,rfl,hax⟩:=hx4
    refine⟨_,rfl,gd,rfl,.inr ⟨kvs,.inl hG4.d⟩,_,rfl,sl,fun dl hdl=> ?_⟩
    have s5:=aG.new (o:=.lst []) hdl
    have hdl5:=aK (H:=H4) (a:=dl) (o:=.lst [])
    have A5:=A4.same s5
    have b5:fK cd fl H3 (upd H4 dl (.lst [])):=b4.trans (fK.of s5)
    have ndc:dl≠cd:=fun e=>by rw[e,A4.c]at hdl;cases hdl
    have ndf:dl≠fl:=fun e=>by rw[e,A4.f]at hdl;cases hdl
    have hG5:=hG4.same s5
    have hax5:=s5 _ _ hax
    generalize upd H4 dl (.lst [])=H5 at s5 hdl5 A5 b5 hG5 hax5|-
    obtain⟨la,avs,hget,hla,hSa,nlc,nlf⟩:∃(la:Addr) (avs:List V),(aO kvs (kS xz)).getD (.ref dl)= .ref la/\H5 la=some (.lst avs)/\cB H5 avs (adj xz)/\la≠cd/\la≠fl:=by
     rcases hG.a xz with⟨e1,e2⟩|⟨l,vs,e1,e2,e3⟩
     ·exact⟨dl,[],by rw[e1];rfl,hdl5,by rw[e2];exact .nil,ndc,ndf⟩
     ·have hs:=A5.s
      exact⟨l,vs,by rw[e1];rfl,hs _ _ e2,e3.same hs,bD e2 hcd,bD e2 hfl0⟩
    refine⟨_,cC.t (k:=kS xz) hG5.d hax5,?_⟩
    refine⟨la,hget,⟨_,aL.of hla⟩,?_⟩
    have hxw:xz∈wz:=List.mem_of_getElem? hxz
    refine kM (K:=K) (a:=la) (xs:=avs) (fun j σ H6=>∃(cm':aD->Option aD) (fz:List aD) (cvs':List (List aC×V)) (fvs:List V) (o6:Option V),σ= [some (.ref gd),some v0,some (.ref cd),some (.ref wl),some (.ref fl),some (.ref ax),o6] /\fK cd fl H5 H6/\oJ H H6 cd fl cvs' cm' nodes fvs fz/\iS adj z nodes r cm wz i cm' fz/\∀y∈(adj xz).take j,y≠z/\(cm' y).isSome)
     ⟨cm',fz,cvs',fvs,_,rfl,fK.of (aG.refl _),A5,M4,fun y hy=>by simp at hy⟩ (by rintro j σ H6 _ ⟨_,_,_,_,_,_,b6,_⟩;exact aL.of (b6 _ _ nlc nlf hla)) ?_ ?_
    ·have hc5:=A5.c
     have hf5:=A5.f
     clear A4 M4 A5
     rintro j y σ H6 hy ⟨cm',fz,cvs',fvs,o6,rfl,b6,A6,M6,D6⟩
     obtain⟨yz,hyz,hys⟩:=hSa.at hy
     have tup56:∀a xs,H5 a=some (.tup xs)->H6 a=some (.tup xs):=fun a xs e=>b6 _ _ (jX e hc5 (fun z=>by cases z)) (jX e hf5 (fun z=>by cases z)) e
     have hy6:=hys.mapT tup56
     have hx6:=tup56 _ _ hax5
     have h06:=h0.same A6.s
     have hya:yz∈adj xz:=List.mem_of_getElem? hyz
     have hyN:=hG.n xz yz hya
     refine⟨_,rfl,_,rfl,_,_,hy6.dt,h06.dt,hyN.lay,hzN.lay,(show max 0 (max 0 0)+ 1<=64 by decide),_,rfl,?_⟩
     rw[a2L]
     refine dN (fun g1=> ?_) (fun g1=> ?_)
     ·have g1:yz=z:=by simpa using g1
      subst g1
      obtain⟨ps,hB,hl⟩:=B.d xz hxw
      have hB':=hB.ext M6.e
      have hbl:r<=100:=by
       rcases B.b with b|b
       ·exact absurd b hwz
       ·omega
      refine⟨_,rfl,_,rfl,_,rfl,cd,v0,.ref ax,cvs',cm',yz,xz,ps,rfl,A6.c,A6.o,h06,⟨ax,rfl,hx6⟩,hB',by omega,fun p hp=> ?_,fun H' l vs' s7 hl' hl7 hS=> ?_⟩
      ·rcases hB'.each p hp with e|⟨u,e⟩
       ·rw[e];exact hzN
       ·exact hG.n u p (M6.c p u e).1
      ·exact(q H' (A6.s.trans s7)).2 l vs' ps.reverse (b02 A6.s hl') hl7 hS (hB'.ring (fun z u h=>(M6.c z u h).1) hya) fun n hn=>B.n n (by rw[List.length_reverse]at hn;omega)
     ·have g1:yz≠z:=by simpa using g1
      obtain⟨ay,rfl,hay⟩:=hy6
      refine⟨_,rfl,_,rfl,cd,_,rfl,cC.t (k:=kS yz) A6.c hay,_,rfl,?_⟩
      have tk:(adj xz).take (j+ 1)=(adj xz).take j++ [yz]:=pM hyz
      rcases A6.o yz with⟨c1,c2⟩|⟨u,v,c1,c2,c3⟩
      ·rw[c2]
       refine cG ?_
       have hl6:=A6.l
       have hMl:=M6.l
       have hll:=a4N cm nodes
       refine⟨_,rfl,_,rfl,_,rfl,cd,_,rfl,iC.t (k:=kS yz) A6.c hay (b9a (by omega)),?_⟩
       have s7:aG H (upd H6 cd (.dT (aT cvs' (kS yz) (.ref ax)))):=A6.s.on hcd
       have hf7:upd H6 cd (.dT (aT cvs' (kS yz) (.ref ax))) fl=some (.lst fvs):=by rw[aH ncf.symm];exact A6.f
       have tup67:∀a xs,H6 a=some (.tup xs)->upd H6 cd (.dT (aT cvs' (kS yz) (.ref ax))) a=some (.tup xs):=fun a xs e=>by rw[aH (jX e A6.c (fun z=>by cases z))];exact e
       have hc7:=aK (H:=H6) (a:=cd) (o:=.dT (aT cvs' (kS yz) (.ref ax)))
       have b7:fK cd fl H5 (upd H6 cd (.dT (aT cvs' (kS yz) (.ref ax)))):=b6.trans fK.u1
       generalize upd H6 cd (.dT (aT cvs' (kS yz) (.ref ax)))=H7 at s7 hf7 tup67 hc7 b7|-
       have hfz:fvs.length<=100:=by rw[A6.z.length];omega
       refine⟨_,rfl,.inl ⟨rfl,_,aL.of hf7⟩,_,rfl,fl,_,_,rfl,rfl,hf7,cQ (by omega),?_⟩
       have tup78:∀a xs,H7 a=some (.tup xs)->upd H7 fl (.lst (fvs++ [.ref ay])) a=some (.tup xs):=fun a xs e=>by rw[aH (jX e hf7 (fun z=>by cases z))];exact e
       have tup68:=fun a xs e=>tup78 a xs (tup67 a xs e)
       have M8:=M6.put B hxw hya g1 c1 (hnodes xz yz hya)
       refine⟨gO cm' yz xz,fz++ [yz],aT cvs' (kS yz) (.ref ax),fvs++ [.ref ay],_,rfl,b7.trans fK.u2,⟨s7.on hfl0,by rw[aH ncf];exact hc7,(A6.o.mapT tup68).put ⟨ax,rfl,tup68 _ _ hx6⟩,?_,aK,(A6.z.mapT tup68).snoc ⟨ay,rfl,tup68 _ _ hay⟩⟩,M8,fun y' hy'=> ?_⟩
       ·have h1:=b1b cvs' (kS yz) (.ref ax)
        have h2:=a3T (cm:=cm') (cm':=gO cm' yz xz) (y:=yz) (fun x h=>by unfold gO;split<;>simp_all) c1 (by unfold gO;rw[if_pos rfl];rfl) (hnodes xz yz hya)
        omega
       ·rw[tk]at hy'
        rcases List.mem_append.mp hy' with h|h
        ·obtain⟨d1,d2⟩:=D6 y' h
         exact⟨d1,by unfold gO;split<;>simp_all⟩
        ·rw[List.mem_singleton.mp h]
         exact⟨g1,by unfold gO;rw[if_pos rfl];rfl⟩
      ·rw[c2]
       refine bJ ?_
       refine⟨cm',fz,cvs',fvs,_,rfl,b6,A6,M6,fun y' hy'=> ?_⟩
       rw[tk]at hy'
       rcases List.mem_append.mp hy' with h|h
       ·exact D6 y' h
       ·rw[List.mem_singleton.mp h]
        exact⟨g1,by rw[c1];rfl⟩
    ·rintro σ H6 ⟨cm',fz,cvs',fvs,o6,rfl,b6,A6,M6,D6⟩
     refine⟨cm',fz,cvs',fvs,_,_,rfl,b5.trans b6,A6,M6.next hxz fun y hy=>D6 y ?_⟩
     rw[hSa.length,List.take_length]
     exact hy
   ·rintro σ H4 ⟨cm',fz,cvs',fvs,o5,o6,rfl,b4,A4,M4⟩
    rw[hwz3.length]at M4
    have B':=M4.over B hwz
    have hMl:=M4.l
    refine⟨_,rfl,_,?_,r+ 1,cm',fz,cvs',fl,fvs,_,_,_,rfl,rfl,A4,hfl0,B'⟩
    rw[hm,if_neg hwz]
    by_cases e:fz= []
    ·rw[if_pos e]
     omega
    ·rw[if_neg e]
     have:0<fz.length:=List.length_pos_iff.mpr e
     omega
  ·have hwz:wz= []:=by
    have:=A2.z.length
    cases wvs with
    |nil=>exact List.length_eq_zero_iff.mp this.symm
    |cons=>exact absurd rfl g
   subst hwz
   exact(q H2 A2.s).1 B.over
def b1j(K:Fg):Sp:=fun vs H Q _=>∃(p C dx:Addr) (fs:List (Str×V)) (v:V),vs= [.ref p,v] /\H p=some (.ins C dx fs)/\bX K C/\cE K C "function" /\fs.length<1000/\Q .non (upd H p (.ins C dx (aQ "function" v fs)))
theorem b8B:aY ["self","function"] ["self","function"] (aF wZ):=⟨rfl,rfl,rfl,by decide+kernel,rfl,by decide+kernel,by decide+kernel⟩
theorem sU(T:aZ K mg){C:Addr}(Y:a0I K mg C):aN P w K mg base aB 1 C "__init__" ["self","function"] (b1j K):=by
 refine Y.m_init.known b8B (fun _ _ _ _ _ _ us hl=>dJ (fun _ _=>rfl) us hl) (fun vs H Q E h=> ?_) (fun f cdv A outer s H vs Q E hr h=> ?_)
 ·obtain⟨p,C',dx,fs,v,rfl,_⟩:=h
  rfl
 ·obtain⟨p,C',dx,fs,v,rfl,hp,hC,hN,hl,q⟩:=h
  refine⟨_,(aI (cM (pv 0) (pv 1) rfl)),?_⟩
  exact⟨_,rfl,_,rfl,p,C',dx,fs,rfl,hp,hC,hN,hl,q⟩
def gX(nl fa:Addr):List (Str×V):=[("function",V.ref fa),("names",V.ref nl)]
theorem qK(nl fa:Addr):(gX nl fa).lookup ("function":Str)=some (.ref fa)/\(gX nl fa).lookup ("names":Str)=some (.ref nl)/\(gX nl fa).lookup ("leans":Str)=none/\(gX nl fa).lookup ("gather":Str)=none/\(gX nl fa).lookup ("reckon":Str)=none:=⟨rfl,rfl,rfl,rfl,rfl⟩
def b3X(K:Fg)(C:Addr):Sp:=fun vs H Q _=>∃(p dx a fa:Addr) (zs:List Str),vs= [.ref p,.ref a,.ref fa] /\H p=some (.ins C dx [])/\aL K H a (zs.map V.str)/\a≠p/\zs.length<=6/\(∀z∈zs,Nl z)/\∀H' nl,bG p H H'->H nl=none->H' p=some (.ins C dx (gX nl fa))->H' nl=some (.lst (zs.map V.str))->Q .non H'
theorem b4K:aY ["self","names","function"] ["self","names","function"] (aF uO):=⟨rfl,rfl,rfl,by decide+kernel,rfl,by decide+kernel,by decide+kernel⟩
theorem wS(T:aZ K mg){R C:Addr}(Z:a0I K mg R)(Y:kY K mg C):dI P w K mg base aB 4 C ["self","names","function"] (b3X K C):=by
 have G_init:aN P w K mg base aB 1 R "__init__" ["self","function"] (b1j K):=sU T Z
 have G_names:bK P w K mg base aB 3 "checked_names" ["names"] (b29 K):=vS T
 refine(Y.m_init.known b4K (fun _ _ _ _ _ _ us hl=>dP (fun _ _ _=>rfl) us hl) (fun vs H Q E h=> ?_) (fun f cdv A outer s H vs Q E hr h=> ?_)).init Y.mks Y.kc
 ·obtain⟨p,dx,a,fa,zs,rfl,_⟩:=h
  rfl
 ·obtain⟨p,dx,a,fa,zs,rfl,hp,hS,nap,z6,hz,q⟩:=h
  refine⟨_,(aJ (bZ (b4i (b2K Z.c) Z.v_init G_init (hr.mono (by decide)) aM (aA (pv 0) (aA (pv 2) aE))))
   (aI (cM (pv 0) (bR G_names hr aM (aA (pv 1) aE)) rfl))),?_⟩
  refine⟨_,rfl,_,rfl,p,C,dx,[],.ref fa,rfl,hp,Y.cl,Y.n_function,by decide,?_⟩
  have b1:bG p H (upd H p (.ins C dx (aQ "function" (.ref fa) []))):=bG.upd
  have p1:upd H p (.ins C dx (aQ "function" (.ref fa) [])) p=some (.ins C dx (aQ "function" (.ref fa) [])):=aK
  have n1:∀{b:Addr},upd H p (.ins C dx (aQ "function" (.ref fa) [])) b=none->H b=none/\b≠p:=kC
  generalize upd H p (.ins C dx (aQ "function" (.ref fa) []))=H1 at b1 p1 n1|-
  have hS1:aL K H1 a (zs.map V.str):=by
   rcases hS with(h|⟨o,h⟩)|h
   ·exact .inl (.inl (b1 _ _ nap h))
   ·exact .inl (.inr ⟨o,b1 _ _ nap h⟩)
   ·exact .inr h
  refine⟨_,rfl,a,zs,rfl,hS1,z6,hz,fun H2 nl s2 hnl h2=> ?_⟩
  obtain⟨hn0,nnp⟩:=n1 hnl
  refine⟨_,rfl,p,C,dx,_,rfl,s2 _ _ p1,Y.cl,Y.n_names,(by show 1<1000;decide),?_⟩
  exact q _ nl ((b1.trans (bG.of s2)).trans bG.upd) hn0 aK (by rw[aH nnp];exact h2)
def b36:Sp:=fun vs H Q _=>∃(a:Addr) (xs:List V) (zs:List aD),vs= [.ref a] /\H a=some (.lst xs)/\cB H xs zs/\(∀z∈zs,N2 z)/\zs.length<=100/\
 ∀H' l ys,aG H H'->H l=none->H' l=some (.lst ys)->cB H' ys (dH zs)->Q (.ref l) H'
theorem c0h(T:aZ K mg):bK P w K mg base aB 2 "each_once" ["spots"] b36:=by
 refine T.d_each_once.known rD (fun _ _ _ _ _ _ us hl=>dM (fun _=>rfl) us hl) (fun vs H Q E h=> ?_) (fun f cdv A outer s H vs Q E hr h=> ?_)
 ·obtain⟨a,xs,ps,rfl,_⟩:=h
  rfl
 ·obtain⟨a,xs,ps,rfl,ha,hsp,hN,h100,q⟩:=h
  refine⟨_,(aJ (bV (i:=1) rD.nd rfl (Or.inl rfl) (gH aE))
   (aJ (gW PassesOwn.never rfl (fL (pv 0)) (dL (i:=2) rD.nd rfl (Or.inl rfl)) (aI (bN (cJ (b25 hr.units) (pv 2) (pv 1) (by with_unfolding_all rfl)) (aI (bZ (iJ PySem.F.plainAttrs_list PySem.F.slot_list_append PySem.F.type_list_append gT (pv 1) (aA (pv 2) aE)))) bO)))
   (aI (bE (pv 1))))),?_⟩
  have hq:aL K H a xs:=aL.of ha
  have hlx:xs.length=ps.length:=hsp.length
  refine⟨sl,fun l hl=> ?_⟩
  refine⟨_,rfl,a,rfl,⟨_,(aG.new hl).seq hq⟩,?_⟩
  refine kM (K:=K) (a:=a) (xs:=xs) (fun i σ H2=>∃o ys,σ= [some (.ref a),some (.ref l),o] /\aG H H2/\H2 l=some (.lst ys)/\cB H ys (dH (ps.take i))) ⟨_,[],rfl,aG.new hl,aK,.nil⟩ (fun i σ H2 _ ⟨_,_,_,s2,_⟩=>s2.seq hq) ?_ ?_
  ·rintro i x σ H2 hx ⟨o,ys,rfl,s2,h2,hd⟩
   obtain⟨p,e,hp2⟩:=hsp.at hx
   have hp:=List.mem_of_getElem? e
   have hle:=hd.length
   have hyl:ys.length<=100:=by
    have h3:=b0E (ps.take i)
    rw[List.length_take]at h3
    omega
   have lay2:(PyData.list ((dH (ps.take i)).map fO)).canLay0=true:=a9Z fun p' hp'=>hN p' (List.mem_of_mem_take (zW hp'))
   have et:dH (ps.take (i+ 1))=if p∈dH (ps.take i) then dH (ps.take i) else dH (ps.take i)++ [p]:=by
    rw[List.take_add_one,e]
    exact b1g _ _
   refine⟨_,rfl,_,rfl,fO p,_,(fN.dt hp2).same s2,Dt.lst (aL.of h2) (cS.same s2 (cB.dt hd)),a0j (hN p hp).1 (hN p hp).2,lay2,(show max 0 (max 0 0)+ 1<=62 by decide),_,rfl,?_⟩
   rw[a6Q]
   by_cases hm:p∈dH (ps.take i)
   ·rw[decide_eq_true hm]
    rw[if_pos hm]at et
    exact bJ ⟨_,ys,rfl,s2,h2,by rw[et];exact hd⟩
   ·rw[decide_eq_false hm]
    rw[if_neg hm]at et
    refine cG ?_
    refine⟨_,rfl,.inl ⟨rfl,_,aL.of h2⟩,_,rfl,l,_,_,rfl,rfl,h2,cQ (by omega),?_⟩
    have s3:aG H (upd H2 l (.lst (ys++ [x]))):=s2.on hl
    refine⟨_,ys++ [x],rfl,s3,aK,?_⟩
    rw[et]
    exact hd.snoc hp2
  ·rintro σ H2 ⟨o,ys,rfl,s2,h2,hd⟩
   refine⟨_,rfl,q H2 l ys s2 hl h2 ?_⟩
   rw[hlx,List.take_length]at hd
   exact hd.same s2
def a2y(C:Addr):Sp:=fun vs H Q _=>∃(p dx nl fa:Addr) (t:Str) (zs:List Str),vs= [.ref p,.str t] /\H p=some (.ins C dx (gX nl fa))/\H nl=some (.lst (zs.map V.str))/\zs.length<=6/\(∀z∈zs,Nl z)/\Nl t/\
 ∀H' l ys,aG H H'->H l=none->H' l=some (.lst ys)->cB H' ys (dH (zs.map fun z=>(t,z)))->Q (.ref l) H'
theorem c0a:aY ["self","table"] ["self","table"] (aF mS):=⟨rfl,rfl,rfl,by decide+kernel,rfl,by decide+kernel,by decide+kernel⟩
theorem tG(T:aZ K mg){C:Addr}(Y:kY K mg C):aN P w K mg base aB 3 C "leans" ["self","table"] (a2y C):=by
 have G_each_once:bK P w K mg base aB 2 "each_once" ["spots"] b36:=c0h T
 refine Y.m_leans.known c0a (fun _ _ _ _ _ _ us hl=>dJ (fun _ _=>rfl) us hl) (fun vs H Q E h=> ?_) (fun f cdv A outer s H vs Q E hr h=> ?_)
 ·obtain⟨p,dx,nl,fa,t,zs,rfl,_⟩:=h
  rfl
 ·obtain⟨p,dx,nl,fa,t,zs,rfl,h1,h4,h6,h5,ht,q⟩:=h
  have hcl:∀x,(dX aB P w K mg base ["self","table"] "Cells.leans" (aF mS) f cdv A outer s H E).nox.env.scope.names.lookup x=some .cell->∃c,(dX aB P w K mg base ["self","table"] "Cells.leans" (aF mS) f cdv A outer s H E).nox.env.cells.lookup x=some c:=fun x hx=>Option.isSome_iff_exists.mp (PySem.W.cellsFrom_some _ _ _ (.inl hx))
  refine⟨_,(aI (bE (bR G_each_once (hr.mono (by decide)) aM (aA (lC (lP (sc:=aF mS) (N:=["self","table"]) (cp:=[(1,"table")]) hcl) rfl rfl (by decide) (fL (aX (pv 0) rfl)) (fun _ _ _ _ _=>kK) (fun _ _ _ _ _=>(fU (aA (pv 1) (aA (pv 0) aE))))) aE)))),?_⟩
  refine⟨_,rfl,p,C,dx,_,_,rfl,h1,Y.cl,Y.n_names,(qK nl fa).2.1,nl,rfl,⟨_,aL.of h4⟩,fun D hD=> ?_⟩
  refine qJ (K:=K) (a:=nl) (xs:=zs.map V.str) (fun i ys H2=>aG H H2/\cB H2 ys ((zs.take i).map fun z=>(t,z))) ⟨aG.new hD,.nil⟩ (by rintro i ys H2 _ ⟨s2,_⟩;exact aL.of (s2 _ _ h4)) ?_ ?_
  ·rintro i x ys H2 hx h2D ⟨s2,hd⟩
   rw[List.getElem?_map]at hx
   cases e:zs[i]? with
   |none=>rw[e]at hx;cases hx
   |some z=>
    rw[e]at hx
    cases hx
    have hi:i<zs.length:=(List.getElem?_eq_some_iff.mp e).1
    have hyl:ys.length<=6:=by
     have:=hd.length
     rw[List.length_map,List.length_take]at this
     omega
    refine⟨_,rfl,_,rfl,sl,fun tp htp=> ?_⟩
    have s3:aG H2 (upd H2 tp (.tup [.str t,.str z])):=aG.new htp
    have t3:upd H2 tp (.tup [.str t,.str z]) tp=some (.tup [.str t,.str z]):=aK
    generalize upd H2 tp (.tup [.str t,.str z])=H3 at s3 t3|-
    have h3D:=s3 _ _ h2D
    refine⟨h3D,cQ (by omega),(s2.trans s3).on hD,?_⟩
    have kt:∀a xs,H3 a=some (.tup xs)->upd H3 D (.lst (ys++ [.ref tp])) a=some (.tup xs):=fun a xs e=>by
     rw[aH (fun y=>by rw[y,h3D]at e;cases e)]
     exact e
    have et:((zs.take (i+ 1)).map fun z=>(t,z))=((zs.take i).map fun z=>(t,z))++ [(t,z)]:=by
     rw[List.take_add_one,e,List.map_append]
     rfl
    rw[et]
    exact((hd.same s3).mapT kt).snoc ⟨tp,rfl,kt _ _ t3⟩
  ·rintro ys H2 h2D ⟨s2,hd⟩
   rw[List.length_map,List.take_length]at hd
   refine⟨D,ys,_,rfl,h2D,hd,fun z hz=> ?_,by rw[List.length_map];omega,fun H4 l' ys' s4 hl' h4' hs=> ?_⟩
   ·obtain⟨y,hy,rfl⟩:=List.mem_map.mp hz
    exact⟨ht,h5 y hy⟩
   ·exact q H4 l' ys' (s2.trans s4) (fT s2 hl') h4' hs
def yW(K:Fg)(gv:Str->Str->Option (List V))(nm:Str)(p:Nat)(H:Hp)(z:Str)(d:PyData):Prop:=∃ys v,gv nm z=some ys/\p<ys.length/\bY ys (p:Int)=some v/\Pv K H v d
theorem yW.keep{gv:Str->Str->Option (List V)}{nm:Str}{p:Nat}{H H':Hp}{z:Str}{d:PyData}(k:bS H H')(h:yW K gv nm p H z d):yW K gv nm p H' z d:=by
 obtain⟨ys,v,a,b,c,e⟩:=h
 exact⟨ys,v,a,b,c,e.keep k⟩
theorem Paired.imp{α β:Type}{R R':α->β->Prop}(h:∀a b,R a b->R' a b):∀{xs:List α} {ys:List β},Paired R xs ys->Paired R' xs ys
 |_,_,.nil=> .nil
 |_,_,.cons a t=> .cons (h _ _ a) (Paired.imp h t)
theorem Paired.snoc{α β:Type}{R:α->β->Prop}{x:α}{y:β}(h:R x y):∀{xs:List α} {ys:List β},Paired R xs ys->Paired R (xs++ [x]) (ys++ [y])
 |_,_,.nil=> .cons h .nil
 |_,_,.cons a t=> .cons a (Paired.snoc h t)
def qX(P:Program)(w:World)(K:Fg)(mg:Str->Option Value)(base:Heap)(C:Addr):Sp:=fun vs H Q _=>∃(gr look many nl fa x y dx:Addr) (nm c:Str) (p:Nat) (zs:List Str) (J:Hp->Prop) (W:List Addr) (gv:Str->Str->Option (List V)) (ds:List PyData),vs= [.ref gr,.ref look,.ref many,.str nm,.str c,.int (p:Int)] /\H gr=some (.ins C dx (gX nl fa))/\H nl=some (.lst (zs.map V.str))/\zs.length<=6/\dZ P w K mg base 6 look (yL J x y gv)/\J H/\iP J W x y/\Paired (yW K gv nm p H) zs ds/\
 ∀H' fv,fA x y H H'->J H'->pS K gv H H' fv (gR ds [])->Q fv H'
abbrev sH:List Str:=["self","look","many","table","column","place"]
theorem b6D:aY sH sH (aF mR):=⟨rfl,rfl,rfl,by decide+kernel,rfl,by decide+kernel,by decide+kernel⟩
theorem b7O{gv:Str->Str->Option (List V)}{H H0 H':Hp}{fv:V}(s:aG H H0):∀{t:PyData ⊕ List Int},pS K gv H0 H' fv t->pS K gv H H' fv t
 | .inl d,h=>h
 | .inr is,⟨ta,l,a,b,c,d⟩=>⟨ta,l,a,b,c,fT s d⟩
theorem qY(T:aZ K mg){C:Addr}(Y:kY K mg C):aN P w K mg base aB 8 C "gather" ["self","look","many","table","column","place"] (qX P w K mg base C):=by
 have G_turn:bK P w K mg base aB 7 "look_in_turn" ["look","cells"] (b2S P w K mg base 6):=tO T (by decide)
 refine Y.m_gather.known b6D (fun _ _ _ _ _ _ us hl=>bi6 (fun _ _ _ _ _ _=>rfl) us hl) (fun vs H Q E h=> ?_) (fun f cdv A outer s H vs Q E hr h=> ?_)
 ·obtain⟨gr,look,many,nl,fa,x,y,dx,nm,c,p,zs,J,W,gv,ds,rfl,_⟩:=h
  rfl
 ·obtain⟨gr,look,many,nl,fa,x,y,dx,nm,c,p,zs,J,W,gv,ds,rfl,h1,h4,z6,F1,hJ,S,hr0,q⟩:=h
  have hcl:∀x,(dX aB P w K mg base sH "Cells.gather" (aF mR) f cdv A outer s H E).nox.env.scope.names.lookup x=some .cell->∃c,(dX aB P w K mg base sH "Cells.gather" (aF mR) f cdv A outer s H E).nox.env.cells.lookup x=some c:=fun x hx=>Option.isSome_iff_exists.mp (PySem.W.cellsFrom_some _ _ _ (.inl hx))
  refine⟨_,(aI (bE (bR G_turn hr aM (aA (pv 1) (aA (lC (lP (sc:=aF mR) (N:=sH) (cp:=[(3,"table"),(5,"place")]) hcl) rfl rfl (by decide) (fL (aX (pv 0) rfl)) (fun _ _ _ _ _=>kK) (fun _ _ _ _ _=>(fU (aA (pv 1) (aA (pv 0) (aA (pv 2) aE)))))) aE))))),?_⟩
  refine⟨_,rfl,_,rfl,gr,C,dx,_,_,rfl,h1,Y.cl,Y.n_names,(qK nl fa).2.1,nl,rfl,⟨_,aL.of h4⟩,fun D hD=> ?_⟩
  have lzd:zs.length=ds.length:=Paired.length hr0
  refine qJ (K:=K) (a:=nl) (xs:=zs.map V.str) (fun i ys H2=>aG H H2/\Paired (sG K gv H2) ys (ds.take i)) ⟨aG.new hD,.nil⟩ (by rintro i ys H2 _ ⟨s2,_⟩;exact aL.of (s2 _ _ h4)) ?_ ?_
  ·rintro i xv ys H2 hx h2D ⟨s2,hd⟩
   rw[List.getElem?_map]at hx
   cases e:zs[i]? with
   |none=>rw[e]at hx;cases hx
   |some z=>
    rw[e]at hx
    cases hx
    have hi:i<zs.length:=(List.getElem?_eq_some_iff.mp e).1
    obtain⟨d,hdi,hrow⟩:=a8o hr0 e
    have hyl:ys.length<=6:=by
     have:=Paired.length hd
     rw[List.length_take]at this
     omega
    refine⟨_,rfl,_,rfl,_,rfl,sl,fun tp htp=> ?_⟩
    have s3:aG H2 (upd H2 tp (.tup [.str nm,.str z,.int (p:Int)])):=aG.new htp
    have t3:upd H2 tp (.tup [.str nm,.str z,.int (p:Int)]) tp=some (.tup [.str nm,.str z,.int (p:Int)]):=aK
    generalize upd H2 tp (.tup [.str nm,.str z,.int (p:Int)])=H3 at s3 t3|-
    have h3D:=s3 _ _ h2D
    refine⟨h3D,cQ (by omega),(s2.trans s3).on hD,?_⟩
    have kt:bS H3 (upd H3 D (.lst (ys++ [.ref tp]))):=fun a xs e=>by
     rw[aH (fun y=>by rw[y,h3D]at e;cases e)]
     exact e
    have kt2:bS H2 (upd H3 D (.lst (ys++ [.ref tp]))):=fun a xs e=>kt _ _ (s3 _ _ e)
    rw[List.take_add_one,hdi]
    obtain⟨ys',v,g1,g2,g3,g4⟩:=hrow.keep (fun a xs e=>kt2 _ _ (s2 _ _ e))
    exact Paired.snoc ⟨tp,nm,z,p,ys',v,rfl,kt _ _ t3,g1,g2,g3,g4⟩ (Paired.imp (fun a b h=>h.keep kt2) hd)
  ·rintro ys H2 h2D ⟨s2,hd⟩
   rw[List.length_map,lzd,List.take_length]at hd
   exact⟨look,D,x,y,J,W,gv,ys,ds,rfl,F1,S.same s2 hJ,S,h2D,hd,by omega,fun H' fv f' J' t=>q H' fv (fun b o n1 n2 e=>f' _ _ n1 n2 (s2 _ _ e)) J' (b7O s2 t)⟩
theorem b81{C:Addr}{gr nl fa dx:Addr}{tabs:List (Str×BM)}{gv:Str->Str->Option (List V)}{fd tl:Addr}{nm c:Str}{p:Nat}{zs:List Str}{ds:List PyData}{H:Hp}(h1:H gr=some (.ins C dx (gX nl fa)))(h2:H nl=some (.lst (zs.map V.str)))(z6:zs.length<=6)(hd:Paired (yW K gv nm p H) zs ds):zC P w K mg base (qX P w K mg base C) gr tabs gv fd tl nm c p (gR ds []) H:=
 fun look many J W HB Q' kx hJ S L1 L2 q=>⟨gr,look,many,nl,fa,fd,tl,dx,nm,c,p,zs,J,W,gv,ds,rfl,kx _ _ (fun _ y=>by cases y) h1,kx _ _ (fun _ y=>by cases y) h2,z6,L1,hJ,S,Paired.imp (fun a b h=>h.keep fun x xs e=>kx _ _ (fun _ y=>by cases y) e) hd,q⟩
def b3C(CS CB CT:Addr):Sp:=fun vs H Q _=>∃(s bd ch fi dx l:Addr) (sv:V) (kb:List (aC×V)) (ys:List V) (zs:List aD),vs= [.ref s,sv,.ref l] /\H s=some (.ins CS dx (eB bd ch fi))/\H bd=some (.dK kb)/\H l=some (.lst ys)/\cB H ys zs/\(∀z∈zs,N2 z/\∃B:BM,aO kb (.inr z.1:aC)=some (.ref B.b)/\cW CB CT H B/\z.2∈B.ord)/\∀H',aG H H'->Q .non H'
theorem a0u:aY ["self","spot","leans","table","column","there"] ["self","spot","leans"] (aF xJ):=⟨rfl,rfl,rfl,by decide+kernel,rfl,by decide+kernel,by decide+kernel⟩
theorem sE(T:aZ K mg){CS CB CT:Addr}(Y:eZ K mg CS)(W:cU K mg CB):aN P w K mg base aB 3 CS "check_leans" ["self","spot","leans"] (b3C CS CB CT):=by
 have G_has:aN P w K mg base aB 2 CB "has_column" ["self","column"] (a8F CB CT):=pR T W
 refine Y.m_check_leans.known a0u (fun _ _ _ _ _ _ us hl=>dP (fun _ _ _=>rfl) us hl) (fun vs H Q E h=> ?_) (fun f cdv A outer s H vs Q E hr h=> ?_)
 ·obtain⟨s',bd,ch,fi,dx,l,sv,kb,ys,zs,rfl,_⟩:=h
  rfl
 ·obtain⟨s',bd,ch,fi,dx,l,sv,kb,ys,zs,rfl,h1,h2,h3,hz,hb,q⟩:=h
  have hu:=eC hr
  refine⟨_,(aI (gW PassesOwn.never rfl (fL (pv 2)) (oO rfl (hZ (dL (i:=3) a0u.nd rfl (Or.inl rfl)) (hZ (dL (i:=4) a0u.nd rfl (Or.inl rfl)) nT)))
   (aJ (bV (i:=5) a0u.nd rfl (Or.inl rfl) (kE (b0D (qI hu (pv 3) (aX (pv 0) rfl))) (mC (bW (fV hu (aX (pv 0) rfl) (pv 3) (fun _ _=>rfl)) W.cl G_has hr aM (aA (pv 4) aE)))))
   (aI (bN (PW.pt (oY (dC (cH (pv 5) (fun _=>rfl))) (oR (cJ (oS hr.units) (fU (aA (pv 3) (aA (pv 4) aE))) (pv 1) (cO _))))) (aI cF) bO))))),?_⟩
  refine⟨_,rfl,l,rfl,⟨_,aL.of h3⟩,?_⟩
  refine kM (K:=K) (a:=l) (xs:=ys) (fun i σ H2=>∃o3 o4 o5,σ= [some (.ref s'),some sv,some (.ref l),o3,o4,o5] /\aG H H2) ⟨_,_,_,rfl,aG.refl _⟩ (by rintro i σ H2 _ ⟨_,_,_,_,s2⟩;exact aL.of (s2 _ _ h3)) ?_ ?_
  ·rintro i x σ H2 hx ⟨o3,o4,o5,rfl,s2⟩
   obtain⟨z,e,hz2⟩:=hz.at hx
   obtain⟨a,rfl,ha⟩:=hz2.same s2
   obtain⟨nz,B,b1,b2,b3⟩:=hb z (List.mem_of_getElem? e)
   have hB2:=b2.same s2
   obtain⟨dB,hB⟩:=hB2.at_
   refine⟨a,_,rfl,bU.of ha,rfl,_,_,rfl,_,_,rfl,rfl,?_⟩
   refine⟨_,rfl,_,rfl,s',CS,dx,_,_,rfl,s2 _ _ h1,Y.cl,Y.n_boards,(kN _ _ _).1,bd,_,rfl,cC.k (k:=Sum.inr z.1) (s2 _ _ h2),?_⟩
   rw[b1]
   refine⟨_,rfl,cG ?_⟩
   refine⟨_,rfl,s',CS,dx,_,_,rfl,s2 _ _ h1,Y.cl,Y.n_boards,(kN _ _ _).1,_,rfl,bd,_,rfl,b1▸cC.k (k:=Sum.inr z.1) (s2 _ _ h2),B.b,dB,_,rfl,hB,pF,_,rfl,B,z.2,rfl,hB2,nz.2,fun H3 s3=> ?_⟩
   rw[decide_eq_true b3]
   exact⟨_,rfl,_,rfl,bJ ⟨_,_,_,rfl,s2.trans s3⟩⟩
  ·rintro σ H2 ⟨o3,o4,o5,rfl,s2⟩
   exact q H2 s2
theorem b0w{κ:Type} [DecidableEq κ]:∀{kvs:List (κ×V)} {kv:κ×V},(kvs.map (·.1)).Nodup->kv∈kvs->aO kvs kv.1=some kv.2
 | [],_,_,h=>by cases h
 |x::xs,kv,nd,h=>by
  rw[List.map_cons,List.nodup_cons]at nd
  unfold aO
  rcases List.mem_cons.mp h with rfl|h
  ·simp[List.find?]
  ·have ne:¬x.1=kv.1:=fun y=>nd.1 (y▸List.mem_map.mpr ⟨kv,h,rfl⟩)
   have ih:=b0w nd.2 h
   unfold aO at ih
   rw[List.find?_cons_of_neg (by simpa using ne)]
   exact ih
def jB(H H':Hp):Prop:=∀b o,((∃C dx fs,o= .ins C dx fs)\/ ∃xs,o= .lst xs)->H b=some o->H' b=some o
theorem jB.of{H H':Hp}(s:aG H H'):jB H H':=fun b o _ e=>s _ _ e
theorem jB.trans{H H1 H2:Hp}(a:jB H H1)(b:jB H1 H2):jB H H2:=fun x o h e=>b _ _ h (a _ _ h e)
def rC(spl:Sp)(gr:Addr)(nm:Str)(ys:List aD)(H:Hp):Prop:=∀(Hb:Hp) (Q':VK),jB H Hb->(∀H' l vs,aG Hb H'->Hb l=none->H' l=some (.lst vs)->cB H' vs ys->Q' (.ref l) H')->spl [.ref gr,.str nm] Hb Q' E0
theorem b9i{C gr nl fa dx:Addr}{nm:Str}{zs:List Str}{H:Hp}(h1:H gr=some (.ins C dx (gX nl fa)))(h2:H nl=some (.lst (zs.map V.str)))(z6:zs.length<=6)(hz:∀z∈zs,Nl z)(ht:Nl nm):rC (a2y C) gr nm (dH (zs.map fun z=>(nm,z))) H:=
 fun Hb Q' k q=>⟨gr,dx,nl,fa,nm,zs,rfl,k _ _ (.inl ⟨_,_,_,rfl⟩) h1,k _ _ (.inr ⟨_,rfl⟩) h2,z6,hz,ht,q⟩
def wX(CB CT CG bd:Addr)(spl:Sp)(gl:List aD)(H:Hp)(kv:aC×V):Prop:=∃(nm:Str) (B:BM),kv=((.inr nm:aC),V.ref B.b)/\Nl nm/\cW CB CT H B/\bd≠B.ru/\(B.rus.map (·.1)).Nodup/\B.rus.length<=8/\∀rv∈B.rus,∃(c:Str) (gr dx:Addr) (fs:List (Str×V)) (ys:List aD),rv=((.inr c:aC),V.ref gr)/\Nl c/\H gr=some (.ins CG dx fs)/\fs.lookup ("leans":Str)=none/\rC spl gr nm ys H/\(∀y∈ys,N2 y/\y∈gl)/\ys.length<=100
def b4a(CS CB CT CG:Addr)(spl:Sp):Sp:=fun vs H Q _=>∃(s bd ch fi dx l:Addr) (sv:V) (kb:List (aC×V)) (ys:List V) (sp:aD) (zs gl:List aD),vs= [.ref s,sv,.ref l] /\H s=some (.ins CS dx (eB bd ch fi))/\H bd=some (.dK kb)/\(kb.map (·.1)).Nodup/\kb.length<=4/\H l=some (.lst ys)/\cB H ys zs/\(∀z∈zs,N2 z/\z∈gl)/\zs.length<=100/\fN H sv sp/\N2 sp/\sp∉gl/\gl.length<=100/\(∀kv∈kb,wX CB CT CG bd spl gl H kv)/\∀H',aG H H'->Q .non H'
abbrev Ncr:List Str:=["self","spot","leans","leanings","table","rules","column","found"]
theorem rB:aY Ncr ["self","spot","leans"] (aF uH):=⟨rfl,rfl,rfl,by decide+kernel,rfl,by decide+kernel,by decide+kernel⟩
def iZ(gl:List aD)(n:Nat)(gd:Addr)(H:Hp):Prop:=∃kvs adj,qA H gd kvs adj/\(∀z,∀y∈adj z,y∈gl)/\kvs.length<=n
theorem iZ.put{gl:List aD}{n:Nat}{gd l:Addr}{H H':Hp}{z:aD}{ys:List aD}{vs:List V}{kvs:List (List aC×V)}{adj:aD->List aD}(g:qA H gd kvs adj)(ha:∀z,∀y∈adj z,y∈gl)(hn:kvs.length<=n)(u:bG gd H H')(e:H' gd=some (.dT (aT kvs (kS z) (.ref l))))(hl:H l=some (.lst vs))(hs:cB H vs ys)(hy:∀y∈ys,N2 y/\y∈gl)(h100:ys.length<=100):iZ gl (n+ 1) gd H':=by
 have k:∀{x:Addr} {o:HO},H x=some o->(∀y,o≠ .dT y)->H' x=some o:=fun e2 n=>u _ _ (fun y=>by rw[y,g.d]at e2;exact n _ (Option.some.inj e2).symm) e2
 have kt:∀a xs,H a=some (.tup xs)->H' a=some (.tup xs):=fun a xs e2=>k e2 (fun _ y=>by cases y)
 refine⟨aT kvs (kS z) (.ref l),fun x=>if x=z then ys else adj x,⟨e,fun x=> ?_,fun x y hm=> ?_,fun x=> ?_⟩,fun x y hm=> ?_,Nat.le_trans (b1b _ _ _) (by omega)⟩
 ·rw[iE]
  by_cases h:x=z
  ·rw[if_pos (by rw[h])]
   exact .inr ⟨l,vs,rfl,k hl (fun _ y=>by cases y),by show cB H' vs (if x=z then ys else adj x);rw[if_pos h];exact hs.mapT kt⟩
  ·rw[if_neg (fun y=>h (b2Q y))]
   rcases g.a x with⟨a1,a2⟩|⟨l',vs',a1,a2,a3⟩
   ·exact .inl ⟨a1,by show(if x=z then ys else adj x)= [];rw[if_neg h];exact a2⟩
   ·exact .inr ⟨l',vs',a1,k a2 (fun _ y=>by cases y),by show cB H' vs' (if x=z then ys else adj x);rw[if_neg h];exact a3.mapT kt⟩
 ·have hm:y∈(if x=z then ys else adj x):=hm
  split at hm
  ·exact(hy y hm).1
  ·exact g.n x y hm
 ·show(if x=z then ys else adj x).length<=100
  split
  ·exact h100
  ·exact g.l x
 ·have hm:y∈(if x=z then ys else adj x):=hm
  split at hm
  ·exact(hy y hm).2
  ·exact ha x y hm
theorem iZ.mv{gl:List aD}{n:Nat}{gd:Addr}{H H':Hp}(u:∀b o,(∀y,o≠ .dK y)->(∀q y,o≠ .frz q y)->H b=some o->H' b=some o)(h:iZ gl n gd H):iZ gl n gd H':=by
 obtain⟨kvs,adj,g,h1,h2⟩:=h
 exact⟨kvs,adj,⟨u _ _ (fun _ y=>by cases y) (fun _ _ y=>by cases y) g.d,fun z=>(g.a z).imp id fun⟨l,vs,e1,e2,e3⟩=>⟨l,vs,e1,u _ _ (fun _ y=>by cases y) (fun _ _ y=>by cases y) e2,e3.mapT fun a xs e=>u _ _ (fun _ y=>by cases y) (fun _ _ y=>by cases y) e⟩,g.n,g.l⟩,h1,h2⟩
theorem b7S(T:aZ K mg){CS CB CT CG:Addr}(Y:eZ K mg CS)(W:cU K mg CB)(clG:bX K CG){spl:Sp}(G_le:aN P w K mg base aB 3 CG "leans" ["self","table"] spl):aN P w K mg base aB 4 CS "check_ring" ["self","spot","leans"] (b4a CS CB CT CG spl):=by
 have G_ring:bK P w K mg base aB 2 "ring_from" ["leanings","spot"] (b32 K):=wG T
 refine Y.m_check_ring.known rB (fun _ _ _ _ _ _ us hl=>dP (fun _ _ _=>rfl) us hl) (fun vs H Q E h=> ?_) (fun f cdv A outer s H vs Q E hr h=> ?_)
 ·obtain⟨s',bd,ch,fi,dx,l,sv,kb,ys,sp,zs,gl,rfl,_⟩:=h
  rfl
 ·obtain⟨s',bd,ch,fi,dx,l,sv,kb,ys,sp,zs,gl,rfl,h1,h2,nd,k4,h3,hz,hN,z100,hsv,nsp,hns,g100,hb,q⟩:=h
  have hu:=eC hr
  refine⟨_,(aJ (bV (i:=3) rB.nd rfl (Or.inl rfl) uD)
   (aJ (b3u PassesOwn.never rfl (aX (pv 0) rfl) (dL (i:=4) rB.nd rfl (Or.inl rfl)) (aJ (bV (i:=5) rB.nd rfl (Or.inl rfl) (aX (fV hu (aX (pv 0) rfl) (pv 4) (fun _ _=>rfl)) rfl))
   (aI (b3u PassesOwn.never rfl (pv 5) (dL (i:=6) rB.nd rfl (Or.inl rfl)) (aI (jI hu (pv 3) (fU (aA (pv 4) (aA (pv 6) aE))) (bW (fV hu (pv 5) (pv 6) (fun _ _=>rfl)) clG G_le hr aM (aA (pv 4) aE)) rfl))))))
   (aJ (jI hu (pv 3) (pv 1) (pv 2) rfl)
   (aJ (bV (i:=7) rB.nd rfl (Or.inl rfl) (bR G_ring (hr.mono (by decide)) aM (aA (pv 3) (aA (pv 1) aE))))
   (aI (bN (cJ b53 (pv 7) iG (cO _)) (aI cF) bO)))))),?_⟩
  intro gd hgd
  have s1:=aG.new (o:=.dT []) hgd
  have g1:upd H gd (.dT []) gd=some (.dT []):=aK
  generalize upd H gd (.dT [])=H1 at s1 g1|-
  have h2':=s1 _ _ h2
  refine⟨_,rfl,s',CS,dx,_,_,rfl,s1 _ _ h1,Y.cl,Y.n_boards,(kN _ _ _).1,bd,_,rfl,h2',fun nf ob=> ?_⟩
  obtain⟨Hf,eHf⟩:∃Hf,Hf=upd H1 bd (.frz ob (.dK kb)):=⟨_,rfl⟩
  rw[<- eHf]
  have hf:Hf bd=some (.frz ob (.dK kb)):=by rw[eHf,aK]
  have ngb:gd≠bd:=fun y=>by rw[y,h2]at hgd;cases hgd
  have kf:∀{x:Addr} {o:HO},x≠bd->H1 x=some o->Hf x=some o:=fun n e=>by rw[eHf,aH n];exact e
  have gf:Hf gd=some (.dT []):=kf ngb g1
  have ins_f:jB H Hf:=fun b o h e=>kf (fun y=>by rw[y,h2]at e;rcases h with⟨_,_,_,rfl⟩|⟨_,rfl⟩<;>cases e) (s1 _ _ e)
  have gr0:iZ gl 0 gd Hf:=⟨[],fun _=> [],⟨gf,fun z=> .inl ⟨rfl,rfl⟩,fun z y hy=>by{cases hy},fun z=>Nat.zero_le _⟩,fun z y hy=>by{cases hy},Nat.le_refl _⟩
  refine b3e (a:=bd) (ob:=ob) (kvs:=kb) (fun i σ H2=>(∃o4 o5 o6,σ= [some (.ref s'),some sv,some (.ref l),some (.ref gd),o4,o5,o6,none])/\bG gd Hf H2/\iZ gl (8* i) gd H2) ⟨⟨_,_,_,rfl⟩,bG.of (aG.refl _),gr0⟩ (fun i σ H2 _ ⟨_,b2,_⟩=>b2 _ _ ngb.symm hf) ?_ ?_
  ·rintro j pv' σ H2 hp ⟨⟨o4,o5,o6,rfl⟩,b2,gS⟩
   have hpm:=List.mem_of_getElem? hp
   have hj:j<kb.length:=(List.getElem?_eq_some_iff.mp hp).1
   obtain⟨nm,B,rfl,nnm,b1,nbr,ndr,r8,hrv⟩:=hb pv' hpm
   have hv:aO kb (.inr nm:aC)=some (.ref B.b):=b0w nd hpm
   obtain⟨dB,e1⟩:=(b1.same s1).at_
   have nb:B.b≠bd:=fun y=>by rw[y,h2']at e1;cases e1
   have ns:s'≠bd:=fun y=>by rw[y,h2]at h1;cases h1
   have ng:∀{x:Addr} {o:HO},Hf x=some o->(∀y,o≠ .dT y)->x≠gd:=fun e n y=>by rw[y,gf]at e;exact n _ (Option.some.inj e).symm
   have up2:∀{x:Addr} {o:HO},Hf x=some o->(∀y,o≠ .dT y)->H2 x=some o:=fun e n=>b2 _ _ (ng e n) e
   have eb:=up2 (kf nb e1) (fun _ y=>by cases y)
   have es:=up2 (kf ns (s1 _ _ h1)) (fun _ y=>by cases y)
   have er:=up2 (kf nbr.symm (b1.same s1).rul) (fun _ y=>by cases y)
   have bd2:=up2 hf (fun _ y=>by cases y)
   refine⟨_,rfl,s',CS,dx,_,_,rfl,es,Y.cl,Y.n_boards,(kN _ _ _).1,_,rfl,bd,_,rfl,.inl ⟨kb,.inr nm,.inr ⟨ob,bd2⟩,rfl,hv.symm⟩,B.b,CB,dB,_,_,rfl,eb,W.cl,W.n_rules,(dG _ _ _ _).2.1,?_⟩
   refine⟨_,rfl,B.ru,_,rfl,er,fun nf2 ob2=> ?_⟩
   obtain⟨Hg,eHg⟩:∃Hg,Hg=upd H2 B.ru (.frz ob2 (.dK B.rus)):=⟨_,rfl⟩
   rw[<- eHg]
   have hg:Hg B.ru=some (.frz ob2 (.dK B.rus)):=by rw[eHg,aK]
   have kg:∀{x:Addr} {o:HO},x≠B.ru->H2 x=some o->Hg x=some o:=fun n e=>by rw[eHg,aH n];exact e
   have gSg:iZ gl (8* j) gd Hg:=gS.mv fun b o n1 n2 e=>kg (fun y=>by rw[y,er]at e;exact n1 _ (Option.some.inj e).symm) e
   have gg:∃kvs,Hg gd=some (.dT kvs):=let ⟨kvs,_,g,_⟩:=gSg;⟨kvs,g.d⟩
   obtain⟨kv0,gg0⟩:=gg
   have ngr:B.ru≠gd:=fun y=>by rw[y,gg0]at hg;cases hg
   have ins_g:jB H Hg:=fun b o h e=>kg (fun y=>by rw[y,b1.rul]at e;rcases h with⟨_,_,_,rfl⟩|⟨_,rfl⟩<;>cases e) (up2 (ins_f b o h e) (fun y ey=>by rcases h with⟨_,_,_,rfl⟩|⟨_,rfl⟩<;>cases ey))
   refine b3e (a:=B.ru) (ob:=ob2) (kvs:=B.rus) (fun i σ H3=>(∃o6,σ= [some (.ref s'),some sv,some (.ref l),some (.ref gd),some (.str nm),some (.ref B.ru),o6,none])/\bG gd Hg H3/\iZ gl (8* j+ i) gd H3) ⟨⟨_,rfl⟩,bG.of (aG.refl _),gSg⟩ (fun i σ H3 _ ⟨_,b3,_⟩=>b3 _ _ ngr hg) ?_ ?_
   ·rintro i rv σ H3 hr3 ⟨⟨o6,rfl⟩,b3,gS3⟩
    have hi:i<B.rus.length:=(List.getElem?_eq_some_iff.mp hr3).1
    have hrm:=List.mem_of_getElem? hr3
    obtain⟨c,gr,dg,fs,ys2,rfl,nc,hgr,hnl,le,hy2,y100⟩:=hrv rv hrm
    have hvr:aO B.rus (.inr c:aC)=some (.ref gr):=b0w ndr hrm
    have ng3:∀{x:Addr} {o:HO},Hg x=some o->(∀y,o≠ .dT y)->H3 x=some o:=fun e n=>b3 _ _ (fun y=>by rw[y,gg0]at e;exact n _ (Option.some.inj e).symm) e
    have ins_3:jB H H3:=fun b o h e=>ng3 (ins_g b o h e) (fun y ey=>by rcases h with⟨_,_,_,rfl⟩|⟨_,rfl⟩<;>cases ey)
    refine⟨_,rfl,_,rfl,B.ru,_,rfl,.inl ⟨B.rus,.inr c,.inr ⟨ob2,ng3 hg (fun _ y=>by cases y)⟩,rfl,hvr.symm⟩,gr,dg,fs,rfl,ins_3 _ _ (.inl ⟨_,_,_,rfl⟩) hgr,hnl,_,rfl,le H3 _ ins_3 fun H4 l4 vs4 s4 hl4 h4 hs4=> ?_⟩
    obtain⟨kvs,adj,G3,ha3,hn3⟩:=gS3
    refine⟨_,rfl,_,rfl,_,rfl,sl,fun tp htp=> ?_⟩
    have s5:=aG.new (o:=.tup [V.str nm,kV ((Sum.inr c:aC),V.ref gr).fst]) htp
    have t5:upd H4 tp (.tup [V.str nm,kV ((Sum.inr c:aC),V.ref gr).fst]) tp=some (.tup [.str nm,.str c]):=aK
    generalize upd H4 tp (.tup [V.str nm,kV ((Sum.inr c:aC),V.ref gr).fst])=H5 at s5 t5|-
    have s35:=s4.trans s5
    have G5:=G3.same s35
    refine⟨gd,_,rfl,.inr ⟨kvs,kS (nm,c),tp,G5.d,rfl,t5,cQ (by omega),rfl⟩,?_⟩
    have u6:bG gd H5 (upd H5 gd (.dT (aT kvs (kS (nm,c)) (.ref l4)))):=bG.upd
    have e6:upd H5 gd (.dT (aT kvs (kS (nm,c)) (.ref l4))) gd=some (.dT (aT kvs (kS (nm,c)) (.ref l4))):=aK
    generalize upd H5 gd (.dT (aT kvs (kS (nm,c)) (.ref l4)))=H6 at u6 e6|-
    exact⟨⟨_,rfl⟩,fun b o n e=>u6 _ _ n (s35 _ _ (b3 _ _ n e)),iZ.put G5 ha3 hn3 u6 e6 (s5 _ _ h4) (hs4.same s5) hy2 y100⟩
   ·rintro σ H3 ⟨⟨o6,rfl⟩,b3,gS3⟩
    refine⟨B.ru,ob2,B.rus,nf2,b3 _ _ ngr hg,⟨_,_,_,rfl⟩,fun b o n e=> ?_,?_⟩
    ·by_cases y:b=B.ru
     ·rw[y,aK]
      rw[y]at e
      rw[b2 _ _ ngr e]at er
      exact er.symm
     ·rw[aH y]
      exact b3 _ _ n (kg y (b2 _ _ n e))
    ·have m:iZ gl (8* j+ B.rus.length) gd (upd H3 B.ru (.dK B.rus)):=gS3.mv fun b o n1 n2 e=>by
      rw[aH (fun y=>by rw[y,b3 _ _ ngr hg]at e;exact n2 _ _ (Option.some.inj e).symm)]
      exact e
     obtain⟨kvs,adj,x1,x2,x3⟩:=m
     exact⟨kvs,adj,x1,x2,by omega⟩
  ·rintro σ H2 ⟨⟨o4,o5,o6,rfl⟩,b2,gS⟩
   have bd2:=b2 _ _ ngb.symm hf
   refine⟨bd,ob,kb,nf,bd2,?_⟩
   have b3:bG gd H1 (upd H2 bd (.dK kb)):=fun b o n e=>by
    by_cases y:b=bd
    ·rw[y,aK]
     rw[y,h2']at e
     exact e
    ·rw[aH y]
     exact b2 _ _ n (kf y e)
   have gS3:iZ gl (8* kb.length) gd (upd H2 bd (.dK kb)):=gS.mv fun b o n1 n2 e=>by
    rw[aH (fun y=>by rw[y,bd2]at e;exact n2 _ _ (Option.some.inj e).symm)]
    exact e
   generalize upd H2 bd (.dK kb)=H3 at b3 gS3|-
   have s13:aG H H3:=fun b o e=>b3 _ _ (bD e hgd) (s1 _ _ e)
   obtain⟨sa,rfl,hsa⟩:=hsv.same s13
   obtain⟨kvs,adj,G3,ha3,hn3⟩:=gS3
   refine⟨_,rfl,_,rfl,_,rfl,gd,_,rfl,.inr ⟨kvs,kS sp,sa,G3.d,rfl,hsa,cQ (by omega),rfl⟩,?_⟩
   have s4:aG H (upd H3 gd (.dT (aT kvs (kS sp) (.ref l)))):=s13.on hgd
   have u4:bG gd H3 (upd H3 gd (.dT (aT kvs (kS sp) (.ref l)))):=bG.upd
   have g4:upd H3 gd (.dT (aT kvs (kS sp) (.ref l))) gd=some (.dT (aT kvs (kS sp) (.ref l))):=aK
   generalize upd H3 gd (.dT (aT kvs (kS sp) (.ref l)))=H4 at s4 u4 g4|-
   obtain⟨kvs',adj',G4,ha4,_⟩:=iZ.put G3 ha3 hn3 u4 g4 (s13 _ _ h3) (hz.same s13) hN z100
   refine⟨_,rfl,_,rfl,gd,_,kvs',adj',sp,gl,rfl,G4,hsv.same s4,nsp,ha4,g100,fun H5 s5=>⟨fun _=> ?_,fun l' vs' ys' _ _ _ R _=> ?_⟩⟩
   ·exact⟨_,rfl,rfl,_,rfl,bJ (q H5 (s4.trans s5))⟩
   ·exfalso
    have:=R.back
    obtain⟨m,hm⟩:∃m,ys'.length=m+ 1:=⟨ys'.length- 1,by have:=R.pos;omega⟩
    rw[hm]at this
    obtain⟨x,_,hx⟩:=this.inv
    exact hns (ha4 x sp hx)
theorem rC.mv{spl:Sp}{gr:Addr}{nm:Str}{ys:List aD}{H H':Hp}(k:jB H H')(h:rC spl gr nm ys H):rC spl gr nm ys H':=fun Hb Q' kb q=>h Hb Q' (k.trans kb) q
theorem wX.same{CB CT CG bd:Addr}{spl:Sp}{gl:List aD}{H H':Hp}{kv:aC×V}(s:aG H H')(h:wX CB CT CG bd spl gl H kv):wX CB CT CG bd spl gl H' kv:=by
 obtain⟨nm,B,h1,h2,h3,h4,h5,h6,h7⟩:=h
 refine⟨nm,B,h1,h2,h3.same s,h4,h5,h6,fun rv hrv=> ?_⟩
 obtain⟨c,gr,dx,fs,ys,e1,e2,e3,e4,e5,e6,e7⟩:=h7 rv hrv
 exact⟨c,gr,dx,fs,ys,e1,e2,s _ _ e3,e4,e5.mv (jB.of s),e6,e7⟩
def b1L(K:Fg)(CS CF CB CT CG:Addr)(spl:Sp):Sp:=fun vs H Q _=>∃(s bd ch gr dg:Addr) (cs:List V) (kb:List (aC×V)) (nm t:Str) (fs:List (Str×V)) (B:BM) (zs gl:List aD),vs= [.ref s,.str nm,.str t,.ref gr] /\zI CS s bd ch cs kb H/\cs.length<900/\Nl nm/\aO kb (.inr nm:aC)=some (.ref B.b)/\cW CB CT H B/\B.sep/\a0h bd ch B/\qO B t/\Nl t/\H gr=some (.ins CG dg fs)/\fs.lookup ("leans":Str)=none/\rC spl gr nm zs H/\(∀z∈zs,N2 z/\z∈gl/\∃B':BM,aO kb (.inr z.1:aC)=some (.ref B'.b)/\cW CB CT H B'/\z.2∈B'.ord)/\zs.length<=100/\(nm,t)∉gl/\gl.length<=100/\(kb.map (·.1)).Nodup/\kb.length<=4/\(∀kv∈kb,wX CB CT CG bd spl gl H kv)/\B.rus.length<100/\B.mes.length<100/\B.ord.length<8/\
 ∀H' fi fd lk c m,a09 CS CF s bd ch fi fd lk (cs++ [.ref c]) kb H H'->H m=none->cW CB CT H' {B with rus:=aT B.rus (.inr t:aC) (.ref gr),mes:=aT B.mes (.inr t:aC) (.ref m),ord:=B.ord++ [t]} ->H' m=some (.dK [])->(∀x o,x≠s->x≠ch->x≠B.od->x≠B.ru->x≠B.me->H x=some o->H' x=some o)->Q .non H'
theorem a7L:aY ["self","table","column","rule","board","leans"] ["self","table","column","rule"] (aF yD):=⟨rfl,rfl,rfl,by decide+kernel,rfl,by decide+kernel,by decide+kernel⟩
structure RIs(K:Fg)(C:Addr):Prop where
 cl:bX K C
 ty:∀{H:Hp} {a dx:Addr} {fs:List (Str×V)},H a=some (.ins C dx fs)->gN K H (.ref a) (.ref C)
 isl:PySem.W.kitOne K (.ref C) (.type "list")=some false
theorem b59(T:aZ K mg){CS CF CB CT CC CG:Addr}(Y:eZ K mg CS)(Z:eM K mg CF)(W:cU K mg CB)(U:dO K mg CT)(C:pN K mg CC)(Gr:RIs K CG){spl:Sp}(G_le:aN P w K mg base aB 3 CG "leans" ["self","table"] spl):aN P w K mg base aB 9 CS "rule" ["self","table","column","rule"] (b1L K CS CF CB CT CG spl):=by
 have G_for:aN P w K mg base aB 3 CS "board_for" ["self","table","column"] (a6d CS CB CT):=pP T Y W
 have G_cl:aN P w K mg base aB 3 CS "check_leans" ["self","spot","leans"] (b3C CS CB CT):=sE T Y W
 have G_cr:aN P w K mg base aB 4 CS "check_ring" ["self","spot","leans"] (b4a CS CB CT CG spl):=b7S T Y W Gr.cl G_le
 have GI:dI P w K mg base aB 1 CC ["self","board","column","content"] (a4F CC):=rJ T C
 have G_make:aN P w K mg base aB 8 CS "make" ["self","change"] (spMk CS CF CC (spCS CC CB CT (a2R K CB CT))):=oI T Y Z C.cl (b3V b9P) (qH T C W (c0j T W))
 refine Y.m_rule.known a7L (fun _ _ _ _ _ _ us hl=>mF (fun _ _ _ _=>rfl) us hl) (fun vs H Q E h=> ?_) (fun f cdv A outer s H vs Q E hr h=> ?_)
 ·obtain⟨s',bd,ch,gr,dg,cs,kb,nm,t,fs,B,zs,gl,rfl,_⟩:=h
  rfl
 ·obtain⟨s',bd,ch,gr,dg,cs,kb,nm,t,fs,B,zs,gl,rfl,hS,cl,hn,hv,hB,sep,ss,new,ht,hgr,hnl,le,hzs,z100,ngl,g100,nd,k4,hbd,r100,m100,o8,q⟩:=h
  refine⟨_,(aJ (bV (i:=4) a7L.nd rfl (Or.inl rfl) (bW (pv 0) Y.cl G_for (hr.mono (by decide)) aM (aA (pv 1) (aA (pv 2) aE))))
   (aJ (bV (i:=5) a7L.nd rfl (Or.inl rfl) (bW (pv 3) Gr.cl G_le (hr.mono (by decide)) aM (aA (pv 1) aE)))
   (aJ (bZ (bW (pv 0) Y.cl G_cl (hr.mono (by decide)) aM (aA (fU (aA (pv 1) (aA (pv 2) aE))) (aA (pv 5) aE))))
   (aJ (bZ (bW (pv 0) Y.cl G_cr (hr.mono (by decide)) aM (aA (fU (aA (pv 1) (aA (pv 2) aE))) (aA (pv 5) aE))))
   (aI (bZ (bW (pv 0) Y.cl G_make hr aM (aA (jO GI (hr.mono (by decide)) C.c aM (aA (pv 4) (aA (pv 2) (aA (pv 3) aE)))) aE)))))))),?_⟩
  obtain⟨⟨dx,fi0,h1⟩,h2,h3⟩:=hS
  refine⟨_,rfl,s',dx,_,rfl,h1,eO,_,rfl,_,rfl,s',bd,ch,fi0,dx,kb,nm,t,B,rfl,h1,h3,hn,hv,hB,ht,o8,fun H1 s1=> ?_⟩
  refine⟨_,rfl,gr,dg,_,rfl,s1 _ _ hgr,hnl,_,rfl,le H1 _ (jB.of s1) fun H2 l ys s2 hl h2l hsp=> ?_⟩
  have s12:=s1.trans s2
  refine⟨_,rfl,s',dx,_,rfl,s12 _ _ h1,eO,_,rfl,_,rfl,sl,fun t1 ht1=> ?_⟩
  have s3':=aG.new (o:=.tup [.str nm,.str t]) ht1
  have tt1:upd H2 t1 (.tup [.str nm,.str t]) t1=some (.tup [.str nm,.str t]):=aK
  generalize upd H2 t1 (.tup [.str nm,.str t])=H3 at s3' tt1|-
  have s3:=s12.trans s3'
  refine⟨_,rfl,s',bd,ch,fi0,dx,l,.ref t1,kb,ys,zs,rfl,s3 _ _ h1,s3 _ _ h3,s3' _ _ h2l,hsp.same s3',fun z hz=> ?_,fun H4 s4=> ?_⟩
  ·obtain⟨n2,_,B',b1,b2,b3⟩:=hzs z hz
   exact⟨n2,B',b1,b2.same s3,b3⟩
  have s4':=s3.trans s4
  refine⟨_,rfl,s',dx,_,rfl,s4' _ _ h1,eO,_,rfl,_,rfl,sl,fun t2 ht2=> ?_⟩
  have s5':=aG.new (o:=.tup [.str nm,.str t]) ht2
  have tt2:upd H4 t2 (.tup [.str nm,.str t]) t2=some (.tup [.str nm,.str t]):=aK
  generalize upd H4 t2 (.tup [.str nm,.str t])=H5 at s5' tt2|-
  have s5:=s4'.trans s5'
  have s25:=(s3'.trans s4).trans s5'
  refine⟨_,rfl,s',bd,ch,fi0,dx,l,.ref t2,kb,ys,(nm,t),zs,gl,rfl,s5 _ _ h1,s5 _ _ h3,nd,k4,s25 _ _ h2l,hsp.same s25,fun z hz=>⟨(hzs z hz).1,(hzs z hz).2.1⟩,z100,⟨t2,rfl,tt2⟩,⟨hn,ht⟩,ngl,g100,fun kv hkv=>(hbd kv hkv).same s5,fun H6 s6'=> ?_⟩
  have s6:=s5.trans s6'
  refine⟨_,rfl,s',dx,_,rfl,s6 _ _ h1,eO,_,rfl,_,rfl,_,rfl,?_⟩
  intro c dc hc hdc ne
  refine⟨c,dc,B.b,gr,t,rfl,aK,fun H7 b7 c7=>⟨rfl,?_⟩⟩
  have s7:aG H H7:=fun b o z=>b7 b o (bD (s6 _ _ z) hc) (by rw[aH (bD (s6 _ _ z) hc),aH (bD (s6 _ _ z) hdc)];exact s6 _ _ z)
  have hB7:=hB.same s7
  have gr7:=s7 _ _ hgr
  refine⟨s',c,bd,ch,fi0,dx,dc,cs,_,rfl,c7,(a9P _ _ _).2.2.2.1,c,dc,gr,B,t,rfl,c7,hB7,new,B,t,gr,CG,dg,_,rfl,hB7,sep,new,gr7,Gr.ty gr7,Gr.isl,r100,m100,by omega,fun H8 m hm B8 m8 u8=> ?_⟩
  have ho:=hB.ord
  have hru:=hB.rul
  have hme:=hB.mem
  have k8:∀{x:Addr} {o:HO},H x=some o->x≠B.od->x≠B.ru->x≠B.me->H8 x=some o:=fun e n1 n2 n3=>u8 _ _ n1 n2 n3 (s7 _ _ e)
  have ns4:=k8 h1 (fun y=>by rw[y,ho]at h1;cases h1) (fun y=>by rw[y,hru]at h1;cases h1) (fun y=>by rw[y,hme]at h1;cases h1)
  have ch4:=k8 h2 ss.o (fun y=>by rw[y,hru]at h2;cases h2) (fun y=>by rw[y,hme]at h2;cases h2)
  refine⟨ns4,ch4,cl,fun H9 fi fd lk df f1 f2 f3 nfl g1 g2 g3 g4 g5 u9=> ?_⟩
  have nn:∀{x:Addr},H8 x=none->H x=none:=fun{x} e=>by
   cases e2:H x with
   |none=>rfl
   |some o=>
    by_cases y:x=B.od
    ·rw[y,B8.ord]at e;cases e
    ·by_cases y2:x=B.ru
     ·rw[y2,B8.rul]at e;cases e
     ·by_cases y3:x=B.me
      ·rw[y3,B8.mem]at e;cases e
      ·rw[k8 e2 y y2 y3]at e;cases e
  have hm0:H m=none:=fT s7 hm
  have nm':m≠s'/\m≠ch:=⟨fun y=>by{rw[y,h1]at hm0;cases hm0},fun y=>by{rw[y,h2]at hm0;cases hm0}⟩
  have nb:bd≠s'/\bd≠ch:=⟨fun y=>by{rw[y,h1]at h3;cases h3},fun y=>by{rw[y,h2]at h3;cases h3}⟩
  exact q H9 fi fd lk c m ⟨⟨dx,g1⟩,g2,u9 _ _ nb.1 nb.2 (k8 h3 (fun y=>by rw[y,ho]at h3;cases h3) ss.u ss.m),⟨df,g3⟩,g4,g5,nfl,nn f1,nn f2,nn f3⟩ hm0 (B8.off ⟨dx,bd,ch,fi0,ns4⟩ ch4 ss.r ss.o u9) (u9 _ _ nm'.1 nm'.2 m8) (fun x o n1 n2 n3 n4 n5 e=>u9 _ _ n1 n2 (k8 e n3 n4 n5))
theorem b78{C:Addr}(Y:kY K mg C):RIs K C:=⟨Y.cl,fun e=> .ins e Y.cl Y.hc Y.own.2.1 Y.own.2.2 Y.own.1,Y.isl⟩
theorem b3d{C:Addr}(Y:kY K mg C):yH K C:=⟨Y.cl,Y.m_reckon,Y.n_function⟩
def a0z(CF CB CT:Addr):Sp:=fun vs H Q _=>∃(fi bd fd lk ce l:Addr) (nm c:Str) (p:Nat) (B:BM) (kf:List (Ky×V)) (ys:List V) (v:V),vs= [.ref fi,.ref ce] /\dF CF CB CT H fi bd fd lk nm B kf/\H ce=some (.tup ((aU nm c p).map kV))/\aO B.rus (.inr c:aC)=none/\Nl c/\aO B.kvs (.inr c:aC)=some (.ref l)/\H l=some (.lst ys)/\p<B.xs.length/\bY ys (p:Int)=some v/\(∀v',aO kf (aU nm c p)=some v'->v'=v)/\kf.length<899/\
 ∀H' kf',(kf'=kf\/ kf'=aT kf (aU nm c p) v)->aO kf' (aU nm c p)=some v->dF CF CB CT H' fi bd fd lk nm B kf'->bG fd H H'->Q .non H'
abbrev NatG:List Str:=["self","cell","trial","told"]
theorem b6z:aY NatG ["self","cell"] (aF lK):=⟨rfl,rfl,rfl,by decide+kernel,rfl,by decide+kernel,by decide+kernel⟩
theorem b7y(T:aZ K mg){CF CB CT:Addr}(Y:eM K mg CF)(Wb:cU K mg CB)(U:dO K mg CT):iY P w K mg base 5 "attempt" "Finder.attempt" lK ["self","cell"] (a0z CF CB CT):=by
 have G_knows:aN P w K mg base aB 4 CF "knows" ["self","cell"] (a31 CF CB CT):=b38 T Y Wb U
 refine a1M b6z (fun vs H Q E h=> ?_) (fun f cdv A outer s H vs Q E hr h=> ?_)
 ·obtain⟨fi,bd,fd,lk,ce,l,nm,c,p,B,kf,ys,v,rfl,_⟩:=h
  rfl
 ·obtain⟨fi,bd,fd,lk,ce,l,nm,c,p,B,kf,ys,v,rfl,F,a1,a2,a3,a4,a5,a6,a7,a8,a9,q⟩:=h
  refine⟨_,(aJ (bN (cH (bW (pv 0) Y.cl G_knows hr aM (aA (pv 1) aE)) (fun _=>rfl)) (aI (bE iG)) bO)
   (aJ cF (aJ cF (aJ cF (aI cF))))),?_⟩
  obtain⟨d0,e1⟩:=F.fin
  exact⟨_,rfl,fi,d0,_,rfl,e1,kJ,_,rfl,fi,bd,fd,lk,ce,l,nm,c,p,B,kf,ys,v,rfl,F,a1,a2,a3,a4,a5,a6,a7,a8,a9,fun H' kf' h1 h2 h3 h4=>⟨_,rfl,cG (q H' kf' h1 h2 h3 h4)⟩⟩
theorem b9b{CF CB CT:Addr}:jV (a0z CF CB CT):=fun vs H Q Q' hQ h=>by
 obtain⟨fi,bd,fd,lk,ce,l,nm,c,p,B,kf,ys,v,a0,F,a1,a2,a3,a4,a5,a6,a7,a8,a9,q⟩:=h
 exact⟨fi,bd,fd,lk,ce,l,nm,c,p,B,kf,ys,v,a0,F,a1,a2,a3,a4,a5,a6,a7,a8,a9,fun H' kf' h1 h2 h3 h4=>hQ _ _ (q H' kf' h1 h2 h3 h4)⟩
theorem b7n{CS CF CB CT s bd ch fi fd lk l:Addr}{kb:List (aC×V)}{nm c:Str}{p:Nat}{B:BM}{kf:List (Ky×V)}{ys:List V}{v:V}{H:Hp}{Q:VK}(F:dF CF CB CT H fi bd fd lk nm B kf)(hS:iV CS CB CT s bd ch fi kb nm B H)(nc:Nl c)(co:c∈B.ord)(ru:aO B.rus (.inr c:aC)=none)(kv:aO B.kvs (.inr c:aC)=some (.ref l))(hl:H l=some (.lst ys))(hp:p<B.xs.length)(ha:bY ys (p:Int)=some v)(hcon:∀v',aO kf (aU nm c p)=some v'->v'=v)(kl:kf.length<899)
 (q:∀H' kf',(kf'=kf\/ kf'=aT kf (aU nm c p) v)->H' fd=some (.dT kf')->bG fd H H'->Q v H'):
 kW CS CF CB CT (jG CF (a0z CF CB CT)) [.ref s,.str nm,.str c,.int (p:Int)] H Q E0:=by
 obtain⟨df,hfi⟩:=F.fin
 refine⟨s,bd,ch,fi,df,kb,nm,c,p,B,_,rfl,hS,nc,co,hp,hfi,kJ,fun H1 ce hce s1 c1=> ?_⟩
 refine⟨fi,ce,bd,fd,lk,df,aU nm c p,rfl,s1 _ _ hfi,fun H2 wl hwl s2 w2=> ?_⟩
 have F2:=(F.same s1).same s2
 have nfd:∀{x:Addr} {o:HO},H2 x=some o->(∀y,o≠ .dT y)->x≠fd:=fun e n y=>by rw[y,F2.fnd]at e;exact n _ (Option.some.inj e).symm
 refine⟨fi,bd,fd,lk,ce,l,nm,c,p,B,kf,ys,v,rfl,F2,s2 _ _ c1,ru,nc,kv,s2 _ _ (s1 _ _ hl),hp,ha,hcon,kl,fun H3 kf' hk hv F3 b3=>⟨rfl,?_⟩⟩
 obtain⟨d3,f3⟩:=F3.fin
 have w3:=b3 _ _ (nfd w2 (fun _ y=>by cases y)) w2
 refine⟨d3,kf',v,w3,f3,F3.fnd,b3 _ _ (nfd (s2 _ _ c1) (fun _ y=>by cases y)) (s2 _ _ c1),hv,fun H4 b4=>q H4 kf' hk (b4 _ _ (fun y=>by rw[<- y,F3.fnd]at w3;cases w3) F3.fnd) fun x o n e=>b4 _ _ (fun y=>by rw[y]at e;rw[s1 _ _ e]at hwl;cases hwl) (b3 _ _ n (s2 _ _ (s1 _ _ e)))⟩
def c0f(CS CB CT:Addr):Sp:=fun vs H Q _=>∃(s bd ch fi dx:Addr) (kb:List (aC×V)) (nm:Str) (B:BM),vs= [.ref s,.str nm] /\H s=some (.ins CS dx (eB bd ch fi))/\H bd=some (.dK kb)/\Nl nm/\aO kb (.inr nm:aC)=some (.ref B.b)/\cW CB CT H B/\∀H',aG H H'->Q (.int B.xs.length) H'
theorem b75:aY ["self","table"] ["self","table"] (aF tQ):=⟨rfl,rfl,rfl,by decide+kernel,rfl,by decide+kernel,by decide+kernel⟩
theorem sK(T:aZ K mg){CS CB CT:Addr}(Y:eZ K mg CS)(W:cU K mg CB)(Z:dO K mg CT):aN P w K mg base aB 3 CS "many" ["self","table"] (c0f CS CB CT):=by
 have G_of:aN P w K mg base aB 2 CS "board_of" ["self","table"] (sO CS CB CT):=nD T Y
 have G_many:aN P w K mg base aB 1 CT "many" ["self"] (lS CT):=jS T Z
 refine Y.m_many.known b75 (fun _ _ _ _ _ _ us hl=>dJ (fun _ _=>rfl) us hl) (fun vs H Q E h=> ?_) (fun f cdv A outer s H vs Q E hr h=> ?_)
 ·obtain⟨s',bd,ch,fi,dx,kb,nm,B,rfl,_⟩:=h
  rfl
 ·obtain⟨s',bd,ch,fi,dx,kb,nm,B,rfl,h1,h2,hn,hv,hB,q⟩:=h
  refine⟨_,(aI (bE (lJ (aX (bW (pv 0) Y.cl G_of hr aM (aA (pv 1) aE)) rfl) Z.cl G_many (hr.mono (by decide)) aM))),?_⟩
  refine⟨_,rfl,s',dx,_,rfl,h1,eO,_,rfl,s',bd,ch,fi,dx,kb,nm,_,rfl,h1,h2,hn,hv,fun H1 s1=> ?_⟩
  have hB1:=hB.same s1
  obtain⟨dB,b1⟩:=hB1.at_
  obtain⟨dT,t1⟩:=hB1.tab.at_
  exact⟨B.b,CB,dB,_,_,rfl,b1,W.cl,W.n_given,(dG _ _ _ _).1,B.g,dT,_,rfl,t1,jJ,B.g,B.r,B.e,B.xs,B.n,B.kvs,rfl,hB1.tab,q H1 s1⟩
def b57(CS CB CT:Addr):Sp:=fun vs H Q _=>∃(s bd ch fi dx:Addr) (kb:List (aC×V)) (nm:Str) (B:BM),vs= [.ref s,.str nm] /\H s=some (.ins CS dx (eB bd ch fi))/\H bd=some (.dK kb)/\Nl nm/\aO kb (.inr nm:aC)=some (.ref B.b)/\cW CB CT H B/\∀H' l,aG H H'->H l=none->H' l=some (.lst (B.ord.map V.str))->Q (.ref l) H'
theorem b5G:aY ["self","table"] ["self","table"] (aF vR):=⟨rfl,rfl,rfl,by decide+kernel,rfl,by decide+kernel,by decide+kernel⟩
theorem xF(T:aZ K mg){CS CB CT:Addr}(Y:eZ K mg CS)(W:cU K mg CB):aN P w K mg base aB 3 CS "columns" ["self","table"] (b57 CS CB CT):=by
 have G_of:aN P w K mg base aB 2 CS "board_of" ["self","table"] (sO CS CB CT):=nD T Y
 refine Y.m_columns.known b5G (fun _ _ _ _ _ _ us hl=>dJ (fun _ _=>rfl) us hl) (fun vs H Q E h=> ?_) (fun f cdv A outer s H vs Q E hr h=> ?_)
 ·obtain⟨s',bd,ch,fi,dx,kb,nm,B,rfl,_⟩:=h
  rfl
 ·obtain⟨s',bd,ch,fi,dx,kb,nm,B,rfl,h1,h2,hn,hv,hB,q⟩:=h
  refine⟨_,(aI (bE (kP xN rfl T.list iR (aA (aX (bW (pv 0) Y.cl G_of hr aM (aA (pv 1) aE)) rfl) aE)))),?_⟩
  refine⟨_,rfl,s',dx,_,rfl,h1,eO,_,rfl,s',bd,ch,fi,dx,kb,nm,_,rfl,h1,h2,hn,hv,fun H1 s1=> ?_⟩
  obtain⟨dB,b1⟩:=(hB.same s1).at_
  exact⟨B.b,CB,dB,_,_,rfl,b1,W.cl,W.n_order,(dG _ _ _ _).2.2.2,B.od,_,rfl,.inl (aL.of (hB.same s1).ord),fun l hl=>q _ l (s1.trans (aG.new hl)) (fT s1 hl) aK⟩
end
def yQ(s:Addr)(nm:Str):List (Str×V):=[("sheet",V.ref s),("name",V.str nm)]
def pK(v:Addr)(c:Str):List (Str×V):=[("view",V.ref v),("column",V.str c)]
def pA(s:Addr)(nm c:Str)(p:Int):List (Str×V):=[("sheet",V.ref s),("name",V.str nm),("column",V.str c),("place",V.int p)]
theorem a0K(s:Addr)(nm:Str):(yQ s nm).lookup ("sheet":Str)=some (.ref s)/\(yQ s nm).lookup ("name":Str)=some (.str nm):=⟨rfl,rfl⟩
theorem wQ(v:Addr)(c:Str):(pK v c).lookup ("view":Str)=some (.ref v)/\(pK v c).lookup ("column":Str)=some (.str c)/\(pK v c).lookup ("has_row":Str)=none:=⟨rfl,rfl,rfl⟩
theorem b3I(s:Addr)(nm c:Str)(p:Int):(pA s nm c p).lookup ("name":Str)=some (.str nm)/\(pA s nm c p).lookup ("column":Str)=some (.str c)/\(pA s nm c p).lookup ("place":Str)=some (.int p)/\(pA s nm c p).lookup ("told":Str)=none:=⟨rfl,rfl,rfl,rfl⟩
noncomputable def vM:List Str:=["columns","rows","value_at","spots_at","many","look","shown","spots","asked_row"]
theorem b51(s:Addr)(nm:Str){m:Str}(h:m∈vM):(yQ s nm).lookup m=none:=by
 unfold vM at h
 simp only[List.mem_cons,List.not_mem_nil,or_false]at h
 rcases h with rfl|rfl|rfl|rfl|rfl|rfl|rfl|rfl|rfl<;>rfl
theorem b4N(v:Addr)(c:Str){m:Str}(h:m∈vM):(pK v c).lookup m=none:=by
 unfold vM at h
 simp only[List.mem_cons,List.not_mem_nil,or_false]at h
 rcases h with rfl|rfl|rfl|rfl|rfl|rfl|rfl|rfl|rfl<;>rfl
section
variable{P:Program}{w:World}{K:Fg}{mg:Str->Option Value}{base:Heap}
def xG(K:Fg):Sp:=fun vs H Q _=>∃(c:Str) (l:Addr) (cs:List Str),vs= [.str c,.ref l] /\H l=some (.lst (cs.map V.str))/\c∈cs/\Q .non H
theorem b9h:aY ["column","columns"] ["column","columns"] (aF tP):=⟨rfl,rfl,rfl,by decide+kernel,rfl,by decide+kernel,by decide+kernel⟩
theorem nH(T:aZ K mg):bK P w K mg base aB 1 "check_column" ["column","columns"] (xG K):=by
 refine T.d_check_column.known b9h (fun _ _ _ _ _ _ us hl=>dJ (fun _ _=>rfl) us hl) (fun vs H Q E h=> ?_) (fun f cdv A outer s H vs Q E hr h=> ?_)
 ·obtain⟨c,l,cs,rfl,_⟩:=h
  rfl
 ·obtain⟨c,l,cs,rfl,hl,hc,q⟩:=h
  refine⟨_,(aI (bN (PW.pt (fP (dC (cH (cD fS rfl T.isinstance fH (aA (pv 0) (aA (fC T.str a3k) aE))) (fun _=>rfl))) (gP (cJ zK (pv 0) (pv 1) (by with_unfolding_all rfl))))) (aI cF) bO)),?_⟩
  refine⟨_,rfl,_,"str",.str c,_,rfl,.str c,a9n K _,_,rfl,bJ ⟨_,rfl,_,rfl,l,_,rfl,.inl (aL.of hl),rfl,nL _,_,rfl,?_⟩⟩
  rw[show (if true=true then !gM (.str c) (cs.map V.str) else gM (.str c) (cs.map V.str))=false by rw[if_pos rfl,nQ,decide_eq_true hc];rfl]
  exact bJ q
def spOI(C:Addr):Sp:=fun vs H Q _=>∃(p dx s:Addr) (nm c:Str) (i:Int),vs= [.ref p,.ref s,.str nm,.str c,.int i] /\H p=some (.ins C dx [])/\∀H',bG p H H'->H' p=some (.ins C dx (pA s nm c i))->Q .non H'
theorem b6N:aY ["self","sheet","name","column","place"] ["self","sheet","name","column","place"] (aF tD):=⟨rfl,rfl,rfl,by decide+kernel,rfl,by decide+kernel,by decide+kernel⟩
theorem tL(T:aZ K mg){C:Addr}(Y:rF K mg C):dI P w K mg base aB 1 C ["self","sheet","name","column","place"] (spOI C):=by
 refine(Y.m_init.known b6N (fun _ _ _ _ _ _ us hl=>bi5 (fun _ _ _ _ _=>rfl) us hl) (fun vs H Q E h=> ?_) (fun f cdv A outer s H vs Q E hr h=> ?_)).init Y.mks Y.kc
 ·obtain⟨p,dx,s',nm,c,i,rfl,_⟩:=h
  rfl
 ·obtain⟨p,dx,s',nm,c,i,rfl,hp,q⟩:=h
  refine⟨_,(aJ (cM (pv 0) (pv 1) rfl)
   (aJ (cM (pv 0) (pv 2) rfl)
   (aJ (cM (pv 0) (pv 3) rfl)
   (aI (cM (pv 0) (pv 4) rfl))))),?_⟩
  refine⟨_,rfl,_,rfl,p,C,dx,[],rfl,hp,Y.cl,Y.n_sheet,by decide,?_⟩
  refine⟨_,rfl,_,rfl,p,C,dx,_,rfl,aK,Y.cl,Y.n_name,(show 1<1000 by decide),?_⟩
  refine⟨_,rfl,_,rfl,p,C,dx,_,rfl,aK,Y.cl,Y.n_column,(show 2<1000 by decide),?_⟩
  refine⟨_,rfl,_,rfl,p,C,dx,_,rfl,aK,Y.cl,Y.n_place,(show 3<1000 by decide),?_⟩
  exact q _ (((bG.trans bG.upd bG.upd).trans bG.upd).trans bG.upd) aK
def b2d(C:Addr):Sp:=fun vs H Q _=>∃(p dx s:Addr) (nm c:Str) (i:Int),vs= [.ref p] /\H p=some (.ins C dx (pA s nm c i))/\∀l,H l=none->Q (.ref l) (upd H l (.tup [.str nm,.str c,.int i]))
theorem b87:aY ["self"] ["self"] (aF xP):=⟨rfl,rfl,rfl,by decide+kernel,rfl,by decide+kernel,by decide+kernel⟩
theorem xY(T:aZ K mg){C:Addr}(Y:rF K mg C):aN P w K mg base aB 1 C "told" ["self"] (b2d C):=by
 refine Y.m_told.known b87 (fun _ _ _ _ _ _ us hl=>dM (fun _=>rfl) us hl) (fun vs H Q E h=> ?_) (fun f cdv A outer s H vs Q E hr h=> ?_)
 ·obtain⟨p,dx,s',nm,c,i,rfl,_⟩:=h
  rfl
 ·obtain⟨p,dx,s',nm,c,i,rfl,hp,q⟩:=h
  refine⟨_,(aI (bE (fU (aA (aX (pv 0) rfl) (aA (aX (pv 0) rfl) (aA (aX (pv 0) rfl) aE)))))),?_⟩
  obtain⟨o1,o2,o3,_⟩:=b3I s' nm c i
  exact⟨_,rfl,p,C,dx,_,_,rfl,hp,Y.cl,Y.n_name,o1,_,rfl,p,C,dx,_,_,rfl,hp,Y.cl,Y.n_column,o2,_,rfl,p,C,dx,_,_,rfl,hp,Y.cl,Y.n_place,o3,sl,fun l hl=>q l hl⟩
end
theorem a1Q:Nl "odd":=by unfold Nl;decide+kernel
def Pw(K:Fg)(H:Hp)(v:V)(d:PyData):Prop:=Pv K H v d\/ pL K v d
theorem Pw.dt{K:Fg}{H:Hp}{v:V}{d:PyData}(h:Pw K H v d):Dt K H v d:=by
 rcases h with h|⟨i,rfl,rfl,_⟩|⟨a,rfl,rfl,h⟩
 ·exact h.dt
 ·exact .int i
 ·exact .tup (h H) (.cons (.str _) (.cons (.str _) .nil))
theorem Pw.vd{K:Fg}{H:Hp}{v:V}{d:PyData}(h:Pw K H v d):Vd d:=by
 rcases h with h|⟨i,rfl,rfl,hb⟩|⟨a,rfl,rfl,h⟩
 ·exact h.vd
 ·exact .inl ⟨i,rfl,hb⟩
 ·exact .inr ⟨_,rfl,a1Q⟩
theorem Pw.keep{K:Fg}{H H':Hp}{v:V}{d:PyData}(s:bS H H')(h:Pw K H v d):Pw K H' v d:=by
 rcases h with h|h
 ·exact .inl (h.keep s)
 ·exact .inr h
def cZ(K:Fg)(H:Hp):List V->List PyData->Prop:=Paired (Pw K H)
theorem cZ.keep{K:Fg}{H H':Hp}(s:bS H H'):∀{xs:List V} {ds:List PyData},cZ K H xs ds->cZ K H' xs ds
 |_,_,.nil=> .nil
 |_,_,.cons h t=> .cons (h.keep s) (cZ.keep s t)
theorem cZ.dt{K:Fg}{H:Hp}:∀{xs:List V} {ds:List PyData},cZ K H xs ds->cS K H xs ds
 |_,_,.nil=> .nil
 |_,_,.cons h t=> .cons h.dt (cZ.dt t)
theorem cZ.vd{K:Fg}{H:Hp}:∀{xs:List V} {ds:List PyData},cZ K H xs ds->∀d∈ds,Vd d
 |_,_,.nil,_,h=>by cases h
 |_,_,.cons h t,d,hd=>by
  rcases List.mem_cons.mp hd with rfl|hd
  ·exact h.vd
  ·exact cZ.vd t d hd
theorem cZ.snoc{K:Fg}{H:Hp}{v:V}{d:PyData}(h:Pw K H v d):∀{vs:List V} {ds:List PyData},cZ K H vs ds->cZ K H (vs++ [v]) (ds++ [d])
 |_,_,.nil=> .cons h .nil
 |_,_,.cons h' t=> .cons h' (cZ.snoc h t)
theorem cZ.at{K:Fg}{H:Hp}:∀{xs:List V} {ds:List PyData} {i:Nat},cZ K H xs ds->i<ds.length->∃v d,xs[i]?=some v/\ds[i]?=some d/\Pw K H v d
 |_,_,_,.nil,h=>absurd h (Nat.not_lt_zero _)
 |_,_,0,.cons h _,_=>⟨_,_,rfl,rfl,h⟩
 |_,_,i+ 1,.cons _ t,h=>by simpa using cZ.at t (Nat.lt_of_succ_lt_succ h)
structure SM where
 ok:Addr->Str->Prop
 cols:Addr->Str->List Str
 many:Addr->Str->Nat
 val:Addr->Str->Str->Nat->PyData
structure bM(Free:Addr->Prop)(H H':Hp):Prop where
 k:∀x o,Free x->(∀y,o≠ .dT y)->H x=some o->H' x=some o
 nn:∀x,H x≠none->H' x≠none
 kt:bS H H'
theorem bM.of{Free:Addr->Prop}{H H':Hp}(s:aG H H'):bM Free H H':=by
 refine⟨fun x o _ _ e=>s _ _ e,fun x hx e=> ?_,bS.of s⟩
 cases e2:H x with
 |none=>exact hx e2
 |some o=>rw[s _ _ e2]at e;cases e
theorem bM.trans{Free:Addr->Prop}{H H1 H2:Hp}(a:bM Free H H1)(b:bM Free H1 H2):bM Free H H2:=⟨fun x o f n e=>b.k x o f n (a.k x o f n e),fun x hx=>b.nn x (a.nn x hx),a.kt.trans b.kt⟩
theorem bM.on{Free:Addr->Prop}{H H2:Hp}{l:Addr}{o:HO}(a:bM Free H H2)(h:H l=none):bM Free H (upd H2 l o):=by
 refine⟨fun x o' f n e=> ?_,fun x hx e=> ?_,fun x xs e=> ?_⟩
 ·rw[aH (fun y=>by rw[y,h]at e;cases e)]
  exact a.k x o' f n e
 ·rw[aH (fun y=>hx (by rw[y];exact h))]at e
  exact a.nn x hx e
 ·rw[aH (fun y=>by rw[y,h]at e;cases e)]
  exact a.kt x xs e
theorem bM.back{Free:Addr->Prop}{H H':Hp}{x:Addr}(a:bM Free H H')(h:H' x=none):H x=none:=by
 cases e:H x with
 |none=>rfl
 |some o=>exact absurd h (a.nn x (by rw[e];exact fun y=>by cases y))
inductive VW where
 |whole(a s:Addr)(nm:Str)
 |sm(a:Addr)(v:VW)(cn:Str)
def VW.a:VW->Addr
 | .whole a _ _=>a
 | .sm a _ _=>a
def VW.sh:VW->Nat
 | .whole _ _ _=>0
 | .sm _ _ _=>1
def VW.rk:VW->Nat
 | .whole _ _ _=>0
 | .sm _ v _=>v.rk+ 1
def VW.bs:VW->Addr×Str
 | .whole _ s nm=>(s,nm)
 | .sm _ v _=>v.bs
def gE:PyData->Bool
 | .int i=>decide (i≠0)
 |_=>false
def VW.rows(M:SM):VW->List Nat
 | .whole _ s nm=>List.range (M.many s nm)
 | .sm _ v cn=>(v.rows M).filter fun r=>gE (M.val v.bs.1 v.bs.2 cn r)
structure VC where
 M:SM
 Free:Addr->Prop
 Inv:Hp->Prop
 CW:Addr
 CU:Addr
 CO:Addr
def VC.cls(X:VC):Nat->Addr
 |0=>X.CW
 |_=>X.CU
def VC.At(X:VC)(H:Hp):VW->Prop
 | .whole a s nm=>X.Free a/\X.M.ok s nm/\(X.M.many s nm<=30/\(X.M.cols s nm).length<=30)/\∃dx,H a=some (.ins X.CW dx (yQ s nm))
 | .sm a v cn=>X.Free a/\cn∈X.M.cols v.bs.1 v.bs.2/\(∃dx,H a=some (.ins X.CU dx (pK v.a cn)))/\X.At H v
def dA(rs:List Nat):List V:=rs.map fun(r:Nat)=>V.int (r:Int)
theorem VC.At.fr{X:VC}{H H':Hp}(u:bM X.Free H H'):∀{v:VW},X.At H v->X.At H' v
 | .whole a s nm,⟨f,o,b,dx,e⟩=>⟨f,o,b,dx,u.k _ _ f (fun _ y=>by cases y) e⟩
 | .sm a v cn,⟨f,c,⟨dx,e⟩,h⟩=>⟨f,c,⟨dx,u.k _ _ f (fun _ y=>by cases y) e⟩,VC.At.fr u h⟩
theorem VC.At.num{X:VC}{H:Hp}:∀{v:VW},X.At H v->X.M.ok v.bs.1 v.bs.2/\(v.rows X.M).length<=30/\(X.M.cols v.bs.1 v.bs.2).length<=30/\∀r∈v.rows X.M,r<X.M.many v.bs.1 v.bs.2
 | .whole a s nm,⟨_,o,b,_⟩=>⟨o,by unfold VW.rows;rw[List.length_range];exact b.1,b.2,fun r hr=>List.mem_range.mp hr⟩
 | .sm a v cn,⟨_,_,_,h⟩=>by
  obtain⟨h1,h2,h3,h4⟩:=VC.At.num h
  exact⟨h1,Nat.le_trans (List.length_filter_le _ _) h2,h3,fun r hr=>h4 r (List.mem_filter.mp hr).1⟩
theorem VC.At.ins{X:VC}{H:Hp}:∀{v:VW},X.At H v->∃dx fs,H v.a=some (.ins (X.cls v.sh) dx fs)/\∀m∈vM,fs.lookup m=none
 | .whole a s nm,⟨_,_,_,dx,e⟩=>⟨dx,_,e,fun m h=>b51 s nm h⟩
 | .sm a v cn,⟨_,_,⟨dx,e⟩,_⟩=>⟨dx,_,e,fun m h=>b4N v.a cn h⟩
theorem VW.sh2(v:VW):v.sh<2:=by cases v<;>simp[VW.sh]
section
variable{P:Program}{w:World}{K:Fg}{mg:Str->Option Value}{base:Heap}
structure SI(P:Program)(w:World)(K:Fg)(mg:Str->Option Value)(base:Heap)(CS:Addr)(dc:Nat)(X:VC):Prop where
 same:∀{H H':Hp},X.Inv H->aG H H'->X.Inv H'
 new:∀{H:Hp} {x:Addr},X.Inv H->H x=none->X.Free x
 on:∀{H H2:Hp} {l:Addr} {o:HO} {ys:List V},X.Inv H->H l=none->X.Inv H2->H2 l=some (.lst ys)->X.Inv (upd H2 l o)
 at_:∀{H:Hp} {s:Addr} {nm:Str},X.Inv H->X.M.ok s nm->∃dx bd ch fi,H s=some (.ins CS dx (eB bd ch fi))
 many:∃sp,aN P w K mg base aB 3 CS "many" ["self","table"] sp/\∀{H:Hp} {s:Addr} {nm:Str} {Q:VK},X.Inv H->X.M.ok s nm->(∀H',aG H H'->Q (.int (X.M.many s nm)) H')->sp [.ref s,.str nm] H Q E0
 cols:∃sp,aN P w K mg base aB 3 CS "columns" ["self","table"] sp/\∀{H:Hp} {s:Addr} {nm:Str} {Q:VK},X.Inv H->X.M.ok s nm->(∀H' l,aG H H'->H l=none->H' l=some (.lst ((X.M.cols s nm).map V.str))->Q (.ref l) H')->sp [.ref s,.str nm] H Q E0
 cell:∃sp,aN P w K mg base aB dc CS "cell" ["self","table","column","place"] sp/\∀{H:Hp} {s:Addr} {nm c:Str} {p:Nat} {Q:VK},X.Inv H->X.M.ok s nm->c∈X.M.cols s nm->p<X.M.many s nm->(∀H' v,X.Inv H'->bM X.Free H H'->Pw K H' v (X.M.val s nm c p)->Q v H')->sp [.ref s,.str nm,.str c,.int (p:Int)] H Q E0
def zY(X:VC)(n k:Nat):Sp:=fun vs H Q _=>∃v:VW,vs= [.ref v.a] /\v.sh=k/\v.rk<=n/\X.At H v/\X.Inv H/\∀H' l,aG H H'->H l=none->H' l=some (.lst ((X.M.cols v.bs.1 v.bs.2).map V.str))->Q (.ref l) H'
def zL(X:VC)(n k:Nat):Sp:=fun vs H Q _=>∃v:VW,vs= [.ref v.a] /\v.sh=k/\v.rk<=n/\X.At H v/\X.Inv H/\∀H' l,X.Inv H'->bM X.Free H H'->H l=none->H' l=some (.lst (dA (v.rows X.M)))->Q (.ref l) H'
def spVa(K:Fg)(X:VC)(n k:Nat):Sp:=fun vs H Q _=>∃(v:VW) (c:Str) (p:Nat),vs= [.ref v.a,.str c,.int (p:Int)] /\v.sh=k/\v.rk<=n/\X.At H v/\X.Inv H/\c∈X.M.cols v.bs.1 v.bs.2/\p<X.M.many v.bs.1 v.bs.2/\∀H' y,X.Inv H'->bM X.Free H H'->Pw K H' y (X.M.val v.bs.1 v.bs.2 c p)->Q y H'
def zT(X:VC)(n k:Nat):Sp:=fun vs H Q _=>∃(v:VW) (c:Str) (p:Nat),vs= [.ref v.a,.str c,.int (p:Int)] /\v.sh=k/\v.rk<=n/\X.At H v/\X.Inv H/\∀H' l o dx,aG H H'->H l=none->H' l=some (.lst [.ref o])->H' o=some (.ins X.CO dx (pA v.bs.1 v.bs.2 c (p:Int)))->Q (.ref l) H'
def RD(X:VC)(sp:Nat->Sp):Addr->Sp->Prop:=fun C s=>∃k,k<2/\C=X.cls k/\s=sp k
structure jQ(P:Program)(w:World)(K:Fg)(mg:Str->Option Value)(base:Heap)(dc:Nat)(X:VC)(n:Nat):Prop where
 co:∀k,k<2->aN P w K mg base aB (4+ n) (X.cls k) "columns" ["self"] (zY X n k)
 ro:∀k,k<2->aN P w K mg base aB (dc+ 2+ n) (X.cls k) "rows" ["self"] (zL X n k)
 va:∀k,k<2->aN P w K mg base aB (dc+ 1+ n) (X.cls k) "value_at" ["self","column","row"] (spVa K X n k)
 sa:∀k,k<2->aN P w K mg base aB (3+ n) (X.cls k) "spots_at" ["self","column","row"] (zT X n k)
structure VT(K:Fg)(mg:Str->Option Value)(X:VC):Prop where
 W:rQ K mg X.CW
 U:qP K mg X.CU
 O:rF K mg X.CO
theorem VT.cl{X:VC}(Z:VT K mg X):∀k,bX K (X.cls k)
 |0=>Z.W.cl
 |_+ 1=>Z.U.cl
theorem b8N:aY ["self"] ["self"] (aF vD):=⟨rfl,rfl,rfl,by decide+kernel,rfl,by decide+kernel,by decide+kernel⟩
theorem pV{CS:Addr}{dc:Nat}{X:VC}(I:SI P w K mg base CS dc X)(cl:bX K CS)(Z:VT K mg X)(n:Nat):aN P w K mg base aB 4 X.CW "columns" ["self"] (zY X n 0):=by
 obtain⟨sp,G,use⟩:=I.cols
 refine Z.W.m_columns.known b8N (fun _ _ _ _ _ _ us hl=>dM (fun _=>rfl) us hl) (fun vs H Q E h=> ?_) (fun f cdv A outer s H vs Q E hr h=> ?_)
 ·obtain⟨v,rfl,_⟩:=h
  rfl
 ·obtain⟨v,rfl,hs,hk,hA,hI,q⟩:=h
  cases v with
  |sm _ _ _=>cases hs
  |whole a s' nm=>
   obtain⟨_,ok,_,dx,e⟩:=hA
   refine⟨_,(aI (bE (bW (aX (pv 0) rfl) cl G hr aM (aA (aX (pv 0) rfl) aE)))),?_⟩
   obtain⟨ds,bd,ch,fi,hs'⟩:=I.at_ hI ok
   obtain⟨w1,w2⟩:=a0K s' nm
   exact⟨_,rfl,a,X.CW,dx,_,_,rfl,e,Z.W.cl,Z.W.n_sheet,w1,s',ds,_,rfl,hs',eO,_,rfl,a,X.CW,dx,_,_,rfl,e,Z.W.cl,Z.W.n_name,w2,use hI ok fun H' l s1 hl hl'=>q H' l s1 hl hl'⟩
theorem b9l:aY ["self"] ["self"] (aF xM):=⟨rfl,rfl,rfl,by decide+kernel,rfl,by decide+kernel,by decide+kernel⟩
theorem b4d(m:Nat):eT 0 m=dA (List.range m):=by
 unfold eT dA
 exact List.map_congr_left fun x _=>by simp
theorem rK(T:aZ K mg){CS:Addr}{dc:Nat}{X:VC}(I:SI P w K mg base CS dc X)(cl:bX K CS)(Z:VT K mg X)(n:Nat):aN P w K mg base aB 4 X.CW "rows" ["self"] (zL X n 0):=by
 obtain⟨sp,G,use⟩:=I.many
 refine Z.W.m_rows.known b9l (fun _ _ _ _ _ _ us hl=>dM (fun _=>rfl) us hl) (fun vs H Q E h=> ?_) (fun f cdv A outer s H vs Q E hr h=> ?_)
 ·obtain⟨v,rfl,_⟩:=h
  rfl
 ·obtain⟨v,rfl,hs,hk,hA,hI,q⟩:=h
  cases v with
  |sm _ _ _=>cases hs
  |whole a s' nm=>
   obtain⟨_,ok,⟨b1,_⟩,dx,e⟩:=hA
   refine⟨_,(aI (bE (kP (b2J rfl) rfl T.list iR (aA (kP b3N rfl T.range b2z (aA (bW (aX (pv 0) rfl) cl G hr aM (aA (aX (pv 0) rfl) aE)) aE)) aE)))),?_⟩
   obtain⟨ds,bd,ch,fi,hs'⟩:=I.at_ hI ok
   obtain⟨w1,w2⟩:=a0K s' nm
   refine⟨_,rfl,a,X.CW,dx,_,_,rfl,e,Z.W.cl,Z.W.n_sheet,w1,s',ds,_,rfl,hs',eO,_,rfl,a,X.CW,dx,_,_,rfl,e,Z.W.cl,Z.W.n_name,w2,use hI ok fun H1 s1=> ?_⟩
   refine⟨(X.M.many s' nm:Int),rfl,fun g hg=>⟨g,0,(X.M.many s' nm:Int),rfl,aK,by omega,by omega,by omega,by omega,by omega,fun l hl=> ?_⟩⟩
   rw[Int.sub_zero,Int.toNat_natCast]
   have sg:=s1.trans (aG.new (o:=.rng 0 (X.M.many s' nm:Int)) hg)
   have sl':=sg.trans (aG.new (o:=.lst (eT 0 (X.M.many s' nm))) hl)
   exact q _ l (I.same hI sl') (bM.of sl') (fT sg hl) (by rw[aK,b4d];rfl)
theorem b5v:aY ["self","column","row"] ["self","column","row"] (aF sM):=⟨rfl,rfl,rfl,by decide+kernel,rfl,by decide+kernel,by decide+kernel⟩
theorem pU{CS:Addr}{dc:Nat}{X:VC}(I:SI P w K mg base CS dc X)(cl:bX K CS)(Z:VT K mg X)(n:Nat):aN P w K mg base aB (dc+ 1) X.CW "value_at" ["self","column","row"] (spVa K X n 0):=by
 obtain⟨sp,G,use⟩:=I.cell
 refine Z.W.m_value_at.known b5v (fun _ _ _ _ _ _ us hl=>dP (fun _ _ _=>rfl) us hl) (fun vs H Q E h=> ?_) (fun f cdv A outer s H vs Q E hr h=> ?_)
 ·obtain⟨v,c,p,rfl,_⟩:=h
  rfl
 ·obtain⟨v,c,p,rfl,hs,hk,hA,hI,hc,hp,q⟩:=h
  cases v with
  |sm _ _ _=>cases hs
  |whole a s' nm=>
   obtain⟨_,ok,_,dx,e⟩:=hA
   refine⟨_,(aI (bE (bW (aX (pv 0) rfl) cl G hr aM (aA (aX (pv 0) rfl) (aA (pv 1) (aA (pv 2) aE)))))),?_⟩
   obtain⟨ds,bd,ch,fi,hs'⟩:=I.at_ hI ok
   obtain⟨w1,w2⟩:=a0K s' nm
   exact⟨_,rfl,a,X.CW,dx,_,_,rfl,e,Z.W.cl,Z.W.n_sheet,w1,s',ds,_,rfl,hs',eO,_,rfl,a,X.CW,dx,_,_,rfl,e,Z.W.cl,Z.W.n_name,w2,_,rfl,_,rfl,use hI ok hc hp fun H' v i1 u1 pv=>q H' v i1 u1 pv⟩
theorem b7I:aY ["self","column","row"] ["self","column","row"] (aF vX):=⟨rfl,rfl,rfl,by decide+kernel,rfl,by decide+kernel,by decide+kernel⟩
theorem rA(T:aZ K mg){X:VC}(Z:VT K mg X)(n:Nat):aN P w K mg base aB 3 X.CW "spots_at" ["self","column","row"] (zT X n 0):=by
 have GI:dI P w K mg base aB 1 X.CO ["self","sheet","name","column","place"] (spOI X.CO):=tL T Z.O
 refine Z.W.m_spots_at.known b7I (fun _ _ _ _ _ _ us hl=>dP (fun _ _ _=>rfl) us hl) (fun vs H Q E h=> ?_) (fun f cdv A outer s H vs Q E hr h=> ?_)
 ·obtain⟨v,c,p,rfl,_⟩:=h
  rfl
 ·obtain⟨v,c,p,rfl,hs,hk,hA,hI,q⟩:=h
  cases v with
  |sm _ _ _=>cases hs
  |whole a s' nm=>
   obtain⟨_,ok,_,dx,e⟩:=hA
   refine⟨_,(aI (bE (gH (aA (jO GI hr Z.O.c aM (aA (aX (pv 0) rfl) (aA (aX (pv 0) rfl) (aA (pv 1) (aA (pv 2) aE))))) aE)))),?_⟩
   obtain⟨w1,w2⟩:=a0K s' nm
   refine⟨_,rfl,a,X.CW,dx,_,_,rfl,e,Z.W.cl,Z.W.n_sheet,w1,_,rfl,a,X.CW,dx,_,_,rfl,e,Z.W.cl,Z.W.n_name,w2,_,rfl,_,rfl,?_⟩
   intro o d0 ho hd0 ne
   refine⟨o,d0,s',nm,c,(p:Int),rfl,aK,fun H1 b1 e1=>⟨rfl,sl,fun l hl=> ?_⟩⟩
   have s1:aG H H1:=fun x o' e=>b1 _ _ (bD e ho) (by rw[aH (bD e ho),aH (bD e hd0)];exact e)
   have s2:=aG.new (o:=.lst [.ref o]) hl
   exact q _ l o d0 (s1.trans s2) (fT s1 hl) aK (s2 _ _ e1)
end
theorem b70{K:Fg}{cp:List (Nat×Str)}{tt:TT}{te:TE}{σ:St}{a:Addr}{xs:List V}{D:Addr}{Q:VK}{H1:Hp}(Pv:Nat->List V->Hp->Prop)(h0:Pv 0 [] (upd H1 D (.lst [])))
 (hl:∀i ys H,H D=some (.lst ys)->Pv i ys H->aL K H a xs)
 (hs:∀i x ys H,xs[i]?=some x->H D=some (.lst ys)->Pv i ys H->tt (some x::dE cp σ) H fun b H4=>if b=true then te (some x::dE cp σ) H4 (jE D Pv i ys) else∃ys',H4 D=some (.lst ys')/\Pv (i+ 1) ys' H4)
 (hd:∀ys H,H D=some (.lst ys)->Pv xs.length ys H->Q (.ref D) H):mN cp tt te σ (lV K a) D Q H1:=by
 refine⟨fun i m H=>m=xs.length- i/\i<=xs.length/\∃ys,H D=some (.lst ys)/\Pv i ys H,⟨xs.length,by simp,Nat.zero_le _,[],aK,h0⟩,?_⟩
 rintro i m H ⟨rfl,hi,ys,hD,p⟩
 by_cases hlt:i<xs.length
 ·refine .inr ⟨⟨xs,xs[i],hl i ys H hD p,by simp[hlt]⟩,jE D Pv i ys,fun H4=>∃ys',H4 D=some (.lst ys')/\Pv (i+ 1) ys' H4,fun y H5 ⟨h1,h2,h3⟩=>⟨ys,xs.length- (i+ 1),h1,h2,by omega,rfl,hlt,_,aK,h3⟩,fun H4 ⟨ys',h1,h2⟩=>⟨xs.length- (i+ 1),by omega,rfl,hlt,ys',h1,h2⟩,fun v H' y=> ?_⟩
  obtain⟨e,y⟩:=y
  subst e
  exact hs i v ys _ (y xs (hl i ys _ hD p)) hD p
 ·have e:i=xs.length:=by omega
  subst e
  exact .inl ⟨⟨xs,hl _ ys H hD p,Nat.le_refl _⟩,hd ys H hD p⟩
theorem b8k(f:Nat->Bool)(cs:List Nat)(i:Nat)(c:Nat)(h:cs[i]?=some c):(cs.take (i+ 1)).filter f=(cs.take i).filter f++ (if f c=true then [c] else []):=by
 rw[List.take_add_one,h,List.filter_append]
 congr 1
 show [c].filter f=_
 by_cases e:f c=true
 ·rw[if_pos e];simp[e]
 ·rw[if_neg e];simp[e]
section
variable{P:Program}{w:World}{K:Fg}{mg:Str->Option Value}{base:Heap}
theorem RD.at{X:VC}{sp:Nat->Sp}(v:VW):RD X sp (X.cls v.sh) (sp v.sh):=⟨v.sh,v.sh2,rfl,rfl⟩
theorem RD.k{X:VC}{sp:Nat->Sp}{d:Nat}{m:Str}{ps:List Str}(Z:VT K mg X)(h:∀k,k<2->aN P w K mg base aB d (X.cls k) m ps (sp k)):∀C s,RD X sp C s->bX K C/\aN P w K mg base aB d C m ps s:=fun C s ⟨k,hk,e1,e2⟩=>by
 subst e1 e2
 exact⟨Z.cl k,h k hk⟩
theorem b1e(i:Int):(!decide (V.int i=V.int 0))=gE (.int i):=by
 unfold gE
 rw[a8g]
 by_cases h:i=0<;>simp[h]
theorem b13{y:Str}(hy:Nl y):hV (.tuple [.str "fault",.str y])=true:=by
 show(decide (("fault":Str)= "fault")&&fI (.str y))=true
 rw[decide_eq_true rfl,Bool.true_and]
 exact Nl.name hy
theorem b3A:aY ["self"] ["self"] (aF qT):=⟨rfl,rfl,rfl,by decide+kernel,rfl,by decide+kernel,by decide+kernel⟩
theorem b50{X:VC}(Z:VT K mg X){dc n:Nat}(IH:jQ P w K mg base dc X n):aN P w K mg base aB (4+ (n+ 1)) X.CU "columns" ["self"] (zY X (n+ 1) 1):=by
 refine Z.U.m_columns.known b3A (fun _ _ _ _ _ _ us hl=>dM (fun _=>rfl) us hl) (fun vs H Q E h=> ?_) (fun f cdv A outer s H vs Q E hr h=> ?_)
 ·obtain⟨v,rfl,_⟩:=h
  rfl
 ·obtain⟨v,rfl,hs,hk,hA,hI,q⟩:=h
  cases v with
  |whole _ _ _=>cases hs
  |sm a v cn=>
   obtain⟨_,_,⟨dx,e⟩,hv⟩:=hA
   refine⟨_,(aI (bE (iQ (aX (pv 0) rfl) (RD.k Z IH.co) hr aM))),?_⟩
   obtain⟨u1,_⟩:=wQ v.a cn
   obtain⟨dv,fs,ev,no⟩:=hv.ins
   exact⟨_,rfl,a,X.CU,dx,_,_,rfl,e,Z.U.cl,Z.U.n_view,u1,_,_,v.a,dv,fs,RD.at v,rfl,ev,no _ (by decide+kernel),v,rfl,rfl,Nat.le_of_succ_le_succ hk,hv,hI,q⟩
theorem b3B:aY ["self","column","row"] ["self","column","row"] (aF qC):=⟨rfl,rfl,rfl,by decide+kernel,rfl,by decide+kernel,by decide+kernel⟩
theorem b4g{X:VC}(Z:VT K mg X){dc n:Nat}(IH:jQ P w K mg base dc X n):aN P w K mg base aB (dc+ 1+ (n+ 1)) X.CU "value_at" ["self","column","row"] (spVa K X (n+ 1) 1):=by
 refine Z.U.m_value_at.known b3B (fun _ _ _ _ _ _ us hl=>dP (fun _ _ _=>rfl) us hl) (fun vs H Q E h=> ?_) (fun f cdv A outer s H vs Q E hr h=> ?_)
 ·obtain⟨v,c,p,rfl,_⟩:=h
  rfl
 ·obtain⟨v,c,p,rfl,hs,hk,hA,hI,hc,hp,q⟩:=h
  cases v with
  |whole _ _ _=>cases hs
  |sm a v cn=>
   obtain⟨_,_,⟨dx,e⟩,hv⟩:=hA
   refine⟨_,(aI (bE (kF (aX (pv 0) rfl) (RD.k Z IH.va) hr aM (aA (pv 1) (aA (pv 2) aE))))),?_⟩
   obtain⟨u1,_⟩:=wQ v.a cn
   obtain⟨dv,fs,ev,no⟩:=hv.ins
   exact⟨_,rfl,a,X.CU,dx,_,_,rfl,e,Z.U.cl,Z.U.n_view,u1,_,_,v.a,dv,fs,RD.at v,rfl,ev,no _ (by decide+kernel),_,rfl,_,rfl,v,c,p,rfl,rfl,Nat.le_of_succ_le_succ hk,hv,hI,hc,hp,q⟩
theorem b3k:aY ["self","column","row"] ["self","column","row"] (aF rR):=⟨rfl,rfl,rfl,by decide+kernel,rfl,by decide+kernel,by decide+kernel⟩
theorem b7P{X:VC}(Z:VT K mg X){dc n:Nat}(IH:jQ P w K mg base dc X n):aN P w K mg base aB (3+ (n+ 1)) X.CU "spots_at" ["self","column","row"] (zT X (n+ 1) 1):=by
 refine Z.U.m_spots_at.known b3k (fun _ _ _ _ _ _ us hl=>dP (fun _ _ _=>rfl) us hl) (fun vs H Q E h=> ?_) (fun f cdv A outer s H vs Q E hr h=> ?_)
 ·obtain⟨v,c,p,rfl,_⟩:=h
  rfl
 ·obtain⟨v,c,p,rfl,hs,hk,hA,hI,q⟩:=h
  cases v with
  |whole _ _ _=>cases hs
  |sm a v cn=>
   obtain⟨_,_,⟨dx,e⟩,hv⟩:=hA
   refine⟨_,(aI (bE (kF (aX (pv 0) rfl) (RD.k Z IH.sa) hr aM (aA (pv 1) (aA (pv 2) aE))))),?_⟩
   obtain⟨u1,_⟩:=wQ v.a cn
   obtain⟨dv,fs,ev,no⟩:=hv.ins
   exact⟨_,rfl,a,X.CU,dx,_,_,rfl,e,Z.U.cl,Z.U.n_view,u1,_,_,v.a,dv,fs,RD.at v,rfl,ev,no _ (by decide+kernel),_,rfl,_,rfl,v,c,p,rfl,rfl,Nat.le_of_succ_le_succ hk,hv,hI,q⟩
def spHr(X:VC)(n:Nat):Sp:=fun vs H Q _=>∃(a:Addr) (v:VW) (cn:Str) (p:Nat),vs= [.ref a,.int (p:Int)] /\v.rk<=n/\X.At H (.sm a v cn)/\X.Inv H/\p<X.M.many v.bs.1 v.bs.2/\∀H',X.Inv H'->bM X.Free H H'->Q (.bl (gE (X.M.val v.bs.1 v.bs.2 cn p))) H'
theorem b16:aY ["self","row","value"] ["self","row"] (aF yB):=⟨rfl,rfl,rfl,by decide+kernel,rfl,by decide+kernel,by decide+kernel⟩
theorem yS(T:aZ K mg){CS:Addr}{dc:Nat}(hd:2<=dc){X:VC}(I:SI P w K mg base CS dc X)(Z:VT K mg X){n:Nat}(IH:jQ P w K mg base dc X n):aN P w K mg base aB (dc+ 1+ n+ 1) X.CU "has_row" ["self","row"] (spHr X n):=by
 have G_is_fault:bK P w K mg base aB 2 "is_fault" ["thing"] (zF K):=oA T
 refine Z.U.m_has_row.known b16 (fun _ _ _ _ _ _ us hl=>dJ (fun _ _=>rfl) us hl) (fun vs H Q E h=> ?_) (fun f cdv A outer s H vs Q E hr h=> ?_)
 ·obtain⟨a,v,cn,p,rfl,_⟩:=h
  rfl
 ·obtain⟨a,v,cn,p,rfl,hk,hA,hI,hp,q⟩:=h
  refine⟨_,(aJ (bV (i:=2) b16.nd rfl (Or.inl rfl) (kF (aX (pv 0) rfl) (RD.k Z IH.va) hr aM (aA (aX (pv 0) rfl) (aA (pv 1) aE))))
   (aI (bE (kE (a9r (bR G_is_fault (hr.mono (by omega)) aM (aA (pv 2) aE))) (mC (mD qM (pv 2) aW (cO _))))))),?_⟩
  obtain⟨_,hc,⟨dx,e⟩,hv⟩:=hA
  obtain⟨u1,u2,_⟩:=wQ v.a cn
  obtain⟨dv,fs,ev,no⟩:=hv.ins
  refine⟨_,rfl,a,X.CU,dx,_,_,rfl,e,Z.U.cl,Z.U.n_view,u1,_,_,v.a,dv,fs,RD.at v,rfl,ev,no _ (by decide+kernel),_,rfl,a,X.CU,dx,_,_,rfl,e,Z.U.cl,Z.U.n_column,u2,_,rfl,v,cn,p,rfl,rfl,hk,hv,hI,hc,hp,fun H1 y i1 f1 py=> ?_⟩
  have sv:=py.vd.short
  refine⟨_,rfl,y,_,rfl,py.dt,sv.1,fun H2 s2=> ?_⟩
  have q2:=q H2 (I.same i1 s2) (f1.trans (bM.of s2))
  generalize X.M.val v.bs.1 v.bs.2 cn p=d at py q2|-
  refine⟨_,rfl,_,rfl,?_⟩
  rcases py with(⟨i,rfl,rfl,hb⟩|⟨a',y',rfl,h,rfl,hy⟩)|⟨i,rfl,rfl,hb⟩|⟨a',rfl,rfl,h⟩
  ·exact cG ⟨_,rfl,rfl,by rw[b1e];exact q2⟩
  ·rw[b13 hy]
   exact bJ q2
  ·exact cG ⟨_,rfl,rfl,by rw[b1e];exact q2⟩
  ·rw[show oddD= .tuple [.str "fault",.str "odd"] from rfl,b13 a1Q]
   exact bJ q2
theorem b11:aY ["self"] ["self"] (aF mQ):=⟨rfl,rfl,rfl,by decide+kernel,rfl,by decide+kernel,by decide+kernel⟩
theorem wI(T:aZ K mg){CS:Addr}{dc:Nat}(hd:2<=dc){X:VC}(I:SI P w K mg base CS dc X)(Z:VT K mg X){n:Nat}(IH:jQ P w K mg base dc X n):aN P w K mg base aB (dc+ 2+ (n+ 1)) X.CU "rows" ["self"] (zL X (n+ 1) 1):=by
 have G_has:aN P w K mg base aB (dc+ 1+ n+ 1) X.CU "has_row" ["self","row"] (spHr X n):=yS T hd I Z IH
 rw[show dc+ 2+ (n+ 1)=dc+ 1+ n+ 1+ 1 by omega]
 refine Z.U.m_rows.known (k:=dc+ 1+ n+ 1) b11 (fun _ _ _ _ _ _ us hl=>dM (fun _=>rfl) us hl) (fun vs H Q E h=> ?_) (fun f cdv A outer s H vs Q E hr h=> ?_)
 ·obtain⟨v,rfl,_⟩:=h
  rfl
 ·obtain⟨v,rfl,hs,hk,hA,hI,q⟩:=h
  cases v with
  |whole _ _ _=>cases hs
  |sm a v cn=>
   have hcl:∀x,(dX aB P w K mg base ["self"] "Some.rows" (aF mQ) f cdv A outer s H E).nox.env.scope.names.lookup x=some .cell->∃c,(dX aB P w K mg base ["self"] "Some.rows" (aF mQ) f cdv A outer s H E).nox.env.cells.lookup x=some c:=fun x hx=>Option.isSome_iff_exists.mp (PySem.W.cellsFrom_some _ _ _ (.inl hx))
   refine⟨_,(aI (bE (lC (lP (sc:=aF mQ) (N:=["self"]) (cp:=[(0,"self")]) hcl) rfl rfl (by decide) (fL (iQ (aX (pv 0) rfl) (RD.k Z IH.ro) (hr.mono (by omega)) aM)) (fun _ _ _ _ _=>(b17 (cH (bW (pv 1) Z.U.cl G_has hr aM (aA (pv 0) aE)) (fun _=>rfl)))) (fun _ _ _ _ _=>(pv 0))))),?_⟩
   have hk:=Nat.le_of_succ_le_succ hk
   have hA':=hA
   obtain⟨fa,hc,⟨dx,e⟩,hv⟩:=hA
   obtain⟨u1,u2,u3⟩:=wQ v.a cn
   obtain⟨dv,fs,ev,no⟩:=hv.ins
   obtain⟨n1,n2,n3,n4⟩:=hv.num
   refine⟨_,rfl,a,X.CU,dx,_,_,rfl,e,Z.U.cl,Z.U.n_view,u1,_,_,v.a,dv,fs,RD.at v,rfl,ev,no _ (by decide+kernel),v,rfl,rfl,hk,hv,hI,fun H1 l i1 f1 hl e1=> ?_⟩
   have fl:=I.new hI hl
   refine⟨l,rfl,⟨_,aL.of e1⟩,fun D hD=> ?_⟩
   have fD:=I.new i1 hD
   refine b70 (K:=K) (a:=l) (xs:=dA (v.rows X.M)) (fun i ys H2=>X.Inv H2/\bM X.Free H1 H2/\ys=dA (((v.rows X.M).take i).filter fun r=>gE (X.M.val v.bs.1 v.bs.2 cn r))) ⟨I.same i1 (aG.new hD),bM.of (aG.new hD),rfl⟩ (by rintro i ys H2 _ ⟨_,f2,_⟩;exact aL.of (f2.k _ _ fl (fun _ y=>by cases y) e1)) ?_ ?_
   ·rintro i x ys H2 hx h2 ⟨i2,f2,rfl⟩
    unfold dA at hx
    rw[List.getElem?_map]at hx
    cases er:(v.rows X.M)[i]? with
    |none=>rw[er]at hx;cases hx
    |some r=>
     rw[er]at hx
     obtain rfl:=Option.some.inj hx
     have hr':=n4 r (List.mem_of_getElem? er)
     have f02:=f1.trans f2
     have hA2:X.At H2 (.sm a v cn):=VC.At.fr f02 hA'
     obtain⟨_,_,⟨dx2,e2⟩,_⟩:=id hA2
     refine⟨_,rfl,a,dx2,_,rfl,e2,u3,_,rfl,a,v,cn,r,rfl,hk,hA2,i2,hr',fun H3 i3 f3=>⟨_,rfl,?_⟩⟩
     have h3:=f3.k _ _ fD (fun _ y=>by cases y) h2
     have fs:=b8k (fun r=>gE (X.M.val v.bs.1 v.bs.2 cn r)) _ i r er
     cases eh:gE (X.M.val v.bs.1 v.bs.2 cn r)with
     |true=>
      rw[if_pos eh]at fs
      refine cG ⟨_,rfl,h3,cQ ?_,I.on i1 hD i3 h3,(f2.trans f3).on hD,?_⟩
      ·unfold dA
       rw[List.length_map]
       have h1:=List.length_filter_le (fun r=>gE (X.M.val v.bs.1 v.bs.2 cn r)) ((v.rows X.M).take i)
       rw[List.length_take]at h1
       omega
      ·rw[fs]
       unfold dA
       rw[List.map_append]
       rfl
     |false=>
      rw[if_neg (by rw[eh];exact Bool.false_ne_true)]at fs
      exact bJ ⟨_,h3,i3,f2.trans f3,by rw[fs,List.append_nil]⟩
   ·rintro ys H2 h2 ⟨i2,f2,rfl⟩
    have:(dA (v.rows X.M)).length=(v.rows X.M).length:=by unfold dA;rw[List.length_map]
    rw[this,List.take_length]at h2
    exact q H2 D i2 (f1.trans f2) (f1.back hD) h2
end
theorem nJ(rs:List Nat):(dA rs).length=rs.length:=by unfold dA;rw[List.length_map]
section
variable{P:Program}{w:World}{K:Fg}{mg:Str->Option Value}{base:Heap}
theorem b3a{X:VC}{k:Nat}(hk:k≠0):∀vs H Q E,¬zY X 0 k vs H Q E:=fun vs H Q E ⟨v,_,hs,hr,_⟩=>by
 cases v with
 |whole _ _ _=>exact hk hs.symm
 |sm _ v _=>exact absurd hr (Nat.not_succ_le_zero _)
theorem b3K{X:VC}{k:Nat}(hk:k≠0):∀vs H Q E,¬zL X 0 k vs H Q E:=fun vs H Q E ⟨v,_,hs,hr,_⟩=>by
 cases v with
 |whole _ _ _=>exact hk hs.symm
 |sm _ v _=>exact absurd hr (Nat.not_succ_le_zero _)
theorem b1G{X:VC}{k:Nat}(hk:k≠0):∀vs H Q E,¬spVa K X 0 k vs H Q E:=fun vs H Q E ⟨v,_,_,_,hs,hr,_⟩=>by
 cases v with
 |whole _ _ _=>exact hk hs.symm
 |sm _ v _=>exact absurd hr (Nat.not_succ_le_zero _)
theorem b2t{X:VC}{k:Nat}(hk:k≠0):∀vs H Q E,¬zT X 0 k vs H Q E:=fun vs H Q E ⟨v,_,_,_,hs,hr,_⟩=>by
 cases v with
 |whole _ _ _=>exact hk hs.symm
 |sm _ v _=>exact absurd hr (Nat.not_succ_le_zero _)
theorem vk3(T:aZ K mg){CS:Addr}{dc:Nat}(hd:2<=dc){X:VC}(I:SI P w K mg base CS dc X)(cl:bX K CS)(Z:VT K mg X):∀n,jQ P w K mg base dc X n
 |0=>by
  refine⟨fun k hk=> ?_,fun k hk=> ?_,fun k hk=> ?_,fun k hk=> ?_⟩
  ·match k,hk with
   |0,_=>exact pV I cl Z 0
   |1,_=>exact Z.U.m_columns.known (k:=3) b3A (fun _ _ _ _ _ _ us hl=>dM (fun _=>rfl) us hl) (fun vs H Q E h=>absurd h (b3a (by decide) _ _ _ _)) (fun f cdv A outer s H vs Q E hr h=>absurd h (b3a (by decide) _ _ _ _))
  ·match k,hk with
   |0,_=>exact(rK T I cl Z 0).le (by omega)
   |1,_=>exact Z.U.m_rows.known (k:=dc+ 1) b11 (fun _ _ _ _ _ _ us hl=>dM (fun _=>rfl) us hl) (fun vs H Q E h=>absurd h (b3K (by decide) _ _ _ _)) (fun f cdv A outer s H vs Q E hr h=>absurd h (b3K (by decide) _ _ _ _))
  ·match k,hk with
   |0,_=>exact pU I cl Z 0
   |1,_=>exact Z.U.m_value_at.known (k:=dc) b3B (fun _ _ _ _ _ _ us hl=>dP (fun _ _ _=>rfl) us hl) (fun vs H Q E h=>absurd h (b1G (by decide) _ _ _ _)) (fun f cdv A outer s H vs Q E hr h=>absurd h (b1G (by decide) _ _ _ _))
  ·match k,hk with
   |0,_=>exact rA T Z 0
   |1,_=>exact Z.U.m_spots_at.known (k:=2) b3k (fun _ _ _ _ _ _ us hl=>dP (fun _ _ _=>rfl) us hl) (fun vs H Q E h=>absurd h (b2t (by decide) _ _ _ _)) (fun f cdv A outer s H vs Q E hr h=>absurd h (b2t (by decide) _ _ _ _))
 |n+ 1=>by
  have IH:=vk3 T hd I cl Z n
  refine⟨fun k hk=> ?_,fun k hk=> ?_,fun k hk=> ?_,fun k hk=> ?_⟩
  ·match k,hk with
   |0,_=>exact(pV I cl Z (n+ 1)).le (by omega)
   |1,_=>exact b50 Z IH
  ·match k,hk with
   |0,_=>exact(rK T I cl Z (n+ 1)).le (by omega)
   |1,_=>exact wI T hd I Z IH
  ·match k,hk with
   |0,_=>exact(pU I cl Z (n+ 1)).le (by omega)
   |1,_=>exact b4g Z IH
  ·match k,hk with
   |0,_=>exact(rA T Z (n+ 1)).le (by omega)
   |1,_=>exact b7P Z IH
structure VG(K:Fg)(X:VC)(k:Nat):Prop where
 many:bA K (X.cls k) "many" "View.many" mZ
 look:bA K (X.cls k) "look" "View.look" mX
 shown:bA K (X.cls k) "shown" "View.shown" jZ
 spots:bA K (X.cls k) "spots" "View.spots" mI
 asked:bA K (X.cls k) "asked_row" "View.asked_row" mO
theorem VT.g{X:VC}(Z:VT K mg X):∀k,VG K X k
 |0=>⟨Z.W.m_many,Z.W.m_look,Z.W.m_shown,Z.W.m_spots,Z.W.m_asked_row⟩
 |_+ 1=>⟨Z.U.m_many,Z.U.m_look,Z.U.m_shown,Z.U.m_spots,Z.U.m_asked_row⟩
def vP(X:VC)(n:Nat):Sp:=fun vs H Q _=>∃v:VW,vs= [.ref v.a] /\v.rk<=n/\X.At H v/\X.Inv H/\∀H',X.Inv H'->bM X.Free H H'->Q (.int ((v.rows X.M).length:Int)) H'
theorem b8b:aY ["self"] ["self"] (aF mZ):=⟨rfl,rfl,rfl,by decide+kernel,rfl,by decide+kernel,by decide+kernel⟩
theorem nU(T:aZ K mg){X:VC}(Z:VT K mg X){dc n:Nat}(N:jQ P w K mg base dc X n)(k:Nat):aN P w K mg base aB (dc+ 2+ n+ 1) (X.cls k) "many" ["self"] (vP X n):=by
 refine(Z.g k).many.known b8b (fun _ _ _ _ _ _ us hl=>dM (fun _=>rfl) us hl) (fun vs H Q E h=> ?_) (fun f cdv A outer s H vs Q E hr h=> ?_)
 ·obtain⟨v,rfl,_⟩:=h
  rfl
 ·obtain⟨v,rfl,hk,hv,hI,q⟩:=h
  refine⟨_,(aI (bE (cD fX rfl T.len fJ (aA (iQ (pv 0) (RD.k Z N.ro) hr aM) aE)))),?_⟩
  obtain⟨dv,fs,ev,no⟩:=hv.ins
  refine⟨_,rfl,_,_,v.a,dv,fs,RD.at v,rfl,ev,no _ (by decide+kernel),v,rfl,rfl,hk,hv,hI,fun H1 l i1 f1 hl e1=>⟨.ref l,_,rfl,.inl ⟨_,aL.of e1,rfl⟩,?_⟩⟩
  rw[nJ]
  exact q H1 i1 f1
def vY(X:VC)(n:Nat):Sp:=fun vs H Q _=>∃(v:VW) (c:Str) (p:Nat),vs= [.ref v.a,.str c,.int (p:Int)] /\v.rk<=n/\X.At H v/\X.Inv H/\c∈X.M.cols v.bs.1 v.bs.2/\p<(v.rows X.M).length/\∀H' r,X.Inv H'->bM X.Free H H'->(v.rows X.M)[p]?=some r->Q (.int (r:Int)) H'
theorem b1r:aY ["self","column","place","rows"] ["self","column","place"] (aF mO):=⟨rfl,rfl,rfl,by decide+kernel,rfl,by decide+kernel,by decide+kernel⟩
theorem b3T(T:aZ K mg){CS:Addr}{dc:Nat}{X:VC}(hd:4<=dc)(I:SI P w K mg base CS dc X)(Z:VT K mg X){n:Nat}(N:jQ P w K mg base dc X n)(k:Nat):aN P w K mg base aB (dc+ 2+ n+ 1) (X.cls k) "asked_row" ["self","column","place"] (vY X n):=by
 have G_col:bK P w K mg base aB 1 "check_column" ["column","columns"] (xG K):=nH T
 have G_pl:bK P w K mg base aB 2 "check_place" ["place","places"] uK:=mJ T
 refine(Z.g k).asked.known b1r (fun _ _ _ _ _ _ us hl=>dP (fun _ _ _=>rfl) us hl) (fun vs H Q E h=> ?_) (fun f cdv A outer s H vs Q E hr h=> ?_)
 ·obtain⟨v,c,p,rfl,_⟩:=h
  rfl
 ·obtain⟨v,c,p,rfl,hk,hv,hI,hc,hp,q⟩:=h
  refine⟨_,(aJ (bZ (bR G_col (hr.mono (by omega)) aM (aA (pv 1) (aA (iQ (pv 0) (RD.k Z N.co) (hr.mono (by omega)) aM) aE))))
   (aJ (bV (i:=3) b1r.nd rfl (Or.inl rfl) (iQ (pv 0) (RD.k Z N.ro) hr aM))
   (aJ (bZ (bR G_pl (hr.mono (by omega)) aM (aA (pv 2) (aA (cD fX rfl T.len fJ (aA (pv 3) aE)) aE))))
   (aI (bE (bP dD (pv 3) (pv 2) (fun _ _=>rfl))))))),?_⟩
  obtain⟨dv,fs,ev,no⟩:=hv.ins
  refine⟨_,rfl,_,rfl,_,_,v.a,dv,fs,RD.at v,rfl,ev,no _ (by decide+kernel),v,rfl,rfl,hk,hv,hI,fun H1 l1 s1 hl1 e1=> ?_⟩
  have hv1:=hv.fr (bM.of s1)
  refine⟨c,l1,_,rfl,e1,hc,?_⟩
  refine⟨_,rfl,_,_,v.a,dv,fs,RD.at v,rfl,s1 _ _ ev,no _ (by decide+kernel),v,rfl,rfl,hk,hv1,I.same hI s1,fun H2 l2 i2 f2 hl2 e2=> ?_⟩
  obtain⟨r,r1⟩:∃r,(v.rows X.M)[p]?=some r:=⟨_,List.getElem?_eq_getElem hp⟩
  have r2:(dA (v.rows X.M))[p]?=some (.int (r:Int)):=by unfold dA;rw[List.getElem?_map,r1];rfl
  refine⟨_,rfl,_,rfl,.ref l2,_,rfl,.inl ⟨_,aL.of e2,rfl⟩,p,(dA (v.rows X.M)).length,rfl,by rw[nJ];exact hp,?_⟩
  exact⟨_,rfl,_,rfl,l2,_,(p:Int),_,rfl,rfl,aL.of e2,eQ r2,q H2 r i2 ((bM.of s1).trans f2) r1⟩
def spLo(K:Fg)(X:VC)(n:Nat):Sp:=fun vs H Q _=>∃(v:VW) (c:Str) (p:Nat),vs= [.ref v.a,.str c,.int (p:Int)] /\v.rk<=n/\X.At H v/\X.Inv H/\c∈X.M.cols v.bs.1 v.bs.2/\p<(v.rows X.M).length/\∀H' y r,X.Inv H'->bM X.Free H H'->(v.rows X.M)[p]?=some r->Pw K H' y (X.M.val v.bs.1 v.bs.2 c r)->Q y H'
theorem b5t:aY ["self","column","place"] ["self","column","place"] (aF mX):=⟨rfl,rfl,rfl,by decide+kernel,rfl,by decide+kernel,by decide+kernel⟩
theorem nS(T:aZ K mg){CS:Addr}{dc:Nat}{X:VC}(hd:4<=dc)(I:SI P w K mg base CS dc X)(Z:VT K mg X){n:Nat}(N:jQ P w K mg base dc X n)(k:Nat):aN P w K mg base aB (dc+ 2+ n+ 1+ 1) (X.cls k) "look" ["self","column","place"] (spLo K X n):=by
 have GA:∀k,k<2->aN P w K mg base aB (dc+ 2+ n+ 1) (X.cls k) "asked_row" ["self","column","place"] (vY X n):=fun k _=>b3T T hd I Z N k
 refine(Z.g k).look.known b5t (fun _ _ _ _ _ _ us hl=>dP (fun _ _ _=>rfl) us hl) (fun vs H Q E h=> ?_) (fun f cdv A outer s H vs Q E hr h=> ?_)
 ·obtain⟨v,c,p,rfl,_⟩:=h
  rfl
 ·obtain⟨v,c,p,rfl,hk,hv,hI,hc,hp,q⟩:=h
  refine⟨_,(aI (bE (kF (pv 0) (RD.k Z N.va) (hr.mono (by omega)) aM (aA (pv 1) (aA (kF (R:=RD X fun _=>vY X n) (pv 0) (RD.k Z GA) hr aM (aA (pv 1) (aA (pv 2) aE))) aE))))),?_⟩
  obtain⟨dv,fs,ev,no⟩:=hv.ins
  refine⟨_,rfl,_,_,v.a,dv,fs,RD.at v,rfl,ev,no _ (by decide+kernel),_,rfl,_,rfl,_,_,v.a,dv,fs,RD.at v,rfl,ev,no _ (by decide+kernel),_,rfl,_,rfl,v,c,p,rfl,hk,hv,hI,hc,hp,fun H1 r i1 f1 hr1=> ?_⟩
  exact⟨v,c,r,rfl,rfl,hk,hv.fr f1,i1,hc,hv.num.2.2.2 r (List.mem_of_getElem? hr1),fun H2 y i2 f2 py=>q H2 y r i2 (f1.trans f2) hr1 py⟩
def spSh(K:Fg)(X:VC)(n:Nat):Sp:=fun vs H Q _=>∃(v:VW) (c:Str),vs= [.ref v.a,.str c] /\v.rk<=n/\X.At H v/\X.Inv H/\c∈X.M.cols v.bs.1 v.bs.2/\∀H' l ys,X.Inv H'->bM X.Free H H'->H l=none->H' l=some (.lst ys)->cZ K H' ys ((v.rows X.M).map (X.M.val v.bs.1 v.bs.2 c))->Q (.ref l) H'
theorem b9U:aY ["self","column"] ["self","column"] (aF jZ):=⟨rfl,rfl,rfl,by decide+kernel,rfl,by decide+kernel,by decide+kernel⟩
theorem oG(T:aZ K mg){CS:Addr}{dc:Nat}{X:VC}(hd:4<=dc)(I:SI P w K mg base CS dc X)(Z:VT K mg X){n:Nat}(N:jQ P w K mg base dc X n)(k:Nat):aN P w K mg base aB (dc+ 2+ n+ 1) (X.cls k) "shown" ["self","column"] (spSh K X n):=by
 have G_col:bK P w K mg base aB 1 "check_column" ["column","columns"] (xG K):=nH T
 refine(Z.g k).shown.known b9U (fun _ _ _ _ _ _ us hl=>dJ (fun _ _=>rfl) us hl) (fun vs H Q E h=> ?_) (fun f cdv A outer s H vs Q E hr h=> ?_)
 ·obtain⟨v,c,rfl,_⟩:=h
  rfl
 ·obtain⟨v,c,rfl,hk,hv,hI,hc,q⟩:=h
  have hcl:∀x,(dX aB P w K mg base ["self","column"] "View.shown" (aF jZ) f cdv A outer s H E).nox.env.scope.names.lookup x=some .cell->∃c,(dX aB P w K mg base ["self","column"] "View.shown" (aF jZ) f cdv A outer s H E).nox.env.cells.lookup x=some c:=fun x hx=>Option.isSome_iff_exists.mp (PySem.W.cellsFrom_some _ _ _ (.inl hx))
  refine⟨_,(aJ (bZ (bR G_col (hr.mono (by omega)) aM (aA (pv 1) (aA (iQ (pv 0) (RD.k Z N.co) (hr.mono (by omega)) aM) aE))))
   (aI (bE (lC (lP (sc:=aF jZ) (N:=["self","column"]) (cp:=[(1,"column"),(0,"self")]) hcl) rfl rfl (by decide) (fL (iQ (pv 0) (RD.k Z N.ro) (hr.mono (by omega)) aM)) (fun _ _ _ _ _=>kK) (fun _ _ _ _ _=>(kF (pv 2) (RD.k Z N.va) (hr.mono (by omega)) aM (aA (pv 1) (aA (pv 0) aE)))))))),?_⟩
  obtain⟨dv,fs,ev,no⟩:=hv.ins
  refine⟨_,rfl,_,rfl,_,_,v.a,dv,fs,RD.at v,rfl,ev,no _ (by decide+kernel),v,rfl,rfl,hk,hv,hI,fun H1 l1 s1 hl1 e1=> ?_⟩
  have hv1:=hv.fr (bM.of s1)
  have i1:=I.same hI s1
  refine⟨c,l1,_,rfl,e1,hc,?_⟩
  refine⟨_,rfl,_,_,v.a,dv,fs,RD.at v,rfl,s1 _ _ ev,no _ (by decide+kernel),v,rfl,rfl,hk,hv1,i1,fun H2 l2 i2 f2 hl2 e2=> ?_⟩
  have hn:=hv.num.2.1
  have f02:=(bM.of s1).trans f2
  have fl2:=I.new i1 hl2
  refine⟨l2,rfl,⟨_,aL.of e2⟩,fun D hD=> ?_⟩
  refine qJ (K:=K) (a:=l2) (xs:=dA (v.rows X.M)) (fun i ys H3=>X.Inv H3/\bM X.Free H2 H3/\ys.length=i/\cZ K H3 ys (((v.rows X.M).take i).map (X.M.val v.bs.1 v.bs.2 c))) ⟨I.same i2 (aG.new hD),bM.of (aG.new hD),rfl,.nil⟩ (by rintro i ys H3 _ ⟨_,f3,_⟩;exact aL.of (f3.k _ _ fl2 (fun _ y=>by cases y) e2)) ?_ ?_
  ·rintro i x ys H3 hr3 h3 ⟨i3,f3,l3,pv⟩
   unfold dA at hr3
   rw[List.getElem?_map]at hr3
   cases er:(v.rows X.M)[i]? with
   |none=>rw[er]at hr3;cases hr3
   |some r=>
    rw[er]at hr3
    obtain rfl:=Option.some.inj hr3
    have hi:i<(v.rows X.M).length:=(List.getElem?_eq_some_iff.mp er).1
    have hv3:=hv.fr (f02.trans f3)
    obtain⟨dv3,fs3,ev3,no3⟩:=hv3.ins
    refine⟨_,rfl,_,_,v.a,dv3,fs3,RD.at v,rfl,ev3,no3 _ (by decide+kernel),_,rfl,_,rfl,v,c,r,rfl,rfl,hk,hv3,i3,hc,hv.num.2.2.2 r (List.mem_of_getElem? er),fun H4 y i4 f4 py=> ?_⟩
    have h4D:=f4.k _ _ (I.new i2 hD) (fun _ y=>by cases y) h3
    have kt5:bS H4 (upd H4 D (.lst (ys++ [y]))):=fun b xs eb=>by
     rw[aH (fun z=>by rw[z,h4D]at eb;cases eb)]
     exact eb
    refine⟨h4D,cQ (by omega),I.on i2 hD i4 h4D,(f3.trans f4).on hD,by rw[List.length_append,l3];rfl,?_⟩
    rw[List.take_add_one,er,List.map_append]
    exact cZ.snoc (py.keep kt5) ((pv.keep f4.kt).keep kt5)
  ·rintro ys H3 h3 ⟨i3,f3,l3,pv⟩
   rw[nJ,List.take_length]at pv
   exact q H3 D ys i3 (f02.trans f3) (f02.back hD) h3 pv
def spSp(X:VC)(n:Nat):Sp:=fun vs H Q _=>∃(v:VW) (c:Str) (p:Nat),vs= [.ref v.a,.str c,.int (p:Int)] /\v.rk<=n/\X.At H v/\X.Inv H/\c∈X.M.cols v.bs.1 v.bs.2/\p<(v.rows X.M).length/\∀H' l t r,X.Inv H'->bM X.Free H H'->H l=none->H' l=some (.lst [.ref t])->(v.rows X.M)[p]?=some r->H' t=some (.tup [.str v.bs.2,.str c,.int (r:Int)])->Q (.ref l) H'
theorem b7z:aY ["self","column","place"] ["self","column","place"] (aF mI):=⟨rfl,rfl,rfl,by decide+kernel,rfl,by decide+kernel,by decide+kernel⟩
theorem oE(T:aZ K mg){CS:Addr}{dc:Nat}{X:VC}(hd:4<=dc)(I:SI P w K mg base CS dc X)(Z:VT K mg X){n:Nat}(N:jQ P w K mg base dc X n)(k:Nat):aN P w K mg base aB (dc+ 2+ n+ 1+ 1) (X.cls k) "spots" ["self","column","place"] (spSp X n):=by
 have GA:∀k,k<2->aN P w K mg base aB (dc+ 2+ n+ 1) (X.cls k) "asked_row" ["self","column","place"] (vY X n):=fun k _=>b3T T hd I Z N k
 have GT:aN P w K mg base aB 1 X.CO "told" ["self"] (b2d X.CO):=xY T Z.O
 refine(Z.g k).spots.known b7z (fun _ _ _ _ _ _ us hl=>dP (fun _ _ _=>rfl) us hl) (fun vs H Q E h=> ?_) (fun f cdv A outer s H vs Q E hr h=> ?_)
 ·obtain⟨v,c,p,rfl,_⟩:=h
  rfl
 ·obtain⟨v,c,p,rfl,hk,hv,hI,hc,hp,q⟩:=h
  refine⟨_,(aI (bE (lC oT rfl rfl (by decide) (fL (kF (pv 0) (RD.k Z N.sa) (hr.mono (by omega)) aM (aA (pv 1) (aA (kF (R:=RD X fun _=>vY X n) (pv 0) (RD.k Z GA) hr aM (aA (pv 1) (aA (pv 2) aE))) aE)))) (fun _ _ _ _ _=>kK) (fun _ _ _ _ _=>(lJ (pv 0) Z.O.cl GT (hr.mono (by omega)) aM))))),?_⟩
  obtain⟨dv,fs,ev,no⟩:=hv.ins
  refine⟨_,rfl,_,_,v.a,dv,fs,RD.at v,rfl,ev,no _ (by decide+kernel),_,rfl,_,rfl,_,_,v.a,dv,fs,RD.at v,rfl,ev,no _ (by decide+kernel),_,rfl,_,rfl,v,c,p,rfl,hk,hv,hI,hc,hp,fun H1 r i1 f1 hr1=> ?_⟩
  refine⟨v,c,r,rfl,rfl,hk,hv.fr f1,i1,fun H2 l2 o d2 s2 hl2 e2 o2=> ?_⟩
  have i2:=I.same i1 s2
  have f2:=f1.trans (bM.of s2)
  refine⟨l2,rfl,⟨_,aL.of e2⟩,fun D hD=> ?_⟩
  refine qJ (K:=K) (a:=l2) (xs:=[.ref o]) (fun i ys H3=>aG H2 H3/\ys.length=i/\(0<i->∃t,ys= [.ref t] /\H3 t=some (.tup [.str v.bs.2,.str c,.int (r:Int)]))) ⟨aG.new hD,rfl,fun h=>absurd h (by decide)⟩ (by rintro i ys H3 _ ⟨s3,_⟩;exact aL.of (s3 _ _ e2)) ?_ ?_
  ·rintro i z ys H3 hz h3 ⟨s3,l3,_⟩
   have hi:i<1:=(List.getElem?_eq_some_iff.mp hz).1
   obtain rfl:i=0:=by omega
   obtain rfl:=Option.some.inj hz
   refine⟨_,rfl,o,d2,_,rfl,s3 _ _ o2,(b3I _ _ _ _).2.2.2,o,d2,_,_,_,_,rfl,s3 _ _ o2,fun t ht=> ?_⟩
   have s4:=aG.new (o:=.tup [.str v.bs.2,.str c,.int (r:Int)]) ht
   have t4:upd H3 t (.tup [.str v.bs.2,.str c,.int (r:Int)]) t=some (.tup [.str v.bs.2,.str c,.int (r:Int)]):=aK
   generalize upd H3 t (.tup [.str v.bs.2,.str c,.int (r:Int)])=H4 at s4 t4|-
   have h4:=s4 _ _ h3
   have e0:ys= []:=List.length_eq_zero_iff.mp l3
   subst e0
   refine⟨h4,cQ (by decide),(s3.trans s4).on hD,rfl,fun _=>⟨t,rfl,?_⟩⟩
   rw[aH (fun y=>by rw[y,h4]at t4;cases t4)]
   exact t4
  ·rintro ys H3 h3 ⟨s3,l3,ok⟩
   obtain⟨t,rfl,t3⟩:=ok (show 0<1 by decide)
   exact q H3 D t r (I.same i2 s3) (f2.trans (bM.of s3)) (f2.back hD) h3 hr1 t3
end
def qV(P:Program)(w:World)(K:Fg)(mg:Str->Option Value)(base:Heap)(CF CB CT CG zt:Addr)(spg:Sp):Sp:=fun vs H Q E=>(zB CF CB CT vs H Q E\/ a0z CF CB CT vs H Q E)\/ zS P w K mg base CF CB CT CG zt spg vs H Q E
section
variable{P:Program}{w:World}{K:Fg}{mg:Str->Option Value}{base:Heap}
theorem b2P{CF CB CT CG zt:Addr}{spg:Sp}:jV (qV P w K mg base CF CB CT CG zt spg):=fun vs H Q Q' hQ h=>by
 rcases h with(h|h)|h
 ·exact .inl (.inl (b6g vs H Q Q' hQ h))
 ·exact .inl (.inr (b9b vs H Q Q' hQ h))
 ·exact .inr (b6M vs H Q Q' hQ h)
theorem b2I(T:aZ K mg){CR CF CB CT CG:Addr}(R:lG K mg CR)(Y:eM K mg CF)(Wb:cU K mg CB)(U:dO K mg CT)(Gr:yH K CG){z:Addr×Addr}(B2:jR K mg "Finder" "gathered" "Finder.gathered" eY z)(M:iN mg base z.1 z.2){spg:Sp}(G_gather:aN P w K mg base aB 8 CG "gather" ["self","look","many","table","column","place"] spg):aN P w K mg base aB 10 CF "attempt" ["self","cell"] (qV P w K mg base CF CB CT CG z.2 spg):=
 (((b7D T Y Wb).le (by decide)).or ((b7y T Y Wb U).le (by decide))|>.or (b9K T R Y Wb U Gr B2 M G_gather)).known Y.m_attempt (fun _ _ _ _ _ _ us hl=>dJ (fun _ _=>rfl) us hl)
theorem a2U{CS CF CB CT:Addr}{sp sp':Sp}(h:∀vs H Q,sp vs H Q E0->sp' vs H Q E0){vs:List V}{H:Hp}{Q:VK}(g:kW CS CF CB CT (jG CF sp) vs H Q E0):kW CS CF CB CT (jG CF sp') vs H Q E0:=by
 obtain⟨s,bd,ch,fi,df,kb,nm,t,p,B,fs,e,a1,a2,a3,a4,a5,a6,q⟩:=g
 refine⟨s,bd,ch,fi,df,kb,nm,t,p,B,fs,e,a1,a2,a3,a4,a5,a6,fun H1 ce x1 x2 x3=> ?_⟩
 obtain⟨fi',ce',bd',fd,lk,d0,ky,b1,b2,q2⟩:=q H1 ce x1 x2 x3
 exact⟨fi',ce',bd',fd,lk,d0,ky,b1,b2,fun H2 wl y1 y2 y3=>h _ _ _ (q2 H2 wl y1 y2 y3)⟩
def iU(g:List Int->PyData)(d:PyData):PyData:=match gR [d] []with
 | .inl d=>d
 | .inr is=>gI (g is)
def nZ(m:Nat)(mk:List (aC×V)):Prop:=(mk.map (·.1)).Nodup/\∀k∈mk.map (·.1),k∈(List.range m).map fun(i:Nat)=>(.inl (i:Int):aC)
theorem nZ.len{m:Nat}{mk:List (aC×V)}(h:nZ m mk):mk.length<=m:=by
 have:=a3B h.1 h.2
 rwa [List.length_map,List.length_map,List.length_range]at this
theorem nZ.put{m:Nat}{mk:List (aC×V)}{p:Nat}{v:V}(h:nZ m mk)(hp:p<m)(hn:aO mk (.inl (p:Int):aC)=none):nZ m (aT mk (.inl (p:Int):aC) v):=by
 refine⟨b1z v h.1 hn,fun k hk=> ?_⟩
 rw[a1u v hn,List.map_append]at hk
 rcases List.mem_append.mp hk with hk|hk
 ·exact h.2 k hk
 ·rw[List.mem_singleton.mp hk]
  exact List.mem_map.mpr ⟨p,List.mem_range.mpr hp,rfl⟩
structure FlS(K:Fg)(CS CF CB CT CG:Addr)(Hz:Hp)(X:gK)(s ch:Addr)(kb:List (aC×V))(m:Nat)(src:Str)(nl:Addr)(dv:Str->List PyData):Prop where
 go:oB X
 tab:X.tabs= [(X.nm,X.B)]
 xs:X.B.xs=eT 0 m
 m30:m<=30
 sh:iV CS CB CT s X.bd ch X.fi kb X.nm X.B Hz
 fin:∃df,Hz X.fi=some (.ins CF df (fY X.bd X.fd X.lk))
 gr:∃dx,Hz X.gr=some (.ins CG dx (gX nl X.fa))
 fs:X.fs=gX nl X.fa
 nl:Hz nl=some (.lst ([src].map V.str))
 ca:∃cs,Hz X.ca=some (.lst cs)/\cs.length<900
 nn:Hz X.fd=none/\Hz X.lk=none/\Hz X.mc=none
 ok:∀i,X.ok [i]
 nc:Nl X.c/\X.c∈X.B.ord
 ord:∀c∈X.B.ord,c=X.c\/ (c≠X.c/\Nl c/\∃ys,X.gv X.nm c=some ys)
 gvs:∀t c ys,X.gv t c=some ys->t=X.nm/\ys.length=m/\cI K Hz ys (dv c)/\∃l,aO X.B.kvs (.inr c:aC)=some (.ref l)/\Hz l=some (.lst ys)
 src:∃ys,X.gv X.nm src=some ys
def nF(K:Fg)(zt:Addr)(Hz:Hp)(X:gK)(m:Nat)(src:Str)(dv:Str->List PyData)(H:Hp):Prop:=aG Hz H/\gQ jK H zt/\∃(kf kl:List (Ky×V)) (mk:List (aC×V)),H X.fd=some (.dT kf)/\H X.lk=some (.dT kl)/\H X.mc=some (.dK mk)/\eE X.Ks kf/\eE X.Ks kl/\nZ m mk/\
 (∀t c p v ys,X.gv t c=some ys->aO kf (aU t c p)=some v->bY ys (p:Int)=some v)/\
 ∀p:Nat,p<m->(aO kf (aU X.nm X.c p)=none->aO mk (.inl (p:Int):aC)=none)/\∀v,aO kf (aU X.nm X.c p)=some v->Pw K Hz v (iU X.g ((dv src).getD p .none))
noncomputable def MF (X:gK) (s:Addr) (m:Nat) (src:Str) (dv:Str->List PyData):SM where
 ok:=fun s' t=>s'=s/\t=X.nm
 cols:=fun _ _=>X.B.ord
 many:=fun _ _=>m
 val:=fun _ _ c p=>if c=X.c then iU X.g ((dv src).getD p .none) else(dv c).getD p .none
theorem b4m{m p:Nat}(h:p<m):bY (eT 0 m) (p:Int)=some (.int (p:Int)):=by
 refine eQ ?_
 unfold eT
 rw[List.getElem?_map,List.getElem?_range h]
 show some (V.int (0+ (p:Int)))=_
 rw[Int.zero_add]
theorem cI.at2{H:Hp}{xs:List V}{ds:List PyData}{i:Nat}{v:V}(h:cI K H xs ds)(e:bY xs (i:Int)=some v)(hi:i<xs.length):Pv K H v (ds.getD i .none):=by
 have ld:xs.length=ds.length:=Paired.length h
 obtain⟨v',d,g1,g2,g3⟩:=cI.at h (i:=i) (by omega)
 rw[eQ g1]at e
 obtain rfl:=Option.some.inj e
 rw[List.getD_eq_getElem?_getD,g2]
 exact g3
theorem b8r{xs:List V}{i:Nat}{v:V}(h:bY xs (i:Int)=some v):i<xs.length:=by
 rcases Nat.lt_or_ge i xs.length with h1|h1
 ·exact h1
 ·unfold bY jW at h
  rw[if_pos (by omega),if_neg (by omega)]at h
  cases h
theorem Pv.uniq{H H':Hp}{v:V}{d d':PyData}(h:Pv K H v d)(h':Pv K H' v d')(s:bS H H'):d=d':=by
 rcases h with⟨i,rfl,rfl,_⟩|⟨a,y,rfl,e,rfl,_⟩
 ·rcases h' with⟨j,e1,rfl,_⟩|⟨a,y,e1,_⟩
  ·cases e1;rfl
  ·cases e1
 ·rcases h' with⟨j,e1,_⟩|⟨a',y',e1,e2,rfl,_⟩
  ·cases e1
  ·cases e1
   rw[s _ _ e]at e2
   cases e2
   rfl
noncomputable def vcF (K:Fg) (zt:Addr) (Hz:Hp) (X:gK) (s:Addr) (m:Nat) (src:Str) (dv:Str->List PyData) (CW CU CO:Addr):VC:=⟨MF X s m src dv,fun x=>x≠X.fd/\x≠X.lk/\x≠X.mc/\x≠zt,nF K zt Hz X m src dv,CW,CU,CO⟩
theorem b5j(T:aZ K mg){CS CR CF CB CT CG CW CU CO:Addr}(Y:eZ K mg CS)(R:lG K mg CR)(F:eM K mg CF)(Wb:cU K mg CB)(U:dO K mg CT)(Cc:kY K mg CG){z:Addr×Addr}(B2:jR K mg "Finder" "gathered" "Finder.gathered" eY z)(M:iN mg base z.1 z.2){Hz:Hp}{X:gK}{s ch:Addr}{kb:List (aC×V)}{m:Nat}{src:Str}{nl:Addr}{dv:Str->List PyData}(S:FlS K CS CF CB CT CG Hz X s ch kb m src nl dv)(fn:lE P w K mg base 4 Hz X.fa X.ca X.g X.ok)(hzt:Hz z.2=none):
 SI P w K mg base CS 12 (vcF K z.2 Hz X s m src dv CW CU CO)/\∀{H:Hp} {s':Addr} {nm c:Str} {p:Nat} {Q:VK},nF K z.2 Hz X m src dv H->(s'=s/\nm=X.nm)->c∈X.B.ord->p<m->(∀H' v,nF K z.2 Hz X m src dv H'->bM (vcF K z.2 Hz X s m src dv CW CU CO).Free H H'->Pw K H' v ((MF X s m src dv).val s' nm c p)->Q v H')->kW CS CF CB CT (jG CF (qV P w K mg base CF CB CT CG z.2 (qX P w K mg base CG))) [.ref s',.str nm,.str c,.int (p:Int)] H Q E0:=by
 have k8:=S.go.o3.k8
 have lx:X.B.xs.length=m:=by rw[S.xs,pZ]
 obtain⟨n1,n2,n3⟩:=S.nn
 have same:∀{H H':Hp},nF K z.2 Hz X m src dv H->aG H H'->nF K z.2 Hz X m src dv H':=fun⟨h1,tb,kf,kl,mk,a1,a2,a3,eJ⟩ s1=>⟨h1.trans s1,pH tb fun b o _ _ _ e=>s1 _ _ e,kf,kl,mk,s1 _ _ a1,s1 _ _ a2,s1 _ _ a3,eJ⟩
 have ga:∀{H:Hp} {kf kl:List (Ky×V)} {mk:List (aC×V)},aG Hz H->H X.fd=some (.dT kf)->H X.lk=some (.dT kl)->H X.mc=some (.dK mk)->eE X.Ks kf->eE X.Ks kl->(∀t c p v ys,X.gv t c=some ys->aO kf (aU t c p)=some v->bY ys (p:Int)=some v)->iO P w K mg base CF CB CT CG X kf kl mk H:=fun{H kf kl mk} h1 a1 a2 a3 a4 a5 a6=>by
  obtain⟨df,ef⟩:=S.fin
  have l9:=a4.len
  refine⟨fun tb htb=> ?_,a4,a6,a2,a5,fun t c ys B g h=> ?_,?_,fn.keep (eX.of h1),a3⟩
  ·rw[S.tab]at htb
   obtain rfl:=List.mem_singleton.mp htb
   exact⟨⟨df,h1 _ _ ef⟩,⟨kb,h1 _ _ S.sh.2.1,S.sh.2.2.2.1⟩,S.sh.2.2.2.2.same h1,a1,by omega⟩
  ·rw[S.tab]at h
   obtain⟨rfl,_,_,l,e1,e2⟩:=S.gvs t c ys g
   cases List.mem_singleton.mp h
   exact⟨l,e1,h1 _ _ e2⟩
  ·obtain⟨dx,e⟩:=S.gr
   rw[S.fs]
   exact⟨dx,h1 _ _ e⟩
 suffices cell:∀{H:Hp} {s':Addr} {nm c:Str} {p:Nat} {Q:VK},nF K z.2 Hz X m src dv H->(s'=s/\nm=X.nm)->c∈X.B.ord->p<m->(∀H' v,nF K z.2 Hz X m src dv H'->bM (fun x=>x≠X.fd/\x≠X.lk/\x≠X.mc/\x≠z.2) H H'->Pw K H' v ((MF X s m src dv).val s' nm c p)->Q v H')->kW CS CF CB CT (jG CF (qV P w K mg base CF CB CT CG z.2 (qX P w K mg base CG))) [.ref s',.str nm,.str c,.int (p:Int)] H Q E0 by
  refine⟨⟨same,fun⟨_,⟨S0,t0,_⟩,kf,kl,mk,a1,a2,a3,_⟩ hx=> ?_,fun{H H2 l o ys} ⟨b1,⟨S0,t0,_⟩,kf0,kl0,mk0,b2,b3,b4,_⟩ hl ⟨h1,tb,kf,kl,mk,a1,a2,a3,eJ⟩ hls=> ?_,fun hI ok=> ?_,⟨_,sK T Y Wb U,fun{H s' nm Q} hI ok q=> ?_⟩,⟨_,xF (CT:=CT) T Y Wb,fun{H s' nm Q} hI ok q=> ?_⟩,⟨_,sI T Y F Wb U (by decide) (b3x T F b2P (b2I T R F Wb U (b3d Cc) B2 M (qY T Cc))),@cell⟩⟩,@cell⟩
  ·refine⟨fun y=> ?_,fun y=> ?_,fun y=> ?_,fun y=> ?_⟩
   ·rw[y,a1]at hx;cases hx
   ·rw[y,a2]at hx;cases hx
   ·rw[y,a3]at hx;cases hx
   ·rw[y,t0]at hx;cases hx
  ·have ne:∀{x:Addr} {o':HO},H x=some o'->x≠l:=fun e y=>by rw[y,hl]at e;cases e
   have u:bG l H2 (upd H2 l o):=bG.upd
   refine⟨fun x o' e=>u _ _ (ne (b1 _ _ e)) (h1 _ _ e),?_,kf,kl,mk,u _ _ (ne b2) a1,u _ _ (ne b3) a2,u _ _ (ne b4) a3,eJ⟩
   obtain⟨S1,t1,c1⟩:=tb
   refine⟨S1,u _ _ (ne t0) t1,fun c hc=> ?_⟩
   obtain⟨o1,e1,e2⟩:=c1 c hc
   exact⟨o1,u _ _ (fun y=>by rw[y,hls]at e1;cases e1) e1,e2⟩
  ·obtain⟨rfl,_⟩:=ok
   obtain⟨dx,e⟩:=S.sh.1
   exact⟨dx,X.bd,ch,X.fi,hI.1 _ _ e⟩
  ·obtain⟨rfl,rfl⟩:=ok
   obtain⟨⟨dx,e⟩,e2,e3,e4,e5⟩:=S.sh
   refine⟨s',X.bd,ch,X.fi,dx,kb,X.nm,X.B,rfl,hI.1 _ _ e,hI.1 _ _ e2,e3,e4,e5.same hI.1,fun H' s1=> ?_⟩
   rw[lx]
   exact q H' s1
  ·obtain⟨rfl,rfl⟩:=ok
   obtain⟨⟨dx,e⟩,e2,e3,e4,e5⟩:=S.sh
   exact⟨s',X.bd,ch,X.fi,dx,kb,X.nm,X.B,rfl,hI.1 _ _ e,hI.1 _ _ e2,e3,e4,e5.same hI.1,fun H' l s1 hl e1=>q H' l s1 hl e1⟩
 intro H s' nm c p Q hI ok hc hp q
 obtain⟨rfl,rfl⟩:=ok
 have hc:c∈X.B.ord:=hc
 have hp:p<m:=hp
 have hpx:p<X.B.xs.length:=by rw[lx];exact hp
 obtain⟨h1,tb,kf,kl,mk,a1,a2,a3,a4,a5,a6,a7,a8⟩:=hI
 have G:=ga h1 a1 a2 a3 a4 a5 a7
 have hS:iV CS CB CT s' X.bd ch X.fi kb X.nm X.B H:=S.sh.same h1
 obtain⟨cs,eca,lca⟩:=S.ca
 obtain⟨T0,t0,t0'⟩:=id tb
 have l9:=a4.len
 rcases S.ord c hc with rfl|⟨nec,nlc,ys,hg⟩
 ·cases hv:aO kf (aU X.nm X.c p)with
  |some v=>
   refine a2U (fun vs H Q h=> .inl (.inl h)) (c0i S.go G hS S.nc.1 S.nc.2 hpx hv fun H' s1=> ?_)
   refine q H' v (same ⟨h1,tb,kf,kl,mk,a1,a2,a3,a4,a5,a6,a7,a8⟩ s1) (bM.of s1) ?_
   show Pw K H' v (if X.c=X.c then _ else _)
   rw[if_pos rfl]
   exact((a8 p hp).2 v hv).keep (bS.of (h1.trans s1))
  |none=>
   obtain⟨ya,ga'⟩:=S.src
   obtain⟨_,la,pa,_⟩:=S.gvs _ _ _ ga'
   obtain⟨va,ea⟩:∃va,ya[p]?=some va:=⟨_,List.getElem?_eq_getElem (by omega)⟩
   have hat:=eQ ea
   have pva:=pa.at2 hat (by omega)
   obtain⟨dg,hgr⟩:=S.gr
   have tl:∀is,gR [(dv src).getD p .none] []= .inr is->X.ok is/\is.length<=100:=fun is e=>by
    have l1:is.length=1:=by have:=b22 e;simpa using this
    obtain⟨i,rfl⟩:=List.length_eq_one_iff.mp l1
    exact⟨S.ok i,(show 1<=100 by decide)⟩
   refine a2U (fun vs H Q h=> .inr h) (b74 (num:=(p:Int)) (tf:=gR [(dv src).getD p .none] []) (wo:=none) S.go G (by have:=a6.len;have:=S.m30;omega) hS S.nc.1 S.nc.2 hpx (by rw[S.xs];exact b4m hp) hv tb (h1 _ _ eca) lca ((a8 p hp).1 hv) (fun tl=>b81 (h1 _ _ hgr) (h1 _ _ S.nl) (show 1<=6 by decide) (.cons ⟨ya,va,ga',by omega,hat,pva.keep (bS.of h1)⟩ .nil)) tl fun H' v kf' kl' mk' G' tb' fr hv' ru en=> ?_)
   have hca':H' X.ca=some (.lst cs):=by
    revert en
    cases gR [(dv src).getD p .none] []with
    |inl d=>exact fun⟨_,_,_,h⟩=>h
    |inr is=>
     rintro(⟨_,_,h⟩|⟨_,_,_,_,_,h,_⟩)
     ·exact h
     ·exact h
   have up:∀x o,x≠X.fd->x≠X.lk->x≠X.mc->x≠z.2->H x=some o->H' x=some o:=fun x o b1 b2 b3 b4 e=>by
    by_cases y:x=X.ca
    ·rw[y,h1 _ _ eca]at e
     rw[y,hca',e]
    ·exact fr x o b1 b2 b4 y b3 e
   have sz:aG Hz H':=fun x o e=>up x o (fun y=>by rw[y,n1]at e;cases e) (fun y=>by rw[y,n2]at e;cases e) (fun y=>by rw[y,n3]at e;cases e) (fun y=>by rw[y,hzt]at e;cases e) (h1 _ _ e)
   have fd':=G'.fnd S.go
   have mkc:nZ m mk'/\(∀q:Nat,q≠p->aO mk' (.inl (q:Int):aC)=aO mk (.inl (q:Int):aC))/\Pw K Hz v (iU X.g ((dv src).getD p .none)):=by
    unfold iU
    revert en
    cases et:gR [(dv src).getD p .none] []with
    |inl d=>
     rintro⟨e1,⟨t,c',ys',q',e2,e3⟩,rfl,_⟩
     refine⟨a6,fun _ _=>rfl,.inl ?_⟩
     obtain⟨rfl,ly',py',_⟩:=S.gvs _ _ _ e2
     have h0:=py'.at2 e3 (b8r e3)
     exact Pv.uniq h0 e1 (bS.of sz)▸h0
    |inr is=>
     rintro(⟨e1,_⟩|⟨_,tp,sm,_,_,_,_,_,rfl,e1⟩)
     ·cases e1
     ·refine⟨a6.put hp ((a8 p hp).1 hv),fun q' nq=> ?_,.inr e1⟩
      rw[iE,if_neg (fun y=>nq (by injection y with y;omega))]
   refine q H' v ⟨sz,tb',kf',kl',mk',fd',G'.hl,G'.mc,G'.ko,G'.lo,mkc.1,G'.fo,fun p' hp'=> ?_⟩ ⟨fun x o fx nd e=>up x o fx.1 fx.2.1 fx.2.2.1 fx.2.2.2 e,fun x hx e=> ?_,fun x xs e=>up x _ (fun y=>by rw[y,a1]at e;cases e) (fun y=>by rw[y,a2]at e;cases e) (fun y=>by rw[y,a3]at e;cases e) (fun y=>by rw[y,t0]at e;cases e) e⟩ ?_
   ·by_cases y:p'=p
    ·subst y
     refine⟨fun e=>by{rw[hv']at e;cases e},fun v' e=> ?_⟩
     rw[hv']at e
     obtain rfl:=Option.some.inj e
     exact mkc.2.2
    ·have nk:aU X.nm X.c p'≠aU X.nm X.c p:=fun e=>y (rS e).2.2
     rw[ru _ _ p' S.go.no nk,mkc.2.1 p' y]
     exact a8 p' hp'
   ·by_cases y1:x=X.fd
    ·rw[y1,fd']at e
     cases e
    ·by_cases y2:x=X.lk
     ·rw[y2,G'.hl]at e;cases e
     ·by_cases y3:x=X.mc
      ·rw[y3,G'.mc]at e;cases e
      ·by_cases y4:x=z.2
       ·obtain⟨S9,t9,_⟩:=tb'
        rw[y4,t9]at e;cases e
       ·cases e2:H x with
        |none=>exact hx e2
        |some o=>rw[up x o y1 y2 y3 y4 e2]at e;cases e
   ·show Pw K H' v (if X.c=X.c then _ else _)
    rw[if_pos rfl]
    exact mkc.2.2.keep (bS.of sz)
 ·obtain⟨_,ly,py,l,kv,hl⟩:=S.gvs _ _ _ hg
  obtain⟨B,hB,_,_,ru,_,kin⟩:=S.go.o3.g _ _ _ hg
  rw[S.tab]at hB
  cases List.mem_singleton.mp hB
  obtain⟨v,ev⟩:∃v,ys[p]?=some v:=⟨_,List.getElem?_eq_getElem (by omega)⟩
  have hat:=eQ ev
  have pv:=py.at2 hat (by omega)
  refine a2U (fun vs H Q h=> .inl (.inr h)) (b7n (fd:=X.fd) (lk:=X.lk) (kf:=kf) (l:=l) (ys:=ys) (v:=v) (B:=X.B) (G.F _ S.go.hB) hS nlc hc ru kv (h1 _ _ hl) hpx hat (fun v' e'=> ?_) (by omega) fun H' kf' hk' hf' b'=> ?_)
  ·have:=a7 _ _ _ _ _ hg e'
   rw[hat]at this
   exact(Option.some.inj this).symm
  ·have sz:aG Hz H':=fun x o ex=>b' _ _ (fun y=>by rw[y,n1]at ex;cases ex) (h1 _ _ ex)
   refine q H' v ⟨sz,pH tb fun b o n _ _ e=>b' _ _ (fun y=>by rw[y,a1]at e;exact n _ (Option.some.inj e).symm) e,kf',kl,mk,hf',b' _ _ S.go.fl.symm a2,b' _ _ (fun y=>by rw[y,a1]at a3;cases a3) a3,?_,a5,a6,?_,?_⟩ ⟨fun x o fx nd ex=>b' _ _ fx.1 ex,fun x hx ex=> ?_,fun x xs ex=>b' _ _ (fun y=>by rw[y,a1]at ex;cases ex) ex⟩ ?_
   ·rcases hk' with rfl|rfl
    ·exact a4
    ·exact a4.put (kin p (by omega))
   ·intro t c' p' v' ys' g' e'
    rcases hk' with rfl|rfl
    ·exact a7 _ _ _ _ _ g' e'
    ·rw[iE]at e'
     by_cases h:aU t c' p'=aU X.nm c p
     ·rw[if_pos h]at e'
      obtain⟨rfl,rfl,rfl⟩:=rS h
      rw[hg]at g'
      cases g'
      obtain rfl:=Option.some.inj e'
      exact hat
     ·rw[if_neg h]at e'
      exact a7 _ _ _ _ _ g' e'
   ·intro p' hp'
    have:aO kf' (aU X.nm X.c p')=aO kf (aU X.nm X.c p'):=by
     rcases hk' with rfl|rfl
     ·rfl
     ·rw[iE,if_neg (fun y=>nec (rS y).2.1.symm)]
    rw[this]
    exact a8 p' hp'
   ·by_cases y:x=X.fd
    ·rw[y,hf']at ex;cases ex
    ·cases e2:H x with
     |none=>exact hx e2
     |some o=>rw[b' x o y e2]at ex;cases ex
   ·show Pw K H' v (if c=X.c then _ else _)
    rw[if_neg nec]
    exact .inl (pv.keep (bS.of sz))
def spWI(X:VC):Sp:=fun vs H Q _=>∃(p dx s:Addr) (nm:Str),vs= [.ref p,.ref s,.str nm] /\H p=some (.ins X.CW dx [])/\X.Inv H/\X.M.ok s nm/\∀H',bG p H H'->H' p=some (.ins X.CW dx (yQ s nm))->Q .non H'
theorem b3g:aY ["self","sheet","table"] ["self","sheet","table"] (aF yE):=⟨rfl,rfl,rfl,by decide+kernel,rfl,by decide+kernel,by decide+kernel⟩
theorem a0l{CS:Addr}{dc:Nat}{X:VC}(I:SI P w K mg base CS dc X)(cl:bX K CS)(Z:VT K mg X):dI P w K mg base aB 4 X.CW ["self","sheet","table"] (spWI X):=by
 obtain⟨sp,G,use⟩:=I.many
 refine(Z.W.m_init.known b3g (fun _ _ _ _ _ _ us hl=>dP (fun _ _ _=>rfl) us hl) (fun vs H Q E h=> ?_) (fun f cdv A outer s H vs Q E hr h=> ?_)).init Z.W.mks Z.W.kc
 ·obtain⟨p,dx,s',nm,rfl,_⟩:=h
  rfl
 ·obtain⟨p,dx,s',nm,rfl,hp,hI,ok,q⟩:=h
  refine⟨_,(aJ (bZ (bW (pv 1) cl G hr aM (aA (pv 2) aE)))
   (aJ (cM (pv 0) (pv 1) rfl)
   (aI (cM (pv 0) (pv 2) rfl)))),?_⟩
  obtain⟨ds,bd,ch,fi,hs'⟩:=I.at_ hI ok
  refine⟨_,rfl,s',ds,_,rfl,hs',eO,_,rfl,use hI ok fun H1 s1=> ?_⟩
  refine⟨_,rfl,_,rfl,p,X.CW,dx,[],rfl,s1 _ _ hp,Z.W.cl,Z.W.n_sheet,by decide,?_⟩
  refine⟨_,rfl,_,rfl,p,X.CW,dx,_,rfl,aK,Z.W.cl,Z.W.n_name,(show 1<1000 by decide),?_⟩
  exact q _ (((bG.of s1).trans bG.upd).trans bG.upd) aK
def spMI(X:VC)(n:Nat):Sp:=fun vs H Q _=>∃(p dx:Addr) (v:VW) (c:Str),vs= [.ref p,.ref v.a,.str c] /\H p=some (.ins X.CU dx [])/\v.rk<=n/\X.At H v/\X.Inv H/\c∈X.M.cols v.bs.1 v.bs.2/\∀H',bG p H H'->H' p=some (.ins X.CU dx (pK v.a c))->Q .non H'
theorem b27:aY ["self","view","column"] ["self","view","column"] (aF sF):=⟨rfl,rfl,rfl,by decide+kernel,rfl,by decide+kernel,by decide+kernel⟩
theorem a0C(T:aZ K mg){CS:Addr}{dc:Nat}{X:VC}(I:SI P w K mg base CS dc X)(Z:VT K mg X){n:Nat}(N:jQ P w K mg base dc X n):dI P w K mg base aB (4+ n+ 1) X.CU ["self","view","column"] (spMI X n):=by
 have G_col:bK P w K mg base aB 1 "check_column" ["column","columns"] (xG K):=nH T
 refine(Z.U.m_init.known b27 (fun _ _ _ _ _ _ us hl=>dP (fun _ _ _=>rfl) us hl) (fun vs H Q E h=> ?_) (fun f cdv A outer s H vs Q E hr h=> ?_)).init Z.U.mks Z.U.kc
 ·obtain⟨p,dx,v,c,rfl,_⟩:=h
  rfl
 ·obtain⟨p,dx,v,c,rfl,hp,hk,hv,hI,hc,q⟩:=h
  refine⟨_,(aJ (bZ (bR G_col (hr.mono (by omega)) aM (aA (pv 2) (aA (iQ (pv 1) (RD.k Z N.co) hr aM) aE))))
   (aJ (cM (pv 0) (pv 1) rfl)
   (aI (cM (pv 0) (pv 2) rfl)))),?_⟩
  obtain⟨dv,fs,ev,no⟩:=hv.ins
  refine⟨_,rfl,_,rfl,_,_,v.a,dv,fs,RD.at v,rfl,ev,no _ (by decide+kernel),v,rfl,rfl,hk,hv,hI,fun H1 l1 s1 hl1 e1=>⟨c,l1,_,rfl,e1,hc,?_⟩⟩
  refine⟨_,rfl,_,rfl,p,X.CU,dx,[],rfl,s1 _ _ hp,Z.U.cl,Z.U.n_view,by decide,?_⟩
  refine⟨_,rfl,_,rfl,p,X.CU,dx,_,rfl,aK,Z.U.cl,Z.U.n_column,(show 1<1000 by decide),?_⟩
  exact q _ (((bG.of s1).trans bG.upd).trans bG.upd) aK
end
theorem b5p:bootBuiltins "max"=some (.builtin "max"):=by kernel_rfl
theorem nl42:Nl ("odd":Str)/\Nl ("lacks":Str)/\Nl ("a":Str)/\Nl ("nought":Str)/\Nl ("abcdefgh":Str):=by unfold Nl;decide+kernel
section
variable{P:Program}{w:World}{K:Fg}{mg:Str->Option Value}{base:Heap}
def yZ(K:Fg):Sp:=fun vs H Q _=>∃(a:Addr) (ns:List Int) (k:Nat),vs= [.ref a,.int (k:Int)] /\aL K H a (ns.map V.int)/\∀z:Int,Q (.int z) H
theorem b8q:aY ["_law_script","_law_k"] ["_law_script","_law_k"] (aF uN):=⟨rfl,rfl,rfl,by decide+kernel,rfl,by decide+kernel,by decide+kernel⟩
theorem pD(T:aZ K mg):bK P w K mg base aB 1 "_law_cell_at" ["_law_script","_law_k"] (yZ K):=by
 refine T.d_law_cell_at.known b8q (fun _ _ _ _ _ _ us hl=>dJ (fun _ _=>rfl) us hl) (fun vs H Q E h=> ?_) (fun f cdv A outer s H vs Q E hr h=> ?_)
 ·obtain⟨a,ns,k,rfl,_⟩:=h
  rfl
 ·obtain⟨a,ns,k,rfl,hS,q⟩:=h
  refine⟨_,(aJ (bN (cJ a0s (pv 1) (cD fX rfl T.len fJ (aA (pv 0) aE)) (cO _)) (aI (bE (bP dD (pv 0) (pv 1) (fun _ _=>rfl)))) bO)
   (aI (bE aW))),?_⟩
  refine⟨_,rfl,_,rfl,.ref a,(ns.map V.int).length,rfl,.inl ⟨_,hS,rfl⟩,_,_,rfl,rfl,_,rfl,?_⟩
  refine dN (fun h=> ?_) (fun _=>q 0)
  have hk:k<ns.length:=by
   have:=of_decide_eq_true h
   rw[List.length_map]at this
   omega
  exact⟨_,rfl,_,rfl,a,_,(k:Int),.int (ns[k]'hk),rfl,rfl,hS,eQ (by rw[List.getElem?_map,List.getElem?_eq_getElem hk];rfl),q _⟩
noncomputable def eG:Int:=10^ (60:Int).toNat
theorem wV{j:Int}(h1: -eG<j)(h2:j<eG):fM (.int j)=true:=by
 show decide ((if j<0 then-j else j)<eG)=true
 rw[decide_eq_true_eq]
 split<;>omega
theorem b85:(1000:Int)<eG:=by unfold eG;decide+kernel
def spLv(K:Fg):Sp:=fun vs H Q _=>∃i:Int,vs= [.int i] /\∀H' v d,aG H H'->Pv K H' v d->Q v H'
theorem b1q:aY ["_law_cell","_law_way"] ["_law_cell"] (aF uU):=⟨rfl,rfl,rfl,by decide+kernel,rfl,by decide+kernel,by decide+kernel⟩
theorem wY(T:aZ K mg):bK P w K mg base aB 1 "_law_value" ["_law_cell"] (spLv K):=by
 refine T.d_law_value.known b1q (fun _ _ _ _ _ _ us hl=>dM (fun _=>rfl) us hl) (fun vs H Q E h=> ?_) (fun f cdv A outer s H vs Q E hr h=> ?_)
 ·obtain⟨i,rfl,_⟩:=h
  rfl
 ·obtain⟨i,rfl,q⟩:=h
  refine⟨_,(aJ (bV (i:=1) b1q.nd rfl (Or.inl rfl) (bQ jA (pv 0) aW))
   (aJ (bN (cJ a0s (pv 1) aW (cO _)) (aI (bE (bQ lL (bQ jA (bQ oW (pv 0) aW) aW) aW))) bO)
   (aJ (bN (cJ lW (pv 1) aW (cO _)) (aI (bE aW)) bO)
   (aJ (bN (cJ lW (pv 1) aW (cO _)) (aI (bE (fU (aA hU (aA (bP dD (gH (aA hU (aA hU (aA hU (aA hU (aA hU aE)))))) (bQ jA (bQ oW (pv 0) aW) aW) (fun _ _=>rfl)) aE))))) bO)
   (aJ (bN (cJ lW (pv 1) aW (cO _)) (aI (bE (bQ lL (bQ jA (bQ mM (bQ oW (pv 0) aW) aW) (bQ lL (bQ mM aW (bQ uC aW aW)) aW)) (bQ lL (bQ uC aW aW) aW)))) bO)
   (aI (bE (bQ jA (bQ oW (pv 0) aW) aW)))))))),?_⟩
  have pb:=b85
  refine⟨_,rfl,_,_,rfl,rfl,(show(0:Int)<8 by decide),?_⟩
  refine⟨_,rfl,_,_,rfl,rfl,_,rfl,dN (fun _=> ?_) (fun _=> ?_)⟩
  ·refine⟨_,rfl,_,_,rfl,rfl,⟨by decide,by decide⟩,_,_,rfl,rfl,(show(0:Int)<5 by decide),_,_,rfl,rfl,?_⟩
   exact q _ _ (.int (i/ 8% 5- 2)) (aG.refl _) (.inl ⟨_,rfl,rfl,wV (by omega) (by omega)⟩)
  refine⟨_,rfl,rfl,_,rfl,dN (fun _=> ?_) (fun _=> ?_)⟩
  ·exact q _ _ (.int 0) (aG.refl _) (.inl ⟨_,rfl,rfl,wV (by omega) (by omega)⟩)
  refine⟨_,rfl,rfl,_,rfl,dN (fun _=> ?_) (fun _=> ?_)⟩
  ·refine⟨sl,fun l hl=> ?_⟩
   refine⟨_,rfl,_,_,rfl,rfl,⟨by decide,by decide⟩,_,_,rfl,rfl,(show(0:Int)<5 by decide),?_⟩
   have s1:=aG.new (o:=.lst [.str ("odd":Str),.str ("lacks":Str),.str ("a":Str),.str ("nought":Str),.str ("abcdefgh":Str)]) hl
   have l1:upd H l (.lst [.str ("odd":Str),.str ("lacks":Str),.str ("a":Str),.str ("nought":Str),.str ("abcdefgh":Str)]) l=some (.lst [.str ("odd":Str),.str ("lacks":Str),.str ("a":Str),.str ("nought":Str),.str ("abcdefgh":Str)]):=aK
   generalize upd H l (.lst [.str ("odd":Str),.str ("lacks":Str),.str ("a":Str),.str ("nought":Str),.str ("abcdefgh":Str)])=H1 at s1 l1|-
   obtain⟨n1,n2,n3,n4,n5⟩:=nl42
   obtain⟨k,ek,z,hz,hk⟩:∃k:Nat,i/ 8% 5=(k:Int)/\∃z:Str,Nl z/\ [V.str ("odd":Str),V.str ("lacks":Str),V.str ("a":Str),V.str ("nought":Str),V.str ("abcdefgh":Str)][k]?=some (.str z):=by
    rcases(show i/ 8% 5=0\/ i/ 8% 5=1\/ i/ 8% 5=2\/ i/ 8% 5=3\/ i/ 8% 5=4 by omega)with h|h|h|h|h
    ·exact⟨0,h,_,n1,rfl⟩
    ·exact⟨1,h,_,n2,rfl⟩
    ·exact⟨2,h,_,n3,rfl⟩
    ·exact⟨3,h,_,n4,rfl⟩
    ·exact⟨4,h,_,n5,rfl⟩
   refine⟨l,_,_,.str z,rfl,rfl,aL.of l1,by rw[ek];exact eQ hk,sl,fun p hp=> ?_⟩
   exact q _ _ (.tuple [.str "fault",.str z]) (s1.trans (aG.new hp)) (.inr ⟨p,z,rfl,aK,rfl,hz⟩)
  refine⟨_,rfl,rfl,_,rfl,dN (fun _=> ?_) (fun _=> ?_)⟩
  ·have pe:(10:Int)^ (60:Int).toNat=eG:=rfl
   refine⟨_,rfl,_,_,rfl,rfl,⟨by decide,by decide⟩,_,_,rfl,rfl,.inr ⟨by decide,by decide⟩,_,_,rfl,rfl,⟨by decide,by decide,by decide⟩,_,_,rfl,rfl,.inl ⟨by decide,by decide⟩,_,_,rfl,rfl,_,_,rfl,rfl,?_,_,_,rfl,rfl,⟨by decide,by decide,by decide⟩,_,_,rfl,rfl,_,_,rfl,rfl,?_⟩
   ·show(0:Int)<2* eG- 1
    omega
   ·have h1:=Int.emod_nonneg (i/ 8* 982451653) (show 2* eG- 1≠0 by omega)
    have h2:=Int.emod_lt_of_pos (i/ 8* 982451653) (show 0<2* eG- 1 by omega)
    have h3: -eG<i/ 8* 982451653% (2* eG- 1)- (eG- 1)/\i/ 8* 982451653% (2* eG- 1)- (eG- 1)<eG:=by omega
    exact q _ _ (.int (i/ 8* 982451653% (2* eG- 1)- (eG- 1))) (aG.refl _) (.inl ⟨_,rfl,rfl,wV h3.1 h3.2⟩)
  ·refine⟨_,rfl,_,_,rfl,rfl,⟨by decide,by decide⟩,_,_,rfl,rfl,(show(0:Int)<100 by decide),?_⟩
   exact q _ _ (.int (i/ 8% 100)) (aG.refl _) (.inl ⟨_,rfl,rfl,wV (by omega) (by omega)⟩)
end
def iI(is:List Int):PyData:=.int (is.headD 0- 1)
theorem b1P{i:Int}(h:fM (.int i)=true): -eG<i/\i<eG:=by
 have h:decide ((if i<0 then-i else i)<eG)=true:=h
 rw[decide_eq_true_eq]at h
 split at h<;>omega
theorem b21(i:Int):iU iI (.int i)=gI (.int (i- 1)):=rfl
theorem b8L(y:Str):iU iI (.tuple [.str "fault",.str y])= .tuple [.str "fault",.str y]:=rfl
theorem b1s{i:Int}(h:fM (.int i)=true):gI (.int i)= .int i:=by
 unfold gI
 rw[if_pos (show jM (.int i)=true by show(fM (.int i)||_)=true;rw[h];rfl)]
theorem b28{i:Int}(h:fM (.int i)=false):gI (.int i)=oddD:=by
 unfold gI
 rw[if_neg (show¬jM (.int i)=true by show¬(fM (.int i)||hV (.int i))=true;rw[h];exact Bool.false_ne_true)]
theorem Vd.eqv{d:PyData}(h:Vd d):PyData.eqv d d=true:=by
 rcases h with⟨i,rfl,_⟩|⟨y,rfl,_⟩<;>simp[PyData.eqv,PyData.eqvAll]
section
variable{P:Program}{w:World}{K:Fg}{mg:Str->Option Value}{base:Heap}
def b1F(K:Fg):Sp:=fun vs H Q _=>∃v d,vs= [v] /\Pv K H v d/\∀H' v',aG H H'->Pv K H' v' (iU iI d)->Q v' H'
theorem b7h:aY ["_law_value_here"] ["_law_value_here"] (aF wJ):=⟨rfl,rfl,rfl,by decide+kernel,rfl,by decide+kernel,by decide+kernel⟩
theorem vA(T:aZ K mg):bK P w K mg base aB 1 "_law_less" ["_law_value_here"] (b1F K):=by
 refine T.d_law_less.known b7h (fun _ _ _ _ _ _ us hl=>dM (fun _=>rfl) us hl) (fun vs H Q E h=> ?_) (fun f cdv A outer s H vs Q E hr h=> ?_)
 ·obtain⟨v,d,rfl,_⟩:=h
  rfl
 ·obtain⟨v,d,rfl,hv,q⟩:=h
  refine⟨_,(aJ (bN (cH (cD fS rfl T.isinstance fH (aA (pv 0) (aA (fC T.tuple vO) aE))) (fun _=>rfl)) (aI (bE (pv 0))) bO)
   (aJ (bN (cJ lW (pv 0) (bQ lL aW (bQ lL (bQ uC aW aW) aW)) (cO _)) (aI (bE (fU (aA hU (aA hU aE))))) bO)
   (aI (bE (bQ lL (pv 0) aW))))),?_⟩
  refine⟨_,rfl,v,"tuple",d,_,rfl,hv.dt,tY K _,_,rfl,?_⟩
  rcases hv with⟨i,rfl,rfl,hb⟩|⟨a,y,rfl,e,rfl,hy⟩
  ·refine bJ ?_
   obtain⟨b1,b2⟩:=b1P hb
   refine⟨_,rfl,_,_,rfl,rfl,⟨by decide,by decide,by decide⟩,_,_,rfl,rfl,_,_,rfl,rfl,rfl,_,rfl,?_⟩
   have ei:decide (V.int i=V.int (0- (eG- 1)))=decide (i=0- (eG- 1)):=decide_eq_decide.mpr ⟨fun h=>V.int.inj h,fun h=>congrArg V.int h⟩
   show if decide (V.int i=V.int (0- (eG- 1)))=true then _ else _
   rw[ei]
   refine dN (fun h=> ?_) (fun h=> ?_)
   ·have h:=of_decide_eq_true h
    refine⟨sl,fun p hp=>q _ _ (aG.new hp) ?_⟩
    rw[b21,b28 (show fM (.int (i- 1))=false from by
     cases e:fM (.int (i- 1))with
     |false=>rfl
     |true=>have:=b1P e;omega)]
    exact .inr ⟨p,"odd",rfl,aK,rfl,a1Q⟩
   ·have h:¬i=0- (eG- 1):=fun e=>h (decide_eq_true e)
    have hn:fM (.int (i- 1))=true:=wV (by omega) (by omega)
    refine⟨_,rfl,_,_,rfl,rfl,q _ _ (aG.refl _) ?_⟩
    rw[b21,b1s hn]
    exact .inl ⟨_,rfl,rfl,hn⟩
  ·refine cG ⟨_,rfl,q _ _ (aG.refl _) ?_⟩
   exact .inr ⟨a,y,rfl,e,b8L y,hy⟩
def spSm(K:Fg):Sp:=fun vs H Q _=>∃x y d,vs= [x,y] /\Pw K H x d/\Pw K H y d/\Q (.bl true) H
theorem b9d:aY ["_law_found","_law_due"] ["_law_found","_law_due"] (aF uP):=⟨rfl,rfl,rfl,by decide+kernel,rfl,by decide+kernel,by decide+kernel⟩
theorem tU(T:aZ K mg):bK P w K mg base aB 1 "_law_same_value" ["_law_found","_law_due"] (spSm K):=by
 refine T.d_law_same_value.known b9d (fun _ _ _ _ _ _ us hl=>dJ (fun _ _=>rfl) us hl) (fun vs H Q E h=> ?_) (fun f cdv A outer s H vs Q E hr h=> ?_)
 ·obtain⟨x,y,d,rfl,_⟩:=h
  rfl
 ·obtain⟨x,y,d,rfl,hx,hy,q⟩:=h
  refine⟨_,(aJ (bN (cH (cD fS rfl T.isinstance fH (aA (pv 1) (aA (fC T.tuple vO) aE))) (fun _=>rfl)) (aI (bE (kE (cD fS rfl T.isinstance fH (aA (pv 0) (aA (fC T.tuple vO) aE))) (kE (mD lW (cD fX rfl T.len fJ (aA (pv 0) aE)) aW (cO _)) (mC (mD (b3q hr.units) (pv 0) (pv 1) (cO _))))))) bO)
   (aI (bE (kE (cD fS rfl T.isinstance fH (aA (pv 0) (aA (fC T.int zJ) aE))) (kE (a9r (cD fS rfl T.isinstance fH (aA (pv 0) (aA (fC T.bool a3c) aE)))) (mC (mD lW (pv 0) (pv 1) (cO _)))))))),?_⟩
  refine⟨_,rfl,y,"tuple",d,_,rfl,hy.dt,tY K _,_,rfl,?_⟩
  have lay:=hx.vd.lay
  rcases hx.vd with⟨i,rfl,_⟩|⟨z,rfl,hz⟩
  ·refine bJ ?_
   obtain rfl:x= .int i:=by have:=hx.dt;cases this;rfl
   obtain rfl:y= .int i:=by have:=hy.dt;cases this;rfl
   refine⟨_,rfl,_,"int",_,_,rfl,.int i,a5Y K _,_,rfl,cG ⟨_,rfl,_,"bool",_,_,rfl,.int i,a1q K _,_,rfl,_,rfl,cG ⟨_,rfl,_,rfl,rfl,?_⟩⟩⟩
   rw[decide_eq_true rfl]
   exact q
  ·refine cG ⟨_,rfl,_,"tuple",_,_,rfl,hx.dt,tY K _,_,rfl,cG ?_⟩
   have lx:∃a,x= .ref a/\bU K H a [.str ("fault":Str),.str z]:=by
    have:=hx.dt
    cases this with
    |tup hq hall=>
     cases hall with
     |cons h1 t=>
      cases h1
      cases t with
      |cons h2 t=>
       cases h2
       cases t
       exact⟨_,rfl,hq⟩
   obtain⟨a,rfl,hq⟩:=lx
   refine⟨_,rfl,.ref a,2,rfl,.inr ⟨_,hq,rfl⟩,rfl,_,rfl,cG ?_⟩
   refine⟨_,rfl,_,rfl,_,_,hx.dt,hy.dt,lay.1,lay.1,Nat.le_trans lay.2 (by decide),?_⟩
   rw[hx.vd.eqv]
   exact q
end
theorem b3s:∀j:Nat,j<26->jT.cps.toList[j]?=some (97+ j):=by decide+kernel
theorem b9N:jT.cps.toList.length=26:=by decide+kernel
noncomputable def mP (b:Int) (a k j:Nat):Nat:=97+ ((b+ 7* (j:Int)+ (k:Int)* (if j=a then 1 else 0))% 26).toNat
noncomputable def jN (b:Int) (a k:Nat):Nat->Str
 |0=> ""
 |j+ 1=>jN b a k j++ ⟨#[mP b a k j]⟩
theorem zV(b:Int)(a k:Nat):∀n,(jN b a k n).cps.toList=(List.range n).map (mP b a k)
 |0=>rfl
 |n+ 1=>by
  have h:(jN b a k (n+ 1)).cps.toList=(jN b a k n).cps.toList++ [mP b a k n]:=by
   show((jN b a k n).cps++ #[mP b a k n]).toList=_
   simp
  rw[h,zV b a k n,List.range_succ,List.map_append]
  rfl
theorem a6L(b:Int)(a k n:Nat):(jN b a k n).length=n:=by
 have h:(jN b a k n).cps.toList.length=n:=by rw[zV,List.length_map,List.length_range]
 rw[Array.length_toList]at h
 exact h
theorem b8V(b:Int)(a k j:Nat):∃r,r<26/\mP b a k j=97+ r:=by
 have h0:=Int.emod_nonneg (b+ 7* (j:Int)+ (k:Int)* (if j=a then 1 else 0)) (show(26:Int)≠0 by decide)
 have h1:=Int.emod_lt_of_pos (b+ 7* (j:Int)+ (k:Int)* (if j=a then 1 else 0)) (show(0:Int)<26 by decide)
 exact⟨_,by omega,rfl⟩
theorem b8o{b:Int}{a k n:Nat}(h1:1<=n)(h8:n<=8):Nl (jN b a k n):=by
 refine⟨by rw[a6L];exact h1,by rw[a6L];exact h8,fun c hc=> ?_⟩
 rw[zV]at hc
 obtain⟨j,_,rfl⟩:=List.mem_map.mp hc
 obtain⟨r,hr,e⟩:=b8V b a k j
 rw[e]
 exact List.mem_of_getElem? (b3s r hr)
theorem b7V{b:Int}{a k k' n:Nat}(ha:a<n)(hk:k<26)(hk':k'<26)(e:jN b a k n=jN b a k' n):k=k':=by
 have h:=congrArg (fun s:Str=>s.cps.toList[a]?) e
 simp only[zV,List.getElem?_map,List.getElem?_range ha,Option.map_some,Option.some.injEq]at h
 unfold mP at h
 rw[if_pos rfl,Int.mul_one,Int.mul_one]at h
 have h0:=Int.emod_nonneg (b+ 7* (a:Int)+ (k:Int)) (show(26:Int)≠0 by decide)
 have h1:=Int.emod_nonneg (b+ 7* (a:Int)+ (k':Int)) (show(26:Int)≠0 by decide)
 omega
noncomputable def pB (b:Int) (a n m:Nat):List Str:=(List.range m).map fun k=>jN b a k n
theorem b7G{b:Int}{a n m:Nat}(ha:a<n)(hm:m<=26):(pB b a n m).Nodup:=by
 unfold pB
 rw[List.nodup_iff_pairwise_ne,List.pairwise_map]
 refine List.Pairwise.imp_of_mem (fun{x y} hx hy hne e=> ?_) (List.nodup_iff_pairwise_ne.mp List.nodup_range)
 exact hne (b7V ha (Nat.lt_of_lt_of_le (List.mem_range.mp hx) hm) (Nat.lt_of_lt_of_le (List.mem_range.mp hy) hm) e)
section
variable{P:Program}{w:World}{K:Fg}{mg:Str->Option Value}{base:Heap}
def b3i(K:Fg):Sp:=fun vs H Q _=>∃z:Int,vs= [.int z] /\∀H' p (zs:List Str),aG H H'->H' p=some (.lst (zs.map V.str))->H p=none->zs.length=6->(∀z∈zs,Nl z)->zs.Nodup->Q (.ref p) H'
abbrev b96:List Str:=["_law_cell","_law_letters","_law_size","_law_at","_law_names_here","_law_k","_law_name","_law_j"]
theorem mE:aY b96 ["_law_cell"] (aF sQ):=⟨rfl,rfl,rfl,by decide+kernel,rfl,by decide+kernel,by decide+kernel⟩
theorem vZ(T:aZ K mg):bK P w K mg base aB 1 "_law_names" ["_law_cell"] (b3i K):=by
 refine T.d_law_names.known mE (fun _ _ _ _ _ _ us hl=>dM (fun _=>rfl) us hl) (fun vs H Q E h=> ?_) (fun f cdv A outer s H vs Q E hr h=> ?_)
 ·obtain⟨z,rfl,_⟩:=h
  rfl
 ·obtain⟨z,rfl,q⟩:=h
  refine⟨_,(aJ (bV (i:=1) mE.nd rfl (Or.inl rfl) hU)
   (aJ (bV (i:=2) mE.nd rfl (Or.inl rfl) (bQ lU aW (bQ jA (pv 0) aW)))
   (aJ (bV (i:=3) mE.nd rfl (Or.inl rfl) (bQ jA (bQ oW (pv 0) aW) (pv 2)))
   (aJ (bV (i:=4) mE.nd rfl (Or.inl rfl) (gH aE))
   (aJ (gW PassesOwn.never rfl (oC rfl T.range (aA aW aE)) (dL (i:=5) mE.nd rfl (Or.inl rfl)) (aJ (bV (i:=6) mE.nd rfl (Or.inl rfl) hU)
   (aJ (gW PassesOwn.never rfl (oC rfl T.range (aA (pv 2) aE)) (dL (i:=7) mE.nd rfl (Or.inl rfl)) (aI (bV (i:=6) mE.nd rfl (Or.inl rfl) (bQ b8G (pv 6) (bP b4W (pv 1) (bQ jA (bQ lU (bQ lU (bQ oW (pv 0) aW) (bQ mM aW (pv 7))) (bQ mM (pv 5) (kP c0v rfl T.int zJ (aA (mD lW (pv 7) (pv 3) (cO _)) aE)))) aW) (fun _ _=>rfl))))))
   (aI (bZ (iJ PySem.F.plainAttrs_list PySem.F.slot_list_append PySem.F.type_list_append gT (pv 4) (aA (pv 6) aE)))))))
   (aI (bE (pv 4)))))))),?_⟩
  obtain⟨n,en,hn1,hn8⟩:∃n:Nat,1+ z% 8=(n:Int)/\1<=n/\n<=8:=⟨(1+ z% 8).toNat,by omega,by omega,by omega⟩
  have hn0:(0:Int)<(n:Int):=by omega
  have m0:=Int.emod_nonneg (z/ 8) (show(n:Int)≠0 by omega)
  have m1:=Int.emod_lt_of_pos (z/ 8) hn0
  obtain⟨a,ea⟩:∃a:Nat,z/ 8% (n:Int)=(a:Int):=⟨(z/ 8% (n:Int)).toNat,by omega⟩
  have ha:a<n:=by omega
  refine⟨_,rfl,_,_,rfl,rfl,(show(0:Int)<8 by decide),_,_,rfl,rfl,?_⟩
  show gF 2 (V.int (1+ z% 8)) _ _ _
  rw[en]
  refine⟨_,rfl,_,_,rfl,rfl,⟨by decide,by decide⟩,_,rfl,_,_,rfl,rfl,hn0,?_⟩
  show gF 3 (V.int (z/ 8% (n:Int))) _ _ _
  rw[ea]
  refine⟨sl,fun l hl=> ?_⟩
  have s1:=aG.new (o:=.lst []) hl
  have e1:upd H l (.lst []) l=some (.lst []):=aK
  generalize upd H l (.lst [])=H1 at s1 e1|-
  refine⟨6,rfl,by decide,by decide,?_⟩
  refine yR (lo:=0) (n:=(6:Int).toNat) (fun i σ H2=>∃o5 o6 o7:Option V,σ= [some (.int z),some (.str jT),some (.int (n:Int)),some (.int (a:Int)),some (.ref l),o5,o6,o7] /\aG H H2/\H2 l=some (.lst ((pB (z/ 64) a n i).map V.str))) ⟨_,_,_,rfl,s1,e1⟩ ?_ ?_
  ·rintro i σ H2 hi ⟨o5,o6,o7,rfl,s2,e2⟩
   rw[Int.zero_add]
   have hi:i<6:=hi
   refine⟨_,rfl,(n:Int),rfl,by omega,by omega,?_⟩
   rw[Int.toNat_natCast]
   refine yR (lo:=0) (n:=n) (fun j σ H3=>∃o7:Option V,σ= [some (.int z),some (.str jT),some (.int (n:Int)),some (.int (a:Int)),some (.ref l),some (.int (i:Int)),some (.str (jN (z/ 64) a i j)),o7] /\H2=H3) ⟨_,rfl,rfl⟩ ?_ ?_
   ·rintro j σ H3 hj ⟨o7,rfl,rfl⟩
    rw[Int.zero_add]
    have k0:=Int.emod_nonneg (z/ 64+ 7* (j:Int)+ (i:Int)* (if j=a then 1 else 0)) (show(26:Int)≠0 by decide)
    have k1:=Int.emod_lt_of_pos (z/ 64+ 7* (j:Int)+ (i:Int)* (if j=a then 1 else 0)) (show(0:Int)<26 by decide)
    obtain⟨d,hatd,hdm⟩:=b7N jT.cps.toList ((z/ 64+ 7* (j:Int)+ (i:Int)* (if j=a then 1 else 0))% 26) k0 (by rw[b9N];exact k1)
    have ed:d=mP (z/ 64) a i j:=by
     rw[b3s _ (by omega)]at hdm
     exact(Option.some.inj hdm).symm
    subst ed
    have ej:(if decide (V.int (j:Int)=V.int (a:Int))=true then(1:Int) else 0)=(if j=a then 1 else 0):=by
     by_cases h:j=a
     ·subst h;simp
     ·rw[if_neg h,if_neg (by rw[decide_eq_true_eq];exact fun e=>h (by injection e with e;omega))]
    have hat2:bY jT.cps.toList ((z/ 64+ 7* (j:Int)+ (i:Int)* (if decide (V.int (j:Int)=V.int (a:Int))=true then(1:Int) else 0))% 26)=some (mP (z/ 64) a i j):=by rw[ej];exact hatd
    refine⟨_,rfl,_,rfl,_,rfl,_,_,rfl,rfl,⟨by decide,by decide⟩,_,rfl,_,_,rfl,rfl,.inl ⟨by decide,by decide⟩,_,_,rfl,rfl,_,rfl,_,rfl,_,rfl,rfl,.inr ⟨_,rfl,_,_,rfl,rfl,.inl ⟨by omega,by omega⟩,_,_,rfl,rfl,_,_,rfl,rfl,(show(0:Int)<26 by decide),jT,_,_,rfl,rfl,(by decide+kernel),hat2,_,_,rfl,rfl,sl (by rw[a6L];show j+ 1<=1000;omega),?_⟩⟩
    exact⟨_,rfl,rfl⟩
   ·rintro σ H3 ⟨o7,rfl,rfl⟩
    refine⟨_,rfl,.inl ⟨rfl,_,aL.of e2⟩,_,rfl,l,_,_,rfl,rfl,e2,cQ ?_,_,_,_,rfl,s2.on hl,?_⟩
    ·unfold pB
     rw[List.length_map,List.length_map,List.length_range]
     omega
    ·rw[aK]
     unfold pB
     rw[List.range_succ,List.map_append,List.map_append]
     rfl
  ·rintro σ H2 ⟨o5,o6,o7,rfl,s2,e2⟩
   refine⟨_,rfl,q H2 l _ s2 e2 hl ?_ ?_ (b7G ha (by decide))⟩
   ·unfold pB
    rw[List.length_map,List.length_range]
    rfl
   ·intro x hx
    unfold pB at hx
    obtain⟨k,_,rfl⟩:=List.mem_map.mp hx
    exact b8o hn1 hn8
theorem cI.snoc{H:Hp}{v:V}{d:PyData}(h:Pv K H v d):∀{vs:List V} {ds:List PyData},cI K H vs ds->cI K H (vs++ [v]) (ds++ [d])
 |_,_,.nil=> .cons h .nil
 |_,_,.cons h' t=> .cons h' (cI.snoc h t)
def TabL(K:Fg)(H0 H:Hp)(m:Nat)(cs:List Str)(ts:List V)(lv:Nat->Addr)(ys:Nat->List V)(ds:Nat->List PyData):Prop:=ts.length=cs.length/\∀i c,cs[i]?=some c->∃t,ts[i]?=some (.ref t)/\H t=some (.tup [.str c,.ref (lv i)])/\H0 (lv i)=none/\H (lv i)=some (.lst (ys i))/\(ys i).length=m/\cI K H (ys i) (ds i)
def b2e(K:Fg):Sp:=fun vs H Q _=>∃(a nl:Addr) (ns:List Int) (cs:List Str) (m:Nat),vs= [.ref a,.ref nl,.int (m:Int)] /\aL K H a (ns.map V.int)/\ns.length<=63/\H nl=some (.lst (cs.map V.str))/\cs.length=6/\m<=30/\∀H' l n ts lv ys ds,aG H H'->H l=none->H' l=some (.lst ts)->2<=n->n<=4->TabL K H H' m (cs.take n) ts lv ys ds->(∀i,i<n->lv i≠l)->Q (.ref l) H'
abbrev c0e:List Str:=["_law_script","_law_names_here","_law_many","_law_columns_here","_law_c","_law_values","_law_r","_law_k","_law_cell"]
theorem oN:aY c0e ["_law_script","_law_names_here","_law_many"] (aF uY):=⟨rfl,rfl,rfl,by decide+kernel,rfl,by decide+kernel,by decide+kernel⟩
theorem rX(T:aZ K mg):bK P w K mg base aB 2 "_law_columns" ["_law_script","_law_names_here","_law_many"] (b2e K):=by
 have G_cell:bK P w K mg base aB 1 "_law_cell_at" ["_law_script","_law_k"] (yZ K):=pD T
 have G_val:bK P w K mg base aB 1 "_law_value" ["_law_cell"] (spLv K):=wY T
 refine T.d_law_columns.known oN (fun _ _ _ _ _ _ us hl=>dP (fun _ _ _=>rfl) us hl) (fun vs H Q E h=> ?_) (fun f cdv A outer s H vs Q E hr h=> ?_)
 ·obtain⟨a,nl,ns,cs,m,rfl,_⟩:=h
  rfl
 ·obtain⟨a,nl,ns,cs,m,rfl,hS,hns,hlc,c6,m30,q⟩:=h
  refine⟨_,(aJ (bV (i:=3) oN.nd rfl (Or.inl rfl) (gH aE))
   (aJ (gW PassesOwn.never rfl (oC rfl T.range (aA (bQ lU aW (bQ jA (bR G_cell (hr.mono (by decide)) aM (aA (pv 0) (aA aW aE))) aW)) aE)) (dL (i:=4) oN.nd rfl (Or.inl rfl)) (aJ (bV (i:=5) oN.nd rfl (Or.inl rfl) (gH aE))
   (aJ (gW PassesOwn.never rfl (oC rfl T.range (aA (pv 2) aE)) (dL (i:=6) oN.nd rfl (Or.inl rfl)) (aJ (bV (i:=7) oN.nd rfl (Or.inl rfl) (bQ lU aW (bQ jA (bQ lU (bQ mM (pv 4) (pv 2)) (pv 6)) (cD (c0n rfl) rfl T.max b5p (aA aW (aA (bQ lL (cD fX rfl T.len fJ (aA (pv 0) aE)) aW) aE))))))
   (aJ (bV (i:=8) oN.nd rfl (Or.inl rfl) (bQ lU (bR G_cell (hr.mono (by decide)) aM (aA (pv 0) (aA (pv 7) aE))) (bQ mM (bQ mM (bQ lU (bQ mM (pv 4) (pv 2)) (pv 6)) (bQ lU (pv 4) aW)) aW)))
   (aI (bZ (iJ PySem.F.plainAttrs_list PySem.F.slot_list_append PySem.F.type_list_append gT (pv 5) (aA (bR G_val (hr.mono (by decide)) aM (aA (bQ jA (pv 8) (bQ uC aW aW)) aE)) aE)))))))
   (aI (bZ (iJ PySem.F.plainAttrs_list PySem.F.slot_list_append PySem.F.type_list_append gT (pv 3) (aA (fU (aA (bP dD (pv 1) (pv 4) (fun _ _=>rfl)) (aA (pv 5) aE))) aE)))))))
   (aI (bE (pv 3))))),?_⟩
  refine⟨sl,fun l hl=> ?_⟩
  have s1:=aG.new (o:=.lst []) hl
  have e1:upd H l (.lst []) l=some (.lst []):=aK
  generalize upd H l (.lst [])=H1 at s1 e1|-
  refine⟨_,rfl,a,ns,1,rfl,s1.seq hS,fun z0=> ?_⟩
  obtain⟨n,en,hn2,hn4⟩:∃n:Nat,2+ z0% 3=(n:Int)/\2<=n/\n<=4:=⟨(2+ z0% 3).toNat,by omega,by omega,by omega⟩
  refine⟨_,_,rfl,rfl,(show(0:Int)<3 by decide),_,_,rfl,rfl,(n:Int),by rw[<- en],by omega,by omega,?_⟩
  rw[Int.toNat_natCast]
  refine yR (lo:=0) (n:=n) (fun i σ Hi=>∃o4 o5 o6 o7 o8 ts lv ys ds,σ= [some (.ref a),some (.ref nl),some (.int (m:Int)),some (.ref l),o4,o5,o6,o7,o8] /\aG H Hi/\Hi l=some (.lst ts)/\ts.length=i/\∀j c,j<i->cs[j]?=some c->∃t,ts[j]?=some (.ref t)/\Hi t=some (.tup [.str c,.ref (lv j)])/\H (lv j)=none/\lv j≠l/\Hi (lv j)=some (.lst (ys j))/\(ys j).length=m/\cI K Hi (ys j) (ds j)) ⟨_,_,_,_,_,[],fun _=>l,fun _=> [],fun _=> [],rfl,s1,e1,rfl,fun j c h=>by{omega}⟩ ?_ ?_
  ·rintro i σ Hi hi0 ⟨o4,o5,o6,o7,o8,ts,lv,ys,ds,rfl,si,ei,li,ok⟩
   rw[Int.zero_add]
   have hi:i<cs.length:=by omega
   have c8:cs.length<=8:=by omega
   refine⟨sl,fun l2 hl2=> ?_⟩
   have s2:=aG.new (o:=.lst []) hl2
   have e2:upd Hi l2 (.lst []) l2=some (.lst []):=aK
   generalize upd Hi l2 (.lst [])=H2 at s2 e2|-
   have hl2H:H l2=none:=fT si hl2
   have nl2:l2≠l:=fun y=>by rw[y,ei]at hl2;cases hl2
   have sH2:=si.trans s2
   refine⟨_,rfl,(m:Int),rfl,by omega,by omega,?_⟩
   rw[Int.toNat_natCast]
   refine yR (lo:=0) (n:=m) (fun r σ Hr=>∃o6 o7 o8 zs es,σ= [some (.ref a),some (.ref nl),some (.int (m:Int)),some (.ref l),some (.int (i:Int)),some (.ref l2),o6,o7,o8] /\aG Hi Hr/\Hr l2=some (.lst zs)/\zs.length=r/\cI K Hr zs es) ⟨_,_,_,[],[],rfl,s2,e2,rfl,.nil⟩ ?_ ?_
   ·rintro r σ Hr hr' ⟨o6,o7,o8,zs,es,rfl,sr,er,lr,pz⟩
    rw[Int.zero_add]
    have sHr:=si.trans sr
    have hSr:=sHr.seq hS
    let M:Int:=if(((ns.map V.int).length:Int)- 3)>1 then(((ns.map V.int).length:Int)- 3) else 1
    have hM:0<M:=by
     simp only[M]
     split<;>omega
    have hX:=Int.emod_nonneg ((i:Int)* (m:Int)+ (r:Int)) (show M≠0 by omega)
    refine⟨_,rfl,_,rfl,_,_,rfl,rfl,.inl ⟨by omega,by omega⟩,_,rfl,_,_,rfl,rfl,_,rfl,.ref a,(ns.map V.int).length,rfl,.inl ⟨_,hSr,rfl⟩,_,_,rfl,rfl,_,_,rfl,_,_,rfl,rfl,hM,_,_,rfl,rfl,?_⟩
    refine⟨_,rfl,_,rfl,a,ns,(3+ ((i:Int)* (m:Int)+ (r:Int))% M).toNat,by rw[Int.toNat_of_nonneg (by omega)];rfl,hSr,fun z=> ?_⟩
    refine⟨_,rfl,_,rfl,_,_,rfl,rfl,.inl ⟨by omega,by omega⟩,_,rfl,_,_,rfl,rfl,_,rfl,_,_,rfl,rfl,_,_,rfl,rfl,.inr ⟨by omega,by omega⟩,_,_,rfl,rfl,.inr ⟨by decide,by decide⟩,_,_,rfl,rfl,?_⟩
    refine⟨_,rfl,.inl ⟨rfl,_,aL.of er⟩,_,rfl,_,_,rfl,rfl,⟨by decide,by decide,by decide⟩,_,_,rfl,rfl,(show(0:Int)<10^ (60:Int).toNat by decide+kernel),_,rfl,fun H3 y d s3 py=> ?_⟩
    have h3:=s3 _ _ er
    have kt:bS H3 (upd H3 l2 (.lst (zs++ [y]))):=fun b xs eb=>by
     rw[aH (fun z=>by rw[z,h3]at eb;cases eb)]
     exact eb
    refine⟨l2,_,_,rfl,rfl,h3,cQ (by omega),?_⟩
    exact⟨_,_,_,_,es++ [d],rfl,(sr.trans s3).on hl2,aK,by rw[List.length_append,lr];rfl,cI.snoc (py.keep kt) ((pz.keep (bS.of s3)).keep kt)⟩
   ·rintro σ Hr ⟨o6,o7,o8,zs,es,rfl,sr,er,lr,pz⟩
    have ec:cs[i]?=some (cs[i]'hi):=List.getElem?_eq_getElem hi
    have elc:=(si.trans sr) _ _ hlc
    have eir:=sr _ _ ei
    refine⟨_,rfl,.inl ⟨rfl,_,aL.of eir⟩,_,rfl,_,rfl,nl,_,(i:Int),.str (cs[i]'hi),rfl,rfl,aL.of elc,eQ (by rw[List.getElem?_map,ec];rfl),_,rfl,sl,fun t ht=> ?_⟩
    have s3:=aG.new (o:=.tup [.str (cs[i]'hi),.ref l2]) ht
    have t3:upd Hr t (.tup [.str (cs[i]'hi),.ref l2]) t=some (.tup [.str (cs[i]'hi),.ref l2]):=aK
    generalize upd Hr t (.tup [.str (cs[i]'hi),.ref l2])=H3 at s3 t3|-
    have h3l:=s3 _ _ eir
    refine⟨l,_,_,rfl,rfl,h3l,cQ (by omega),?_⟩
    have u4:bG l H3 (upd H3 l (.lst (ts++ [.ref t]))):=bG.upd
    have e4:upd H3 l (.lst (ts++ [.ref t])) l=some (.lst (ts++ [.ref t])):=aK
    have sH4:aG H (upd H3 l (.lst (ts++ [.ref t]))):=((si.trans sr).trans s3).on hl
    generalize upd H3 l (.lst (ts++ [.ref t]))=H4 at u4 e4 sH4|-
    have kt4:bS H3 H4:=fun b xs eb=>u4 _ _ (fun y=>by rw[y,h3l]at eb;cases eb) eb
    refine⟨_,_,_,_,_,ts++ [.ref t],fun j=>if j=i then l2 else lv j,fun j=>if j=i then zs else ys j,fun j=>if j=i then es else ds j,rfl,sH4,e4,by rw[List.length_append,li];rfl,fun j c hj hc=> ?_⟩
    show∃t',(ts++ [V.ref t])[j]?=some (.ref t')/\H4 t'=some (.tup [.str c,.ref (if j=i then l2 else lv j)])/\H (if j=i then l2 else lv j)=none/\(if j=i then l2 else lv j)≠l/\H4 (if j=i then l2 else lv j)=some (.lst (if j=i then zs else ys j))/\(if j=i then zs else ys j).length=m/\cI K H4 (if j=i then zs else ys j) (if j=i then es else ds j)
    by_cases h:j=i
    ·subst h
     rw[if_pos rfl,if_pos rfl,if_pos rfl]
     rw[ec]at hc
     obtain rfl:=Option.some.inj hc
     exact⟨t,by rw[List.getElem?_append_right (by omega),li,Nat.sub_self];rfl,kt4 _ _ t3,hl2H,nl2,u4 _ _ nl2 (s3 _ _ er),lr,(pz.keep (bS.of s3)).keep kt4⟩
    ·rw[if_neg h,if_neg h,if_neg h]
     obtain⟨t',a1,a2,a3,a4,a5,a6,a7⟩:=ok j c (by omega) hc
     have k3:aG Hi H3:=sr.trans s3
     exact⟨t',by rw[List.getElem?_append_left (by omega)];exact a1,kt4 _ _ (k3 _ _ a2),a3,a4,u4 _ _ a4 (k3 _ _ a5),a6,(a7.keep (bS.of k3)).keep kt4⟩
  ·rintro σ Hi ⟨o4,o5,o6,o7,o8,ts,lv,ys,ds,rfl,si,ei,li,ok⟩
   refine⟨_,rfl,q Hi l n ts lv ys ds si hl ei hn2 hn4 ⟨by rw[li,List.length_take];omega,fun i c hc=> ?_⟩ (fun i hi=>let ⟨_,_,_,_,a4,_⟩:=ok i (cs[i]'(by omega)) hi (List.getElem?_eq_getElem (by omega));a4)⟩
   have hi:i<n:=by
    have:=(List.getElem?_eq_some_iff.mp hc).1
    rw[List.length_take]at this
    omega
   rw[List.getElem?_take_of_lt hi]at hc
   obtain⟨t',a1,a2,a3,a4,a5,a6,a7⟩:=ok i c hi hc
   exact⟨t',a1,a2,a3,a5,a6,a7⟩
def b8D(K:Fg)(CS CF CB CT:Addr)(spA:Sp)(X:VC):Sp:=fun vs H Q _=>∃(s bd ch fi:Addr) (kb:List (aC×V)) (nm c:Str) (m:Nat) (B:BM),vs= [.ref s,.str nm,.str c,.int 0,.int (m:Int)] /\X.Inv H/\B.xs.length=m/\m<=30/\Nl c/\c∈B.ord/\(∀H,X.Inv H->iV CS CB CT s bd ch fi kb nm B H)/\
 (∀(H:Hp) (p:Nat) (Q:VK),X.Inv H->p<m->(∀H' v,X.Inv H'->bM X.Free H H'->Pw K H' v (X.M.val s nm c p)->Q v H')->kW CS CF CB CT (jG CF spA) [.ref s,.str nm,.str c,.int (p:Int)] H Q E0)/\
 ∀H' l ys,X.Inv H'->bM X.Free H H'->H l=none->H' l=some (.lst ys)->cZ K H' ys ((List.range m).map (X.M.val s nm c))->Q (.ref l) H'
def b1f(P:Program)(w:World)(K:Fg)(mg:Str->Option Value)(base:Heap)(CS CF CB CT:Addr)(dc:Nat)(spA:Sp):Sp:=fun vs H Q E=>∃X:VC,SI P w K mg base CS dc X/\b8D K CS CF CB CT spA X vs H Q E
abbrev zZ:List Str:=["self","table","column","start","end","many"]
theorem b14:aY zZ ["self","table","column","start","end"] (aF mW):=⟨rfl,rfl,rfl,by decide+kernel,rfl,by decide+kernel,by decide+kernel⟩
theorem sV(T:aZ K mg){CS CF CB CT:Addr}(Y:eZ K mg CS)(F:eM K mg CF)(Wb:cU K mg CB)(U:dO K mg CT){dc k:Nat}(hk:4<=k){spA:Sp}(G:aN P w K mg base aB k CF "value_of" ["self","cell"] (jG CF spA)):aN P w K mg base aB (k+ 1) CS "stretch" ["self","table","column","start","end"] (b1f P w K mg base CS CF CB CT dc spA):=by
 have G_is_whole:bK P w K mg base aB 1 "is_whole" ["thing"] (tM K):=mV T
 have G_with:aN P w K mg base aB 3 CS "board_with" ["self","table","column"] (a3O CS CB CT):=rM T Y Wb
 have G_many:aN P w K mg base aB 1 CT "many" ["self"] (lS CT):=jS T U
 refine Y.m_stretch.known b14 (fun _ _ _ _ _ _ us hl=>bi5 (fun _ _ _ _ _=>rfl) us hl) (fun vs H Q E h=> ?_) (fun f cdv A outer s H vs Q E hr h=> ?_)
 ·obtain⟨X,_,s',bd,ch,fi,kb,nm,c,m,B,rfl,_⟩:=h
  rfl
 ·obtain⟨X,I,s',bd,ch,fi,kb,nm,c,m,B,rfl,hI,lx,m30,nc,hc,hSh,hcell,q⟩:=h
  have hcl:∀x,(dX aB P w K mg base zZ "Sheet.stretch" (aF mW) f cdv A outer s H E).nox.env.scope.names.lookup x=some .cell->∃c,(dX aB P w K mg base zZ "Sheet.stretch" (aF mW) f cdv A outer s H E).nox.env.cells.lookup x=some c:=fun x hx=>Option.isSome_iff_exists.mp (PySem.W.cellsFrom_some _ _ _ (.inl hx))
  refine⟨_,(aJ (bV (i:=5) b14.nd rfl (by first|exact Or.inl rfl|exact Or.inr rfl) (lJ (aX (bW (pv 0) Y.cl G_with (hr.mono (by omega)) aM (aA (pv 1) (aA (pv 2) aE))) rfl) U.cl G_many (hr.mono (by omega)) aM))
   (aJ (bN (PW.pt (fP (dC (cH (bR G_is_whole (hr.mono (by omega)) aM (aA (pv 3) aE)) (fun _=>rfl))) (fP (dC (cH (bR G_is_whole (hr.mono (by omega)) aM (aA (pv 4) aE)) (fun _=>rfl))) (gP (dC (b8K nM nM nM aW (pv 3) (pv 4) (pv 5))))))) (aI cF) bO)
   (aI (bE (lC (te:=xX CF "value_of" (jG CF spA) [] E0 (tFld K (jU 3) "finder") (nV (tTup (nV (jU 1) (nV (jU 2) (nV (jU 0) lQ)))) lQ)) (lP (sc:=aF mW) (N:=zZ) (cp:=[(1,"table"),(2,"column"),(0,"self")]) hcl) rfl rfl (by decide) (b4f rfl T.range (aA (pv 3) (aA (pv 4) aE))) (fun _ _ _ _ _=>kK) (fun _ _ _ _ _=>(bW (aX (pv 3) rfl) F.cl G hr aM (aA (fU (aA (pv 1) (aA (pv 2) (aA (pv 0) aE)))) aE)))))))),?_⟩
  obtain⟨⟨dx,hs⟩,hbd,nn,hv,hB⟩:=hSh H hI
  refine⟨_,rfl,s',dx,_,rfl,hs,eO,_,rfl,_,rfl,s',bd,ch,fi,dx,kb,nm,c,B,rfl,hs,hbd,nn,hv,hB,nc,hc,fun H1 s1=> ?_⟩
  obtain⟨dB,hb⟩:=hB.at_
  obtain⟨dT,hT⟩:=hB.tab.at_
  refine⟨B.b,CB,dB,_,_,rfl,s1 _ _ hb,Wb.cl,Wb.n_given,(dG _ _ _ _).1,B.g,dT,_,rfl,s1 _ _ hT,jJ,B.g,B.r,B.e,B.xs,B.n,B.kvs,rfl,hB.tab.same s1,?_⟩
  have i1:=I.same hI s1
  rw[lx]
  refine⟨_,rfl,_,.int 0,rfl,.int _,_,rfl,bJ ⟨_,rfl,_,.int (m:Int),rfl,.int _,_,rfl,bJ ?_⟩⟩
  refine⟨_,rfl,_,_,rfl,rfl,_,rfl,cG ⟨_,rfl,_,_,rfl,rfl,_,rfl,?_⟩⟩
  rw[decide_eq_true (show(0:Int)<=(m:Int)by omega)]
  refine cG ⟨_,rfl,_,_,rfl,rfl,_,rfl,?_⟩
  rw[decide_eq_true (show(m:Int)<=(m:Int) from Int.le_refl _)]
  refine bJ ?_
  refine⟨_,rfl,_,rfl,0,(m:Int),rfl,⟨by omega,by omega,by omega,by omega⟩,fun D hD=> ?_⟩
  rw[Int.sub_zero,Int.toNat_natCast]
  refine b3Y (lo:=0) (n:=m) (fun i ys H2=>X.Inv H2/\bM X.Free H1 H2/\ys.length=i/\cZ K H2 ys ((List.range i).map (X.M.val s' nm c))) ⟨I.same i1 (aG.new hD),bM.of (aG.new hD),rfl,.nil⟩ ?_ ?_
  ·rintro i ys H2 hi h2 ⟨i2,f2,l2,py⟩
   rw[Int.zero_add]
   obtain⟨⟨dx2,hs2⟩,_⟩:=hSh H2 i2
   have hp:=hcell H2 i (jE D (fun i ys H2=>X.Inv H2/\bM X.Free H1 H2/\ys.length=i/\cZ K H2 ys ((List.range i).map (X.M.val s' nm c))) i ys) i2 hi fun H3 v i3 f3 pv=>by
    have h3D:=f3.k _ _ (I.new i1 hD) (fun _ y=>by cases y) h2
    have kt:bS H3 (upd H3 D (.lst (ys++ [v]))):=fun b xs eb=>by
     rw[aH (fun z=>by rw[z,h3D]at eb;cases eb)]
     exact eb
    refine⟨h3D,cQ (by omega),I.on i1 hD i3 h3D,(f2.trans f3).on hD,by rw[List.length_append,l2];rfl,?_⟩
    rw[List.range_succ,List.map_append]
    exact cZ.snoc (pv.keep kt) ((py.keep f3.kt).keep kt)
   obtain⟨sa,bda,cha,fia,dfa,kba,nma,ca,pa,Ba,fsa,ea,hSa,_,_,_,hfa,hna,qa⟩:=hp
   injection ea with e1 ea
   injection ea with e2 ea
   injection ea with e3 ea
   injection ea with e4 ea
   injection e1 with e1
   injection e2 with e2
   injection e3 with e3
   injection e4 with e4
   obtain rfl:i=pa:=by omega
   subst e1 e2 e3
   obtain⟨⟨dxa,hsa⟩,_⟩:=hSa
   exact⟨_,rfl,s',CS,dxa,_,_,rfl,hsa,Y.cl,Y.n_finder,(kN _ _ _).2.2.1,fia,dfa,fsa,rfl,hfa,hna,_,rfl,_,rfl,_,rfl,sl,fun ce hce=>qa _ ce hce (aG.new hce) aK⟩
  ·rintro ys H2 h2 ⟨i2,f2,l2,py⟩
   exact q H2 D ys i2 ((bM.of s1).trans f2) (fT s1 hD) h2 py
end
theorem b2m:∀{ds:List PyData},(∀d∈ds,PyData.eqv d d=true)->PyData.eqvAll ds ds=true
 | [],_=>by simp[PyData.eqvAll]
 |d::ds,h=>by
  simp only[PyData.eqvAll,Bool.and_eq_true]
  exact⟨h d List.mem_cons_self,b2m fun x hx=>h x (List.mem_cons_of_mem _ hx)⟩
theorem b3J{ds:List PyData}(h:∀d∈ds,PyData.eqv d d=true):PyData.eqv (.list ds) (.list ds)=true:=by
 have:=b2m h
 simp only[PyData.eqv]
 exact this
theorem b1I{ds:List PyData}{n:Nat}(h:∀d∈ds,d.canLay0=true/\d.depth<=n):(PyData.list ds).canLay0=true/\(PyData.list ds).depth<=n+ 1:=by
 have:PyData.canLayAll0 ds=true/\PyData.depthAll ds<=n:=by
  induction ds with
  |nil=>exact⟨rfl,Nat.zero_le _⟩
  |cons d ds ih=>
   obtain⟨h1,h2⟩:=ih fun x hx=>h x (List.mem_cons_of_mem _ hx)
   obtain⟨g1,g2⟩:=h d List.mem_cons_self
   refine⟨?_,?_⟩
   ·show(d.canLay0&&PyData.canLayAll0 ds)=true
    rw[g1,h1]
    rfl
   ·show max d.depth (PyData.depthAll ds)<=n
    omega
 exact⟨this.1,Nat.succ_le_succ this.2⟩
theorem b7v{ds:List PyData}(h:∀d∈ds,Vd d):(PyData.list ds).canLay0=true/\(PyData.list ds).depth<=64/\PyData.eqv (.list ds) (.list ds)=true:=by
 obtain⟨a,b⟩:=b1I (n:=62) fun d hd=>(h d hd).lay
 exact⟨a,Nat.le_trans b (by decide),b3J fun d hd=>(h d hd).eqv⟩
theorem b7E{cs:List Str}(h:∀c∈cs,Nl c):(PyData.list (cs.map PyData.str)).canLay0=true/\(PyData.list (cs.map PyData.str)).depth<=64/\PyData.eqv (.list (cs.map PyData.str)) (.list (cs.map PyData.str))=true:=by
 obtain⟨a,b⟩:=b1I (n:=0) (ds:=cs.map PyData.str) fun d hd=>by
  obtain⟨c,hc,rfl⟩:=List.mem_map.mp hd
  exact⟨(h c hc).lay,Nat.le_refl 0⟩
 refine⟨a,Nat.le_trans b (by decide),b3J fun d hd=> ?_⟩
 obtain⟨c,hc,rfl⟩:=List.mem_map.mp hd
 simp[PyData.eqv]
theorem b7f{nm c:Str}(hn:Nl nm)(hc:Nl c)(p:Int):(PyData.list [.tuple [.str nm,.str c,.int p]]).canLay0=true/\(PyData.list [.tuple [.str nm,.str c,.int p]]).depth<=64/\PyData.eqv (.list [.tuple [.str nm,.str c,.int p]]) (.list [.tuple [.str nm,.str c,.int p]])=true:=by
 have l1:=hn.lay
 have l2:=hc.lay
 refine⟨?_,?_,?_⟩
 ·show(((PyData.canLay0 (.str nm))&&((PyData.canLay0 (.str c))&&(true&&true)))&&true)=true
  rw[l1,l2]
  rfl
 ·exact(show 2<=64 by decide)
 ·simp[PyData.eqv,PyData.eqvAll]
def VC.Tab(K:Fg)(X:VC)(H:Hp)(v:VW)(ts:List V):Prop:=ts.length=(X.M.cols v.bs.1 v.bs.2).length/\∀(i:Nat) (c:Str),(X.M.cols v.bs.1 v.bs.2)[i]?=some c->∃(t l:Addr) (ys:List V),ts[i]?=some (V.ref t)/\H t=some (.tup [.str c,.ref l])/\X.Free l/\H l=some (.lst ys)/\cZ K H ys ((List.range (X.M.many v.bs.1 v.bs.2)).map (X.M.val v.bs.1 v.bs.2 c))
theorem VC.Tab.fr{K:Fg}{X:VC}{H H':Hp}{v:VW}{ts:List V}(u:bM X.Free H H')(h:X.Tab K H v ts):X.Tab K H' v ts:=by
 refine⟨h.1,fun i c hc=> ?_⟩
 obtain⟨t,l,ys,a1,a2,a3,a4,a5⟩:=h.2 i c hc
 exact⟨t,l,ys,a1,u.kt _ _ a2,a3,u.k _ _ a3 (fun _ y=>by cases y) a4,a5.keep u.kt⟩
section
variable{P:Program}{w:World}{K:Fg}{mg:Str->Option Value}{base:Heap}
theorem b2j{X:VC}{v:VW}{ts:List V}{lc D:Addr}{H1:Hp}{Q:VK}{σ:St}(e1:H1 lc=some (.lst ts))(tb:X.Tab K H1 v ts)(c30:(X.M.cols v.bs.1 v.bs.2).length<=30)(hD:H1 D=none)(q:∀H',aG H1 H'->H' D=some (.lst ((X.M.cols v.bs.1 v.bs.2).map V.str))->Q (.ref D) H'):a0N [] (xT K 2 (kG (gF 0) (kG (gF 1) qB))) mU (jU 0) σ (lV K lc) D Q H1:=by
 refine b4k (K:=K) (a:=lc) (xs:=ts) (fun i ys H2=>aG H1 H2/\ys=((X.M.cols v.bs.1 v.bs.2).take i).map V.str) ⟨aG.new hD,rfl⟩ (fun i ys H2 _ h=>aL.of (h.1 _ _ e1)) ?_ b5S ?_
 ·rintro i x ys H2 o o' hx h2 ⟨s2,rfl⟩
  have hi:i<ts.length:=(List.getElem?_eq_some_iff.mp hx).1
  obtain⟨c,ec⟩:∃c,(X.M.cols v.bs.1 v.bs.2)[i]?=some c:=⟨_,List.getElem?_eq_getElem (by rw[<- tb.1];exact hi)⟩
  obtain⟨t,l,ys,a1,a2,_⟩:=tb.2 i c ec
  rw[a1]at hx
  obtain rfl:=Option.some.inj hx
  refine⟨t,_,rfl,bU.of (s2 _ _ a2),rfl,_,_,rfl,_,_,rfl,rfl,_,_,rfl,_,rfl,h2,cQ ?_,s2.on hD,?_⟩
  ·rw[List.length_map,List.length_take]
   omega
  ·rw[List.take_add_one,ec,List.map_append]
   rfl
 ·rintro ys H2 h2 ⟨s2,rfl⟩
  rw[tb.1,List.take_length]at h2
  exact q H2 s2 h2
def spCk(K:Fg)(X:VC)(n:Nat):Sp:=fun vs H Q _=>∃(v:VW) (lc lp:Addr) (ts:List V),vs= [.ref v.a,.ref lc,.ref lp,.str v.bs.2] /\v.rk<=n/\X.At H v/\X.Inv H/\X.Free lc/\H lc=some (.lst ts)/\X.Tab K H v ts/\X.Free lp/\H lp=some (.lst (dA (v.rows X.M)))/\(∀c∈X.M.cols v.bs.1 v.bs.2,Nl c)/\Nl v.bs.2/\∀H',X.Inv H'->bM X.Free H H'->Q (.bl true) H'
abbrev Nck:List Str:=["_law_view","_law_columns_here","_law_places","_law_table","_law_told","_law_name","_law_values","_law_shown","_law_k"]
theorem qQ:aY Nck ["_law_view","_law_columns_here","_law_places","_law_table"] (aF uI):=⟨rfl,rfl,rfl,by decide+kernel,rfl,by decide+kernel,by decide+kernel⟩
def b35(P:Program)(w:World)(K:Fg)(mg:Str->Option Value)(base:Heap)(CS:Addr)(dc n:Nat):Sp:=fun vs H Q E=>∃X:VC,SI P w K mg base CS dc X/\VT K mg X/\spCk K X n vs H Q E
theorem xU(T:aZ K mg){CS:Addr}{dc:Nat}(hd:4<=dc)(cl:bX K CS)(n:Nat):bK P w K mg base aB (dc+ 2+ n+ 1+ 1+ 1) "_law_checked" ["_law_view","_law_columns_here","_law_places","_law_table"] (b35 P w K mg base CS dc n):=by
 have G_same:bK P w K mg base aB 1 "_law_same_value" ["_law_found","_law_due"] (spSm K):=tU T
 refine T.d_law_checked.known qQ (fun _ _ _ _ _ _ us hl=>mF (fun _ _ _ _=>rfl) us hl) (fun vs H Q E h=> ?_) (fun f cdv A outer s H vs Q E hr h=> ?_)
 ·obtain⟨X,_,_,v,lc,lp,ts,rfl,_⟩:=h
  rfl
 ·obtain⟨X,I,Z,v,lc,lp,ts,rfl,hk,hv,hI,fc,hlc,tb,fp,hlp,nc,nn,q⟩:=h
  have N:=vk3 T (Nat.le_trans (by decide) hd) I cl Z n
  have GM:∀k,k<2->aN P w K mg base aB (dc+ 2+ n+ 1) (X.cls k) "many" ["self"] (vP X n):=fun k _=>nU T Z N k
  have GS:∀k,k<2->aN P w K mg base aB (dc+ 2+ n+ 1) (X.cls k) "shown" ["self","column"] (spSh K X n):=fun k _=>oG T hd I Z N k
  have GL:∀k,k<2->aN P w K mg base aB (dc+ 2+ n+ 1+ 1) (X.cls k) "look" ["self","column","place"] (spLo K X n):=fun k _=>nS T hd I Z N k
  have GP:∀k,k<2->aN P w K mg base aB (dc+ 2+ n+ 1+ 1) (X.cls k) "spots" ["self","column","place"] (spSp X n):=fun k _=>oE T hd I Z N k
  refine⟨_,(aJ (bV (i:=4) qQ.nd rfl (Or.inl rfl) (iQ (pv 0) (RD.k Z N.co) (hr.mono (by omega)) aM))
   (aJ (bN (PW.pt (fP (dC (cH (cD fS rfl T.isinstance fH (aA (pv 4) (aA (fC T.list iR) aE))) (fun _=>rfl))) (fP (cJ (oS hr.units) (pv 4) (b1d oT rfl rfl rfl (by decide) (fL (pv 1)) (fun _ _ _ _ _=>kK) (fun _ _ _ _ _=>(pv 0))) (cO _)) (gP (cJ qM (iQ (R:=RD X fun _=>vP X n) (pv 0) (RD.k Z GM) (hr.mono (by omega)) aM) (cD fX rfl T.len fJ (aA (pv 2) aE)) (cO _)))))) (aI (bE iD)) bO)
   (aJ (bZ (iJ PySem.F.plainAttrs_list PySem.F.slot_list_append PySem.F.type_list_append gT (pv 4) (aA hU aE)))
   (aJ (bN (cJ (oS hr.units) (iQ (pv 0) (RD.k Z N.co) (hr.mono (by omega)) aM) (b1d oT rfl rfl rfl (by decide) (fL (pv 1)) (fun _ _ _ _ _=>kK) (fun _ _ _ _ _=>(pv 0))) (cO _)) (aI (bE iD)) bO)
   (aJ (bN (PW.pt (fP (dC (cH (cD fS rfl T.isinstance fH (aA (iQ (R:=RD X fun _=>vP X n) (pv 0) (RD.k Z GM) (hr.mono (by omega)) aM) (aA (fC T.int zJ) aE))) (fun _=>rfl))) (gP (cH (cD fS rfl T.isinstance fH (aA (iQ (R:=RD X fun _=>vP X n) (pv 0) (RD.k Z GM) (hr.mono (by omega)) aM) (aA (fC T.bool a3c) aE))) (fun _=>rfl))))) (aI (bE iD)) bO)
   (aJ (gW PassesOwn.never rfl (fL (pv 1)) (oO rfl (hZ (dL (i:=5) qQ.nd rfl (Or.inl rfl)) (hZ (dL (i:=6) qQ.nd rfl (Or.inl rfl)) nT))) (aJ (bV (i:=7) qQ.nd rfl (Or.inl rfl) (kF (R:=RD X fun _=>spSh K X n) (pv 0) (RD.k Z GS) (hr.mono (by omega)) aM (aA (pv 5) aE)))
   (aJ (bN (PW.pt (fP (dC (cH (cD fS rfl T.isinstance fH (aA (pv 7) (aA (fC T.list iR) aE))) (fun _=>rfl))) (gP (cJ qM (cD fX rfl T.len fJ (aA (pv 7) aE)) (cD fX rfl T.len fJ (aA (pv 2) aE)) (cO _))))) (aI (bE iD)) bO)
   (aJ (gW PassesOwn.never rfl (oC rfl T.range (aA (cD fX rfl T.len fJ (aA (pv 2) aE)) aE)) (dL (i:=8) qQ.nd rfl (Or.inl rfl)) (aJ (bN (dC (cH (bR G_same (hr.mono (by omega)) aM (aA (bP dD (pv 7) (pv 8) (fun _ _=>rfl)) (aA (bP dD (pv 6) (bP dD (pv 2) (pv 8) (fun _ _=>rfl)) (fun _ _=>rfl)) aE))) (fun _=>rfl))) (aI (bE iD)) bO)
   (aJ (bN (dC (cH (bR G_same (hr.mono (by omega)) aM (aA (kF (R:=RD X fun _=>spLo K X n) (pv 0) (RD.k Z GL) hr aM (aA (pv 5) (aA (pv 8) aE))) (aA (bP dD (pv 6) (bP dD (pv 2) (pv 8) (fun _ _=>rfl)) (fun _ _=>rfl)) aE))) (fun _=>rfl))) (aI (bE iD)) bO)
   (aI (bN (cJ (oS hr.units) (kF (R:=RD X fun _=>spSp X n) (pv 0) (RD.k Z GP) hr aM (aA (pv 5) (aA (pv 8) aE))) (gH (aA (fU (aA (pv 3) (aA (pv 5) (aA (bP dD (pv 2) (pv 8) (fun _ _=>rfl)) aE)))) aE)) (cO _)) (aI (bE iD)) bO)))))
   (aI (bZ (iJ PySem.F.plainAttrs_list PySem.F.slot_list_append PySem.F.type_list_append gT (pv 7) (aA aW aE))))))))
   (aI (bE iD)))))))),?_⟩
  obtain⟨dv,fs,ev,no⟩:=hv.ins
  obtain⟨ok,n30,c30,rlt⟩:=hv.num
  obtain⟨sl1,sl2,sl3⟩:=b7E nc
  refine⟨_,rfl,_,_,v.a,dv,fs,RD.at v,rfl,ev,no _ (by decide+kernel),v,rfl,rfl,hk,hv,hI,fun H1 l1 s1 hl1 e1=> ?_⟩
  have f1:bM X.Free H H1:=bM.of s1
  have i1:=I.same hI s1
  refine⟨_,rfl,_,"list",_,_,rfl,.lst (aL.of e1) (mG _),wN K _,_,rfl,bJ ⟨_,rfl,_,rfl,lc,rfl,⟨_,aL.of (s1 _ _ hlc)⟩,fun D hD=> ?_⟩⟩
  refine b2j (s1 _ _ hlc) (tb.fr f1) c30 hD fun H2 s2 e2=> ?_
  refine⟨_,_,.lst (aL.of (s2 _ _ e1)) (mG _),.lst (aL.of e2) (mG _),sl1,sl1,sl2,_,rfl,?_⟩
  rw[sl3]
  have f2:=f1.trans (bM.of s2)
  have i2:=I.same i1 s2
  refine bJ ⟨_,rfl,_,_,v.a,dv,fs,RD.at v,rfl,s2 _ _ (s1 _ _ ev),no _ (by decide+kernel),v,rfl,hk,hv.fr f2,i2,fun H3 i3 f3=> ?_⟩
  have f03:=f2.trans f3
  have elp3:=f03.k _ _ fp (fun _ y=>by cases y) hlp
  refine⟨_,rfl,.ref lp,_,rfl,.inl ⟨_,aL.of elp3,rfl⟩,rfl,_,rfl,?_⟩
  rw[nJ]
  refine dN (fun h=>absurd h (by simp)) (fun _=> ?_)
  have fl1:=I.new hI hl1
  have e13:=f3.k _ _ fl1 (fun _ y=>by cases y) (s2 _ _ e1)
  refine⟨_,rfl,.inl ⟨rfl,_,aL.of e13⟩,l1,_,_,rfl,rfl,e13,cQ (by rw[List.length_map];omega),?_⟩
  have i4:=I.on (o:=.lst ((X.M.cols v.bs.1 v.bs.2).map V.str++ [.str "zz"])) hI hl1 i3 e13
  have f04:=f03.on (o:=.lst ((X.M.cols v.bs.1 v.bs.2).map V.str++ [.str "zz"])) hl1
  generalize upd H3 l1 (.lst ((X.M.cols v.bs.1 v.bs.2).map V.str++ [.str "zz"]))=H4 at i4 f04|-
  have hv4:=hv.fr f04
  obtain⟨dv4,fs4,ev4,no4⟩:=hv4.ins
  refine⟨_,rfl,_,_,v.a,dv4,fs4,RD.at v,rfl,ev4,no4 _ (by decide+kernel),v,rfl,rfl,hk,hv4,i4,fun H5 l5 s5 hl5 e5=> ?_⟩
  have f05:=f04.trans (bM.of s5)
  have elc5:=f05.k _ _ fc (fun _ y=>by cases y) hlc
  refine⟨_,rfl,lc,rfl,⟨_,aL.of elc5⟩,fun D5 hD5=> ?_⟩
  refine b2j elc5 (tb.fr f05) c30 hD5 fun H6 s6 e6=> ?_
  refine⟨_,_,.lst (aL.of (s6 _ _ e5)) (mG _),.lst (aL.of e6) (mG _),sl1,sl1,sl2,_,rfl,?_⟩
  rw[sl3]
  have f06:=f05.trans (bM.of s6)
  have i6:=I.same (I.same i4 s5) s6
  have hv6:=hv.fr f06
  obtain⟨dv6,fs6,ev6,no6⟩:=hv6.ins
  refine bJ ⟨_,rfl,_,_,v.a,dv6,fs6,RD.at v,rfl,ev6,no6 _ (by decide+kernel),v,rfl,hk,hv6,i6,fun H7 i7 f7=> ?_⟩
  have f07:=f06.trans f7
  have hv7:=hv.fr f07
  obtain⟨dv7,fs7,ev7,no7⟩:=hv7.ins
  refine⟨_,"int",.int _,_,rfl,.int _,a5Y K _,_,rfl,bJ ⟨_,rfl,_,_,v.a,dv7,fs7,RD.at v,rfl,ev7,no7 _ (by decide+kernel),v,rfl,hk,hv7,i7,fun H8 i8 f8=> ?_⟩⟩
  refine⟨_,"bool",.int _,_,rfl,.int _,a1q K _,_,rfl,bJ ?_⟩
  have f08:=f07.trans f8
  have elc8:=f08.k _ _ fc (fun _ y=>by cases y) hlc
  refine⟨_,rfl,lc,rfl,⟨_,aL.of elc8⟩,?_⟩
  refine kM (K:=K) (a:=lc) (xs:=ts) (fun i σ Hi=>∃o5 o6 o7 o8,σ= [some (.ref v.a),some (.ref lc),some (.ref lp),some (.str v.bs.2),some (.ref l1),o5,o6,o7,o8] /\X.Inv Hi/\bM X.Free H Hi) ⟨_,_,_,_,rfl,i8,f08⟩ (by rintro i σ Hi _ ⟨_,_,_,_,_,_,fi⟩;exact aL.of (fi.k _ _ fc (fun _ y=>by cases y) hlc)) ?_ ?_
  ·rintro i x σ Hi hx ⟨o5,o6,o7,o8,rfl,ii,fi⟩
   obtain⟨c,ec⟩:∃c,(X.M.cols v.bs.1 v.bs.2)[i]?=some c:=⟨_,List.getElem?_eq_getElem (by rw[<- tb.1];exact(List.getElem?_eq_some_iff.mp hx).1)⟩
   obtain⟨t,l,ys,a1,a2,a3,a4,a5⟩:=(tb.fr fi).2 i c ec
   rw[a1]at hx
   obtain rfl:=Option.some.inj hx
   have hc:c∈X.M.cols v.bs.1 v.bs.2:=List.mem_of_getElem? ec
   have hvi:=hv.fr fi
   obtain⟨dvi,fsi,evi,noi⟩:=hvi.ins
   refine⟨t,_,rfl,bU.of a2,rfl,_,_,rfl,_,_,rfl,rfl,?_⟩
   refine⟨_,rfl,_,_,v.a,dvi,fsi,RD.at v,rfl,evi,noi _ (by decide+kernel),_,rfl,v,c,rfl,hk,hvi,ii,hc,fun H9 l9 zs i9 f9 hl9 e9 p9=> ?_⟩
   have lz:zs.length=(v.rows X.M).length:=by have:=Paired.length p9;rwa [List.length_map]at this
   have f09:=fi.trans f9
   have elp9:=f09.k _ _ fp (fun _ y=>by cases y) hlp
   refine⟨_,rfl,_,"list",_,_,rfl,.lst (aL.of e9) p9.dt,wN K _,_,rfl,bJ ⟨_,rfl,.ref l9,_,rfl,.inl ⟨_,aL.of e9,rfl⟩,_,rfl,.ref lp,_,rfl,.inl ⟨_,aL.of elp9,rfl⟩,rfl,_,rfl,?_⟩⟩
   rw[nJ,lz]
   refine dN (fun h=>absurd h (by simp)) (fun _=> ?_)
   refine⟨_,rfl,.ref lp,_,rfl,.inl ⟨_,aL.of elp9,rfl⟩,((v.rows X.M).length:Int),by rw[nJ],by omega,by omega,?_⟩
   rw[Int.toNat_natCast]
   have fl9:=I.new ii hl9
   refine yR (lo:=0) (n:=(v.rows X.M).length) (fun j σ Hj=>∃o8,σ= [some (.ref v.a),some (.ref lc),some (.ref lp),some (.str v.bs.2),some (.ref l1),some (.str c),some (.ref l),some (.ref l9),o8] /\X.Inv Hj/\bM X.Free H9 Hj) ⟨_,rfl,i9,bM.of (aG.refl _)⟩ ?_ ?_
   ·rintro j σ Hj hj ⟨o8,rfl,ij,fj⟩
    rw[Int.zero_add]
    obtain⟨r,er⟩:∃r,(v.rows X.M)[j]?=some r:=⟨_,List.getElem?_eq_getElem hj⟩
    have hr':=rlt r (List.mem_of_getElem? er)
    have atp:bY (dA (v.rows X.M)) (j:Int)=some (.int (r:Int)):=eQ (by unfold dA;rw[List.getElem?_map,er];rfl)
    obtain⟨zv,zd,z1,z2,z3⟩:=cZ.at (p9.keep fj.kt) (i:=j) (by rw[List.length_map];exact hj)
    rw[List.getElem?_map,er]at z2
    obtain rfl:=Option.some.inj z2
    have a5j:=(a5.keep f9.kt).keep fj.kt
    obtain⟨yv,yd,y1,y2,y3⟩:=cZ.at a5j (i:=r) (by rw[List.length_map,List.length_range];exact hr')
    rw[List.getElem?_map,List.getElem?_range hr']at y2
    obtain rfl:=Option.some.inj y2
    have e9j:=fj.k _ _ fl9 (fun _ y=>by cases y) e9
    have elpj:=fj.k _ _ fp (fun _ y=>by cases y) elp9
    have a4j:=fj.k _ _ a3 (fun _ y=>by cases y) (f9.k _ _ a3 (fun _ y=>by cases y) a4)
    refine⟨_,rfl,_,rfl,l9,_,(j:Int),zv,rfl,rfl,aL.of e9j,eQ z1,_,rfl,_,rfl,_,rfl,lp,_,(j:Int),_,rfl,rfl,aL.of elpj,atp,l,_,(r:Int),yv,rfl,rfl,aL.of a4j,eQ y1,zv,yv,_,rfl,z3,y3,_,rfl,bJ ?_⟩
    have hvj:=hv.fr (f09.trans fj)
    obtain⟨dvj,fsj,evj,noj⟩:=hvj.ins
    refine⟨_,rfl,_,_,v.a,dvj,fsj,RD.at v,rfl,evj,noj _ (by decide+kernel),_,rfl,_,rfl,v,c,j,rfl,hk,hvj,ij,hc,hj,fun Ha ya ra ia fa ea pa=> ?_⟩
    obtain rfl:r=ra:=by rw[er]at ea;exact Option.some.inj ea
    have elpa:=fa.k _ _ fp (fun _ y=>by cases y) elpj
    have a4a:=fa.k _ _ a3 (fun _ y=>by cases y) a4j
    refine⟨_,rfl,_,rfl,_,rfl,lp,_,(j:Int),_,rfl,rfl,aL.of elpa,atp,l,_,(r:Int),yv,rfl,rfl,aL.of a4a,eQ y1,ya,yv,_,rfl,pa,y3.keep fa.kt,_,rfl,bJ ?_⟩
    have hva:=hv.fr ((f09.trans fj).trans fa)
    obtain⟨dva,fsa,eva,noa⟩:=hva.ins
    refine⟨_,rfl,_,_,v.a,dva,fsa,RD.at v,rfl,eva,noa _ (by decide+kernel),_,rfl,_,rfl,v,c,j,rfl,hk,hva,ia,hc,hj,fun Hb lb tt rb ib fb hlb eb er2 et=> ?_⟩
    obtain rfl:r=rb:=by rw[er]at er2;exact Option.some.inj er2
    have elpb:=fb.k _ _ fp (fun _ y=>by cases y) elpa
    refine⟨_,rfl,_,rfl,_,rfl,_,rfl,lp,_,(j:Int),_,rfl,rfl,aL.of elpb,atp,sl,fun tp htp=>⟨sl,fun lq hlq=> ?_⟩⟩
    have st:=aG.new (o:=.tup [.str v.bs.2,.str c,.int (r:Int)]) htp
    have tt2:upd Hb tp (.tup [.str v.bs.2,.str c,.int (r:Int)]) tp=some (.tup [.str v.bs.2,.str c,.int (r:Int)]):=aK
    have sq:=aG.new (o:=.lst [.ref tp]) hlq
    have eq2:upd (upd Hb tp (.tup [.str v.bs.2,.str c,.int (r:Int)])) lq (.lst [.ref tp]) lq=some (.lst [.ref tp]):=aK
    have sb:=st.trans sq
    have tq:=sq _ _ tt2
    generalize upd (upd Hb tp (.tup [.str v.bs.2,.str c,.int (r:Int)])) lq (.lst [.ref tp])=Hq at sb eq2 tq|-
    obtain⟨w1,w2,w3⟩:=b7f nn (nc c hc) (r:Int)
    refine⟨_,_,.lst (aL.of (sb _ _ eb)) (.cons (.tup (bU.of (sb _ _ et)) (.cons (.str _) (.cons (.str _) (.cons (.int _) .nil)))) .nil),.lst (aL.of eq2) (.cons (.tup (bU.of tq) (.cons (.str _) (.cons (.str _) (.cons (.int _) .nil)))) .nil),w1,w1,w2,_,rfl,?_⟩
    rw[w3]
    exact bJ ⟨_,rfl,I.same ib sb,((fj.trans fa).trans fb).trans (bM.of sb)⟩
   ·rintro σ Hj ⟨o8,rfl,ij,fj⟩
    have e9j:=fj.k _ _ fl9 (fun _ y=>by cases y) e9
    refine⟨_,rfl,.inl ⟨rfl,_,aL.of e9j⟩,l9,_,_,rfl,rfl,e9j,cQ (by omega),?_⟩
    exact⟨_,_,_,_,rfl,I.on ii hl9 ij e9j,fi.trans ((f9.trans fj).on hl9)⟩
  ·rintro σ Hi ⟨o5,o6,o7,o8,rfl,ii,fi⟩
   exact q Hi ii fi
def spBP(g:List Int->PyData)(ok:List Int->Prop):List V->Hp->VK->Prop:=fun vs H Q=>∃(l:Addr) (is:List Int),vs= [.ref l] /\H l=some (.lst (is.map V.int))/\ok is/\is.length<=100/\∀i,g is= .int i->Q (.int i) H
theorem b5I{q:Str}{params:Arguments}{body:Expr}{scope:Scope}{clos:List (Str×Addr)}{fa ca:Addr}{k:Nat}{fl:eR}{HB:Hp}{g:List Int->PyData}{ok:List Int->Prop}(gi:∀is,∃i,g is= .int i)(hk:k<=4)(free:∀b o,fl b=some o->HB b=none)(la:gA q params body scope clos HB fa)(F:dZ P w K mg base k fa (mL fa fl q params body scope clos 1 (spBP g ok))):lE P w K mg base 4 (dY fl HB) fa ca g ok:=by
 refine⟨fun H=>gA q params body scope clos H fa/\∀b o,fl b=some o->H b=some (Fz o),(F.mono hk).imp fun vs H Q E h=> ?_,⟨?_,fun b o e=>lT e⟩,fun H H' kz h=>⟨nY kz h.1,fun b o e=>kz _ _ (h.2 b o e)⟩⟩
 ·obtain⟨l,is,cs,rfl,⟨h1,h2⟩,hl,hca,c9,hok,i1,ncl,qq⟩:=h
  have nf:∀{b:Addr} {o:HO},H b=some o->(∀u,o≠Fz u)->fl b=none:=fun{b o} e n=>by
   cases e2:fl b with
   |none=>rfl
   |some ob=>rw[h2 b ob e2]at e;exact absurd (Option.some.inj e).symm (n ob)
  have fl':=nf hl (fun _ y=>by cases y)
  have fc:=nf hca (fun _ y=>by cases y)
  refine⟨rfl,h1,h2,l,is,rfl,by rw[dQ fl'];exact hl,hok,i1,fun i hi fr=> ?_⟩
  refine qq _ _ (fun x o n e=> ?_) ?_ ⟨i,hi,rfl⟩
  ·cases e2:fl x with
   |none=>rw[eI e2,dQ e2];exact e
   |some ob=>rw[h2 x ob e2]at e;rw[lT e2];exact e
  ·rw[eI fc,dQ fc]
   exact hca
 ·refine nY (fun b u e=> ?_) la
  cases e2:fl b with
  |none=>rw[eI e2];exact e
  |some ob=>rw[free b ob e2]at e;cases e
end
end My
namespace L2
open PySem PySem.Spec PyProof.Rows
theorem b5H{cp:List (Nat×Str)}{tt:TT}{te:TE}{σ:St}{lo:Int}{n:Nat}{D:Addr}{Q:VK}{H1:Hp}(Pv:Nat->List V->Hp->Prop)(h0:Pv 0 [] (upd H1 D (.lst [])))
 (hs:∀i ys H,i<n->H D=some (.lst ys)->Pv i ys H->tt (some (.int (lo+ i))::dE cp σ) H fun b H4=>if b=true then te (some (.int (lo+ i))::dE cp σ) H4 (jE D Pv i ys) else∃ys',H4 D=some (.lst ys')/\Pv (i+ 1) ys' H4)
 (hd:∀ys H,H D=some (.lst ys)->Pv n ys H->Q (.ref D) H):mN cp tt te σ (lR lo n) D Q H1:=by
 refine⟨fun i m H=>m=n- i/\i<=n/\∃ys,H D=some (.lst ys)/\Pv i ys H,⟨n,by simp,Nat.zero_le _,[],aK,h0⟩,?_⟩
 rintro i m H ⟨rfl,hi,ys,hD,p⟩
 by_cases hlt:i<n
 ·refine .inr ⟨hlt,jE D Pv i ys,fun H4=>∃ys',H4 D=some (.lst ys')/\Pv (i+ 1) ys' H4,fun y H5 ⟨h1,h2,h3⟩=>⟨ys,n- (i+ 1),h1,h2,by omega,rfl,hlt,_,aK,h3⟩,fun H4 ⟨ys',h1,h2⟩=>⟨n- (i+ 1),by omega,rfl,hlt,ys',h1,h2⟩,fun v H' y=> ?_⟩
  obtain⟨e,rfl⟩:=y
  subst e
  exact hs i ys _ hlt hD p
 ·have e:i=n:=by omega
  subst e
  exact .inl ⟨Nat.le_refl _,hd ys H hD p⟩
theorem a08{cells:List (Str×Addr)}:∀{names:List (Str×NameKind)} {acc:List (Str×Addr)},(∀y∈names,y.2≠ .free)->eS cells names acc=acc
 | [],_,_=>rfl
 |(n,k)::r,acc,h=>by
  unfold eS
  rw[if_neg (by have:=h (n,k) List.mem_cons_self;simpa using this)]
  exact a08 fun y hy=>h y (List.mem_cons_of_mem _ hy)
theorem b9R{P:Program}{w:World}{K:Fg}{mg:Str->Option Value}{base:Heap}{q:Str}{params:Arguments}{body:Expr}{scope:Scope}{fa:Addr}{ps:List Str}{k:Nat}{spB:List V->Hp->VK->Prop}(A0:Around)(s0:Shared)(H0:Hp)
 (hb:∀(pm ctv:Value) (c:Addr) (clos:List (Str×Addr)) (us:List Value),us.length=ps.length->bindArgs (PySem.W.kla_fn "<lambda>" q params body scope clos pm (.ref c) ctv) ⟨us,[]⟩=pure (ps.zip us))
 (hbody:∀(cd:Value) (A:Around) (outer:List Env) (s:Shared) (H:Hp) (vs:List V) (Q:VK),bT k (A.deeper (PySem.W.envX q scope s.heap.objs.size fa cd []))->spB vs H Q->
  ∃t,PE (oF P w K mg base ps q scope fa cd [] A outer s H) body t/\t (vs.map some) H Q)
 (nofree:∀y∈scope.names,y.2≠ .free:=by decide+kernel)(kind:scope.kind= .function:=by rfl)(co:scope.isCoroutine=false:=by rfl)(gen:scope.isGenerator=false:=by rfl)(nocell:∀y∈scope.names,y.2≠ .cell:=by decide+kernel)(par:∀x∈ps,scope.names.lookup x=some .local:=by decide+kernel)(nd:ps.Nodup:=by decide+kernel):
 dZ P w K mg base (k+ 1) fa (mL fa (fun _=>none) q params body scope [] ps.length spB):=by
 have e0:∀cells,eS cells scope.names []= []:=fun cells=>a08 nofree
 have h:=b2H (X:=oF P w K mg base [] q scope fa .none [] A0 [] s0 H0) (σ:=[]) (H₁:=H0) (f:=fun _=>none) (q:=q) (params:=params) (body:=body) (scope:=scope) (fa:=fa) (ps:=ps) (cp:=[]) (cv:=[]) (k:=k) (spB:=spB) ⟨(fun b o e=>by cases e),(fun x c e=>by cases e),(fun i x v e=>by cases e),(fun x y c e=>by cases e)⟩ (fun x hx=>absurd rfl (nocell _ (PySem.mem_of_lookup hx))) rfl (fun p hp=>by cases hp) (fun y hy e=>absurd e (nofree y hy)) kind co gen nocell par (by simpa using nd) hb (fun cd A outer s H vs Q hr h=>by
  rw[e0]at hr|-
  obtain⟨t,h1,h2⟩:=hbody cd A outer s H vs Q hr h
  refine⟨t,?_,?_⟩
  ·rw[show ps++ ([]:List (Nat×Str)).map (·.2)=ps from List.append_nil _]
   exact h1
  ·rw[List.append_nil]
   exact h2)
 rw[e0]at h
 exact h
end L2
namespace My
open PySem L2
theorem b8p(H:Hp):dY (fun _=>none) H=H:=by funext b;exact eI rfl
section
variable{P:Program}{w:World}{K:Fg}{mg:Str->Option Value}{base:Heap}
def b1O(P:Program)(w:World)(K:Fg)(mg:Str->Option Value)(base:Heap)(CS:Addr)(dc:Nat)(CW:Addr):Sp:=fun vs H Q E=>∃X:VC,X.CW=CW/\SI P w K mg base CS dc X/\VT K mg X/\spWI X vs H Q E
theorem b9T{CS CW:Addr}{dc:Nat}(cl:bX K CS)(W:rQ K mg CW):dI P w K mg base aB 4 CW ["self","sheet","table"] (b1O P w K mg base CS dc CW):=by
 refine(W.m_init.known b3g (fun _ _ _ _ _ _ us hl=>dP (fun _ _ _=>rfl) us hl) (fun vs H Q E h=> ?_) (fun f cdv A outer s H vs Q E hr h=> ?_)).init W.mks W.kc
 ·obtain⟨X,_,_,_,p,dx,s',nm,rfl,_⟩:=h
  rfl
 ·obtain⟨X,rfl,I,Z,p,dx,s',nm,rfl,hp,hI,ok,q⟩:=h
  obtain⟨sp,G,use⟩:=I.many
  refine⟨_,(aJ (bZ (bW (pv 1) cl G hr aM (aA (pv 2) aE)))
   (aJ (cM (pv 0) (pv 1) rfl)
   (aI (cM (pv 0) (pv 2) rfl)))),?_⟩
  obtain⟨ds,bd,ch,fi,hs'⟩:=I.at_ hI ok
  refine⟨_,rfl,s',ds,_,rfl,hs',eO,_,rfl,use hI ok fun H1 s1=> ?_⟩
  refine⟨_,rfl,_,rfl,p,X.CW,dx,[],rfl,s1 _ _ hp,Z.W.cl,Z.W.n_sheet,by decide,?_⟩
  refine⟨_,rfl,_,rfl,p,X.CW,dx,_,rfl,aK,Z.W.cl,Z.W.n_name,(show 1<1000 by decide),?_⟩
  exact q _ (((bG.of s1).trans bG.upd).trans bG.upd) aK
def b2F(P:Program)(w:World)(K:Fg)(mg:Str->Option Value)(base:Heap)(CS:Addr)(dc n:Nat)(CU:Addr):Sp:=fun vs H Q E=>∃X:VC,X.CU=CU/\SI P w K mg base CS dc X/\VT K mg X/\spMI X n vs H Q E
theorem b4z(T:aZ K mg){CS CU:Addr}{dc:Nat}(hd:4<=dc)(cl:bX K CS)(W:qP K mg CU)(n:Nat):dI P w K mg base aB (4+ n+ 1) CU ["self","view","column"] (b2F P w K mg base CS dc n CU):=by
 have G_col:bK P w K mg base aB 1 "check_column" ["column","columns"] (xG K):=nH T
 refine(W.m_init.known b27 (fun _ _ _ _ _ _ us hl=>dP (fun _ _ _=>rfl) us hl) (fun vs H Q E h=> ?_) (fun f cdv A outer s H vs Q E hr h=> ?_)).init W.mks W.kc
 ·obtain⟨X,_,_,_,p,dx,v,c,rfl,_⟩:=h
  rfl
 ·obtain⟨X,rfl,I,Z,p,dx,v,c,rfl,hp,hk,hv,hI,hc,q⟩:=h
  have N:=vk3 T (Nat.le_trans (by decide) hd) I cl Z n
  refine⟨_,(aJ (bZ (bR G_col (hr.mono (by omega)) aM (aA (pv 2) (aA (iQ (pv 1) (RD.k Z N.co) hr aM) aE))))
   (aJ (cM (pv 0) (pv 1) rfl)
   (aI (cM (pv 0) (pv 2) rfl)))),?_⟩
  obtain⟨dv,fs,ev,no⟩:=hv.ins
  refine⟨_,rfl,_,rfl,_,_,v.a,dv,fs,RD.at v,rfl,ev,no _ (by decide+kernel),v,rfl,rfl,hk,hv,hI,fun H1 l1 s1 hl1 e1=>⟨c,l1,_,rfl,e1,hc,?_⟩⟩
  refine⟨_,rfl,_,rfl,p,X.CU,dx,[],rfl,s1 _ _ hp,Z.U.cl,Z.U.n_view,by decide,?_⟩
  refine⟨_,rfl,_,rfl,p,X.CU,dx,_,rfl,aK,Z.U.cl,Z.U.n_column,(show 1<1000 by decide),?_⟩
  exact q _ (((bG.of s1).trans bG.upd).trans bG.upd) aK
end
abbrev Nlaw:List Str:=["_law_script","_law_names_here","_law_many","_law_columns_here","_law_sheet","_law_name","_law_values","_law_whole","_law_places","_law_view"]
theorem iL:aY Nlaw ["_law_script"] (aF iA):=⟨rfl,rfl,rfl,by decide+kernel,rfl,by decide+kernel,by decide+kernel⟩
abbrev pW(P:Program)(w:World)(K:Fg)(mg:Str->Option Value)(base:Heap)(f c:Addr)(A:Around)(outer:List Env)(s:Shared)(H:Hp)(E:XK):Cx:=(dX aB P w K mg base Nlaw "law" (aF iA) f (.ref c) A outer s H E).nox
theorem b33(rs:List Nat)(r:Nat):dA (rs++ [r])=dA rs++ [V.int (r:Int)]:=by unfold dA;rw[List.map_append];rfl
section
variable{P:Program}{w:World}{K:Fg}{mg:Str->Option Value}{base:Heap}
structure R42(P:Program)(w:World)(K:Fg)(mg:Str->Option Value)(base:Heap)(CS CF CB CT CG CW CU:Addr)(z1 z2:Addr×Addr)(X:VC)(H:Hp)(a ln lc s bd ch fi:Addr)(kb:List (aC×V))(B:BM)(ns:List Int)(cs:List Str)(nm:Str)(m:Nat)(ts:List V):Prop where
 I:SI P w K mg base CS 12 X
 Z:VT K mg X
 cw:X.CW=CW
 cu:X.CU=CU
 inv:X.Inv H
 ok:X.M.ok s nm
 mm:X.M.many s nm=m
 m9:m<9
 c30:(X.M.cols s nm).length<=30
 c0:0<(X.M.cols s nm).length
 nc:∀c∈X.M.cols s nm,Nl c
 nn:Nl nm
 fl:X.Free ln/\H ln=some (.lst (cs.map V.str))
 c5:cs[5]?=some nm
 fc:X.Free lc/\H lc=some (.lst ts)
 tb:X.Tab K H (.whole s s nm) ts
 sc:∀H',bM X.Free H H'->aL K H' a (ns.map V.int)
 sh:∀H,X.Inv H->iV CS CB CT s bd ch fi kb nm B H
 bo:B.xs.length=m/\B.ord=X.M.cols s nm
 ce:∀c∈X.M.cols s nm,∀(H:Hp) (p:Nat) (Q:VK),X.Inv H->p<m->(∀H' v,X.Inv H'->bM X.Free H H'->Pw K H' v (X.M.val s nm c p)->Q v H')->kW CS CF CB CT (jG CF (qV P w K mg base CF CB CT CG z2.2 (qX P w K mg base CG))) [.ref s,.str nm,.str c,.int (p:Int)] H Q E0
 out:∀H',X.Inv H'->bM X.Free H H'->pC [z1,z2] H'
theorem b40(T:aZ K mg){CS CF CB CT CG CR CW CU:Addr}(Y:eZ K mg CS)(R:lG K mg CR)(F:eM K mg CF)(Wb:cU K mg CB)(U:dO K mg CT)(Cc:kY K mg CG)(WW:rQ K mg CW)(WU:qP K mg CU){z1 z2:Addr×Addr}(B2:jR K mg "Finder" "gathered" "Finder.gathered" eY z2)(M2:iN mg base z2.1 z2.2){f:Addr}(A:Around)(outer:List Env)(s:Shared)(H:Hp)(Q:VK)(E:XK)(hr:bT 18 (A.deeper (PyProof.Rows.envOfC "law" (aF iA) s.heap.objs.size f (.ref z1.1))))(q:∀H',pC [z1,z2] H'->Q (.bl true) H'):
 ∃t,eL (pW P w K mg base f z1.1 A outer s H E) ((aS iA).drop 8) t/\
  ∀(H8:Hp) (X:VC) (a ln lc s' bd ch fi:Addr) (kb:List (aC×V)) (B:BM) (ns:List Int) (cs:List Str) (nm:Str) (m:Nat) (ts:List V) (o5 o6:Option V),R42 P w K mg base CS CF CB CT CG CW CU z1 z2 X H8 a ln lc s' bd ch fi kb B ns cs nm m ts->
   t {nx:=fun _ H'=>Q .non H',rt:=Q} [some (.ref a),some (.ref ln),some (.int (m:Int)),some (.ref lc),some (.ref s'),o5,o6,none,none,none] H8:=by
 have hcl:∀x,(pW P w K mg base f z1.1 A outer s H E).env.scope.names.lookup x=some .cell->∃c,(pW P w K mg base f z1.1 A outer s H E).env.cells.lookup x=some c:=fun x hx=>Option.isSome_iff_exists.mp (PySem.W.cellsFrom_some _ _ _ (.inl hx))
 have G_cell:bK P w K mg base aB 1 "_law_cell_at" ["_law_script","_law_k"] (yZ K):=pD T
 have GW:dI P w K mg base aB 4 CW ["self","sheet","table"] (b1O P w K mg base CS 12 CW):=b9T Y.cl WW
 have GU:dI P w K mg base aB 5 CU ["self","view","column"] (b2F P w K mg base CS 12 0 CU):=b4z T (by decide) Y.cl WU 0
 have G_ck:bK P w K mg base aB 18 "_law_checked" ["_law_view","_law_columns_here","_law_places","_law_table"] (b35 P w K mg base CS 12 1):=xU T (by decide) Y.cl 1
 have G_str:aN P w K mg base aB 12 CS "stretch" ["self","table","column","start","end"] (b1f P w K mg base CS CF CB CT 12 (qV P w K mg base CF CB CT CG z2.2 (qX P w K mg base CG))):=sV T Y F Wb U (by decide) (b3x T F b2P (b2I T R F Wb U (b3d Cc) B2 M2 (qY T Cc)))
 refine⟨_,(aJ (bV (i:=7) iL.nd rfl (.inl rfl) (jO GW (hr.mono (by decide)) WW.c aM (aA (pv 4) (aA (bP dD (pv 1) aW (fun _ _=>rfl)) aE))))
  (aJ (bN (dC (cH (bR G_ck hr aM (aA (pv 7) (aA (pv 3) (aA (lC oT rfl rfl (by decide) (oC rfl T.range (aA (pv 2) aE)) (fun _ _ _ _ _=>kK) (fun _ _ _ _ _=>(pv 0))) (aA (bP dD (pv 1) aW (fun _ _=>rfl)) aE))))) (fun _=>rfl))) (aI (bE iD)) bO)
  (aJ (b4t (bP dD (pv 3) (bQ jA (bQ oW (bR G_cell (hr.mono (by decide)) aM (aA (pv 0) (aA aW aE))) aW) (cD fX rfl T.len fJ (aA (pv 3) aE))) (fun _ _=>rfl)) (oO rfl (hZ (dL (i:=5) iL.nd rfl (.inl rfl)) (hZ (dL (i:=6) iL.nd rfl (.inr rfl)) nT))))
  (aJ (b9y (tt:=tAnd (tNot (tB (tCB (fun xs H Q=>∃x T d k,xs= [x,.ty T] /\Dt K H x d/\PySem.W.kitOne K (.type (iB d).nm) (.type T)=some k/\Q (.bl k) H) (nV (nO (rIxL K) (jU 1) (jU 0)) (nV (tC (.ty "tuple")) lQ))))) (a0d (nO rNe (nO (rIxL K) (jU 1) (jU 0)) _))) (i:=8) iL.nd rfl rfl (lP (sc:=aF iA) (N:=Nlaw) (cp:=[(6,"_law_values")]) hcl) rfl rfl (by decide) (oC rfl T.range (aA (pv 2) aE)) (fun _ _ _ _ _=>(b17 (PW.pt (oY (dC (cH (cD fS rfl T.isinstance fH (aA (bP dD (pv 1) (pv 0) (fun _ _=>rfl)) (aA (fC T.tuple vO) aE))) (fun _=>rfl))) (oR (cJ qM (bP dD (pv 1) (pv 0) (fun _ _=>rfl)) aW (cO _))))))) (fun _ _ _ _ _=>(pv 0)) rfl)
  (aJ (bV (i:=9) iL.nd rfl (.inl rfl) (jO GU (hr.mono (by decide)) WU.c aM (aA (pv 7) (aA (pv 5) aE))))
  (aJ (bN (PW.pt (fP (dC (cH (bR G_ck hr aM (aA (pv 9) (aA (pv 3) (aA (pv 8) (aA (bP dD (pv 1) aW (fun _ _=>rfl)) aE))))) (fun _=>rfl))) (gP (dC (cH (bR G_ck hr aM (aA (pv 9) (aA (pv 3) (aA (pv 8) (aA (bP dD (pv 1) aW (fun _ _=>rfl)) aE))))) (fun _=>rfl)))))) (aI (bE iD)) bO)
  (aJ (gW PassesOwn.never rfl (fL (pv 3)) (oO rfl (hZ (dL (i:=5) iL.nd rfl (.inl rfl)) (hZ (dL (i:=6) iL.nd rfl (.inr rfl)) nT))) (aI (bN (cJ (oS hr.units) (bW (pv 4) Y.cl G_str (hr.mono (by decide)) aM (aA (bP dD (pv 1) aW (fun _ _=>rfl)) (aA (pv 5) (aA aW (aA (pv 2) aE))))) (pv 6) (cO _)) (aI (bE iD)) bO)))
  (aI (bE iD))))))))),?_⟩
 intro H8 X a ln lc s' bd ch fi kb B ns cs nm m ts o5 o6 C
 have I:=C.I
 have m9:=C.m9
 have c0:=C.c0
 have c30:=C.c30
 have at5:bY (cs.map V.str) (5:Int)=some (.str nm):=eQ (i:=5) (by rw[List.getElem?_map,C.c5];rfl)
 have lts:ts.length=(X.M.cols s' nm).length:=C.tb.1
 refine⟨_,rfl,_,rfl,ln,_,(5:Int),.str nm,rfl,rfl,aL.of C.fl.2,at5,?_⟩
 intro a7 d7 h7 h7d ne7
 have s8':aG H8 (upd (upd H8 d7 (.own a7)) a7 (.ins CW d7 [])):=fun x o e=>by rw[aH (bD e h7),aH (bD e h7d)];exact e
 refine⟨X,C.cw,I,C.Z,a7,d7,s',nm,rfl,by rw[C.cw];exact aK,I.same C.inv s8',C.ok,fun H9 b9 e9=>⟨rfl,?_⟩⟩
 have s9:aG H8 H9:=fun x o e=>b9 _ _ (bD e h7) (s8' _ _ e)
 have i9:=I.same C.inv s9
 have v0:X.At H9 (.whole a7 s' nm):=⟨I.new C.inv h7,C.ok,⟨by rw[C.mm];omega,c30⟩,d7,e9⟩
 refine⟨_,rfl,_,rfl,_,rfl,(m:Int),rfl,by omega,by omega,fun D hD=> ?_⟩
 rw[Int.toNat_natCast]
 refine b3Y (lo:=0) (n:=m) (fun i ys H2=>aG H9 H2/\ys=dA (List.range i)) ⟨aG.new hD,rfl⟩ ?_ ?_
 ·rintro i ys H2 hi h2 ⟨s2,rfl⟩
  rw[Int.zero_add]
  refine⟨_,rfl,h2,cQ ?_,s2.on hD,?_⟩
  ·rw[nJ,List.length_range];omega
  ·rw[List.range_succ,b33]
 rintro ys Ha hDa ⟨sa,rfl⟩
 have s8a:=s9.trans sa
 have fa:bM X.Free H8 Ha:=bM.of s8a
 have ia:=I.same i9 sa
 have va:=VC.At.fr (bM.of sa) v0
 refine⟨_,rfl,ln,_,(5:Int),.str nm,rfl,rfl,aL.of (s8a _ _ C.fl.2),at5,X,I,C.Z,.whole a7 s' nm,lc,D,ts,rfl,Nat.zero_le _,va,ia,C.fc.1,s8a _ _ C.fc.2,C.tb.fr fa,I.new i9 hD,?_,C.nc,C.nn,fun Hb ib fb'=>⟨_,rfl,bJ ?_⟩⟩
 ·show Ha D=some (.lst (dA (List.range (X.M.many s' nm))))
  rw[C.mm];exact hDa
 have fb:=fa.trans fb'
 have vb:=VC.At.fr fb' va
 have lcb:=fb.k _ _ C.fc.1 (fun _ y=>by cases y) C.fc.2
 refine⟨_,rfl,_,rfl,a,ns,1,rfl,C.sc Hb fb,fun z=>⟨_,_,rfl,rfl,⟨by decide,by decide⟩,_,rfl,.ref lc,ts.length,rfl,.inl ⟨_,aL.of lcb,rfl⟩,_,_,rfl,rfl,(show(0:Int)<(ts.length:Int)by omega),?_⟩⟩
 have e1:=Int.emod_nonneg (z/ 3) (show(ts.length:Int)≠0 by omega)
 have e2:=Int.emod_lt_of_pos (z/ 3) (show(0:Int)<(ts.length:Int)by omega)
 obtain⟨j,ej⟩:∃j:Nat,z/ 3% (ts.length:Int)=(j:Int):=⟨(z/ 3% (ts.length:Int)).toNat,by omega⟩
 have hj:j<(X.M.cols s' nm).length:=by omega
 obtain⟨c,ec⟩:∃c,(X.M.cols s' nm)[j]?=some c:=⟨_,List.getElem?_eq_getElem hj⟩
 have hc:c∈X.M.cols s' nm:=List.mem_of_getElem? ec
 obtain⟨t,l,ys,t1,t2,t3,t4,t5⟩:=(C.tb.fr fb).2 j c ec
 refine⟨lc,_,_,.ref t,rfl,rfl,aL.of lcb,by rw[ej];exact eQ t1,t,_,rfl,bU.of t2,rfl,_,_,rfl,_,_,rfl,rfl,?_⟩
 refine⟨_,rfl,(m:Int),rfl,by omega,by omega,fun D2 hD2=> ?_⟩
 rw[Int.toNat_natCast]
 have t5:cZ K Hb ys ((List.range m).map (X.M.val s' nm c)):=by rw[<- C.mm];exact t5
 refine b5H (lo:=0) (n:=m) (fun i zs H2=>aG Hb H2/\zs=dA ((List.range i).filter fun r=>gE (X.M.val s' nm c r))) ⟨aG.new hD2,rfl⟩ ?_ ?_
 ·rintro i zs H2 hi h2 ⟨s2,rfl⟩
  rw[Int.zero_add]
  have lz:(dA ((List.range i).filter fun r=>gE (X.M.val s' nm c r))).length<=30:=by
   rw[nJ]
   have:=List.length_filter_le (fun r=>gE (X.M.val s' nm c r)) (List.range i)
   rw[List.length_range]at this
   omega
  obtain⟨yv,yd,y1,y2,y3⟩:=cZ.at (t5.keep (bS.of s2)) (i:=i) (by rw[List.length_map,List.length_range];exact hi)
  rw[List.getElem?_map,List.getElem?_range hi]at y2
  obtain rfl:=Option.some.inj y2
  have el:=s2 _ _ t4
  have fs:(List.range (i+ 1)).filter (fun r=>gE (X.M.val s' nm c r))=(List.range i).filter (fun r=>gE (X.M.val s' nm c r))++ (match gE (X.M.val s' nm c i)with|true=> [i]|false=> []):=by
   rw[List.range_succ,List.filter_append]
   rfl
  refine⟨_,rfl,_,rfl,l,_,(i:Int),yv,rfl,rfl,aL.of el,eQ y1,_,"tuple",_,_,rfl,y3.dt,tY K _,_,rfl,?_⟩
  have yes:(∃k,yv= .int k/\X.M.val s' nm c i= .int k)\/ ∃x y,X.M.val s' nm c i= .tuple [x,y]:=by
   rcases y3 with(⟨k,h1,h2,_⟩|⟨_,y,_,_,h2,_⟩)|(⟨k,h1,h2,_⟩|⟨_,_,h2,_⟩)
   ·exact .inl ⟨k,h1,h2⟩
   ·exact .inr ⟨_,_,h2⟩
   ·exact .inl ⟨k,h1,h2⟩
   ·exact .inr ⟨_,_,h2⟩
  rcases yes with⟨k,rfl,ed⟩|⟨x,y,ed⟩
  ·rw[ed]at fs|-
   refine cG ⟨_,rfl,_,rfl,l,_,(i:Int),.int k,rfl,rfl,aL.of el,eQ y1,rfl,_,rfl,?_⟩
   by_cases hk:k=0
   ·subst hk
    refine bJ ⟨_,h2,s2,?_⟩
    rw[fs]
    exact congrArg dA (List.append_nil _).symm
   ·have hd:gE (.int k)=true:=by unfold gE;exact decide_eq_true hk
    rw[hd]at fs
    refine dN (fun _=> ?_) (fun h=>absurd (by simpa using hk) h)
    refine⟨_,rfl,h2,cQ (by omega),s2.on hD2,?_⟩
    rw[fs,b33]
  ·rw[ed]at fs|-
   refine bJ ⟨_,h2,s2,?_⟩
   rw[fs]
   exact congrArg dA (List.append_nil _).symm
 rintro zs Hc hDc ⟨sc,rfl⟩
 have fc:=fb.trans (bM.of sc)
 have ic:=I.same ib sc
 have vc:=VC.At.fr (bM.of sc) vb
 refine⟨_,rfl,_,rfl,?_⟩
 intro a9 d9 h9 h9d ne9
 have s10':aG Hc (upd (upd Hc d9 (.own a9)) a9 (.ins CU d9 [])):=fun x o e=>by rw[aH (bD e h9),aH (bD e h9d)];exact e
 refine⟨X,C.cu,I,C.Z,a9,d9,.whole a7 s' nm,c,rfl,by rw[C.cu];exact aK,Nat.zero_le _,VC.At.fr (bM.of s10') vc,I.same ic s10',hc,fun Hd bd9 ed9=>⟨rfl,?_⟩⟩
 have sd:aG Hc Hd:=fun x o e=>bd9 _ _ (bD e h9) (s10' _ _ e)
 have fd:=fc.trans (bM.of sd)
 have id':=I.same ic sd
 have v1:X.At Hd (.sm a9 (.whole a7 s' nm) c):=⟨I.new ic h9,hc,⟨d9,ed9⟩,VC.At.fr (bM.of sd) vc⟩
 have fD2:=I.new ib hD2
 have eD:Hd D2=some (.lst (dA ((VW.sm a9 (.whole a7 s' nm) c).rows X.M))):=by
  show Hd D2=some (.lst (dA ((List.range (X.M.many s' nm)).filter fun r=>gE (X.M.val s' nm c r))))
  rw[C.mm]
  exact sd _ _ hDc
 refine⟨_,rfl,_,rfl,_,rfl,_,rfl,ln,_,(5:Int),.str nm,rfl,rfl,aL.of (fd.k _ _ C.fl.1 (fun _ y=>by cases y) C.fl.2),at5,X,I,C.Z,.sm a9 (.whole a7 s' nm) c,lc,D2,ts,rfl,Nat.le_refl _,v1,id',C.fc.1,fd.k _ _ C.fc.1 (fun _ y=>by cases y) C.fc.2,C.tb.fr fd,fD2,eD,C.nc,C.nn,fun He ie fe'=>⟨_,rfl,bJ ?_⟩⟩
 have fe:=fd.trans fe'
 refine⟨_,rfl,_,rfl,_,rfl,_,rfl,ln,_,(5:Int),.str nm,rfl,rfl,aL.of (fe.k _ _ C.fl.1 (fun _ y=>by cases y) C.fl.2),at5,X,I,C.Z,.sm a9 (.whole a7 s' nm) c,lc,D2,ts,rfl,Nat.le_refl _,VC.At.fr fe' v1,ie,C.fc.1,fe.k _ _ C.fc.1 (fun _ y=>by cases y) C.fc.2,C.tb.fr fe,fD2,fe'.k _ _ fD2 (fun _ y=>by cases y) eD,C.nc,C.nn,fun Hf if' ff'=>⟨_,rfl,bJ ?_⟩⟩
 have ff:=fe.trans ff'
 have lcf:=ff.k _ _ C.fc.1 (fun _ y=>by cases y) C.fc.2
 refine⟨_,rfl,lc,rfl,⟨_,aL.of lcf⟩,?_⟩
 refine kM (K:=K) (a:=lc) (xs:=ts) (fun i σ Hi=>∃o5 o6,σ= [some (.ref a),some (.ref ln),some (.int (m:Int)),some (.ref lc),some (.ref s'),o5,o6,some (.ref a7),some (.ref D2),some (.ref a9)] /\X.Inv Hi/\bM X.Free H8 Hi) ⟨_,_,rfl,if',ff⟩ (by rintro i σ Hi _ ⟨_,_,_,_,fi⟩;exact aL.of (fi.k _ _ C.fc.1 (fun _ y=>by cases y) C.fc.2)) ?_ ?_
 ·rintro i x σ Hi hx ⟨o5,o6,rfl,ii,fi'⟩
  have hi:i<(X.M.cols s' nm).length:=by rw[<- lts];exact(List.getElem?_eq_some_iff.mp hx).1
  obtain⟨c,ec⟩:∃c,(X.M.cols s' nm)[i]?=some c:=⟨_,List.getElem?_eq_getElem hi⟩
  have hc:c∈X.M.cols s' nm:=List.mem_of_getElem? ec
  obtain⟨t,l,ys,t1,t2,t3,t4,t5⟩:=(C.tb.fr fi').2 i c ec
  rw[t1]at hx
  obtain rfl:=Option.some.inj hx
  have t5:cZ K Hi ys ((List.range m).map (X.M.val s' nm c)):=by rw[<- C.mm];exact t5
  obtain⟨⟨dx,es⟩,_⟩:=C.sh Hi ii
  refine⟨t,_,rfl,bU.of t2,rfl,_,_,rfl,_,_,rfl,rfl,?_⟩
  refine⟨_,rfl,s',dx,_,rfl,es,eO,_,rfl,ln,_,(5:Int),.str nm,rfl,rfl,aL.of (fi'.k _ _ C.fl.1 (fun _ y=>by cases y) C.fl.2),at5,_,rfl,_,rfl,X,I,s',bd,ch,fi,kb,nm,c,m,B,rfl,ii,C.bo.1,by omega,C.nc c hc,by rw[C.bo.2];exact hc,C.sh,C.ce c hc,fun H' l' ys' i' f' hl' e' p'=> ?_⟩
  obtain⟨w1,w2,w3⟩:=b7v (cZ.vd p')
  refine⟨_,rfl,_,_,.lst (aL.of e') p'.dt,.lst (aL.of (f'.k _ _ t3 (fun _ y=>by cases y) t4)) (t5.keep f'.kt).dt,w1,w1,w2,_,rfl,?_⟩
  rw[w3]
  exact bJ ⟨_,_,rfl,i',fi'.trans f'⟩
 ·rintro σ Hi ⟨o5,o6,rfl,ii,fi'⟩
  exact q Hi (C.out Hi ii fi')
end
noncomputable def gC {α:Type} (ys:Nat->α):Nat->List Str->Str->Option α
 |_,[],_=>none
 |k,d::ds,c=>if c=d then some (ys k) else gC ys (k+ 1) ds c
theorem a8V{α:Type}{ys:Nat->α}:∀{k:Nat} {ds:List Str} {i:Nat} {c:Str},ds.Nodup->ds[i]?=some c->gC ys k ds c=some (ys (k+ i))
 |_,[],_,_,_,h=>by simp at h
 |k,d::ds,0,c,_,h=>by
  obtain rfl:d=c:=by simpa using h
  unfold gC
  rw[if_pos rfl]
  rfl
 |k,d::ds,i+ 1,c,nd,h=>by
  rw[List.nodup_cons]at nd
  have h:ds[i]?=some c:=by simpa using h
  unfold gC
  rw[if_neg (fun e=>nd.1 (by rw[<- e];exact List.mem_of_getElem? h)),a8V nd.2 h,Nat.add_right_comm,Nat.add_assoc]
theorem b1w{α:Type}{ys:Nat->α}:∀{k:Nat} {ds:List Str} {c:Str} {y:α},gC ys k ds c=some y->∃i,ds[i]?=some c/\y=ys (k+ i)
 |_,[],_,_,h=>by cases h
 |k,d::ds,c,y,h=>by
  unfold gC at h
  by_cases e:c=d
  ·rw[if_pos e]at h
   exact⟨0,by rw[e];rfl,(Option.some.inj h).symm⟩
  ·rw[if_neg e]at h
   obtain⟨i,h1,h2⟩:=b1w h
   exact⟨i+ 1,by simpa using h1,by rw[h2,Nat.add_right_comm,Nat.add_assoc]⟩
theorem b3r{α:Type}{ys:Nat->α}:∀{k:Nat} {ds:List Str} {c:Str},c∉ds->gC ys k ds c=none
 |_,[],_,_=>rfl
 |k,d::ds,c,h=>by
  unfold gC
  rw[if_neg (fun e=>h (by rw[e];exact List.mem_cons_self))]
  exact b3r fun h'=>h (List.mem_cons_of_mem _ h')
theorem b1m{α:Type}{d:α}{ds:List α}{m:Nat}(h:ds.length=m):(List.range m).map (fun p=>ds.getD p d)=ds:=by
 refine List.ext_getElem? fun i=> ?_
 rw[List.getElem?_map]
 by_cases hi:i<m
 ·rw[List.getElem?_range hi]
  show some (ds.getD i d)=_
  rw[List.getD_eq_getElem?_getD,List.getElem?_eq_getElem (by omega)]
  rfl
 ·rw[List.getElem?_eq_none (by rw[List.length_range];omega),List.getElem?_eq_none (by omega)]
  rfl
theorem cI.w{K:Fg}{H:Hp}:∀{xs:List V} {ds:List PyData},cI K H xs ds->cZ K H xs ds
 |_,_,.nil=> .nil
 |_,_,.cons h t=> .cons (.inl h) (cI.w t)
theorem b48(j:Int):Vd (gI (.int j)):=by
 cases h:fM (.int j)with
 |true=>rw[b1s h];exact .inl ⟨j,rfl,h⟩
 |false=>rw[b28 h];exact .inr ⟨"odd",rfl,nl42.1⟩
def qS(is:List Int):Prop:=0<is.length
structure Fin4(K:Fg)(CS CF CB CT CG:Addr)(z1 z2:Addr×Addr)(H:Hp)(a ln lc s bd ch fi fd lk mc gr nl fa:Addr)(B:BM)(ns:List Int)(cs:List Str)(nm c0 c4:Str)(m n:Nat)(ts:List V)(lv lg:Nat->Addr)(ys:Nat->List V)(ds:Nat->List PyData)(t4 l4:Addr)(y4:List V):Prop where
 sc:aL K H a (ns.map V.int)
 c6:cs.length=6
 cn:∀c∈cs,Nl c
 cd:cs.Nodup
 e5:cs[5]?=some nm
 e0:cs[0]?=some c0
 e4:cs[4]?=some c4
 n2:2<=n
 n4:n<=4
 m9:m<9
 t1:∃S,H z1.2=some (fB z1.2 S)
 t2:H z2.2=some (fB z2.2 [])
 hln:H ln=some (.lst (cs.map V.str))
 hlc:H lc=some (.lst (ts++ [.ref t4]))
 tl:ts.length=n
 tb:∀i c,i<n->cs[i]?=some c->∃t,ts[i]?=some (.ref t)/\H t=some (.tup [.str c,.ref (lv i)])/\H (lv i)=some (.lst (ys i))/\(ys i).length=m/\cI K H (ys i) (ds i)
 ta:H t4=some (.tup [.str c4,.ref l4])
 hl4:H l4=some (.lst y4)
 p4:cI K H y4 ((ds 0).map (iU iI))
 sh:∃dx,H s=some (.ins CS dx (eB bd ch fi))
 hch:∃chs,H ch=some (.lst chs)/\chs.length<900
 hbd:H bd=some (.dK [((.inr nm:aC),V.ref B.b)])
 hfi:∃df,H fi=some (.ins CF df (fY bd fd lk))
 hfd:H fd=some (.dT [])
 hlk:H lk=some (.dT [])
 fl:fd≠lk
 bt:cW CB CT H B
 xs:B.xs=eT 0 m
 ru:B.rus= [((.inr c4:aC),V.ref gr)]
 me:B.mes= [((.inr c4:aC),V.ref mc)]
 od:B.ord=cs.take n++ [c4]
 ss:a0h bd ch B
 hmc:H mc=some (.dK [])
 mn:mc≠bd/\mc≠B.e/\mc≠B.ru/\mc≠B.me
 kv:∀i c,i<n->cs[i]?=some c->aO B.kvs (.inr c:aC)=some (.ref (lg i))/\H (lg i)=some (.lst (ys i))/\lg i≠ch
 hgr:∃dx,H gr=some (.ins CG dx (gX nl fa))
 hnl:H nl=some (.lst ([c0].map V.str))
section
variable{P:Program}{w:World}{K:Fg}{mg:Str->Option Value}{base:Heap}
theorem b5m(T:aZ K mg){CS CF CB CT CG CR CW CU CO:Addr}(Y:eZ K mg CS)(R:lG K mg CR)(F:eM K mg CF)(Wb:cU K mg CB)(U:dO K mg CT)(Cc:kY K mg CG)(WW:rQ K mg CW)(WU:qP K mg CU)(WO:rF K mg CO){z1 z2:Addr×Addr}(B2:jR K mg "Finder" "gathered" "Finder.gathered" eY z2)(M2:iN mg base z2.1 z2.2)(n12:z1.2≠z2.2){H:Hp}{a ln lc s bd ch fi fd lk mc gr nl fa:Addr}{B:BM}{ns:List Int}{cs:List Str}{nm c0 c4:Str}{m n:Nat}{ts:List V}{lv lg:Nat->Addr}{ys:Nat->List V}{ds:Nat->List PyData}{t4 l4:Addr}{y4:List V}(C:Fin4 K CS CF CB CT CG z1 z2 H a ln lc s bd ch fi fd lk mc gr nl fa B ns cs nm c0 c4 m n ts lv lg ys ds t4 l4 y4)(fn:lE P w K mg base 4 H fa ch iI qS):
 ∃X kb,R42 P w K mg base CS CF CB CT CG CW CU z1 z2 X H a ln lc s bd ch fi kb B ns cs nm m (ts++ [.ref t4]):=by
 have c6:=C.c6
 have n2:=C.n2
 have n4:=C.n4
 have m9:=C.m9
 classical
 let Hz:Hp:=fun x=>if x=fd\/ x=lk\/ x=mc\/ x=z2.2 then none else H x
 have sz:aG Hz H:=fun x o e=>by
  by_cases h:x=fd\/ x=lk\/ x=mc\/ x=z2.2
  ·have:Hz x=none:=if_pos h
   rw[this]at e;cases e
  ·have:Hz x=H x:=if_neg h
   rw[<- this];exact e
 have free:∀{x:Addr} {o:HO},H x=some o->(∀y,o≠ .dT y)->(∀y,o≠ .dK y)->(∀φ,o≠ .ext φ)->x≠fd/\x≠lk/\x≠mc/\x≠z2.2:=fun{x o} e h1 h2 h3=>by
  refine⟨fun y=> ?_,fun y=> ?_,fun y=> ?_,fun y=> ?_⟩
  ·rw[y,C.hfd]at e;exact h1 _ (Option.some.inj e).symm
  ·rw[y,C.hlk]at e;exact h1 _ (Option.some.inj e).symm
  ·rw[y,C.hmc]at e;exact h2 _ (Option.some.inj e).symm
  ·rw[y,C.t2]at e;exact h3 _ (Option.some.inj e).symm
 have hz:∀{x:Addr},(x≠fd/\x≠lk/\x≠mc/\x≠z2.2)->Hz x=H x:=fun h=>if_neg fun y=>by
  rcases y with y|y|y|y
  ·exact h.1 y
  ·exact h.2.1 y
  ·exact h.2.2.1 y
  ·exact h.2.2.2 y
 have kL:∀{x:Addr} {y:List V},H x=some (.lst y)->Hz x=some (.lst y):=fun e=>by rw[hz (free e (fun _ y=>by cases y) (fun _ y=>by cases y) (fun _ y=>by cases y))];exact e
 have kI:∀{x C' d:Addr} {y:List (Str×V)},H x=some (.ins C' d y)->Hz x=some (.ins C' d y):=fun e=>by rw[hz (free e (fun _ y=>by cases y) (fun _ y=>by cases y) (fun _ y=>by cases y))];exact e
 have kT:bS H Hz:=fun x xs e=>by rw[hz (free e (fun _ y=>by cases y) (fun _ y=>by cases y) (fun _ y=>by cases y))];exact e
 have kD:∀{x:Addr} {y:List (aC×V)},H x=some (.dK y)->x≠mc->Hz x=some (.dK y):=fun e n=>by
  rw[hz ⟨fun y=>by{rw[y,C.hfd]at e;cases e},fun y=>by{rw[y,C.hlk]at e;cases e},n,fun y=>by{rw[y,C.t2]at e;cases e}⟩];exact e
 have kZ:eX H Hz:=fun x u e=>by
  rw[hz ⟨fun y=>by{rw[y,C.hfd]at e;cases e},fun y=>by{rw[y,C.hlk]at e;cases e},fun y=>by{rw[y,C.hmc]at e;cases e},fun y=>by{rw[y,C.t2]at e;cases e}⟩];exact e
 obtain⟨mb,me1,me2,me3⟩:=C.mn
 have hnm:nm∈cs:=List.mem_of_getElem? C.e5
 have hc4:c4∈cs:=List.mem_of_getElem? C.e4
 have tk:∀{i:Nat} {c:Str},(cs.take n)[i]?=some c->i<n/\cs[i]?=some c:=fun{i c} h=>by
  have hi:i<n:=by
   have:=(List.getElem?_eq_some_iff.mp h).1
   rw[List.length_take]at this
   omega
  exact⟨hi,by rw[List.getElem?_take_of_lt hi]at h;exact h⟩
 have kt:∀{i:Nat} {c:Str},i<n->cs[i]?=some c->(cs.take n)[i]?=some c:=fun hi h=>by rw[List.getElem?_take_of_lt hi];exact h
 have ndt:(cs.take n).Nodup:=List.Nodup.sublist (List.take_sublist _ _) C.cd
 have n4':c4∉cs.take n:=fun h=>by
  obtain⟨i,hi⟩:=List.getElem?_of_mem h
  obtain⟨h1,h2⟩:=tk hi
  have h3:=(List.getElem?_eq_some_iff.mp h2).1
  have e:cs[i]?=cs[4]?:=by rw[h2,C.e4]
  have:=(List.getElem?_inj h3 C.cd).mp e
  omega
 have mem:∀{c:Str},c∈cs.take n->∃i,i<n/\cs[i]?=some c:=fun h=>by
  obtain⟨i,hi⟩:=List.getElem?_of_mem h
  exact⟨i,tk hi⟩
 let dv:Str->List PyData:=fun c=>(gC ds 0 (cs.take n) c).getD []
 let gv:Str->Str->Option (List V):=fun t c=>if t=nm then gC ys 0 (cs.take n) c else none
 have gvI:∀{i:Nat} {c:Str},i<n->cs[i]?=some c->gv nm c=some (ys i)/\dv c=ds i:=fun{i c} hi e=>by
  refine⟨?_,?_⟩
  ·show(if nm=nm then _ else _)=_
   rw[if_pos rfl,a8V ndt (kt hi e),Nat.zero_add]
  ·show(gC ds 0 (cs.take n) c).getD []=_
   rw[a8V ndt (kt hi e),Nat.zero_add]
   rfl
 have gvO:∀{t c:Str} {y:List V},gv t c=some y->t=nm/\∃i,i<n/\cs[i]?=some c/\y=ys i:=fun{t c y} h=>by
  by_cases e:t=nm
  ·have h:gC ys 0 (cs.take n) c=some y:=by
    have h':(if t=nm then gC ys 0 (cs.take n) c else none)=some y:=h
    rw[if_pos e]at h'
    exact h'
   obtain⟨i,h1,h2⟩:=b1w h
   obtain⟨h3,h4⟩:=tk h1
   exact⟨e,i,h3,h4,by rw[h2,Nat.zero_add]⟩
  ·have h':(if t=nm then gC ys 0 (cs.take n) c else none)=some y:=h
   rw[if_neg e]at h'
   cases h'
 let Ks:List Ky:=(cs.take n++ [c4]).flatMap fun c=>(List.range m).map fun p=>aU nm c p
 have ks:∀{c:Str} {p:Nat},c∈cs.take n++ [c4] ->p<m->aU nm c p∈Ks:=fun{c p} h hp=>List.mem_flatMap.mpr ⟨c,h,List.mem_map.mpr ⟨p,List.mem_range.mpr hp,rfl⟩⟩
 have lod:(cs.take n++ [c4]).length=n+ 1:=by rw[List.length_append,List.length_take];show min n cs.length+ 1=n+ 1;omega
 have ksl:Ks.length<=800:=by
  have:∀l:List Str,(l.flatMap fun c=>(List.range m).map fun p=>aU nm c p).length=l.length* m:=fun l=>by
   induction l with
   |nil=>simp
   |cons x l ih=>rw[List.flatMap_cons,List.length_append,ih,List.length_map,List.length_range,List.length_cons,Nat.succ_mul,Nat.add_comm]
  show(List.flatMap _ _).length<=800
  rw[this,lod]
  have:=Nat.mul_le_mul (show n+ 1<=5 by omega) (show m<=8 by omega)
  omega
 let X:gK:=⟨fi,bd,fd,lk,[(nm,B)],Ks,gv,nm,c4,B,gr,fa,ch,mc,gX nl fa,iI,qS⟩
 have lx:B.xs.length=m:=by rw[C.xs,pZ]
 have rus4:∀{c:Str},c≠c4->aO B.rus (.inr c:aC)=none:=fun{c} h=>by
  rw[C.ru,jF (fun e=>h (Sum.inr.inj e).symm)]
  rfl
 have bz:cW CB CT Hz B:=by
  obtain⟨⟨d1,e1⟩,⟨⟨d2,e2⟩,e3,e4⟩,e5,e6,e7⟩:=C.bt
  exact⟨⟨d1,kI e1⟩,⟨⟨d2,kI e2⟩,kL e3,kD e4 me1.symm⟩,kD e5 me2.symm,kD e6 me3.symm,kL e7⟩
 have go:oB X:=by
  refine⟨⟨ksl,fun t c y h=> ?_⟩,List.mem_singleton.mpr rfl,?_,?_,?_,fun p hp=> ?_,⟨(qK _ _).1,(qK _ _).2.2.2.2⟩,(qK _ _).2.2.2.1,fun is _=>⟨b12 (by intro h;cases h),b48 _⟩,C.fl,mb,fun tb h=> ?_,fun tb h=> ?_,fun t c y B' h hb=> ?_⟩
  ·obtain⟨rfl,i,hi,ei,rfl⟩:=gvO h
   obtain⟨_,_,_,_,h5,_⟩:=C.tb i c hi ei
   have hc:=List.mem_of_getElem? (kt hi ei)
   refine⟨B,List.mem_singleton.mpr rfl,C.cn c (List.mem_of_getElem? ei),C.cn _ hnm,rus4 (fun e=>n4' (e▸hc)),by rw[lx];exact h5,fun p hp=>ks (List.mem_append_left _ hc) (by omega)⟩
  ·show aO B.rus _=_
   rw[C.ru]
   exact gJ rfl
  ·show aO B.mes _=_
   rw[C.me]
   exact gJ rfl
  ·show(if nm=nm then _ else _)=none
   rw[if_pos rfl]
   exact b3r n4'
  ·exact ks (List.mem_append_right _ (List.mem_singleton.mpr rfl)) (by rw[<- lx];exact hp)
  ·obtain rfl:=List.mem_singleton.mp h
   exact⟨me1,me2,me3⟩
  ·obtain rfl:=List.mem_singleton.mp h
   exact⟨C.ss.r,C.ss.o⟩
  ·obtain⟨rfl,i,hi,ei,rfl⟩:=gvO h
   cases List.mem_singleton.mp hb
   obtain⟨h1,_,h3⟩:=C.kv i c hi ei
   rw[h1]
   exact fun y=>h3 (by cases y;rfl)
 obtain⟨dS,hS⟩:=C.sh
 obtain⟨chs,hch,lch⟩:=C.hch
 have shz:iV CS CB CT s bd ch fi [((.inr nm:aC),V.ref B.b)] nm B Hz:=⟨⟨dS,kI hS⟩,kD C.hbd mb.symm,C.cn _ hnm,gJ rfl,bz⟩
 have e0n:0<n:=by omega
 have S:FlS K CS CF CB CT CG Hz X s ch [((.inr nm:aC),V.ref B.b)] m c0 nl dv:=by
  refine⟨go,rfl,C.xs,by omega,shz,C.hfi.imp fun _ e=>kI e,C.hgr.imp fun _ e=>kI e,rfl,kL C.hnl,⟨chs,kL hch,lch⟩,⟨if_pos (.inl rfl),if_pos (.inr (.inl rfl)),if_pos (.inr (.inr (.inl rfl)))⟩,fun _=>(show 0<1 by decide),⟨C.cn _ hc4,?_⟩,fun c hc=> ?_,fun t c y h=> ?_,⟨_,(gvI e0n C.e0).1⟩⟩
  ·show c4∈B.ord
   rw[C.od]
   exact List.mem_append_right _ (List.mem_singleton.mpr rfl)
  ·have hc:c∈cs.take n++ [c4]:=by rw[<- C.od];exact hc
   rcases List.mem_append.mp hc with h|h
   ·obtain⟨i,hi,ei⟩:=mem h
    exact .inr ⟨fun e=>n4' (by have e:c=c4:=e;rw[<- e];exact h),C.cn c (List.mem_of_getElem? ei),_,(gvI hi ei).1⟩
   ·exact .inl (List.mem_singleton.mp h)
  ·obtain⟨rfl,i,hi,ei,rfl⟩:=gvO h
   obtain⟨_,_,_,_,h5,h6⟩:=C.tb i c hi ei
   obtain⟨k1,k2,_⟩:=C.kv i c hi ei
   refine⟨rfl,h5,?_,lg i,k1,kL k2⟩
   rw[(gvI hi ei).2]
   exact h6.keep kT
 have hzt:Hz z2.2=none:=if_pos (.inr (.inr (.inr rfl)))
 obtain⟨I,ce⟩:=b5j (P:=P) (w:=w) (base:=base) (CW:=CW) (CU:=CU) (CO:=CO) T Y R F Wb U Cc B2 M2 S (fn.keep kZ) hzt
 have inv:nF K z2.2 Hz X m c0 dv H:=by
  refine⟨sz,⟨[],C.t2,(fun c hc=>by cases hc)⟩,[],[],[],C.hfd,C.hlk,C.hmc,eE.nil,eE.nil,⟨List.nodup_nil,(fun k hk=>by cases hk)⟩,(fun t c p v y _ h=>by cases h),fun p hp=>⟨fun _=>rfl,(fun v h=>by cases h)⟩⟩
 refine⟨vcF K z2.2 Hz X s m c0 dv CW CU CO,[((.inr nm:aC),V.ref B.b)],I,⟨WW,WU,WO⟩,rfl,rfl,inv,⟨rfl,rfl⟩,rfl,m9,?_,?_,fun c hc=> ?_,C.cn _ hnm,⟨free C.hln (fun _ y=>by cases y) (fun _ y=>by cases y) (fun _ y=>by cases y),C.hln⟩,C.e5,⟨free C.hlc (fun _ y=>by cases y) (fun _ y=>by cases y) (fun _ y=>by cases y),C.hlc⟩,⟨?_,fun i c hc=> ?_⟩,fun H' fr=> ?_,fun H' hI=>shz.same hI.1,⟨lx,rfl⟩,fun c hc H' p Q hI hp q=>ce hI ⟨rfl,rfl⟩ hc hp q,fun H' hI fr z hz'=> ?_⟩
 ·show B.ord.length<=30
  rw[C.od,lod];omega
 ·show 0<B.ord.length
  rw[C.od,lod];omega
 ·have hc:c∈cs.take n++ [c4]:=by rw[<- C.od];exact hc
  rcases List.mem_append.mp hc with h|h
  ·exact C.cn c (List.mem_of_mem_take h)
  ·rw[List.mem_singleton.mp h];exact C.cn _ hc4
 ·show(ts++ [V.ref t4]).length=B.ord.length
  rw[C.od,lod,List.length_append,C.tl]
  rfl
 ·have hc:(cs.take n++ [c4])[i]?=some c:=by rw[<- C.od];exact hc
  show∃(t l:Addr) (y:List V),(ts++ [V.ref t4])[i]?=some (V.ref t)/\H t=some (.tup [.str c,.ref l])/\(l≠fd/\l≠lk/\l≠mc/\l≠z2.2)/\H l=some (.lst y)/\cZ K H y ((List.range m).map fun p=>if c=c4 then iU iI ((dv c0).getD p .none) else(dv c).getD p .none)
  have lt:(cs.take n).length=n:=by rw[List.length_take];omega
  rcases Nat.lt_or_ge i n with hi|hi
  ·rw[List.getElem?_append_left (by omega)]at hc
   have hm:=List.mem_of_getElem? hc
   obtain⟨_,ei⟩:=tk hc
   obtain⟨t,h1,h2,h3,h4,h5⟩:=C.tb i c hi ei
   refine⟨t,lv i,ys i,by rw[List.getElem?_append_left (by rw[C.tl];exact hi)];exact h1,h2,free h3 (fun _ y=>by cases y) (fun _ y=>by cases y) (fun _ y=>by cases y),h3,?_⟩
   have ld:(ys i).length=(ds i).length:=Paired.length h5
   have e:(fun p=>if c=c4 then iU iI ((dv c0).getD p .none) else(dv c).getD p .none)=fun p=>(ds i).getD p .none:=by
    funext p
    rw[if_neg (fun e:c=c4=>n4' (by rw[<- e];exact hm)),(gvI hi ei).2]
   rw[e,b1m (by omega)]
   exact h5.w
  ·have:i=n:=by
    have:=(List.getElem?_eq_some_iff.mp hc).1
    rw[lod]at this
    omega
   subst this
   rw[List.getElem?_append_right (by omega),lt,Nat.sub_self]at hc
   obtain rfl:c4=c:=by simpa using hc
   refine⟨t4,l4,y4,by rw[List.getElem?_append_right (by rw[C.tl];exact Nat.le_refl _),C.tl,Nat.sub_self];rfl,C.ta,free C.hl4 (fun _ y=>by cases y) (fun _ y=>by cases y) (fun _ y=>by cases y),C.hl4,?_⟩
   obtain⟨_,_,_,_,h4,h5⟩:=C.tb 0 c0 e0n C.e0
   have ld:(ys 0).length=(ds 0).length:=Paired.length h5
   have e:(fun p=>if c4=c4 then iU iI ((dv c0).getD p .none) else(dv c4).getD p .none)=(iU iI) ∘ (fun p=>(ds 0).getD p .none):=by
    funext p
    rw[if_pos rfl,(gvI e0n C.e0).2]
    rfl
   rw[e,<- List.map_map,b1m (by omega)]
   exact C.p4.w
 ·rcases C.sc with(h|⟨o,h⟩)|h
  ·exact .inl (.inl (fr.k _ _ (free h (fun _ y=>by cases y) (fun _ y=>by cases y) (fun _ y=>by cases y)) (fun _ y=>by cases y) h))
  ·exact .inl (.inr ⟨o,fr.k _ _ (free h (fun _ y=>by cases y) (fun _ y=>by cases y) (fun _ y=>by cases y)) (fun _ y=>by cases y) h⟩)
  ·exact .inr h
 ·simp only[List.mem_cons,List.not_mem_nil,or_false]at hz'
  rcases hz' with rfl|rfl
  ·obtain⟨S1,e⟩:=C.t1
   refine⟨S1,fr.k _ _ ⟨fun y=> ?_,fun y=> ?_,fun y=> ?_,n12⟩ (fun _ y=>by cases y) e⟩
   ·rw[y,C.hfd]at e;cases e
   ·rw[y,C.hlk]at e;cases e
   ·rw[y,C.hmc]at e;cases e
  ·obtain⟨_,⟨S2,e,_⟩,_⟩:=hI
   exact⟨S2,e⟩
end
structure In42(K:Fg)(z1 z2:Addr×Addr)(H:Hp)(a ln lc:Addr)(ns:List Int)(cs:List Str)(nm c0 c4:Str)(m n:Nat)(ts:List V)(lv:Nat->Addr)(ys:Nat->List V)(ds:Nat->List PyData):Prop where
 sc:aL K H a (ns.map V.int)
 c6:cs.length=6
 cn:∀c∈cs,Nl c
 cd:cs.Nodup
 e5:cs[5]?=some nm
 e0:cs[0]?=some c0
 e4:cs[4]?=some c4
 n2:2<=n
 n4:n<=4
 m9:m<9
 t1:H z1.2=some (fB z1.2 [])
 t2:H z2.2=some (fB z2.2 [])
 hln:H ln=some (.lst (cs.map V.str))
 hlc:H lc=some (.lst ts)
 nlc:ln≠lc
 tl:ts.length=n
 tb:∀i c,i<n->cs[i]?=some c->∃t,ts[i]?=some (.ref t)/\H t=some (.tup [.str c,.ref (lv i)])/\H (lv i)=some (.lst (ys i))/\(ys i).length=m/\cI K H (ys i) (ds i)/\lv i≠lc
structure Gv4(CS CB CT:Addr)(H0:Hp)(s bd ch:Addr)(nm:Str)(m:Nat)(cs:List Str)(ys:Nat->List V)(j:Nat)(lg:Nat->Addr)(B:BM)(chs:List V)(H:Hp):Prop where
 old:aG H0 H
 nw:∀x∈ [s,bd,ch,B.b,B.g,B.r,B.e,B.ru,B.me,B.od],H0 x=none
 sh:zI CS s bd ch chs [((.inr nm:aC),V.ref B.b)] H
 cl:chs.length<=1+ j
 bt:cW CB CT H B
 sp:B.sep
 ss:a0h bd ch B
 xs:B.xs=eT 0 m
 ru:B.rus= []
 me:B.mes= []
 od:B.ord=cs.take j
 kl:B.kvs.length<=j
 kv:∀i c,i<j->cs[i]?=some c->aO B.kvs (.inr c:aC)=some (.ref (lg i))/\H (lg i)=some (.lst (ys i))/\lg i≠ch/\lg i≠B.od/\H0 (lg i)=none
theorem b5P{kvs:List (aC×V)}{k:aC}{v:V}:(aT kvs k v).length<=kvs.length+ 1:=by
 unfold aT
 split
 ·rw[List.length_map];omega
 ·rw[List.length_append];exact Nat.le_refl _
section
variable{P:Program}{w:World}{K:Fg}{mg:Str->Option Value}{base:Heap}
theorem b79(T:aZ K mg){CS CF CB CT CG CR CW CU CO CC CE:Addr}(Y:eZ K mg CS)(R:lG K mg CR)(F:eM K mg CF)(Wb:cU K mg CB)(U:dO K mg CT)(Cc:kY K mg CG)(WW:rQ K mg CW)(WU:qP K mg CU)(WO:rF K mg CO)(Cs:pN K mg CC)(Ru:a0I K mg CE){z1 z2:Addr×Addr}(M1:iN mg base z1.1 z1.2)(B2:jR K mg "Finder" "gathered" "Finder.gathered" eY z2)(M2:iN mg base z2.1 z2.2)(n12:z1.2≠z2.2){f:Addr}(A:Around)(outer:List Env)(s:Shared)(H:Hp)(Q:VK)(E:XK)(hr:bT 18 (A.deeper (PyProof.Rows.envOfC "law" (aF iA) s.heap.objs.size f (.ref z1.1))))(q:∀H',pC [z1,z2] H'->Q (.bl true) H'):
 ∃t,eL (pW P w K mg base f z1.1 A outer s H E) ((aS iA).drop 6) t/\
  ∀(H0 H6:Hp) (a ln lc s' bd ch:Addr) (ns:List Int) (cs:List Str) (nm c0 c4:Str) (m n:Nat) (ts:List V) (lv lg:Nat->Addr) (ys:Nat->List V) (ds:Nat->List PyData) (B:BM) (chs:List V) (o5 o6:Option V),In42 K z1 z2 H0 a ln lc ns cs nm c0 c4 m n ts lv ys ds->Gv4 CS CB CT H0 s' bd ch nm m cs ys n lg B chs H6->
   t {nx:=fun _ H'=>Q .non H',rt:=Q} [some (.ref a),some (.ref ln),some (.int (m:Int)),some (.ref lc),some (.ref s'),o5,o6,none,none,none] H6:=by
 have hcl:∀x,(pW P w K mg base f z1.1 A outer s H E).env.scope.names.lookup x=some .cell->∃c,(pW P w K mg base f z1.1 A outer s H E).env.cells.lookup x=some c:=fun x hx=>Option.isSome_iff_exists.mp (PySem.W.cellsFrom_some _ _ _ (.inl hx))
 have GI:dI P w K mg base aB 4 CG ["self","names","function"] (b3X K CG):=wS T Ru Cc
 have G_rule:aN P w K mg base aB 9 CS "rule" ["self","table","column","rule"] (b1L K CS CF CB CT CG (a2y CG)):=b59 T Y F Wb U Cs (b78 Cc) (tG T Cc)
 have G_less:bK P w K mg base aB 1 "_law_less" ["_law_value_here"] (b1F K):=vA T
 obtain⟨tE,hE,qE⟩:=b40 (P:=P) (w:=w) (z1:=z1) T Y R F Wb U Cc WW WU B2 M2 (f:=f) A outer s H Q E hr q
 refine⟨_,(aJ (bZ (bW (pv 4) Y.cl G_rule (hr.mono (by decide)) aM (aA (bP dD (pv 1) aW (fun _ _=>rfl)) (aA (bP dD (pv 1) aW (fun _ _=>rfl)) (aA (jO GI (hr.mono (by decide)) Cc.c aM (aA (gH (aA (bP dD (pv 1) aW (fun _ _=>rfl)) aE)) (aA (a5n M1 rfl (lP (sc:=aF iA) (N:=Nlaw) (cp:=[]) hcl).clos rfl) aE))) aE)))))
  (aJ (bZ (iJ PySem.F.plainAttrs_list PySem.F.slot_list_append PySem.F.type_list_append gT (pv 3) (aA (fU (aA (bP dD (pv 1) aW (fun _ _=>rfl)) (aA (lC oT rfl rfl (by decide) (fL (bP eW (bP dD (pv 3) aW (fun _ _=>rfl)) aW (fun _ _=>rfl))) (fun _ _ _ _ _=>kK) (fun _ _ _ _ _=>(bR G_less (hr.mono (by decide)) aM (aA (pv 0) aE)))) aE))) aE)))
  hE)),?_⟩
 intro H0 H6 a ln lc s' bd ch ns cs nm c0 c4 m n ts lv lg ys ds B chs o5 o6 O G
 have n2:=O.n2
 have n4:=O.n4
 have c6:=O.c6
 have m9:=O.m9
 have at5:bY (cs.map V.str) (5:Int)=some (.str nm):=eQ (i:=5) (by rw[List.getElem?_map,O.e5];rfl)
 have at4:bY (cs.map V.str) (4:Int)=some (.str c4):=eQ (i:=4) (by rw[List.getElem?_map,O.e4];rfl)
 have at0:bY (cs.map V.str) (0:Int)=some (.str c0):=eQ (i:=0) (by rw[List.getElem?_map,O.e0];rfl)
 have hnm:Nl nm:=O.cn _ (List.mem_of_getElem? O.e5)
 have hc4:Nl c4:=O.cn _ (List.mem_of_getElem? O.e4)
 have hc0:Nl c0:=O.cn _ (List.mem_of_getElem? O.e0)
 have hN:∀z∈ [c0],Nl z:=fun z hz=>by rw[List.mem_singleton.mp hz];exact hc0
 have inj:∀{i k:Nat} {c d:Str},cs[i]?=some c->cs[k]?=some d->i≠k->c≠d:=fun{i k c d} h1 h2 n e=>n ((List.getElem?_inj (List.getElem?_eq_some_iff.mp h1).1 O.cd).mp (by rw[h1,h2,e]))
 have lot:∀{i:Nat} {c:Str},(cs.take n)[i]?=some c->i<n/\cs[i]?=some c:=fun{i c} h=>by
  have hi:i<n:=by
   have:=(List.getElem?_eq_some_iff.mp h).1
   rw[List.length_take]at this
   omega
  exact⟨hi,by rw[List.getElem?_take_of_lt hi]at h;exact h⟩
 have n4':c4∉cs.take n:=fun h=>by
  obtain⟨i,hi⟩:=List.getElem?_of_mem h
  obtain⟨h1,h2⟩:=lot hi
  exact inj h2 O.e4 (by omega) rfl
 have h0in:c0∈cs.take n:=List.mem_of_getElem? (i:=0) (by rw[List.getElem?_take_of_lt (by omega)];exact O.e0)
 obtain⟨⟨dS,fi,sS⟩,chS,bdS⟩:=G.sh
 have ln6:=G.old _ _ O.hln
 have cl:=G.cl
 refine⟨_,rfl,s',dS,_,rfl,sS,eO,_,rfl,ln,_,(5:Int),.str nm,rfl,rfl,aL.of ln6,at5,_,rfl,ln,_,(4:Int),.str c4,rfl,rfl,aL.of ln6,at4,_,rfl,ln,_,(0:Int),.str c0,rfl,rfl,aL.of ln6,at0,sl,fun l0 hl0=> ?_⟩
 have sa:=aG.new (o:=.lst [.str c0]) hl0
 have ca:upd H6 l0 (.lst [.str c0]) l0=some (.lst [.str c0]):=aK
 generalize upd H6 l0 (.lst [.str c0])=Ha at sa ca|-
 have t1:=sa _ _ (G.old _ _ O.t1)
 refine⟨⟨[],t1,fun c hc=>by cases hc⟩,fun fa HA hfa sA tA lA=> ?_⟩
 have kA:∀{x:Addr} {o:HO},Ha x=some o->(∀φ,o≠ .ext φ)->HA x=some o:=fun e n=>sA _ _ (fun y=>by rw[y,t1]at e;exact n _ (Option.some.inj e).symm) e
 obtain⟨S1,tS1,_⟩:=id tA
 intro gr dg hgr hdg ne
 have l0A:=kA ca (fun _ y=>by cases y)
 refine⟨gr,dg,l0,fa,[c0],rfl,aK,aL.of ?_,bD l0A hgr,(show 1<=6 by decide),hN,fun HB nl bB hnl' grB nlB=>⟨rfl,?_⟩⟩
 ·rw[aH (bD l0A hgr),aH (bD l0A hdg)]
  exact l0A
 have hnl:HA nl=none:=(kC (kC hnl').1).1
 have sB:aG HA HB:=fun x o e=>bB _ _ (bD e hgr) (by rw[aH (bD e hgr),aH (bD e hdg)];exact e)
 have kB:∀{x:Addr} {o:HO},H6 x=some o->(∀φ,o≠ .ext φ)->HB x=some o:=fun e n=>sB _ _ (kA (sa _ _ e) n)
 have btB:cW CB CT HB B:=by
  obtain⟨⟨d1,e1⟩,⟨⟨d2,e2⟩,e3,e4⟩,e5,e6,e7⟩:=G.bt
  exact⟨⟨d1,kB e1 (fun _ y=>by cases y)⟩,⟨⟨d2,kB e2 (fun _ y=>by cases y)⟩,kB e3 (fun _ y=>by cases y),kB e4 (fun _ y=>by cases y)⟩,kB e5 (fun _ y=>by cases y),kB e6 (fun _ y=>by cases y),kB e7 (fun _ y=>by cases y)⟩
 have bv:aO [((.inr nm:aC),V.ref B.b)] (.inr nm:aC)=some (.ref B.b):=gJ rfl
 have once:∀z∈dH ([c0].map fun z=>(nm,z)),z=(nm,c0):=fun z hz=>List.mem_singleton.mp (zW hz)
 have hoL:B.ord.length=n:=by rw[G.od,List.length_take];omega
 refine⟨s',bd,ch,gr,dg,chs,[((.inr nm:aC),V.ref B.b)],nm,c4,gX nl fa,B,dH ([c0].map fun z=>(nm,z)),[(nm,c0)],rfl,⟨⟨dS,fi,kB sS (fun _ y=>by cases y)⟩,kB chS (fun _ y=>by cases y),kB bdS (fun _ y=>by cases y)⟩,by omega,hnm,bv,btB,G.sp,G.ss,⟨by rw[G.ru];rfl,by rw[G.od];exact n4'⟩,hc4,grB,(qK _ _).2.2.1,b9i grB nlB (show 1<=6 by decide) hN hnm,fun z hz=> ?_,Nat.le_trans (b0E _) (show 1<=100 by decide),fun h=> ?_,(show 1<=100 by decide),by simp,(show 1<=4 by decide),fun kv hkv=> ?_,by rw[G.ru];exact(show 0<100 by decide),by rw[G.me];exact(show 0<100 by decide),by omega,fun H7 fi7 fd7 lk7 cc mc Fr hmc hB7 hm7 u7=> ?_⟩
 ·obtain rfl:=once z hz
  exact⟨⟨hnm,hc0⟩,List.mem_singleton.mpr rfl,B,bv,btB,by rw[G.od];exact h0in⟩
 ·have:=List.mem_singleton.mp h
  exact inj O.e4 O.e0 (by decide) (Prod.mk.inj this).2
 ·rw[List.mem_singleton.mp hkv]
  refine⟨nm,B,rfl,hnm,btB,G.ss.u,by rw[G.ru];exact List.nodup_nil,by rw[G.ru];exact Nat.zero_le _,fun rv hrv=> ?_⟩
  rw[G.ru]at hrv
  cases hrv
 obtain⟨⟨dx7,f1⟩,f2,f3,f4,f5,f6,f7,f8,f9,f10⟩:=Fr
 have nw:=G.nw
 have old:∀{x:Addr} {o:HO},H0 x=some o->x≠z1.2->H7 x=some o:=fun{x o} e n=>by
  have k:∀y,H0 y=none->x≠y:=fun y h z=>by rw[<- z,e]at h;cases h
  exact u7 _ _ (k _ (nw _ (by simp))) (k _ (nw _ (by simp))) (k _ (nw _ (by simp))) (k _ (nw _ (by simp))) (k _ (nw _ (by simp))) (sB _ _ (sA _ _ n (sa _ _ (G.old _ _ e))))
 have oldK:∀{x:Addr} {o:HO},H0 x=some o->(∀φ,o≠ .ext φ)->H7 x=some o:=fun e n=>old e (fun y=>by rw[y,O.t1]at e;exact n _ (Option.some.inj e).symm)
 have new7:∀{x:Addr} {o:HO},HA x=none->HB x=some o->H7 x=some o:=fun{x o} h e=>by
  have k:∀{y:Addr} {o':HO},H6 y=some o'->(∀φ,o'≠ .ext φ)->x≠y:=fun e' n z=>by rw[z,kA (sa _ _ e') n]at h;cases h
  exact u7 _ _ (k sS (fun _ y=>by cases y)) (k chS (fun _ y=>by cases y)) (k G.bt.ord (fun _ y=>by cases y)) (k G.bt.rul (fun _ y=>by cases y)) (k G.bt.mem (fun _ y=>by cases y)) e
 have kind:∀{x:Addr} {o:HO},HB x=some o->(∀a b c,o≠ .ins a b c)->(∀y,o≠ .lst y)->(∀y,o≠ .dK y)->H7 x=some o:=fun{x o} e n1 n2 n3=>by
  refine u7 _ _ (fun y=> ?_) (fun y=> ?_) (fun y=> ?_) (fun y=> ?_) (fun y=> ?_) e
  ·rw[y,kB sS (fun _ y=>by cases y)]at e;exact n1 _ _ _ (Option.some.inj e).symm
  ·rw[y,kB chS (fun _ y=>by cases y)]at e;exact n2 _ (Option.some.inj e).symm
  ·rw[y,btB.ord]at e;exact n2 _ (Option.some.inj e).symm
  ·rw[y,btB.rul]at e;exact n3 _ (Option.some.inj e).symm
  ·rw[y,btB.mem]at e;exact n3 _ (Option.some.inj e).symm
 have gr7:=new7 hgr grB
 have nl7:=new7 hnl nlB
 have z17:H7 z1.2=some (fB z1.2 S1):=kind (sB _ _ tS1) (fun _ _ _ y=>by cases y) (fun _ y=>by cases y) (fun _ y=>by cases y)
 have z27:H7 z2.2=some (fB z2.2 []):=old O.t2 n12.symm
 have ln7:=oldK O.hln (fun _ y=>by cases y)
 have lc7:=oldK O.hlc (fun _ y=>by cases y)
 have kz7:eX HA H7:=fun x u e=>kind (sB _ _ e) (fun _ _ _ y=>by cases y) (fun _ y=>by cases y) (fun _ y=>by cases y)
 have kt7:bS H0 H7:=fun x xs e=>oldK e (fun _ y=>by cases y)
 obtain⟨t0,a1,a2,a3,a4,a5,a6⟩:=O.tb 0 c0 (by omega) O.e0
 have a27:=oldK a2 (fun _ y=>by cases y)
 have a37:=oldK a3 (fun _ y=>by cases y)
 have p07:=a5.keep kt7
 refine⟨_,rfl,.inl ⟨rfl,_,aL.of lc7⟩,_,rfl,ln,_,(4:Int),.str c4,rfl,rfl,aL.of ln7,at4,_,rfl,lc,_,(0:Int),.ref t0,rfl,rfl,aL.of lc7,eQ (i:=0) a1,t0,_,(1:Int),.ref (lv 0),rfl,rfl,bU.of a27,rfl,lv 0,rfl,⟨_,aL.of a37⟩,fun D hD=> ?_⟩
 refine qJ (K:=K) (a:=lv 0) (xs:=ys 0) (fun i zs H2=>aG H7 H2/\zs.length=i/\cI K H2 zs (((ds 0).take i).map (iU iI))) ⟨aG.new hD,rfl,.nil⟩ (fun i zs H2 _ h=>aL.of (h.1 _ _ a37)) ?_ ?_
 ·rintro i x zs H2 hx h2 ⟨s2,lz,pz⟩
  have hi:i<(ys 0).length:=(List.getElem?_eq_some_iff.mp hx).1
  have ld:(ys 0).length=(ds 0).length:=Paired.length p07
  obtain⟨v,d,g1,g2,g3⟩:=cI.at (p07.keep (bS.of s2)) (i:=i) (by omega)
  rw[g1]at hx
  obtain rfl:=Option.some.inj hx
  refine⟨_,rfl,v,d,rfl,g3,fun H3 v' s3 p3=> ?_⟩
  have h3:=s3 _ _ h2
  have kt:bS H3 (upd H3 D (.lst (zs++ [v']))):=bS.upd h3 (fun _ y=>by cases y)
  refine⟨h3,cQ (by omega),(s2.trans s3).on hD,by rw[List.length_append,lz];rfl,?_⟩
  rw[List.take_add_one,g2,List.map_append]
  exact cI.snoc (p3.keep kt) ((pz.keep (bS.of s3)).keep kt)
 rintro zs H8a hD8 ⟨s8a,lz,pz⟩
 rw[show (ds 0).take (ys 0).length=ds 0 by rw[show (ys 0).length=(ds 0).length from Paired.length p07,List.take_length]]at pz
 refine⟨sl,fun t4 ht4=> ?_⟩
 have s8b:=aG.new (o:=.tup [.str c4,.ref D]) ht4
 have e8b:upd H8a t4 (.tup [.str c4,.ref D]) t4=some (.tup [.str c4,.ref D]):=aK
 generalize upd H8a t4 (.tup [.str c4,.ref D])=H8b at s8b e8b|-
 have s78:=s8a.trans s8b
 have lc8:=s78 _ _ lc7
 refine⟨lc,_,_,rfl,rfl,lc8,cQ (by rw[O.tl];omega),?_⟩
 have u8:bG lc H8b (upd H8b lc (.lst (ts++ [.ref t4]))):=bG.upd
 have e8:upd H8b lc (.lst (ts++ [.ref t4])) lc=some (.lst (ts++ [.ref t4])):=aK
 generalize upd H8b lc (.lst (ts++ [.ref t4]))=H8 at u8 e8|-
 have k8:∀{x:Addr} {o:HO},H7 x=some o->x≠lc->H8 x=some o:=fun e n=>u8 _ _ n (s78 _ _ e)
 have kk:∀{x:Addr} {o:HO},H7 x=some o->(∀y,o≠ .lst y)->H8 x=some o:=fun e n=>k8 e (fun y=>by rw[y,lc7]at e;exact n _ (Option.some.inj e).symm)
 have nlc:∀{x:Addr},H0 x=none->x≠lc:=fun h y=>by rw[y,O.hlc]at h;cases h
 have ktb:bS H8b H8:=fun x xs e=>u8 _ _ (fun y=>by rw[y,lc8]at e;cases e) e
 have kt8:bS H7 H8:=fun x xs e=>ktb _ _ (s78 _ _ e)
 have nA:∀{x:Addr},HA x=none->x≠lc:=fun h y=>by rw[y,kA (sa _ _ (G.old _ _ O.hlc)) (fun _ y=>by cases y)]at h;cases h
 have mn:∀{x:Addr} {o:HO},H6 x=some o->(∀φ,o≠ .ext φ)->mc≠x:=fun e n y=>by rw[y,kB e n]at hmc;cases hmc
 have fin:Fin4 K CS CF CB CT CG z1 z2 H8 a ln lc s' bd ch fi7 fd7 lk7 mc gr nl fa {B with rus:=aT B.rus (.inr c4:aC) (.ref gr),mes:=aT B.mes (.inr c4:aC) (.ref mc),ord:=B.ord++ [c4]} ns cs nm c0 c4 m n ts lv lg ys ds t4 D zs:=by
  refine⟨?_,c6,O.cn,O.cd,O.e5,O.e0,O.e4,n2,n4,m9,⟨S1,kk z17 (fun _ y=>by cases y)⟩,kk z27 (fun _ y=>by cases y),k8 ln7 O.nlc,e8,O.tl,fun i c hi ei=> ?_,ktb _ _ e8b,u8 _ _ (fun y=>by rw[y]at hD;rw[lc7]at hD;cases hD) (s8b _ _ hD8),(pz.keep (bS.of s8b)).keep ktb,⟨dx7,kk f1 (fun _ y=>by cases y)⟩,⟨_,k8 f2 (nlc (nw _ (by simp))),by rw[List.length_append];show chs.length+ 1<900;omega⟩,kk f3 (fun _ y=>by cases y),f4.imp fun _ e=>kk e (fun _ y=>by cases y),kk f5 (fun _ y=>by cases y),kk f6 (fun _ y=>by cases y),f7,?_,G.xs,?_,?_,?_,⟨G.ss.r,G.ss.o,G.ss.e,G.ss.u,G.ss.m⟩,kk hm7 (fun _ y=>by cases y),⟨mn bdS (fun _ y=>by cases y),mn G.bt.tab.kept (fun _ y=>by cases y),mn G.bt.rul (fun _ y=>by cases y),mn G.bt.mem (fun _ y=>by cases y)⟩,fun i c hi ei=> ?_,⟨dg,kk gr7 (fun _ y=>by cases y)⟩,k8 nl7 (nA hnl)⟩
  ·rcases O.sc with(h|⟨o,h⟩)|h
   ·refine .inl (.inl (k8 (oldK h (fun _ y=>by cases y)) fun y=> ?_))
    rw[y,O.hlc]at h
    have e:ts=ns.map V.int:=by cases h;rfl
    rw[e,List.getElem?_map]at a1
    cases e2:ns[0]? with
    |none=>rw[e2]at a1;cases a1
    |some x=>rw[e2]at a1;cases a1
   ·exact .inl (.inr ⟨o,kk (oldK h (fun _ y=>by cases y)) (fun _ y=>by cases y)⟩)
   ·exact .inr h
  ·obtain⟨t,b1,b2,b3,b4,b5,b6⟩:=O.tb i c hi ei
   exact⟨t,b1,kk (oldK b2 (fun _ y=>by cases y)) (fun _ y=>by cases y),k8 (oldK b3 (fun _ y=>by cases y)) b6,b4,(b5.keep kt7).keep kt8⟩
  ·obtain⟨⟨d1,e1⟩,⟨⟨d2,e2⟩,e3,e4⟩,e5,e6,e7⟩:=hB7
   exact⟨⟨d1,kk e1 (fun _ y=>by cases y)⟩,⟨⟨d2,kk e2 (fun _ y=>by cases y)⟩,k8 e3 (nlc (nw _ (by simp))),kk e4 (fun _ y=>by cases y)⟩,kk e5 (fun _ y=>by cases y),kk e6 (fun _ y=>by cases y),k8 e7 (nlc (nw _ (by simp)))⟩
  ·show aT B.rus _ _=_
   rw[G.ru];rfl
  ·show aT B.mes _ _=_
   rw[G.me];rfl
  ·show B.ord++ [c4]=_
   rw[G.od]
  ·obtain⟨g1,g2,g3,g4,g5⟩:=G.kv i c hi ei
   have gB:=kB g2 (fun _ y=>by cases y)
   refine⟨g1,k8 (u7 _ _ (fun y=> ?_) g3 g4 (fun y=> ?_) (fun y=> ?_) gB) (nlc g5),g3⟩
   ·rw[y,sS]at g2;cases g2
   ·rw[y,G.bt.rul]at g2;cases g2
   ·rw[y,G.bt.mem]at g2;cases g2
 have fn:lE P w K mg base 4 H8 fa ch iI qS:=by
  have la:=nY (fun x u e=>kk (kz7 x u e) (fun _ y=>by cases y)) lA
  rw[a08 (by decide+kernel)]at la
  have h:=b5I (P:=P) (w:=w) (K:=K) (mg:=mg) (base:=base) (ca:=ch) (k:=2) (fl:=fun _=>none) (g:=iI) (ok:=qS) (fun is=>⟨_,rfl⟩) (by decide) (fun b o e=>by cases e) la (b9R (ps:=["_law_xs"]) (k:=1) (spB:=spBP iI qS) A s H (fun _ _ _ _ us hl=>dM (fun _=>rfl) us hl) (fun cd A' outer' s'' H' vs Q' hr' h'=> ?_))
  ·rw[b8p]at h
   exact h
  ·obtain⟨l,is,rfl,hl,ho,i1,q'⟩:=h'
   refine⟨_,bQ lL (bP dD (pv 0) aW (fun _ _=>rfl)) aW,?_⟩
   have e0:is[0]?=some (is.headD 0):=by
    cases is with
    |nil=>exact absurd ho (by unfold qS;decide)
    |cons x r=>rfl
   exact⟨_,rfl,l,_,(0:Int),.int (is.headD 0),rfl,rfl,aL.of hl,eQ (i:=0) (by rw[List.getElem?_map,e0];rfl),_,_,rfl,rfl,q' _ rfl⟩
 obtain⟨X,kb,RR⟩:=b5m T Y R F Wb U Cc WW WU WO B2 M2 n12 fin fn
 exact qE H8 X a ln lc s' bd ch fi7 kb _ ns cs nm m _ o5 o6 RR
end
end My
namespace L2
open PySem PySem.Spec PyProof.Rows
theorem iX.okT{P:Program}{w:World}{K:Fg}{mg:Str->Option Value}{base:Heap}{x qual:Str}{st:Stmt}{f c:Addr}{fd:FuncData}{N ps:List Str}{k:Nat}{sp:Sp}(F:iX K x qual st f fd)(hc:fd.code= .ref c)(S:aY N ps (aF st))(len:∀vs H Q E,sp vs H Q E->vs.length=ps.length)
 (hbody:∀(A:Around) (outer:List Env) (s:Shared) (H:Hp) (vs:List V) (Q:VK) (E:XK),bT k (A.deeper (envOfC qual (aF st) s.heap.objs.size f (.ref c)))->sp vs H Q E->
  ∃t,eL (dX aB P w K mg base N qual (aF st) f (.ref c) A outer s H E).nox (aS st) t/\t {nx:=fun _ H'=>Q .non H',rt:=Q} (start N vs) H):eU P w K mg base aB (k+ 1) f fd ps sp:=by
 obtain⟨oc,od,kV,doc,pm,an,cdv,ct,osl,rfl,lk,hcd⟩:=F.ex
 have e:cdv= .ref c:=hc
 subst e
 refine a5h lk hcd S len fun A outer s H vs Q E hr hsp=> ?_
 obtain⟨t,h,q⟩:=hbody A outer s H vs Q E hr hsp
 exact⟨t,h.nox,q⟩
end L2
namespace My
open PySem L2
def b1C(K:Fg)(tabs:List (Addr×Addr)):Sp:=fun vs H Q _=>∃(a:Addr) (ns:List Int),vs= [.ref a] /\aL K H a (ns.map V.int)/\ns.length<=63/\wP tabs H/\∀H',pC tabs H'->Q (.bl true) H'
section
variable{P:Program}{w:World}{K:Fg}{mg:Str->Option Value}{base:Heap}
inductive IvG(CS CB CT:Addr)(H0:Hp)(s bd ch a ln lc:Addr)(nm:Str)(m:Nat)(cs:List Str)(ys:Nat->List V):Nat->St->Hp->Prop
 |mk {i:Nat} {σ:St} {Hi:Hp} (o5 o6:Option V) (lg:Nat->Addr) (B:BM) (chs:List V) (h1:σ= [some (.ref a),some (.ref ln),some (.int (m:Int)),some (.ref lc),some (.ref s),o5,o6,none,none,none]) (h2:Gv4 CS CB CT H0 s bd ch nm m cs ys i lg B chs Hi):IvG CS CB CT H0 s bd ch a ln lc nm m cs ys i σ Hi
theorem b8M(T:aZ K mg){z1 z2:Addr×Addr}(B1:DefT K mg "law" iA z1)(M1:iN mg base z1.1 z1.2)(B2:jR K mg "Finder" "gathered" "Finder.gathered" eY z2)(M2:iN mg base z2.1 z2.2)(n12:z1.2≠z2.2){f:Addr}{fd:FuncData}(F:iX K "law" "law" iA f fd)(hcd:fd.code= .ref z1.1):eU P w K mg base aB 19 f fd ["_law_script"] (b1C K [z1,z2]):=by
 obtain⟨CS,Y⟩:=T.t_Sheet
 obtain⟨CF,Fi⟩:=T.t_Finder
 obtain⟨CB,Wb⟩:=T.t_Board
 obtain⟨CT,U⟩:=T.t_Table
 obtain⟨CG,Cc⟩:=T.t_Cells
 obtain⟨CE,Ru⟩:=T.t_Rule
 obtain⟨CR,R⟩:=T.t_Trial
 obtain⟨CU,Cs⟩:=T.t_ColumnSet
 obtain⟨CW,TT⟩:=T.t_TableTold
 obtain⟨CWh,WW⟩:=T.t_Whole
 obtain⟨CSm,WU⟩:=T.t_Some
 obtain⟨CSp,WO⟩:=T.t_Spot
 have G_cell:bK P w K mg base aB 1 "_law_cell_at" ["_law_script","_law_k"] (yZ K):=pD T
 have G_names:bK P w K mg base aB 1 "_law_names" ["_law_cell"] (b3i K):=vZ T
 have G_cols:bK P w K mg base aB 2 "_law_columns" ["_law_script","_law_names_here","_law_many"] (b2e K):=rX T
 have GS:dI P w K mg base aB 3 CS ["self"] (spSI CS CF):=vH T Y Fi
 have G_table:aN P w K mg base aB 9 CS "table" ["self","name","many"] (b3w CS CF CB CT):=xQ T Y Fi Wb U TT
 have G_give:aN P w K mg base aB 9 CS "give" ["self","table","column","values"] (b10 K CS CF CB CT):=sX T Y Fi Wb U Cs
 refine F.okT hcd iL (fun vs H Q E h=> ?_) (fun A outer s H vs Q E hr h=> ?_)
 ·obtain⟨a,ns,rfl,_⟩:=h
  rfl
 ·obtain⟨a,ns,rfl,hS,hl,hT,q⟩:=h
  obtain⟨tE,hE,qE⟩:=b79 (P:=P) (w:=w) (z1:=z1) T Y R Fi Wb U Cc WW WU WO Cs Ru M1 B2 M2 n12 (f:=f) A outer s H Q E hr q
  refine⟨_,(aJ (bV (i:=1) iL.nd rfl (.inl rfl) (bR G_names (hr.mono (by decide)) aM (aA (bR G_cell (hr.mono (by decide)) aM (aA (pv 0) (aA aW aE))) aE)))
   (aJ (bV (i:=2) iL.nd rfl (.inl rfl) (bQ jA (bR G_cell (hr.mono (by decide)) aM (aA (pv 0) (aA aW aE))) aW))
   (aJ (bV (i:=3) iL.nd rfl (.inl rfl) (bR G_cols (hr.mono (by decide)) aM (aA (pv 0) (aA (pv 1) (aA (pv 2) aE)))))
   (aJ (bV (i:=4) iL.nd rfl (.inl rfl) (b7J GS (hr.mono (by decide)) Y.c aM))
   (aJ (bZ (bW (pv 4) Y.cl G_table (hr.mono (by decide)) aM (aA (bP dD (pv 1) aW (fun _ _=>rfl)) (aA (pv 2) aE))))
   (aJ (gW PassesOwn.never rfl (fL (pv 3)) (oO rfl (hZ (dL (i:=5) iL.nd rfl (.inl rfl)) (hZ (dL (i:=6) iL.nd rfl (.inr rfl)) nT))) (aI (bZ (bW (pv 4) Y.cl G_give (hr.mono (by decide)) aM (aA (bP dD (pv 1) aW (fun _ _=>rfl)) (aA (pv 5) (aA (kP xN rfl T.list iR (aA (pv 6) aE)) aE)))))))
   hE)))))),?_⟩
  have t1:H z1.2=some (fB z1.2 []):=hT _ (by simp)
  have t2:H z2.2=some (fB z2.2 []):=hT _ (by simp)
  refine⟨_,rfl,a,ns,0,rfl,hS,fun y0=>⟨y0,rfl,fun H1 ln cs s1 hln hln0 c6 cn cd=> ?_⟩⟩
  refine⟨_,rfl,a,ns,2,rfl,s1.seq hS,fun y1=>⟨_,_,rfl,rfl,(show(0:Int)<9 by decide),?_⟩⟩
  have b1:=Int.emod_nonneg y1 (show(9:Int)≠0 by decide)
  have b2:=Int.emod_lt_of_pos y1 (show(0:Int)<9 by decide)
  obtain⟨m,em⟩:∃m:Nat,y1% 9=(m:Int):=⟨(y1% 9).toNat,by omega⟩
  have m9:m<9:=by omega
  show gF 2 (V.int (y1% 9)) _ _ _
  rw[em]
  refine⟨_,rfl,_,rfl,_,rfl,a,ln,ns,cs,m,rfl,s1.seq hS,hl,hln,c6,by omega,fun H2 lc n ts lv ys ds s2 hlc0 hlc n2 n4 tb nlv=> ?_⟩
  obtain⟨nm,e5⟩:∃c,cs[5]?=some c:=⟨_,List.getElem?_eq_getElem (by omega)⟩
  obtain⟨c0,e0⟩:∃c,cs[0]?=some c:=⟨_,List.getElem?_eq_getElem (by omega)⟩
  obtain⟨c4,e4⟩:∃c,cs[4]?=some c:=⟨_,List.getElem?_eq_getElem (by omega)⟩
  have hnm:Nl nm:=cn _ (List.mem_of_getElem? e5)
  have at5:bY (cs.map V.str) (5:Int)=some (.str nm):=eQ (i:=5) (by rw[List.getElem?_map,e5];rfl)
  have tl:ts.length=n:=by rw[tb.1,List.length_take];omega
  have O:In42 K z1 z2 H2 a ln lc ns cs nm c0 c4 m n ts lv ys ds:=by
   refine⟨(s1.trans s2).seq hS,c6,cn,cd,e5,e0,e4,n2,n4,m9,s2 _ _ (s1 _ _ t1),s2 _ _ (s1 _ _ t2),s2 _ _ hln,hlc,bD hln hlc0,tl,fun i c hi ei=> ?_⟩
   obtain⟨t,h1,h2,_,h3,h4,h5⟩:=tb.2 i c (by rw[List.getElem?_take_of_lt hi];exact ei)
   exact⟨t,h1,h2,h3,h4,h5,nlv i hi⟩
  intro s0 d0 hs0 hd0 ne0
  refine⟨s0,d0,rfl,aK,fun H3 bd ch fi fd' lk df fr nfl a1 a2 a3 a4 a5 a6 b0=>⟨rfl,?_⟩⟩
  have s3:aG H2 H3:=fun x o e=>b0 _ _ (bD e hs0) (by rw[aH (bD e hs0),aH (bD e hd0)];exact e)
  have f0:∀x∈ [bd,ch,fi,fd',lk],H2 x=none:=fun x hx=>(kC (kC (fr x hx)).1).1
  refine⟨_,rfl,s0,d0,_,rfl,a1,eO,_,rfl,ln,_,(5:Int),.str nm,rfl,rfl,aL.of (s3 _ _ O.hln),at5,_,rfl,s0,bd,ch,[],[],nm,m,rfl,⟨⟨d0,fi,a1⟩,a3,a2⟩,(show 0<900 by decide),(show 0<4 by decide),hnm,rfl,by omega,fun H4 fi4 fd4 lk4 c b g r e ru me od Fr hB sep nw u=> ?_⟩
  obtain⟨⟨dx4,f1⟩,f2,f3,f4,f5,f6,f7,f8,f9,f10⟩:=Fr
  have G0:Gv4 CS CB CT H2 s0 bd ch nm m cs ys 0 (fun _=>lc) ⟨b,g,r,e,ru,me,od,eT 0 m,(m:Int),[],[],[],[]⟩ ([] ++ [.ref c]) H4:=by
   refine⟨fun x o ex=>u _ _ (bD ex hs0) (bD ex (f0 ch (by simp))) (bD ex (f0 bd (by simp))) (s3 _ _ ex),fun x hx=> ?_,⟨⟨dx4,fi4,f1⟩,f2,f3⟩,(show 1<=1 by decide),hB,sep,⟨bD a3 (nw r (by simp)),bD a3 (nw od (by simp)),bD a2 (nw e (by simp)),bD a2 (nw ru (by simp)),bD a2 (nw me (by simp))⟩,rfl,rfl,rfl,rfl,(show 0<=0 by decide),fun i c hi=>by{omega}⟩
   simp only[List.mem_cons,List.not_mem_nil,or_false]at hx
   rcases hx with rfl|rfl|rfl|h
   ·exact hs0
   ·exact f0 _ (by simp)
   ·exact f0 _ (by simp)
   ·exact fT s3 (nw x (by simp only[List.mem_cons,List.not_mem_nil,or_false];exact h))
  refine⟨_,rfl,lc,rfl,⟨_,aL.of (G0.old _ _ hlc)⟩,?_⟩
  refine kM (K:=K) (a:=lc) (xs:=ts) (IvG CS CB CT H2 s0 bd ch a ln lc nm m cs ys) ⟨_,_,_,_,_,rfl,G0⟩ (by rintro i σ Hi _ ⟨_,_,_,_,_,_,g⟩;exact aL.of (g.old _ _ hlc)) ?_ ?_
  ·rintro i x σ Hi hx ⟨o5,o6,lg,B,chs,rfl,G⟩
   have hi:i<n:=by rw[<- tl];exact(List.getElem?_eq_some_iff.mp hx).1
   obtain⟨c,ec⟩:∃c,cs[i]?=some c:=⟨_,List.getElem?_eq_getElem (by omega)⟩
   obtain⟨t,h1,h2,h3,h4,h5,h6⟩:=O.tb i c hi ec
   rw[h1]at hx
   obtain rfl:=Option.some.inj hx
   obtain⟨⟨dS,fiS,sS⟩,chS,bdS⟩:=G.sh
   have cl:=G.cl
   have kl:=G.kl
   refine⟨t,_,rfl,bU.of (G.old _ _ h2),rfl,_,_,rfl,_,_,rfl,rfl,?_⟩
   refine⟨_,rfl,s0,dS,_,rfl,sS,eO,_,rfl,ln,_,(5:Int),.str nm,rfl,rfl,aL.of (G.old _ _ O.hln),at5,_,rfl,_,rfl,lv i,ys i,rfl,.inl (aL.of (G.old _ _ h3)),fun cp hcp=> ?_⟩
   have s9:=aG.new (o:=.lst (ys i)) hcp
   have c9:upd Hi cp (.lst (ys i)) cp=some (.lst (ys i)):=aK
   generalize upd Hi cp (.lst (ys i))=H9 at s9 c9|-
   have inj:∀{k:Nat} {d:Str},cs[k]?=some d->k≠i->d≠c:=fun{k d} e n' y=>n' ((List.getElem?_inj (List.getElem?_eq_some_iff.mp e).1 cd).mp (by rw[e,ec,y]))
   have od:B.ord.length=i:=by rw[G.od,List.length_take];omega
   have nin:c∉B.ord:=fun h=>by
    rw[G.od]at h
    obtain⟨k,hk⟩:=List.getElem?_of_mem h
    have hk':k<i:=by
     have:=(List.getElem?_eq_some_iff.mp hk).1
     rw[List.length_take]at this
     omega
    rw[List.getElem?_take_of_lt hk']at hk
    exact inj hk (by omega) rfl
   refine⟨s0,bd,ch,cp,chs,[((.inr nm:aC),V.ref B.b)],nm,c,ys i,ds i,B,rfl,⟨⟨dS,fiS,s9 _ _ sS⟩,s9 _ _ chS,s9 _ _ bdS⟩,by omega,hnm,gJ rfl,G.bt.same s9,G.sp,G.ss,⟨by rw[G.ru];rfl,nin⟩,cn _ (List.mem_of_getElem? ec),c9,(bD G.bt.ord hcp).symm,(h5.keep (bS.of G.old)).keep (bS.of s9),by rw[G.xs,pZ];exact h4,by omega,by omega,by omega,fun H' fi' fd' lk' cc l Fr hl0 hB hl' u=> ?_⟩
   obtain⟨⟨dx',g1⟩,g2,g3,g4,g5,g6,g7,g8,g9,g10⟩:=Fr
   have nw:=G.nw
   have o9:aG H2 H9:=G.old.trans s9
   refine⟨_,_,fun k=>if k=i then l else lg k,{B with kvs:=aT B.kvs (.inr c:aC) (.ref l),ord:=B.ord++ [c]},_,rfl,fun x o ex=>u _ _ (bD ex (nw _ (by simp))) (bD ex (nw _ (by simp))) (bD ex (nw _ (by simp))) (bD ex (nw _ (by simp))) (o9 _ _ ex),nw,⟨⟨dx',fi',g1⟩,g2,g3⟩,by rw[List.length_append];show chs.length+ 1<=_;omega,hB,⟨G.sp.ro,G.sp.eu,G.sp.em,G.sp.um⟩,⟨G.ss.r,G.ss.o,G.ss.e,G.ss.u,G.ss.m⟩,G.xs,G.ru,G.me,?_,Nat.le_trans b5P (by omega),fun k d hk ek=> ?_⟩
   ·show B.ord++ [c]=_
    rw[G.od,List.take_add_one,ec]
    rfl
   ·show aO (aT B.kvs (.inr c:aC) (.ref l)) (.inr d:aC)=some (.ref (if k=i then l else lg k))/\H' (if k=i then l else lg k)=some (.lst (ys k))/\(if k=i then l else lg k)≠ch/\(if k=i then l else lg k)≠B.od/\H2 (if k=i then l else lg k)=none
    by_cases y:k=i
    ·subst y
     rw[ec]at ek
     obtain rfl:=Option.some.inj ek
     rw[if_pos rfl,iE,if_pos rfl]
     exact⟨rfl,hl',(bD (s9 _ _ chS) hl0).symm,(bD (s9 _ _ G.bt.ord) hl0).symm,fT o9 hl0⟩
    ·rw[if_neg y,iE,if_neg (fun e=>inj ek y (Sum.inr.inj e))]
     obtain⟨k1,k2,k3,k4,k5⟩:=G.kv k d (by omega) ek
     refine⟨k1,u _ _ (fun z=> ?_) k3 k4 (fun z=> ?_) (s9 _ _ k2),k3,k4,k5⟩
     ·rw[z,sS]at k2;cases k2
     ·rw[z,G.bt.tab.kept]at k2;cases k2
  ·rintro σ Hi ⟨o5,o6,lg,B,chs,rfl,G⟩
   rw[tl]at G
   exact qE H2 Hi a ln lc s0 bd ch ns cs nm c0 c4 m n ts lv lg ys ds B chs o5 o6 O G
end
set_option autoImplicit true in
theorem b5l{PP:Params}{K:Fg}{h:Heap}{mg:Str->Option Value}(X:K.In h)(G:h.Ns mainGlobals mg)
 (a14:W.nsIn K mainGlobals "len"=some none)
 (a2z:W.nsIn K mainGlobals "isinstance"=some none)
 (a62:W.nsIn K mainGlobals "int"=some none)
 (b0u:W.nsIn K mainGlobals "bool"=some none)
 (a9O:W.nsIn K mainGlobals "str"=some none)
 (a92:W.nsIn K mainGlobals "all"=some none)
 (a9j:W.nsIn K mainGlobals "range"=some none)
 (a9M:W.nsIn K mainGlobals "abs"=some none)
 (a1A:W.nsIn K mainGlobals "list"=some none)
 (a02:W.nsIn K mainGlobals "tuple"=some none)
 (a9s:W.nsIn K mainGlobals "max"=some none)
 (a4h:W.nsIn K mainGlobals "reversed"=some none)
 (a2a:W.nsIn K mainGlobals "ValueError"=some none)
 {b62:Tok}(a8i:W.nsIn K mainGlobals "LETTERS"=some (some (.str ("abcdefghijklmnopqrstuvwxyz":Str) b62)))
 {b5B:Tok}(a2f:W.nsIn K mainGlobals "MOST_LETTERS"=some (some (.int 8 b5B)))
 {b89 b71:Tok}{b4n:Nat}(a50:W.nsIn K mainGlobals "ODD"=some (some (.ref b3l)))(a2Q:K.lookup b3l=some ⟨.type "tuple",od_ODD,.seq #[Value.str ("fault":Str) b89,Value.str ("odd":Str) b71] b4n,sl_ODD⟩)
 {b4J:Tok}(a87:W.nsIn K mainGlobals "MOST_NAMES"=some (some (.int 6 b4J)))
 {b7g:Tok}(a3d:W.nsIn K mainGlobals "MOST_ROWS"=some (some (.int 30 b7g)))
 {b4Z:Tok}(a5G:W.nsIn K mainGlobals "MOST_COLUMNS"=some (some (.int 8 b4Z)))
 {b5X:Tok}(a90:W.nsIn K mainGlobals "MOST_TABLES"=some (some (.int 4 b5X)))
 {b6w b4h:Tok}{b8Y:Nat}(b0l:W.nsIn K mainGlobals "UNKNOWN"=some (some (.ref b1J)))(a6y:K.lookup b1J=some ⟨.type "tuple",od_UNKNOWN,.seq #[Value.str ("fault":Str) b6w,Value.str ("unknown":Str) b4h] b8Y,sl_UNKNOWN⟩)
 (a3U:W.nsIn K mainGlobals "is_whole"=some (some (.ref b2L)))
 (a6B:K.lookup b2L=some ⟨oc_is_whole,od_is_whole,.func (W.fnOf "is_whole" "is_whole" (aV wK) (aS wK) (aF wK) .none kV_is_whole doc_is_whole pm_is_whole an_is_whole b4Q ct_is_whole),sl_is_whole⟩)
 (b0T:W.codeIn K b4Q "is_whole"=true)(mV:W.keepIn K (.ref b2L)=true)
 (a3w:W.nsIn K mainGlobals "is_number"=some (some (.ref b2u)))
 (b0J:K.lookup b2u=some ⟨oc_is_number,od_is_number,.func (W.fnOf "is_number" "is_number" (aV rW) (aS rW) (aF rW) .none kV_is_number doc_is_number pm_is_number an_is_number c0d ct_is_number),sl_is_number⟩)
 (a0W:W.codeIn K c0d "is_number"=true)(xA:W.keepIn K (.ref b2u)=true)
 (a2M:W.nsIn K mainGlobals "is_name"=some (some (.ref b2R)))
 (a70:K.lookup b2R=some ⟨oc_is_name,od_is_name,.func (W.fnOf "is_name" "is_name" (aV vQ) (aS vQ) (aF vQ) .none kV_is_name doc_is_name pm_is_name an_is_name b4I ct_is_name),sl_is_name⟩)
 (a9a:W.codeIn K b4I "is_name"=true)(jL:W.keepIn K (.ref b2R)=true)
 (a86:W.nsIn K mainGlobals "is_fault"=some (some (.ref b2N)))
 (a6K:K.lookup b2N=some ⟨oc_is_fault,od_is_fault,.func (W.fnOf "is_fault" "is_fault" (aV xS) (aS xS) (aF xS) .none kV_is_fault doc_is_fault pm_is_fault an_is_fault b4l ct_is_fault),sl_is_fault⟩)
 (a3v:W.codeIn K b4l "is_fault"=true)(oA:W.keepIn K (.ref b2N)=true)
 (a3z:W.nsIn K mainGlobals "is_value"=some (some (.ref b1R)))
 (a4t:K.lookup b1R=some ⟨oc_is_value,od_is_value,.func (W.fnOf "is_value" "is_value" (aV tS) (aS tS) (aF tS) .none kV_is_value doc_is_value pm_is_value an_is_value b9G ct_is_value),sl_is_value⟩)
 (a36:W.codeIn K b9G "is_value"=true)(rG:W.keepIn K (.ref b1R)=true)
 (a3a:W.nsIn K mainGlobals "settled"=some (some (.ref b2v)))
 (a7S:K.lookup b2v=some ⟨oc_settled,od_settled,.func (W.fnOf "settled" "settled" (aV vK) (aS vK) (aF vK) .none kV_settled doc_settled pm_settled an_settled b6n ct_settled),sl_settled⟩)
 (a6r:W.codeIn K b6n "settled"=true)(uL:W.keepIn K (.ref b2v)=true)
 (a6S:W.nsIn K mainGlobals "check_name"=some (some (.ref b08)))
 (a2G:K.lookup b08=some ⟨oc_check_name,od_check_name,.func (W.fnOf "check_name" "check_name" (aV uG) (aS uG) (aF uG) .none kV_check_name doc_check_name pm_check_name an_check_name b5k ct_check_name),sl_check_name⟩)
 (b0S:W.codeIn K b5k "check_name"=true)(uE:W.keepIn K (.ref b08)=true)
 (a39:W.nsIn K mainGlobals "checked_names"=some (some (.ref b3G)))
 (a9X:K.lookup b3G=some ⟨oc_checked_names,od_checked_names,.func (W.fnOf "checked_names" "checked_names" (aV xO) (aS xO) (aF xO) .none kV_checked_names doc_checked_names pm_checked_names an_checked_names b5M ct_checked_names),sl_checked_names⟩)
 (a6A:W.codeIn K b5M "checked_names"=true)(vS:W.keepIn K (.ref b3G)=true)
 (a41:W.nsIn K mainGlobals "each_once"=some (some (.ref b1N)))
 (a8y:K.lookup b1N=some ⟨oc_each_once,od_each_once,.func (W.fnOf "each_once" "each_once" (aV tW) (aS tW) (aF tW) .none kV_each_once doc_each_once pm_each_once an_each_once b8s ct_each_once),sl_each_once⟩)
 (a6D:W.codeIn K b8s "each_once"=true)(a0S:W.keepIn K (.ref b1N)=true)
 (a8m:W.nsIn K mainGlobals "look_in_turn"=some (some (.ref b1T)))
 (a8W:K.lookup b1T=some ⟨oc_look_in_turn,od_look_in_turn,.func (W.fnOf "look_in_turn" "look_in_turn" (aV tT) (aS tT) (aF tT) .none kV_look_in_turn doc_look_in_turn pm_look_in_turn an_look_in_turn b8Z ct_look_in_turn),sl_look_in_turn⟩)
 (a1G:W.codeIn K b8Z "look_in_turn"=true)(tO:W.keepIn K (.ref b1T)=true)
 (a34:W.nsIn K mainGlobals "check_size"=some (some (.ref b3Z)))
 (a7D:K.lookup b3Z=some ⟨oc_check_size,od_check_size,.func (W.fnOf "check_size" "check_size" (aV rY) (aS rY) (aF rY) .none kV_check_size doc_check_size pm_check_size an_check_size b6t ct_check_size),sl_check_size⟩)
 (a1r:W.codeIn K b6t "check_size"=true)(qD:W.keepIn K (.ref b3Z)=true)
 (a2i:W.nsIn K mainGlobals "check_place"=some (some (.ref b2q)))
 (a69:K.lookup b2q=some ⟨oc_check_place,od_check_place,.func (W.fnOf "check_place" "check_place" (aV tJ) (aS tJ) (aF tJ) .none kV_check_place doc_check_place pm_check_place an_check_place b6Y ct_check_place),sl_check_place⟩)
 (a5t:W.codeIn K b6Y "check_place"=true)(mJ:W.keepIn K (.ref b2q)=true)
 (a9o:W.nsIn K mainGlobals "check_values"=some (some (.ref b1t)))
 (a8u:K.lookup b1t=some ⟨oc_check_values,od_check_values,.func (W.fnOf "check_values" "check_values" (aV yF) (aS yF) (aF yF) .none kV_check_values doc_check_values pm_check_values an_check_values b56 ct_check_values),sl_check_values⟩)
 (a1X:W.codeIn K b56 "check_values"=true)(qG:W.keepIn K (.ref b1t)=true)
 (a9J:W.nsIn K mainGlobals "check_column"=some (some (.ref b2b)))
 (b0p:K.lookup b2b=some ⟨oc_check_column,od_check_column,.func (W.fnOf "check_column" "check_column" (aV tP) (aS tP) (aF tP) .none kV_check_column doc_check_column pm_check_column an_check_column b7m ct_check_column),sl_check_column⟩)
 (a9K:W.codeIn K b7m "check_column"=true)(nH:W.keepIn K (.ref b2b)=true)
 (a9e:W.nsIn K mainGlobals "ring_from"=some (some (.ref b1A)))
 (a63:K.lookup b1A=some ⟨oc_ring_from,od_ring_from,.func (W.fnOf "ring_from" "ring_from" (aV xV) (aS xV) (aF xV) .none kV_ring_from doc_ring_from pm_ring_from an_ring_from c0p ct_ring_from),sl_ring_from⟩)
 (a1b:W.codeIn K c0p "ring_from"=true)(wG:W.keepIn K (.ref b1A)=true)
 (a6k:W.nsIn K mainGlobals "way_to"=some (some (.ref b4c)))
 (a6C:K.lookup b4c=some ⟨oc_way_to,od_way_to,.func (W.fnOf "way_to" "way_to" (aV uJ) (aS uJ) (aF uJ) .none kV_way_to doc_way_to pm_way_to an_way_to b7r ct_way_to),sl_way_to⟩)
 (a3Q:W.codeIn K b7r "way_to"=true)(vV:W.keepIn K (.ref b4c)=true)
 (a2m:W.nsIn K mainGlobals "_law_cell_at"=some (some (.ref b3O)))
 (a49:K.lookup b3O=some ⟨oc_law_cell_at,od_law_cell_at,.func (W.fnOf "_law_cell_at" "_law_cell_at" (aV uN) (aS uN) (aF uN) .none kV_law_cell_at doc_law_cell_at pm_law_cell_at an_law_cell_at b9k ct_law_cell_at),sl_law_cell_at⟩)
 (a0X:W.codeIn K b9k "_law_cell_at"=true)(pD:W.keepIn K (.ref b3O)=true)
 (a9R:W.nsIn K mainGlobals "_law_value"=some (some (.ref b2r)))
 (a9k:K.lookup b2r=some ⟨oc_law_value,od_law_value,.func (W.fnOf "_law_value" "_law_value" (aV uU) (aS uU) (aF uU) .none kV_law_value doc_law_value pm_law_value an_law_value b4U ct_law_value),sl_law_value⟩)
 (a5e:W.codeIn K b4U "_law_value"=true)(wY:W.keepIn K (.ref b2r)=true)
 (a19:W.nsIn K mainGlobals "_law_names"=some (some (.ref b31)))
 (b0c:K.lookup b31=some ⟨oc_law_names,od_law_names,.func (W.fnOf "_law_names" "_law_names" (aV sQ) (aS sQ) (aF sQ) .none kV_law_names doc_law_names pm_law_names an_law_names b43 ct_law_names),sl_law_names⟩)
 (a43:W.codeIn K b43 "_law_names"=true)(vZ:W.keepIn K (.ref b31)=true)
 (a8x:W.nsIn K mainGlobals "_law_same_value"=some (some (.ref b3z)))
 (a3g:K.lookup b3z=some ⟨oc_law_same_value,od_law_same_value,.func (W.fnOf "_law_same_value" "_law_same_value" (aV uP) (aS uP) (aF uP) .none kV_law_same_value doc_law_same_value pm_law_same_value an_law_same_value b6l ct_law_same_value),sl_law_same_value⟩)
 (a7i:W.codeIn K b6l "_law_same_value"=true)(tU:W.keepIn K (.ref b3z)=true)
 (a8X:W.nsIn K mainGlobals "_law_less"=some (some (.ref b1p)))
 (a9b:K.lookup b1p=some ⟨oc_law_less,od_law_less,.func (W.fnOf "_law_less" "_law_less" (aV wJ) (aS wJ) (aF wJ) .none kV_law_less doc_law_less pm_law_less an_law_less b7q ct_law_less),sl_law_less⟩)
 (a4Z:W.codeIn K b7q "_law_less"=true)(vA:W.keepIn K (.ref b1p)=true)
 (a2w:W.nsIn K mainGlobals "_law_columns"=some (some (.ref b2i)))
 (a3y:K.lookup b2i=some ⟨oc_law_columns,od_law_columns,.func (W.fnOf "_law_columns" "_law_columns" (aV uY) (aS uY) (aF uY) .none kV_law_columns doc_law_columns pm_law_columns an_law_columns b7l ct_law_columns),sl_law_columns⟩)
 (a30:W.codeIn K b7l "_law_columns"=true)(rX:W.keepIn K (.ref b2i)=true)
 (b0d:W.nsIn K mainGlobals "_law_checked"=some (some (.ref b3v)))
 (a9A:K.lookup b3v=some ⟨oc_law_checked,od_law_checked,.func (W.fnOf "_law_checked" "_law_checked" (aV uI) (aS uI) (aF uI) .none kV_law_checked doc_law_checked pm_law_checked an_law_checked b9B ct_law_checked),sl_law_checked⟩)
 (a7X:W.codeIn K b9B "_law_checked"=true)(xU:W.keepIn K (.ref b3v)=true)
 (a0f:W.nsIn K mainGlobals "law"=some (some (.ref b3D)))
 (a0a:K.lookup b3D=some ⟨oc_law,od_law,.func (W.fnOf "law" "law" (aV iA) (aS iA) (aF iA) .none kV_law doc_law pm_law an_law (.ref b1a) ct_law),sl_law⟩)
 (zO:W.codeIn K (.ref b1a) "law"=true)(a0n:W.keepIn K (.ref b3D)=true)
 {b3n:Array Value}(a2B:K.lookup b1a=some ⟨wo_law,wd_law,.fields b3n,ws_law⟩)(a98:b3n[11]?=some (.ref b8H))
 (notabs:W.noTabs K=true)
 (a58:W.nsIn K mainGlobals "Rule"=some (some (.ref iF)))
 (a6N:W.plainGet K iF Str.empty=true)(b0a:W.hasDictIn K iF=true)(a6H:W.plainOver K iF=true)(a7k:W.findIn K (.ref iF) "__setattr__"=some (some (.builtin "object.__setattr__")))(a3b:W.makesIn K iF=true)(a8P:W.keepIn K (.ref iF)=true)(a6j:W.findIn K (.ref iF) "__class__"=some (some (.builtin "object.__class__")))
 (a2u:W.findIn K (.ref iF) "function"=some none)
 (a0R:W.findIn K (.ref iF) "__init__"=some (some (.ref a0e)))(a1J:W.isFn K (.ref a0e)=true)
 (a3K:K.lookup a0e=some ⟨oc_Rule_init,od_Rule_init,.func (W.fnOf "__init__" "Rule.__init__" (aV wZ) (aS wZ) (aF wZ) .none kV_Rule_init doc_Rule_init pm_Rule_init an_Rule_init b83 ct_Rule_init),sl_Rule_init⟩)
 (a8k:W.codeIn K b83 "Rule.__init__"=true)(sU:W.keepIn K (.ref a0e)=true)
 (a4w:W.specialIn K (.ref iF) "__getattribute__"=some (some (.builtin "type.__getattribute__")))(a68:W.readsIn K iF (.type "type")=true)(a4P:W.findCls K (.ref iF) (.type "type") "__init__"=some (.val (.ref a0e)))
 (a6M:W.findIn K (.ref iF) "reckon"=some (some (.ref a0v)))(zU:W.isFn K (.ref a0v)=true)
 (a0M:K.lookup a0v=some ⟨oc_Rule_reckon,od_Rule_reckon,.func (W.fnOf "reckon" "Rule.reckon" (aV oX) (aS oX) (aF oX) .none kV_Rule_reckon doc_Rule_reckon pm_Rule_reckon an_Rule_reckon b8n ct_Rule_reckon),sl_Rule_reckon⟩)
 (a0q:W.codeIn K b8n "Rule.reckon"=true)(a0o:W.keepIn K (.ref a0v)=true)
 (a4r:W.nsIn K mainGlobals "Cells"=some (some (.ref gU)))
 (a3u:W.plainGet K gU Str.empty=true)(a74:W.hasDictIn K gU=true)(a8M:W.plainOver K gU=true)(a7u:W.findIn K (.ref gU) "__setattr__"=some (some (.builtin "object.__setattr__")))(a5K:W.makesIn K gU=true)(a9p:W.keepIn K (.ref gU)=true)(a1t:W.findIn K (.ref gU) "__class__"=some (some (.builtin "object.__class__")))
 (a2l:W.findIn K (.ref gU) "function"=some none)
 (a81:W.findIn K (.ref gU) "names"=some none)
 (a1B:W.findIn K (.ref gU) "__init__"=some (some (.ref a5H)))(a9L:W.isFn K (.ref a5H)=true)
 (a4G:K.lookup a5H=some ⟨oc_Cells_init,od_Cells_init,.func (W.fnOf "__init__" "Cells.__init__" (aV uO) (aS uO) (aF uO) .none kV_Cells_init doc_Cells_init pm_Cells_init an_Cells_init b5i ct_Cells_init),sl_Cells_init⟩)
 (a3A:W.codeIn K b5i "Cells.__init__"=true)(wS:W.keepIn K (.ref a5H)=true)
 (a7G:W.findIn K (.ref gU) "leans"=some (some (.ref a1P)))(a35:W.isFn K (.ref a1P)=true)
 (b0y:K.lookup a1P=some ⟨oc_Cells_leans,od_Cells_leans,.func (W.fnOf "leans" "Cells.leans" (aV mS) (aS mS) (aF mS) .none kV_Cells_leans doc_Cells_leans pm_Cells_leans an_Cells_leans b7t ct_Cells_leans),sl_Cells_leans⟩)
 (a8z:W.codeIn K b7t "Cells.leans"=true)(tG:W.keepIn K (.ref a1P)=true)
 (a7H:W.findIn K (.ref gU) "gather"=some (some (.ref b0P)))(a7M:W.isFn K (.ref b0P)=true)
 (a4H:K.lookup b0P=some ⟨oc_Cells_gather,od_Cells_gather,.func (W.fnOf "gather" "Cells.gather" (aV mR) (aS mR) (aF mR) .none kV_Cells_gather doc_Cells_gather pm_Cells_gather an_Cells_gather b8w ct_Cells_gather),sl_Cells_gather⟩)
 (a95:W.codeIn K b8w "Cells.gather"=true)(qY:W.keepIn K (.ref b0P)=true)
 (a20:W.findIn K (.ref gU) "reckon"=some (some (.ref a0v)))
 (a7p:W.kitOne K (.ref gU) (.type "list")=some false)
 (ow4:W.specialIn K (.builtin "object.__class__") "__get__"=some (some (.builtin "getset_descriptor.__get__")))(ow5:W.takesIn K (.builtin "object.__class__")=some true)
 (a5R:W.mroIn K gU (.type "object")=some true)
 (a0Y:W.nsIn K mainGlobals "Table"=some (some (.ref fG)))
 (a7J:W.plainGet K fG Str.empty=true)(a5I:W.hasDictIn K fG=true)(a46:W.plainOver K fG=true)(a9u:W.findIn K (.ref fG) "__setattr__"=some (some (.builtin "object.__setattr__")))(a3W:W.makesIn K fG=true)(a1g:W.keepIn K (.ref fG)=true)(a8N:W.findIn K (.ref fG) "__class__"=some (some (.builtin "object.__class__")))
 (a2Y:W.findIn K (.ref fG) "row_numbers"=some none)
 (a2X:W.findIn K (.ref fG) "fresh_number"=some none)
 (a4z:W.findIn K (.ref fG) "kept"=some none)
 (a3n:W.findIn K (.ref fG) "__init__"=some (some (.ref a4C)))(a8S:W.isFn K (.ref a4C)=true)
 (a2q:K.lookup a4C=some ⟨oc_Table_init,od_Table_init,.func (W.fnOf "__init__" "Table.__init__" (aV yI) (aS yI) (aF yI) .none kV_Table_init doc_Table_init pm_Table_init an_Table_init b9D ct_Table_init),sl_Table_init⟩)
 (a4q:W.codeIn K b9D "Table.__init__"=true)(xD:W.keepIn K (.ref a4C)=true)
 (a7y:W.findIn K (.ref fG) "many"=some (some (.ref a2I)))(b0n:W.isFn K (.ref a2I)=true)
 (a8O:K.lookup a2I=some ⟨oc_Table_many,od_Table_many,.func (W.fnOf "many" "Table.many" (aV wW) (aS wW) (aF wW) .none kV_Table_many doc_Table_many pm_Table_many an_Table_many b7u ct_Table_many),sl_Table_many⟩)
 (a4o:W.codeIn K b7u "Table.many"=true)(jS:W.keepIn K (.ref a2I)=true)
 (a4x:W.findIn K (.ref fG) "numbers"=some (some (.ref a8R)))(a5o:W.isFn K (.ref a8R)=true)
 (b0h:K.lookup a8R=some ⟨oc_Table_numbers,od_Table_numbers,.func (W.fnOf "numbers" "Table.numbers" (aV a0Q) (aS a0Q) (aF a0Q) .none kV_Table_numbers doc_Table_numbers pm_Table_numbers an_Table_numbers b5T ct_Table_numbers),sl_Table_numbers⟩)
 (a4J:W.codeIn K b5T "Table.numbers"=true)(b0M:W.keepIn K (.ref a8R)=true)
 (a3s:W.findIn K (.ref fG) "columns"=some (some (.ref b0V)))(a3J:W.isFn K (.ref b0V)=true)
 (a6p:K.lookup b0V=some ⟨oc_Table_columns,od_Table_columns,.func (W.fnOf "columns" "Table.columns" (aV zG) (aS zG) (aF zG) .none kV_Table_columns doc_Table_columns pm_Table_columns an_Table_columns b44 ct_Table_columns),sl_Table_columns⟩)
 (a4k:W.codeIn K b44 "Table.columns"=true)(a1j:W.keepIn K (.ref b0V)=true)
 (a1f:W.findIn K (.ref fG) "give"=some (some (.ref a9y)))(a5y:W.isFn K (.ref a9y)=true)
 (a4M:K.lookup a9y=some ⟨oc_Table_give,od_Table_give,.func (W.fnOf "give" "Table.give" (aV oP) (aS oP) (aF oP) .none kV_Table_give doc_Table_give pm_Table_give an_Table_give b95 ct_Table_give),sl_Table_give⟩)
 (a4v:W.codeIn K b95 "Table.give"=true)(wA:W.keepIn K (.ref a9y)=true)
 (a1z:W.findIn K (.ref fG) "drop"=some (some (.ref a3L)))(a4D:W.isFn K (.ref a3L)=true)
 (a4V:K.lookup a3L=some ⟨oc_Table_drop,od_Table_drop,.func (W.fnOf "drop" "Table.drop" (aV a0m) (aS a0m) (aF a0m) .none kV_Table_drop doc_Table_drop pm_Table_drop an_Table_drop b6c ct_Table_drop),sl_Table_drop⟩)
 (a5V:W.codeIn K b6c "Table.drop"=true)(a2V:W.keepIn K (.ref a3L)=true)
 (b0R:W.findIn K (.ref fG) "at"=some (some (.ref a67)))(a2E:W.isFn K (.ref a67)=true)
 (a59:K.lookup a67=some ⟨oc_Table_at,od_Table_at,.func (W.fnOf "at" "Table.at" (aV xL) (aS xL) (aF xL) .none kV_Table_at doc_Table_at pm_Table_at an_Table_at b8h ct_Table_at),sl_Table_at⟩)
 (b0t:W.codeIn K b8h "Table.at"=true)(yJ:W.keepIn K (.ref a67)=true)
 (a2b:W.findIn K (.ref fG) "number_at"=some (some (.ref b00)))(a4I:W.isFn K (.ref b00)=true)
 (a7m:K.lookup b00=some ⟨oc_Table_number_at,od_Table_number_at,.func (W.fnOf "number_at" "Table.number_at" (aV uQ) (aS uQ) (aF uQ) .none kV_Table_number_at doc_Table_number_at pm_Table_number_at an_Table_number_at c0c ct_Table_number_at),sl_Table_number_at⟩)
 (a91:W.codeIn K c0c "Table.number_at"=true)(uW:W.keepIn K (.ref b00)=true)
 (a2K:W.findIn K (.ref fG) "check_column"=some (some (.ref a15)))(a47:W.isFn K (.ref a15)=true)
 (a2J:K.lookup a15=some ⟨oc_Table_check_column,od_Table_check_column,.func (W.fnOf "check_column" "Table.check_column" (aV uT) (aS uT) (aF uT) .none kV_Table_check_column doc_Table_check_column pm_Table_check_column an_Table_check_column b9W ct_Table_check_column),sl_Table_check_column⟩)
 (a94:W.codeIn K b9W "Table.check_column"=true)(wL:W.keepIn K (.ref a15)=true)
 (a9v:W.nsIn K mainGlobals "Spot"=some (some (.ref iH)))
 (a3p:W.plainGet K iH Str.empty=true)(a3E:W.hasDictIn K iH=true)(a6g:W.plainOver K iH=true)(b0X:W.findIn K (.ref iH) "__setattr__"=some (some (.builtin "object.__setattr__")))(a7j:W.makesIn K iH=true)(a2H:W.keepIn K (.ref iH)=true)(a7v:W.findIn K (.ref iH) "__class__"=some (some (.builtin "object.__class__")))
 (a2r:W.findIn K (.ref iH) "sheet"=some none)
 (a3o:W.findIn K (.ref iH) "name"=some none)
 (a9Y:W.findIn K (.ref iH) "column"=some none)
 (a1F:W.findIn K (.ref iH) "place"=some none)
 (a2C:W.findIn K (.ref iH) "__init__"=some (some (.ref a2T)))(a7d:W.isFn K (.ref a2T)=true)
 (a99:K.lookup a2T=some ⟨oc_Spot_init,od_Spot_init,.func (W.fnOf "__init__" "Spot.__init__" (aV tD) (aS tD) (aF tD) .none kV_Spot_init doc_Spot_init pm_Spot_init an_Spot_init b5D ct_Spot_init),sl_Spot_init⟩)
 (a4s:W.codeIn K b5D "Spot.__init__"=true)(tL:W.keepIn K (.ref a2T)=true)
 (a9D:W.findIn K (.ref iH) "told"=some (some (.ref a93)))(a4c:W.isFn K (.ref a93)=true)
 (a3x:K.lookup a93=some ⟨oc_Spot_told,od_Spot_told,.func (W.fnOf "told" "Spot.told" (aV xP) (aS xP) (aF xP) .none kV_Spot_told doc_Spot_told pm_Spot_told an_Spot_told b60 ct_Spot_told),sl_Spot_told⟩)
 (a18:W.codeIn K b60 "Spot.told"=true)(xY:W.keepIn K (.ref a93)=true)
 (a6o:W.nsIn K mainGlobals "View"=some (some (.ref fZ)))
 (a1c:W.plainGet K fZ Str.empty=true)(a7g:W.hasDictIn K fZ=true)(a6z:W.plainOver K fZ=true)(a4i:W.findIn K (.ref fZ) "__setattr__"=some (some (.builtin "object.__setattr__")))(a1m:W.makesIn K fZ=true)(a5u:W.keepIn K (.ref fZ)=true)(b0B:W.findIn K (.ref fZ) "__class__"=some (some (.builtin "object.__class__")))
 (b0I:W.findIn K (.ref fZ) "columns"=some (some (.ref a0F)))(a0c:W.isFn K (.ref a0F)=true)
 (a0r:K.lookup a0F=some ⟨oc_View_columns,od_View_columns,.func (W.fnOf "columns" "View.columns" (aV qT) (aS qT) (aF qT) .none kV_View_columns doc_View_columns pm_View_columns an_View_columns b6p ct_View_columns),sl_View_columns⟩)
 (zA:W.codeIn K b6p "View.columns"=true)(a0H:W.keepIn K (.ref a0F)=true)
 (a9V:W.findIn K (.ref fZ) "rows"=some (some (.ref a1d)))(a96:W.isFn K (.ref a1d)=true)
 (a6T:K.lookup a1d=some ⟨oc_View_rows,od_View_rows,.func (W.fnOf "rows" "View.rows" (aV a0D) (aS a0D) (aF a0D) .none kV_View_rows doc_View_rows pm_View_rows an_View_rows b4o ct_View_rows),sl_View_rows⟩)
 (a73:W.codeIn K b4o "View.rows"=true)(a06:W.keepIn K (.ref a1d)=true)
 (a6l:W.findIn K (.ref fZ) "value_at"=some (some (.ref a0i)))(a0t:W.isFn K (.ref a0i)=true)
 (zR:K.lookup a0i=some ⟨oc_View_value_at,od_View_value_at,.func (W.fnOf "value_at" "View.value_at" (aV qC) (aS qC) (aF qC) .none kV_View_value_at doc_View_value_at pm_View_value_at an_View_value_at b8T ct_View_value_at),sl_View_value_at⟩)
 (a0A:W.codeIn K b8T "View.value_at"=true)(zX:W.keepIn K (.ref a0i)=true)
 (a3r:W.findIn K (.ref fZ) "spots_at"=some (some (.ref zQ)))(a0p:W.isFn K (.ref zQ)=true)
 (zD:K.lookup zQ=some ⟨oc_View_spots_at,od_View_spots_at,.func (W.fnOf "spots_at" "View.spots_at" (aV rR) (aS rR) (aF rR) .none kV_View_spots_at doc_View_spots_at pm_View_spots_at an_View_spots_at b8O ct_View_spots_at),sl_View_spots_at⟩)
 (a0y:W.codeIn K b8O "View.spots_at"=true)(yX:W.keepIn K (.ref zQ)=true)
 (a65:W.findIn K (.ref fZ) "many"=some (some (.ref vW)))(sZ:W.isFn K (.ref vW)=true)
 (yP:K.lookup vW=some ⟨oc_View_many,od_View_many,.func (W.fnOf "many" "View.many" (aV mZ) (aS mZ) (aF mZ) .none kV_View_many doc_View_many pm_View_many an_View_many b94 ct_View_many),sl_View_many⟩)
 (yV:W.codeIn K b94 "View.many"=true)(nU:W.keepIn K (.ref vW)=true)
 (a23:W.findIn K (.ref fZ) "look"=some (some (.ref vE)))(uR:W.isFn K (.ref vE)=true)
 (tI:K.lookup vE=some ⟨oc_View_look,od_View_look,.func (W.fnOf "look" "View.look" (aV mX) (aS mX) (aF mX) .none kV_View_look doc_View_look pm_View_look an_View_look b7C ct_View_look),sl_View_look⟩)
 (wU:W.codeIn K b7C "View.look"=true)(nS:W.keepIn K (.ref vE)=true)
 (a5M:W.findIn K (.ref fZ) "shown"=some (some (.ref xE)))(vL:W.isFn K (.ref xE)=true)
 (yC:K.lookup xE=some ⟨oc_View_shown,od_View_shown,.func (W.fnOf "shown" "View.shown" (aV jZ) (aS jZ) (aF jZ) .none kV_View_shown doc_View_shown pm_View_shown an_View_shown c0t ct_View_shown),sl_View_shown⟩)
 (vG:W.codeIn K c0t "View.shown"=true)(oG:W.keepIn K (.ref xE)=true)
 (a01:W.findIn K (.ref fZ) "spots"=some (some (.ref tK)))(uV:W.isFn K (.ref tK)=true)
 (uM:K.lookup tK=some ⟨oc_View_spots,od_View_spots,.func (W.fnOf "spots" "View.spots" (aV mI) (aS mI) (aF mI) .none kV_View_spots doc_View_spots pm_View_spots an_View_spots b4w ct_View_spots),sl_View_spots⟩)
 (sR:W.codeIn K b4w "View.spots"=true)(oE:W.keepIn K (.ref tK)=true)
 (a03:W.findIn K (.ref fZ) "asked_row"=some (some (.ref sT)))(vN:W.isFn K (.ref sT)=true)
 (yG:K.lookup sT=some ⟨oc_View_asked_row,od_View_asked_row,.func (W.fnOf "asked_row" "View.asked_row" (aV mO) (aS mO) (aF mO) .none kV_View_asked_row doc_View_asked_row pm_View_asked_row an_View_asked_row b4r ct_View_asked_row),sl_View_asked_row⟩)
 (wC:W.codeIn K b4r "View.asked_row"=true)(uX:W.keepIn K (.ref sT)=true)
 (a04:W.nsIn K mainGlobals "Whole"=some (some (.ref fF)))
 (a7Z:W.plainGet K fF Str.empty=true)(b0j:W.hasDictIn K fF=true)(a3l:W.plainOver K fF=true)(a85:W.findIn K (.ref fF) "__setattr__"=some (some (.builtin "object.__setattr__")))(a8l:W.makesIn K fF=true)(a3f:W.keepIn K (.ref fF)=true)(a07:W.findIn K (.ref fF) "__class__"=some (some (.builtin "object.__class__")))
 (a11:W.findIn K (.ref fF) "sheet"=some none)
 (a4p:W.findIn K (.ref fF) "name"=some none)
 (a5P:W.findIn K (.ref fF) "__init__"=some (some (.ref a6E)))(a5Z:W.isFn K (.ref a6E)=true)
 (a0Z:K.lookup a6E=some ⟨oc_Whole_init,od_Whole_init,.func (W.fnOf "__init__" "Whole.__init__" (aV yE) (aS yE) (aF yE) .none kV_Whole_init doc_Whole_init pm_Whole_init an_Whole_init b9e ct_Whole_init),sl_Whole_init⟩)
 (a60:W.codeIn K b9e "Whole.__init__"=true)(a0l:W.keepIn K (.ref a6E)=true)
 (a3M:W.findIn K (.ref fF) "columns"=some (some (.ref a8D)))(b03:W.isFn K (.ref a8D)=true)
 (b0F:K.lookup a8D=some ⟨oc_Whole_columns,od_Whole_columns,.func (W.fnOf "columns" "Whole.columns" (aV vD) (aS vD) (aF vD) .none kV_Whole_columns doc_Whole_columns pm_Whole_columns an_Whole_columns b9v ct_Whole_columns),sl_Whole_columns⟩)
 (a9d:W.codeIn K b9v "Whole.columns"=true)(pV:W.keepIn K (.ref a8D)=true)
 (a6q:W.findIn K (.ref fF) "rows"=some (some (.ref a6O)))(a9q:W.isFn K (.ref a6O)=true)
 (a4e:K.lookup a6O=some ⟨oc_Whole_rows,od_Whole_rows,.func (W.fnOf "rows" "Whole.rows" (aV xM) (aS xM) (aF xM) .none kV_Whole_rows doc_Whole_rows pm_Whole_rows an_Whole_rows b9H ct_Whole_rows),sl_Whole_rows⟩)
 (a6f:W.codeIn K b9H "Whole.rows"=true)(rK:W.keepIn K (.ref a6O)=true)
 (a8Z:W.findIn K (.ref fF) "value_at"=some (some (.ref b0L)))(a5X:W.isFn K (.ref b0L)=true)
 (a8K:K.lookup b0L=some ⟨oc_Whole_value_at,od_Whole_value_at,.func (W.fnOf "value_at" "Whole.value_at" (aV sM) (aS sM) (aF sM) .none kV_Whole_value_at doc_Whole_value_at pm_Whole_value_at an_Whole_value_at b9w ct_Whole_value_at),sl_Whole_value_at⟩)
 (a75:W.codeIn K b9w "Whole.value_at"=true)(pU:W.keepIn K (.ref b0L)=true)
 (a9C:W.findIn K (.ref fF) "spots_at"=some (some (.ref a7Q)))(a7o:W.isFn K (.ref a7Q)=true)
 (a5E:K.lookup a7Q=some ⟨oc_Whole_spots_at,od_Whole_spots_at,.func (W.fnOf "spots_at" "Whole.spots_at" (aV vX) (aS vX) (aF vX) .none kV_Whole_spots_at doc_Whole_spots_at pm_Whole_spots_at an_Whole_spots_at b8C ct_Whole_spots_at),sl_Whole_spots_at⟩)
 (a6I:W.codeIn K b8C "Whole.spots_at"=true)(rA:W.keepIn K (.ref a7Q)=true)
 (a1S:W.findIn K (.ref fF) "many"=some (some (.ref vW)))
 (a1K:W.findIn K (.ref fF) "look"=some (some (.ref vE)))
 (a3N:W.findIn K (.ref fF) "shown"=some (some (.ref xE)))
 (a5c:W.findIn K (.ref fF) "spots"=some (some (.ref tK)))
 (a6X:W.findIn K (.ref fF) "asked_row"=some (some (.ref sT)))
 (a6Z:W.nsIn K mainGlobals "Some"=some (some (.ref eV)))
 (b0z:W.plainGet K eV Str.empty=true)(a9z:W.hasDictIn K eV=true)(a9w:W.plainOver K eV=true)(a2n:W.findIn K (.ref eV) "__setattr__"=some (some (.builtin "object.__setattr__")))(a3P:W.makesIn K eV=true)(a8T:W.keepIn K (.ref eV)=true)(a4A:W.findIn K (.ref eV) "__class__"=some (some (.builtin "object.__class__")))
 (a7n:W.findIn K (.ref eV) "view"=some none)
 (a0V:W.findIn K (.ref eV) "column"=some none)
 (a5F:W.findIn K (.ref eV) "__init__"=some (some (.ref a9W)))(a3V:W.isFn K (.ref a9W)=true)
 (a8w:K.lookup a9W=some ⟨oc_Some_init,od_Some_init,.func (W.fnOf "__init__" "Some.__init__" (aV sF) (aS sF) (aF sF) .none kV_Some_init doc_Some_init pm_Some_init an_Some_init c0k ct_Some_init),sl_Some_init⟩)
 (a5l:W.codeIn K c0k "Some.__init__"=true)(a0C:W.keepIn K (.ref a9W)=true)
 (a48:W.findIn K (.ref eV) "rows"=some (some (.ref a29)))(a1V:W.isFn K (.ref a29)=true)
 (a8L:K.lookup a29=some ⟨oc_Some_rows,od_Some_rows,.func (W.fnOf "rows" "Some.rows" (aV mQ) (aS mQ) (aF mQ) .none kV_Some_rows doc_Some_rows pm_Some_rows an_Some_rows c0r ct_Some_rows),sl_Some_rows⟩)
 (a4g:W.codeIn K c0r "Some.rows"=true)(wI:W.keepIn K (.ref a29)=true)
 (a9l:W.findIn K (.ref eV) "has_row"=some (some (.ref a6b)))(b0x:W.isFn K (.ref a6b)=true)
 (a6Y:K.lookup a6b=some ⟨oc_Some_has_row,od_Some_has_row,.func (W.fnOf "has_row" "Some.has_row" (aV yB) (aS yB) (aF yB) .none kV_Some_has_row doc_Some_has_row pm_Some_has_row an_Some_has_row b7F ct_Some_has_row),sl_Some_has_row⟩)
 (a38:W.codeIn K b7F "Some.has_row"=true)(yS:W.keepIn K (.ref a6b)=true)
 (a7V:W.findIn K (.ref eV) "columns"=some (some (.ref a0F)))
 (a3C:W.findIn K (.ref eV) "value_at"=some (some (.ref a0i)))
 (a7x:W.findIn K (.ref eV) "spots_at"=some (some (.ref zQ)))
 (a57:W.findIn K (.ref eV) "many"=some (some (.ref vW)))
 (a4d:W.findIn K (.ref eV) "look"=some (some (.ref vE)))
 (a8p:W.findIn K (.ref eV) "shown"=some (some (.ref xE)))
 (a78:W.findIn K (.ref eV) "spots"=some (some (.ref tK)))
 (a83:W.findIn K (.ref eV) "asked_row"=some (some (.ref sT)))
 (a9T:W.nsIn K mainGlobals "Board"=some (some (.ref fW)))
 (a56:W.plainGet K fW Str.empty=true)(a3S:W.hasDictIn K fW=true)(a4l:W.plainOver K fW=true)(a7K:W.findIn K (.ref fW) "__setattr__"=some (some (.builtin "object.__setattr__")))(a4Y:W.makesIn K fW=true)(a8f:W.keepIn K (.ref fW)=true)(b0G:W.findIn K (.ref fW) "__class__"=some (some (.builtin "object.__class__")))
 (b0U:W.findIn K (.ref fW) "given"=some none)
 (a8B:W.findIn K (.ref fW) "rules"=some none)
 (a5f:W.findIn K (.ref fW) "memory"=some none)
 (a5D:W.findIn K (.ref fW) "order"=some none)
 (a3j:W.findIn K (.ref fW) "__init__"=some (some (.ref a8q)))(a5B:W.isFn K (.ref a8q)=true)
 (a5s:K.lookup a8q=some ⟨oc_Board_init,od_Board_init,.func (W.fnOf "__init__" "Board.__init__" (aV wE) (aS wE) (aF wE) .none kV_Board_init doc_Board_init pm_Board_init an_Board_init b7Y ct_Board_init),sl_Board_init⟩)
 (a7P:W.codeIn K b7Y "Board.__init__"=true)(vT:W.keepIn K (.ref a8q)=true)
 (a6h:W.findIn K (.ref fW) "has_column"=some (some (.ref a1n)))(a16:W.isFn K (.ref a1n)=true)
 (a9H:K.lookup a1n=some ⟨oc_Board_has_column,od_Board_has_column,.func (W.fnOf "has_column" "Board.has_column" (aV sC) (aS sC) (aF sC) .none kV_Board_has_column doc_Board_has_column pm_Board_has_column an_Board_has_column b9E ct_Board_has_column),sl_Board_has_column⟩)
 (a9m:W.codeIn K b9E "Board.has_column"=true)(pR:W.keepIn K (.ref a1n)=true)
 (a2d:W.findIn K (.ref fW) "content"=some (some (.ref a54)))(a8j:W.isFn K (.ref a54)=true)
 (a1N:K.lookup a54=some ⟨oc_Board_content,od_Board_content,.func (W.fnOf "content" "Board.content" (aV tF) (aS tF) (aF tF) .none kV_Board_content doc_Board_content pm_Board_content an_Board_content b5r ct_Board_content),sl_Board_content⟩)
 (a2N:W.codeIn K b5r "Board.content"=true)(tH:W.keepIn K (.ref a54)=true)
 (a4u:W.findIn K (.ref fW) "set_column"=some (some (.ref a2c)))(a5J:W.isFn K (.ref a2c)=true)
 (b0o:K.lookup a2c=some ⟨oc_Board_set_column,od_Board_set_column,.func (W.fnOf "set_column" "Board.set_column" (aV uS) (aS uS) (aF uS) .none kV_Board_set_column doc_Board_set_column pm_Board_set_column an_Board_set_column c0s ct_Board_set_column),sl_Board_set_column⟩)
 (a97:W.codeIn K c0s "Board.set_column"=true)(a8E:W.keepIn K (.ref a2c)=true)
 (b04:W.findIn K (.ref fW) "empty_column"=some (some (.ref a3G)))(a9x:W.isFn K (.ref a3G)=true)
 (a1l:K.lookup a3G=some ⟨oc_Board_empty_column,od_Board_empty_column,.func (W.fnOf "empty_column" "Board.empty_column" (aV wH) (aS wH) (aF wH) .none kV_Board_empty_column doc_Board_empty_column pm_Board_empty_column an_Board_empty_column c0m ct_Board_empty_column),sl_Board_empty_column⟩)
 (a5a:W.codeIn K c0m "Board.empty_column"=true)(qN:W.keepIn K (.ref a3G)=true)
 (a26:W.findIn K (.ref fW) "outcome"=some (some (.ref a6U)))(a2O:W.isFn K (.ref a6U)=true)
 (a13:K.lookup a6U=some ⟨oc_Board_outcome,od_Board_outcome,.func (W.fnOf "outcome" "Board.outcome" (aV oM) (aS oM) (aF oM) .none kV_Board_outcome doc_Board_outcome pm_Board_outcome an_Board_outcome b72 ct_Board_outcome),sl_Board_outcome⟩)
 (a8G:W.codeIn K b72 "Board.outcome"=true)(xR:W.keepIn K (.ref a6U)=true)
 (a1U:W.nsIn K mainGlobals "TableTold"=some (some (.ref iW)))
 (a8Q:W.plainGet K iW Str.empty=true)(a9G:W.hasDictIn K iW=true)(a7c:W.plainOver K iW=true)(b0b:W.findIn K (.ref iW) "__setattr__"=some (some (.builtin "object.__setattr__")))(b0Q:W.makesIn K iW=true)(a3F:W.keepIn K (.ref iW)=true)(a6V:W.findIn K (.ref iW) "__class__"=some (some (.builtin "object.__class__")))
 (a4Q:W.findIn K (.ref iW) "boards"=some none)
 (a7A:W.findIn K (.ref iW) "name"=some none)
 (a1D:W.findIn K (.ref iW) "size"=some none)
 (a7E:W.findIn K (.ref iW) "__init__"=some (some (.ref a1L)))(a33:W.isFn K (.ref a1L)=true)
 (a5r:K.lookup a1L=some ⟨oc_TableTold_init,od_TableTold_init,.func (W.fnOf "__init__" "TableTold.__init__" (aV xC) (aS xC) (aF xC) .none kV_TableTold_init doc_TableTold_init pm_TableTold_init an_TableTold_init b5f ct_TableTold_init),sl_TableTold_init⟩)
 (a82:W.codeIn K b5f "TableTold.__init__"=true)(xK:W.keepIn K (.ref a1L)=true)
 (a7e:W.findIn K (.ref iW) "take"=some (some (.ref a8J)))(a4U:W.isFn K (.ref a8J)=true)
 (a5C:K.lookup a8J=some ⟨oc_TableTold_take,od_TableTold_take,.func (W.fnOf "take" "TableTold.take" (aV xI) (aS xI) (aF xI) .none kV_TableTold_take doc_TableTold_take pm_TableTold_take an_TableTold_take b5Q ct_TableTold_take),sl_TableTold_take⟩)
 (a4b:W.codeIn K b5Q "TableTold.take"=true)(tZ:W.keepIn K (.ref a8J)=true)
 (a4O:W.nsIn K mainGlobals "ColumnSet"=some (some (.ref iM)))
 (b0m:W.plainGet K iM Str.empty=true)(a8H:W.hasDictIn K iM=true)(a8U:W.plainOver K iM=true)(a2A:W.findIn K (.ref iM) "__setattr__"=some (some (.builtin "object.__setattr__")))(a12:W.makesIn K iM=true)(a3Z:W.keepIn K (.ref iM)=true)(a40:W.findIn K (.ref iM) "__class__"=some (some (.builtin "object.__class__")))
 (a5m:W.findIn K (.ref iM) "board"=some none)
 (a4B:W.findIn K (.ref iM) "column"=some none)
 (a71:W.findIn K (.ref iM) "after"=some none)
 (a9t:W.findIn K (.ref iM) "before"=some none)
 (b0N:W.findIn K (.ref iM) "__init__"=some (some (.ref a9F)))(a8b:W.isFn K (.ref a9F)=true)
 (a4f:K.lookup a9F=some ⟨oc_ColumnSet_init,od_ColumnSet_init,.func (W.fnOf "__init__" "ColumnSet.__init__" (aV rV) (aS rV) (aF rV) .none kV_ColumnSet_init doc_ColumnSet_init pm_ColumnSet_init an_ColumnSet_init b76 ct_ColumnSet_init),sl_ColumnSet_init⟩)
 (a1e:W.codeIn K b76 "ColumnSet.__init__"=true)(rJ:W.keepIn K (.ref a9F)=true)
 (a5q:W.findIn K (.ref iM) "take"=some (some (.ref a1T)))(a5U:W.isFn K (.ref a1T)=true)
 (a9S:K.lookup a1T=some ⟨oc_ColumnSet_take,od_ColumnSet_take,.func (W.fnOf "take" "ColumnSet.take" (aV sJ) (aS sJ) (aF sJ) .none kV_ColumnSet_take doc_ColumnSet_take pm_ColumnSet_take an_ColumnSet_take b7o ct_ColumnSet_take),sl_ColumnSet_take⟩)
 (a6G:W.codeIn K b7o "ColumnSet.take"=true)(qH:W.keepIn K (.ref a1T)=true)
 (a1Y:W.nsIn K mainGlobals "Trial"=some (some (.ref iT)))
 (a7r:W.plainGet K iT Str.empty=true)(a44:W.hasDictIn K iT=true)(a3Y:W.plainOver K iT=true)(a66:W.findIn K (.ref iT) "__setattr__"=some (some (.builtin "object.__setattr__")))(a5Q:W.makesIn K iT=true)(a5z:W.keepIn K (.ref iT)=true)(a3q:W.findIn K (.ref iT) "__class__"=some (some (.builtin "object.__class__")))
 (a6F:W.findIn K (.ref iT) "finder"=some none)
 (a8c:W.findIn K (.ref iT) "looked"=some none)
 (a00:W.findIn K (.ref iT) "lacking"=some none)
 (a4L:W.findIn K (.ref iT) "__init__"=some (some (.ref a77)))(a9h:W.isFn K (.ref a77)=true)
 (a5w:K.lookup a77=some ⟨oc_Trial_init,od_Trial_init,.func (W.fnOf "__init__" "Trial.__init__" (aV yK) (aS yK) (aF yK) .none kV_Trial_init doc_Trial_init pm_Trial_init an_Trial_init b7U ct_Trial_init),sl_Trial_init⟩)
 (a1W:W.codeIn K b7U "Trial.__init__"=true)(sW:W.keepIn K (.ref a77)=true)
 (a5g:W.findIn K (.ref iT) "look"=some (some (.ref a8a)))(a1x:W.isFn K (.ref a8a)=true)
 (a88:K.lookup a8a=some ⟨oc_Trial_look,od_Trial_look,.func (W.fnOf "look" "Trial.look" (aV xB) (aS xB) (aF xB) .none kV_Trial_look doc_Trial_look pm_Trial_look an_Trial_look b77 ct_Trial_look),sl_Trial_look⟩)
 (b0O:W.codeIn K b77 "Trial.look"=true)(a2o:W.keepIn K (.ref a8a)=true)
 (a0G:W.nsIn K mainGlobals "Finder"=some (some (.ref gD)))
 (a9I:W.plainGet K gD Str.empty=true)(b0C:W.hasDictIn K gD=true)(a2D:W.plainOver K gD=true)(a5N:W.findIn K (.ref gD) "__setattr__"=some (some (.builtin "object.__setattr__")))(b0r:W.makesIn K gD=true)(a32:W.keepIn K (.ref gD)=true)(a76:W.findIn K (.ref gD) "__class__"=some (some (.builtin "object.__class__")))
 (a7O:W.findIn K (.ref gD) "boards"=some none)
 (a8C:W.findIn K (.ref gD) "found"=some none)
 (a3i:W.findIn K (.ref gD) "looked"=some none)
 (a7B:W.findIn K (.ref gD) "__init__"=some (some (.ref a1k)))(a7w:W.isFn K (.ref a1k)=true)
 (a6W:K.lookup a1k=some ⟨oc_Finder_init,od_Finder_init,.func (W.fnOf "__init__" "Finder.__init__" (aV uZ) (aS uZ) (aF uZ) .none kV_Finder_init doc_Finder_init pm_Finder_init an_Finder_init b5K ct_Finder_init),sl_Finder_init⟩)
 (a22:W.codeIn K b5K "Finder.__init__"=true)(qW:W.keepIn K (.ref a1k)=true)
 (a64:W.findIn K (.ref gD) "value_of"=some (some (.ref a3R)))(a9i:W.isFn K (.ref a3R)=true)
 (a2p:K.lookup a3R=some ⟨oc_Finder_value_of,od_Finder_value_of,.func (W.fnOf "value_of" "Finder.value_of" (aV wT) (aS wT) (aF wT) .none kV_Finder_value_of doc_Finder_value_of pm_Finder_value_of an_Finder_value_of b82 ct_Finder_value_of),sl_Finder_value_of⟩)
 (b0f:W.codeIn K b82 "Finder.value_of"=true)(a6e:W.keepIn K (.ref a3R)=true)
 (a28:W.findIn K (.ref gD) "attempt"=some (some (.ref a24)))(a9B:W.isFn K (.ref a24)=true)
 (a3m:K.lookup a24=some ⟨oc_Finder_attempt,od_Finder_attempt,.func (W.fnOf "attempt" "Finder.attempt" (aV lK) (aS lK) (aF lK) .none kV_Finder_attempt doc_Finder_attempt pm_Finder_attempt an_Finder_attempt b9g ct_Finder_attempt),sl_Finder_attempt⟩)
 (a4X:W.codeIn K b9g "Finder.attempt"=true)(b0H:W.keepIn K (.ref a24)=true)
 (a0P:W.findIn K (.ref gD) "gathered"=some (some (.ref a5i)))(a0w:W.isFn K (.ref a5i)=true)
 (a0E:K.lookup a5i=some ⟨oc_Finder_gathered,od_Finder_gathered,.func (W.fnOf "gathered" "Finder.gathered" (aV eY) (aS eY) (aF eY) .none kV_Finder_gathered doc_Finder_gathered pm_Finder_gathered an_Finder_gathered (.ref a4W) ct_Finder_gathered),sl_Finder_gathered⟩)
 (a0L:W.codeIn K (.ref a4W) "Finder.gathered"=true)(a0k:W.keepIn K (.ref a5i)=true)
 {b1u:Array Value}(b1D:K.lookup a4W=some ⟨wo_Finder_gathered,wd_Finder_gathered,.fields b1u,ws_Finder_gathered⟩)(b1n:b1u[11]?=some (.ref a2j))(a1h:W.codeHdIn K a4W a2j=true)(tX:h.get? a2j=some (W.tabObj #[]))
 (a9g:W.findIn K (.ref gD) "settle"=some (some (.ref a9f)))(a7N:W.isFn K (.ref a9f)=true)
 (a8r:K.lookup a9f=some ⟨oc_Finder_settle,od_Finder_settle,.func (W.fnOf "settle" "Finder.settle" (aV yA) (aS yA) (aF yA) .none kV_Finder_settle doc_Finder_settle pm_Finder_settle an_Finder_settle b9V ct_Finder_settle),sl_Finder_settle⟩)
 (a51:W.codeIn K b9V "Finder.settle"=true)(a55:W.keepIn K (.ref a9f)=true)
 (a53:W.findIn K (.ref gD) "knows"=some (some (.ref a52)))(a3D:W.isFn K (.ref a52)=true)
 (a8d:K.lookup a52=some ⟨oc_Finder_knows,od_Finder_knows,.func (W.fnOf "knows" "Finder.knows" (aV yO) (aS yO) (aF yO) .none kV_Finder_knows doc_Finder_knows pm_Finder_knows an_Finder_knows b7Z ct_Finder_knows),sl_Finder_knows⟩)
 (a5S:W.codeIn K b7Z "Finder.knows"=true)(a2F:W.keepIn K (.ref a52)=true)
 (a2s:W.nsIn K mainGlobals "Sheet"=some (some (.ref dW)))
 (a2Z:W.plainGet K dW Str.empty=true)(b0e:W.hasDictIn K dW=true)(a7C:W.plainOver K dW=true)(b05:W.findIn K (.ref dW) "__setattr__"=some (some (.builtin "object.__setattr__")))(a05:W.makesIn K dW=true)(a2W:W.keepIn K (.ref dW)=true)(a7q:W.findIn K (.ref dW) "__class__"=some (some (.builtin "object.__class__")))
 (a7Y:W.findIn K (.ref dW) "boards"=some none)
 (a2h:W.findIn K (.ref dW) "changes"=some none)
 (a1w:W.findIn K (.ref dW) "finder"=some none)
 (a7b:W.findIn K (.ref dW) "__init__"=some (some (.ref a1o)))(b0A:W.isFn K (.ref a1o)=true)
 (a8I:K.lookup a1o=some ⟨oc_Sheet_init,od_Sheet_init,.func (W.fnOf "__init__" "Sheet.__init__" (aV vI) (aS vI) (aF vI) .none kV_Sheet_init doc_Sheet_init pm_Sheet_init an_Sheet_init b5A ct_Sheet_init),sl_Sheet_init⟩)
 (a8h:W.codeIn K b5A "Sheet.__init__"=true)(vH:W.keepIn K (.ref a1o)=true)
 (a4E:W.findIn K (.ref dW) "table"=some (some (.ref a9Q)))(a2k:W.isFn K (.ref a9Q)=true)
 (a79:K.lookup a9Q=some ⟨oc_Sheet_table,od_Sheet_table,.func (W.fnOf "table" "Sheet.table" (aV sN) (aS sN) (aF sN) .none kV_Sheet_table doc_Sheet_table pm_Sheet_table an_Sheet_table b5Z ct_Sheet_table),sl_Sheet_table⟩)
 (a3t:W.codeIn K b5Z "Sheet.table"=true)(xQ:W.keepIn K (.ref a9Q)=true)
 (b0K:W.findIn K (.ref dW) "give"=some (some (.ref a8Y)))(a2e:W.isFn K (.ref a8Y)=true)
 (a5x:K.lookup a8Y=some ⟨oc_Sheet_give,od_Sheet_give,.func (W.fnOf "give" "Sheet.give" (aV wF) (aS wF) (aF wF) .none kV_Sheet_give doc_Sheet_give pm_Sheet_give an_Sheet_give c0b ct_Sheet_give),sl_Sheet_give⟩)
 (a17:W.codeIn K c0b "Sheet.give"=true)(sX:W.keepIn K (.ref a8Y)=true)
 (a8A:W.findIn K (.ref dW) "rule"=some (some (.ref a7U)))(a1H:W.isFn K (.ref a7U)=true)
 (a8e:K.lookup a7U=some ⟨oc_Sheet_rule,od_Sheet_rule,.func (W.fnOf "rule" "Sheet.rule" (aV yD) (aS yD) (aF yD) .none kV_Sheet_rule doc_Sheet_rule pm_Sheet_rule an_Sheet_rule b9p ct_Sheet_rule),sl_Sheet_rule⟩)
 (a6P:W.codeIn K b9p "Sheet.rule"=true)(a21:W.keepIn K (.ref a7U)=true)
 (a2x:W.findIn K (.ref dW) "tables"=some (some (.ref b0q)))(a61:W.isFn K (.ref b0q)=true)
 (a2g:K.lookup b0q=some ⟨oc_Sheet_tables,od_Sheet_tables,.func (W.fnOf "tables" "Sheet.tables" (aV a0O) (aS a0O) (aF a0O) .none kV_Sheet_tables doc_Sheet_tables pm_Sheet_tables an_Sheet_tables b4Y ct_Sheet_tables),sl_Sheet_tables⟩)
 (a1y:W.codeIn K b4Y "Sheet.tables"=true)(a1a:W.keepIn K (.ref b0q)=true)
 (a8t:W.findIn K (.ref dW) "columns"=some (some (.ref a25)))(b0W:W.isFn K (.ref a25)=true)
 (a4S:K.lookup a25=some ⟨oc_Sheet_columns,od_Sheet_columns,.func (W.fnOf "columns" "Sheet.columns" (aV vR) (aS vR) (aF vR) .none kV_Sheet_columns doc_Sheet_columns pm_Sheet_columns an_Sheet_columns b6r ct_Sheet_columns),sl_Sheet_columns⟩)
 (a1C:W.codeIn K b6r "Sheet.columns"=true)(xF:W.keepIn K (.ref a25)=true)
 (a6i:W.findIn K (.ref dW) "many"=some (some (.ref a6n)))(a84:W.isFn K (.ref a6n)=true)
 (a5L:K.lookup a6n=some ⟨oc_Sheet_many,od_Sheet_many,.func (W.fnOf "many" "Sheet.many" (aV tQ) (aS tQ) (aF tQ) .none kV_Sheet_many doc_Sheet_many pm_Sheet_many an_Sheet_many b4x ct_Sheet_many),sl_Sheet_many⟩)
 (a45:W.codeIn K b4x "Sheet.many"=true)(sK:W.keepIn K (.ref a6n)=true)
 (a2P:W.findIn K (.ref dW) "cell"=some (some (.ref b0s)))(a6s:W.isFn K (.ref b0s)=true)
 (b0g:K.lookup b0s=some ⟨oc_Sheet_cell,od_Sheet_cell,.func (W.fnOf "cell" "Sheet.cell" (aV yN) (aS yN) (aF yN) .none kV_Sheet_cell doc_Sheet_cell pm_Sheet_cell an_Sheet_cell b4v ct_Sheet_cell),sl_Sheet_cell⟩)
 (a7R:W.codeIn K b4v "Sheet.cell"=true)(sI:W.keepIn K (.ref b0s)=true)
 (a5A:W.findIn K (.ref dW) "stretch"=some (some (.ref a2v)))(a1s:W.isFn K (.ref a2v)=true)
 (a42:K.lookup a2v=some ⟨oc_Sheet_stretch,od_Sheet_stretch,.func (W.fnOf "stretch" "Sheet.stretch" (aV mW) (aS mW) (aF mW) .none kV_Sheet_stretch doc_Sheet_stretch pm_Sheet_stretch an_Sheet_stretch b4V ct_Sheet_stretch),sl_Sheet_stretch⟩)
 (a0U:W.codeIn K b4V "Sheet.stretch"=true)(sV:W.keepIn K (.ref a2v)=true)
 (a5v:W.findIn K (.ref dW) "make"=some (some (.ref a1p)))(a1R:W.isFn K (.ref a1p)=true)
 (a6J:K.lookup a1p=some ⟨oc_Sheet_make,od_Sheet_make,.func (W.fnOf "make" "Sheet.make" (aV vF) (aS vF) (aF vF) .none kV_Sheet_make doc_Sheet_make pm_Sheet_make an_Sheet_make b7i ct_Sheet_make),sl_Sheet_make⟩)
 (a7W:W.codeIn K b7i "Sheet.make"=true)(oI:W.keepIn K (.ref a1p)=true)
 (a5T:W.findIn K (.ref dW) "board_of"=some (some (.ref a80)))(a4K:W.isFn K (.ref a80)=true)
 (a1I:K.lookup a80=some ⟨oc_Sheet_board_of,od_Sheet_board_of,.func (W.fnOf "board_of" "Sheet.board_of" (aV vB) (aS vB) (aF vB) .none kV_Sheet_board_of doc_Sheet_board_of pm_Sheet_board_of an_Sheet_board_of b54 ct_Sheet_board_of),sl_Sheet_board_of⟩)
 (a7h:W.codeIn K b54 "Sheet.board_of"=true)(nD:W.keepIn K (.ref a80)=true)
 (a6x:W.findIn K (.ref dW) "board_with"=some (some (.ref a4m)))(a5O:W.isFn K (.ref a4m)=true)
 (a8v:K.lookup a4m=some ⟨oc_Sheet_board_with,od_Sheet_board_with,.func (W.fnOf "board_with" "Sheet.board_with" (aV tV) (aS tV) (aF tV) .none kV_Sheet_board_with doc_Sheet_board_with pm_Sheet_board_with an_Sheet_board_with b6K ct_Sheet_board_with),sl_Sheet_board_with⟩)
 (a1v:W.codeIn K b6K "Sheet.board_with"=true)(rM:W.keepIn K (.ref a4m)=true)
 (a4y:W.findIn K (.ref dW) "board_for"=some (some (.ref a6R)))(b01:W.isFn K (.ref a6R)=true)
 (a5p:K.lookup a6R=some ⟨oc_Sheet_board_for,od_Sheet_board_for,.func (W.fnOf "board_for" "Sheet.board_for" (aV wM) (aS wM) (aF wM) .none kV_Sheet_board_for doc_Sheet_board_for pm_Sheet_board_for an_Sheet_board_for b9F ct_Sheet_board_for),sl_Sheet_board_for⟩)
 (a4n:W.codeIn K b9F "Sheet.board_for"=true)(pP:W.keepIn K (.ref a6R)=true)
 (a72:W.findIn K (.ref dW) "check_cell"=some (some (.ref a5k)))(b0Z:W.isFn K (.ref a5k)=true)
 (a7l:K.lookup a5k=some ⟨oc_Sheet_check_cell,od_Sheet_check_cell,.func (W.fnOf "check_cell" "Sheet.check_cell" (aV sY) (aS sY) (aF sY) .none kV_Sheet_check_cell doc_Sheet_check_cell pm_Sheet_check_cell an_Sheet_check_cell b7X ct_Sheet_check_cell),sl_Sheet_check_cell⟩)
 (a3h:W.codeIn K b7X "Sheet.check_cell"=true)(xH:W.keepIn K (.ref a5k)=true)
 (b0k:W.findIn K (.ref dW) "check_leans"=some (some (.ref a4R)))(a9N:W.isFn K (.ref a4R)=true)
 (a7z:K.lookup a4R=some ⟨oc_Sheet_check_leans,od_Sheet_check_leans,.func (W.fnOf "check_leans" "Sheet.check_leans" (aV xJ) (aS xJ) (aF xJ) .none kV_Sheet_check_leans doc_Sheet_check_leans pm_Sheet_check_leans an_Sheet_check_leans b4D ct_Sheet_check_leans),sl_Sheet_check_leans⟩)
 (a8s:W.codeIn K b4D "Sheet.check_leans"=true)(sE:W.keepIn K (.ref a4R)=true)
 (a4T:W.findIn K (.ref dW) "check_ring"=some (some (.ref a3I)))(a1O:W.isFn K (.ref a3I)=true)
 (b0v:K.lookup a3I=some ⟨oc_Sheet_check_ring,od_Sheet_check_ring,.func (W.fnOf "check_ring" "Sheet.check_ring" (aV uH) (aS uH) (aF uH) .none kV_Sheet_check_ring doc_Sheet_check_ring pm_Sheet_check_ring an_Sheet_check_ring b64 ct_Sheet_check_ring),sl_Sheet_check_ring⟩)
 (a6t:W.codeIn K b64 "Sheet.check_ring"=true)(a7a:W.keepIn K (.ref a3I)=true)
 (sP:b8H≠a2j):aZ K mg/\True/\Tbs h K mg:=⟨{
 len:=W.mg_none_of X G a14,
 isinstance:=W.mg_none_of X G a2z,
 int:=W.mg_none_of X G a62,
 bool:=W.mg_none_of X G b0u,
 str:=W.mg_none_of X G a9O,
 all:=W.mg_none_of X G a92,
 range:=W.mg_none_of X G a9j,
 abs:=W.mg_none_of X G a9M,
 list:=W.mg_none_of X G a1A,
 tuple:=W.mg_none_of X G a02,
 max:=W.mg_none_of X G a9s,
 reversed:=W.mg_none_of X G a4h,
 ValueError:=W.mg_none_of X G a2a,
 g_LETTERS:=⟨_,W.mg_of X G a8i⟩,
 g_MOST_LETTERS:=⟨_,W.mg_of X G a2f⟩,
 g_ODD:=⟨b3l,W.mg_of X G a50,fun H=> .inr ⟨_,_,_,a2Q,rfl,rfl,sl (by simp),.cons ⟨_,rfl⟩ (.cons ⟨_,rfl⟩ (.nil))⟩⟩,
 g_MOST_NAMES:=⟨_,W.mg_of X G a87⟩,
 g_MOST_ROWS:=⟨_,W.mg_of X G a3d⟩,
 g_MOST_COLUMNS:=⟨_,W.mg_of X G a5G⟩,
 g_MOST_TABLES:=⟨_,W.mg_of X G a90⟩,
 g_UNKNOWN:=⟨b1J,W.mg_of X G b0l,fun H=> .inr ⟨_,_,_,a6y,rfl,rfl,sl (by simp),.cons ⟨_,rfl⟩ (.cons ⟨_,rfl⟩ (.nil))⟩⟩,
 d_is_whole:=eF X G a3U a6B b0T mV,
 d_is_number:=eF X G a3w b0J a0W xA,
 d_is_name:=eF X G a2M a70 a9a jL,
 d_is_fault:=eF X G a86 a6K a3v oA,
 d_is_value:=eF X G a3z a4t a36 rG,
 d_settled:=eF X G a3a a7S a6r uL,
 d_check_name:=eF X G a6S a2G b0S uE,
 d_checked_names:=eF X G a39 a9X a6A vS,
 d_each_once:=eF X G a41 a8y a6D a0S,
 d_look_in_turn:=eF X G a8m a8W a1G tO,
 d_check_size:=eF X G a34 a7D a1r qD,
 d_check_place:=eF X G a2i a69 a5t mJ,
 d_check_values:=eF X G a9o a8u a1X qG,
 d_check_column:=eF X G a9J b0p a9K nH,
 d_ring_from:=eF X G a9e a63 a1b wG,
 d_way_to:=eF X G a6k a6C a3Q vV,
 d_law_cell_at:=eF X G a2m a49 a0X pD,
 d_law_value:=eF X G a9R a9k a5e wY,
 d_law_names:=eF X G a19 b0c a43 vZ,
 d_law_same_value:=eF X G a8x a3g a7i tU,
 d_law_less:=eF X G a8X a9b a4Z vA,
 d_law_columns:=eF X G a2w a3y a30 rX,
 d_law_checked:=eF X G b0d a9A a7X xU,
 d_law:=eF X G a0f a0a zO a0n,
 notabs:=notabs,
 t_Rule:=⟨iF,{c:=W.mg_of X G a58,cl:=⟨a6N,b0a,a6H,a7k⟩,mks:=a3b,kc:=a8P,hc:=a6j,n_function:=a2u,m_init:=bF a0R a1J a3K a8k sU,v_init:=⟨a4w,_,_,a68,a4P,a0R⟩,m_reckon:=bF a6M zU a0M a0q a0o}⟩,
 t_Cells:=⟨gU,{c:=W.mg_of X G a4r,cl:=⟨a3u,a74,a8M,a7u⟩,mks:=a5K,kc:=a9p,hc:=a1t,n_function:=a2l,n_names:=a81,m_init:=bF a1B a9L a4G a3A wS,m_leans:=bF a7G a35 b0y a8z tG,m_gather:=bF a7H a7M a4H a95 qY,m_reckon:=bF a20 zU a0M a0q a0o,isl:=a7p,own:=⟨a5R,ow4,ow5⟩}⟩,
 t_Table:=⟨fG,{c:=W.mg_of X G a0Y,cl:=⟨a7J,a5I,a46,a9u⟩,mks:=a3W,kc:=a1g,hc:=a8N,n_row_numbers:=a2Y,n_fresh_number:=a2X,n_kept:=a4z,m_init:=bF a3n a8S a2q a4q xD,m_many:=bF a7y b0n a8O a4o jS,m_numbers:=bF a4x a5o b0h a4J b0M,m_columns:=bF a3s a3J a6p a4k a1j,m_give:=bF a1f a5y a4M a4v wA,m_drop:=bF a1z a4D a4V a5V a2V,m_at:=bF b0R a2E a59 b0t yJ,m_number_at:=bF a2b a4I a7m a91 uW,m_check_column:=bF a2K a47 a2J a94 wL}⟩,
 t_Spot:=⟨iH,{c:=W.mg_of X G a9v,cl:=⟨a3p,a3E,a6g,b0X⟩,mks:=a7j,kc:=a2H,hc:=a7v,n_sheet:=a2r,n_name:=a3o,n_column:=a9Y,n_place:=a1F,m_init:=bF a2C a7d a99 a4s tL,m_told:=bF a9D a4c a3x a18 xY}⟩,
 t_View:=⟨fZ,{c:=W.mg_of X G a6o,cl:=⟨a1c,a7g,a6z,a4i⟩,mks:=a1m,kc:=a5u,hc:=b0B,m_columns:=bF b0I a0c a0r zA a0H,m_rows:=bF a9V a96 a6T a73 a06,m_value_at:=bF a6l a0t zR a0A zX,m_spots_at:=bF a3r a0p zD a0y yX,m_many:=bF a65 sZ yP yV nU,m_look:=bF a23 uR tI wU nS,m_shown:=bF a5M vL yC vG oG,m_spots:=bF a01 uV uM sR oE,m_asked_row:=bF a03 vN yG wC uX}⟩,
 t_Whole:=⟨fF,{c:=W.mg_of X G a04,cl:=⟨a7Z,b0j,a3l,a85⟩,mks:=a8l,kc:=a3f,hc:=a07,n_sheet:=a11,n_name:=a4p,m_init:=bF a5P a5Z a0Z a60 a0l,m_columns:=bF a3M b03 b0F a9d pV,m_rows:=bF a6q a9q a4e a6f rK,m_value_at:=bF a8Z a5X a8K a75 pU,m_spots_at:=bF a9C a7o a5E a6I rA,m_many:=bF a1S sZ yP yV nU,m_look:=bF a1K uR tI wU nS,m_shown:=bF a3N vL yC vG oG,m_spots:=bF a5c uV uM sR oE,m_asked_row:=bF a6X vN yG wC uX}⟩,
 t_Some:=⟨eV,{c:=W.mg_of X G a6Z,cl:=⟨b0z,a9z,a9w,a2n⟩,mks:=a3P,kc:=a8T,hc:=a4A,n_view:=a7n,n_column:=a0V,m_init:=bF a5F a3V a8w a5l a0C,m_rows:=bF a48 a1V a8L a4g wI,m_has_row:=bF a9l b0x a6Y a38 yS,m_columns:=bF a7V a0c a0r zA a0H,m_value_at:=bF a3C a0t zR a0A zX,m_spots_at:=bF a7x a0p zD a0y yX,m_many:=bF a57 sZ yP yV nU,m_look:=bF a4d uR tI wU nS,m_shown:=bF a8p vL yC vG oG,m_spots:=bF a78 uV uM sR oE,m_asked_row:=bF a83 vN yG wC uX}⟩,
 t_Board:=⟨fW,{c:=W.mg_of X G a9T,cl:=⟨a56,a3S,a4l,a7K⟩,mks:=a4Y,kc:=a8f,hc:=b0G,n_given:=b0U,n_rules:=a8B,n_memory:=a5f,n_order:=a5D,m_init:=bF a3j a5B a5s a7P vT,m_has_column:=bF a6h a16 a9H a9m pR,m_content:=bF a2d a8j a1N a2N tH,m_set_column:=bF a4u a5J b0o a97 a8E,m_empty_column:=bF b04 a9x a1l a5a qN,m_outcome:=bF a26 a2O a13 a8G xR}⟩,
 t_TableTold:=⟨iW,{c:=W.mg_of X G a1U,cl:=⟨a8Q,a9G,a7c,b0b⟩,mks:=b0Q,kc:=a3F,hc:=a6V,n_boards:=a4Q,n_name:=a7A,n_size:=a1D,m_init:=bF a7E a33 a5r a82 xK,m_take:=bF a7e a4U a5C a4b tZ}⟩,
 t_ColumnSet:=⟨iM,{c:=W.mg_of X G a4O,cl:=⟨b0m,a8H,a8U,a2A⟩,mks:=a12,kc:=a3Z,hc:=a40,n_board:=a5m,n_column:=a4B,n_after:=a71,n_before:=a9t,m_init:=bF b0N a8b a4f a1e rJ,m_take:=bF a5q a5U a9S a6G qH}⟩,
 t_Trial:=⟨iT,{c:=W.mg_of X G a1Y,cl:=⟨a7r,a44,a3Y,a66⟩,mks:=a5Q,kc:=a5z,hc:=a3q,n_finder:=a6F,n_looked:=a8c,n_lacking:=a00,m_init:=bF a4L a9h a5w a1W sW,m_look:=bF a5g a1x a88 b0O a2o}⟩,
 t_Finder:=⟨gD,{c:=W.mg_of X G a0G,cl:=⟨a9I,b0C,a2D,a5N⟩,mks:=b0r,kc:=a32,hc:=a76,n_boards:=a7O,n_found:=a8C,n_looked:=a3i,m_init:=bF a7B a7w a6W a22 qW,m_value_of:=bF a64 a9i a2p b0f a6e,m_attempt:=bF a28 a9B a3m a4X b0H,m_gathered:=bF a0P a0w a0E a0L a0k,m_settle:=bF a9g a7N a8r a51 a55,m_knows:=bF a53 a3D a8d a5S a2F}⟩,
 t_Sheet:=⟨dW,{c:=W.mg_of X G a2s,cl:=⟨a2Z,b0e,a7C,b05⟩,mks:=a05,kc:=a2W,hc:=a7q,n_boards:=a7Y,n_changes:=a2h,n_finder:=a1w,m_init:=bF a7b b0A a8I a8h vH,m_table:=bF a4E a2k a79 a3t xQ,m_give:=bF b0K a2e a5x a17 sX,m_rule:=bF a8A a1H a8e a6P a21,m_tables:=bF a2x a61 a2g a1y a1a,m_columns:=bF a8t b0W a4S a1C xF,m_many:=bF a6i a84 a5L a45 sK,m_cell:=bF a2P a6s b0g a7R sI,m_stretch:=bF a5A a1s a42 a0U sV,m_make:=bF a5v a1R a6J a7W oI,m_board_of:=bF a5T a4K a1I a7h nD,m_board_with:=bF a6x a5O a8v a1v rM,m_board_for:=bF a4y b01 a5p a4n pP,m_check_cell:=bF a72 b0Z a7l a3h xH,m_check_leans:=bF b0k a9N a7z a8s sE,m_check_ring:=bF a4T a1O b0v a6t a7a}⟩},trivial,⟨⟨_,_,b6e X G a0f a0a zO a0n a2B a98,b8d X G a0G a0P a0w a0E a0L a0k a1h,sP,tX⟩⟩⟩
theorem walk{l:W.OpenLaw}{q:Program}{loose:List Str}{XP:(Str->Option Value)->Heap->Prop}{YP:World->Heap->Prop}{d:DefRec}{K:Params->Fg}(hn:l.most=some 63)(hdf:d.params.defaults= [])(hdn:d.name= "law")
 (hY:∀(w:World) (h:Heap),YP w h->(K w.params).In h)
 (recs:((PyProof.Rows.recsOf q).find? (fun e=>e.name==("law":Str))).isSome=true)
 (F:∀(w:World) (mg:Str->Option Value) (h:Heap),YP w h->(K w.params).In h->h.Ns mainGlobals mg->aZ (K w.params) mg/\True/\Tbs h (K w.params) mg):
 W.WalkO q loose XP YP l.row.toRowW d [] (fun f vs=>PySem.call f vs):=
 L2.b5d (n:=63) (k:=19) (x:= "_law_script") (CX:=fun _=>aB) (sp:=fun w tabs=>b1C (K w.params) tabs) hn (by decide) hdf ⟨rfl,by decide,by decide⟩ hY
  (fun w mg fa h Yy KX G hmg=>by
   obtain⟨T,TD,TB⟩:=F w mg h Yy KX G
   obtain⟨z_law,z_Finder_gathered,B_law,B_Finder_gathered,sP,tX⟩:=TB.bs
   obtain⟨f,fd,F4,hm,hcd⟩:=B_law.ex
   rw[hdn]at hmg
   have e:=hmg.symm.trans hm
   cases e
   have r_law:=recs
   refine⟨T.notabs,[z_law,z_Finder_gathered],fun z hz=> ?_,fd,fun s u=> ?_,fun base kb nb mk=> ?_⟩
   ·simp only[List.mem_cons,List.not_mem_nil,or_false]at hz
    rcases hz with rfl|rfl
    ·exact .inl ⟨⟨_,r_law,B_law.tab⟩⟩
    ·exact .inr ⟨B_Finder_gathered.hd,tX⟩
   ·obtain⟨oc,od,kV,doc,pm,an,cdv,ct,osl,rfl,_⟩:=F4.ex
    exact .of_eq rfl
   ·exact b8M T B_law (mk _ (by simp)) B_Finder_gathered (mk _ (by simp)) sP F4 hcd)
  (fun _ _ _ a ns hl hT hS=>⟨a,ns,rfl,hS,hl,hT,fun _ hT'=>⟨rfl,hT'⟩⟩) fun _ _ _ _ _ z=>z
end My
namespace PySem.W.Fast
abbrev Z:=Nat
def tw13901018979661748851:=Z
def tw7432113045088558816:=Z
def tw6912529704660237527:=Z
def tw2250518448174530403:=Z
def tw6012281747141329143:=Z
def tw15244853931424102869:=Z
def tw14697802830097831279:=Z
def tw14408572276091687298:=Z
def tw16467165511178728324:=Z
def tw4704464363188282527:=Z
def tw10090076064243979115:=Z
def tw6339804687807688492:=Z
def tw14381980221428582093:=Z
def tw14146037718298677387:=Z
def tw1846312443919737778:=Z
def tw1079419412573397068:=Z
def tw17552007370337518425:=Z
def tw3866728834234653945:=Z
def tw1245291286209937089:=Z
def tw9734376134371945003:=Z
def tw16624257575858810185:=Z
def tw17150643800163438875:=Z
def tw3204360189039797495:=Z
def tw9482240640606657142:=Z
def tw18426196889897408561:=Z
def tw11552190870001088117:=Z
def tw8561209819983509720:=Z
def tw15658150420709738827:=Z
def tw18325366797834999559:=Z
def tw18370523255917381913:=Z
def tw4034157507953860433:=Z
def tw17855667425873504160:=Z
def tw15417247621368069565:=Z
def tw9108782514851041371:=Z
def tw3428814577875897141:=Z
def tw8453555210658807089:=Z
def tw18390491601373626400:=Z
def tw13606407082165004813:=Z
def tw13212392752787974137:=Z
def tw13702694326403252012:=Z
def tw1884626021860976504:=Z
def tw5611531502748682298:=Z
def tw11904092286369868325:=Z
def tw15428815177130312313:=Z
def tw702745117836095802:=Z
def tw15650330184311089306:=Z
def tw5164028441926082767:=Z
def tw4160558673927386572:=Z
def tw18236102607793741902:=Z
def tw4047790112865556671:=Z
def tw8507268924867520596:=Z
def tw3491461926104622611:=Z
def tw14800820790937964695:=Z
def tw16148490997028081020:=Z
def tw2379138726151331539:=Z
def tw12811983564310029082:=Z
def tw12288553951131278112:=Z
def tw9361857790071879923:=Z
def tw13675668867020493929:=Z
def tw6757266376186667416:=Z
def tw2917786045700002410:=Z
def tw13657120850629748408:=Z
def tw18307164272441360288:=Z
def tw11868376195950491863:=Z
def tw8690699134546427890:=Z
def tw9640700544871261652:=Z
def tw11568600728138662060:=Z
def tw15296782720274770058:=Z
def tw6699765087101623945:=Z
def tw2775100137601426357:=Z
def tw17879443225754889166:=Z
def tw14547482361239644959:=Z
def tw4803851964636717878:=Z
def tw6306983796878583658:=Z
def tw528404062362459601:=Z
def tw10321345777273322315:=Z
def tw3738943664452852365:=Z
def tw8694197669369202029:=Z
def tw7884136845099451594:=Z
def tw3090861818321437514:=Z
def tw2524180426186061068:=Z
def tw7329689553782572901:=Z
def tw16977987624740671462:=Z
def tw3254318241989549848:=Z
def tw5889045756877935365:=Z
def tw12013858343203849974:=Z
def tw7486031180124054793:=Z
def tw7109618034879925346:=Z
def tw16286431931914481695:=Z
def tw4127594590380424219:=Z
def tw13129934251556921232:=Z
def tw700854248212219258:=Z
def tw15417914807780180525:=Z
def tw17461995949026977824:=Z
def tw1212677431824100674:=Z
def tw2357042791220790754:=Z
def tw6761894050314751254:=Z
def tw15776485161446995172:=Z
def tw16423092711681147659:=Z
def tw10832698974441065005:=Z
def tw83231034052736021:=Z
def tw1484370450835014315:=Z
def tw8852391592536793706:=Z
def tw12720776230802035714:=Z
def tw3591433236040196115:=Z
def tw17947630128615151924:=Z
def tw1499603290794860002:=Z
def tw16044605942955209670:=Z
def tw7775418743411334819:=Z
def tw2377246297516740577:=Z
def tw13498342348557838738:=Z
def tw17927681835574949591:=Z
def tw18342746800392951656:=Z
def tw8974372209043631277:=Z
def tw3198167763656980035:=Z
def tw9548244951216987662:=Z
def tw15940232861776270180:=Z
def tw14050174756522351660:=Z
def tw4312151510009989319:=Z
def tw13215249414270611436:=Z
def tw14603057787330869701:=Z
def tw3302762066836019972:=Z
def tw15145232502175206954:=Z
def tw17908562343571961332:=Z
def tw10407128686309875653:=Z
def tw1808747540503595677:=Z
def tw6764651388727585148:=Z
def tw3577338423057597492:=Z
def tw2576913231526509493:=Z
def tw9910299725691258526:=Z
def tw11897250987455126042:=Z
def tw11718525417662947337:=Z
def tw10897296734729655742:=Z
def tw12909404231898933591:=Z
def tw2350311525432690813:=Z
def tw3937631572303874048:=Z
def tw7040033810664487659:=Z
def tw16038851068489708918:=Z
def tw10826812273114529609:=Z
def tw18075307129008868568:=Z
def tw16645167851530282181:=Z
def tw4426400170290093481:=Z
def tw1864579771082586251:=Z
def tw5956938693328243483:=Z
def tw16884915634454783574:=Z
def tw1667216644961704289:=Z
def tw2078348626032325311:=Z
def tw12706149858115939860:=Z
def tw2381902447149465820:=Z
def tw14545586439741420457:=Z
def tw5759086574279859236:=Z
def tw12051275274873430266:=Z
def tw8104485116365446582:=Z
def tw7829589521445012305:=Z
def tw16042437799330463338:=Z
def tw13775876492071555993:=Z
def tw1534985101281033493:=Z
def tw8679392061318003812:=Z
def tw8428699653419891467:=Z
def tw13876658496057243307:=Z
def tw18208733564952805838:=Z
def tw12605822149842953807:=Z
def tw12865707477555181075:=Z
def tw16277578245650081671:=Z
def tw12383129089128294482:=Z
def tw1840451517804031417:=Z
def tw2644175159849170975:=Z
def tw5277947983587634246:=Z
def tw6771031108603268348:=Z
def tw7796882465558182133:=Z
def tw10177535131802810273:=Z
def tw6101989362624687198:=Z
def tw11331871071982186915:=Z
def tw12622360886211213902:=Z
def tw1372517523509087032:=Z
def tw15346951118359705526:=Z
def tw13733683018551659281:=Z
def tw2861197276328261078:=Z
def tw13423285059235259429:=Z
def tw4807226539537802238:=Z
def tw6111209965436407521:=Z
def tw6524220954248329315:=Z
def tw17810788200864259768:=Z
def tw14985487217627483784:=Z
def tw4780505293450561323:=Z
def tw3475861008129994691:=Z
def tw5952447032731230049:=Z
def tw13268559592343293820:=Z
def tw12228112316274135724:=Z
def tw12778748575923906573:=Z
def tw11485585657745000439:=Z
def tw8438962762215300502:=Z
def tw10011065176760574823:=Z
def tw10925808171800864360:=Z
def tw14827837174214520775:=Z
def tw4968159628845457810:=Z
def tw10000110255151572359:=Z
def tw14471265352323611030:=Z
def tw7063126043862041453:=Z
def tw6786222133705022168:=Z
def tw17287088840596726551:=Z
def tw10122313977755195830:=Z
def tw15321163381149050694:=Z
def tw16168926693827680832:=Z
def tw13624802813885894342:=Z
def tw10745379028285894743:=Z
def tw14474361283089554506:=Z
def tw16601682619356826162:=Z
def tw16828144483922151911:=Z
def tw3282341551975309568:=Z
def tw14253876193546610554:=Z
def tw5286413433585464756:=Z
def tw13783953049044991765:=Z
def tw2319253272631120818:=Z
def tw16288041128944329538:=Z
def tw7094177013434710784:=Z
def tw1429965517709426940:=Z
def tw8362115847474361390:=Z
def tw3467803679407425140:=Z
def tw114634501686571149:=Z
def tw13259100270015607127:=Z
def tw15924050782189570454:=Z
def tw6385352210779640285:=Z
def tw18172112075489067103:=Z
def tw11908943692551684075:=Z
def tw13417546821569356510:=Z
def tw807760553402597639:=Z
def tw18360414006112279229:=Z
def tw4846623585493804048:=Z
def tw8429834728287036577:=Z
def tw1248679798981746470:=Z
def tw1246682360415281576:=Z
def tw9410200925501032374:=Z
def tw14362722699771259633:=Z
def tw12966304207398851281:=Z
def tw4534511515833443574:=Z
def tw1652434788932716848:=Z
def tw1551825776982151709:=Z
def tw586102469790202848:=Z
def tw18131704821925902100:=Z
def tw10748712367418597034:=Z
def tw1976040495877060582:=Z
def tw16447733766515315558:=Z
def tw6774094533232224043:=Z
def tw9128666168007109898:=Z
def tw8186261879925778246:=Z
def tw10488445623355895626:=Z
def tw298127199892144306:=Z
def tw12181719597863202382:=Z
def tw10540141505762682632:=Z
def tw12435864833132759844:=Z
def tw13427824829876447934:=Z
def tw639898739655747840:=Z
def tw8762091668770262294:=Z
def tw5426230490351507048:=Z
def tw2601103176623378286:=Z
def tw17200244748221135021:=Z
def tw13698438474548542221:=Z
def tw7399610951566105115:=Z
def tw17710616423190168053:=Z
def tw11528835248322732714:=Z
def tw6971131635732385577:=Z
def tw17648833209464659405:=Z
def tw5113363303481383704:=Z
def tw3335275005058759824:=Z
def tw11471358082263283080:=Z
def tw297526202921177444:=Z
def tw16192730580571353386:=Z
def tw768881618803579452:=Z
def tw5383536222867907293:=Z
def tw13266820129680646660:=Z
def tw18085861228897818691:=Z
def tw6651425759155921071:=Z
def tw10324452536583627474:=Z
def tw10446457939350578510:=Z
def tw8659042173186130016:=Z
def tw14217991914027764010:=Z
def tw15266318447885910075:=Z
def tw10579229279457373094:=Z
def tw12850566929755191562:=Z
def tw18417828175235911929:=Z
def tw4466035601587379502:=Z
def tw5327591632839496011:=Z
def tw8333481373313511978:=Z
def tw3804687065515133836:=Z
def tw13644096337939041266:=Z
def tw16701260567257074136:=Z
def tw2956464921252829666:=Z
def tw17499506560572664134:=Z
def tw747526527438337141:=Z
def tw10472701724995527013:=Z
def tw4272595308535029407:=Z
def tw8839694260223253407:=Z
def tw18367471774614478862:=Z
def tw5166710993853152631:=Z
def tw11422121000764790462:=Z
def tw3483405426824400453:=Z
def tw2560117671824908133:=Z
def tw14491239638154382913:=Z
def tw5117457869241588890:=Z
def tw14326272841612577695:=Z
def tw3331265685446470488:=Z
def tw2408062596454075552:=Z
def tw17436920834720050928:=Z
def tw10800483933630322101:=Z
def tw8243799904590510041:=Z
def tw14572473752896381423:=Z
def tw10653550795582507164:=Z
def tw13493316169675981119:=Z
def tw4517371430604767938:=Z
def tw9459839258899474198:=Z
def tw3177613653184067829:=Z
def tw7856129513079133456:=Z
def tw11190296585755689007:=Z
def tw2034383745327930058:=Z
def tw11235993172138759934:=Z
def tw9370465965802933685:=Z
def tw1852197101478907713:=Z
def tw16866220831297713007:=Z
def tw1320881843961732604:=Z
def tw283185586668373928:=Z
def tw9491829676630351775:=Z
def tw8973904435214508702:=Z
def tw10049419769956738344:=Z
def tw10130516134864922189:=Z
def tw2833202958549288247:=Z
def tw7912225646609526726:=Z
def tw13173873554606693128:=Z
def tw16045971767754089348:=Z
def tw10366145949070423682:=Z
def tw1920550311040705069:=Z
def tw14916097867846520358:=Z
def tw5120314564050355369:=Z
def tw15624599479197908277:=Z
def tw1645335268488058330:=Z
def tw6893574151682526104:=Z
def tw11372918538692544160:=Z
def tw3230999868748560805:=Z
def tw9967294082567001924:=Z
def tw11397097806542928150:=Z
def tw3911938596857703617:=Z
def tw14922119060048978308:=Z
def tw8857975649721378908:=Z
def tw15861558549931345412:=Z
def tw11332637225490321010:=Z
def tw6171593001441866659:=Z
def tw16348068488532380076:=Z
def tw17740748596940367138:=Z
def tw12219530623503751621:=Z
def tw6913103302477585197:=Z
def tw15139590099939768055:=Z
def tw9476091440109489325:=Z
def tw13966180781260791161:=Z
def tw9554368780876566868:=Z
def tw13772204049108108110:=Z
def tw15185014296990595039:=Z
def tw10543473181739630132:=Z
def tw16814570735049602803:=Z
def tw17754888227404168089:=Z
def tw15090965746222567403:=Z
def tw7295852308444457688:=Z
def tw18172603622368480297:=Z
def tw12132809970561927116:=Z
def tw8830739242590561445:=Z
def tw7942736848068191466:=Z
def tw14665177560513419334:=Z
def tw1935979475243710896:=Z
def tw15012239917423909531:=Z
def tw17865825406078553116:=Z
def tw14668492686048528095:=Z
def tw13406771766629172014:=Z
def tw15446659497232059971:=Z
def tw3656861542109135638:=Z
def tw8390310289691180990:=Z
def tw17920851202993719449:=Z
def tw8831948893019680818:=Z
def tw13397206227859981539:=Z
def tw6889741146285716097:=Z
def tw11494414143889544742:=Z
def tw13261005575248707861:=Z
def tw14702296015540212310:=Z
def tw16996981883080475694:=Z
def tw5312327525701772462:=Z
def tw1562015823152182144:=Z
def tw3979198075120063735:=Z
def tw8160156237139345482:=Z
def tw5139459180101376370:=Z
def tw10923673898954421456:=Z
def tw12474711574905415324:=Z
def tw14932268267077187834:=Z
def tw189144945296590854:=Z
def tw7537302656232960221:=Z
def tw12570347132999623613:=Z
def tw5665166063360814146:=Z
def tw10242397699298490330:=Z
def tw15462837610255142212:=Z
def tw6767571529861217762:=Z
def tw10343019011969166082:=Z
def tw626117361160989829:=Z
def tw14711247629567184023:=Z
def tw9237914719927710634:=Z
def tw13053980827455353891:=Z
def tw16379995148069055503:=Z
def tw3572315955373392134:=Z
def tw2352605942286362608:=Z
def tw6003467175892716190:=Z
def tw6766080994444887890:=Z
def tw732618452651790440:=Z
def tw7683115033712429711:=Z
def tw14918565653986598960:=Z
def tw14248678201300551531:=Z
def tw17447918434003210977:=Z
def tw1589628443287936294:=Z
def tw8492393777391003225:=Z
def tw5136608073084989056:=Z
def tw9485530741834877820:=Z
def tw14094489729849803723:=Z
def tw16146702051170954924:=Z
def tw3491961902182817189:=Z
def tw11940139751812851473:=Z
def tw10392755357957535970:=Z
def tw4630266236411561061:=Z
def tw16264755774721716223:=Z
def tw11713681742401170671:=Z
def tw7955583462625743999:=Z
def tw3577079630111787527:=Z
def tw3822908076814533458:=Z
def tw3765866941418450564:=Z
def tw14280616276280848994:=Z
def tw6984975324704033467:=Z
def tw14595169659099421120:=Z
def tw15204326672309902333:=Z
def tw17558816951505046222:=Z
def tw15921085597742918451:=Z
def tw17570284818705093923:=Z
def tw14716200807392331134:=Z
def tw8181799992716036555:=Z
def tw6900773332625939321:=Z
def tw4548563015209829207:=Z
def tw1645453381061401876:=Z
def tw10428512689327140138:=Z
def tw14626525508472092985:=Z
def tw15367661816744675847:=Z
def tw14821394589782270193:=Z
def tw3642087348026876570:=Z
def tw3865373933311753522:=Z
def tw10278346711521830646:=Z
def tw1430406453017032122:=Z
def tw2338239521979005406:=Z
def tw3581429934081321982:=Z
def tw1150791273271035017:=Z
def tw6332551433892824193:=Z
def tw15416814598959655171:=Z
def tw8161865478129873017:=Z
def tw12525592842764588790:=Z
def tw2432662105448176907:=Z
def tw18151438018819295886:=Z
def tw5783122632641582873:=Z
def tw12795963259941369290:=Z
def tw6949171288953447646:=Z
def tw1701065434470151607:=Z
def tw8622226798624089947:=Z
def tw16367878751407798177:=Z
def tw14059645804812202822:=Z
def tw9475783361707393409:=Z
def tw8626483340070998546:=Z
def tw13993762204080164962:=Z
def tw15036474171372622752:=Z
def tw6920116006745554506:=Z
def tw4638934992550648965:=Z
def tw10508713044468105021:=Z
def tw3835527623731379331:=Z
def tw2133938261233842730:=Z
def tw2981150508939308000:=Z
def tw15192445171342145958:=Z
def tw15847938176382221609:=Z
def tw4316251011184329934:=Z
def tw6829772992101001917:=Z
def tw12796684997123414014:=Z
def tw9469824888824065015:=Z
def tw11624094316988163034:=Z
def tw13836116628289331660:=Z
def tw2037131893864154365:=Z
def tw1686443644705067062:=Z
def tw10303157064872593220:=Z
def tw2781092122200183978:=Z
def tw9767302111696657037:=Z
def tw14137390511855666754:=Z
def tw9077740367631673019:=Z
def tw4006364913004932930:=Z
def tw8130523470634049800:=Z
def tw14599137789871151239:=Z
def tw10948746879213036253:=Z
def tw8942511136475748779:=Z
def tw17342152578645266854:=Z
def tw8930769060646686005:=Z
def tw14761856495018836871:=Z
def tw8190395785387395421:=Z
def tw3246481889985995214:=Z
def tw9739070766153655692:=Z
def tw4155165530868109305:=Z
def tw114078487317028631:=Z
def tw18324139122798332639:=Z
def tw60030571895422895:=Z
def tw3800440947454695467:=Z
def tw12377274400098218144:=Z
def tw16877627127860964644:=Z
def tw4455413180121909163:=Z
def tw4179216339746487717:=Z
def tw1870497503405799069:=Z
def tw13890676004225859562:=Z
def tw14464537291909763623:=Z
def tw365826052452422196:=Z
def tw13160787418758220272:=Z
def tw13942977918611648588:=Z
def tw7487953345960857731:=Z
def tw10459294214719399311:=Z
def tw9178548768526648515:=Z
def tw12877607900847692246:=Z
def tw15028644257133329837:=Z
def tw1838776223509176650:=Z
def tw17450223872266818390:=Z
def tw3050959665463174005:=Z
def tw7082293788128418010:=Z
def tw4342413785220750818:=Z
def tw13980616734432865741:=Z
def tw16047944194309252580:=Z
def tw16506392697448401178:=Z
def tw7939273852890132022:=Z
def tw13074619770990913782:=Z
def tw6555678193986113941:=Z
def tw15142900705165862712:=Z
def tw4124713456495873899:=Z
def tw4265412928593575208:=Z
def tw15454632157506608004:=Z
def tw10230161022183562069:=Z
def tw17485805370963293515:=Z
def tw15662722989131350701:=Z
def tw11886462956656465268:=Z
def tw18295454557337256948:=Z
def tw2643035506481176513:=Z
def tw10466501769326724726:=Z
def tw10347326249688879666:=Z
def tw14720720381502319539:=Z
def tw8439157969689332337:=Z
def tw14703361478186507035:=Z
def tw2868710206307402344:=Z
def tw10601078010964830553:=Z
def tw5608381868557670038:=Z
def tw9697284702945675292:=Z
def tw16439313530611707924:=Z
def tw14512784984558133500:=Z
def tw10488590610242793387:=Z
def tw14431408686701432344:=Z
def tw2530435557077636474:=Z
def tw4045572549671383348:=Z
def tw3132553065281518006:=Z
def tw15725422314965401695:=Z
def tw1111802594631251787:=Z
def tw14477959321834564247:=Z
def tw14262393703840717249:=Z
def tw13933248007172747310:=Z
def tw13730550113064343496:=Z
def tw523956791127858963:=Z
def tw1494851417546910380:=Z
def tw16926385081627555832:=Z
def tw6882008730585550615:=Z
def tw7445263154622981167:=Z
def tw6331788280668020435:=Z
def tw6432055125109352062:=Z
def tw6808155271879790792:=Z
def tw9835919227913866925:=Z
def tw11100437647672404611:=Z
def tw1632427751961814625:=Z
def tw5493689111207569414:=Z
def tw10066005553875541689:=Z
def tw16800708386271035629:=Z
def tw1433389387292724957:=Z
def tw7449292445097623113:=Z
def tw7000443057156871688:=Z
def tw2842542658889116023:=Z
def tw17132895920386507500:=Z
def tw13144562899804442397:=Z
def tw16993574971230918731:=Z
def tw1667062089612783389:=Z
def tw947217774769133304:=Z
def tw352630957321691989:=Z
def tw14216478185438716523:=Z
def tw3956746942131472945:=Z
def tw1035159646924065173:=Z
def tw13058895015821501353:=Z
def tw14785926651406711012:=Z
def tw6548083721160635109:=Z
def tw14852124437640968005:=Z
def tw11160574872048659404:=Z
def tw7725026927446432545:=Z
def tw24863943869379059:=Z
def tw1795841806458675240:=Z
def tw7370538247441518516:=Z
def tw7872334508492772:=Z
def tw10122796265547376041:=Z
def tw12958444043907671688:=Z
def tw17115515857946415700:=Z
def tw9058999918990044610:=Z
def tw17528292520242151483:=Z
def tw5901558855262291138:=Z
def tw9841713335376690085:=Z
def tw7631320133863299770:=Z
def tw10341477169567728652:=Z
def tw8016980960377518929:=Z
def tw17838140237363142687:=Z
def tw8942903778463069207:=Z
def tw3052682962787445382:=Z
def tw8002936698946045666:=Z
def tw5602031552485092795:=Z
def tw10188425450666654264:=Z
def tw15738377528779860310:=Z
def tw5606983403494465240:=Z
def tw9105937692473595098:=Z
def tw8376363484993972993:=Z
def tw275944903606818777:=Z
def tw15621202755999876897:=Z
def tw1336223031899027646:=Z
def tw7085554432538703999:=Z
def tw7666067308988477170:=Z
def tw9762737796449337995:=Z
def tw352479509441821116:=Z
def tw1337441610806995701:=Z
def tw15639330085494568713:=Z
def tw14812509620897852864:=Z
def tw9526719717327627544:=Z
def tw7234553019400878118:=Z
def tw7099236614847999835:=Z
def tw14095092496993843368:=Z
def tw3797811034150362650:=Z
def tw14229796952637140768:=Z
def tw17645319415813488035:=Z
def tw14627894298693088803:=Z
def tw5050290148807938422:=Z
def tw2012740528544477344:=Z
def tw8151318898009149527:=Z
def tw15170724748087122210:=Z
def tw10965718227720499845:=Z
def tw9414544638660808136:=Z
def tw11989106113920084306:=Z
def tw8550709027212215557:=Z
def tw5769031809394441769:=Z
def tw1164882216958742460:=Z
def tw2867789460050251200:=Z
def tw1134970980475859531:=Z
def tw395915044386629783:=Z
def tw1759620585399805977:=Z
def tw17172639846698262319:=Z
def tw2770909416798820628:=Z
def tw18400026689113778883:=Z
def tw14763035611809053500:=Z
def tw11376230549571157020:=Z
def tw5835576257092069450:=Z
def tw13376175883000537731:=Z
def tw7000395447435037335:=Z
def tw13131751129985502881:=Z
def tw966329993221873067:=Z
def tw12740505075052437069:=Z
def tw701370714487353015:=Z
def tw4755481484415797618:=Z
def tw17132154547167475602:=Z
def tw2644054375057011565:=Z
def tw18211162918461157340:=Z
def tw4310731077631346908:=Z
def tw7475031770295684062:=Z
def tw6964896641148643261:=Z
def tw15654633648142387786:=Z
def tw12636847449886737049:=Z
def tw3523874054028142359:=Z
def tw3717508427861683707:=Z
def tw9663781163152332420:=Z
def tw14422759232282372963:=Z
def tw533189014253541170:=Z
def tw5474933360345298002:=Z
def tw4579438572913980221:=Z
def tw17247329993083849075:=Z
def tw7152008841688226396:=Z
def tw15865362127295565301:=Z
def tw15153818343502567280:=Z
def tw2853163498858815216:=Z
def tw7096875877335141865:=Z
def tw3896340173299422856:=Z
def tw12422621149719499949:=Z
def tw8325801240871485316:=Z
def tw3811684431622926140:=Z
def tw10624815992862134512:=Z
def tw9103206546726147230:=Z
def tw10971933792426917795:=Z
def tw15457797128055404556:=Z
def tw1142976027825302481:=Z
def tw1577262854449864948:=Z
def tw2178004196152280798:=Z
def tw2477677835138208267:=Z
def tw4994395427961066283:=Z
def tw7039388933218454937:=Z
def tw16990726846974655707:=Z
def tw3627925071072978321:=Z
def tw4944002480940102703:=Z
def tw6504222864108381357:=Z
def tw8221021018501803144:=Z
def tw10867425178688222984:=Z
def tw4188975951955091207:=Z
def tw10201930158430109833:=Z
def tw17542055461971844279:=Z
def tw13953165429719619110:=Z
def tw9489067512866402701:=Z
def tw10121125777988272242:=Z
def tw12345202327225356683:=Z
def tw4403559994237641541:=Z
def tw14670896775020082551:=Z
def tw4892563666264559511:=Z
def tw12900303220542242334:=Z
def tw7667172720547673435:=Z
def tw6744152083690989181:=Z
def tw15571278508235631808:=Z
def tw2735765198082989513:=Z
def tw18179869767321160179:=Z
def tw2072567475242579748:=Z
def tw10052859529041537108:=Z
def tw4363823003055153236:=Z
def tw6461274402621250973:=Z
def tw2877197374615567095:=Z
def tw14010453872547263832:=Z
def tw16316805860838808305:=Z
def tw14101321969117058200:=Z
def tw17534654269303427758:=Z
def tw16325263607762111313:=Z
def tw17682981181298987927:=Z
def tw7250689112820978226:=Z
def tw40754720244732719:=Z
def tw18042882240328148356:=Z
def tw7693347368195215240:=Z
def tw13580696059708510580:=Z
def tw5779162541539229826:=Z
def tw7074425553133915986:=Z
def tw172679481394038881:=Z
def tw17373464982848193653:=Z
def tw14620335854862599999:=Z
def tw11790769389031423235:=Z
def tw8744566218597970003:=Z
def tw1552858023173702645:=Z
def tw16521878993822270520:=Z
def tw9725085548097784925:=Z
def tw5860384338727438446:=Z
def tw3445983509391437589:=Z
def tw1950560420015438124:=Z
def tw4535819590599269894:=Z
def tw1029933065345173147:=Z
def tw3938322766660389965:=Z
def tw7162807763294477669:=Z
def tw4357081836593948593:=Z
def tw427766031134610074:=Z
def tw9295289627709918814:=Z
def tw18340005076661410519:=Z
def tw18185677891224836009:=Z
def tw6769143745506360596:=Z
def tw14419441881132077690:=Z
def tw6008282606567042731:=Z
def tw3930939914200208741:=Z
def tw3140510279009995625:=Z
def tw14600314527436006363:=Z
def tw7228875376843647332:=Z
def tw12648415326201198411:=Z
def tw9215176077733156708:=Z
def tw13679088982140075245:=Z
def tw12747638437753468365:=Z
def tw3762574826889871856:=Z
def tw14035403106234050571:=Z
def tw2431676417165831291:=Z
def tw4452017161169849542:=Z
def tw15263535518519462827:=Z
def tw9304077065623564915:=Z
def tw4101431330758983098:=Z
def tw13634765383159269711:=Z
def tw5869674317375784858:=Z
def tw661280129188370416:=Z
def tw1093330821083998322:=Z
def tw10283025696107090833:=Z
def tw11031945053795483544:=Z
def tw812025428047774088:=Z
def tw5216463583260292800:=Z
def tw5508300231726160292:=Z
def tw12097330674101893388:=Z
def tw1467880600444208834:=Z
def tw8649518695656093578:=Z
def tw7980165608019145483:=Z
def tw14383050463776473171:=Z
def tw16685242173532058076:=Z
def tw3033122335698664744:=Z
def tw17256810016608905554:=Z
def tw8163867336432680101:=Z
def tw1440154831208519761:=Z
def tw16717845519007645858:=Z
def tw11291482220624668165:=Z
def tw16464512474709961462:=Z
def tw16292237969169353653:=Z
def tw2885318722508643676:=Z
def tw6490440665233624576:=Z
def tw939217408995337825:=Z
def tw6805624003554100072:=Z
def tw309554746744555531:=Z
def tw5733946646573268920:=Z
def tw5077463096911671370:=Z
def tw4410267938064130290:=Z
def tw831242111714692840:=Z
def tw18027225149321379990:=Z
def tw7974166999176743208:=Z
def tw1285324433186281588:=Z
def tw15257014337988717654:=Z
def tw5840393807400375812:=Z
def tw15478910637939417218:=Z
def tw5194216621033650875:=Z
def tw9452987861710755743:=Z
def tw8624901543685318449:=Z
def tw17847351272638537615:=Z
def tw971052935817725662:=Z
def tw12690926587609485084:=Z
def tw14510358067780492050:=Z
def tw3033094019376438455:=Z
def tw987735734568156827:=Z
def tw17320205086940319263:=Z
def tw13499853803935142234:=Z
def tw5155334895275316168:=Z
def tw5234651793631344623:=Z
def tw5191852930671594705:=Z
def tw6217604854427451675:=Z
def tw15770421629843505358:=Z
def tw5043750836505266458:=Z
def tw3918361122138371987:=Z
def tw18397538592331430884:=Z
def tw14781131439430953647:=Z
def tw128014639657511391:=Z
def tw16655887323341752816:=Z
def tw160481973685458304:=Z
def tw8005339210093132655:=Z
def tw4135828753310831633:=Z
def tw3105634498039393640:=Z
def tw16547159408519861885:=Z
def tw11464382430364076669:=Z
def tw18338076875692220408:=Z
def tw9635710471574477769:=Z
def tw9206032056664271076:=Z
def tw17915315517677025543:=Z
def tw15169996617223760259:=Z
def tw723388946287862970:=Z
def tw17761498488522020566:=Z
def tw3591761290203930964:=Z
def tw15352725966430302667:=Z
def tw634625946686429635:=Z
def tw1448129981892262900:=Z
def tw9738066571516116147:=Z
def tw1624039368311428381:=Z
def tw6303016006407406356:=Z
def tw5813768991252485514:=Z
def tw7816237974122564367:=Z
def tw14374032406521826015:=Z
def tw14730012744229554807:=Z
def tw12134929595020928149:=Z
def tw17951774246963883641:=Z
def tw17163658998940411711:=Z
def tw10450791008491111858:=Z
def tw3670081549852974242:=Z
def tw7113880244546724814:=Z
def tw12203205258367844618:=Z
def tw18097287259540112652:=Z
def tw8487033373293625908:=Z
def tw5739719710292534854:=Z
def tw17594831536784254612:=Z
def tw6107394153146316531:=Z
def tw1178613858512374789:=Z
def tw4656323059924949304:=Z
def tw6342854631235312993:=Z
def tw1948531017909449990:=Z
def tw17683668340728566159:=Z
def tw16302320134213577256:=Z
def tw3608656472589917035:=Z
def tw8251115174733662235:=Z
def tw1241765758719158715:=Z
def tw3562468016979332266:=Z
def tw9242011944485616962:=Z
def tw9046873610533831338:=Z
def tw889019300862469887:=Z
def tw4099406566704844890:=Z
def tw13285781326709420871:=Z
def tw11547305332327054932:=Z
def tw6555328257633504435:=Z
def tw6532401533719362797:=Z
def tw11393748045852135498:=Z
def tw7839292468872844640:=Z
def tw7674706771422838200:=Z
def tw18247508099374095836:=Z
def tw6113394192351752995:=Z
def tw5701582098181131134:=Z
def tw730821151434395252:=Z
def tw12369253517330349956:=Z
def tw10920391578748368550:=Z
def tw15909416591468635059:=Z
def tw3530217342699329203:=Z
def tw9756671400368166672:=Z
def tw938398007626464356:=Z
def tw2863155938948313763:=Z
def tw11743424002084019622:=Z
def tw10388208713125492435:=Z
def tw18339156324304809407:=Z
def tw11631750963934542763:=Z
def tw12075758675398950247:=Z
def tw7589250421171795110:=Z
def tw14251175908660418822:=Z
def tw17972152728486346553:=Z
def tw1825982650907962946:=Z
def tw4928118905426727651:=Z
def tw15158435432893345896:=Z
def tw4634891624344609448:=Z
def tw17881437828863979565:=Z
def tw4627968622376383320:=Z
def tw5781001356893145733:=Z
def tw1033082127651618725:=Z
def tw8693676376395382973:=Z
def tw14797865152694764966:=Z
def tw8362030418198501672:=Z
def tw11095057506224671604:=Z
def tw14336035820139129567:=Z
def tw4365328518110933597:=Z
def tw14641066348839252126:=Z
def tw16504056732999029106:=Z
def tw17801857597319168230:=Z
def tw16434715804859098663:=Z
def tw566279399861047922:=Z
def tw25648756172238492:=Z
def tw17786299243098883371:=Z
def tw10033910529067451862:=Z
def tw18004969128937986462:=Z
def tw9422750273327459195:=Z
def tw9650172653100619338:=Z
def tw12241649419835148841:=Z
def tw7990773999878282386:=Z
def tw1529573272004789188:=Z
def tw6142057337006550469:=Z
def tw11541953327045360092:=Z
def tw2175979702611075495:=Z
def tw10652265473472193075:=Z
def tw7032810582680629943:=Z
def tw18362300403707630567:=Z
def tw8668731754720125117:=Z
def tw14288716812242041640:=Z
def tw13617631834263014098:=Z
def tw141116622416230351:=Z
def tw5020534539784707280:=Z
def tw2242855208105200038:=Z
def tw6025630261088313840:=Z
def tw18207632139750854450:=Z
def tw11039052089312462565:=Z
def tw646278465544467115:=Z
def tw16758959189041630422:=Z
def tw2692619285669840785:=Z
def tw13226731894923717480:=Z
def tw15290133810303218682:=Z
def tw12131586795017521882:=Z
def tw8238836820234800921:=Z
def tw5733019763481544470:=Z
def tw5546561261006288436:=Z
def tw450738031287494165:=Z
def tw7687115341068015250:=Z
def tw7899273364507201725:=Z
def tw17452494259776012345:=Z
def tw2614350011839842641:=Z
def tw17627010862887775076:=Z
def tw11902904655804747622:=Z
def tw4006239621852241987:=Z
def tw5244629626996955620:=Z
def tw15498415383666679706:=Z
def tw11220453530502294590:=Z
def tw7523271827356875390:=Z
def tw4790922911034060039:=Z
def tw1076814928783778684:=Z
def tw9259514900728600573:=Z
def tw17740008637015212402:=Z
def tw16573987134269175470:=Z
def tw13688139500842955791:=Z
def tw12505930727587273015:=Z
def tw4646095952440280148:=Z
def tw16742093259636453067:=Z
def tw15689994390492995036:=Z
def tw3661458120187495295:=Z
def tw7982622302336777417:=Z
def tw8045971480067563906:=Z
def tw17493034170237763370:=Z
def tw13651502382906100679:=Z
def tw1539569115222868833:=Z
def tw2859462768544273795:=Z
def tw1097999113167780520:=Z
def tw5875313036464518529:=Z
def tw12138138341858009532:=Z
def tw1235102777736363178:=Z
def tw15766247451746547709:=Z
def tw10743230970786345622:=Z
def tw10236207326859046348:=Z
def tw16729607363268811644:=Z
def tw10641406977801897968:=Z
def tw12883209753378440040:=Z
def tw13590900485079146256:=Z
def tw13907552460445581588:=Z
def tw292043202087544654:=Z
def tw929720612136623040:=Z
def tw12303688606087965887:=Z
def tw8207485948819702651:=Z
def tw822739167493580159:=Z
def tw486913327391006871:=Z
def tw7752412937982926299:=Z
def tw1931559929302050080:=Z
def tw13098880477707902788:=Z
def tw8814344041666692203:=Z
def tw13847439174566542711:=Z
def tw7231538415928978041:=Z
def tw2891982180117060266:=Z
def tw3870695246631538537:=Z
def tw16910998679623842970:=Z
def tw15879046022778555702:=Z
def tw6737853185891699450:=Z
def tw7125921153692294488:=Z
def tw7843293418854696930:=Z
def tw3972206684981020141:=Z
def tw15252758159346722816:=Z
def tw13194640325589858284:=Z
def tw6511638917806217685:=Z
def tw14973993612605277132:=Z
def tw15858185639575339127:=Z
def tw12790215528912120831:=Z
def tw1826666890732121476:=Z
def tw12569911593094370837:=Z
def tw7891531929236373546:=Z
def tw10451879565872033909:=Z
def tw16545190359890987846:=Z
def tw4357356586674927787:=Z
def tw10710284846532556927:=Z
def tw2772108825496203313:=Z
def tw17999387508141640471:=Z
def tw18237483387769416086:=Z
def tw5881397623324327499:=Z
def tw5139092208174242703:=Z
def tw16130425893620534401:=Z
def tw277170023378890985:=Z
def tw9697968135754909577:=Z
def tw10773263037169804383:=Z
def tw6088047373435697541:=Z
def tw13700575139328817984:=Z
def tw4664804407109048134:=Z
def tw7939143811108210260:=Z
def tw2038124114931727211:=Z
def tw8866710684205079925:=Z
def tw10385122163043062091:=Z
def tw13065755755469240451:=Z
def tw4416776301998528532:=Z
def tw3782489415250043809:=Z
def tw17402210545269149537:=Z
def tw2604185336655108789:=Z
def tw7601452059622720379:=Z
def tw4419454159725189503:=Z
def tw7488273188379805567:=Z
def tw4730413933129406443:=Z
def tw2863107308129160291:=Z
def tw1690287029284297647:=Z
def tw10374508774244611493:=Z
def tw3654714388686765485:=Z
def tw16382852515616785100:=Z
def tw17227655784998122846:=Z
def tw8828897371941400029:=Z
def tw17902835337010502896:=Z
def tw17181145966889735106:=Z
def tw10087458927648163123:=Z
def tw1628914308914724834:=Z
def tw8737886597024098825:=Z
def tw5625664071309788022:=Z
def tw10509490218687354972:=Z
def tw2448843209790775324:=Z
def tw2066673885600252167:=Z
def tw13983186124606010862:=Z
def tw16119797220697205877:=Z
def tw7332727919718361161:=Z
def tw7833026201003428691:=Z
def tw12972147317727208954:=Z
def tw16916576410154698866:=Z
def tw16018124814827347243:=Z
def tw4852893301892313960:=Z
def tw12775057707998395747:=Z
def tw1084325704049433531:=Z
def tw12458894544193494902:=Z
def tw18028169444874912584:=Z
def tw6973998441335056601:=Z
def tw2212002423056974871:=Z
def tw8305669552264604091:=Z
def tw3370299172015131715:=Z
def tw3063494070047516141:=Z
def tw9346871085412171881:=Z
def tw697694633927684253:=Z
def tw6544744936883028078:=Z
def tw12152540198298245723:=Z
def tw17644398729163411780:=Z
def tw17497702004959261152:=Z
def tw4522870590315656190:=Z
def tw10852623214309071405:=Z
def tw15695050327187451625:=Z
def tw10774561537627462874:=Z
def tw592771762813089739:=Z
def tw1995779764635485716:=Z
def tw16721459237715527120:=Z
def tw17487746391747045584:=Z
def tw12486147080698748103:=Z
def tw11344649320285260405:=Z
def tw5372433950915076321:=Z
def tw1107719185192301669:=Z
def tw5074157074654826847:=Z
def tw14754943217169116194:=Z
def tw17464126525442807558:=Z
def tw12078728366042705592:=Z
def tw5928319116754830585:=Z
def tw6824574211668143602:=Z
def tw17733596344521191901:=Z
def tw13030408222960219349:=Z
def tw5470890774260237136:=Z
def tw6799630776468457698:=Z
def tw10208453538061365323:=Z
def tw187816777954055939:=Z
def tw10686269713119959900:=Z
def tw6629621809163319782:=Z
def tw15500208448142813348:=Z
def tw13370920032124525353:=Z
def tw10552338747955108493:=Z
def tw12119749878299822260:=Z
def tw2430597978023635869:=Z
def tw17259219855113666978:=Z
def tw5490060506951301424:=Z
def tw17466032889294145756:=Z
def tw18154093171611085027:=Z
def tw15859862142811572634:=Z
def tw1834619800101632118:=Z
def tw8568383075862111935:=Z
def tw12579009547762597655:=Z
def tw12439855428479655589:=Z
def tw9411829223646366904:=Z
end PySem.W.Fast
open PySem PySem.W PyProof.Rows
set_option maxRecDepth 100000 in
set_option maxHeartbeats 0 in
theorem PySem.Challenge.cw_lazycols_k42_some_rows_holds : PySem.Challenge.rw_lazycols_k42_some_rows.Holds := by
 w_on;o_law;k_head;(case hw=>w_witness2)
 k_fill
 refine My.walk (l:=PySem.Challenge.rw_lazycols_k42_some_rows) rfl rfl rfl (fun w h Y => PySem.W.km_in_of Y) ?R ?F
 case R=>first|exact rfl|decide+kernel
 case F=>
  intro w mg h Y KX G
  refine' My.b5l (PP:=w.params) KX G ?a14 ?a2z ?a62 ?b0u ?a9O ?a92 ?a9j ?a9M ?a1A ?a02 ?a9s ?a4h ?a2a ?a8i ?a2f ?a50 ?a2Q ?a87 ?a3d ?a5G ?a90 ?b0l ?a6y ?a3U ?a6B ?b0T ?mV ?a3w ?b0J ?a0W ?xA ?a2M ?a70 ?a9a ?jL ?a86 ?a6K ?a3v ?oA ?a3z ?a4t ?a36 ?rG ?a3a ?a7S ?a6r ?uL ?a6S ?a2G ?b0S ?uE ?a39 ?a9X ?a6A ?vS ?a41 ?a8y ?a6D ?a0S ?a8m ?a8W ?a1G ?tO ?a34 ?a7D ?a1r ?qD ?a2i ?a69 ?a5t ?mJ ?a9o ?a8u ?a1X ?qG ?a9J ?b0p ?a9K ?nH ?a9e ?a63 ?a1b ?wG ?a6k ?a6C ?a3Q ?vV ?a2m ?a49 ?a0X ?pD ?a9R ?a9k ?a5e ?wY ?a19 ?b0c ?a43 ?vZ ?a8x ?a3g ?a7i ?tU ?a8X ?a9b ?a4Z ?vA ?a2w ?a3y ?a30 ?rX ?b0d ?a9A ?a7X ?xU ?a0f ?a0a ?zO ?a0n ?a2B ?a98 ?notabs ?a58 ?a6N ?b0a ?a6H ?a7k ?a3b ?a8P ?a6j ?a2u ?a0R ?a1J ?a3K ?a8k ?sU ?a4w ?a68 ?a4P ?a6M ?zU ?a0M ?a0q ?a0o ?a4r ?a3u ?a74 ?a8M ?a7u ?a5K ?a9p ?a1t ?a2l ?a81 ?a1B ?a9L ?a4G ?a3A ?wS ?a7G ?a35 ?b0y ?a8z ?tG ?a7H ?a7M ?a4H ?a95 ?qY ?a20 ?a7p ?ow4 ?ow5 ?a5R ?a0Y ?a7J ?a5I ?a46 ?a9u ?a3W ?a1g ?a8N ?a2Y ?a2X ?a4z ?a3n ?a8S ?a2q ?a4q ?xD ?a7y ?b0n ?a8O ?a4o ?jS ?a4x ?a5o ?b0h ?a4J ?b0M ?a3s ?a3J ?a6p ?a4k ?a1j ?a1f ?a5y ?a4M ?a4v ?wA ?a1z ?a4D ?a4V ?a5V ?a2V ?b0R ?a2E ?a59 ?b0t ?yJ ?a2b ?a4I ?a7m ?a91 ?uW ?a2K ?a47 ?a2J ?a94 ?wL ?a9v ?a3p ?a3E ?a6g ?b0X ?a7j ?a2H ?a7v ?a2r ?a3o ?a9Y ?a1F ?a2C ?a7d ?a99 ?a4s ?tL ?a9D ?a4c ?a3x ?a18 ?xY ?a6o ?a1c ?a7g ?a6z ?a4i ?a1m ?a5u ?b0B ?b0I ?a0c ?a0r ?zA ?a0H ?a9V ?a96 ?a6T ?a73 ?a06 ?a6l ?a0t ?zR ?a0A ?zX ?a3r ?a0p ?zD ?a0y ?yX ?a65 ?sZ ?yP ?yV ?nU ?a23 ?uR ?tI ?wU ?nS ?a5M ?vL ?yC ?vG ?oG ?a01 ?uV ?uM ?sR ?oE ?a03 ?vN ?yG ?wC ?uX ?a04 ?a7Z ?b0j ?a3l ?a85 ?a8l ?a3f ?a07 ?a11 ?a4p ?a5P ?a5Z ?a0Z ?a60 ?a0l ?a3M ?b03 ?b0F ?a9d ?pV ?a6q ?a9q ?a4e ?a6f ?rK ?a8Z ?a5X ?a8K ?a75 ?pU ?a9C ?a7o ?a5E ?a6I ?rA ?a1S ?a1K ?a3N ?a5c ?a6X ?a6Z ?b0z ?a9z ?a9w ?a2n ?a3P ?a8T ?a4A ?a7n ?a0V ?a5F ?a3V ?a8w ?a5l ?a0C ?a48 ?a1V ?a8L ?a4g ?wI ?a9l ?b0x ?a6Y ?a38 ?yS ?a7V ?a3C ?a7x ?a57 ?a4d ?a8p ?a78 ?a83 ?a9T ?a56 ?a3S ?a4l ?a7K ?a4Y ?a8f ?b0G ?b0U ?a8B ?a5f ?a5D ?a3j ?a5B ?a5s ?a7P ?vT ?a6h ?a16 ?a9H ?a9m ?pR ?a2d ?a8j ?a1N ?a2N ?tH ?a4u ?a5J ?b0o ?a97 ?a8E ?b04 ?a9x ?a1l ?a5a ?qN ?a26 ?a2O ?a13 ?a8G ?xR ?a1U ?a8Q ?a9G ?a7c ?b0b ?b0Q ?a3F ?a6V ?a4Q ?a7A ?a1D ?a7E ?a33 ?a5r ?a82 ?xK ?a7e ?a4U ?a5C ?a4b ?tZ ?a4O ?b0m ?a8H ?a8U ?a2A ?a12 ?a3Z ?a40 ?a5m ?a4B ?a71 ?a9t ?b0N ?a8b ?a4f ?a1e ?rJ ?a5q ?a5U ?a9S ?a6G ?qH ?a1Y ?a7r ?a44 ?a3Y ?a66 ?a5Q ?a5z ?a3q ?a6F ?a8c ?a00 ?a4L ?a9h ?a5w ?a1W ?sW ?a5g ?a1x ?a88 ?b0O ?a2o ?a0G ?a9I ?b0C ?a2D ?a5N ?b0r ?a32 ?a76 ?a7O ?a8C ?a3i ?a7B ?a7w ?a6W ?a22 ?qW ?a64 ?a9i ?a2p ?b0f ?a6e ?a28 ?a9B ?a3m ?a4X ?b0H ?a0P ?a0w ?a0E ?a0L ?a0k ?b1D ?b1n ?a1h ?tX ?a9g ?a7N ?a8r ?a51 ?a55 ?a53 ?a3D ?a8d ?a5S ?a2F ?a2s ?a2Z ?b0e ?a7C ?b05 ?a05 ?a2W ?a7q ?a7Y ?a2h ?a1w ?a7b ?b0A ?a8I ?a8h ?vH ?a4E ?a2k ?a79 ?a3t ?xQ ?b0K ?a2e ?a5x ?a17 ?sX ?a8A ?a1H ?a8e ?a6P ?a21 ?a2x ?a61 ?a2g ?a1y ?a1a ?a8t ?b0W ?a4S ?a1C ?xF ?a6i ?a84 ?a5L ?a45 ?sK ?a2P ?a6s ?b0g ?a7R ?sI ?a5A ?a1s ?a42 ?a0U ?sV ?a5v ?a1R ?a6J ?a7W ?oI ?a5T ?a4K ?a1I ?a7h ?nD ?a6x ?a5O ?a8v ?a1v ?rM ?a4y ?b01 ?a5p ?a4n ?pP ?a72 ?b0Z ?a7l ?a3h ?xH ?b0k ?a9N ?a7z ?a8s ?sE ?a4T ?a1O ?b0v ?a6t ?a7a ?sP
  case a14|a2z|a62|b0u|a9O|a92|a9j|a9M|a1A|a02|a9s|a4h|a2a|a8i|a2f|a50|a2Q|a87|a3d|a5G|a90|b0l|a6y|a3U|a6B|b0T|mV|a3w|b0J|a0W|xA|a2M|a70|a9a|jL|a86|a6K|a3v|oA|a3z|a4t|a36|rG|a3a|a7S|a6r|uL|a6S|a2G|b0S|uE|a39|a9X|a6A|vS|a41|a8y|a6D|a0S|a8m|a8W|a1G|tO|a34|a7D|a1r|qD|a2i|a69|a5t|mJ|a9o|a8u|a1X|qG|a9J|b0p|a9K|nH|a9e|a63|a1b|wG|a6k|a6C|a3Q|vV|a2m|a49|a0X|pD|a9R|a9k|a5e|wY|a19|b0c|a43|vZ|a8x|a3g|a7i|tU|a8X|a9b|a4Z|vA|a2w|a3y|a30|rX|b0d|a9A|a7X|xU|a0f|a0a|zO|a0n|a2B=>k_is
  (case a98=>exact rfl)
  (case notabs=>kernel_rfl)
  case a58|a6N|b0a|a6H|a7k|a3b|a8P|a6j|a2u|a0R|a1J|a3K|a8k|sU|a4w|a68|a4P|a6M|zU|a0M|a0q|a0o|a4r|a3u|a74|a8M|a7u|a5K|a9p|a1t|a2l|a81|a1B|a9L|a4G|a3A|wS|a7G|a35|b0y|a8z|tG|a7H|a7M|a4H|a95|qY|a20=>k_is
  (case a7p=>kit_is)
  case ow4|ow5|a5R|a0Y|a7J|a5I|a46|a9u|a3W|a1g|a8N|a2Y|a2X|a4z|a3n|a8S|a2q|a4q|xD|a7y|b0n|a8O|a4o|jS|a4x|a5o|b0h|a4J|b0M|a3s|a3J|a6p|a4k|a1j|a1f|a5y|a4M|a4v|wA|a1z|a4D|a4V|a5V|a2V|b0R|a2E|a59|b0t|yJ|a2b|a4I|a7m|a91|uW|a2K|a47|a2J|a94|wL|a9v|a3p|a3E|a6g|b0X|a7j|a2H|a7v|a2r|a3o|a9Y|a1F|a2C|a7d|a99|a4s|tL|a9D|a4c|a3x|a18|xY|a6o|a1c|a7g|a6z|a4i|a1m|a5u|b0B|b0I|a0c|a0r|zA|a0H|a9V|a96|a6T|a73|a06|a6l|a0t|zR|a0A|zX|a3r|a0p|zD|a0y|yX|a65|sZ|yP|yV|nU|a23|uR|tI|wU|nS|a5M|vL|yC|vG|oG|a01|uV|uM|sR|oE|a03|vN|yG|wC|uX|a04|a7Z|b0j|a3l|a85|a8l|a3f|a07|a11|a4p|a5P|a5Z|a0Z|a60|a0l|a3M|b03|b0F|a9d|pV|a6q|a9q|a4e|a6f|rK|a8Z|a5X|a8K|a75|pU|a9C|a7o|a5E|a6I|rA|a1S|a1K|a3N|a5c|a6X|a6Z|b0z|a9z|a9w|a2n|a3P|a8T|a4A|a7n|a0V|a5F|a3V|a8w|a5l|a0C|a48|a1V|a8L|a4g|wI|a9l|b0x|a6Y|a38|yS|a7V|a3C|a7x|a57|a4d|a8p|a78|a83|a9T|a56|a3S|a4l|a7K|a4Y|a8f|b0G|b0U|a8B|a5f|a5D|a3j|a5B|a5s|a7P|vT|a6h|a16|a9H|a9m|pR|a2d|a8j|a1N|a2N|tH|a4u|a5J|b0o|a97|a8E|b04|a9x|a1l|a5a|qN|a26|a2O|a13|a8G|xR|a1U|a8Q|a9G|a7c|b0b|b0Q|a3F|a6V|a4Q|a7A|a1D|a7E|a33|a5r|a82|xK|a7e|a4U|a5C|a4b|tZ|a4O|b0m|a8H|a8U|a2A|a12|a3Z|a40|a5m|a4B|a71|a9t|b0N|a8b|a4f|a1e|rJ|a5q|a5U|a9S|a6G|qH|a1Y|a7r|a44|a3Y|a66|a5Q|a5z|a3q|a6F|a8c|a00|a4L|a9h|a5w|a1W|sW|a5g|a1x|a88|b0O|a2o|a0G|a9I|b0C|a2D|a5N|b0r|a32|a76|a7O|a8C|a3i|a7B|a7w|a6W|a22|qW|a64|a9i|a2p|b0f|a6e|a28|a9B|a3m|a4X|b0H|a0P|a0w|a0E|a0L|a0k|b1D=>k_is
  (case b1n=>exact rfl)
  (case a1h=>kernel_rfl)
  (case tX=>exact PySem.W.km_tabs_of Y _ (by decide))
  case a9g|a7N|a8r|a51|a55|a53|a3D|a8d|a5S|a2F|a2s|a2Z|b0e|a7C|b05|a05|a2W|a7q|a7Y|a2h|a1w|a7b|b0A|a8I|a8h|vH|a4E|a2k|a79|a3t|xQ|b0K|a2e|a5x|a17|sX|a8A|a1H|a8e|a6P|a21|a2x|a61|a2g|a1y|a1a|a8t|b0W|a4S|a1C|xF|a6i|a84|a5L|a45|sK|a2P|a6s|b0g|a7R|sI|a5A|a1s|a42|a0U|sV|a5v|a1R|a6J|a7W|oI|a5T|a4K|a1I|a7h|nD|a6x|a5O|a8v|a1v|rM|a4y|b01|a5p|a4n|pP|a72|b0Z|a7l|a3h|xH|b0k|a9N|a7z|a8s|sE|a4T|a1O|b0v|a6t|a7a=>k_is
  (case sP=>decide)