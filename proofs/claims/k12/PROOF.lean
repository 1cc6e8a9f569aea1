import PyProof.Rows.All
import Wide.All
import OpenK.AllK
import Wide.FinOn
import Lean
import PyProof.EqAt
import PyProof.EqKinds
import PyProof.TupleCall
import PySem.Challenge.RW_oneglance_k12_attempts_and_times
set_option maxHeartbeats 4000000
set_option Elab.async false
set_option linter.all false
set_option maxRecDepth 100000
noncomputable section
namespace L2
open PySem PySem.Spec PyProof.Rows
abbrev Key:=Sum Int Str
def o8:Key->Value->Bool
 |.inl k,v=>Value.isInt k v
 |.inr x,v=>Value.isStrOf x v
def Jc(w:World):Key->Int
 |.inl k=>hashInt k
 |.inr x=>hashStr w x
theorem bA:∀{k:Key} {v:Value},o8 k v=true->(∃i t,k=Sum.inl i/\v=Value.int i t)\/(∃x t,k=Sum.inr x/\v=Value.str x t)
 |.inl i,v,h=>by
  obtain⟨t,e⟩:=Value.isInt_shape (k:=i) (v:=v) h
  exact .inl ⟨i,t,rfl,e⟩
 |.inr x,v,h=>by
  obtain⟨t,e⟩:=Value.isStrOf_shape (x:=x) (v:=v) h
  exact .inr ⟨x,t,rfl,e⟩
theorem uP(i:Int)(t:Tok):o8 (.inl i) (.int i t)=true:=by simp[o8,Value.isInt]
theorem uO(x:Str)(t:Tok):o8 (.inr x) (.str x t)=true:=by simp[o8,Value.isStrOf]
theorem Eg(a b:Int):decide ((Sum.inl a:Key)=Sum.inl b)=(a == b):=by
 by_cases e:a=b
 ·subst e;simp
 ·have h:¬(Sum.inl a:Key)=Sum.inl b:=fun q=>e (Sum.inl.inj q)
  rw[decide_eq_false h]
  exact(beq_eq_false_iff_ne.mpr e).symm
theorem Ed(a b:Str):decide ((Sum.inr a:Key)=Sum.inr b)=decide (a=b):=by
 by_cases e:a=b
 ·subst e;simp
 ·have h:¬(Sum.inr a:Key)=Sum.inr b:=fun q=>e (Sum.inr.inj q)
  rw[decide_eq_false h,decide_eq_false e]
theorem Ef(a:Int)(b:Str):decide ((Sum.inl a:Key)=Sum.inr b)=false:=decide_eq_false (fun q=>nomatch q)
theorem Ee(a:Str)(b:Int):decide ((Sum.inr a:Key)=Sum.inl b)=false:=decide_eq_false (fun q=>nomatch q)
def cu(prog:Program)(w:World):PySem.KeyKind prog w Key where
 is:=o8
 hash:=Jc w
 inj:=fun v a b ha hb=>by
  rcases bA ha with⟨i,t,rfl,rfl⟩|⟨x,t,rfl,rfl⟩
  ·rcases bA hb with⟨j,u,rfl,e⟩|⟨y,u,rfl,e⟩
   ·injection e with e1 _;rw[e1]
   ·exact nomatch e
  ·rcases bA hb with⟨j,u,rfl,e⟩|⟨y,u,rfl,e⟩
   ·exact nomatch e
   ·injection e with e1 _;rw[e1]
 byValue:=fun k v h=>by
  rcases bA h with⟨i,t,rfl,rfl⟩|⟨x,t,rfl,rfl⟩<;>rfl
 pyHash:=fun hv h=>by
  rcases bA hv with⟨i,t,rfl,rfl⟩|⟨x,t,rfl,rfl⟩
  ·exact wpAny_pyHash_int h
  ·exact wpAny_pyHash_str h
 eqBool:=fun hu hv h=>by
  rcases bA hu with⟨i,t,rfl,rfl⟩|⟨x,t,rfl,rfl⟩
  ·rcases bA hv with⟨j,u,rfl,rfl⟩|⟨y,u,rfl,rfl⟩
   ·rw[Eg]at h;exact wpAny_eqBool_int h
   ·rw[Ef]at h;exact SeqAt.EqAt.int_str i t y u _ _ _ _ h
  ·rcases bA hv with⟨j,u,rfl,rfl⟩|⟨y,u,rfl,rfl⟩
   ·rw[Ee]at h;exact SeqAt.EqAt.str_int x t j u _ _ _ _ h
   ·rw[Ed]at h;exact wpAny_eqBool_str h
 «strs»:=fun k x t v h=>by
  rcases bA h with⟨i,u,rfl,e⟩|⟨y,u,rfl,e⟩
  ·exact nomatch e
  ·injection e with e1 _
   subst e1
   cases v<;>rfl
theorem o7(prog:Program)(w:World)(i:Int)(t:Tok):(cu prog w).is (.inl i) (.int i t)=true:=uP i t
theorem o6(prog:Program)(w:World)(x:Str)(t:Tok):(cu prog w).is (.inr x) (.str x t)=true:=uO x t
inductive V where
 |non|bl (b:Bool)|int (i:Int)|str (x:Str)|byt (b:Array UInt8)|flt (b:UInt64)|ref (a:Addr)|ty (n:String)
 deriving DecidableEq
def cE:V->Value->Prop
 |.non,u=>u=Value.none
 |.bl b,u=>u=Value.bool b
 |.int i,u=>∃t,u=Value.int i t
 |.str x,u=>∃t,u=Value.str x t
 |.byt b,u=>∃t,u=Value.bytes b t
 |.flt b,u=>∃t,u=Value.float b t
 |.ref a,u=>u=Value.ref a
 |.ty n,u=>u=Value.type n
abbrev bN:List V->List Value->Prop:=Paired cE
theorem bN.length{xs:List V}{us:List Value}(r:bN xs us):xs.length=us.length:=Paired.length r
theorem bN.get:∀{xs:List V} {us:List Value} {i:Nat} {x:V},bN xs us->xs[i]?=some x->∃u,us[i]?=some u/\cE x u
 |_,_,_,_,.nil,e=>by simp at e
 |_,_,0,_,.cons r _,e=>by simp at e;subst e;exact⟨_,rfl,r⟩
 |_,_,i+1,x,.cons _ t,e=>by
  obtain⟨u,h1,h2⟩:=bN.get (i:=i) (x:=x) t (by simpa using e)
  exact⟨u,by simpa using h1,h2⟩
theorem bN.set{x:V}{u:Value}(r:cE x u):∀{xs:List V} {us:List Value} (i:Nat),bN xs us->bN (xs.set i x) (us.set i u)
 |_,_,_,.nil=>.nil
 |_,_,0,.cons _ t=>.cons r t
 |_,_,i+1,.cons q t=>.cons q (bN.set r i t)
theorem bN.append:∀{xs ys:List V} {us ws:List Value},bN xs us->bN ys ws->bN (xs++ys) (us++ws)
 |_,_,_,_,.nil,s=>s
 |_,_,_,_,.cons r t,s=>.cons r (bN.append t s)
theorem bN.take:∀{xs:List V} {us:List Value} (n:Nat),bN xs us->bN (xs.take n) (us.take n)
 |_,_,0,_=>.nil
 |_,_,_+1,.nil=>.nil
 |_,_,n+1,.cons r t=>.cons r (bN.take n t)
theorem bN.drop:∀{xs:List V} {us:List Value} (n:Nat),bN xs us->bN (xs.drop n) (us.drop n)
 |_,_,0,r=>r
 |_,_,_+1,.nil=>.nil
 |_,_,n+1,.cons _ t=>bN.drop n t
def ng:Option V->Option Value->Prop
 |some v,some u=>cE v u
 |none,none=>True
 |_,_=>False
def KV{κ:Type}:List (κ×V)->List (κ×Value)->Prop:=Paired fun(p:κ×V) (q:κ×Value)=>p.1=q.1/\cE p.2 q.2
def kV:Key->V
 |.inl i=>.int i
 |.inr x=>.str x
inductive HO where
 |lst (xs:List V)
 |tup (xs:List V)
 |dK (kvs:List (Key×V))|dT (kvs:List (List Key×V))
 |set (S:Int->Bool) (n:Nat)
 |ins (C dx:Addr) (fs:List (Str×V))
 |own (x:Addr)
 |xd (fs:List (Str×V))
 |met (f x:Addr)
 |rng (lo hi:Int)
 |frz (o:Obj) (u:HO)
 |tbl (ps:Array Value)
 |ext (φ:Heap->Prop)
abbrev Hp:=Addr->Option HO
def upd(H:Hp)(a:Addr)(o:HO):Hp:=fun b=>if b=a then some o else H b
theorem aJ{H:Hp}{a:Addr}{o:HO}:upd H a o a=some o:=by unfold upd;rw[if_pos rfl]
theorem aV{H:Hp}{a b:Addr}{o:HO}(h:b≠a):upd H a o b=H b:=by unfold upd;rw[if_neg h]
theorem GZ{H:Hp}{a b:Addr}{o u:HO}(h:H a=some o)(h':H b=some u)(d:o≠u):a≠b:=by
 intro e;subst e;rw[h]at h';exact d (Option.some.inj h')
theorem bY{H:Hp}{a b:Addr}{o:HO}(h:H a=some o)(h':H b=none):a≠b:=by
 intro e;subst e;rw[h]at h';cases h'
section
variable(P:Program)(w:World)
def cK(H:Hp)(h:Heap)(a:Addr):HO->Prop
 |.lst xs=>xs.length<=sizeLine/\∃(its:List Value) (n:Nat),bN xs its/\h.get? a=some { cls:=.type "list",data:=.seq its.toArray n }
 |.tup xs=>xs.length<=sizeLine/\∃its:List Value,bN xs its/\IsTup h a its.toArray
 |.dK kvs=>kvs.length<=sizeLine/\(a == sysModules)=false/\∃vs,KV kvs vs/\h.DictOf (cu P w) a vs
 | .dT kvs=>kvs.length<=sizeLine/\(a == sysModules)=false/\∃xs:List (List Key×Addr×Value),
   Paired (fun(p:List Key×V) (q:List Key×Addr×Value)=>p.1=q.1/\H q.2.1=some (.tup (p.1.map kV))/\cE p.2 q.2.2) kvs xs/\
   ∃o es ep,h.get? a=some o/\o.ExactDict/\o.data=.dict es ep/\es.toList=xs.map (entryOfKey (tupleKind (cu P w)))/\(xs.map (·.1)).Nodup
 |.set S n=>h.SetOf (intKind P w) a S n
 | .ins C dx fs=>H dx=some (.own a)/\fs.length<=1000/\dx≠a/\h.get? a=some (PySem.W.instObj C dx)/\
   ∃mA,h.Ns1 dx mA/\(∀f,ng (fs.lookup f) (mA f))/\PySem.Within mA (fs.map (·.1))
 |.own _=>∃o,h.get? a=some o
 |.xd fs=>∃mA,h.Ns1 a mA/\∀f,ng (fs.lookup f) (mA f)
 |.rng lo hi=>∃t u v,h.get? a=some { cls:=.type "range",data:=.fields #[.int lo t,.int hi u,.int 1 v] }
 |.frz o u=>h.get? a=some o/\cK H h a u
 |.tbl ps=>h.get? a=some { cls:=.none,data:=.fields ps }
 |.met f x=>h.get? a=some (PySem.W.methodObj (.ref f) (.ref x))
 |.ext φ=>φ h/\(∃o,h.get? a=some o)/\∀h1 h2:Heap,φ h1->(∀o,h1.get? a=some o->h2.get? a=some o)->φ h2
def HOk(H:Hp)(h:Heap):Prop:=∀a o,H a=some o->cK P w H h a o
end
section
variable{P:Program}{w:World}{H H':Hp}{h h':Heap}{a:Addr}{o:HO}
theorem cK.lt(x:cK P w H h a o):a<h.objs.size:=by
 cases o with
 |lst xs=>obtain⟨_,_,_,_,e⟩:=x;exact Heap.lt_size e
 |tup xs=>obtain⟨_,_,_,p⟩:=x;exact p.lt
 |dK kvs=>obtain⟨_,_,_,_,o,_,_,e,_⟩:=x;exact Heap.lt_size e
 |dT kvs=>obtain⟨_,_,_,_,o,_,_,e,_⟩:=x;exact Heap.lt_size e
 |set S n=>obtain⟨o,_,_,_,e,_⟩:=x;exact Heap.lt_size e
 |ins C dx fs=>obtain⟨_,_,_,e,_⟩:=x;exact Heap.lt_size e
 |own y=>obtain⟨_,e⟩:=x;exact Heap.lt_size e
 |xd fs=>obtain⟨_,⟨_,_,_,e,_⟩,_⟩:=x;exact Heap.lt_size e
 |rng lo hi=>obtain⟨_,_,_,e⟩:=x;exact Heap.lt_size e
 |frz ob u=>obtain⟨e,_⟩:=x;exact Heap.lt_size e
 |tbl ps=>exact Heap.lt_size (show h.get? a=some _ from x)
 |met f y=>exact Heap.lt_size (show h.get? a=some _ from x)
 |ext φ=>obtain⟨_,⟨_,e⟩,_⟩:=x;exact Heap.lt_size e
theorem Paired.mapP{α β:Type}{F G:α->β->Prop}:∀{l₁:List α} {l₂:List β},Paired F l₁ l₂->(∀a b,F a b->G a b)->Paired G l₁ l₂
 |_,_,.nil,_=>.nil
 |_,_,.cons r t,f=>.cons (f _ _ r) (Paired.mapP t f)
theorem cK.stay(x:cK P w H h a o)(k:∀b u,(b=a\/H b=some (.own a))->h.get? b=some u->h'.get? b=some u)
  (ho:∀b,H b=some (.own a)->H' b=some (.own a)) (ht:∀b xs,H b=some (.tup xs)->H' b=some (.tup xs)):cK P w H' h' a o:=by
 induction o with
 |lst xs=>obtain⟨z,its,n,r,e⟩:=x;exact⟨z,its,n,r,k _ _ (.inl rfl) e⟩
 |tup xs=>obtain⟨z,its,r,ob,e,c⟩:=x;exact⟨z,its,r,ob,k _ _ (.inl rfl) e,c⟩
 |dK kvs=>obtain⟨z,y,vs,r,ob,es,ep,e,c⟩:=x;exact⟨z,y,vs,r,ob,es,ep,k _ _ (.inl rfl) e,c⟩
 |dT kvs=>
  obtain⟨z,y,xs,r,ob,es,ep,e,c⟩:=x
  exact⟨z,y,xs,Paired.mapP r fun p q z=>⟨z.1,ht _ _ z.2.1,z.2.2⟩,ob,es,ep,k _ _ (.inl rfl) e,c⟩
 |set S n=>obtain⟨ob,es,ep,t,e,c⟩:=x;exact⟨ob,es,ep,t,k _ _ (.inl rfl) e,c⟩
 |ins C dx fs=>
  obtain⟨d,z,ne,e,mA,⟨od,es,ep,e2,c⟩,r⟩:=x
  exact⟨ho _ d,z,ne,k _ _ (.inl rfl) e,mA,⟨od,es,ep,k _ _ (.inr d) e2,c⟩,r⟩
 |own y=>obtain⟨ob,e⟩:=x;exact⟨ob,k _ _ (.inl rfl) e⟩
 |xd fs=>obtain⟨mA,⟨od,es,ep,e,c⟩,r⟩:=x;exact⟨mA,⟨od,es,ep,k _ _ (.inl rfl) e,c⟩,r⟩
 |rng lo hi=>obtain⟨t,u,v,e⟩:=x;exact⟨t,u,v,k _ _ (.inl rfl) e⟩
 |frz ob u ih=>obtain⟨e,q⟩:=x;exact⟨k _ _ (.inl rfl) e,ih q⟩
 |tbl ps=>
  have e:h.get? a=some { cls:=.none,data:=.fields ps }:=x
  show h'.get? a=some { cls:=.none,data:=.fields ps }
  exact k a _ (.inl rfl) e
 |met f y=>
  have e:h.get? a=some (PySem.W.methodObj (.ref f) (.ref y)):=x
  show h'.get? a=some (PySem.W.methodObj (.ref f) (.ref y))
  exact k a _ (.inl rfl) e
 |ext φ=>obtain⟨p,⟨o,e⟩,st⟩:=x;exact⟨st _ _ p fun o q=>k _ _ (.inl rfl) q,⟨o,k _ _ (.inl rfl) e⟩,st⟩
theorem HOk.lt(x:HOk P w H h)(e:H a=some o):a<h.objs.size:=(x a o e).lt
theorem HOk.fresh(x:HOk P w H h)(e:h.objs.size<=a):H a=none:=by
 cases q:H a with
 |none=>rfl
 |some u=>exact absurd (Nat.lt_of_lt_of_le (x.lt q) e) (Nat.lt_irrefl _)
theorem HOk.kept(x:HOk P w H h)(k:∀b u,h.get? b=some u->h'.get? b=some u):HOk P w H h':=fun a o e=>
 (x a o e).stay (fun b u _ q=>k b u q) (fun _ q=>q) fun _ _ q=>q
theorem HOk.laid(x:HOk P w H h)(k:∀b u,h.get? b=some u->h'.get? b=some u)(hp:h.objs.size<=a)(new:cK P w (upd H a o) h' a o):HOk P w (upd H a o) h':=fun b u e=>by
 have hn:=x.fresh hp
 by_cases hb:b=a
 ·subst hb;rw[aJ]at e;cases e;exact new
 ·rw[aV hb]at e
  exact(x b u e).stay (fun c v _ q=>k c v q) (fun c q=>by rw[aV (bY q hn)];exact q) fun c xs q=>by rw[aV (bY q hn)];exact q
end
def Rd(H:Hp)(a:Addr)(u:HO):Prop:=H a=some u\/∃o,H a=some (.frz o u)
theorem Rd.ok{P:Program}{w:World}{H:Hp}{h:Heap}{a:Addr}{u:HO}(r:Rd H a u)(x:HOk P w H h):cK P w H h a u:=by
 rcases r with r|⟨o,r⟩
 ·exact x a u r
 ·obtain⟨_,q⟩:=x a _ r
  exact q
def Mut:Option HO->Prop
 |some (.lst _)=>True
 |some (.dK _)=>True
 |some (.dT _)=>True
 |some (.set _ _)=>True
 |some (.ins _ _ _)=>True
 |some (.ext _)=>True
 |_=>False
section
variable{P:Program}{w:World}{H:Hp}{h h':Heap}{x e:Addr}{o':HO}
theorem HOk.write(ok:HOk P w H h)(mu:Mut (H x))(he:e=x\/H e=some (.own x))(k:∀b u,b≠e->h.get? b=some u->h'.get? b=some u)(heo:∃u,h'.get? e=some u)
  (new:cK P w (upd H x o') h' x o'):HOk P w (upd H x o') h':=fun b u q=>by
 have nown:∀c y,H c=some (.own y)->c≠x:=fun c y r z=>by subst z;rw[r]at mu;exact mu
 have ntup:∀c xs,H c=some (.tup xs)->c≠x:=fun c xs r z=>by subst z;rw[r]at mu;exact mu
 by_cases hb:b=x
 ·subst hb;rw[aJ]at q;cases q;exact new
 ·rw[aV hb]at q
  by_cases hbe:b=e
  ·have q':H b=some (.own x):=by
    rcases he with z|z
    ·exact absurd (hbe.trans z) hb
    ·rw[hbe];exact z
   rw[q]at q';cases q'
   obtain⟨v,hv⟩:=heo
   exact⟨v,by rw[hbe];exact hv⟩
  ·refine(ok b u q).stay (fun c v hc r=>k c v ?_ r) (fun c r=>by rw[aV (nown c b r)];exact r) fun c xs r=>by rw[aV (ntup c xs r)];exact r
   rcases hc with rfl|hc
   ·exact hbe
   ·rintro rfl
    rcases he with z|z
    ·exact nown c b hc z
    ·rw[hc]at z;cases z;exact hb rfl
end
structure Un(fs ex:List Addr)(H H':Hp)(h h':Heap):Prop where
 keep:∀b o,h.get? b=some o->H b=none->b∉fs->b∉ex->h'.get? b=some o
 slot:∀b o,h.get? b=some o->H b=none->b∈fs->b∉ex->∃sl,h'.get? b=some { o with slots:=sl }
 free:∀b o,h.get? b=some o->H b=none->b∉ex->H' b=none
 there:∀b o,h.get? b=some o->b∉ex->∃o',h'.get? b=some o'
 tups:∀b xs,H b=some (.tup xs)->H' b=some (.tup xs)
 frzs:∀b o u,H b=some (.frz o u)->H' b=some (.frz o u)
 tbls:∀b ps,H b=some (.tbl ps)->∃more,H' b=some (.tbl (ps++more))
section
variable{fs fs' ex ex':List Addr}{H H1 H2:Hp}{h h1 h2 h':Heap}{a x e:Addr}{o:HO}
theorem Un.any(u:Un fs ex H H1 h h1){b:Addr}{ob:Obj}(q:h.get? b=some ob)(n:H b=none)(hx:b∉ex):∃sl,h1.get? b=some { ob with slots:=sl }:=by
 by_cases hb:b∈fs
 ·exact u.slot b ob q n hb hx
 ·exact⟨ob.slots,u.keep b ob q n hb hx⟩
theorem Un.kept(k:∀b u,h.get? b=some u->h'.get? b=some u):Un fs ex H H h h':=
 ⟨fun b ob q _ _ _=>k b ob q,fun b ob q _ _ _=>⟨ob.slots,k b ob q⟩,fun _ _ _ n _=>n,fun b ob q _=>⟨ob,k b ob q⟩,fun _ _ q=>q,fun _ _ _ q=>q,fun _ ps q=>⟨#[],by rw[q];simp⟩⟩
theorem Un.refl:Un fs ex H H h h:=Un.kept fun _ _ q=>q
theorem Un.laid(k:∀b u,h.get? b=some u->h'.get? b=some u)(hp:h.objs.size<=a)(hn:H a=none):Un fs ex H (upd H a o) h h' where
 keep:=fun b u q _ _ _=>k b u q
 slot:=fun b u q _ _ _=>⟨u.slots,k b u q⟩
 free:=fun b u q n _=>by rw[aV (Nat.ne_of_lt (Nat.lt_of_lt_of_le (Heap.lt_size q) hp))];exact n
 there:=fun b u q _=>⟨u,k b u q⟩
 tups:=fun b xs q=>by rw[aV (bY q hn)];exact q
 frzs:=fun b u xs q=>by rw[aV (bY q hn)];exact q
 tbls:=fun b ps q=>⟨#[],by rw[aV (bY q hn),q];simp⟩
theorem Un.write(mu:Mut (H x))(he:e=x\/H e=some (.own x))(k:∀b u,b≠e->h.get? b=some u->h'.get? b=some u)(heo:∃u,h'.get? e=some u):Un fs ex H (upd H x o) h h':=by
 have hx:∀b,H b=none->b≠x:=fun b n z=>by subst z;rw[n]at mu;exact mu
 have hb:∀b,H b=none->b≠e:=fun b n z=>by
  subst z
  rcases he with r|r
  ·exact hx b n r
  ·rw[n]at r;cases r
 have hm:∀b u,H b=some u->¬Mut (some u)->b≠x:=fun b u q nm z=>by subst z;rw[q]at mu;exact nm mu
 refine⟨fun b u q n _ _=>k b u (hb b n) q,fun b u q n _ _=>⟨u.slots,k b u (hb b n) q⟩,fun b u q n _=>by rw[aV (hx b n)];exact n,fun b u q _=>?_,
  fun b xs q=>by rw[aV (hm b _ q fun z=>z)];exact q,fun b u xs q=>by rw[aV (hm b _ q fun z=>z)];exact q,fun b ps q=>⟨#[],by rw[aV (hm b _ q fun z=>z),q];simp⟩⟩
 by_cases hbe:b=e
 ·subst hbe;exact heo
 ·exact⟨u,k b u hbe q⟩
end
def trk(h:Heap)(H:Hp):List Addr:=(List.range h.objs.size).filter fun a=>(H a).isSome
def xX(h:Heap)(H:Hp):Heap:=PySem.W.hideAll h (trk h H)
theorem u9(h:Heap)(H:Hp):(xX h H).objs.size=h.objs.size:=PySem.W.hideAll_size _ _
theorem xW{h:Heap}{H:Hp}{b:Addr}{o:Obj}(e:h.get? b=some o)(n:H b=none):(xX h H).get? b=some o:=
 PySem.W.hideAll_get _ e fun hm=>by
  have q:(H b).isSome=true:=(List.mem_filter.mp hm).2
  rw[n]at q;simp at q
theorem AZ{h:Heap}{H:Hp}{b:Addr}{o:Obj}(e:(xX h H).get? b=some o):h.get? b=some o/\H b=none:=by
 have e':h.get? b=some o:=PySem.W.of_hideAll (trk h H) e
 refine⟨e',?_⟩
 cases q:H b with
 |none=>rfl
 |some x=>
  have hm:b∈trk h H:=List.mem_filter.mpr ⟨List.mem_range.mpr (Heap.lt_size e'),by simp[q]⟩
  have z:(xX h H).get? b=none:=PySem.W.hideAll_none (trk h H) hm
  rw[z]at e;cases e
structure Mod(K:PySem.W.Frag)(mg:Str->Option Value)(base:Heap):Prop where
 kin:K.In base
 glob:base.Ns mainGlobals mg
 blt:∃mb,base.Ns builtinsNs mb/\∀x:Str,x≠"__name__"->mb x=bootBuiltins x
 nolimit:base.NoLimit
structure Cx where
 prog:Program
 w:World
 K:PySem.W.Frag
 mg:Str->Option Value
 base:Heap
 A:Around
 N:List Str
 s₀:Shared
 H₀:Hp
 env:Env
 outer:List Env
 stack:List Env
 ex:List Addr
 fn:Str->Bool
 calm:Bool
 pn:List (Addr×Obj)
 xe:Value->Shared->Prop
def frs(l:List Env):List Addr:=l.filterMap (·.frame)
abbrev Cx.fs(X:Cx):List Addr:=frs X.outer
def Vis(sc:Scope)(x:Str):Prop:=sc.names.lookup x=some .local\/sc.names.lookup x=some .cell\/sc.names.lookup x=some .free
def Loc(sc:Scope)(x:Str):Prop:=sc.names.lookup x=some .local\/sc.names.lookup x=some .cell
def Ji(env:Env)(h:Heap)(m:Str->Option Value)(x:Str)(u:Value):Prop:=
 (env.kindOf x=some .local/\m x=some u)\/((env.kindOf x=some .cell\/env.kindOf x=some .free)/\∃c,env.cells.lookup x=some c/\h.IsCell c (some u))
structure Cx.Ok(X:Cx):Prop where
 mod:Mod X.K X.mg X.base
 kind:X.env.scope.kind=.function
 glob:X.env.globals=mainGlobals
 blt:X.env.builtins=builtinsNs
 above:X.s₀.heap.objs.size<=X.env.locals
 inj:∀x y c,X.env.cells.lookup x=some c->X.env.cells.lookup y=some c->x=y
 has:∀x,(X.env.kindOf x=some .cell\/X.env.kindOf x=some .free)->∃c,X.env.cells.lookup x=some c
 cab:∀x c,X.fn x=true->X.env.cells.lookup x=some c->X.s₀.heap.objs.size<=c
 hd:X.calm=true->X.A.handled=none
 frames:X.A.frames=some X.stack
 stk:X.stack=X.outer\/(X.stack=X.env::X.outer/\X.env.frame=some X.env.locals)
 exf:∀b∈X.ex,b≠X.env.locals/\∀x c,X.env.cells.lookup x=some c->c≠b
 bs:∀b o,X.base.get? b=some o->X.s₀.heap.get? b=some o/\X.H₀ b=none
 bsz:X.base.objs.size<=X.s₀.heap.objs.size
 noex:∀b o,X.base.get? b=some o->b∉X.ex
 exfs:∀b∈X.ex,b∉X.fs
 funs:X.s₀.heap.FunFrames X.base X.outer
 frf:∀b∈X.fs,X.H₀ b=none
structure Inv(X:Cx)(pins:List (Addr×Obj))(σ:List (Option V))(H:Hp)(s:Shared):Prop where
 ok:X.Ok
 os:s.os=X.s₀.os
 bare:AllBare s.gens
 base:Un X.fs X.ex X.H₀ H X.s₀.heap s.heap
 loc:∃m,s.heap.Ns X.env.locals m/\∀(i:Nat) (x:Str) (v:V),X.N[i]?=some x->σ[i]?=some (some v)->Vis X.env.scope x->∃u,cE v u/\Ji X.env s.heap m x u
 cell:∀x c,X.env.cells.lookup x=some c->∃v,s.heap.IsCell c v
 free:H X.env.locals=none
 freeC:∀x c,X.env.cells.lookup x=some c->H c=none
 pin:∀p∈X.pn++pins,s.heap.get? p.1=some p.2/\H p.1=none/\p.1≠X.env.locals/\p.1∉X.fs/\∀v,p.2.data≠.cell v
 hok:HOk X.prog X.w H s.heap
 len:σ.length=X.N.length
section
variable{X:Cx}{pins:List (Addr×Obj)}{σ:List (Option V)}{H H':Hp}{s:Shared}{h':Heap}
theorem Cx.Ok.nofr(ok:X.Ok){b:Addr}{o:Obj}(e:X.base.get? b=some o):b∉X.fs:=fun hb=>by
 have:=(ok.funs.mem hb).1
 rw[e]at this;cases this
theorem Inv.bs(I:Inv X pins σ H s):∀b o,X.base.get? b=some o->s.heap.get? b=some o/\H b=none:=fun b o e=>
 ⟨I.base.keep b o (I.ok.bs b o e).1 (I.ok.bs b o e).2 (I.ok.nofr e) (I.ok.noex b o e),I.base.free b o (I.ok.bs b o e).1 (I.ok.bs b o e).2 (I.ok.noex b o e)⟩
theorem Inv.bk(I:Inv X pins σ H s):∀b o,X.base.get? b=some o->s.heap.get? b=some o:=fun b o e=>(I.bs b o e).1
theorem Inv.mod(I:Inv X pins σ H s):Mod X.K X.mg X.base:=I.ok.mod
theorem Inv.kIn(I:Inv X pins σ H s):X.K.In s.heap:=I.ok.mod.kin.keeps I.bk
theorem Inv.lt(I:Inv X pins σ H s):X.env.locals<s.heap.objs.size:=let ⟨_,hn,_⟩:=I.loc;hn.lt
theorem Inv.sz(I:Inv X pins σ H s):X.s₀.heap.objs.size<=s.heap.objs.size:=Nat.le_trans I.ok.above (Nat.le_of_lt I.lt)
theorem Inv.nofs(I:Inv X pins σ H s){a:Addr}(h:s.heap.objs.size<=a):a∉X.fs:=fun hb=>by
 obtain⟨_,o,ho,_⟩:=I.ok.funs.mem hb
 exact absurd (Nat.lt_of_lt_of_le (Heap.lt_size ho) (Nat.le_trans I.sz h)) (Nat.lt_irrefl _)
theorem Inv.cne(I:Inv X pins σ H s):∀x c,X.env.cells.lookup x=some c->c≠X.env.locals:=fun x c e z=>by
 obtain⟨v,o,ho,hd⟩:=I.cell x c e
 obtain⟨m,⟨o',es,ep,ho',hd',_⟩,_⟩:=I.loc
 rw[z,ho']at ho;cases ho;rw[hd']at hd;cases hd
theorem Inv.funs(I:Inv X pins σ H s):s.heap.FunFrames X.base X.outer:=by
 have all:∀(l:List Env),(∀b∈frs l,b∈X.fs)->X.s₀.heap.FunFrames X.base l->s.heap.FunFrames X.base l:=by
  intro l
  induction l with
  |nil=>intro _ _;trivial
  |cons env r ih=>
   intro hs hl
   obtain⟨hk,⟨L,o,hf,hn,ho,hd⟩,hr⟩:=hl
   have hL:L∈X.fs:=hs L (by unfold frs;rw[List.filterMap_cons,hf];exact List.mem_cons_self)
   obtain⟨sl,e⟩:=I.base.slot L o ho (I.ok.frf L hL) hL fun z=>I.ok.exfs L z hL
   exact⟨hk,⟨L,_,hf,hn,e,hd⟩,ih (fun b hb=>hs b (by unfold frs;rw[List.filterMap_cons,hf];exact List.mem_cons_of_mem _ hb)) hr⟩
 exact all X.outer (fun _ hb=>hb) I.ok.funs
theorem Inv.stack(I:Inv X pins σ H s):s.heap.FunFrames X.base X.stack:=by
 rcases I.ok.stk with e|⟨e,hf⟩
 ·rw[e];exact I.funs
 ·rw[e]
  obtain⟨m,hn,_⟩:=I.loc
  refine .cons (by rw[I.ok.kind];decide) hf hn ?_ I.funs
  exact Heap.get?_none_of_le (Nat.le_trans I.ok.bsz I.ok.above)
theorem Inv.stkSub(I:Inv X pins σ H s):∀b∈frs X.stack,b∈X.env.locals::X.fs:=fun b hb=>by
 rcases I.ok.stk with e|⟨e,hf⟩
 ·rw[e]at hb;exact List.mem_cons_of_mem _ hb
 ·rw[e]at hb
  unfold frs at hb
  rw[List.filterMap_cons,hf]at hb
  exact hb
theorem Inv.stkFree(I:Inv X pins σ H s):∀b∈frs X.stack,H b=none:=fun b hb=>by
 rcases List.mem_cons.mp (I.stkSub b hb)with e|hb
 ·rw[e];exact I.free
 ·obtain⟨_,o,ho,_⟩:=I.ok.funs.mem hb
  exact I.base.free b o ho (I.ok.frf b hb) fun z=>I.ok.exfs b z hb
theorem Inv.step{g':Array GenState}{t':Nat}{d':Drawn}{ch:List Addr}(I:Inv X pins σ H s)
  (hch:∀b∈ch,(b∈X.ex\/X.s₀.heap.objs.size<=b)/\b≠X.env.locals/\(∀x c,X.env.cells.lookup x=some c->c≠b)/\∀p∈X.pn++pins,p.1≠b)
  (keep:∀b o,b≠X.env.locals->b∉X.fs->b∉ch->s.heap.get? b=some o->H b=none->h'.get? b=some o)
  (slot:∀b o,b≠X.env.locals->b∈X.fs->b∉ch->s.heap.get? b=some o->H b=none->∃sl,h'.get? b=some { o with slots:=sl }) (free:∀b o,b∉ch->s.heap.get? b=some o->H b=none->H' b=none)
  (there:∀b o,b∉ch->s.heap.get? b=some o->∃o',h'.get? b=some o')
  (tups:∀b xs,H b=some (.tup xs)->H' b=some (.tup xs)) (frzs:∀b o u,H b=some (.frz o u)->H' b=some (.frz o u)) (tbls:∀b ps,H b=some (.tbl ps)->∃more,H' b=some (.tbl (ps++more)))
  (ns:∀m,s.heap.Ns X.env.locals m->h'.Ns X.env.locals m) (hok:HOk X.prog X.w H' h') (hg:AllBare g') :
  Inv X pins σ H' { s with heap:=h',gens:=g',drawn:=d',toks:=t' }:=by
 have neL:∀b o,X.s₀.heap.get? b=some o->b≠X.env.locals:=fun b o e=>Nat.ne_of_lt (Nat.lt_of_lt_of_le (Heap.lt_size e) I.ok.above)
 have neC:∀b o,X.s₀.heap.get? b=some o->b∉X.ex->b∉ch:=fun b o e hx hb=>by
  rcases(hch b hb).1 with z|z
  ·exact hx z
  ·exact absurd (Nat.lt_of_lt_of_le (Heap.lt_size e) z) (Nat.lt_irrefl _)
 have cellK:∀x c,X.env.cells.lookup x=some c->∀v,s.heap.IsCell c v->h'.IsCell c v:=fun x c e v ⟨o,ho,hd⟩=>by
  have nch:c∉ch:=fun z=>(hch c z).2.2.1 x c e rfl
  by_cases hc:c∈X.fs
  ·obtain⟨sl,q⟩:=slot c o (I.cne x c e) hc nch ho (I.freeC x c e)
   exact⟨_,q,hd⟩
  ·exact⟨o,keep c o (I.cne x c e) hc nch ho (I.freeC x c e),hd⟩
 refine⟨I.ok,I.os,hg,⟨fun b o e n hb hx=>?_,fun b o e n hb hx=>?_,fun b o e n hx=>?_,fun b o e hx=>?_,fun b xs e=>tups b xs (I.base.tups b xs e),fun b o xs e=>frzs b o xs (I.base.frzs b o xs e),fun b ps e=>?_⟩,?_,fun x c e=>?_,?_,fun x c e=>?_,fun p hp=>?_,hok,I.len⟩
 ·exact keep b o (neL b o e) hb (neC b o e hx) (I.base.keep b o e n hb hx) (I.base.free b o e n hx)
 ·obtain⟨sl,e1⟩:=I.base.slot b o e n hb hx
  obtain⟨sl',e2⟩:=slot b _ (neL b o e) hb (neC b o e hx) e1 (I.base.free b o e n hx)
  exact⟨sl',e2⟩
 ·obtain⟨o',e1⟩:=I.base.there b o e hx
  exact free b o' (neC b o e hx) e1 (I.base.free b o e n hx)
 ·obtain⟨o',e1⟩:=I.base.there b o e hx
  exact there b o' (neC b o e hx) e1
 ·obtain⟨m1,e1⟩:=I.base.tbls b ps e
  obtain⟨m2,e2⟩:=tbls b _ e1
  exact⟨m1++m2,by rw[e2,Array.append_assoc]⟩
 ·obtain⟨m,hn,hl⟩:=I.loc
  refine⟨m,ns m hn,fun i x v e1 e2 e3=>?_⟩
  obtain⟨u,r,l⟩:=hl i x v e1 e2 e3
  refine⟨u,r,?_⟩
  rcases l with l|⟨k,c,e,z⟩
  ·exact .inl l
  ·exact .inr ⟨k,c,e,cellK x c e _ z⟩
 ·obtain⟨v,z⟩:=I.cell x c e
  exact⟨v,cellK x c e v z⟩
 ·obtain⟨m,⟨o,_,_,ho,_⟩,_⟩:=I.loc
  exact free _ o (fun z=>(hch _ z).2.1 rfl) ho I.free
 ·obtain⟨v,o,ho,hd⟩:=I.cell x c e
  exact free c o (fun z=>(hch c z).2.2.1 x c e rfl) ho (I.freeC x c e)
 ·obtain⟨e,n,ne,nf,d⟩:=I.pin p hp
  have nch:p.1∉ch:=fun z=>(hch p.1 z).2.2.2 p hp rfl
  exact⟨keep p.1 p.2 ne nf nch e n,free p.1 p.2 nch e n,ne,nf,d⟩
theorem Inv.un{t':Nat}(I:Inv X pins σ H s)(u:Un X.fs [] H H' s.heap h')(hok:HOk X.prog X.w H' h'):Inv X pins σ H' { s with heap:=h',toks:=t' }:=by
 obtain⟨m,⟨o,es,ep,ho,r⟩,_⟩:=id I.loc
 obtain⟨sl,hL⟩:=u.any ho I.free (by simp)
 exact I.step (g':=s.gens) (d':=s.drawn) (ch:=[]) (fun _ z=>nomatch z) (fun b o _ hb _ e n=>u.keep b o e n hb (by simp)) (fun b o _ hb _ e n=>u.slot b o e n hb (by simp)) (fun b o _ e n=>u.free b o e n (by simp)) (fun b o _ e=>u.there b o e (by simp)) u.tups u.frzs u.tbls (fun m' hm=>by
  obtain⟨o',es',ep',ho',r'⟩:=hm
  rw[ho]at ho';cases ho'
  exact⟨_,es',ep',hL,r'⟩) hok I.bare
theorem Inv.call{g':Array GenState}{t':Nat}{d':Drawn}{ch:List Addr}(I:Inv X pins σ H s)(u:Un (frs X.stack) ch H H' s.heap h')(hok:HOk X.prog X.w H' h')(hg:AllBare g')
  (hch:∀b∈ch,(b∈X.ex\/X.s₀.heap.objs.size<=b)/\b≠X.env.locals/\(∀x c,X.env.cells.lookup x=some c->c≠b)/\∀p∈X.pn++pins,p.1≠b) :
  Inv X pins σ H' { s with heap:=h',gens:=g',drawn:=d',toks:=t' }:=by
 obtain⟨m,⟨o,es,ep,ho,r⟩,_⟩:=id I.loc
 obtain⟨sl,hL⟩:=u.any ho I.free fun z=>(hch _ z).2.1 rfl
 exact I.step (ch:=ch) hch (fun b o hL hb hc e n=>u.keep b o e n (fun z=>(List.mem_cons.mp (I.stkSub b z)).elim hL hb) hc) (fun b o _ _ hc e n=>u.any e n hc) (fun b o hc e n=>u.free b o e n hc) (fun b o hc e=>u.there b o e hc) u.tups u.frzs u.tbls (fun m' hm=>by
  obtain⟨o',es',ep',ho',r'⟩:=hm
  rw[ho]at ho';cases ho'
  exact⟨_,es',ep',hL,r'⟩) hok hg
theorem Inv.turned{t':Nat}{it:Addr}(I:Inv X pins σ H s)(k:∀b o,b≠it->s.heap.get? b=some o->h'.get? b=some o)(hn:H it=none)(hL:it≠X.env.locals)
  (h1:it∈X.ex\/X.s₀.heap.objs.size<=it) (h2:∀x c,X.env.cells.lookup x=some c->c≠it) (h3:∀p∈X.pn++pins,p.1≠it):Inv X pins σ H { s with heap:=h',toks:=t' }:=by
 have nit:∀b u,H b=some u->b≠it:=fun b u e z=>by rw[z,hn]at e;cases e
 refine I.step (g':=s.gens) (d':=s.drawn) (ch:=[it]) (fun b hb=>?_) (fun b o _ _ hc e _=>k b o (fun z=>hc (by simp[z])) e) (fun b o _ _ hc e _=>⟨o.slots,k b o (fun z=>hc (by simp[z])) e⟩) (fun _ _ _ _ n=>n)
  (fun b o hc e=>⟨o,k b o (fun z=>hc (by simp[z])) e⟩) (fun _ _ e=>e) (fun _ _ _ e=>e) (fun b ps e=>⟨#[],by rw[e];simp⟩) (fun m hm=>?_) (fun b u e=>?_) I.bare
 ·have e:b=it:=by simpa using hb
  subst e
  exact⟨h1,hL,h2,h3⟩
 ·obtain⟨o,es,ep,ho,r⟩:=hm
  exact⟨o,es,ep,k _ o (Ne.symm hL) ho,r⟩
 ·refine(I.hok b u e).stay (fun c v hc q=>k c v ?_ q) (fun _ q=>q) fun _ _ q=>q
  rcases hc with z|z
  ·rw[z];exact nit b u e
  ·exact nit c _ z
theorem Inv.tok(I:Inv X pins σ H s)(t:Nat):Inv X pins σ H { s with toks:=t }:=I.un (h':=s.heap) (t':=t) Un.refl I.hok
theorem Inv.kept{t':Nat}(I:Inv X pins σ H s)(k:∀b u,s.heap.get? b=some u->h'.get? b=some u):Inv X pins σ H { s with heap:=h',toks:=t' }:=I.un (Un.kept k) (I.hok.kept k)
theorem Inv.laid{a:Addr}{o:HO}{t':Nat}(I:Inv X pins σ H s)(k:∀b u,s.heap.get? b=some u->h'.get? b=some u)(hp:s.heap.objs.size<=a)(new:cK X.prog X.w (upd H a o) h' a o) :
  Inv X pins σ (upd H a o) { s with heap:=h',toks:=t' }:=I.un (Un.laid k hp (I.hok.fresh hp)) (I.hok.laid k hp new)
theorem Inv.write{x e:Addr}{o:HO}{t':Nat}(I:Inv X pins σ H s)(mu:Mut (H x))(he:e=x\/H e=some (.own x))(k:∀b u,b≠e->s.heap.get? b=some u->h'.get? b=some u)(heo:∃u,h'.get? e=some u)
  (new:cK X.prog X.w (upd H x o) h' x o):Inv X pins σ (upd H x o) { s with heap:=h',toks:=t' }:=I.un (Un.write mu he k heo) (I.hok.write mu he k heo new)
theorem Inv.pins_of{pins':List (Addr×Obj)}(I:Inv X pins σ H s)(h:∀p∈pins',s.heap.get? p.1=some p.2/\H p.1=none/\p.1≠X.env.locals/\p.1∉X.fs/\∀v,p.2.data≠.cell v):Inv X pins' σ H s:=
 ⟨I.ok,I.os,I.bare,I.base,I.loc,I.cell,I.free,I.freeC,fun p hp=>(List.mem_append.mp hp).elim (fun z=>I.pin p (List.mem_append_left _ z)) (h p),I.hok,I.len⟩
theorem qH{N:List Str}(hN:N.Nodup){i j:Nat}{x:Str}(a:N[i]?=some x)(b:N[j]?=some x):i=j:=by
 obtain⟨h1,e1⟩:=List.getElem?_eq_some_iff.mp a
 obtain⟨h2,e2⟩:=List.getElem?_eq_some_iff.mp b
 exact(List.getElem_inj hN).mp (e1.trans e2.symm)
theorem nB{M:Model}{A:Around}{E:Value->Shared->Prop}{i:Nat}{x:Str}{v:V}{u:Value}{Q:Unit->Shared->Prop}(I:Inv X pins σ H s)(hN:X.N.Nodup)(hi:X.N[i]?=some x)(hx:Loc X.env.scope x)(r:cE v u)
  (h:∀s',Inv X pins (σ.set i (some v)) H s'->(∃a,Heap.SameBut a s.heap s'.heap/\(a=X.env.locals\/X.env.cells.lookup x=some a))->Q () s') (hf:X.fn x=true\/X.env.scope.names.lookup x=some .local:=by first|exact .inl rfl|exact .inr rfl|assumption):wpAny M A (storeName X.env x u) Q E s:=by
 obtain⟨m,hn,hl⟩:=id I.loc
 have hcls:(X.env.scope.kind == .class||(X.env.scope.kind == .module&&X.env.locals !=X.env.globals))=false:=by rw[I.ok.kind];rfl
 have hiσ:i < σ.length:=by rw[I.len];exact(List.getElem?_eq_some_iff.mp hi).1
 have cne:=I.cne
 have tracked:∀{a:Addr} {h':Heap},(∃o,s.heap.get? a=some o/\H a=none)->Heap.SameBut a s.heap h'->HOk X.prog X.w H h':=fun{a h'} ha hs b ob e=>by
  obtain⟨_,_,hfree⟩:=ha
  refine(I.hok b ob e).stay (fun c w' hc q=>(hs.2 c ?_).trans q) (fun _ q=>q) fun _ _ q=>q
  rintro rfl
  rcases hc with rfl|hc
  ·rw[hfree]at e;cases e
  ·rw[hfree]at hc;cases hc
 rcases hx with hk|hk
 ·refine wpAny_storeName_local hk hn (fun h' hn' hs=>?_) hcls
  obtain⟨oL,_,_,hoL,_⟩:=id hn
  refine h _ ⟨I.ok,I.os,I.bare,⟨fun b o e n hb hx=>?_,fun b o e n hb hx=>?_,I.base.free,fun b o e hx=>?_,I.base.tups,I.base.frzs,I.base.tbls⟩,⟨_,hn',fun j y v' e1 e2 e3=>?_⟩,fun y c e=>?_,I.free,I.freeC,fun p hp=>?_,tracked ⟨oL,hoL,I.free⟩ hs,by simpa using I.len⟩ ⟨_,hs,.inl rfl⟩
  ·exact(hs.2 b (Nat.ne_of_lt (Nat.lt_of_lt_of_le (Heap.lt_size e) I.ok.above))).trans (I.base.keep b o e n hb hx)
  ·obtain⟨sl,e1⟩:=I.base.slot b o e n hb hx
   exact⟨sl,(hs.2 b (Nat.ne_of_lt (Nat.lt_of_lt_of_le (Heap.lt_size e) I.ok.above))).trans e1⟩
  ·obtain⟨o',e1⟩:=I.base.there b o e hx
   exact⟨o',(hs.2 b (Nat.ne_of_lt (Nat.lt_of_lt_of_le (Heap.lt_size e) I.ok.above))).trans e1⟩
  ·by_cases hj:j=i
   ·subst hj
    rw[hi]at e1;cases e1
    rw[List.getElem?_set_self hiσ]at e2
    cases e2
    exact⟨u,r,.inl ⟨hk,by simp⟩⟩
   ·rw[List.getElem?_set_ne (Ne.symm hj)]at e2
    obtain⟨u',r',q⟩:=hl j y v' e1 e2 e3
    refine⟨u',r',?_⟩
    rcases q with⟨k,e⟩|⟨k,c,e,z⟩
    ·refine .inl ⟨k,?_⟩
     have:y≠x:=fun e=>hj (qH hN e1 (e▸hi))
     simp[this,e]
    ·exact .inr ⟨k,c,e,z.sameBut hs (cne y c e)⟩
  ·obtain⟨w',z⟩:=I.cell y c e
   exact⟨w',z.sameBut hs (cne y c e)⟩
  ·obtain⟨e,n,ne,nf,d⟩:=I.pin p hp
   exact⟨(hs.2 p.1 ne).trans e,n,ne,nf,d⟩
 ·have hfn:X.fn x=true:=by
   rcases hf with z|z
   ·exact z
   ·rw[z]at hk;cases hk
  obtain⟨c,hc⟩:=I.ok.has x (.inl hk)
  obtain⟨w',z⟩:=I.cell x c hc
  refine wpAny_storeName_cell I.ok.kind hk hc z (fun h' hc' hs=>?_)
  obtain⟨oc,hoc,hocd⟩:=id z
  refine h { s with heap:=h' } ⟨I.ok,I.os,I.bare,⟨fun b o e n hb hx=>?_,fun b o e n hb hx=>?_,I.base.free,fun b o e hx=>?_,I.base.tups,I.base.frzs,I.base.tbls⟩,⟨m,hn.sameBut hs (Ne.symm (cne x c hc)),fun j y v' e1 e2 e3=>?_⟩,fun y c' e=>?_,I.free,I.freeC,fun p hp=>?_,tracked ⟨oc,hoc,I.freeC x c hc⟩ hs,by simpa using I.len⟩ ⟨c,hs,.inr hc⟩
  ·exact(hs.2 b (Nat.ne_of_lt (Nat.lt_of_lt_of_le (Heap.lt_size e) (I.ok.cab x c hfn hc)))).trans (I.base.keep b o e n hb hx)
  ·obtain⟨sl,e1⟩:=I.base.slot b o e n hb hx
   exact⟨sl,(hs.2 b (Nat.ne_of_lt (Nat.lt_of_lt_of_le (Heap.lt_size e) (I.ok.cab x c hfn hc)))).trans e1⟩
  ·obtain⟨o',e1⟩:=I.base.there b o e hx
   exact⟨o',(hs.2 b (Nat.ne_of_lt (Nat.lt_of_lt_of_le (Heap.lt_size e) (I.ok.cab x c hfn hc)))).trans e1⟩
  ·by_cases hj:j=i
   ·subst hj
    rw[hi]at e1;cases e1
    rw[List.getElem?_set_self hiσ]at e2
    cases e2
    exact⟨u,r,.inr ⟨.inl hk,c,hc,hc'⟩⟩
   ·rw[List.getElem?_set_ne (Ne.symm hj)]at e2
    obtain⟨u',r',q⟩:=hl j y v' e1 e2 e3
    refine⟨u',r',?_⟩
    rcases q with q|⟨k,c',e,z'⟩
    ·exact .inl q
    ·refine .inr ⟨k,c',e,z'.sameBut hs ?_⟩
     rintro rfl
     exact hj (qH hN e1 (I.ok.inj _ _ _ e hc▸hi))
  ·by_cases hcc:c'=c
   ·subst hcc;exact⟨_,hc'⟩
   ·obtain⟨w2,z2⟩:=I.cell y c' e
    exact⟨w2,z2.sameBut hs hcc⟩
  ·obtain⟨e,n,ne,nf,d⟩:=I.pin p hp
   refine⟨(hs.2 p.1 ?_).trans e,n,ne,nf,d⟩
   intro q
   rw[q,hoc]at e
   have q':oc=p.2:=Option.some.inj e
   exact d w' (by rw[<-q'];exact hocd)
theorem qo{M:Model}{A:Around}{E:Value->Shared->Prop}{i:Nat}{x:Str}{v:V}{u:Value}{Q:Unit->Shared->Prop}(I:Inv X pins σ H s)(hN:X.N.Nodup)(hi:X.N[i]?=some x)(hx:Loc X.env.scope x)(r:cE v u)
  (h:∀s',Inv X pins (σ.set i (some v)) H s'->Q () s') (hf:X.fn x=true\/X.env.scope.names.lookup x=some .local:=by first|exact .inl rfl|exact .inr rfl|assumption):wpAny M A (storeName X.env x u) Q E s:=
 nB I hN hi hx r (fun s' I' _=>h s' I') hf
theorem Inv.call'{s':Shared}{ch:List Addr}(I:Inv X pins σ H s)(ho:s'.os=s.os)(u:Un (frs X.stack) ch H H' s.heap s'.heap)(hok:HOk X.prog X.w H' s'.heap)(hg:AllBare s'.gens)
  (hch:∀b∈ch,(b∈X.ex\/X.s₀.heap.objs.size<=b)/\b≠X.env.locals/\(∀x c,X.env.cells.lookup x=some c->c≠b)/\∀p∈X.pn++pins,p.1≠b):Inv X pins σ H' s':=by
 obtain⟨h',g',d',t',o'⟩:=s'
 have e:o'=s.os:=ho
 subst e
 exact I.call (g':=g') (t':=t') (d':=d') u hok hg hch
end
abbrev XK:=Value->Option Addr->Hp->Prop
abbrev St:=List (Option V)
abbrev VK:=V->Hp->Prop
abbrev TE:=St->Hp->VK->Prop
abbrev TT:=St->Hp->(Bool->Hp->Prop)->Prop
abbrev TA:=St->Hp->(List V->Hp->Prop)->Prop
structure wb where
 nx:St->Hp->Prop
 rt:VK
 bk:St->Hp->Prop:=fun _ _=>False
 ct:St->Hp->Prop:=fun _ _=>False
abbrev TS:=wb->St->Hp->Prop
def EP(X:Cx)(pins:List (Addr×Obj))(σ:St)(Q:VK)(u:Value)(s':Shared):Prop:=∃v H',Inv X pins σ H' s'/\cE v u/\Q v H'
def TP(X:Cx)(pins:List (Addr×Obj))(σ:St)(Q:Bool->Hp->Prop)(b:Bool)(s':Shared):Prop:=∃H',Inv X pins σ H' s'/\Q b H'
def AP(X:Cx)(pins:List (Addr×Obj))(σ:St)(Q:List V->Hp->Prop)(us:List Value)(s':Shared):Prop:=∃vs H',Inv X pins σ H' s'/\bN vs us/\Q vs H'
def SP(X:Cx)(pins:List (Addr×Obj))(D:wb)(f:Flow)(s':Shared):Prop:=
 match f with
 |.next=>∃σ' H',Inv X pins σ' H' s'/\D.nx σ' H'
 |.brk=>∃σ' H',Inv X pins σ' H' s'/\D.bk σ' H'
 |.cont=>∃σ' H',Inv X pins σ' H' s'/\D.ct σ' H'
 |.ret u=>∃v σ' H',Inv X pins σ' H' s'/\cE v u/\D.rt v H'
def PE(X:Cx)(e:Expr)(t:TE):Prop:=
 ∀(pins:List (Addr×Obj)) (s:Shared) (σ:St) (H:Hp) (Q:VK),Inv X pins σ H s->t σ H Q->wpAny (model X.prog X.w) X.A (eval e X.env) (EP X pins σ Q) X.xe s
def PT(X:Cx)(e:Expr)(t:TT):Prop:=
 ∀(pins:List (Addr×Obj)) (s:Shared) (σ:St) (H:Hp) (Q:Bool->Hp->Prop),Inv X pins σ H s->t σ H Q->wpAny (model X.prog X.w) X.A (isTrue e X.env (eval e X.env)) (TP X pins σ Q) X.xe s
def PW(X:Cx)(e:Expr)(t:TT):Prop:=
 ∀(whole:Sem Value) (pins:List (Addr×Obj)) (s:Shared) (σ:St) (H:Hp) (Q:Bool->Hp->Prop),Inv X pins σ H s->t σ H Q->wpAny (model X.prog X.w) X.A (isTrue e X.env whole) (TP X pins σ Q) X.xe s
theorem PW.pt{X:Cx}{e:Expr}{t:TT}(h:PW X e t):PT X e t:=h _
def PA(X:Cx)(es:List Expr)(t:TA):Prop:=
 ∀(pos:Pos) (pins:List (Addr×Obj)) (s:Shared) (σ:St) (H:Hp) (Q:List V->Hp->Prop),Inv X pins σ H s->t σ H Q->wpAny (model X.prog X.w) X.A (spliced (backTo pos (starEach es X.env))) (AP X pins σ Q) X.xe s
def PS(X:Cx)(st:Stmt)(t:TS):Prop:=
 ∀(pins:List (Addr×Obj)) (s:Shared) (σ:St) (H:Hp) (D:wb),Inv X pins σ H s->t D σ H->wpAny (model X.prog X.w) X.A (exec st X.env) (SP X pins D) X.xe s
def PSs(X:Cx)(st:List Stmt)(t:TS):Prop:=
 ∀(pins:List (Addr×Obj)) (s:Shared) (σ:St) (H:Hp) (D:wb),Inv X pins σ H s->t D σ H->wpAny (model X.prog X.w) X.A (execs st X.env) (SP X pins D) X.xe s
theorem thn{α:Type}{t:Sem α}{Q Q':α->Shared->Prop}{M:Model}{A:Around}{E:Value->Shared->Prop}{s:Shared}(h:wpAny M A t Q E s)(hQ:∀a s,Q a s->Q' a s):wpAny M A t Q' E s:=wpAny_mono h hQ fun _ _ x=>x
section
variable{X:Cx}
def EX(i:Nat):TE:=fun σ H Q=>∃v,σ[i]?=some (some v)/\Q v H
def tC(v:V):TE:=fun _ H Q=>Q v H
theorem DD{i:Nat}{x:Str}{pos:Pos}(hN:X.N[i]?=some x)(hv:Vis X.env.scope x)(hd:(x == ("__debug__":Str))=false:=by decide)(hcd:(x == ("__classdict__":Str))=false:=by decide):PE X (.Name x pos) (EX i):=by
 intro pins s σ H Q I h
 obtain⟨v,e,h⟩:=h
 obtain⟨m,hn,hl⟩:=I.loc
 obtain⟨u,r,l⟩:=hl i x v hN e hv
 have fin:EP X pins σ Q u s:=⟨v,H,I,r,h⟩
 rcases l with⟨hk,hm⟩|⟨hk,c,hc,hcell⟩
 ·exact wpAny_Name (wpAny_loadName_local I.ok.kind hk hn hm fin) hd
 ·rcases hk with hk|hk
  ·exact wpAny_Name (wpAny_loadName_cell I.ok.kind hk hc hcell fin) hd
  ·exact wpAny_Name (wpAny_loadName_free I.ok.kind hk hc hcell fin hcd) hd
theorem DM{i j pos}:PE X (.Constant (.int i) j pos) (tC (.int i)):=fun _ _ _ H _ I h=>wpAny_Constant_int ⟨.int i,H,I.tok _,⟨_,rfl⟩,h⟩
theorem GP{b j pos}:PE X (.Constant (.bool b) j pos) (tC (.bl b)):=fun _ _ _ H _ I h=>Constant_bool ⟨.bl b,H,I,rfl,h⟩
theorem DK{j pos}:PE X (.Constant .none j pos) (tC .non):=fun _ _ _ H _ I h=>Constant_none ⟨.non,H,I,rfl,h⟩
theorem DH{x j pos}:PE X (.Constant (.str x) j pos) (tC (.str x)):=fun _ _ _ H _ I h=>Calls.Constant_str ⟨.str x,H,I.tok _,⟨_,rfl⟩,h⟩
def Gl(X:Cx)(x:Str):Prop:=X.env.kindOf x=some .globalImplicit
theorem uK{E:Value->Shared->Prop}{pins:List (Addr×Obj)}{s:Shared}{σ:St}{H:Hp}{x:Str}{u:Value}{pos:Pos}{Q:Value->Shared->Prop}(I:Inv X pins σ H s)(hg:Gl X x)(hm:X.mg x=some u)(h:Q u s)
  (hd:(x == ("__debug__":Str))=false:=by decide):wpAny (model X.prog X.w) X.A (eval (.Name x pos) X.env) Q E s:=
 Calls.Name_function_global I.ok.kind hg (Calls.loadGlobal_global (by rw[I.ok.glob];exact I.mod.glob.keeps I.bk) hm h) hd
theorem jd{E:Value->Shared->Prop}{pins:List (Addr×Obj)}{s:Shared}{σ:St}{H:Hp}{x:Str}{u:Value}{pos:Pos}{Q:Value->Shared->Prop}(I:Inv X pins σ H s)(hg:Gl X x)(hm:X.mg x=none)(hv:bootBuiltins x=some u)(h:Q u s)
  (hn:x≠"__name__":=by decide) (hd:(x == ("__debug__":Str))=false:=by decide):wpAny (model X.prog X.w) X.A (eval (.Name x pos) X.env) Q E s:=by
 obtain⟨mb,h1,h2⟩:=I.mod.blt
 exact Calls.Name_function_global I.ok.kind hg (Calls.loadGlobal_builtin (by rw[I.ok.glob];exact I.mod.glob.keeps I.bk) hm (by rw[I.ok.blt];exact h1.keeps I.bk) ((h2 x hn).trans hv) h) hd
theorem AN{x:Str}{v:V}{u:Value}{pos:Pos}(hg:Gl X x)(hm:X.mg x=none)(hv:bootBuiltins x=some u)(r:cE v u)(hn:x≠"__name__":=by decide)(hd:(x == ("__debug__":Str))=false:=by decide):PE X (.Name x pos) (tC v):=
 fun _ _ _ H _ I h=>jd I hg hm hv ⟨v,H,I,r,h⟩ hn hd
variable{a b:Expr}{ta tb:TE}{pos:Pos}
def PC(X:Cx)(op:CmpOp)(a b:Expr)(t:TE):Prop:=
 ∀(pins:List (Addr×Obj)) (s:Shared) (σ:St) (H:Hp) (Q:VK),Inv X pins σ H s->t σ H Q->
  wpAny (model X.prog X.w) X.A (eval a X.env) (fun v s₁=>wpAny (model X.prog X.w) X.A (eval b X.env) (fun u s₂=>wpAny (model X.prog X.w) X.A (compareOp op v u) (EP X pins σ Q) X.xe s₂) X.xe s₁) X.xe s
def tB(t:TE):TT:=fun σ H Q=>t σ H fun x H1=>∃c,x=.bl c/\Q c H1
theorem DO{op:CmpOp}{t:TE}(h:PC X op a b t)(h1:behindInMarks op b=false:=by first|exact nobehind _ (by decide) (by decide)|rfl):PE X (.Compare a [op] [b] pos) t:=fun pins s σ H Q I hw=>wpAny_Compare1 (h pins s σ H Q I hw) h1
theorem Ds{op:CmpOp}{t:TE}(h:PC X op a b t)(h1:behindInMarks op b=false:=by first|exact nobehind _ (by decide) (by decide)|rfl):PT X (.Compare a [op] [b] pos) (tB t):=by
 intro pins s σ H Q I hw
 refine wpAny_isTrue_Compare1 (thn (h pins s σ H _ I hw) fun v s1 h1=>thn h1 fun u s2 h2=>thn h2 fun c s3 hz=>?_) h1
 obtain⟨x,H1,I1,r1,q1⟩:=hz
 obtain⟨d,rfl,q⟩:=q1
 cases r1
 exact wpAny_truthy_bool ⟨H1,I1,q⟩
theorem Dq{e:Expr}{t:TE}(h:PE X e t)(he:∀whole,isTrue e X.env whole=(do let v <-whole;standAt e.pos;holding [v] (truthy v)):=by intro _;rfl):PT X e (tB t):=by
 intro pins s σ H Q I hw
 refine isTrue_plain (thn (h pins s σ H _ I hw) fun v s1 ⟨x,H1,I1,r1,q1⟩=>?_) (he _)
 obtain⟨d,rfl,q⟩:=q1
 cases r1
 exact wpAny_truthy_bool ⟨H1,I1,q⟩
variable{tA tB':TT}{rest:List Expr}
def HI(t u:TT):TT:=fun σ H Q=>t σ H fun c H1=>if c=true then u σ H1 Q else Q false H1
def tOr(t u:TT):TT:=fun σ H Q=>t σ H fun c H1=>if c=true then Q true H1 else u σ H1 Q
def HD(t:TT):TT:=fun σ H Q=>t σ H fun c H1=>Q (!c) H1
theorem Ax(ha:PT X a tA):PW X (.BoolOp .And [a] pos) tA:=by
 intro wh pins s σ H Q I h
 refine isTrue_and (thn (ha pins s σ H Q I h) fun c s1 e=>?_)
 cases c with
 |true=>exact isTrue_and_nil e
 |false=>exact e
theorem Dm(ha:PT X a tA):PW X (.BoolOp .Or [a] pos) tA:=by
 intro wh pins s σ H Q I h
 refine isTrue_or (thn (ha pins s σ H Q I h) fun c s1 e=>?_)
 cases c with
 |false=>exact isTrue_or_nil e
 |true=>exact e
theorem Dp(ha:PT X a tA)(hb:PW X (.BoolOp .And (b::rest) pos) tB'):PW X (.BoolOp .And (a::b::rest) pos) (HI tA tB'):=by
 intro wh pins s σ H Q I h
 refine isTrue_and (thn (ha pins s σ H _ I h) fun c s1 ⟨H1,I1,q1⟩=>?_)
 cases c with
 |true=>exact hb wh pins s1 σ H1 Q I1 q1
 |false=>exact⟨H1,I1,q1⟩
theorem GG(ha:PT X a tA)(hb:PW X (.BoolOp .Or (b::rest) pos) tB'):PW X (.BoolOp .Or (a::b::rest) pos) (tOr tA tB'):=by
 intro wh pins s σ H Q I h
 refine isTrue_or (thn (ha pins s σ H _ I h) fun c s1 ⟨H1,I1,q1⟩=>?_)
 cases c with
 |true=>exact⟨H1,I1,q1⟩
 |false=>exact hb wh pins s1 σ H1 Q I1 q1
theorem Dr(ha:PT X a tA):PT X (.UnaryOp .Not a pos) (HD tA):=by
 intro pins s σ H Q I h
 exact isTrue_not (ha pins s σ H (fun c H1=>Q (!c) H1) I h)
def CZ(ta tb:TE):TE:=fun σ H Q=>ta σ H fun x H1=>∃c,x=.bl c/\if c=true then tb σ H1 Q else Q (.bl false) H1
def CO(ta:TE):TE:=fun σ H Q=>ta σ H fun x H1=>∃c,x=.bl c/\Q (.bl (!c)) H1
theorem DI{op}{t:TE}(h:PE X a t):PE X (.BoolOp op [a] pos) t:=fun pins s σ H Q I hw=>BoolOp_one (h pins s σ H Q I hw)
theorem DQ(ha:PE X a ta)(hb:PE X (.BoolOp .And (b::rest) pos) tb):PE X (.BoolOp .And (a::b::rest) pos) (CZ ta tb):=by
 intro pins s σ H Q I h
 refine BoolOp_and (thn (ha pins s σ H _ I h) fun v s1 hz=>?_)
 obtain⟨x,H1,I1,r1,q1⟩:=hz
 obtain⟨c,rfl,q1⟩:=q1
 cases r1
 refine wpAny_truthy_bool ?_
 cases c with
 |true=>exact hb pins s1 σ H1 Q I1 q1
 |false=>exact⟨.bl false,H1,I1,rfl,q1⟩
theorem DJ(ha:PE X a ta):PE X (.UnaryOp .Not a pos) (CO ta):=by
 intro pins s σ H Q I h
 refine UnaryOp_ (thn (ha pins s σ H _ I h) fun v s1 hz=>?_)
 obtain⟨x,H1,I1,r1,q1⟩:=hz
 obtain⟨c,rfl,q1⟩:=q1
 cases r1
 exact not_of (wpAny_truthy_bool ⟨.bl (!c),H1,I1,rfl,q1⟩)
end
def SqL(K:PySem.W.Frag)(H:Hp)(a:Addr)(xs:List V):Prop:=
 Rd H a (.lst xs)\/
  ∃(o:Obj) (its:Array Value) (n:Nat),K.lookup a=some o/\o.cls=.type "list"/\o.dict=none/\o.data=.seq its n/\its.size<=sizeLine/\bN xs its.toList
def SqT(K:PySem.W.Frag)(H:Hp)(a:Addr)(xs:List V):Prop:=
 Rd H a (.tup xs)\/
  ∃(o:Obj) (its:Array Value) (n:Nat),K.lookup a=some o/\o.cls=.type "tuple"/\o.data=.seq its n/\its.size<=sizeLine/\bN xs its.toList
def Jg:Value->Option V
 |.none=>some .non
 |.bool b=>some (.bl b)
 |.int i _=>some (.int i)
 |.str x _=>some (.str x)
 |.bytes b _=>some (.byt b)
 |.float b _=>some (.flt b)
 |.ref a=>some (.ref a)
 |.type n=>some (.ty n)
 |_=>none
theorem cE.abs{x:V}{u:Value}(r:cE x u):Jg u=some x:=by
 cases x with
 |non=>cases r;rfl
 |bl _=>cases r;rfl
 |int _=>obtain⟨t,rfl⟩:=r;rfl
 |str _=>obtain⟨t,rfl⟩:=r;rfl
 |byt _=>obtain⟨t,rfl⟩:=r;rfl
 |flt _=>obtain⟨t,rfl⟩:=r;rfl
 |ref _=>cases r;rfl
 |ty _=>cases r;rfl
theorem cE.inj{x y:V}{u:Value}(r:cE x u)(q:cE y u):x=y:=Option.some.inj (r.abs.symm.trans q.abs)
theorem bN.inj:∀{xs ys:List V} {us:List Value},bN xs us->bN ys us->xs=ys
 |_,_,_,.nil,.nil=>rfl
 |_,_,_,.cons r t,.cons r' t'=>by rw[r.inj r',bN.inj t t']
section
variable{X:Cx}{pins:List (Addr×Obj)}{σ:St}{H:Hp}{s:Shared}{a:Addr}{xs ys:List V}
theorem SqL.of{K:PySem.W.Frag}(h:H a=some (.lst xs)):SqL K H a xs:=.inl (.inl h)
theorem SqT.of{K:PySem.W.Frag}(h:H a=some (.tup xs)):SqT K H a xs:=.inl (.inl h)
theorem Inv.list(I:Inv X pins σ H s)(h:SqL X.K H a xs):∃its:List Value,bN xs its/\PlainL s.heap a its.toArray/\xs.length<=sizeLine:=by
 rcases h with h|⟨o,its,n,hk,hc,hd,hs,hz,r⟩
 ·obtain⟨z,its,n,r,e⟩:=h.ok I.hok
  exact⟨its,r,⟨_,n,e,rfl,rfl,rfl⟩,z⟩
 ·refine⟨its.toList,r,⟨o,n,I.kIn a o hk,hc,hd,by simpa using hs⟩,?_⟩
  have e:=r.length
  simp only[Array.length_toList]at e
  omega
theorem Inv.tuple(I:Inv X pins σ H s)(h:SqT X.K H a xs):∃its:List Value,bN xs its/\IsTup s.heap a its.toArray/\xs.length<=sizeLine:=by
 rcases h with h|⟨o,its,n,hk,hc,hs,hz,r⟩
 ·obtain⟨z,its,r,p⟩:=h.ok I.hok
  exact⟨its,r,p,z⟩
 ·refine⟨its.toList,r,⟨o,I.kIn a o hk,hc,n,by simpa using hs⟩,?_⟩
  have e:=r.length
  simp only[Array.length_toList]at e
  omega
theorem Inv.list_inj(I:Inv X pins σ H s)(h:SqL X.K H a xs)(h':SqL X.K H a ys):xs=ys:=by
 obtain⟨its,r,⟨o,n,e,_,_,d⟩,_⟩:=I.list h
 obtain⟨its',r',⟨o',n',e',_,_,d'⟩,_⟩:=I.list h'
 rw[e]at e';cases e'
 rw[d]at d'
 injection d' with d1 _
 have:its=its':=by simpa using congrArg Array.toList d1
 subst this
 exact r.inj r'
theorem Inv.tuple_inj(I:Inv X pins σ H s)(h:SqT X.K H a xs)(h':SqT X.K H a ys):xs=ys:=by
 obtain⟨its,r,⟨o,e,_,n,d⟩,_⟩:=I.tuple h
 obtain⟨its',r',⟨o',e',_,n',d'⟩,_⟩:=I.tuple h'
 rw[e]at e';cases e'
 rw[d]at d'
 injection d' with d1 _
 have:its=its':=by simpa using congrArg Array.toList d1
 subst this
 exact r.inj r'
end
abbrev Cx.wish(X:Cx)(E:Value->Shared->Prop):Cx:={ X with xe:=E }
abbrev Cx.nox(X:Cx):Cx:=X.wish fun _ _=>False
theorem Cx.Ok.wish{X:Cx}(ok:X.Ok)(E:Value->Shared->Prop):(X.wish E).Ok:=
 ⟨ok.mod,ok.kind,ok.glob,ok.blt,ok.above,ok.inj,ok.has,ok.cab,ok.hd,ok.frames,ok.stk,ok.exf,ok.bs,ok.bsz,ok.noex,ok.exfs,ok.funs,ok.frf⟩
theorem Cx.Ok.unwish{X:Cx}{E:Value->Shared->Prop}(ok:(X.wish E).Ok):X.Ok:=
 ⟨ok.mod,ok.kind,ok.glob,ok.blt,ok.above,ok.inj,ok.has,ok.cab,ok.hd,ok.frames,ok.stk,ok.exf,ok.bs,ok.bsz,ok.noex,ok.exfs,ok.funs,ok.frf⟩
section
variable{X:Cx}{pins:List (Addr×Obj)}{σ:St}{H:Hp}{s:Shared}{E:Value->Shared->Prop}
theorem Inv.wish(I:Inv X pins σ H s)(E:Value->Shared->Prop):Inv (X.wish E) pins σ H s:=⟨I.ok.wish E,I.os,I.bare,I.base,I.loc,I.cell,I.free,I.freeC,I.pin,I.hok,I.len⟩
theorem Inv.unwish(I:Inv (X.wish E) pins σ H s):Inv X pins σ H s:=⟨I.ok.unwish,I.os,I.bare,I.base,I.loc,I.cell,I.free,I.freeC,I.pin,I.hok,I.len⟩
theorem SP.unwish{D:wb}{f:Flow}{s':Shared}(h:SP (X.wish E) pins D f s'):SP X pins D f s':=by
 cases f with
 |next=>obtain⟨σ',H',I,q⟩:=h;exact⟨σ',H',I.unwish,q⟩
 |brk=>obtain⟨σ',H',I,q⟩:=h;exact⟨σ',H',I.unwish,q⟩
 |cont=>obtain⟨σ',H',I,q⟩:=h;exact⟨σ',H',I.unwish,q⟩
 |ret u=>obtain⟨v,σ',H',I,r,q⟩:=h;exact⟨v,σ',H',I.unwish,r,q⟩
theorem PSs.nox{st:List Stmt}{t:TS}(h:PSs X.nox st t):PSs X st t:=fun pins s σ H D I hw=>
 wpAny_mono (h pins s σ H D (I.wish _) hw) (fun _ _ q=>q.unwish) fun _ _ z=>False.elim z
end
section
variable{X:Cx}{st:Stmt}{rest:List Stmt}{t u:TS}{e:Expr}{te:TE}{pos:Pos}
def CP:TS:=fun D σ H=>D.nx σ H
def HB(t u:TS):TS:=fun D σ H=>t { D with nx:=u D } σ H
theorem AA:PSs X [] CP:=fun _ _ σ H _ I h=>wpAny_execs_nil ⟨σ,H,I,h⟩
theorem w9(h1:PS X st t)(h2:PSs X rest u):PSs X (st::rest) (HB t u):=by
 intro pins s σ H D I h
 refine wpAny_execs_cons (thn (h1 pins s σ H { D with nx:=u D } I h) fun f s1 q=>?_)
 cases f with
 |next=>
  obtain⟨σ',H',I',q⟩:=q
  exact h2 pins s1 σ' H' D I' q
 |ret v=>exact q
 |brk=>exact q
 |cont=>exact q
theorem Az(h1:PS X st t):PSs X [st] t:=by
 intro pins s σ H D I h
 refine wpAny_execs_cons (thn (h1 pins s σ H D I h) fun f s1 q=>?_)
 cases f with
 |next=>exact wpAny_execs_nil q
 |ret v=>exact q
 |brk=>exact q
 |cont=>exact q
theorem Inv.quiet{pins:List (Addr×Obj)}{σ:St}{H:Hp}{s:Shared}(I:Inv X pins σ H s):interactive X.env=false:=by simp[interactive,I.ok.kind]
def CQ(te:TE):TS:=fun D σ H=>te σ H fun _ H1=>D.nx σ H1
theorem AB(he:PE X e te)(hs:swapsWith e none pos.line X.env=pure false:=by rfl):PS X (.Expr e pos) (CQ te):=by
 intro pins s σ H D I h
 exact wpAny_Expr_any (thn (he pins s σ H _ I h) fun v s1 ⟨x,H1,I1,r1,q1⟩=>⟨σ,H1,I1,q1⟩) I.quiet hs
def HC(te:TE):TS:=fun D σ H=>te σ H D.rt
theorem Dv(he:PE X e te):PS X (.Return (some e) pos) (HC te):=by
 intro pins s σ H D I h
 exact wpAny_Return_some (thn (he pins s σ H _ I h) fun v s1 ⟨x,H1,I1,r1,q1⟩=>⟨x,σ,H1,I1,r1,q1⟩)
def HF(c:TT)(t u:TS):TS:=fun D σ H=>c σ H fun b H1=>if b=true then t D σ H1 else u D σ H1
theorem GH{c:Expr}{a b:List Stmt}{tc:TT}(hc:PT X c tc)(ha:PSs X a t)(hb:PSs X b u):PS X (.If c a b pos) (HF tc t u):=by
 intro pins s σ H D I h
 refine wpAny_If (thn (hc pins s σ H _ I h) fun d s1 ⟨H1,I1,q1⟩=>?_)
 cases d with
 |true=>exact ha pins s1 σ H1 D I1 q1
 |false=>exact hb pins s1 σ H1 D I1 q1
end
abbrev TG:=V->St->Hp->(St->Hp->Prop)->Prop
abbrev TGs:=List V->St->Hp->(St->Hp->Prop)->Prop
def PG(X:Cx)(target:Expr)(t:TG):Prop:=
 ∀(pins:List (Addr×Obj)) (s:Shared) (σ:St) (H:Hp) (v:V) (u:Value) (Q:St->Hp->Prop),Inv X pins σ H s->cE v u->t v σ H Q->
  wpAny (model X.prog X.w) X.A (assign target X.env u) (fun _ s'=>∃σ' H',Inv X pins σ' H' s'/\Q σ' H') X.xe s
def PGs(X:Cx)(ts:List Expr)(t:TGs):Prop:=
 ∀(pins:List (Addr×Obj)) (s:Shared) (σ:St) (H:Hp) (vs:List V) (us:List Value) (Q:St->Hp->Prop),Inv X pins σ H s->bN vs us->t vs σ H Q->
  wpAny (model X.prog X.w) X.A (assignInOrder ((assignEach ts X.env).map (·.2)) us) (fun _ s'=>∃σ' H',Inv X pins σ' H' s'/\Q σ' H') X.xe s
abbrev Fg:=V->V->V->Hp->(Hp->Prop)->Prop
def Hw(X:Cx)(t:Fg):Prop:=
 ∀(pins:List (Addr×Obj)) (s:Shared) (σ:St) (H:Hp) (o i v:V) (ov iv u:Value) (Q:Hp->Prop),Inv X pins σ H s->cE o ov->cE i iv->cE v u->t o i v H Q->
  wpAny (model X.prog X.w) X.A (setItem ov iv u) (fun _ s'=>∃H',Inv X pins σ H' s'/\Q H') X.xe s
section
variable{X:Cx}{pos:Pos}
def sk(i:Nat):TG:=fun v σ H Q=>Q (σ.set i (some v)) H
theorem AI{i:Nat}{x:Str}(hN:X.N.Nodup)(hi:X.N[i]?=some x)(hx:Loc X.env.scope x)(hf:X.fn x=true\/X.env.scope.names.lookup x=some .local:=by first|exact .inl rfl|exact .inr rfl|assumption):PG X (.Name x pos) (sk i):=by
 intro pins s σ H v u Q I r h
 exact wpAny_assign_Name (qo I hN hi hx r (fun s' I'=>⟨_,H,I',h⟩) hf)
def Ie:TGs:=fun vs σ H Q=>vs=[]/\Q σ H
def Ey(t:TG)(u:TGs):TGs:=fun vs σ H Q=>∃v r,vs=v::r/\t v σ H fun σ' H'=>u r σ' H' Q
theorem AH:PGs X [] Ie:=by
 intro pins s σ H vs us Q I r h
 obtain⟨e,h⟩:=h
 subst e
 cases r
 exact assignInOrder_nil ⟨σ,H,I,h⟩
theorem xh{e:Expr}{es:List Expr}{t:TG}{u:TGs}(h1:PG X e t)(h2:PGs X es u)
  (hs:(assignEach (e::es) X.env).map (·.2)=assign e X.env::(assignEach es X.env).map (·.2):=by rfl):PGs X (e::es) (Ey t u):=by
 intro pins s σ H vs us Q I r h
 obtain⟨v,vr,e1,h⟩:=h
 subst e1
 cases r with
 |cons r rr=>
  rw[hs]
  refine assignInOrder_cons (thn (h1 pins s σ H _ _ _ I r h) fun _ s1 hz=>?_)
  obtain⟨σ1,H1,I1,q1⟩:=hz
  exact h2 pins s1 σ1 H1 _ _ Q I1 rr q1
def Ia(K:PySem.W.Frag)(n:Nat)(t:TGs):TG:=fun v σ H Q=>∃a xs,v=.ref a/\SqT K H a xs/\xs.length=n/\t xs σ H Q
theorem DB{es:List Expr}{k:Nat}{t:TGs}{n:Nat}(hc:X.calm=true)(h:PGs X es t)
  (hn:(assignEach es X.env).length=n:=by rfl) (hst:(assignEach es X.env).findIdx? (·.1)=none:=by rfl):PG X (.Tuple es k pos) (Ia X.K n t):=by
 intro pins s σ H v u Q I r hw
 obtain⟨a,xs,e1,hq,hl,hw⟩:=hw
 subst e1
 cases r
 obtain⟨its,rv,ht,hz⟩:=I.tuple hq
 refine assign_Tuple_tuple (I.ok.hd hc) ht (by simp[hn,<-hl,rv.length]) hst fun h' hx=>?_
 have I1:Inv X pins σ H { s with heap:=h' }:=I.kept (t':=s.toks) fun b o e=>hx b o (Nat.ne_of_lt (Heap.lt_size e)) e
 exact h pins _ σ H xs _ Q I1 (by simpa using rv) hw
def Ib(to ti:TE)(t:Fg):TG:=fun v σ H Q=>to σ H fun o H1=>ti σ H1 fun i H2=>t o i v H2 fun H3=>Q σ H3
theorem DC{o i:Expr}{to ti:TE}{t:Fg}(ho:PE X o to)(hi:PE X i ti)(hs:Hw X t)
  (ha:∀v,assign (.Subscript o i pos) X.env v=(do
   let ov <-holding [v] (eval o X.env)
   let iv <-holding [v,ov] (eval i X.env)
   standAt pos
   holding [v,ov,iv] (setItem ov iv v)
   release [v,ov,iv] []):=by intro _;rfl):PG X (.Subscript o i pos) (Ib to ti t):=by
 intro pins s σ H v u Q I r h
 rw[ha]
 refine wpAny_bind (wpAny_holding (thn (ho pins s σ H _ I h) fun ov s1 hz=>?_))
 obtain⟨x,H1,I1,r1,q1⟩:=hz
 refine wpAny_bind (wpAny_holding (thn (hi pins s1 σ H1 _ I1 q1) fun iv s2 hz=>?_))
 obtain⟨y,H2,I2,r2,q2⟩:=hz
 refine wpAny_bind (wpAny_standAt (wpAny_bind (wpAny_holding (thn (hs pins s2 σ H2 x y v ov iv u _ I2 r1 r2 r q2) fun _ s3 ⟨H3,I3,q3⟩=>?_))))
 exact wpAny_release ⟨σ,H3,I3,q3⟩
def CY(te:TE)(g:TG):TS:=fun D σ H=>te σ H fun x H1=>g x σ H1 D.nx
theorem Dy{tg e:Expr}{te:TE}{g:TG}(he:PE X e te)(hg:PG X tg g)(hs:swapsWithSole [tg] e pos.line X.env=pure false:=by rfl)(hw:swappedStores [tg] e X.env=pure none:=by rfl)
  (h1:(assignEach [tg] X.env).map (·.2)=[assign tg X.env]:=by rfl):PS X (.Assign [tg] e pos) (CY te g):=by
 intro pins s σ H D I h
 refine wpAny_Assign_stores (thn (he pins s σ H _ I h) fun v s1 hz=>?_) hs hw
 obtain⟨x,H1,I1,r1,q1⟩:=hz
 rw[h1]
 exact thn (hg pins s1 σ H1 x v _ I1 r1 q1) fun _ s2 q=>q
theorem Du{i:Nat}{x:Str}{e:Expr}{te:TE}{pos':Pos}(hN:X.N.Nodup)(hi:X.N[i]?=some x)(hx:Loc X.env.scope x)(he:PE X e te)(hs:swapsWith e (some (.Name x pos')) pos.line X.env=pure false:=by rfl)(hf:X.fn x=true\/X.env.scope.names.lookup x=some .local:=by first|exact .inl rfl|exact .inr rfl|assumption) :
  PS X (.Assign [.Name x pos'] e pos) (CY te (sk i)):=by
 intro pins s σ H D I h
 refine wpAny_Assign_Name (thn (he pins s σ H _ I h) fun v s1 hz=>?_) hs
 obtain⟨y,H1,I1,r1,q1⟩:=hz
 exact qo I1 hN hi hx r1 (fun s2 I2=>⟨_,H1,I2,q1⟩) hf
end
structure It where
 go:Nat->Hp->Prop
 yld:Nat->Hp->V->Hp->Prop
 stop:Nat->Hp->Prop
def sN(X:Cx)(pins:List (Addr×Obj))(H:Hp)(b:Addr):Prop:=
 H b=none/\b≠X.env.locals/\b∉X.fs/\(b∈X.ex\/X.s₀.heap.objs.size<=b)/\(∀x c,X.env.cells.lookup x=some c->c≠b)/\∀p∈X.pn++pins,p.1≠b
theorem Inv.fpOk{X:Cx}{pins:List (Addr×Obj)}{σ:St}{H H':Hp}{s:Shared}{b:Addr}(I:Inv X pins σ H s)(hb:s.heap.objs.size<=b)(hn:H' b=none):sN X pins H' b:=by
 refine⟨hn,Nat.ne_of_gt (Nat.lt_of_lt_of_le I.lt hb),I.nofs hb,.inr (Nat.le_trans I.sz hb),fun x c e z=>?_,fun p hp z=>?_⟩
 ·obtain⟨v,q⟩:=I.cell x c e
  exact absurd (Nat.lt_of_lt_of_le q.lt (by rw[z];exact hb)) (Nat.lt_irrefl _)
 ·exact absurd (Nat.lt_of_lt_of_le (Heap.lt_size (I.pin p hp).1) (by rw[z];exact hb)) (Nat.lt_irrefl _)
structure Bt(P:Program)(w:World)(K:PySem.W.Frag)(tg:Expr)(J:It)(fp:List Addr)(it:Addr)(tn:Nat->Heap->Prop):Prop where
 mem:it∈fp
 obj:∀i h,tn i h->∀b∈fp,∃o,h.get? b=some o/\∀v,o.data≠.cell v
 keep:∀i h h',tn i h->(∀b∈fp,∀o,h.get? b=some o->h'.get? b=some o)->tn i h'
 item:∀(X:Cx),X.prog=P->X.w=w->X.K=K->X.calm=true->∀(i:Nat) (pins:List (Addr×Obj)) (s:Shared) (σ:St) (H:Hp) (E:Value->Shared->Prop),Inv X pins σ H s->(∀b∈fp,sN X pins H b)->tn i s.heap->J.go i H->
  wpAny (model P w) X.A (pyNext (.ref it)) (fun r s1=>∃u,r=some u/\
   wpAny (model P w) X.A (letOwnedTupleGo tg (.ref it) u) (fun _ s2=>∃x H',Inv X pins σ H' s2/\cE x u/\J.yld i H x H'/\tn (i+1) s2.heap/\∀b∈fp,H' b=none) E s1) E s
 done:∀(X:Cx),X.prog=P->X.w=w->X.K=K->X.calm=true->∀(i:Nat) (pins:List (Addr×Obj)) (s:Shared) (σ:St) (H:Hp) (E:Value->Shared->Prop),Inv X pins σ H s->(∀b∈fp,sN X pins H b)->tn i s.heap->J.stop i H->
  wpAny (model P w) X.A (pyNext (.ref it)) (fun r s1=>r=none/\Inv X pins σ H s1) E s
 self:∀(A:Around) (i:Nat) (s:Shared) (Q:Value->Shared->Prop) (E:Value->Shared->Prop),tn i s.heap->Q (.ref it) s->wpAny (model P w) A (pyIter (.ref it)) Q E s
abbrev TI:=St->Hp->(It->Hp->Prop)->Prop
def PIE(X:Cx)(pins:List (Addr×Obj))(σ:St)(tg:Expr)(R:It->Hp->Prop)(itv:Value)(s2:Shared):Prop:=
 ∃(it:Addr) (fp:List Addr) (tn:Nat->Heap->Prop) (J:It) (H':Hp),itv=.ref it/\Inv X pins σ H' s2/\Bt X.prog X.w X.K tg J fp it tn/\tn 0 s2.heap/\(∀b∈fp,sN X pins H' b)/\R J H'
def PI(X:Cx)(tg iter:Expr)(wi:TI):Prop:=
 ∀(pins:List (Addr×Obj)) (s:Shared) (σ:St) (H:Hp) (R:It->Hp->Prop),Inv X pins σ H s->wi σ H R->
  wpAny (model X.prog X.w) X.A (eval iter X.env) (fun v s1=>wpAny (model X.prog X.w) X.A (pyIter v) (PIE X pins σ tg R) X.xe s1) X.xe s
theorem xZ {M : Model} {A : Around} {E : Value -> Shared -> Prop} {s : Shared} {tg : Expr} {it : Addr} {u : Value} {o : Obj} {n : String} {vs : Array Value} {Q : Unit -> Shared -> Prop} (ho : s.heap.get? it = some o) (hc : o.cls = .type n) (hd : o.data = .fields vs)
    (hn:["enumerate","zip","dict_itemiterator","dict_reverseitemiterator","odict_iterator","itertools.zip_longest","itertools.pairwise"].contains n=false) (hQ:Q () s):wpAny M A (letOwnedTupleGo tg (.ref it) u) Q E s:=by
  unfold letOwnedTupleGo
  cases tg<;>first
    |exact wpAny_pure hQ
    | (cases u <;> first
        |exact wpAny_pure hQ
        | (refine wpAny_bind (wpAny_load ho ?_)
           rw[hc,hd]
           show wpAny M A (if (["enumerate","zip","dict_itemiterator","dict_reverseitemiterator","odict_iterator","itertools.zip_longest","itertools.pairwise"].contains n&&vs[0]? == some (rawInt _))=true then _ else _) Q E s
           rw[if_neg (by intro h;rw[hn,Bool.false_and]at h;cases h)]
           exact wpAny_pure hQ))
def Itl(K:PySem.W.Frag)(a:Addr):It:=
 ⟨fun i H=>∃xs x,SqL K H a xs/\xs[i]?=some x,fun i H x H'=>H'=H/\∀xs,SqL K H a xs->xs[i]?=some x,fun i H=>∃xs,SqL K H a xs/\xs.length<=i⟩
def Itt(K:PySem.W.Frag)(a:Addr):It:=
 ⟨fun i H=>∃xs x,SqT K H a xs/\xs[i]?=some x,fun i H x H'=>H'=H/\∀xs,SqT K H a xs->xs[i]?=some x,fun i H=>∃xs,SqT K H a xs/\xs.length<=i⟩
def Itr(lo:Int)(n:Nat):It:=⟨fun i _=>i<n,fun i H x H'=>H'=H/\x=.int (lo+i),fun i _=>n<=i⟩
theorem tJ{P:Program}{w:World}{K:PySem.W.Frag}{tg:Expr}(a it:Addr):Bt P w K tg (Itl K a) [it] it (fun i h=>h.IsListIter it a i) where
 mem:=by simp
 obj:=fun i h st b hb=>by
  have e:b=it:=by simpa using hb
  subst e
  obtain⟨o,e,c,d⟩:=st
  exact⟨o,e,fun v z=>by rw[d]at z;cases z⟩
 keep:=fun i h h' st k=>st.at fun o e=>k it (by simp) o e
 item:=by
  intro X hP hw hK hc i pins s σ H E I hf st hg
  subst hP hw hK
  obtain⟨xs,x,hq,hx⟩:=hg
  obtain⟨its,rv,p,hz⟩:=I.list hq
  obtain⟨u,hu,ru⟩:=rv.get hx
  obtain⟨f0,f1,f2,f3,f4,f5⟩:=hf it (by simp)
  refine wpAny_pyNext_list_item st p.isList (x:=u) (by simpa using hu) fun h' st' sb=>?_
  have I1:Inv X pins σ H { s with heap:=h' }:=I.turned (t':=s.toks) (fun b o hb e=>(sb.2 b hb).trans e) f0 f1 f3 f4 f5
  obtain⟨o,e,c,d⟩:=id st'
  exact⟨u,rfl,xZ (s:={ s with heap:=h' }) e c d (by decide) ⟨x,H,I1,ru,⟨rfl,fun ys hy=>by rw[I.list_inj hy hq];exact hx⟩,st',fun b hb=>(hf b hb).1⟩⟩
 done:=by
  intro X hP hw hK hc i pins s σ H E I hf st hg
  subst hP hw hK
  obtain⟨xs,hq,hx⟩:=hg
  obtain⟨its,rv,p,hz⟩:=I.list hq
  obtain⟨f0,f1,f2,f3,f4,f5⟩:=hf it (by simp)
  have hl:=rv.length
  exact wpAny_pyNext_list_end (I.ok.hd hc) st p.isList (by simp;omega) fun h' eb=>⟨rfl,I.turned (t':=s.toks) (fun b o hb e=>eb b o hb e) f0 f1 f3 f4 f5⟩
 self:=fun _ _ _ _ _ st h=>wpAny_pyIter_listiter st h
theorem rL{P:Program}{w:World}{K:PySem.W.Frag}{tg:Expr}(a it:Addr):Bt P w K tg (Itt K a) [it] it (fun i h=>h.IsTupleIter it a i) where
 mem:=by simp
 obj:=fun i h st b hb=>by
  have e:b=it:=by simpa using hb
  subst e
  obtain⟨o,e,c,d⟩:=st
  exact⟨o,e,fun v z=>by rw[d]at z;cases z⟩
 keep:=fun i h h' st k=>st.at fun o e=>k it (by simp) o e
 item:=by
  intro X hP hw hK hc i pins s σ H E I hf st hg
  subst hP hw hK
  obtain⟨xs,x,hq,hx⟩:=hg
  obtain⟨its,rv,p,hz⟩:=I.tuple hq
  obtain⟨u,hu,ru⟩:=rv.get hx
  obtain⟨f0,f1,f2,f3,f4,f5⟩:=hf it (by simp)
  refine wpAny_pyNext_tuple_item st (show s.heap.IsTuple a its.toArray from p) (x:=u) (by simpa using hu) fun h' st' sb=>?_
  have I1:Inv X pins σ H { s with heap:=h' }:=I.turned (t':=s.toks) (fun b o hb e=>(sb.2 b hb).trans e) f0 f1 f3 f4 f5
  obtain⟨o,e,c,d⟩:=id st'
  exact⟨u,rfl,xZ (s:={ s with heap:=h' }) e c d (by decide) ⟨x,H,I1,ru,⟨rfl,fun ys hy=>by rw[I.tuple_inj hy hq];exact hx⟩,st',fun b hb=>(hf b hb).1⟩⟩
 done:=by
  intro X hP hw hK hc i pins s σ H E I hf st hg
  subst hP hw hK
  obtain⟨xs,hq,hx⟩:=hg
  obtain⟨its,rv,p,hz⟩:=I.tuple hq
  obtain⟨f0,f1,f2,f3,f4,f5⟩:=hf it (by simp)
  have hl:=rv.length
  exact wpAny_pyNext_tuple_end (I.ok.hd hc) st (show s.heap.IsTuple a its.toArray from p) (by simp;omega) fun h' eb=>⟨rfl,I.turned (t':=s.toks) (fun b o hb e=>eb b o hb e) f0 f1 f3 f4 f5⟩
 self:=fun _ _ _ _ _ st h=>wpAny_pyIter_tupleiter st h
theorem rM{P:Program}{w:World}{K:PySem.W.Frag}{tg:Expr}(it:Addr)(lo:Int)(n:Nat):Bt P w K tg (Itr lo n) [it] it (fun i h=>IsRangeIter h it (lo+(i:Nat)*1) ((n:Int)-(i:Nat)) 1) where
 mem:=by simp
 obj:=fun i h st b hb=>by
  have e:b=it:=by simpa using hb
  subst e
  exact⟨_,st,fun v z=>by
   have z':Data.fields _=Data.cell v:=z
   cases z'⟩
 keep:=fun i h h' st k=>k it (by simp) _ st
 item:=by
  intro X hP hw hK hc i pins s σ H E I hf st hg
  subst hP hw hK
  obtain⟨f0,f1,f2,f3,f4,f5⟩:=hf it (by simp)
  have W:=Walks.range (prog:=X.prog) (w:=X.w) (I.ok.hd hc) it lo 1 n
  refine W.item i s _ _ hg st fun v h' tk hv st' kk=>?_
  obtain⟨t,rfl⟩:=hv
  have I1:Inv X pins σ H { s with heap:=h',toks:=tk }:=I.turned (fun b o hb e=>kk b o (by simpa using hb) e) f0 f1 f3 f4 f5
  refine⟨_,rfl,xZ (s:={ s with heap:=h',toks:=tk }) (n:="range_iterator") st' rfl rfl (by decide) ⟨.int (lo+i),H,I1,⟨t,?_⟩,⟨rfl,rfl⟩,st',fun b hb=>(hf b hb).1⟩⟩
  rw[Int.mul_one]
 done:=by
  intro X hP hw hK hc i pins s σ H E I hf st hg
  subst hP hw hK
  obtain⟨f0,f1,f2,f3,f4,f5⟩:=hf it (by simp)
  exact wpAny_pyNext_range_end (I.ok.hd hc) st (by have:n<=i:=hg;omega) fun h' eb=>⟨rfl,I.turned (t':=s.toks) (fun b o hb e=>eb b o hb e) f0 f1 f3 f4 f5⟩
 self:=fun _ _ _ _ _ st h=>wpAny_pyIter_rangeiter st h
section
variable{X:Cx}{tg:Expr}
def Ew(K:PySem.W.Frag)(tl:TE):TI:=fun σ H R=>tl σ H fun x H1=>∃a,x=.ref a/\(∃xs,SqL K H1 a xs)/\R (Itl K a) H1
def H0(K:PySem.W.Frag)(tl:TE):TI:=fun σ H R=>tl σ H fun x H1=>∃a,x=.ref a/\(∃xs,SqT K H1 a xs)/\R (Itt K a) H1
theorem AG{l:Expr}{tl:TE}(hl:PE X l tl):PI X tg l (Ew X.K tl):=by
 intro pins s σ H R I h
 refine thn (hl pins s σ H _ I h) fun v s1 hz=>?_
 obtain⟨x,H1,I1,r1,q1⟩:=hz
 obtain⟨a,e,⟨xs,hq⟩,q⟩:=q1
 subst e
 cases r1
 obtain⟨its,rv,p,hz⟩:=I1.list hq
 refine wpAny_pyIter_list p.isList ?_
 refine⟨s1.heap.objs.size,[s1.heap.objs.size],_,_,H1,rfl,I1.kept (t':=s1.toks) fun b o e=>Heap.get?_push_of_some _ e,tJ a _,⟨_,Heap.get?_push_size _ rfl,rfl,rfl⟩,fun b hb=>?_,q⟩
 have e:b=s1.heap.objs.size:=by simpa using hb
 subst e
 exact I1.fpOk (Nat.le_refl _) (I1.hok.fresh (Nat.le_refl _))
theorem Dz{l:Expr}{tl:TE}(hl:PE X l tl):PI X tg l (H0 X.K tl):=by
 intro pins s σ H R I h
 refine thn (hl pins s σ H _ I h) fun v s1 hz=>?_
 obtain⟨x,H1,I1,r1,q1⟩:=hz
 obtain⟨a,e,⟨xs,hq⟩,q⟩:=q1
 subst e
 cases r1
 obtain⟨its,rv,p,hz⟩:=I1.tuple hq
 refine wpAny_pyIter_tuple (show s1.heap.IsTuple a its.toArray from p) ?_
 refine⟨s1.heap.objs.size,[s1.heap.objs.size],_,_,H1,rfl,I1.kept (t':=s1.toks) fun b o e=>Heap.get?_push_of_some _ e,rL a _,⟨_,Heap.get?_push_size _ rfl,rfl,rfl⟩,fun b hb=>?_,q⟩
 have e:b=s1.heap.objs.size:=by simpa using hb
 subst e
 exact I1.fpOk (Nat.le_refl _) (I1.hok.fresh (Nat.le_refl _))
theorem wV{pins:List (Addr×Obj)}{σ:St}{H:Hp}{s:Shared}{R:It->Hp->Prop}{E:Value->Shared->Prop}{lo hi:Int}{t u v:Tok}{tk:Nat}(I:Inv X pins σ H s)(h1:-(2^62)<=lo)(h2:lo<2^62)(h3:-(2^62)<=hi)(h4:hi<2^62)
  (q:R (Itr lo (hi-lo).toNat) H):wpAny (model X.prog X.w) X.A (pyIter (.ref s.heap.objs.size)) (PIE X pins σ tg R) E { s with heap:=s.heap.push { cls:=.type "range",data:=.fields #[.int lo t,.int hi u,.int 1 v] },toks:=tk }:=by
 refine wpAny_pyIter_range (IsRange.new ..) (small_one h1 h2 h3 h4) ?_
 have I1:Inv X pins σ H { s with heap:=s.heap.push { cls:=.type "range",data:=.fields #[.int lo t,.int hi u,.int 1 v] },toks:=tk }:=I.kept fun b o e=>Heap.get?_push_of_some _ e
 refine⟨(s.heap.push { cls:=.type "range",data:=.fields #[.int lo t,.int hi u,.int 1 v] }).objs.size,[(s.heap.push { cls:=.type "range",data:=.fields #[.int lo t,.int hi u,.int 1 v] }).objs.size],_,_,H,rfl,
  I1.kept (t':=tk) fun b o e=>Heap.get?_push_of_some _ e,rM _ lo (hi-lo).toNat,?_,fun b hb=>?_,q⟩
 ·have e1:lo+((0:Nat):Int)*1=lo:=by simp
  have e2:(((hi-lo).toNat:Nat):Int)-((0:Nat):Int)=Builtin.Range.rangeSize lo hi 1:=by rw[rangeSize_one];split<;>omega
  show IsRangeIter _ _ (lo+((0:Nat):Int)*1) ((((hi-lo).toNat:Nat):Int)-((0:Nat):Int)) 1
  rw[e1,e2]
  exact Heap.get?_push_size _ rfl
 ·have e:b=(s.heap.push { cls:=.type "range",data:=.fields #[.int lo t,.int hi u,.int 1 v] }).objs.size:=by simpa using hb
  subst e
  exact I1.fpOk (Nat.le_refl _) (I1.hok.fresh (Nat.le_refl _))
def Eu(ta:TA):TI:=fun σ H R=>ta σ H fun vs H1=>∃j:Int,vs=[.int j]/\-(2^62)<=j/\j<2^62/\R (Itr 0 j.toNat) H1
theorem um{a:Expr}{ta:TA}{p pos:Pos}(hg:Gl X "range")(hm:X.mg "range"=none)(ha:PA X [a] ta)(hs:starEach [a] X.env=[(false,eval a X.env)]:=by rfl):PI X tg (.Call (.Name "range" p) [a] [] pos) (Eu ta):=by
 intro pins s σ H R I h
 refine Call_ (jd I hg hm boot_range (PyProof.Rows.callWith_type1 (thn (ha pos pins s σ H _ I h) fun us s1 ⟨vs,H1,I1,r1,q1⟩=>?_) hs rfl))
 obtain⟨j,e,q1,q2,q⟩:=q1
 subst e
 cases r1 with
 |cons r rr=>
  cases rr
  obtain⟨t,rfl⟩:=r
  exact call_range_1 (wV I1 (by omega) (by omega) q1 q2 (by simpa using q))
def EZ(wi:TI)(g:TG)(tb:TS):TS:=fun D σ H=>wi σ H fun J H1=>∃W:Nat->Nat->St->Hp->Prop,(∃m,W 0 m σ H1)/\∀i m σ H,W i m σ H->
 (J.stop i H/\D.nx σ H)\/(J.go i H/\∃N:St->Hp->Prop,(∀σ' H',N σ' H'->∃m',m'<m/\W (i+1) m' σ' H')/\∀x H',J.yld i H x H'->g x σ H' fun σ2 H2=>tb { D with nx:=N,ct:=N,bk:=D.nx } σ2 H2)
def qC(fp:List Addr)(h:Heap):List (Addr×Obj):=fp.filterMap fun b=>(h.get? b).map fun o=>(b,o)
theorem dS{fp:List Addr}{h:Heap}{b:Addr}{o:Obj}(hb:b∈fp)(e:h.get? b=some o):(b,o)∈qC fp h:=List.mem_filterMap.mpr ⟨b,hb,by rw[e];rfl⟩
theorem uz{fp:List Addr}{h:Heap}{p:Addr×Obj}(hp:p∈qC fp h):p.1∈fp/\h.get? p.1=some p.2:=by
 obtain⟨b,hb,e⟩:=List.mem_filterMap.mp hp
 cases q:h.get? b with
 |none=>rw[q]at e;cases e
 |some o=>
  rw[q]at e
  have e':(b,o)=p:=Option.some.inj e
  subst e'
  exact⟨hb,q⟩
theorem Inv.pinned{pins:List (Addr×Obj)}{σ:St}{H:Hp}{s:Shared}{fp:List Addr}(I:Inv X pins σ H s)(hf:∀b∈fp,sN X pins H b)(ho:∀b∈fp,∃o,s.heap.get? b=some o/\∀v,o.data≠.cell v):Inv X (pins++qC fp s.heap) σ H s:=
 I.pins_of fun p hp=>(List.mem_append.mp hp).elim (fun z=>I.pin p (List.mem_append_right _ z)) fun z=>by
  obtain⟨hb,e⟩:=uz z
  obtain⟨f0,f1,f2,_⟩:=hf p.1 hb
  obtain⟨o,e',d⟩:=ho p.1 hb
  rw[e]at e';cases e'
  exact⟨e,f0,f1,f2,d⟩
theorem Inv.unpinned{pins pl:List (Addr×Obj)}{σ:St}{H:Hp}{s:Shared}(I:Inv X (pins++pl) σ H s):Inv X pins σ H s:=I.pins_of fun p hp=>I.pin p (List.mem_append_right _ (List.mem_append_left _ hp))
theorem Dw{iter:Expr}{body:List Stmt}{wi:TI}{g:TG}{tb:TS}{pos:Pos}(hp:PassesOwn (model X.prog X.w) X.A X.env X.xe)(hc:X.calm=true)(hi:PI X tg iter wi)(hg:PG X tg g)(hb:PSs X body tb)
  (hs:∀x,foldedSetIterable iter X.env x=pure x:=by intro _;rfl):PS X (.For tg iter body [] pos) (EZ wi g tb):=by
 intro pins s σ H D I h
 refine wpAny_For (thn (hi pins s σ H _ I h) fun v s1 h1=>thn h1 fun itv s2 h2=>?_) hs
 obtain⟨it,fp,tn,J,H2,e,I2,T,st2,f2,W,⟨m0,w0⟩,turn⟩:=h2
 subst e
 have stat:∀{H':Hp},(∀b∈fp,H' b=none)->∀b∈fp,sN X pins H' b:=fun hn b hb=>⟨hn b hb,(f2 b hb).2⟩
 refine codeAny_forLoop_any (fun n s'=>∃i σ' H',Inv X pins σ' H' s'/\tn i s'.heap/\(∀b∈fp,H' b=none)/\W i n σ' H') ?_ m0 ⟨0,σ,H2,I2,st2,fun b hb=>(f2 b hb).1,w0⟩
 rintro n s3 ⟨i,σ3,H3,I3,st3,fr3,w3⟩
 rcases turn i n σ3 H3 w3 with⟨stop,qn⟩|⟨go,N,hN,step⟩
 ·refine wpAny_passesOwn hp (thn (T.done X rfl rfl rfl hc i pins s3 σ3 H3 X.xe I3 (stat fr3) st3 stop) fun r s4 ⟨hr,I4⟩=>?_)
  subst hr
  exact wpAny_execs_nil ⟨σ3,H3,I4,qn⟩
 ·refine wpAny_passesOwn hp (thn (T.item X rfl rfl rfl hc i pins s3 σ3 H3 X.xe I3 (stat fr3) st3 go) fun r s4 ⟨u,hr,h4⟩=>?_)
  subst hr
  refine wpAny_passesOwn hp (thn h4 fun _ s5 hz=>?_)
  obtain⟨x,H5,I5,r5,y5,st5,fr5⟩:=hz
  have I5':=I5.pinned (stat fr5) (T.obj _ _ st5)
  refine wpAny_passesOwn hp (thn (hg _ s5 σ3 H5 x u _ I5' r5 (step x H5 y5)) fun _ s6 hz=>?_)
  obtain⟨σ6,H6,I6,q6⟩:=hz
  refine wpAny_passesOwn hp (thn (hb _ s6 σ6 H6 _ I6 q6) fun f s7 q7=>?_)
  have again:∀{σ7:St} {H7:Hp},Inv X (pins++qC fp s5.heap) σ7 H7 s7->N σ7 H7->∃m,m<n/\∃i σ' H',Inv X pins σ' H' s7/\tn i s7.heap/\(∀b∈fp,H' b=none)/\W i m σ' H':=fun{σ7 H7} I7 n7=>by
   obtain⟨m',hm,w7⟩:=hN σ7 H7 n7
   refine⟨m',hm,i+1,σ7,H7,I7.unpinned,T.keep _ _ _ st5 fun b hb o e=>(I7.pin (b,o) (List.mem_append_right _ (List.mem_append_right _ (dS hb e)))).1,fun b hb=>?_,w7⟩
   obtain⟨o,e,d⟩:=T.obj _ _ st5 b hb
   exact(I7.pin (b,o) (List.mem_append_right _ (List.mem_append_right _ (dS hb e)))).2.1
  cases f with
  |next=>obtain⟨σ7,H7,I7,n7⟩:=q7;exact again I7 n7
  |cont=>obtain⟨σ7,H7,I7,n7⟩:=q7;exact again I7 n7
  |brk=>obtain⟨σ7,H7,I7,q7⟩:=q7;exact⟨σ7,H7,I7.unpinned,q7⟩
  |ret v=>obtain⟨x7,σ7,H7,I7,r7,q7⟩:=q7;exact⟨x7,σ7,H7,I7.unpinned,r7,q7⟩
end
abbrev R2:=V->V->Hp->VK->Prop
def OpR(X:Cx)(f:Value->Value->Sem Value)(r:R2):Prop:=
 ∀(pins:List (Addr×Obj)) (s:Shared) (σ:St) (H:Hp) (x y:V) (v u:Value) (Q:VK),Inv X pins σ H s->cE x v->cE y u->r x y H Q->
  wpAny (model X.prog X.w) X.A (f v u) (EP X pins σ Q) X.xe s
def UnR(X:Cx)(f:Value->Sem Value)(r:V->Hp->VK->Prop):Prop:=
 ∀(pins:List (Addr×Obj)) (s:Shared) (σ:St) (H:Hp) (x:V) (v:Value) (Q:VK),Inv X pins σ H s->cE x v->r x H Q->
  wpAny (model X.prog X.w) X.A (f v) (EP X pins σ Q) X.xe s
def fF(X:Cx)(f:Value)(r:List V->Hp->VK->Prop):Prop:=
 ∀(pins:List (Addr×Obj)) (s:Shared) (σ:St) (H:Hp) (xs:List V) (us:List Value) (Q:VK),Inv X pins σ H s->bN xs us->r xs H Q->
  wpAny (model X.prog X.w) X.A (call f us) (EP X pins σ Q) X.xe s
def tOp(r:R2)(ta tb:TE):TE:=fun σ H Q=>ta σ H fun x H1=>tb σ H1 fun y H2=>r x y H2 Q
def tUn(r:V->Hp->VK->Prop)(ta:TE):TE:=fun σ H Q=>ta σ H fun x H1=>r x H1 Q
def rI(C:Int->Int->Prop)(g:Int->Int->V):R2:=fun x y H Q=>∃i j,x=.int i/\y=.int j/\C i j/\Q (g i j) H
def rI0(g:Int->Int->V):R2:=fun x y H Q=>∃i j,x=.int i/\y=.int j/\Q (g i j) H
def rU(g:Int->V):V->Hp->VK->Prop:=fun x H Q=>∃i,x=.int i/\Q (g i) H
section
variable{X:Cx}{a b c:Expr}{ta tb tc:TE}{pos:Pos}
theorem Hq(ha:PE X a ta)(hb:PE X b tb){pins:List (Addr×Obj)}{s:Shared}{σ:St}{H:Hp}{R:V->V->Hp->Prop}(I:Inv X pins σ H s)
  (h:ta σ H fun x H1=>tb σ H1 fun y H2=>R x y H2) {Q:Value->Shared->Prop} {f:Value->Value->Sem Value}
  (hf:∀v u s2 x y H2,Inv X pins σ H2 s2->cE x v->cE y u->R x y H2->wpAny (model X.prog X.w) X.A (f v u) Q X.xe s2) :
  wpAny (model X.prog X.w) X.A (eval a X.env) (fun v s₁=>wpAny (model X.prog X.w) X.A (eval b X.env) (fun u s₂=>wpAny (model X.prog X.w) X.A (f v u) Q X.xe s₂) X.xe s₁) X.xe s:=by
 refine thn (ha pins s σ H _ I h) fun v s1 hz=>?_
 obtain⟨x,H1,I1,r1,q1⟩:=hz
 refine thn (hb pins s1 σ H1 _ I1 q1) fun u s2 hz=>?_
 obtain⟨y,H2,I2,r2,q2⟩:=hz
 exact hf v u s2 x y H2 I2 r1 r2 q2
theorem GL{op:Operator}{r:R2}(ho:OpR X (binaryOp op) r)(ha:PE X a ta)(hb:PE X b tb):PE X (.BinOp a op b pos) (tOp r ta tb):=by
 intro pins s σ H Q I h
 exact wpAny_BinOp (Hq ha hb I h fun v u s2 x y H2 I2 rx ry q=>ho pins s2 σ H2 x y v u Q I2 rx ry q)
theorem GK{op:UnaryOp}{r:V->Hp->VK->Prop}(ho:UnR X (unaryOp op) r)(ha:PE X a ta):PE X (.UnaryOp op a pos) (tUn r ta):=by
 intro pins s σ H Q I h
 exact UnaryOp_ (thn (ha pins s σ H _ I h) fun v s1 ⟨x,H1,I1,r1,q1⟩=>ho pins s1 σ H1 x v Q I1 r1 q1)
theorem opI{f:Value->Value->Sem Value}{C:Int->Int->Prop}{g:Int->Int->Int}
  (rule:∀(i j:Int) (t u:Tok) (s:Shared) (Q:Value->Shared->Prop) (E:Value->Shared->Prop),C i j->Q (.int (g i j) s.toks) { s with toks:=s.toks+1 }->wpAny (model X.prog X.w) X.A (f (.int i t) (.int j u)) Q E s) :
  OpR X f (rI C fun i j=>.int (g i j)):=by
 intro pins s σ H x y v u Q I rx ry h
 obtain⟨i,j,rfl,rfl,hc,q⟩:=h
 obtain⟨t,rfl⟩:=rx
 obtain⟨t',rfl⟩:=ry
 exact rule i j t t' s _ _ hc ⟨.int (g i j),H,I.tok _,⟨_,rfl⟩,q⟩
theorem HN{f:Value->Value->Sem Value}{g:Int->Int->Int}
  (rule:∀(i j:Int) (t u:Tok) (s:Shared) (Q:Value->Shared->Prop) (E:Value->Shared->Prop),Q (.int (g i j) s.toks) { s with toks:=s.toks+1 }->wpAny (model X.prog X.w) X.A (f (.int i t) (.int j u)) Q E s) :
  OpR X f (rI0 fun i j=>.int (g i j)):=by
 intro pins s σ H x y v u Q I rx ry h
 obtain⟨i,j,rfl,rfl,q⟩:=h
 obtain⟨t,rfl⟩:=rx
 obtain⟨t',rfl⟩:=ry
 exact rule i j t t' s _ _ ⟨.int (g i j),H,I.tok _,⟨_,rfl⟩,q⟩
theorem GX{f:Value->Value->Sem Value}{g:Int->Int->Bool}
  (rule:∀(i j:Int) (t u:Tok) (s:Shared) (Q:Value->Shared->Prop) (E:Value->Shared->Prop),Q (.bool (g i j)) s->wpAny (model X.prog X.w) X.A (f (.int i t) (.int j u)) Q E s) :
  OpR X f (rI0 fun i j=>.bl (g i j)):=by
 intro pins s σ H x y v u Q I rx ry h
 obtain⟨i,j,rfl,rfl,q⟩:=h
 obtain⟨t,rfl⟩:=rx
 obtain⟨t',rfl⟩:=ry
 exact rule i j t t' s _ _ ⟨.bl (g i j),H,I,rfl,q⟩
def BE(i j:Int):Prop:=0<=j/\j<=1000000/\i.natAbs<2^64
def zm(i j:Int):Prop:=(-(2^64)<i/\i<2^64)\/(-(2^64)<j/\j<2^64)
theorem zm.ok{i j:Int}(h:zm i j):IntMulOk i j:=by
 rcases h with⟨h1,h2⟩|⟨h1,h2⟩
 ·exact .of_left (intBits_le_64 h1 h2)
 ·exact .of_right (intBits_le_64 h1 h2)
theorem DZ:OpR X (binaryOp .Add) (rI0 fun i j=>.int (i+j)):=HN fun _ _ _ _ _ _ _ q=>add_int q
theorem DW:OpR X (binaryOp .Sub) (rI0 fun i j=>.int (i-j)):=HN fun _ _ _ _ _ _ _ q=>sub_int q
theorem jc:OpR X (binaryOp .Mult) (rI zm fun i j=>.int (i*j)):=opI fun _ _ _ _ _ _ _ hc q=>mul_int q hc.ok
theorem jT:OpR X (binaryOp .Mod) (rI (fun _ j=>0<j) fun i j=>.int (i % j)):=opI fun i j _ _ _ _ _ hc q=>by
 have h1:(0:Int)<j:=hc
 exact mod_int' (by omega) (by rw[Int.fmod_eq_emod_of_nonneg i (by omega)];exact q)
theorem yY:OpR X (binaryOp .Pow) (rI BE fun i j=>.int (i^j.toNat)):=opI fun _ _ _ _ _ _ _ hc q=>pow_int_small hc.1 hc.2.1 hc.2.2 q
theorem unI{f:Value->Sem Value}{g:Int->Int}
  (rule:∀(i:Int) (t:Tok) (s:Shared) (Q:Value->Shared->Prop) (E:Value->Shared->Prop),Q (.int (g i) s.toks) { s with toks:=s.toks+1 }->wpAny (model X.prog X.w) X.A (f (.int i t)) Q E s) :
  UnR X f (rU fun i=>.int (g i)):=by
 intro pins s σ H x v Q I rx h
 obtain⟨i,rfl,q⟩:=h
 obtain⟨t,rfl⟩:=rx
 exact rule i t s _ _ ⟨.int (g i),H,I.tok _,⟨_,rfl⟩,q⟩
theorem yH:UnR X (unaryOp .USub) (rU fun i=>.int (-i)):=unI fun _ _ _ _ _ q=>neg_int q
end
def Gy:V->V->Bool
 |.non,.non=>true|.non,.int _=>true|.int _,.non=>true|.non,.bl _=>true|.bl _,.non=>true|.non,.str _=>true|.str _,.non=>true
 |.int _,.int _=>true|.bl _,.bl _=>true|.str _,.str _=>true|.byt _,.byt _=>true
 |.int _,.str _=>true|.str _,.int _=>true|.bl _,.str _=>true|.str _,.bl _=>true
 |_,_=>false
def rEq:R2:=fun x y H Q=>Gy x y=true/\Q (.bl (decide (x=y))) H
def rNe:R2:=fun x y H Q=>Gy x y=true/\Q (.bl (!decide (x=y))) H
theorem vz{i j:Int}:decide (V.int i=V.int j)=(i == j):=by
 rw[Bool.eq_iff_iff]
 simp
theorem zd{i j:Bool}:decide (V.bl i=V.bl j)=(i == j):=by
 rw[Bool.eq_iff_iff]
 simp
theorem vy{i j:Str}:decide (V.str i=V.str j)=(i == j):=by
 rw[Bool.eq_iff_iff]
 simp
theorem vA{i j:Array UInt8}:decide (V.byt i=V.byt j)=(i.toList == j.toList):=by
 rw[Bool.eq_iff_iff]
 cases i
 cases j
 simp
section
variable{X:Cx}{a b c:Expr}{ta tb tc:TE}{pos:Pos}
theorem bC{pins:List (Addr×Obj)}{σ:St}{H:Hp}{s:Shared}{Q:VK}{k k':Bool}(I:Inv X pins σ H s)(q:Q (.bl k) H)(e:k=k'):EP X pins σ Q (.bool k') s:=by
 subst e
 exact⟨.bl k,H,I,rfl,q⟩
theorem iA:OpR X (compareOp .Eq) rEq:=by
 intro pins s σ H x y v u Q I rx ry h
 obtain⟨hs,q⟩:=h
 cases x with
 |non=>
  cases rx
  cases y with
  |non=>cases ry;exact PySem.EqNone.eq_none_none (bC I q (by simp))
  |bl j=>cases ry;exact PySem.EqNone.eq_none_bool (bC I q (by simp))
  |int j=>obtain⟨t',rfl⟩:=ry;exact PySem.EqNone.eq_none_int (bC I q (by simp))
  |str j=>obtain⟨t',rfl⟩:=ry;exact PySem.EqNone.eq_none_str (bC I q (by simp))
  |_=>exact absurd (show false=true from hs) Bool.false_ne_true
 |bl i=>
  cases rx
  cases y with
  |non=>cases ry;exact PySem.EqNone.eq_bool_none (bC I q (by simp))
  |bl j=>cases ry;exact eq_bool (bC I q zd)
  |str j=>obtain⟨t',rfl⟩:=ry;exact PySem.EqMixed.eq_bool_str (bC I q (by simp))
  |_=>exact absurd (show false=true from hs) Bool.false_ne_true
 |int i=>
  obtain⟨t,rfl⟩:=rx
  cases y with
  |non=>cases ry;exact PySem.EqNone.eq_int_none (bC I q (by simp))
  |int j=>obtain⟨t',rfl⟩:=ry;exact eq_int (bC I q vz)
  |str j=>obtain⟨t',rfl⟩:=ry;exact PySem.EqMixed.eq_int_str (bC I q (by simp))
  |_=>exact absurd (show false=true from hs) Bool.false_ne_true
 |str i=>
  obtain⟨t,rfl⟩:=rx
  cases y with
  |non=>cases ry;exact PySem.EqNone.eq_str_none (bC I q (by simp))
  |bl j=>cases ry;exact PySem.EqMixed.eq_str_bool (bC I q (by simp))
  |int j=>obtain⟨t',rfl⟩:=ry;exact PySem.EqMixed.eq_str_int (bC I q (by simp))
  |str j=>obtain⟨t',rfl⟩:=ry;exact eq_str (bC I q vy)
  |_=>exact absurd (show false=true from hs) Bool.false_ne_true
 |byt i=>
  obtain⟨t,rfl⟩:=rx
  cases y with
  |byt j=>obtain⟨t',rfl⟩:=ry;exact PySem.W.eq_bytes (bC I q vA)
  |_=>exact absurd (show false=true from hs) Bool.false_ne_true
 |_=>cases y<;>exact absurd (show false=true from hs) Bool.false_ne_true
theorem AV:OpR X (compareOp .NotEq) rNe:=by
 intro pins s σ H x y v u Q I rx ry h
 obtain⟨hs,q⟩:=h
 cases x with
 |non=>
  cases rx
  cases y with
  |non=>cases ry;exact PySem.EqNone.ne_none_none (bC I q (by simp))
  |bl j=>cases ry;exact PySem.EqNone.ne_none_bool (bC I q (by simp))
  |int j=>obtain⟨t',rfl⟩:=ry;exact PySem.EqNone.ne_none_int (bC I q (by simp))
  |str j=>obtain⟨t',rfl⟩:=ry;exact PySem.EqNone.ne_none_str (bC I q (by simp))
  |_=>exact absurd (show false=true from hs) Bool.false_ne_true
 |bl i=>
  cases rx
  cases y with
  |non=>cases ry;exact PySem.EqNone.ne_bool_none (bC I q (by simp))
  |bl j=>cases ry;exact ne_bool (bC I q (congrArg not zd))
  |str j=>obtain⟨t',rfl⟩:=ry;exact PySem.EqMixed.ne_bool_str (bC I q (by simp))
  |_=>exact absurd (show false=true from hs) Bool.false_ne_true
 |int i=>
  obtain⟨t,rfl⟩:=rx
  cases y with
  |non=>cases ry;exact PySem.EqNone.ne_int_none (bC I q (by simp))
  |int j=>obtain⟨t',rfl⟩:=ry;exact ne_int (bC I q (congrArg not vz))
  |str j=>obtain⟨t',rfl⟩:=ry;exact PySem.EqMixed.ne_int_str (bC I q (by simp))
  |_=>exact absurd (show false=true from hs) Bool.false_ne_true
 |str i=>
  obtain⟨t,rfl⟩:=rx
  cases y with
  |non=>cases ry;exact PySem.EqNone.ne_str_none (bC I q (by simp))
  |bl j=>cases ry;exact PySem.EqMixed.ne_str_bool (bC I q (by simp))
  |int j=>obtain⟨t',rfl⟩:=ry;exact PySem.EqMixed.ne_str_int (bC I q (by simp))
  |str j=>obtain⟨t',rfl⟩:=ry;exact ne_str (bC I q (congrArg not vy))
  |_=>exact absurd (show false=true from hs) Bool.false_ne_true
 |byt i=>
  obtain⟨t,rfl⟩:=rx
  cases y with
  |byt j=>obtain⟨t',rfl⟩:=ry;exact PySem.W.ne_bytes (bC I q (congrArg not vA))
  |_=>exact absurd (show false=true from hs) Bool.false_ne_true
 |_=>cases y<;>exact absurd (show false=true from hs) Bool.false_ne_true
theorem AW:OpR X (compareOp .Lt) (rI0 fun i j=>.bl (decide (i<j))):=GX fun _ _ _ _ _ _ _ q=>lt_int q
theorem GV:OpR X (compareOp .Gt) (rI0 fun i j=>.bl (decide (j<i))):=GX fun _ _ _ _ _ _ _ q=>gt_int q
theorem GW:OpR X (compareOp .GtE) (rI0 fun i j=>.bl (decide (j<=i))):=GX fun _ _ _ _ _ _ _ q=>ge_int q
theorem yZ:OpR X (compareOp .Is) (fun x y H Q=>y=.non/\Q (.bl (decide (x=.non))) H):=by
 intro pins s σ H x y v u Q I rx ry h
 obtain⟨rfl,q⟩:=h
 cases ry
 refine is_none_gen (bC I q ?_)
 cases x<;>first
  |(cases rx;rfl)
  |(obtain⟨t,rfl⟩:=rx;rfl)
theorem OpR.or{f:Value->Value->Sem Value}{r r':R2}(h:OpR X f r)(h':OpR X f r'):OpR X f (fun x y H Q=>r x y H Q\/r' x y H Q):=by
 intro pins s σ H x y v u Q I rx ry q
 rcases q with q|q
 ·exact h pins s σ H x y v u Q I rx ry q
 ·exact h' pins s σ H x y v u Q I rx ry q
theorem bM(b:Expr){op:CmpOp}(h:op≠.In:=by decide)(h2:op≠.NotIn:=by decide):behindInMarks op b=false:=by
 have e1:(op == CmpOp.In)=false:=by cases op<;>first|rfl|exact absurd rfl h
 have e2:(op == CmpOp.NotIn)=false:=by cases op<;>first|rfl|exact absurd rfl h2
 cases b<;>simp[behindInMarks,e1,e2]
theorem AL{op:CmpOp}{r:R2}(ho:OpR X (compareOp op) r)(ha:PE X a ta)(hb:PE X b tb)(hm:behindInMarks op b=false):PE X (.Compare a [op] [b] pos) (tOp r ta tb):=by
 intro pins s σ H Q I h
 exact wpAny_Compare1 (Hq ha hb I h fun v u s2 x y H2 I2 rx ry q=>ho pins s2 σ H2 x y v u Q I2 rx ry q) hm
def CM(t:TE):TT:=fun σ H Q=>t σ H fun x H'=>∃k,x=.bl k/\Q k H'
theorem Ay{op:CmpOp}{r:R2}(ho:OpR X (compareOp op) r)(ha:PE X a ta)(hb:PE X b tb)(hm:behindInMarks op b=false):PT X (.Compare a [op] [b] pos) (CM (tOp r ta tb)):=by
 intro pins s σ H Q I h
 refine wpAny_isTrue_Compare1 (thn (ha pins s σ H _ I h) fun v s1 ⟨x,H1,I1,r1,q1⟩=>thn (hb pins s1 σ H1 _ I1 q1) fun u s2 ⟨y,H2,I2,r2,q2⟩=>
  thn (ho pins s2 σ H2 x y v u _ I2 r1 r2 q2) fun c s3 ⟨z,H3,I3,r3,k,e,q3⟩=>?_) hm
 subst e
 cases r3
 exact wpAny_truthy_bool ⟨H3,I3,q3⟩
theorem qO:(sizeLine:Nat)<2^63:=by rw[sizeLine_eq];decide
theorem rS:OpR X (binaryOp .Add) (fun x y H Q=>∃i j,x=.str i/\y=.str j/\i.length+j.length<=sizeLine/\Q (.str (i++j)) H):=by
 intro pins s σ H x y v u Q I rx ry h
 obtain⟨i,j,rfl,rfl,hz,q⟩:=h
 obtain⟨t,rfl⟩:=rx
 obtain⟨t',rfl⟩:=ry
 exact add_str (fun t' tk=>⟨.str (i++j),H,I.tok _,⟨_,rfl⟩,q⟩) hz
theorem oW{x:V}{us:List Value}(r:bN [x] us):∃u,us=[u]/\cE x u:=by
 cases r with
 |cons r1 r2=>cases r2;exact⟨_,rfl,r1⟩
theorem z9{x y:V}{us:List Value}(r:bN [x,y] us):∃u w',us=[u,w']/\cE x u/\cE y w':=by
 cases r with
 |cons r1 r2=>
  cases r2 with
  |cons r3 r4=>cases r4;exact⟨_,_,rfl,r1,r3⟩
end
structure Bx(h:Heap)(x dx C:Addr)(mA:Str->Option Value):Prop where
 obj:h.get? x=some (PySem.W.instObj C dx)
 ns:h.Ns1 dx mA
 ne:dx≠x
theorem uH{h:Heap}{dx:Addr}{mA:Str->Option Value}(n:h.Ns1 dx mA):∃od,h.get? dx=some od/\∀name,PySem.W.lookIn name od=some (mA name):=by
 obtain⟨o,es,ep,ho,hd,hk,_,hm⟩:=n
 refine⟨o,ho,fun name=>?_⟩
 have e:=hm name
 unfold nsFind findBy at e
 rw[<-Array.find?_toList]at e
 unfold PySem.W.lookIn
 rw[hd]
 dsimp only
 split
 ·rename_i y q
  rw[q]at e
  exact congrArg some e
 ·rename_i q
  rw[q]at e
  have a:es.toList.any (·.refKey)=false:=by
   rw[List.any_eq_false]
   intro y hy
   obtain⟨z,t,hkey⟩:=hk y (Array.mem_toList_iff.mp hy)
   simp[DictEntry.refKey,hkey]
  have a':¬es.toList.any (·.refKey)=true:=by rw[a];exact Bool.false_ne_true
  rw[if_neg a']
  exact congrArg some e
theorem Bx.look{h:Heap}{x dx C:Addr}{mA:Str->Option Value}(I:Bx h x dx C mA):∃od,PySem.W.InstAt h x (PySem.W.instObj C dx) C (some od)/\∀name,PySem.W.lookIn name od=some (mA name):=
 let ⟨od,ho,hl⟩:=uH I.ns
 ⟨od,⟨I.obj,rfl,rfl,ho⟩,hl⟩
section
variable{prog:Program}{w:World}{A:Around}{E:Value->Shared->Prop}{s:Shared}{K:PySem.W.Frag}{x dx C f:Addr}{mA:Str->Option Value}{name:Str}{v:Value}
theorem Bc{expr:Bool}{Q:Value->Shared->Prop}(X:K.In s.heap)(I:Bx s.heap x dx C mA)(hg:PySem.W.plainGet K C name=true)(hh:PySem.W.hasDictIn K C=true)
  (ha:PySem.W.findIn K (.ref C) name=some none) (hv:mA name=some v) (hv':PySem.W.handedIn v=true) (h:Q v { s with toks:=s.toks+1 }) :
  wpAny (model prog w) A (getAttr (.ref x) name expr) Q E s:=by
 obtain⟨od,J,hl⟩:=I.look
 exact PySem.W.get_value X J (PySem.W.plainGet_of hg).1 (PySem.W.findObj_own hh ha rfl (by rw[hl,hv])) hv' h
theorem x5{pl:Sem Bool}{Q:Value×List Value->Shared->Prop}(X:K.In s.heap)(I:Bx s.heap x dx C mA)(hg:PySem.W.plainGet K C name=true)
  (hf:PySem.W.findIn K (.ref C) name=some (some (.ref f))) (ht:PySem.W.isFn K (.ref f)=true) (hv:mA name=none) (h:Q (.ref f,[.ref x]) s) :
  wpAny (model prog w) A (getMethod (.ref x) name pl) Q E s:=by
 obtain⟨od,J,hl⟩:=I.look
 exact PySem.W.method_fn X J (PySem.W.plainGet_of hg).1 (PySem.W.plainGet_of hg).2 hf (beq_iff_eq.mp ht) (by show(PySem.W.lookIn name od).map (·.isSome)=some false;rw[hl,hv];rfl) h
theorem Ai{ns:List Str}{Q:Unit->Shared->Prop}(X:K.In s.heap)(I:Bx s.heap x dx C mA)
  (hs:PySem.W.findIn K (.ref C) "__setattr__"=some (some (.builtin "object.__setattr__"))) (hp:PySem.W.plainOver K C=true) (ht:PySem.W.takerIn K C name=some none) (hh:PySem.W.hasDictIn K C=true)
  (hw:PySem.Within mA ns) (hsz:ns.length<=sizeLine)
  (h:∀h',Bx h' x dx C (fun y=>if y=name then some v else mA y)->Heap.SameBut dx s.heap h'->Q () { s with heap:=h',toks:=s.toks+2 }) :
  wpAny (model prog w) A (setAttr (.ref x) name v) Q E s:=by
 obtain⟨od,J,hl⟩:=I.look
 refine PySem.W.set_plain X J hs (PySem.W.osa_open (s:={ s with toks:=s.toks+1 }) (r:=none) X J hp ht fun b=>?_)
 obtain⟨cd,hc,hd'⟩:=PySem.W.any_some hh
 have hx:s.heap.get? x=some ⟨.ref C,some dx,.plain,#[]⟩:=I.obj
 refine wpAny_bind (wpAny_pure (wpAny_bind (wpAny_bind (wpAny_loadPart hx (wpAny_bind (PySem.W.Looks.here (s:={ s with toks:=s.toks+1 }) (PySem.W.looks_clsIn X hc) ?_))))))
 rw[hd']
 refine wpAny_pure (a:=some dx) (wpAny_bind (wpAny_pure (wpAny_bind ?_)))
 refine wpAny_nsSet1 (s:={ s with toks:=s.toks+1 }) I.ns fun h' hn2 hs2=>?_
 obtain⟨oD,esD,epD,hoD,hdD,hcD⟩:=hn2.count (PySem.Within.cons name v hw)
 refine wpAny_bind (wpAny_lookBehind hoD (by rw[hdD];exact pastItsLine_dict (Nat.le_trans hcD (by rw[List.length_cons];omega))) ?_)
 exact wpAny_pure (h _ ⟨(hs2.2 _ (Ne.symm I.ne)).trans I.obj,hn2,I.ne⟩ hs2)
theorem xK{R:Result->Shared->Prop}{vs:List Value}{kw:List (Str×Value)}(X:K.In s.heap)(hm:PySem.W.makesIn K C=true)
  (hi:PySem.W.findIn K (.ref C) "__init__"=some (some (.ref f))) (hf:PySem.W.typeIn K (.ref f)=some (.type "function"))
  (h:codeAny (model prog w) (A.under (.builtin "type.__call__" ⟨.ref C::vs,kw⟩)) (.call (.ref f) ⟨.ref (s.heap.objs.size+1)::vs,kw⟩) (PySem.W.InitBack (s.heap.objs.size+1) R)
   { s with heap:=(s.heap.push PySem.W.emptyDict).push (PySem.W.instObj C s.heap.objs.size) }) :
  codeAny (model prog w) A (.call (.ref C) ⟨vs,kw⟩) R s:=by
 obtain⟨hh,g,d,t,os⟩:=s
 exact PySem.W.make_core (PySem.W.makes_of X hm) (PySem.W.looks_findIn X hi) (fun self=>PySem.W.bind_fn X self hf) (.inl rfl) h
end
def kP(f:Str)(v:V):List (Str×V)->List (Str×V)
 |[]=>[(f,v)]
 |(g,x)::r=>if g=f then(g,v)::r else(g,x)::kP f v r
theorem gN(f g:Str)(v:V):∀fs:List (Str×V),(kP f v fs).lookup g=if g=f then some v else fs.lookup g
 |[]=>by
  show List.lookup g [(f,v)]=_
  by_cases h:g=f
  ·have hb:(g == f)=true:=beq_iff_eq.mpr h
   simp only[List.lookup,hb,if_pos h]
  ·have hb:(g == f)=false:=beq_eq_false_iff_ne.mpr h
   simp only[List.lookup,hb,if_neg h]
 |(k,x)::r=>by
  have ih:=gN f g v r
  rw[show kP f v ((k,x)::r)=(if k=f then(k,v)::r else(k,x)::kP f v r)from rfl]
  by_cases hk:k=f
  ·rw[if_pos hk]
   by_cases h:g=k
   ·have hb:(g == k)=true:=beq_iff_eq.mpr h
    simp only[List.lookup,hb,if_pos (h.trans hk)]
   ·have hb:(g == k)=false:=beq_eq_false_iff_ne.mpr h
    simp only[List.lookup,hb,if_neg (fun e:g=f=>h (e.trans hk.symm))]
  ·rw[if_neg hk]
   by_cases h:g=k
   ·have hb:(g == k)=true:=beq_iff_eq.mpr h
    simp only[List.lookup,hb,if_neg (fun e:g=f=>hk (h.symm.trans e))]
   ·have hb:(g == k)=false:=beq_eq_false_iff_ne.mpr h
    simp only[List.lookup,hb]
    exact ih
theorem d0(f:Str)(v:V):∀fs:List (Str×V),f∈(kP f v fs).map (·.1)/\∀g,g∈fs.map (·.1)->g∈(kP f v fs).map (·.1)
 |[]=>⟨by simp[kP],fun g h=>by simp at h⟩
 |(k,x)::r=>by
  obtain⟨i1,i2⟩:=d0 f v r
  rw[show kP f v ((k,x)::r)=(if k=f then(k,v)::r else(k,x)::kP f v r)from rfl]
  by_cases hk:k=f
  ·rw[if_pos hk]
   subst hk
   exact⟨by simp,fun g h=>by simpa using h⟩
  ·rw[if_neg hk]
   refine⟨?_,fun g h=>?_⟩
   ·rw[List.map_cons]
    exact List.mem_cons_of_mem _ i1
   ·rw[List.map_cons]at h ⊢
    rcases List.mem_cons.mp h with e|e
    ·exact List.mem_cons.mpr (.inl e)
    ·exact List.mem_cons_of_mem _ (i2 g e)
theorem j2(f:Str)(v:V):∀fs:List (Str×V),(kP f v fs).length<=fs.length+1
 |[]=>by simp[kP]
 |(k,x)::r=>by
  have ih:=j2 f v r
  rw[show kP f v ((k,x)::r)=(if k=f then(k,v)::r else(k,x)::kP f v r)from rfl]
  by_cases hk:k=f
  ·rw[if_pos hk,List.length_cons,List.length_cons];omega
  ·rw[if_neg hk,List.length_cons,List.length_cons];omega
theorem ng.some_of{v:V}{o:Option Value}(r:ng (some v) o):∃u,o=some u/\cE v u:=by
 cases o with
 |none=>exact(show False from r).elim
 |some u=>exact⟨u,rfl,r⟩
theorem ng.none_of{o:Option Value}(r:ng none o):o=none:=by
 cases o with
 |none=>rfl
 |some u=>exact(show False from r).elim
theorem va{v:V}{u:Value}(r:cE v u):PySem.W.handedIn u=true:=by
 cases v with
 |non=>cases (show u=Value.none from r);rfl
 |bl b=>cases (show u=Value.bool b from r);rfl
 |int i=>obtain⟨t,e⟩:=(show ∃t,u=Value.int i t from r);cases e;rfl
 |str x=>obtain⟨t,e⟩:=(show ∃t,u=Value.str x t from r);cases e;rfl
 |byt b=>obtain⟨t,e⟩:=(show ∃t,u=Value.bytes b t from r);cases e;rfl
 |flt b=>obtain⟨t,e⟩:=(show ∃t,u=Value.float b t from r);cases e;rfl
 |ref a=>cases (show u=Value.ref a from r);rfl
 |ty n=>cases (show u=Value.type n from r);rfl
section
variable{P:Program}{w:World}{H H':Hp}{h h':Heap}{a C dx:Addr}{fs fs':List (Str×V)}
theorem mL(hok:HOk P w H h)(e:H a=some (.ins C dx fs)):∃mA,Bx h a dx C mA/\(∀f,ng (fs.lookup f) (mA f))/\PySem.Within mA (fs.map (·.1))/\fs.length<=1000/\H dx=some (.own a):=by
 obtain⟨d,z,ne,ob,mA,n,r,q⟩:=(show cK P w H h a (.ins C dx fs)from hok a _ e)
 exact⟨mA,⟨ob,n,ne⟩,r,q,z,d⟩
end
structure Cls(K:PySem.W.Frag)(C:Addr):Prop where
 pg:PySem.W.plainGet K C Str.empty=true
 hd:PySem.W.hasDictIn K C=true
 po:PySem.W.plainOver K C=true
 sa:PySem.W.findIn K (.ref C) "__setattr__"=some (some (.builtin "object.__setattr__"))
theorem Cls.get{K:PySem.W.Frag}{C:Addr}(c:Cls K C)(f:Str):PySem.W.plainGet K C f=true:=c.pg
def gG(K:PySem.W.Frag)(C:Addr)(f:Str):Prop:=PySem.W.findIn K (.ref C) f=some none
theorem gG.taker{K:PySem.W.Frag}{C:Addr}{f:Str}(n:gG K C f):PySem.W.takerIn K C f=some none:=by
 unfold PySem.W.takerIn
 rw[show PySem.W.findIn K (.ref C) f=some none from n]
 rfl
structure v8(K:PySem.W.Frag)(C:Addr)(m:Str)(f:Addr):Prop where
 at_:PySem.W.findIn K (.ref C) m=some (some (.ref f))
 fn:PySem.W.isFn K (.ref f)=true
 kp:PySem.W.keepIn K (.ref f)=true
section
variable{X:Cx}{pins:List (Addr×Obj)}{σ:St}{H:Hp}{s:Shared}{a C dx:Addr}{fs:List (Str×V)}{f:Str}{v:V}{A:Around}{E:Value->Shared->Prop}
theorem sj{b:Bool}{Q:Value->Shared->Prop}(I:Inv X pins σ H s)(e:H a=some (.ins C dx fs))(c:Cls X.K C)(n:gG X.K C f)(l:fs.lookup f=some v)
  (h:∀u s',Inv X pins σ H s'->cE v u->Q u s'):wpAny (model X.prog X.w) A (getAttr (.ref a) f b) Q E s:=by
 obtain⟨mA,O,r,_,_,_⟩:=mL I.hok e
 obtain⟨u,hu,ru⟩:=ng.some_of (v:=v) (o:=mA f) (by rw[<-l];exact r f)
 exact Bc I.kIn O (c.get f) c.hd n hu (va ru) (h u _ (I.tok _) ru)
theorem si{m:Str}{g:Addr}{pl:Sem Bool}{Q:Value×List Value->Shared->Prop}(I:Inv X pins σ H s)(e:H a=some (.ins C dx fs))(c:Cls X.K C)(k:v8 X.K C m g)(l:fs.lookup m=none)
  (h:Q (.ref g,[.ref a]) s):wpAny (model X.prog X.w) A (getMethod (.ref a) m pl) Q E s:=by
 obtain⟨mA,O,r,_,_,_⟩:=mL I.hok e
 have hn:mA m=none:=ng.none_of (by rw[<-l];exact r m)
 exact x5 I.kIn O (c.get m) k.at_ k.fn hn h
theorem rN{y:V}{u:Value}{Q:Unit->Shared->Prop}(I:Inv X pins σ H s)(e:H a=some (.ins C dx fs))(c:Cls X.K C)(n:gG X.K C f)(hl:fs.length<1000)(ry:cE y u)
  (h:∀s',Inv X pins σ (upd H a (.ins C dx (kP f y fs))) s'->Q () s'):wpAny (model X.prog X.w) A (setAttr (.ref a) f u) Q E s:=by
 obtain⟨mA,O,r,wi,_,ho⟩:=mL I.hok e
 have hz:(fs.map (·.1)).length<=sizeLine:=by rw[List.length_map,sizeLine_eq];omega
 refine Ai I.kIn O c.sa c.po n.taker c.hd wi hz fun h' O' sb=>h _ ?_
 have hd:∃o,h'.get? dx=some o:=let ⟨o,_,_,e',_⟩:=O'.ns;⟨o,e'⟩
 refine I.write (x:=a) (e:=dx) (by rw[e];exact True.intro) (.inr ho) (fun b q hb z=>(sb.2 b hb).trans z) hd ?_
 refine⟨by rw[aV O.ne];exact ho,?_,O.ne,O'.obj,_,O'.ns,fun g=>?_,fun g hg=>?_⟩
 ·have:=j2 f y fs;omega
 ·show ng ((kP f y fs).lookup g) (if g=f then some u else mA g)
  rw[gN]
  by_cases q:g=f
  ·rw[if_pos q,if_pos q];exact ry
  ·rw[if_neg q,if_neg q];exact r g
 ·by_cases q:g=f
  ·rw[q];exact(d0 f y fs).1
  ·refine(d0 f y fs).2 g (wi g fun z=>hg ?_)
   show(if g=f then some u else mA g)=none
   rw[if_neg q];exact z
theorem Inv.made(I:Inv X pins σ H s):Inv X pins σ (upd (upd H s.heap.objs.size (.own (s.heap.objs.size+1))) (s.heap.objs.size+1) (.ins C s.heap.objs.size []))
  { s with heap:=(s.heap.push PySem.W.emptyDict).push (PySem.W.instObj C s.heap.objs.size) }:=by
 have e1:(s.heap.push PySem.W.emptyDict).get? s.heap.objs.size=some PySem.W.emptyDict:=Heap.get?_push_size s.heap rfl
 have e2:((s.heap.push PySem.W.emptyDict).push (PySem.W.instObj C s.heap.objs.size)).get? (s.heap.objs.size+1)=some (PySem.W.instObj C s.heap.objs.size):=by
  have:=Heap.get?_push_size (s.heap.push PySem.W.emptyDict) (o:=PySem.W.instObj C s.heap.objs.size) rfl
  rwa[Heap.size_push]at this
 have e3:(s.heap.push PySem.W.emptyDict).Ns s.heap.objs.size (fun _=>none):=⟨PySem.W.emptyDict,#[],_,e1,rfl,(fun e he=>absurd he (by simp)),fun _=>rfl⟩
 have I1:=I.laid (a:=s.heap.objs.size) (o:=.own (s.heap.objs.size+1)) (h':=s.heap.push PySem.W.emptyDict) (t':=s.toks) (fun b u q=>Heap.get?_push_of_some _ q) (Nat.le_refl _) ⟨_,e1⟩
 refine I1.laid (a:=s.heap.objs.size+1) (o:=.ins C s.heap.objs.size []) (t':=s.toks) (fun b u q=>Heap.get?_push_of_some _ q) (Nat.le_of_eq (Heap.size_push _ _)) ?_
 have ne:s.heap.objs.size≠s.heap.objs.size+1:=Nat.ne_of_lt (Nat.lt_succ_self _)
 refine⟨by rw[aV ne,aJ],Nat.zero_le _,ne,e2,fun _=>none,(Heap.Ns1.of_empty e3).at fun o q=>Heap.get?_push_of_some _ q,fun _=>True.intro,fun y hy=>absurd rfl hy⟩
theorem Bq{prog:Program}{w:World}{env:Env}{e:Expr}{f:Str}{pos:Pos}{s:Shared}{Q:Value->Shared->Prop}(hb:attributeBase e f env (eval e env)=eval e env)
  (h:wpAny (model prog w) A (eval e env) (fun o s₁=>wpAny (model prog w) A (getAttr o f true) Q E s₁) E s):wpAny (model prog w) A (eval (.Attribute e f pos) env) Q E s:=
 Attribute_any_ h (by rw[arm_eval_Attribute,hb])
end
def HG(K:PySem.W.Frag)(ta:TE)(f:Str):TE:=fun σ H Q=>ta σ H fun x H1=>∃a C dx fs v,x=.ref a/\H1 a=some (.ins C dx fs)/\Cls K C/\gG K C f/\fs.lookup f=some v/\Q v H1
def HK(K:PySem.W.Frag)(ta tv:TE)(f:Str):TS:=fun D σ H=>tv σ H fun y H1=>ta σ H1 fun x H2=>∃a C dx fs,x=.ref a/\H2 a=some (.ins C dx fs)/\Cls K C/\gG K C f/\fs.length<1000/\
 D.nx σ (upd H2 a (.ins C dx (kP f y fs)))
section
variable{X:Cx}{o e value:Expr}{f:Str}{pos pos' tpos:Pos}{ta tv:TE}
theorem DN(he:PE X e ta)(hb:attributeBase e f X.env (eval e X.env)=eval e X.env):PE X (.Attribute e f pos) (HG X.K ta f):=by
 intro pins s σ H Q I h
 refine Bq hb (thn (he pins s σ H _ I h) fun u s1 hz=>?_)
 obtain⟨x,H1,I1,rx,a,C,dx,fs,v,ex,ea,c,n,l,q⟩:=hz
 subst ex
 obtain rfl:u=Value.ref a:=rx
 exact sj I1 ea c n l fun u' s2 I2 ru=>⟨v,H1,I2,ru,q⟩
theorem Dx(ha:PE X o ta)(hv:PE X value tv)(hs:swapsWith value (some (.Attribute o f pos')) pos.line X.env=pure false):PS X (.Assign [.Attribute o f pos'] value pos) (HK X.K ta tv f):=by
 intro pins s σ H D I h
 refine plainObj_wpAny_Assign_Attribute (thn (hv pins s σ H _ I h) fun u s1 ⟨y,H1,I1,ry,q⟩=>thn (ha pins s1 σ H1 _ I1 q) fun ov s2 hz=>?_) hs
 obtain⟨x,H2,I2,rx,a,C,dx,fs,ex,ea,c,n,l,q2⟩:=hz
 subst ex
 obtain rfl:ov=Value.ref a:=rx
 exact rN I2 ea c n l ry fun s3 I3=>⟨σ,_,I3,q2⟩
end
section
variable{X:Cx}{pins:List (Addr×Obj)}{σ:St}{H:Hp}{s:Shared}{A:Around}{E:Value->Shared->Prop}{Q:Value->Shared->Prop}{c:Value}{b:Bool}
inductive rC(K:PySem.W.Frag)(H:Hp):V->Value->Prop where
 |non:rC K H .non (.type "NoneType")
 |bl (x:Bool):rC K H (.bl x) (.type "bool")
 |int (i:Int):rC K H (.int i) (.type "int")
 |str (x:Str):rC K H (.str x) (.type "str")
 |flt (x:UInt64):rC K H (.flt x) (.type "float")
 |lst {a:Addr} {xs:List V} (e:H a=some (.lst xs)):rC K H (.ref a) (.type "list")
 |frz {a:Addr} {o:Obj} {xs:List V} (e:H a=some (.frz o (.lst xs))):rC K H (.ref a) (.type "list")
 |tup {a:Addr} {xs:List V} (e:H a=some (.tup xs)):rC K H (.ref a) (.type "tuple")
 |dK {a:Addr} {kvs:List (Key×V)} (e:H a=some (.dK kvs)):rC K H (.ref a) (.type "dict")
 |dT {a:Addr} {kvs:List (List Key×V)} (e:H a=some (.dT kvs)):rC K H (.ref a) (.type "dict")
 | ins {a C dx:Addr} {fs:List (Str×V)} (e:H a=some (.ins C dx fs)) (cl:Cls K C) (ha:PySem.W.findIn K (.ref C) "__class__"=some (some (.builtin "object.__class__")))
   (hn:PySem.W.specialIn K (.builtin "object.__class__") "__get__"=some (some (.builtin "getset_descriptor.__get__"))) (htk:PySem.W.takesIn K (.builtin "object.__class__")=some true)
   (hm:PySem.W.mroIn K C (.type "object")=some true):rC K H (.ref a) (.ref C)
theorem uV{x:V}{u t:Value}(I:Inv X pins σ H s)(rx:cE x u)(ty:rC X.K H x t)(e:PySem.W.kitOne X.K t c=some b)(h:∀tk,Q (.bool b) { s with toks:=tk }) :
  wpAny (model X.prog X.w) A (call (.builtin "isinstance") [u,c]) Q E s:=by
 cases ty with
 |non=>cases (show u=Value.none from rx);exact PySem.W.kia_one PySem.W.kitx_none I.kIn True.intro e (fun z=>nomatch z) h
 |bl y=>cases (show u=Value.bool y from rx);exact PySem.W.kia_one PySem.W.kitx_bool I.kIn True.intro e (fun z=>nomatch z) h
 |int i=>obtain⟨t,q⟩:=(show ∃t,u=Value.int i t from rx);cases q;exact PySem.W.kia_one PySem.W.kitx_int I.kIn True.intro e (fun z=>nomatch z) h
 |str y=>obtain⟨t,q⟩:=(show ∃t,u=Value.str y t from rx);cases q;exact PySem.W.kia_one PySem.W.kitx_str I.kIn True.intro e (fun z=>nomatch z) h
 |flt y=>obtain⟨t,q⟩:=(show ∃t,u=Value.float y t from rx);cases q;exact PySem.W.kia_one PySem.W.kitx_float I.kIn True.intro e (fun z=>nomatch z) h
 |@lst a xs ea=>
  cases (show u=Value.ref a from rx)
  obtain⟨_,_,n,_,h1⟩:=(show cK X.prog X.w H s.heap a (.lst xs)from I.hok a _ ea)
  exact PySem.W.kia_one PySem.W.kitx_list I.kIn ⟨_,h1,rfl⟩ e (fun z=>nomatch z) h
 |@frz a ob xs ea=>
  cases (show u=Value.ref a from rx)
  obtain⟨_,_,_,n,_,h1⟩:=(show cK X.prog X.w H s.heap a (.frz ob (.lst xs))from I.hok a _ ea)
  exact PySem.W.kia_one PySem.W.kitx_list I.kIn ⟨_,h1,rfl⟩ e (fun z=>nomatch z) h
 |@tup a xs ea=>
  cases (show u=Value.ref a from rx)
  obtain⟨_,_,_,p⟩:=(show cK X.prog X.w H s.heap a (.tup xs)from I.hok a _ ea)
  obtain⟨o,h1,h2,_⟩:=p
  exact PySem.W.kia_one PySem.W.kitx_tuple I.kIn ⟨o,h1,h2⟩ e (fun z=>nomatch z) h
 |@dK a kvs ea=>
  cases (show u=Value.ref a from rx)
  obtain⟨_,_,vs,_,p⟩:=(show cK X.prog X.w H s.heap a (.dK kvs)from I.hok a _ ea)
  obtain⟨o,es,ep,h1,h2,_⟩:=p
  exact PySem.W.kia_one PySem.W.kitx_dict I.kIn ⟨o,h1,h2.1⟩ e (fun z=>nomatch z) h
 |@dT a kvs ea=>
  cases (show u=Value.ref a from rx)
  obtain⟨_,_,xs,_,o,es,ep,h1,h2,_⟩:=(show cK X.prog X.w H s.heap a (.dT kvs)from I.hok a _ ea)
  exact PySem.W.kia_one PySem.W.kitx_dict I.kIn ⟨o,h1,h2.1⟩ e (fun z=>nomatch z) h
 |@ins a C dx fs ea cl ha hn htk hm=>
  cases (show u=Value.ref a from rx)
  obtain⟨mA,O,_⟩:=mL I.hok ea
  obtain⟨od,J,_⟩:=O.look
  exact PySem.W.kia_one (PySem.W.kitx_own (cl.get _) cl.hd ha hn htk hm) I.kIn J e (fun z=>nomatch z) h
end
structure gw(k:Nat)(A:Around):Prop where
 hd:A.handled=none
 dp:A.depth+3*k+5<recursionLimit
 un:A.units+16*k+200<cLine
 gd:A.guards=some []
theorem gw.mono{j k:Nat}{A:Around}(r:gw k A)(h:j<=k):gw j A:=⟨r.hd,by have:=r.dp;omega,by have:=r.un;omega,r.gd⟩
theorem gw.deeper{k:Nat}{A:Around}(r:gw (k+1) A)(env:Env):gw k (A.deeper env):=
 ⟨r.hd,by have:=r.dp;show A.depth+1+3*k+5<_;omega,by have:=r.un;show A.units+3+16*k+200<_;omega,r.gd⟩
theorem rX{A:Around}{C:Addr}{us:List Value}{kw:List (Str×Value)}:(A.under (.builtin "type.__call__" ⟨.ref C::us,kw⟩)).depth=A.depth+1:=by
 first|rfl|simp[Around.under,Code.weight,Code.isCreation,Code.isGuard,Code.isCaller,Code.frames,Code.isFrame,guardIds]
theorem rW{A:Around}{C:Addr}{us:List Value}{kw:List (Str×Value)}:(A.under (.builtin "type.__call__" ⟨.ref C::us,kw⟩)).units=A.units+1:=by
 first|rfl|simp[Around.under,Code.cUnits,Code.frames,Code.isFrame]
theorem gw.make{k:Nat}{A:Around}(r:gw (k+1) A)(C:Addr)(us:List Value)(kw:List (Str×Value)):gw k (A.under (.builtin "type.__call__" ⟨.ref C::us,kw⟩)):=
 ⟨r.hd,by have:=r.dp;rw[rX];omega,by have:=r.un;rw[rW];omega,r.gd⟩
theorem gw.depth{k:Nat}{A:Around}(r:gw k A):A.depth<recursionLimit:=by have:=r.dp;omega
theorem gw.units{k:Nat}{A:Around}(r:gw k A):A.units+64<cLine:=by have:=r.un;omega
def EY:TA:=fun _ H Q=>Q [] H
def CV(ta:TE)(tr:TA):TA:=fun σ H Q=>ta σ H fun x H1=>tr σ H1 fun xs H2=>Q (x::xs) H2
section
variable{X:Cx}{e:Expr}{es:List Expr}{te:TE}{t:TA}{pos:Pos}
theorem DS:PA X [] EY:=fun _ _ _ _ H Q I h=>Calls.spliced_nil ⟨[],H,I,.nil,h⟩
theorem AR(ha:PE X e te)(hr:PA X es t)(hs:starEach (e::es) X.env=(false,eval e X.env)::starEach es X.env:=by rfl):PA X (e::es) (CV te t):=by
 intro pos pins s σ H Q I h
 rw[hs]
 show wpAny _ _ (spliced ((false,eval e X.env)::backTo pos (starEach es X.env))) _ _ s
 refine Calls.spliced_cons (thn (ha pins s σ H _ I h) fun u s1 hz=>?_)
 obtain⟨x,H1,I1,r1,q1⟩:=hz
 exact thn (hr pos pins s1 σ H1 _ I1 q1) fun us s2 ⟨xs,H2,I2,r2,q2⟩=>⟨x::xs,H2,I2,.cons r1 r2,q2⟩
def HA(t:TA):TE:=fun σ H Q=>t σ H fun xs H1=>xs.length<=sizeLine/\∀p,H1 p=none->Q (.ref p) (upd H1 p (.tup xs))
def HE(t:TA):TE:=fun σ H Q=>t σ H fun xs H1=>xs.length<=sizeLine/\∀p,H1 p=none->Q (.ref p) (upd H1 p (.lst xs))
theorem DG{x1}(h:PA X es t):PE X (.Tuple es x1 pos) (HA t):=by
 intro pins s σ H Q I hq
 refine wpAny_Tuple_spliced (thn (h pos pins s σ H _ I hq) fun us s1 ⟨xs,H1,I1,r,z,q⟩=>⟨by rw[<-r.length];exact z,?_⟩)
 have hf:H1 s1.heap.objs.size=none:=I1.hok.fresh (Nat.le_refl _)
 refine⟨.ref s1.heap.objs.size,upd H1 s1.heap.objs.size (.tup xs),I1.laid (t':=s1.toks) (fun b u e=>Heap.get?_push_of_some _ e) (Nat.le_refl _) ?_,rfl,q _ hf⟩
 exact⟨z,us,r,⟨_,Heap.get?_push_size _ rfl,rfl,_,rfl⟩⟩
theorem DL(h:PA X es t):PE X (.List es pos) (HE t):=by
 intro pins s σ H Q I hq
 refine wpAny_List_spliced (thn (h pos pins s σ H _ I hq) fun us s1 ⟨xs,H1,I1,r,z,q⟩=>⟨by rw[<-r.length];exact z,?_⟩)
 have hf:H1 s1.heap.objs.size=none:=I1.hok.fresh (Nat.le_refl _)
 refine⟨.ref s1.heap.objs.size,upd H1 s1.heap.objs.size (.lst xs),I1.laid (t':=s1.toks) (fun b u e=>Heap.get?_push_of_some _ e) (Nat.le_refl _) ?_,rfl,q _ hf⟩
 exact⟨z,us,0,r,Heap.get?_push_size _ rfl⟩
end
abbrev Sp:=List V->Hp->VK->XK->Prop
abbrev CXT:=List Env->Hp->Shared->XK->Value->Shared->Prop
structure Bz(P:Program)(w:World)(K:PySem.W.Frag)(mg:Str->Option Value)(base:Heap)(A:Around)(outer:List Env)(s:Shared)(H:Hp):Prop where
 frames:A.frames=some outer
 mod:Mod K mg base
 bs:∀b o,base.get? b=some o->s.heap.get? b=some o/\H b=none
 bsz:base.objs.size<=s.heap.objs.size
 funs:s.heap.FunFrames base outer
 frf:∀b∈frs outer,H b=none
 hok:HOk P w H s.heap
 bare:AllBare s.gens
def CE(outer:List Env)(P:Program)(w:World)(H:Hp)(s:Shared)(Q:VK)(u:Value)(s':Shared):Prop:=
 ∃v H',s'.os=s.os/\AllBare s'.gens/\Un (frs outer) [] H H' s.heap s'.heap/\HOk P w H' s'.heap/\cE v u/\Q v H'
def CR(CX:CXT)(outer:List Env)(P:Program)(w:World)(H:Hp)(s:Shared)(Q:VK)(E:XK)(r:Result)(s':Shared):Prop:=
 match r with
 |.ok (.ret u)=>CE outer P w H s Q u s'
 |.ok _=>False
 |.error e=>CX outer H s E e s'
structure kM(P:Program)(w:World)(K:PySem.W.Frag)(mg:Str->Option Value)(base:Heap)(CX:CXT)(k:Nat)(f:Addr)(fd:FuncData)(ps:List Str)(sp:Sp):Prop where
 len:∀vs H Q E,sp vs H Q E->vs.length=ps.length
 run:∀(A:Around) (outer:List Env) (s:Shared) (H:Hp) (args:Args) (us:List Value) (vs:List V) (Q:VK) (E:XK),gw k A->Bz P w K mg base A outer s H->BindsTo s fd args (ps.zip us)->bN vs us->sp vs H Q E->
  codeAny (model P w) A (.call (.ref f) args) (CR CX outer P w H s Q E) s
theorem kM.mono{P:Program}{w:World}{K:PySem.W.Frag}{mg:Str->Option Value}{base:Heap}{CX:CXT}{j k:Nat}{f:Addr}{fd:FuncData}{ps:List Str}{sp:Sp}(F:kM P w K mg base CX j f fd ps sp)(h:j<=k) :
  kM P w K mg base CX k f fd ps sp:=⟨F.len,fun A outer s H args us vs Q E hr=>F.run A outer s H args us vs Q E (hr.mono h)⟩
theorem Bz.make{P:Program}{w:World}{K:PySem.W.Frag}{mg:Str->Option Value}{base:Heap}{A:Around}{outer:List Env}{s:Shared}{H:Hp}(e:Bz P w K mg base A outer s H)(C:Addr)(us:List Value)(kw:List (Str×Value)) :
  Bz P w K mg base (A.under (.builtin "type.__call__" ⟨.ref C::us,kw⟩)) outer s H:=⟨by first|exact e.frames|(simpa [Around.under,Code.envs,Code.isFrame,pushEnvs] using e.frames),e.mod,e.bs,e.bsz,e.funs,e.frf,e.hok,e.bare⟩
section
variable{X:Cx}{pins:List (Addr×Obj)}{σ:St}{H:Hp}{s s':Shared}
theorem Inv.env0(I:Inv X pins σ H s):Bz X.prog X.w X.K X.mg X.base X.A X.stack s H:=
 ⟨I.ok.frames,I.ok.mod,I.bs,Nat.le_trans I.ok.bsz I.sz,I.stack,I.stkFree,I.hok,I.bare⟩
theorem Inv.after{Q:VK}{u:Value}(I:Inv X pins σ H s)(h:CE X.stack X.prog X.w H s Q u s'):EP X pins σ Q u s':=by
 obtain⟨v,H',os,bare,un,hok,r,q⟩:=h
 obtain⟨hh,g,d,t,os'⟩:=s'
 obtain rfl:os'=s.os:=os
 exact⟨v,H',I.call (h':=hh) (g':=g) (d':=d) (t':=t) (ch:=[]) un hok bare (fun b z=>absurd z (by simp)),r,q⟩
end
def CW(sp:Sp)(dvs:List V)(E:XK)(t:TA):TE:=fun σ H Q=>t σ H fun vs H1=>sp (vs++dvs) H1 Q E
def Ad(C:Addr)(m:Str)(sp:Sp)(dvs:List V)(E:XK)(ta:TE)(t:TA):TE:=fun σ H Q=>ta σ H fun x H1=>∃a dx fs,x=.ref a/\H1 a=some (.ins C dx fs)/\fs.lookup m=none/\
 t σ H1 fun vs H2=>sp (x::(vs++dvs)) H2 Q E
def Ae(C:Addr)(sp:Sp)(dvs:List V)(E:XK)(t:TA):TE:=fun σ H Q=>t σ H fun vs H1=>∀x dx,H1 x=none->H1 dx=none->dx≠x->
 sp (.ref x::(vs++dvs)) (upd (upd H1 dx (.own x)) x (.ins C dx [])) (fun v H2=>v=.non/\Q (.ref x) H2) E
def fN(K:PySem.W.Frag)(fd:FuncData)(ps:List Str)(ds:List Value):Prop:=
 ∀(s:Shared) (us:List Value),K.In s.heap->(us++ds).length=ps.length->BindsTo s fd ⟨us,[]⟩ (ps.zip (us++ds))
theorem fN.all{K:PySem.W.Frag}{fd:FuncData}{ps:List Str}(h:∀us:List Value,us.length=ps.length->bindArgs fd ⟨us,[]⟩=pure (ps.zip us)):fN K fd ps []:=fun s us _ hl=>by
 rw[List.append_nil]at hl ⊢
 exact .of_eq (h us hl)
def jm(CX:CXT)(X:Cx)(E:XK):Prop:=∀(pins:List (Addr×Obj)) (σ:St) (H:Hp) (s:Shared) (e:Value) (s':Shared),Inv X pins σ H s->CX X.stack H s E e s'->X.xe e s'
section
variable{X:Cx}{CX:CXT}{k:Nat}{f C:Addr}{fd:FuncData}{ps:List Str}{sp:Sp}{dvs:List V}{ds:List Value}{E:XK}{x m:Str}{p pos apos:Pos}{e o:Expr}{es:List Expr}{ta:TE}{t:TA}
theorem yQ{pins:List (Addr×Obj)}{σ:St}{H:Hp}{s:Shared}{Q:VK}{us:List Value}{vs:List V}(F:kM X.prog X.w X.K X.mg X.base CX k f fd ps sp)(hr:gw k X.A)(hb:fN X.K fd ps ds)(hd:bN dvs ds)(hx:jm CX X E)
  (I:Inv X pins σ H s) (r:bN vs us) (h:sp (vs++dvs) H Q E):wpAny (model X.prog X.w) X.A (call (.ref f) us) (EP X pins σ Q) X.xe s:=by
 have r2:bN (vs++dvs) (us++ds):=r.append hd
 have hl:(us++ds).length=ps.length:=by rw[<-r2.length];exact F.len _ _ _ _ h
 refine wpAny_call (codeAny_mono (F.run X.A X.stack s H ⟨us,[]⟩ (us++ds) (vs++dvs) Q E hr I.env0 (hb s us I.kIn hl) r2 h) fun r s' hq=>?_)
 cases r with
 |error e=>exact hx pins σ H s e s' I hq
 |ok fl=>
  cases fl with
  |ret u=>exact I.after hq
  |next=>exact False.elim hq
  |brk=>exact False.elim hq
  |cont=>exact False.elim hq
theorem AM(F:kM X.prog X.w X.K X.mg X.base CX k f fd ps sp)(hr:gw k X.A)(hg:Gl X x)(hm:X.mg x=some (.ref f))(hk:PySem.W.keepIn X.K (.ref f)=true)(hb:fN X.K fd ps ds)(hd:bN dvs ds)(hx:jm CX X E)
  (ha:PA X (e::es) t) (hdb:(x == ("__debug__":Str))=false:=by decide) (he:starEach (e::es) X.env=(false,eval e X.env)::starEach es X.env:=by rfl) (hpl:(backTo pos (starEach es X.env)).any (·.1)=false:=by rfl) :
  PE X (.Call (.Name x p) (e::es) [] pos) (CW sp dvs E t):=by
 intro pins s σ H Q I h
 refine wpAny_Call_Name_kw (uK I hg hm ?_ hdb)
 refine PySem.W.callWith_K (h₀:=X.base) I.ok.mod.kin hk (thn (ha pos pins s σ H _ I h) fun us s1 ⟨vs,H1,I1,r,q⟩=>⟨I1.kIn,?_⟩) he hpl
 exact yQ F hr hb hd hx I1 r q
theorem AJ{pl:Sem Bool}(he:PE X o ta)(c:Cls X.K C)(hm:v8 X.K C m f)(F:kM X.prog X.w X.K X.mg X.base CX k f fd ps sp)(hr:gw k X.A)(hb:fN X.K fd ps ds)(hd:bN dvs ds)(hx:jm CX X E)(ha:PA X (e::es) t)
  (hst:starEach (e::es) X.env=(false,eval e X.env)::starEach es X.env:=by rfl) (hpl:(backTo pos (starEach es X.env)).any (·.1)=false:=by rfl)
  (ht:eval (.Call (.Attribute o m apos) (e::es) [] pos) X.env=(do
   let ov <-eval o X.env
   standAt apos.atName
   let (f,first) <-holding [ov] (getMethod ov m pl)
   callWith pos f first (backTo pos (starEach (e::es) X.env)) (backToKw pos (keywordEach [] X.env))):=by rfl) :
  PE X (.Call (.Attribute o m apos) (e::es) [] pos) (Ad C m sp dvs E ta t):=by
 intro pins s σ H Q I h
 refine PySem.W.methodCall_KW (pl:=pl) (thn (he pins s σ H _ I h) fun u s1 hz=>?_) ht
 obtain⟨x,H1,I1,rx,a,dx,fs,ex,ea,l,q⟩:=hz
 subst ex
 obtain rfl:u=Value.ref a:=rx
 refine si I1 ea c hm l ?_
 refine PySem.W.callWith_K (first:=[.ref a]) (h₀:=X.base) I.ok.mod.kin hm.kp (thn (ha pos pins s1 σ H1 _ I1 q) fun us s2 ⟨vs,H2,I2,r,q2⟩=>⟨I2.kIn,?_⟩) hst hpl
 exact yQ (us:=.ref a::us) (vs:=.ref a::vs) F hr hb hd hx I2 (.cons rfl r) q2
structure Mk(K:PySem.W.Frag)(C f:Addr):Prop where
 makes:PySem.W.makesIn K C=true
 init:PySem.W.findIn K (.ref C) "__init__"=some (some (.ref f))
 fn:PySem.W.isFn K (.ref f)=true
 kp:PySem.W.keepIn K (.ref C)=true
theorem wR{pins:List (Addr×Obj)}{σ:St}{H:Hp}{s:Shared}{Q:VK}{us:List Value}{vs:List V}(M:Mk X.K C f)(F:kM X.prog X.w X.K X.mg X.base CX k f fd ps sp)(hr:gw (k+1) X.A)(hb:fN X.K fd ps ds)(hd:bN dvs ds)
  (hx:jm CX X E) (I:Inv X pins σ H s) (r:bN vs us)
  (h:∀x dx,H x=none->H dx=none->dx≠x->sp (.ref x::(vs++dvs)) (upd (upd H dx (.own x)) x (.ins C dx [])) (fun v H2=>v=.non/\Q (.ref x) H2) E) :
  wpAny (model X.prog X.w) X.A (call (.ref C) us) (EP X pins σ Q) X.xe s:=by
 have hq:=h (s.heap.objs.size+1) s.heap.objs.size (I.hok.fresh (Nat.le_succ _)) (I.hok.fresh (Nat.le_refl _)) (Nat.ne_of_lt (Nat.lt_succ_self _))
 have I2:=Inv.made (C:=C) I
 have r2:bN (V.ref (s.heap.objs.size+1)::(vs++dvs)) (Value.ref (s.heap.objs.size+1)::(us++ds)):=.cons rfl (r.append hd)
 have hl:(Value.ref (s.heap.objs.size+1)::us++ds).length=ps.length:=by
  have e:=r2.length
  rw[F.len _ _ _ _ hq]at e
  exact e.symm
 refine wpAny_call (xK (f:=f) I.kIn M.makes M.init (beq_iff_eq.mp M.fn) (codeAny_mono (F.run _ X.stack _ _ ⟨Value.ref (s.heap.objs.size+1)::us,[]⟩ (Value.ref (s.heap.objs.size+1)::(us++ds)) _ _ E (hr.make C us [])
  (I2.env0.make C us []) (hb _ (Value.ref (s.heap.objs.size+1)::us) I2.kIn hl) r2 hq) fun r s' hq'=>?_))
 cases r with
 |error e=>exact hx pins σ _ _ e s' I2 hq'
 |ok fl=>
  cases fl with
  |ret u=>
   obtain⟨v,H',I3,rv,ev,q3⟩:=I2.after hq'
   subst ev
   exact⟨rv,⟨V.ref (s.heap.objs.size+1),H',I3,rfl,q3⟩⟩
  |next=>exact False.elim hq'
  |brk=>exact False.elim hq'
  |cont=>exact False.elim hq'
theorem xm(M:Mk X.K C f)(F:kM X.prog X.w X.K X.mg X.base CX k f fd ps sp)(hr:gw (k+1) X.A)(hg:Gl X x)(hm:X.mg x=some (.ref C))(hb:fN X.K fd ps ds)(hd:bN dvs ds)(hx:jm CX X E)
  (hdb:(x == ("__debug__":Str))=false:=by decide):PE X (.Call (.Name x p) [] [] pos) (Ae C sp dvs E EY):=by
 intro pins s σ H Q I h
 refine wpAny_Call_Name_kw (uK I hg hm ?_ hdb)
 exact PySem.W.callWith_K0 I.kIn M.kp (wR (us:=[]) M F hr hb hd hx I .nil h)
end
structure aT(N P:List Str)(sc:Scope):Prop where
 kind:sc.kind=.function
 co:sc.isCoroutine=false
 gen:sc.isGenerator=false
 nd:N.Nodup
 pre:N.take P.length=P
 par:∀x∈P,sc.names.lookup x=some .local\/sc.names.lookup x=some .cell
 nofree:∀y∈sc.names,y.2≠.free
theorem oC{kindOf:Str->Option NameKind}{x:Str}:∀{binds:List (Str×Value)} {m:Str->Option Value},(∀v,(x,v)∉binds)->bindL kindOf binds m x=m x
 |[],_,_=>rfl
 |(n,v)::r,m,h=>by
  unfold bindL
  rw[oC fun w hw=>h w (List.mem_cons_of_mem _ hw)]
  split
  ·have:x≠n:=by rintro rfl;exact h v List.mem_cons_self
   simp[this]
  ·rfl
theorem oF{kindOf:Str->Option NameKind}{x:Str}:∀{binds:List (Str×Value)} {m:Str->Option Value},(∀v,(x,v)∉binds)->bindC kindOf binds m x=m x
 |[],_,_=>rfl
 |(n,v)::r,m,h=>by
  unfold bindC
  rw[oF fun w hw=>h w (List.mem_cons_of_mem _ hw)]
  split
  ·rfl
  ·have:x≠n:=by rintro rfl;exact h v List.mem_cons_self
   simp[this]
theorem oE{kindOf:Str->Option NameKind}{x:Str}{v:Value}:∀{P:List Str} {vs:List Value} {i:Nat} {m:Str->Option Value},P.Nodup->P[i]?=some x->vs[i]?=some v->kindOf x=some .local->
  bindL kindOf (P.zip vs) m x=some v
 |[],_,_,_,_,h,_,_=>by simp at h
 |_::_,[],_,_,_,_,h,_=>by simp at h
 |p::P,w::vs,0,m,nd,h1,h2,hk=>by
  simp at h1 h2;subst h1;subst h2
  show bindL kindOf ((p,w)::P.zip vs) m p=_
  unfold bindL
  rw[oC fun v hv=>(List.nodup_cons.mp nd).1 (List.of_mem_zip hv).1,if_pos hk]
  simp
 |p::P,w::vs,i+1,m,nd,h1,h2,hk=>by
  show bindL kindOf ((p,w)::P.zip vs) m x=_
  unfold bindL
  exact oE (i:=i) (List.nodup_cons.mp nd).2 (by simpa using h1) (by simpa using h2) hk
theorem oG{kindOf:Str->Option NameKind}{x:Str}{v:Value}:∀{P:List Str} {vs:List Value} {i:Nat} {m:Str->Option Value},P.Nodup->P[i]?=some x->vs[i]?=some v->kindOf x≠some .local->
  bindC kindOf (P.zip vs) m x=some v
 |[],_,_,_,_,h,_,_=>by simp at h
 |_::_,[],_,_,_,_,h,_=>by simp at h
 |p::P,w::vs,0,m,nd,h1,h2,hk=>by
  simp at h1 h2;subst h1;subst h2
  show bindC kindOf ((p,w)::P.zip vs) m p=_
  unfold bindC
  rw[oF fun v hv=>(List.nodup_cons.mp nd).1 (List.of_mem_zip hv).1,if_neg hk]
  simp
 |p::P,w::vs,i+1,m,nd,h1,h2,hk=>by
  show bindC kindOf ((p,w)::P.zip vs) m x=_
  unfold bindC
  exact oG (i:=i) (List.nodup_cons.mp nd).2 (by simpa using h1) (by simpa using h2) hk
def start(N:List Str)(vs:List V):St:=vs.map some++List.replicate (N.length-vs.length) none
def sM(CX:CXT)(P:Program)(w:World)(K:PySem.W.Frag)(mg:Str->Option Value)(base:Heap)(N:List Str)(qual:Str)(scope:Scope)(f:Addr)(cd:Value)(A:Around)(outer:List Env)(s:Shared)(H:Hp)(E:XK):Cx where
 prog:=P
 w:=w
 K:=K
 mg:=mg
 base:=base
 A:=A.deeper (envOfC qual scope s.heap.objs.size f cd)
 N:=N
 s₀:=s
 H₀:=H
 env:=envOfC qual scope s.heap.objs.size f cd
 outer:=outer
 stack:=envOfC qual scope s.heap.objs.size f cd::outer
 ex:=[]
 calm:=true
 fn:=fun _=>true
 pn:=[]
 xe:=fun e s'=>wpAny (model P w) (A.deeper (envOfC qual scope s.heap.objs.size f cd)) (leaving (envOfC qual scope s.heap.objs.size f cd) e) (fun _ s''=>CX outer H s E e s'') (fun e' s''=>CX outer H s E e' s'') s'
theorem rj{sc:Scope}{n:Nat}{x:Str}(h:sc.names.lookup x=some .cell):∃c,(cellsFrom n sc.names []).lookup x=some c:=by
 have q:=PySem.W.cellsFrom_some sc.names n [] (.inl h)
 exact Option.isSome_iff_exists.mp q
theorem uX{CX:CXT}{P:Program}{w:World}{K:PySem.W.Frag}{mg:Str->Option Value}{base:Heap}{N ps:List Str}{qual:Str}{scope:Scope}{f:Addr}{cd:Value}{A:Around}{outer:List Env}{s s1:Shared}{H:Hp}{E:XK}{us:List Value}{vs:List V}
  (S:aT N ps scope) (hd:A.handled=none) (e0:Bz P w K mg base A outer s H) (hl:vs.length=ps.length) (r:bN vs us)
  (x:InCallC s s.heap.objs.size (bindL (envOfC qual scope s.heap.objs.size f cd).kindOf (ps.zip us) fun _=>none) (cellsFrom (s.heap.objs.size+1) scope.names []) (bindC (envOfC qual scope s.heap.objs.size f cd).kindOf (ps.zip us) fun _=>none) s1) :
  Inv (sM CX P w K mg base N qual scope f cd A outer s H E) [] (start N vs) H s1:=by
 have hpl:ps.length<=N.length:=by have:=congrArg List.length S.pre;rw[List.length_take]at this;omega
 obtain⟨h1,tk,rfl,hk⟩:=x.done
 have noA:∀b:Addr,b∉(sM CX P w K mg base N qual scope f cd A outer s H E).ex:=fun b z=>absurd (show b∈([]:List Addr)from z) (by simp)
 refine⟨⟨e0.mod,S.kind,rfl,rfl,Nat.le_refl _,fun y z c h1 h2=>?_,fun y hy=>?_,fun y c _ h=>?_,fun _=>hd,Around.frames_deeper e0.frames,.inr ⟨rfl,rfl⟩,fun b z=>absurd z (noA b),e0.bs,e0.bsz,fun b _ _=>noA b,fun b z=>absurd z (noA b),e0.funs,e0.frf⟩,
  rfl,e0.bare,Un.kept hk,⟨_,x.toInCall.ns,fun i y v h1 h2 h3=>?_⟩,fun y c h=>⟨_,x.cell y c h⟩,e0.hok.fresh (Nat.le_refl _),fun y c h=>?_,fun p hp=>absurd (show p∈([]:List (Addr×Obj))from hp) (by simp),e0.hok.kept hk,?_⟩
 ·exact name_of_addr x.apart (PySem.mem_of_lookup h1) (PySem.mem_of_lookup h2)
 ·have hy:scope.names.lookup y=some .cell\/scope.names.lookup y=some .free:=hy
  rcases hy with hy|hy
  ·exact rj hy
  ·exact absurd rfl (S.nofree _ (PySem.mem_of_lookup hy))
 ·exact Nat.le_of_lt (x.above y c (PySem.mem_of_lookup h))
 ·have hi:i<vs.length:=by
   unfold start at h2
   by_cases hi:i<vs.length
   ·exact hi
   ·rw[List.getElem?_append_right (by simpa using hi)]at h2
    rw[List.getElem?_replicate]at h2
    split at h2<;>cases h2
  have ha:vs[i]?=some v:=by
   unfold start at h2
   rw[List.getElem?_append_left (by simpa using hi),List.getElem?_map]at h2
   cases e:vs[i]? with
   |none=>rw[e]at h2;cases h2
   |some a=>rw[e]at h2;cases h2;rfl
  obtain⟨u,hu,rv⟩:=r.get ha
  have hp:ps[i]?=some y:=by
   rw[<-S.pre,List.getElem?_take_of_lt (by omega)];exact h1
  have ndP:ps.Nodup:=by rw[<-S.pre];exact S.nd.sublist (List.take_sublist _ _)
  refine⟨u,rv,?_⟩
  rcases S.par y (List.mem_of_getElem? hp)with k|k
  ·exact .inl ⟨k,oE ndP hp hu k⟩
  ·obtain⟨c,e⟩:=rj (n:=s.heap.objs.size+1) k
   refine .inr ⟨.inl k,c,e,?_⟩
   have q:=x.cell y c e
   rw[oG ndP hp hu (by show scope.names.lookup y≠_;rw[k];decide)]at q
   exact q
 ·exact e0.hok.fresh (Nat.le_of_lt (x.above y c (PySem.mem_of_lookup h)))
 ·unfold start
  show _=N.length
  rw[List.length_append,List.length_map,List.length_replicate]
  omega
theorem Hl{CX:CXT}{P:Program}{w:World}{K:PySem.W.Frag}{mg:Str->Option Value}{base:Heap}{k:Nat}{f:Addr}{name qual:Str}{params:Arguments}{body:List Stmt}{scope:Scope}{dV kV doc pm cdv ct oc:Value}{an od:Option Addr}
  {osl:Array (Option Value)} {N ps:List Str} {sp:Sp} (lk:K.lookup f=some ⟨oc,od,.func (PySem.W.fnOf name qual params body scope dV kV doc pm an cdv ct),osl⟩) (hcd:PySem.W.codeIn K cdv qual=true) (S:aT N ps scope)
  (len:∀vs H Q E,sp vs H Q E->vs.length=ps.length)
  (hbody:∀(A:Around) (outer:List Env) (s:Shared) (H:Hp) (vs:List V) (Q:VK) (E:XK),gw k (A.deeper (envOfC qual scope s.heap.objs.size f cdv))->sp vs H Q E->
   ∃t,PSs (sM CX P w K mg base N qual scope f cdv A outer s H E) body t/\t { nx:=fun _ H'=>Q .non H',rt:=Q } (start N vs) H) :
  kM P w K mg base CX (k+1) f (PySem.W.fnOf name qual params body scope dV kV doc pm an cdv ct) ps sp:=by
 refine⟨len,fun A outer s H args us vs Q E hr e0 hb r hsp=>?_⟩
 have hl:=len _ _ _ _ hsp
 have KX:K.In s.heap:=e0.mod.kin.keeps fun b o e=>(e0.bs b o e).1
 have lim:s.heap.NoLimit:=e0.mod.nolimit.keeps fun b o e=>(e0.bs b o e).1
 have hkind:∀y∈ps.zip us,scope.names.lookup y.1=some .local\/(scope.names.lookup y.1=some .cell/\((cellsFrom (s.heap.objs.size+1) scope.names []).lookup y.1).isSome=true):=fun⟨n,v⟩ hy=>by
  rcases S.par n (List.of_mem_zip hy).1 with q|q
  ·exact .inl q
  ·exact .inr ⟨q,PySem.W.cellsFrom_some _ _ _ (.inl q)⟩
 refine codeAny_call_function hr.depth (KX _ _ lk) rfl S.co S.gen rfl (PySem.W.codeRec_of KX hcd) (hb _ _ _ _ ?_)
 refine wpAny_newFunctionEnv_cells S.kind hkind fun env he s1 x=>?_
 subst he
 refine⟨lim.keeps x.toInCall.keep,codeAny_func ?_⟩
 obtain⟨t,ht,hq⟩:=hbody A outer s H vs Q E (hr.deeper _) hsp
 have I:Inv (sM CX P w K mg base N qual scope f cdv A outer s H E) [] (start N vs) H s1:=uX S hr.hd e0 hl r x
 refine wpAny_mono (ht [] s1 (start N vs) H _ I hq) (fun fl s' hs=>?_) fun e s' hs=>hs
 have fin:∀{σ':St} {H':Hp} {v:V} {u:Value},Inv (sM CX P w K mg base N qual scope f cdv A outer s H E) [] σ' H' s'->cE v u->Q v H'->CE outer P w H s Q u s':=
  fun{σ' H' v u} J rv q=>⟨v,H',J.os,J.bare,J.base,J.hok,rv,q⟩
 cases fl with
 |ret u=>
  obtain⟨v,σ',H',J,rv,q⟩:=hs
  exact fin J rv q
 |next=>
  obtain⟨σ',H',J,q⟩:=hs
  exact fin (v:=V.non) (u:=Value.none) J rfl q
 |brk=>
  obtain⟨_,_,_,q⟩:=hs
  exact False.elim q
 |cont=>
  obtain⟨_,_,_,q⟩:=hs
  exact False.elim q
section
variable{X:Cx}{x:Str}{p pos:Pos}{e:Expr}{es:List Expr}{t:TA}{id T:String}{r:List V->Hp->VK->Prop}
def tCB(r:List V->Hp->VK->Prop)(t:TA):TE:=fun σ H Q=>t σ H fun vs H1=>r vs H1 Q
theorem xq(hc:fF X (.builtin id) r)(hg:Gl X x)(hm:X.mg x=none)(hv:bootBuiltins x=some (.builtin id))(ha:PA X (e::es) t)(hn:x≠"__name__":=by decide)(hdb:(x == ("__debug__":Str))=false:=by decide)
  (he:starEach (e::es) X.env=(false,eval e X.env)::starEach es X.env:=by rfl) (hpl:(backTo pos (starEach es X.env)).any (·.1)=false:=by rfl):PE X (.Call (.Name x p) (e::es) [] pos) (tCB r t):=by
 intro pins s σ H Q I h
 refine wpAny_Call_Name_kw (jd I hg hm hv ?_ hn hdb)
 exact PyProof.Rows.callWith_builtin1 (thn (ha pos pins s σ H _ I h) fun us s1 ⟨vs,H1,I1,r1,q1⟩=>hc pins s1 σ H1 vs us Q I1 r1 q1) he hpl
theorem uo(hc:fF X (.type T) r)(hg:Gl X x)(hm:X.mg x=none)(hv:bootBuiltins x=some (.type T))(ha:PA X (e::es) t)(hn:x≠"__name__":=by decide)(hdb:(x == ("__debug__":Str))=false:=by decide)
  (he:starEach (e::es) X.env=(false,eval e X.env)::starEach es X.env:=by rfl) (hpl:(backTo pos (starEach es X.env)).any (·.1)=false:=by rfl):PE X (.Call (.Name x p) (e::es) [] pos) (tCB r t):=by
 intro pins s σ H Q I h
 refine wpAny_Call_Name_kw (jd I hg hm hv ?_ hn hdb)
 exact PyProof.Rows.callWith_type1 (thn (ha pos pins s σ H _ I h) fun us s1 ⟨vs,H1,I1,r1,q1⟩=>hc pins s1 σ H1 vs us Q I1 r1 q1) he hpl
end
end L2
namespace HT
open PySem PyProof.Rows
section
variable{prog:Program}{w:World}{A:Around}{E:Value->Shared->Prop}{s:Shared}
theorem cat_tup{t b:Addr}{vs ws:List Value}{Q:Value->Shared->Prop}(ht:IsTup s.heap t vs.toArray)(hb:IsTup s.heap b ws.toArray)(hv:vs≠[])
  (h1:ws=[]->Q (.ref t) s) (h2:ws≠[]->Q (.ref s.heap.objs.size) { s with heap:=s.heap.push { cls:=.type "tuple",data:=.seq (vs++ws).toArray } })
  (hsz:vs.length+ws.length<=sizeLine):wpAny (model prog w) A (binaryOp .Add (.ref t) (.ref b)) Q E s:=by
 obtain⟨⟨cls,dd,data,sl⟩,ho,hc,n,hd⟩:=id ht
 obtain⟨⟨cls2,dd2,data2,sl2⟩,ho2,hc2,n2,hd2⟩:=id hb
 simp only at hc hd hc2 hd2
 subst hc hd hc2 hd2
 have e:vs.toArray++ws.toArray=(vs++ws).toArray:=by simp
 by_cases hw:ws=[]
 ·exact concat_meets ⟨_,ho,rfl⟩ ⟨_,ho2,rfl⟩ noFill_tuple_add seq_tuple_add PySem.F.slot_tuple_add PySem.F.entry_tuple_add (PySem.F.args_tuple_add_2 _ _)
   (tuple_addW1 t b vs.toArray ws.toArray n n2 dd dd2 sl sl2 (by simpa using hv) (by simp[hw])) ⟨ho,ho2,h1 hw⟩
 ·refine concat_meets ⟨_,ho,rfl⟩ ⟨_,ho2,rfl⟩ noFill_tuple_add seq_tuple_add PySem.F.slot_tuple_add PySem.F.entry_tuple_add (PySem.F.args_tuple_add_2 _ _)
   (tuple_addW2 t b vs.toArray ws.toArray n n2 dd dd2 sl sl2 (by simpa using hv) (by simpa using hw) (by rw[List.size_toArray,List.size_toArray];exact hsz)) ⟨ho,ho2,?_⟩
  rw[e]
  exact h2 hw
def sIx(n d:Nat):Option Int->Nat
 |none=>d
 |some v=>if v<0 then(v+(n:Int)).toNat else min v.toNat n
theorem Dc(n d:Nat)(hd:d<=n)(o:Option Int):sIx n d o<=n:=by
 cases o with
 |none=>exact hd
 |some v=>
  show(if v<0 then(v+(n:Int)).toNat else min v.toNat n)<=n
  by_cases hv:v<0
  ·rw[if_pos hv];omega
  ·rw[if_neg hv];exact Nat.min_le_right _ _
theorem vH(v:Int)(n d:Nat):(if v<0 then max (v+(n:Int)) 0 else min v (n:Int))=((sIx n d (some v):Nat):Int):=by
 show(if v<0 then max (v+(n:Int)) 0 else min v (n:Int))=(((if v<0 then(v+(n:Int)).toNat else min v.toNat n):Nat):Int)
 by_cases hv:v<0
 ·simp only[if_pos hv];omega
 ·simp only[if_neg hv];omega
theorem sH(lo hi:Option Int)(n:Nat):Builtin.Slice.sliceAdjust lo hi 1 (n:Int)=(((sIx n 0 lo:Nat):Int),((sIx n n hi:Nat):Int)):=by
 have h1:¬((1:Int)<0):=by omega
 unfold Builtin.Slice.sliceAdjust
 simp only[h1,if_false]
 refine Prod.ext ?_ ?_
 ·cases lo with
  |none=>rfl
  |some v=>exact vH v n 0
 ·cases hi with
  |none=>rfl
  |some v=>exact vH v n n
theorem rQ(i j:Nat):Builtin.Slice.slicePlaces (i:Int) (j:Int) 1=j-i:=by
 unfold Builtin.Slice.slicePlaces
 have h1:(1:Int)>0:=by omega
 simp only[h1,if_true,Int.ediv_one]
 split<;>omega
theorem lD{v:Value}{o:Option Int}{Q:Option Int->Shared->Prop}(p:IsPart v o)(h:Q o s):wpAny (model prog w) A (Builtin.Slice.slicePartIndex v) Q E s:=by
 cases p with
 |none=>exact slicePart_none h
 |int i t=>exact slicePart_int h
theorem jo{sl:Addr}{vl vu:Value}{lo hi:Option Int}{n:Nat}{Q:Int×Int×Nat->Shared->Prop}(hs:s.heap.IsSliceOf sl vl vu .none)(pl:IsPart vl lo)(pu:IsPart vu hi)
  (h:Q (((sIx n 0 lo:Nat):Int),1,sIx n n hi-sIx n 0 lo) s):wpAny (model prog w) A (Builtin.Slice.sliceApplied (.ref sl) (pure (n:Int))) Q E s:=by
 obtain⟨os,hos,hcs,hds⟩:=id hs
 unfold Builtin.Slice.sliceApplied Builtin.Slice.sliceFields
 refine wpAny_bind (wpAny_bind (wpAny_field hos hds (x:=vl) rfl (wpAny_bind (wpAny_field hos hds (x:=vu) rfl (wpAny_bind (wpAny_field hos hds (x:=.none) rfl (wpAny_pure ?_)))))))
 refine wpAny_bind (slicePart_none ?_)
 show wpAny _ _ (if ((1:Int) == 0)=true then _ else _) _ _ s
 rw[if_neg (by decide)]
 refine wpAny_bind (lD pl (wpAny_bind (lD pu (wpAny_bind (wpAny_pure ?_)))))
 show wpAny _ _ (match Builtin.Slice.sliceAdjust lo hi 1 (n:Int)with|(lo,hi)=>pure (lo,(1:Int),Builtin.Slice.slicePlaces lo hi 1)) _ _ s
 rw[sH lo hi n]
 show wpAny _ _ (pure (((sIx n 0 lo:Nat):Int),(1:Int),Builtin.Slice.slicePlaces ((sIx n 0 lo:Nat):Int) ((sIx n n hi:Nat):Int) 1)) _ _ s
 rw[rQ]
 exact wpAny_pure h
theorem xg(xs:Array Value)(i k:Nat):((List.range k).filterMap fun(m:Nat)=>xs[((i:Int)+(m:Int)*1).toNat]?).toArray=((xs.toList.drop i).take k).toArray:=by
 have e:(fun(m:Nat)=>xs[((i:Int)+(m:Int)*1).toNat]?)=fun m=>xs[i+m]?:=by
  funext m
  have:((i:Int)+(m:Int)*1).toNat=i+m:=by omega
  rw[this]
 rw[e]
 have:=pick_run xs i k
 rw[List.filterMap_map]at this
 have e2:((fun x=>xs[x]?) ∘ fun x=>i+x)=fun m=>xs[i+m]?:=rfl
 rw[e2]at this
 rw[this]
theorem getItem_tuple_cut{t sl:Addr}{items:Array Value}{vl vu:Value}{lo hi:Option Int}{Q:Value->Shared->Prop}(ht:IsTup s.heap t items)(hs:s.heap.IsSliceOf sl vl vu .none)(pl:IsPart vl lo)(pu:IsPart vu hi)
  (hw:¬(sIx items.size 0 lo=0/\sIx items.size items.size hi=items.size))
  (h:Q (.ref s.heap.objs.size) { s with heap:=s.heap.push { cls:=.type "tuple",data:=.seq ((items.toList.drop (sIx items.size 0 lo)).take (sIx items.size items.size hi-sIx items.size 0 lo)).toArray } })
  (hsz:items.size<=sizeLine):wpAny (model prog w) A (getItem (.ref t) (.ref sl)) Q E s:=by
 have htake:sizeOk (.seq ((items.toList.drop (sIx items.size 0 lo)).take (sIx items.size items.size hi-sIx items.size 0 lo)).toArray):=by
  show((items.toList.drop (sIx items.size 0 lo)).take (sIx items.size items.size hi-sIx items.size 0 lo)).toArray.size<=sizeLine
  rw[List.size_toArray,List.length_take,List.length_drop,Array.length_toList]
  omega
 have hj:sIx items.size items.size hi<=items.size:=Dc _ _ (Nat.le_refl _) hi
 obtain⟨os,hos,hcs,hds⟩:=id hs
 have hTs:s.TypeIs (.ref sl) "slice":=⟨os,hos,hcs⟩
 unfold getItem
 try with_reducible refine wpAny_holding ?_
 first|refine wpAny_bind (wpAny_pure ?_)|skip
 refine wpAny_bind (wpAny_sequenceKey ht.typeIs (by decide) ?_)
 refine wpAny_bind (wpAny_callSpecial?_slot (name:=Str.ofString "__getitem__") ht.typeIs PyProof.Rows.slot_tuple_getitem
  (wpAny_call_entry PyProof.Rows.slot_tuple_getitem ht.typeIs entry_tuple_getitem ?_ (args_tuple_getitem _ _)))
 show wpAny _ _ (Builtin.Tuple.tupleItemsOf (.ref t) >>= _) _ _ s
 refine wpAny_bind (tupleItemsOf_ ht ?_)
 refine wpAny_bind (wpAny_typeOf hTs ?_)
 rw[if_pos (by decide)]
 refine wpAny_bind (jo hs pl pu ?_)
 have hno:¬((((sIx items.size 0 lo:Nat):Int) == 0&&(1:Int) == 1&&(sIx items.size items.size hi-sIx items.size 0 lo) == items.size)=true):=by
  intro q
  rw[Bool.and_eq_true,Bool.and_eq_true]at q
  have q1:((sIx items.size 0 lo:Nat):Int)=0:=eq_of_beq q.1.1
  have q2:sIx items.size items.size hi-sIx items.size 0 lo=items.size:=eq_of_beq q.2
  exact hw ⟨by omega,by omega⟩
 show wpAny _ _ (if (((sIx items.size 0 lo:Nat):Int) == 0&&(1:Int) == 1&&(sIx items.size items.size hi-sIx items.size 0 lo) == items.size)=true then _ else _) _ _ s
 rw[if_neg hno,xg]
 first
  |exact wpAny_bind (m:=Builtin.Tuple.tupleExact _) (wpAny_newObj_type (wpAny_pure ⟨_,rfl,wpAny_pure h⟩) htake)
  |exact wpAny_bind (m:=Builtin.Tuple.tupleExact _) (wpAny_newObj_type (wpAny_bind (wpAny_pure (wpAny_pure ⟨_,rfl,wpAny_pure h⟩))) htake)
  |exact wpAny_bind (wpAny_bind (m:=Builtin.Tuple.tupleExact _) (wpAny_newObj_type (wpAny_pure (wpAny_pure ⟨_,rfl,wpAny_pure h⟩)) htake))
  |exact wpAny_bind (wpAny_bind (m:=Builtin.Tuple.tupleExact _) (wpAny_newObj_type (wpAny_pure ⟨_,rfl,wpAny_pure h⟩) htake))
end
end HT
namespace L2
open PySem PySem.Spec PyProof.Rows
abbrev TO:=St->Hp->(Option Int->Hp->Prop)->Prop
def PO(X:Cx)(e:Option Expr)(t:TO):Prop:=
 ∀(pins:List (Addr×Obj)) (s:Shared) (σ:St) (H:Hp) (Q:Option Int->Hp->Prop),Inv X pins σ H s->t σ H Q->
  wpAny (model X.prog X.w) X.A (evalPart e X.env) (fun u s'=>∃o H',Inv X pins σ H' s'/\IsPart u o/\Q o H') X.xe s
def tP:TO:=fun _ H Q=>Q none H
def CN(t:TE):TO:=fun σ H Q=>t σ H fun x H1=>∃i,x=.int i/\Q (some i) H1
section
variable{X:Cx}{e:Expr}{te:TE}{lo hi:Option Expr}{tl th:TO}{pos p2:Pos}
theorem AF:PO X none tP:=by
 intro pins s σ H Q I h
 rw[evalPart_none]
 exact wpAny_pure ⟨none,H,I,.none,h⟩
theorem AE(h:PE X e te):PO X (some e) (CN te):=by
 intro pins s σ H Q I hw
 rw[evalPart_some]
 refine thn (h pins s σ H _ I hw) fun u s1 hz=>?_
 obtain⟨x,H1,I1,r1,q1⟩:=hz
 obtain⟨i,rfl,q⟩:=q1
 obtain⟨t,rfl⟩:=r1
 exact⟨some i,H1,I1,.int i t,q⟩
def SlR(X:Cx)(r:V->Option Int->Option Int->Hp->VK->Prop):Prop:=
 ∀(pins:List (Addr×Obj)) (s:Shared) (σ:St) (H:Hp) (x:V) (v vl vu:Value) (lo hi:Option Int) (sl:Addr) (Q:VK),Inv X pins σ H s->cE x v->s.heap.IsSliceOf sl vl vu .none->IsPart vl lo->IsPart vu hi->r x lo hi H Q->
  ∃T id,typeLookup (.type T) "__getitem__"=pure (some (.builtin id))/\s.TypeIs v T/\wpAny (model X.prog X.w) X.A (getItem v (.ref sl)) (EP X pins σ Q) X.xe s
theorem SlR.or{r r':V->Option Int->Option Int->Hp->VK->Prop}(h:SlR X r)(h':SlR X r'):SlR X (fun x lo hi H Q=>r x lo hi H Q\/r' x lo hi H Q):=by
 intro pins s σ H x v vl vu lo hi sl Q I rx hs pl pu q
 rcases q with q|q
 ·exact h pins s σ H x v vl vu lo hi sl Q I rx hs pl pu q
 ·exact h' pins s σ H x v vl vu lo hi sl Q I rx hs pl pu q
def tSl(r:V->Option Int->Option Int->Hp->VK->Prop)(te:TE)(tl th:TO):TE:=fun σ H Q=>te σ H fun x H1=>tl σ H1 fun l H2=>th σ H2 fun u H3=>r x l u H3 Q
theorem xj{r:V->Option Int->Option Int->Hp->VK->Prop}(hr:SlR X r)(he:PE X e te)(hl:PO X lo tl)(hu:PO X hi th):PE X (.Subscript e (.Slice lo hi none p2) pos) (tSl r te tl th):=by
 intro pins s σ H Q I h
 refine Subscript_ (thn (he pins s σ H _ I h) fun v s1 hz=>?_)
 obtain⟨x,H1,I1,r1,q1⟩:=hz
 refine wpAny_Slice (thn (hl pins s1 σ H1 _ I1 q1) fun vl s2 ⟨l,H2,I2,pl,q2⟩=>thn (hu pins s2 σ H2 _ I2 q2) fun vu s3 hz=>?_)
 obtain⟨u,H3,I3,pu,q3⟩:=hz
 rw[evalPart_none]
 refine wpAny_pure ?_
 have I4:Inv X pins σ H3 { s3 with heap:=s3.heap.push { cls:=.type "slice",data:=.fields #[vl,vu,.none] } }:=I3.kept (t':=s3.toks) fun b ob q=>Heap.get?_push_of_some _ q
 obtain⟨T,id,hT,ht,hg⟩:=hr pins { s3 with heap:=s3.heap.push { cls:=.type "slice",data:=.fields #[vl,vu,.none] } } σ H3 x v vl vu l u s3.heap.objs.size Q I4 r1 (Heap.IsSliceOf.new ..) pl pu q3
 show wpAny (model X.prog X.w) X.A (subscriptTail e (.Slice lo hi none p2) v (.ref s3.heap.objs.size)) (EP X pins σ Q) X.xe { s3 with heap:=s3.heap.push { cls:=.type "slice",data:=.fields #[vl,vu,.none] } }
 exact tail_any (ops:=[.ref s3.heap.objs.size,v]) ht hT hg (by with_unfolding_all rfl)
def vF(xs:List V)(lo hi:Option Int):List V:=(xs.drop (HT.sIx xs.length 0 lo)).take (HT.sIx xs.length xs.length hi-HT.sIx xs.length 0 lo)
theorem km(xs:List V)(lo hi:Option Int):(vF xs lo hi).length<=xs.length:=by
 unfold vF
 rw[List.length_take,List.length_drop]
 omega
def IV(K:PySem.W.Frag):V->Option Int->Option Int->Hp->VK->Prop:=fun x lo hi H Q=>∃a xs,x=.ref a/\SqT K H a xs/\
 ¬(HT.sIx xs.length 0 lo=0/\HT.sIx xs.length xs.length hi=xs.length)/\∀p,H p=none->Q (.ref p) (upd H p (.tup (vF xs lo hi)))
theorem C9:SlR X (IV X.K):=by
 intro pins s σ H x v vl vu lo hi sl Q I rx hs pl pu h
 obtain⟨a,xs,rfl,hx,hw,q⟩:=h
 cases rx
 obtain⟨its,r,ht,hz⟩:=I.tuple hx
 have eF:its.toArray.size=xs.length:=by rw[List.size_toArray];exact r.length.symm
 refine⟨"tuple",_,PyProof.Rows.slot_tuple_getitem.lookup,ht.typeIs,?_⟩
 refine HT.getItem_tuple_cut ht hs pl pu (by rw[eF];exact hw) ?_ (by rw[eF];exact hz)
 rw[eF]
 refine⟨.ref s.heap.objs.size,_,I.laid (t':=s.toks) (o:=.tup (vF xs lo hi)) (fun b ob q=>Heap.get?_push_of_some _ q) (Nat.le_refl _) ?_,rfl,q _ (I.hok.fresh (Nat.le_refl _))⟩
 exact⟨Nat.le_trans (km xs lo hi) hz,_,(r.drop (HT.sIx xs.length 0 lo)).take (HT.sIx xs.length xs.length hi-HT.sIx xs.length 0 lo),IsTup.new _ _⟩
def GB(K:PySem.W.Frag):R2:=fun x y H Q=>∃a b xs ys,x=.ref a/\y=.ref b/\SqT K H a xs/\SqT K H b ys/\xs≠[]/\xs.length+ys.length<=sizeLine/\
 (ys=[]->Q (.ref a) H)/\(ys≠[]->∀p,H p=none->Q (.ref p) (upd H p (.tup (xs++ys))))
theorem bN.nil_iff{xs:List V}{us:List Value}(r:bN xs us):us=[]↔xs=[]:=by
 cases r with
 |nil=>simp
 |cons _ _=>simp
theorem AX:OpR X (binaryOp .Add) (GB X.K):=by
 intro pins s σ H x y v u Q I rx ry h
 obtain⟨a,b,xs,ys,rfl,rfl,ha,hb,hx,hz,q1,q2⟩:=h
 cases rx
 cases ry
 obtain⟨its,r1,p1,_⟩:=I.tuple ha
 obtain⟨its2,r2,p2,_⟩:=I.tuple hb
 refine HT.cat_tup p1 p2 (fun z=>hx (r1.nil_iff.mp z)) (fun z=>⟨.ref a,H,I,rfl,q1 (r2.nil_iff.mp z)⟩) (fun z=>?_) (by rw[<-r1.length,<-r2.length];exact hz)
 refine⟨.ref s.heap.objs.size,_,I.laid (t':=s.toks) (o:=.tup (xs++ys)) (fun b ob q=>Heap.get?_push_of_some _ q) (Nat.le_refl _) ?_,rfl,q2 (fun w=>z (r2.nil_iff.mpr w)) _ (I.hok.fresh (Nat.le_refl _))⟩
 exact⟨by rw[List.length_append];exact hz,_,r1.append r2,IsTup.new _ _⟩
end
def ixN(n:Nat)(i:Int):Option Nat:=if 0<=i then(if i<n then some i.toNat else none)else if -(n:Int)<=i then some (i+n).toNat else none
def atI{α:Type}(xs:List α)(i:Int):Option α:=(ixN xs.length i).bind fun j=>xs[j]?
theorem uS{n:Nat}{i:Int}{j:Nat}(h:ixN n i=some j):seqIndex? i n=some j/\j<n/\-(n:Int)<=i/\i<n:=by
 unfold ixN at h
 by_cases h0:0<=i
 ·rw[if_pos h0]at h
  by_cases h1:i<n
  ·rw[if_pos h1]at h
   have e:i.toNat=j:=Option.some.inj h
   exact⟨by rw[seqIndex_of h0 h1,e],by omega,by omega,h1⟩
  ·rw[if_neg h1]at h;cases h
 ·rw[if_neg h0]at h
  by_cases h1:-(n:Int)<=i
  ·rw[if_pos h1]at h
   have e:(i+n).toNat=j:=Option.some.inj h
   exact⟨by rw[seqIndex_neg (by omega) h1,e],by omega,h1,by omega⟩
  ·rw[if_neg h1]at h;cases h
theorem vR{α:Type}{xs:List α}{i:Int}{v:α}(h:atI xs i=some v):∃j,seqIndex? i xs.length=some j/\xs[j]?=some v/\j<xs.length/\-(xs.length:Int)<=i/\i<xs.length:=by
 unfold atI at h
 cases e:ixN xs.length i with
 |none=>rw[e]at h;cases h
 |some j=>
  rw[e]at h
  obtain⟨h1,h2,h3,h4⟩:=uS e
  exact⟨j,h1,h,h2,h3,h4⟩
theorem kE{α:Type}{xs:List α}{j:Nat}{v:α}(h:xs[j]?=some v):atI xs (j:Int)=some v:=by
 have hj:j<xs.length:=(List.getElem?_eq_some_iff.mp h).1
 have e:ixN xs.length (j:Int)=some j:=by
  unfold ixN
  rw[if_pos (by omega),if_pos (by omega)];simp
 unfold atI;rw[e];exact h
def pO(b:Expr):Prop:=∀o i,subscripted b false o i=operate [o,i] (getItem o i)
def IxR(X:Cx)(r:R2):Prop:=
 ∀(value slice:Expr) (pins:List (Addr×Obj)) (s:Shared) (σ:St) (H:Hp) (x y:V) (v u:Value) (Q:VK),Inv X pins σ H s->cE x v->cE y u->r x y H Q->
  subscripted slice false v u=operate [v,u] (getItem v u)->wpAny (model X.prog X.w) X.A (subscriptTail value slice v u) (EP X pins σ Q) X.xe s
def MtR(X:Cx)(id:String)(r:V->List V->Hp->VK->Prop):Prop:=
 ∀(pins:List (Addr×Obj)) (s:Shared) (σ:St) (H:Hp) (x:V) (xs:List V) (v:Value) (us:List Value) (Q:VK),Inv X pins σ H s->cE x v->bN xs us->r x xs H Q->
  wpAny (model X.prog X.w) X.A (call (.builtin id) (v::us)) (EP X pins σ Q) X.xe s
section
variable{X:Cx}{a b:Expr}{ta tb:TE}{pos:Pos}
theorem IxR.or{r r':R2}(h:IxR X r)(h':IxR X r'):IxR X (fun x y H Q=>r x y H Q\/r' x y H Q):=by
 intro value slice pins s σ H x y v u Q I rx ry q hs
 rcases q with q|q
 ·exact h value slice pins s σ H x y v u Q I rx ry q hs
 ·exact h' value slice pins s σ H x y v u Q I rx ry q hs
theorem GN{r:R2}(hr:IxR X r)(ha:PE X a ta)(hb:PE X b tb)(hs:pO b):PE X (.Subscript a b pos) (tOp r ta tb):=by
 intro pins s σ H Q I h
 exact Subscript_ (Hq ha hb I h fun v u s2 x y H2 I2 rx ry q=>hr a b pins s2 σ H2 x y v u Q I2 rx ry q (hs _ _))
def IY(K:PySem.W.Frag):R2:=fun x y H Q=>∃p xs i v,x=.ref p/\y=.int i/\SqL K H p xs/\atI xs i=some v/\Q v H
def IX(K:PySem.W.Frag):R2:=fun x y H Q=>∃p xs i v,x=.ref p/\y=.int i/\SqT K H p xs/\atI xs i=some v/\Q v H
theorem A7:IxR X (IY X.K):=by
 intro value slice pins s σ H x y v u Q I rx ry h hs
 obtain⟨p,xs,i,z,rfl,rfl,hq,he,q⟩:=h
 cases rx
 obtain⟨t,rfl⟩:=ry
 obtain⟨its,r,pl,hz⟩:=I.list hq
 obtain⟨j,h1,h2,h3,h4,h5⟩:=vR he
 obtain⟨w,ew,rw'⟩:=r.get h2
 have hl:=r.length
 have hn:=qO
 have fin:EP X pins σ Q w s:=⟨z,H,I,rw',q⟩
 by_cases h0:0<=i
 ·have hj:i.toNat=j:=by
   rw[seqIndex_of h0 h5]at h1
   exact Option.some.inj h1
  exact item_listR pl.isList h0 (by omega) (by rw[hj];simpa using ew) fin hs
 ·have hj:(i+(its.toArray.size:Int)).toNat=j:=by
   rw[seqIndex_neg (by omega) h4]at h1
   rw[List.size_toArray,<-hl]
   exact Option.some.inj h1
  exact subscriptTail_builtinR (x:=w) pl.isList.typeIs slot_list_getitem.lookup
   (wpAny_getItem_list_neg (Q:=fun r s'=>r=w/\EP X pins σ Q r s') pl.isList (by omega) (by rw[List.size_toArray]<;>omega) (by omega) (by rw[hj];simpa using ew) ⟨rfl,fin⟩) hs
theorem En:IxR X (IX X.K):=by
 intro value slice pins s σ H x y v u Q I rx ry h hs
 obtain⟨p,xs,i,z,rfl,rfl,hq,he,q⟩:=h
 cases rx
 obtain⟨t,rfl⟩:=ry
 obtain⟨its,r,pl,hz⟩:=I.tuple hq
 obtain⟨j,h1,h2,h3,h4,h5⟩:=vR he
 obtain⟨w,ew,rw'⟩:=r.get h2
 have hl:=r.length
 have hn:=qO
 have fin:EP X pins σ Q w s:=⟨z,H,I,rw',q⟩
 exact subscriptTail_builtinR (x:=w) pl.typeIs slot_tuple_getitem.lookup
  (getItem_tuple (j:=j) (Q:=fun r s'=>r=w/\EP X pins σ Q r s') pl (by omega) (by omega) (by rw[List.size_toArray,<-hl];exact h1) (by simpa using ew) ⟨rfl,fin⟩) hs
theorem rV(its:List Value)(n j:Nat)(u:Value):Obj.mapSeq (·.setIfInBounds j u) { cls:=.type "list",data:=.seq its.toArray n }={ cls:=.type "list",data:=.seq (its.set j u).toArray n }:=by
 simp[Obj.mapSeq]
theorem Inv.lst{pins:List (Addr×Obj)}{σ:St}{H:Hp}{s:Shared}{p:Addr}{xs:List V}(I:Inv X pins σ H s)(h:H p=some (.lst xs)) :
  ∃(its:List Value) (n:Nat),bN xs its/\s.heap.get? p=some { cls:=.type "list",data:=.seq its.toArray n }/\xs.length<=sizeLine:=by
 obtain⟨z,its,n,r,e⟩:=I.hok p _ h
 exact⟨its,n,r,e,z⟩
theorem Inv.lstUpd{pins:List (Addr×Obj)}{σ:St}{H:Hp}{s:Shared}{p:Addr}{xs ys:List V}{its its':List Value}{n n':Nat}{f:Obj->Obj}(I:Inv X pins σ H s)(h:H p=some (.lst xs))
  (ho:s.heap.get? p=some { cls:=.type "list",data:=.seq its.toArray n }) (hf:f { cls:=.type "list",data:=.seq its.toArray n }={ cls:=.type "list",data:=.seq its'.toArray n' }) (r:bN ys its') (hz:ys.length<=sizeLine) (t:Nat) :
  Inv X pins σ (upd H p (.lst ys)) { s with heap:=s.heap.update p f,toks:=t }:=by
 have e:(s.heap.update p f).get? p=some { cls:=.type "list",data:=.seq its'.toArray n' }:=by
  rw[Heap.get?_update_self f ho (by rw[hf]<;>rfl),hf]
 refine I.write (x:=p) (e:=p) (by rw[h];trivial) (.inl rfl) (fun b u hb q=>(Heap.get?_update_other _ _ (Ne.symm hb)).trans q) ⟨_,e⟩ ?_
 exact⟨hz,its',n',r,e⟩
def Gz:V->V->V->Hp->(Hp->Prop)->Prop:=fun o i v H Q=>∃p xs k j,o=.ref p/\i=.int k/\H p=some (.lst xs)/\ixN xs.length k=some j/\Q (upd H p (.lst (xs.set j v)))
theorem wL:Hw X Gz:=by
 intro pins s σ H o i v ov iv u Q I ro ri rv h
 obtain⟨p,xs,k,j,rfl,rfl,hp,hj,q⟩:=h
 cases ro
 obtain⟨t,rfl⟩:=ri
 obtain⟨its,n,r,ho,hz⟩:=I.lst hp
 obtain⟨h1,h2,h3,h4⟩:=uS hj
 have hl:=r.length
 have hn:=qO
 have I':Inv X pins σ (upd H p (.lst (xs.set j v))) { s with heap:=s.heap.update p (Obj.mapSeq (·.setIfInBounds j u)) }:=
  I.lstUpd hp ho (rV its n j u) (r.set rv j) (by rw[List.length_set];exact hz) s.toks
 by_cases h0:0<=k
 ·have hk:k.toNat=j:=by
   rw[seqIndex_of h0 h4]at h1
   exact Option.some.inj h1
  exact PySem.W.ki_setAt ho h0 (by omega) (by rw[List.size_toArray,<-hl];exact h4) (by rw[hk];exact⟨_,I',q⟩)
 ·have hk:(k+(its.toArray.size:Int)).toNat=j:=by
   rw[seqIndex_neg (by omega) h3]at h1
   rw[List.size_toArray,<-hl]
   exact Option.some.inj h1
  exact PySem.W.ki_setBack ho (by omega) (by rw[List.size_toArray,<-hl];exact h3) (by omega) (by rw[hk];exact⟨_,I',q⟩)
theorem nE(lo hi:Option Int)(n:Nat):(sliceBounds lo hi none n).1=((HT.sIx n 0 lo:Nat):Int)/\(sliceBounds lo hi none n).2.1=((HT.sIx n n hi:Nat):Int)/\(sliceBounds lo hi none n).2.2=1:=by
 refine⟨?_,?_,rfl⟩
 ·cases lo with
  |none=>simp[sliceBounds,HT.sIx]
  |some i=>
   simp only[sliceBounds,HT.sIx,Option.getD_none,show(1:Int)>0 by decide,if_true]
   by_cases h:i<0
   ·simp only[h,if_true]<;>omega
   ·simp only[h,if_false]<;>omega
 ·cases hi with
  |none=>simp[sliceBounds,HT.sIx]
  |some i=>
   simp only[sliceBounds,HT.sIx,Option.getD_none,show(1:Int)>0 by decide,if_true]
   by_cases h:i<0
   ·simp only[h,if_true]<;>omega
   ·simp only[h,if_false]<;>omega
theorem mB(its:List Value)(lo hi:Option Int):slicePick its.toArray lo hi none=((its.drop (HT.sIx its.length 0 lo)).take (HT.sIx its.length its.length hi-HT.sIx its.length 0 lo)).toArray:=by
 obtain⟨h1,h2,h3⟩:=nE lo hi its.toArray.size
 unfold slicePick
 rw[h1,h2,h3]
 simp only[sliceRange_one,pick_run,List.size_toArray]<;>rfl
def IW(K:PySem.W.Frag):V->Option Int->Option Int->Hp->VK->Prop:=fun x lo hi H Q=>∃a xs,x=.ref a/\SqL K H a xs/\∀p,H p=none->Q (.ref p) (upd H p (.lst (vF xs lo hi)))
theorem tW:SlR X (IW X.K):=by
 intro pins s σ H x v vl vu lo hi sl Q I rx hs pl pu h
 obtain⟨a,xs,rfl,hx,q⟩:=h
 cases rx
 obtain⟨its,r,ht,hz⟩:=I.list hx
 have eF:=r.length
 refine⟨"list",_,slot_list_getitem.lookup,ht.isList.typeIs,?_⟩
 refine wpAny_getItem_list_slice ht.isList hs pl pu .none (by simp) ?_ (by rw[List.size_toArray]<;>omega)
 rw[mB,<-eF]
 refine⟨.ref s.heap.objs.size,_,I.laid (t':=s.toks) (o:=.lst (vF xs lo hi)) (fun b ob q=>Heap.get?_push_of_some _ q) (Nat.le_refl _) ?_,rfl,q _ (I.hok.fresh (Nat.le_refl _))⟩
 exact⟨Nat.le_trans (km xs lo hi) hz,_,0,(r.drop (HT.sIx xs.length 0 lo)).take (HT.sIx xs.length xs.length hi-HT.sIx xs.length 0 lo),Heap.get?_push_size _ rfl⟩
def kS:V->Bool
 |.non=>true
 |.bl _=>true
 |.int _=>true
 |.str _=>true
 |_=>false
def eqV:V->V->Bool
 |.non,.non=>true
 |.bl a,.bl b=>a == b
 |.bl a,.int b=>(if a then 1 else 0) == b
 |.int a,.bl b=>a == (if b then 1 else 0)
 |.int a,.int b=>a == b
 |.str a,.str b=>a == b
 |_,_=>false
theorem EF{A:Around}{s:Shared}{y x:V}{u v:Value}(ry:cE y u)(rx:cE x v)(fy:kS y=true)(fx:kS x=true):SeqAt.EqAt A s u v (eqV y x):=by
 cases y with
 |non=>
  cases ry
  cases x with
  |non=>cases rx;exact SeqAt.EqAt.same _
  |bl b=>cases rx;exact SeqAt.EqAt.none_bool b
  |int b=>obtain⟨t,rfl⟩:=rx;exact SeqAt.EqAt.none_int b t
  |str b=>obtain⟨t,rfl⟩:=rx;exact SeqAt.EqAt.none_str b t
  |_=>exact absurd (show false=true from fx) Bool.false_ne_true
 |bl a=>
  cases ry
  cases x with
  |non=>cases rx;exact SeqAt.EqAt.bool_none a
  |bl b=>cases rx;exact SeqAt.EqAt.bool_bool a b
  |int b=>obtain⟨t,rfl⟩:=rx;exact SeqAt.EqAt.bool_int a b t
  |str b=>obtain⟨t,rfl⟩:=rx;exact SeqAt.EqAt.bool_str a b t
  |_=>exact absurd (show false=true from fx) Bool.false_ne_true
 |int a=>
  obtain⟨t',rfl⟩:=ry
  cases x with
  |non=>cases rx;exact SeqAt.EqAt.int_none a t'
  |bl b=>cases rx;exact SeqAt.EqAt.int_bool a t' b
  |int b=>obtain⟨t,rfl⟩:=rx;exact SeqAt.EqAt.int_int a t' b t
  |str b=>obtain⟨t,rfl⟩:=rx;exact SeqAt.EqAt.int_str a t' b t
  |_=>exact absurd (show false=true from fx) Bool.false_ne_true
 |str a=>
  obtain⟨t',rfl⟩:=ry
  cases x with
  |non=>cases rx;exact SeqAt.EqAt.str_none a t'
  |bl b=>cases rx;exact SeqAt.EqAt.str_bool a t' b
  |int b=>obtain⟨t,rfl⟩:=rx;exact SeqAt.EqAt.str_int a t' b t
  |str b=>obtain⟨t,rfl⟩:=rx;exact SeqAt.EqAt.str_str a t' b t
  |_=>exact absurd (show false=true from fx) Bool.false_ne_true
 |_=>exact absurd (show false=true from fy) Bool.false_ne_true
def eqU(x:V)(u:Value):Bool:=match u with
 |.none=>eqV .non x
 |.bool b=>eqV (.bl b) x
 |.int i _=>eqV (.int i) x
 |.str z _=>eqV (.str z) x
 |_=>false
theorem za{x y:V}{u:Value}(r:cE y u)(f:kS y=true):eqU x u=eqV y x:=by
 cases y with
 |non=>cases r;rfl
 |bl b=>cases r;rfl
 |int i=>obtain⟨t,rfl⟩:=r;rfl
 |str z=>obtain⟨t,rfl⟩:=r;rfl
 |_=>exact absurd (show false=true from f) Bool.false_ne_true
theorem kF{x:V}:∀{xs:List V} {us:List Value},bN xs us->xs.all kS=true->us.any (eqU x)=xs.any fun y=>eqV y x
 |_,_,.nil,_=>rfl
 |y::xs,u::us,.cons r t,f=>by
  rw[List.all_cons,Bool.and_eq_true]at f
  rw[List.any_cons,List.any_cons,za r f.1,kF t f.2]
theorem iD{A:Around}{s:Shared}{x:V}{v:Value}(rx:cE x v)(fx:kS x=true):∀{xs:List V} {us:List Value},bN xs us->xs.all kS=true->∀u∈us,SeqAt.EqAt A s u v (eqU x u)
 |_,_,.nil,_=>fun u hu=>by cases hu
 |y::xs,u::us,.cons r t,f=>fun u' hu=>by
  rw[List.all_cons,Bool.and_eq_true]at f
  rcases List.mem_cons.mp hu with rfl|hu
  ·rw[za r f.1];exact EF r rx f.1 fx
  ·exact iD rx fx t f.2 u' hu
def inV(x:V)(xs:List V):Bool:=xs.any fun y=>eqV y x
def rIn(K:PySem.W.Frag)(neg:Bool):R2:=fun x y H Q=>∃p xs,y=.ref p/\(SqL K H p xs\/SqT K H p xs)/\kS x=true/\xs.all kS=true/\Q (.bl (if neg then !inV x xs else inV x xs)) H
theorem ux:OpR X (compareOp .In) (rIn X.K false):=by
 intro pins s σ H x y v u Q I rx ry h
 obtain⟨p,xs,rfl,hq,fx,fs,q⟩:=h
 cases ry
 rcases hq with hq|hq
 ·obtain⟨its,r,pl,hz⟩:=I.list hq
  refine SeqAt.in_listAt (eqU x) pl.isList (fun w hw=>iD rx fx r fs w (by simpa using hw)) ⟨.bl _,H,I,rfl,?_⟩
  rw[show its.toArray.any (eqU x)=its.any (eqU x)by simp,kF r fs]
  exact q
 ·obtain⟨its,r,pl,hz⟩:=I.tuple hq
  refine SeqAt.in_tupleAt (eqU x) pl (fun w hw=>iD rx fx r fs w (by simpa using hw)) ⟨.bl _,H,I,rfl,?_⟩
  rw[show its.toArray.any (eqU x)=its.any (eqU x)by simp,kF r fs]
  exact q
theorem ja:OpR X (compareOp .NotIn) (rIn X.K true):=by
 intro pins s σ H x y v u Q I rx ry h
 obtain⟨p,xs,rfl,hq,fx,fs,q⟩:=h
 cases ry
 rcases hq with hq|hq
 ·obtain⟨its,r,pl,hz⟩:=I.list hq
  refine SeqAt.notIn_listAt (eqU x) pl.isList (fun w hw=>iD rx fx r fs w (by simpa using hw)) ⟨.bl _,H,I,rfl,?_⟩
  rw[show its.toArray.any (eqU x)=its.any (eqU x)by simp,kF r fs]
  exact q
 ·obtain⟨its,r,pl,hz⟩:=I.tuple hq
  refine SeqAt.notIn_tupleAt (eqU x) pl (fun w hw=>iD rx fx r fs w (by simpa using hw)) ⟨.bl _,H,I,rfl,?_⟩
  rw[show its.toArray.any (eqU x)=its.any (eqU x)by simp,kF r fs]
  exact q
theorem oz:fF X (.builtin "len") (fun xs H Q=>∃p ys,xs=[.ref p]/\(SqL X.K H p ys\/SqT X.K H p ys)/\Q (.int ys.length) H):=by
 intro pins s σ H xs us Q I r h
 obtain⟨p,ys,rfl,hq,q⟩:=h
 obtain⟨u,rfl,rx⟩:=oW r
 cases rx
 have hn:=qO
 rcases hq with hq|hq
 ·obtain⟨its,r',pl,hz⟩:=I.list hq
  have eF:=r'.length
  exact Calls.call_len_list pl.isList (by simp only[List.size_toArray]<;>omega) ⟨.int ys.length,H,I.tok _,⟨s.toks+1,by rw[List.size_toArray,eF]⟩,q⟩
 ·obtain⟨its,r',pl,hz⟩:=I.tuple hq
  have eF:=r'.length
  exact len_tuple pl (by simp only[List.size_toArray]<;>omega) ⟨.int ys.length,H,I.tok _,⟨s.toks+1,by rw[List.size_toArray,eF]⟩,q⟩
theorem fF.or{f:Value}{r r':List V->Hp->VK->Prop}(h:fF X f r)(h':fF X f r'):fF X f (fun xs H Q=>r xs H Q\/r' xs H Q):=by
 intro pins s σ H xs us Q I rs q
 rcases q with q|q
 ·exact h pins s σ H xs us Q I rs q
 ·exact h' pins s σ H xs us Q I rs q
theorem jj:fF X (.type "list") (fun xs H Q=>∃p ys,xs=[.ref p]/\(SqL X.K H p ys\/SqT X.K H p ys)/\∀l,H l=none->Q (.ref l) (upd H l (.lst ys))):=by
 intro pins s σ H xs us Q I r h
 obtain⟨p,ys,rfl,hq,q⟩:=h
 obtain⟨u,rfl,rx⟩:=oW r
 cases rx
 have fin:∀(its:List Value),bN ys its->ys.length<=sizeLine->∀(h':Heap) (c':Nat),(∀b o',s.heap.get? b=some o'->h'.get? b=some o')->
   h'.get? s.heap.objs.size=some { cls:=.type "list",dict:=none,data:=.seq its.toArray c',slots:=#[] }->EP X pins σ Q (.ref s.heap.objs.size) { s with heap:=h' }:=fun its r' hz h' c' kp e=>
  ⟨.ref s.heap.objs.size,_,I.laid (t':=s.toks) kp (Nat.le_refl _) (show cK X.prog X.w _ h' _ (.lst ys)from⟨hz,its,c',r',e⟩),rfl,q _ (I.hok.fresh (Nat.le_refl _))⟩
 rcases hq with hq|hq
 ·obtain⟨its,r',pl,hz⟩:=I.list hq
  have eF:=r'.length
  obtain⟨o,ho,hc,n,hd⟩:=pl.isList
  exact call_list_seq p (.inl rfl) ho hc hd (fun h' c' kp e=>fin its r' hz h' c' kp e) (by simp only[List.size_toArray]<;>omega)
 ·obtain⟨its,r',pl,hz⟩:=I.tuple hq
  have eF:=r'.length
  obtain⟨o,ho,hc,n,hd⟩:=pl
  exact call_list_seq p (.inr rfl) ho hc hd (fun h' c' kp e=>fin its r' hz h' c' kp e) (by simp only[List.size_toArray]<;>omega)
theorem iJ:fF X (.type "tuple") (fun xs H Q=>∃p ys,xs=[.ref p]/\((SqL X.K H p ys/\∀l,H l=none->Q (.ref l) (upd H l (.tup ys)))\/(SqT X.K H p ys/\Q (.ref p) H))):=by
 intro pins s σ H xs us Q I r h
 obtain⟨p,ys,rfl,h⟩:=h
 obtain⟨u,rfl,rx⟩:=oW r
 cases rx
 rcases h with⟨hq,q⟩|⟨hq,q⟩
 ·obtain⟨its,r',pl,hz⟩:=I.list hq
  have eF:=r'.length
  refine call_tuple_list pl.isList (fun h' kp=>?_) (by simp only[List.size_toArray]<;>omega)
  have I1:Inv X pins σ H { s with heap:=h' }:=I.kept (t':=s.toks) kp
  have I2:Inv X pins σ (upd H h'.objs.size (.tup ys)) { s with heap:=h'.push { cls:=.type "tuple",data:=.seq its.toArray } }:=
   I1.laid (t':=s.toks) (fun b o e=>Heap.get?_push_of_some _ e) (Nat.le_refl _) (show cK X.prog X.w _ _ _ (.tup ys)from⟨hz,its,r',IsTup.new _ _⟩)
  exact⟨.ref h'.objs.size,_,I2,rfl,q _ (I1.hok.fresh (Nat.le_refl _))⟩
 ·obtain⟨its,r',pl,hz⟩:=I.tuple hq
  exact call_tuple_same pl ⟨.ref p,H,I,rfl,q⟩
def tyV(K:PySem.W.Frag)(T:String)(x:V)(H:Hp):Prop:=match x with
 |.str _=>T="str"
 |.int _=>T="int"
 | .ref p=>(T="list"/\∃xs,SqL K H p xs)\/(T="tuple"/\∃o,K.lookup p=some o/\o.cls=.type "tuple"/\o.dict=none)\/
   (T="dict"/\((∃kvs,H p=some (.dK kvs))\/∃kvs,H p=some (.dT kvs)))\/(T="set"/\∃S n,H p=some (.set S n))
 |_=>False
theorem yJ{pins:List (Addr×Obj)}{σ:St}{H:Hp}{s:Shared}{T:String}{x:V}{v:Value}(I:Inv X pins σ H s)(r:cE x v)(ty:tyV X.K T x H) :
  s.TypeIs v T/\∀a,v=.ref a->∃ob,s.heap.get? a=some ob/\ob.dict=none:=by
 cases x with
 |str z=>
  obtain⟨t,rfl⟩:=r
  cases (show T="str" from ty)
  exact⟨typeIs_str s z t,fun _ e=>nomatch e⟩
 |int i=>
  obtain⟨t,rfl⟩:=r
  cases (show T="int" from ty)
  exact⟨typeIs_int s i t,fun _ e=>nomatch e⟩
 |ref p=>
  cases r
  rcases ty with⟨rfl,xs,hq⟩|⟨rfl,o,hk,hc,hd⟩|⟨rfl,hk⟩|⟨rfl,S,n,hk⟩
  ·obtain⟨its,_,pl,_⟩:=I.list hq
   refine⟨pl.isList.typeIs,fun a e=>?_⟩
   cases e
   obtain⟨o,n,e,c,hd,_⟩:=pl
   exact⟨o,e,hd⟩
  ·refine⟨⟨o,I.kIn p o hk,hc⟩,fun a e=>?_⟩
   cases e
   exact⟨o,I.kIn _ o hk,hd⟩
  ·have z:∃o,s.heap.get? p=some o/\o.ExactDict:=by
    rcases hk with⟨kvs,hk⟩|⟨kvs,hk⟩
    ·obtain⟨_,_,_,_,o,_,_,e,ex,_⟩:=I.hok p _ hk
     exact⟨o,e,ex⟩
    ·obtain⟨_,_,_,_,o,_,_,e,ex,_⟩:=I.hok p _ hk
     exact⟨o,e,ex⟩
   obtain⟨o,e,ex⟩:=z
   refine⟨⟨o,e,ex.1⟩,fun a e2=>?_⟩
   cases e2
   exact⟨o,e,ex.2.1⟩
  ·obtain⟨o,_,_,_,e,ex,_⟩:=I.hok p _ hk
   refine⟨⟨o,e,ex.1⟩,fun a e2=>?_⟩
   cases e2
   exact⟨o,e,ex.2.1⟩
 |_=>exact False.elim ty
def HH(K:PySem.W.Frag)(T:String)(r:V->List V->Hp->VK->Prop)(to:TE):TE:=fun σ H Q=>to σ H fun x H1=>tyV K T x H1/\r x [] H1 Q
def tBM(K:PySem.W.Frag)(T:String)(r:V->List V->Hp->VK->Prop)(to:TE)(t:TA):TE:=fun σ H Q=>to σ H fun x H1=>tyV K T x H1/\t σ H1 fun xs H2=>r x xs H2 Q
variable{o e:Expr}{es:List Expr}{to:TE}{t:TA}{name:Str}{apos cpos:Pos}{T id:String}{r:V->List V->Hp->VK->Prop}
theorem DP(pa:PlainAttrs T)(slot:Slot T name id)(hty:typeOf (.builtin id)=pure (.type "method_descriptor"))(hm:MtR X id r)(ho:PE X o to)
  (hbase:attributeBase o name X.env (eval o X.env)=eval o X.env:=by rfl) (hline:(apos.endLine == cpos.line)=true:=by rfl):PE X (.Call (.Attribute o name apos) [] [] cpos) (HH X.K T r to):=by
 intro pins s σ H Q I h
 refine wpAny_Call_method0_late hbase hline (thn (ho pins s σ H _ I h) fun v s1 hz=>?_)
 obtain⟨x,H1,I1,r1,ty,q1⟩:=hz
 obtain⟨h1,h2⟩:=yJ I1 r1 ty
 exact⟨T,id,pa,slot,hty,h1,h2,Calls.callWith_builtin rfl (PySem.evalArgs_none (hm pins s1 σ H1 x [] v [] Q I1 r1 .nil q1))⟩
theorem GO(pa:PlainAttrs T)(slot:Slot T name id)(hty:typeOf (.builtin id)=pure (.type "method_descriptor"))(hm:MtR X id r)(ho:PE X o to)(ha:PA X (e::es) t)
  (hbase:attributeBase o name X.env (eval o X.env)=eval o X.env:=by rfl)
  (hfew:((backTo cpos (starEach (e::es) X.env)).all (fun x=>!x.1)&&(backToKw cpos (keywordEach [] X.env)).all (fun x=>x.1.isSome)
   && decide ((e::es).length+([]:List Keyword).length+(if ([]:List Keyword).isEmpty then 0 else 1)<30))=true:=by rfl)
  (hline:(apos.endLine == cpos.line)=true:=by rfl) (hs:starEach (e::es) X.env=(false,eval e X.env)::starEach es X.env:=by rfl) (hplain:(backTo cpos (starEach es X.env)).any (·.1)=false:=by rfl) :
  PE X (.Call (.Attribute o name apos) (e::es) [] cpos) (tBM X.K T r to t):=by
 intro pins s σ H Q I h
 refine wpAny_Call_method_late hbase hfew hline rfl (thn (ho pins s σ H _ I h) fun v s1 hz=>?_)
 obtain⟨x,H1,I1,r1,ty,q1⟩:=hz
 obtain⟨h1,h2⟩:=yJ I1 r1 ty
 refine⟨T,id,pa,slot,hty,h1,h2,?_⟩
 have hA:=ha cpos pins s1 σ H1 _ I1 q1
 rw[hs]at hA ⊢
 refine Calls.callWith_builtin (by show(false||(backTo cpos (starEach es X.env)).any (·.1))=false;rw[hplain]<;>rfl) (Calls.evalArgs_plain ?_)
 exact thn hA fun us s2 ⟨vs,H2,I2,r2,q2⟩=>hm pins s2 σ H2 x vs v us Q I2 r1 r2 q2
end
def MtM(X:Cx)(id:String)(r:V->List V->Hp->VK->Prop):Prop:=
 ∀(pins:List (Addr×Obj)) (s:Shared) (σ:St) (H:Hp) (x:V) (xs:List V) (v:Value) (us:List Value) (Q:VK),Inv X pins σ H s->cE x v->bN xs us->r x xs H Q->
  wpAny (model X.prog X.w) X.A (call (.builtin id) (v::us)) (EP X pins σ Q) X.xe s
theorem bN.one:∀{x:V} {us:List Value},bN [x] us->∃u,us=[u]/\cE x u
 |_,_,.cons r .nil=>⟨_,rfl,r⟩
theorem bN.zero:∀{us:List Value},bN [] us->us=[]
 |_,.nil=>rfl
theorem bN.dropLast{xs:List V}{us:List Value}(h:bN xs us):bN xs.dropLast us.dropLast:=by
 induction h with
 |nil=>exact .nil
 |cons r t ih=>
  cases t with
  |nil=>exact .nil
  |cons q t'=>exact .cons r ih
theorem bN.eraseIdx:∀{xs:List V} {us:List Value} (i:Nat),bN xs us->bN (xs.eraseIdx i) (us.eraseIdx i)
 |_,_,_,.nil=>.nil
 |_,_,0,.cons _ t=>t
 |_,_,i+1,.cons r t=>.cons r (bN.eraseIdx i t)
theorem sv{α:Type}(l:List α):l.eraseIdx (l.length-1)=l.dropLast:=by
 induction l with
 |nil=>rfl
 |cons a r ih=>
  cases r with
  |nil=>rfl
  |cons b r=>
   have e:(a::b::r).length-1=((b::r).length-1)+1:=by
    have h1:(a::b::r).length=r.length+2:=rfl
    have h2:(b::r).length=r.length+1:=rfl
    omega
   rw[e,List.eraseIdx_cons_succ,ih]
   all_goals rfl
theorem nN{α:Type}:∀(l:List α) (i:Nat),(l.eraseIdx i).length<=l.length
 |[],_=>Nat.le_refl _
 |_::_,0=>Nat.le_succ _
 |_::r,i+1=>Nat.succ_le_succ (nN r i)
section
variable{X:Cx}{pins:List (Addr×Obj)}{σ:St}{H:Hp}{s:Shared}{l b:Addr}{xs ys zs:List V}
theorem Inv.lset{its its':List Value}{n:Nat}{f:Array Value->Array Value}{t':Nat}(I:Inv X pins σ H s)(hH:H l=some (.lst xs))
  (e:s.heap.get? l=some { cls:=.type "list",data:=.seq its.toArray n }) (hf:f its.toArray=its'.toArray) (hv:bN ys its') (hz:ys.length<=sizeLine) :
  Inv X pins σ (upd H l (.lst ys)) { s with heap:=s.heap.update l (Obj.mapSeq f),toks:=t' }:=by
 have q:=PySem.IsL.update e f
 rw[hf]at q
 refine I.write (x:=l) (e:=l) (by rw[hH];exact trivial) (.inl rfl) (fun b' u hb hu=>(Heap.get?_update_other s.heap (Obj.mapSeq f) (Ne.symm hb)).trans hu) ⟨_,q⟩ ?_
 exact⟨hz,its',_,hv,q⟩
theorem Inv.lnew{its:List Value}{t':Nat}(I:Inv X pins σ H s)(hv:bN ys its)(hz:ys.length<=sizeLine) :
  Inv X pins σ (upd H s.heap.objs.size (.lst ys)) { s with heap:=s.heap.push { cls:=.type "list",data:=.seq its.toArray },toks:=t' }:=
 I.laid (fun _ _ q=>Heap.get?_push_of_some _ q) (Nat.le_refl _) ⟨hz,its,0,hv,Heap.get?_push_size _ rfl⟩
theorem Inv.fresh(I:Inv X pins σ H s):H s.heap.objs.size=none:=I.hok.fresh (Nat.le_refl _)
theorem Inv.lstM(I:Inv X pins σ H s)(hH:H l=some (.lst xs)):xs.length<=sizeLine/\∃(its:List Value) (n:Nat),bN xs its/\xs.length=its.length/\s.heap.get? l=some { cls:=.type "list",data:=.seq its.toArray n }:=by
 obtain⟨z,its,n,r,e⟩:=I.hok l _ hH
 exact⟨z,its,n,r,r.length,e⟩
theorem xD{n:Nat}(h:n<=sizeLine):Builtin.List.listTooLong n=false:=by
 unfold Builtin.List.listTooLong
 exact decide_eq_false (by omega)
end
section
variable{X:Cx}
def t8:V->List V->Hp->VK->Prop:=fun x vs H Q=>∃l xs y,x=.ref l/\vs=[y]/\H l=some (.lst xs)/\xs.length<sizeLine/\Q .non (upd H l (.lst (xs++[y])))
theorem jU:MtM X "list.append" t8:=by
 intro pins s σ H x vs v us Q I rx rv h
 obtain⟨l,xs,y,rfl,rfl,hH,hz,q⟩:=h
 cases rx
 obtain⟨u,rfl,ru⟩:=rv.one
 obtain⟨z,its,n,r,hl,e⟩:=I.lstM hH
 refine call_meets F.slot_list_append ⟨_,e,rfl⟩ F.entry_list_append (F.args_list_append_2 _ _) (PySem.list_append l its.toArray n u (by rw[List.size_toArray];omega)) ⟨e,?_⟩
 refine⟨.non,_,I.lset (its':=its++[u]) hH e (by simp) (r.append (.cons ru .nil)) ?_,rfl,q⟩
 rw[List.length_append,List.length_singleton]
 omega
def t7:V->List V->Hp->VK->Prop:=fun x vs H Q=>∃l b xs zs,x=.ref l/\vs=[.ref b]/\H l=some (.lst xs)/\H b=some (.lst zs)/\xs.length+zs.length<=sizeLine/\Q .non (upd H l (.lst (xs++zs)))
theorem uC:MtM X "list.extend" t7:=by
 intro pins s σ H x vs v us Q I rx rv h
 obtain⟨l,b,xs,zs,rfl,rfl,hH,hB,hz,q⟩:=h
 cases rx
 obtain⟨u,rfl,ru⟩:=rv.one
 cases ru
 obtain⟨z,its,n,r,hl,e⟩:=I.lstM hH
 obtain⟨z2,its2,n2,r2,hl2,e2⟩:=I.lstM hB
 have hsz:its.toArray.size+its2.toArray.size<=sizeLine:=by rw[List.size_toArray,List.size_toArray];omega
 have hlong:¬(!its.toArray.isEmpty&&Builtin.List.listTooLong (its.toArray.size+its2.toArray.size))=true:=by
  rw[xD hsz,Bool.and_false]
  exact Bool.false_ne_true
 refine call_meets F.slot_list_extend ⟨_,e,rfl⟩ F.entry_list_extend (F.args_list_extend_2 _ _)
  (AutoSeq1.list_extend_list_list_0 l its.toArray n b its2.toArray n2 hlong (by rw[List.size_toArray];omega) (by omega)) ⟨e,e2,?_⟩
 refine⟨.non,_,I.lset (its':=its++its2) hH e (by simp) (r.append r2) ?_,rfl,q⟩
 rw[List.length_append]
 omega
def HL:V->List V->Hp->VK->Prop:=fun x vs H Q=>∃l xs y,x=.ref l/\vs=[]/\H l=some (.lst xs)/\xs[xs.length-1]?=some y/\Q y (upd H l (.lst xs.dropLast))
theorem D3:MtM X "list.pop" HL:=by
 intro pins s σ H x vs v us Q I rx rv h
 obtain⟨l,xs,y,rfl,rfl,hH,hy,q⟩:=h
 cases rx
 have hus:=rv.zero
 subst hus
 obtain⟨z,its,n,r,hl,e⟩:=I.lstM hH
 obtain⟨u,hu,ru⟩:=r.get hy
 have hy':its.toArray[its.toArray.size-1]?=some u:=by
  show its.toArray[its.length-1]?=some u
  rw[<-Array.getElem?_toList,<-hl]
  exact hu
 refine call_meets F.slot_list_pop ⟨_,e,rfl⟩ F.entry_list_pop (F.args_list_pop_1 _) (MeetsSeq.list_pop_last l its.toArray n u hy' (by rw[List.size_toArray];omega)) ⟨e,?_⟩
 refine⟨y,_,I.lset (its':=its.dropLast) hH e ?_ r.dropLast ?_,ru,q⟩
 ·show its.toArray.eraseIdxIfInBounds (its.toArray.size-1)=its.dropLast.toArray
  rw[List.size_toArray,List.eraseIdxIfInBounds_toArray,sv]
 ·rw[List.length_dropLast]
  omega
def yS:V->List V->Hp->VK->Prop:=fun x vs H Q=>∃l xs i k y,x=.ref l/\vs=[.int i]/\H l=some (.lst xs)/\-(2^63)<=i/\i<2^63/\seqIndex? i xs.length=some k/\xs[k]?=some y/\Q y (upd H l (.lst (xs.eraseIdx k)))
theorem xF:MtM X "list.pop" yS:=by
 intro pins s σ H x vs v us Q I rx rv h
 obtain⟨l,xs,i,k,y,rfl,rfl,hH,h1,h2,hk,hy,q⟩:=h
 cases rx
 obtain⟨u,rfl,ru⟩:=rv.one
 obtain⟨t,rfl⟩:=ru
 obtain⟨z,its,n,r,hl,e⟩:=I.lstM hH
 obtain⟨w,hw,rw'⟩:=r.get hy
 refine call_meets F.slot_list_pop ⟨_,e,rfl⟩ F.entry_list_pop (F.args_list_pop_2 _ _)
  (MeetsSeq.list_pop_at l its.toArray n i t k w (fitsIndex_both h1 h2) (by rw[List.size_toArray,<-hl];exact hk) (by rw[<-Array.getElem?_toList];exact hw) (by rw[List.size_toArray];omega)) ⟨e,?_⟩
 refine⟨y,_,I.lset (its':=its.eraseIdx k) hH e ?_ (r.eraseIdx k) ?_,rw',q⟩
 ·show its.toArray.eraseIdxIfInBounds k=(its.eraseIdx k).toArray
  rw[List.eraseIdxIfInBounds_toArray]
 ·have:=nN xs k
  omega
def E4:R2:=fun x y H Q=>∃l b xs zs,x=.ref l/\y=.ref b/\H l=some (.lst xs)/\H b=some (.lst zs)/\xs.length+zs.length<=sizeLine/\∀p,H p=none->Q (.ref p) (upd H p (.lst (xs++zs)))
theorem DY:OpR X (binaryOp .Add) E4:=by
 intro pins s σ H x y v u Q I rx ry h
 obtain⟨l,b,xs,zs,rfl,rfl,hH,hB,hz,q⟩:=h
 cases rx
 cases ry
 obtain⟨z,its,n,r,hl,e⟩:=I.lstM hH
 obtain⟨z2,its2,n2,r2,hl2,e2⟩:=I.lstM hB
 refine PySem.P.add_list e e2 ?_ (by rw[List.size_toArray,List.size_toArray];omega)
 have ea:its.toArray++its2.toArray=(its++its2).toArray:=by simp
 rw[ea]
 exact⟨.ref _,_,I.lnew (t':=s.toks) (r.append r2) (by rw[List.length_append];omega),rfl,q _ I.fresh⟩
end
section
variable{κ:Type}[DecidableEq κ]
def mr(kvs:List (κ×V))(k:κ):Option V:=(kvs.find? fun kv=>decide (kv.1=k)).map (·.2)
def oN(kvs:List (κ×V))(k:κ)(v:V):List (κ×V):=
 if (kvs.any fun kv=>decide (kv.1=k))=true then kvs.map (fun kv=>if kv.1=k then(kv.1,v)else kv)else kvs++[(k,v)]
theorem mj{p:κ×V}{r:List (κ×V)}{k:κ}(e:p.1=k):mr (p::r) k=some p.2:=by simp[mr,List.find?_cons,e]
theorem mq{p:κ×V}{r:List (κ×V)}{k:κ}(e:¬p.1=k):mr (p::r) k=mr r k:=by simp[mr,List.find?_cons,e]
theorem qi(k:κ):∀kvs:List (κ×V),(kvs.any fun kv=>decide (kv.1=k))=(mr kvs k).isSome
 |[]=>rfl
 |p::r=>by
  rw[List.any_cons]
  by_cases e:p.1=k
  ·simp only[mj e,decide_eq_true e,Bool.true_or,Option.isSome_some]
  ·rw[mq e,decide_eq_false e,Bool.false_or];exact qi k r
theorem jZ(kvs:List (κ×V))(k:κ)(v:V):(oN kvs k v).length<=kvs.length+1:=by
 unfold oN
 split
 ·rw[List.length_map];omega
 ·rw[List.length_append,List.length_cons,List.length_nil];omega
theorem ng.isSome_eq{o:Option V}{u:Option Value}(r:ng o u):o.isSome=u.isSome:=by
 cases o with
 |none=>cases u with
  |none=>rfl
  |some _=>exact(show False from r).elim
 |some _=>cases u with
  |none=>exact(show False from r).elim
  |some _=>rfl
theorem ng.getD{o:Option V}{u:Option Value}{d:V}{d':Value}(r:ng o u)(rd:cE d d'):cE (o.getD d) (u.getD d'):=by
 cases o with
 |none=>cases u with
  |none=>exact rd
  |some _=>exact(show False from r).elim
 |some _=>cases u with
  |none=>exact(show False from r).elim
  |some _=>exact r
theorem KV.val{kvs:List (κ×V)}{vs:List (κ×Value)}(r:KV kvs vs)(k:κ):ng (mr kvs k) (valueAt vs k):=by
 unfold KV at r
 induction r with
 |nil=>exact True.intro
 |@cons p q ps qs h t ih=>
  obtain⟨h1,h2⟩:=h
  by_cases e:p.1=k
  ·have e':q.1=k:=h1.symm.trans e
   have b:valueAt (q::qs) k=some q.2:=by simp[valueAt,List.find?_cons,e']
   rw[mj e,b];exact h2
  ·have e':¬q.1=k:=fun z=>e (h1.trans z)
   have b:valueAt (q::qs) k=valueAt qs k:=by simp[valueAt,List.find?_cons,e']
   rw[mq e,b];exact ih
theorem KV.any{kvs:List (κ×V)}{vs:List (κ×Value)}(r:KV kvs vs)(k:κ):(kvs.any fun kv=>decide (kv.1=k))=vs.any fun kv=>decide (kv.1=k):=by
 unfold KV at r
 induction r with
 |nil=>rfl
 |cons h t ih=>rw[List.any_cons,List.any_cons,ih,h.1]
theorem KV.repl{kvs:List (κ×V)}{vs:List (κ×Value)}(r:KV kvs vs)(k:κ){y:V}{u:Value}(ry:cE y u) :
  KV (kvs.map fun kv=>if kv.1=k then(kv.1,y)else kv) (vs.map fun kv=>if kv.1=k then(kv.1,u)else kv):=by
 unfold KV at r ⊢
 induction r with
 |nil=>exact .nil
 |@cons p q ps qs h t ih=>
  rw[List.map_cons,List.map_cons]
  refine .cons ?_ ih
  obtain⟨h1,h2⟩:=h
  by_cases e:p.1=k
  ·rw[if_pos e,if_pos (h1.symm.trans e)];exact⟨h1,ry⟩
  ·rw[if_neg e,if_neg (fun z=>e (h1.trans z))];exact⟨h1,h2⟩
theorem KV.put{kvs:List (κ×V)}{vs:List (κ×Value)}(r:KV kvs vs)(k:κ){y:V}{u:Value}(ry:cE y u):KV (oN kvs k y) (stored vs k u):=by
 unfold oN stored
 rw[r.any k]
 by_cases e:(vs.any fun kv=>decide (kv.1=k))=true
 ·rw[if_pos e,if_pos e];exact r.repl k ry
 ·rw[if_neg e,if_neg e];exact Paired.snoc r ⟨rfl,ry⟩
theorem KV.length{kvs:List (κ×V)}{vs:List (κ×Value)}(r:KV kvs vs):kvs.length=vs.length:=Paired.length r
end
theorem sd{P:Program}{w:World}{k:Key}{u:Value}(r:cE (kV k) u):(cu P w).is k u=true:=by
 cases k with
 |inl i=>obtain⟨t,e⟩:=(show ∃t,u=Value.int i t from r);subst e;exact o7 P w i t
 |inr x=>obtain⟨t,e⟩:=(show ∃t,u=Value.str x t from r);subst e;exact o6 P w x t
theorem nP{P:Program}{w:World}:∀{ks:List Key} {us:List Value},bN (ks.map kV) us->ItemsAre (cu P w) ks us
 |[],_,r=>by rw[List.map_nil]at r;cases r;exact .nil
 |k::ks,_,r=>by
  rw[List.map_cons]at r
  cases r with
  |cons h t=>exact .cons (sd h) (nP t)
abbrev KT(H:Hp):List (List Key×V)->List (List Key×Addr×Value)->Prop:=Paired fun p q=>p.1=q.1/\H q.2.1=some (.tup (p.1.map kV))/\cE p.2 q.2.2
theorem KT.val{H:Hp}{kvs:List (List Key×V)}{xs:List (List Key×Addr×Value)}(r:KT H kvs xs)(k:List Key):ng (mr kvs k) ((atKey xs k).map (·.2)):=by
 induction r with
 |nil=>exact True.intro
 |@cons p q ps qs h t ih=>
  obtain⟨h1,_,h2⟩:=h
  by_cases e:p.1=k
  ·have e':q.1=k:=h1.symm.trans e
   have b:atKey (q::qs) k=some q.2:=by simp[atKey,List.find?_cons,e']
   rw[mj e,b];exact h2
  ·have e':¬q.1=k:=fun z=>e (h1.trans z)
   have b:atKey (q::qs) k=atKey qs k:=by simp[atKey,List.find?_cons,e']
   rw[mq e,b];exact ih
theorem KT.repl{H:Hp}{kvs:List (List Key×V)}{xs:List (List Key×Addr×Value)}(r:KT H kvs xs)(k:List Key){y:V}{u:Value}(ry:cE y u) :
  KT H (kvs.map fun kv=>if kv.1=k then(kv.1,y)else kv) (xs.map (putAt k u)):=by
 induction r with
 |nil=>exact .nil
 |@cons p q ps qs h t ih=>
  rw[List.map_cons,List.map_cons]
  refine .cons ?_ ih
  obtain⟨h1,h2,h3⟩:=h
  unfold putAt
  by_cases e:p.1=k
  ·rw[if_pos e,if_pos (h1.symm.trans e)];exact⟨h1,h2,ry⟩
  ·rw[if_neg e,if_neg (fun z=>e (h1.trans z))];exact⟨h1,h2,h3⟩
theorem KT.put{H:Hp}{kvs:List (List Key×V)}{xs:List (List Key×Addr×Value)}(r:KT H kvs xs)(k:List Key){b:Addr}{y:V}{u:Value}(hb:H b=some (.tup (k.map kV)))(ry:cE y u) :
  KT H (oN kvs k y) (storedH xs k b u):=by
 have e:(kvs.any fun kv=>decide (kv.1=k))=(atKey xs k).isSome:=by
  rw[qi,(r.val k).isSome_eq,Option.isSome_map]
 unfold oN storedH
 rw[e]
 by_cases q:(atKey xs k).isSome=true
 ·rw[if_pos q,if_pos q];exact r.repl k ry
 ·rw[if_neg q,if_neg q];exact Paired.snoc r ⟨rfl,hb,ry⟩
theorem KT.keeps{H H':Hp}{kvs:List (List Key×V)}{xs:List (List Key×Addr×Value)}(r:KT H kvs xs)(ht:∀b ys,H b=some (.tup ys)->H' b=some (.tup ys)):KT H' kvs xs:=
 Paired.mapP r fun _ _ z=>⟨z.1,ht _ _ z.2.1,z.2.2⟩
section
variable{P:Program}{w:World}{H:Hp}{h:Heap}{a:Addr}
theorem De{u:HO}(ok:HOk P w H h)(e:Rd H a u):cK P w H h a u:=e.ok ok
theorem om{kvs:List (Key×V)}(ok:HOk P w H h)(e:Rd H a (.dK kvs)):kvs.length<=sizeLine/\(a == sysModules)=false/\∃vs,KV kvs vs/\h.DictOf (cu P w) a vs:=
 show cK P w H h a (.dK kvs)from De ok e
theorem Bj{kvs:List (Key×V)}(ok:HOk P w H h)(e:H a=some (.dK kvs)):kvs.length<=sizeLine/\(a == sysModules)=false/\∃vs,KV kvs vs/\h.DictOf (cu P w) a vs:=om ok (.inl e)
theorem lQ{ks:List Key}(ok:HOk P w H h)(e:H a=some (.tup (ks.map kV))):(tupleKind (cu P w)).is h ks a:=by
 obtain⟨_,its,r,o,h1,h2,n,h3⟩:=(show cK P w H h a (.tup (ks.map kV))from ok a _ e)
 exact⟨o,its.toArray,n,h1,h2,h3,by simpa using nP r⟩
theorem pD{kvs:List (List Key×V)}(ok:HOk P w H h)(e:Rd H a (.dT kvs)):kvs.length<=sizeLine/\(a == sysModules)=false/\
  ∃xs,KT H kvs xs/\h.DictOfH (tupleKind (cu P w)) a xs:=by
 obtain⟨z,y,xs,r,o,es,ep,h1,h2,h3,h4,h5⟩:=(show cK P w H h a (.dT kvs)from De ok e)
 refine⟨z,y,xs,r,o,es,ep,h1,h2,h3,h4,fun x hx=>?_,h5⟩
 have all:∀{l:List (List Key×V)} {m:List (List Key×Addr×Value)},KT H l m->∀x∈m,(tupleKind (cu P w)).is h x.1 x.2.1:=by
  intro l m q
  induction q with
  |nil=>intro x hx;exact nomatch hx
  |@cons p q ps qs hq t ih=>
   intro x hx
   rcases List.mem_cons.mp hx with e|hx
   ·subst e
    exact lQ ok (by rw[<-hq.1];exact hq.2.1)
   ·exact ih x hx
 exact all r x hx
theorem Hn{kvs:List (List Key×V)}(ok:HOk P w H h)(e:H a=some (.dT kvs)):kvs.length<=sizeLine/\(a == sysModules)=false/\
  ∃xs,KT H kvs xs/\h.DictOfH (tupleKind (cu P w)) a xs:=pD ok (.inl e)
end
def DGet(H:Hp)(a:Addr)(y:V)(r:Option V):Prop:=
 (∃kvs k,Rd H a (.dK kvs)/\y=kV k/\r=mr kvs k)\/∃kvs k b,Rd H a (.dT kvs)/\y=.ref b/\H b=some (.tup (k.map kV))/\r=mr kvs k
def zk(H:Hp)(a:Addr)(y v:V)(H':Hp):Prop:=
 (∃kvs k,H a=some (.dK kvs)/\y=kV k/\kvs.length<sizeLine/\H'=upd H a (.dK (oN kvs k v)))\/
 ∃kvs k b,H a=some (.dT kvs)/\y=.ref b/\H b=some (.tup (k.map kV))/\kvs.length<sizeLine/\H'=upd H a (.dT (oN kvs k v))
theorem DGet.k{H:Hp}{a:Addr}{kvs:List (Key×V)}{k:Key}(e:H a=some (.dK kvs)):DGet H a (kV k) (mr kvs k):=.inl ⟨kvs,k,.inl e,rfl,rfl⟩
theorem zk.k{H:Hp}{a:Addr}{kvs:List (Key×V)}{k:Key}{v:V}(e:H a=some (.dK kvs))(hl:kvs.length<sizeLine):zk H a (kV k) v (upd H a (.dK (oN kvs k v))):=.inl ⟨kvs,k,e,rfl,hl,rfl⟩
theorem zk.t{H:Hp}{a b:Addr}{kvs:List (List Key×V)}{k:List Key}{v:V}(e:H a=some (.dT kvs))(eb:H b=some (.tup (k.map kV)))(hl:kvs.length<sizeLine) :
  zk H a (.ref b) v (upd H a (.dT (oN kvs k v))):=.inr ⟨kvs,k,b,e,rfl,eb,hl,rfl⟩
section
variable{X:Cx}{pins:List (Addr×Obj)}{σ:St}{H:Hp}{s:Shared}{a:Addr}{y v:V}{u r:Value}{o:Option V}{A:Around}{E:Value->Shared->Prop}
theorem Inv.big(I:Inv X pins σ H s):sysModules<s.heap.objs.size:=by
 have h:mainGlobals<s.heap.objs.size:=(I.mod.glob.keeps I.bk).lt
 exact Nat.lt_trans (by decide) h
theorem vD{Q:Value->Shared->Prop}(hu:A.units+1<cLine)(I:Inv X pins σ H s)(g:DGet H a y (some v))(ry:cE y u)(h:∀w' s',Inv X pins σ H s'->cE v w'->Q w' s') :
  wpAny (model X.prog X.w) A (getItem (.ref a) u) Q E s:=by
 rcases g with⟨kvs,k,e,ey,l⟩|⟨kvs,k,b,e,ey,eb,l⟩
 ·subst ey
  obtain⟨z,hd,vs,rel,dd⟩:=om I.hok e
  obtain⟨w',hw,rw'⟩:=ng.some_of (v:=v) (o:=valueAt vs k) (by rw[l];exact rel.val k)
  exact wpAny_getItem_of (sd ry) dd.mapOf hw (h w' _ (I.tok _) rw')
 ·subst ey
  cases (show u=Value.ref b from ry)
  obtain⟨z,hd,xs,rel,dd⟩:=pD I.hok e
  obtain⟨w',hw,rw'⟩:=ng.some_of (v:=v) (o:=(atKey xs k).map (·.2)) (by rw[l];exact rel.val k)
  obtain⟨p,hp,hp2⟩:=Option.map_eq_some_iff.mp hw
  refine wpAny_getItem_heap (tupleKind_room_in1 hu) (lQ I.hok eb) dd hp ?_
  rw[hp2]
  exact h w' _ (I.tok _) rw'
theorem Jf{Q:Value->Shared->Prop}(hu:A.units+1<cLine)(I:Inv X pins σ H s)(g:DGet H a y o)(ry:cE y u)(h:∀s',Inv X pins σ H s'->Q (.bool o.isSome) s') :
  wpAny (model X.prog X.w) A (compareOp .In u (.ref a)) Q E s:=by
 rcases g with⟨kvs,k,e,ey,l⟩|⟨kvs,k,b,e,ey,eb,l⟩
 ·subst ey
  obtain⟨z,hd,vs,rel,dd⟩:=om I.hok e
  refine wpAny_in_of (sd ry) hd dd.mapOf ?_
  rw[<-(rel.val k).isSome_eq,<-l]
  exact h _ (I.tok _)
 ·subst ey
  cases (show u=Value.ref b from ry)
  obtain⟨z,hd,xs,rel,dd⟩:=pD I.hok e
  refine wpAny_in_heap (tupleKind_room_in1 hu) (lQ I.hok eb) hd dd ?_
  have q:=(rel.val k).isSome_eq
  rw[Option.isSome_map]at q
  rw[<-q,<-l]
  exact h _ (I.tok _)
theorem Bk{Q:Value->Shared->Prop}(hu:A.units+1<cLine)(I:Inv X pins σ H s)(g:DGet H a y o)(ry:cE y u)(h:∀s',Inv X pins σ H s'->Q (.bool (!o.isSome)) s') :
  wpAny (model X.prog X.w) A (compareOp .NotIn u (.ref a)) Q E s:=by
 rcases g with⟨kvs,k,e,ey,l⟩|⟨kvs,k,b,e,ey,eb,l⟩
 ·subst ey
  obtain⟨z,hd,vs,rel,dd⟩:=om I.hok e
  refine wpAny_notIn_of (sd ry) hd dd.mapOf ?_
  rw[<-(rel.val k).isSome_eq,<-l]
  exact h _ (I.tok _)
 ·subst ey
  cases (show u=Value.ref b from ry)
  obtain⟨z,hd,xs,rel,dd⟩:=pD I.hok e
  refine wpAny_notIn_heap (tupleKind_room_in1 hu) (lQ I.hok eb) hd dd ?_
  have q:=(rel.val k).isSome_eq
  rw[Option.isSome_map]at q
  rw[<-q,<-l]
  exact h _ (I.tok _)
theorem vB{h':Heap}{t':Nat}{ob:HO}(I:Inv X pins σ H s)(mu:Mut (H a))(hs:Heap.SameBut a s.heap h')(he:∃q,h'.get? a=some q)(new:cK X.prog X.w (upd H a ob) h' a ob) :
  Inv X pins σ (upd H a ob) { s with heap:=h',toks:=t' }:=
 I.write (x:=a) (e:=a) mu (.inl rfl) (fun b q hb z=>(hs.2 b hb).trans z) he new
theorem EH{P:Program}{w:World}{H':Hp}{h':Heap}{kvs:List (Key×V)}{vs:List (Key×Value)}(z:kvs.length<=sizeLine)(hd:(a == sysModules)=false)(rel:KV kvs vs)(dd:h'.DictOf (cu P w) a vs) :
  cK P w H' h' a (.dK kvs):=⟨z,hd,vs,rel,dd⟩
theorem vC{H':Hp}{Q:Unit->Shared->Prop}(hu:A.units+1<cLine)(I:Inv X pins σ H s)(g:zk H a y v H')(ry:cE y u)(rv:cE v r)(h:∀s',Inv X pins σ H' s'->Q () s') :
  wpAny (model X.prog X.w) A (setItem (.ref a) u r) Q E s:=by
 rcases g with⟨kvs,k,e,ey,l,eH⟩|⟨kvs,k,b,e,ey,eb,l,eH⟩
 ·subst ey eH
  obtain⟨z,hd,vs,rel,dd⟩:=Bj I.hok e
  have hz:vs.length<=sizeLine:=by rw[<-rel.length];exact z
  have hl:(oN kvs k v).length<=sizeLine:=by have:=jZ kvs k v;omega
  refine wpAny_setItem_pairs (hsz:=hz) (sd ry) dd fun h' dd' hs=>h _ ?_
  have he:∃q,h'.get? a=some q:=let ⟨q,_,_,hq,_⟩:=dd';⟨q,hq⟩
  exact vB I (by rw[e];exact True.intro) hs he (EH hl hd (rel.put k rv) dd')
 ·subst ey eH
  cases (show u=Value.ref b from ry)
  obtain⟨z,hd,xs,rel,dd⟩:=Hn I.hok e
  have hz:xs.length<=sizeLine:=by rw[<-Paired.length rel];exact z
  have hl:(oN kvs k v).length<=sizeLine:=by have:=jZ kvs k v;omega
  refine wpAny_setItem_heap (hsz:=hz) (tupleKind_room_in1 hu) (lQ I.hok eb) dd fun h' dd' hs=>h _ ?_
  obtain⟨q,es,ep,hq,h2,h3,h4,_,h5⟩:=dd'
  refine vB I (by rw[e];exact True.intro) hs ⟨q,hq⟩ ⟨hl,hd,_,(rel.put k eb rv).keeps fun c ys ec=>?_,q,es,ep,hq,h2,h3,h4,h5⟩
  rw[aV (GZ ec e (fun z=>nomatch z))]
  exact ec
end
section
variable{X:Cx}{pins:List (Addr×Obj)}{σ:St}{H:Hp}{s:Shared}{a:Addr}{kvs:List (Key×V)}{k:Key}{u:Value}{A:Around}{E:Value->Shared->Prop}
theorem Ho{Q:Value->Shared->Prop}(I:Inv X pins σ H s)(e:Rd H a (.dK kvs))(h:∀t s',Inv X pins σ H s'->Q (.int kvs.length t) s'):wpAny (model X.prog X.w) A (call (.builtin "len") [.ref a]) Q E s:=by
 obtain⟨z,hd,vs,rel,dd⟩:=om I.hok e
 refine call_len_dict hd dd (by rw[<-rel.length];rw[sizeLine_eq]at z;omega) ?_
 rw[<-rel.length]
 exact h _ _ (I.tok _)
end
def Fh(i:Expr):Prop:=∀ov iv,subscripted i false ov iv=operate [ov,iv] (getItem ov iv)
theorem Ag{prog:Program}{w:World}{A:Around}{E:Value->Shared->Prop}{s:Shared}{env:Env}{value slice:Expr}{pos:Pos}{T id:String}{Q:Value->Shared->Prop}
  (hl:typeLookup (.type T) "__getitem__"=pure (some (.builtin id))) (hs:Fh slice)
  (h:wpAny (model prog w) A (eval value env) (fun o s₁=>wpAny (model prog w) A (eval slice env) (fun i s₂=>s₂.TypeIs o T/\wpAny (model prog w) A (getItem o i) Q E s₂) E s₁) E s) :
  wpAny (model prog w) A (eval (.Subscript value slice pos) env) Q E s:=by
 refine Subscript_ (wpAny_mono h (fun o s₁ h₁=>wpAny_mono h₁ (fun i s₂ h₂=>?_) fun _ _ x=>x) fun _ _ x=>x)
 obtain⟨hT,h₂⟩:=h₂
 unfold subscriptTail
 refine wpAny_bind ?_
 rw[getitemInPython_of_ne hT.not_modules]
 refine wpAny_bind (wpAny_specialOf hT hl ?_)
 have fin:wpAny (model prog w) A (subscripted slice false o i) (fun r s₃=>wpAny (model prog w) A (letTemporaryGo value o r >>= fun _=>pure r) Q E s₃) E s₂:=by
  rw[hs o i]
  exact wpAny_operating (wpAny_mono h₂ (fun r s₃ h₃=>wpAny_bind (wpAny_letTemporaryGo (wpAny_pure h₃))) fun _ _ x=>x)
 first
  |exact wpAny_pure (wpAny_bind fin)
  |exact wpAny_bind (wpAny_pure (wpAny_bind fin))
  |exact wpAny_bind fin
theorem pE{X:Cx}{pins:List (Addr×Obj)}{σ:St}{H:Hp}{s:Shared}{a:Addr}{y:V}{o:Option V}(I:Inv X pins σ H s)(g:DGet H a y o):s.TypeIs (.ref a) "dict":=by
 rcases g with⟨kvs,k,e,_,_⟩|⟨kvs,k,b,e,_,_,_⟩
 ·obtain⟨_,_,vs,_,dd⟩:=om I.hok e
  exact dd.typeIs
 ·obtain⟨_,_,xs,_,dd⟩:=pD I.hok e
  exact dd.typeIs
def CU(td ty:TE):TE:=fun σ H Q=>td σ H fun x H1=>ty σ H1 fun y H2=>∃a v,x=.ref a/\DGet H2 a y (some v)/\Q v H2
def Gx(ty td:TE):TE:=fun σ H Q=>ty σ H fun y H1=>td σ H1 fun x H2=>∃a o,x=.ref a/\DGet H2 a y o/\Q (.bl o.isSome) H2
def mw(ty td:TE):TE:=fun σ H Q=>ty σ H fun y H1=>td σ H1 fun x H2=>∃a o,x=.ref a/\DGet H2 a y o/\Q (.bl (!o.isSome)) H2
def Dd(td ty tv:TE):TS:=fun D σ H=>tv σ H fun v H1=>td σ H1 fun x H2=>ty σ H2 fun y H3=>∃a H4,x=.ref a/\zk H3 a y v H4/\D.nx σ H4
section
variable{X:Cx}{o i e value:Expr}{pos pos' tpos:Pos}{td ty tv:TE}
theorem AK(hu:X.A.units+1<cLine)(ho:PE X o td)(hi:PE X i ty)(hs:Fh i):PE X (.Subscript o i pos) (CU td ty):=by
 intro pins s σ H Q I h
 refine Ag PySem.F.slot_dict_getitem.lookup hs (thn (ho pins s σ H _ I h) fun u s1 ⟨x,H1,I1,rx,q1⟩=>thn (hi pins s1 σ H1 _ I1 q1) fun iv s2 hz=>?_)
 obtain⟨y,H2,I2,ry,a,v,ex,g,q2⟩:=hz
 subst ex
 obtain rfl:u=Value.ref a:=rx
 exact⟨pE I2 g,vD hu I2 g ry fun w' s3 I3 rw'=>⟨v,H2,I3,rw',q2⟩⟩
theorem DR(hu:X.A.units+1<cLine)(hi:PE X i ty)(ho:PE X o td):PC X .In i o (Gx ty td):=by
 intro pins s σ H Q I h
 refine thn (hi pins s σ H _ I h) fun iv s1 ⟨y,H1,I1,ry,q1⟩=>thn (ho pins s1 σ H1 _ I1 q1) fun u s2 hz=>?_
 obtain⟨x,H2,I2,rx,a,ov,ex,g,q2⟩:=hz
 subst ex
 obtain rfl:u=Value.ref a:=rx
 exact Jf hu I2 g ry fun s3 I3=>⟨.bl ov.isSome,H2,I3,rfl,q2⟩
theorem uq(hu:X.A.units+1<cLine)(hi:PE X i ty)(ho:PE X o td):PC X .NotIn i o (mw ty td):=by
 intro pins s σ H Q I h
 refine thn (hi pins s σ H _ I h) fun iv s1 ⟨y,H1,I1,ry,q1⟩=>thn (ho pins s1 σ H1 _ I1 q1) fun u s2 hz=>?_
 obtain⟨x,H2,I2,rx,a,ov,ex,g,q2⟩:=hz
 subst ex
 obtain rfl:u=Value.ref a:=rx
 exact Bk hu I2 g ry fun s3 I3=>⟨.bl (!ov.isSome),H2,I3,rfl,q2⟩
theorem AD(hu:X.A.units+1<cLine)(ho:PE X o td)(hi:PE X i ty)(hv:PE X value tv)(hs:swapsWith value (some (.Subscript o i pos')) pos.line X.env=pure false) :
  PS X (.Assign [.Subscript o i pos'] value pos) (Dd td ty tv):=by
 intro pins s σ H D I h
 refine wpAny_Assign_Subscript (thn (hv pins s σ H _ I h) fun r s1 ⟨v,H1,I1,rv,q1⟩=>thn (ho pins s1 σ H1 _ I1 q1) fun u s2 ⟨x,H2,I2,rx,q2⟩=>thn (hi pins s2 σ H2 _ I2 q2) fun iv s3 hz=>?_) hs
 obtain⟨y,H3,I3,ry,a,H4,ex,g,q3⟩:=hz
 subst ex
 obtain rfl:u=Value.ref a:=rx
 exact vC hu I3 g ry rv fun s4 I4=>⟨σ,H4,I4,q3⟩
end
theorem yh{P:Program}{w:World}{H:Hp}(h:Heap)(hb:sysModules<h.objs.size):cK P w H (h.push { cls:=.type "dict",data:=.dict #[] }) h.objs.size (.dK []):=
 ⟨Nat.zero_le _,beq_eq_false_iff_ne.mpr (Ne.symm (Nat.ne_of_lt hb)),[],.nil,Heap.DictOf.new h⟩
theorem yg{P:Program}{w:World}{H:Hp}(h:Heap)(hb:sysModules<h.objs.size):cK P w H (h.push { cls:=.type "dict",data:=.dict #[] }) h.objs.size (.dT []):=
 ⟨Nat.zero_le _,beq_eq_false_iff_ne.mpr (Ne.symm (Nat.ne_of_lt hb)),[],.nil,_,#[],0,Heap.get?_push_size _ rfl,⟨rfl,rfl,rfl⟩,rfl,rfl,List.nodup_nil⟩
def yL:TE:=fun _ H Q=>∀p,H p=none->Q (.ref p) (upd H p (.dK []))
def yK:TE:=fun _ H Q=>∀p,H p=none->Q (.ref p) (upd H p (.dT []))
section
variable{X:Cx}{pos:Pos}
theorem xo:PE X (.Dict [] [] pos) yL:=fun pins s σ H Q I h=>
 wpAny_Dict_empty ⟨.ref s.heap.objs.size,_,I.laid (a:=s.heap.objs.size) (o:=.dK []) (t':=s.toks) (fun _ _ q=>Heap.get?_push_of_some _ q) (Nat.le_refl _) (yh s.heap I.big),rfl,h _ (I.hok.fresh (Nat.le_refl _))⟩
theorem xn:PE X (.Dict [] [] pos) yK:=fun pins s σ H Q I h=>
 wpAny_Dict_empty ⟨.ref s.heap.objs.size,_,I.laid (a:=s.heap.objs.size) (o:=.dT []) (t':=s.toks) (fun _ _ q=>Heap.get?_push_of_some _ q) (Nat.le_refl _) (yg s.heap I.big),rfl,h _ (I.hok.fresh (Nat.le_refl _))⟩
end
structure M1(X:Cx)(o:Expr)(m:Str)(apos:Pos)(e:Expr)(cpos:Pos):Prop where
 base:attributeBase o m X.env (eval o X.env)=eval o X.env
 few:((backTo cpos (starEach [e] X.env)).all (fun x=>!x.1)&&(backToKw cpos (keywordEach [] X.env)).all (fun x=>x.1.isSome)
  && decide (([e]:List Expr).length+([]:List Keyword).length+(if ([]:List Keyword).isEmpty then 0 else 1)<30))=true
 line:(apos.endLine == cpos.line)=true
 trees:backTo cpos (starEach [e] X.env)=[(false,eval e X.env)]
structure M2(X:Cx)(o:Expr)(m:Str)(apos:Pos)(e f:Expr)(cpos:Pos):Prop where
 base:attributeBase o m X.env (eval o X.env)=eval o X.env
 few:((backTo cpos (starEach [e,f] X.env)).all (fun x=>!x.1)&&(backToKw cpos (keywordEach [] X.env)).all (fun x=>x.1.isSome)
  && decide (([e,f]:List Expr).length+([]:List Keyword).length+(if ([]:List Keyword).isEmpty then 0 else 1)<30))=true
 line:(apos.endLine == cpos.line)=true
 trees:backTo cpos (starEach [e,f] X.env)=[(false,eval e X.env),(false,eval f X.env)]
def IsD(H:Hp)(a:Addr):Prop:=(∃kvs,Rd H a (.dK kvs))\/∃kvs,Rd H a (.dT kvs)
theorem Es{X:Cx}{pins:List (Addr×Obj)}{σ:St}{H:Hp}{s:Shared}{a:Addr}(I:Inv X pins σ H s)(d:IsD H a) :
  s.TypeIs (.ref a) "dict"/\(∀b,Value.ref a=.ref b->∃ob,s.heap.get? b=some ob/\ob.dict=none)/\(a == sysModules)=false:=by
 rcases d with⟨kvs,e⟩|⟨kvs,e⟩
 ·obtain⟨_,hd,vs,_,dd⟩:=om I.hok e
  refine⟨dd.typeIs,fun b q=>?_,hd⟩
  cases q
  obtain⟨ob,_,_,h1,h2,_⟩:=dd
  exact⟨ob,h1,h2.2.1⟩
 ·obtain⟨_,hd,xs,_,dd⟩:=pD I.hok e
  refine⟨dd.typeIs,fun b q=>?_,hd⟩
  cases q
  obtain⟨ob,_,_,h1,h2,_⟩:=dd
  exact⟨ob,h1,h2.2.1⟩
section
variable{X:Cx}{pins:List (Addr×Obj)}{σ:St}{H:Hp}{s:Shared}{a:Addr}{y d:V}{u r:Value}{o:Option V}{A:Around}{E:Value->Shared->Prop}
theorem EI{Q:Value->Shared->Prop}(hu:A.units+1<cLine)(I:Inv X pins σ H s)(g:DGet H a y o)(ry:cE y u)(rd:cE d r)(h:∀w' s',Inv X pins σ H s'->cE (o.getD d) w'->Q w' s') :
  wpAny (model X.prog X.w) A (call (.builtin "dict.get") [.ref a,u,r]) Q E s:=by
 rcases g with⟨kvs,k,e,ey,l⟩|⟨kvs,k,b,e,ey,eb,l⟩
 ·subst ey
  obtain⟨z,hd,vs,rel,dd⟩:=om I.hok e
  refine call_meetsIn PySem.F.slot_dict_get dd.typeIs PySem.F.entry_dict_get (PySem.F.args_dict_get_3 _ _ _) (meets_dict_get_default (cu X.prog X.w) a (sd ry) hd r) ⟨_,dd.mapOf,h _ _ (I.tok _) ?_⟩
  rw[l]
  exact(rel.val k).getD rd
 ·subst ey
  cases (show u=Value.ref b from ry)
  obtain⟨z,hd,xs,rel,dd⟩:=pD I.hok e
  refine call_meetsIn PySem.F.slot_dict_get dd.typeIs PySem.F.entry_dict_get (PySem.F.args_dict_get_3 _ _ _) (meetsH_dict_get_default (tupleKind (cu X.prog X.w)) a b hd r) ⟨tupleKind_room_in1 hu,k,xs,lQ I.hok eb,dd,h _ _ (I.tok _) ?_⟩
  rw[l]
  exact(rel.val k).getD rd
end
def yM(td ty tx:TE):TE:=fun σ H Q=>td σ H fun x H1=>∃a,x=.ref a/\IsD H1 a/\ty σ H1 fun y H2=>tx σ H2 fun z H3=>∃o,DGet H3 a y o/\Q (o.getD z) H3
section
variable{X:Cx}{o e f:Expr}{apos cpos:Pos}{td ty tx:TE}
theorem xp(hu:X.A.units+1<cLine)(ho:PE X o td)(he:PE X e ty)(hf:PE X f tx)(m:M2 X o "get" apos e f cpos):PE X (.Call (.Attribute o "get" apos) [e,f] [] cpos) (yM td ty tx):=by
 intro pins s σ H Q I h
 refine wpAny_Call_method m.base m.few m.line PySem.F.plainAttrs_dict PySem.F.slot_dict_get PySem.F.type_dict_get (thn (ho pins s σ H _ I h) fun u s1 hz=>?_)
 obtain⟨x,H1,I1,rx,a,ex,d,q1⟩:=hz
 subst ex
 obtain rfl:u=Value.ref a:=rx
 obtain⟨t1,t2,_⟩:=Es I1 d
 refine⟨t1,t2,?_⟩
 rw[m.trees]
 refine Calls.callWith_builtin rfl (Calls.evalArgs_plain (Calls.spliced_cons (thn (he pins s1 σ H1 _ I1 q1) fun iv s2 ⟨y,H2,I2,ry,q2⟩=>
  Calls.spliced_cons (thn (hf pins s2 σ H2 _ I2 q2) fun fv s3 ⟨z,H3,I3,rz,ov,g,q3⟩=>Calls.spliced_nil ?_))))
 exact EI hu I3 g ry rz fun w' s4 I4 rw'=>⟨_,H3,I4,rw',q3⟩
end
end L2
namespace Att
open PySem PySem.W PySem.Calls PyProof.Rows
theorem j7{P:Params}{h:Heap}:∀(ns:List Int) (vs:List Value),WellAll P h vs (ns.map WData.int)->IntsAre vs ns:=by
 intro ns
 induction ns with
 |nil=>
  intro vs w
  rw[List.map_nil]at w
  cases w
  exact .nil
 |cons n ns ih=>
  intro vs w
  rw[List.map_cons]at w
  cases w with
  |cons a b=>
   cases a
   exact .cons _ _ (ih _ b)
theorem tZ{l:OpenLaw}{n:Nat}(hn:l.most=some n){P:Params}{h:Heap}{args:List WData}{vals:List Value}
  (hpre:l.row.toRowW.claim.pre args=true) (hwl:WellAll P h vals args) :
  ∃a vs ns,vals=[Value.ref a]/\args=[WData.list (ns.map WData.int)]/\h.get? a=some { cls:=.type "list",data:=.seq vs.toArray }/\IntsAre vs ns/\ns.length<=n:=by
 have hsh:WShape.hasAll [] args [.list .int]=true:=(pre_splitW hpre).1
 have hc:l.pre.holds [] { args:=args }=true:=(pre_splitW hpre).2
 obtain⟨d,r,rfl,h1,h2⟩:=hasAllW_cons hsh
 obtain rfl:=hasAllW_nil h2
 obtain⟨xs,rfl,h3⟩:=hasW_list h1
 obtain⟨ns,rfl⟩:=items_int h3
 have eF:ns.length<=n:=by
  unfold OpenLaw.pre at hc
  have h4:(WTm.not (.lt (.lit (.int (n:Int))) (.len (.arg 0)))).holds [] { args:=[.list (ns.map .int)] }=true:=by
   have h4:=(holds_andW hc).1
   rw[hn]at h4
   exact h4
  have h5:=condW_of h4 (w_not (w_lt w_lit (w_len_list (w_arg rfl))))
  rw[List.length_map]at h5
  refine Nat.le_of_not_lt fun q=>?_
  have q':(n:Int)<((ns.length:Nat):Int):=by omega
  first
   |(rw[decide_eq_true q']at h5;exact absurd h5 (by decide))
   |(simp at h5;omega)
 cases hwl with
 |cons w1 w2=>
  cases w2
  cases w1 with
  |list ho hall=>exact⟨_,_,ns,rfl,rfl,ho,j7 ns _ hall,eF⟩
theorem uj(l:OpenLaw)(args:List WData):l.row.toRowW.claim.post args (.bool true) args=true:=
 postW_of (r:=l.row.toRowW) (X:=(true == true))
  (show WShape.has [] (.bool true) .bool=true by first|rfl|decide|simp[WShape.has,WShape.arms,WShape.armsAll])
  (show(WTm.eq .res (.lit (.bool true))).value [] { args:=args,res:=some (.bool true),after:=args }=some (.bool (true == true))from w_eq_bool (w_res rfl) w_lit) rfl
theorem attach_call{l:OpenLaw}{n:Nat}{q:Program}{loose:List Str}{XP:(Str->Option Value)->Heap->Prop}{YP:World->Heap->Prop}{d:DefRec}
  (hn:l.most=some n) (hdf:d.params.defaults=[])
  (call:∀(w:World) (s₀ s₁:Shared) (mg mb:Str->Option Value) (fa:Addr) (o:Obj) (pm cd doc:Value) (a:Addr) (vs:List Value) (ns:List Int),
   Ground q loose [] XP w s₀ mg mb s₁.heap->YP w s₁.heap->
   s₁.heap.get? fa=some o->o.data=.func (docDef d.name d.params d.body d.scope pm cd doc)->s₁.heap.CodeRec cd d.name->mg d.name=some (.ref fa)->
   s₁.heap.get? a=some { cls:=.type "list",data:=.seq vs.toArray }->IntsAre vs ns->ns.length<=n->s₁.gens=#[]->
   codeAny (model l.prog w) callerA (.call (.ref fa) ⟨[.ref a],[]⟩) (fun r s'=>r=.ok (.ret (.bool true))/\OldK s₁.heap s'.heap/\s'.os=s₁.os/\AllBare s'.gens) s₁) :
  WalkO q loose XP YP l.row.toRowW d [] (fun f vs=>PySem.call f vs):=by
 intro w s₀ s₁ mg mb G Y fa o pm cd doc dV kV ho hd hcd hD hmg hg args vals as hpre hlay hrd hwl hlo
 obtain rfl:dV=.none:=Dflts.none hD hdf
 obtain rfl:kV=.none:=Dflts.noKw hD
 obtain⟨a,vs,ns,rfl,rfl,hobj,hints,eF⟩:=tZ hn hpre hwl
 refine enter_call (codeAny_mono (call w s₀ s₁ mg mb fa o pm cd doc a vs ns G Y ho (fd_plain hd) hcd hmg hobj hints eF hg) fun r s' hq=>?_)
 obtain⟨rfl,h2,h3,h4⟩:=hq
 exact⟨.inl ⟨.bool true,.bool true,[],rfl,fun _=>rfl,.bool true,uj l _,fun _=>⟨List.Pairwise.nil,fun _ hm=>(nomatch hm)⟩⟩,h2,h3,h4⟩
end Att
namespace L2
open PySem PySem.Spec PyProof.Rows
theorem fS:∀{vs:List Value} {ns:List Int},IntsAre vs ns->bN (ns.map V.int) vs
 |_,_,.nil=>.nil
 |_,_,.cons n t h=>.cons ⟨t,rfl⟩ (fS h)
def Hx(H:Hp):Prop:=∀b,H b=none\/∃o xs,H b=some (.frz o (.lst xs))
theorem xP{P:Program}{w:World}{K:PySem.W.Frag}{mg mb:Str->Option Value}{CX:CXT}{k:Nat}{fa a:Addr}{fd:FuncData}{x:Str}{sp:Sp}{s₁:Shared}{vs:List Value}{ns:List Int}
  (KX:K.In s₁.heap) (hns:s₁.heap.Ns mainGlobals mg) (hb:s₁.heap.Ns builtinsNs mb) (hbb:∀x:Str,x≠"__name__"->mb x=bootBuiltins x) (hlim:s₁.heap.NoLimit) (hg:s₁.gens=#[])
  (ha:s₁.heap.get? a=some { cls:=.type "list",data:=.seq vs.toArray }) (hi:IntsAre vs ns) (hl:ns.length<=sizeLine) (hr:gw k callerA)
  (F:∀base:Heap,K.In base->base.Ns mainGlobals mg->kM P w K mg base CX k fa fd [x] sp) (hbind:∀(s:Shared) (u:Value),BindsTo s fd ⟨[u],[]⟩ [(x,u)])
  (hsp:∀H:Hp,Hx H->SqL K H a (ns.map V.int)->sp [.ref a] H (fun v _=>v=.bl true) fun _ _ _=>False)
  (hCX:∀H e s',CX [] H s₁ (fun _ _ _=>False) e s'->False) :
  codeAny (model P w) callerA (.call (.ref fa) ⟨[.ref a],[]⟩) (fun r s'=>r=.ok (.ret (.bool true))/\OldK s₁.heap s'.heap/\s'.os=s₁.os/\AllBare s'.gens) s₁:=by
 have rv:=fS hi
 have lenV:=hi.length
 have core:∀H:Hp,Hx H->SqL K H a (ns.map V.int)->HOk P w H s₁.heap->(∀b,H b≠none->b=a)->(H a≠none->K.lookup a=none)->
   codeAny (model P w) callerA (.call (.ref fa) ⟨[.ref a],[]⟩) (fun r s'=>r=.ok (.ret (.bool true))/\OldK s₁.heap s'.heap/\s'.os=s₁.os/\AllBare s'.gens) s₁:=by
  intro H hO hS hok hA hK
  have base_of:∀{b:Addr} {o:Obj},s₁.heap.get? b=some o->H b=none->(xX s₁.heap H).get? b=some o:=fun e n=>xW e n
  have noA:∀{b:Addr} {o:Obj} {es:Array DictEntry} {ep:Nat},s₁.heap.get? b=some o->o.data=.dict es ep->H b=none:=fun{b o es ep} e d=>by
   cases q:H b with
   |none=>rfl
   |some u=>
    have e':b=a:=hA b (by rw[q];simp)
    subst e'
    rw[ha]at e;cases e
    have d':Data.seq vs.toArray _=Data.dict es ep:=d
    cases d'
  have nsK:∀{b:Addr} {m:Str->Option Value},s₁.heap.Ns b m->(xX s₁.heap H).Ns b m:=fun{b m} ⟨o,es,ep,e,d,r⟩=>⟨o,es,ep,base_of e (noA e d),d,r⟩
  have hKb:K.In (xX s₁.heap H):=fun b o e=>base_of (KX b o e) (by
   cases q:H b with
   |none=>rfl
   |some u=>
    have e':b=a:=hA b (by rw[q];simp)
    subst e'
    rw[hK (by rw[q];simp)]at e;cases e)
  have hM:Mod K mg (xX s₁.heap H):=⟨hKb,nsK hns,⟨mb,nsK hb,hbb⟩,let ⟨mc,h1,h2⟩:=hlim;⟨mc,nsK h1,h2⟩⟩
  have e0:Bz P w K mg (xX s₁.heap H) callerA [] s₁ H:=⟨rfl,hM,fun b o e=>AZ e,Nat.le_of_eq (u9 _ _),trivial,fun b hb=>absurd (show b∈([]:List Addr)from hb) (by simp),hok,.of_eq hg⟩
  refine codeAny_mono ((F _ hKb (nsK hns)).run callerA [] s₁ H ⟨[.ref a],[]⟩ [.ref a] [.ref a] _ _ hr e0 (hbind s₁ (.ref a)) (.cons rfl .nil) (hsp H hO hS)) fun r s' h=>?_
  cases r with
  |error e=>exact(hCX H e s' h).elim
  |ok fl=>
   cases fl with
   |next=>exact False.elim h
   |brk=>exact False.elim h
   |cont=>exact False.elim h
   |ret u=>
    obtain⟨v,H',os,bare,un,hok',r',q⟩:=h
    have q':v=.bl true:=q
    subst q'
    obtain rfl:u=Value.bool true:=r'
    refine⟨rfl,OldK.of_keep fun b o e=>?_,os,bare⟩
    cases q:H b with
    |none=>exact un.keep b o e q (by intro z;exact absurd (show b∈([]:List Addr)from z) (by simp)) (by simp)
    |some u=>
     rcases hO b with z|⟨ob,xs,z⟩
     ·rw[q]at z;cases z
     ·have z2:=un.frzs b ob _ z
      obtain⟨e1,_⟩:=hok b _ z
      obtain⟨e2,_⟩:=hok' b _ z2
      rw[e]at e1;cases e1
      exact e2
 cases hk:K.lookup a with
 |some o=>
  have e:=KX a o hk
  rw[ha]at e
  cases e
  refine core (fun _=>none) (fun _=>.inl rfl) (.inr ⟨_,vs.toArray,_,hk,rfl,rfl,rfl,by rw[List.size_toArray,lenV];exact hl,by simpa using rv⟩) (fun b u z=>by have z':(none:Option HO)=some u:=z;cases z') (fun b z=>absurd rfl z) fun z=>absurd rfl z
 |none=>
  refine core (fun b=>if b=a then some (.frz { cls:=.type "list",data:=.seq vs.toArray } (.lst (ns.map V.int)))else none) (fun b=>?_) (.inl (.inr ⟨{ cls:=.type "list",data:=.seq vs.toArray },if_pos rfl⟩)) (fun b u z=>?_) (fun b z=>?_) fun _=>hk
  ·by_cases hb:b=a
   ·exact .inr ⟨_,_,if_pos hb⟩
   ·exact .inl (if_neg hb)
  ·by_cases hb:b=a
   ·have z':=(if_pos hb).symm.trans z
    cases z'
    subst hb
    exact⟨ha,by rw[List.length_map];exact hl,vs,_,rv,ha⟩
   ·have z':=(if_neg hb).symm.trans z
    cases z'
  ·by_cases hb:b=a
   ·exact hb
   ·exact absurd (if_neg hb) z
theorem zZ{l:PySem.W.OpenLaw}{n k:Nat}{q:Program}{loose:List Str}{XP:(Str->Option Value)->Heap->Prop}{YP:World->Heap->Prop}{d:DefRec}{K:Params->PySem.W.Frag}{CX:World->CXT}{sp:World->Sp}{x:Str}
  (hn:l.most=some n) (hn2:n<=sizeLine) (hdf:d.params.defaults=[]) (hr:gw k callerA)
  (hY:∀(w:World) (h:Heap),YP w h->(K w.params).In h)
  (F:∀(w:World) (mg:Str->Option Value) (fa:Addr) (h:Heap),(K w.params).In h->h.Ns mainGlobals mg->mg d.name=some (.ref fa)->
   ∃fd:FuncData,(∀(s:Shared) (u:Value),BindsTo s fd ⟨[u],[]⟩ [(x,u)])/\
    ∀base:Heap,(K w.params).In base->base.Ns mainGlobals mg->kM l.prog w (K w.params) mg base (CX w) k fa fd [x] (sp w))
  (hsp:∀(w:World) (H:Hp) (a:Addr) (ns:List Int),ns.length<=n->Hx H->SqL (K w.params) H a (ns.map V.int)->sp w [.ref a] H (fun v _=>v=.bl true) fun _ _ _=>False)
  (hCX:∀(w:World) (H:Hp) (s:Shared) (e:Value) (s':Shared),CX w [] H s (fun _ _ _=>False) e s'->False) :
  PySem.W.WalkO q loose XP YP l.row.toRowW d [] (fun f vs=>PySem.call f vs):=by
 refine Att.attach_call hn hdf fun w s₀ s₁ mg mb fa o pm cd doc a vs ns G Y ho hd hcd hmg hobj hints eF hg=>?_
 have KX:=hY w _ Y
 obtain⟨fd,hb,hF⟩:=F w mg fa _ KX G.T.g hmg
 exact xP KX G.T.g G.T.b G.T.builtins G.T.nolimit hg hobj hints (Nat.le_trans eF hn2) hr hF hb (fun H hO hS=>hsp w H a ns eF hO hS) fun H e s'=>hCX w H s₁ e s'
def mN(s:Stmt)(j:Nat):Stmt:=match s with
 |.ClassDef _ _ _ body _ _ _ _ _ _ _=>body.getD j (.Pass ⟨0,0,0,0⟩)
 |_=>.Pass ⟨0,0,0,0⟩
def aZ(s:Stmt):Arguments:=match s with
 |.FunctionDef _ a _ _ _ _ _ _ _ _=>a
 |_=>{ posonlyargs:=[],args:=[],vararg:=none,kwonlyargs:=[],kw_defaults:=[],kwarg:=none,defaults:=[] }
def aM(s:Stmt):List Stmt:=match s with
 |.FunctionDef _ _ b _ _ _ _ _ _ _=>b
 |_=>[]
def ay(s:Stmt):Scope:=match s with
 |.FunctionDef _ _ _ _ _ _ sc _ _ _=>sc
 |_=>{ kind:=.function,names:=[],isGenerator:=false,isCoroutine:=false }
abbrev CX0:CXT:=fun _ _ _ _ _ _=>False
abbrev E0:XK:=fun _ _ _=>False
theorem AO{X:Cx}:jm CX0 X E0:=fun _ _ _ _ _ _ _ h=>h.elim
structure Fun(K:PySem.W.Frag)(x qual:Str)(st:Stmt)(f:Addr)(fd:FuncData):Prop where
 ex:∃(oc:Value) (od:Option Addr) (kV doc pm:Value) (an:Option Addr) (cdv ct:Value) (osl:Array (Option Value)),
  fd=PySem.W.fnOf x qual (aZ st) (aM st) (ay st) .none kV doc pm an cdv ct/\K.lookup f=some ⟨oc,od,.func fd,osl⟩/\PySem.W.codeIn K cdv qual=true
 kp:PySem.W.keepIn K (.ref f)=true
section
variable{P:Program}{w:World}{K:PySem.W.Frag}{mg:Str->Option Value}{base:Heap}
theorem Fun.ok{x qual:Str}{st:Stmt}{f:Addr}{fd:FuncData}{N ps:List Str}{k:Nat}{sp:Sp}(F:Fun K x qual st f fd)(S:aT N ps (ay st))(len:∀vs H Q E,sp vs H Q E->vs.length=ps.length)
  (hbody:∀(cdv:Value) (A:Around) (outer:List Env) (s:Shared) (H:Hp) (vs:List V) (Q:VK) (E:XK),gw k (A.deeper (envOfC qual (ay st) s.heap.objs.size f cdv))->sp vs H Q E->
   ∃t,PSs (sM CX0 P w K mg base N qual (ay st) f cdv A outer s H E).nox (aM st) t/\t { nx:=fun _ H'=>Q .non H',rt:=Q } (start N vs) H):kM P w K mg base CX0 (k+1) f fd ps sp:=by
 obtain⟨oc,od,kV,doc,pm,an,cdv,ct,osl,rfl,lk,hcd⟩:=F.ex
 refine Hl lk hcd S len fun A outer s H vs Q E hr hsp=>?_
 obtain⟨t,h,q⟩:=hbody cdv A outer s H vs Q E hr hsp
 exact⟨t,h.nox,q⟩
theorem Fun.binds{x qual:Str}{st:Stmt}{f:Addr}{fd:FuncData}{ps:List Str}(F:Fun K x qual st f fd)
  (h:∀(kV doc pm:Value) (an:Option Addr) (cdv ct:Value) (us:List Value),us.length=ps.length->bindArgs (PySem.W.fnOf x qual (aZ st) (aM st) (ay st) .none kV doc pm an cdv ct) ⟨us,[]⟩=pure (ps.zip us)):fN K fd ps []:=by
 obtain⟨oc,od,kV,doc,pm,an,cdv,ct,osl,rfl,lk,hcd⟩:=F.ex
 exact .all (h kV doc pm an cdv ct)
theorem cM{x qual:Str}{st:Stmt}{f:Addr}{oc:Value}{od an:Option Addr}{osl:Array (Option Value)}{kV doc pm cdv ct:Value}(l:K.lookup f=some ⟨oc,od,.func (PySem.W.fnOf x qual (aZ st) (aM st) (ay st) .none kV doc pm an cdv ct),osl⟩)
  (c:PySem.W.codeIn K cdv qual=true) (k:PySem.W.keepIn K (.ref f)=true):Fun K x qual st f (PySem.W.fnOf x qual (aZ st) (aM st) (ay st) .none kV doc pm an cdv ct):=⟨⟨oc,od,kV,doc,pm,an,cdv,ct,osl,rfl,l,c⟩,k⟩
end
theorem eQ{A:Around}{k:Nat}(hr:gw k A):A.units+1<cLine:=Nat.lt_of_le_of_lt (Nat.add_le_add_left (by decide:1<=64) _) hr.units
theorem tV{n:Nat}(h:n<=1000):n<sizeLine:=Nat.lt_of_le_of_lt h (by decide)
section
variable{X:Cx}
theorem pv(i:Nat){x:Str}{pos:Pos}(hN:X.N[i]?=some x:=by rfl)(hv:Vis X.env.scope x:=by first|exact Or.inl rfl|exact Or.inr (Or.inl rfl)|exact Or.inr (Or.inr rfl))(hd:(x == ("__debug__":Str))=false:=by decide)
  (hcd:(x == ("__classdict__":Str))=false:=by decide):PE X (.Name x pos) (EX i):=DD hN hv hd hcd
theorem vJ:fF X (.builtin "len") (fun xs H Q=>∃a kvs,xs=[V.ref a]/\H a=some (.dK kvs)/\Q (.int kvs.length) H):=by
 intro pins s σ H xs us Q I r h
 obtain⟨a,kvs,rfl,ha,q⟩:=h
 obtain⟨u,rfl,ru⟩:=oW r
 cases ru
 exact Ho I (.inl ha) fun t s' I'=>⟨.int kvs.length,H,I',⟨t,rfl⟩,q⟩
end
theorem Fe{A B:Prop}(h:B):if false=true then A else B:=by
 rw[if_neg Bool.false_ne_true]
 exact h
theorem Fd{A B:Prop}(h:A):if true=true then A else B:=by
 rw[if_pos rfl]
 exact h
def pN(H H':Hp):Prop:=∀b o,H b=some o->H' b=some o
theorem pN.refl(H:Hp):pN H H:=fun _ _ h=>h
theorem pN.trans{H H1 H2:Hp}(a:pN H H1)(b:pN H1 H2):pN H H2:=fun c o h=>b c o (a c o h)
theorem pN.free{H H':Hp}(e:pN H H'){l:Addr}(h:H' l=Option.none):H l=Option.none:=by
 cases q:H l with
 |none=>rfl
 |some o=>
  rw[e l o q]at h
  cases h
end L2
namespace OG
open PySem PySem.Spec PyProof.Rows L2
structure WE(X:Cx)(e:Expr)(t:TE):Prop where
 h:PE X e t
structure WT(X:Cx)(e:Expr)(t:TT):Prop where
 h:PT X e t
structure WW(X:Cx)(e:Expr)(t:TT):Prop where
 h:PW X e t
structure WA(X:Cx)(es:List Expr)(t:TA):Prop where
 h:PA X es t
structure WS(X:Cx)(st:Stmt)(t:TS):Prop where
 h:PS X st t
structure WSs(X:Cx)(st:List Stmt)(t:TS):Prop where
 h:PSs X st t
structure WI(X:Cx)(tg iter:Expr)(wi:TI):Prop where
 h:PI X tg iter wi
structure WG(X:Cx)(target:Expr)(t:TG):Prop where
 h:PG X target t
structure WGs(X:Cx)(ts:List Expr)(t:TGs):Prop where
 h:PGs X ts t
structure WC(X:Cx)(op:CmpOp)(a b:Expr)(t:TE):Prop where
 h:PC X op a b t
structure WO(X:Cx)(e:Option Expr)(t:TO):Prop where
 h:PO X e t
section
variable{X:Cx}
theorem aw{i j pos}:WE X (.Constant (.int i) j pos) (tC (.int i)):=⟨DM ⟩
end
section
variable{X:Cx}
theorem jF{b j pos}:WE X (.Constant (.bool b) j pos) (tC (.bl b)):=⟨GP ⟩
end
section
variable{X:Cx}
theorem tf{j pos}:WE X (.Constant .none j pos) (tC .non):=⟨DK ⟩
end
section
variable{X:Cx}
theorem bz{x j pos}:WE X (.Constant (.str x) j pos) (tC (.str x)):=⟨DH ⟩
end
section
variable{X:Cx}
variable{a b:Expr}{ta tb:TE}{pos:Pos}
theorem zT{op:CmpOp}{t:TE}(h:WC X op a b t)(h1:behindInMarks op b=false:=by first|exact nobehind _ (by decide) (by decide)|rfl):WE X (.Compare a [op] [b] pos) t:=⟨DO h.h h1⟩
end
section
variable{X:Cx}
variable{a b:Expr}{ta tb:TE}{pos:Pos}
theorem sT{op:CmpOp}{t:TE}(h:WC X op a b t)(h1:behindInMarks op b=false:=by first|exact nobehind _ (by decide) (by decide)|rfl):WT X (.Compare a [op] [b] pos) (tB t):=⟨Ds h.h h1⟩
end
section
variable{X:Cx}
variable{a b:Expr}{ta tb:TE}{pos:Pos}
theorem zK{e:Expr}{t:TE}(h:WE X e t)(he:∀whole,isTrue e X.env whole=(do let v <-whole;standAt e.pos;holding [v] (truthy v)):=by intro _;rfl):WT X e (tB t):=⟨Dq h.h he⟩
end
section
variable{X:Cx}
variable{a b:Expr}{ta tb:TE}{pos:Pos}
variable{tA tB':TT}{rest:List Expr}
theorem wk(ha:WT X a tA):WW X (.BoolOp .And [a] pos) tA:=⟨Ax ha.h⟩
end
section
variable{X:Cx}
variable{a b:Expr}{ta tb:TE}{pos:Pos}
variable{tA tB':TT}{rest:List Expr}
theorem zI(ha:WT X a tA):WW X (.BoolOp .Or [a] pos) tA:=⟨Dm ha.h⟩
end
section
variable{X:Cx}
variable{a b:Expr}{ta tb:TE}{pos:Pos}
variable{tA tB':TT}{rest:List Expr}
theorem zJ(ha:WT X a tA)(hb:WW X (.BoolOp .And (b::rest) pos) tB'):WW X (.BoolOp .And (a::b::rest) pos) (HI tA tB'):=⟨Dp ha.h hb.h⟩
end
section
variable{X:Cx}
variable{a b:Expr}{ta tb:TE}{pos:Pos}
variable{tA tB':TT}{rest:List Expr}
theorem Cz(ha:WT X a tA)(hb:WW X (.BoolOp .Or (b::rest) pos) tB'):WW X (.BoolOp .Or (a::b::rest) pos) (tOr tA tB'):=⟨GG ha.h hb.h⟩
end
section
variable{X:Cx}
variable{a b:Expr}{ta tb:TE}{pos:Pos}
variable{tA tB':TT}{rest:List Expr}
theorem zL(ha:WT X a tA):WT X (.UnaryOp .Not a pos) (HD tA):=⟨Dr ha.h⟩
end
section
variable{X:Cx}
variable{a b:Expr}{ta tb:TE}{pos:Pos}
variable{tA tB':TT}{rest:List Expr}
theorem zQ{op}{t:TE}(h:WE X a t):WE X (.BoolOp op [a] pos) t:=⟨DI h.h⟩
end
section
variable{X:Cx}
variable{a b:Expr}{ta tb:TE}{pos:Pos}
variable{tA tB':TT}{rest:List Expr}
theorem zV(ha:WE X a ta)(hb:WE X (.BoolOp .And (b::rest) pos) tb):WE X (.BoolOp .And (a::b::rest) pos) (CZ ta tb):=⟨DQ ha.h hb.h⟩
end
section
variable{X:Cx}
variable{a b:Expr}{ta tb:TE}{pos:Pos}
variable{tA tB':TT}{rest:List Expr}
theorem zR(ha:WE X a ta):WE X (.UnaryOp .Not a pos) (CO ta):=⟨DJ ha.h⟩
end
section
variable{X:Cx}{st:Stmt}{rest:List Stmt}{t u:TS}{e:Expr}{te:TE}{pos:Pos}
theorem wm :WSs X [] CP:=⟨AA ⟩
end
section
variable{X:Cx}{st:Stmt}{rest:List Stmt}{t u:TS}{e:Expr}{te:TE}{pos:Pos}
theorem nk(h1:WS X st t)(h2:WSs X rest u):WSs X (st::rest) (HB t u):=⟨w9 h1.h h2.h⟩
end
section
variable{X:Cx}{st:Stmt}{rest:List Stmt}{t u:TS}{e:Expr}{te:TE}{pos:Pos}
theorem pX(h1:WS X st t):WSs X [st] t:=⟨Az h1.h⟩
end
section
variable{X:Cx}{st:Stmt}{rest:List Stmt}{t u:TS}{e:Expr}{te:TE}{pos:Pos}
theorem wo(he:WE X e te)(hs:swapsWith e none pos.line X.env=pure false:=by rfl):WS X (.Expr e pos) (CQ te):=⟨AB he.h hs⟩
end
section
variable{X:Cx}{st:Stmt}{rest:List Stmt}{t u:TS}{e:Expr}{te:TE}{pos:Pos}
theorem sV(he:WE X e te):WS X (.Return (some e) pos) (HC te):=⟨Dv he.h⟩
end
section
variable{X:Cx}{st:Stmt}{rest:List Stmt}{t u:TS}{e:Expr}{te:TE}{pos:Pos}
theorem CB{c:Expr}{a b:List Stmt}{tc:TT}(hc:WT X c tc)(ha:WSs X a t)(hb:WSs X b u):WS X (.If c a b pos) (HF tc t u):=⟨GH hc.h ha.h hb.h⟩
end
section
variable{X:Cx}{pos:Pos}
theorem aU{i:Nat}{x:Str}(hN:X.N.Nodup)(hi:X.N[i]?=some x)(hx:Loc X.env.scope x)(hf:X.fn x=true\/X.env.scope.names.lookup x=some .local:=by first|exact .inl rfl|exact .inr rfl|assumption):WG X (.Name x pos) (sk i):=⟨AI hN hi hx hf⟩
end
section
variable{X:Cx}{pos:Pos}
theorem wt :WGs X [] Ie:=⟨AH ⟩
end
section
variable{X:Cx}{pos:Pos}
theorem sY{e:Expr}{es:List Expr}{t:TG}{u:TGs}(h1:WG X e t)(h2:WGs X es u)(hs:(assignEach (e::es) X.env).map (·.2)=assign e X.env::(assignEach es X.env).map (·.2):=by rfl):WGs X (e::es) (Ey t u):=⟨xh h1.h h2.h hs⟩
end
section
variable{X:Cx}{pos:Pos}
theorem zO{es:List Expr}{k:Nat}{t:TGs}{n:Nat}(hc:X.calm=true)(h:WGs X es t)(hn:(assignEach es X.env).length=n:=by rfl)(hst:(assignEach es X.env).findIdx? (·.1)=none:=by rfl):WG X (.Tuple es k pos) (Ia X.K n t):=⟨DB hc h.h hn hst⟩
end
section
variable{X:Cx}{pos:Pos}
theorem zP {o i : Expr} {to ti : TE} {t : Fg} (ho : WE X o to) (hi : WE X i ti) (hs : Hw X t) (ha : ∀ v, assign (.Subscript o i pos) X.env v = (do
   let ov <-holding [v] (eval o X.env)
   let iv <-holding [v,ov] (eval i X.env)
   standAt pos
   holding [v,ov,iv] (setItem ov iv v)
   release [v,ov,iv] []):=by intro _;rfl):WG X (.Subscript o i pos) (Ib to ti t):=⟨DC ho.h hi.h hs ha⟩
end
section
variable{X:Cx}{pos:Pos}
theorem sX{tg e:Expr}{te:TE}{g:TG}(he:WE X e te)(hg:WG X tg g)(hs:swapsWithSole [tg] e pos.line X.env=pure false:=by rfl)(hw:swappedStores [tg] e X.env=pure none:=by rfl)(h1:(assignEach [tg] X.env).map (·.2)=[assign tg X.env]:=by rfl):WS X (.Assign [tg] e pos) (CY te g):=⟨Dy he.h hg.h hs hw h1⟩
end
section
variable{X:Cx}{pos:Pos}
theorem sU{i:Nat}{x:Str}{e:Expr}{te:TE}{pos':Pos}(hN:X.N.Nodup)(hi:X.N[i]?=some x)(hx:Loc X.env.scope x)(he:WE X e te)(hs:swapsWith e (some (.Name x pos')) pos.line X.env=pure false:=by rfl)(hf:X.fn x=true\/X.env.scope.names.lookup x=some .local:=by first|exact .inl rfl|exact .inr rfl|assumption):WS X (.Assign [.Name x pos'] e pos) (CY te (sk i)):=⟨Du hN hi hx he.h hs hf⟩
end
section
variable{X:Cx}{tg:Expr}
theorem wq{l:Expr}{tl:TE}(hl:WE X l tl):WI X tg l (Ew X.K tl):=⟨AG hl.h⟩
end
section
variable{X:Cx}{tg:Expr}
theorem zN{l:Expr}{tl:TE}(hl:WE X l tl):WI X tg l (H0 X.K tl):=⟨Dz hl.h⟩
end
section
variable{X:Cx}{tg:Expr}
theorem rH{a:Expr}{ta:TA}{p pos:Pos}(hg:Gl X "range")(hm:X.mg "range"=none)(ha:WA X [a] ta)(hs:starEach [a] X.env=[(false,eval a X.env)]:=by rfl):WI X tg (.Call (.Name "range" p) [a] [] pos) (Eu ta):=⟨um hg hm ha.h hs⟩
end
section
variable{X:Cx}{tg:Expr}
theorem sW{iter:Expr}{body:List Stmt}{wi:TI}{g:TG}{tb:TS}{pos:Pos}(hp:PassesOwn (model X.prog X.w) X.A X.env X.xe)(hc:X.calm=true)(hi:WI X tg iter wi)(hg:WG X tg g)(hb:WSs X body tb)(hs:∀x,foldedSetIterable iter X.env x=pure x:=by intro _;rfl):WS X (.For tg iter body [] pos) (EZ wi g tb):=⟨Dw hp hc hi.h hg.h hb.h hs⟩
end
section
variable{X:Cx}{a b c:Expr}{ta tb tc:TE}{pos:Pos}
theorem CD{op:Operator}{r:R2}(ho:OpR X (binaryOp op) r)(ha:WE X a ta)(hb:WE X b tb):WE X (.BinOp a op b pos) (tOp r ta tb):=⟨GL ho ha.h hb.h⟩
end
section
variable{X:Cx}{a b c:Expr}{ta tb tc:TE}{pos:Pos}
theorem CC{op:UnaryOp}{r:V->Hp->VK->Prop}(ho:UnR X (unaryOp op) r)(ha:WE X a ta):WE X (.UnaryOp op a pos) (tUn r ta):=⟨GK ho ha.h⟩
end
section
variable{X:Cx}{a b c:Expr}{ta tb tc:TE}{pos:Pos}
theorem qe{op:CmpOp}{r:R2}(ho:OpR X (compareOp op) r)(ha:WE X a ta)(hb:WE X b tb)(hm:behindInMarks op b=false):WE X (.Compare a [op] [b] pos) (tOp r ta tb):=⟨AL ho ha.h hb.h hm⟩
end
section
variable{X:Cx}{a b c:Expr}{ta tb tc:TE}{pos:Pos}
theorem mi{op:CmpOp}{r:R2}(ho:OpR X (compareOp op) r)(ha:WE X a ta)(hb:WE X b tb)(hm:behindInMarks op b=false):WT X (.Compare a [op] [b] pos) (CM (tOp r ta tb)):=⟨Ay ho ha.h hb.h hm⟩
end
section
variable{X:Cx}{o e value:Expr}{f:Str}{pos pos' tpos:Pos}{ta tv:TE}
theorem zS(he:WE X e ta)(hb:attributeBase e f X.env (eval e X.env)=eval e X.env):WE X (.Attribute e f pos) (HG X.K ta f):=⟨DN he.h hb⟩
end
section
variable{X:Cx}{o e value:Expr}{f:Str}{pos pos' tpos:Pos}{ta tv:TE}
theorem zM(ha:WE X o ta)(hv:WE X value tv)(hs:swapsWith value (some (.Attribute o f pos')) pos.line X.env=pure false):WS X (.Assign [.Attribute o f pos'] value pos) (HK X.K ta tv f):=⟨Dx ha.h hv.h hs⟩
end
section
variable{X:Cx}{e:Expr}{es:List Expr}{te:TE}{t:TA}{pos:Pos}
theorem gH :WA X [] EY:=⟨DS ⟩
end
section
variable{X:Cx}{e:Expr}{es:List Expr}{te:TE}{t:TA}{pos:Pos}
theorem cX(ha:WE X e te)(hr:WA X es t)(hs:starEach (e::es) X.env=(false,eval e X.env)::starEach es X.env:=by rfl):WA X (e::es) (CV te t):=⟨AR ha.h hr.h hs⟩
end
section
variable{X:Cx}{e:Expr}{es:List Expr}{te:TE}{t:TA}{pos:Pos}
theorem sZ{x1}(h:WA X es t):WE X (.Tuple es x1 pos) (HA t):=⟨DG h.h⟩
end
section
variable{X:Cx}{e:Expr}{es:List Expr}{te:TE}{t:TA}{pos:Pos}
theorem tm(h:WA X es t):WE X (.List es pos) (HE t):=⟨DL h.h⟩
end
section
variable{X:Cx}{CX:CXT}{k:Nat}{f C:Addr}{fd:FuncData}{ps:List Str}{sp:Sp}{dvs:List V}{ds:List Value}{E:XK}{x m:Str}{p pos apos:Pos}{e o:Expr}{es:List Expr}{ta:TE}{t:TA}
theorem wx {pl : Sem Bool} (he : WE X o ta) (c : Cls X.K C) (hm : v8 X.K C m f) (F : kM X.prog X.w X.K X.mg X.base CX k f fd ps sp) (hr : gw k X.A) (hb : fN X.K fd ps ds) (hd : bN dvs ds) (hx : jm CX X E) (ha : WA X (e :: es) t) (hst : starEach (e :: es) X.env = (false, eval e X.env) :: starEach es X.env := by rfl) (hpl : (backTo pos (starEach es X.env)).any (·.1) = false := by rfl) (ht : eval (.Call (.Attribute o m apos) (e :: es) [] pos) X.env = (do
   let ov <-eval o X.env
   standAt apos.atName
   let (f,first) <-holding [ov] (getMethod ov m pl)
   callWith pos f first (backTo pos (starEach (e::es) X.env)) (backToKw pos (keywordEach [] X.env))):=by rfl):WE X (.Call (.Attribute o m apos) (e::es) [] pos) (Ad C m sp dvs E ta t):=⟨AJ he.h c hm F hr hb hd hx ha.h hst hpl ht⟩
end
section
variable{X:Cx}{CX:CXT}{k:Nat}{f C:Addr}{fd:FuncData}{ps:List Str}{sp:Sp}{dvs:List V}{ds:List Value}{E:XK}{x m:Str}{p pos apos:Pos}{e o:Expr}{es:List Expr}{ta:TE}{t:TA}
theorem tj(M:Mk X.K C f)(F:kM X.prog X.w X.K X.mg X.base CX k f fd ps sp)(hr:gw (k+1) X.A)(hg:Gl X x)(hm:X.mg x=some (.ref C))(hb:fN X.K fd ps ds)(hd:bN dvs ds)(hx:jm CX X E)(hdb:(x == ("__debug__":Str))=false:=by decide):WE X (.Call (.Name x p) [] [] pos) (Ae C sp dvs E EY):=⟨xm M F hr hg hm hb hd hx hdb⟩
end
section
variable{X:Cx}{x:Str}{p pos:Pos}{e:Expr}{es:List Expr}{t:TA}{id T:String}{r:List V->Hp->VK->Prop}
theorem nr(hc:fF X (.builtin id) r)(hg:Gl X x)(hm:X.mg x=none)(hv:bootBuiltins x=some (.builtin id))(ha:WA X (e::es) t)(hn:x≠"__name__":=by decide)(hdb:(x == ("__debug__":Str))=false:=by decide)(he:starEach (e::es) X.env=(false,eval e X.env)::starEach es X.env:=by rfl)(hpl:(backTo pos (starEach es X.env)).any (·.1)=false:=by rfl):WE X (.Call (.Name x p) (e::es) [] pos) (tCB r t):=⟨xq hc hg hm hv ha.h hn hdb he hpl⟩
end
section
variable{X:Cx}{x:Str}{p pos:Pos}{e:Expr}{es:List Expr}{t:TA}{id T:String}{r:List V->Hp->VK->Prop}
theorem lu(hc:fF X (.type T) r)(hg:Gl X x)(hm:X.mg x=none)(hv:bootBuiltins x=some (.type T))(ha:WA X (e::es) t)(hn:x≠"__name__":=by decide)(hdb:(x == ("__debug__":Str))=false:=by decide)(he:starEach (e::es) X.env=(false,eval e X.env)::starEach es X.env:=by rfl)(hpl:(backTo pos (starEach es X.env)).any (·.1)=false:=by rfl):WE X (.Call (.Name x p) (e::es) [] pos) (tCB r t):=⟨uo hc hg hm hv ha.h hn hdb he hpl⟩
end
section
variable{X:Cx}{e:Expr}{te:TE}{lo hi:Option Expr}{tl th:TO}{pos p2:Pos}
theorem qd :WO X none tP:=⟨AF ⟩
end
section
variable{X:Cx}{e:Expr}{te:TE}{lo hi:Option Expr}{tl th:TO}{pos p2:Pos}
theorem pZ(h:WE X e te):WO X (some e) (CN te):=⟨AE h.h⟩
end
section
variable{X:Cx}{e:Expr}{te:TE}{lo hi:Option Expr}{tl th:TO}{pos p2:Pos}
theorem nq{r:V->Option Int->Option Int->Hp->VK->Prop}(hr:SlR X r)(he:WE X e te)(hl:WO X lo tl)(hu:WO X hi th):WE X (.Subscript e (.Slice lo hi none p2) pos) (tSl r te tl th):=⟨xj hr he.h hl.h hu.h⟩
end
section
variable{X:Cx}{a b:Expr}{ta tb:TE}{pos:Pos}
theorem CF{r:R2}(hr:IxR X r)(ha:WE X a ta)(hb:WE X b tb)(hs:pO b):WE X (.Subscript a b pos) (tOp r ta tb):=⟨GN hr ha.h hb.h hs⟩
end
section
variable{X:Cx}{a b:Expr}{ta tb:TE}{pos:Pos}
variable{o e:Expr}{es:List Expr}{to:TE}{t:TA}{name:Str}{apos cpos:Pos}{T id:String}{r:V->List V->Hp->VK->Prop}
theorem zU(pa:PlainAttrs T)(slot:Slot T name id)(hty:typeOf (.builtin id)=pure (.type "method_descriptor"))(hm:MtR X id r)(ho:WE X o to)(hbase:attributeBase o name X.env (eval o X.env)=eval o X.env:=by rfl)(hline:(apos.endLine == cpos.line)=true:=by rfl):WE X (.Call (.Attribute o name apos) [] [] cpos) (HH X.K T r to):=⟨DP pa slot hty hm ho.h hbase hline⟩
end
section
variable{X:Cx}{a b:Expr}{ta tb:TE}{pos:Pos}
variable{o e:Expr}{es:List Expr}{to:TE}{t:TA}{name:Str}{apos cpos:Pos}{T id:String}{r:V->List V->Hp->VK->Prop}
theorem tD (pa : PlainAttrs T) (slot : Slot T name id) (hty : typeOf (.builtin id) = pure (.type "method_descriptor")) (hm : MtR X id r) (ho : WE X o to) (ha : WA X (e :: es) t) (hbase : attributeBase o name X.env (eval o X.env) = eval o X.env := by rfl) (hfew : ((backTo cpos (starEach (e :: es) X.env)).all (fun x => !x.1) && (backToKw cpos (keywordEach [] X.env)).all (fun x => x.1.isSome)
   && decide ((e::es).length+([]:List Keyword).length+(if ([]:List Keyword).isEmpty then 0 else 1)<30))=true:=by rfl) (hline:(apos.endLine == cpos.line)=true:=by rfl) (hs:starEach (e::es) X.env=(false,eval e X.env)::starEach es X.env:=by rfl) (hplain:(backTo cpos (starEach es X.env)).any (·.1)=false:=by rfl):WE X (.Call (.Attribute o name apos) (e::es) [] cpos) (tBM X.K T r to t):=⟨GO pa slot hty hm ho.h ha.h hbase hfew hline hs hplain⟩
end
section
variable{X:Cx}{o i e value:Expr}{pos pos' tpos:Pos}{td ty tv:TE}
theorem wy(hu:X.A.units+1<cLine)(ho:WE X o td)(hi:WE X i ty)(hs:Fh i):WE X (.Subscript o i pos) (CU td ty):=⟨AK hu ho.h hi.h hs⟩
end
section
variable{X:Cx}{o i e value:Expr}{pos pos' tpos:Pos}{td ty tv:TE}
theorem zW(hu:X.A.units+1<cLine)(hi:WE X i ty)(ho:WE X o td):WC X .In i o (Gx ty td):=⟨DR hu hi.h ho.h⟩
end
section
variable{X:Cx}{o i e value:Expr}{pos pos' tpos:Pos}{td ty tv:TE}
theorem lA(hu:X.A.units+1<cLine)(hi:WE X i ty)(ho:WE X o td):WC X .NotIn i o (mw ty td):=⟨uq hu hi.h ho.h⟩
end
section
variable{X:Cx}{o i e value:Expr}{pos pos' tpos:Pos}{td ty tv:TE}
theorem pY(hu:X.A.units+1<cLine)(ho:WE X o td)(hi:WE X i ty)(hv:WE X value tv)(hs:swapsWith value (some (.Subscript o i pos')) pos.line X.env=pure false):WS X (.Assign [.Subscript o i pos'] value pos) (Dd td ty tv):=⟨AD hu ho.h hi.h hv.h hs⟩
end
section
variable{X:Cx}{pos:Pos}
theorem tu :WE X (.Dict [] [] pos) yL:=⟨xo ⟩
end
section
variable{X:Cx}{pos:Pos}
theorem tq :WE X (.Dict [] [] pos) yK:=⟨xn ⟩
end
section
variable{X:Cx}{o e f:Expr}{apos cpos:Pos}{td ty tx:TE}
theorem tw(hu:X.A.units+1<cLine)(ho:WE X o td)(he:WE X e ty)(hf:WE X f tx)(m:M2 X o "get" apos e f cpos):WE X (.Call (.Attribute o "get" apos) [e,f] [] cpos) (yM td ty tx):=⟨xp hu ho.h he.h hf.h m⟩
end
section
variable{X:Cx}
theorem wpv(i:Nat){x:Str}{pos:Pos}(hN:X.N[i]?=some x:=by rfl)(hv:Vis X.env.scope x:=by first|exact Or.inl rfl|exact Or.inr (Or.inl rfl)|exact Or.inr (Or.inr rfl))(hd:(x == ("__debug__":Str))=false:=by decide)(hcd:(x == ("__classdict__":Str))=false:=by decide):WE X (.Name x pos) (EX i):=⟨pv i hN hv hd hcd⟩
end
theorem WW.pt{X:Cx}{e:Expr}{t:TT}(h:WW X e t):WT X e t:=⟨h.h.pt⟩
section
variable{X:Cx}{a b c e:Expr}{ta tb tc:TE}{pos:Pos}
def sL(i j:Int):Prop:=0<j/\j.natAbs.log2<9000
theorem mI:OpR X (binaryOp .FloorDiv) (rI sL fun i j=>.int (i / j)):=opI fun i j _ _ _ _ _ hc q=>by
 refine PyProof.Rows.floordiv_int (by have:=hc.1;omega) ?_ (.inl (PyProof.noPylong_of_log2 hc.2))
 rw[Int.fdiv_eq_ediv_of_nonneg i (Int.le_of_lt hc.1)]
 exact q
theorem pG:fF X (.builtin "isinstance") (fun xs H Q=>∃(x:V) (T:String) (t:Value) (k:Bool),xs=[x,.ty T]/\rC X.K H x t/\PySem.W.kitOne X.K t (.type T)=some k/\Q (.bl k) H):=by
 rintro pins s σ H xs us Q I r ⟨x,T,t,k,rfl,ty,e,q⟩
 obtain⟨u,w',rfl,ru,rw'⟩:=z9 r
 cases rw'
 exact uV I ru ty e fun tk=>⟨.bl k,H,I.tok tk,rfl,q⟩
end
theorem cQ{H:Hp}{p:Addr}(h:H p=none)(o:HO):pN H (upd H p o):=fun b u q=>by rw[aV (bY q h)];exact q
def Def(K:PySem.W.Frag)(mg:Str->Option Value)(x:Str)(st:Stmt)(ps:List Str):Prop:=
 ∃f fd,Fun K x x st f fd/\fN K fd ps []/\mg x=some (.ref f)
def Has(P:Program)(w:World)(K:PySem.W.Frag)(mg:Str->Option Value)(base:Heap)(x:Str)(k:Nat)(ps:List Str)(sp:Sp):Prop:=
 ∃f fd,kM P w K mg base CX0 k f fd ps sp/\fN K fd ps []/\PySem.W.keepIn K (.ref f)=true/\mg x=some (.ref f)
section
variable{P:Program}{w:World}{K:PySem.W.Frag}{mg:Str->Option Value}{base:Heap}{x:Str}{st:Stmt}{ps N:List Str}{k j:Nat}{sp sp':Sp}
theorem Has.mono(h:Has P w K mg base x j ps sp)(l:j<=k):Has P w K mg base x k ps sp:=by
 obtain⟨f,fd,a,b,c,d⟩:=h
 exact⟨f,fd,a.mono l,b,c,d⟩
theorem Def.has(d:Def K mg x st ps)(S:aT N ps (ay st))(len:∀vs H Q E,sp vs H Q E->vs.length=ps.length)
  (hbody:∀(f:Addr) (cdv:Value) (A:Around) (outer:List Env) (s:Shared) (H:Hp) (vs:List V) (Q:VK) (E:XK),gw k (A.deeper (envOfC x (ay st) s.heap.objs.size f cdv))->sp vs H Q E->
   ∃t,WSs (sM CX0 P w K mg base N x (ay st) f cdv A outer s H E).nox (aM st) t/\t { nx:=fun _ H'=>Q .non H',rt:=Q } (start N vs) H):Has P w K mg base x (k+1) ps sp:=by
 obtain⟨f,fd,F,b,m⟩:=d
 exact⟨f,fd,F.ok S len (fun cdv A outer s H vs Q E hr h=>let ⟨t,a,b⟩:=hbody f cdv A outer s H vs Q E hr h;⟨t,a.h,b⟩),b,F.kp,m⟩
theorem Def.none(d:Def K mg x st ps)(no:∀vs H Q E,¬sp vs H Q E):Has P w K mg base x k ps sp:=by
 obtain⟨f,fd,F,b,m⟩:=d
 exact⟨f,fd,⟨fun vs H Q E h=>absurd h (no vs H Q E),fun A outer s H args us vs Q E _ _ _ _ h=>absurd h (no vs H Q E)⟩,b,F.kp,m⟩
end
theorem yF{X:Cx}{k:Nat}{ps:List Str}{sp:Sp}{x:Str}{p pos:Pos}{e:Expr}{es:List Expr}{t:TA}(F:Has X.prog X.w X.K X.mg X.base x k ps sp)(hr:gw k X.A)(hg:Gl X x)
  (ha:WA X (e::es) t) (hdb:(x == ("__debug__":Str))=false:=by decide) (he:starEach (e::es) X.env=(false,eval e X.env)::starEach es X.env:=by rfl) (hpl:(backTo pos (starEach es X.env)).any (·.1)=false:=by rfl) :
  WE X (.Call (.Name x p) (e::es) [] pos) (CW sp [] E0 t):=by
 obtain⟨f,fd,a,b,c,d⟩:=F
 exact⟨AM a hr hg d c b .nil AO ha.h hdb he hpl⟩
structure Blt(mg:Str->Option Value):Prop where
 len:mg "len"=none
 isinstance:mg "isinstance"=none
 int:mg "int"=none
 bool:mg "bool"=none
 str:mg "str"=none
 tuple:mg "tuple"=none
 list:mg "list"=none
 range:mg "range"=none
 min:mg "min"=none
 sum:mg "sum"=none
 all:mg "all"=none
 zip:mg "zip"=none
 sorted:mg "sorted"=none
 dict:mg "dict"=none
 enumerate:mg "enumerate"=none
 any:mg "any"=none
 max:mg "max"=none
 set:mg "set"=none
theorem yO{n:Nat}(h:n<=1000):n<=sizeLine:=Nat.le_of_lt (tV h)
theorem rY{n:Nat}(h:n<2^60):n.log2<1920:=by
 by_cases e:n=0
 ·subst e;decide
 ·have:=(Nat.log2_lt e).mpr h;omega
theorem yi(ns:List Int)(lo hi:Option Int):vF (ns.map V.int) lo hi=((ns.drop (HT.sIx (ns.map V.int).length 0 lo)).take (HT.sIx (ns.map V.int).length (ns.map V.int).length hi-HT.sIx (ns.map V.int).length 0 lo)).map V.int:=by
 unfold vF
 rw[List.map_take,List.map_drop]
def wK(K:PySem.W.Frag):Sp:=fun vs H Q _=>∃(a:Addr) (ns:List Int),vs=[.ref a]/\SqL K H a (ns.map V.int)/\ns.length<=63/\∀H',Q (.bl true) H'
theorem rl:bootBuiltins "int"=some (.type "int"):=rfl
theorem kB:bootBuiltins "bool"=some (.type "bool"):=rfl
theorem rk:bootBuiltins "str"=some (.type "str"):=rfl
theorem gv:bootBuiltins "tuple"=some (.type "tuple"):=rfl
theorem gc:bootBuiltins "list"=some (.type "list"):=rfl
theorem kA:bootBuiltins "isinstance"=some (.builtin "isinstance"):=rfl
theorem fu:bootBuiltins "sorted"=some (.builtin "sorted"):=rfl
theorem fO{X:Cx}{x:Str}{T:String}{pos:Pos}(hg:Gl X x)(hm:X.mg x=none)(hv:bootBuiltins x=some (.type T))(hn:x≠"__name__":=by decide)(hd:(x == ("__debug__":Str))=false:=by decide):WE X (.Name x pos) (tC (.ty T)):=
 ⟨AN hg hm hv rfl hn hd⟩
theorem vQ{α:Type}{xs:List α}{k:Int}{v:α}(h0:0<=k)(h:xs[k.toNat]?=some v):atI xs k=some v:=by
 have ek:k=((k.toNat:Nat):Int):=by omega
 rw[ek];exact kE h
theorem Fun.okW{P:Program}{w:World}{K:PySem.W.Frag}{mg:Str->Option Value}{base:Heap}{x qual:Str}{st:Stmt}{f:Addr}{fd:FuncData}{N ps:List Str}{k:Nat}{sp:Sp}(F:Fun K x qual st f fd)(S:aT N ps (ay st))(len:∀vs H Q E,sp vs H Q E->vs.length=ps.length)
  (hbody:∀(cdv:Value) (A:Around) (outer:List Env) (s:Shared) (H:Hp) (vs:List V) (Q:VK) (E:XK),gw k (A.deeper (envOfC qual (ay st) s.heap.objs.size f cdv))->sp vs H Q E->
   ∃t,WSs (sM CX0 P w K mg base N qual (ay st) f cdv A outer s H E).nox (aM st) t/\t { nx:=fun _ H'=>Q .non H',rt:=Q } (start N vs) H):kM P w K mg base CX0 (k+1) f fd ps sp:=
 F.ok S len fun cdv A outer s H vs Q E hr h=>let ⟨t,a,b⟩:=hbody cdv A outer s H vs Q E hr h;⟨t,a.h,b⟩
def rF(env:Env):List (Str×Addr)->Prop
 |[]=>True
 |p::r=>env.cells.lookup p.1=some p.2/\rF env r
theorem rF.look{env:Env}:∀{cl:List (Str×Addr)} {y:Str} {c:Addr},rF env cl->cl.lookup y=some c->env.cells.lookup y=some c
 |[],_,_,_,h=>by simp at h
 |(n,d)::r,y,c,a,h=>by
  obtain⟨a1,a2⟩:=a
  rw[List.lookup_cons]at h
  by_cases e:(y == n)=true
  ·rw[e]at h
   have e':y=n:=by simpa using e
   subst e'
   cases h
   exact a1
  ·have e':(y == n)=false:=by simpa using e
   rw[e']at h
   exact rF.look a2 h
abbrev cxC(X:Cx)(Nc:List Str)(scope:Scope)(cl:List (Str×Addr))(s3:Shared)(H3:Hp)(fp:List Addr):Cx where
 prog:=X.prog
 w:=X.w
 K:=X.K
 mg:=X.mg
 base:=X.base
 A:=X.A
 N:=Nc
 s₀:=s3
 H₀:=H3
 env:=compEnvC scope cl s3.heap.objs.size X.env
 outer:=X.stack
 stack:=X.stack
 ex:=fp
 fn:=fun _=>false
 calm:=X.calm
 pn:=[]
 xe:=fun _ _=>False
def stC(n:Nat)(caps:List Nat)(σ:L2.St):L2.St:=List.replicate n none++caps.map fun i=>(σ[i]?).getD none
def Af(wi:TI)(g:TG)(te:TE)(n:Nat)(caps:List Nat):TE:=fun σ H Q=>wi σ H fun J H1=>∀l,H1 l=none->∃W:Nat->Nat->L2.St->Hp->Prop,(∃m,W 0 m (stC n caps σ) (upd H1 l (.lst [])))/\
 ∀i m σ' H2,W i m σ' H2->(J.stop i H2/\Q (.ref l) H2)\/(J.go i H2/\∃N:L2.St->Hp->Prop,(∀σ'' H',N σ'' H'->∃m',m'<m/\W (i+1) m' σ'' H')/\
  ∀x H3,J.yld i H2 x H3->g x σ' H3 fun σ2 H4=>te σ2 H4 fun v H5=>∃ys,H5 l=some (.lst ys)/\ys.length<sizeLine/\N σ2 (upd H5 l (.lst (ys++[v]))))
theorem ox{prog:Program}{w:World}{A:Around}{R:Result->Shared->Prop}{s:Shared}{elt target iter:Expr}{scope:Scope}{pos:Pos}{it acc:Value}{env:Env}(I:Nat->Shared->Prop)
  (turn:∀n s,I n s->wpAny (model prog w) A (pyNext it) (fun r s₁=>match r with
   |none=>R (.ok .next) s₁
   | some v=>wpAny (model prog w) A (letOwnedTupleGo target it v) (fun _ s₁'=>wpAny (model prog w) A (assign target env v) (fun _ s₂=>wpAny (model prog w) A (eval elt env) (fun x s₃=>
     wpAny (model prog w) A (call (.builtin "list.append") [acc,x]) (fun _ s₄=>∃m,m<n/\I m s₄) (fun _ _=>False) s₃)
     (fun _ _=>False) s₂) (fun _ _=>False) s₁') (fun _ _=>False) s₁) (fun _ _=>False) s)
  (n:Nat) (h:I n s) :
  codeAny (model prog w) A (.compLoop (.ListComp elt [⟨target,iter,[],0⟩] scope pos) 0 it acc env) R s:=by
 refine codeAny_loop rfl I (fun n s hI=>?_) n h
 show wpAny _ _ ((compTurn (.ListComp elt [⟨target,iter,[],0⟩] scope pos) 0 it acc env).onRaise (fun x=>do noteFrame x env;theTreesLotGoes x)) _ _ s
 refine wpAny_noted ?_
 rw[compTurn_list1]
 refine wpAny_bind (wpAny_standAt (wpAny_bind (wpAny_mono (turn n s hI) (fun r s₁ h₁=>?_) fun _ _ h'=>h'.elim)))
 cases r with
 |none=>exact wpAny_pure h₁
 |some v=>
  refine wpAny_bind (wpAny_mono h₁ (fun _ s₁' h₁'=>?_) fun _ _ h'=>h'.elim)
  exact wpAny_bind (wpAny_mono h₁' (fun _ s₂ h₂=>wpAny_bind (wpAny_bind (wpAny_mono h₂ (fun x s₃ h₃=>wpAny_bind (wpAny_mono h₃
   (fun _ s₄ h₄=>wpAny_pure (wpAny_pure ⟨rfl,h₄⟩)) fun _ _ h'=>h'.elim)) fun _ _ h'=>h'.elim))) fun _ _ h'=>h'.elim)
section
variable{X:Cx}{pins:List (Addr×Obj)}{σ:L2.St}{H:Hp}{s:Shared}{Nc capN:List Str}{scope:Scope}{cl:List (Str×Addr)}{fp:List Addr}{n:Nat}{caps:List Nat}{tg iter elt:Expr}{pos:Pos}{wi:TI}{g:TG}{te:TE}
def Cap(X:Cx)(scope:Scope)(cl:List (Str×Addr))(i:Nat)(y:Str):Prop:=X.N[i]?=some y/\X.env.scope.names.lookup y=some .cell/\(relabel scope X.env).names.lookup y=some .cell/\∃c,cl.lookup y=some c
theorem Inv.comp{h1:Heap}{t':Nat}(I:Inv X pins σ H s)(hc:X.calm=true)(f2:∀b∈fp,sN X pins H b)(fo:∀b∈fp,b<s.heap.objs.size)(hkind:scope.kind=.function)(hcl:rF X.env cl)
  (hhas:((relabel scope X.env).names.all fun p=>!(p.2 == .cell||p.2 == .free)||(cl.lookup p.1).isSome)=true)
  (hcap:Paired (Cap X scope cl) caps capN) (tn:List Str) (hN:Nc=tn++capN) (hn:tn.length=n)
  (hns:h1.Ns s.heap.objs.size (fun _=>none)) (hk:∀b o,s.heap.get? b=some o->h1.get? b=some o) :
  Inv (cxC X Nc scope cl s H fp) [] (stC n caps σ) H { s with heap:=h1,toks:=t' }:=by
 have lkc:∀y c,cl.lookup y=some c->X.env.cells.lookup y=some c:=fun y c e=>hcl.look e
 refine⟨⟨I.ok.mod,?_,I.ok.glob,I.ok.blt,Nat.le_refl _,fun x y c a b=>I.ok.inj x y c (lkc _ _ a) (lkc _ _ b),fun x hx=>?_,fun x c z=>(nomatch z),I.ok.hd,I.ok.frames,.inl rfl,fun b hb=>⟨Nat.ne_of_lt (fo b hb),fun x c e=>(f2 b hb).2.2.2.2.1 x c (lkc _ _ e)⟩,I.bs,Nat.le_trans I.ok.bsz I.sz,
  fun b o e hb=>?_,fun b hb z=>?_,I.stack,I.stkFree⟩,rfl,I.bare,Un.kept hk,⟨_,hns,fun i y v h1' h2 h3=>?_⟩,fun y c e=>?_,I.hok.fresh (Nat.le_refl _),fun y c e=>I.freeC y c (lkc _ _ e),fun p hp=>(by simp at hp),I.hok.kept hk,?_⟩
 ·exact hkind
 ·have hx':(relabel scope X.env).names.lookup x=some .cell\/(relabel scope X.env).names.lookup x=some .free:=hx
  have mem:∀{k},(relabel scope X.env).names.lookup x=some k->(x,k)∈(relabel scope X.env).names:=fun{k} e=>by
   generalize (relabel scope X.env).names=L at e
   induction L with
   |nil=>simp at e
   |cons p r ih=>
    obtain⟨a,b⟩:=p
    rw[List.lookup_cons]at e
    by_cases q:(x == a)=true
    ·rw[q]at e;cases e
     have:x=a:=by simpa using q
     subst this;exact List.mem_cons_self
    ·rw[show(x == a)=false by simpa using q]at e
     exact List.mem_cons_of_mem _ (ih e)
  have fin:∀{k},(k=NameKind.cell\/k=.free)->(relabel scope X.env).names.lookup x=some k->∃c,cl.lookup x=some c:=fun{k} hk' e=>by
   have:=List.all_eq_true.mp hhas _ (mem e)
   dsimp only at this
   have q:(cl.lookup x).isSome=true:=by
    rcases hk' with z|z<;>subst z<;>simpa using this
   exact Option.isSome_iff_exists.mp q
  rcases hx' with e|e
  ·exact fin (.inl rfl) e
  ·exact fin (.inr rfl) e
 ·rcases(f2 b hb).2.2.2.1 with z|z
  ·exact I.ok.noex b o e z
  ·exact absurd (Nat.lt_of_lt_of_le (Heap.lt_size e) I.ok.bsz) (Nat.not_lt.mpr z)
 ·rcases List.mem_cons.mp (I.stkSub b z)with q|q
  ·exact(f2 b hb).2.1 q
  ·exact(f2 b hb).2.2.1 q
 ·obtain⟨m,hm,hl⟩:=I.loc
  have h2':(stC n caps σ)[i]?=some (some v):=h2
  have h1'':Nc[i]?=some y:=h1'
  unfold stC at h2'
  by_cases hi:i<n
  ·rw[List.getElem?_append_left (by simpa using hi),List.getElem?_replicate,if_pos hi]at h2'
   cases h2'
  ·rw[List.getElem?_append_right (by simp;omega),List.length_replicate,List.getElem?_map]at h2'
   rw[hN,List.getElem?_append_right (by omega),hn]at h1''
   have key:∀(j:Nat) {caps:List Nat} {capN:List Str},Paired (Cap X scope cl) caps capN->capN[j]?=some y->(Option.map (fun i=>(σ[i]?).getD none) caps[j]?)=some (some v)->∃k,Cap X scope cl k y/\σ[k]?=some (some v):=by
    intro j
    induction j with
    |zero=>
     intro caps capN P e1 e2
     cases P with
     |nil=>simp at e1
     |@cons a b l r p t=>
      simp at e1 e2
      subst e1
      cases q:σ[a]? with
      |none=>rw[q]at e2;simp at e2
      |some w'=>rw[q]at e2;simp at e2;subst e2;exact⟨a,p,q⟩
    |succ j ih=>
     intro caps capN P e1 e2
     cases P with
     |nil=>simp at e1
     |cons p t=>exact ih t (by simpa using e1) (by simpa using e2)
   obtain⟨k,⟨c1,c2,c3,c,c4⟩,e⟩:=key _ hcap h1'' h2'
   obtain⟨u,r,lk⟩:=hl k y v c1 e (.inr (.inl c2))
   refine⟨u,r,.inr ⟨.inl c3,c,c4,?_⟩⟩
   rcases lk with⟨z,_⟩|⟨_,c',e',o,ho,hd⟩
   ·have z':X.env.scope.names.lookup y=some .local:=z
    rw[c2]at z';cases z'
   ·rw[lkc _ _ c4]at e'
    cases e'
    exact⟨o,hk _ _ ho,hd⟩
 ·obtain⟨v,o,ho,hd⟩:=I.cell y c (lkc _ _ e)
  exact⟨v,o,hk _ _ ho,hd⟩
 ·show(stC n caps σ).length=Nc.length
  have pl:caps.length=capN.length:=Paired.length hcap
  unfold stC
  rw[List.length_append,List.length_replicate,List.length_map,hN,List.length_append,hn,pl]
end
theorem yl{X:Cx}{Nc capN tn:List Str}{scope:Scope}{cl:List (Str×Addr)}{n:Nat}{caps:List Nat}{tg iter elt:Expr}{pos:Pos}{wi:TI}{g:TG}{te:TE}
  (hc:X.calm=true) (hi:WI X tg iter wi) (hg:∀s3 H3 fp,WG (cxC X Nc scope cl s3 H3 fp) tg g) (he:∀s3 H3 fp,WE (cxC X Nc scope cl s3 H3 fp) elt te)
  (hclos:closureFor scope X.env=pure cl) (hkind:scope.kind=.function) (hnl:∀x∈scope.names,x.2=.local->scope.names.lookup x.1=some .local) (hcell:∀x∈scope.names,x.2≠.cell)
  (hcl:rF X.env cl) (hhas:((relabel scope X.env).names.all fun p=>!(p.2 == .cell||p.2 == .free)||(cl.lookup p.1).isSome)=true)
  (hcap:Paired (Cap X scope cl) caps capN) (hN:Nc=tn++capN) (hn:tn.length=n)
  {use:Option (Value->Sem Unit)} {pins:List (Addr×Obj)} {σ:L2.St} {H:Hp} {s:Shared} {Q:VK} {Qf:Value->Shared->Prop} (I:Inv X pins σ H s) (h:Af wi g te n caps σ H Q)
  (hend:∀(D C:Addr) (s6:Shared) (H5:Hp) (m:Str->Option Value),Inv X pins σ H5 s6->s6.heap.Ns C m->H5 C=none->C≠X.env.locals->X.s₀.heap.objs.size<=C->(∀x c,X.env.cells.lookup x=some c->c≠C)->(∀p∈X.pn++pins,p.1≠C)->Q (.ref D) H5->compPost (model X.prog X.w) X.A X.xe use Qf (.ref D) C (.ok .next) s6)
  (hs:∀x,foldedSetIterable iter X.env x=pure x) :
  wpAny (model X.prog X.w) X.A (comprehension (.ListComp elt [⟨tg,iter,[],0⟩] scope pos) scope X.env (firstIterPos [⟨tg,iter,[],0⟩] pos) (newList []) (firstAsync [⟨tg,iter,[],0⟩]) (firstIter [⟨tg,iter,[],0⟩] X.env) use) Qf X.xe s:=by
 refine wpAny_comprehension_free (use:=use) (g:=⟨tg,iter,[],0⟩) (gs:=[]) rfl hs hclos hkind hnl (thn (hi.h pins s σ H _ I h) fun v s1 h1=>thn h1 fun itv s2 h2=>?_)
 obtain⟨it,fp,tnn,J,H2,rfl,I2,T,st2,f2,hW⟩:=h2
 have hD:=I2.fresh
 obtain⟨W,⟨m0,w0⟩,turn⟩:=hW _ hD
 refine wpAny_newObj_type (wpAny_newFunctionEnv hcell (by intro y hy;simp at hy) (fun h₁ hns₁ hsb₁=>?_) hkind)
 dsimp only at hns₁ hsb₁ ⊢
 have I3:Inv X pins σ (upd H2 s2.heap.objs.size (.lst [])) { s2 with heap:=s2.heap.push { cls:=.type "list",dict:=none,data:=.seq ([]:List Value).toArray },toks:=s2.toks }:=I2.lnew (its:=[]) .nil (Nat.zero_le _)
 generalize hs3:({ s2 with heap:=s2.heap.push { cls:=.type "list",dict:=none,data:=.seq ([]:List Value).toArray },toks:=s2.toks }:Shared)=s3 at I3
 have es3:s3.heap=s2.heap.push { cls:=.type "list",dict:=none,data:=.seq ([]:List Value).toArray }:=by rw[<-hs3]
 generalize hDD:s2.heap.objs.size=D at *
 have kept:∀b o,s3.heap.get? b=some o->h₁.get? b=some o:=fun b o e=>by
  have lt:=Heap.lt_size e
  rw[es3]at lt e
  exact hsb₁.extBut b o (Nat.ne_of_lt lt) (Heap.get?_push_of_some _ e)
 have old:∀b o,s2.heap.get? b=some o->s3.heap.get? b=some o:=fun b o e=>by rw[es3];exact Heap.get?_push_of_some _ e
 have ltD:∀b∈fp,b<D:=fun b hb=>by
  obtain⟨o,e,_⟩:=T.obj 0 _ st2 b hb
  rw[<-hDD];exact Heap.lt_size e
 have fo:∀b∈fp,b<s3.heap.objs.size:=fun b hb=>by
  obtain⟨o,e,_⟩:=T.obj 0 _ st2 b hb
  exact Heap.lt_size (old _ _ e)
 have f3:∀b∈fp,sN X pins (upd H2 D (.lst [])) b:=fun b hb=>by
  refine⟨?_,(f2 b hb).2⟩
  rw[aV (Nat.ne_of_lt (ltD b hb))]
  exact(f2 b hb).1
 rw[<-es3]at hns₁ hsb₁ ⊢
 have Ic:=fun t'=>Inv.comp (h1:=h₁) (t':=t') (Nc:=Nc) (n:=n) I3 hc f3 fo hkind hcl hhas hcap tn hN hn hns₁ kept
 have stat:∀{H':Hp},(∀b∈fp,H' b=none)->∀b∈fp,sN (cxC X Nc scope cl s3 (upd H2 D (.lst [])) fp) [] H' b:=fun hn' b hb=>by
  refine⟨hn' b hb,Nat.ne_of_lt (fo b hb),fun z=>?_,.inl hb,fun x c e=>(f2 b hb).2.2.2.2.1 x c (hcl.look e),fun p hp=>(by simp at hp)⟩
  rcases List.mem_cons.mp (I3.stkSub b z)with q|q
  ·exact(f2 b hb).2.1 q
  ·exact(f2 b hb).2.2.1 q
 have loop:∀s4:Shared,(∃t',s4={ s3 with heap:=h₁,toks:=t' })->codeAny (model X.prog X.w) X.A (.compLoop (.ListComp elt [⟨tg,iter,[],0⟩] scope pos) 0 (.ref it) (.ref D) (compEnvC scope cl s3.heap.objs.size X.env))
   (compPost (model X.prog X.w) X.A X.xe use Qf (.ref D) s3.heap.objs.size) s4:=by
  rintro s4 ⟨t',rfl⟩
  refine ox (fun n' s'=>∃i σ' H',Inv (cxC X Nc scope cl s3 (upd H2 D (.lst [])) fp) [] σ' H' s'/\tnn i s'.heap/\(∀b∈fp,H' b=none)/\W i n' σ' H') ?_ m0
   ⟨0,_,_,Ic t',T.keep 0 _ _ st2 fun b hb o e=>kept _ _ (old _ _ e),fun b hb=>(f3 b hb).1,w0⟩
  rintro n' s5 ⟨i,σ5,H5,I5,st5,fr5,w5⟩
  rcases turn i n' σ5 H5 w5 with⟨stop,qn⟩|⟨go,N,hN',step⟩
  ·refine thn (T.done (cxC X Nc scope cl s3 (upd H2 D (.lst [])) fp) rfl rfl rfl hc i [] s5 σ5 H5 (fun _ _=>False) I5 (stat fr5) st5 stop) fun r s6 ⟨hr,I6⟩=>?_
   subst hr
   obtain⟨m,hm,_⟩:=I6.loc
   have I7:Inv X pins σ H5 s6:=Inv.call' (ch:=fp) I3 I6.os I6.base I6.hok I6.bare fun b hb=>⟨(f2 b hb).2.2.2.1,(f2 b hb).2.1,(f2 b hb).2.2.2.2.1,(f2 b hb).2.2.2.2.2⟩
   exact hend D _ s6 H5 m I7 hm I6.free (Ne.symm (Nat.ne_of_lt I3.lt)) I3.sz (fun x c e=>by
     obtain⟨v',o,ho,_⟩:=I3.cell x c e
     exact Nat.ne_of_lt (Heap.lt_size ho)) (fun p hp=>Nat.ne_of_lt (Heap.lt_size (I3.pin p hp).1)) qn
  ·refine thn (T.item (cxC X Nc scope cl s3 (upd H2 D (.lst [])) fp) rfl rfl rfl hc i [] s5 σ5 H5 (fun _ _=>False) I5 (stat fr5) st5 go) fun r s6 ⟨u,hr,h6⟩=>?_
   subst hr
   refine thn h6 fun _ s7 hz=>?_
   obtain⟨x,H7,I7,r7,y7,st7,fr7⟩:=hz
   have I7':=I7.pinned (stat fr7) (T.obj _ _ st7)
   refine thn ((hg s3 (upd H2 D (.lst [])) fp).h _ s7 σ5 H7 x u _ I7' r7 (step x H7 y7)) fun _ s8 hz=>?_
   obtain⟨σ8,H8,I8,q8⟩:=hz
   refine thn ((he s3 (upd H2 D (.lst [])) fp).h _ s8 σ8 H8 _ I8 q8) fun v9 s9 hz=>?_
   obtain⟨x9,H9,I9,r9,ys,hy,hlt,q9⟩:=hz
   refine thn (jU (X:=cxC X Nc scope cl s3 (upd H2 D (.lst [])) fp) _ s9 σ8 H9 (.ref D) [x9] (.ref D) [v9] (fun _ H'=>N σ8 H') I9 rfl (.cons r9 .nil) ⟨D,ys,x9,rfl,rfl,hy,hlt,q9⟩) fun _ s10 hz=>?_
   obtain⟨_,H10,I10,_,q10⟩:=hz
   obtain⟨m',hm,w10⟩:=hN' σ8 H10 q10
   refine⟨m',hm,i+1,σ8,H10,I10.unpinned,T.keep _ _ _ st7 fun b hb o e=>(I10.pin (b,o) (List.mem_append_right _ (List.mem_append_right _ (dS hb e)))).1,fun b hb=>?_,w10⟩
   obtain⟨o,e,d⟩:=T.obj _ _ st7 b hb
   exact(I10.pin (b,o) (List.mem_append_right _ (List.mem_append_right _ (dS hb e)))).2.1
 have e4:∀t',({ s2 with heap:=h₁,toks:=t' }:Shared)={ s3 with heap:=h₁,toks:=t' }:=fun t'=>by rw[<-hs3]
 refine codeAny_compStart_list (loop _ ⟨_,e4 _⟩) (T.self _ 0 _ _ _ (T.keep 0 _ _ st2 fun b hb o e=>kept _ _ (old _ _ e)) (loop _ ⟨_,e4 _⟩))
theorem wz{X:Cx}{Nc capN tn:List Str}{scope:Scope}{cl:List (Str×Addr)}{n:Nat}{caps:List Nat}{tg iter elt:Expr}{pos:Pos}{wi:TI}{g:TG}{te:TE}
  (hc:X.calm=true) (hi:WI X tg iter wi) (hg:∀s3 H3 fp,WG (cxC X Nc scope cl s3 H3 fp) tg g) (he:∀s3 H3 fp,WE (cxC X Nc scope cl s3 H3 fp) elt te)
  (hclos:closureFor scope X.env=pure cl) (hkind:scope.kind=.function) (hnl:∀x∈scope.names,x.2=.local->scope.names.lookup x.1=some .local) (hcell:∀x∈scope.names,x.2≠.cell)
  (hcl:rF X.env cl) (hhas:((relabel scope X.env).names.all fun p=>!(p.2 == .cell||p.2 == .free)||(cl.lookup p.1).isSome)=true)
  (hcap:Paired (Cap X scope cl) caps capN) (hN:Nc=tn++capN) (hn:tn.length=n)
  (hs:∀x,foldedSetIterable iter X.env x=pure x:=by intro _;rfl) :
  WE X (.ListComp elt [⟨tg,iter,[],0⟩] scope pos) (Af wi g te n caps):=by
 constructor
 intro pins s σ H Q I h
 rw[eval_ListComp]
 refine yl hc hi hg he hclos hkind hnl hcell hcl hhas hcap hN hn I h (fun D C s6 H5 m I7 hm fr nl sz cn pn qn=>⟨m,hm,fun h' hs'=>?_⟩) hs
 exact⟨.ref D,H5,I7.turned (t':=s6.toks) (it:=C) (fun b o hb e=>hs'.extBut b o hb e) fr nl (.inr sz) cn pn,rfl,qn⟩
open PySem.AutoSeq1 (wpAny_loadPart')
theorem yn{prog:Program}{w:World}{A:Around}{E:Value->Shared->Prop}{s:Shared}{t b:Addr}{vs ws:List Value}{Q:Value->Shared->Prop}(ht:IsTup s.heap t vs.toArray)(hb:IsTup s.heap b ws.toArray)(hv:vs=[])
  (h1:Q (.ref b) s):wpAny (model prog w) A (binaryOp .Add (.ref t) (.ref b)) Q E s:=by
 obtain⟨⟨cls,dd,data,sl⟩,ho,hc,n,hd⟩:=id ht
 obtain⟨⟨cls2,dd2,data2,sl2⟩,ho2,hc2,n2,hd2⟩:=id hb
 simp only at hc hd hc2 hd2
 subst hc hd hc2 hd2
 exact concat_meets ⟨_,ho,rfl⟩ ⟨_,ho2,rfl⟩ noFill_tuple_add seq_tuple_add PySem.F.slot_tuple_add PySem.F.entry_tuple_add (PySem.F.args_tuple_add_2 _ _)
   (tuple_addW0 t b vs.toArray ws.toArray n n2 dd dd2 sl sl2 (by simp[hv])) ⟨ho,ho2,h1⟩
structure Ik(H:Hp)(p xs:Addr):Prop where
 ex:∃(ns:List Int) (at' cur:Int),H p=some (.lst [.ref xs,.int at',.int cur])/\H xs=some (.lst (ns.map V.int))/\xs≠p/\0<=at'/\0<=cur
def yN(K:PySem.W.Frag):Sp:=fun vs H Q _=>∃(a:Addr) (ns:List Int),vs=[.ref a]/\SqL K H a (ns.map V.int)/\∀(q xs:Addr) (H':Hp),pN H H'->Ik H' q xs->H q=none->Q (.ref q) H'
theorem uI{m:Int}(h0:0<=m)(h:m<2^60):m.natAbs.log2<9000:=by
 have:=rY (n:=m.natAbs) (by omega)
 omega
end OG
namespace OP
open PySem PySem.Spec PyProof.Rows L2 OG
inductive U where
 |non|bl (b:Bool)|int (i:Int)|str (x:Str)|tup (us:List U)|ref (l:Nat)|kl (ns:List Int)
structure Cl where
 C:Addr
 ns:List Str
inductive O where
 |lst (us:List U)|dic (kvs:List (Key×U))|ins (c:Cl) (fs:List (Option U))|fdc (ep:Nat) (kvs:List (Key×U))|dit (kvs:List (List Key×U))|fdt (ep:Nat) (kvs:List (List Key×U))
abbrev Sto:=List O
abbrev Rho:=List (Option U)
def KL(K:PySem.W.Frag)(H:Hp)(a:Addr)(ns:List Int):Prop:=
 (∃o,H a=some (.frz o (.lst (ns.map V.int))))\/
  ∃(o:Obj) (its:Array Value) (n:Nat),K.lookup a=some o/\o.cls=.type "list"/\o.dict=none/\o.data=.seq its n/\its.size<=sizeLine/\bN (ns.map V.int) its.toList
theorem KL.sq{K:PySem.W.Frag}{H:Hp}{a:Addr}{ns:List Int}(h:KL K H a ns):SqL K H a (ns.map V.int):=by
 rcases h with h|h
 ·exact .inl (.inr h)
 ·exact .inr h
mutual
def Is(K:PySem.W.Frag)(m:List Addr)(H:Hp):V->U->Prop
 |v,.non=>v=.non
 |v,.bl b=>v=.bl b
 |v,.int i=>v=.int i
 |v,.str x=>v=.str x
 |v,.tup us=>∃a xs,v=.ref a/\SqT K H a xs/\IsL K m H xs us
 |v,.ref l=>∃a,m[l]?=some a/\v=.ref a
 |v,.kl ns=>∃a,v=.ref a/\KL K H a ns
def IsL(K:PySem.W.Frag)(m:List Addr)(H:Hp):List V->List U->Prop
 |xs,[]=>xs=[]
 |xs,u::us=>∃x r,xs=x::r/\Is K m H x u/\IsL K m H r us
end
structure yx(K:PySem.W.Frag)(H H':Hp):Prop where
 t:∀a xs,SqT K H a xs->SqT K H' a xs
 l:∀a ns,KL K H a ns->KL K H' a ns
structure Ext(K:PySem.W.Frag)(m:List Addr)(H:Hp)(m':List Addr)(H':Hp):Prop where
 pre:∃t,m'=m++t
 keep:yx K H H'
section
variable{K:PySem.W.Frag}{m m' m'':List Addr}{H H' H'':Hp}{v x:V}{u:U}{xs ys:List V}{us ws:List U}{a q:Addr}{o:HO}
theorem Ext.refl:Ext K m H m H:=⟨⟨[],by simp⟩,fun _ _ h=>h,fun _ _ h=>h⟩
theorem Ext.trans(a:Ext K m H m' H')(b:Ext K m' H' m'' H''):Ext K m H m'' H'':=by
 obtain⟨t,rfl⟩:=a.pre
 obtain⟨t',rfl⟩:=b.pre
 exact⟨⟨t++t',by simp⟩,fun c ys h=>b.keep.t c ys (a.keep.t c ys h),fun c ys h=>b.keep.l c ys (a.keep.l c ys h)⟩
theorem Ext.of(k:yx K H H'):Ext K m H m H':=⟨⟨[],by simp⟩,k⟩
theorem Ext.new(k:yx K H H'):Ext K m H (m++[q]) H':=⟨⟨[q],rfl⟩,k⟩
theorem Ext.get{l:Nat}(e:Ext K m H m' H')(h:m[l]?=some a):m'[l]?=some a:=by
 obtain⟨t,rfl⟩:=e.pre
 rw[List.getElem?_append_left (List.getElem?_eq_some_iff.mp h).1]
 exact h
mutual
theorem Is.mono(e:Ext K m H m' H'):∀{v:V} {u:U},Is K m H v u->Is K m' H' v u
 |v,.non,h=>by unfold Is at h ⊢;exact h
 |v,.bl b,h=>by unfold Is at h ⊢;exact h
 |v,.int i,h=>by unfold Is at h ⊢;exact h
 |v,.str x,h=>by unfold Is at h ⊢;exact h
 |v,.tup us,h=>by
  unfold Is at h ⊢
  obtain⟨a,xs,e1,k,l⟩:=h
  exact⟨a,xs,e1,e.keep.t _ _ k,IsL.mono e l⟩
 |v,.ref l,h=>by
  unfold Is at h ⊢
  obtain⟨a,k,e1⟩:=h
  exact⟨a,e.get k,e1⟩
 |v,.kl ns,h=>by
  unfold Is at h ⊢
  obtain⟨a,e1,k⟩:=h
  exact⟨a,e1,e.keep.l _ _ k⟩
theorem IsL.mono(e:Ext K m H m' H'):∀{xs:List V} {us:List U},IsL K m H xs us->IsL K m' H' xs us
 |xs,[],h=>by unfold IsL at h ⊢;exact h
 |xs,u::us,h=>by
  unfold IsL at h ⊢
  obtain⟨x,r,e1,k,l⟩:=h
  exact⟨x,r,e1,Is.mono e k,IsL.mono e l⟩
end
theorem Is.int_{i:Int}:Is K m H (.int i) (.int i):=by unfold Is;rfl
theorem Is.bl_{b:Bool}:Is K m H (.bl b) (.bl b):=by unfold Is;rfl
theorem Is.non_:Is K m H .non .non:=by unfold Is;rfl
theorem Is.str_{x:Str}:Is K m H (.str x) (.str x):=by unfold Is;rfl
theorem Is.of_int{i:Int}(h:Is K m H v (.int i)):v=.int i:=by unfold Is at h;exact h
theorem Is.of_bl{b:Bool}(h:Is K m H v (.bl b)):v=.bl b:=by unfold Is at h;exact h
theorem Is.of_non(h:Is K m H v .non):v=.non:=by unfold Is at h;exact h
theorem Is.of_str{x:Str}(h:Is K m H v (.str x)):v=.str x:=by unfold Is at h;exact h
theorem Is.of_tup(h:Is K m H v (.tup us)):∃a xs,v=.ref a/\SqT K H a xs/\IsL K m H xs us:=by unfold Is at h;exact h
theorem Is.of_ref{l:Nat}(h:Is K m H v (.ref l)):∃a,m[l]?=some a/\v=.ref a:=by unfold Is at h;exact h
theorem Is.of_kl{ns:List Int}(h:Is K m H v (.kl ns)):∃a,v=.ref a/\KL K H a ns:=by unfold Is at h;exact h
theorem Is.tup_(e:SqT K H a xs)(h:IsL K m H xs us):Is K m H (.ref a) (.tup us):=by unfold Is;exact⟨a,xs,rfl,e,h⟩
theorem Is.ref_{l:Nat}(e:m[l]?=some a):Is K m H (.ref a) (.ref l):=by unfold Is;exact⟨a,e,rfl⟩
theorem IsL.nil_:IsL K m H [] []:=by unfold IsL;rfl
theorem IsL.cons_(h:Is K m H x u)(t:IsL K m H xs us):IsL K m H (x::xs) (u::us):=by unfold IsL;exact⟨x,xs,rfl,h,t⟩
theorem IsL.of_nil(h:IsL K m H xs []):xs=[]:=by unfold IsL at h;exact h
theorem IsL.of_cons(h:IsL K m H xs (u::us)):∃x r,xs=x::r/\Is K m H x u/\IsL K m H r us:=by unfold IsL at h;exact h
theorem IsL.length:∀{xs:List V} {us:List U},IsL K m H xs us->xs.length=us.length
 |xs,[],h=>by rw[h.of_nil];rfl
 |xs,d::ds,h=>by
  obtain⟨x,r,rfl,_,t⟩:=h.of_cons
  rw[List.length_cons,List.length_cons,IsL.length t]
theorem IsL.getD:∀{xs:List V} {us:List U} {i:Nat} {u:U},IsL K m H xs us->us[i]?=some u->∃x,xs[i]?=some x/\Is K m H x u
 |xs,[],i,x,h,e=>by simp at e
 |xs,d::ds,0,x,h,e=>by
  obtain⟨y,r,rfl,k,t⟩:=h.of_cons
  simp at e;subst e;exact⟨y,by simp,k⟩
 |xs,d::ds,i+1,x,h,e=>by
  obtain⟨y,r,rfl,k,t⟩:=h.of_cons
  obtain⟨d',e1,e2⟩:=IsL.getD (i:=i) (u:=x) t (by simpa using e)
  exact⟨d',by simpa using e1,e2⟩
theorem IsL.append:∀{xs:List V} {us:List U},IsL K m H xs us->IsL K m H ys ws->IsL K m H (xs++ys) (us++ws)
 |xs,[],h,k=>by rw[h.of_nil];exact k
 |xs,d::ds,h,k=>by
  obtain⟨y,r,rfl,z,t⟩:=h.of_cons
  exact .cons_ z (IsL.append t k)
theorem IsL.set:∀{xs:List V} {us:List U} {j:Nat},IsL K m H xs us->Is K m H x u->IsL K m H (xs.set j x) (us.set j u)
 |xs,[],j,h,k=>by rw[h.of_nil];exact .nil_
 |xs,d::ds,0,h,k=>by
  obtain⟨y,r,rfl,z,t⟩:=h.of_cons
  exact .cons_ k t
 |xs,d::ds,j+1,h,k=>by
  obtain⟨y,r,rfl,z,t⟩:=h.of_cons
  exact .cons_ z (IsL.set t k)
theorem IsL.drop:∀{xs:List V} {us:List U} (n:Nat),IsL K m H xs us->IsL K m H (xs.drop n) (us.drop n)
 |xs,us,0,h=>h
 |xs,[],n+1,h=>by rw[h.of_nil];exact .nil_
 |xs,d::ds,n+1,h=>by
  obtain⟨y,r,rfl,z,t⟩:=h.of_cons
  exact IsL.drop n t
theorem IsL.take:∀{xs:List V} {us:List U} (n:Nat),IsL K m H xs us->IsL K m H (xs.take n) (us.take n)
 |xs,us,0,h=>.nil_
 |xs,[],n+1,h=>by rw[h.of_nil];exact .nil_
 |xs,d::ds,n+1,h=>by
  obtain⟨y,r,rfl,z,t⟩:=h.of_cons
  exact .cons_ z (IsL.take n t)
theorem IsL.erase:∀{xs:List V} {us:List U} (n:Nat),IsL K m H xs us->IsL K m H (xs.eraseIdx n) (us.eraseIdx n)
 |xs,[],n,h=>by rw[h.of_nil];exact .nil_
 |xs,d::ds,0,h=>by
  obtain⟨y,r,rfl,z,t⟩:=h.of_cons
  exact t
 |xs,d::ds,n+1,h=>by
  obtain⟨y,r,rfl,z,t⟩:=h.of_cons
  exact .cons_ z (IsL.erase n t)
theorem qS(h:H a=some o)(nt:∀xs,o≠.tup xs)(nf:∀ob xs,o≠.frz ob (.tup xs))(nl:∀ob xs,o≠.frz ob (.lst xs))(o':HO):yx K H (upd H a o'):=by
 refine⟨fun b xs q=>?_,fun b ns q=>?_⟩
 ·rcases q with(q|⟨ob,q⟩)|q
  ·have n:b≠a:=fun z=>by subst z;rw[q]at h;cases h;exact nt _ rfl
   exact .inl (.inl (by rw[aV n];exact q))
  ·have n:b≠a:=fun z=>by subst z;rw[q]at h;cases h;exact nf _ _ rfl
   exact .inl (.inr ⟨ob,by rw[aV n];exact q⟩)
  ·exact .inr q
 ·rcases q with⟨ob,q⟩|q
  ·have n:b≠a:=fun z=>by subst z;rw[q]at h;cases h;exact nl _ _ rfl
   exact .inl ⟨ob,by rw[aV n];exact q⟩
  ·exact .inr q
theorem eN(s:pN H H'):yx K H H':=by
 refine⟨fun b xs q=>?_,fun b ns q=>?_⟩
 ·rcases q with(q|⟨ob,q⟩)|q
  ·exact .inl (.inl (s _ _ q))
  ·exact .inl (.inr ⟨ob,s _ _ q⟩)
  ·exact .inr q
 ·rcases q with⟨ob,q⟩|q
  ·exact .inl ⟨ob,s _ _ q⟩
  ·exact .inr q
theorem bH(h:H q=none)(o':HO):yx K H (upd H q o'):=eN (cQ h o')
end
def IsP{κ:Type}(K:PySem.W.Frag)(m:List Addr)(H:Hp)(kvs:List (κ×V))(kus:List (κ×U)):Prop:=kvs.map (·.1)=kus.map (·.1)/\IsL K m H (kvs.map (·.2)) (kus.map (·.2))
def Rf(K:PySem.W.Frag)(m:List Addr)(H:Hp):Option V->Option U->Prop
 |some v,some u=>Is K m H v u
 |none,none=>True
 |_,_=>False
structure InF(K:PySem.W.Frag)(m:List Addr)(H:Hp)(c:Cl)(fs:List (Str×V))(fus:List (Option U)):Prop where
 nd:c.ns.Nodup
 few:c.ns.length<1000
 knd:(fs.map (·.1)).Nodup
 sub:∀x∈fs.map (·.1),x∈c.ns
 len:fus.length=c.ns.length
 at_:∀(i:Nat) (x:Str),c.ns[i]?=some x->Rf K m H (fs.lookup x) ((fus[i]?).join)
theorem Rf.mono{K:PySem.W.Frag}{m m':List Addr}{H H':Hp}{v:Option V}{u:Option U}(e:Ext K m H m' H')(h:Rf K m H v u):Rf K m' H' v u:=by
 cases v with
 |none=>cases u with
  |none=>trivial
  |some u=>exact h.elim
 |some v=>cases u with
  |none=>exact h.elim
  |some u=>exact Is.mono e h
theorem InF.mono{K:PySem.W.Frag}{m m':List Addr}{H H':Hp}{c:Cl}{fs:List (Str×V)}{fus:List (Option U)}(e:Ext K m H m' H')(h:InF K m H c fs fus):InF K m' H' c fs fus:=⟨h.nd,h.few,h.knd,h.sub,h.len,fun i x q=>(h.at_ i x q).mono e⟩
def Ob(K:PySem.W.Frag)(m:List Addr)(H:Hp)(a:Addr):O->Prop
 |.lst us=>∃xs,H a=some (.lst xs)/\IsL K m H xs us
 |.dic kus=>∃kvs,H a=some (.dK kvs)/\IsP K m H kvs kus
 |.ins c fus=>∃dx fs,H a=some (.ins c.C dx fs)/\InF K m H c fs fus
 |.fdc ep kus=>∃ob es kvs,H a=some (.frz ob (.dK kvs))/\ob.data=.dict es ep/\IsP K m H kvs kus
 |.dit kus=>∃kvs,H a=some (.dT kvs)/\IsP K m H kvs kus
 |.fdt ep kus=>∃ob es kvs,H a=some (.frz ob (.dT kvs))/\ob.data=.dict es ep/\IsP K m H kvs kus
structure Sr(K:PySem.W.Frag)(m:List Addr)(S:Sto)(H:Hp):Prop where
 len:m.length=S.length
 nd:m.Nodup
 ob:∀(l:Nat) (a:Addr) (o:O),m[l]?=some a->S[l]?=some o->Ob K m H a o
structure Lr(K:PySem.W.Frag)(m:List Addr)(H:Hp)(ρ:Rho)(σ:L2.St):Prop where
 len:ρ.length=σ.length
 at_:∀(i:Nat) (u:U),ρ[i]?=some (some u)->∃v,σ[i]?=some (some v)/\Is K m H v u
section
variable{κ:Type}{K:PySem.W.Frag}{m m':List Addr}{H H':Hp}{S S':Sto}{ρ:Rho}{σ:L2.St}{a q:Addr}{l:Nat}{o:O}{ho:HO}{us:List U}{v:V}{u:U}{kvs:List (κ×V)}{kus:List (κ×U)}
theorem IsP.mono(e:Ext K m H m' H')(h:IsP K m H kvs kus):IsP K m' H' kvs kus:=⟨h.1,h.2.mono e⟩
theorem IsP.length(h:IsP K m H kvs kus):kvs.length=kus.length:=by have:=h.2.length;simpa using this
theorem IsP.nil_:IsP (κ:=κ) K m H [] []:=⟨rfl,.nil_⟩
theorem IsP.cons_{k:κ}(h:Is K m H v u)(t:IsP K m H kvs kus):IsP K m H ((k,v)::kvs) ((k,u)::kus):=⟨by simp[t.1],.cons_ h t.2⟩
theorem IsP.ind{P:List (κ×V)->List (κ×U)->Prop}(h0:P [] [])(h1:∀k v u kvs kus,Is K m H v u->IsP K m H kvs kus->P kvs kus->P ((k,v)::kvs) ((k,u)::kus)):∀{kvs:List (κ×V)} {kus:List (κ×U)},IsP K m H kvs kus->P kvs kus
 |[],[],_=>h0
 |[],p::r,h=>by have:=h.length;simp at this
 |p::r,[],h=>by have:=h.length;simp at this
 |(k,v)::r,(k',u)::r',h=>by
  obtain⟨e,i⟩:=h
  simp only[List.map_cons,List.cons.injEq]at e
  obtain⟨e1,e2⟩:=e
  subst e1
  obtain⟨x,t,e3,iu,it⟩:=i.of_cons
  cases e3
  exact h1 k v u r r' iu ⟨e2,it⟩ (IsP.ind h0 h1 (⟨e2,it⟩:IsP K m H r r'))
theorem Ob.mono(e:Ext K m H m' H')(h1:H' a=H a)(h:Ob K m H a o):Ob K m' H' a o:=by
 cases o with
 |lst us=>obtain⟨xs,k,i⟩:=h;exact⟨xs,h1.trans k,i.mono e⟩
 |dic kus=>obtain⟨xs,k,i⟩:=h;exact⟨xs,h1.trans k,i.mono e⟩
 |ins C fus=>obtain⟨dx,fs,k,i⟩:=h;exact⟨dx,fs,h1.trans k,i.mono e⟩
 |fdc ep kus=>obtain⟨ob,es,kvs,k,d,i⟩:=h;exact⟨ob,es,kvs,h1.trans k,d,i.mono e⟩
 |dit kus=>obtain⟨xs,k,i⟩:=h;exact⟨xs,h1.trans k,i.mono e⟩
 |fdt ep kus=>obtain⟨ob,es,kvs,k,d,i⟩:=h;exact⟨ob,es,kvs,h1.trans k,d,i.mono e⟩
theorem Ob.some(h:Ob K m H a o):∃ho,H a=some ho/\(∀xs,ho≠.tup xs)/\(∀ob xs,ho≠.frz ob (.tup xs))/\(∀ob xs,ho≠.frz ob (.lst xs)):=by
 cases o with
 |lst us=>obtain⟨xs,k,i⟩:=h;exact⟨_,k,by simp,by simp,by simp⟩
 |dic kus=>obtain⟨xs,k,i⟩:=h;exact⟨_,k,by simp,by simp,by simp⟩
 |ins C fus=>obtain⟨dx,fs,k,i⟩:=h;exact⟨_,k,by simp,by simp,by simp⟩
 |fdc ep kus=>obtain⟨ob,es,kvs,k,d,i⟩:=h;exact⟨_,k,by simp,by simp,by simp⟩
 |dit kus=>obtain⟨xs,k,i⟩:=h;exact⟨_,k,by simp,by simp,by simp⟩
 |fdt ep kus=>obtain⟨ob,es,kvs,k,d,i⟩:=h;exact⟨_,k,by simp,by simp,by simp⟩
theorem Lr.mono(e:Ext K m H m' H')(h:Lr K m H ρ σ):Lr K m' H' ρ σ:=⟨h.len,fun i u e1=>let ⟨v,e2,e3⟩:=h.at_ i u e1;⟨v,e2,e3.mono e⟩⟩
theorem Lr.set(h:Lr K m H ρ σ)(i:Nat)(hv:Is K m H v u):Lr K m H (ρ.set i (some u)) (σ.set i (some v)):=by
 refine⟨by simp[h.len],fun j w e=>?_⟩
 by_cases c:i=j
 ·subst c
  rw[List.getElem?_set_self' ]at e
  rw[List.getElem?_set_self']
  have hl:=h.len
  cases e1:ρ[i]? with
  |none=>rw[e1]at e;simp at e
  |some z=>
   rw[e1]at e
   simp at e
   subst e
   have:i < σ.length:=by rw[<-hl];exact(List.getElem?_eq_some_iff.mp e1).1
   rw[List.getElem?_eq_getElem this]
   exact⟨v,rfl,hv⟩
 ·rw[List.getElem?_set_ne c]at e
  rw[List.getElem?_set_ne c]
  exact h.at_ j w e
theorem Sr.get(r:Sr K m S H)(h:S[l]?=some o):∃a,m[l]?=some a/\Ob K m H a o:=by
 have hl:l<m.length:=by rw[r.len];exact(List.getElem?_eq_some_iff.mp h).1
 exact⟨_,List.getElem?_eq_getElem hl,r.ob _ _ _ (List.getElem?_eq_getElem hl) h⟩
theorem Sr.at_(r:Sr K m S H)(h:m[l]?=some a):∃o,S[l]?=some o/\Ob K m H a o:=by
 have hl:l<S.length:=by rw[<-r.len];exact(List.getElem?_eq_some_iff.mp h).1
 exact⟨_,List.getElem?_eq_getElem hl,r.ob _ _ _ h (List.getElem?_eq_getElem hl)⟩
theorem Sr.same(r:Sr K m S H)(s:pN H H'):Sr K m S H':=⟨r.len,r.nd,fun l a o h1 h2=>by
 have q:=r.ob l a o h1 h2
 obtain⟨ho,e,_⟩:=q.some
 exact q.mono (.of (eN s)) (by rw[s _ _ e,e])⟩
theorem Sr.new(r:Sr K m S H)(h:H q=none)(n:Ob K (m++[q]) (upd H q ho) q o):Sr K (m++[q]) (S++[o]) (upd H q ho):=by
 have hq:q∉m:=fun z=>by
  obtain⟨l,e⟩:=List.getElem?_of_mem z
  obtain⟨o,_,k⟩:=r.at_ e
  obtain⟨ho,e2,_⟩:=k.some
  rw[h]at e2;cases e2
 refine⟨by simp[r.len],?_,fun l a o' h1 h2=>?_⟩
 ·rw[List.nodup_append]
  exact⟨r.nd,by simp,fun x hx y hy z=>by simp at hy;subst hy;subst z;exact hq hx⟩
 ·by_cases c:l<m.length
  ·rw[List.getElem?_append_left c]at h1
   rw[List.getElem?_append_left (by rw[<-r.len];exact c)]at h2
   have q':=r.ob l a o' h1 h2
   obtain⟨ho',e,_⟩:=q'.some
   exact q'.mono (.new (bH h _)) (by rw[aV (bY e h)])
  ·have e:l=m.length:=by
    have:=(List.getElem?_eq_some_iff.mp h1).1
    simp at this;omega
   subst e
   rw[List.getElem?_append_right (Nat.le_refl _)]at h1
   rw[List.getElem?_append_right (by rw[r.len];exact Nat.le_refl _)]at h2
   simp[r.len]at h1 h2
   subst h1;subst h2
   exact n
theorem Sr.put(r:Sr K m S H)(h:m[l]?=some a)(n:Ob K m (upd H a ho) a o):Sr K m (S.set l o) (upd H a ho):=by
 obtain⟨o0,h0,k0⟩:=r.at_ h
 obtain⟨ho',e,nt,nf,nl⟩:=k0.some
 refine⟨by simp[r.len],r.nd,fun l' a' o' h1 h2=>?_⟩
 by_cases c:l=l'
 ·subst c
  rw[h]at h1;cases h1
  rw[List.getElem?_set_self (List.getElem?_eq_some_iff.mp h0).1]at h2
  cases h2
  exact n
 ·rw[List.getElem?_set_ne c]at h2
  have na:a'≠a:=fun z=>by
   subst z
   obtain⟨p1,e1⟩:=List.getElem?_eq_some_iff.mp h
   obtain⟨p2,e2⟩:=List.getElem?_eq_some_iff.mp h1
   exact c ((List.getElem_inj r.nd).mp (e1.trans e2.symm))
  exact(r.ob l' a' o' h1 h2).mono (.of (qS e nt nf nl _)) (by rw[aV na])
theorem Sr.keep(r:Sr K m S H)(h:m[l]?=some a)(ho:HO):yx K H (upd H a ho):=by
 obtain⟨o0,h0,k0⟩:=r.at_ h
 obtain⟨ho',e,nt,nf,nl⟩:=k0.some
 exact qS e nt nf nl _
end
def iW(K:PySem.W.Frag)(m:List Addr)(H:Hp)(Q:VK)(u:U)(S':Sto):Prop:=∀m' v H',Ext K m H m' H'->Sr K m' S' H'->Is K m' H' v u->Q v H'
abbrev CE:=Rho->Sto->Option (U×Sto)
abbrev CT:=Rho->Sto->Option (Bool×Sto)
abbrev CA:=Rho->Sto->Option (List U×Sto)
inductive Out where
 |nx|rt (u:U)|bk|ct
abbrev CS:=Rho->Sto->Option (Out×Rho×Sto)
def yv(K:PySem.W.Frag)(m:List Addr)(H:Hp)(Q:Bool->Hp->Prop)(b:Bool)(S':Sto):Prop:=∀m' H',Ext K m H m' H'->Sr K m' S' H'->Q b H'
def Hv(K:PySem.W.Frag)(m:List Addr)(H:Hp)(Q:List V->Hp->Prop)(us:List U)(S':Sto):Prop:=∀m' vs H',Ext K m H m' H'->Sr K m' S' H'->IsL K m' H' vs us->Q vs H'
def gy(K:PySem.W.Frag)(m:List Addr)(H:Hp)(Q:L2.St->Hp->Prop)(ρ':Rho)(S':Sto):Prop:=∀m' σ' H',Ext K m H m' H'->Sr K m' S' H'->Lr K m' H' ρ' σ'->Q σ' H'
def sI(K:PySem.W.Frag)(m:List Addr)(H:Hp)(D:wb):Out->Rho->Sto->Prop
 |.nx,ρ',S'=>gy K m H D.nx ρ' S'
 |.bk,ρ',S'=>gy K m H D.bk ρ' S'
 |.ct,ρ',S'=>gy K m H D.ct ρ' S'
 |.rt u,_,S'=>iW K m H D.rt u S'
theorem kf{α β γ δ ε:Type}{A B C D:α->β->γ->δ->ε->Prop}{p:Prop}(h:∃a b c d e,A a b c d e/\B a b c d e/\C a b c d e/\D a b c d e)(f:∀a b c d e,A a b c d e->B a b c d e->C a b c d e->D a b c d e->p):p:=by
 obtain⟨a,b,c,d,e,h1,h2,h3,h4⟩:=h
 exact f a b c d e h1 h2 h3 h4
theorem qZ{α β γ δ ε ζ:Type}{A B C D:α->β->γ->δ->ε->ζ->Prop}{p:Prop}(h:∃a b c d e g,A a b c d e g/\B a b c d e g/\C a b c d e g/\D a b c d e g)(f:∀a b c d e g,A a b c d e g->B a b c d e g->C a b c d e g->D a b c d e g->p):p:=by
 obtain⟨a,b,c,d,e,g,h1,h2,h3,h4⟩:=h
 exact f a b c d e g h1 h2 h3 h4
theorem Ig{α β γ δ ε ζ:Type}{A B C D E:α->β->γ->δ->ε->ζ->Prop}{p:Prop}(h:∃a b c d e g,A a b c d e g/\B a b c d e g/\C a b c d e g/\D a b c d e g/\E a b c d e g)(f:∀a b c d e g,A a b c d e g->B a b c d e g->C a b c d e g->D a b c d e g->E a b c d e g->p):p:=by
 obtain⟨a,b,c,d,e,g,h1,h2,h3,h4,h5⟩:=h
 exact f a b c d e g h1 h2 h3 h4 h5
def tE(K:PySem.W.Frag)(c:CE):TE:=fun σ H Q=>∃m ρ S u S',Sr K m S H/\Lr K m H ρ σ/\c ρ S=some (u,S')/\iW K m H Q u S'
def tT(K:PySem.W.Frag)(c:CT):TT:=fun σ H Q=>∃m ρ S u S',Sr K m S H/\Lr K m H ρ σ/\c ρ S=some (u,S')/\yv K m H Q u S'
def tA(K:PySem.W.Frag)(c:CA):TA:=fun σ H Q=>∃m ρ S u S',Sr K m S H/\Lr K m H ρ σ/\c ρ S=some (u,S')/\Hv K m H Q u S'
def tS(K:PySem.W.Frag)(c:CS):TS:=fun D σ H=>∃m ρ S o ρ' S',Sr K m S H/\Lr K m H ρ σ/\c ρ S=some (o,ρ',S')/\sI K m H D o ρ' S'
abbrev QE(X:Cx)(e:Expr)(c:CE):Prop:=WE X e (tE X.K c)
abbrev QT(X:Cx)(e:Expr)(c:CT):Prop:=WT X e (tT X.K c)
abbrev QW(X:Cx)(e:Expr)(c:CT):Prop:=WW X e (tT X.K c)
abbrev QS(X:Cx)(e:Stmt)(c:CS):Prop:=WS X e (tS X.K c)
abbrev QSs(X:Cx)(e:List Stmt)(c:CS):Prop:=WSs X e (tS X.K c)
structure QA(X:Cx)(es:List Expr)(c:CA):Prop where
 h:WA X es (tA X.K c)
 len:∀ρ S us S',c ρ S=some (us,S')->us.length=es.length
section
variable{X:Cx}{e:Expr}{es:List Expr}{st:Stmt}{sts:List Stmt}
theorem _root_.OG.WE.imp{t t':TE}(h:WE X e t)(i:∀σ H Q,t' σ H Q->t σ H Q):WE X e t':=⟨fun pins s σ H Q I k=>h.h pins s σ H Q I (i σ H Q k)⟩
theorem _root_.OG.WT.imp{t t':TT}(h:WT X e t)(i:∀σ H Q,t' σ H Q->t σ H Q):WT X e t':=⟨fun pins s σ H Q I k=>h.h pins s σ H Q I (i σ H Q k)⟩
theorem _root_.OG.WW.imp{t t':TT}(h:WW X e t)(i:∀σ H Q,t' σ H Q->t σ H Q):WW X e t':=⟨fun wh pins s σ H Q I k=>h.h wh pins s σ H Q I (i σ H Q k)⟩
theorem _root_.OG.WA.imp{t t':TA}(h:WA X es t)(i:∀σ H Q,t' σ H Q->t σ H Q):WA X es t':=⟨fun pos pins s σ H Q I k=>h.h pos pins s σ H Q I (i σ H Q k)⟩
theorem _root_.OG.WS.imp{t t':TS}(h:WS X st t)(i:∀D σ H,t' D σ H->t D σ H):WS X st t':=⟨fun pins s σ H D I k=>h.h pins s σ H D I (i D σ H k)⟩
theorem _root_.OG.WSs.imp{t t':TS}(h:WSs X sts t)(i:∀D σ H,t' D σ H->t D σ H):WSs X sts t':=⟨fun pins s σ H D I k=>h.h pins s σ H D I (i D σ H k)⟩
theorem _root_.OG.WI.imp{tg:Expr}{t t':TI}(h:WI X tg e t)(i:∀σ H R,t' σ H R->t σ H R):WI X tg e t':=⟨fun pins s σ H R I k=>h.h pins s σ H R I (i σ H R k)⟩
theorem _root_.OG.WG.imp{t t':TG}(h:WG X e t)(i:∀v σ H Q,t' v σ H Q->t v σ H Q):WG X e t':=⟨fun pins s σ H v u Q I r k=>h.h pins s σ H v u Q I r (i v σ H Q k)⟩
theorem _root_.OG.WGs.imp{t t':TGs}(h:WGs X es t)(i:∀v σ H Q,t' v σ H Q->t v σ H Q):WGs X es t':=⟨fun pins s σ H v u Q I r k=>h.h pins s σ H v u Q I r (i v σ H Q k)⟩
theorem _root_.OG.WE.or{t t':TE}(h:WE X e t)(h':WE X e t'):WE X e (fun σ H Q=>t σ H Q\/t' σ H Q):=⟨fun pins s σ H Q I k=>k.elim (h.h pins s σ H Q I) (h'.h pins s σ H Q I)⟩
theorem _root_.OG.WT.or{t t':TT}(h:WT X e t)(h':WT X e t'):WT X e (fun σ H Q=>t σ H Q\/t' σ H Q):=⟨fun pins s σ H Q I k=>k.elim (h.h pins s σ H Q I) (h'.h pins s σ H Q I)⟩
theorem _root_.OG.WS.or{t t':TS}(h:WS X st t)(h':WS X st t'):WS X st (fun D σ H=>t D σ H\/t' D σ H):=⟨fun pins s σ H D I k=>k.elim (h.h pins s σ H D I) (h'.h pins s σ H D I)⟩
theorem _root_.OG.WI.or{tg:Expr}{t t':TI}(h:WI X tg e t)(h':WI X tg e t'):WI X tg e (fun σ H D=>t σ H D\/t' σ H D):=⟨fun pins s σ H D I k=>k.elim (h.h pins s σ H D I) (h'.h pins s σ H D I)⟩
end
section
variable{K:PySem.W.Frag}{m m':List Addr}{H H':Hp}{Q:VK}{R:L2.St->Hp->Prop}{D:wb}{u:U}{o:Out}{S':Sto}{ρ':Rho}
theorem iW.mono(e:Ext K m H m' H')(p:iW K m H Q u S'):iW K m' H' Q u S':=fun m2 v H2 e2 r i=>p m2 v H2 (e.trans e2) r i
theorem yv.mono{Q:Bool->Hp->Prop}{b:Bool}(e:Ext K m H m' H')(p:yv K m H Q b S'):yv K m' H' Q b S':=fun m2 H2 e2 r=>p m2 H2 (e.trans e2) r
theorem gy.mono(e:Ext K m H m' H')(p:gy K m H R ρ' S'):gy K m' H' R ρ' S':=fun m2 v H2 e2 r i=>p m2 v H2 (e.trans e2) r i
theorem sI.mono(e:Ext K m H m' H')(p:sI K m H D o ρ' S'):sI K m' H' D o ρ' S':=by
 cases o with
 |nx=>exact gy.mono e p
 |rt u=>exact iW.mono e p
 |bk=>exact gy.mono e p
 |ct=>exact gy.mono e p
end
def LIM:Nat:=100000
theorem lim{n:Nat}(h:n<=LIM):n<=sizeLine:=Nat.le_trans h (by unfold LIM sizeLine;decide)
theorem Ea{n:Nat}(h:n<LIM):n<sizeLine:=Nat.lt_of_lt_of_le h (by unfold LIM sizeLine;decide)
def ax(i:Nat):CE:=fun ρ S=>match ρ[i]? with
 |some (some u)=>some (u,S)
 |_=>none
def cC(u:U):CE:=fun _ S=>some (u,S)
section
variable{X:Cx}{e a b c:Expr}{ca cb cc:CE}{pos:Pos}
theorem ae{i:Nat}(h:WE X e (EX i)):QE X e (ax i):=h.imp fun σ H Q hz=>kf hz fun m ρ S u S' sr lr hc post=>by
 unfold ax at hc
 split at hc
 ·rename_i u' e
  cases hc
  obtain⟨v,e1,e2⟩:=lr.at_ i u e
  exact⟨v,e1,post m v H .refl sr e2⟩
 ·cases hc
theorem q_c{v:V}{u:U}(h:WE X e (tC v))(hi:∀m H,Is X.K m H v u):QE X e (cC u):=h.imp fun σ H Q hz=>kf hz fun m ρ S u' S' sr lr hc post=>by
 cases hc
 exact post m v H .refl sr (hi m H)
theorem aF{i:Int}(h:WE X e (tC (.int i))):QE X e (cC (.int i)):=q_c h fun _ _=>.int_
theorem Aw{i:Bool}(h:WE X e (tC (.bl i))):QE X e (cC (.bl i)):=q_c h fun _ _=>.bl_
theorem dY{i:Str}(h:WE X e (tC (.str i))):QE X e (cC (.str i)):=q_c h fun _ _=>.str_
theorem Dj(h:WE X e (tC .non)):QE X e (cC .non):=q_c h fun _ _=>.non_
def cOp(f:U->U->Sto->Option (U×Sto))(ca cb:CE):CE:=fun ρ S=>(ca ρ S).bind fun p=>(cb ρ p.2).bind fun q=>f p.1 q.1 q.2
def OpP(K:PySem.W.Frag)(r:R2)(f:U->U->Sto->Option (U×Sto)):Prop:=
 ∀m S H x y v w u S' Q,Sr K m S H->Is K m H v x->Is K m H w y->f x y S=some (u,S')->iW K m H Q u S'->r v w H Q
theorem uy{K:PySem.W.Frag}{r:R2}{f:U->U->Sto->Option (U×Sto)}(hp:OpP K r f):∀σ H Q,tE K (cOp f ca cb) σ H Q->tOp r (tE K ca) (tE K cb) σ H Q:=by
 rintro σ H Q ⟨m,ρ,S,u,S',sr,lr,hc,post⟩
 obtain⟨⟨x,S1⟩,h1,h⟩:=Option.bind_eq_some_iff.mp hc
 obtain⟨⟨y,S2⟩,h2,h3⟩:=Option.bind_eq_some_iff.mp h
 exact⟨m,ρ,S,x,S1,sr,lr,h1,fun m1 v1 H1 e1 sr1 i1=>⟨m1,ρ,S1,y,S2,sr1,lr.mono e1,h2,fun m2 v2 H2 e2 sr2 i2=>hp m2 S2 H2 x y v1 v2 u S' Q sr2 (i1.mono e2) i2 h3 (post.mono (e1.trans e2))⟩⟩
theorem fW{op:Operator}{r:R2}{f:U->U->Sto->Option (U×Sto)}(ho:OpR X (binaryOp op) r)(hp:OpP X.K r f)(ha:QE X a ca)(hb:QE X b cb):QE X (.BinOp a op b pos) (cOp f ca cb):=(CD ho ha hb).imp (uy hp)
theorem uf{op:CmpOp}{r:R2}{f:U->U->Sto->Option (U×Sto)}(ho:OpR X (compareOp op) r)(hp:OpP X.K r f)(ha:QE X a ca)(hb:QE X b cb)(hm:behindInMarks op b=false):QE X (.Compare a [op] [b] pos) (cOp f ca cb):=(qe ho ha hb hm).imp (uy hp)
def aN(c:CE):CT:=fun ρ S=>(c ρ S).bind fun p=>match p.1 with
 |.bl b=>some (b,p.2)
 |_=>none
theorem ju{K:PySem.W.Frag}{c:CE}{t:TE}(h:∀σ H Q,tE K c σ H Q->t σ H Q):∀σ H Q,tT K (aN c) σ H Q->t σ H fun x H'=>∃k,x=.bl k/\Q k H':=by
 rintro σ H Q ⟨m,ρ,S,u,S',sr,lr,hc,post⟩
 obtain⟨⟨x,S1⟩,h1,h2⟩:=Option.bind_eq_some_iff.mp hc
 refine h σ H _ ⟨m,ρ,S,x,S1,sr,lr,h1,fun m1 v1 H1 e1 sr1 i1=>?_⟩
 cases x<;>simp at h2
 obtain⟨rfl,rfl⟩:=h2
 exact⟨_,i1.of_bl,post m1 H1 e1 sr1⟩
theorem cq{op:CmpOp}{r:R2}{f:U->U->Sto->Option (U×Sto)}(ho:OpR X (compareOp op) r)(hp:OpP X.K r f)(ha:QE X a ca)(hb:QE X b cb)(hm:behindInMarks op b=false):QT X (.Compare a [op] [b] pos) (aN (cOp f ca cb)):=(mi ho ha hb hm).imp (ju (uy hp))
theorem lI(h:QE X e ca)(he:∀whole,isTrue e X.env whole=(do let v <-whole;standAt e.pos;holding [v] (truthy v)):=by intro _;rfl):QT X e (aN ca):=(zK h he).imp (ju fun _ _ _ z=>z)
variable{ta tb:CT}{rest:List Expr}
def BD(ta tb:CT):CT:=fun ρ S=>(ta ρ S).bind fun p=>if p.1=true then tb ρ p.2 else some (false,p.2)
def cOr(ta tb:CT):CT:=fun ρ S=>(ta ρ S).bind fun p=>if p.1=true then some (true,p.2)else tb ρ p.2
def EK(ta:CT):CT:=fun ρ S=>(ta ρ S).bind fun p=>some (!p.1,p.2)
theorem Dh(h:QW X e ta):QT X e ta:=WW.pt h
theorem yU(ha:QT X a ta):QW X (.BoolOp .And [a] pos) ta:=wk ha
theorem Aq(ha:QT X a ta):QW X (.BoolOp .Or [a] pos) ta:=zI ha
theorem Dk(ha:QT X a ta)(hb:QW X (.BoolOp .And (b::rest) pos) tb):QW X (.BoolOp .And (a::b::rest) pos) (BD ta tb):=(zJ ha hb).imp fun σ H Q hz=>kf hz fun m ρ S u S' sr lr hc post=>by
 obtain⟨⟨x,S1⟩,h1,h2⟩:=Option.bind_eq_some_iff.mp hc
 refine⟨m,ρ,S,x,S1,sr,lr,h1,fun m1 H1 e1 sr1=>?_⟩
 cases x with
 |true=>exact Fd ⟨m1,ρ,S1,u,S',sr1,lr.mono e1,h2,post.mono e1⟩
 |false=>cases h2;exact Fe (post m1 H1 e1 sr1)
theorem GF(ha:QT X a ta)(hb:QW X (.BoolOp .Or (b::rest) pos) tb):QW X (.BoolOp .Or (a::b::rest) pos) (cOr ta tb):=(Cz ha hb).imp fun σ H Q hz=>kf hz fun m ρ S u S' sr lr hc post=>by
 obtain⟨⟨x,S1⟩,h1,h2⟩:=Option.bind_eq_some_iff.mp hc
 refine⟨m,ρ,S,x,S1,sr,lr,h1,fun m1 H1 e1 sr1=>?_⟩
 cases x with
 |true=>cases h2;exact Fd (post m1 H1 e1 sr1)
 |false=>exact Fe ⟨m1,ρ,S1,u,S',sr1,lr.mono e1,h2,post.mono e1⟩
theorem ub(ha:QT X a ta):QT X (.UnaryOp .Not a pos) (EK ta):=(zL ha).imp fun σ H Q hz=>kf hz fun m ρ S u S' sr lr hc post=>by
 obtain⟨⟨x,S1⟩,h1,h2⟩:=Option.bind_eq_some_iff.mp hc
 cases h2
 exact⟨m,ρ,S,x,_,sr,lr,h1,fun m1 H1 e1 sr1=>post m1 H1 e1 sr1⟩
def oB(ca cb:CE):CE:=fun ρ S=>(ca ρ S).bind fun p=>match p.1 with
 |.bl true=>cb ρ p.2
 |.bl false=>some (.bl false,p.2)
 |_=>none
def Ih(ca cb:CE):CE:=fun ρ S=>(ca ρ S).bind fun p=>match p.1 with
 |.bl false=>cb ρ p.2
 |.bl true=>some (.bl true,p.2)
 |_=>none
def yo(ca:CE):CE:=fun ρ S=>(ca ρ S).bind fun p=>match p.1 with
 |.bl b=>some (.bl (!b),p.2)
 |_=>none
theorem wY{op}(h:QE X a ca):QE X (.BoolOp op [a] pos) ca:=zQ h
theorem nI(ha:QE X a ca)(hb:QE X (.BoolOp .And (b::rest) pos) cb):QE X (.BoolOp .And (a::b::rest) pos) (oB ca cb):=(zV ha hb).imp fun σ H Q hz=>kf hz fun m ρ S u S' sr lr hc post=>by
 obtain⟨⟨x,S1⟩,h1,h2⟩:=Option.bind_eq_some_iff.mp hc
 refine⟨m,ρ,S,x,S1,sr,lr,h1,fun m1 v1 H1 e1 sr1 i1=>?_⟩
 cases x with
 |bl k=>
  refine⟨k,i1.of_bl,?_⟩
  cases k with
  |true=>exact Fd ⟨m1,ρ,S1,u,S',sr1,lr.mono e1,h2,post.mono e1⟩
  |false=>cases h2;exact Fe (post m1 _ H1 e1 sr1 .bl_)
 |_=>simp at h2
theorem Di(ha:QE X a ca):QE X (.UnaryOp .Not a pos) (yo ca):=(zR ha).imp fun σ H Q hz=>kf hz fun m ρ S u S' sr lr hc post=>by
 obtain⟨⟨x,S1⟩,h1,h2⟩:=Option.bind_eq_some_iff.mp hc
 refine⟨m,ρ,S,x,S1,sr,lr,h1,fun m1 v1 H1 e1 sr1 i1=>?_⟩
 cases x with
 |bl k=>cases h2;exact⟨k,i1.of_bl,post m1 _ H1 e1 sr1 .bl_⟩
 |_=>simp at h2
def cIf(t:CT)(ca cb:CE):CE:=fun ρ S=>(t ρ S).bind fun p=>if p.1=true then ca ρ p.2 else cb ρ p.2
variable{es:List Expr}{cr:CA}
def aL:CA:=fun _ S=>some ([],S)
def ao(ca:CE)(cr:CA):CA:=fun ρ S=>(ca ρ S).bind fun p=>(cr ρ p.2).bind fun q=>some (p.1::q.1,q.2)
theorem aG:QA X [] aL:=⟨gH.imp fun σ H Q hz=>kf hz fun m ρ S u S' sr lr hc post=>by cases hc;exact post m [] H .refl sr .nil_,fun ρ S us S' h=>by cases h;rfl⟩
theorem ag(ha:QE X e ca)(hr:QA X es cr)(hs:starEach (e::es) X.env=(false,eval e X.env)::starEach es X.env:=by rfl):QA X (e::es) (ao ca cr):=⟨(cX ha hr.h hs).imp fun σ H Q hz=>kf hz fun m ρ S u S' sr lr hc post=>by
 obtain⟨⟨x,S1⟩,h1,h⟩:=Option.bind_eq_some_iff.mp hc
 obtain⟨⟨y,S2⟩,h2,h3⟩:=Option.bind_eq_some_iff.mp h
 cases h3
 exact⟨m,ρ,S,x,S1,sr,lr,h1,fun m1 v1 H1 e1 sr1 i1=>⟨m1,ρ,S1,y,S2,sr1,lr.mono e1,h2,fun m2 v2 H2 e2 sr2 i2=>post m2 _ H2 (e1.trans e2) sr2 (.cons_ (i1.mono e2) i2)⟩⟩,
 fun ρ S us S' h=>by
 obtain⟨⟨x,S1⟩,h1,h⟩:=Option.bind_eq_some_iff.mp h
 obtain⟨⟨y,S2⟩,h2,h3⟩:=Option.bind_eq_some_iff.mp h
 cases h3
 simp[hr.len ρ S1 y S2 h2]⟩
def jk(cr:CA):CE:=fun ρ S=>(cr ρ S).bind fun p=>some (.tup p.1,p.2)
def md(cr:CA):CE:=fun ρ S=>(cr ρ S).bind fun p=>some (.ref p.2.length,p.2++[.lst p.1])
theorem dz{m:List Addr}{S:Sto}{q:Addr}(h:m.length=S.length):(m++[q])[S.length]?=some q:=by rw[List.getElem?_append_right (by omega)];simp[h]
theorem mH{K:PySem.W.Frag}{m:List Addr}{H:Hp}{S:Sto}{us:List U}{xs:List V}{Q:VK}{p:Addr}(sr:Sr K m S H)(i:IsL K m H xs us)(post:iW K m H Q (.tup us) S)(hp:H p=none):Q (.ref p) (upd H p (.tup xs)):=
 post m _ _ (.of (bH hp _)) (sr.same (cQ hp _)) (.tup_ (SqT.of aJ) (i.mono (.of (bH hp _))))
theorem dQ{K:PySem.W.Frag}{m:List Addr}{H:Hp}{S:Sto}{us:List U}{xs:List V}{Q:VK}{p:Addr}(sr:Sr K m S H)(i:IsL K m H xs us)(post:iW K m H Q (.ref S.length) (S++[.lst us]))(hp:H p=none):Q (.ref p) (upd H p (.lst xs)):=
 post (m++[p]) _ _ (.new (bH hp _)) (sr.new hp ⟨xs,aJ,i.mono (.new (bH hp _))⟩) (.ref_ (dz sr.len))
theorem iM{x1}(h:QA X es cr)(hl:es.length<=1000:=by exact Nat.le_of_ble_eq_true rfl):QE X (.Tuple es x1 pos) (jk cr):=(sZ h.h).imp fun σ H Q hz=>kf hz fun m ρ S u S' sr lr hc post=>by
 obtain⟨⟨us,S1⟩,h1,h2⟩:=Option.bind_eq_some_iff.mp hc
 cases h2
 refine⟨m,ρ,S,us,_,sr,lr,h1,fun m1 v1 H1 e1 sr1 i1=>⟨yO ?_,fun p hp=>mH sr1 i1 (post.mono e1) hp⟩⟩
 rw[i1.length,h.len _ _ _ _ h1];exact hl
theorem iN(h:QA X es cr)(hl:es.length<=1000:=by exact Nat.le_of_ble_eq_true rfl):QE X (.List es pos) (md cr):=(tm h.h).imp fun σ H Q hz=>kf hz fun m ρ S u S' sr lr hc post=>by
 obtain⟨⟨us,S1⟩,h1,h2⟩:=Option.bind_eq_some_iff.mp hc
 cases h2
 refine⟨m,ρ,S,us,_,sr,lr,h1,fun m1 v1 H1 e1 sr1 i1=>⟨yO ?_,fun p hp=>dQ sr1 i1 (post.mono e1) hp⟩⟩
 rw[i1.length,h.len _ _ _ _ h1];exact hl
def cCB(f:List U->Sto->Option (U×Sto))(cr:CA):CE:=fun ρ S=>(cr ρ S).bind fun p=>f p.1 p.2
def oM(K:PySem.W.Frag)(r:List V->Hp->VK->Prop)(f:List U->Sto->Option (U×Sto)):Prop:=
 ∀m S H us vs u S' Q,Sr K m S H->IsL K m H vs us->f us S=some (u,S')->iW K m H Q u S'->r vs H Q
theorem zf{K:PySem.W.Frag}{r:List V->Hp->VK->Prop}{f:List U->Sto->Option (U×Sto)}(hp:oM K r f):∀σ H Q,tE K (cCB f cr) σ H Q->tCB r (tA K cr) σ H Q:=by
 rintro σ H Q ⟨m,ρ,S,u,S',sr,lr,hc,post⟩
 obtain⟨⟨us,S1⟩,h1,h2⟩:=Option.bind_eq_some_iff.mp hc
 exact⟨m,ρ,S,us,S1,sr,lr,h1,fun m1 v1 H1 e1 sr1 i1=>hp m1 S1 H1 us v1 u S' Q sr1 i1 h2 (post.mono e1)⟩
theorem dZ{id:String}{x:Str}{p:Pos}{r:List V->Hp->VK->Prop}{f:List U->Sto->Option (U×Sto)}(hc:fF X (.builtin id) r)(hp:oM X.K r f)(hg:Gl X x)(hm:X.mg x=none)(hv:bootBuiltins x=some (.builtin id))(ha:QA X (e::es) cr)(hn:x≠"__name__":=by decide)(hdb:(x == ("__debug__":Str))=false:=by decide)(he:starEach (e::es) X.env=(false,eval e X.env)::starEach es X.env:=by rfl)(hpl:(backTo pos (starEach es X.env)).any (·.1)=false:=by rfl) :
  QE X (.Call (.Name x p) (e::es) [] pos) (cCB f cr):=(nr hc hg hm hv ha.h hn hdb he hpl).imp (zf hp)
theorem mE{id:String}{x:Str}{p:Pos}{r:List V->Hp->VK->Prop}{f:List U->Sto->Option (U×Sto)}(hc:fF X (.type id) r)(hp:oM X.K r f)(hg:Gl X x)(hm:X.mg x=none)(hv:bootBuiltins x=some (.type id))(ha:QA X (e::es) cr)(hn:x≠"__name__":=by decide)(hdb:(x == ("__debug__":Str))=false:=by decide)(he:starEach (e::es) X.env=(false,eval e X.env)::starEach es X.env:=by rfl)(hpl:(backTo pos (starEach es X.env)).any (·.1)=false:=by rfl) :
  QE X (.Call (.Name x p) (e::es) [] pos) (cCB f cr):=(lu hc hg hm hv ha.h hn hdb he hpl).imp (zf hp)
end
def wJ(K:PySem.W.Frag)(f:List U->Sto->Option (U×Sto)):Sp:=fun vs H Q _=>∃m us S u S',IsL K m H vs us/\Sr K m S H/\f us S=some (u,S')/\iW K m H Q u S'
abbrev Fn:=List U->Sto->Option (U×Sto)
abbrev eL(P:Program)(w:World)(K:PySem.W.Frag)(mg:Str->Option Value)(base:Heap)(x:Str)(k:Nat)(ps:List Str)(f:Fn):Prop:=Has P w K mg base x k ps (wJ K f)
def nC(n:Nat)(us:List U):Rho:=us.map some++List.replicate (n-us.length) none
def fnU(n k:Nat)(c:CS):Fn:=fun us S=>if us.length=k then(c (nC n us) S).bind fun r=>match r.1 with
 |.rt u=>some (u,r.2.2)
 |.nx=>some (.non,r.2.2)
 |_=>none else none
section
variable{P:Program}{w:World}{K:PySem.W.Frag}{mg:Str->Option Value}{base:Heap}{x:Str}{st:Stmt}{ps N:List Str}{k:Nat}{c:CS}{f:Fn}
theorem xO{m:List Addr}{H:Hp}{vs:List V}{us:List U}(i:IsL K m H vs us):Lr K m H (nC N.length us) (L2.start N vs):=by
 have hl:=i.length
 refine⟨by simp[nC,L2.start,hl],fun j u e=>?_⟩
 unfold nC at e
 unfold L2.start
 by_cases c:j<us.length
 ·rw[List.getElem?_append_left (by simpa using c),List.getElem?_map]at e
  rw[List.getElem?_append_left (by simpa [hl] using c),List.getElem?_map]
  rw[List.getElem?_eq_getElem c]at e
  simp at e
  obtain⟨v,e1,e2⟩:=i.getD (List.getElem?_eq_getElem c)
  rw[e1]
  subst e
  exact⟨v,rfl,e2⟩
 ·rw[List.getElem?_append_right (by simpa using c),List.getElem?_replicate]at e
  split at e<;>cases e
theorem vd{X:Cx}{body:List Stmt}{Q:VK}{E:XK}{vs:List V}{H:Hp}(hK:X.K=K)(h:wJ K (fnU N.length ps.length c) vs H Q E):tS X.K c { nx:=fun _ H'=>Q .non H',rt:=Q } (L2.start N vs) H:=by
 subst hK
 obtain⟨m,us,S,u,S',i,sr,hf,post⟩:=h
 unfold fnU at hf
 split at hf
 ·obtain⟨⟨o,ρ',S2⟩,h1,h2⟩:=Option.bind_eq_some_iff.mp hf
  refine⟨m,_,S,o,ρ',S2,sr,xO i,h1,?_⟩
  cases o with
  |rt v=>cases h2;exact post
  |nx=>cases h2;exact fun m1 σ1 H1 e1 sr1 _=>post m1 _ H1 e1 sr1 .non_
  |bk=>simp at h2
  |ct=>simp at h2
 ·cases hf
theorem qp{vs:List V}{H:Hp}{Q:VK}{E:XK}{n k:Nat}(h:wJ K (fnU n k c) vs H Q E):vs.length=k:=by
 obtain⟨m,us,S,u,S',i,sr,hf,post⟩:=h
 unfold fnU at hf
 split at hf
 ·rename_i e
  rw[i.length,e]
 ·cases hf
theorem _root_.OG.Def.pure(d:Def K mg x st ps)(S:aT N ps (ay st))
  (hb:∀(f:Addr) (cdv:Value) (A:Around) (outer:List Env) (s:Shared) (H:Hp) (E:XK),gw k (A.deeper (envOfC x (ay st) s.heap.objs.size f cdv))->
   WSs (sM CX0 P w K mg base N x (ay st) f cdv A outer s H E).nox (aM st) (tS K c)):eL P w K mg base x (k+1) ps (fnU N.length ps.length c):=
 d.has S (fun vs H Q E h=>qp h) fun f cdv A outer s H vs Q E hr h=>⟨_,hb f cdv A outer s H E hr,vd (X:=(sM CX0 P w K mg base N x (ay st) f cdv A outer s H E).nox) (body:=[]) (ps:=ps) rfl h⟩
theorem _root_.OG.Def.no(d:Def K mg x st ps):eL P w K mg base x k ps (fun _ _=>none):=d.none fun vs H Q E h=>by
 obtain⟨m,us,S,u,S',i,sr,hf,post⟩:=h
 cases hf
theorem bo{X:Cx}{e:Expr}{es:List Expr}{cr:CA}{p pos:Pos}(F:Has X.prog X.w X.K X.mg X.base x k ps (wJ X.K f))(hr:gw k X.A)(hg:Gl X x)(ha:QA X (e::es) cr)
  (hdb:(x == ("__debug__":Str))=false:=by decide) (he:starEach (e::es) X.env=(false,eval e X.env)::starEach es X.env:=by rfl) (hpl:(backTo pos (starEach es X.env)).any (·.1)=false:=by rfl) :
  QE X (.Call (.Name x p) (e::es) [] pos) (cCB f cr):=(yF F hr hg ha.h hdb he hpl).imp fun σ H Q hz=>kf hz fun m ρ S u S' sr lr hc post=>by
 obtain⟨⟨us,S1⟩,h1,h2⟩:=Option.bind_eq_some_iff.mp hc
 exact⟨m,ρ,S,us,S1,sr,lr,h1,fun m1 v1 H1 e1 sr1 i1=>⟨m1,us,S1,u,S',by simpa using i1,sr1,h2,post.mono e1⟩⟩
end
section
variable{X:Cx}{e a b c:Expr}{ca cb cc:CE}{pos:Pos}{st:Stmt}{sts:List Stmt}{c1 c2:CS}
def dR:CS:=fun ρ S=>some (.nx,ρ,S)
def bZ(c1 c2:CS):CS:=fun ρ S=>(c1 ρ S).bind fun r=>match r.1 with
 |.nx=>c2 r.2.1 r.2.2
 |o=>some (o,r.2.1,r.2.2)
theorem dg:QSs X [] dR:=wm.imp fun D σ H hz=>qZ hz fun m ρ S o ρ' S' sr lr hc post=>by cases hc;exact post m σ H .refl sr lr
theorem aC(h1:QS X st c1)(h2:QSs X sts c2):QSs X (st::sts) (bZ c1 c2):=(nk h1 h2).imp fun D σ H hz=>qZ hz fun m ρ S o ρ' S' sr lr hc post=>by
 obtain⟨⟨o1,ρ1,S1⟩,h1,h2⟩:=Option.bind_eq_some_iff.mp hc
 refine⟨m,ρ,S,o1,ρ1,S1,sr,lr,h1,?_⟩
 cases o1 with
 |nx=>exact fun m1 σ1 H1 e1 sr1 lr1=>⟨m1,ρ1,S1,o,ρ',S',sr1,lr1,h2,post.mono e1⟩
 |rt u=>cases h2;exact post
 |bk=>cases h2;exact post
 |ct=>cases h2;exact post
theorem aH(h1:QS X st c1):QSs X [st] c1:=pX h1
def eX(ca:CE):CS:=fun ρ S=>(ca ρ S).bind fun p=>some (.nx,ρ,p.2)
theorem du(he:QE X e ca)(hs:swapsWith e none pos.line X.env=pure false:=by rfl):QS X (.Expr e pos) (eX ca):=(wo he hs).imp fun D σ H hz=>qZ hz fun m ρ S o ρ' S' sr lr hc post=>by
 obtain⟨⟨u,S1⟩,h1,h2⟩:=Option.bind_eq_some_iff.mp hc
 cases h2
 exact⟨m,ρ,S,u,_,sr,lr,h1,fun m1 v1 H1 e1 sr1 i1=>post m1 σ H1 e1 sr1 (lr.mono e1)⟩
def gS(ca:CE):CS:=fun ρ S=>(ca ρ S).bind fun p=>some (.rt p.1,ρ,p.2)
theorem bS(he:QE X e ca):QS X (.Return (some e) pos) (gS ca):=(sV he).imp fun D σ H hz=>qZ hz fun m ρ S o ρ' S' sr lr hc post=>by
 obtain⟨⟨u,S1⟩,h1,h2⟩:=Option.bind_eq_some_iff.mp hc
 cases h2
 exact⟨m,ρ,S,u,_,sr,lr,h1,post⟩
def gx(t:CT)(c1 c2:CS):CS:=fun ρ S=>(t ρ S).bind fun p=>if p.1=true then c1 ρ p.2 else c2 ρ p.2
theorem dM{t:CT}{s1 s2:List Stmt}(hc:QT X c t)(h1:QSs X s1 c1)(h2:QSs X s2 c2):QS X (.If c s1 s2 pos) (gx t c1 c2):=(CB hc h1 h2).imp fun D σ H hz=>qZ hz fun m ρ S o ρ' S' sr lr hc post=>by
 obtain⟨⟨x,S1⟩,h1,h2⟩:=Option.bind_eq_some_iff.mp hc
 refine⟨m,ρ,S,x,S1,sr,lr,h1,fun m1 H1 e1 sr1=>?_⟩
 cases x with
 |true=>exact Fd ⟨m1,ρ,S1,o,ρ',S',sr1,lr.mono e1,h2,post.mono e1⟩
 |false=>exact Fe ⟨m1,ρ,S1,o,ρ',S',sr1,lr.mono e1,h2,post.mono e1⟩
abbrev CG:=U->Rho->Sto->Option (Rho×Sto)
def tG(K:PySem.W.Frag)(g:CG):TG:=fun v σ H Q=>∃m ρ S u ρ' S',Sr K m S H/\Lr K m H ρ σ/\Is K m H v u/\g u ρ S=some (ρ',S')/\gy K m H Q ρ' S'
abbrev QG(X:Cx)(e:Expr)(g:CG):Prop:=WG X e (tG X.K g)
def gNm(i:Nat):CG:=fun u ρ S=>some (ρ.set i (some u),S)
theorem dv{i:Nat}(h:WG X e (sk i)):QG X e (gNm i):=h.imp fun v σ H Q hz=>Ig hz fun m ρ S u ρ' S' sr lr iu hc post=>by
 cases hc
 exact post m _ H .refl sr (lr.set i iu)
def fG:List Nat->List U->Rho->Option Rho
 |[],[],ρ=>some ρ
 |i::is,u::us,ρ=>fG is us (ρ.set i (some u))
 |_,_,_=>none
def tGs(K:PySem.W.Frag)(is:List Nat):TGs:=fun vs σ H Q=>∃m ρ S us ρ',Sr K m S H/\Lr K m H ρ σ/\IsL K m H vs us/\fG is us ρ=some ρ'/\gy K m H Q ρ' S
abbrev QGs(X:Cx)(es:List Expr)(is:List Nat):Prop:=WGs X es (tGs X.K is)
theorem mD:QGs X [] []:=wt.imp fun v σ H Q ⟨m,ρ,S,us,ρ',sr,lr,iu,hc,post⟩=>by
 cases us with
 |nil=>cases hc;exact⟨iu.of_nil,post m σ H .refl sr lr⟩
 |cons a r=>simp[fG]at hc
theorem dP{i:Nat}{is:List Nat}{es:List Expr}(h:WG X e (sk i))(h2:QGs X es is)(hs:(assignEach (e::es) X.env).map (·.2)=assign e X.env::(assignEach es X.env).map (·.2):=by rfl):QGs X (e::es) (i::is):=(sY h h2 hs).imp fun v σ H Q ⟨m,ρ,S,us,ρ',sr,lr,iu,hc,post⟩=>by
 cases us with
 |nil=>simp[fG]at hc
 |cons u r=>
  obtain⟨x,xr,rfl,i1,i2⟩:=iu.of_cons
  exact⟨x,xr,rfl,m,ρ.set i (some u),S,r,ρ',sr,lr.set i i1,i2,hc,post⟩
def gTp(is:List Nat):CG:=fun u ρ S=>match u with
 |.tup us=>(fG is us ρ).bind fun ρ'=>some (ρ',S)
 |_=>none
theorem lF:∀{is:List Nat} {us:List U} {ρ ρ':Rho},fG is us ρ=some ρ'->us.length=is.length
 |[],[],_,_,_=>rfl
 |[],_::_,_,_,h=>by simp[fG]at h
 |_::_,[],_,_,h=>by simp[fG]at h
 |i::is,u::us,ρ,ρ',h=>by
  have:=lF (is:=is) (us:=us) h
  simp[this]
theorem qv{is:List Nat}{es:List Expr}{k:Nat}(hc:X.calm=true)(h:QGs X es is)(hn:(assignEach es X.env).length=is.length:=by rfl)(hst:(assignEach es X.env).findIdx? (·.1)=none:=by rfl):QG X (.Tuple es k pos) (gTp is):=(zO hc h hn hst).imp fun v σ H Q hz=>Ig hz fun m ρ S u ρ' S' sr lr iu hc post=>by
 cases u with
 |tup us=>
  obtain⟨ρ2,h1,h2⟩:=Option.bind_eq_some_iff.mp hc
  cases h2
  obtain⟨a,xs,rfl,sq,il⟩:=iu.of_tup
  refine⟨a,xs,rfl,sq,?_,m,ρ,S,us,ρ',sr,lr,il,h1,post⟩
  rw[il.length];exact lF h1
 |_=>simp[gTp]at hc
def EM(ca:CE)(g:CG):CS:=fun ρ S=>(ca ρ S).bind fun p=>(g p.1 ρ p.2).bind fun q=>some (.nx,q.1,q.2)
theorem Br{K:PySem.W.Frag}{g:CG}:∀D σ H,tS K (EM ca g) D σ H->CY (tE K ca) (tG K g) D σ H:=by
 rintro D σ H ⟨m,ρ,S,o,ρ',S',sr,lr,hc,post⟩
 obtain⟨⟨u,S1⟩,h1,h2⟩:=Option.bind_eq_some_iff.mp hc
 obtain⟨⟨ρ2,S2⟩,h3,h4⟩:=Option.bind_eq_some_iff.mp h2
 cases h4
 exact⟨m,ρ,S,u,S1,sr,lr,h1,fun m1 v1 H1 e1 sr1 i1=>⟨m1,ρ,S1,u,_,_,sr1,lr.mono e1,i1,h3,gy.mono e1 post⟩⟩
theorem Df{tg:Expr}{g:CG}(he:QE X e ca)(hg:QG X tg g)(hs:swapsWithSole [tg] e pos.line X.env=pure false:=by rfl)(hw:swappedStores [tg] e X.env=pure none:=by rfl)
  (h1:(assignEach [tg] X.env).map (·.2)=[assign tg X.env]:=by rfl):QS X (.Assign [tg] e pos) (EM ca g):=(sX he hg hs hw h1).imp Br
def fe(i:Nat)(ca:CE):CS:=fun ρ S=>(ca ρ S).bind fun p=>some (.nx,ρ.set i (some p.1),p.2)
theorem bF{i:Nat}{x:Str}{pos':Pos}(hN:X.N.Nodup)(hi:X.N[i]?=some x)(hx:Loc X.env.scope x)(he:QE X e ca)(hs:swapsWith e (some (.Name x pos')) pos.line X.env=pure false:=by rfl)(hf:X.fn x=true\/X.env.scope.names.lookup x=some .local:=by first|exact .inl rfl|exact .inr rfl|assumption) :
  QS X (.Assign [.Name x pos'] e pos) (fe i ca):=(sU hN hi hx he hs hf).imp fun D σ H hz=>qZ hz fun m ρ S o ρ' S' sr lr hc post=>by
 obtain⟨⟨u,S1⟩,h1,h2⟩:=Option.bind_eq_some_iff.mp hc
 cases h2
 exact⟨m,ρ,S,u,_,sr,lr,h1,fun m1 v1 H1 e1 sr1 i1=>post m1 _ H1 e1 sr1 ((lr.mono e1).set i i1)⟩
abbrev CI:=Rho->Sto->Option (List U×(Sto->Prop)×Sto)
def yy(K:PySem.W.Frag)(J:It)(m:List Addr)(H:Hp)(us:List U)(ok:Sto->Prop):Prop:=∀m2 S2 H2 i,Ext K m H m2 H2->Sr K m2 S2 H2->ok S2->
 (∀u,us[i]?=some u->J.go i H2/\∀x H3,J.yld i H2 x H3->Ext K m2 H2 m2 H3/\Sr K m2 S2 H3/\Is K m2 H3 x u)/\(us.length<=i->J.stop i H2)
def tI(K:PySem.W.Frag)(ci:CI):TI:=fun σ H R=>∃m ρ S us ok S',Sr K m S H/\Lr K m H ρ σ/\ci ρ S=some (us,ok,S')/\∀m' H' J,Ext K m H m' H'->Sr K m' S' H'->yy K J m' H' us ok->R J H'
abbrev QI(X:Cx)(tg iter:Expr)(ci:CI):Prop:=WI X tg iter (tI X.K ci)
open Classical in
def ej(ok:Sto->Prop)(g:CG)(cb:CS):List U->CS
 |[]=>fun ρ S=>if ok S then some (.nx,ρ,S)else none
 |u::us=>fun ρ S=>if ok S then(g u ρ S).bind fun p=>(cb p.1 p.2).bind fun r=>match r.1 with
  |.nx=>ej ok g cb us r.2.1 r.2.2
  |.ct=>ej ok g cb us r.2.1 r.2.2
  |.bk=>some (.nx,r.2.1,r.2.2)
  |.rt v=>some (.rt v,r.2.1,r.2.2)else none
def oA(ci:CI)(g:CG)(cb:CS):CS:=fun ρ S=>(ci ρ S).bind fun p=>ej p.2.1 g cb p.1 ρ p.2.2
theorem kj{α:Type}{us:List α}{i:Nat}{u:α}(h:us[i]?=some u):us.drop i=u::us.drop (i+1):=by
 obtain⟨hl,e⟩:=List.getElem?_eq_some_iff.mp h
 rw[List.drop_eq_getElem_cons hl,e]
theorem qL{K:PySem.W.Frag}{g:CG}{cb:CS}{J:It}{us:List U}{ok:Sto->Prop}{D:wb}{m1:List Addr}{H1:Hp}{ρ ρ':Rho}{σ:L2.St}{S1 S':Sto}{o:Out}(sr1:Sr K m1 S1 H1)(lr1:Lr K m1 H1 ρ σ)(ito:yy K J m1 H1 us ok)(h2:ej ok g cb us ρ S1=some (o,ρ',S'))(post:sI K m1 H1 D o ρ' S') :
  ∃W:Nat->Nat->L2.St->Hp->Prop,(∃n,W 0 n σ H1)/\∀i n σ H,W i n σ H->
   (J.stop i H/\D.nx σ H)\/(J.go i H/\∃N:L2.St->Hp->Prop,(∀σ' H',N σ' H'->∃n',n'<n/\W (i+1) n' σ' H')/\∀x H',J.yld i H x H'->tG K g x σ H' fun σ2 H2=>tS K cb { D with nx:=N,ct:=N,bk:=D.nx } σ2 H2):=by
 let W:Nat->Nat->L2.St->Hp->Prop:=fun i n σ2 H2=>n=us.length-i/\i<=us.length/\∃m2 ρ2 S2,Ext K m1 H1 m2 H2/\Sr K m2 S2 H2/\Lr K m2 H2 ρ2 σ2/\ej ok g cb (us.drop i) ρ2 S2=some (o,ρ',S')
 refine⟨W,⟨us.length,by simp,Nat.zero_le _,m1,ρ,S1,.refl,sr1,lr1,by simpa using h2⟩,?_⟩
 rintro i n σ2 H2 ⟨rfl,hi,m2,ρ2,S2,e2,sr2,lr2,hl⟩
 by_cases hlt:i<us.length
 ·have hu:=List.getElem?_eq_getElem hlt
  rw[kj hu]at hl
  unfold ej at hl
  split at hl
  ·rename_i hok
   obtain⟨⟨ρ3,S3⟩,h3,hl⟩:=Option.bind_eq_some_iff.mp hl
   obtain⟨⟨o4,ρ4,S4⟩,h4,hl⟩:=Option.bind_eq_some_iff.mp hl
   obtain⟨hgo,hy⟩:=(ito m2 S2 H2 i e2 sr2 hok).1 _ hu
   refine .inr ⟨hgo,W (i+1) (us.length-(i+1)),fun σ' H' w'=>⟨_,by omega,w'⟩,fun x H3 y=>?_⟩
   obtain⟨e3,sr3,ix⟩:=hy x H3 y
   refine⟨m2,ρ2,S2,_,ρ3,S3,sr3,lr2.mono e3,ix,h3,fun m4 σ4 H4 e4 sr4 lr4=>⟨m4,ρ3,S3,o4,ρ4,S4,sr4,lr4,h4,?_⟩⟩
   have e14:=(e2.trans e3).trans e4
   have nxt:ej ok g cb (us.drop (i+1)) ρ4 S4=some (o,ρ',S')->gy K m4 H4 (W (i+1) (us.length-(i+1))) ρ4 S4:=fun hn m5 σ5 H5 e5 sr5 lr5=>⟨rfl,hlt,m5,ρ4,S4,e14.trans e5,sr5,lr5,hn⟩
   cases o4 with
   |nx=>exact nxt hl
   |ct=>exact nxt hl
   |bk=>cases hl;exact gy.mono e14 post
   |rt v=>cases hl;exact iW.mono e14 post
  ·cases hl
 ·have e:i=us.length:=by omega
  subst e
  rw[List.drop_length]at hl
  unfold ej at hl
  split at hl
  ·rename_i hok
   cases hl
   exact .inl ⟨(ito m2 _ H2 _ e2 sr2 hok).2 (Nat.le_refl _),post m2 σ2 H2 e2 sr2 lr2⟩
  ·cases hl
theorem Be{K:PySem.W.Frag}{ci:CI}{g:CG}{cb:CS}:∀D σ H,tS K (oA ci g cb) D σ H->EZ (tI K ci) (tG K g) (tS K cb) D σ H:=by
 rintro D σ H ⟨m,ρ,S,o,ρ',S',sr,lr,hc,post⟩
 obtain⟨⟨us,ok,S1⟩,h1,h2⟩:=Option.bind_eq_some_iff.mp hc
 exact⟨m,ρ,S,us,ok,S1,sr,lr,h1,fun m1 H1 J e1 sr1 ito=>qL sr1 (lr.mono e1) ito h2 (sI.mono e1 post)⟩
theorem jN{tg iter:Expr}{body:List Stmt}{ci:CI}{g:CG}{cb:CS}(hp:PassesOwn (model X.prog X.w) X.A X.env X.xe)(hc:X.calm=true)(hi:QI X tg iter ci)(hg:QG X tg g)(hb:QSs X body cb)(hs:∀x,foldedSetIterable iter X.env x=pure x:=by intro _;rfl):QS X (.For tg iter body [] pos) (oA ci g cb):=(sW hp hc hi hg hb hs).imp Be
def iTp(ca:CE):CI:=fun ρ S=>(ca ρ S).bind fun p=>match p.1 with
 |.tup us=>some (us,fun _=>True,p.2)
 |.ref l=>match p.2[l]? with
  |some (.lst us)=>some (us,fun S=>S[l]?=some (.lst us),p.2)
  |_=>none
 |_=>none
theorem Eo{K:PySem.W.Frag}{m:List Addr}{H:Hp}{us:List U}{a:Addr}{xs:List V}(sq:SqT K H a xs)(il:IsL K m H xs us):yy K (Itt K a) m H us (fun _=>True):=by
 intro m2 S2 H2 i e2 sr2 _
 have sq2:=e2.keep.t _ _ sq
 have il2:=il.mono e2
 refine⟨fun u hu=>?_,fun hi=>⟨xs,sq2,by rw[il2.length];exact hi⟩⟩
 obtain⟨x,hx,ix⟩:=il2.getD hu
 refine⟨⟨xs,x,sq2,hx⟩,fun y H3 hy=>?_⟩
 obtain⟨rfl,hy⟩:=hy
 have:=hy xs sq2
 rw[hx]at this;cases this
 exact⟨.refl,sr2,ix⟩
theorem Ep{K:PySem.W.Frag}{m:List Addr}{H:Hp}{us:List U}{a:Addr}{l:Nat}(hl:m[l]?=some a):yy K (Itl K a) m H us (fun S=>S[l]?=some (.lst us)):=by
 intro m2 S2 H2 i e2 sr2 hok
 obtain⟨a',ha',xs,hx,il⟩:=sr2.get hok
 rw[e2.get hl]at ha'
 cases ha'
 refine⟨fun u hu=>?_,fun hi=>⟨xs,SqL.of hx,by rw[il.length];exact hi⟩⟩
 obtain⟨x,hx',ix⟩:=il.getD hu
 refine⟨⟨xs,x,SqL.of hx,hx'⟩,fun y H3 hy=>?_⟩
 obtain⟨rfl,hy⟩:=hy
 have:=hy xs (SqL.of hx)
 rw[hx']at this;cases this
 exact⟨.refl,sr2,ix⟩
theorem lH{tg:Expr}(h:QE X e ca):QI X tg e (iTp ca):=((zN h).or (wq h)).imp fun σ H R hz=>qZ hz fun m ρ S us ok S' sr lr hc post=>by
 obtain⟨⟨u,S1⟩,h1,h2⟩:=Option.bind_eq_some_iff.mp hc
 cases u with
 |tup ws=>
  cases h2
  refine .inl ⟨m,ρ,S,.tup us,_,sr,lr,h1,fun m1 v1 H1 e1 sr1 i1=>?_⟩
  obtain⟨a,xs,rfl,sq,il⟩:=i1.of_tup
  exact⟨a,rfl,⟨xs,sq⟩,post m1 H1 _ e1 sr1 (Eo sq il)⟩
 |ref l=>
  simp only at h2
  split at h2
  ·rename_i us' hS
   cases h2
   refine .inr ⟨m,ρ,S,.ref l,_,sr,lr,h1,fun m1 v1 H1 e1 sr1 i1=>?_⟩
   obtain⟨a,hl,rfl⟩:=i1.of_ref
   obtain⟨a',ha',xs,hx,il⟩:=sr1.get hS
   rw[hl]at ha';cases ha'
   exact⟨a,rfl,⟨xs,SqL.of hx⟩,post m1 H1 _ e1 sr1 (Ep hl)⟩
  ·cases h2
 |_=>simp at h2
def cH(lo:Int)(n:Nat):List U:=(List.range n).map fun i=>.int (lo+(i:Nat))
theorem xS{K:PySem.W.Frag}{m:List Addr}{H:Hp}{lo:Int}{n:Nat}:yy K (Itr lo n) m H (cH lo n) (fun _=>True):=by
 intro m2 S2 H2 i e2 sr2 _
 refine⟨fun u hu=>?_,fun hi=>by show n<=i;simpa [cH] using hi⟩
 unfold cH at hu
 rw[List.getElem?_map]at hu
 by_cases c:i<n
 ·rw[List.getElem?_range c]at hu
  simp at hu
  subst hu
  refine⟨c,fun y H3 hy=>?_⟩
  obtain⟨rfl,rfl⟩:=hy
  exact⟨.refl,sr2,.int_⟩
 ·rw[List.getElem?_eq_none (by simpa using c)]at hu
  cases hu
def d4(cr:CA):CI:=fun ρ S=>(cr ρ S).bind fun p=>match p.1 with
 |[.int j]=>if -(2^62)<=j/\j<2^62 then some (cH 0 j.toNat,fun _=>True,p.2)else none
 |_=>none
theorem fV{tg:Expr}{cr:CA}{p:Pos}(hg:Gl X "range")(hm:X.mg "range"=none)(ha:QA X [a] cr)(hs:starEach [a] X.env=[(false,eval a X.env)]:=by rfl):QI X tg (.Call (.Name "range" p) [a] [] pos) (d4 cr):=(rH hg hm ha.h hs).imp fun σ H R hz=>qZ hz fun m ρ S us ok S' sr lr hc post=>by
 obtain⟨⟨ws,S1⟩,h1,h2⟩:=Option.bind_eq_some_iff.mp hc
 simp only at h2
 split at h2
 ·rename_i j
  split at h2
  ·rename_i hj
   cases h2
   refine⟨m,ρ,S,_,S',sr,lr,h1,fun m1 v1 H1 e1 sr1 i1=>?_⟩
   obtain⟨x,r,rfl,ix,ir⟩:=i1.of_cons
   rw[ir.of_nil,ix.of_int]
   exact⟨j,rfl,hj.1,hj.2,post m1 H1 _ e1 sr1 xS⟩
  ·cases h2
 ·cases h2
end
def fI(g:Int->Int->Option U):U->U->Sto->Option (U×Sto)
 |.int i,.int j,S=>(g i j).bind fun u=>some (u,S)
 |_,_,_=>none
section
variable{X:Cx}{K:PySem.W.Frag}
theorem E5{C:Int->Int->Prop}{gV:Int->Int->V}{g:Int->Int->Option U}(h:∀i j u,g i j=some u->C i j/\∀m H,Is K m H (gV i j) u):OpP K (rI C gV) (fI g):=by
 intro m S H x y v w u S' Q sr ix iy hf post
 cases x<;>cases y<;>simp only[fI]at hf<;>try cases hf
 rename_i i j
 obtain⟨u1,h1,h2⟩:=Option.bind_eq_some_iff.mp hf
 cases h2
 obtain⟨hc,hi⟩:=h i j u h1
 exact⟨i,j,ix.of_int,iy.of_int,hc,post m _ H .refl sr (hi m H)⟩
theorem xw{gV:Int->Int->V}{g:Int->Int->Option U}(h:∀i j u,g i j=some u->∀m H,Is K m H (gV i j) u):OpP K (rI0 gV) (fI g):=by
 intro m S H x y v w u S' Q sr ix iy hf post
 cases x<;>cases y<;>simp only[fI]at hf<;>try cases hf
 rename_i i j
 obtain⟨u1,h1,h2⟩:=Option.bind_eq_some_iff.mp hf
 cases h2
 exact⟨i,j,ix.of_int,iy.of_int,post m _ H .refl sr (h i j u h1 m H)⟩
def wW(K:PySem.W.Frag):R2:=fun x y H Q=>∃a b xs ys,x=.ref a/\y=.ref b/\SqT K H a xs/\SqT K H b ys/\xs.length+ys.length<=sizeLine/\∀q H',pN H H'->SqT K H' q (xs++ys)->Q (.ref q) H'
theorem AY:OpR X (binaryOp .Add) (wW X.K):=by
 intro pins s σ H x y v u Q I rx ry h
 obtain⟨a,b,xs,ys,rfl,rfl,ha,hb,hz,q⟩:=h
 by_cases e:xs=[]
 ·cases rx
  cases ry
  obtain⟨its,r1,p1,_⟩:=I.tuple ha
  obtain⟨its2,r2,p2,_⟩:=I.tuple hb
  refine yn p1 p2 (r1.nil_iff.mpr e) ⟨.ref b,H,I,rfl,q b H (.refl _) (by rw[e];exact hb)⟩
 ·refine AX pins s σ H _ _ v u Q I rx ry ⟨a,b,xs,ys,rfl,rfl,ha,hb,e,hz,fun z=>q a H (.refl _) (by rw[z,List.append_nil];exact ha),fun _ p hp=>q p _ (cQ hp _) (SqT.of aJ)⟩
def ve:U->U->Sto->Option (U×Sto)
 |.tup a,.tup b,S=>if a.length+b.length<=LIM then some (.tup (a++b),S)else none
 |_,_,_=>none
theorem xt:OpP K (wW K) ve:=by
 intro m S H x y v w u S' Q sr ix iy hf post
 cases x<;>cases y<;>simp only[ve]at hf<;>try cases hf
 split at hf<;>try cases hf
 rename_i hl
 obtain⟨a,xs,rfl,sa,la⟩:=ix.of_tup
 obtain⟨b,ys,rfl,sb,lb⟩:=iy.of_tup
 refine⟨a,b,xs,ys,rfl,rfl,sa,sb,lim (by rw[la.length,lb.length];exact hl),fun q H' s sq=>?_⟩
 exact post m _ H' (.of (eN s)) (sr.same s) (.tup_ sq ((la.append lb).mono (.of (eN s))))
def mS:U->U->Sto->Option (U×Sto)
 |.ref l,.ref k,S=>match S[l]?,S[k]? with
  |some (.lst a),some (.lst b)=>if a.length+b.length<=LIM then some (.ref S.length,S++[.lst (a++b)])else none
  |_,_=>none
 |_,_,_=>none
theorem xy:OpP K E4 mS:=by
 intro m S H x y v w u S' Q sr ix iy hf post
 cases x<;>cases y<;>simp only[mS]at hf<;>try cases hf
 rename_i l k
 split at hf<;>try cases hf
 rename_i a b h1 h2
 split at hf<;>try cases hf
 rename_i hl
 obtain⟨p,hp,rfl⟩:=ix.of_ref
 obtain⟨q,hq,rfl⟩:=iy.of_ref
 obtain⟨p',hp',xs,hx,il⟩:=sr.get h1
 obtain⟨q',hq',ys,hy,il'⟩:=sr.get h2
 rw[hp]at hp';cases hp'
 rw[hq]at hq';cases hq'
 exact⟨p,q,xs,ys,rfl,rfl,hx,hy,lim (by rw[il.length,il'.length];exact hl),fun r hr=>dQ sr (il.append il') post hr⟩
def vf:U->U->Sto->Option (U×Sto)
 |.str a,.str b,S=>if a.length+b.length<=LIM then some (.str (a++b),S)else none
 |_,_,_=>none
theorem xv:OpP K (fun x y H Q=>∃i j,x=.str i/\y=.str j/\i.length+j.length<=sizeLine/\Q (.str (i++j)) H) vf:=by
 intro m S H x y v w u S' Q sr ix iy hf post
 cases x<;>cases y<;>simp only[vf]at hf<;>try cases hf
 split at hf<;>try cases hf
 rename_i hl
 exact⟨_,_,ix.of_str,iy.of_str,lim hl,post m _ H .refl sr .str_⟩
def lV:U->U->Sto->Option (U×Sto)
 |.int i,.int j,S=>some (.int (i+j),S)
 |.tup a,.tup b,S=>if a.length+b.length<=LIM then some (.tup (a++b),S)else none
 |.str a,.str b,S=>if a.length+b.length<=LIM then some (.str (a++b),S)else none
 |.ref l,.ref k,S=>mS (.ref l) (.ref k) S
 |_,_,_=>none
theorem iB:OpR X (binaryOp .Add) (fun x y H Q=>rI0 (fun i j=>.int (i+j)) x y H Q\/(E4 x y H Q\/(wW X.K x y H Q\/∃i j,x=.str i/\y=.str j/\i.length+j.length<=sizeLine/\Q (.str (i++j)) H))):=DZ.or (DY.or (AY.or rS))
theorem iw:OpP K (fun x y H Q=>rI0 (fun i j=>.int (i+j)) x y H Q\/(E4 x y H Q\/(wW K x y H Q\/∃i j,x=.str i/\y=.str j/\i.length+j.length<=sizeLine/\Q (.str (i++j)) H))) lV:=by
 intro m S H x y v w u S' Q sr ix iy hf post
 cases x<;>cases y<;>simp only[lV]at hf<;>try cases hf
 ·exact .inl ⟨_,_,ix.of_int,iy.of_int,post m _ H .refl sr .int_⟩
 ·exact .inr (.inr (.inr (xv m S H _ _ v w u S' Q sr ix iy hf post)))
 ·exact .inr (.inr (.inl (xt m S H _ _ v w u S' Q sr ix iy hf post)))
 ·exact .inr (.inl (xy m S H _ _ v w u S' Q sr ix iy hf post))
def Hm:=fI fun i j=>some (.int (i-j))
theorem GQ:OpP K (rI0 fun i j=>.int (i-j)) Hm:=xw fun i j u h m H=>by cases h;exact .int_
instance {i j:Int}:Decidable (zm i j):=by unfold zm;exact inferInstance
def ke:=fI fun i j=>if zm i j then some (.int (i*j))else none
theorem nL:OpP K (rI zm fun i j=>.int (i*j)) ke:=E5 fun i j u h=>by
 split at h
 ·rename_i c;cases h;exact⟨c,fun m H=>.int_⟩
 ·cases h
instance {i j:Int}:Decidable (sL i j):=by unfold sL;exact inferInstance
def ya:=fI fun i j=>if sL i j then some (.int (i / j))else none
theorem AU:OpP K (rI sL fun i j=>.int (i / j)) ya:=E5 fun i j u h=>by
 split at h
 ·rename_i c;cases h;exact⟨c,fun m H=>.int_⟩
 ·cases h
def nZ:=fI fun i j=>if 0<j then some (.int (i % j))else none
theorem oY:OpP K (rI (fun _ j=>0<j) fun i j=>.int (i % j)) nZ:=E5 fun i j u h=>by
 split at h
 ·rename_i c;cases h;exact⟨c,fun m H=>.int_⟩
 ·cases h
instance {i j:Int}:Decidable (BE i j):=by unfold BE;exact inferInstance
def BB:=fI fun i j=>if BE i j then some (.int (i^j.toNat))else none
theorem DT:OpP K (rI BE fun i j=>.int (i^j.toNat)) BB:=E5 fun i j u h=>by
 split at h
 ·rename_i c;cases h;exact⟨c,fun m H=>.int_⟩
 ·cases h
def fLt:=fI fun i j=>some (.bl (decide (i<j)))
def fLe:=fI fun i j=>some (.bl (decide (i<=j)))
def fGt:=fI fun i j=>some (.bl (decide (j<i)))
def fGe:=fI fun i j=>some (.bl (decide (j<=i)))
theorem GU:OpP K (rI0 fun i j=>.bl (decide (i<j))) fLt:=xw fun i j u h m H=>by cases h;exact .bl_
theorem Ja:OpP K (rI0 fun i j=>.bl (decide (j<i))) fGt:=xw fun i j u h m H=>by cases h;exact .bl_
theorem Jb:OpP K (rI0 fun i j=>.bl (decide (j<=i))) fGe:=xw fun i j u h m H=>by cases h;exact .bl_
def eqS:U->U->Option Bool
 |.int i,.int j=>some (decide (i=j))
 |.bl i,.bl j=>some (decide (i=j))
 |.str i,.str j=>some (decide (i=j))
 |.non,.non=>some true
 |.non,.int _=>some false|.int _,.non=>some false
 |.non,.bl _=>some false|.bl _,.non=>some false
 |.non,.str _=>some false|.str _,.non=>some false
 |.int _,.str _=>some false|.str _,.int _=>some false
 |.bl _,.str _=>some false|.str _,.bl _=>some false
 |_,_=>none
def fEq:U->U->Sto->Option (U×Sto):=fun x y S=>(eqS x y).bind fun b=>some (.bl b,S)
def fNe:U->U->Sto->Option (U×Sto):=fun x y S=>(eqS x y).bind fun b=>some (.bl (!b),S)
theorem zb{m:List Addr}{H:Hp}{x y:U}{v w:V}{b:Bool}(ix:Is K m H v x)(iy:Is K m H w y)(h:eqS x y=some b):Gy v w=true/\decide (v=w)=b:=by
 cases x<;>cases y<;>simp only[eqS]at h<;>(first|cases h|skip)
 all_goals
  (first|(have e1:=ix.of_int)|(have e1:=ix.of_bl)|(have e1:=ix.of_str)|(have e1:=ix.of_non))
  (first|(have e2:=iy.of_int)|(have e2:=iy.of_bl)|(have e2:=iy.of_str)|(have e2:=iy.of_non))
  subst e1 e2
  exact⟨rfl,by simp⟩
theorem qF:OpP K rEq fEq:=by
 intro m S H x y v w u S' Q sr ix iy hf post
 obtain⟨b,h1,h2⟩:=Option.bind_eq_some_iff.mp hf
 cases h2
 obtain⟨e1,e2⟩:=zb ix iy h1
 exact⟨e1,by rw[e2];exact post m _ H .refl sr .bl_⟩
theorem GS:OpP K rNe fNe:=by
 intro m S H x y v w u S' Q sr ix iy hf post
 obtain⟨b,h1,h2⟩:=Option.bind_eq_some_iff.mp hf
 cases h2
 obtain⟨e1,e2⟩:=zb ix iy h1
 exact⟨e1,by rw[e2];exact post m _ H .refl sr .bl_⟩
def o9:U->Bool
 |.non=>true
 |_=>false
def EA:U->U->Sto->Option (U×Sto)
 |x,.non,S=>some (.bl (o9 x),S)
 |_,_,_=>none
theorem xU{m:List Addr}{H:Hp}{x:U}{v:V}(ix:Is K m H v x):decide (v=.non)=o9 x:=by
 cases x with
 |non=>rw[ix.of_non];rfl
 |bl b=>rw[ix.of_bl];rfl
 |int i=>rw[ix.of_int];rfl
 |str i=>rw[ix.of_str];rfl
 |tup us=>obtain⟨a,xs,rfl,_⟩:=ix.of_tup;rfl
 |ref l=>obtain⟨a,_,rfl⟩:=ix.of_ref;rfl
 |kl ns=>obtain⟨a,rfl,_⟩:=ix.of_kl;rfl
theorem DV:OpP K (fun x y H Q=>y=.non/\Q (.bl (decide (x=.non))) H) EA:=by
 intro m S H x y v w u S' Q sr ix iy hf post
 cases y<;>simp only[EA]at hf<;>cases hf
 exact⟨iy.of_non,by rw[xU ix];exact post m _ H .refl sr .bl_⟩
section
variable{κ:Type}[DecidableEq κ]
def br{α:Type}(kvs:List (κ×α))(k:κ):Option α:=(kvs.find? fun kv=>decide (kv.1=k)).map (·.2)
def ig{α:Type}(kvs:List (κ×α))(k:κ)(v:α):List (κ×α):=
 if (kvs.any fun kv=>decide (kv.1=k))=true then kvs.map (fun kv=>if kv.1=k then(kv.1,v)else kv)else kvs++[(k,v)]
variable{m:List Addr}{H:Hp}{kvs:List (κ×V)}{kus:List (κ×U)}{k:κ}{v:V}{u:U}
theorem IsP.val(h:IsP K m H kvs kus):Rf K m H (mr kvs k) (br kus k):=by
 refine IsP.ind (P:=fun kvs kus=>Rf K m H (mr kvs k) (br kus k)) trivial (fun k' v u kvs kus i _ ih=>?_) h
 by_cases e:k'=k
 ·subst e
  simp[mr,br,List.find?_cons,Rf,i]
 ·simp only[mr,br,List.find?_cons,decide_eq_false e]at ih ⊢
  exact ih
theorem IsP.any_(h:IsP K m H kvs kus):(kvs.any fun kv=>decide (kv.1=k))=(kus.any fun kv=>decide (kv.1=k)):=
 IsP.ind (P:=fun kvs kus=>(kvs.any fun kv=>decide (kv.1=k))=(kus.any fun kv=>decide (kv.1=k))) rfl (fun k' v u kvs kus i _ ih=>by simp only[List.any_cons,ih]) h
theorem IsP.append{kvs':List (κ×V)}{kus':List (κ×U)}(h:IsP K m H kvs kus)(h':IsP K m H kvs' kus'):IsP K m H (kvs++kvs') (kus++kus'):=⟨by simp[h.1,h'.1],by simpa using h.2.append h'.2⟩
theorem IsP.put(h:IsP K m H kvs kus)(i:Is K m H v u):IsP K m H (oN kvs k v) (ig kus k u):=by
 unfold oN ig
 rw[h.any_]
 split
 ·refine IsP.ind (P:=fun kvs kus=>IsP K m H (kvs.map fun kv=>if kv.1=k then(kv.1,v)else kv) (kus.map fun kv=>if kv.1=k then(kv.1,u)else kv)) .nil_ (fun k' v' u' kvs kus i' _ ih=>?_) h
  simp only[List.map_cons]
  by_cases e:k'=k
  ·simp only[e,if_true];exact .cons_ i ih
  ·simp only[e,if_false];exact .cons_ i' ih
 ·exact h.append (.cons_ i .nil_)
end
def jr:U->Option Key
 |.int i=>some (.inl i)
 |.str x=>some (.inr x)
 |_=>none
theorem gO{m:List Addr}{H:Hp}{x:U}{v:V}{k:Key}(ix:Is K m H v x)(h:jr x=some k):v=kV k:=by
 cases x<;>simp only[jr]at h<;>cases h
 ·exact ix.of_int
 ·exact ix.of_str
def eR:U->Bool
 |.non=>true|.bl _=>true|.int _=>true|.str _=>true|_=>false
def eqF:U->U->Bool
 |.non,.non=>true
 |.bl a,.bl b=>a == b
 |.bl a,.int b=>(if a then 1 else 0) == b
 |.int a,.bl b=>a == (if b then 1 else 0)
 |.int a,.int b=>a == b
 |.str a,.str b=>a == b
 |_,_=>false
def inU(x:U)(us:List U):Bool:=us.any fun y=>eqF y x
theorem pz{m:List Addr}{H:Hp}{x:U}{v:V}(ix:Is K m H v x)(h:eR x=true):kS v=true:=by
 cases x with
 |non=>rw[ix.of_non];rfl
 |bl b=>rw[ix.of_bl];rfl
 |int i=>rw[ix.of_int];rfl
 |str i=>rw[ix.of_str];rfl
 |tup us=>cases h
 |ref l=>cases h
 |kl l=>cases h
theorem EE{m:List Addr}{H:Hp}{x y:U}{v w:V}(ix:Is K m H v x)(iy:Is K m H w y)(hx:eR x=true)(hy:eR y=true):eqV v w=eqF x y:=by
 cases x<;>(first|cases hx|skip)<;>cases y<;>(first|cases hy|skip)
 all_goals
  (first|(have e1:=ix.of_int)|(have e1:=ix.of_bl)|(have e1:=ix.of_str)|(have e1:=ix.of_non))
  (first|(have e2:=iy.of_int)|(have e2:=iy.of_bl)|(have e2:=iy.of_str)|(have e2:=iy.of_non))
  subst e1 e2
  rfl
theorem mR{m:List Addr}{H:Hp}:∀{xs:List V} {us:List U},IsL K m H xs us->us.all eR=true->xs.all kS=true
 |xs,[],h,_=>by rw[h.of_nil];rfl
 |xs,u::us,h,k=>by
  obtain⟨x,r,rfl,i,t⟩:=h.of_cons
  rw[List.all_cons,Bool.and_eq_true]at k ⊢
  exact⟨pz i k.1,mR t k.2⟩
theorem u6{m:List Addr}{H:Hp}{x:U}{v:V}(ix:Is K m H v x)(hx:eR x=true):∀{xs:List V} {us:List U},IsL K m H xs us->us.all eR=true->inV v xs=inU x us
 |xs,[],h,_=>by rw[h.of_nil];rfl
 |xs,u::us,h,k=>by
  obtain⟨y,r,rfl,i,t⟩:=h.of_cons
  rw[List.all_cons,Bool.and_eq_true]at k
  have ih:=u6 ix hx t k.2
  unfold inV inU at ih ⊢
  rw[List.any_cons,List.any_cons,ih,EE i ix k.1 hx]
theorem _root_.L2.DGet.kz{H:Hp}{a:Addr}{ob:Obj}{kvs:List (Key×V)}{k:Key}(e:H a=some (.frz ob (.dK kvs))):DGet H a (kV k) (mr kvs k):=.inl ⟨kvs,k,.inr ⟨ob,e⟩,rfl,rfl⟩
def fIn(neg:Bool):U->U->Sto->Option (U×Sto):=fun x y S=>match y with
 |.tup us=>if eR x=true/\us.all eR=true then some (.bl (if neg then !inU x us else inU x us),S)else none
 |.ref l=>match S[l]? with
  |some (.lst us)=>if eR x=true/\us.all eR=true then some (.bl (if neg then !inU x us else inU x us),S)else none
  |some (.dic kus)=>(jr x).bind fun k=>some (.bl (if neg then !(br kus k).isSome else(br kus k).isSome),S)
  |some (.fdc ep kus)=>(jr x).bind fun k=>some (.bl (if neg then !(br kus k).isSome else(br kus k).isSome),S)
  |_=>none
 |_=>none
theorem Rf.isSome{m:List Addr}{H:Hp}{v:Option V}{u:Option U}(h:Rf K m H v u):v.isSome=u.isSome:=by
 cases v<;>cases u<;>first|rfl|exact h.elim
theorem uZ{ca cb:CE}{neg:Bool}(t2:TE->TE->TE)(h2:∀ta tb σ H Q,(ta σ H fun y H1=>tb σ H1 fun x H2=>∃a o,x=.ref a/\DGet H2 a y o/\Q (.bl (if neg then !o.isSome else o.isSome)) H2)->t2 ta tb σ H Q):∀σ H Q,tE K (cOp (fIn neg) ca cb) σ H Q->tOp (rIn K neg) (tE K ca) (tE K cb) σ H Q\/t2 (tE K ca) (tE K cb) σ H Q:=by
 rintro σ H Q ⟨m,ρ,S,u,S',sr,lr,hc,post⟩
 obtain⟨⟨x,S1⟩,h1,h⟩:=Option.bind_eq_some_iff.mp hc
 obtain⟨⟨y,S2⟩,h3,h4⟩:=Option.bind_eq_some_iff.mp h
 cases y with
 |tup us=>
  simp only[fIn]at h4
  split at h4<;>try cases h4
  rename_i hf
  refine .inl ⟨m,ρ,S,x,S1,sr,lr,h1,fun m1 v1 H1 e1 sr1 i1=>⟨m1,ρ,S1,.tup us,S',sr1,lr.mono e1,h3,fun m2 v2 H2 e2 sr2 i2=>?_⟩⟩
  obtain⟨a,xs,rfl,sa,la⟩:=i2.of_tup
  refine⟨a,xs,rfl,.inr sa,pz (i1.mono e2) hf.1,mR la hf.2,?_⟩
  rw[u6 (i1.mono e2) hf.1 la hf.2]
  exact post m2 _ H2 (e1.trans e2) sr2 .bl_
 |ref l=>
  simp only[fIn]at h4
  split at h4<;>try cases h4
  ·rename_i us hS
   split at h4<;>try cases h4
   rename_i hf
   refine .inl ⟨m,ρ,S,x,S1,sr,lr,h1,fun m1 v1 H1 e1 sr1 i1=>⟨m1,ρ,S1,.ref l,S',sr1,lr.mono e1,h3,fun m2 v2 H2 e2 sr2 i2=>?_⟩⟩
   obtain⟨a,ha,rfl⟩:=i2.of_ref
   obtain⟨a',ha',xs,hx,la⟩:=sr2.get hS
   rw[ha]at ha';cases ha'
   refine⟨a,xs,rfl,.inl (SqL.of hx),pz (i1.mono e2) hf.1,mR la hf.2,?_⟩
   rw[u6 (i1.mono e2) hf.1 la hf.2]
   exact post m2 _ H2 (e1.trans e2) sr2 .bl_
  ·rename_i kus hS
   obtain⟨k,hk,h5⟩:=Option.bind_eq_some_iff.mp h4
   cases h5
   refine .inr (h2 _ _ _ _ _ ⟨m,ρ,S,x,S1,sr,lr,h1,fun m1 v1 H1 e1 sr1 i1=>⟨m1,ρ,S1,.ref l,S',sr1,lr.mono e1,h3,fun m2 v2 H2 e2 sr2 i2=>?_⟩⟩)
   obtain⟨a,ha,rfl⟩:=i2.of_ref
   obtain⟨a',ha',kvs,hx,ip⟩:=sr2.get hS
   rw[ha]at ha';cases ha'
   have ek:=gO (i1.mono e2) hk
   subst ek
   refine⟨a,_,rfl,DGet.k hx,?_⟩
   rw[(IsP.val ip).isSome]
   exact post m2 _ H2 (e1.trans e2) sr2 .bl_
  ·rename_i ep kus hS
   obtain⟨k,hk,h5⟩:=Option.bind_eq_some_iff.mp h4
   cases h5
   refine .inr (h2 _ _ _ _ _ ⟨m,ρ,S,x,S1,sr,lr,h1,fun m1 v1 H1 e1 sr1 i1=>⟨m1,ρ,S1,.ref l,S',sr1,lr.mono e1,h3,fun m2 v2 H2 e2 sr2 i2=>?_⟩⟩)
   obtain⟨a,ha,rfl⟩:=i2.of_ref
   obtain⟨a',ha',ob,es,kvs,hx,hd,ip⟩:=sr2.get hS
   rw[ha]at ha';cases ha'
   have ek:=gO (i1.mono e2) hk
   subst ek
   refine⟨a,_,rfl,DGet.kz hx,?_⟩
   rw[(IsP.val ip).isSome]
   exact post m2 _ H2 (e1.trans e2) sr2 .bl_
 |_=>simp[fIn]at h4
variable{e a b c:Expr}{ca cb cc:CE}{pos:Pos}
theorem Ap(hu:X.A.units+1<cLine)(ha:QE X a ca)(hb:QE X b cb)(hm:behindInMarks .In b=false):QT X (.Compare a [.In] [b] pos) (aN (cOp (fIn false) ca cb)):=
 ((mi ux ha hb hm).or (sT (zW hu ha hb) hm)).imp (ju (uZ (neg:=false) Gx fun _ _ _ _ _ h=>h))
theorem Ar(hu:X.A.units+1<cLine)(ha:QE X a ca)(hb:QE X b cb)(hm:behindInMarks .NotIn b=false):QE X (.Compare a [.NotIn] [b] pos) (cOp (fIn true) ca cb):=
 ((qe ja ha hb hm).or (zT (lA hu ha hb) hm)).imp (uZ (neg:=true) mw fun _ _ _ _ _ h=>h)
theorem wX(hu:X.A.units+1<cLine)(ha:QE X a ca)(hb:QE X b cb)(hm:behindInMarks .NotIn b=false):QT X (.Compare a [.NotIn] [b] pos) (aN (cOp (fIn true) ca cb)):=
 ((mi ja ha hb hm).or (sT (lA hu ha hb) hm)).imp (ju (uZ (neg:=true) mw fun _ _ _ _ _ h=>h))
def fIx:U->U->Sto->Option (U×Sto):=fun x y S=>match x with
 |.tup us=>match y with
  |.int i=>(atI us i).bind fun u=>some (u,S)
  |_=>none
 |.ref l=>match S[l]? with
  |some (.lst us)=>(match y with
   |.int i=>(atI us i).bind fun u=>some (u,S)
   |_=>none)
  |some (.dic kus)=>(jr y).bind fun k=>(br kus k).bind fun u=>some (u,S)
  |some (.fdc ep kus)=>(jr y).bind fun k=>(br kus k).bind fun u=>some (u,S)
  |_=>none
 |.kl ns=>match y with
  |.int i=>(atI (ns.map U.int) i).bind fun u=>some (u,S)
  |_=>none
 |_=>none
theorem qV{K:PySem.W.Frag}{m:List Addr}{H:Hp}:∀ns:List Int,IsL K m H (ns.map V.int) (ns.map U.int)
 |[]=>.nil_
 |n::ns=>.cons_ .int_ (qV ns)
theorem vP{m:List Addr}{H:Hp}{xs:List V}{us:List U}{i:Int}{u:U}(l:IsL K m H xs us)(h:atI us i=some u):∃v,atI xs i=some v/\Is K m H v u:=by
 unfold atI at h ⊢
 rw[l.length]
 obtain⟨j,e1,e2⟩:=Option.bind_eq_some_iff.mp h
 rw[e1]
 obtain⟨v,e3,e4⟩:=l.getD e2
 exact⟨v,e3,e4⟩
theorem cW(hu:X.A.units+1<cLine)(ha:QE X a ca)(hb:QE X b cb)(hs:pO b)(hs2:Fh b):QE X (.Subscript a b pos) (cOp fIx ca cb):=
 ((CF (A7.or En) ha hb hs).or (wy hu ha hb hs2)).imp fun σ H Q hz=>kf hz fun m ρ S u S' sr lr hc post=>by
 obtain⟨⟨x,S1⟩,h1,h⟩:=Option.bind_eq_some_iff.mp hc
 obtain⟨⟨y,S2⟩,h3,h4⟩:=Option.bind_eq_some_iff.mp h
 cases x with
 |tup us=>
  simp only[fIx]at h4
  split at h4<;>try cases h4
  rename_i i
  obtain⟨w,hw,h5⟩:=Option.bind_eq_some_iff.mp h4
  cases h5
  refine .inl ⟨m,ρ,S,_,S1,sr,lr,h1,fun m1 v1 H1 e1 sr1 i1=>⟨m1,ρ,S1,_,S',sr1,lr.mono e1,h3,fun m2 v2 H2 e2 sr2 i2=>.inr ?_⟩⟩
  obtain⟨a,xs,rfl,sa,la⟩:=(i1.mono e2).of_tup
  obtain⟨z,ez,iz⟩:=vP la hw
  exact⟨a,xs,i,z,rfl,i2.of_int,sa,ez,post m2 _ H2 (e1.trans e2) sr2 iz⟩
 |ref l=>
  simp only[fIx]at h4
  split at h4<;>try cases h4
  ·rename_i us hS
   split at h4<;>try cases h4
   rename_i i
   obtain⟨w,hw,h5⟩:=Option.bind_eq_some_iff.mp h4
   cases h5
   refine .inl ⟨m,ρ,S,_,S1,sr,lr,h1,fun m1 v1 H1 e1 sr1 i1=>⟨m1,ρ,S1,_,S',sr1,lr.mono e1,h3,fun m2 v2 H2 e2 sr2 i2=>.inl ?_⟩⟩
   obtain⟨a,ha,rfl⟩:=(i1.mono e2).of_ref
   obtain⟨a',ha',xs,hx,la⟩:=sr2.get hS
   rw[ha]at ha';cases ha'
   obtain⟨z,ez,iz⟩:=vP la hw
   exact⟨a,xs,i,z,rfl,i2.of_int,SqL.of hx,ez,post m2 _ H2 (e1.trans e2) sr2 iz⟩
  ·rename_i kus hS
   obtain⟨k,hk,h5⟩:=Option.bind_eq_some_iff.mp h4
   obtain⟨w,hw,h6⟩:=Option.bind_eq_some_iff.mp h5
   cases h6
   refine .inr ⟨m,ρ,S,_,S1,sr,lr,h1,fun m1 v1 H1 e1 sr1 i1=>⟨m1,ρ,S1,_,S',sr1,lr.mono e1,h3,fun m2 v2 H2 e2 sr2 i2=>?_⟩⟩
   obtain⟨a,ha,rfl⟩:=(i1.mono e2).of_ref
   obtain⟨a',ha',kvs,hx,ip⟩:=sr2.get hS
   rw[ha]at ha';cases ha'
   have ek:=gO i2 hk
   subst ek
   have rf:=IsP.val (k:=k) ip
   rw[hw]at rf
   cases hv:mr kvs k with
   |none=>rw[hv]at rf;exact rf.elim
   |some z=>
    rw[hv]at rf
    exact⟨a,z,rfl,by have:=DGet.k (k:=k) hx;rw[hv]at this;exact this,post m2 _ H2 (e1.trans e2) sr2 rf⟩
  ·rename_i ep kus hS
   obtain⟨k,hk,h5⟩:=Option.bind_eq_some_iff.mp h4
   obtain⟨w,hw,h6⟩:=Option.bind_eq_some_iff.mp h5
   cases h6
   refine .inr ⟨m,ρ,S,_,S1,sr,lr,h1,fun m1 v1 H1 e1 sr1 i1=>⟨m1,ρ,S1,_,S',sr1,lr.mono e1,h3,fun m2 v2 H2 e2 sr2 i2=>?_⟩⟩
   obtain⟨a,ha,rfl⟩:=(i1.mono e2).of_ref
   obtain⟨a',ha',ob,es,kvs,hx,hd,ip⟩:=sr2.get hS
   rw[ha]at ha';cases ha'
   have ek:=gO i2 hk
   subst ek
   have rf:=IsP.val (k:=k) ip
   rw[hw]at rf
   cases hv:mr kvs k with
   |none=>rw[hv]at rf;exact rf.elim
   |some z=>
    rw[hv]at rf
    exact⟨a,z,rfl,by have:=DGet.kz (k:=k) hx;rw[hv]at this;exact this,post m2 _ H2 (e1.trans e2) sr2 rf⟩
 |kl ns=>
  simp only[fIx]at h4
  split at h4<;>try cases h4
  rename_i i
  obtain⟨w,hw,h5⟩:=Option.bind_eq_some_iff.mp h4
  cases h5
  refine .inl ⟨m,ρ,S,_,S1,sr,lr,h1,fun m1 v1 H1 e1 sr1 i1=>⟨m1,ρ,S1,_,S',sr1,lr.mono e1,h3,fun m2 v2 H2 e2 sr2 i2=>.inl ?_⟩⟩
  obtain⟨a,rfl,ka⟩:=(i1.mono e2).of_kl
  obtain⟨z,ez,iz⟩:=vP (qV (K:=X.K) (m:=m2) (H:=H2) ns) hw
  exact⟨a,_,i,z,rfl,i2.of_int,ka.sq,ez,post m2 _ H2 (e1.trans e2) sr2 iz⟩
 |_=>simp[fIx]at h4
def kc:U->U->U->Sto->Option Sto:=fun o i v S=>match o with
 |.ref l=>match S[l]? with
  |some (.lst us)=>(match i with
   |.int k=>(ixN us.length k).bind fun j=>some (S.set l (.lst (us.set j v)))
   |_=>none)
  |some (.dic kus)=>(jr i).bind fun k=>if kus.length<LIM then some (S.set l (.dic (ig kus k v)))else none
  |_=>none
 |_=>none
def d7(co ci cv:CE):CS:=fun ρ S=>(cv ρ S).bind fun p=>(co ρ p.2).bind fun q=>(ci ρ q.2).bind fun r=>(kc q.1 r.1 p.1 r.2).bind fun S'=>some (.nx,ρ,S')
theorem cR{o i:Expr}{co ci cv:CE}{pos':Pos}(hu:X.A.units+1<cLine)(ho:QE X o co)(hi:QE X i ci)(hv:QE X e cv)
  (hs0:swapsWithSole [.Subscript o i pos'] e pos.line X.env=pure false:=by rfl) (hw:swappedStores [.Subscript o i pos'] e X.env=pure none:=by rfl)
  (h1:(assignEach [.Subscript o i pos'] X.env).map (·.2)=[assign (.Subscript o i pos') X.env]:=by rfl)
  (hs:swapsWith e (some (.Subscript o i pos')) pos.line X.env=pure false:=by rfl)
  (ha:∀v,assign (.Subscript o i pos') X.env v=(do
   let ov <-holding [v] (eval o X.env)
   let iv <-holding [v,ov] (eval i X.env)
   standAt pos'
   holding [v,ov,iv] (setItem ov iv v)
   release [v,ov,iv] []):=by intro _;rfl):QS X (.Assign [.Subscript o i pos'] e pos) (d7 co ci cv):=
 ((sX hv (zP ho hi wL ha) hs0 hw h1).or (pY hu ho hi hv hs)).imp fun D σ H hz=>qZ hz fun m ρ S o ρ' S' sr lr hc post=>by
 obtain⟨⟨v,S1⟩,h1,h⟩:=Option.bind_eq_some_iff.mp hc
 obtain⟨⟨ou,S2⟩,h2,h⟩:=Option.bind_eq_some_iff.mp h
 obtain⟨⟨iu,S3⟩,h3,h⟩:=Option.bind_eq_some_iff.mp h
 obtain⟨S4,h4,h⟩:=Option.bind_eq_some_iff.mp h
 cases h
 cases ou with
 |ref l=>
  simp only[kc]at h4
  split at h4<;>try cases h4
  ·rename_i us hS
   split at h4<;>try cases h4
   rename_i k
   obtain⟨j,hj,h5⟩:=Option.bind_eq_some_iff.mp h4
   cases h5
   refine .inl ⟨m,ρ,S,v,S1,sr,lr,h1,fun m1 v1 H1 e1 sr1 i1=>⟨m1,ρ,S1,_,S2,sr1,lr.mono e1,h2,fun m2 v2 H2 e2 sr2 i2=>⟨m2,ρ,S2,_,S3,sr2,lr.mono (e1.trans e2),h3,fun m3 v3 H3 e3 sr3 i3=>?_⟩⟩⟩
   obtain⟨a,ha,rfl⟩:=(i2.mono e3).of_ref
   obtain⟨a',ha',xs,hx,la⟩:=sr3.get hS
   rw[ha]at ha';cases ha'
   have e13:=(e1.trans e2).trans e3
   have ek:Ext X.K m3 H3 m3 (upd H3 a (.lst (xs.set j v1))):=.of (sr3.keep ha _)
   refine⟨a,xs,k,j,rfl,i3.of_int,hx,by rw[la.length];exact hj,post m3 σ _ (e13.trans ek) (sr3.put ha ⟨_,aJ,((la.set (i1.mono (e2.trans e3)))).mono ek⟩) (lr.mono (e13.trans ek))⟩
  ·rename_i kus hS
   obtain⟨k,hk,h5⟩:=Option.bind_eq_some_iff.mp h4
   split at h5<;>try cases h5
   have eF:kus.length<LIM:=by assumption
   refine .inr ⟨m,ρ,S,v,S1,sr,lr,h1,fun m1 v1 H1 e1 sr1 i1=>⟨m1,ρ,S1,_,S2,sr1,lr.mono e1,h2,fun m2 v2 H2 e2 sr2 i2=>⟨m2,ρ,S2,_,S3,sr2,lr.mono (e1.trans e2),h3,fun m3 v3 H3 e3 sr3 i3=>?_⟩⟩⟩
   obtain⟨a,ha,rfl⟩:=(i2.mono e3).of_ref
   obtain⟨a',ha',kvs,hx,ip⟩:=sr3.get hS
   rw[ha]at ha';cases ha'
   have ek:=gO i3 hk
   subst ek
   have e13:=(e1.trans e2).trans e3
   have ee:Ext X.K m3 H3 m3 (upd H3 a (.dK (oN kvs k v1))):=.of (sr3.keep ha _)
   exact⟨a,_,rfl,zk.k hx (Ea (by rw[IsP.length ip];exact eF)),post m3 σ _ (e13.trans ee) (sr3.put ha ⟨_,aJ,(IsP.put ip (i1.mono (e2.trans e3))).mono ee⟩) (lr.mono (e13.trans ee))⟩
 |_=>simp[kc]at h4
end
theorem iC{α:Type}[DecidableEq α]:∀{l l':List α},l.Nodup->(∀x∈l,x∈l')->l.length<=l'.length
 |[],_,_,_=>Nat.zero_le _
 |x::r,l',nd,s=>by
  obtain⟨h1,h2⟩:=List.nodup_cons.mp nd
  have hx:=s x List.mem_cons_self
  have:=iC (l:=r) (l':=l'.erase x) h2 fun y hy=>(List.mem_erase_of_ne (fun z=>h1 (by rw[<-z];exact hy))).mpr (s y (List.mem_cons_of_mem _ hy))
  rw[List.length_erase_of_mem hx]at this
  have hp:=List.length_pos_of_mem hx
  rw[List.length_cons]
  omega
theorem d0(f:Str)(v:V):∀fs:List (Str×V),(kP f v fs).map (·.1)=if f∈fs.map (·.1)then fs.map (·.1)else fs.map (·.1)++[f]
 |[]=>by simp[kP]
 |(g,x)::r=>by
  unfold kP
  by_cases e:g=f
  ·simp[e]
  ·have ih:=d0 f v r
   rw[if_neg e,List.map_cons,List.map_cons,ih]
   by_cases c:f∈r.map (·.1)
   ·rw[if_pos c,if_pos (List.mem_cons_of_mem _ c)]
   ·rw[if_neg c,if_neg (fun z=>by rcases List.mem_cons.mp z with z|z;exact e z.symm;exact c z)]
    rfl
section
variable{X:Cx}{K:PySem.W.Frag}{m:List Addr}{H:Hp}{c:Cl}{fs:List (Str×V)}{fus:List (Option U)}
theorem InF.room(h:InF K m H c fs fus):fs.length<1000:=by
 have:=iC h.knd h.sub
 rw[List.length_map]at this
 have:=h.few
 omega
theorem jW{f:Str}:∀{fs:List (Str×V)},f∉fs.map (·.1)->fs.lookup f=none
 |[],_=>rfl
 |(g,x)::r,h=>by
  rw[List.lookup_cons]
  have h1:(f == g)=false:=by
   apply beq_eq_false_iff_ne.mpr
   intro z;exact h (by rw[z];exact List.mem_cons_self)
  rw[h1]
  exact jW fun z=>h (List.mem_cons_of_mem _ z)
theorem InF.none_{f:Str}(h:InF K m H c fs fus)(hf:f∉c.ns):fs.lookup f=none:=jW fun z=>hf (h.sub f z)
theorem InF.put{f:Str}{i:Nat}{v:V}{u:U}(h:InF K m H c fs fus)(hi:c.ns[i]?=some f)(hv:Is K m H v u):InF K m H c (kP f v fs) (fus.set i (some u)):=by
 have hfm:f∈c.ns:=List.mem_of_getElem? hi
 refine⟨h.nd,h.few,?_,fun x hx=>?_,by simp[h.len],fun j x hj=>?_⟩
 ·rw[d0]
  split
  ·exact h.knd
  ·rename_i hn
   rw[List.nodup_append]
   exact⟨h.knd,by simp,fun a ha b hb z=>by simp at hb;subst hb;subst z;exact hn ha⟩
 ·rw[d0]at hx
  split at hx
  ·exact h.sub x hx
  ·rcases List.mem_append.mp hx with z|z
   ·exact h.sub x z
   ·simp at z;subst z;exact hfm
 ·rw[gN]
  by_cases e:i=j
  ·subst e
   rw[hi]at hj;cases hj
   rw[if_pos rfl]
   have:i<fus.length:=by rw[h.len];exact(List.getElem?_eq_some_iff.mp hi).1
   rw[List.getElem?_set_self this]
   exact hv
  ·have ne:x≠f:=fun z=>by
    subst z
    obtain⟨p1,e1⟩:=List.getElem?_eq_some_iff.mp hi
    obtain⟨p2,e2⟩:=List.getElem?_eq_some_iff.mp hj
    exact e ((List.getElem_inj h.nd).mp (e1.trans e2.symm))
   rw[if_neg ne,List.getElem?_set_ne e]
   exact h.at_ j x hj
theorem InF.new(nd:c.ns.Nodup)(few:c.ns.length<1000):InF K m H c [] (List.replicate c.ns.length none):=by
 refine⟨nd,few,by simp,fun x hx=>by simp at hx,by simp,fun i x hi=>?_⟩
 rw[List.getElem?_replicate]
 split<;>exact trivial
open Classical in
def EB(c:Cl)(i:Nat)(x:U)(S:Sto):Option (U×Sto):=match x with
 |.ref l=>match S[l]? with
  |some (.ins c' fus)=>if c'=c then(fus[i]?).join.bind fun u=>some (u,S)else none
  |_=>none
 |_=>none
def js(c:Cl)(i:Nat)(ca:CE):CE:=fun ρ S=>(ca ρ S).bind fun p=>EB c i p.1 p.2
open Classical in
def vg(c:Cl)(i:Nat)(x v:U)(S:Sto):Option Sto:=match x with
 |.ref l=>match S[l]? with
  |some (.ins c' fus)=>if c'=c then some (S.set l (.ins c (fus.set i (some v))))else none
  |_=>none
 |_=>none
def pH(c:Cl)(i:Nat)(ca cv:CE):CS:=fun ρ S=>(cv ρ S).bind fun p=>(ca ρ p.2).bind fun q=>(vg c i q.1 p.1 q.2).bind fun S'=>some (.nx,ρ,S')
variable{e:Expr}{ca cv:CE}{pos:Pos}{f:Str}{i:Nat}
theorem gK(hcl:Cls X.K c.C)(hna:gG X.K c.C f)(hi:c.ns[i]?=some f)(h:QE X e ca)(hb:attributeBase e f X.env (eval e X.env)=eval e X.env:=by rfl):QE X (.Attribute e f pos) (js c i ca):=(zS h hb).imp fun σ H Q hz=>kf hz fun m ρ S u S' sr lr hc post=>by
 obtain⟨⟨x,S1⟩,h1,h2⟩:=Option.bind_eq_some_iff.mp hc
 refine⟨m,ρ,S,x,S1,sr,lr,h1,fun m1 v1 H1 e1 sr1 i1=>?_⟩
 cases x with
 |ref l=>
  simp only[EB]at h2
  split at h2<;>try cases h2
  rename_i c' fus hS
  split at h2<;>try cases h2
  rename_i hc'
  subst hc'
  obtain⟨w,hw,h3⟩:=Option.bind_eq_some_iff.mp h2
  cases h3
  obtain⟨a,ha,rfl⟩:=i1.of_ref
  obtain⟨a',ha',dx,fs,hx,inf⟩:=sr1.get hS
  rw[ha]at ha';cases ha'
  have rf:=inf.at_ i f hi
  rw[hw]at rf
  cases hv:fs.lookup f with
  |none=>rw[hv]at rf;exact rf.elim
  |some z=>
   rw[hv]at rf
   exact⟨a,_,dx,fs,z,rfl,hx,hcl,hna,hv,post m1 _ H1 e1 sr1 rf⟩
 |_=>simp[EB]at h2
theorem jM{o:Expr}{co:CE}{pos':Pos}(hcl:Cls X.K c.C)(hna:gG X.K c.C f)(hi:c.ns[i]?=some f)(ho:QE X o co)(hv:QE X e cv)(hs:swapsWith e (some (.Attribute o f pos')) pos.line X.env=pure false:=by rfl):QS X (.Assign [.Attribute o f pos'] e pos) (pH c i co cv):=(zM ho hv hs).imp fun D σ H hz=>qZ hz fun m ρ S o ρ' S' sr lr hc post=>by
 obtain⟨⟨v,S1⟩,h1,h⟩:=Option.bind_eq_some_iff.mp hc
 obtain⟨⟨x,S2⟩,h2,h⟩:=Option.bind_eq_some_iff.mp h
 obtain⟨S3,h3,h⟩:=Option.bind_eq_some_iff.mp h
 cases h
 refine⟨m,ρ,S,v,S1,sr,lr,h1,fun m1 v1 H1 e1 sr1 i1=>⟨m1,ρ,S1,x,S2,sr1,lr.mono e1,h2,fun m2 v2 H2 e2 sr2 i2=>?_⟩⟩
 cases x with
 |ref l=>
  simp only[vg]at h3
  split at h3<;>try cases h3
  rename_i c' fus hS
  split at h3<;>try cases h3
  have hc':c'=c:=by assumption
  subst hc'
  obtain⟨a,ha,rfl⟩:=i2.of_ref
  obtain⟨a',ha',dx,fs,hx,inf⟩:=sr2.get hS
  rw[ha]at ha';cases ha'
  have ee:Ext X.K m2 H2 m2 (upd H2 a (.ins c'.C dx (kP f v1 fs))):=.of (sr2.keep ha _)
  have e12:=e1.trans e2
  exact⟨a,_,dx,fs,rfl,hx,hcl,hna,inf.room,post m2 σ _ (e12.trans ee) (sr2.put ha ⟨dx,_,aJ,(inf.put hi (i1.mono e2)).mono ee⟩) (lr.mono (e12.trans ee))⟩
 |_=>simp[vg]at h3
structure By(P:Program)(w:World)(K:PySem.W.Frag)(mg:Str->Option Value)(base:Heap)(c:Cl)(mn:Str)(k:Nat)(ps:List Str)(f:Fn):Prop where
 ex:∃fa fd,v8 K c.C mn fa/\kM P w K mg base CX0 k fa fd ps (wJ K f)/\fN K fd ps []
open Classical in
def vh(c:Cl)(f:Fn)(x:U)(S:Sto)(args:Sto->Option (List U×Sto)):Option (U×Sto):=match x with
 |.ref l=>match S[l]? with
  |some (.ins c' _)=>if c'=c then(args S).bind fun q=>f (.ref l::q.1) q.2 else none
  |_=>none
 |_=>none
def sD(c:Cl)(f:Fn)(ca:CE)(cr:CA):CE:=fun ρ S=>(ca ρ S).bind fun p=>vh c f p.1 p.2 (cr ρ)
theorem xG{mn:Str}{g:Fn}{co:CE}{cr:CA}(hmn:mn∉c.ns):∀σ H Q,tE K (sD c g co cr) σ H Q->Ad c.C mn (wJ K g) [] E0 (tE K co) (tA K cr) σ H Q:=by
 rintro σ H Q ⟨m,ρ,S,u,S',sr,lr,hc,post⟩
 obtain⟨⟨x,S1⟩,h1,h2⟩:=Option.bind_eq_some_iff.mp hc
 refine⟨m,ρ,S,x,S1,sr,lr,h1,fun m1 v1 H1 e1 sr1 i1=>?_⟩
 cases x with
 |ref l=>
  simp only[vh]at h2
  split at h2<;>try cases h2
  rename_i c' fus hS
  split at h2<;>try cases h2
  rename_i hc'
  subst hc'
  obtain⟨⟨us,S2⟩,h3,h4⟩:=Option.bind_eq_some_iff.mp h2
  obtain⟨a,ha,rfl⟩:=i1.of_ref
  obtain⟨a',ha',dx,fs,hx,inf⟩:=sr1.get hS
  rw[ha]at ha';cases ha'
  refine⟨a,dx,fs,rfl,hx,inf.none_ hmn,m1,ρ,S1,us,S2,sr1,lr.mono e1,h3,fun m2 vs H2 e2 sr2 i2=>?_⟩
  exact⟨m2,_,S2,u,S',.cons_ (i1.mono e2) (by simpa using i2),sr2,h4,post.mono (e1.trans e2)⟩
 |_=>simp[vh]at h2
theorem ud{mn:Str}{g:Fn}{k:Nat}{ps:List Str}{o:Expr}{es:List Expr}{co:CE}{cr:CA}{apos:Pos}{pl:Sem Bool}(hcl:Cls X.K c.C)(F:By X.prog X.w X.K X.mg X.base c mn k ps g)(hr:gw k X.A)(hmn:mn∉c.ns)(ho:QE X o co)(ha:QA X (e::es) cr)
  (hst:starEach (e::es) X.env=(false,eval e X.env)::starEach es X.env:=by rfl) (hpl:(backTo pos (starEach es X.env)).any (·.1)=false:=by rfl) (ht:eval (.Call (.Attribute o mn apos) (e::es) [] pos) X.env=(do
   let ov <-eval o X.env
   standAt apos.atName
   let (f,first) <-holding [ov] (getMethod ov mn pl)
   callWith pos f first (backTo pos (starEach (e::es) X.env)) (backToKw pos (keywordEach [] X.env))):=by rfl):QE X (.Call (.Attribute o mn apos) (e::es) [] pos) (sD c g co cr):=by
 obtain⟨fa,fd,hm,F,hb⟩:=F.ex
 exact(wx ho hcl hm F hr hb .nil AO ha.h hst hpl ht).imp (xG hmn)
structure CMk(P:Program)(w:World)(K:PySem.W.Frag)(mg:Str->Option Value)(base:Heap)(c:Cl)(x:Str)(k:Nat)(ps:List Str)(f:Fn):Prop where
 ex:∃fa fd,Mk K c.C fa/\kM P w K mg base CX0 k fa fd ps (wJ K f)/\fN K fd ps []/\mg x=some (.ref c.C)
 nd:c.ns.Nodup
 few:c.ns.length<1000
def so(c:Cl)(f:Fn):Fn:=fun us S=>(f (.ref S.length::us) (S++[.ins c (List.replicate c.ns.length none)])).bind fun p=>match p.1 with
 |.non=>some (.ref S.length,p.2)
 |_=>none
theorem xM{g:Fn}{cr:CA}(nd:c.ns.Nodup)(few:c.ns.length<1000):∀σ H Q,tE K (cCB (so c g) cr) σ H Q->Ae c.C (wJ K g) [] E0 (tA K cr) σ H Q:=by
 rintro σ H Q ⟨m,ρ,S,u,S',sr,lr,hc,post⟩
 obtain⟨⟨us,S1⟩,h1,h2⟩:=Option.bind_eq_some_iff.mp hc
 obtain⟨⟨w,S2⟩,h3,h4⟩:=Option.bind_eq_some_iff.mp h2
 refine⟨m,ρ,S,us,S1,sr,lr,h1,fun m1 vs H1 e1 sr1 i1 x dx hx hdx ne=>?_⟩
 cases w with
 |non=>
  cases h4
  have s1:pN H1 (upd H1 dx (.own x)):=cQ hdx _
  have hx2:(upd H1 dx (.own x)) x=none:=by rw[aV (Ne.symm ne)];exact hx
  have ee:Ext K m1 H1 (m1++[x]) (upd (upd H1 dx (.own x)) x (.ins c.C dx [])):=.new ⟨fun b xs q=>(bH hx2 _).t b xs ((eN s1).t b xs q),fun b xs q=>(bH hx2 _).l b xs ((eN s1).l b xs q)⟩
  refine⟨m1++[x],.ref S1.length::us,S1++[.ins c (List.replicate c.ns.length none)],.non,S2,.cons_ (.ref_ (dz sr1.len)) (by simpa using i1.mono ee),(sr1.same s1).new (o:=.ins c (List.replicate c.ns.length none)) hx2 ⟨dx,[],aJ,InF.new nd few⟩,h3,fun m2 v2 H2 e2 sr2 i2=>⟨i2.of_non,?_⟩⟩
  exact post m2 _ H2 ((e1.trans ee).trans e2) sr2 (.ref_ (e2.get (dz sr1.len)))
 |_=>simp at h4
theorem Au{x:Str}{g:Fn}{k:Nat}{ps:List Str}{p:Pos}(M:CMk X.prog X.w X.K X.mg X.base c x k ps g)(hr:gw (k+1) X.A)(hg:Gl X x)
  (hdb:(x == ("__debug__":Str))=false:=by decide):QE X (.Call (.Name x p) [] [] pos) (cCB (so c g) aL):=by
 obtain⟨fa,fd,hm,F,hb,hx⟩:=M.ex
 refine(tj hm F hr hg hx hb .nil AO hdb).imp fun σ H Q h=>?_
 obtain⟨m,ρ,S,us,S',sr,lr,hc,k⟩:=xM M.nd M.few σ H Q h
 cases hc
 exact k m [] H .refl sr .nil_
def kY:CE:=fun _ S=>some (.ref S.length,S++[.dic []])
theorem jP:QE X (.Dict [] [] pos) kY:=tu.imp fun σ H Q hz=>kf hz fun m ρ S u S' sr lr hc post=>by
 cases hc
 exact fun p hp=>post (m++[p]) _ _ (.new (bH hp _)) (sr.new hp ⟨[],aJ,.nil_⟩) (.ref_ (dz sr.len))
def sG(cd ck cx:CE):CE:=fun ρ S=>(cd ρ S).bind fun p=>match p.1 with
 |.ref l=>match p.2[l]? with
  |some (.dic _)=>(ck ρ p.2).bind fun q=>(cx ρ q.2).bind fun r=>match r.2[l]? with
   |some (.dic kus)=>(jr q.1).bind fun k=>some ((br kus k).getD r.1,r.2)
   |_=>none
  |_=>none
 |_=>none
theorem yT{o e f:Expr}{cd ck cx:CE}{apos:Pos}(hu:X.A.units+1<cLine)(ho:QE X o cd)(he:QE X e ck)(hf:QE X f cx)(hm:M2 X o "get" apos e f pos):QE X (.Call (.Attribute o "get" apos) [e,f] [] pos) (sG cd ck cx):=(tw hu ho he hf hm).imp fun σ H Q hz=>kf hz fun m ρ S u S' sr lr hc post=>by
 obtain⟨⟨x,S1⟩,h1,h⟩:=Option.bind_eq_some_iff.mp hc
 refine⟨m,ρ,S,x,S1,sr,lr,h1,fun m1 v1 H1 e1 sr1 i1=>?_⟩
 cases x with
 |ref l=>
  simp only at h
  split at h<;>try cases h
  rename_i kus0 hS
  obtain⟨⟨ku,S2⟩,h2,h⟩:=Option.bind_eq_some_iff.mp h
  obtain⟨⟨xu,S3⟩,h3,h⟩:=Option.bind_eq_some_iff.mp h
  simp only at h
  split at h<;>try cases h
  rename_i kus hS3
  obtain⟨k,hk,h⟩:=Option.bind_eq_some_iff.mp h
  cases h
  obtain⟨a,ha,rfl⟩:=i1.of_ref
  obtain⟨a',ha',kvs0,hx0,_⟩:=sr1.get hS
  rw[ha]at ha';cases ha'
  refine⟨a,rfl,.inl ⟨kvs0,.inl hx0⟩,m1,ρ,S1,ku,S2,sr1,lr.mono e1,h2,fun m2 v2 H2 e2 sr2 i2=>⟨m2,ρ,S2,xu,_,sr2,lr.mono (e1.trans e2),h3,fun m3 v3 H3 e3 sr3 i3=>?_⟩⟩
  obtain⟨a',ha',kvs,hx,ip⟩:=sr3.get hS3
  rw[(e2.trans e3).get ha]at ha';cases ha'
  have ek:=gO (i2.mono e3) hk
  subst ek
  have rf:=IsP.val (k:=k) ip
  refine⟨_,DGet.k hx,post m3 _ H3 ((e1.trans e2).trans e3) sr3 ?_⟩
  cases hv:mr kvs k with
  |none=>
   cases hw:br kus k with
   |none=>exact i3
   |some w=>rw[hv,hw]at rf;exact rf.elim
  |some v=>
   cases hw:br kus k with
   |none=>rw[hv,hw]at rf;exact rf.elim
   |some w=>rw[hv,hw]at rf;exact rf
 |_=>simp at h
end
def lG(n:Nat)(caps:List Nat)(ρ:Rho):Rho:=List.replicate n none++caps.map fun i=>(ρ[i]?).getD none
open Classical in
def ft(ok:Sto->Prop)(g:CG)(ce:CE)(l:Nat):List U->Rho->Sto->Option Sto
 |[],_,S=>if ok S then some S else none
 |u::us,ρ,S=>if ok S then(g u ρ S).bind fun p=>(ce p.1 p.2).bind fun r=>match r.2[l]? with
  |some (.lst ys)=>if ys.length<LIM then ft ok g ce l us p.1 (r.2.set l (.lst (ys++[r.1])))else none
  |_=>none else none
def iU(ci:CI)(g:CG)(ce:CE)(n:Nat)(caps:List Nat):CE:=fun ρ S=>(ci ρ S).bind fun p=>(ft p.2.1 g ce p.2.2.length p.1 (lG n caps ρ) (p.2.2++[.lst []])).bind fun S'=>some (.ref p.2.2.length,S')
section
variable{X:Cx}{K:PySem.W.Frag}
theorem uG{m:List Addr}{H:Hp}{ρ:Rho}{σ:L2.St}{n:Nat}{caps:List Nat}(lr:Lr K m H ρ σ):Lr K m H (lG n caps ρ) (OG.stC n caps σ):=by
 refine⟨by simp[lG,OG.stC],fun j u e=>?_⟩
 unfold lG at e
 unfold OG.stC
 by_cases c:j<n
 ·rw[List.getElem?_append_left (by simpa using c),List.getElem?_replicate]at e
  split at e<;>cases e
 ·rw[List.getElem?_append_right (by simp;omega),List.getElem?_map]at e ⊢
  simp only[List.length_replicate]at e ⊢
  cases q:caps[j-n]? with
  |none=>rw[q]at e;simp at e
  |some i=>
   rw[q]at e
   simp only[Option.map_some,Option.some.injEq]at e ⊢
   have e2:ρ[i]?=some (some u):=by
    cases z:ρ[i]? with
    |none=>rw[z]at e;simp at e
    |some y=>rw[z]at e;simp at e;rw[e]
   obtain⟨v,h1,h2⟩:=lr.at_ i u e2
   exact⟨v,by rw[h1];rfl,h2⟩
theorem vG{g:CG}{ce:CE}{n:Nat}{caps:List Nat}{J:It}{us:List U}{ok:Sto->Prop}{Q:VK}{m1:List Addr}{H1:Hp}{S1 S':Sto}{ρ:Rho}{σ:L2.St}{l:Addr}(sr1:Sr K m1 S1 H1)(lr:Lr K m1 H1 ρ σ)(ito:yy K J m1 H1 us ok)(hl:H1 l=none)(h2:ft ok g ce S1.length us (lG n caps ρ) (S1++[.lst []])=some S')
  (post:∀m2 H2,Ext K (m1++[l]) (upd H1 l (.lst [])) m2 H2->Sr K m2 S' H2->Q (.ref l) H2) :
  ∃W:Nat->Nat->L2.St->Hp->Prop,(∃m,W 0 m (OG.stC n caps σ) (upd H1 l (.lst [])))/\
 ∀i m σ' H2,W i m σ' H2->(J.stop i H2/\Q (.ref l) H2)\/(J.go i H2/\∃N:L2.St->Hp->Prop,(∀σ'' H',N σ'' H'->∃m',m'<m/\W (i+1) m' σ'' H')/\
  ∀x H3,J.yld i H2 x H3->tG K g x σ' H3 fun σ2 H4=>tE K ce σ2 H4 fun v H5=>∃ys,H5 l=some (.lst ys)/\ys.length<sizeLine/\N σ2 (upd H5 l (.lst (ys++[v])))):=by
 have ee:Ext K m1 H1 (m1++[l]) (upd H1 l (.lst [])):=.new (bH hl _)
 let W:Nat->Nat->L2.St->Hp->Prop:=fun i k σ2 H2=>k=us.length-i/\i<=us.length/\∃m2 ρ2 S2,Ext K (m1++[l]) (upd H1 l (.lst [])) m2 H2/\Sr K m2 S2 H2/\Lr K m2 H2 ρ2 σ2/\ft ok g ce S1.length (us.drop i) ρ2 S2=some S'
 refine⟨W,⟨us.length,by simp,Nat.zero_le _,m1++[l],lG n caps ρ,S1++[.lst []],.refl,sr1.new (o:=.lst []) hl ⟨[],aJ,.nil_⟩,uG (lr.mono ee),by simpa using h2⟩,?_⟩
 rintro i k σ2 H2 ⟨rfl,hi,m2,ρ2,S2,e2,sr2,lr2,hl2⟩
 by_cases hlt:i<us.length
 ·have hu:=List.getElem?_eq_getElem hlt
  rw[kj hu]at hl2
  unfold ft at hl2
  split at hl2
  ·rename_i hok
   obtain⟨⟨ρ3,S3⟩,h3,hl2⟩:=Option.bind_eq_some_iff.mp hl2
   obtain⟨⟨u4,S4⟩,h4,hl2⟩:=Option.bind_eq_some_iff.mp hl2
   simp only at hl2
   split at hl2<;>try cases hl2
   rename_i ys hys
   split at hl2<;>try cases hl2
   rename_i eF
   obtain⟨hgo,hy⟩:=(ito m2 S2 H2 i (ee.trans e2) sr2 hok).1 _ hu
   refine .inr ⟨hgo,W (i+1) (us.length-(i+1)),fun σ' H' w'=>⟨_,by omega,w'⟩,fun x H3 y=>?_⟩
   obtain⟨e3,sr3,ix⟩:=hy x H3 y
   refine⟨m2,ρ2,S2,_,ρ3,S3,sr3,lr2.mono e3,ix,h3,fun m4 σ4 H4 e4 sr4 lr4=>⟨m4,ρ3,S3,u4,S4,sr4,lr4,h4,fun m5 v5 H5 e5 sr5 i5=>?_⟩⟩
   obtain⟨a',ha',xs,hx,il⟩:=sr5.get hys
   have ha:m5[S1.length]?=some l:=(((e2.trans e3).trans e4).trans e5).get (dz sr1.len)
   rw[ha]at ha';cases ha'
   have eu:Ext K m5 H5 m5 (upd H5 l (.lst (xs++[v5]))):=.of (sr5.keep ha _)
   refine⟨xs,hx,Ea (by rw[il.length];exact eF),rfl,hlt,m5,ρ3,_,((((e2.trans e3).trans e4).trans e5).trans eu),sr5.put (o:=.lst (ys++[u4])) ha ⟨_,aJ,(il.append (.cons_ i5 .nil_)).mono eu⟩,(lr4.mono (e5.trans eu)),hl2⟩
  ·cases hl2
 ·have e:i=us.length:=by omega
  subst e
  rw[List.drop_length]at hl2
  unfold ft at hl2
  split at hl2
  ·rename_i hok
   cases hl2
   exact .inl ⟨(ito m2 _ H2 _ (ee.trans e2) sr2 hok).2 (Nat.le_refl _),post m2 H2 e2 sr2⟩
  ·cases hl2
theorem yk{ci:CI}{g:CG}{ce:CE}{n:Nat}{caps:List Nat}:∀σ H Q,tE K (iU ci g ce n caps) σ H Q->Af (tI K ci) (tG K g) (tE K ce) n caps σ H Q:=by
 rintro σ H Q ⟨m,ρ,S,u,S',sr,lr,hc,post⟩
 obtain⟨⟨us,ok,S1⟩,h1,h2⟩:=Option.bind_eq_some_iff.mp hc
 obtain⟨S2,h2,h3⟩:=Option.bind_eq_some_iff.mp h2
 cases h3
 refine⟨m,ρ,S,us,ok,S1,sr,lr,h1,fun m1 H1 J e1 sr1 ito l hl=>?_⟩
 have ee:Ext K m1 H1 (m1++[l]) (upd H1 l (.lst [])):=.new (bH hl _)
 exact vG sr1 (lr.mono e1) ito hl h2 fun m2 H2 e2 sr2=>post m2 _ H2 ((e1.trans ee).trans e2) sr2 (.ref_ (e2.get (dz sr1.len)))
theorem qy{Nc capN tn:List Str}{scope:Scope}{cl:List (Str×Addr)}{n:Nat}{caps:List Nat}{tg iter elt:Expr}{pos:Pos}{ci:CI}{g:CG}{ce:CE}
  (hc:X.calm=true) (hi:QI X tg iter ci) (hg:∀s3 H3 fp,WG (cxC X Nc scope cl s3 H3 fp) tg (tG X.K g)) (he:∀s3 H3 fp,WE (cxC X Nc scope cl s3 H3 fp) elt (tE X.K ce))
  (hclos:closureFor scope X.env=pure cl) (hkind:scope.kind=.function) (hnl:∀x∈scope.names,x.2=.local->scope.names.lookup x.1=some .local) (hcell:∀x∈scope.names,x.2≠.cell)
  (hcl:rF X.env cl) (hhas:((relabel scope X.env).names.all fun p=>!(p.2 == .cell||p.2 == .free)||(cl.lookup p.1).isSome)=true)
  (hcap:Paired (Cap X scope cl) caps capN) (hN:Nc=tn++capN) (hn:tn.length=n)
  (hs:∀x,foldedSetIterable iter X.env x=pure x:=by intro _;rfl) :
  QE X (.ListComp elt [⟨tg,iter,[],0⟩] scope pos) (iU ci g ce n caps):=(wz hc hi hg he hclos hkind hnl hcell hcl hhas hcap hN hn hs).imp yk
def oO:Fn
 |[.tup us],S=>some (.int us.length,S)
 |[.ref l],S=>match S[l]? with
  |some (.lst us)=>some (.int us.length,S)
  |some (.dic us)=>some (.int us.length,S)
  |_=>none
 |[.kl ns],S=>some (.int ns.length,S)
 |_,_=>none
abbrev HM(K:PySem.W.Frag):List V->Hp->VK->Prop:=fun xs H Q=>(∃p ys,xs=[.ref p]/\(SqL K H p ys\/SqT K H p ys)/\Q (.int ys.length) H)\/∃a kvs,xs=[V.ref a]/\H a=some (.dK kvs)/\Q (.int kvs.length) H
theorem o5:fF X (.builtin "len") (HM X.K):=oz.or vJ
theorem IsL.one{m:List Addr}{H:Hp}{vs:List V}{u:U}(h:IsL K m H vs [u]):∃v,vs=[v]/\Is K m H v u:=by
 obtain⟨x,r,rfl,i,t⟩:=h.of_cons
 rw[t.of_nil];exact⟨x,rfl,i⟩
theorem oZ:oM K (HM K) oO:=by
 intro m S H us vs u S' Q sr i hf post
 match us,hf with
 |[.tup ws],hf=>
  cases hf
  obtain⟨v,rfl,iv⟩:=i.one
  obtain⟨a,xs,rfl,sa,la⟩:=iv.of_tup
  exact .inl ⟨a,xs,rfl,.inr sa,by rw[la.length];exact post m _ H .refl sr .int_⟩
 |[.ref l],hf=>
  obtain⟨v,rfl,iv⟩:=i.one
  obtain⟨a,ha,rfl⟩:=iv.of_ref
  simp only[oO]at hf
  split at hf<;>try cases hf
  ·rename_i ws hS
   obtain⟨a',ha',xs,hx,la⟩:=sr.get hS
   rw[ha]at ha';cases ha'
   exact .inl ⟨a,xs,rfl,.inl (SqL.of hx),by rw[la.length];exact post m _ H .refl sr .int_⟩
  ·rename_i ws hS
   obtain⟨a',ha',xs,hx,la⟩:=sr.get hS
   rw[ha]at ha';cases ha'
   exact .inr ⟨a,xs,rfl,hx,by rw[IsP.length la];exact post m _ H .refl sr .int_⟩
 |[.kl ns],hf=>
  cases hf
  obtain⟨v,rfl,iv⟩:=i.one
  obtain⟨a,rfl,ka⟩:=iv.of_kl
  exact .inl ⟨a,_,rfl,.inl ka.sq,by rw[List.length_map];exact post m _ H .refl sr .int_⟩
def su:Fn
 |[.tup us],S=>some (.ref S.length,S++[.lst us])
 |[.ref l],S=>match S[l]? with
  |some (.lst us)=>some (.ref S.length,S++[.lst us])
  |_=>none
 |_,_=>none
theorem DU:oM K (fun xs H Q=>∃p ys,xs=[.ref p]/\(SqL K H p ys\/SqT K H p ys)/\∀l,H l=none->Q (.ref l) (upd H l (.lst ys))) su:=by
 intro m S H us vs u S' Q sr i hf post
 match us,hf with
 |[.tup ws],hf=>
  cases hf
  obtain⟨v,rfl,iv⟩:=i.one
  obtain⟨a,xs,rfl,sa,la⟩:=iv.of_tup
  exact⟨a,xs,rfl,.inr sa,fun l hl=>dQ sr la post hl⟩
 |[.ref l],hf=>
  obtain⟨v,rfl,iv⟩:=i.one
  obtain⟨a,ha,rfl⟩:=iv.of_ref
  simp only[su]at hf
  split at hf<;>try cases hf
  rename_i ws hS
  obtain⟨a',ha',xs,hx,la⟩:=sr.get hS
  rw[ha]at ha';cases ha'
  exact⟨a,xs,rfl,.inl (SqL.of hx),fun l hl=>dQ sr la post hl⟩
def j9:Fn
 |[.tup us],S=>some (.tup us,S)
 |[.ref l],S=>match S[l]? with
  |some (.lst us)=>some (.tup us,S)
  |_=>none
 |_,_=>none
theorem uv:oM K (fun xs H Q=>∃p ys,xs=[.ref p]/\((SqL K H p ys/\∀l,H l=none->Q (.ref l) (upd H l (.tup ys)))\/(SqT K H p ys/\Q (.ref p) H))) j9:=by
 intro m S H us vs u S' Q sr i hf post
 match us,hf with
 |[.tup ws],hf=>
  cases hf
  obtain⟨v,rfl,iv⟩:=i.one
  obtain⟨a,xs,rfl,sa,la⟩:=iv.of_tup
  exact⟨a,xs,rfl,.inr ⟨sa,post m _ H .refl sr iv⟩⟩
 |[.ref l],hf=>
  obtain⟨v,rfl,iv⟩:=i.one
  obtain⟨a,ha,rfl⟩:=iv.of_ref
  simp only[j9]at hf
  split at hf<;>try cases hf
  rename_i ws hS
  obtain⟨a',ha',xs,hx,la⟩:=sr.get hS
  rw[ha]at ha';cases ha'
  exact⟨a,xs,rfl,.inl ⟨SqL.of hx,fun l hl=>mH sr la post hl⟩⟩
def Je:Fn
 |[.int i],S=>some (.int i,S)
 |[.bl b],S=>some (.int (if b then 1 else 0),S)
 |_,_=>none
def se:List U->Option (List Int)
 |[]=>some []
 |.int i::r=>(se r).map (i::·)
 |_=>none
theorem qX:∀{us:List U} {ns:List Int},se us=some ns->us=ns.map U.int
 |[],ns,h=>by cases h;rfl
 |u::r,ns,h=>by
  cases u<;>simp only[se]at h<;>try cases h
  obtain⟨ms,e,h⟩:=Option.map_eq_some_iff.mp h
  subst h
  rw[qX e];rfl
theorem nS:∀(ns:List Int),se (ns.map U.int)=some ns
 |[]=>rfl
 |n::r=>by simp[se,nS r]
theorem IsL.ints{m:List Addr}{H:Hp}:∀{xs:List V} {ns:List Int},IsL K m H xs (ns.map U.int)->xs=ns.map V.int
 |xs,[],h=>h.of_nil
 |xs,n::ns,h=>by
  obtain⟨x,r,rfl,i,t⟩:=h.of_cons
  rw[IsL.ints t,i.of_int];rfl
theorem iE{m:List Addr}{H:Hp}:∀(ns:List Int),IsL K m H (ns.map V.int) (ns.map U.int)
 |[]=>.nil_
 |n::ns=>.cons_ .int_ (iE ns)
inductive Ty where
 |non|bool|int|str|tuple|list|dict
def Ty.nm:Ty->String
 |.non=>"NoneType"|.bool=>"bool"|.int=>"int"|.str=>"str"|.tuple=>"tuple"|.list=>"list"|.dict=>"dict"
def tyU:U->Sto->Option Ty
 |.non,_=>some .non|.bl _,_=>some .bool|.int _,_=>some .int|.str _,_=>some .str|.tup _,_=>some .tuple
 |.ref l,S=>match S[l]? with
  |some (.lst _)=>some .list
  |some (.dic _)=>some .dict
  |_=>none
 |.kl _,_=>none
def wH:Ty->Ty->Bool
 |.non,.non=>true|.bool,.bool=>true|.bool,.int=>true|.int,.int=>true|.str,.str=>true|.tuple,.tuple=>true|.list,.list=>true|.dict,.dict=>true
 |_,_=>false
theorem j6(a b:Ty)(hb:b≠.non):PySem.W.kitOne K (.type a.nm) (.type b.nm)=some (wH a b):=by
 cases b<;>first|exact absurd rfl hb|(cases a<;>rfl)
abbrev IZ(K:PySem.W.Frag):List V->Hp->VK->Prop:=fun xs H Q=>(∃(x:V) (T:String) (t:Value) (k:Bool),xs=[x,.ty T]/\rC K H x t/\PySem.W.kitOne K t (.type T)=some k/\Q (.bl k) H)\/
 ∃(a:Addr) (ys:List V) (T:String) (k:Bool),xs=[.ref a,.ty T]/\SqT K H a ys/\PySem.W.kitOne K (.type "tuple") (.type T)=some k/\Q (.bl k) H
theorem GY:fF X (.builtin "isinstance") (IZ X.K):=by
 refine pG.or ?_
 rintro pins s σ H xs us Q I r ⟨a,ys,T,k,rfl,sq,e,q⟩
 obtain⟨u,w',rfl,ru,rw'⟩:=z9 r
 cases rw'
 cases ru
 obtain⟨its,rv,ht,hz⟩:=I.tuple sq
 obtain⟨o,h1,h2,_⟩:=ht
 exact PySem.W.kia_one PySem.W.kitx_tuple I.kIn ⟨o,h1,h2⟩ e (fun z=>nomatch z) fun tk=>⟨.bl k,H,I.tok tk,rfl,q⟩
def sE(T:Ty)(ca:CE):CE:=fun ρ S=>(ca ρ S).bind fun p=>(tyU p.1 p.2).bind fun t=>some (.bl (wH t T),p.2)
theorem jO{T:Ty}{e eT:Expr}{ca:CE}{p pos:Pos}(hT0:T≠.non)(he:QE X e ca)(hT:WE X eT (tC (.ty T.nm)))(hg:Gl X "isinstance")(hm:X.mg "isinstance"=none)
  (h1:starEach [e,eT] X.env=(false,eval e X.env)::starEach [eT] X.env:=by rfl) (h2:starEach [eT] X.env=(false,eval eT X.env)::starEach [] X.env:=by rfl) (hpl:(backTo pos (starEach [eT] X.env)).any (·.1)=false:=by rfl) :
  QE X (.Call (.Name "isinstance" p) [e,eT] [] pos) (sE T ca):=(nr GY hg hm OG.kA (cX he (cX hT gH h2) h1) (by decide) (by decide) h1 hpl).imp fun σ H Q hz=>kf hz fun m ρ S u S' sr lr hc post=>by
 obtain⟨⟨x,S1⟩,h1,h2⟩:=Option.bind_eq_some_iff.mp hc
 obtain⟨t,ht,h3⟩:=Option.bind_eq_some_iff.mp h2
 cases h3
 refine⟨m,ρ,S,x,_,sr,lr,h1,fun m1 v1 H1 e1 sr1 i1=>?_⟩
 have fin:=post m1 _ H1 e1 sr1 (Is.bl_ (b:=wH t T))
 cases x with
 |non=>cases ht;rw[i1.of_non];exact .inl ⟨_,_,_,_,rfl,.non,j6 .non T hT0,fin⟩
 |bl b=>cases ht;rw[i1.of_bl];exact .inl ⟨_,_,_,_,rfl,.bl b,j6 .bool T hT0,fin⟩
 |int i=>cases ht;rw[i1.of_int];exact .inl ⟨_,_,_,_,rfl,.int i,j6 .int T hT0,fin⟩
 |str i=>cases ht;rw[i1.of_str];exact .inl ⟨_,_,_,_,rfl,.str i,j6 .str T hT0,fin⟩
 |tup us=>
  cases ht
  obtain⟨a,xs,rfl,sa,la⟩:=i1.of_tup
  exact .inr ⟨a,xs,_,_,rfl,sa,j6 .tuple T hT0,fin⟩
 |ref l=>
  obtain⟨a,ha,rfl⟩:=i1.of_ref
  simp only[tyU]at ht
  split at ht<;>try cases ht
  ·rename_i ws hS
   obtain⟨a',ha',xs,hx,la⟩:=sr1.get hS
   rw[ha]at ha';cases ha'
   exact .inl ⟨_,_,_,_,rfl,.lst hx,j6 .list T hT0,fin⟩
  ·rename_i ws hS
   obtain⟨a',ha',xs,hx,la⟩:=sr1.get hS
   rw[ha]at ha';cases ha'
   exact .inl ⟨_,_,_,_,rfl,.dK hx,j6 .dict T hT0,fin⟩
 |kl ns=>cases ht
def cBM(f:U->List U->Sto->Option (U×Sto))(co:CE)(cr:CA):CE:=fun ρ S=>(co ρ S).bind fun p=>match p.1 with
 |.ref l=>match p.2[l]? with
  |some (.lst _)=>(cr ρ p.2).bind fun q=>f p.1 q.1 q.2
  |_=>none
 |_=>none
def MtP(K:PySem.W.Frag)(r:V->List V->Hp->VK->Prop)(f:U->List U->Sto->Option (U×Sto)):Prop:=
 ∀m S H x v us vs u S' Q,Sr K m S H->Is K m H v x->IsL K m H vs us->f x us S=some (u,S')->iW K m H Q u S'->r v vs H Q
theorem rm{r:V->List V->Hp->VK->Prop}{f:U->List U->Sto->Option (U×Sto)}{co:CE}{cr:CA}(hp:MtP K r f):∀σ H Q,tE K (cBM f co cr) σ H Q->tBM K "list" r (tE K co) (tA K cr) σ H Q:=by
 rintro σ H Q ⟨m,ρ,S,u,S',sr,lr,hc,post⟩
 obtain⟨⟨x,S1⟩,h1,h2⟩:=Option.bind_eq_some_iff.mp hc
 refine⟨m,ρ,S,x,S1,sr,lr,h1,fun m1 v1 H1 e1 sr1 i1=>?_⟩
 cases x with
 |ref l=>
  simp only at h2
  split at h2<;>try cases h2
  rename_i ws hS
  obtain⟨⟨us,S2⟩,h3,h4⟩:=Option.bind_eq_some_iff.mp h2
  obtain⟨a,ha,rfl⟩:=id i1.of_ref
  obtain⟨a',ha',xs,hx,la⟩:=sr1.get hS
  rw[ha]at ha';cases ha'
  exact⟨.inl ⟨rfl,xs,SqL.of hx⟩,m1,ρ,S1,us,S2,sr1,lr.mono e1,h3,fun m2 vs H2 e2 sr2 i2=>hp m2 S2 H2 _ _ us vs u S' Q sr2 (i1.mono e2) i2 h4 (post.mono (e1.trans e2))⟩
 |_=>simp at h2
def cV:U->List U->Sto->Option (U×Sto)
 |.ref l,[u],S=>match S[l]? with
  |some (.lst us)=>if us.length<LIM then some (.non,S.set l (.lst (us++[u])))else none
  |_=>none
 |_,_,_=>none
theorem xC:MtP K t8 cV:=by
 intro m S H x v us vs u S' Q sr ix i hf post
 match x,us,hf with
 |.ref l,[w],hf=>
  simp only[cV]at hf
  split at hf<;>try cases hf
  rename_i ws hS
  split at hf<;>try cases hf
  rename_i hl
  obtain⟨a,ha,rfl⟩:=ix.of_ref
  obtain⟨a',ha',xs,hx,la⟩:=sr.get hS
  rw[ha]at ha';cases ha'
  obtain⟨y,rfl,iy⟩:=i.one
  have eu:Ext K m H m (upd H a (.lst (xs++[y]))):=.of (sr.keep ha _)
  exact⟨a,xs,y,rfl,rfl,hx,Ea (by rw[la.length];exact hl),post m _ _ eu (sr.put ha ⟨_,aJ,(la.append (.cons_ iy .nil_)).mono eu⟩) .non_⟩
variable{e:Expr}{es:List Expr}{co:CE}{cr:CA}{o:Expr}{apos cpos:Pos}
theorem fh (ho : QE X o co) (ha : QA X (e :: es) cr) (hbase : attributeBase o "append" X.env (eval o X.env) = eval o X.env := by rfl) (hfew : ((backTo cpos (starEach (e :: es) X.env)).all (fun x => !x.1) && (backToKw cpos (keywordEach [] X.env)).all (fun x => x.1.isSome)
   && decide ((e::es).length+([]:List Keyword).length+(if ([]:List Keyword).isEmpty then 0 else 1)<30))=true:=by rfl) (hline:(apos.endLine == cpos.line)=true:=by rfl) (hs:starEach (e::es) X.env=(false,eval e X.env)::starEach es X.env:=by rfl) (hplain:(backTo cpos (starEach es X.env)).any (·.1)=false:=by rfl) :
  QE X (.Call (.Attribute o "append" apos) (e::es) [] cpos) (cBM cV co cr):=(tD PySem.F.plainAttrs_list PySem.F.slot_list_append PySem.F.type_list_append jU ho ha.h hbase hfew hline hs hplain).imp (rm xC)
end
structure TC(K:PySem.W.Frag)(c:Cl)(NS:List Str):Prop where
 cl:Cls K c.C
 ns:c.ns=NS
 nas:∀f∈NS,gG K c.C f
section
variable{K:PySem.W.Frag}{c:Cl}{NS:List Str}
theorem TC.ix(T:TC K c NS){i:Nat}{f:Str}(h:NS[i]?=some f):c.ns[i]?=some f:=by rw[T.ns];exact h
theorem TC.na(T:TC K c NS)(i:Nat){f:Str}(h:NS[i]?=some f):gG K c.C f:=T.nas f (List.mem_of_getElem? h)
theorem TC.nm(T:TC K c NS){f:Str}(h:f∉NS):f∉c.ns:=by rw[T.ns];exact h
end
theorem _root_.L2.Fun.pure{P:Program}{w:World}{K:PySem.W.Frag}{mg:Str->Option Value}{base:Heap}{x qual:Str}{st:Stmt}{f:Addr}{fd:FuncData}{N ps:List Str}{k:Nat}{c:CS}(F:Fun K x qual st f fd)(S:aT N ps (ay st))
  (hb:∀(cdv:Value) (A:Around) (outer:List Env) (s:Shared) (H:Hp) (E:XK),gw k (A.deeper (envOfC qual (ay st) s.heap.objs.size f cdv))->
   WSs (sM CX0 P w K mg base N qual (ay st) f cdv A outer s H E).nox (aM st) (tS K c)):kM P w K mg base CX0 (k+1) f fd ps (wJ K (fnU N.length ps.length c)):=
 Fun.okW F S (fun vs H Q E h=>qp h) fun cdv A outer s H vs Q E hr h=>⟨_,hb cdv A outer s H E hr,vd (X:=(sM CX0 P w K mg base N qual (ay st) f cdv A outer s H E).nox) (body:=[]) (ps:=ps) rfl h⟩
def SI:Bool->Heap->Addr->Addr->Nat->Prop
 |true,h,it,a,i=>h.IsListIter it a i
 |false,h,it,a,i=>h.IsTupleIter it a i
def SA:Bool->Heap->Addr->Array Value->Prop
 |true,h,a,xs=>h.IsList a xs
 |false,h,a,xs=>h.IsTuple a xs
theorem SI.at_{b:Bool}{h h':Heap}{it a:Addr}{i:Nat}(x:SI b h it a i)(k:∀o,h.get? it=some o->h'.get? it=some o):SI b h' it a i:=by
 cases b with
 |true=>obtain⟨o,e,r⟩:=x;exact⟨o,k o e,r⟩
 |false=>obtain⟨o,e,r⟩:=x;exact⟨o,k o e,r⟩
theorem SA.at_{b:Bool}{h h':Heap}{a:Addr}{xs:Array Value}(x:SA b h a xs)(k:∀o,h.get? a=some o->h'.get? a=some o):SA b h' a xs:=by
 cases b with
 |true=>obtain⟨o,e,r⟩:=x;exact⟨o,k o e,r⟩
 |false=>obtain⟨o,e,r⟩:=x;exact⟨o,k o e,r⟩
theorem SI.obj{b:Bool}{h:Heap}{it a:Addr}{i:Nat}(x:SI b h it a i):∃o,h.get? it=some o/\∀v,o.data≠.cell v:=by
 cases b with
 |true=>obtain⟨o,e,c,d⟩:=x;exact⟨o,e,fun v z=>by rw[d]at z;cases z⟩
 |false=>obtain⟨o,e,c,d⟩:=x;exact⟨o,e,fun v z=>by rw[d]at z;cases z⟩
theorem SA.lt{b:Bool}{h:Heap}{a:Addr}{xs:Array Value}(x:SA b h a xs):a<h.objs.size:=by
 cases b with
 |true=>obtain⟨o,e,_⟩:=x;exact Heap.lt_size e
 |false=>obtain⟨o,e,_⟩:=x;exact Heap.lt_size e
section
variable{prog:Program}{w:World}{A:Around}{E:Value->Shared->Prop}{s:Shared}
theorem wD{I t:Addr}{j:Nat}{ys:Array Value}{y:Value}{Q:Value->Shared->Prop}(hI:s.heap.IsTupleIter I t j)(hT:s.heap.IsTuple t ys)(hy:ys[j]?=some y)
  (k:∀h',h'.IsTupleIter I t (j+1)->Heap.SameBut I s.heap h'->Q y { s with heap:=h' }):wpAny (model prog w) A (Builtin.SmallTypes.nextOf (.ref I)) Q E s:=by
 obtain⟨oi,gi,ci,di⟩:=id hI
 obtain⟨ot,gt,_,nt,dt⟩:=hT
 unfold Builtin.SmallTypes.nextOf
 refine wpAny_bind (wpAny_callSpecial?_slot (name:=Str.ofString "__next__") hI.typeIs PySem.F.slot_tuple_iterator_next (wpAny_call_entry PySem.F.slot_tuple_iterator_next hI.typeIs PySem.F.entry_tuple_iterator_next ?_ (PySem.F.args_tuple_iterator_next_1 _)))
 show wpAny _ _ (field (.ref I) 0 >>= _) _ _ s
 refine wpAny_bind (wpAny_field gi di (x:=.ref t) rfl ?_)
 show wpAny _ _ (ite ((Value.ref t == Value.none)=true) _ _) _ _ s
 rw[if_neg (by exact Bool.false_ne_true)]
 show wpAny _ _ (field (.ref I) 1 >>= _) _ _ s
 refine wpAny_bind (wpAny_field gi di (x:=.int j 0) rfl ?_)
 show wpAny _ _ (seqItems? (.ref t) >>= _) _ _ s
 refine wpAny_bind (wpAny_seqItems gt dt ?_)
 simp only[hy,Int.toNat_natCast]
 refine wpAny_bind (wpAny_setField gi di (by simp) (wpAny_pure ⟨y,rfl,wpAny_pure (k _ ⟨_,Heap.get?_update_self _ gi (Obj.isFreed_of_fields (Obj.data_mapFields di _)),(Obj.cls_mapFields ..).trans ci,?_⟩ (Heap.SameBut.update ..))⟩))
 rw[Obj.data_mapFields di];simp[rawInt]
theorem ny{I t:Addr}{j:Nat}{ys:Array Value}{Q:Value->Shared->Prop}(hh:A.handled=none)(hI:s.heap.IsTupleIter I t j)(hT:s.heap.IsTuple t ys)(hy:ys[j]?=none)
  (k:∀h' e,Heap.ExtBut I s.heap h'->(∃o,h'.get? e=some o/\o.cls=.type "StopIteration")->E (.ref e) { s with heap:=h' }):wpAny (model prog w) A (Builtin.SmallTypes.nextOf (.ref I)) Q E s:=by
 obtain⟨oi,gi,ci,di⟩:=id hI
 obtain⟨ot,gt,_,nt,dt⟩:=hT
 unfold Builtin.SmallTypes.nextOf
 refine wpAny_bind (wpAny_callSpecial?_slot (name:=Str.ofString "__next__") hI.typeIs PySem.F.slot_tuple_iterator_next (wpAny_call_entry PySem.F.slot_tuple_iterator_next hI.typeIs PySem.F.entry_tuple_iterator_next ?_ (PySem.F.args_tuple_iterator_next_1 _)))
 show wpAny _ _ (field (.ref I) 0 >>= _) _ _ s
 refine wpAny_bind (wpAny_field gi di (x:=.ref t) rfl ?_)
 show wpAny _ _ (ite ((Value.ref t == Value.none)=true) _ _) _ _ s
 rw[if_neg (by exact Bool.false_ne_true)]
 show wpAny _ _ (field (.ref I) 1 >>= _) _ _ s
 refine wpAny_bind (wpAny_field gi di (x:=.int j 0) rfl ?_)
 show wpAny _ _ (seqItems? (.ref t) >>= _) _ _ s
 refine wpAny_bind (wpAny_seqItems gt dt ?_)
 simp only[hy,Int.toNat_natCast]
 refine wpAny_bind (wpAny_rule (wpAny_bind (wpAny_setField gi di (by simp) ?_)))
 show wpAny _ _ (newExc (.type "StopIteration") [] >>= _) _ _ _
 simp only[newExc,newTuple];refine wpAny_bind ?_
 refine wpAny_bind (wpAny_newObj_type ?_ (by(size_fits)))
 refine wpAny_bind (m:=firstArgMember _ _) (wpAny_of_eq (a:=Value.none) (by simp only[firstArgMember]<;>rfl) ?_)
 refine wpAny_newObj_type ?_ (by(size_fits))
 simp only[raiseNew]
 refine wpAny_bind (wpAny_handled ?_)
 rw[show A.in1.handled=none from hh]
 exact wpAny_bind (wpAny_pure (wpAny_throw (k _ _ (((Heap.SameBut.update ..).extBut.push _).push _) ⟨_,Heap.get?_push_size _ rfl,rfl⟩)))
theorem my{b:Bool}{I t:Addr}{j:Nat}{ys:Array Value}{y:Value}{Q:Value->Shared->Prop}(hI:SI b s.heap I t j)(hT:SA b s.heap t ys)(hy:ys[j]?=some y)
  (k:∀h',SI b h' I t (j+1)->Heap.SameBut I s.heap h'->Q y { s with heap:=h' }):wpAny (model prog w) A (Builtin.SmallTypes.nextOf (.ref I)) Q E s:=by
 cases b with
 |true=>exact wpAny_nextOf_list_item hI hT hy k
 |false=>exact wD hI hT hy k
theorem ff{b:Bool}{I t:Addr}{j:Nat}{ys:Array Value}{Q:Value->Shared->Prop}(hh:A.handled=none)(hI:SI b s.heap I t j)(hT:SA b s.heap t ys)(hy:ys[j]?=none)
  (k:∀h' e,Heap.ExtBut I s.heap h'->(∃o,h'.get? e=some o/\o.cls=.type "StopIteration")->E (.ref e) { s with heap:=h' }):wpAny (model prog w) A (Builtin.SmallTypes.nextOf (.ref I)) Q E s:=by
 cases b with
 |true=>exact wpAny_nextOf_list_end hh hI hT hy k
 |false=>exact ny hh hI hT hy k
structure ZA(z I O i j a c:Addr):Prop where
 Iz:I≠z
 Oz:O≠z
 iz:i≠z
 jz:j≠z
 IO:I≠O
 Ii:I≠i
 Ij:I≠j
 Oi:O≠i
 Oj:O≠j
 ij:i≠j
 az:a≠z
 aO:a≠O
 ai:a≠i
 aj:a≠j
 cz:c≠z
 cO:c≠O
 ci:c≠i
 cj:c≠j
structure ZSt(b d:Bool)(h:Heap)(z I O i j a c:Addr)(f:Value)(n:Nat):Prop where
 hz:IsZip h z I O f
 hI:IsPair h I (.ref i) (.ref j)
 hO:∃p q,IsPair h O p q
 h1:SI b h i a n
 h2:SI d h j c n
theorem ZSt.at_{b d:Bool}{h h':Heap}{z I O i j a c:Addr}{f:Value}{n:Nat}(x:ZSt b d h z I O i j a c f n)(k:∀e∈[z,I,O,i,j],∀o,h.get? e=some o->h'.get? e=some o):ZSt b d h' z I O i j a c f n:=by
 obtain⟨p,q,hO⟩:=x.hO
 exact⟨k z (by simp) _ x.hz,k I (by simp) _ x.hI,⟨p,q,k O (by simp) _ hO⟩,x.h1.at_ fun o e=>k i (by simp) o e,x.h2.at_ fun o e=>k j (by simp) o e⟩
theorem wc{b d:Bool}{z I O i j a c:Addr}{n:Nat}{xs ys:Array Value}{x y:Value}{Q:Value->Shared->Prop}(D:ZA z I O i j a c)(st:ZSt b d s.heap z I O i j a c .none n)(ha:SA b s.heap a xs)(hc:SA d s.heap c ys)(hx:xs[n]?=some x)(hy:ys[n]?=some y)
  (k:∀h',ZSt b d h' z I O i j a c (rawInt s.heap.objs.size) (n+1)->IsPair h' s.heap.objs.size x y->
   (∀e o,e≠z->e≠O->e≠i->e≠j->s.heap.get? e=some o->h'.get? e=some o)->Q (.ref s.heap.objs.size) { s with heap:=h' }) :
  wpAny (model prog w) A (Builtin.«zip.__next__» ⟨[.ref z],[]⟩) (fun fin s'=>∃v,fin=.done (.ret v)/\Q v s') E s:=by
 obtain⟨hz,hI,⟨p,q,hO⟩,h1,h2⟩:=st
 show wpAny _ _ (field (.ref z) 2 >>= _) _ _ _
 refine wpAny_bind (wpAny_field hz rfl (x:=.bool false) rfl ?_)
 show wpAny _ _ (field (.ref z) 3 >>= _) _ _ _
 refine wpAny_bind (wpAny_field hz rfl (x:=.ref I) rfl ?_)
 refine wpAny_bind (wpAny_seqItems hI rfl ?_)
 show wpAny _ _ (Builtin.SmallTypes.ownedTupleIsFree (.ref z) >>= _) _ _ _
 refine wpAny_bind ?_
 unfold Builtin.SmallTypes.ownedTupleIsFree
 refine wpAny_bind (wpAny_field hz rfl (x:=.none) rfl (wpAny_pure ?_))
 simp only[if_true]
 refine wpAny_bind (wpAny_rule (wpAny_bind (wpAny_field hz rfl (x:=.ref O) rfl (wpAny_bind (wpAny_setField_rec hz (by simp) fun g1 z1 s1=>wpAny_bind ?_)))))
 replace z1:IsZip g1 z I O .ellipsis:=z1
 simp only[List.zipIdx_nil,List.zipIdx_cons,List.forIn_nil,List.forIn_cons]
 refine wpAny_bind (wpAny_bind (wpAny_onRaise ?_))
 show wpAny _ _ (Builtin.SmallTypes.nextOf (.ref i) >>= _) _ _ _
 refine wpAny_bind (my (b:=b) (h1.at_ fun o e=>s1.extBut _ _ D.iz e) (ha.at_ fun o e=>s1.extBut _ _ D.az e) hx fun g2 i2 s2=>wpAny_pure ?_)
 have O2:IsPair g2 O p q:=s2.extBut _ _ D.Oi (s1.extBut _ _ D.Oz hO)
 refine wpAny_bind (wpAny_seqItems O2 rfl (wpAny_bind (wpAny_updateSeq_pair O2 fun g3 O3 s3=>?_)))
 replace O3:IsPair g3 O x q:=O3
 refine wpAny_bind (wpAny_letGo (wpAny_pure (wpAny_bind (wpAny_bind (wpAny_onRaise ?_)))))
 show wpAny _ _ (Builtin.SmallTypes.nextOf (.ref j) >>= _) _ _ _
 have up3:∀e o,e≠z->e≠i->e≠O->s.heap.get? e=some o->g3.get? e=some o:=fun e o u1 u2 u3 q=>s3.extBut _ _ u3 (s2.extBut _ _ u2 (s1.extBut _ _ u1 q))
 refine wpAny_bind (my (b:=d) (h2.at_ fun o e=>up3 _ _ D.jz D.ij.symm D.Oj.symm e) (hc.at_ fun o e=>up3 _ _ D.cz D.ci D.cO e) hy fun g4 j4 s4=>wpAny_pure ?_)
 have O4:IsPair g4 O x q:=s4.extBut _ _ D.Oj O3
 refine wpAny_bind (wpAny_seqItems O4 rfl (wpAny_bind (wpAny_updateSeq_pair O4 fun g5 O5 s5=>?_)))
 replace O5:IsPair g5 O x y:=O5
 refine wpAny_bind (wpAny_letGo (wpAny_pure (wpAny_pure (wpAny_bind (wpAny_seqItems O5 rfl (wpAny_bind (wpAny_newTuple ?_)))))))
 have sz:g5.objs.size=s.heap.objs.size:=by rw[s5.1,s4.1,s3.1,s2.1,s1.1]
 have z5:IsZip g5 z I O .ellipsis:=s5.extBut _ _ D.Oz.symm (s4.extBut _ _ D.jz.symm (s3.extBut _ _ D.Oz.symm (s2.extBut _ _ D.iz.symm z1)))
 have up5:∀e o,e≠z->e≠O->e≠i->e≠j->s.heap.get? e=some o->g5.get? e=some o:=fun e o u1 u2 u3 u4 q=>s5.extBut _ _ u2 (s4.extBut _ _ u4 (up3 e o u1 u3 u2 q))
 have i5:SI b g5 i a (n+1):=i2.at_ fun o e=>s5.extBut _ _ D.Oi.symm (s4.extBut _ _ D.ij (s3.extBut _ _ D.Oi.symm e))
 have j5:SI d g5 j c (n+1):=j4.at_ fun o e=>s5.extBut _ _ D.Oj.symm e
 have zlt:z<g5.objs.size:=Heap.lt_size z5
 show wpAny _ _ (Builtin.SmallTypes.ownedTupleHandOut (.ref z) (.ref g5.objs.size) >>= _) _ _ _
 refine wpAny_bind ?_
 unfold Builtin.SmallTypes.ownedTupleHandOut
 have z6:IsZip (g5.push { cls:=.type "tuple",data:=.seq #[x,y] }) z I O .ellipsis:=Heap.get?_push_of_some _ z5
 refine wpAny_bind (wpAny_setField_rec z6 (by simp) fun g7 z7 s7=>?_)
 replace z7:IsZip g7 z I O (rawInt g5.objs.size):=z7
 refine wpAny_setField_rec z7 (by simp) fun g8 z8 s8=>?_
 replace z8:IsZip g8 z I O (rawInt g5.objs.size):=z8
 have up8:∀e o,e≠z->g5.get? e=some o->g8.get? e=some o:=fun e o u1 q=>s8.extBut _ _ u1 (s7.extBut _ _ u1 (Heap.get?_push_of_some _ q))
 have T8:IsPair g8 g5.objs.size x y:=s8.extBut _ _ (Nat.ne_of_gt zlt) (s7.extBut _ _ (Nat.ne_of_gt zlt) (Heap.get?_push_size _ rfl))
 rw[sz]at z8 T8
 refine wpAny_pure ⟨_,rfl,?_⟩
 show Q (.ref g5.objs.size) _
 rw[sz]
 exact k g8 ⟨z8,up8 _ _ D.Iz (up5 _ _ D.Iz D.IO D.Ii D.Ij hI),⟨x,y,up8 _ _ D.Oz O5⟩,i5.at_ fun o e=>up8 _ _ D.iz e,j5.at_ fun o e=>up8 _ _ D.jz e⟩ T8 fun e o u1 u2 u3 u4 q=>up8 e o u1 (up5 e o u1 u2 u3 u4 q)
theorem wd{b d:Bool}{z I O i j a c:Addr}{n:Nat}{xs ys:Array Value}{Q:PySem.Fin->Shared->Prop}(hh:A.handled=none)(D:ZA z I O i j a c)(st:ZSt b d s.heap z I O i j a c .none n)(ha:SA b s.heap a xs)(hc:SA d s.heap c ys)(hn:xs[n]?=none\/ys[n]?=none)
  (k:∀h' e,(∀c o,c≠z->c≠O->c≠i->c≠j->s.heap.get? c=some o->h'.get? c=some o)->(∃o,h'.get? e=some o/\o.cls=.type "StopIteration")->E (.ref e) { s with heap:=h' }) :
  wpAny (model prog w) A (Builtin.«zip.__next__» ⟨[.ref z],[]⟩) Q E s:=by
 obtain⟨hz,hI,⟨p,q,hO⟩,h1,h2⟩:=st
 show wpAny _ _ (field (.ref z) 2 >>= _) _ _ _
 refine wpAny_bind (wpAny_field hz rfl (x:=.bool false) rfl ?_)
 show wpAny _ _ (field (.ref z) 3 >>= _) _ _ _
 refine wpAny_bind (wpAny_field hz rfl (x:=.ref I) rfl ?_)
 refine wpAny_bind (wpAny_seqItems hI rfl ?_)
 show wpAny _ _ (Builtin.SmallTypes.ownedTupleIsFree (.ref z) >>= _) _ _ _
 refine wpAny_bind ?_
 unfold Builtin.SmallTypes.ownedTupleIsFree
 refine wpAny_bind (wpAny_field hz rfl (x:=.none) rfl (wpAny_pure ?_))
 simp only[if_true]
 refine wpAny_bind (wpAny_rule (wpAny_bind (wpAny_field hz rfl (x:=.ref O) rfl (wpAny_bind (wpAny_setField_rec hz (by simp) fun g1 z1 s1=>wpAny_bind ?_)))))
 replace z1:IsZip g1 z I O .ellipsis:=z1
 simp only[List.zipIdx_nil,List.zipIdx_cons,List.forIn_nil,List.forIn_cons]
 refine wpAny_bind (wpAny_bind (wpAny_onRaise ?_))
 show wpAny _ _ (Builtin.SmallTypes.nextOf (.ref i) >>= _) _ _ _
 cases hx:xs[n]? with
 |none=>
  refine wpAny_bind (ff (b:=b) hh (h1.at_ fun o e=>s1.extBut _ _ D.iz e) (ha.at_ fun o e=>s1.extBut _ _ D.az e) hx fun g2 e s2 he=>?_)
  obtain⟨oe,ge,ce⟩:=he
  have z2:IsZip g2 z I O .ellipsis:=s2 _ _ D.iz.symm z1
  have nez:e≠z:=fun v=>by subst v;rw[z2]at ge;cases ge;simp at ce
  exact wpAny_setField_rec z2 (by simp) fun g3 _ s3=>k g3 e (fun c o u1 _ u3 _ v=>s3.extBut _ _ u1 (s2 _ _ u3 (s1.extBut _ _ u1 v))) ⟨oe,s3.extBut _ _ nez ge,ce⟩
 |some x=>
  have hy:ys[n]?=none:=by rcases hn with v|v;rw[hx]at v;cases v;exact v
  refine wpAny_bind (my (b:=b) (h1.at_ fun o e=>s1.extBut _ _ D.iz e) (ha.at_ fun o e=>s1.extBut _ _ D.az e) hx fun g2 i2 s2=>wpAny_pure ?_)
  have O2:IsPair g2 O p q:=s2.extBut _ _ D.Oi (s1.extBut _ _ D.Oz hO)
  refine wpAny_bind (wpAny_seqItems O2 rfl (wpAny_bind (wpAny_updateSeq_pair O2 fun g3 O3 s3=>?_)))
  refine wpAny_bind (wpAny_letGo (wpAny_pure (wpAny_bind (wpAny_bind (wpAny_onRaise ?_)))))
  show wpAny _ _ (Builtin.SmallTypes.nextOf (.ref j) >>= _) _ _ _
  have up3:∀e o,e≠z->e≠i->e≠O->s.heap.get? e=some o->g3.get? e=some o:=fun e o u1 u2 u3 q=>s3.extBut _ _ u3 (s2.extBut _ _ u2 (s1.extBut _ _ u1 q))
  refine wpAny_bind (ff (b:=d) hh (h2.at_ fun o e=>up3 _ _ D.jz D.ij.symm D.Oj.symm e) (hc.at_ fun o e=>up3 _ _ D.cz D.ci D.cO e) hy fun g4 e s4 he=>?_)
  obtain⟨oe,ge,ce⟩:=he
  have z4:IsZip g4 z I O .ellipsis:=s4 _ _ D.jz.symm (s3.extBut _ _ D.Oz.symm (s2.extBut _ _ D.iz.symm z1))
  have nez:e≠z:=fun v=>by subst v;rw[z4]at ge;cases ge;simp at ce
  exact wpAny_setField_rec z4 (by simp) fun g5 _ s5=>k g5 e (fun c o u1 u2 u3 u4 v=>s5.extBut _ _ u1 (s4 _ _ u4 (up3 c o u1 u3 u2 v))) ⟨oe,s5.extBut _ _ nez ge,ce⟩
theorem we{b d:Bool}{z I O i j a c:Addr}{n:Nat}{xs ys:Array Value}{x y:Value}{Q:Option Value->Shared->Prop}(D:ZA z I O i j a c)(st:ZSt b d s.heap z I O i j a c .none n)(ha:SA b s.heap a xs)(hc:SA d s.heap c ys)(hx:xs[n]?=some x)(hy:ys[n]?=some y)
  (k:∀h',ZSt b d h' z I O i j a c (rawInt s.heap.objs.size) (n+1)->IsPair h' s.heap.objs.size x y->
   (∀e o,e≠z->e≠O->e≠i->e≠j->s.heap.get? e=some o->h'.get? e=some o)->Q (some (.ref s.heap.objs.size)) { s with heap:=h' }):wpAny (model prog w) A (pyNext (.ref z)) Q E s:=by
 have ty:s.TypeIs (.ref z) "zip":=⟨_,st.hz,rfl⟩
 unfold pyNext
 exact wpAny_bind (wpAny_attempt (wpAny_callSpecial?_slot (name:=Str.ofString "__next__") ty PySem.F.slot_zip_next (wpAny_call_entry PySem.F.slot_zip_next ty PySem.F.entry_zip_next
   (wc D st ha hc hx hy fun h' a1 a2 a3=>wpAny_pure (k h' a1 a2 a3)) (PySem.F.args_zip_next_1 _))))
theorem zp{b d:Bool}{z I O i j a c:Addr}{n:Nat}{xs ys:Array Value}{Q:Option Value->Shared->Prop}(hh:A.handled=none)(D:ZA z I O i j a c)(st:ZSt b d s.heap z I O i j a c .none n)(ha:SA b s.heap a xs)(hc:SA d s.heap c ys)(hn:xs[n]?=none\/ys[n]?=none)
  (k:∀h',(∀c o,c≠z->c≠O->c≠i->c≠j->s.heap.get? c=some o->h'.get? c=some o)->Q none { s with heap:=h' }):wpAny (model prog w) A (pyNext (.ref z)) Q E s:=by
 have ty:s.TypeIs (.ref z) "zip":=⟨_,st.hz,rfl⟩
 unfold pyNext
 refine wpAny_bind (wpAny_attempt (wpAny_callSpecial?_slot (name:=Str.ofString "__next__") ty PySem.F.slot_zip_next (wpAny_call_entry PySem.F.slot_zip_next ty PySem.F.entry_zip_next
   (wd hh D st ha hc hn fun h' e hk he=>?_) (PySem.F.args_zip_next_1 _))))
 obtain⟨o,ho,co⟩:=he
 exact wpAny_bind (wpAny_isInstance (T:="StopIteration") (b:=true) ⟨o,ho,co⟩ isSubtype_stop (wpAny_pure (k _ hk)))
def itO(b:Bool)(a:Addr):Obj:={ cls:=.type (if b then "list_iterator" else "tuple_iterator"),data:=.fields #[.ref a,.int 0 0] }
abbrev zG2(b d:Bool)(h:Heap)(a c:Addr):Heap:=(h.push (itO b a)).push (itO d c)
abbrev zG4(b d:Bool)(h:Heap)(a c:Addr):Heap:=((zG2 b d h a c).push { cls:=.type "tuple",data:=.seq #[.ref h.objs.size,.ref (h.push (itO b a)).objs.size] }).push { cls:=.type "tuple",data:=.seq #[.none,.none] }
abbrev zG5(b d:Bool)(h:Heap)(a c:Addr):Heap:=(zG4 b d h a c).push { cls:=.type "zip",data:=.fields #[.none,.bool false,.bool false,.ref (zG2 b d h a c).objs.size,.ref ((zG2 b d h a c).push { cls:=.type "tuple",data:=.seq #[.ref h.objs.size,.ref (h.push (itO b a)).objs.size] }).objs.size] }
theorem zo (b d : Bool) (a c : Addr) (xs ys : Array Value) : Meets (Builtin.«zip.__new__» ⟨[.type "zip", .ref a, .ref c], []⟩) (fun _ R s => SA b s.heap a xs /\ SA d s.heap c ys /\
   R (.ok (.ret (.ref (zG4 b d s.heap a c).objs.size))) { s with heap:=zG5 b d s.heap a c }):=
 .of_wp fun prog w A R s q=>by
  obtain⟨hp,g,dr,tk,os⟩:=s
  obtain⟨p1,p2,q⟩:=q
  have sb:=sub_zip
  cases b<;>cases d
  ·have e1:Heap.IsTuple (Shared.heap ⟨hp,g,dr,tk,os⟩) a xs:=p1
   have e2:Heap.IsTuple (Shared.heap ⟨hp.push { cls:=.type "tuple_iterator",data:=.fields #[.ref a,.int 0 0] },g,dr,tk,os⟩) c ys:=SA.at_ (b:=false) p2 fun o e=>Heap.get?_push_of_some _ e
   wp_walk using wpAny_pyIter_tuple e1,wpAny_pyIter_tuple e2
   exact⟨_,rfl,q⟩
  ·have e1:Heap.IsTuple (Shared.heap ⟨hp,g,dr,tk,os⟩) a xs:=p1
   have e2:Heap.IsList (Shared.heap ⟨hp.push { cls:=.type "tuple_iterator",data:=.fields #[.ref a,.int 0 0] },g,dr,tk,os⟩) c ys:=SA.at_ (b:=true) p2 fun o e=>Heap.get?_push_of_some _ e
   wp_walk using wpAny_pyIter_tuple e1,wpAny_pyIter_list e2
   exact⟨_,rfl,q⟩
  ·have e1:Heap.IsList (Shared.heap ⟨hp,g,dr,tk,os⟩) a xs:=p1
   have e2:Heap.IsTuple (Shared.heap ⟨hp.push { cls:=.type "list_iterator",data:=.fields #[.ref a,.int 0 0] },g,dr,tk,os⟩) c ys:=SA.at_ (b:=false) p2 fun o e=>Heap.get?_push_of_some _ e
   wp_walk using wpAny_pyIter_list e1,wpAny_pyIter_tuple e2
   exact⟨_,rfl,q⟩
  ·have e1:Heap.IsList (Shared.heap ⟨hp,g,dr,tk,os⟩) a xs:=p1
   have e2:Heap.IsList (Shared.heap ⟨hp.push { cls:=.type "list_iterator",data:=.fields #[.ref a,.int 0 0] },g,dr,tk,os⟩) c ys:=SA.at_ (b:=true) p2 fun o e=>Heap.get?_push_of_some _ e
   wp_walk using wpAny_pyIter_list e1,wpAny_pyIter_list e2
   exact⟨_,rfl,q⟩
theorem uU{b:Bool}{a i:Addr}{h:Heap}(e:h.get? i=some (itO b a)):SI b h i a 0:=by
 cases b with
 |true=>exact⟨_,e,rfl,rfl⟩
 |false=>exact⟨_,e,rfl,rfl⟩
theorem wg{b d:Bool}{a c:Addr}{xs ys:Array Value}{Q:Value->Shared->Prop}(ha:SA b s.heap a xs)(hc:SA d s.heap c ys)
  (k:∀h' z I O i j,ZA z I O i j a c->ZSt b d h' z I O i j a c .none 0->(∀e∈[z,I,O,i,j],s.heap.objs.size<=e)->(∀e o,s.heap.get? e=some o->h'.get? e=some o)->Q (.ref z) { s with heap:=h' }) :
  wpAny (model prog w) A (call (.type "zip") [.ref a,.ref c]) Q E s:=by
 refine callType_new PySem.F.called_zip (by decide) (PySem.F.typeCall_zip_2 _ _) (PySem.F.newCall_zip_2 _ _) (fun obj=>PySem.F.args_object_init_3 obj _ _) PySem.F.entry_zip_new (zo b d a c xs ys) ⟨ha,hc,?_⟩
 have n1:(s.heap.push (itO b a)).objs.size=s.heap.objs.size+1:=Heap.size_push ..
 have n2:(zG2 b d s.heap a c).objs.size=s.heap.objs.size+2:=by rw[Heap.size_push,n1]
 have n3:((zG2 b d s.heap a c).push { cls:=.type "tuple",data:=.seq #[.ref s.heap.objs.size,.ref (s.heap.push (itO b a)).objs.size] }).objs.size=s.heap.objs.size+3:=by rw[Heap.size_push,n2]
 have n4:(zG4 b d s.heap a c).objs.size=s.heap.objs.size+4:=by rw[Heap.size_push,n3]
 have p5:(zG5 b d s.heap a c).get? (zG4 b d s.heap a c).objs.size=some _:=Heap.get?_push_size _ rfl
 have p4:(zG5 b d s.heap a c).get? ((zG2 b d s.heap a c).push { cls:=.type "tuple",data:=.seq #[.ref s.heap.objs.size,.ref (s.heap.push (itO b a)).objs.size] }).objs.size=some _:=Heap.get?_push_of_some _ (Heap.get?_push_size _ rfl)
 have p3:(zG5 b d s.heap a c).get? (zG2 b d s.heap a c).objs.size=some _:=Heap.get?_push_of_some _ (Heap.get?_push_of_some _ (Heap.get?_push_size _ rfl))
 have p2:(zG5 b d s.heap a c).get? (s.heap.push (itO b a)).objs.size=some _:=Heap.get?_push_of_some _ (Heap.get?_push_of_some _ (Heap.get?_push_of_some _ (Heap.get?_push_size _ rfl)))
 have p1:(zG5 b d s.heap a c).get? s.heap.objs.size=some _:=Heap.get?_push_of_some _ (Heap.get?_push_of_some _ (Heap.get?_push_of_some _ (Heap.get?_push_of_some _ (Heap.get?_push_size _ rfl))))
 have la:=ha.lt
 have lc:=hc.lt
 rw[n4,n2,n3]at p5
 rw[n2,n1]at p3
 rw[n3]at p4
 rw[n1]at p2
 show _/\_
 rw[n4]
 refine⟨⟨_,p5,rfl⟩,k _ (s.heap.objs.size+4) (s.heap.objs.size+2) (s.heap.objs.size+3) s.heap.objs.size (s.heap.objs.size+1) ⟨?_,?_,?_,?_,?_,?_,?_,?_,?_,?_,?_,?_,?_,?_,?_,?_,?_,?_⟩ ⟨p5,p3,⟨_,_,p4⟩,uU p1,uU p2⟩ (fun e he=>?_) fun e o x=>Heap.get?_push_of_some _ (Heap.get?_push_of_some _ (Heap.get?_push_of_some _ (Heap.get?_push_of_some _ (Heap.get?_push_of_some _ x))))⟩
 case refine_19=>
  simp only[List.mem_cons,List.not_mem_nil,or_false]at he
  rcases he with e1|e1|e1|e1|e1<;>rw[e1]<;>first|exact Nat.le_refl _|exact Nat.le_add_right _ _
 all_goals first|exact Nat.ne_of_lt (by omega)|exact Nat.ne_of_gt (by omega)|exact Nat.ne_of_lt (Nat.lt_of_lt_of_le la (by omega))|exact Nat.ne_of_lt (Nat.lt_of_lt_of_le lc (by omega))
end
def Sq(K:PySem.W.Frag):Bool->Hp->Addr->List V->Prop
 |true,H,a,xs=>SqL K H a xs
 |false,H,a,xs=>SqT K H a xs
section
variable{X:Cx}{pins:List (Addr×Obj)}{σ:L2.St}{H:Hp}{s:Shared}{h':Heap}
theorem _root_.L2.Inv.turnedL{t':Nat}{ch:List Addr}(I:Inv X pins σ H s)(k:∀b o,b∉ch->s.heap.get? b=some o->h'.get? b=some o)(hf:∀b∈ch,sN X pins H b):Inv X pins σ H { s with heap:=h',toks:=t' }:=by
 have nit:∀b u,H b=some u->b∉ch:=fun b u e z=>by rw[(hf b z).1]at e;cases e
 refine I.step (g':=s.gens) (d':=s.drawn) (ch:=ch) (fun b hb=>⟨(hf b hb).2.2.2.1,(hf b hb).2.1,(hf b hb).2.2.2.2.1,(hf b hb).2.2.2.2.2⟩) (fun b o _ _ hc e _=>k b o hc e) (fun b o _ _ hc e _=>⟨o.slots,k b o hc e⟩) (fun _ _ _ _ n=>n)
  (fun b o hc e=>⟨o,k b o hc e⟩) (fun _ _ e=>e) (fun _ _ _ e=>e) (fun b ps e=>⟨#[],by rw[e];simp⟩) (fun m hm=>?_) (fun b u e=>?_) I.bare
 ·obtain⟨o,es,ep,ho,r⟩:=hm
  exact⟨o,es,ep,k _ o (fun z=>(hf _ z).2.1 rfl) ho,r⟩
 ·refine(I.hok b u e).stay (fun c v hc q=>k c v ?_ q) (fun _ q=>q) fun _ _ q=>q
  rcases hc with z|z
  ·rw[z];exact nit b u e
  ·exact nit c _ z
theorem _root_.L2.Inv.sq{b:Bool}{a:Addr}{xs:List V}(I:Inv X pins σ H s)(h:Sq X.K b H a xs):∃its:List Value,bN xs its/\SA b s.heap a its.toArray:=by
 cases b with
 |true=>obtain⟨its,r,p,_⟩:=I.list h;exact⟨its,r,p.isList⟩
 |false=>obtain⟨its,r,p,_⟩:=I.tuple h;exact⟨its,r,p⟩
theorem _root_.L2.Inv.sq_inj{b:Bool}{a:Addr}{xs ys:List V}(I:Inv X pins σ H s)(h:Sq X.K b H a xs)(h2:Sq X.K b H a ys):xs=ys:=by
 cases b with
 |true=>exact I.list_inj h h2
 |false=>exact I.tuple_inj h h2
end
def Itz(K:PySem.W.Frag)(b d:Bool)(a c:Addr):It:=
  ⟨fun i H=>∃xs ys x y,Sq K b H a xs/\Sq K d H c ys/\xs[i]?=some x/\ys[i]?=some y,
   fun i H v H'=>∃p x y,v=.ref p/\H p=none/\H'=upd H p (.tup [x,y])/\(∀xs,Sq K b H a xs->xs[i]?=some x)/\∀ys,Sq K d H c ys->ys[i]?=some y,
   fun i H=>∃xs ys,Sq K b H a xs/\Sq K d H c ys/\(xs.length<=i\/ys.length<=i)⟩
theorem qB{h:Heap}{ob o:Obj}{e:Addr}(q:(h.push ob).get? e=some o)(ne:e≠h.objs.size):h.get? e=some o:=(Heap.get?_push_ne h e ob ne).symm.trans q
theorem qD{P:Program}{w:World}{H:Hp}{h:Heap}{a:Addr}{x y:V}{u v:Value}(e:h.get? a=some { cls:=.type "tuple",data:=.seq #[u,v] })(rx:cE x u)(ry:cE y v):cK P w H h a (.tup [x,y]):=
 ⟨by show 2<=sizeLine;decide,[u,v],.cons rx (.cons ry .nil),⟨_,e,rfl,_,rfl⟩⟩
theorem wC{P:Program}{w:World}{K:PySem.W.Frag}{es:List Expr}{k:Nat}{pos:Pos}{b d:Bool}{z I O i j a c:Addr}(D:ZA z I O i j a c) :
  Bt P w K (.Tuple es k pos) (Itz K b d a c) [z,I,O,i,j] z (fun n h=>ZSt b d h z I O i j a c .none n) where
 mem:=by simp
 obj:=fun n h st e he=>by
  obtain⟨hz,hI,⟨p,q,hO⟩,h1,h2⟩:=st
  simp only[List.mem_cons,List.not_mem_nil,or_false]at he
  rcases he with rfl|rfl|rfl|rfl|rfl
  ·exact⟨_,hz,fun v q=>by cases q⟩
  ·exact⟨_,hI,fun v q=>by cases q⟩
  ·exact⟨_,hO,fun v q=>by cases q⟩
  ·exact h1.obj
  ·exact h2.obj
 keep:=fun n h h' st kp=>st.at_ kp
 item:=by
  intro X hP hw hK hc n pins s σ H E Iv hf st hg
  subst hP hw hK
  obtain⟨xs,ys,x,y,qa,qc,hx,hy⟩:=hg
  obtain⟨ia,ra,sa⟩:=Iv.sq qa
  obtain⟨ic,rc,sc⟩:=Iv.sq qc
  obtain⟨u,hu,ru⟩:=ra.get hx
  obtain⟨v,hv,rv⟩:=rc.get hy
  refine we D st sa sc (x:=u) (y:=v) (by simpa using hu) (by simpa using hv) fun h1 st1 T1 up1=>⟨_,rfl,wpAny_letOwnedTupleGo_zip st1.hz fun h2 z2 s2=>?_⟩
  have hfr:H s.heap.objs.size=none:=Iv.hok.fresh (Nat.le_refl _)
  have sz:∀e∈[z,I,O,i,j],e<s.heap.objs.size:=fun e he=>by
   simp only[List.mem_cons,List.not_mem_nil,or_false]at he
   obtain⟨hz,hI,⟨p,q,hO⟩,h1',h2'⟩:=st
   rcases he with rfl|rfl|rfl|rfl|rfl
   ·exact Heap.lt_size hz
   ·exact Heap.lt_size hI
   ·exact Heap.lt_size hO
   ·obtain⟨o,e,_⟩:=h1'.obj;exact Heap.lt_size e
   ·obtain⟨o,e,_⟩:=h2'.obj;exact Heap.lt_size e
  have T2:h2.get? s.heap.objs.size=some { cls:=.type "tuple",data:=.seq #[u,v] }:=s2.extBut _ _ (Nat.ne_of_gt (sz z (by simp))) T1
  have I1:Inv X pins σ (upd H s.heap.objs.size (.tup [x,y])) { s with heap:=s.heap.push { cls:=.type "tuple",data:=.seq #[u,v] },toks:=s.toks }:=
   Iv.laid (fun b o e=>Heap.get?_push_of_some _ e) (Nat.le_refl _) (qD (Heap.get?_push_size _ rfl) ru rv)
  have fr2:∀e∈[z,I,O,i,j],(upd H s.heap.objs.size (.tup [x,y])) e=none:=fun e he=>by rw[aV (Nat.ne_of_lt (sz e he))];exact(hf e he).1
  have I2:Inv X pins σ (upd H s.heap.objs.size (.tup [x,y])) { s with heap:=h2,toks:=s.toks }:=
   Inv.turnedL (s:={ s with heap:=s.heap.push { cls:=.type "tuple",data:=.seq #[u,v] },toks:=s.toks }) (h':=h2) (t':=s.toks) (ch:=[z,I,O,i,j]) I1 (fun e o hn q=>by
    by_cases ce:e=s.heap.objs.size
    ·subst ce
     have q':(s.heap.push { cls:=.type "tuple",data:=.seq #[u,v] }).get? s.heap.objs.size=some o:=q
     rw[Heap.get?_push_size _ rfl]at q'
     cases q';exact T2
    ·have q':s.heap.get? e=some o:=qB q ce
     simp only[List.mem_cons,List.not_mem_nil,or_false,not_or]at hn
     exact s2.extBut _ _ hn.1 (up1 e o hn.1 hn.2.2.1 hn.2.2.2.1 hn.2.2.2.2 q')) fun e he=>⟨fr2 e he,(hf e he).2⟩
  refine⟨.ref s.heap.objs.size,_,I2,rfl,⟨_,x,y,rfl,hfr,rfl,fun xs' q=>by rw[Iv.sq_inj q qa];exact hx,fun ys' q=>by rw[Iv.sq_inj q qc];exact hy⟩,?_,fr2⟩
  obtain⟨_,hI1,⟨p,q,hO1⟩,i1,j1⟩:=st1
  exact⟨z2,s2.extBut _ _ D.Iz hI1,⟨p,q,s2.extBut _ _ D.Oz hO1⟩,i1.at_ fun o e=>s2.extBut _ _ D.iz e,j1.at_ fun o e=>s2.extBut _ _ D.jz e⟩
 done:=by
  intro X hP hw hK hc n pins s σ H E Iv hf st hg
  subst hP hw hK
  obtain⟨xs,ys,qa,qc,hx⟩:=hg
  obtain⟨ia,ra,sa⟩:=Iv.sq qa
  obtain⟨ic,rc,sc⟩:=Iv.sq qc
  have la:=ra.length
  have lc:=rc.length
  refine zp (Iv.ok.hd hc) D st sa sc (hx.elim (fun q=>.inl (by simp;omega)) fun q=>.inr (by simp;omega)) fun h1 up1=>⟨rfl,?_⟩
  exact Iv.turnedL (t':=s.toks) (ch:=[z,I,O,i,j]) (fun e o hn q=>by
   simp only[List.mem_cons,List.not_mem_nil,or_false,not_or]at hn
   exact up1 e o hn.1 hn.2.2.1 hn.2.2.2.1 hn.2.2.2.2 q) hf
 self:=fun _ _ _ _ _ st h=>wpAny_pyIter_zip st.hz h
def Hi(K:PySem.W.Frag)(ta:TA):TI:=fun σ H R=>ta σ H fun vs H2=>∃b d a c,vs=[.ref a,.ref c]/\(∃xs,Sq K b H2 a xs)/\(∃ys,Sq K d H2 c ys)/\R (Itz K b d a c) H2
theorem yr:bootBuiltins "zip"=some (.type "zip"):=rfl
section
variable{X:Cx}{pos:Pos}
theorem CH{es:List Expr}{k:Nat}{tp p:Pos}{a c:Expr}{ta:TA}(hg:Gl X "zip")(hm:X.mg "zip"=none)(ha:WA X [a,c] ta)
  (hs:starEach [a,c] X.env=(false,eval a X.env)::starEach [c] X.env:=by rfl) (hpl:(backTo pos (starEach [c] X.env)).any (·.1)=false:=by rfl):WI X (.Tuple es k tp) (.Call (.Name "zip" p) [a,c] [] pos) (Hi X.K ta):=by
 constructor
 intro pins s σ H R I h
 refine wpAny_Call_Name_kw (jd I hg hm OP.yr ?_)
 refine PyProof.Rows.callWith_type1 (thn (ha.h pos pins s σ H _ I h) fun us s1 hz=>?_) hs hpl
 obtain⟨vs,H1,I1,r1,q1⟩:=hz
 obtain⟨b,d,aa,cc,rfl,⟨xs,qa⟩,⟨ys,qc⟩,q⟩:=q1
 obtain⟨u,v,rfl,ru,rv⟩:=z9 r1
 cases ru
 cases rv
 obtain⟨ia,ra,sa⟩:=I1.sq qa
 obtain⟨ic,rc,sc⟩:=I1.sq qc
 refine wg sa sc fun h1 z II O i j D st hi up=>wpAny_pyIter_zip st.hz ⟨z,[z,II,O,i,j],_,_,H1,rfl,I1.kept (t':=s1.toks) up,wC D,st,fun e he=>?_,q⟩
 exact I1.fpOk (hi e he) (I1.hok.fresh (hi e he))
def vZ:U->Sto->Option (List U×(Sto->Prop))
 |.tup us,_=>some (us,fun _=>True)
 |.ref l,S=>match S[l]? with
  |some (.lst us)=>some (us,fun S=>S[l]?=some (.lst us))
  |_=>none
 |_,_=>none
def uu(us ws:List U):List U:=(us.zip ws).map fun p=>.tup [p.1,p.2]
def Ff(ca cb:CE):CI:=fun ρ S=>(ca ρ S).bind fun p=>(cb ρ p.2).bind fun q=>(vZ p.1 q.2).bind fun x=>(vZ q.1 q.2).bind fun y=>some (uu x.1 y.1,fun S=>x.2 S/\y.2 S,q.2)
theorem tY{K:PySem.W.Frag}{m:List Addr}{S:Sto}{H:Hp}{u:U}{v:V}{us:List U}{ok:Sto->Prop}(sr:Sr K m S H)(iu:Is K m H v u)(h:vZ u S=some (us,ok)) :
  ∃b a,v=.ref a/\(∃xs,Sq K b H a xs)/\∀m2 S2 H2,Ext K m H m2 H2->Sr K m2 S2 H2->ok S2->∃xs,Sq K b H2 a xs/\IsL K m2 H2 xs us:=by
 cases u with
 |tup ws=>
  cases h
  obtain⟨a,xs,rfl,sq,il⟩:=iu.of_tup
  exact⟨false,a,rfl,⟨xs,sq⟩,fun m2 S2 H2 e _ _=>⟨xs,e.keep.t _ _ sq,il.mono e⟩⟩
 |ref l=>
  simp only[vZ]at h
  split at h<;>try cases h
  rename_i us hS
  obtain⟨a,ha,rfl⟩:=iu.of_ref
  obtain⟨a',ha',xs,hx,il⟩:=sr.get hS
  rw[ha]at ha';cases ha'
  refine⟨true,a,rfl,⟨xs,SqL.of hx⟩,fun m2 S2 H2 e sr2 hok=>?_⟩
  obtain⟨a',ha',xs,hx,il⟩:=sr2.get hok
  rw[e.get ha]at ha';cases ha'
  exact⟨xs,SqL.of hx,il⟩
 |_=>simp[vZ]at h
theorem Dg{es:List Expr}{k:Nat}{tp p:Pos}{a c:Expr}{ca cc:CE}(hg:Gl X "zip")(hm:X.mg "zip"=none)(ha:QE X a ca)(hc:QE X c cc)
  (hs:starEach [a,c] X.env=(false,eval a X.env)::starEach [c] X.env:=by rfl) (hs2:starEach [c] X.env=(false,eval c X.env)::starEach [] X.env:=by rfl) (hpl:(backTo pos (starEach [c] X.env)).any (·.1)=false:=by rfl) :
  QI X (.Tuple es k tp) (.Call (.Name "zip" p) [a,c] [] pos) (Ff ca cc):=(CH hg hm (cX ha (cX hc gH hs2) hs) hs hpl).imp fun σ H R hz=>qZ hz fun m ρ S us ok S' sr lr hf post=>by
 obtain⟨⟨x,S1⟩,h1,h⟩:=Option.bind_eq_some_iff.mp hf
 obtain⟨⟨y,S2⟩,h2,h⟩:=Option.bind_eq_some_iff.mp h
 obtain⟨⟨xs,okx⟩,h3,h⟩:=Option.bind_eq_some_iff.mp h
 obtain⟨⟨ys,oky⟩,h4,h⟩:=Option.bind_eq_some_iff.mp h
 cases h
 refine⟨m,ρ,S,x,S1,sr,lr,h1,fun m1 v1 H1 e1 sr1 i1=>⟨m1,ρ,S1,y,_,sr1,lr.mono e1,h2,fun m2 v2 H2 e2 sr2 i2=>?_⟩⟩
 obtain⟨b,aa,rfl,q1,k1⟩:=tY sr2 (i1.mono e2) h3
 obtain⟨d,bb,rfl,q2,k2⟩:=tY sr2 i2 h4
 refine⟨b,d,aa,bb,rfl,q1,q2,post m2 H2 _ (e1.trans e2) sr2 fun m3 S3 H3 i e3 sr3 hok=>?_⟩
 obtain⟨vs,sq1,l1⟩:=k1 m3 S3 H3 e3 sr3 hok.1
 obtain⟨ws,sq2,l2⟩:=k2 m3 S3 H3 e3 sr3 hok.2
 have n1:=l1.length
 have n2:=l2.length
 refine⟨fun u hu=>?_,fun hi=>⟨vs,ws,sq1,sq2,?_⟩⟩
 ·simp only[uu,List.getElem?_map,Option.map_eq_some_iff]at hu
  obtain⟨⟨p,q⟩,hz,rfl⟩:=hu
  obtain⟨hp,hq⟩:=List.getElem?_zip_eq_some.mp hz
  obtain⟨vp,ep,ip⟩:=l1.getD hp
  obtain⟨vq,eq,iq⟩:=l2.getD hq
  refine⟨⟨vs,ws,vp,vq,sq1,sq2,ep,eq⟩,fun v H4 hy=>?_⟩
  obtain⟨r,x',y',rfl,hr,rfl,f1,f2⟩:=hy
  have:=f1 vs sq1
  rw[ep]at this;cases this
  have:=f2 ws sq2
  rw[eq]at this;cases this
  have ee:Ext X.K m3 H3 m3 (upd H3 r (.tup [vp,vq])):=.of (bH hr _)
  exact⟨ee,sr3.same (cQ hr _),.tup_ (SqT.of aJ) (.cons_ (ip.mono ee) (.cons_ (iq.mono ee) .nil_))⟩
 ·simp only[uu,List.length_map,List.length_zip]at hi
  omega
end
theorem Bi{b:Bool}{prog:Program}{w:World}{A:Around}(hh:A.handled=none)(it a:Addr)(hne:a≠it)(ys:Array Value) :
  Draws prog w A it [it,a] ys.size (fun i v=>ys[i]?=some v) (fun i h=>SI b h it a i/\SA b h a ys) where
 live:=fun _ _ st=>let ⟨o,ho,_⟩:=st.1.obj;⟨o,ho⟩
 frame:=fun _ _ _ st hk=>⟨st.1.at_ fun o e=>hk it (by simp) o e,st.2.at_ fun o e=>hk a (by simp) o e⟩
 item:=fun i s Q E hi st hQ=>my st.1 st.2 (y:=ys[i]) (by simp[hi]) fun h' it' s'=>hQ _ h' s.toks (by simp[hi]) ⟨it',st.2.at_ fun o e=>s'.extBut _ _ hne e⟩ s'
 done:=fun s Q E st hE=>ff hh st.1 st.2 (by simp) hE
structure ESt(b:Bool)(h:Heap)(e it a:Addr)(n:Nat):Prop where
 he:∃old,IsEnum h e it n old
 hi:SI b h it a n
theorem vj(l:Addr)(ys:Array Value)(n:Nat)(dct:Option Addr)(sl:Array (Option Value)) :
  Meets (Builtin.«enumerate.__new__» ⟨[.type "enumerate",.ref l],[]⟩) (fun _ R s=>s.heap.get? l=some { cls:=.type "tuple",dict:=dct,data:=.seq ys n,slots:=sl }/\
   R (.ok (.ret (.ref (s.heap.push (itO false l)).objs.size))) { s with heap:=(s.heap.push (itO false l)).push { cls:=.type "enumerate",data:=.fields #[.none,.bool false,.ref s.heap.objs.size,rawInt 0,.none,.none] } }):=
 .of_wp fun prog w A R s q=>by
  obtain⟨hp,g,d,tk,os⟩:=s
  obtain⟨gl,q⟩:=q
  have sb:=sub_enumerate
  have tl:Heap.IsTuple (Shared.heap ⟨hp,g,d,tk,os⟩) l ys:=⟨_,gl,rfl,n,rfl⟩
  wp_walk using wpAny_loadPart' gl
  refine wpAny_stack_any (fun st=>wpAny_pure ?_)
  split
  ·rename_i c _ _ _ _ _
   cases (c == Value.type "enumerate")<;>(wp_walk using wpAny_loadPart' gl,wpAny_pyIter_tuple tl;exact⟨_,rfl,q⟩)
  ·wp_walk using wpAny_loadPart' gl,wpAny_pyIter_tuple tl
   exact⟨_,rfl,q⟩
theorem vm{b:Bool}{prog:Program}{w:World}{A:Around}{E:Value->Shared->Prop}{s:Shared}{a:Addr}{ys:Array Value}{Q:Value->Shared->Prop}(ha:SA b s.heap a ys)
  (k:∀h' e it,e≠it->s.heap.objs.size<=e->s.heap.objs.size<=it->ESt b h' e it a 0->(∀c o,s.heap.get? c=some o->h'.get? c=some o)->Q (.ref e) { s with heap:=h' }) :
  wpAny (model prog w) A (call (.type "enumerate") [.ref a]) Q E s:=by
 cases b with
 |true=>exact call_enumerate_list ha fun h' e1 e2 sz up=>k h' _ _ (by omega) (Nat.le_add_right _ _) (Nat.le_refl _) ⟨⟨_,e1⟩,e2⟩ up
 |false=>
  obtain⟨⟨c,dct,dt,sl⟩,gl,hc,n,hd⟩:=ha
  simp only at hc hd
  subst hc hd
  refine callType_new PySem.F.called_enumerate (by decide) (PySem.F.typeCall_enumerate_1 _) (PySem.F.newCall_enumerate_1 _) (fun obj=>PySem.F.args_object_init_2 obj _) PySem.F.entry_enumerate_new (vj a ys n dct sl) ⟨gl,?_⟩
  have n1:(s.heap.push (itO false a)).objs.size=s.heap.objs.size+1:=Heap.size_push ..
  have p2:=Heap.get?_push_size (s.heap.push (itO false a)) (o:={ cls:=.type "enumerate",data:=.fields #[.none,.bool false,.ref s.heap.objs.size,rawInt 0,.none,.none] }) rfl
  have p1:((s.heap.push (itO false a)).push { cls:=.type "enumerate",data:=.fields #[.none,.bool false,.ref s.heap.objs.size,rawInt 0,.none,.none] }).get? s.heap.objs.size=some (itO false a):=Heap.get?_push_of_some _ (Heap.get?_push_size _ rfl)
  rw[n1]at p2
  show _/\_
  rw[n1]
  exact⟨⟨_,p2,rfl⟩,k _ (s.heap.objs.size+1) s.heap.objs.size (Nat.ne_of_gt (Nat.lt_succ_self _)) (Nat.le_add_right _ _) (Nat.le_refl _) ⟨⟨_,p2⟩,uU p1⟩ fun c o x=>Heap.get?_push_of_some _ (Heap.get?_push_of_some _ x)⟩
theorem yc{b:Bool}{prog:Program}{w:World}{A:Around}{E:Value->Shared->Prop}{s:Shared}{e it a:Addr}{i:Int}{j:Nat}{ys:Array Value}{old:Value}{Q:Option Value->Shared->Prop}(hh:A.in1.handled=none)(he:IsEnum s.heap e it i old)(hi:SI b s.heap it a j)(ha:SA b s.heap a ys)(hx:ys[j]?=none)
  (k:∀h',Heap.ExtBut it s.heap h'->Q none { s with heap:=h' }):wpAny (model prog w) A (pyNext (.ref e)) Q E s:=by
 have ty:s.TypeIs (.ref e) "enumerate":=⟨_,he,rfl⟩
 unfold pyNext
 refine wpAny_bind (wpAny_attempt (wpAny_callSpecial?_slot (name:=Str.ofString "__next__") ty PySem.F.slot_enumerate_next (wpAny_call_entry PySem.F.slot_enumerate_next ty PySem.F.entry_enumerate_next ?_ (PySem.F.args_enumerate_next_1 _))))
 show wpAny _ _ (field (.ref e) 2 >>= fun _=>_) _ _ _
 refine wpAny_bind (wpAny_field he rfl (x:=.ref it) rfl (wpAny_bind (ff hh hi ha hx fun h' x he' hx'=>?_)))
 obtain⟨o,ho,co⟩:=hx'
 exact wpAny_bind (wpAny_isInstance (T:="StopIteration") (b:=true) ⟨o,ho,co⟩ isSubtype_stop (wpAny_pure (k _ he')))
def Ite(K:PySem.W.Frag)(b:Bool)(a:Addr):It:=
  ⟨fun i H=>∃xs x,Sq K b H a xs/\xs[i]?=some x,
   fun i H v H'=>∃p x,v=.ref p/\H p=none/\H'=upd H p (.tup [.int i,x])/\∀xs,Sq K b H a xs->xs[i]?=some x,
   fun i H=>∃xs,Sq K b H a xs/\xs.length<=i⟩
theorem tK{P:Program}{w:World}{K:PySem.W.Frag}{es:List Expr}{k:Nat}{pos:Pos}{b:Bool}{e it a:Addr}(ne:e≠it)(nae:a≠e)(nai:a≠it) :
  Bt P w K (.Tuple es k pos) (Ite K b a) [e,it] e (fun n h=>ESt b h e it a n) where
 mem:=by simp
 obj:=fun n h st c hc=>by
  obtain⟨⟨old,he⟩,hi⟩:=st
  simp only[List.mem_cons,List.not_mem_nil,or_false]at hc
  rcases hc with rfl|rfl
  ·exact⟨_,he,fun v q=>by cases q⟩
  ·exact hi.obj
 keep:=fun n h h' st kp=>let ⟨old,he⟩:=st.he;⟨⟨old,kp e (by simp) _ he⟩,st.hi.at_ fun o q=>kp it (by simp) o q⟩
 item:=by
  intro X hP hw hK hc n pins s σ H E Iv hf st hg
  subst hP hw hK
  obtain⟨xs,x,qa,hx⟩:=hg
  obtain⟨ia,ra,sa⟩:=Iv.sq qa
  obtain⟨u,hu,ru⟩:=ra.get hx
  obtain⟨⟨old,he⟩,hi⟩:=st
  have hlt:n<ia.toArray.size:=by simpa using (List.getElem?_eq_some_iff.mp hu).1
  refine wpAny_pyNext_enum_itemD (Bi (b:=b) (show X.A.in1.handled=none from Iv.ok.hd hc) it a nai ia.toArray) he ⟨hi,sa⟩ hlt ne (by simp[ne,Ne.symm nae]) fun y h1 tk py out1 st1 T1 sz1 up1=>⟨_,rfl,wpAny_letOwnedTupleGo_enum out1 fun h2 e2 s2=>?_⟩
  have ey:y=u:=by
   have p':ia.toArray[n]?=some y:=py
   rw[List.getElem?_toArray,hu]at p';cases p';rfl
  subst ey
  have hfr:H s.heap.objs.size=none:=Iv.hok.fresh (Nat.le_refl _)
  have elt:e<s.heap.objs.size:=Heap.lt_size he
  have ilt:it<s.heap.objs.size:=by obtain⟨o,q,_⟩:=hi.obj;exact Heap.lt_size q
  have sz:∀c∈[e,it],c<s.heap.objs.size:=fun c hc=>by
   simp only[List.mem_cons,List.not_mem_nil,or_false]at hc
   rcases hc with rfl|rfl
   ·exact elt
   ·exact ilt
  have T2:h2.get? s.heap.objs.size=some { cls:=.type "tuple",data:=.seq #[.int n tk,y] }:=s2.extBut _ _ (Nat.ne_of_gt elt) T1
  have I1:Inv X pins σ (upd H s.heap.objs.size (.tup [.int n,x])) { s with heap:=s.heap.push { cls:=.type "tuple",data:=.seq #[.int n tk,y] },toks:=s.toks }:=
   Iv.laid (fun b o e=>Heap.get?_push_of_some _ e) (Nat.le_refl _) (qD (Heap.get?_push_size _ rfl) ⟨tk,rfl⟩ ru)
  have fr2:∀c∈[e,it],(upd H s.heap.objs.size (.tup [.int n,x])) c=none:=fun c hc=>by rw[aV (Nat.ne_of_lt (sz c hc))];exact(hf c hc).1
  have I2:Inv X pins σ (upd H s.heap.objs.size (.tup [.int n,x])) { s with heap:=h2,toks:=tk+1 }:=
   Inv.turnedL (s:={ s with heap:=s.heap.push { cls:=.type "tuple",data:=.seq #[.int n tk,y] },toks:=s.toks }) (h':=h2) (t':=tk+1) (ch:=[e,it]) I1 (fun c o hn q=>by
    by_cases ce:c=s.heap.objs.size
    ·subst ce
     have q':(s.heap.push { cls:=.type "tuple",data:=.seq #[.int n tk,y] }).get? s.heap.objs.size=some o:=q
     rw[Heap.get?_push_size _ rfl]at q'
     cases q';exact T2
    ·have q':s.heap.get? c=some o:=qB q ce
     simp only[List.mem_cons,List.not_mem_nil,or_false,not_or]at hn
     exact s2.extBut _ _ hn.1 (up1 c o hn.1 hn.2 q')) fun c hc=>⟨fr2 c hc,(hf c hc).2⟩
  refine⟨.ref s.heap.objs.size,_,I2,rfl,⟨_,x,rfl,hfr,rfl,fun xs' q=>by rw[Iv.sq_inj q qa];exact hx⟩,⟨⟨_,by simpa using e2⟩,st1.1.at_ fun o q=>s2.extBut _ _ (Ne.symm ne) q⟩,fr2⟩
 done:=by
  intro X hP hw hK hc n pins s σ H E Iv hf st hg
  subst hP hw hK
  obtain⟨xs,qa,hx⟩:=hg
  obtain⟨ia,ra,sa⟩:=Iv.sq qa
  have la:=ra.length
  obtain⟨⟨old,he⟩,hi⟩:=st
  refine yc (show X.A.in1.handled=none from Iv.ok.hd hc) he hi sa (by simp;omega) fun h1 up1=>⟨rfl,?_⟩
  exact Iv.turnedL (t':=s.toks) (ch:=[e,it]) (fun c o hn q=>by
   simp only[List.mem_cons,List.not_mem_nil,or_false,not_or]at hn
   exact up1 c o hn.2 q) hf
 self:=fun _ _ _ _ _ st h=>let ⟨old,he⟩:=st.he;wpAny_pyIter_enum he h
def Ex(K:PySem.W.Frag)(ta:TA):TI:=fun σ H R=>ta σ H fun vs H2=>∃b a,vs=[.ref a]/\(∃xs,Sq K b H2 a xs)/\R (Ite K b a) H2
theorem vN:bootBuiltins "enumerate"=some (.type "enumerate"):=rfl
section
variable{X:Cx}{pos:Pos}
theorem zX{es:List Expr}{k:Nat}{tp p:Pos}{a:Expr}{ta:TA}(hg:Gl X "enumerate")(hm:X.mg "enumerate"=none)(ha:WA X [a] ta)
  (hs:starEach [a] X.env=(false,eval a X.env)::starEach [] X.env:=by rfl) (hpl:(backTo pos (starEach [] X.env)).any (·.1)=false:=by rfl):WI X (.Tuple es k tp) (.Call (.Name "enumerate" p) [a] [] pos) (Ex X.K ta):=by
 constructor
 intro pins s σ H R I h
 refine wpAny_Call_Name_kw (jd I hg hm OP.vN ?_)
 refine PyProof.Rows.callWith_type1 (thn (ha.h pos pins s σ H _ I h) fun us s1 hz=>?_) hs hpl
 obtain⟨vs,H1,I1,r1,q1⟩:=hz
 obtain⟨b,aa,rfl,⟨xs,qa⟩,q⟩:=q1
 obtain⟨u,rfl,ru⟩:=oW r1
 cases ru
 obtain⟨ia,ra,sa⟩:=I1.sq qa
 refine vm sa fun h1 e it ne he hi st up=>?_
 obtain⟨old,hE⟩:=st.he
 refine wpAny_pyIter_enum hE ⟨e,[e,it],_,_,H1,rfl,I1.kept (t':=s1.toks) up,tK ne (Nat.ne_of_lt (Nat.lt_of_lt_of_le sa.lt he)) (Nat.ne_of_lt (Nat.lt_of_lt_of_le sa.lt hi)),st,fun c hc=>?_,q⟩
 simp only[List.mem_cons,List.not_mem_nil,or_false]at hc
 rcases hc with rfl|rfl
 ·exact I1.fpOk he (I1.hok.fresh he)
 ·exact I1.fpOk hi (I1.hok.fresh hi)
def vn(us:List U):List U:=us.zipIdx.map fun p=>.tup [.int p.2,p.1]
def pj(ca:CE):CI:=fun ρ S=>(ca ρ S).bind fun p=>(vZ p.1 p.2).bind fun x=>some (vn x.1,x.2,p.2)
theorem ua{es:List Expr}{k:Nat}{tp p:Pos}{a:Expr}{ca:CE}(hg:Gl X "enumerate")(hm:X.mg "enumerate"=none)(ha:QE X a ca)
  (hs:starEach [a] X.env=(false,eval a X.env)::starEach [] X.env:=by rfl) (hpl:(backTo pos (starEach [] X.env)).any (·.1)=false:=by rfl) :
  QI X (.Tuple es k tp) (.Call (.Name "enumerate" p) [a] [] pos) (pj ca):=(zX hg hm (cX ha gH hs) hs hpl).imp fun σ H R hz=>qZ hz fun m ρ S us ok S' sr lr hf post=>by
 obtain⟨⟨x,S1⟩,h1,h⟩:=Option.bind_eq_some_iff.mp hf
 obtain⟨⟨xs,okx⟩,h3,h⟩:=Option.bind_eq_some_iff.mp h
 cases h
 refine⟨m,ρ,S,x,_,sr,lr,h1,fun m1 v1 H1 e1 sr1 i1=>?_⟩
 obtain⟨b,aa,rfl,q1,k1⟩:=tY sr1 i1 h3
 refine⟨b,aa,rfl,q1,post m1 H1 _ e1 sr1 fun m3 S3 H3 i e3 sr3 hok=>?_⟩
 obtain⟨vs,sq1,l1⟩:=k1 m3 S3 H3 e3 sr3 hok
 have n1:=l1.length
 refine⟨fun u hu=>?_,fun hi=>⟨vs,sq1,?_⟩⟩
 ·simp only[vn,List.getElem?_map,Option.map_eq_some_iff,List.getElem?_zipIdx]at hu
  obtain⟨⟨p,q⟩,⟨y,hp,e⟩,rfl⟩:=hu
  cases e
  obtain⟨vp,ep,ip⟩:=l1.getD hp
  refine⟨⟨vs,vp,sq1,ep⟩,fun v H4 hy=>?_⟩
  obtain⟨r,x',rfl,hr,rfl,f1⟩:=hy
  have:=f1 vs sq1
  rw[ep]at this;cases this
  have ee:Ext X.K m3 H3 m3 (upd H3 r (.tup [.int i,vp])):=.of (bH hr _)
  exact⟨ee,sr3.same (cQ hr _),.tup_ (SqT.of aJ) (.cons_ (by simp only[Nat.zero_add];exact .int_) (.cons_ (ip.mono ee) .nil_))⟩
 ·simp only[vn,List.length_map,List.length_zipIdx]at hi
  omega
def jS:List (CE×CE)->Rho->Sto->Option (List (Key×U)×Sto)
 |[],_,S=>some ([],S)
 |(ck,cv)::r,ρ,S=>(ck ρ S).bind fun p=>(cv ρ p.2).bind fun q=>(jr p.1).bind fun k=>(jS r ρ q.2).bind fun z=>some ((k,q.1)::z.1,z.2)
def D6(kus:List (Key×U))(au:List (Key×U)):List (Key×U):=kus.foldl (fun acc kv=>ig acc kv.1 kv.2) au
def uD(kus:List (Key×U)):List (Key×U):=D6 kus []
def EL(prs:List (CE×CE)):CE:=fun ρ S=>(jS prs ρ (S++[.dic []])).bind fun q=>match q.2[S.length]? with
 |some (.dic [])=>some (.ref S.length,q.2.set S.length (.dic (uD q.1)))
 |_=>none
end
theorem nR:∀{vs:List Value} {ns:List Int},IntsAre vs ns->bN (ns.map V.int) vs
 |_,_,.nil=>.nil
 |_,_,.cons n t r=>.cons ⟨t,rfl⟩ (nR r)
theorem fS:∀{ns:List Int} {vs:List Value},bN (ns.map V.int) vs->IntsAre vs ns
 |[],_,h=>by cases h;exact .nil
 |n::ns,_,.cons r t=>by
  obtain⟨k,rfl⟩:=r
  exact .cons n k (fS t)
def t6(K:PySem.W.Frag):List V->Hp->VK->Prop:=fun xs H Q=>∃(p:Addr) (ns:List Int),xs=[.ref p]/\(SqL K H p (ns.map V.int)\/∃kvs,H p=some (.dK kvs)/\kvs.map (·.1)=ns.map Sum.inl)/\ns.length<64/\
 ∀(l:Addr) (ms:List Int),H l=none->ms.Perm ns->ms.Pairwise (·<=·)->Q (.ref l) (upd H l (.lst (ms.map V.int)))
theorem uM{κ:Type}:∀{kvs:List (κ×V)} {vs:List (κ×Value)},KV kvs vs->vs.map (·.1)=kvs.map (·.1)
 |_,_,.nil=>rfl
 |_,_,.cons r t=>by rw[List.map_cons,List.map_cons,uM t,r.1]
theorem uF{P:Program}{w:World}{H:Hp}{h:Heap}{a:Addr}{ms:List Int}{out:Array Value}{e:Nat}(g:h.get? a=some (seqObj "list" out e))(hI:IntsAre out.toList ms)(hl:ms.length<64):cK P w H h a (.lst (ms.map V.int)):=
 ⟨by rw[List.length_map];exact Nat.le_of_lt (Nat.lt_of_lt_of_le hl (by unfold sizeLine;decide)),out.toList,e,nR hI,by rw[Array.toArray_toList];exact g⟩
theorem qG{X:Cx}(hc:X.calm=true):fF X (.builtin "sorted") (t6 X.K):=by
 rintro pins s σ H xs us Q I r ⟨p,ns,rfl,src,h64,q⟩
 obtain⟨u,rfl,ru⟩:=oW r
 cases ru
 rcases src with hL|⟨kvs,hD,hk⟩
 ·obtain⟨its,rv,pl,hz⟩:=I.list hL
  have hI:=fS rv
  have eF:=rv.length
  rw[List.length_map]at eF
  refine sorted_ints pl.isList hI (by omega) fun out ms a1 a2 a3=>?_
  obtain⟨e,ge⟩:=sortedAll_at s.heap its out
  have hf:=I.hok.fresh (Nat.le_succ s.heap.objs.size)
  exact⟨.ref (s.heap.objs.size+1),_,I.laid (t':=s.toks) (fun b o e=>sortedAll_old e) (Nat.le_succ _) (uF ge a1 (by rw[a2.length_eq];exact h64)),rfl,q _ ms hf a2 a3⟩
 ·obtain⟨z,hd,vs,rel,dd⟩:=Bj I.hok hD
  obtain⟨ep,da⟩:=dd.dictAt
  have lkv:kvs.length=ns.length:=by have:=congrArg List.length hk;simpa using this
  have lv:vs.length=ns.length:=by rw[<-Paired.length rel];exact lkv
  have ks:vs.map (·.1)=ns.map Sum.inl:=by
   rw[<-hk];exact uM rel
  refine Calls.call_function_entry kind_sorted plain_sorted entry_sorted (args_sorted1 _) ?_
  unfold Builtin.«sorted»
  refine wpAny_bind (m:=checkCount "sorted" 1 1 _) (wpAny_pure (wpAny_bind (PySem.W.kdu_collect (PySem.W.kdl_dict (kvs:=vs) (ep:=ep) hd) (show X.A.in1.handled=none from I.ok.hd hc) da (by rw[lv,<-lkv];exact z) fun h1 tk acc up hac=>?_)))
  have hla:acc.toList.length=ns.length:=by rw[Array.length_toList,hac.1,lv]
  have hI:IntsAre acc.toList ns:=by
   have key:∀(i:Nat) (v:Value),acc.toList[i]?=some v->∃(n:Int) (t:Tok),ns[i]?=some n/\v=Value.int n t:=fun i v e=>by
    obtain⟨k,x,e1,e2⟩:=hac.2 i v (by rw[<-Array.getElem?_toList];exact e)
    have e3:(vs.map (·.1))[i]?=some k:=by rw[List.getElem?_map,e1];rfl
    rw[ks,List.getElem?_map]at e3
    obtain⟨n,e4,e5⟩:=Option.map_eq_some_iff.mp e3
    subst e5
    rcases bA (k:=Sum.inl n) e2 with⟨j,t,e6,e7⟩|⟨j,t,e6,e7⟩
    ·cases e6;exact⟨n,t,e4,e7⟩
    ·cases e6
   clear hac
   generalize acc.toList=L at key hla
   clear ks lv lkv h64 q hk
   induction L generalizing ns with
   |nil=>cases ns with
    |nil=>exact .nil
    |cons a b=>simp at hla
   |cons a b ih=>cases ns with
    |nil=>simp at hla
    |cons c d=>
     obtain⟨n,t,e1,e2⟩:=key 0 a (by simp)
     simp at e1;subst e1;subst e2
     exact .cons _ t (ih _ (fun i v e=>by have:=key (i+1) v (by simpa using e);simpa using this) (by simpa using hla))
  refine wpAny_bind (wpAny_newList ?_ (by rw[hla,<-lkv];exact z))
  have gL:(h1.push { cls:=.type "list",data:=.seq acc.toList.toArray }).get? h1.objs.size=some (seqObj "list" acc.toList.toArray 0):=Heap.get?_push_size _ rfl
  refine wpAny_bind (wpAny_holding (wpAny_call_entry slot_list_sort ⟨_,gL,rfl⟩ entry_list_sort (list_sort_tree (s:={ s with heap:=h1.push { cls:=.type "list",data:=.seq acc.toList.toArray },toks:=tk }) gL hI (by omega) fun out ms a1 a2 a3=>⟨_,rfl,?_⟩) (args_list_sort _)))
  obtain⟨e,ge⟩:=sortedHeap_at (out:=out) gL
  have I1:Inv X pins σ H { s with heap:=h1,toks:=tk }:=I.kept up
  have hf:=I1.hok.fresh (Nat.le_refl h1.objs.size)
  refine wpAny_pure ⟨_,rfl,.ref h1.objs.size,_,Inv.laid (s:={ s with heap:=h1,toks:=tk }) (h':=sortedHeap (h1.push { cls:=.type "list",data:=.seq acc.toList.toArray }) h1.objs.size acc.toList out) (t':=tk) I1 (fun b o g1=>?_) (Nat.le_refl _) (uF ge a1 (by rw[a2.length_eq];exact h64)),rfl,q _ ms hf a2 a3⟩
  have g1:h1.get? b=some o:=g1
  have lt1:=Heap.lt_size g1
  rw[sortedHeap_old (Nat.ne_of_lt lt1) (by rw[Heap.size_push];exact Nat.lt_succ_of_lt lt1)]
  exact Heap.get?_push_of_some _ g1
def jn(ns:List Int):List Int:=ns.mergeSort (fun a b=>decide (a<=b))
theorem iL(ns:List Int):(jn ns).Perm ns:=List.mergeSort_perm ..
theorem nD(ns:List Int):(jn ns).Pairwise (·<=·):=by
 have:=List.pairwise_mergeSort (le:=fun(a b:Int)=>decide (a<=b)) (fun a b c h1 h2=>by simp at h1 h2 ⊢;omega) (fun a b=>by simp;omega) ns
 exact this.imp fun h=>by simpa using h
theorem qq{ns ms:List Int}(p:ms.Perm ns)(s:ms.Pairwise (·<=·)):ms=jn ns:=PySem.W.lks_uniq (p.trans (iL ns).symm) s (nD ns)
def rZ:List (Key×U)->Option (List Int)
 |[]=>some []
 |(.inl n,_)::r=>(rZ r).map (n::·)
 |_=>none
theorem qR:∀{kus:List (Key×U)} {ns:List Int},rZ kus=some ns->kus.map (·.1)=ns.map Sum.inl
 |[],ns,h=>by cases h;rfl
 |(k,u)::r,ns,h=>by
  cases k<;>simp only[rZ]at h<;>try cases h
  obtain⟨ms,e,h⟩:=Option.map_eq_some_iff.mp h
  subst h
  simp[qR e]
def fZ:Fn
 |[.ref l],S=>match S[l]? with
  |some (.lst us)=>(se us).bind fun ns=>if ns.length<64 then some (.ref S.length,S++[.lst ((jn ns).map U.int)])else none
  |some (.dic kus)=>(rZ kus).bind fun ns=>if ns.length<64 then some (.ref S.length,S++[.lst ((jn ns).map U.int)])else none
  |_=>none
 |_,_=>none
theorem qE{K:PySem.W.Frag}:oM K (t6 K) fZ:=by
 intro m S H us vs u S' Q sr i hf post
 match us,hf with
 |[.ref l],hf=>
  obtain⟨v,rfl,iv⟩:=i.one
  obtain⟨a,ha,rfl⟩:=iv.of_ref
  simp only[fZ]at hf
  split at hf<;>try cases hf
  ·rename_i ws hS
   obtain⟨ns,hn,h⟩:=Option.bind_eq_some_iff.mp hf
   split at h<;>try cases h
   have hc:ns.length<64:=by assumption
   obtain⟨a',ha',xs,hx,la⟩:=sr.get hS
   rw[ha]at ha';cases ha'
   rw[qX hn]at la
   rw[la.ints]at hx
   refine⟨a,ns,rfl,.inl (SqL.of hx),hc,fun p ms hp pm sm=>?_⟩
   rw[qq pm sm]
   exact dQ sr (iE _) post hp
  ·rename_i ws hS
   obtain⟨ns,hn,h⟩:=Option.bind_eq_some_iff.mp hf
   split at h<;>try cases h
   have hc:ns.length<64:=by assumption
   obtain⟨a',ha',kvs,hx,ip⟩:=sr.get hS
   rw[ha]at ha';cases ha'
   refine⟨a,ns,rfl,.inr ⟨kvs,hx,by rw[ip.1,qR hn]⟩,hc,fun p ms hp pm sm=>?_⟩
   rw[qq pm sm]
   exact dQ sr (iE _) post hp
section
variable{ρ:Rho}{S:Sto}{c1 c2:CS}{t ta tb:CT}{ca cb cc:CE}{cr:CA}{u x y:U}{us:List U}{i l:Nat}{f g:U->U->Sto->Option (U×Sto)}{b:Bool}
def HP(S:Sto):Option (Option U)->Option (U×Sto)
 |some (some u)=>some (u,S)
 |_=>none
theorem Fj:ax i ρ S=HP S (ρ[i]?):=rfl
theorem BF:HP S (some (some u))=some (u,S):=rfl
theorem x_c:cC u ρ S=some (u,S):=rfl
def G8(f:U->U->Sto->Option (U×Sto))(x:U)(q:U×Sto):=f x q.1 q.2
def HV(f:U->U->Sto->Option (U×Sto))(cb:CE)(ρ:Rho)(p:U×Sto):=(cb ρ p.2).bind (G8 f p.1)
theorem Iw:cOp f ca cb ρ S=(ca ρ S).bind (HV f cb ρ):=rfl
theorem FH:HV f cb ρ (x,S)=(cb ρ S).bind (G8 f x):=rfl
theorem FG:G8 f x (y,S)=f x y S:=rfl
def Eh:U×Sto->Option (Bool×Sto)
 |(.bl b,S)=>some (b,S)
 |_=>none
theorem BK:aN ca ρ S=(ca ρ S).bind Eh:=by
 unfold aN;congr 1;funext p;obtain⟨u,S⟩:=p;cases u<;>rfl
theorem zq:Eh (.bl b,S)=some (b,S):=rfl
def Hh(tb:CT)(ρ:Rho)(p:Bool×Sto):=if p.1=true then tb ρ p.2 else some (false,p.2)
def kOr(tb:CT)(ρ:Rho)(p:Bool×Sto):=if p.1=true then some (true,p.2)else tb ρ p.2
def HW(p:Bool×Sto):Option (Bool×Sto):=some (!p.1,p.2)
theorem Gv:BD ta tb ρ S=(ta ρ S).bind (Hh tb ρ):=rfl
theorem Cv:Hh tb ρ (true,S)=tb ρ S:=rfl
theorem Cu:Hh tb ρ (false,S)=some (false,S):=rfl
theorem Iu:cOr ta tb ρ S=(ta ρ S).bind (kOr tb ρ):=rfl
theorem FF:kOr tb ρ (true,S)=some (true,S):=rfl
theorem FE:kOr tb ρ (false,S)=tb ρ S:=rfl
theorem FI:EK ta ρ S=(ta ρ S).bind HW:=rfl
theorem B2:HW (b,S)=some (!b,S):=rfl
def A6(cb:CE)(ρ:Rho):U×Sto->Option (U×Sto)
 |(.bl true,S)=>cb ρ S
 |(.bl false,S)=>some (.bl false,S)
 |_=>none
def G7(cb:CE)(ρ:Rho):U×Sto->Option (U×Sto)
 |(.bl false,S)=>cb ρ S
 |(.bl true,S)=>some (.bl true,S)
 |_=>none
def Ek:U×Sto->Option (U×Sto)
 |(.bl b,S)=>some (.bl (!b),S)
 |_=>none
theorem Ct:oB ca cb ρ S=(ca ρ S).bind (A6 cb ρ):=by
 unfold oB;congr 1;funext p;obtain⟨u,S⟩:=p;cases u with
 |bl b=>cases b<;>rfl
 |_=>rfl
theorem zG:A6 cb ρ (.bl true,S)=cb ρ S:=rfl
theorem zF:A6 cb ρ (.bl false,S)=some (.bl false,S):=rfl
theorem FD:Ih ca cb ρ S=(ca ρ S).bind (G7 cb ρ):=by
 unfold Ih;congr 1;funext p;obtain⟨u,S⟩:=p;cases u with
 |bl b=>cases b<;>rfl
 |_=>rfl
theorem BZ:G7 cb ρ (.bl false,S)=cb ρ S:=rfl
theorem BY:G7 cb ρ (.bl true,S)=some (.bl true,S):=rfl
theorem B1:yo ca ρ S=(ca ρ S).bind Ek:=by
 unfold yo;congr 1;funext p;obtain⟨u,S⟩:=p;cases u<;>rfl
theorem zr:Ek (.bl b,S)=some (.bl (!b),S):=rfl
def uR(u:U)(q:List U×Sto):Option (List U×Sto):=some (u::q.1,q.2)
def y4(cr:CA)(ρ:Rho)(p:U×Sto):=(cr ρ p.2).bind (uR p.1)
theorem B3:aL ρ S=some ([],S):=rfl
theorem yE:ao ca cr ρ S=(ca ρ S).bind (y4 cr ρ):=rfl
theorem sR:y4 cr ρ (u,S)=(cr ρ S).bind (uR u):=rfl
theorem sQ:uR u (us,S)=some (u::us,S):=rfl
def HQ(p:List U×Sto):Option (U×Sto):=some (.tup p.1,p.2)
def HX(p:List U×Sto):Option (U×Sto):=some (.ref p.2.length,p.2++[.lst p.1])
theorem Fl:jk cr ρ S=(cr ρ S).bind HQ:=rfl
theorem BJ:HQ (us,S)=some (.tup us,S):=rfl
theorem FR:md cr ρ S=(cr ρ S).bind HX:=rfl
theorem B7:HX (us,S)=some (.ref S.length,S++[.lst us]):=rfl
def kCB(f:Fn)(p:List U×Sto):=f p.1 p.2
theorem IQ{f:Fn}:cCB f cr ρ S=(cr ρ S).bind (kCB f):=rfl
theorem Gr{f:Fn}:kCB f (us,S)=f us S:=rfl
def HY(T:Ty)(p:U×Sto):Option (U×Sto):=(tyU p.1 p.2).bind fun t=>some (.bl (wH t T),p.2)
theorem FY{T:Ty}:sE T ca ρ S=(ca ρ S).bind (HY T):=rfl
theorem Ce{T:Ty}:HY T (u,S)=(tyU u S).bind fun t=>some (.bl (wH t T),S):=rfl
def Ei(c2:CS):Out×Rho×Sto->Option (Out×Rho×Sto)
 |(.nx,ρ,S)=>c2 ρ S
 |(o,ρ,S)=>some (o,ρ,S)
theorem BL:dR ρ S=some (.nx,ρ,S):=rfl
theorem BS:bZ c1 c2 ρ S=(c1 ρ S).bind (Ei c2):=by
 unfold bZ;congr 1;funext p;obtain⟨o,ρ,S⟩:=p;cases o<;>rfl
theorem yz:Ei c2 (.nx,ρ,S)=c2 ρ S:=rfl
theorem BR:Ei c2 (.rt u,ρ,S)=some (.rt u,ρ,S):=rfl
theorem BQ:Ei c2 (.bk,ρ,S)=some (.bk,ρ,S):=rfl
theorem BP:Ei c2 (.ct,ρ,S)=some (.ct,ρ,S):=rfl
def Em(ρ:Rho)(p:U×Sto):Option (Out×Rho×Sto):=some (.nx,ρ,p.2)
def HU(ρ:Rho)(p:U×Sto):Option (Out×Rho×Sto):=some (.rt p.1,ρ,p.2)
theorem yD:eX ca ρ S=(ca ρ S).bind (Em ρ):=rfl
theorem zB:Em ρ (u,S)=some (.nx,ρ,S):=rfl
theorem BV:gS ca ρ S=(ca ρ S).bind (HU ρ):=rfl
theorem BU:HU ρ (u,S)=some (.rt u,ρ,S):=rfl
def Ha(c1 c2:CS)(ρ:Rho)(p:Bool×Sto):=if p.1=true then c1 ρ p.2 else c2 ρ p.2
theorem Ck:gx t c1 c2 ρ S=(t ρ S).bind (Ha c1 c2 ρ):=rfl
theorem yA:Ha c1 c2 ρ (true,S)=c1 ρ S:=rfl
theorem Cj:Ha c1 c2 ρ (false,S)=c2 ρ S:=rfl
def kIf(ca cb:CE)(ρ:Rho)(p:Bool×Sto):=if p.1=true then ca ρ p.2 else cb ρ p.2
theorem IK:cIf t ca cb ρ S=(t ρ S).bind (kIf ca cb ρ):=rfl
theorem F7:kIf ca cb ρ (true,S)=ca ρ S:=rfl
theorem F6:kIf ca cb ρ (false,S)=cb ρ S:=rfl
def HR(i:Nat)(ρ:Rho)(p:U×Sto):Option (Out×Rho×Sto):=some (.nx,ρ.set i (some p.1),p.2)
theorem Fz:fe i ca ρ S=(ca ρ S).bind (HR i ρ):=rfl
theorem BO:HR i ρ (u,S)=some (.nx,ρ.set i (some u),S):=rfl
def A5(q:Rho×Sto):Option (Out×Rho×Sto):=some (.nx,q.1,q.2)
def HZ(g:CG)(ρ:Rho)(p:U×Sto):=(g p.1 ρ p.2).bind A5
theorem Gs{g:CG}:EM ca g ρ S=(ca ρ S).bind (HZ g ρ):=rfl
theorem Cs{g:CG}:HZ g ρ (u,S)=(g u ρ S).bind A5:=rfl
theorem Cr:A5 (ρ,S)=some (.nx,ρ,S):=rfl
theorem F9:gNm i u ρ S=some (ρ.set i (some u),S):=rfl
theorem F8{is:List Nat}:gTp is (.tup us) ρ S=(fG is us ρ).bind fun ρ'=>some (ρ',S):=rfl
theorem Cy:fG [] [] ρ=some ρ:=rfl
theorem Cw{is:List Nat}:fG (i::is) (u::us) ρ=fG is us (ρ.set i (some u)):=rfl
def Ej(ρ:Rho)(S':Sto):Option (Out×Rho×Sto):=some (.nx,ρ,S')
def G5(o v:U)(ρ:Rho)(r:U×Sto):=(kc o r.1 v r.2).bind (Ej ρ)
def G6(ci:CE)(v:U)(ρ:Rho)(q:U×Sto):=(ci ρ q.2).bind (G5 q.1 v ρ)
def kSI(co ci:CE)(ρ:Rho)(p:U×Sto):=(co ρ p.2).bind (G6 ci p.1 ρ)
theorem Il:d7 ca cb cc ρ S=(cc ρ S).bind (kSI ca cb ρ):=rfl
theorem Fu:kSI ca cb ρ (u,S)=(ca ρ S).bind (G6 cb u ρ):=rfl
theorem Ft:G6 cb y ρ (u,S)=(cb ρ S).bind (G5 u y ρ):=rfl
theorem Fs:G5 x y ρ (u,S)=(kc x u y S).bind (Ej ρ):=rfl
theorem Fq:Ej ρ S=some (.nx,ρ,S):=rfl
def kIx(y:U)(S:Sto):Option O->Option (U×Sto)
 | some (.lst us)=>(match y with
   |.int i=>(atI us i).bind fun u=>some (u,S)
   |_=>none)
 |some (.dic kus)=>(jr y).bind fun k=>(br kus k).bind fun u=>some (u,S)
 |some (.fdc _ kus)=>(jr y).bind fun k=>(br kus k).bind fun u=>some (u,S)
 |_=>none
theorem FU{j:Int}:fIx (.tup us) (.int j) S=(atI us j).bind fun u=>some (u,S):=rfl
theorem FV:fIx (.ref l) y S=kIx y S S[l]?:=by
 unfold fIx kIx;dsimp only<;>(generalize S[l]?=q;rcases q with _|o<;>first|rfl|(cases o<;>rfl))
theorem FW{j:Int}:kIx (.int j) S (some (.lst us))=(atI us j).bind fun u=>some (u,S):=rfl
theorem Cd{ep:Nat}{kus:List (Key×U)}:kIx y S (some (.fdc ep kus))=(jr y).bind fun k=>(br kus k).bind fun u=>some (u,S):=rfl
theorem FX{kus:List (Key×U)}:kIx y S (some (.dic kus))=(jr y).bind fun k=>(br kus k).bind fun u=>some (u,S):=rfl
def E6(l:Nat)(i v:U)(S:Sto):Option O->Option Sto
 | some (.lst us)=>(match i with
   |.int k=>(ixN us.length k).bind fun j=>some (S.set l (.lst (us.set j v)))
   |_=>none)
 |some (.dic kus)=>(jr i).bind fun k=>if kus.length<LIM then some (S.set l (.dic (ig kus k v)))else none
 |_=>none
theorem Fo:kc (.ref l) x y S=E6 l x y S S[l]?:=by
 unfold kc E6;dsimp only<;>(generalize S[l]?=q;rcases q with _|o<;>first|rfl|(cases o<;>rfl))
theorem BM{j:Int}:E6 l (.int j) y S (some (.lst us))=(ixN us.length j).bind fun j=>some (S.set l (.lst (us.set j y))):=rfl
theorem BN{kus:List (Key×U)}:E6 l x y S (some (.dic kus))=(jr x).bind fun k=>if kus.length<LIM then some (S.set l (.dic (ig kus k y)))else none:=rfl
theorem at0{α:Type}{a:α}{r:List α}:atI (a::r) 0=some a:=by show atI _ ((0:Nat):Int)=_;exact kE rfl
theorem at1{α:Type}{a b:α}{r:List α}:atI (a::b::r) 1=some b:=by show atI _ ((1:Nat):Int)=_;exact kE rfl
theorem at2{α:Type}{a b c:α}{r:List α}:atI (a::b::c::r) 2=some c:=by show atI _ ((2:Nat):Int)=_;exact kE rfl
theorem at3{α:Type}{a b c d:α}{r:List α}:atI (a::b::c::d::r) 3=some d:=by show atI _ ((3:Nat):Int)=_;exact kE rfl
theorem ix0{n:Nat}:ixN (n+1) 0=some 0:=by simp[ixN]
theorem ix1{n:Nat}:ixN (n+1+1) 1=some 1:=by simp[ixN];omega
theorem ix2{n:Nat}:ixN (n+1+1+1) 2=some 2:=by simp[ixN];omega
def Fb(S:Sto):Option O->Option (U×Sto)
 |some (.lst us)=>some (.int us.length,S)
 |some (.dic us)=>some (.int us.length,S)
 |_=>none
theorem B9:oO [.ref l] S=Fb S S[l]?:=by
 unfold oO Fb;dsimp only<;>(generalize S[l]?=q;rcases q with _|o<;>first|rfl|(cases o<;>rfl))
theorem Ca:Fb S (some (.lst us))=some (.int us.length,S):=rfl
theorem Cb{kus:List (Key×U)}:Fb S (some (.dic kus))=some (.int kus.length,S):=rfl
theorem B8:oO [.tup us] S=some (.int us.length,S):=rfl
variable{j k:Int}
theorem Gw:lV (.int j) (.int k) S=some (.int (j+k),S):=rfl
theorem Fm:Hm (.int j) (.int k) S=some (.int (j-k),S):=rfl
theorem B4(h:zm j k):ke (.int j) (.int k) S=some (.int (j*k),S):=by simp[ke,fI,h]
theorem zC(h:sL j k):ya (.int j) (.int k) S=some (.int (j / k),S):=by simp[ya,fI,h]
theorem rG(h:0<k):nZ (.int j) (.int k) S=some (.int (j % k),S):=by simp[nZ,fI,h]
theorem FA(h:BE j k):BB (.int j) (.int k) S=some (.int (j^k.toNat),S):=by simp[BB,fI,h]
theorem IH:fLt (.int j) (.int k) S=some (.bl (decide (j<k)),S):=rfl
theorem IJ:fLe (.int j) (.int k) S=some (.bl (decide (j<=k)),S):=rfl
theorem IL:fGt (.int j) (.int k) S=some (.bl (decide (k<j)),S):=rfl
theorem IM:fGe (.int j) (.int k) S=some (.bl (decide (k<=j)),S):=rfl
theorem Gf:fEq (.int j) (.int k) S=some (.bl (decide (j=k)),S):=rfl
theorem FK:fNe (.int j) (.int k) S=some (.bl (!decide (j=k)),S):=rfl
theorem Ge{a c:Str}:fEq (.str a) (.str c) S=some (.bl (decide (a=c)),S):=rfl
theorem FJ{a c:Str}:fNe (.str a) (.str c) S=some (.bl (!decide (a=c)),S):=rfl
theorem Gg{a c:Bool}:fEq (.bl a) (.bl c) S=some (.bl (decide (a=c)),S):=rfl
theorem FL{a c:Bool}:fNe (.bl a) (.bl c) S=some (.bl (!decide (a=c)),S):=rfl
def kFn:Out×Rho×Sto->Option (U×Sto)
 |(.rt u,_,S)=>some (u,S)
 |(.nx,_,S)=>some (.non,S)
 |_=>none
theorem lj{n k:Nat}(h:us.length=k):fnU n k c1 us S=(c1 (nC n us) S).bind kFn:=by
 unfold fnU;rw[if_pos h];congr 1;funext p;obtain⟨o,ρ,S⟩:=p;cases o<;>rfl
theorem Gb:kFn (.rt u,ρ,S)=some (u,S):=rfl
theorem Ga:kFn (.nx,ρ,S)=some (.non,S):=rfl
end
section
variable{ρ:Rho}{S:Sto}{c1 c2:CS}{t ta tb:CT}{ca cb cc:CE}{cr:CA}{u x y:U}{us:List U}{i l:Nat}{b:Bool}{c:Cl}{fus:List (Option U)}{g:Fn}
open Classical in
def xR(c:Cl)(i:Nat)(S:Sto):Option O->Option (U×Sto)
 |some (.ins c' fus)=>if c'=c then(fus[i]?).join.bind fun u=>some (u,S)else none
 |_=>none
def lS(c:Cl)(i:Nat)(p:U×Sto):=EB c i p.1 p.2
theorem Gd:js c i ca ρ S=(ca ρ S).bind (lS c i):=rfl
theorem yC:lS c i (.ref l,S)=xR c i S S[l]?:=by
 unfold lS EB xR;dsimp only<;>(generalize S[l]?=q;rcases q with _|o<;>first|rfl|(cases o<;>rfl))
theorem yB:xR c i S (some (.ins c fus))=((fus[i]?).join).bind fun u=>some (u,S):=by
 unfold xR;dsimp only;rw[if_pos rfl]
open Classical in
def E7(c:Cl)(i l:Nat)(v:U)(S:Sto):Option O->Option Sto
 |some (.ins c' fus)=>if c'=c then some (S.set l (.ins c (fus.set i (some v))))else none
 |_=>none
def E8(c:Cl)(i:Nat)(v:U)(ρ:Rho)(q:U×Sto):=(vg c i q.1 v q.2).bind (Ej ρ)
def HS(c:Cl)(i:Nat)(ca:CE)(ρ:Rho)(p:U×Sto):=(ca ρ p.2).bind (E8 c i p.1 ρ)
theorem Im:pH c i ca cb ρ S=(cb ρ S).bind (HS c i ca ρ):=rfl
theorem Fy:HS c i ca ρ (u,S)=(ca ρ S).bind (E8 c i u ρ):=rfl
theorem Fx:E8 c i u ρ (.ref l,S)=(E7 c i l u S S[l]?).bind (Ej ρ):=by
 unfold E8 vg E7;dsimp only<;>(generalize S[l]?=q;rcases q with _|o<;>first|rfl|(cases o<;>rfl))
theorem Fv:E7 c i l u S (some (.ins c fus))=some (S.set l (.ins c (fus.set i (some u)))):=by
 unfold E7;dsimp only;rw[if_pos rfl]
def uQ(g:Fn)(l:Nat)(q:List U×Sto):=g (.ref l::q.1) q.2
open Classical in
def qU(c:Cl)(g:Fn)(cr:CA)(ρ:Rho)(l:Nat)(S:Sto):Option O->Option (U×Sto)
 |some (.ins c' _)=>if c'=c then(cr ρ S).bind (uQ g l)else none
 |_=>none
def A4(c:Cl)(g:Fn)(cr:CA)(ρ:Rho)(p:U×Sto):=vh c g p.1 p.2 (cr ρ)
theorem B5:sD c g ca cr ρ S=(ca ρ S).bind (A4 c g cr ρ):=rfl
theorem zv:A4 c g cr ρ (.ref l,S)=qU c g cr ρ l S S[l]?:=by
 unfold A4 vh qU;dsimp only<;>(generalize S[l]?=q;rcases q with _|o<;>first|rfl|(cases o<;>rfl))
theorem zu:qU c g cr ρ l S (some (.ins c fus))=(cr ρ S).bind (uQ g l):=by
 unfold qU;dsimp only;rw[if_pos rfl]
theorem zt:uQ g l (us,S)=g (.ref l::us) S:=rfl
def El(n:Nat):U×Sto->Option (U×Sto)
 |(.non,S)=>some (.ref n,S)
 |_=>none
theorem B6:so c g us S=(g (.ref S.length::us) (S++[.ins c (List.replicate c.ns.length none)])).bind (El S.length):=by
 unfold so;congr 1;funext p;obtain⟨u,S⟩:=p;cases u<;>rfl
theorem zw:El i (.non,S)=some (.ref i,S):=rfl
def kIn(neg:Bool)(x:U)(S:Sto):Option O->Option (U×Sto)
 |some (.lst us)=>if eR x=true/\us.all eR=true then some (.bl (if neg then !inU x us else inU x us),S)else none
 |some (.dic kus)=>(jr x).bind fun k=>some (.bl (if neg then !(br kus k).isSome else(br kus k).isSome),S)
 |some (.fdc _ kus)=>(jr x).bind fun k=>some (.bl (if neg then !(br kus k).isSome else(br kus k).isSome),S)
 |_=>none
theorem FZ{neg:Bool}:fIn neg x (.ref l) S=kIn neg x S S[l]?:=by
 unfold fIn kIn;dsimp only<;>(generalize S[l]?=q;rcases q with _|o<;>first|rfl|(cases o<;>rfl))
theorem F5{neg:Bool}{kus:List (Key×U)}:kIn neg x S (some (.dic kus))=(jr x).bind fun k=>some (.bl (if neg then !(br kus k).isSome else(br kus k).isSome),S):=rfl
theorem Ci{neg:Bool}(h:eR x=true/\us.all eR=true):kIn neg x S (some (.lst us))=some (.bl (if neg then !inU x us else inU x us),S):=by
 unfold kIn;dsimp only;rw[if_pos h]
theorem FT{j:Int}:jr (.int j)=some (.inl j):=rfl
theorem Cc{z:Str}:jr (.str z)=some (.inr z):=rfl
def Hf(f:U->List U->Sto->Option (U×Sto))(x:U)(q:List U×Sto):=f x q.1 q.2
def Hg(f:U->List U->Sto->Option (U×Sto))(cr:CA)(ρ:Rho)(x:U)(S:Sto):Option O->Option (U×Sto)
 |some (.lst _)=>(cr ρ S).bind (Hf f x)
 |_=>none
def kBM(f:U->List U->Sto->Option (U×Sto))(cr:CA)(ρ:Rho):U×Sto->Option (U×Sto)
 |(.ref l,S)=>Hg f cr ρ (.ref l) S S[l]?
 |_=>none
variable{fm:U->List U->Sto->Option (U×Sto)}
theorem Hz:cBM fm ca cr ρ S=(ca ρ S).bind (kBM fm cr ρ):=by
 unfold cBM;congr 1;funext p;obtain⟨u,S⟩:=p
 cases u<;>try rfl
theorem Cq:kBM fm cr ρ (.ref l,S)=Hg fm cr ρ (.ref l) S S[l]?:=rfl
theorem Cp:Hg fm cr ρ x S (some (.lst us))=(cr ρ S).bind (Hf fm x):=rfl
theorem Co:Hf fm x (us,S)=fm x us S:=rfl
def Fc(l:Nat)(u:U)(S:Sto):Option O->Option (U×Sto)
 |some (.lst us)=>if us.length<LIM then some (.non,S.set l (.lst (us++[u])))else none
 |_=>none
theorem Gu:cV (.ref l) [u] S=Fc l u S S[l]?:=by
 unfold cV Fc;dsimp only<;>(generalize S[l]?=q;rcases q with _|o<;>first|rfl|(cases o<;>rfl))
theorem jE(h:us.length<LIM):Fc l u S (some (.lst us))=some (.non,S.set l (.lst (us++[u]))):=by
 unfold Fc;dsimp only;rw[if_pos h]
def Hb(ku xu:U)(S:Sto):Option O->Option (U×Sto)
 |some (.dic kus)=>(jr ku).bind fun k=>some ((br kus k).getD xu,S)
 |_=>none
def Hc(l:Nat)(ku:U)(r:U×Sto):=Hb ku r.1 r.2 r.2[l]?
def Hd(l:Nat)(cx:CE)(ρ:Rho)(q:U×Sto):=(cx ρ q.2).bind (Hc l q.1)
def He(l:Nat)(ck cx:CE)(ρ:Rho)(S:Sto):Option O->Option (U×Sto)
 |some (.dic _)=>(ck ρ S).bind (Hd l cx ρ)
 |_=>none
def kDG(ck cx:CE)(ρ:Rho):U×Sto->Option (U×Sto)
 |(.ref l,S)=>He l ck cx ρ S S[l]?
 |_=>none
theorem IP:sG ca cb cc ρ S=(ca ρ S).bind (kDG cb cc ρ):=by
 unfold sG;congr 1;funext p;obtain⟨u,S⟩:=p
 cases u<;>try rfl
theorem Gm:kDG cb cc ρ (.ref l,S)=He l cb cc ρ S S[l]?:=rfl
theorem Gk{kus:List (Key×U)}:He l cb cc ρ S (some (.dic kus))=(cb ρ S).bind (Hd l cc ρ):=rfl
theorem Gj:Hd l cc ρ (u,S)=(cc ρ S).bind (Hc l u):=rfl
theorem Gi:Hc l u (x,S)=Hb u x S S[l]?:=rfl
theorem Gh{kus:List (Key×U)}:Hb u x S (some (.dic kus))=(jr u).bind fun k=>some ((br kus k).getD x,S):=rfl
theorem Cm:kY ρ S=some (.ref S.length,S++[.dic []]):=rfl
def kP3(k:Key)(u:U)(z:List (Key×U)×Sto):Option (List (Key×U)×Sto):=some ((k,u)::z.1,z.2)
def kP2(r:List (CE×CE))(ρ:Rho)(x:U)(q:U×Sto):=(jr x).bind fun k=>(jS r ρ q.2).bind (kP3 k q.1)
def kP1(cv:CE)(r:List (CE×CE))(ρ:Rho)(p:U×Sto):=(cv ρ p.2).bind (kP2 r ρ p.1)
variable{pr:List (CE×CE)}
theorem Ir:jS [] ρ S=some ([],S):=rfl
theorem x_p:jS ((ca,cb)::pr) ρ S=(ca ρ S).bind (kP1 cb pr ρ):=rfl
theorem Iq:kP1 cb pr ρ (u,S)=(cb ρ S).bind (kP2 pr ρ u):=rfl
theorem Ip:kP2 pr ρ x (u,S)=(jr x).bind fun k=>(jS pr ρ S).bind (kP3 k u):=rfl
theorem Io{k:Key}{z:List (Key×U)}:kP3 k u (z,S)=some ((k,u)::z,S):=rfl
def kD1(n:Nat)(kus:List (Key×U))(S:Sto):Option O->Option (U×Sto)
 |some (.dic [])=>some (.ref n,S.set n (.dic (uD kus)))
 |_=>none
def kD(n:Nat)(q:List (Key×U)×Sto):=kD1 n q.1 q.2 q.2[n]?
theorem Cn:EL pr ρ S=(jS pr ρ (S++[.dic []])).bind (kD S.length):=by
 unfold EL;congr 1
theorem zE{z:List (Key×U)}:kD i (z,S)=kD1 i z S S[i]?:=rfl
theorem zD{z:List (Key×U)}:kD1 i z S (some (.dic []))=some (.ref i,S.set i (.dic (uD z))):=rfl
theorem BG:j9 [.tup us] S=some (.tup us,S):=rfl
def G4(S:Sto):Option O->Option (U×Sto)
 |some (.lst us)=>some (.tup us,S)
 |_=>none
theorem BH:j9 [.ref l] S=G4 S S[l]?:=by
 unfold j9 G4;dsimp only<;>(generalize S[l]?=q;rcases q with _|o<;>first|rfl|(cases o<;>rfl))
theorem BI:G4 S (some (.lst us))=some (.tup us,S):=rfl
theorem zx:su [.tup us] S=some (.ref S.length,S++[.lst us]):=rfl
def kLs(S:Sto):Option O->Option (U×Sto)
 |some (.lst us)=>some (.ref S.length,S++[.lst us])
 |_=>none
theorem zy:su [.ref l] S=kLs S S[l]?:=by
 unfold su kLs;dsimp only<;>(generalize S[l]?=q;rcases q with _|o<;>first|rfl|(cases o<;>rfl))
theorem zA:kLs S (some (.lst us))=some (.ref S.length,S++[.lst us]):=rfl
theorem Cg:Je [.bl b] S=some (.int (if b then 1 else 0),S):=rfl
theorem ga{X:Sto}{n:Nat}:(S++X)[S.length+n]?=X[n]?:=by rw[List.getElem?_append_right (Nat.le_add_right _ _),Nat.add_sub_cancel_left]
theorem ga0{X:Sto}:(S++X)[S.length]?=X[0]?:=ga (n:=0)
theorem gs{X:Sto}{n:Nat}{o:O}:(S++X).set (S.length+n) o=S++X.set n o:=by rw[List.set_append_right _ _ (Nat.le_add_right _ _),Nat.add_sub_cancel_left]
theorem gs0{X:Sto}{o:O}:(S++X).set S.length o=S++X.set 0 o:=gs (n:=0)
section
variable{ok:Sto->Prop}{gg:CG}{cbd:CS}{ρ0 ρ1:Rho}{S0 S1:Sto}
theorem et(h:ok S):ej ok gg cbd [] ρ S=some (.nx,ρ,S):=by unfold ej;rw[if_pos h]
theorem fX(h:ok S)(hg:gg u ρ S=some (ρ0,S0))(hb:cbd ρ0 S0=some (.nx,ρ1,S1)):ej ok gg cbd (u::us) ρ S=ej ok gg cbd us ρ1 S1:=by
 rw[ej];dsimp only;rw[if_pos h,hg,Option.bind_some];dsimp only;rw[hb,Option.bind_some]
theorem kr{ce:CE}{ys:List U}(h:ok S)(hg:gg u ρ S=some (ρ0,S0))(he:ce ρ0 S0=some (x,S1))(hl:S1[l]?=some (.lst ys))(hn:ys.length<LIM):ft ok gg ce l (u::us) ρ S=ft ok gg ce l us ρ0 (S1.set l (.lst (ys++[x]))):=by
 rw[ft,if_pos h,hg,Option.bind_some];dsimp only;rw[he,Option.bind_some];dsimp only;rw[hl];dsimp only;rw[if_pos hn]
theorem mX{ce:CE}(h:ok S):ft ok gg ce l [] ρ S=some S:=by rw[ft,if_pos h]
end
end
theorem A2{K:PySem.W.Frag}{H:Hp}{p xs:Addr}{c:CS}{r:Rho}{σ:L2.St}{v0:Option V}{Q:VK}{nx bk ct:L2.St->Hp->Prop}(P:Ik H p xs)
  (ok:∀(ns:List Int) (a b:Int),0<=a->0<=b->∃ρ' S',c (none::some (.ref 1)::r) [.lst (ns.map U.int),.lst [.ref 0,.int a,.int b]]=some (.rt (.bl true),ρ',S')) (q:∀H',Q (.bl true) H')
  (hr:r=List.replicate r.length none:=by rfl) (hl:σ.length=r.length:=by rfl):tS K c { nx:=nx,rt:=Q,bk:=bk,ct:=ct } (v0::some (.ref p)::σ) H:=by
 obtain⟨ns,a,b,h1,h2,h3,h4,h5⟩:=P
 obtain⟨ρ',S',e⟩:=ok ns a b h4 h5
 refine⟨[xs,p],_,_,_,ρ',S',⟨rfl,by simp[h3],fun l ad o e1 e2=>?_⟩,⟨by simp[hl],fun i u e1=>?_⟩,e,fun m' v H' _ _ iv=>by rw[iv.of_bl];exact q H'⟩
 ·match l,e1,e2 with
  |0,e1,e2=>
   simp at e1 e2
   subst e1;subst e2
   exact⟨_,h2,iE ns⟩
  |1,e1,e2=>
   simp at e1 e2
   subst e1;subst e2
   exact⟨_,h1,.cons_ (.ref_ rfl) (.cons_ .int_ (.cons_ .int_ .nil_))⟩
  |l+2,e1,e2=>simp at e1
 ·match i,e1 with
  |0,e1=>simp at e1
  |1,e1=>
   simp at e1
   subst e1
   exact⟨.ref p,rfl,.ref_ rfl⟩
  |i+2,e1=>
   simp at e1
   rw[hr,List.getElem?_replicate]at e1
   split at e1<;>cases e1
theorem kZ{p:List Value->Prop}(h:p [])(us:List Value)(e:us.length=0):p us:=by rw[List.length_eq_zero_iff.mp e];exact h
theorem eK{n:Nat}{p:List Value->Prop}(h:∀a us,us.length=n->p (a::us))(us:List Value)(e:us.length=n+1):p us:=by
 cases us with
 |nil=>cases e
 |cons a us=>exact h a us (Nat.succ.inj e)
def Hy(H:Hp)(a:Addr)(ep:Nat)(ks:List Key):Prop:=∃ob es kvs,H a=some (.frz ob (.dK kvs))/\ob.data=.dict es ep/\kvs.map (·.1)=ks
def Itd(a:Addr)(ep:Nat)(ks:List Key):It:=
 ⟨fun i H=>i<ks.length/\Hy H a ep ks,fun i H x H'=>H'=H/\∃k,ks[i]?=some k/\x=kV k,fun i H=>ks.length<=i/\Hy H a ep ks⟩
theorem y8{P:Program}{w:World}{H:Hp}{h:Heap}{a:Addr}{ob:Obj}{kvs:List (Key×V)}{es:Array DictEntry}{ep:Nat}(ok:HOk P w H h)(e:H a=some (.frz ob (.dK kvs)))(d:ob.data=.dict es ep):∃vs,KV kvs vs/\h.DictAt (cu P w) a vs ep:=by
 obtain⟨e1,_,_,vs,r,o,es',ep',e2,e3,e4,rest⟩:=(show cK P w H h a (.frz ob (.dK kvs))from ok a _ e)
 rw[e1]at e2;cases e2
 rw[d]at e4;cases e4
 exact⟨vs,r,ob,es,e1,e3,d,rest⟩
theorem y3{κ:Type}:∀{kvs:List (κ×V)} {vs:List (κ×Value)} {i:Nat} {k:κ} {v:V},KV kvs vs->kvs[i]?=some (k,v)->∃u,vs[i]?=some (k,u)
 |_,_,i,k,v,.nil,h=>by simp at h
 |_,_,0,k,v,.cons (b:=(k',u)) r t,h=>by
  simp at h;subst h
  have:k=k':=r.1
  subst this
  exact⟨u,by simp⟩
 |_,_,i+1,k,v,.cons r t,h=>by
  obtain⟨u,e⟩:=y3 (i:=i) t (by simpa using h)
  exact⟨u,by simpa using e⟩
theorem A3{k:Key}{u:Value}(h:o8 k u=true):cE (kV k) u:=by
 rcases bA h with⟨i,t,rfl,rfl⟩|⟨i,t,rfl,rfl⟩
 ·exact⟨t,rfl⟩
 ·exact⟨t,rfl⟩
theorem tL{P:Program}{w:World}{K:PySem.W.Frag}{tg:Expr}(a it:Addr){ks:List Key}{ep:Nat} :
  Bt P w K tg (Itd a ep ks) [it] it (fun n h=>h.IsKeyIter it a n ks.length ep) where
 mem:=by simp
 obj:=fun n h st c hc=>by
  simp only[List.mem_cons,List.not_mem_nil,or_false]at hc
  subst hc
  obtain⟨o,e,_,q⟩:=st
  exact⟨o,e,fun v z=>by rw[q]at z;cases z⟩
 keep:=fun n h h' st kp=>Heap.IsKeyIter.at st fun o q=>kp it (by simp) o q
 item:=by
  intro X hP hw hK hc n pins s σ H E Iv hf st hg
  subst hP hw hK
  obtain⟨hi,ob,es,kvs,hq,d,ek⟩:=hg
  obtain⟨vs,rv,da⟩:=y8 Iv.hok hq d
  have hl:ks.length=vs.length:=by rw[<-ek,List.length_map];exact Paired.length rv
  have hi':n<kvs.length:=by rw[<-ek,List.length_map]at hi;exact hi
  have hx:kvs[n]?=some ((kvs[n]).1,(kvs[n]).2):=List.getElem?_eq_getElem hi'
  obtain⟨u,hu⟩:=y3 rv hx
  obtain⟨f0,f1,f2,f3⟩:=hf it (by simp)
  have st':s.heap.IsKeyIter it a n vs.length ep:=by rw[<-hl];exact st
  refine wpAny_pyNext_dict_item st' da hu fun key h1 hk st1 sb=>⟨key,rfl,?_⟩
  have I1:Inv X pins σ H { s with heap:=h1 }:=Iv.turned (t':=s.toks) (fun b o hb e=>(sb.2 b hb).trans e) f0 f1 f3.1 f3.2.1 f3.2.2
  have st2:h1.IsKeyIter it a (n+1) ks.length ep:=by rw[hl];exact st1
  obtain⟨o,e,c,q⟩:=id st2
  exact xZ (s:={ s with heap:=h1 }) e c q (by decide) ⟨kV (kvs[n]).1,H,I1,A3 hk,⟨rfl,_,by rw[<-ek,List.getElem?_map,hx];rfl,rfl⟩,st2,fun b hb=>(hf b hb).1⟩
 done:=by
  intro X hP hw hK hc n pins s σ H E Iv hf st hg
  subst hP hw hK
  obtain⟨hi,ob,es,kvs,hq,d,ek⟩:=hg
  obtain⟨vs,rv,da⟩:=y8 Iv.hok hq d
  have hl:ks.length=vs.length:=by rw[<-ek,List.length_map];exact Paired.length rv
  obtain⟨f0,f1,f2,f3⟩:=hf it (by simp)
  have st':s.heap.IsKeyIter it a n vs.length ep:=by rw[<-hl];exact st
  exact wpAny_pyNext_dict_end (Iv.ok.hd hc) st' da (by rw[List.getElem?_eq_none_iff];omega) fun h1 eb=>⟨rfl,Iv.turned (t':=s.toks) (fun b o hb e=>eb b o hb e) f0 f1 f3.1 f3.2.1 f3.2.2⟩
 self:=fun _ _ _ _ _ st h=>wpAny_pyIter_keyiter st h
theorem qW{X:Cx}{pins:List (Addr×Obj)}{σ:L2.St}{H:Hp}{s:Shared}{a:Addr}{o u:HO}(I:Inv X pins σ H s)(e:H a=some o)(nt:∀xs,o≠.tup xs)(no:∀x,o≠.own x)(nb:∀ps,o≠.tbl ps)
  (nf:∀ob u,X.H₀ a≠some (.frz ob u)) (new:cK X.prog X.w (upd H a u) s.heap a u):Inv X pins σ (upd H a u) s:=by
 have nn:∀b,H b=none->upd H a u b=none:=fun b q=>by rw[aV (Ne.symm (bY e q))];exact q
 have ho:∀b x,H b=some (.own x)->upd H a u b=some (.own x):=fun b x q=>by
  rw[aV];exact q
  intro z;subst z;rw[e]at q;cases q;exact no _ rfl
 have ht:∀b xs,H b=some (.tup xs)->upd H a u b=some (.tup xs):=fun b x q=>by
  rw[aV];exact q
  intro z;subst z;rw[e]at q;cases q;exact nt _ rfl
 refine⟨I.ok,I.os,I.bare,⟨I.base.keep,I.base.slot,fun b ob q1 q2 q3=>nn _ (I.base.free b ob q1 q2 q3),I.base.there,fun b xs q=>ht _ _ (I.base.tups b xs q),fun b ob v q=>?_,fun b ps q=>?_⟩,I.loc,I.cell,nn _ I.free,fun x c q=>nn _ (I.freeC x c q),fun p hp=>?_,fun b v q=>?_,I.len⟩
 ·rw[aV];exact I.base.frzs b ob v q
  intro z;subst z;exact nf _ _ q
 ·obtain⟨more,q'⟩:=I.base.tbls b ps q
  refine⟨more,?_⟩
  rw[aV];exact q'
  intro z;subst z;rw[e]at q';cases q';exact nb _ rfl
 ·obtain⟨p1,p2,p3⟩:=I.pin p hp
  exact⟨p1,nn _ p2,p3⟩
 ·by_cases hb:b=a
  ·subst hb;rw[aJ]at q;cases q;exact new
  ·rw[aV hb]at q
   exact(I.hok b v q).stay (fun _ _ _ g=>g) (fun c g=>ho c b g) fun c xs g=>ht c xs g
def v7(X:Cx)(a:Addr):Prop:=∀ob u,X.H₀ a≠some (.frz ob u)
def A9(X:Cx)(tl:TE):TI:=fun σ H R=>tl σ H fun x H1=>∃a kvs,x=.ref a/\H1 a=some (.dK kvs)/\∀ob es ep,v7 X a->ob.data=.dict es ep->R (Itd a ep (kvs.map (·.1))) (upd H1 a (.frz ob (.dK kvs)))
theorem tF{X:Cx}{tg l:Expr}{tl:TE}(hl:WE X l tl):WI X tg l (A9 X tl):=by
 constructor
 intro pins s σ H R I h
 refine thn (hl.h pins s σ H _ I h) fun v s1 hz=>?_
 obtain⟨x,H1,I1,r1,q1⟩:=hz
 obtain⟨a,kvs,rfl,hq,q⟩:=q1
 cases r1
 obtain⟨hz,hs,vs,rv,ob,es,ep,e1,e2,e3,rest⟩:=Bj I1.hok hq
 have da:s1.heap.DictAt (cu X.prog X.w) a vs ep:=⟨ob,es,e1,e2,e3,rest⟩
 have hl:kvs.length=vs.length:=Paired.length rv
 have nf:v7 X a:=fun ob' u' z=>by have:=I1.base.frzs a ob' u' z;rw[hq]at this;cases this
 have I2:Inv X pins σ (upd H1 a (.frz ob (.dK kvs))) s1:=qW I1 hq (by simp) (by simp) (by simp) nf ⟨e1,hz,hs,vs,rv,ob,es,ep,e1,e2,e3,rest⟩
 refine wpAny_pyIter_dict hs da ?_
 refine⟨s1.heap.objs.size,[s1.heap.objs.size],_,_,_,rfl,I2.kept (t':=s1.toks) fun b o g=>Heap.get?_push_of_some _ g,tL a _,⟨_,Heap.get?_push_size _ rfl,rfl,by rw[List.length_map,hl];rfl⟩,fun b hb=>?_,q ob es ep nf e3⟩
 simp only[List.mem_cons,List.not_mem_nil,or_false]at hb
 subst hb
 exact I2.fpOk (Nat.le_refl _) (I2.hok.fresh (Nat.le_refl _))
def EU(X:Cx)(D:wb):wb where
 nx:=fun σ H=>∃a ob kvs,v7 X a/\H a=some (.frz ob (.dK kvs))/\D.nx σ (upd H a (.dK kvs))
 rt:=fun v H=>∃a ob kvs,v7 X a/\H a=some (.frz ob (.dK kvs))/\D.rt v (upd H a (.dK kvs))
 bk:=fun σ H=>∃a ob kvs,v7 X a/\H a=some (.frz ob (.dK kvs))/\D.bk σ (upd H a (.dK kvs))
 ct:=fun σ H=>∃a ob kvs,v7 X a/\H a=some (.frz ob (.dK kvs))/\D.ct σ (upd H a (.dK kvs))
theorem iF{X:Cx}{pins:List (Addr×Obj)}{σ:L2.St}{H:Hp}{s:Shared}{a:Addr}{ob:Obj}{kvs:List (Key×V)}(I:Inv X pins σ H s)(nf:v7 X a)(e:H a=some (.frz ob (.dK kvs))):Inv X pins σ (upd H a (.dK kvs)) s:=
 qW I e (by simp) (by simp) (by simp) nf (show cK X.prog X.w H s.heap a (.frz ob (.dK kvs))from I.hok a _ e).2
theorem zH{X:Cx}{st:Stmt}{t:TS}(h:WS X st t):WS X st (fun D σ H=>t (EU X D) σ H):=by
 constructor
 intro pins s σ H D I k
 refine thn (h.h pins s σ H _ I k) fun f s1 q=>?_
 cases f with
 |next=>obtain⟨σ1,H1,I1,a,ob,kvs,nf,e,r⟩:=q;exact⟨σ1,_,iF I1 nf e,r⟩
 |brk=>obtain⟨σ1,H1,I1,a,ob,kvs,nf,e,r⟩:=q;exact⟨σ1,_,iF I1 nf e,r⟩
 |cont=>obtain⟨σ1,H1,I1,a,ob,kvs,nf,e,r⟩:=q;exact⟨σ1,_,iF I1 nf e,r⟩
 |ret u=>obtain⟨v,σ1,H1,I1,rv,a,ob,kvs,nf,e,r⟩:=q;exact⟨v,σ1,_,iF I1 nf e,rv,r⟩
def kU:Key->U
 |.inl i=>.int i
 |.inr x=>.str x
theorem Er{K:PySem.W.Frag}{m:List Addr}{H:Hp}(k:Key):Is K m H (kV k) (kU k):=by
 cases k with
 |inl i=>exact .int_
 |inr x=>exact .str_
open Classical in
def uni{α:Type}(F:Nat->Option α):Option α:=if h:∃r,∀n,F n=some r then some h.choose else none
theorem yG{α:Type}{F:Nat->Option α}{r:α}(h:∀n,F n=some r):uni F=some r:=by
 have hx:∃r,∀n,F n=some r:=⟨r,h⟩
 unfold uni
 rw[dif_pos hx]
 have:=hx.choose_spec 0
 rw[h 0]at this
 exact this.symm
theorem qj{α:Type}{F:Nat->Option α}{r:α}(h:uni F=some r)(n:Nat):F n=some r:=by
 unfold uni at h
 split at h
 ·rename_i hx
  cases h
  exact hx.choose_spec n
 ·cases h
def sF(ce:CE)(g:CG)(cb:CS):CS:=fun ρ S=>(ce ρ S).bind fun p=>match p.1 with
 |.ref l=>match p.2[l]? with
  |some (.dic kus)=>uni fun ep=>(ej (fun S'=>S'[l]?=some (.fdc ep kus)) g cb (kus.map fun q=>kU q.1) ρ (p.2.set l (.fdc ep kus))).bind fun r=>match r.2.2[l]? with
   |some (.fdc _ kus')=>some (r.1,r.2.1,r.2.2.set l (.dic kus'))
   |_=>none
  |_=>none
 |_=>none
theorem uT{K:PySem.W.Frag}{m:List Addr}{H:Hp}{a:Addr}{l ep:Nat}{kus:List (Key×U)}(ha:m[l]?=some a):yy K (Itd a ep (kus.map (·.1))) m H (kus.map fun q=>kU q.1) (fun S'=>S'[l]?=some (.fdc ep kus)):=by
 intro m2 S2 H2 i e sr hok
 obtain⟨a',ha',ob,es,kvs,hx,hd,ip⟩:=sr.get hok
 have ha2:=e.get ha
 rw[ha2]at ha';cases ha'
 have hz:Hy H2 a ep (kus.map (·.1)):=⟨ob,es,kvs,hx,hd,ip.1⟩
 refine⟨fun u hu=>?_,fun hu=>⟨by simpa using hu,hz⟩⟩
 have hi:i<kus.length:=by have:=(List.getElem?_eq_some_iff.mp hu).1;simpa using this
 refine⟨⟨by simpa using hi,hz⟩,?_⟩
 rintro x H3 ⟨rfl,k,hk,rfl⟩
 refine⟨.refl,sr,?_⟩
 rw[List.getElem?_map]at hk hu
 rw[List.getElem?_eq_getElem hi]at hk hu
 cases hk;cases hu
 exact Er _
theorem x6{X:Cx}{ce:CE}{g:CG}{cb:CS}:∀D σ H,tS X.K (sF ce g cb) D σ H->EZ (A9 X (tE X.K ce)) (tG X.K g) (tS X.K cb) (EU X D) σ H:=by
 rintro D σ H ⟨m,ρ,S,o,ρ',S',sr,lr,hc,post⟩
 obtain⟨⟨x,S1⟩,h1,h⟩:=Option.bind_eq_some_iff.mp hc
 refine⟨m,ρ,S,x,S1,sr,lr,h1,fun m1 v1 H1 e1 sr1 i1=>?_⟩
 cases x with
 |ref l=>
  simp only at h
  split at h<;>try cases h
  rename_i kus hS
  obtain⟨a,ha,rfl⟩:=i1.of_ref
  obtain⟨a',ha',kvs,hx,ip⟩:=sr1.get hS
  rw[ha]at ha';cases ha'
  refine⟨a,kvs,rfl,hx,fun ob es ep nf hd=>?_⟩
  obtain⟨⟨o1,ρ1,S2⟩,h2,h3⟩:=Option.bind_eq_some_iff.mp (qj h ep)
  simp only at h3
  split at h3<;>try cases h3
  rename_i ep' kus' hS2
  have kp:yx X.K H1 (upd H1 a (.frz ob (.dK kvs))):=sr1.keep ha _
  have ee:Ext X.K m1 H1 m1 (upd H1 a (.frz ob (.dK kvs))):=.of kp
  have sr2:Sr X.K m1 (S1.set l (.fdc ep kus)) (upd H1 a (.frz ob (.dK kvs))):=sr1.put ha ⟨ob,es,kvs,aJ,hd,ip.mono ee⟩
  rw[ip.1]
  refine qL sr2 (lr.mono (e1.trans ee)) (uT ha) h2 ?_
  have back:∀m3 H3,Ext X.K m1 (upd H1 a (.frz ob (.dK kvs))) m3 H3->Sr X.K m3 S2 H3->∃ob' kvs',H3 a=some (.frz ob' (.dK kvs'))/\Ext X.K m3 H3 m3 (upd H3 a (.dK kvs'))/\Sr X.K m3 (S2.set l (.dic kus')) (upd H3 a (.dK kvs')):=fun m3 H3 e3 sr3=>by
   obtain⟨a3,ha3,ob3,es3,kvs3,hx3,hd3,ip3⟩:=sr3.get hS2
   rw[e3.get ha]at ha3;cases ha3
   have e4:Ext X.K m3 H3 m3 (upd H3 a (.dK kvs3)):=.of (sr3.keep (e3.get ha) _)
   exact⟨ob3,kvs3,hx3,e4,sr3.put (e3.get ha) ⟨kvs3,aJ,ip3.mono e4⟩⟩
  have nxt:∀(R:L2.St->Hp->Prop),gy X.K m H R ρ' (S2.set l (.dic kus'))->gy X.K m1 (upd H1 a (.frz ob (.dK kvs))) (fun σ H=>∃a ob kvs,v7 X a/\H a=some (.frz ob (.dK kvs))/\R σ (upd H a (.dK kvs))) ρ' S2:=fun R p m3 σ3 H3 e3 sr3 lr3=>by
   obtain⟨ob3,kvs3,hx3,e4,sr4⟩:=back m3 H3 e3 sr3
   exact⟨a,ob3,kvs3,nf,hx3,p m3 σ3 _ (((e1.trans ee).trans e3).trans e4) sr4 (lr3.mono e4)⟩
  cases o with
  |nx=>exact nxt _ post
  |bk=>exact nxt _ post
  |ct=>exact nxt _ post
  | rt v=>
    intro m3 v3 H3 e3 sr3 i3
    obtain⟨ob3,kvs3,hx3,e4,sr4⟩:=back m3 H3 e3 sr3
    exact⟨a,ob3,kvs3,nf,hx3,post m3 v3 _ (((e1.trans ee).trans e3).trans e4) sr4 (i3.mono e4)⟩
 |_=>cases h
theorem Am{X:Cx}{tg iter:Expr}{body:List Stmt}{ce:CE}{g:CG}{cb:CS}{pos:Pos}(hp:PassesOwn (model X.prog X.w) X.A X.env X.xe)(hc:X.calm=true)(hi:QE X iter ce)(hg:QG X tg g)(hb:QSs X body cb)(hs:∀x,foldedSetIterable iter X.env x=pure x:=by intro _;rfl):QS X (.For tg iter body [] pos) (sF ce g cb):=
 (zH (sW hp hc (tF hi) hg hb hs)).imp x6
end OP
namespace OG
open PySem PySem.Spec PyProof.Rows L2
def mx(wi:TI)(g:TG)(tt:TT)(te:TE)(n:Nat)(caps:List Nat):TE:=fun σ H Q=>wi σ H fun J H1=>∀l,H1 l=none->∃W:Nat->Nat->L2.St->Hp->Prop,(∃m,W 0 m (stC n caps σ) (upd H1 l (.lst [])))/\
 ∀i m σ' H2,W i m σ' H2->(J.stop i H2/\Q (.ref l) H2)\/(J.go i H2/\∃N:L2.St->Hp->Prop,(∀σ'' H',N σ'' H'->∃m',m'<m/\W (i+1) m' σ'' H')/\
  ∀x H3,J.yld i H2 x H3->g x σ' H3 fun σ2 H4=>tt σ2 H4 fun b H5=>match b with
   |true=>te σ2 H5 fun v H6=>∃ys,H6 l=some (.lst ys)/\ys.length<sizeLine/\N σ2 (upd H6 l (.lst (ys++[v])))
   |false=>N σ2 H5)
theorem kX{prog:Program}{w:World}{A:Around}{R:Result->Shared->Prop}{s:Shared}{elt target iter c:Expr}{scope:Scope}{pos:Pos}{it acc:Value}{env:Env}(I:Nat->Shared->Prop)
  (turn:∀n s,I n s->wpAny (model prog w) A (pyNext it) (fun r s₁=>match r with
   |none=>R (.ok .next) s₁
   |some v=>wpAny (model prog w) A (letOwnedTupleGo target it v) (fun _ s₁'=>wpAny (model prog w) A (assign target env v) (fun _ s₂=>wpAny (model prog w) A (PySem.isTrue c env (eval c env)) (fun b s₂'=>match b with
    |true=>wpAny (model prog w) A (eval elt env) (fun x s₃=>
     wpAny (model prog w) A (call (.builtin "list.append") [acc,x]) (fun _ s₄=>∃m,m<n/\I m s₄) (fun _ _=>False) s₃)
     (fun _ _=>False) s₂'
    |false=>∃m,m<n/\I m s₂') (fun _ _=>False) s₂) (fun _ _=>False) s₁') (fun _ _=>False) s₁) (fun _ _=>False) s)
  (n:Nat) (h:I n s) :
  codeAny (model prog w) A (.compLoop (.ListComp elt [⟨target,iter,[c],0⟩] scope pos) 0 it acc env) R s:=by
 refine codeAny_loop rfl I (fun n s hI=>?_) n h
 show wpAny _ _ ((compTurn (.ListComp elt [⟨target,iter,[c],0⟩] scope pos) 0 it acc env).onRaise (fun x=>do noteFrame x env;theTreesLotGoes x)) _ _ s
 refine wpAny_noted ?_
 rw[compTurn_list]
 refine wpAny_bind (wpAny_standAt (wpAny_bind (wpAny_mono (turn n s hI) (fun r s₁ h₁=>?_) fun _ _ h'=>h'.elim)))
 cases r with
 |none=>exact wpAny_pure h₁
 |some v=>
  refine wpAny_bind (wpAny_mono h₁ (fun _ s₁' h₁'=>?_) fun _ _ h'=>h'.elim)
  refine wpAny_bind (wpAny_mono h₁' (fun _ s₂ h₂=>?_) fun _ _ h'=>h'.elim)
  dsimp only
  simp only[List.forIn_cons,List.forIn_nil,if_true,bind_assoc,pure_bind]
  refine wpAny_bind (wpAny_mono h₂ (fun b s₂' h₂'=>?_) fun _ _ h'=>h'.elim)
  cases b with
  |true=>
   rw[if_pos rfl]
   exact wpAny_bind (wpAny_mono h₂' (fun x s₃ h₃=>wpAny_bind (wpAny_mono h₃
    (fun _ s₄ h₄=>wpAny_pure ⟨rfl,h₄⟩) fun _ _ h'=>h'.elim)) fun _ _ h'=>h'.elim)
  |false=>
   rw[if_neg Bool.false_ne_true]
   exact wpAny_pure ⟨rfl,h₂'⟩
theorem ma{X:Cx}{Nc capN tn:List Str}{scope:Scope}{cl:List (Str×Addr)}{n:Nat}{caps:List Nat}{tg iter elt:Expr}{pos:Pos}{wi:TI}{g:TG}{te:TE}{tt:TT}{c:Expr}
  (hc:X.calm=true) (hi:WI X tg iter wi) (hg:∀s3 H3 fp,WG (cxC X Nc scope cl s3 H3 fp) tg g) (he:∀s3 H3 fp,WE (cxC X Nc scope cl s3 H3 fp) elt te)
  (ht:∀s3 H3 fp,WT (cxC X Nc scope cl s3 H3 fp) c tt)
  (hclos:closureFor scope X.env=pure cl) (hkind:scope.kind=.function) (hnl:∀x∈scope.names,x.2=.local->scope.names.lookup x.1=some .local) (hcell:∀x∈scope.names,x.2≠.cell)
  (hcl:rF X.env cl) (hhas:((relabel scope X.env).names.all fun p=>!(p.2 == .cell||p.2 == .free)||(cl.lookup p.1).isSome)=true)
  (hcap:Paired (Cap X scope cl) caps capN) (hN:Nc=tn++capN) (hn:tn.length=n)
  {use:Option (Value->Sem Unit)} {pins:List (Addr×Obj)} {σ:L2.St} {H:Hp} {s:Shared} {Q:VK} {Qf:Value->Shared->Prop} (I:Inv X pins σ H s) (h:mx wi g tt te n caps σ H Q)
  (hend:∀(D C:Addr) (s6:Shared) (H5:Hp) (m:Str->Option Value),Inv X pins σ H5 s6->s6.heap.Ns C m->H5 C=none->C≠X.env.locals->X.s₀.heap.objs.size<=C->(∀x c,X.env.cells.lookup x=some c->c≠C)->(∀p∈X.pn++pins,p.1≠C)->Q (.ref D) H5->compPost (model X.prog X.w) X.A X.xe use Qf (.ref D) C (.ok .next) s6)
  (hs:∀x,foldedSetIterable iter X.env x=pure x) :
  wpAny (model X.prog X.w) X.A (comprehension (.ListComp elt [⟨tg,iter,[c],0⟩] scope pos) scope X.env (firstIterPos [⟨tg,iter,[c],0⟩] pos) (newList []) (firstAsync [⟨tg,iter,[c],0⟩]) (firstIter [⟨tg,iter,[c],0⟩] X.env) use) Qf X.xe s:=by
 refine wpAny_comprehension_free (use:=use) (g:=⟨tg,iter,[c],0⟩) (gs:=[]) rfl hs hclos hkind hnl (thn (hi.h pins s σ H _ I h) fun v s1 h1=>thn h1 fun itv s2 h2=>?_)
 obtain⟨it,fp,tnn,J,H2,rfl,I2,T,st2,f2,hW⟩:=h2
 have hD:=I2.fresh
 obtain⟨W,⟨m0,w0⟩,turn⟩:=hW _ hD
 refine wpAny_newObj_type (wpAny_newFunctionEnv hcell (by intro y hy;simp at hy) (fun h₁ hns₁ hsb₁=>?_) hkind)
 dsimp only at hns₁ hsb₁ ⊢
 have I3:Inv X pins σ (upd H2 s2.heap.objs.size (.lst [])) { s2 with heap:=s2.heap.push { cls:=.type "list",dict:=none,data:=.seq ([]:List Value).toArray },toks:=s2.toks }:=I2.lnew (its:=[]) .nil (Nat.zero_le _)
 generalize hs3:({ s2 with heap:=s2.heap.push { cls:=.type "list",dict:=none,data:=.seq ([]:List Value).toArray },toks:=s2.toks }:Shared)=s3 at I3
 have es3:s3.heap=s2.heap.push { cls:=.type "list",dict:=none,data:=.seq ([]:List Value).toArray }:=by rw[<-hs3]
 generalize hDD:s2.heap.objs.size=D at *
 have kept:∀b o,s3.heap.get? b=some o->h₁.get? b=some o:=fun b o e=>by
  have lt:=Heap.lt_size e
  rw[es3]at lt e
  exact hsb₁.extBut b o (Nat.ne_of_lt lt) (Heap.get?_push_of_some _ e)
 have old:∀b o,s2.heap.get? b=some o->s3.heap.get? b=some o:=fun b o e=>by rw[es3];exact Heap.get?_push_of_some _ e
 have ltD:∀b∈fp,b<D:=fun b hb=>by
  obtain⟨o,e,_⟩:=T.obj 0 _ st2 b hb
  rw[<-hDD];exact Heap.lt_size e
 have fo:∀b∈fp,b<s3.heap.objs.size:=fun b hb=>by
  obtain⟨o,e,_⟩:=T.obj 0 _ st2 b hb
  exact Heap.lt_size (old _ _ e)
 have f3:∀b∈fp,sN X pins (upd H2 D (.lst [])) b:=fun b hb=>by
  refine⟨?_,(f2 b hb).2⟩
  rw[aV (Nat.ne_of_lt (ltD b hb))]
  exact(f2 b hb).1
 rw[<-es3]at hns₁ hsb₁ ⊢
 have Ic:=fun t'=>Inv.comp (h1:=h₁) (t':=t') (Nc:=Nc) (n:=n) I3 hc f3 fo hkind hcl hhas hcap tn hN hn hns₁ kept
 have stat:∀{H':Hp},(∀b∈fp,H' b=none)->∀b∈fp,sN (cxC X Nc scope cl s3 (upd H2 D (.lst [])) fp) [] H' b:=fun hn' b hb=>by
  refine⟨hn' b hb,Nat.ne_of_lt (fo b hb),fun z=>?_,.inl hb,fun x c e=>(f2 b hb).2.2.2.2.1 x c (hcl.look e),fun p hp=>(by simp at hp)⟩
  rcases List.mem_cons.mp (I3.stkSub b z)with q|q
  ·exact(f2 b hb).2.1 q
  ·exact(f2 b hb).2.2.1 q
 have loop:∀s4:Shared,(∃t',s4={ s3 with heap:=h₁,toks:=t' })->codeAny (model X.prog X.w) X.A (.compLoop (.ListComp elt [⟨tg,iter,[c],0⟩] scope pos) 0 (.ref it) (.ref D) (compEnvC scope cl s3.heap.objs.size X.env))
   (compPost (model X.prog X.w) X.A X.xe use Qf (.ref D) s3.heap.objs.size) s4:=by
  rintro s4 ⟨t',rfl⟩
  refine kX (fun n' s'=>∃i σ' H',Inv (cxC X Nc scope cl s3 (upd H2 D (.lst [])) fp) [] σ' H' s'/\tnn i s'.heap/\(∀b∈fp,H' b=none)/\W i n' σ' H') ?_ m0
   ⟨0,_,_,Ic t',T.keep 0 _ _ st2 fun b hb o e=>kept _ _ (old _ _ e),fun b hb=>(f3 b hb).1,w0⟩
  rintro n' s5 ⟨i,σ5,H5,I5,st5,fr5,w5⟩
  rcases turn i n' σ5 H5 w5 with⟨stop,qn⟩|⟨go,N,hN',step⟩
  ·refine thn (T.done (cxC X Nc scope cl s3 (upd H2 D (.lst [])) fp) rfl rfl rfl hc i [] s5 σ5 H5 (fun _ _=>False) I5 (stat fr5) st5 stop) fun r s6 ⟨hr,I6⟩=>?_
   subst hr
   obtain⟨m,hm,_⟩:=I6.loc
   have I7:Inv X pins σ H5 s6:=Inv.call' (ch:=fp) I3 I6.os I6.base I6.hok I6.bare fun b hb=>⟨(f2 b hb).2.2.2.1,(f2 b hb).2.1,(f2 b hb).2.2.2.2.1,(f2 b hb).2.2.2.2.2⟩
   exact hend D _ s6 H5 m I7 hm I6.free (Ne.symm (Nat.ne_of_lt I3.lt)) I3.sz (fun x c e=>by
     obtain⟨v',o,ho,_⟩:=I3.cell x c e
     exact Nat.ne_of_lt (Heap.lt_size ho)) (fun p hp=>Nat.ne_of_lt (Heap.lt_size (I3.pin p hp).1)) qn
  ·refine thn (T.item (cxC X Nc scope cl s3 (upd H2 D (.lst [])) fp) rfl rfl rfl hc i [] s5 σ5 H5 (fun _ _=>False) I5 (stat fr5) st5 go) fun r s6 ⟨u,hr,h6⟩=>?_
   subst hr
   refine thn h6 fun _ s7 hz=>?_
   obtain⟨x,H7,I7,r7,y7,st7,fr7⟩:=hz
   have I7':=I7.pinned (stat fr7) (T.obj _ _ st7)
   refine thn ((hg s3 (upd H2 D (.lst [])) fp).h _ s7 σ5 H7 x u _ I7' r7 (step x H7 y7)) fun _ s8 hz=>?_
   obtain⟨σ8,H8,I8,q8⟩:=hz
   have fin:∀{s10:Shared} {H10:Hp},Inv (cxC X Nc scope cl s3 (upd H2 D (.lst [])) fp) _ σ8 H10 s10->N σ8 H10->∃m',m'<n'/\∃i' σ' H',Inv (cxC X Nc scope cl s3 (upd H2 D (.lst [])) fp) [] σ' H' s10/\tnn i' s10.heap/\(∀b∈fp,H' b=none)/\W i' m' σ' H':=fun{s10 H10} I10 q10=>by
    obtain⟨m',hm,w10⟩:=hN' σ8 H10 q10
    refine⟨m',hm,i+1,σ8,H10,Inv.unpinned I10,T.keep _ _ _ st7 fun b hb o e=>(Inv.pin I10 (b,o) (List.mem_append_right _ (List.mem_append_right _ (dS hb e)))).1,fun b hb=>?_,w10⟩
    obtain⟨o,e,d⟩:=T.obj _ _ st7 b hb
    exact(Inv.pin I10 (b,o) (List.mem_append_right _ (List.mem_append_right _ (dS hb e)))).2.1
   refine thn ((ht s3 (upd H2 D (.lst [])) fp).h _ s8 σ8 H8 _ I8 q8) fun b9 s9' h9=>?_
   obtain⟨H9',I9',q9'⟩:=h9
   cases b9 with
   |false=>exact fin I9' q9'
   |true=>
    refine thn ((he s3 (upd H2 D (.lst [])) fp).h _ s9' σ8 H9' _ I9' q9') fun v9 s9 hz=>?_
    obtain⟨x9,H9,I9,r9,ys,hy,hlt,q9⟩:=hz
    exact thn (jU (X:=cxC X Nc scope cl s3 (upd H2 D (.lst [])) fp) _ s9 σ8 H9 (.ref D) [x9] (.ref D) [v9] (fun _ H'=>N σ8 H') I9 rfl (.cons r9 .nil) ⟨D,ys,x9,rfl,rfl,hy,hlt,q9⟩) fun _ s10 ⟨_,H10,I10,_,q10⟩=>fin I10 q10
 have e4:∀t',({ s2 with heap:=h₁,toks:=t' }:Shared)={ s3 with heap:=h₁,toks:=t' }:=fun t'=>by rw[<-hs3]
 refine codeAny_compStart_list (loop _ ⟨_,e4 _⟩) (T.self _ 0 _ _ _ (T.keep 0 _ _ st2 fun b hb o e=>kept _ _ (old _ _ e)) (loop _ ⟨_,e4 _⟩))
theorem lq{X:Cx}{Nc capN tn:List Str}{scope:Scope}{cl:List (Str×Addr)}{n:Nat}{caps:List Nat}{tg iter elt:Expr}{pos:Pos}{wi:TI}{g:TG}{te:TE}{tt:TT}{c:Expr}
  (hc:X.calm=true) (hi:WI X tg iter wi) (hg:∀s3 H3 fp,WG (cxC X Nc scope cl s3 H3 fp) tg g) (he:∀s3 H3 fp,WE (cxC X Nc scope cl s3 H3 fp) elt te)
  (ht:∀s3 H3 fp,WT (cxC X Nc scope cl s3 H3 fp) c tt)
  (hclos:closureFor scope X.env=pure cl) (hkind:scope.kind=.function) (hnl:∀x∈scope.names,x.2=.local->scope.names.lookup x.1=some .local) (hcell:∀x∈scope.names,x.2≠.cell)
  (hcl:rF X.env cl) (hhas:((relabel scope X.env).names.all fun p=>!(p.2 == .cell||p.2 == .free)||(cl.lookup p.1).isSome)=true)
  (hcap:Paired (Cap X scope cl) caps capN) (hN:Nc=tn++capN) (hn:tn.length=n)
  (hs:∀x,foldedSetIterable iter X.env x=pure x:=by intro _;rfl) :
  WE X (.ListComp elt [⟨tg,iter,[c],0⟩] scope pos) (mx wi g tt te n caps):=by
 constructor
 intro pins s σ H Q I h
 rw[eval_ListComp]
 refine ma hc hi hg he ht hclos hkind hnl hcell hcl hhas hcap hN hn I h (fun D C s6 H5 m I7 hm fr nl sz cn pn qn=>⟨m,hm,fun h' hs'=>?_⟩) hs
 exact⟨.ref D,H5,I7.turned (t':=s6.toks) (it:=C) (fun b o hb e=>hs'.extBut b o hb e) fr nl (.inr sz) cn pn,rfl,qn⟩
end OG
namespace OP
open PySem PySem.Spec PyProof.Rows L2 OG
open Classical in
def bV(ok:Sto->Prop)(g:CG)(ct:CT)(ce:CE)(l:Nat):List U->Rho->Sto->Option Sto
 |[],_,S=>if ok S then some S else none
 |u::us,ρ,S=>if ok S then(g u ρ S).bind fun p=>(ct p.1 p.2).bind fun q=>if q.1=true then(ce p.1 q.2).bind fun r=>match r.2[l]? with
  |some (.lst ys)=>if ys.length<LIM then bV ok g ct ce l us p.1 (r.2.set l (.lst (ys++[r.1])))else none
  |_=>none else bV ok g ct ce l us p.1 q.2 else none
def d8(ci:CI)(g:CG)(ct:CT)(ce:CE)(n:Nat)(caps:List Nat):CE:=fun ρ S=>(ci ρ S).bind fun p=>(bV p.2.1 g ct ce p.2.2.length p.1 (lG n caps ρ) (p.2.2++[.lst []])).bind fun S'=>some (.ref p.2.2.length,S')
section
variable{X:Cx}{K:PySem.W.Frag}
theorem kx{g:CG}{ct:CT}{ce:CE}{n:Nat}{caps:List Nat}{J:It}{us:List U}{ok:Sto->Prop}{Q:VK}{m1:List Addr}{H1:Hp}{S1 S':Sto}{ρ:Rho}{σ:L2.St}{l:Addr}(sr1:Sr K m1 S1 H1)(lr:Lr K m1 H1 ρ σ)(ito:yy K J m1 H1 us ok)(hl:H1 l=none)(h2:bV ok g ct ce S1.length us (lG n caps ρ) (S1++[.lst []])=some S')
  (post:∀m2 H2,Ext K (m1++[l]) (upd H1 l (.lst [])) m2 H2->Sr K m2 S' H2->Q (.ref l) H2) :
  ∃W:Nat->Nat->L2.St->Hp->Prop,(∃m,W 0 m (OG.stC n caps σ) (upd H1 l (.lst [])))/\
 ∀i m σ' H2,W i m σ' H2->(J.stop i H2/\Q (.ref l) H2)\/(J.go i H2/\∃N:L2.St->Hp->Prop,(∀σ'' H',N σ'' H'->∃m',m'<m/\W (i+1) m' σ'' H')/\
  ∀x H3,J.yld i H2 x H3->tG K g x σ' H3 fun σ2 H4=>tT K ct σ2 H4 fun b H5=>match b with
   |true=>tE K ce σ2 H5 fun v H6=>∃ys,H6 l=some (.lst ys)/\ys.length<sizeLine/\N σ2 (upd H6 l (.lst (ys++[v])))
   |false=>N σ2 H5):=by
 have ee:Ext K m1 H1 (m1++[l]) (upd H1 l (.lst [])):=.new (bH hl _)
 let W:Nat->Nat->L2.St->Hp->Prop:=fun i k σ2 H2=>k=us.length-i/\i<=us.length/\∃m2 ρ2 S2,Ext K (m1++[l]) (upd H1 l (.lst [])) m2 H2/\Sr K m2 S2 H2/\Lr K m2 H2 ρ2 σ2/\bV ok g ct ce S1.length (us.drop i) ρ2 S2=some S'
 refine⟨W,⟨us.length,by simp,Nat.zero_le _,m1++[l],lG n caps ρ,S1++[.lst []],.refl,sr1.new (o:=.lst []) hl ⟨[],aJ,.nil_⟩,uG (lr.mono ee),by simpa using h2⟩,?_⟩
 rintro i k σ2 H2 ⟨rfl,hi,m2,ρ2,S2,e2,sr2,lr2,hl2⟩
 by_cases hlt:i<us.length
 ·have hu:=List.getElem?_eq_getElem hlt
  rw[kj hu]at hl2
  unfold bV at hl2
  split at hl2
  ·rename_i hok
   obtain⟨⟨ρ3,S3⟩,h3,hl2⟩:=Option.bind_eq_some_iff.mp hl2
   obtain⟨⟨b4,S4⟩,h4,hl2⟩:=Option.bind_eq_some_iff.mp hl2
   obtain⟨hgo,hy⟩:=(ito m2 S2 H2 i (ee.trans e2) sr2 hok).1 _ hu
   refine .inr ⟨hgo,W (i+1) (us.length-(i+1)),fun σ' H' w'=>⟨_,by omega,w'⟩,fun x H3 y=>?_⟩
   obtain⟨e3,sr3,ix⟩:=hy x H3 y
   refine⟨m2,ρ2,S2,_,ρ3,S3,sr3,lr2.mono e3,ix,h3,fun m4 σ4 H4 e4 sr4 lr4=>⟨m4,ρ3,S3,b4,S4,sr4,lr4,h4,fun m4' H4' e4' sr4'=>?_⟩⟩
   cases b4 with
   |false=>
    rw[if_neg Bool.false_ne_true]at hl2
    exact⟨rfl,hlt,m4',ρ3,_,(((e2.trans e3).trans e4).trans e4'),sr4',lr4.mono e4',hl2⟩
   |true=>
    rw[if_pos rfl]at hl2
    obtain⟨⟨u5,S5⟩,h5,hl2⟩:=Option.bind_eq_some_iff.mp hl2
    simp only at hl2
    split at hl2<;>try cases hl2
    rename_i ys hys
    split at hl2<;>try cases hl2
    rename_i eF
    refine⟨m4',ρ3,S4,u5,S5,sr4',lr4.mono e4',h5,fun m5 v5 H5 e5 sr5 i5=>?_⟩
    obtain⟨a',ha',xs,hx,il⟩:=sr5.get hys
    have ha:m5[S1.length]?=some l:=((((e2.trans e3).trans e4).trans e4').trans e5).get (dz sr1.len)
    rw[ha]at ha';cases ha'
    have eu:Ext K m5 H5 m5 (upd H5 l (.lst (xs++[v5]))):=.of (sr5.keep ha _)
    exact⟨xs,hx,Ea (by rw[il.length];exact eF),rfl,hlt,m5,ρ3,_,(((((e2.trans e3).trans e4).trans e4').trans e5).trans eu),sr5.put (o:=.lst (ys++[u5])) ha ⟨_,aJ,(il.append (.cons_ i5 .nil_)).mono eu⟩,(lr4.mono ((e4'.trans e5).trans eu)),hl2⟩
  ·cases hl2
 ·have e:i=us.length:=by omega
  subst e
  rw[List.drop_length]at hl2
  unfold bV at hl2
  split at hl2
  ·rename_i hok
   cases hl2
   exact .inl ⟨(ito m2 _ H2 _ (ee.trans e2) sr2 hok).2 (Nat.le_refl _),post m2 H2 e2 sr2⟩
  ·cases hl2
theorem lZ{ci:CI}{g:CG}{ct:CT}{ce:CE}{n:Nat}{caps:List Nat}:∀σ H Q,tE K (d8 ci g ct ce n caps) σ H Q->mx (tI K ci) (tG K g) (tT K ct) (tE K ce) n caps σ H Q:=by
 rintro σ H Q ⟨m,ρ,S,u,S',sr,lr,hc,post⟩
 obtain⟨⟨us,ok,S1⟩,h1,h2⟩:=Option.bind_eq_some_iff.mp hc
 obtain⟨S2,h2,h3⟩:=Option.bind_eq_some_iff.mp h2
 cases h3
 refine⟨m,ρ,S,us,ok,S1,sr,lr,h1,fun m1 H1 J e1 sr1 ito l hl=>?_⟩
 have ee:Ext K m1 H1 (m1++[l]) (upd H1 l (.lst [])):=.new (bH hl _)
 exact kx sr1 (lr.mono e1) ito hl h2 fun m2 H2 e2 sr2=>post m2 _ H2 ((e1.trans ee).trans e2) sr2 (.ref_ (e2.get (dz sr1.len)))
theorem qx{Nc capN tn:List Str}{scope:Scope}{cl:List (Str×Addr)}{n:Nat}{caps:List Nat}{tg iter elt:Expr}{pos:Pos}{ci:CI}{g:CG}{ct:CT}{ce:CE}{c:Expr}
  (hc:X.calm=true) (hi:QI X tg iter ci) (hg:∀s3 H3 fp,WG (cxC X Nc scope cl s3 H3 fp) tg (tG X.K g)) (ht:∀s3 H3 fp,WT (cxC X Nc scope cl s3 H3 fp) c (tT X.K ct)) (he:∀s3 H3 fp,WE (cxC X Nc scope cl s3 H3 fp) elt (tE X.K ce))
  (hclos:closureFor scope X.env=pure cl) (hkind:scope.kind=.function) (hnl:∀x∈scope.names,x.2=.local->scope.names.lookup x.1=some .local) (hcell:∀x∈scope.names,x.2≠.cell)
  (hcl:rF X.env cl) (hhas:((relabel scope X.env).names.all fun p=>!(p.2 == .cell||p.2 == .free)||(cl.lookup p.1).isSome)=true)
  (hcap:Paired (Cap X scope cl) caps capN) (hN:Nc=tn++capN) (hn:tn.length=n)
  (hs:∀x,foldedSetIterable iter X.env x=pure x:=by intro _;rfl) :
  QE X (.ListComp elt [⟨tg,iter,[c],0⟩] scope pos) (d8 ci g ct ce n caps):=(lq hc hi hg he ht hclos hkind hnl hcell hcl hhas hcap hN hn hs).imp lZ
end
end OP
namespace OP
open PySem PySem.Spec PyProof PyProof.Rows L2 OG
mutual
inductive RdV(K:PySem.W.Frag)(H:Hp):V->PyData->Prop
 |non:RdV K H .non .none
 |bl (b:Bool):RdV K H (.bl b) (.bool b)
 |int (i:Int):RdV K H (.int i) (.int i)
 |str (x:Str):RdV K H (.str x) (.str x)
 |lst {a:Addr} {xs:List V} {ds:List PyData}:SqL K H a xs->vW K H xs ds->RdV K H (.ref a) (.list ds)
 |tup {a:Addr} {xs:List V} {ds:List PyData}:SqT K H a xs->vW K H xs ds->RdV K H (.ref a) (.tuple ds)
inductive vW(K:PySem.W.Frag)(H:Hp):List V->List PyData->Prop
 |nil:vW K H [] []
 |cons {x:V} {xs:List V} {d:PyData} {ds:List PyData}:RdV K H x d->vW K H xs ds->vW K H (x::xs) (d::ds)
end
mutual
inductive Dt(S:Sto):U->PyData->Prop
 |non:Dt S .non .none
 |bl (b:Bool):Dt S (.bl b) (.bool b)
 |int (i:Int):Dt S (.int i) (.int i)
 |str (x:Str):Dt S (.str x) (.str x)
 |lst {l:Nat} {us:List U} {ds:List PyData}:S[l]?=some (.lst us)->DtL S us ds->Dt S (.ref l) (.list ds)
 |tup {us:List U} {ds:List PyData}:DtL S us ds->Dt S (.tup us) (.tuple ds)
inductive DtL(S:Sto):List U->List PyData->Prop
 |nil:DtL S [] []
 |cons {x:U} {xs:List U} {d:PyData} {ds:List PyData}:Dt S x d->DtL S xs ds->DtL S (x::xs) (d::ds)
end
section
variable{X:Cx}{K:PySem.W.Frag}{pins:List (Addr×Obj)}{σ:L2.St}{H:Hp}{s:Shared}
mutual
theorem RdV.reads(I:Inv X pins σ H s):∀{x:V} {d:PyData} {v:Value},RdV X.K H x d->cE x v->∃as,Reads s.heap v d as
 |_,_,_,.non,r=>by cases r;exact⟨_,.none⟩
 |_,_,_,.bl b,r=>by cases r;exact⟨_,.bool b⟩
 |_,_,_,.int i,r=>by obtain⟨t,rfl⟩:=r;exact⟨_,.int i t⟩
 |_,_,_,.str i,r=>by obtain⟨t,rfl⟩:=r;exact⟨_,.str i t⟩
 |_,_,_,.lst (a:=a) h t,r=>by
  cases r
  obtain⟨its,rv,pl,_⟩:=I.list h
  obtain⟨as,k⟩:=vW.reads I t rv
  obtain⟨o,h1,h2,n,h3⟩:=pl.isList
  exact⟨_,.list h1 h2 h3 (by simpa using k)⟩
 |_,_,_,.tup (a:=a) h t,r=>by
  cases r
  obtain⟨its,rv,pl,_⟩:=I.tuple h
  obtain⟨as,k⟩:=vW.reads I t rv
  obtain⟨o,h1,h2,n,h3⟩:=pl
  exact⟨_,.tuple h1 h2 h3 (by simpa using k)⟩
theorem vW.reads(I:Inv X pins σ H s):∀{xs:List V} {ds:List PyData} {vs:List Value},vW X.K H xs ds->bN xs vs->∃as,ReadsAll s.heap vs ds as
 |_,_,_,.nil,r=>by cases r;exact⟨_,.nil⟩
 |_,_,_,.cons h t,.cons r rs=>by
  obtain⟨as,a⟩:=RdV.reads I h r
  obtain⟨bs,b⟩:=vW.reads I t rs
  exact⟨_,.cons a b⟩
end
mutual
theorem Dt.rd{m:List Addr}{S:Sto}(sr:Sr K m S H):∀{u:U} {d:PyData} {v:V},Dt S u d->Is K m H v u->RdV K H v d
 |_,_,_,.non,i=>by rw[i.of_non];exact .non
 |_,_,_,.bl b,i=>by rw[i.of_bl];exact .bl b
 |_,_,_,.int b,i=>by rw[i.of_int];exact .int b
 |_,_,_,.str b,i=>by rw[i.of_str];exact .str b
 |_,_,_,.lst h t,i=>by
  obtain⟨a,ha,rfl⟩:=i.of_ref
  obtain⟨a',ha',xs,hx,il⟩:=sr.get h
  rw[ha]at ha';cases ha'
  exact .lst (SqL.of hx) (DtL.rd sr t il)
 |_,_,_,.tup t,i=>by
  obtain⟨a,xs,rfl,sa,la⟩:=i.of_tup
  exact .tup sa (DtL.rd sr t la)
theorem DtL.rd{m:List Addr}{S:Sto}(sr:Sr K m S H):∀{us:List U} {ds:List PyData} {vs:List V},DtL S us ds->IsL K m H vs us->vW K H vs ds
 |_,_,_,.nil,i=>by rw[i.of_nil];exact .nil
 |_,_,_,.cons h t,i=>by
  obtain⟨x,r,rfl,i1,i2⟩:=i.of_cons
  exact .cons (Dt.rd sr h i1) (DtL.rd sr t i2)
end
mutual
theorem Dt.uniq{S:Sto}:∀{u:U} {d e:PyData},Dt S u d->Dt S u e->d=e
 |_,_,_,.non,.non=>rfl
 |_,_,_,.bl _,.bl _=>rfl
 |_,_,_,.int _,.int _=>rfl
 |_,_,_,.str _,.str _=>rfl
 |_,_,_,.lst h t,.lst h' t'=>by
  rw[h]at h';cases h'
  rw[DtL.uniq t t']
 |_,_,_,.tup t,.tup t'=>by rw[DtL.uniq t t']
theorem DtL.uniq{S:Sto}:∀{us:List U} {ds es:List PyData},DtL S us ds->DtL S us es->ds=es
 |_,_,_,.nil,.nil=>rfl
 |_,_,_,.cons h t,.cons h' t'=>by rw[Dt.uniq h h',DtL.uniq t t']
end
def yw(d:PyData):Prop:=d.canLay0=true/\d.depth<=60
def GA(K:PySem.W.Frag)(neg:Bool):R2:=fun x y H Q=>(∃dx dy,RdV K H x dx/\RdV K H y dy/\yw dx/\yw dy/\Q (.bl (if neg then !dx.eqv dy else dx.eqv dy)) H)\/
 ∃a b xs ys,x=.ref a/\y=.ref b/\SqL K H a xs/\SqL K H b ys/\xs.length≠ys.length/\Q (.bl neg) H
theorem DX(hu:X.A.units+64<cLine):OpR X (compareOp .Eq) (GA X.K false):=by
 rintro pins s σ H x y v u Q I rx ry (⟨dx,dy,hx,hy,lx,ly,q⟩|⟨a,b,xs,ys,rfl,rfl,ha,hb,ne,q⟩)
 ·obtain⟨as,hx⟩:=hx.reads I rx
  obtain⟨bs,hy⟩:=hy.reads I ry
  exact SeqAt.compareEq_reads hx hy lx.1 ly.1 (by have:=lx.2;omega) ⟨.bl _,H,I,rfl,q⟩
 ·cases rx
  cases ry
  obtain⟨i1,r1,p1,_⟩:=I.list ha
  obtain⟨i2,r2,p2,_⟩:=I.list hb
  have l1:=r1.length
  have l2:=r2.length
  exact SeqAt.RcAt.lists_lengths p1.isList p2.isList (by simp;omega) (by omega) X.prog X.w X.xe _ ⟨.bl false,H,I,rfl,q⟩
theorem uw(hu:X.A.units+64<cLine):OpR X (compareOp .NotEq) (GA X.K true):=by
 rintro pins s σ H x y v u Q I rx ry (⟨dx,dy,hx,hy,lx,ly,q⟩|⟨a,b,xs,ys,rfl,rfl,ha,hb,ne,q⟩)
 ·obtain⟨as,hx⟩:=hx.reads I rx
  obtain⟨bs,hy⟩:=hy.reads I ry
  exact SeqAt.compareNe_reads hx hy lx.1 ly.1 (by have:=lx.2;omega) ⟨.bl _,H,I,rfl,q⟩
 ·cases rx
  cases ry
  obtain⟨i1,r1,p1,_⟩:=I.list ha
  obtain⟨i2,r2,p2,_⟩:=I.list hb
  have l1:=r1.length
  have l2:=r2.length
  exact SeqAt.RcNeAt.lists_lengths p1.isList p2.isList (by simp;omega) (by omega) X.prog X.w X.xe _ ⟨.bl true,H,I,rfl,q⟩
def wa(x y:U)(S:Sto)(b:Bool):Prop:=(∃dx dy,Dt S x dx/\Dt S y dy/\yw dx/\yw dy/\b=dx.eqv dy)\/∃l l' us vs,x=.ref l/\y=.ref l'/\S[l]?=some (.lst us)/\S[l']?=some (.lst vs)/\us.length≠vs.length/\b=false
theorem DtL.length{S:Sto}:∀{us:List U} {ds:List PyData},DtL S us ds->us.length=ds.length
 |_,_,.nil=>rfl
 |_,_,.cons _ t=>by rw[List.length_cons,List.length_cons,DtL.length t]
theorem wa.mix{l l':Nat}{us vs:List U}{S:Sto}{dx dy:PyData}(h1:Dt S (.ref l) dx)(h2:Dt S (.ref l') dy)(k1:S[l]?=some (.lst us))(k2:S[l']?=some (.lst vs))(ne:us.length≠vs.length):dx.eqv dy=false:=by
 cases h1 with
 |lst a1 t1=>
  cases h2 with
  |lst a2 t2=>
   rw[k1]at a1;cases a1
   rw[k2]at a2;cases a2
   show PyData.eqvAll _ _=false
   exact SeqAt.eqvAll_other_length (by rw[<-t1.length,<-t2.length];exact ne)
theorem wa.uniq{x y:U}{S:Sto}{b c:Bool}(h:wa x y S b)(k:wa x y S c):b=c:=by
 rcases h with⟨dx,dy,h1,h2,_,_,rfl⟩|⟨l,l',us,vs,rfl,rfl,h1,h2,ne,rfl⟩
 ·rcases k with⟨ex,ey,k1,k2,_,_,rfl⟩|⟨l,l',us,vs,rfl,rfl,k1,k2,ne,rfl⟩
  ·rw[h1.uniq k1,h2.uniq k2]
  ·exact wa.mix h1 h2 k1 k2 ne
 ·rcases k with⟨ex,ey,k1,k2,_,_,rfl⟩|⟨_,_,_,_,_,_,_,_,_,rfl⟩
  ·exact(wa.mix k1 k2 h1 h2 ne).symm
  ·rfl
open Classical in
def oP(neg:Bool):U->U->Sto->Option (U×Sto):=fun x y S=>if h:∃b,wa x y S b then some (.bl (if neg then !h.choose else h.choose),S)else none
theorem pA{x y:U}{S:Sto}{b:Bool}(neg:Bool)(h:wa x y S b):oP neg x y S=some (.bl (if neg then !b else b),S):=by
 unfold oP
 rw[dif_pos ⟨b,h⟩]
 have e:(⟨b,h⟩:∃b,wa x y S b).choose=b:=(Exists.choose_spec (⟨b,h⟩:∃b,wa x y S b)).uniq h
 rw[e]
theorem xB{neg:Bool}:OpP K (GA K neg) (oP neg):=by
 intro m S H x y v w u S' Q sr ix iy hf post
 unfold oP at hf
 split at hf<;>try cases hf
 rename_i h
 have hb:=h.choose_spec
 generalize h.choose=b at hb post
 rcases hb with⟨dx,dy,h1,h2,l1,l2,rfl⟩|⟨l,l',us,vs,rfl,rfl,h1,h2,ne,rfl⟩
 ·exact .inl ⟨dx,dy,h1.rd sr ix,h2.rd sr iy,l1,l2,post m _ H .refl sr .bl_⟩
 ·obtain⟨a,ha,rfl⟩:=ix.of_ref
  obtain⟨a',ha',xs,hx,la⟩:=sr.get h1
  rw[ha]at ha';cases ha'
  obtain⟨c,hc,rfl⟩:=iy.of_ref
  obtain⟨c',hc',ys,hy,lc⟩:=sr.get h2
  rw[hc]at hc';cases hc'
  refine .inr ⟨a,c,xs,ys,rfl,rfl,SqL.of hx,SqL.of hy,by rw[la.length,lc.length];exact ne,?_⟩
  have e:(if neg=true then !false else false)=neg:=by cases neg<;>rfl
  have:=post m _ H .refl sr (Is.bl_ (b:=if neg=true then !false else false))
  rw[e]at this
  exact this
def BC(us:List U)(lo hi:Option Int):List U:=(us.drop (HT.sIx us.length 0 lo)).take (HT.sIx us.length us.length hi-HT.sIx us.length 0 lo)
theorem ze{m:List Addr}{xs:List V}{us:List U}{lo hi:Option Int}(i:IsL K m H xs us):IsL K m H (vF xs lo hi) (BC us lo hi):=by
 unfold vF BC
 rw[i.length]
 exact(i.drop _).take _
def fSl(x:U)(lo hi:Option Int)(S:Sto):Option (U×Sto):=match x with
 |.tup us=>if HT.sIx us.length 0 lo=0/\HT.sIx us.length us.length hi=us.length then none else some (.tup (BC us lo hi),S)
 |.ref l=>match S[l]? with
  |some (.lst us)=>some (.ref S.length,S++[.lst (BC us lo hi)])
  |_=>none
 |_=>none
def sC:Option CE->Rho->Sto->Option (Option Int×Sto)
 |none,_,S=>some (none,S)
 |some c,ρ,S=>(c ρ S).bind fun p=>match p.1 with
  |.int i=>some (some i,p.2)
  |_=>none
def cSl(ca:CE)(cl ch:Option CE):CE:=fun ρ S=>(ca ρ S).bind fun p=>(sC cl ρ p.2).bind fun q=>(sC ch ρ q.2).bind fun r=>fSl p.1 q.1 r.1 r.2
def Hu(K:PySem.W.Frag)(m:List Addr)(H:Hp)(Q:Option Int->Hp->Prop)(o:Option Int)(S':Sto):Prop:=∀m' H',Ext K m H m' H'->Sr K m' S' H'->Q o H'
def tO(K:PySem.W.Frag)(c:Option CE):TO:=fun σ H Q=>∃m ρ S o S',Sr K m S H/\Lr K m H ρ σ/\sC c ρ S=some (o,S')/\Hu K m H Q o S'
abbrev QO(X:Cx)(e:Option Expr)(c:Option CE):Prop:=WO X e (tO X.K c)
theorem Ao:QO X none none:=⟨fun pins s σ H Q I hz=>kf hz fun m ρ S o S' sr lr hc post=>qd.h pins s σ H Q I (by cases hc;exact post m H .refl sr)⟩
theorem An{e:Expr}{ca:CE}(h:QE X e ca):QO X (some e) (some ca):=⟨fun pins s σ H Q I hz=>kf hz fun m ρ S o S' sr lr hc post=>(pZ h).h pins s σ H Q I (by
 obtain⟨⟨x,S1⟩,h1,h2⟩:=Option.bind_eq_some_iff.mp hc
 refine⟨m,ρ,S,x,S1,sr,lr,h1,fun m1 v1 H1 e1 sr1 i1=>?_⟩
 cases x<;>simp at h2
 obtain⟨rfl,rfl⟩:=h2
 exact⟨_,i1.of_int,post m1 H1 e1 sr1⟩)⟩
theorem I0{e:Expr}{lo hi:Option Expr}{ca:CE}{cl ch:Option CE}{pos p2:Pos}(ha:QE X e ca)(hl:QO X lo cl)(hh:QO X hi ch):QE X (.Subscript e (.Slice lo hi none p2) pos) (cSl ca cl ch):=(nq (tW.or C9) ha hl hh).imp fun σ H Q hz=>kf hz fun m ρ S u S' sr lr hc post=>by
 obtain⟨⟨x,S1⟩,h1,ha⟩:=Option.bind_eq_some_iff.mp hc
 obtain⟨⟨l,S2⟩,h2,hb⟩:=Option.bind_eq_some_iff.mp ha
 obtain⟨⟨k,S3⟩,h3,h⟩:=Option.bind_eq_some_iff.mp hb
 clear ha hb hc
 refine⟨m,ρ,S,x,S1,sr,lr,h1,fun m1 v1 H1 e1 sr1 i1=>⟨m1,ρ,S1,l,S2,sr1,lr.mono e1,h2,fun m2 H2 e2 sr2=>⟨m2,ρ,S2,k,S3,sr2,lr.mono (e1.trans e2),h3,fun m3 H3 e3 sr3=>?_⟩⟩⟩
 have i3:=i1.mono (e2.trans e3)
 have e03:=(e1.trans e2).trans e3
 cases x with
 |tup us=>
  simp only[fSl]at h
  split at h<;>try cases h
  rename_i hw
  obtain⟨a,xs,rfl,sa,la⟩:=i3.of_tup
  exact .inr ⟨a,xs,rfl,sa,by rw[la.length];exact hw,fun p hp=>mH sr3 (ze la) (post.mono e03) hp⟩
 |ref r=>
  simp only[fSl]at h
  split at h<;>try cases h
  rename_i us hS
  obtain⟨a,ha,rfl⟩:=i3.of_ref
  obtain⟨a',ha',xs,hx,la⟩:=sr3.get hS
  rw[ha]at ha';cases ha'
  exact .inl ⟨a,xs,rfl,SqL.of hx,fun p hp=>dQ sr3 (ze la) (post.mono e03) hp⟩
 |_=>simp[fSl]at h
end
section
variable{X:Cx}{K:PySem.W.Frag}
instance {us:List U}:Decidable (us≠[]):=match us with
 |[]=>.isFalse fun h=>h rfl
 |_::_=>.isTrue fun h=>by cases h
end
end OP
namespace OG
open PySem PySem.Spec PyProof.Rows L2
theorem D2{C a:Addr}{m:Str->Option Value}{h h':Heap}(n:h.Ns C m)(s:Heap.SameBut a h h')(ne:C≠a):h'.Ns C m:=by
 obtain⟨o,es,ep,e,r⟩:=n
 exact⟨o,es,ep,(s.2 C ne).trans e,r⟩
theorem nj{X:Cx}{Nc capN tn:List Str}{scope:Scope}{cl:List (Str×Addr)}{n:Nat}{caps:List Nat}{tg iter elt:Expr}{pos:Pos}{wi:TI}{g:TG}{te:TE}{tt:TT}{c:Expr}
  (hc:X.calm=true) (hi:WI X tg iter wi) (hg:∀s3 H3 fp,WG (cxC X Nc scope cl s3 H3 fp) tg g) (he:∀s3 H3 fp,WE (cxC X Nc scope cl s3 H3 fp) elt te)
  (ht:∀s3 H3 fp,WT (cxC X Nc scope cl s3 H3 fp) c tt)
  (hclos:closureFor scope X.env=pure cl) (hkind:scope.kind=.function) (hnl:∀x∈scope.names,x.2=.local->scope.names.lookup x.1=some .local) (hcell:∀x∈scope.names,x.2≠.cell)
  (hcl:rF X.env cl) (hhas:((relabel scope X.env).names.all fun p=>!(p.2 == .cell||p.2 == .free)||(cl.lookup p.1).isSome)=true)
  (hcap:Paired (Cap X scope cl) caps capN) (hN:Nc=tn++capN) (hn:tn.length=n)
  {i₀:Nat} {x₀:Str} {pos₀ pos':Pos} (hN0:X.N.Nodup) (hi0:X.N[i₀]?=some x₀) (hx0:X.env.scope.names.lookup x₀=some .local)
  (hsw:swapsWith (.ListComp elt [⟨tg,iter,[c],0⟩] scope pos) (some (.Name x₀ pos')) pos₀.line X.env=pure true)
  (hs:∀x,foldedSetIterable iter X.env x=pure x:=by intro _;rfl) :
  WS X (.Assign [.Name x₀ pos'] (.ListComp elt [⟨tg,iter,[c],0⟩] scope pos) pos₀) (fun D σ H=>mx wi g tt te n caps σ H fun v H'=>D.nx (σ.set i₀ (some v)) H'):=by
 constructor
 intro pins s σ H Dn I h
 rw[exec_Assign_arm]
 refine wpAny_bind (wpAny_standAt ?_)
 have hsw':swapsWithSole [.Name x₀ pos'] (.ListComp elt [⟨tg,iter,[c],0⟩] scope pos) pos₀.line X.env=pure true:=hsw
 rw[hsw']
 refine wpAny_bind (wpAny_pure ?_)
 rw[if_pos rfl,arm_evalThenUse_ListComp]
 refine wpAny_bind (wpAny_bind (ma (Qf:=fun _ s'=>wpAny (model X.prog X.w) X.A (pure ()) (fun _ s'=>wpAny (model X.prog X.w) X.A (pure Flow.next) (SP X pins Dn) X.xe s') X.xe s') hc hi hg he ht hclos hkind hnl hcell hcl hhas hcap hN hn I h (fun D C s6 H5 m I7 hm fr nl sz cn pn qn=>?_) hs))
 show wpAny _ _ (assign (.Name x₀ pos') X.env (.ref D)) _ _ s6
 rw[arm_assign_Name]
 refine wpAny_bind (wpAny_standAt (wpAny_bindName (nB (v:=.ref D) I7 hN0 hi0 (.inl hx0) rfl (fun s7 I7' hsb=>?_) (.inr hx0))))
 obtain⟨a7,hsb,ha7⟩:=hsb
 have cNe:C≠a7:=by
  rcases ha7 with z|z
  ·rw[z];exact nl
  ·exact Ne.symm (cn _ _ z)
 refine⟨m,D2 hm hsb cNe,fun h' hs'=>wpAny_pure (wpAny_pure ⟨_,H5,?_,qn⟩)⟩
 exact I7'.turned (t':=s7.toks) (it:=C) (fun b o hb e=>hs'.extBut b o hb e) fr nl (.inr sz) cn pn
end OG
namespace OP
open PySem PySem.Spec PyProof.Rows L2 OG
section
variable{X:Cx}{K:PySem.W.Frag}
theorem nH{i₀:Nat}{x₀:Str}{pos₀ pos':Pos}{Nc capN tn:List Str}{scope:Scope}{cl:List (Str×Addr)}{n:Nat}{caps:List Nat}{tg iter elt:Expr}{pos:Pos}{ci:CI}{g:CG}{ct:CT}{ce:CE}{c:Expr}
  (hc:X.calm=true) (hi:QI X tg iter ci) (hg:∀s3 H3 fp,WG (cxC X Nc scope cl s3 H3 fp) tg (tG X.K g)) (ht:∀s3 H3 fp,WT (cxC X Nc scope cl s3 H3 fp) c (tT X.K ct)) (he:∀s3 H3 fp,WE (cxC X Nc scope cl s3 H3 fp) elt (tE X.K ce))
  (hclos:closureFor scope X.env=pure cl) (hkind:scope.kind=.function) (hnl:∀x∈scope.names,x.2=.local->scope.names.lookup x.1=some .local) (hcell:∀x∈scope.names,x.2≠.cell)
  (hcl:rF X.env cl) (hhas:((relabel scope X.env).names.all fun p=>!(p.2 == .cell||p.2 == .free)||(cl.lookup p.1).isSome)=true)
  (hcap:Paired (Cap X scope cl) caps capN) (hN:Nc=tn++capN) (hn:tn.length=n)
  (hN0:X.N.Nodup) (hi0:X.N[i₀]?=some x₀) (hx0:X.env.scope.names.lookup x₀=some .local)
  (hsw:swapsWith (.ListComp elt [⟨tg,iter,[c],0⟩] scope pos) (some (.Name x₀ pos')) pos₀.line X.env=pure true)
  (hs:∀x,foldedSetIterable iter X.env x=pure x:=by intro _;rfl) :
  QS X (.Assign [.Name x₀ pos'] (.ListComp elt [⟨tg,iter,[c],0⟩] scope pos) pos₀) (fe i₀ (d8 ci g ct ce n caps)):=(nj hc hi hg he ht hclos hkind hnl hcell hcl hhas hcap hN hn hN0 hi0 hx0 hsw hs).imp fun D σ H hz=>qZ hz fun m ρ S o ρ' S' sr lr hc post=>by
 obtain⟨⟨u,S1⟩,h1,h2⟩:=Option.bind_eq_some_iff.mp hc
 cases h2
 exact lZ _ _ _ ⟨m,ρ,S,u,_,sr,lr,h1,fun m1 v1 H1 e1 sr1 i1=>post m1 _ H1 e1 sr1 ((lr.mono e1).set i₀ i1)⟩
end
end OP
namespace OP
open PySem PySem.Spec PyProof PyProof.Rows L2 OG
section
variable{X:Cx}{K:PySem.W.Frag}
def pI(ca:CE):CE:=fun ρ S=>(ca ρ S).bind fun p=>match p.1 with
 |.int i=>some (.int (-i),p.2)
 |_=>none
theorem yH:UnR X (unaryOp .USub) (fun x H Q=>∃i,x=.int i/\Q (.int (-i)) H):=by
 rintro pins s σ H x v Q I rx ⟨i,rfl,q⟩
 obtain⟨t,rfl⟩:=rx
 exact PyProof.Rows.neg_int ⟨.int (-i),H,I.tok _,⟨_,rfl⟩,q⟩
theorem rP{a:Expr}{ca:CE}{pos:Pos}(ha:QE X a ca):QE X (.UnaryOp .USub a pos) (pI ca):=(CC yH ha).imp fun σ H Q hz=>kf hz fun m ρ S u S' sr lr hc post=>by
 obtain⟨⟨x,S1⟩,h1,h2⟩:=Option.bind_eq_some_iff.mp hc
 refine⟨m,ρ,S,x,S1,sr,lr,h1,fun m1 v1 H1 e1 sr1 i1=>?_⟩
 cases x<;>simp at h2
 obtain⟨rfl,rfl⟩:=h2
 exact⟨_,i1.of_int,post m1 _ H1 e1 sr1 .int_⟩
def eG:U->List U->Sto->Option (U×Sto)
 |.ref l,[.ref b],S=>match S[l]?,S[b]? with
  |some (.lst us),some (.lst vs)=>if us.length+vs.length<=LIM then some (.non,S.set l (.lst (us++vs)))else none
  |_,_=>none
 |_,_,_=>none
theorem xA:MtP K t7 eG:=by
 intro m S H x v us vs u S' Q sr ix i hf post
 match x,us,hf with
 |.ref l,[.ref b],hf=>
  simp only[eG]at hf
  split at hf<;>try cases hf
  rename_i xs0 ys0 hS hB
  split at hf<;>try cases hf
  rename_i hl
  obtain⟨a,ha,rfl⟩:=ix.of_ref
  obtain⟨a',ha',xs,hx,la⟩:=sr.get hS
  rw[ha]at ha';cases ha'
  obtain⟨y,rfl,iy⟩:=i.one
  obtain⟨c,hc,rfl⟩:=iy.of_ref
  obtain⟨c',hc',ys,hy,lb⟩:=sr.get hB
  rw[hc]at hc';cases hc'
  have eu:Ext K m H m (upd H a (.lst (xs++ys))):=.of (sr.keep ha _)
  exact⟨a,c,xs,ys,rfl,rfl,hx,hy,lim (by rw[la.length,lb.length];exact hl),post m _ _ eu (sr.put ha ⟨_,aJ,(la.append lb).mono eu⟩) .non_⟩
def Bg:U->List U->Sto->Option (U×Sto)
 |.ref l,[],S=>match S[l]? with
  |some (.lst us)=>(us[us.length-1]?).bind fun u=>some (u,S.set l (.lst us.dropLast))
  |_=>none
 |_,_,_=>none
theorem IsL.dropLast{m:List Addr}{H:Hp}{xs:List V}{us:List U}(h:IsL K m H xs us):IsL K m H xs.dropLast us.dropLast:=by
 rw[List.dropLast_eq_take,List.dropLast_eq_take,h.length]
 exact h.take _
theorem GR:MtP K HL Bg:=by
 intro m S H x v us vs u S' Q sr ix i hf post
 match x,us,hf with
 |.ref l,[],hf=>
  simp only[Bg]at hf
  split at hf<;>try cases hf
  rename_i ws hS
  obtain⟨w,hw,h⟩:=Option.bind_eq_some_iff.mp hf
  cases h
  obtain⟨a,ha,rfl⟩:=ix.of_ref
  obtain⟨a',ha',xs,hx,la⟩:=sr.get hS
  rw[ha]at ha';cases ha'
  obtain⟨y,hy,iy⟩:=la.getD hw
  have eu:Ext K m H m (upd H a (.lst xs.dropLast)):=.of (sr.keep ha _)
  exact⟨a,xs,y,rfl,i.of_nil,hx,by rw[la.length];exact hy,post m _ _ eu (sr.put ha ⟨_,aJ,la.dropLast.mono eu⟩) (iy.mono eu)⟩
def jg:U->List U->Sto->Option (U×Sto)
 |.ref l,[.int i],S=>match S[l]? with
  |some (.lst us)=>if 0<=i/\i<us.length/\us.length<=LIM then(us[i.toNat]?).bind fun u=>some (u,S.set l (.lst (us.eraseIdx i.toNat)))else none
  |_=>none
 |_,_,_=>none
theorem AS:MtP K yS jg:=by
 intro m S H x v us vs u S' Q sr ix i hf post
 match x,us,hf with
 |.ref l,[.int k],hf=>
  simp only[jg]at hf
  split at hf<;>try cases hf
  rename_i ws hS
  split at hf<;>try cases hf
  rename_i hk
  obtain⟨w,hw,h⟩:=Option.bind_eq_some_iff.mp hf
  cases h
  obtain⟨a,ha,rfl⟩:=ix.of_ref
  obtain⟨a',ha',xs,hx,la⟩:=sr.get hS
  rw[ha]at ha';cases ha'
  obtain⟨y,hy,iy⟩:=la.getD hw
  obtain⟨z,rfl,iz⟩:=i.one
  have eu:Ext K m H m (upd H a (.lst (xs.eraseIdx k.toNat))):=.of (sr.keep ha _)
  have hL:ws.length<=100000:=hk.2.2
  exact⟨a,xs,k,k.toNat,y,rfl,by rw[iz.of_int],hx,by omega,by omega,seqIndex_of hk.1 (by rw[la.length];exact hk.2.1),hy,post m _ _ eu (sr.put ha ⟨_,aJ,(la.erase _).mono eu⟩) (iy.mono eu)⟩
variable{e:Expr}{es:List Expr}{co:CE}{cr:CA}{o:Expr}{apos cpos:Pos}
theorem qw (ho : QE X o co) (ha : QA X (e :: es) cr) (hbase : attributeBase o "extend" X.env (eval o X.env) = eval o X.env := by rfl) (hfew : ((backTo cpos (starEach (e :: es) X.env)).all (fun x => !x.1) && (backToKw cpos (keywordEach [] X.env)).all (fun x => x.1.isSome)
   && decide ((e::es).length+([]:List Keyword).length+(if ([]:List Keyword).isEmpty then 0 else 1)<30))=true:=by rfl) (hline:(apos.endLine == cpos.line)=true:=by rfl) (hs:starEach (e::es) X.env=(false,eval e X.env)::starEach es X.env:=by rfl) (hplain:(backTo cpos (starEach es X.env)).any (·.1)=false:=by rfl) :
  QE X (.Call (.Attribute o "extend" apos) (e::es) [] cpos) (cBM eG co cr):=(tD PySem.F.plainAttrs_list PySem.F.slot_list_extend PySem.F.type_list_extend uC ho ha.h hbase hfew hline hs hplain).imp (rm xA)
theorem uc (ho : QE X o co) (ha : QA X (e :: es) cr) (hbase : attributeBase o "pop" X.env (eval o X.env) = eval o X.env := by rfl) (hfew : ((backTo cpos (starEach (e :: es) X.env)).all (fun x => !x.1) && (backToKw cpos (keywordEach [] X.env)).all (fun x => x.1.isSome)
   && decide ((e::es).length+([]:List Keyword).length+(if ([]:List Keyword).isEmpty then 0 else 1)<30))=true:=by rfl) (hline:(apos.endLine == cpos.line)=true:=by rfl) (hs:starEach (e::es) X.env=(false,eval e X.env)::starEach es X.env:=by rfl) (hplain:(backTo cpos (starEach es X.env)).any (·.1)=false:=by rfl) :
  QE X (.Call (.Attribute o "pop" apos) (e::es) [] cpos) (cBM jg co cr):=(tD PySem.F.plainAttrs_list PySem.F.slot_list_pop PySem.F.type_list_pop xF ho ha.h hbase hfew hline hs hplain).imp (rm AS)
theorem GD(ho:QE X o co)(hbase:attributeBase o "pop" X.env (eval o X.env)=eval o X.env:=by rfl)(hline:(apos.endLine == cpos.line)=true:=by rfl) :
  QE X (.Call (.Attribute o "pop" apos) [] [] cpos) (cBM Bg co aL):=(zU PySem.F.plainAttrs_list PySem.F.slot_list_pop PySem.F.type_list_pop D3 ho hbase hline).imp fun σ H Q h=>by
 obtain⟨m,ρ,S,u,S',sr,lr,hc,k⟩:=rm (cr:=aL) GR σ H Q h
 refine⟨m,ρ,S,u,S',sr,lr,hc,fun m1 v1 H1 e1 sr1 i1=>?_⟩
 obtain⟨ty,m2,ρ2,S2,us,S3,sr2,lr2,h4,h5⟩:=k m1 v1 H1 e1 sr1 i1
 cases h4
 exact⟨ty,h5 m2 [] H1 .refl sr2 .nil_⟩
def iT(cr:CA):CE:=fun ρ S=>(cr ρ S).bind fun p=>match p.1 with
 |[.int j]=>if 0<=j/\j<=1000 then some (.ref p.2.length,p.2++[.lst (cH 0 j.toNat)])else none
 |_=>none
theorem lT:∀(n:Nat) (a:Int) (vs:List Value),vs.length=n->(∀(j:Nat) (v:Value),vs[j]?=some v->∃t,v=Value.int (a+(j:Int)) t)->bN ((List.range n).map fun i:Nat=>V.int (a+(i:Nat))) vs
 |0,a,vs,hl,h=>by
  rw[List.length_eq_zero_iff.mp hl];exact .nil
 |n+1,a,[],hl,h=>by simp at hl
 |n+1,a,v::vs,hl,h=>by
  rw[List.range_succ_eq_map,List.map_cons,List.map_map]
  refine .cons ?_ ?_
  ·obtain⟨t,e⟩:=h 0 v rfl
   exact⟨t,by simpa using e⟩
  ·have:=lT n (a+1) vs (by simpa using hl) fun j x hx=>by
    obtain⟨t,e⟩:=h (j+1) x (by simpa using hx)
    exact⟨t,by rw[e];congr 1;omega⟩
   have e:(List.range n).map (fun i:Nat=>V.int (a+1+(i:Nat)))=(List.range n).map ((fun i:Nat=>V.int (a+(i:Nat))) ∘ Nat.succ):=List.map_congr_left fun i _=>by
    simp only[Function.comp];congr 1;omega
   rw[<-e];exact this
theorem nu{a:Expr}{ta:TA}{p1 p2 pos1 pos2:Pos}(hc:X.calm=true)(hgl:Gl X "list")(hml:X.mg "list"=none)(hg:Gl X "range")(hm:X.mg "range"=none)(ha:WA X [a] ta)(hs:starEach [a] X.env=[(false,eval a X.env)])
  (hs1:starEach [Expr.Call (.Name "range" p2) [a] [] pos2] X.env=[(false,eval (.Call (.Name "range" p2) [a] [] pos2) X.env)]) :
  WE X (.Call (.Name "list" p1) [.Call (.Name "range" p2) [a] [] pos2] [] pos1) (fun σ H Q=>ta σ H fun vs H1=>∃j:Int,vs=[.int j]/\0<=j/\j<=1000/\∀p,H1 p=none->Q (.ref p) (upd H1 p (.lst ((List.range j.toNat).map fun i:Nat=>V.int (0+(i:Nat)))))):=by
 constructor
 intro pins s σ H Q I h
 refine wpAny_Call_Name_kw (jd I hgl hml OG.gc ?_ (by decide) (by decide))
 refine PyProof.Rows.callWith_type1 ?_ hs1 rfl
 rw[hs1]
 show wpAny _ _ (spliced [(false,eval (.Call (.Name "range" p2) [a] [] pos2) X.env)]) _ _ s
 refine Calls.spliced_cons ?_
 refine Call_ (jd I hg hm boot_range (PyProof.Rows.callWith_type1 (thn (ha.h pos2 pins s σ H _ I h) fun us s1 ⟨vs,H1,I1,r1,q1⟩=>?_) hs rfl))
 obtain⟨j,e,j0,j1,q⟩:=q1
 subst e
 cases r1 with
 |cons r rr=>
  cases rr
  obtain⟨t,rfl⟩:=r
  refine call_range_1 ?_
  refine Calls.spliced_nil ?_
  have hsz:Builtin.Range.rangeSize 0 j 1=((j.toNat:Nat):Int):=by
   unfold Builtin.Range.rangeSize
   simp
   omega
  refine call_list_range (n:=j.toNat) (I1.ok.hd hc) (Heap.get?_push_size _ rfl) ?_ hsz (by omega) fun h' tk acc c' hk hg' hi=>?_
  ·unfold Builtin.Range.small
   rw[hsz]
   unfold Builtin.Range.rangeFitsLong
   simp
   omega
  ·have hv:bN ((List.range j.toNat).map fun i:Nat=>V.int (0+(i:Nat))) acc.toList:=lT j.toNat 0 acc.toList (by simpa using hi.1) fun k v hv=>by
    obtain⟨t,e⟩:=hi.2 k v (by simpa using hv)
    exact⟨t,by rw[e];congr 1;omega⟩
   refine⟨.ref _,_,I1.laid (t':=tk) (o:=.lst ((List.range j.toNat).map fun i:Nat=>V.int (0+(i:Nat)))) (fun b ob q=>hk b ob (Heap.get?_push_of_some _ q)) (by rw[Heap.size_push];omega) ?_,rfl,q _ (I1.hok.fresh (by rw[Heap.size_push];omega))⟩
   exact⟨by rw[List.length_map,List.length_range];exact Nat.le_trans (by omega) (show 1000<=sizeLine by decide),_,_,hv,by simpa using hg'⟩
theorem uW{m:List Addr}{H:Hp}(n:Nat):IsL K m H ((List.range n).map fun i:Nat=>V.int (0+(i:Nat))) (cH 0 n):=by
 unfold cH
 generalize List.range n=l
 induction l with
 |nil=>exact .nil_
 |cons a r ih=>exact .cons_ .int_ ih
theorem oX{a:Expr}{cr:CA}{p1 p2 pos1 pos2:Pos}(hc:X.calm=true)(hgl:Gl X "list")(hml:X.mg "list"=none)(hg:Gl X "range")(hm:X.mg "range"=none)(ha:QA X [a] cr)(hs:starEach [a] X.env=[(false,eval a X.env)])
  (hs1:starEach [Expr.Call (.Name "range" p2) [a] [] pos2] X.env=[(false,eval (.Call (.Name "range" p2) [a] [] pos2) X.env)]) :
  QE X (.Call (.Name "list" p1) [.Call (.Name "range" p2) [a] [] pos2] [] pos1) (iT cr):=(nu hc hgl hml hg hm ha.h hs hs1).imp fun σ H Q hz=>kf hz fun m ρ S u S' sr lr hc post=>by
 obtain⟨⟨ws,S1⟩,h1,h2⟩:=Option.bind_eq_some_iff.mp hc
 simp only at h2
 split at h2<;>try cases h2
 rename_i j
 split at h2<;>try cases h2
 rename_i hj
 refine⟨m,ρ,S,_,S1,sr,lr,h1,fun m1 v1 H1 e1 sr1 i1=>?_⟩
 obtain⟨x,rfl,ix⟩:=i1.one
 rw[ix.of_int]
 exact⟨j,rfl,hj.1,hj.2,fun p hp=>dQ sr1 (uW _) (post.mono e1) hp⟩
end
section
variable{X:Cx}{K:PySem.W.Frag}
theorem zY{e:Expr}{t:TE}(h:WE X e t):WE X e (fun σ H Q=>t σ H fun v H'=>∃a ob kvs,v7 X a/\H' a=some (.frz ob (.dK kvs))/\Q v (upd H' a (.dK kvs))):=
 ⟨fun pins s σ H Q I k=>thn (h.h pins s σ H _ I k) fun u s1 ⟨v,H1,I1,r1,a,ob,kvs,nf,e,q⟩=>⟨v,_,iF I1 nf e,r1,q⟩⟩
def vL(ce:CE)(f:(Sto->Prop)->Nat->List U->Rho->Sto->Option Sto)(n:Nat)(caps:List Nat):CE:=fun ρ S=>(ce ρ S).bind fun p=>match p.1 with
 |.ref l=>match p.2[l]? with
  |some (.dic kus)=>uni fun ep=>(f (fun S'=>S'[l]?=some (.fdc ep kus)) p.2.length (kus.map fun q=>kU q.1) (lG n caps ρ) (p.2.set l (.fdc ep kus)++[.lst []])).bind fun S'=>match S'[l]? with
   |some (.fdc _ kus')=>some (.ref p.2.length,S'.set l (.dic kus'))
   |_=>none
  |_=>none
 |_=>none
def jC(ce:CE)(g:CG)(ct:CT)(el:CE)(n:Nat)(caps:List Nat):CE:=vL ce (fun ok l=>bV ok g ct el l) n caps
theorem tH{ce:CE}{f:(Sto->Prop)->Nat->List U->Rho->Sto->Option Sto}{n:Nat}{caps:List Nat}{G:It->Hp->L2.St->VK->Prop}
  (core:∀{J:It} {us:List U} {ok:Sto->Prop} {Q:VK} {m1:List Addr} {H1:Hp} {S1 S':Sto} {ρ:Rho} {σ:L2.St},Sr X.K m1 S1 H1->Lr X.K m1 H1 ρ σ->yy X.K J m1 H1 us ok->f ok S1.length us (lG n caps ρ) (S1++[.lst []])=some S'->
   (∀l,H1 l=none->∀m2 H2,Ext X.K (m1++[l]) (upd H1 l (.lst [])) m2 H2->Sr X.K m2 S' H2->Q (.ref l) H2)->G J H1 σ Q) :
  ∀σ H Q,tE X.K (vL ce f n caps) σ H Q->A9 X (tE X.K ce) σ H fun J H1=>G J H1 σ fun v H'=>∃a ob kvs,v7 X a/\H' a=some (.frz ob (.dK kvs))/\Q v (upd H' a (.dK kvs)):=by
 rintro σ H Q ⟨m,ρ,S,u,S',sr,lr,hc,post⟩
 obtain⟨⟨x,S1⟩,h1,h⟩:=Option.bind_eq_some_iff.mp hc
 refine⟨m,ρ,S,x,S1,sr,lr,h1,fun m1 v1 H1 e1 sr1 i1=>?_⟩
 cases x with
 |ref l=>
  simp only at h
  split at h<;>try cases h
  rename_i kus hS
  obtain⟨a,ha,rfl⟩:=i1.of_ref
  obtain⟨a',ha',kvs,hx,ip⟩:=sr1.get hS
  rw[ha]at ha';cases ha'
  refine⟨a,kvs,rfl,hx,fun ob es ep nf hd=>?_⟩
  obtain⟨S2,h2,h3⟩:=Option.bind_eq_some_iff.mp (qj h ep)
  try simp only at h3
  split at h3<;>try cases h3
  rename_i ep' kus' hS2
  have kp:yx X.K H1 (upd H1 a (.frz ob (.dK kvs))):=sr1.keep ha _
  have ee:Ext X.K m1 H1 m1 (upd H1 a (.frz ob (.dK kvs))):=.of kp
  have sr2:Sr X.K m1 (S1.set l (.fdc ep kus)) (upd H1 a (.frz ob (.dK kvs))):=sr1.put ha ⟨ob,es,kvs,aJ,hd,ip.mono ee⟩
  rw[ip.1]
  have hln:(S1.set l (.fdc ep kus)).length=S1.length:=by simp
  refine core sr2 (lr.mono (e1.trans ee)) (uT ha) (by rw[hln];exact h2) fun p hp m3 H3 e3 sr3=>?_
  have en:Ext X.K m1 (upd H1 a (.frz ob (.dK kvs))) (m1++[p]) (upd (upd H1 a (.frz ob (.dK kvs))) p (.lst [])):=.new (bH hp _)
  have e03:=en.trans e3
  obtain⟨a3,ha3,ob3,es3,kvs3,hx3,hd3,ip3⟩:=sr3.get hS2
  rw[e03.get ha]at ha3;cases ha3
  have e4:Ext X.K m3 H3 m3 (upd H3 a (.dK kvs3)):=.of (sr3.keep (e03.get ha) _)
  refine⟨a,ob3,kvs3,nf,hx3,post m3 _ _ (((e1.trans ee).trans e03).trans e4) (sr3.put (e03.get ha) ⟨kvs3,aJ,ip3.mono e4⟩) ?_⟩
  have lg:(m1++[p])[S1.length]?=some p:=dz sr1.len
  exact .ref_ (e3.get lg)
 |_=>cases h
variable{Nc capN tn:List Str}{scope:Scope}{cl:List (Str×Addr)}{n:Nat}{caps:List Nat}{tg iter elt c:Expr}{pos:Pos}{ci:CE}{g:CG}{ct:CT}{ce:CE}
theorem ue(hc:X.calm=true)(hi:QE X iter ci)(hg:∀s3 H3 fp,WG (cxC X Nc scope cl s3 H3 fp) tg (tG X.K g))(ht:∀s3 H3 fp,WT (cxC X Nc scope cl s3 H3 fp) c (tT X.K ct))(he:∀s3 H3 fp,WE (cxC X Nc scope cl s3 H3 fp) elt (tE X.K ce))
  (hclos:closureFor scope X.env=pure cl) (hkind:scope.kind=.function) (hnl:∀x∈scope.names,x.2=.local->scope.names.lookup x.1=some .local) (hcell:∀x∈scope.names,x.2≠.cell)
  (hcl:rF X.env cl) (hhas:((relabel scope X.env).names.all fun p=>!(p.2 == .cell||p.2 == .free)||(cl.lookup p.1).isSome)=true)
  (hcap:Paired (Cap X scope cl) caps capN) (hN:Nc=tn++capN) (hn:tn.length=n)
  (hs:∀x,foldedSetIterable iter X.env x=pure x:=by intro _;rfl) :
  QE X (.ListComp elt [⟨tg,iter,[c],0⟩] scope pos) (jC ci g ct ce n caps):=
 (zY (lq hc (tF hi) hg he ht hclos hkind hnl hcell hcl hhas hcap hN hn hs)).imp (tH (G:=fun J H1 σ Q=>∀l,H1 l=none->∃W:Nat->Nat->L2.St->Hp->Prop,(∃m,W 0 m (OG.stC n caps σ) (upd H1 l (.lst [])))/\
  ∀i m σ' H2,W i m σ' H2->(J.stop i H2/\Q (.ref l) H2)\/(J.go i H2/\∃N:L2.St->Hp->Prop,(∀σ'' H',N σ'' H'->∃m',m'<m/\W (i+1) m' σ'' H')/\
  ∀x H3,J.yld i H2 x H3->tG X.K g x σ' H3 fun σ2 H4=>tT X.K ct σ2 H4 fun b H5=>match b with
   |true=>tE X.K ce σ2 H5 fun v H6=>∃ys,H6 l=some (.lst ys)/\ys.length<sizeLine/\N σ2 (upd H6 l (.lst (ys++[v])))
   |false=>N σ2 H5)) fun sr lr ito h2 post l hl=>kx sr lr ito hl h2 (post l hl))
def EW:List U->Option (List Key)
 |[]=>some []
 |u::r=>(jr u).bind fun k=>(EW r).map (k::·)
theorem tM{m:List Addr}{H:Hp}:∀{us:List U} {xs:List V} {ks:List Key},IsL K m H xs us->EW us=some ks->xs=ks.map kV
 |[],xs,ks,i,h=>by cases h;exact i.of_nil
 |u::r,xs,ks,i,h=>by
  obtain⟨x,t,rfl,ix,it⟩:=i.of_cons
  obtain⟨k,hk,h⟩:=Option.bind_eq_some_iff.mp h
  obtain⟨ks',h',rfl⟩:=Option.map_eq_some_iff.mp h
  rw[gO ix hk,tM it h'];rfl
def vM:CE:=fun _ S=>some (.ref S.length,S++[.dit []])
theorem Av{pos:Pos}:QE X (.Dict [] [] pos) vM:=tq.imp fun σ H Q hz=>kf hz fun m ρ S u S' sr lr hc post=>by
 cases hc
 exact fun p hp=>post (m++[p]) _ _ (.new (bH hp _)) (sr.new hp ⟨[],aJ,.nil_⟩) (.ref_ (dz sr.len))
def ky(co:CE)(cr:CA)(cv:CE):CS:=fun ρ S=>(cv ρ S).bind fun p=>(co ρ p.2).bind fun q=>(cr ρ q.2).bind fun r=>match q.1 with
 |.ref l=>match r.2[l]? with
  |some (.dit kus)=>(EW r.1).bind fun k=>if kus.length<LIM/\r.1.length<=LIM then some (.nx,ρ,r.2.set l (.dit (ig kus k p.1)))else none
  |_=>none
 |_=>none
theorem t9{o:Expr}{es:List Expr}{e:Expr}{co cv:CE}{cr:CA}{k2:Nat}{p2 pos pos':Pos}(hu:X.A.units+1<cLine)(ho:QE X o co)(hi:QA X es cr)(hv:QE X e cv)
  (hs:swapsWith e (some (.Subscript o (.Tuple es k2 p2) pos')) pos.line X.env=pure false:=by rfl):QS X (.Assign [.Subscript o (.Tuple es k2 p2) pos'] e pos) (ky co cr cv):=
 (pY hu ho (sZ hi.h) hv hs).imp fun D σ H hz=>qZ hz fun m ρ S oo ρ' S' sr lr hc post=>by
 obtain⟨⟨v,S1⟩,h1,ha⟩:=Option.bind_eq_some_iff.mp hc
 obtain⟨⟨ou,S2⟩,h2,hb⟩:=Option.bind_eq_some_iff.mp ha
 obtain⟨⟨ius,S3⟩,h3,h⟩:=Option.bind_eq_some_iff.mp hb
 clear ha hb hc
 cases ou with
 |ref l=>
  simp only at h
  split at h<;>try cases h
  rename_i kus hS
  obtain⟨k,hk,h4⟩:=Option.bind_eq_some_iff.mp h
  split at h4<;>try cases h4
  rename_i eF
  refine⟨m,ρ,S,v,S1,sr,lr,h1,fun m1 v1 H1 e1 sr1 i1=>⟨m1,ρ,S1,_,S2,sr1,lr.mono e1,h2,fun m2 v2 H2 e2 sr2 i2=>⟨m2,ρ,S2,ius,S3,sr2,lr.mono (e1.trans e2),h3,fun m3 vs H3 e3 sr3 i3=>?_⟩⟩⟩
  refine⟨lim (by rw[i3.length];exact eF.2),fun p hp=>?_⟩
  obtain⟨a,ha,rfl⟩:=(i2.mono e3).of_ref
  obtain⟨a',ha',kvs,hx,ip⟩:=sr3.get hS
  rw[ha]at ha';cases ha'
  have hvs:=tM i3 hk
  subst hvs
  have s3:pN H3 (upd H3 p (.tup (k.map kV))):=cQ hp _
  have en:Ext X.K m3 H3 m3 (upd H3 p (.tup (k.map kV))):=.of (bH hp _)
  have srn:=sr3.same s3
  have hxn:(upd H3 p (.tup (k.map kV))) a=some (.dT kvs):=s3 _ _ hx
  have e13:=((e1.trans e2).trans e3).trans en
  have ee:Ext X.K m3 (upd H3 p (.tup (k.map kV))) m3 (upd (upd H3 p (.tup (k.map kV))) a (.dT (oN kvs k v1))):=.of (srn.keep ha _)
  exact⟨a,_,rfl,zk.t hxn aJ (Ea (by rw[IsP.length ip];exact eF.1)),post m3 σ _ (e13.trans ee) (srn.put ha ⟨_,aJ,(IsP.put (ip.mono en) (i1.mono ((e2.trans e3).trans en))).mono ee⟩) (lr.mono (e13.trans ee))⟩
 |_=>cases h
end
end OP
namespace OP
open PySem PySem.Spec PyProof PyProof.Rows L2 OG PySem.W
section
variable{cmp:Nat->Nat->(Bool->Shared->Prop)->Shared->Prop}{s:Shared}{n:Nat}{lt:Nat->Nat->Bool}
structure Jh(n:Nat)(lt:Nat->Nat->Bool):Prop where
 tr:∀{i j k},i<n->j<n->k<n->lt i j=true->lt j k=true->lt i k=true
 tot:∀{i j},i<n->j<n->i≠j->lt i j=false->lt j i=true
 asym:∀{i j},i<n->j<n->lt i j=true->lt j i=false
structure Pm(n:Nat)(p:Array Nat):Prop where
 sz:p.size=n
 bd:∀i,i<n->p.getD i 0<n
 ne:∀i j,i<j->j<n->p.getD i 0≠p.getD j 0
def Asc(lt:Nat->Nat->Bool)(p:Array Nat)(k:Nat):Prop:=∀i j,i<j->j<k->lt (p.getD i 0) (p.getD j 0)=true
variable{p:Array Nat}
theorem xf:Pm n (List.toArray (List.range n)):=by
 have g:∀i,i<n->(List.toArray (List.range n)).getD i 0=i:=fun i hi=>by simp[Array.getD,hi]
 exact⟨by simp,fun i hi=>by rw[g i hi];exact hi,fun i j hij hj=>by rw[g i (by omega),g j hj];omega⟩
end
end OP
namespace OP
open PySem PySem.Spec PyProof PyProof.Rows L2 OG
def FzT(H:Hp)(a:Addr)(ep:Nat)(ks:List (List Key)):Prop:=∃ob es kvs,H a=some (.frz ob (.dT kvs))/\ob.data=.dict es ep/\kvs.map (·.1)=ks
def Itt(a:Addr)(ep:Nat)(ks:List (List Key)):It:=
 ⟨fun i H=>i<ks.length/\FzT H a ep ks,fun i H x H'=>H'=H/\∃k p,ks[i]?=some k/\x=.ref p/\H p=some (.tup (k.map kV)),fun i H=>ks.length<=i/\FzT H a ep ks⟩
end OP
namespace OP
open PySem PySem.Spec PyProof PyProof.Rows L2 OG PySem.W
def e8(h:Heap)(v:Value)(p:Int×Int):Prop:=∃b o t1 t2 e,v=Value.ref b/\h.get? b=some o/\o.cls=Value.type "tuple"/\o.data=Data.seq #[Value.int p.1 t1,Value.int p.2 t2] e
def ltP(p q:Int×Int):Bool:=decide (p.1<q.1\/p.1=q.1/\p.2<q.2)
section
variable{prog:Program}{w:World}{A:Around}{E:Value->Shared->Prop}{s:Shared}
theorem lM{b:Bool}{x y:Int}{t u:Tok}{Q:Bool->Shared->Prop}(h:Q (decide (x<y)) s):wpAny (model prog w) A (oneLt' b (Value.int x t) (Value.int y u)) Q E s:=by
 cases b with
 |true=>exact oneLt_int h
 |false=>
  rw[oneLt'_eq]
  dsimp only
  rw[if_neg Bool.false_ne_true]
  exact wpAny_bind (wpAny_lt_int (wpAny_truthy_bool h))
theorem AQ{v v':Value}{p p':Int×Int}{C:Bool->Shared->Prop}(h:e8 s.heap v p)(h':e8 s.heap v' p')(c:C (ltP p p') s):wpAny (model prog w) A (keyLt' (tuples' true) v v') C E s:=by
 obtain⟨b,o,t1,t2,e,rfl,g,_,d⟩:=h
 obtain⟨b',o',t1',t2',e',rfl,g',_,d'⟩:=h'
 refine kat_lt g d g' d' (kat_cons (wpAny_eqBool_int ?_))
 by_cases e1:p.1=p'.1
 ·rw[e1,beq_self_eq_true]
  refine kat_yes (kat_cons (wpAny_eqBool_int ?_))
  by_cases e2:p.2=p'.2
  ·rw[e2,beq_self_eq_true]
   refine kat_yes (kat_nil ?_)
   have:ltP p p'=false:=by simp[ltP,e1,e2]
   rw[this]at c
   exact c
  ·rw[beq_eq_false_iff_ne.mpr e2]
   refine kat_no (lM ?_)
   have:ltP p p'=decide (p.2<p'.2):=by simp[ltP,e1]
   rw[this]at c
   exact c
 ·rw[beq_eq_false_iff_ne.mpr e1]
  refine kat_no (lM ?_)
  have:ltP p p'=decide (p.1<p'.1):=by simp[ltP,e1]
  rw[this]at c
  exact c
def dJ(h:Heap):List Value->List (Int×Int)->Prop
 |[],[]=>True
 |v::vs,p::ps=>e8 h v p/\dJ h vs ps
 |_,_=>False
theorem jQ{h:Heap}:∀{vs:List Value} {ps:List (Int×Int)},dJ h vs ps->vs.length=ps.length
 |[],[],_=>rfl
 |_::_,_::_,k=>by rw[List.length_cons,List.length_cons,jQ k.2]
 |[],_::_,k=>k.elim
 |_::_,[],k=>k.elim
theorem nJ{h:Heap}:∀{vs:List Value} {ps:List (Int×Int)} {i:Nat},dJ h vs ps->i<ps.length->e8 h (vs.getD i Value.none) (ps.getD i (0,0))
 |[],[],_,_,k=>absurd k (Nat.not_lt_zero _)
 |_::_,_::_,0,k,_=>k.1
 |_::vs,_::ps,i+1,k,l=>by
  show e8 h (vs.getD i Value.none) (ps.getD i (0,0))
  exact nJ k.2 (by rw[List.length_cons]at l;omega)
 |[],_::_,_,k,_=>k.elim
 |_::_,[],_,k,_=>k.elim
theorem ur{h h':Heap}{v:Value}{p:Int×Int}{a:Addr}(k:e8 h v p)(hv:v≠.ref a)(m:∀b o,b≠a->h.get? b=some o->h'.get? b=some o):e8 h' v p:=by
 obtain⟨b,o,t1,t2,e,rfl,g,c,d⟩:=k
 exact⟨b,o,t1,t2,e,rfl,m b o (fun e=>hv (by rw[e])) g,c,d⟩
theorem iO{h h':Heap}{a:Addr}(m:∀b o,b≠a->h.get? b=some o->h'.get? b=some o):∀{vs:List Value} {ps:List (Int×Int)},dJ h vs ps->(∀v∈vs,v≠.ref a)->dJ h' vs ps
 |[],[],_,_=>trivial
 |v::vs,_::_,k,hv=>⟨ur k.1 (hv v List.mem_cons_self) m,iO m k.2 fun x hx=>hv x (List.mem_cons_of_mem _ hx)⟩
 |[],_::_,k,_=>k.elim
 |_::_,[],k,_=>k.elim
theorem lK{h:Heap}:∀{vs:List Value} {ps:List (Int×Int)},dJ h vs ps->∃fs,KatTups h vs fs/\fs.length=vs.length/\∀f∈fs,∃i t,f=Value.int i t
 |[],[],_=>⟨[],trivial,rfl,fun f hf=>by cases hf⟩
 |v::vs,p::ps,k=>by
  obtain⟨fs,h1,h2,h3⟩:=lK k.2
  obtain⟨b,o,t1,t2,e,hv,g,c,d⟩:=k.1
  refine⟨Value.int p.1 t1::fs,⟨⟨b,o,_,e,hv,g,c,d,rfl⟩,h1⟩,by rw[List.length_cons,List.length_cons,h2],fun f hf=>?_⟩
  rcases List.mem_cons.mp hf with z|z
  ·exact⟨_,_,z⟩
  ·exact h3 f z
 |[],_::_,k=>k.elim
 |_::_,[],k=>k.elim
theorem rR{vs:List Value}{ps:List (Int×Int)}{Q:SortKind->Shared->Prop}(h:dJ s.heap vs ps)(hn:0<vs.length)(q:Q (tuples' true) s):wpAny (model prog w) A (keyKind' vs.toArray) Q E s:=by
 obtain⟨fs,h1,h2,h3⟩:=lK h
 refine kat_kind (T:=Value.type "int") h1 (by omega) (fun v hv A Q E s' _ q=>?_) (by decide +kernel) (by exact q)
 obtain⟨i,t,rfl⟩:=h3 v hv
 exact wpAny_typeOf (typeIs_int s' i t) q
end
theorem D8{ps:List (Int×Int)}(nd:ps.Nodup):Jh ps.length fun i j=>ltP (ps.getD i (0,0)) (ps.getD j (0,0)) where
 tr:=fun{i j k} hi hj hk h1 h2=>by simp only[ltP,decide_eq_true_eq]at *;omega
 asym:=fun{i j} hi hj h=>by simp only[ltP,decide_eq_true_eq,decide_eq_false_iff_not]at *;omega
 tot:=fun{i j} hi hj hne h=>by
  simp only[ltP,decide_eq_true_eq,decide_eq_false_iff_not]at *
  have hd:ps.getD i (0,0)≠ps.getD j (0,0):=by
   rw[List.getD_eq_getElem?_getD,List.getD_eq_getElem?_getD,List.getElem?_eq_getElem hi,List.getElem?_eq_getElem hj]
   simp only[Option.getD_some]
   exact fun e=>hne ((List.getElem_inj nd).mp e)
  have:¬((ps.getD i (0,0)).1=(ps.getD j (0,0)).1/\(ps.getD i (0,0)).2=(ps.getD j (0,0)).2):=fun e=>hd (Prod.ext e.1 e.2)
  omega
theorem jY{prog:Program}{w:World}{A:Around}{E:Value->Shared->Prop}{s:Shared}{a:Addr}{vs:List Value}{n:Nat}{P:PySem.Fin->Shared->Prop}
  (g:s.heap.get? a=some (seqObj "list" vs.toArray n)) (h2:vs.length<2) (hP:P (Fin.done (Flow.ret Value.none)) { s with heap:=sortedHeap s.heap a vs vs.toArray }) :
  wpAny (model prog w) A (Builtin.«list.sort» { pos:=[Value.ref a] }) P E s:=by
 rw[list_sort_plain]
 have hS:vs.toArray.size=vs.length:=by simp
 have hz:vs.length<=sizeLine:=by unfold sizeLine;omega
 refine wpAny_bind (listItems_at g rfl (wpAny_bind (listUpdate_at g rfl ?_ (by rw[hS];exact hz) (by simp))))
 obtain⟨e1,g1⟩:∃e1,(s.heap.update a (Obj.mapSeq fun _=>#[])).get? a=some (seqObj "list" #[] e1):=⟨_,get?_update_seq g fun _=>#[]⟩
 refine wpAny_bind (seqEpoch_at g1 rfl (wpAny_bind (wpAny_newTuple (wpAny_bind (wpAny_newList (wpAny_holding ?_) (by simp))) (by simpa using hz))))
 have g2:(((s.heap.update a (Obj.mapSeq fun _=>#[])).push (seqObj "tuple" vs.toArray 0)).push (seqObj "list" #[] 0)).get? a=some (seqObj "list" #[] e1):=
  Heap.get?_push_of_some _ (Heap.get?_push_of_some _ g1)
 have n2:vs.toArray.size<2:=by rw[hS];omega
 dsimp only
 rw[if_pos n2]
 refine wpAny_bind (wpAny_pure ?_)
 rw[if_pos n2]
 refine wpAny_bind (wpAny_pure ?_)
 have hout:Array.map (fun x=>x.snd) (arrOf (SortSt.mk' general' (vs.toArray.zip vs.toArray) #[] 7 none))=vs.toArray:=by
  show Array.map (fun x=>x.snd) (vs.toArray.zip vs.toArray)=vs.toArray
  simp[List.map_snd_zip]
 refine wpAny_bind (seqEpoch_at g2 rfl (wpAny_bind (listUpdate_at g2 rfl ?_ (by simp) ?_)))
 ·have hfail:failedOf (SortSt.mk' general' (vs.toArray.zip vs.toArray) #[] 7 none)=none:=rfl
  dsimp only at hfail ⊢
  simp only[hfail,bne_self_eq_false,Bool.false_eq_true,if_false]
  have hP':=hP
  rw[<-hout]at hP'
  exact wpAny_pure hP'
 ·dsimp only
  rw[hout]
  rw[hS]
  omega
def Fi(ps:List (Int×Int))(q:Array Nat):Prop:=Pm ps.length q/\Asc (fun i j=>ltP (ps.getD i (0,0)) (ps.getD j (0,0))) q ps.length
theorem iP{h:Heap}:∀{vs:List Value} {ps:List (Int×Int)},dJ h vs ps->∀v∈vs,∀a,h.objs.size<=a->v≠.ref a
 |[],[],_,v,hv,_,_=>by cases hv
 |_::_,_::_,k,v,hv,a,ha=>by
  rcases List.mem_cons.mp hv with z|z
  ·obtain⟨b,o,t1,t2,e,e1,g,_⟩:=k.1
   rw[z,e1]
   intro e2
   cases e2
   exact absurd (Heap.lt_size g) (Nat.not_lt.mpr ha)
  ·exact iP k.2 v z a ha
 |[],_::_,k,_,_,_,_=>k.elim
 |_::_,[],k,_,_,_,_=>k.elim
def PrL(K:PySem.W.Frag)(H:Hp):List V->List (Int×Int)->Prop
 |[],[]=>True
 |x::xs,p::ps=>(∃a,x=.ref a/\SqT K H a [.int p.1,.int p.2])/\PrL K H xs ps
 |_,_=>False
theorem uh{K:PySem.W.Frag}{H:Hp}:∀{ys:List V} {ps:List (Int×Int)},PrL K H ys ps->ys.length=ps.length
 |[],[],_=>rfl
 |_::_,_::_,k=>by rw[List.length_cons,List.length_cons,uh k.2]
 |[],_::_,k=>k.elim
 |_::_,[],k=>k.elim
theorem yX{X:Cx}{pins:List (Addr×Obj)}{σ:L2.St}{H:Hp}{s:Shared}(I:Inv X pins σ H s):∀{ys:List V} {ps:List (Int×Int)} {vs:List Value},PrL X.K H ys ps->bN ys vs->dJ s.heap vs ps
 |[],[],_,_,r=>by cases r;trivial
 |_::_,p::ps,_,k,r=>by
  cases r with
  |cons r1 r2=>
   refine⟨?_,yX I k.2 r2⟩
   obtain⟨a,rfl,hs⟩:=k.1
   obtain⟨its,rv,⟨o,g,c,n,d⟩,_⟩:=I.tuple hs
   cases r1
   cases rv with
   |cons u1 u2=>cases u2 with
    |cons u3 u4=>
     cases u4
     obtain⟨t1,rfl⟩:=u1
     obtain⟨t2,rfl⟩:=u3
     exact⟨a,o,t1,t2,n,rfl,g,c,d⟩
 |[],_::_,_,k,_=>k.elim
 |_::_,[],_,k,_=>k.elim
theorem wB{ys:List V}{vs:List Value}(r:bN ys vs){i:Nat}(hi:i<ys.length):cE (ys.getD i .non) (vs.getD i Value.none):=by
 induction r generalizing i with
 |nil=>simp at hi
 |cons r1 r2 ih=>
  cases i with
  |zero=>exact r1
  |succ i=>exact ih (by simpa using hi)
theorem qf{ys:List V}{vs:List Value}(r:bN ys vs):∀(is:List Nat),(∀i∈is,i<ys.length)->bN (is.map fun i=>ys.getD i .non) (is.map fun i=>vs.getD i Value.none)
 |[],_=>.nil
 |i::is,h=>.cons (wB r (h i List.mem_cons_self)) (qf r is fun j hj=>h j (List.mem_cons_of_mem _ hj))
theorem uk{n:Nat}{q:Array Nat}(P:Pm n q):∀i∈q.toList,i<n:=fun i hi=>by
 obtain⟨j,hj,e⟩:=List.mem_iff_getElem.mp hi
 have hj':j<q.size:=by simpa using hj
 have:=P.bd j (by rw[<-P.sz];exact hj')
 rw[Array.getD_eq_getD_getElem?,Array.getElem?_eq_getElem hj']at this
 rw[Array.getElem_toList]at e
 rw[<-e];exact this
theorem mJ{p:Int×Int}:ltP p p=false:=by simp[ltP]
theorem xN{p q:Int×Int}(h:ltP p q=true)(k:ltP q p=true):False:=by simp only[ltP,decide_eq_true_eq]at h k;omega
theorem rA:∀{L M:List (Int×Int)},L.Pairwise (fun a b=>ltP a b=true)->M.Pairwise (fun a b=>ltP a b=true)->(∀x,x∈L↔x∈M)->L=M
 |[],[],_,_,_=>rfl
 |[],m::M,_,_,h=>by have:=(h m).mpr List.mem_cons_self;cases this
 |l::L,[],_,_,h=>by have:=(h l).mp List.mem_cons_self;cases this
 |l::L,m::M,h1,h2,h=>by
  obtain⟨a1,b1⟩:=List.pairwise_cons.mp h1
  obtain⟨a2,b2⟩:=List.pairwise_cons.mp h2
  have e:l=m:=by
   rcases List.mem_cons.mp ((h l).mp List.mem_cons_self)with z|z
   ·exact z
   ·rcases List.mem_cons.mp ((h m).mpr List.mem_cons_self)with y|y
    ·exact y.symm
    ·exact(xN (a2 l z) (a1 m y)).elim
  subst e
  congr 1
  refine rA b1 b2 fun x=>⟨fun hx=>?_,fun hx=>?_⟩
  ·rcases List.mem_cons.mp ((h x).mp (List.mem_cons_of_mem _ hx))with z|z
   ·subst z;have:=a1 x hx;rw[mJ]at this;cases this
   ·exact z
  ·rcases List.mem_cons.mp ((h x).mpr (List.mem_cons_of_mem _ hx))with z|z
   ·subst z;have:=a2 x hx;rw[mJ]at this;cases this
   ·exact z
open Classical in
def fK(ps:List (Int×Int)):List (Int×Int):=if h:∃L:List (Int×Int),L.Pairwise (fun a b=>ltP a b=true)/\∀x,x∈L↔x∈ps then h.choose else[]
theorem jw{L ps:List (Int×Int)}(h1:L.Pairwise (fun a b=>ltP a b=true))(h2:∀x,x∈L↔x∈ps):fK ps=L:=by
 have h:∃L:List (Int×Int),L.Pairwise (fun a b=>ltP a b=true)/\∀x,x∈L↔x∈ps:=⟨L,h1,h2⟩
 unfold fK
 rw[dif_pos h]
 obtain⟨k1,k2⟩:=h.choose_spec
 exact rA k1 h1 fun x=>(k2 x).trans (h2 x).symm
theorem vU{ps:List (Int×Int)}{q:Array Nat}(h:Fi ps q):fK ps=q.toList.map fun i=>ps.getD i (0,0):=by
 obtain⟨P,A⟩:=h
 have hl:q.toList.length=ps.length:=by rw[Array.length_toList,P.sz]
 have gd:∀i (hi:i<q.toList.length),q.getD i 0=q.toList[i]:=fun i hi=>by
  have hi':i<q.size:=by simpa using hi
  rw[Array.getD_eq_getD_getElem?,Array.getElem?_eq_getElem hi',Array.getElem_toList];rfl
 have h1:(q.toList.map fun i=>ps.getD i (0,0)).Pairwise (fun a b=>ltP a b=true):=by
  rw[List.pairwise_iff_getElem]
  intro i j hi hj hij
  rw[List.length_map]at hi hj
  rw[List.getElem_map,List.getElem_map,<-gd i hi,<-gd j hj]
  exact A i j hij (by omega)
 have nd:(q.toList.map fun i=>ps.getD i (0,0)).Nodup:=h1.imp fun{a b} h e=>by subst e;rw[mJ]at h;cases h
 have sub:∀x∈q.toList.map fun i=>ps.getD i (0,0),x∈ps:=fun x hx=>by
  obtain⟨i,hi,rfl⟩:=List.mem_map.mp hx
  have:=uk P i hi
  rw[List.getD_eq_getElem?_getD,List.getElem?_eq_getElem this]
  exact List.getElem_mem this
 refine jw h1 fun x=>⟨sub x,fun hx=>?_⟩
 refine Classical.byContradiction fun hn=>?_
 have:=List.Nodup.length_le_of_subset (List.nodup_cons.mpr ⟨hn,nd⟩) (l₂:=ps) fun y hy=>by
  rcases List.mem_cons.mp hy with z|z
  ·rw[z];exact hx
  ·exact sub y z
 rw[List.length_cons,List.length_map,hl]at this
 omega
def pP(p:Int×Int):U:=.tup [.int p.1,.int p.2]
def jR:List U->Option (List (Int×Int))
 |[]=>some []
 |.tup [.int a,.int b]::r=>(jR r).map ((a,b)::·)
 |_=>none
theorem iQ:∀ps:List (Int×Int),jR (ps.map pP)=some ps
 |[]=>rfl
 |p::ps=>by rw[List.map_cons,pP,jR,iQ ps];rfl
theorem nK:∀{us:List U} {ps:List (Int×Int)},jR us=some ps->us=ps.map pP
 |[],ps,h=>by cases h;rfl
 |u::us,ps,h=>by
  unfold jR at h
  split at h
  ·rename_i e;cases e
  ·rename_i e
   injection e with e1 e2
   subst e1;subst e2
   obtain⟨qs,e,h⟩:=Option.map_eq_some_iff.mp h
   subst h
   rw[List.map_cons,<-nK e];rfl
  ·cases h
section
variable{K:PySem.W.Frag}{m:List Addr}{H:Hp}
theorem yW:∀{ys:List V} {ps:List (Int×Int)},IsL K m H ys (ps.map pP)->PrL K H ys ps
 |ys,[],h=>by rw[h.of_nil];trivial
 |ys,p::ps,h=>by
  obtain⟨y,r,rfl,i,t⟩:=h.of_cons
  obtain⟨a,xs,rfl,hs,il⟩:=i.of_tup
  have e:xs=[p.1,p.2].map V.int:=IsL.ints (ns:=[p.1,p.2]) il
  subst e
  exact⟨⟨a,rfl,hs⟩,yW t⟩
theorem ui:∀{ys:List V} {ps:List (Int×Int)} {i:Nat},PrL K H ys ps->i<ps.length->Is K m H (ys.getD i .non) (pP (ps.getD i (0,0)))
 |[],[],i,_,h=>by simp at h
 |y::ys,p::ps,0,k,_=>by
  obtain⟨a,e,hs⟩:=k.1
  show Is K m H y (pP p)
  rw[e]
  exact .tup_ hs (iE [p.1,p.2])
 |y::ys,p::ps,i+1,k,h=>by
  show Is K m H (ys.getD i .non) (pP (ps.getD i (0,0)))
  exact ui k.2 (by simpa using h)
 |[],_::_,_,k,_=>k.elim
 |_::_,[],_,k,_=>k.elim
theorem ug{ys:List V}{ps:List (Int×Int)}(k:PrL K H ys ps):∀is:List Nat,(∀i∈is,i<ps.length)->IsL K m H (is.map fun i=>ys.getD i .non) (is.map fun i=>pP (ps.getD i (0,0)))
 |[],_=>.nil_
 |i::is,h=>.cons_ (ui k (h i List.mem_cons_self)) (ug k is fun j hj=>h j (List.mem_cons_of_mem _ hj))
end
open Classical in
def x8:Fn
 |[.ref l],S=>match S[l]? with
  |some (.lst us)=>(jR us).bind fun ps=>if ps.Nodup/\ps.length<64 then some (.ref S.length,S++[.lst ((fK ps).map pP)])else none
  |_=>none
 |_,_=>none
section
variable{M:Model}{A:Around}{E:Value->Shared->Prop}{σ:Type}
theorem cI{β:Type}{f:Nat->β->StateT σ Sem (ForInStep β)}{Q:β->σ->Shared->Prop}{s:Shared}(I:Nat->β->σ->Prop)
  (step:∀x k b st,I (k+1) b st->kasC M A E (f x b) (fun r st' s'=>match r with|.done b'=>Q b' st' s'|.yield b'=>I k b' st'/\s'=s) st s)
  (fin:∀b st,I 0 b st->Q b st s):∀(l:List Nat) (b:β) (st:σ),I l.length b st->kasC M A E (forIn l b f) Q st s
 |[],b,st,h=>kasC_nil (fin b st h)
 |x::l,b,st,h=>by
  refine kasC_cons ?_
  have:=step x l.length b st h
  unfold kasC at this ⊢
  refine wpAny_mono this (fun r s' h'=>?_) fun _ _ e=>e
  obtain⟨r,st'⟩:=r
  cases r with
  |done b'=>exact h'
  |yield b'=>
   obtain⟨h1,rfl⟩:=h'
   exact cI I step fin l b' st' h1
end
def Bd:Bool->Keyed->Array Keyed->Nat->Nat->Nat->StateT SortSt Sem (Option Nat):=sortPriv% PySem.Builtin.gallop
section
variable{prog:Program}{w:World}{A:Around}{E:Value->Shared->Prop}{s:Shared}{κ:SortKind}{LT:Keyed->Keyed->Bool}{X:Keyed->Prop}
def rD(prog:Program)(w:World)(A:Around)(E:Value->Shared->Prop)(s:Shared)(κ:SortKind)(LT:Keyed->Keyed->Bool)(X:Keyed->Prop):Prop:=
 ∀x y st (Q:Option Bool->SortSt->Shared->Prop),X x->X y->Rows.kindOf st=κ->Q (some (LT x y)) st s->kasC (model prog w) A E (lt' x y) Q st s
def bey(LT:Keyed->Keyed->Bool)(left:Bool)(key x:Keyed):Bool:=if left then LT x key else !LT key x
theorem bD{arr:Array Keyed}{i:Nat}{x:Keyed}{st:SortSt}{Q:Keyed->SortSt->Shared->Prop}(h:arr[i]?=some x)(q:Q x st s):kasC (model prog w) A E (elem' arr i) Q st s:=by
 rw[elem'_eq,h]
 exact kasC_pure q
theorem EO(hl:rD prog w A E s κ LT X){left:Bool}{key x:Keyed}{arr:Array Keyed}{i:Nat}{st:SortSt}{Q:Option Bool->SortSt->Shared->Prop}(hx:arr[i]?=some x)(x1:X x)(x2:X key)(hk:Rows.kindOf st=κ)(q:Q (some (bey LT left key x)) st s) :
  kasC (model prog w) A E (elem' arr i >>= fun x=>if left=true then lt' x key else lt' key x >>= fun r=>pure (Option.map (fun x=>!x) r)) Q st s:=by
 refine kasC_bind (bD hx ?_)
 cases left with
 |true=>exact hl x key st Q x1 x2 hk q
 |false=>exact kasC_bind (hl key x st _ x2 x1 hk (kasC_pure q))
theorem bI{α:Type}{m:StateT SortSt Sem α}{Q Q':α->SortSt->Shared->Prop}{st:SortSt}(h:kasC (model prog w) A E m Q' st s)(hq:∀a st' s',Q' a st' s'->Q a st' s'):kasC (model prog w) A E m Q st s:=by
 unfold kasC at h ⊢
 exact wpAny_mono h (fun r s' h'=>hq _ _ _ h') fun _ _ e=>e
theorem rn{f:Nat->Option (Option Nat)×Nat×Nat->StateT SortSt Sem (ForInStep (Option (Option Nat)×Nat×Nat))}{B:Nat->Bool}{n:Nat}{st:SortSt}
  (hd:∀x lo hi,lo≥hi->∀R:_->SortSt->Shared->Prop,R (.done (none,lo,hi)) st s->kasC (model prog w) A E (f x (none,lo,hi)) R st s)
  (hf:∀x lo hi,lo<hi->hi<=n->∀R:_->SortSt->Shared->Prop,R (if B (lo+(hi-lo) / 2)=true then .yield (none,lo+(hi-lo) / 2+1,hi)else .yield (none,lo,lo+(hi-lo) / 2)) st s->kasC (model prog w) A E (f x (none,lo,hi)) R st s)
  (up:∀k,k<n->B k=true->∀i,i<k+1->B i=true) (dn:∀k,k<n->B k=false->∀i,k<=i->i<n->B i=false)
  {l:List Nat} {lo hi:Nat} (hl:hi-lo<=l.length) (h1:lo<=hi) (h2:hi<=n) (h3:∀i,i<lo->B i=true) (h4:∀i,hi<=i->i<n->B i=false) {Q:_->SortSt->Shared->Prop}
  (q:∀k,k<=n->(∀i,i<k->B i=true)->(∀i,k<=i->i<n->B i=false)->Q (none,k,k) st s):kasC (model prog w) A E (forIn l (none,lo,hi) f) Q st s:=by
 refine cI (fun k b st'=>st'=st/\∃lo hi,b=(none,lo,hi)/\hi-lo<=k/\lo<=hi/\hi<=n/\(∀i,i<lo->B i=true)/\∀i,hi<=i->i<n->B i=false) (fun x k b st' h=>?_) (fun b st' h=>?_) l _ _ ⟨rfl,lo,hi,rfl,hl,h1,h2,h3,h4⟩
 ·obtain⟨rfl,lo,hi,rfl,a1,a2,a3,a4,a5⟩:=h
  by_cases e:lo≥hi
  ·have:lo=hi:=by omega
   subst this
   exact hd x lo lo e _ (q lo a3 a4 a5)
  ·refine hf x lo hi (by omega) a3 _ ?_
   cases hB:B (lo+(hi-lo) / 2)with
   |true=>rw[if_pos rfl];exact⟨⟨rfl,_,_,rfl,by omega,by omega,a3,up _ (by omega) hB,a5⟩,rfl⟩
   |false=>rw[if_neg (by decide)];exact⟨⟨rfl,_,_,rfl,by omega,by omega,by omega,a4,dn _ (by omega) hB⟩,rfl⟩
 ·obtain⟨rfl,lo,hi,rfl,a1,a2,a3,a4,a5⟩:=h
  have:lo=hi:=by omega
  subst this
  exact q lo a3 a4 a5
theorem lU(hl:rD prog w A E s κ LT X){left:Bool}{key:Keyed}{arr:Array Keyed}{base n hint:Nat}{g:Nat->Keyed}{st:SortSt}{Q:Option Nat->SortSt->Shared->Prop}(hk:Rows.kindOf st=κ)(xk:X key)(hg:∀i,i<n->arr[base+i]?=some (g i)/\X (g i))(hh:hint<n)(mono:∀i j,i<=j->j<n->bey LT left key (g j)=true->bey LT left key (g i)=true)
  (q:∀k,k<=n->(∀i,i<k->bey LT left key (g i)=true)->(∀i,k<=i->i<n->bey LT left key (g i)=false)->Q (some k) st s):kasC (model prog w) A E (Bd left key arr base n hint) Q st s:=by
 have ask:∀i,i<n->∀(Q:Option Bool->SortSt->Shared->Prop),Q (some (bey LT left key (g i))) st s->kasC (model prog w) A E (elem' arr (base+i) >>= fun x=>if left=true then lt' x key else lt' key x >>= fun r=>pure (Option.map (fun x=>!x) r)) Q st s:=fun i hi Q h=>EO hl (hg i hi).1 (hg i hi).2 xk hk h
 have lo_:∀k,k<n->bey LT left key (g k)=true->∀i,i<k+1->bey LT left key (g i)=true:=fun k hk h i hi=>mono i k (by omega) hk h
 have hi_:∀k,k<n->bey LT left key (g k)=false->∀i,k<=i->i<n->bey LT left key (g i)=false:=fun k hk h i hi hn=>by
  cases hb:bey LT left key (g i)with
  |false=>rfl
  |true=>rw[mono k i hi hn hb]at h;cases h
 refine kasC_bind (ask hint hh _ ?_)
 cases hB:bey LT left key (g hint)with
 |true=>
  dsimp only
  rw[if_pos rfl]
  refine kasC_bind (kasC_range (bI (Q':=fun b st' s'=>st'=st/\s'=s/\∃la o,b=(none,la,o)/\hint+la<n/\bey LT left key (g (hint+la))=true/\la<o/\(n-hint<=o\/(hint+o<n/\bey LT left key (g (hint+o))=false))) ?_ ?_))
  ·refine cI (fun k b st'=>st'=st/\∃la o,b=(none,la,o)/\hint+la<n/\bey LT left key (g (hint+la))=true/\la<o/\n+1<=o+k) (fun x k b st' h=>?_) (fun b st' h=>?_) _ _ _ ⟨rfl,0,1,rfl,hh,hB,by omega,by rw[List.length_range'];omega⟩
   ·obtain⟨rfl,la,o,rfl,a1,a2,a3,a4⟩:=h
    dsimp only
    by_cases e:o≥n-hint
    ·rw[if_pos e]
     exact kasC_pure ⟨rfl,rfl,la,o,rfl,a1,a2,a3,.inl e⟩
    ·rw[if_neg e]
     refine kasC_bind (ask (hint+o) (by omega) _ ?_)
     cases hC:bey LT left key (g (hint+o))with
     |true=>exact kasC_pure ⟨⟨rfl,o,2*o+1,rfl,by omega,hC,by omega,by omega⟩,rfl⟩
     |false=>exact kasC_pure ⟨rfl,rfl,la,o,rfl,a1,a2,a3,.inr ⟨by omega,hC⟩⟩
   ·obtain⟨rfl,la,o,rfl,a1,a2,a3,a4⟩:=h
    exact⟨rfl,rfl,la,o,rfl,a1,a2,a3,.inl (by omega)⟩
  ·rintro b st' s' ⟨rfl,rfl,la,o,rfl,a1,a2,a3,a4⟩
   dsimp only
   refine kasC_bind (kasC_range (rn (B:=fun i=>bey LT left key (g i)) (n:=n) (fun x lo hi h R hR=>?_) (fun x lo hi h1 h2 R hR=>?_) lo_ hi_ (by rw[List.length_range'];omega) (by omega) (by omega) (lo_ _ a1 a2) (fun i h1 h2=>?_) fun k k1 k2 k3=>?_))
   ·dsimp only
    rw[if_pos h]
    exact kasC_pure hR
   ·dsimp only
    rw[if_neg (by omega)]
    refine kasC_bind (ask _ (by omega) _ ?_)
    dsimp only at hR ⊢
    cases hC:bey LT left key (g (lo+(hi-lo) / 2))with
    |true=>rw[hC]at hR;exact kasC_pure hR
    |false=>rw[hC]at hR;exact kasC_pure hR
   ·rcases a4 with a4|⟨a4,a5⟩
    ·omega
    ·exact hi_ _ a4 a5 i (by omega) h2
   ·exact kasC_pure (q k k1 k2 k3)
 |false=>
  dsimp only
  rw[if_neg (by decide)]
  refine kasC_bind (kasC_range (bI (Q':=fun b st' s'=>st'=st/\s'=s/\∃la o,b=(none,la,o)/\la<=hint/\bey LT left key (g (hint-la))=false/\la<o/\(hint+1<=o\/(o<=hint/\bey LT left key (g (hint-o))=true))) ?_ ?_))
  ·refine cI (fun k b st'=>st'=st/\∃la o,b=(none,la,o)/\la<=hint/\bey LT left key (g (hint-la))=false/\la<o/\n+1<=o+k) (fun x k b st' h=>?_) (fun b st' h=>?_) _ _ _ ⟨rfl,0,1,rfl,by omega,hB,by omega,by rw[List.length_range'];omega⟩
   ·obtain⟨rfl,la,o,rfl,a1,a2,a3,a4⟩:=h
    dsimp only
    by_cases e:o≥hint+1
    ·rw[if_pos e]
     exact kasC_pure ⟨rfl,rfl,la,o,rfl,a1,a2,a3,.inl e⟩
    ·rw[if_neg e]
     refine kasC_bind (ask (hint-o) (by omega) _ ?_)
     cases hC:bey LT left key (g (hint-o))with
     |true=>exact kasC_pure ⟨rfl,rfl,la,o,rfl,a1,a2,a3,.inr ⟨by omega,hC⟩⟩
     |false=>exact kasC_pure ⟨⟨rfl,o,2*o+1,rfl,by omega,hC,by omega,by omega⟩,rfl⟩
   ·obtain⟨rfl,la,o,rfl,a1,a2,a3,a4⟩:=h
    exact⟨rfl,rfl,la,o,rfl,a1,a2,a3,.inl (by omega)⟩
  ·rintro b st' s' ⟨rfl,rfl,la,o,rfl,a1,a2,a3,a4⟩
   dsimp only
   refine kasC_bind (kasC_range (rn (B:=fun i=>bey LT left key (g i)) (n:=n) (fun x lo hi h R hR=>?_) (fun x lo hi h1 h2 R hR=>?_) lo_ hi_ (by rw[List.length_range'];omega) (by omega) (by omega) (fun i h1=>?_) (fun i h1 h2=>hi_ _ (by omega) a2 i (by omega) h2) fun k k1 k2 k3=>?_))
   ·dsimp only
    rw[if_pos h]
    exact kasC_pure hR
   ·dsimp only
    rw[if_neg (by omega)]
    refine kasC_bind (ask _ (by omega) _ ?_)
    dsimp only at hR ⊢
    cases hC:bey LT left key (g (lo+(hi-lo) / 2))with
    |true=>rw[hC]at hR;exact kasC_pure hR
    |false=>rw[hC]at hR;exact kasC_pure hR
   ·rcases a4 with a4|⟨a4,a5⟩
    ·omega
    ·exact lo_ _ (by omega) a5 i (by omega)
   ·exact kasC_pure (q k k1 k2 k3)
end
section
variable{α:Type}{LT:α->α->Bool}{a b o:List α}{i j k:Nat}
def dA(LT:α->α->Bool)(l:List α):Prop:=l.Pairwise fun x y=>LT x y=true
structure MgI(LT:α->α->Bool)(a b o:List α)(i j:Nat):Prop where
 pm:(o++(a.drop i++b.drop j)).Perm (a++b)
 as:dA LT o
 lo:∀x∈o,∀y∈a.drop i++b.drop j,LT x y=true
theorem MgI.start:MgI LT a b [] 0 0:=⟨.refl _,List.Pairwise.nil,fun _ h=>by cases h⟩
theorem zi{l:List α}(h:dA LT l)(i k:Nat):dA LT ((l.drop i).take k)/\∀x∈(l.drop i).take k,∀y∈l.drop (i+k),LT x y=true:=by
 have h1:dA LT (l.drop i):=List.Pairwise.sublist (List.drop_sublist _ _) h
 rw[<-List.take_append_drop k (l.drop i)]at h1
 obtain⟨h2,h3,h4⟩:=List.pairwise_append.mp h1
 refine⟨h2,fun x hx y hy=>h4 x hx y ?_⟩
 rw[List.drop_drop]
 exact hy
theorem MgI.takeA(M:MgI LT a b o i j)(ha:dA LT a)(h:∀x∈(a.drop i).take k,∀y∈b.drop j,LT x y=true):MgI LT a b (o++(a.drop i).take k) (i+k) j:=by
 obtain⟨t1,t2⟩:=zi ha i k
 have e:(a.drop i).take k++a.drop (i+k)=a.drop i:=by rw[<-List.drop_drop];exact List.take_append_drop _ _
 refine⟨?_,List.pairwise_append.mpr ⟨M.as,t1,fun x hx y hy=>M.lo x hx y (List.mem_append_left _ (List.mem_of_mem_take hy))⟩,fun x hx y hy=>?_⟩
 ·have:=M.pm
  rw[<-e]at this
  simpa only[List.append_assoc] using this
 ·rcases List.mem_append.mp hx with hx|hx
  ·refine M.lo x hx y ?_
   rcases List.mem_append.mp hy with hy|hy
   ·rw[<-e];exact List.mem_append_left _ (List.mem_append_right _ hy)
   ·exact List.mem_append_right _ hy
  ·rcases List.mem_append.mp hy with hy|hy
   ·exact t2 x hx y hy
   ·exact h x hx y hy
theorem MgI.takeB(M:MgI LT a b o i j)(hb:dA LT b)(h:∀x∈(b.drop j).take k,∀y∈a.drop i,LT x y=true):MgI LT a b (o++(b.drop j).take k) i (j+k):=by
 obtain⟨t1,t2⟩:=zi hb j k
 have e:(b.drop j).take k++b.drop (j+k)=b.drop j:=by rw[<-List.drop_drop];exact List.take_append_drop _ _
 refine⟨?_,List.pairwise_append.mpr ⟨M.as,t1,fun x hx y hy=>M.lo x hx y (List.mem_append_right _ (List.mem_of_mem_take hy))⟩,fun x hx y hy=>?_⟩
 ·refine List.Perm.trans ?_ M.pm
  rw[List.append_assoc]
  refine List.Perm.append_left o ?_
  refine List.Perm.trans ?_ (List.Perm.append_left _ (List.Perm.of_eq e))
  rw[<-List.append_assoc,<-List.append_assoc]
  exact List.Perm.append_right _ List.perm_append_comm
 ·rcases List.mem_append.mp hx with hx|hx
  ·refine M.lo x hx y ?_
   rcases List.mem_append.mp hy with hy|hy
   ·exact List.mem_append_left _ hy
   ·rw[<-e];exact List.mem_append_right _ (List.mem_append_right _ hy)
  ·rcases List.mem_append.mp hy with hy|hy
   ·exact h x hx y hy
   ·exact t2 x hx y hy
theorem MgI.done(M:MgI LT a b o i j)(ha:dA LT a)(hb:dA LT b)(h:∀x∈a.drop i,∀y∈b.drop j,LT x y=true):(o++(a.drop i++b.drop j)).Perm (a++b)/\dA LT (o++(a.drop i++b.drop j)):=
 ⟨M.pm,List.pairwise_append.mpr ⟨M.as,List.pairwise_append.mpr ⟨List.Pairwise.sublist (List.drop_sublist _ _) ha,List.Pairwise.sublist (List.drop_sublist _ _) hb,h⟩,M.lo⟩⟩
theorem MgI.last(M:MgI LT a b o i j)(ha:dA LT a)(hb:dA LT b)(h:∀x∈b.drop j,∀y∈a.drop i,LT x y=true):(o++(b.drop j++a.drop i)).Perm (a++b)/\dA LT (o++(b.drop j++a.drop i)):=
 ⟨(List.Perm.append_left o List.perm_append_comm).trans M.pm,List.pairwise_append.mpr ⟨M.as,List.pairwise_append.mpr ⟨List.Pairwise.sublist (List.drop_sublist _ _) hb,List.Pairwise.sublist (List.drop_sublist _ _) ha,h⟩,fun x hx y hy=>M.lo x hx y (List.mem_append.mpr (List.mem_append.mp hy).symm)⟩⟩
end
def xH:Array Keyed->Array Keyed->StateT SortSt Sem (Array Keyed):=sortPriv% PySem.Builtin.mergeLo
def xI:Array Keyed->Array Keyed->StateT SortSt Sem (Array Keyed):=sortPriv% PySem.Builtin.mergeHi
section
variable{prog:Program}{w:World}{A:Around}{E:Value->Shared->Prop}{s:Shared}{κ:SortKind}{LT:Keyed->Keyed->Bool}{X:Keyed->Prop}
def Gl(st st':SortSt):Prop:=∃g,st'=SortSt.mk' (Rows.kindOf st) (arrOf st) (pendingOf st) g (failedOf st)
theorem Gl.refl{st:SortSt}:Gl st st:=⟨gallopOf st,rfl⟩
theorem Gl.kind{st st':SortSt}(h:Gl st st'):Rows.kindOf st'=Rows.kindOf st:=by obtain⟨g,rfl⟩:=h;rfl
theorem Gl.trans{st st' st2:SortSt}(h:Gl st st')(h2:Gl st' st2):Gl st st2:=by obtain⟨g,rfl⟩:=h;obtain⟨g2,rfl⟩:=h2;exact⟨g2,rfl⟩
theorem bB{l:Array Keyed}{i:Nat}(h:i<l.size):l[i]?=some (kas_item l i):=by
 unfold kas_item;simp[Array.getD,h]
theorem fY{l:Array Keyed}{i:Nat}(h:i<l.size):l.toList.drop i=kas_item l i::l.toList.drop (i+1):=by
 rw[List.drop_eq_getElem_cons (by simpa using h)]
 congr 1
 have:=bB h
 simpa [h] using this
theorem aK{l:Array Keyed}{i:Nat}(h:i<l.size):kas_item l i∈l.toList:=List.mem_of_mem_drop (i:=i) (by rw[fY h];exact List.mem_cons_self)
theorem xT{l:Array Keyed}{i:Nat}{x:Keyed}(h:x∈l.toList.drop i):∃t,i+t<l.size/\x=kas_item l (i+t):=by
 obtain⟨t,ht,e⟩:=List.getElem_of_mem h
 rw[List.length_drop]at ht
 have hz:i+t<l.size:=by simp at ht;omega
 refine⟨t,hz,?_⟩
 rw[<-e,List.getElem_drop]
 have:=bB hz
 simpa [hz] using this
theorem mK{l:Array Keyed}{i k:Nat}{x:Keyed}(h:x∈(l.toList.drop i).take k):∃t,t<k/\i+t<l.size/\x=kas_item l (i+t):=by
 obtain⟨t,ht,e⟩:=List.getElem_of_mem h
 rw[List.length_take,List.length_drop]at ht
 have hz:i+t<l.size:=by simp at ht;omega
 refine⟨t,by omega,hz,?_⟩
 rw[<-e,List.getElem_take,List.getElem_drop]
 have:=bB hz
 simpa [hz] using this
theorem je{l:Array Keyed}{i j:Nat}(h:dA LT l.toList)(hij:i<j)(hj:j<l.size):LT (kas_item l i) (kas_item l j)=true:=by
 have hi:i<l.size:=by omega
 have:=List.pairwise_iff_getElem.mp h i j (by simpa using hi) (by simpa using hj) hij
 have e1:=bB hi
 have e2:=bB hj
 simp only[hi,hj,getElem?_pos,Option.some.injEq]at e1 e2
 rw[<-e1,<-e2]
 simpa using this
theorem mU{l:Array Keyed}{i k:Nat}:(l.extract i (i+k)).toList=(l.toList.drop i).take k:=by
 simp
theorem jB{l:Array Keyed}{i:Nat}:(l.extract i l.size).toList=l.toList.drop i:=by
 simp only[Array.toList_extract]
 rw[List.extract_eq_take_drop,List.take_of_length_le (by simp)]
structure Two(LT:Keyed->Keyed->Bool)(X:Keyed->Prop)(a b:Array Keyed):Prop where
 aa:dA LT a.toList
 ab:dA LT b.toList
 xa:∀x∈a.toList,X x
 xb:∀x∈b.toList,X x
 tr:∀{x y z},X x->X y->X z->LT x y=true->LT y z=true->LT x z=true
 tot:∀x∈a.toList,∀y∈b.toList,LT y x=false->LT x y=true
 asym:∀x∈a.toList,∀y∈b.toList,LT x y=true->LT y x=false
 na:0<a.size
 nb:0<b.size
 fst:LT (kas_item b 0) (kas_item a 0)=true
 lst:LT (kas_item b (b.size-1)) (kas_item a (a.size-1))=true
variable{a b out:Array Keyed}{i j k:Nat}
theorem Two.leA(T:Two LT X a b){x:Keyed}(hx:X x)(hi:i<a.size)(h:LT x (kas_item a i)=true):∀y∈a.toList.drop i,LT x y=true:=fun y hy=>by
 obtain⟨t,ht,rfl⟩:=xT hy
 by_cases e:t=0
 ·subst e;exact h
 ·exact T.tr hx (T.xa _ (aK hi)) (T.xa _ (aK ht)) h (je T.aa (by omega) ht)
theorem Two.leB(T:Two LT X a b){x:Keyed}(hx:X x)(hj:j<b.size)(h:LT x (kas_item b j)=true):∀y∈b.toList.drop j,LT x y=true:=fun y hy=>by
 obtain⟨t,ht,rfl⟩:=xT hy
 by_cases e:t=0
 ·subst e;exact h
 ·exact T.tr hx (T.xb _ (aK hj)) (T.xb _ (aK ht)) h (je T.ab (by omega) ht)
theorem Two.bl(T:Two LT X a b):∀y∈b.toList,LT y (kas_item a (a.size-1))=true:=fun y hy=>by
 obtain⟨t,ht,rfl⟩:=xT (i:=0) hy
 rw[Nat.zero_add]at ht ⊢
 have na:=T.na
 have nb:=T.nb
 by_cases e:t=b.size-1
 ·subst e;exact T.lst
 ·exact T.tr (T.xb _ (aK ht)) (T.xb _ (aK (by omega))) (T.xa _ (aK (by omega))) (je T.ab (by omega) (by omega)) T.lst
def oK(LT:Keyed->Keyed->Bool)(a b r:Array Keyed):Prop:=r.toList.Perm (a.toList++b.toList)/\dA LT r.toList
theorem Two.pushB(T:Two LT X a b)(M:MgI LT a.toList b.toList out.toList i j)(hi:i<a.size)(hj:j<b.size)(h:LT (kas_item b j) (kas_item a i)=true):MgI LT a.toList b.toList (out.push (kas_item b j)).toList i (j+1):=by
 have:=M.takeB (k:=1) T.ab (fun x hx=>by
  rw[fY hj,List.take_succ_cons,List.take_zero,List.mem_singleton]at hx
  subst hx
  exact T.leA (T.xb _ (aK hj)) hi h)
 rw[fY hj,List.take_succ_cons,List.take_zero]at this
 rw[Array.toList_push]
 exact this
theorem Two.pushA(T:Two LT X a b)(M:MgI LT a.toList b.toList out.toList i j)(hi:i<a.size)(hj:j<b.size)(h:LT (kas_item a i) (kas_item b j)=true):MgI LT a.toList b.toList (out.push (kas_item a i)).toList (i+1) j:=by
 have:=M.takeA (k:=1) T.aa (fun x hx=>by
  rw[fY hi,List.take_succ_cons,List.take_zero,List.mem_singleton]at hx
  subst hx
  exact T.leB (T.xa _ (aK hi)) hj h)
 rw[fY hi,List.take_succ_cons,List.take_zero]at this
 rw[Array.toList_push]
 exact this
theorem Two.takA(T:Two LT X a b)(M:MgI LT a.toList b.toList out.toList i j)(hj:j<b.size)(h:∀t,t<k->i+t<a.size->LT (kas_item b j) (kas_item a (i+t))=false):MgI LT a.toList b.toList (out++a.extract i (i+k)).toList (i+k) j:=by
 rw[Array.toList_append,mU]
 refine M.takeA T.aa fun x hx=>?_
 obtain⟨t,h1,h2,rfl⟩:=mK hx
 exact T.leB (T.xa _ (aK h2)) hj (T.tot _ (aK h2) _ (aK hj) (h t h1 h2))
theorem Two.takB(T:Two LT X a b)(M:MgI LT a.toList b.toList out.toList i j)(hi:i<a.size)(h:∀t,t<k->j+t<b.size->LT (kas_item b (j+t)) (kas_item a i)=true):MgI LT a.toList b.toList (out++b.extract j (j+k)).toList i (j+k):=by
 rw[Array.toList_append,mU]
 refine M.takeB T.ab fun x hx=>?_
 obtain⟨t,h1,h2,rfl⟩:=mK hx
 exact T.leA (T.xb _ (aK h2)) hi (h t h1 h2)
theorem Two.fin(T:Two LT X a b)(M:MgI LT a.toList b.toList out.toList i j)(hj:j=b.size):oK LT a b (out++a.extract i a.size++b.extract j b.size):=by
 have:=M.done T.aa T.ab (fun x _ y hy=>by rw[hj,List.drop_of_length_le (by simp)]at hy;cases hy)
 unfold oK
 rw[Array.toList_append,Array.toList_append,jB,jB,List.append_assoc]
 exact this
theorem Two.finL(T:Two LT X a b)(M:MgI LT a.toList b.toList out.toList i j)(hi:i+1=a.size):oK LT a b (out++b.extract j b.size++a.extract i a.size):=by
 have:=M.last T.aa T.ab (fun x hx y hy=>by
  rw[fY (by omega),List.drop_of_length_le (by simp;omega),List.mem_singleton]at hy
  subst hy
  have:=T.bl x (List.mem_of_mem_drop hx)
  rw[show a.size-1=i by omega]at this
  exact this)
 unfold oK
 rw[Array.toList_append,Array.toList_append,jB,jB,List.append_assoc]
 exact this
end
section
variable{prog:Program}{w:World}{A:Around}{E:Value->Shared->Prop}{s:Shared}{κ:SortKind}{LT:Keyed->Keyed->Bool}{X:Keyed->Prop}{a b:Array Keyed}
theorem Two.monoF(T:Two LT X a b){key:Keyed}{i0:Nat}(xk:X key):∀i j,i<=j->j<a.size-i0->bey LT false key (kas_item a (i0+j))=true->bey LT false key (kas_item a (i0+i))=true:=fun i j hij hj h=>by
 by_cases e:i=j
 ·subst e;exact h
 ·unfold bey at h ⊢
  simp only[Bool.false_eq_true,if_false,Bool.not_eq_true']at h ⊢
  cases hc:LT key (kas_item a (i0+i))with
  |false=>rfl
  |true=>rw[T.tr xk (T.xa _ (aK (by omega))) (T.xa _ (aK (by omega))) hc (je T.aa (show i0+i<i0+j by omega) (by omega))]at h;cases h
theorem Two.monoT(T:Two LT X a b){key:Keyed}{i0:Nat}(xk:X key):∀i j,i<=j->j<b.size-i0->bey LT true key (kas_item b (i0+j))=true->bey LT true key (kas_item b (i0+i))=true:=fun i j hij hj h=>by
 by_cases e:i=j
 ·subst e;exact h
 ·exact T.tr (T.xb _ (aK (by omega))) (T.xb _ (aK (by omega))) xk (je T.ab (show i0+i<i0+j by omega) (by omega)) h
theorem D4(hl:rD prog w A E s κ LT X)(T:Two LT X a b){st:SortSt}{Q:Array Keyed->SortSt->Shared->Prop}(hk:Rows.kindOf st=κ)(q:∀r st',Gl st st'->oK LT a b r->Q r st' s):kasC (model prog w) A E (xH a b) Q st s:=by
  have na:=T.na
  have nb:=T.nb
  refine kasC_bind (kasC_lift (wpAny_rule ?_))
  refine kasC_bind (bD (bB nb) ?_)
  dsimp only
  have M0:MgI LT a.toList b.toList (#[kas_item b 0]:Array Keyed).toList 0 1:=T.pushB (out:=#[]) MgI.start na nb T.fst
  by_cases e1:(1 == b.size)=true
  · rw[if_pos e1]
    exact kasC_pure (q _ _ Gl.refl (T.fin M0 (eq_of_beq e1)))
  rw[if_neg e1]
  by_cases e2:(0+1 == a.size)=true
  · rw[if_pos e2]
    exact kasC_pure (q _ _ Gl.refl (T.finL M0 (eq_of_beq e2)))
  rw[if_neg e2]
  have b1:1<b.size:=by have:¬1=b.size:=fun z=>e1 (by rw[<-z];rfl);omega
  have a1:0+1<a.size:=by have:¬0+1=a.size:=fun z=>e2 (by rw[<-z];rfl);omega
  refine kasC_bind (kasC_get ?_)
  refine kasC_bind (kasC_range (bI (Q':=fun c st' s'=>s'=s/\Gl st st'/\∃r rest,c=(some r,rest)/\oK LT a b r) ?_ ?_))
  · refine cI (fun k c st'=>Gl st st'/\∃out i j mg,c=(none,out,i,j,mg)/\MgI LT a.toList b.toList out.toList i j/\i+1<a.size/\j<b.size/\(a.size-i)+(b.size-j)+1<=k) (fun x k c st' h=>?_) (fun c st' h=>?_) _ _ _ ⟨Gl.refl,_,_,_,_,rfl,M0,a1,b1,by rw[List.length_range'];omega⟩
    · obtain⟨gl,out,i,j,mg,rfl,M,hi,hj,hr⟩:=h
      refine kasC_bind (kasC_range (bI (Q':=fun c st2 s2=>s2=s/\st2=st'/\((∃r rest,c=(some r,rest)/\oK LT a b r)\/∃out' i' j' ac bc,c=(none,out',i',j',ac,bc)/\MgI LT a.toList b.toList out'.toList i' j'/\i'+1<a.size/\j'<b.size/\(a.size-i')+(b.size-j')+1<=(a.size-i)+(b.size-j))) ?_ ?_))
      · refine cI (fun k c st2=>st2=st'/\∃out' i' j' ac bc,c=(none,out',i',j',ac,bc)/\MgI LT a.toList b.toList out'.toList i' j'/\i'+1<a.size/\j'<b.size/\(a.size-i')+(b.size-j')<=(a.size-i)+(b.size-j)/\(a.size-i')+(b.size-j')<=k) (fun x k c st2 h=>?_) (fun c st2 h=>?_) _ _ _ ⟨rfl,_,_,_,_,_,rfl,M,hi,hj,Nat.le_refl _,by rw[List.length_range'];omega⟩
        · obtain⟨rfl,out',i',j',ac,bc,rfl,M',hi',hj',r1,r2⟩:=h
          refine kasC_bind (bD (bB hj') (kasC_bind (bD (bB (show i'<a.size by omega)) (kasC_bind (hl _ _ _ _ (T.xb _ (aK hj')) (T.xa _ (aK (show i'<a.size by omega))) (gl.kind.trans hk) ?_)))))
          cases hc:LT (kas_item b j') (kas_item a i')with
          | true=>
            have M2:=T.pushB M' (by omega) hj' hc
            refine kasC_bind (bD (bB hj') ?_)
            dsimp only
            by_cases e3:(j'+1 == b.size)=true
            · rw[if_pos e3]
              exact kasC_pure ⟨rfl,rfl,.inl ⟨_,_,rfl,T.fin M2 (eq_of_beq e3)⟩⟩
            rw[if_neg e3]
            have j3:j'+1<b.size:=by have:¬j'+1=b.size:=fun z=>e3 (by rw[<-z];exact beq_self_eq_true _);omega
            split
            · exact kasC_pure ⟨rfl,rfl,.inr ⟨_,_,_,_,_,rfl,M2,hi',j3,by omega⟩⟩
            · exact kasC_pure ⟨⟨rfl,_,_,_,_,_,rfl,M2,hi',j3,by omega,by omega⟩,rfl⟩
          | false=>
            have M2:=T.pushA M' (by omega) hj' (T.tot _ (aK (by omega)) _ (aK hj') hc)
            refine kasC_bind (bD (bB (show i'<a.size by omega)) ?_)
            dsimp only
            by_cases e3:(i'+1+1 == a.size)=true
            · rw[if_pos e3]
              exact kasC_pure ⟨rfl,rfl,.inl ⟨_,_,rfl,T.finL M2 (eq_of_beq e3)⟩⟩
            rw[if_neg e3]
            have i3:i'+1+1<a.size:=by have:¬i'+1+1=a.size:=fun z=>e3 (by rw[<-z];exact beq_self_eq_true _);omega
            split
            · exact kasC_pure ⟨rfl,rfl,.inr ⟨_,_,_,_,_,rfl,M2,i3,hj',by omega⟩⟩
            · exact kasC_pure ⟨⟨rfl,_,_,_,_,_,rfl,M2,i3,hj',by omega,by omega⟩,rfl⟩
        · obtain⟨rfl,out',i',j',ac,bc,rfl,M',hi',hj',r1,r2⟩:=h
          omega
      · rintro c st2 s2 ⟨rfl,rfl,⟨r,rest,rfl,fr⟩|⟨out',i',j',ac,bc,rfl,M',hi',hj',hr'⟩⟩
        · exact kasC_pure ⟨rfl,gl,_,_,rfl,fr⟩
        dsimp only
        refine kasC_bind (kasC_lift (wpAny_rule ?_))
        refine kasC_bind (kasC_range (bI (Q':=fun c st3 s3=>s3=s2/\Gl st st3/\((∃r rest,c=(some r,rest)/\oK LT a b r)\/∃out' i' j' mg ac bc,c=(none,out',i',j',mg,ac,bc)/\MgI LT a.toList b.toList out'.toList i' j'/\i'+1<a.size/\j'<b.size/\(a.size-i')+(b.size-j')+1<=(a.size-i)+(b.size-j))) ?_ ?_))
        · refine cI (fun k c st3=>Gl st st3/\∃out' i' j' mg ac bc,c=(none,out',i',j',mg,ac,bc)/\MgI LT a.toList b.toList out'.toList i' j'/\i'+1<a.size/\j'<b.size/\(a.size-i')+(b.size-j')+1<=(a.size-i)+(b.size-j)/\(a.size-i')+(b.size-j')<=k) (fun x k c st3 h=>?_) (fun c st3 h=>?_) _ _ _ ⟨gl,_,_,_,_,_,_,rfl,M',hi',hj',hr',by rw[List.length_range'];omega⟩
          · clear M' hi' hj' hr' M hi hj out' i' j' ac bc out
            obtain⟨gl3,out,i',j',mg',ac,bc,rfl,M,hi,hj,r1,r2⟩:=h
            dsimp only
            by_cases eg:mg'>1
            all_goals first|rw[if_pos eg]|rw[if_neg eg]
            all_goals
              refine kasC_bind (kasC_modify ?_)
              refine kasC_bind (bD (bB hj) ?_)
              refine kasC_bind (lU hl (g:=fun t=>kas_item a (i'+t)) (gl3.kind.trans hk) (T.xb _ (aK hj)) (fun t ht=>⟨bB (by omega),T.xa _ (aK (by omega))⟩) (by omega) (T.monoF (T.xb _ (aK hj))) (fun kk k1 k2 k3=>?_))
              have ik:i'+kk<a.size:=by
                by_cases z:i'+kk<a.size
                · exact z
                · have z1:=k2 (a.size-1-i') (by omega)
                  rw[show i'+(a.size-1-i')=a.size-1 by omega]at z1
                  unfold bey at z1
                  rw[T.bl _ (aK hj)]at z1
                  cases z1
              have hb1:LT (kas_item b j') (kas_item a (i'+kk))=true:=by
                have z1:=k3 kk (Nat.le_refl _) (by omega)
                unfold bey at z1
                simpa using z1
              have M1:=T.takA (k:=kk) M hj (fun t h1 h2=>by
                have z1:=k2 t h1
                unfold bey at z1
                simpa using z1)
              dsimp only
              rcases Nat.eq_zero_or_pos kk with ek|ek
              all_goals first
                | (rw [if_pos ek]
                   by_cases e3:(i'+kk+1 == a.size)=true
                   · rw[if_pos e3]
                     exact kasC_pure ⟨rfl,gl3.trans ⟨_,rfl⟩,.inl ⟨_,_,rfl,T.finL M1 (eq_of_beq e3)⟩⟩
                   rw[if_neg e3,if_neg (show ¬(i'+kk == a.size)=true from fun z=>by have:=eq_of_beq z;omega)]
                   have c1:i'+kk+1<a.size:=by have:¬i'+kk+1=a.size:=fun z=>e3 (by rw[<-z];exact beq_self_eq_true _);omega
                   have le1:i'<=i'+kk:=by omega
                   clear M ik hi k1 k2 k3 ek e3
                   generalize out++a.extract i' (i'+kk)=o1 at M1 ⊢
                   generalize i'+kk=i1 at hb1 M1 c1 le1 ⊢)
                | (subst ek
                   rw[if_neg (by decide)]
                   have c1:=hi
                   have le1:i'<=i':=Nat.le_refl _
                   replace M1:=M
                   replace hb1:LT (kas_item b j') (kas_item a i')=true:=hb1
                   clear M ik hi k1 k2 k3
                   generalize out=o1 at M1 ⊢
                   generalize hi1:i'=i1 at hb1 M1 c1 ⊢
                   have le1:i'<=i1:=by omega)
              all_goals
                refine kasC_bind (bD (bB hj) ?_)
                have M2:=T.pushB M1 (by omega) hj hb1
                by_cases e4:(j'+1 == b.size)=true
                · rw[if_pos e4]
                  exact kasC_pure ⟨rfl,gl3.trans ⟨_,rfl⟩,.inl ⟨_,_,rfl,T.fin M2 (eq_of_beq e4)⟩⟩
                rw[if_neg e4]
                have j3:j'+1<b.size:=by have:¬j'+1=b.size:=fun z=>e4 (by rw[<-z];exact beq_self_eq_true _);omega
                refine kasC_bind (bD (bB (show i1<a.size by omega)) ?_)
                refine kasC_bind (lU hl (g:=fun t=>kas_item b (j'+1+t)) (gl3.kind.trans hk) (T.xa _ (aK (show i1<a.size by omega))) (fun t ht=>⟨bB (by omega),T.xb _ (aK (by omega))⟩) (by omega) (T.monoT (T.xa _ (aK (by omega)))) (fun kb k1 k2 k3=>?_))
                have M3:=T.takB (k:=kb) M2 (show i1<a.size by omega) (fun t h1 h2=>k2 t h1)
                dsimp only
                rcases Nat.eq_zero_or_pos kb with ek|ek
                all_goals first
                  | (rw [if_pos ek]
                     by_cases e5:(j'+1+kb == b.size)=true
                     · rw[if_pos e5]
                       exact kasC_pure ⟨rfl,gl3.trans ⟨_,rfl⟩,.inl ⟨_,_,rfl,T.fin M3 (eq_of_beq e5)⟩⟩
                     rw[if_neg e5]
                     have c5:j'+1+kb<b.size:=by have:¬j'+1+kb=b.size:=fun z=>e5 (by rw[<-z];exact beq_self_eq_true _);omega
                     have hb3:LT (kas_item b (j'+1+kb)) (kas_item a i1)=false:=k3 kb (Nat.le_refl _) (by omega)
                     have le2:j'+1<=j'+1+kb:=by omega
                     clear k1 k2 k3 ek e5
                     generalize o1.push (kas_item b j')++b.extract (j'+1) (j'+1+kb)=o3 at M3 ⊢
                     generalize j'+1+kb=j1 at M3 c5 hb3 le2 ⊢)
                  | (subst ek
                     rw[if_neg (by decide)]
                     have hb3:LT (kas_item b (j'+1)) (kas_item a i1)=false:=k3 0 (Nat.le_refl _) (by omega)
                     replace M3:=M2
                     have c5:=j3
                     clear k1 k2 k3
                     generalize o1.push (kas_item b j')=o3 at M3 ⊢
                     have le2:j'+1<=j'+1:=Nat.le_refl _
                     generalize hj1:j'+1=j1 at M3 c5 hb3 ⊢
                     have le2:j'+1<=j1:=by omega)
                all_goals
                  refine kasC_bind (bD (bB (show i1<a.size by omega)) ?_)
                  have M4:=T.pushA M3 (by omega) c5 (T.tot _ (aK (by omega)) _ (aK c5) hb3)
                  by_cases e6:(i1+1+1 == a.size)=true
                  · rw[if_pos e6]
                    exact kasC_pure ⟨rfl,gl3.trans ⟨_,rfl⟩,.inl ⟨_,_,rfl,T.finL M4 (eq_of_beq e6)⟩⟩
                  rw[if_neg e6]
                  have i3:i1+1+1<a.size:=by have:¬i1+1+1=a.size:=fun z=>e6 (by rw[<-z];exact beq_self_eq_true _);omega
                  split
                  · exact kasC_pure ⟨rfl,gl3.trans ⟨_,rfl⟩,.inr ⟨_,i1+1,j1,_,_,_,rfl,M4,i3,c5,by omega⟩⟩
                  · exact kasC_pure ⟨⟨gl3.trans ⟨_,rfl⟩,_,i1+1,j1,_,_,_,rfl,M4,i3,c5,by omega,by omega⟩,rfl⟩
          · obtain⟨gl3,out',i',j',mg',ac,bc,rfl,M',hi',hj',r1,r2⟩:=h
            omega
        · rintro c st3 s3 ⟨rfl,gl3,⟨r,rest,rfl,fr⟩|⟨out',i',j',mg',ac,bc,rfl,M',hi',hj',hr'⟩⟩
          · exact kasC_pure ⟨rfl,gl3,_,_,rfl,fr⟩
          · exact kasC_bind (kasC_modify (kasC_pure ⟨⟨gl3.trans ⟨_,rfl⟩,out',i',j',_,rfl,M',hi',hj',by omega⟩,rfl⟩))
    · obtain⟨gl,out,i,j,mg,rfl,M,hi,hj,hr⟩:=h
      omega
  · rintro c st' s' ⟨rfl,gl,r,rest,rfl,fr⟩
    exact kasC_pure (q _ _ gl fr)
end
section
variable{α:Type}{LT:α->α->Bool}{a b t:List α}{i j p:Nat}
structure MgH(LT:α->α->Bool)(a b t:List α)(i j:Nat):Prop where
 pm:(a.take i++(b.take j++t)).Perm (a++b)
 as:dA LT t
 hi:∀x∈a.take i++b.take j,∀y∈t,LT x y=true
theorem MgH.start:MgH LT a b [] a.length b.length:=⟨by rw[List.take_length,List.take_length,List.append_nil],List.Pairwise.nil,fun _ _ _ h=>by cases h⟩
theorem jv{l:List α}(h:p<=i):l.take p++(l.take i).drop p=l.take i:=by
 have:=List.take_append_drop p (l.take i)
 rwa[List.take_take,Nat.min_eq_left h]at this
theorem pM{l:List α}(hl:dA LT l)(h:p<=i):dA LT ((l.take i).drop p)/\∀x∈l.take p,∀y∈(l.take i).drop p,LT x y=true:=by
 have h1:dA LT (l.take i):=List.Pairwise.sublist (List.take_sublist _ _) hl
 rw[<-jv h]at h1
 obtain⟨_,h3,h4⟩:=List.pairwise_append.mp h1
 exact⟨h3,h4⟩
theorem MgH.takeA(M:MgH LT a b t i j)(ha:dA LT a)(hp:p<=i)(h:∀x∈b.take j,∀y∈(a.take i).drop p,LT x y=true):MgH LT a b ((a.take i).drop p++t) p j:=by
 obtain⟨t1,t2⟩:=pM ha hp
 have e:=jv (l:=a) hp
 refine⟨?_,List.pairwise_append.mpr ⟨t1,M.as,fun x hx y hy=>M.hi x (List.mem_append_left _ (List.mem_of_mem_drop hx)) y hy⟩,fun x hx y hy=>?_⟩
 ·refine List.Perm.trans ?_ M.pm
  refine List.Perm.trans ?_ (List.Perm.append_right _ (List.Perm.of_eq e))
  rw[List.append_assoc]
  refine List.Perm.append_left _ ?_
  rw[<-List.append_assoc,<-List.append_assoc]
  exact List.Perm.append_right _ List.perm_append_comm
 ·rcases List.mem_append.mp hx with hx|hx<;>rcases List.mem_append.mp hy with hy|hy
  ·exact t2 x hx y hy
  ·exact M.hi x (List.mem_append_left _ (by rw[<-e];exact List.mem_append_left _ hx)) y hy
  ·exact h x hx y hy
  ·exact M.hi x (List.mem_append_right _ hx) y hy
theorem MgH.takeB(M:MgH LT a b t i j)(hb:dA LT b)(hp:p<=j)(h:∀x∈a.take i,∀y∈(b.take j).drop p,LT x y=true):MgH LT a b ((b.take j).drop p++t) i p:=by
 obtain⟨t1,t2⟩:=pM hb hp
 have e:=jv (l:=b) hp
 refine⟨?_,List.pairwise_append.mpr ⟨t1,M.as,fun x hx y hy=>M.hi x (List.mem_append_right _ (List.mem_of_mem_drop hx)) y hy⟩,fun x hx y hy=>?_⟩
 ·have:=M.pm
  rw[<-e]at this
  simpa only[List.append_assoc] using this
 ·rcases List.mem_append.mp hx with hx|hx<;>rcases List.mem_append.mp hy with hy|hy
  ·exact h x hx y hy
  ·exact M.hi x (List.mem_append_left _ hx) y hy
  ·exact t2 x hx y hy
  ·exact M.hi x (List.mem_append_right _ (by rw[<-e];exact List.mem_append_left _ hx)) y hy
theorem MgH.done(M:MgH LT a b t i j)(ha:dA LT a)(hb:dA LT b)(h:∀x∈a.take i,∀y∈b.take j,LT x y=true):(a.take i++b.take j++t).Perm (a++b)/\dA LT (a.take i++b.take j++t):=
 ⟨by rw[List.append_assoc];exact M.pm,List.pairwise_append.mpr ⟨List.pairwise_append.mpr ⟨List.Pairwise.sublist (List.take_sublist _ _) ha,List.Pairwise.sublist (List.take_sublist _ _) hb,h⟩,M.as,M.hi⟩⟩
theorem MgH.last(M:MgH LT a b t i j)(ha:dA LT a)(hb:dA LT b)(h:∀x∈b.take j,∀y∈a.take i,LT x y=true):(b.take j++a.take i++t).Perm (a++b)/\dA LT (b.take j++a.take i++t):=
 ⟨(List.Perm.append_right t List.perm_append_comm).trans (by rw[List.append_assoc];exact M.pm),List.pairwise_append.mpr ⟨List.pairwise_append.mpr ⟨List.Pairwise.sublist (List.take_sublist _ _) hb,List.Pairwise.sublist (List.take_sublist _ _) ha,h⟩,M.as,fun x hx y hy=>M.hi x (List.mem_append.mpr (List.mem_append.mp hx).symm) y hy⟩⟩
end
section
variable{LT:Keyed->Keyed->Bool}{X:Keyed->Prop}{a b out:Array Keyed}{i j p:Nat}
theorem mO{l:Array Keyed}{x:Keyed}(h:x∈l.toList.take i):∃t,t<i/\t<l.size/\x=kas_item l t:=by
 obtain⟨t,h1,h2,e⟩:=mK (i:=0) (k:=i) h
 exact⟨t,h1,by omega,by rw[e,Nat.zero_add]⟩
theorem u7{l:Array Keyed}{x:Keyed}(h:x∈(l.toList.take i).drop p):∃t,p<=t/\t<i/\t<l.size/\x=kas_item l t:=by
 rw[List.drop_take]at h
 obtain⟨t,h1,h2,e⟩:=mK h
 exact⟨p+t,by omega,by omega,h2,e⟩
theorem Et{l:Array Keyed}(h:i<l.size):(l.toList.take (i+1)).drop i=[kas_item l i]:=by
 rw[List.drop_take,fY h,show i+1-i=1 by omega];rfl
theorem jf{l:Array Keyed}:(l.extract p i).toList=(l.toList.take i).drop p:=by
 rw[List.drop_take];simp
theorem Two.af(T:Two LT X a b):∀y∈a.toList,LT (kas_item b 0) y=true:=fun y hy=>T.leA (T.xb _ (aK T.nb)) T.na T.fst y hy
theorem Two.cutA(T:Two LT X a b)(M:MgH LT a.toList b.toList out.toList.reverse i j)(hp:p<=i)(hj:0<j)(hz:j<=b.size)(h:∀t,p<=t->t<i->t<a.size->LT (kas_item b (j-1)) (kas_item a t)=true):MgH LT a.toList b.toList (out++(a.extract p i).reverse).toList.reverse p j:=by
 rw[Array.toList_append,List.reverse_append,Array.toList_reverse,List.reverse_reverse,jf]
 refine M.takeA T.aa hp fun x hx y hy=>?_
 obtain⟨t,h1,h2,h3,rfl⟩:=u7 hy
 obtain⟨u,g1,g2,rfl⟩:=mO hx
 have h0:=h t h1 h2 h3
 by_cases e:u=j-1
 ·subst e;exact h0
 ·exact T.tr (T.xb _ (aK g2)) (T.xb _ (aK (by omega))) (T.xa _ (aK h3)) (je T.ab (by omega) (by omega)) h0
theorem Two.cutB(T:Two LT X a b)(M:MgH LT a.toList b.toList out.toList.reverse i j)(hp:p<=j)(hi:0<i)(hz:i<=a.size)(h:∀t,p<=t->t<j->t<b.size->LT (kas_item b t) (kas_item a (i-1))=false):MgH LT a.toList b.toList (out++(b.extract p j).reverse).toList.reverse i p:=by
 rw[Array.toList_append,List.reverse_append,Array.toList_reverse,List.reverse_reverse,jf]
 refine M.takeB T.ab hp fun x hx y hy=>?_
 obtain⟨t,h1,h2,h3,rfl⟩:=u7 hy
 obtain⟨u,g1,g2,rfl⟩:=mO hx
 have h0:=T.tot _ (aK (show i-1<a.size by omega)) _ (aK h3) (h t h1 h2 h3)
 by_cases e:u=i-1
 ·subst e;exact h0
 ·exact T.tr (T.xa _ (aK g2)) (T.xa _ (aK (by omega))) (T.xb _ (aK h3)) (je T.aa (by omega) (by omega)) h0
theorem vi{l:Array Keyed}(h:i<l.size):(out++(l.extract i (i+1)).reverse).toList.reverse=(out.push (kas_item l i)).toList.reverse:=by
 rw[Array.toList_append,Array.toList_reverse,jf,Et h,Array.toList_push];rfl
theorem Two.hpA(T:Two LT X a b)(M:MgH LT a.toList b.toList out.toList.reverse (i+1) j)(hi:i<a.size)(hj:0<j)(hz:j<=b.size)(h:LT (kas_item b (j-1)) (kas_item a i)=true):MgH LT a.toList b.toList (out.push (kas_item a i)).toList.reverse i j:=by
 rw[<-vi hi]
 exact T.cutA M (by omega) hj hz fun t h1 h2 h3=>by rw[show t=i by omega];exact h
theorem Two.hpB(T:Two LT X a b)(M:MgH LT a.toList b.toList out.toList.reverse i (j+1))(hj:j<b.size)(hi:0<i)(hz:i<=a.size)(h:LT (kas_item b j) (kas_item a (i-1))=false):MgH LT a.toList b.toList (out.push (kas_item b j)).toList.reverse i j:=by
 rw[<-vi hj]
 exact T.cutB M (by omega) hi hz fun t h1 h2 h3=>by rw[show t=j by omega];exact h
theorem Two.hfin(T:Two LT X a b)(M:MgH LT a.toList b.toList out.toList.reverse i j)(hi:i=0):oK LT a b (a.extract 0 i++b.extract 0 j++out.reverse):=by
 have:=M.done T.aa T.ab (fun x hx=>by rw[hi]at hx;cases hx)
 unfold oK
 rw[Array.toList_append,Array.toList_append,jf,jf,Array.toList_reverse,List.drop_zero,List.drop_zero]
 exact this
theorem Two.hfst(T:Two LT X a b)(M:MgH LT a.toList b.toList out.toList.reverse i j)(hj:j=1):oK LT a b (b.extract 0 j++a.extract 0 i++out.reverse):=by
 have:=M.last T.aa T.ab (fun x hx y hy=>by
  obtain⟨t,h1,h2,rfl⟩:=mO hx
  rw[show t=0 by omega]
  exact T.af y (List.mem_of_mem_take hy))
 unfold oK
 rw[Array.toList_append,Array.toList_append,jf,jf,Array.toList_reverse,List.drop_zero,List.drop_zero]
 exact this
end
section
variable{prog:Program}{w:World}{A:Around}{E:Value->Shared->Prop}{s:Shared}{κ:SortKind}{LT:Keyed->Keyed->Bool}{X:Keyed->Prop}{a b out:Array Keyed}{i j:Nat}
theorem Two.hA(T:Two LT X a b)(M:MgH LT a.toList b.toList out.toList.reverse i j)(hi:0<i)(hz:i<=a.size)(hj:0<j)(hz':j<=b.size)(h:LT (kas_item b (j-1)) (kas_item a (i-1))=true):MgH LT a.toList b.toList (out.push (kas_item a (i-1))).toList.reverse (i-1) j:=by
 obtain⟨k,rfl⟩:∃k,i=k+1:=⟨i-1,by omega⟩
 exact T.hpA M (by omega) hj hz' h
theorem Two.hB(T:Two LT X a b)(M:MgH LT a.toList b.toList out.toList.reverse i j)(hj:0<j)(hz':j<=b.size)(hi:0<i)(hz:i<=a.size)(h:LT (kas_item b (j-1)) (kas_item a (i-1))=false):MgH LT a.toList b.toList (out.push (kas_item b (j-1))).toList.reverse i (j-1):=by
 obtain⟨k,rfl⟩:∃k,j=k+1:=⟨j-1,by omega⟩
 exact T.hpB M (by omega) hi hz h
theorem gf{x y:Nat}(h:¬(x == y)=true):x≠y:=fun z=>h (by rw[z];exact beq_self_eq_true _)
theorem D5(hl:rD prog w A E s κ LT X)(T:Two LT X a b){st:SortSt}{Q:Array Keyed->SortSt->Shared->Prop}(hk:Rows.kindOf st=κ)(q:∀r st',Gl st st'->oK LT a b r->Q r st' s):kasC (model prog w) A E (xI a b) Q st s:=by
  have na:=T.na
  have nb:=T.nb
  refine kasC_bind (kasC_lift (wpAny_rule ?_))
  refine kasC_bind (bD (bB (show a.size-1<a.size by omega)) ?_)
  dsimp only
  have M0:MgH LT a.toList b.toList (#[kas_item a (a.size-1)]:Array Keyed).toList.reverse (a.size-1) b.size:=by
    have S:MgH LT a.toList b.toList (#[]:Array Keyed).toList.reverse a.size b.size:=by
      have:=MgH.start (LT:=LT) (a:=a.toList) (b:=b.toList)
      rw[Array.length_toList,Array.length_toList]at this
      exact this
    exact T.hA S na (Nat.le_refl _) nb (Nat.le_refl _) T.lst
  by_cases e1:(a.size-1 == 0)=true
  · rw[if_pos e1]
    exact kasC_pure (q _ _ Gl.refl (T.hfin M0 (eq_of_beq e1)))
  rw[if_neg e1]
  by_cases e2:(b.size == 1)=true
  · rw[if_pos e2]
    exact kasC_pure (q _ _ Gl.refl (T.hfst M0 (eq_of_beq e2)))
  rw[if_neg e2]
  have a1:=gf e1
  have b1:=gf e2
  refine kasC_bind (kasC_get ?_)
  refine kasC_bind (kasC_range (bI (Q':=fun c st' s'=>s'=s/\Gl st st'/\∃r rest,c=(some r,rest)/\oK LT a b r) ?_ ?_))
  · refine cI (fun k c st'=>Gl st st'/\∃i j out mg,c=(none,i,j,out,mg)/\MgH LT a.toList b.toList out.toList.reverse i j/\0<i/\i<=a.size/\1<j/\j<=b.size/\i+j+1<=k) (fun x k c st' h=>?_) (fun c st' h=>?_) _ _ _ ⟨Gl.refl,_,_,_,_,rfl,M0,by omega,by omega,by omega,by omega,by rw[List.length_range'];omega⟩
    · obtain⟨gl,i,j,out,mg,rfl,M,hi,hia,hj,hjb,hr⟩:=h
      refine kasC_bind (kasC_range (bI (Q':=fun c st2 s2=>s2=s/\st2=st'/\((∃r rest,c=(some r,rest)/\oK LT a b r)\/∃i' j' out' ac bc,c=(none,i',j',out',ac,bc)/\MgH LT a.toList b.toList out'.toList.reverse i' j'/\0<i'/\i'<=a.size/\1<j'/\j'<=b.size/\i'+j'+1<=i+j)) ?_ ?_))
      · refine cI (fun k c st2=>st2=st'/\∃i' j' out' ac bc,c=(none,i',j',out',ac,bc)/\MgH LT a.toList b.toList out'.toList.reverse i' j'/\0<i'/\i'<=a.size/\1<j'/\j'<=b.size/\i'+j'<=i+j/\i'+j'<=k) (fun x k c st2 h=>?_) (fun c st2 h=>?_) _ _ _ ⟨rfl,i,j,out,_,_,rfl,M,hi,hia,hj,hjb,Nat.le_refl _,by rw[List.length_range'];omega⟩
        · obtain⟨rfl,i',j',out',ac,bc,rfl,M',hi',hia',hj',hjb',r1,r2⟩:=h
          refine kasC_bind (bD (bB (show j'-1<b.size by omega)) (kasC_bind (bD (bB (show i'-1<a.size by omega)) (kasC_bind (hl _ _ _ _ (T.xb _ (aK (show j'-1<b.size by omega))) (T.xa _ (aK (show i'-1<a.size by omega))) (gl.kind.trans hk) ?_)))))
          cases hc:LT (kas_item b (j'-1)) (kas_item a (i'-1))with
          | true=>
            have M2:=T.hA M' hi' hia' (by omega) hjb' hc
            refine kasC_bind (bD (bB (show i'-1<a.size by omega)) ?_)
            dsimp only
            by_cases e3:(i'-1 == 0)=true
            · rw[if_pos e3]
              exact kasC_pure ⟨rfl,rfl,.inl ⟨_,_,rfl,T.hfin M2 (eq_of_beq e3)⟩⟩
            rw[if_neg e3]
            have i3:=gf e3
            split
            · exact kasC_pure ⟨rfl,rfl,.inr ⟨i'-1,j',_,_,_,rfl,M2,by omega,by omega,hj',hjb',by omega⟩⟩
            · exact kasC_pure ⟨⟨rfl,i'-1,j',_,_,_,rfl,M2,by omega,by omega,hj',hjb',by omega,by omega⟩,rfl⟩
          | false=>
            have M2:=T.hB M' (by omega) hjb' hi' hia' hc
            refine kasC_bind (bD (bB (show j'-1<b.size by omega)) ?_)
            dsimp only
            by_cases e3:(j'-1 == 1)=true
            · rw[if_pos e3]
              exact kasC_pure ⟨rfl,rfl,.inl ⟨_,_,rfl,T.hfst M2 (eq_of_beq e3)⟩⟩
            rw[if_neg e3]
            have j3:=gf e3
            split
            · exact kasC_pure ⟨rfl,rfl,.inr ⟨i',j'-1,_,_,_,rfl,M2,hi',hia',by omega,by omega,by omega⟩⟩
            · exact kasC_pure ⟨⟨rfl,i',j'-1,_,_,_,rfl,M2,hi',hia',by omega,by omega,by omega,by omega⟩,rfl⟩
        · obtain⟨rfl,i',j',out',ac,bc,rfl,M',hi',hia',hj',hjb',r1,r2⟩:=h
          omega
      · rintro c st2 s2 ⟨rfl,rfl,⟨r,rest,rfl,fr⟩|⟨i',j',out',ac,bc,rfl,M',hi',hia',hj',hjb',hr'⟩⟩
        · exact kasC_pure ⟨rfl,gl,_,_,rfl,fr⟩
        dsimp only
        refine kasC_bind (kasC_lift (wpAny_rule ?_))
        refine kasC_bind (kasC_range (bI (Q':=fun c st3 s3=>s3=s2/\Gl st st3/\((∃r rest,c=(some r,rest)/\oK LT a b r)\/∃i' j' out' mg ac bc,c=(none,i',j',out',mg,ac,bc)/\MgH LT a.toList b.toList out'.toList.reverse i' j'/\0<i'/\i'<=a.size/\1<j'/\j'<=b.size/\i'+j'+1<=i+j)) ?_ ?_))
        · refine cI (fun k c st3=>Gl st st3/\∃i' j' out' mg ac bc,c=(none,i',j',out',mg,ac,bc)/\MgH LT a.toList b.toList out'.toList.reverse i' j'/\0<i'/\i'<=a.size/\1<j'/\j'<=b.size/\i'+j'+1<=i+j/\i'+j'<=k) (fun x k c st3 h=>?_) (fun c st3 h=>?_) _ _ _ ⟨gl,i',j',out',_,_,_,rfl,M',hi',hia',hj',hjb',hr',by rw[List.length_range'];omega⟩
          · clear M' hi' hia' hj' hjb' hr' M hi hia hj hjb out' i' j' ac bc out
            obtain⟨gl3,i',j',out,mg',ac,bc,rfl,M,hi,hia,hj,hjb,r1,r2⟩:=h
            dsimp only
            by_cases eg:mg'>1
            all_goals first|rw[if_pos eg]|rw[if_neg eg]
            all_goals
              refine kasC_bind (kasC_modify ?_)
              refine kasC_bind (bD (bB (show j'-1<b.size by omega)) ?_)
              refine kasC_bind (lU hl (g:=fun t=>kas_item a (0+t)) (gl3.kind.trans hk) (T.xb _ (aK (show j'-1<b.size by omega))) (fun t ht=>⟨bB (by omega),T.xa _ (aK (by omega))⟩) (by omega) (fun x y h1 h2=>T.monoF (T.xb _ (aK (show j'-1<b.size by omega))) x y h1 (by omega)) (fun kk k1 k2 k3=>?_))
              have M1:=T.cutA (p:=kk) M k1 (by omega) hjb (fun t h1 h2 h3=>by
                have z1:=k3 t h1 h2
                unfold bey at z1
                simpa using z1)
              have fb:0<kk->LT (kas_item b (j'-1)) (kas_item a (kk-1))=false:=fun z=>by
                have z1:=k2 (kk-1) (by omega)
                unfold bey at z1
                simpa using z1
              dsimp only
              by_cases ek:i'-kk>0
              all_goals first
                | (rw [if_pos ek]
                   by_cases e3:(kk == 0)=true
                   · rw[if_pos e3]
                     exact kasC_pure ⟨rfl,gl3.trans ⟨_,rfl⟩,.inl ⟨_,_,rfl,T.hfin M1 (eq_of_beq e3)⟩⟩
                   rw[if_neg e3]
                   have c1:0<kk:=Nat.pos_of_ne_zero (gf e3)
                   have hb1:=fb c1
                   have le1:kk<=i':=k1
                   clear M fb k1 k2 k3 ek e3
                   generalize out++(a.extract kk i').reverse=o1 at M1 ⊢
                   generalize kk=i1 at hb1 M1 c1 le1 ⊢)
                | (rw [if_neg ek]
                   have ekk:kk=i':=by omega
                   have hb1:=fb (by omega)
                   rw[ekk]at hb1
                   have c1:=hi
                   replace M1:=M
                   clear M fb k1 k2 k3 hi
                   generalize out=o1 at M1 ⊢
                   generalize hi1:i'=i1 at hb1 M1 c1 ⊢
                   have le1:i1<=i':=by omega)
              all_goals
                refine kasC_bind (bD (bB (show j'-1<b.size by omega)) ?_)
                have M2:=T.hB M1 (by omega) hjb c1 (by omega) hb1
                by_cases e4:(j'-1 == 1)=true
                · rw[if_pos e4]
                  exact kasC_pure ⟨rfl,gl3.trans ⟨_,rfl⟩,.inl ⟨_,_,rfl,T.hfst M2 (eq_of_beq e4)⟩⟩
                rw[if_neg e4]
                have j3:=gf e4
                refine kasC_bind (bD (bB (show i1-1<a.size by omega)) ?_)
                refine kasC_bind (lU hl (g:=fun t=>kas_item b (0+t)) (gl3.kind.trans hk) (T.xa _ (aK (show i1-1<a.size by omega))) (fun t ht=>⟨bB (by omega),T.xb _ (aK (by omega))⟩) (by omega) (fun x y h1 h2=>T.monoT (T.xa _ (aK (show i1-1<a.size by omega))) x y h1 (by omega)) (fun kb k1 k2 k3=>?_))
                have M3:=T.cutB (p:=kb) M2 k1 c1 (by omega) (fun t h1 h2 h3=>by
                  have z1:=k3 t h1 h2
                  unfold bey at z1
                  simpa using z1)
                have kb0:0<kb:=by
                  by_cases z:0<kb
                  · exact z
                  · have z1:=k3 0 (by omega) (by omega)
                    unfold bey at z1
                    rw[if_pos rfl]at z1
                    have z2:=T.af _ (aK (show i1-1<a.size by omega))
                    simp only[Nat.zero_add]at z1
                    rw[z2]at z1
                    cases z1
                have hb3:LT (kas_item b (kb-1)) (kas_item a (i1-1))=true:=by
                  have z1:=k2 (kb-1) (by omega)
                  unfold bey at z1
                  simpa using z1
                dsimp only
                by_cases ek:j'-1-kb>0
                all_goals first
                  | (rw [if_pos ek]
                     by_cases e5:(kb == 1)=true
                     · rw[if_pos e5]
                       exact kasC_pure ⟨rfl,gl3.trans ⟨_,rfl⟩,.inl ⟨_,_,rfl,T.hfst M3 (eq_of_beq e5)⟩⟩
                     rw[if_neg e5,if_neg (show ¬(kb == 0)=true from fun z=>by have:=eq_of_beq z;omega)]
                     have c5:1<kb:=by have:=gf e5;omega
                     have le2:kb<=j'-1:=k1
                     clear k1 k2 k3 ek e5 kb0
                     generalize o1.push (kas_item b (j'-1))++(b.extract kb (j'-1)).reverse=o3 at M3 ⊢
                     generalize kb=j1 at M3 c5 hb3 le2 ⊢)
                  | (rw [if_neg ek]
                     have ekk:kb=j'-1:=by omega
                     rw[ekk]at hb3
                     replace M3:=M2
                     have c5:1<j'-1:=by omega
                     clear k1 k2 k3 kb0
                     generalize o1.push (kas_item b (j'-1))=o3 at M3 ⊢
                     generalize hj1:j'-1=j1 at M3 c5 hb3 ⊢
                     have le2:j1<=j'-1:=by omega)
                all_goals
                  refine kasC_bind (bD (bB (show i1-1<a.size by omega)) ?_)
                  have M4:=T.hA M3 c1 (by omega) (by omega) (by omega) hb3
                  by_cases e6:(i1-1 == 0)=true
                  · rw[if_pos e6]
                    exact kasC_pure ⟨rfl,gl3.trans ⟨_,rfl⟩,.inl ⟨_,_,rfl,T.hfin M4 (eq_of_beq e6)⟩⟩
                  rw[if_neg e6]
                  have i3:=gf e6
                  split
                  · exact kasC_pure ⟨rfl,gl3.trans ⟨_,rfl⟩,.inr ⟨i1-1,j1,_,_,_,_,rfl,M4,by omega,by omega,c5,by omega,by omega⟩⟩
                  · exact kasC_pure ⟨⟨gl3.trans ⟨_,rfl⟩,i1-1,j1,_,_,_,_,rfl,M4,by omega,by omega,c5,by omega,by omega,by omega⟩,rfl⟩
          · obtain⟨gl3,i',j',out',mg',ac,bc,rfl,M',hi',hia',hj',hjb',r1,r2⟩:=h
            omega
        · rintro c st3 s3 ⟨rfl,gl3,⟨r,rest,rfl,fr⟩|⟨i',j',out',mg',ac,bc,rfl,M',hi',hia',hj',hjb',hr'⟩⟩
          · exact kasC_pure ⟨rfl,gl3,_,_,rfl,fr⟩
          · exact kasC_bind (kasC_modify (kasC_pure ⟨⟨gl3.trans ⟨_,rfl⟩,i',j',out',_,rfl,M',hi',hia',hj',hjb',by omega⟩,rfl⟩))
    · obtain⟨gl,i,j,out,mg,rfl,M,hi,hia,hj,hjb,hr⟩:=h
      omega
  · rintro c st' s' ⟨rfl,gl,r,rest,rfl,fr⟩
    exact kasC_pure (q _ _ gl fr)
end
section
variable{prog:Program}{w:World}{A:Around}{E:Value->Shared->Prop}{s:Shared}{κ:SortKind}{LT:Keyed->Keyed->Bool}{X:Keyed->Prop}
theorem sS{sa:Nat}{S:List Keyed}:∀(m:List Keyed) (j:Nat) (P M0:List Keyed) (arr:Array Keyed),arr.toList=P++(M0++S)->P.length=sa+j->M0.length=m.length->((m.zipIdx j).foldl (fun a p=>a.setIfInBounds (sa+p.2) p.1) arr).toList=P++(m++S)
 |[],j,P,M0,arr,h,_,h2=>by
  have:M0=[]:=List.eq_nil_of_length_eq_zero h2
  subst this
  exact h
 |x::m,j,P,M0,arr,h,h1,h2=>by
  cases M0 with
  |nil=>cases h2
  |cons y M0=>
   rw[List.zipIdx_cons,List.foldl_cons]
   have e:(arr.setIfInBounds (sa+j) x).toList=(P++[x])++(M0++S):=by
    rw[Array.toList_setIfInBounds,h,<-h1,List.set_append_right _ _ (Nat.le_refl _),Nat.sub_self]
    simp
   rw[sS m (j+1) (P++[x]) M0 _ e (by rw[List.length_append,List.length_singleton];omega) (by simpa using h2)]
   simp
theorem jA{P R S:List Keyed}{arr:Array Keyed}(h:arr.toList=P++(R++S)){i:Nat}(hi:i<R.length):P.length+i<arr.size/\arr[P.length+i]?=some (kas_item R.toArray i):=by
 have hz:arr.size=P.length+(R.length+S.length):=by rw[<-Array.length_toList,h,List.length_append,List.length_append]
 refine⟨by omega,?_⟩
 rw[<-Array.getElem?_toList,h,List.getElem?_append_right (by omega),Nat.add_sub_cancel_left,List.getElem?_append_left hi]
 have:=bB (l:=R.toArray) (i:=i) (by simpa using hi)
 simpa using this
end
section
variable{prog:Program}{w:World}{A:Around}{E:Value->Shared->Prop}{s:Shared}{κ:SortKind}{LT:Keyed->Keyed->Bool}{X:Keyed->Prop}
theorem xQ{st st':SortSt}{Q:PUnit->SortSt->Shared->Prop}(h:Q ⟨⟩ st' s):kasC (model prog w) A E (set st':StateT SortSt Sem PUnit) Q st s:=by
 unfold kasC;rw[StateT.run_set];exact wpAny_pure h
structure Nb(LT:Keyed->Keyed->Bool)(X:Keyed->Prop)(R1 R2:List Keyed):Prop where
 n1:0<R1.length
 n2:0<R2.length
 a1:dA LT R1
 a2:dA LT R2
 x1:∀x∈R1,X x
 x2:∀x∈R2,X x
 tr:∀{x y z},X x->X y->X z->LT x y=true->LT y z=true->LT x z=true
 asym:∀x∈R1,∀y∈R2,LT x y=true->LT y x=false
 tot:∀x∈R1,∀y∈R2,LT y x=false->LT x y=true
variable{R1 R2 P S:List Keyed}{k m:Nat}
theorem im{l:List Keyed}{i:Nat}(h:i<l.length):kas_item l.toArray i∈l:=by
 have:=aK (l:=l.toArray) (i:=i) (by simpa using h)
 simpa using this
theorem ia{l:List Keyed}{i j:Nat}(ha:dA LT l)(h:i<j)(hj:j<l.length):LT (kas_item l.toArray i) (kas_item l.toArray j)=true:=je (l:=l.toArray) (by simpa using ha) h (by simpa using hj)
theorem io{l:List Keyed}{x:Keyed}(h:x∈l.drop k):∃t,k<=t/\t<l.length/\x=kas_item l.toArray t:=by
 obtain⟨t,h1,h2⟩:=xT (l:=l.toArray) (i:=k) (by simpa using h)
 exact⟨k+t,by omega,by simpa using h1,h2⟩
theorem ip{l:List Keyed}{x:Keyed}(h:x∈l.take k):∃t,t<k/\t<l.length/\x=kas_item l.toArray t:=by
 obtain⟨t,h1,h2,h3⟩:=mO (l:=l.toArray) (i:=k) (by simpa using h)
 exact⟨t,h1,by simpa using h2,h3⟩
theorem Nb.asc(N:Nb LT X R1 R2)(hk:k<=R1.length)(hm:m<=R2.length)(h1:∀t,t<k->LT (kas_item R1.toArray t) (kas_item R2.toArray 0)=true)(h2:∀t,m<=t->t<R2.length->LT (kas_item R1.toArray (R1.length-1)) (kas_item R2.toArray t)=true){r:List Keyed}(hp:r.Perm (R1.drop k++R2.take m))(hr:dA LT r):(R1.take k++(r++R2.drop m)).Perm (R1++R2)/\dA LT (R1.take k++(r++R2.drop m)):=by
 have n1:=N.n1
 have n2:=N.n2
 constructor
 ·refine(List.Perm.append_left _ (List.Perm.append_right _ hp)).trans (List.Perm.of_eq ?_)
  rw[List.append_assoc,List.take_append_drop,<-List.append_assoc,List.take_append_drop]
 ·have lo:∀t,t<k->∀u,u<R2.length->LT (kas_item R1.toArray t) (kas_item R2.toArray u)=true:=fun t ht u hu=>by
   by_cases e:u=0
   ·subst e;exact h1 t ht
   ·exact N.tr (N.x1 _ (im (by omega))) (N.x2 _ (im n2)) (N.x2 _ (im hu)) (h1 t ht) (ia N.a2 (by omega) hu)
  have hi:∀t,t<R1.length->∀u,m<=u->u<R2.length->LT (kas_item R1.toArray t) (kas_item R2.toArray u)=true:=fun t ht u hu hl=>by
   by_cases e:t=R1.length-1
   ·subst e;exact h2 u hu hl
   ·exact N.tr (N.x1 _ (im ht)) (N.x1 _ (im (by omega))) (N.x2 _ (im hl)) (ia N.a1 (by omega) (by omega)) (h2 u hu hl)
  refine List.pairwise_append.mpr ⟨List.Pairwise.sublist (List.take_sublist _ _) N.a1,List.pairwise_append.mpr ⟨hr,List.Pairwise.sublist (List.drop_sublist _ _) N.a2,fun x hx y hy=>?_⟩,fun x hx y hy=>?_⟩
  ·obtain⟨u,u1,u2,rfl⟩:=io hy
   rcases List.mem_append.mp (hp.mem_iff.mp hx)with hx|hx
   ·obtain⟨t,t1,t2,rfl⟩:=io hx
    exact hi t t2 u u1 u2
   ·obtain⟨t,t1,t2,rfl⟩:=ip hx
    exact ia N.a2 (by omega) u2
  ·obtain⟨t,t1,t2,rfl⟩:=ip hx
   rcases List.mem_append.mp hy with hy|hy
   ·rcases List.mem_append.mp (hp.mem_iff.mp hy)with hy|hy
    ·obtain⟨u,u1,u2,rfl⟩:=io hy
     exact ia N.a1 (by omega) u2
    ·obtain⟨u,u1,u2,rfl⟩:=ip hy
     exact lo t t1 u u2
   ·obtain⟨u,u1,u2,rfl⟩:=io hy
    exact lo t t1 u u2
theorem Nb.mF(N:Nb LT X R1 R2){key:Keyed}(xk:X key):∀i j,i<=j->j<R1.length->bey LT false key (kas_item R1.toArray j)=true->bey LT false key (kas_item R1.toArray i)=true:=fun i j hij hj h=>by
 by_cases e:i=j
 ·subst e;exact h
 ·unfold bey at h ⊢
  simp only[Bool.false_eq_true,if_false,Bool.not_eq_true']at h ⊢
  cases hc:LT key (kas_item R1.toArray i)with
  |false=>rfl
  |true=>rw[N.tr xk (N.x1 _ (im (by omega))) (N.x1 _ (im hj)) hc (ia N.a1 (by omega) hj)]at h;cases h
theorem Nb.mT(N:Nb LT X R1 R2){key:Keyed}(xk:X key):∀i j,i<=j->j<R2.length->bey LT true key (kas_item R2.toArray j)=true->bey LT true key (kas_item R2.toArray i)=true:=fun i j hij hj h=>by
 by_cases e:i=j
 ·subst e;exact h
 ·exact N.tr (N.x2 _ (im (by omega))) (N.x2 _ (im hj)) xk (ia N.a2 (by omega) hj) h
theorem nQ{l:List Keyed}{t:Nat}:kas_item (l.drop k).toArray t=kas_item l.toArray (k+t):=by
 unfold kas_item;simp[Array.getD_eq_getD_getElem?]
theorem cL{l:List Keyed}{t:Nat}(h:t<k):kas_item (l.take k).toArray t=kas_item l.toArray t:=by
 unfold kas_item;simp[Array.getD_eq_getD_getElem?,List.getElem?_take,h]
theorem Nb.two(N:Nb LT X R1 R2)(hk:k<R1.length)(h0:0<m)(hm:m<=R2.length)(h1:LT (kas_item R2.toArray 0) (kas_item R1.toArray k)=true)(h2:LT (kas_item R2.toArray (m-1)) (kas_item R1.toArray (R1.length-1))=true):Two LT X (R1.drop k).toArray (R2.take m).toArray where
 aa:=List.Pairwise.sublist (List.drop_sublist _ _) N.a1
 ab:=List.Pairwise.sublist (List.take_sublist _ _) N.a2
 xa:=fun x hx=>N.x1 x (List.mem_of_mem_drop hx)
 xb:=fun x hx=>N.x2 x (List.mem_of_mem_take hx)
 tr:=N.tr
 tot:=fun x hx y hy=>N.tot x (List.mem_of_mem_drop hx) y (List.mem_of_mem_take hy)
 asym:=fun x hx y hy=>N.asym x (List.mem_of_mem_drop hx) y (List.mem_of_mem_take hy)
 na:=by simp;omega
 nb:=by have:=N.n2;simp;omega
 fst:=by rw[nQ,cL h0];exact h1
 lst:=by
  have e1:(R1.drop k).toArray.size-1=R1.length-1-k:=by simp;omega
  have e2:(R2.take m).toArray.size-1=m-1:=by simp;omega
  rw[e1,e2,nQ,cL (by omega),show k+(R1.length-1-k)=R1.length-1 by omega]
  exact h2
theorem IU{arr:Array Keyed}(h:arr.toList=P++(R1++(R2++S))):arr.extract (P.length+k) (P.length+R1.length)=(R1.drop k).toArray:=by
 apply Array.toList_inj.mp
 rw[jf,h,<-List.append_assoc,<-List.length_append,List.take_left,List.drop_append]
 simp
theorem IT{arr:Array Keyed}(h:arr.toList=P++(R1++(R2++S)))(hm:m<=R2.length):arr.extract (P.length+R1.length) (P.length+R1.length+m)=(R2.take m).toArray:=by
 apply Array.toList_inj.mp
 rw[mU,h,<-List.append_assoc,<-List.length_append,List.drop_left,List.take_append_of_le_length hm]
theorem D7(hl:rD prog w A E s κ LT X)(N:Nb LT X R1 R2){st:SortSt}{i pw pw2:Nat}{Q:Bool->SortSt->Shared->Prop}(hk:Rows.kindOf st=κ)(hf:failedOf st=none)(ha:(arrOf st).toList=P++(R1++(R2++S)))(h1:(pendingOf st)[i]?=some (P.length,R1.length,pw))(h2:(pendingOf st)[i+1]?=some (P.length+R1.length,R2.length,pw2))
  (q:∀R arr' g,arr'.toList=P++(R++S)->R.Perm (R1++R2)->dA LT R->Q true (SortSt.mk' κ arr' (((pendingOf st).setIfInBounds i (P.length,R1.length+R2.length,pw)).eraseIdxIfInBounds (i+1)) g none) s):kasC (model prog w) A E (mergeAt' i) Q st s:=by
 have n1:=N.n1
 have n2:=N.n2
 have ha2:(arrOf st).toList=(P++R1)++(R2++S):=by rw[ha,List.append_assoc]
 have g1:∀t,t<R1.length->(arrOf st)[P.length+t]?=some (kas_item R1.toArray t)/\X (kas_item R1.toArray t):=fun t ht=>⟨(jA ha ht).2,N.x1 _ (im ht)⟩
 have g2:∀t,t<R2.length->(arrOf st)[P.length+R1.length+t]?=some (kas_item R2.toArray t)/\X (kas_item R2.toArray t):=fun t ht=>⟨by have:=(jA ha2 ht).2;rwa[List.length_append]at this,N.x2 _ (im ht)⟩
 have stay:dA LT (R1++R2)->Q true (SortSt.mk' (Rows.kindOf st) (arrOf st) (((pendingOf st).setIfInBounds i (P.length,R1.length+R2.length,pw)).eraseIdxIfInBounds (i+1)) (gallopOf st) (failedOf st)) s:=fun h=>by
  rw[hk,hf]
  exact q (R1++R2) (arrOf st) (gallopOf st) (by rw[ha,List.append_assoc]) (.refl _) h
 refine kasC_bind (kasC_get ?_)
 dsimp only
 rw[h1,h2]
 dsimp only
 refine kasC_bind (xQ ?_)
 refine kasC_bind (bD (g2 0 n2).1 ?_)
 refine kasC_bind (lU hl (g:=fun t=>kas_item R1.toArray t) hk (N.x2 _ (im n2)) g1 n1 (N.mF (N.x2 _ (im n2))) (fun kk k1 k2 k3=>?_))
 have lo:∀t,t<kk->LT (kas_item R1.toArray t) (kas_item R2.toArray 0)=true:=fun t ht=>by
  have z:=k2 t ht
  unfold bey at z
  exact N.tot _ (im (by omega)) _ (im n2) (by simpa using z)
 dsimp only
 by_cases e1:(R1.length-kk == 0)=true
 ·rw[if_pos e1]
  have z:=eq_of_beq e1
  have ek:kk=R1.length:=by omega
  subst ek
  have h:=(N.asc (k:=R1.length) (m:=R2.length) (Nat.le_refl _) (Nat.le_refl _) lo (fun t a b=>by omega) (r:=R2) (by simp) N.a2).2
  refine kasC_pure (stay ?_)
  simpa using h
 rw[if_neg e1]
 have ek:kk<R1.length:=by have:=gf e1;omega
 refine kasC_bind (bD (x:=kas_item R1.toArray (R1.length-1)) (by rw[show P.length+kk+(R1.length-kk)-1=P.length+(R1.length-1)by omega];exact(g1 _ (by omega)).1) ?_)
 have l1:R1.length-1<R1.length:=by omega
 refine kasC_bind (lU hl (g:=fun t=>kas_item R2.toArray t) hk (N.x1 _ (im l1)) g2 (by omega) (N.mT (N.x1 _ (im l1))) (fun kb c1 c2 c3=>?_))
 have hi:∀t,kb<=t->t<R2.length->LT (kas_item R1.toArray (R1.length-1)) (kas_item R2.toArray t)=true:=fun t a b=>N.tot _ (im l1) _ (im b) (c3 t a b)
 dsimp only
 by_cases e2:(kb == 0)=true
 ·rw[if_pos e2]
  have z:=eq_of_beq e2
  subst z
  have h:=(N.asc (k:=0) (m:=0) (Nat.zero_le _) (Nat.zero_le _) (fun t a=>by omega) hi (r:=R1) (by simp) N.a1).2
  refine kasC_pure (stay ?_)
  simpa using h
 rw[if_neg e2]
 have kb0:0<kb:=Nat.pos_of_ne_zero (gf e2)
 have T:=N.two (k:=kk) (m:=kb) ek kb0 c1 (by have z:=k3 kk (Nat.le_refl _) ek;unfold bey at z;simpa using z) (c2 (kb-1) (by omega))
 have fin:∀r g,oK LT (R1.drop kk).toArray (R2.take kb).toArray r->Q (failedOf st).isNone (SortSt.mk' (Rows.kindOf st) ((r.toList.zipIdx).foldl (fun a p=>a.setIfInBounds (P.length+kk+p.2) p.1) (arrOf st)) (((pendingOf st).setIfInBounds i (P.length,R1.length+R2.length,pw)).eraseIdxIfInBounds (i+1)) g (failedOf st)) s:=fun r g fr=>by
  obtain⟨z1,z2⟩:=N.asc k1 c1 lo hi fr.1 fr.2
  rw[hk,hf]
  refine q (R1.take kk++(r.toList++R2.drop kb)) _ g ?_ z1 z2
  have:=sS (sa:=P.length+kk) (S:=R2.drop kb++S) r.toList 0 (P++R1.take kk) (R1.drop kk++R2.take kb) (arrOf st) (by
   rw[ha]
   simp only[List.append_assoc]
   rw[<-List.append_assoc (R1.take kk),List.take_append_drop,<-List.append_assoc (R2.take kb),List.take_append_drop]) (by rw[List.length_append,List.length_take];omega) (by rw[fr.1.length_eq])
  rw[this]
  simp
 have s1:=IU (k:=kk) ha
 have s2:=IT (m:=kb) ha c1
 rw[<-s1,<-s2]at T fin
 by_cases e3:R1.length-kk<=kb
 ·rw[if_pos e3]
  refine kasC_bind (D4 hl T hk (fun r st' gl fr=>?_))
  obtain⟨g,rfl⟩:=gl
  exact kasC_bind (kasC_modify (kasC_bind (kasC_get (kasC_pure (fin r g fr)))))
 ·rw[if_neg e3]
  refine kasC_bind (D5 hl T hk (fun r st' gl fr=>?_))
  obtain⟨g,rfl⟩:=gl
  exact kasC_bind (kasC_modify (kasC_bind (kasC_get (kasC_pure (fin r g fr)))))
end
section
variable{prog:Program}{w:World}{A:Around}{E:Value->Shared->Prop}{s:Shared}{κ:SortKind}{LT:Keyed->Keyed->Bool}{X:Keyed->Prop}{P W:List Keyed}
structure Od(LT:Keyed->Keyed->Bool)(X:Keyed->Prop)(W:List Keyed):Prop where
 xx:∀x∈W,X x
 tr:∀{x y z},X x->X y->X z->LT x y=true->LT y z=true->LT x z=true
 asym:∀{x y},X x->X y->LT x y=true->LT y x=false
 pw:W.Pairwise fun x y=>LT x y=true\/LT y x=true
theorem Od.perm{W':List Keyed}(O:Od LT X W)(h:W'.Perm W):Od LT X W':=⟨fun x hx=>O.xx x (h.mem_iff.mp hx),O.tr,O.asym,(h.pairwise_iff fun{x y} h=>h.symm).mpr O.pw⟩
theorem Od.tot(O:Od LT X W){i j:Nat}(hi:i<W.length)(hj:j<W.length)(hn:i≠j)(h:LT (kas_item W.toArray i) (kas_item W.toArray j)=false):LT (kas_item W.toArray j) (kas_item W.toArray i)=true:=by
 have e:∀{t:Nat} (ht:t<W.length),W[t]=kas_item W.toArray t:=fun{t} ht=>by
  have:=bB (l:=W.toArray) (i:=t) (by simpa using ht)
  simpa [ht] using this
 have key:LT (kas_item W.toArray i) (kas_item W.toArray j)=true\/LT (kas_item W.toArray j) (kas_item W.toArray i)=true:=by
  rcases Nat.lt_or_gt_of_ne hn with z|z
  ·have:=List.pairwise_iff_getElem.mp O.pw i j hi hj z
   rwa[e hi,e hj]at this
  ·have:=List.pairwise_iff_getElem.mp O.pw j i hj hi z
   rw[e hi,e hj]at this
   exact this.symm
 rcases key with k|k
 ·rw[h]at k;cases k
 ·exact k
def EV(LT:Keyed->Keyed->Bool)(l:List Keyed):Prop:=l.Pairwise fun x y=>LT y x=true
theorem qK(hl:rD prog w A E s κ LT X)(O:Od LT X W){st:SortSt}{i j:Nat}{Q:Option Bool->SortSt->Shared->Prop}(hk:Rows.kindOf st=κ)(ha:(arrOf st).toList=P++W)(hi:i<W.length)(hj:j<W.length)(q:Q (some (LT (kas_item W.toArray i) (kas_item W.toArray j))) st s):kasC (model prog w) A E (ltAt' (P.length+i) (P.length+j)) Q st s:=by
 have h':(arrOf st).toList=P++(W++[]):=by rw[ha,List.append_nil]
 rw[ltAt'_eq]
 refine kasC_bind (kasC_get ?_)
 refine kasC_bind (bD (jA h' hi).2 ?_)
 refine kasC_bind (bD (jA h' hj).2 ?_)
 exact hl _ _ _ _ (O.xx _ (im hi)) (O.xx _ (im hj)) hk q
theorem gZ{n:Nat}(h:n<W.length):W.take (n+1)=W.take n++[kas_item W.toArray n]:=by
 rw[List.take_add_one]
 have:=bB (l:=W.toArray) (i:=n) (by simpa using h)
 simp only[List.getElem?_toArray]at this
 rw[this]
 rfl
theorem Od.asc(O:Od LT X W){n:Nat}(h1:1<=n)(hn:n<W.length)(ha:dA LT (W.take n))(h:LT (kas_item W.toArray (n-1)) (kas_item W.toArray n)=true):dA LT (W.take (n+1)):=by
 rw[gZ hn]
 refine List.pairwise_append.mpr ⟨ha,List.pairwise_singleton _ _,fun x hx y hy=>?_⟩
 rw[List.mem_singleton.mp hy]
 obtain⟨t,t1,t2,rfl⟩:=ip hx
 by_cases e:t=n-1
 ·subst e;exact h
 ·refine O.tr (O.xx _ (im t2)) (O.xx _ (im (show n-1<W.length by omega))) (O.xx _ (im hn)) ?_ h
  have:=ia (l:=W.take n) ha (i:=t) (j:=n-1) (by omega) (by rw[List.length_take];omega)
  rwa[cL t1,cL (by omega)]at this
theorem Od.dsc(O:Od LT X W){n:Nat}(h1:1<=n)(hn:n<W.length)(ha:EV LT (W.take n))(h:LT (kas_item W.toArray n) (kas_item W.toArray (n-1))=true):EV LT (W.take (n+1)):=by
 rw[gZ hn]
 refine List.pairwise_append.mpr ⟨ha,List.pairwise_singleton _ _,fun x hx y hy=>?_⟩
 rw[List.mem_singleton.mp hy]
 obtain⟨t,t1,t2,rfl⟩:=ip hx
 by_cases e:t=n-1
 ·subst e;exact h
 ·refine O.tr (O.xx _ (im hn)) (O.xx _ (im (show n-1<W.length by omega))) (O.xx _ (im t2)) h ?_
  have:=ia (LT:=fun x y=>LT y x) (l:=W.take n) ha (i:=t) (j:=n-1) (by omega) (by rw[List.length_take];omega)
  rwa[cL t1,cL (by omega)]at this
end
section
variable{prog:Program}{w:World}{A:Around}{E:Value->Shared->Prop}{s:Shared}{κ:SortKind}{LT:Keyed->Keyed->Bool}{X:Keyed->Prop}{P W:List Keyed}
theorem lt1(hl:rD prog w A E s κ LT X)(O:Od LT X W){st:SortSt}{n:Nat}{Q:Option Bool->SortSt->Shared->Prop}(hk:Rows.kindOf st=κ)(ha:(arrOf st).toList=P++W)(h1:1<=n)(hn:n<W.length)(q:Q (some (LT (kas_item W.toArray n) (kas_item W.toArray (n-1)))) st s):kasC (model prog w) A E (ltAt' (P.length+n) (P.length+n-1)) Q st s:=by
 rw[show P.length+n-1=P.length+(n-1)by omega]
 exact qK hl O hk ha hn (by omega) q
theorem lt2(hl:rD prog w A E s κ LT X)(O:Od LT X W){st:SortSt}{n:Nat}{Q:Option Bool->SortSt->Shared->Prop}(hk:Rows.kindOf st=κ)(ha:(arrOf st).toList=P++W)(h1:1<=n)(hn:n<W.length)(q:Q (some (LT (kas_item W.toArray (n-1)) (kas_item W.toArray n))) st s):kasC (model prog w) A E (ltAt' (P.length+n-1) (P.length+n)) Q st s:=by
 rw[show P.length+n-1=P.length+(n-1)by omega]
 exact qK hl O hk ha (by omega) hn q
theorem rB(O:Od LT X W){st:SortSt}{f:Nat->Option (Option Nat)×Nat->StateT SortSt Sem (ForInStep (Option (Option Nat)×Nat))}
  (hf:∀x n,1<=n->n<W.length->∀R:_->SortSt->Shared->Prop,R (if LT (kas_item W.toArray n) (kas_item W.toArray (n-1))=true then .done (none,n)else .yield (none,n+1)) st s->kasC (model prog w) A E (f x (none,n)) R st s)
  {l:List Nat} {n:Nat} (hl:l.length+n=W.length) (h1:1<=n) (ha:dA LT (W.take n)) {Q:_->SortSt->Shared->Prop}
  (q:∀m,n<=m->m<=W.length->dA LT (W.take m)->(m=W.length\/LT (kas_item W.toArray m) (kas_item W.toArray (m-1))=true)->Q (none,m) st s):kasC (model prog w) A E (forIn l (none,n) f) Q st s:=by
 refine cI (fun k b st'=>st'=st/\∃m,b=(none,m)/\n<=m/\k+m=W.length/\dA LT (W.take m)) (fun x k b st' h=>?_) (fun b st' h=>?_) l _ _ ⟨rfl,n,rfl,Nat.le_refl _,hl,ha⟩
 ·obtain⟨rfl,m,rfl,a1,a2,a3⟩:=h
  refine hf x m (by omega) (by omega) _ ?_
  cases hc:LT (kas_item W.toArray m) (kas_item W.toArray (m-1))with
  |true=>rw[if_pos rfl];exact q m a1 (by omega) a3 (.inr hc)
  |false=>
   rw[if_neg (by decide)]
   exact⟨⟨rfl,m+1,rfl,by omega,by omega,O.asc (by omega) (by omega) a3 (O.tot (by omega) (by omega) (by omega) hc)⟩,rfl⟩
 ·obtain⟨rfl,m,rfl,a1,a2,a3⟩:=h
  exact q m a1 (by omega) a3 (.inl (by omega))
theorem wU{arr:Array Keyed}{n:Nat}(ha:arr.toList=P++W)(hn:n<=W.length):(mirror arr P.length (P.length+n) ((P.length+n-P.length) / 2)).toList=P++((W.take n).reverse++W.drop n):=by
 have hz:arr.size=P.length+W.length:=by rw[<-Array.length_toList,ha,List.length_append]
 refine List.ext_getElem? fun k=>?_
 have h:=getElem?_mirror_all (xs:=arr) (i:=P.length) (j:=P.length+n) (by omega) k
 rw[Array.getElem?_toList,h]
 by_cases c1:k<P.length
 ·rw[if_neg (by omega),<-Array.getElem?_toList,ha,List.getElem?_append_left c1,List.getElem?_append_left c1]
 ·by_cases c2:k<P.length+n
  ·have lt:((W.take n).reverse).length=n:=by simp;omega
   rw[if_pos (by omega),<-Array.getElem?_toList,ha,List.getElem?_append_right (by omega),List.getElem?_append_right (by omega),List.getElem?_append_left (by omega),List.getElem?_reverse (by rw[List.length_take];omega),List.getElem?_take,List.length_take,if_pos (by omega)]
   congr 1
   omega
  ·have lt:((W.take n).reverse).length=n:=by simp;omega
   rw[if_neg (by omega),<-Array.getElem?_toList,ha,List.getElem?_append_right (by omega),List.getElem?_append_right (by omega),List.getElem?_append_right (by omega),List.getElem?_drop,lt]
   congr 1
   omega
end
section
variable{prog:Program}{w:World}{A:Around}{E:Value->Shared->Prop}{s:Shared}{κ:SortKind}{LT:Keyed->Keyed->Bool}{X:Keyed->Prop}{P W:List Keyed}
theorem EJ(hl:rD prog w A E s κ LT X)(O:Od LT X W){st:SortSt}{Q:Option Nat->SortSt->Shared->Prop}(hk:Rows.kindOf st=κ)(ha:(arrOf st).toList=P++W)(h1:1<=W.length)
  (q:∀n W' arr,1<=n->n<=W.length->arr.toList=P++W'->W'.Perm W->dA LT (W'.take n)->Q (some n) (setArr st arr) s):kasC (model prog w) A E (countRun' P.length W.length) Q st s:=by
 have one:dA LT (W.take 1):=by rw[gZ (by omega)];exact List.pairwise_singleton _ _
 refine kasC_bind (kasC_range (rB O (fun x n a1 a2 R hR=>?_) (by rw[List.length_range'];omega) (Nat.le_refl 1) one fun m m1 m2 m3 m4=>?_))
 ·refine kasC_bind (lt1 hl O hk ha a1 a2 ?_)
  dsimp only
  cases hc:LT (kas_item W.toArray n) (kas_item W.toArray (n-1))with
  |true=>rw[hc]at hR;exact kasC_pure hR
  |false=>rw[hc]at hR;exact kasC_pure hR
 dsimp only
 by_cases e1:(m == W.length)=true
 ·rw[if_pos e1]
  exact kasC_pure (q m W (arrOf st) m1 m2 ha (.refl _) m3)
 rw[if_neg e1]
 have e1':=gf e1
 have d1:LT (kas_item W.toArray m) (kas_item W.toArray (m-1))=true:=by
  rcases m4 with z|z
  ·omega
  ·exact z
 by_cases e2:m>1
 ·rw[if_pos e2]
  refine kasC_bind ?_
  have r0:LT (kas_item W.toArray 0) (kas_item W.toArray (m-1))=true:=by
   have:=ia (l:=W.take m) m3 (i:=0) (j:=m-1) (by omega) (by rw[List.length_take];omega)
   rwa[cL (by omega),cL (by omega)]at this
  have:=qK (A:=A) (E:=E) (P:=P) (i:=0) (j:=m-1) (Q:=fun a st' s'=>a=some true/\st'=st/\s'=s) hl O hk ha (by omega) (by omega) ⟨by rw[r0],rfl,rfl⟩
  rw[Nat.add_zero,show P.length+(m-1)=P.length+m-1 by omega]at this
  refine bI this ?_
  rintro a st' s' ⟨rfl,rfl,rfl⟩
  dsimp only
  rw[if_pos rfl]
  exact kasC_pure (q m W (arrOf st') m1 m2 ha (.refl _) m3)
 rw[if_neg e2]
 have em:m=1:=by omega
 subst em
 have d2:EV LT (W.take (1+1)):=O.dsc (Nat.le_refl 1) (by omega) (by rw[gZ (by omega)];exact List.pairwise_singleton _ _) d1
 refine kasC_bind (kasC_lift (wpAny_rule ?_))
 refine kasC_bind (kasC_range (bI (Q':=fun b st' s'=>st'=st/\s'=s/\∃n,b=(none,n,0)/\2<=n/\n<=W.length/\EV LT (W.take n)) (cI (fun k b st'=>st'=st/\∃n,b=(none,n,0)/\2<=n/\k+n=W.length/\EV LT (W.take n)) (fun x k b st' h=>?_) (fun b st' h=>?_) _ _ _ ⟨rfl,2,rfl,Nat.le_refl _,by rw[List.length_range'];omega,d2⟩) ?_))
 ·obtain⟨rfl,n,rfl,a1,a2,a3⟩:=h
  dsimp only
  refine kasC_bind (lt1 hl O hk ha (show 1<=n by omega) (show n<W.length by omega) ?_)
  dsimp only
  cases hc:LT (kas_item W.toArray n) (kas_item W.toArray (n-1))with
  |true=>
   rw[if_pos rfl,if_neg (by omega)]
   exact kasC_pure ⟨⟨rfl,n+1,rfl,by omega,by omega,O.dsc (by omega) (by omega) a3 hc⟩,rfl⟩
  |false=>
   rw[if_neg (by decide)]
   refine kasC_bind (lt2 hl O hk ha (show 1<=n by omega) (show n<W.length by omega) ?_)
   rw[O.tot (by omega) (by omega) (by omega) hc]
   exact kasC_pure ⟨rfl,rfl,n,rfl,a1,by omega,a3⟩
 ·obtain⟨rfl,n,rfl,a1,a2,a3⟩:=h
  exact⟨rfl,rfl,n,rfl,a1,by omega,a3⟩
 ·rintro b st' s' ⟨rfl,rfl,n,rfl,a1,a2,a3⟩
  dsimp only
  rw[if_neg (by omega)]
  refine kasC_bind (kasC_modify ?_)
  have hp:((W.take n).reverse++W.drop n).Perm W:=by
   refine(List.Perm.append_right _ (List.reverse_perm _)).trans ?_
   rw[List.take_append_drop]
  have ln:((W.take n).reverse++W.drop n).length=W.length:=hp.length_eq
  have tk:((W.take n).reverse++W.drop n).take n=(W.take n).reverse:=by
   rw[List.take_append_of_le_length (by simp;omega),List.take_of_length_le (by simp;omega)]
  have a0:dA LT (((W.take n).reverse++W.drop n).take n):=by rw[tk];exact List.pairwise_reverse.mpr a3
  have hr:=wU (n:=n) ha a2
  refine kasC_bind (kasC_range (rB (O.perm hp) (fun x n a1 a2 R hR=>?_) (n:=n) (by rw[List.length_range',ln];omega) (by omega) a0 fun m m1 m2 m3 m4=>?_))
  ·refine kasC_bind (lt1 hl (O.perm hp) hk hr a1 a2 ?_)
   dsimp only
   cases hc:LT (kas_item ((W.take _).reverse++W.drop _).toArray n) (kas_item ((W.take _).reverse++W.drop _).toArray (n-1))with
   |true=>rw[hc]at hR;exact kasC_pure hR
   |false=>rw[hc]at hR;exact kasC_pure hR
  ·exact kasC_pure (q m _ _ (by omega) (by rw[<-ln];exact m2) hr hp m3)
end
section
variable{M:Model}{A:Around}{E:Value->Shared->Prop}{σ:Type}
theorem q0{β:Type}{f:Nat->β->StateT σ Sem (ForInStep β)}{Q:β->σ->Shared->Prop}{s:Shared}{e:Nat}(I:Nat->β->σ->Prop)
  (step:∀x b st,x<e->I x b st->kasC M A E (f x b) (fun r st' s'=>match r with|.done b'=>Q b' st' s'|.yield b'=>I (x+1) b' st'/\s'=s) st s)
  (fin:∀b st,I e b st->Q b st s):∀(n a:Nat) (b:β) (st:σ),a+n=e->I a b st->kasC M A E (forIn (List.range' a n) b f) Q st s
 |0,a,b,st,ha,h=>by
  have:a=e:=by omega
  subst this
  exact kasC_nil (fin b st h)
 |n+1,a,b,st,ha,h=>by
  rw[List.range'_succ]
  refine kasC_cons ?_
  have:=step a b st (by omega) h
  unfold kasC at this ⊢
  refine wpAny_mono this (fun r s' h'=>?_) fun _ _ e=>e
  obtain⟨r,st'⟩:=r
  cases r with
  |done b'=>exact h'
  |yield b'=>
   obtain⟨h1,rfl⟩:=h'
   exact q0 I step fin n (a+1) b' st' (by omega) h1
end
section
variable{prog:Program}{w:World}{A:Around}{E:Value->Shared->Prop}{s:Shared}{κ:SortKind}{LT:Keyed->Keyed->Bool}{X:Keyed->Prop}{P W:List Keyed}
def y6(W:List Keyed)(k l:Nat):List Keyed:=W.take l++(kas_item W.toArray k::((W.take k).drop l++W.drop (k+1)))
theorem xV{k l:Nat}(hk:k<W.length)(hl:l<=k):(y6 W k l).Perm W:=by
 have e:W=W.take l++((W.take k).drop l++(kas_item W.toArray k::W.drop (k+1))):=by
  have h1:=jv (l:=W) hl
  have h2:=fY (l:=W.toArray) (i:=k) (by simpa using hk)
  rw[<-List.append_assoc,h1]
  simp only at h2
  rw[<-h2,List.take_append_drop]
 refine List.Perm.trans ?_ (List.Perm.of_eq e.symm)
 exact List.Perm.append_left _ List.perm_middle.symm
theorem A8(O:Od LT X W){k l:Nat}(hk:k<W.length)(hl:l<=k)(ha:dA LT (W.take k))(h1:∀t,t<l->LT (kas_item W.toArray t) (kas_item W.toArray k)=true)(h2:∀t,l<=t->t<k->LT (kas_item W.toArray k) (kas_item W.toArray t)=true):dA LT ((y6 W k l).take (k+1)):=by
 have e:(y6 W k l).take (k+1)=W.take l++(kas_item W.toArray k::(W.take k).drop l):=by
  have z:y6 W k l=(W.take l++(kas_item W.toArray k::(W.take k).drop l))++W.drop (k+1):=by unfold y6;simp
  rw[z]
  exact List.take_left' (by simp;omega)
 rw[e]
 obtain⟨c1,c2⟩:=pM ha (i:=k) hl
 rw[List.take_take,Nat.min_self]at c1
 simp only[List.take_take,Nat.min_self,Nat.min_eq_left hl]at c2
 refine List.pairwise_append.mpr ⟨?_,List.pairwise_cons.mpr ⟨fun y hy=>?_,c1⟩,fun x hx y hy=>?_⟩
 ·have:=List.Pairwise.sublist (List.take_sublist l _) ha
  rwa[List.take_take,Nat.min_eq_left hl]at this
 ·obtain⟨t,t1,t2,t3,rfl⟩:=u7 (l:=W.toArray) hy
  exact h2 t t1 t2
 ·rcases List.mem_cons.mp hy with rfl|hy
  ·obtain⟨t,t1,t2,rfl⟩:=ip hx
   exact h1 t t1
  ·exact c2 x hx y hy
theorem yp{arr:Array Keyed}{k l:Nat}(ha:arr.toList=P++W)(hk:k<W.length)(hl:l<=k):(bubble arr (P.length+k) (P.length+k-(P.length+l))).toList=P++y6 W k l:=by
 have hz:arr.size=P.length+W.length:=by rw[<-Array.length_toList,ha,List.length_append]
 have gW:∀t,arr[P.length+t]?=W[t]?:=fun t=>by rw[<-Array.getElem?_toList,ha,List.getElem?_append_right (by omega),Nat.add_sub_cancel_left]
 have ik:W[k]?=some (kas_item W.toArray k):=by
  have:=bB (l:=W.toArray) (i:=k) (by simpa using hk)
  simpa using this
 refine List.ext_getElem? fun t=>?_
 have h:=getElem?_bubble (xs:=arr) (src:=P.length+k) (by omega) (P.length+k-(P.length+l)) (by omega) t
 rw[Array.getElem?_toList,h,show P.length+k-(P.length+k-(P.length+l))=P.length+l by omega]
 by_cases c1:t<P.length
 ·rw[if_neg (by omega),if_neg (by omega),<-Array.getElem?_toList,ha,List.getElem?_append_left c1,List.getElem?_append_left c1]
 obtain⟨u,rfl⟩:∃u,t=P.length+u:=⟨t-P.length,by omega⟩
 rw[List.getElem?_append_right (by omega),Nat.add_sub_cancel_left]
 unfold y6
 have lt:(W.take l).length=l:=by rw[List.length_take];omega
 by_cases c2:u=l
 ·subst c2
  rw[if_pos rfl,gW,ik,List.getElem?_append_right (by omega),lt,Nat.sub_self]
  rfl
 rw[if_neg (by omega)]
 by_cases c3:u<l
 ·rw[if_neg (by omega),gW,List.getElem?_append_left (by omega),List.getElem?_take,if_pos c3]
 obtain⟨v,rfl⟩:∃v,u=l+(v+1):=⟨u-l-1,by omega⟩
 rw[List.getElem?_append_right (by omega),lt,Nat.add_sub_cancel_left,List.getElem?_cons_succ]
 have ld:((W.take k).drop l).length=k-l:=by rw[List.length_drop,List.length_take];omega
 by_cases c4:l+(v+1)<=k
 ·rw[if_pos (by omega),show P.length+(l+(v+1))-1=P.length+(l+v)by omega,gW,List.getElem?_append_left (by omega),List.getElem?_drop,List.getElem?_take,if_pos (by omega)]
 ·rw[if_neg (by omega),gW,List.getElem?_append_right (by omega),ld,List.getElem?_drop]
  congr 1
  omega
theorem yq(hl:rD prog w A E s κ LT X)(O:Od LT X W){st:SortSt}{n ok:Nat}{Q:Bool->SortSt->Shared->Prop}(hk:Rows.kindOf st=κ)(ha:(arrOf st).toList=P++W)(h1:1<=ok)(hn:ok<=n)(hw:n<=W.length)(h2:dA LT (W.take ok))
  (q:∀W' arr,arr.toList=P++W'->W'.Perm W->dA LT (W'.take n)->Q true (setArr st arr) s):kasC (model prog w) A E (binarySort' P.length n ok) Q st s:=by
 refine kasC_bind (kasC_range (q0 (e:=n) (fun x b st'=>b=(none,())/\∃W' arr,st'=setArr st arr/\arr.toList=P++W'/\W'.Perm W/\dA LT (W'.take x)) (fun x b st' hx h=>?_) (fun b st' h=>?_) _ _ _ _ (by omega) ⟨rfl,W,arrOf st,rfl,ha,.refl _,by rw[show max ok 1=ok by omega];exact h2⟩))
 ·obtain⟨rfl,W',arr,rfl,b1,b2,b3⟩:=h
  dsimp only
  have O':=O.perm b2
  have xl:x<W'.length:=by rw[b2.length_eq];omega
  have as:∀i j,i<j->j<x->LT (kas_item W'.toArray i) (kas_item W'.toArray j)=true:=fun i j hij hj=>by
   have:=ia (l:=W'.take x) b3 (i:=i) (j:=j) hij (by rw[List.length_take];omega)
   rwa[cL (by omega),cL hj]at this
  refine kasC_bind (kasC_range (bI (Q':=fun c st' s'=>st'=setArr st arr/\s'=s/\∃l r,c=(none,l,r)/\l<=x/\(∀t,t<l->LT (kas_item W'.toArray t) (kas_item W'.toArray x)=true)/\∀t,l<=t->t<x->LT (kas_item W'.toArray x) (kas_item W'.toArray t)=true)
   (cI (fun k c st'=>st'=setArr st arr/\∃l r,c=(none,l,r)/\l<=r/\r<=x/\r-l<=k/\(∀t,t<l->LT (kas_item W'.toArray t) (kas_item W'.toArray x)=true)/\∀t,r<=t->t<x->LT (kas_item W'.toArray x) (kas_item W'.toArray t)=true) (fun y k c st' h=>?_) (fun c st' h=>?_) _ _ _ ⟨rfl,0,x,rfl,Nat.zero_le _,Nat.le_refl _,by rw[List.length_range'];omega,fun t ht=>by omega,fun t a b=>by omega⟩) ?_))
  ·obtain⟨rfl,l,r,rfl,c1,c2,c3,c4,c5⟩:=h
   dsimp only
   by_cases e:l≥r
   ·rw[if_pos e]
    exact kasC_pure ⟨rfl,rfl,l,r,rfl,by omega,c4,fun t a b=>c5 t (by omega) b⟩
   rw[if_neg e]
   have ml:(l+r) / 2<x:=by omega
   refine kasC_bind (qK hl O' hk b1 xl (show(l+r) / 2<W'.length by omega) ?_)
   dsimp only
   cases hc:LT (kas_item W'.toArray x) (kas_item W'.toArray ((l+r) / 2))with
   |true=>
    refine kasC_pure ⟨⟨rfl,l,(l+r) / 2,rfl,by omega,by omega,by omega,c4,fun t a b=>?_⟩,rfl⟩
    by_cases e2:t=(l+r) / 2
    ·subst e2;exact hc
    ·exact O'.tr (O'.xx _ (im xl)) (O'.xx _ (im (by omega))) (O'.xx _ (im (by omega))) hc (as _ t (by omega) b)
   |false=>
    have hc':=O'.tot xl (show(l+r) / 2<W'.length by omega) (by omega) hc
    refine kasC_pure ⟨⟨rfl,(l+r) / 2+1,r,rfl,by omega,by omega,by omega,fun t a=>?_,c5⟩,rfl⟩
    by_cases e2:t=(l+r) / 2
    ·subst e2;exact hc'
    ·exact O'.tr (O'.xx _ (im (by omega))) (O'.xx _ (im (by omega))) (O'.xx _ (im xl)) (as t _ (by omega) ml) hc'
  ·obtain⟨rfl,l,r,rfl,c1,c2,c3,c4,c5⟩:=h
   exact⟨rfl,rfl,l,r,rfl,by omega,c4,fun t a b=>c5 t (by omega) b⟩
  ·rintro c st' s' ⟨rfl,rfl,l,r,rfl,c1,c2,c3⟩
   refine kasC_bind (kasC_modify (kasC_pure ⟨⟨rfl,y6 W' x l,_,rfl,yp b1 xl c1,(xV xl c1).trans b2,A8 O' xl c1 b3 c2 c3⟩,rfl⟩))
 ·obtain⟨rfl,W',arr,rfl,b1,b2,b3⟩:=h
  exact kasC_pure (q W' arr b1 b2 b3)
end
section
variable{prog:Program}{w:World}{A:Around}{E:Value->Shared->Prop}{s:Shared}{κ:SortKind}{LT:Keyed->Keyed->Bool}{X:Keyed->Prop}{W:List Keyed}
abbrev Rn:=List (List Keyed×Nat)
def ef:Nat->Rn->List (Nat×Nat×Nat)
 |_,[]=>[]
 |o,r::Rs=>(o,r.1.length,r.2)::ef (o+r.1.length) Rs
def flR(Rs:Rn):List Keyed:=Rs.flatMap (·.1)
theorem jy:∀(Rs:Rn) (o:Nat),(ef o Rs).length=Rs.length
 |[],_=>rfl
 |r::Rs,o=>by rw[ef,List.length_cons,List.length_cons,jy Rs]
theorem fj:∀(Rs Ss:Rn) (o:Nat),ef o (Rs++Ss)=ef o Rs++ef (o+(flR Rs).length) Ss
 |[],Ss,o=>rfl
 |r::Rs,Ss,o=>by
  rw[List.cons_append,ef,ef,List.cons_append,fj Rs Ss]
  unfold flR
  rw[List.flatMap_cons,List.length_append,Nat.add_assoc]
theorem iS(Rs Ss:Rn):flR (Rs++Ss)=flR Rs++flR Ss:=List.flatMap_append
structure RI(LT:Keyed->Keyed->Bool)(l0:List Keyed)(κ:SortKind)(Rs:Rn)(W:List Keyed)(st:SortSt):Prop where
 kd:Rows.kindOf st=κ
 fl:failedOf st=none
 ar:(arrOf st).toList=flR Rs++W
 pe:(pendingOf st).toList=ef 0 Rs
 pm:(flR Rs++W).Perm l0
 as:∀r∈Rs,dA LT r.1/\0<r.1.length
theorem Od.nb{l0 R1 R2 B C:List Keyed}(O:Od LT X l0)(h:(B++(R1++(R2++C))).Perm l0)(n1:0<R1.length)(n2:0<R2.length)(a1:dA LT R1)(a2:dA LT R2):Nb LT X R1 R2:=by
 have O':=O.perm h
 have m1:∀x∈R1,x∈B++(R1++(R2++C)):=fun x hx=>List.mem_append_right _ (List.mem_append_left _ hx)
 have m2:∀x∈R2,x∈B++(R1++(R2++C)):=fun x hx=>List.mem_append_right _ (List.mem_append_right _ (List.mem_append_left _ hx))
 have pw:=(List.pairwise_append.mp (List.pairwise_append.mp O'.pw).2.1).2.2
 refine⟨n1,n2,a1,a2,fun x hx=>O'.xx x (m1 x hx),fun x hx=>O'.xx x (m2 x hx),O.tr,fun x hx y hy h=>O.asym (O'.xx x (m1 x hx)) (O'.xx y (m2 y hy)) h,fun x hx y hy h=>?_⟩
 rcases pw x hx y (List.mem_append_left _ hy)with z|z
 ·exact z
 ·rw[h]at z;cases z
theorem Ak(hl:rD prog w A E s κ LT X){l0:List Keyed}(O:Od LT X l0){Rs Ss:Rn}{r1 r2:List Keyed×Nat}{st:SortSt}{Q:Bool->SortSt->Shared->Prop}(I:RI LT l0 κ (Rs++r1::r2::Ss) W st)
  (q:∀R st',RI LT l0 κ (Rs++(R,r1.2)::Ss) W st'->Q true st' s):kasC (model prog w) A E (mergeAt' Rs.length) Q st s:=by
 have e0:flR (Rs++r1::r2::Ss)++W=flR Rs++(r1.1++(r2.1++(flR Ss++W))):=by
  rw[iS]
  unfold flR
  rw[List.flatMap_cons,List.flatMap_cons]
  simp only[List.append_assoc]
 have pe:=I.pe
 rw[fj,ef,ef,Nat.zero_add]at pe
 have lp:(ef 0 Rs).length=Rs.length:=jy _ _
 obtain⟨a1,n1⟩:=I.as r1 (by simp)
 obtain⟨a2,n2⟩:=I.as r2 (by simp)
 refine D7 hl (O.nb (B:=flR Rs) (C:=flR Ss++W) (by rw[<-e0];exact I.pm) n1 n2 a1 a2) (P:=flR Rs) (S:=flR Ss++W) I.kd I.fl (by rw[I.ar,e0]) (pw:=r1.2) (pw2:=r2.2) (by rw[<-Array.getElem?_toList,pe,<-lp,List.getElem?_append_right (Nat.le_refl _),Nat.sub_self];rfl) (by rw[<-Array.getElem?_toList,pe,<-lp,List.getElem?_append_right (by omega),Nat.add_sub_cancel_left];rfl) fun R arr g h1 h2 h3=>?_
 have e1:flR (Rs++(R,r1.2)::Ss)++W=flR Rs++(R++(flR Ss++W)):=by
  rw[iS]
  unfold flR
  rw[List.flatMap_cons]
  simp only[List.append_assoc]
 refine q R _ ⟨rfl,rfl,by rw[e1];exact h1,?_,?_,fun r hr=>?_⟩
 ·show(((pendingOf st).setIfInBounds Rs.length _).eraseIdxIfInBounds (Rs.length+1)).toList=_
  rw[Array.toList_eraseIdxIfInBounds,Array.toList_setIfInBounds,pe,fj,ef,Nat.zero_add]
  have lR:=h2.length_eq
  rw[List.length_append]at lR
  conv=>lhs;rw[<-lp]
  rw[List.set_append_right _ _ (Nat.le_refl _),Nat.sub_self,List.eraseIdx_append_of_length_le (by omega),Nat.add_sub_cancel_left]
  simp only[List.set_cons_zero,List.eraseIdx_cons_succ,List.eraseIdx_cons_zero,lR,Nat.add_assoc]
 ·rw[e1]
  refine List.Perm.trans ?_ I.pm
  rw[e0]
  refine List.Perm.append_left _ ?_
  rw[<-List.append_assoc r1.1]
  exact List.Perm.append_right _ h2
 ·rcases List.mem_append.mp hr with hr|hr
  ·exact I.as r (List.mem_append_left _ hr)
  ·rcases List.mem_cons.mp hr with rfl|hr
   ·exact⟨h3,by rw[h2.length_eq,List.length_append];omega⟩
   ·exact I.as r (List.mem_append_right _ (List.mem_cons_of_mem _ (List.mem_cons_of_mem _ hr)))
end
section
variable{prog:Program}{w:World}{A:Around}{E:Value->Shared->Prop}{s:Shared}{κ:SortKind}{LT:Keyed->Keyed->Bool}{X:Keyed->Prop}
theorem RI.size{l0 W:List Keyed}{Rs:Rn}{st:SortSt}(I:RI LT l0 κ Rs W st):(pendingOf st).size=Rs.length:=by
 rw[<-Array.length_toList,I.pe,jy]
theorem RI.few{l0 W:List Keyed}{Rs:Rn}{st:SortSt}(I:RI LT l0 κ Rs W st):Rs.length<=(flR Rs).length:=by
 have as:=I.as
 clear I
 induction Rs with
 |nil=>exact Nat.zero_le _
 |cons r Rs ih=>
  have h1:=(as r List.mem_cons_self).2
  have h2:=ih fun x hx=>as x (List.mem_cons_of_mem _ hx)
  unfold flR at h2 ⊢
  rw[List.flatMap_cons,List.length_append,List.length_cons]
  omega
theorem yR(hl:rD prog w A E s κ LT X){l0 W:List Keyed}(O:Od LT X l0){Rs:Rn}{st:SortSt}{i:Nat}{Q:Bool->SortSt->Shared->Prop}(I:RI LT l0 κ Rs W st)(hi:i+1<Rs.length)
  (q:∀Rs' st',RI LT l0 κ Rs' W st'->Rs'.length+1=Rs.length->Q true st' s):kasC (model prog w) A E (mergeAt' i) Q st s:=by
 obtain⟨As,r1,r2,Bs,e,hA⟩:∃As r1 r2 Bs,Rs=As++r1::r2::Bs/\As.length=i:=by
  refine⟨Rs.take i,Rs[i],Rs[i+1],Rs.drop (i+2),?_,by rw[List.length_take];omega⟩
  conv=>lhs;rw[<-List.take_append_drop i Rs]
  rw[List.drop_eq_getElem_cons (by omega),List.drop_eq_getElem_cons hi]
 subst e
 rw[<-hA]
 refine Ak hl O I fun R st' I'=>q _ st' I' ?_
 simp only[List.length_append,List.length_cons]
 omega
theorem qI{α:Type}(f:α->α)(x:α):∀l:List α,(l++[x]).modify l.length f=l++[f x]
 |[]=>rfl
 |a::l=>by
  have:=qI f x l
  rw[List.cons_append,List.length_cons,List.modify_succ_cons,this];rfl
theorem RI.arr{l0 W W':List Keyed}{Rs:Rn}{st:SortSt}{arr:Array Keyed}(I:RI LT l0 κ Rs W st)(h1:arr.toList=flR Rs++W')(h2:W'.Perm W):RI LT l0 κ Rs W' (setArr st arr):=⟨I.kd,I.fl,h1,I.pe,(List.Perm.append_left _ h2).trans I.pm,I.as⟩
theorem RI.push{l0 W:List Keyed}{Rs:Rn}{st:SortSt}{n lo:Nat}(I:RI LT l0 κ Rs W st)(hlo:lo=(flR Rs).length)(h1:1<=n)(hn:n<=W.length)(ha:dA LT (W.take n)):RI LT l0 κ (Rs++[(W.take n,0)]) (W.drop n) (setPending st ((pendingOf st).push (lo,n,0))):=by
 have e:flR (Rs++[(W.take n,0)])++W.drop n=flR Rs++W:=by
  rw[iS,List.append_assoc]
  simp[flR]
 refine⟨I.kd,I.fl,by rw[e];exact I.ar,?_,by rw[e];exact I.pm,fun r hr=>?_⟩
 ·show((pendingOf st).push (lo,n,0)).toList=_
  rw[Array.toList_push,I.pe,fj,ef,ef,hlo,Nat.zero_add,List.length_take,Nat.min_eq_left hn]
 ·rcases List.mem_append.mp hr with hr|hr
  ·exact I.as r hr
  ·rw[List.mem_singleton.mp hr]
   exact⟨ha,by rw[List.length_take];omega⟩
theorem RI.pow{l0 W:List Keyed}{Rs:Rn}{r:List Keyed×Nat}{st:SortSt}{pw:Nat}(I:RI LT l0 κ (Rs++[r]) W st):RI LT l0 κ (Rs++[(r.1,pw)]) W (setPending st ((pendingOf st).modify ((pendingOf st).size-1) fun x=>(x.1,x.2.1,pw))):=by
 have e:flR (Rs++[(r.1,pw)])=flR (Rs++[r]):=by rw[iS,iS];simp[flR]
 refine⟨I.kd,I.fl,by rw[e];exact I.ar,?_,by rw[e];exact I.pm,fun x hx=>?_⟩
 ·show((pendingOf st).modify ((pendingOf st).size-1) fun x=>(x.1,x.2.1,pw)).toList=_
  have sz:=I.size
  rw[List.length_append,List.length_singleton]at sz
  have lp:(ef 0 Rs).length=Rs.length:=jy _ _
  rw[Array.toList_modify,I.pe,sz,Nat.add_sub_cancel,fj,fj,ef,ef,ef,ef,<-lp]
  rw[qI]
 ·rcases List.mem_append.mp hx with hx|hx
  ·exact I.as x (List.mem_append_left _ hx)
  ·rw[List.mem_singleton.mp hx]
   exact I.as r (List.mem_append_right _ List.mem_cons_self)
theorem y0{α:Type}(l:List α):l=[]\/∃a b,l=a++[b]:=by
 rcases List.eq_nil_or_concat l with h|⟨a,b,h⟩
 ·exact .inl h
 ·rw[List.concat_eq_append]at h;exact .inr ⟨a,b,h⟩
theorem RI.back0{l0 W:List Keyed}{st:SortSt}(I:RI LT l0 κ [] W st):(pendingOf st).back?=none:=by
 have:=I.pe
 rw[<-Array.getLast?_toList,this];rfl
theorem RI.back{l0 W:List Keyed}{Rs:Rn}{r:List Keyed×Nat}{st:SortSt}(I:RI LT l0 κ (Rs++[r]) W st):∃s1 n1 p1,(pendingOf st).back?=some (s1,n1,p1):=by
 have:=I.pe
 rw[fj,ef,ef]at this
 exact⟨_,_,_,by rw[<-Array.getLast?_toList,this,List.getLast?_concat]⟩
theorem RI.len{l0 W:List Keyed}{Rs:Rn}{st:SortSt}(I:RI LT l0 κ Rs W st):(flR Rs).length+W.length=l0.length:=by
 rw[<-List.length_append];exact I.pm.length_eq
theorem yV{Rs:Rn}{W:List Keyed}{m:Nat}(h:m<=W.length):(flR (Rs++[(W.take m,0)])).length=(flR Rs).length+m:=by
 rw[iS,List.length_append]
 congr 1
 simp[flR]
 omega
theorem Aj (hl : rD prog w A E s κ LT X) {l0 : List Keyed} (O : Od LT X l0) {st : SortSt} {Q : Unit -> SortSt -> Shared -> Prop} (hk : Rows.kindOf st = κ) (hf : failedOf st = none) (ha : (arrOf st).toList = l0) (hp : pendingOf st = #[]) (n0 : 0 < l0.length)
    (q:∀st' R,failedOf st'=none->(arrOf st').toList=R->R.Perm l0->dA LT R->Q () st' s):kasC (model prog w) A E sortRuns' Q st s:=by
  have hz:(arrOf st).size=l0.length:=by rw[<-Array.length_toList,ha]
  rw[sortRuns'_eq]
  refine kasC_bind (kasC_get ?_)
  dsimp only
  rw[hz]
  refine kasC_bind (kasC_range (bI (Q':=fun c st' s'=>s'=s/\∃Rs,RI LT l0 κ Rs [] st'/\∃lo,c=(none,lo)) (cI (fun k c st'=>∃Rs W,RI LT l0 κ Rs W st'/\W.length<=k/\c=(none,(flR Rs).length)) (fun x k c st' h=>?_) (fun c st' h=>?_) _ _ _ ⟨[],l0,⟨hk,hf,by rw[ha];rfl,by rw[hp];rfl,.refl _,fun r hr=>by cases hr⟩,by rw[List.length_range'];omega,rfl⟩) ?_))
  · obtain⟨Rs,W,I,hw,rfl⟩:=h
    have hs:(flR Rs).length+W.length=l0.length:=by rw[<-List.length_append];exact I.pm.length_eq
    dsimp only
    by_cases e:(flR Rs).length≥l0.length
    · rw[if_pos e]
      have:W=[]:=List.eq_nil_of_length_eq_zero (by omega)
      subst this
      exact kasC_pure ⟨rfl,Rs,I,_,rfl⟩
    rw[if_neg e]
    have OW:Od LT X W:=by
      have:=O.perm I.pm
      exact⟨fun x hx=>this.xx x (List.mem_append_right _ hx),this.tr,this.asym,(List.pairwise_append.mp this.pw).2.1⟩
    rw[show l0.length-(flR Rs).length=W.length by omega]
    refine kasC_bind (EJ hl OW I.kd I.ar (by omega) (fun n W1 arr1 b1 b2 b3 b4 b5=>?_))
    dsimp only
    by_cases em:n<minRun' l0.length l0.length 0
    all_goals first|rw[if_pos em]|rw[if_neg em]
    all_goals first
      | (refine kasC_bind (kasC_lift (wpAny_rule ?_))
         refine kasC_bind (yq (st:=setArr st' arr1) hl (OW.perm b4) I.kd b3 b1 (show n<=min W.length (minRun' l0.length l0.length 0)by omega) (by rw[b4.length_eq];omega) b5 (fun W2 arr2 c1 c2 c3=>?_))
         rw[if_neg (by decide)]
         have I1:RI LT l0 κ Rs W2 (setArr st' arr2):=I.arr c1 (c2.trans b4)
         have l2:W2.length=W.length:=(c2.trans b4).length_eq
         have n1:1<=min W.length (minRun' l0.length l0.length 0):=by omega
         have n2:min W.length (minRun' l0.length l0.length 0)<=W2.length:=by omega
         change kasC _ _ _ _ _ (setArr st' arr2) _
         generalize min W.length (minRun' l0.length l0.length 0)=m at c3 n1 n2 ⊢)
      | (have I1 : RI LT l0 κ Rs W1 (setArr st' arr1) := I.arr b3 b4
         have l2:W1.length=W.length:=b4.length_eq
         have c3:=b5
         have n1:=b1
         have n2:n<=W1.length:=by omega
         generalize W1=W2 at I1 l2 c3 n2
         generalize n=m at c3 n1 n2 ⊢
         generalize arr1=arr2 at I1 ⊢)
    all_goals
      generalize setArr st' arr2=st1 at I1 ⊢
      refine kasC_bind (kasC_get ?_)
      rcases y0 Rs with rfl|⟨Rs0,r,rfl⟩
      · rw[I1.back0]
        exact kasC_bind (kasC_modify (kasC_pure ⟨⟨_,_,I1.push rfl n1 n2 c3,by rw[List.length_drop];omega,by rw[yV n2]⟩,rfl⟩))
      obtain⟨s1,p1,p2,hb⟩:=I1.back
      rw[hb]
      dsimp only
      refine kasC_bind (kasC_range (bI (Q':=fun c st2 s2=>s2=s/\c=(none,())/\∃Rs',RI LT l0 κ Rs' W2 st2/\0<Rs'.length) (cI (fun k c st2=>c=(none,())/\∃Rs',RI LT l0 κ Rs' W2 st2/\0<Rs'.length) (fun x k c st2 h=>?_) (fun c st2 h=>?_) _ _ _ ⟨rfl,_,I1,by simp⟩) ?_))
      · obtain⟨rfl,Rs',I2,hr⟩:=h
        refine kasC_bind (kasC_get ?_)
        rw[I2.size]
        by_cases e9:Rs'.length>1
        · rw[if_pos e9]
          cases hq:(pendingOf st2)[Rs'.length-2]? with
          |none=>exact kasC_pure ⟨rfl,rfl,Rs',I2,hr⟩
          | some o=>
            obtain⟨o1,o2,o3⟩:=o
            dsimp only
            split
            · exact kasC_pure ⟨rfl,rfl,Rs',I2,hr⟩
            · refine kasC_bind (yR hl O I2 (by omega) fun Rs2 st3 I3 h3=>?_)
              exact kasC_pure ⟨⟨rfl,Rs2,I3,by omega⟩,rfl⟩
        · rw[if_neg e9]
          exact kasC_pure ⟨rfl,rfl,Rs',I2,hr⟩
      · obtain⟨rfl,Rs',I2,hr⟩:=h
        exact⟨rfl,rfl,Rs',I2,hr⟩
      · rintro c st2 s2 ⟨rfl,rfl,Rs',I2,hr⟩
        rcases y0 Rs' with rfl|⟨Rs1,r',rfl⟩
        · cases hr
        dsimp only
        refine kasC_bind (kasC_modify ?_)
        have I3:=I2.pow (pw:=power' l0.length (2*s1+p1) (2*s1+p1+p1+m) l0.length)
        have z1:=I1.len
        have z3:=I3.len
        have I4:=I3.push (lo:=(flR (Rs0++[r])).length) (by omega) n1 n2 c3
        exact kasC_bind (kasC_modify (kasC_pure ⟨⟨_,_,I4,by rw[List.length_drop];omega,by rw[yV n2];congr 1;omega⟩,rfl⟩))
  · obtain⟨Rs,W,I,hw,rfl⟩:=h
    have:W=[]:=List.eq_nil_of_length_eq_zero (by omega)
    subst this
    exact⟨rfl,Rs,I,_,rfl⟩
  · rintro c st' s' ⟨rfl,Rs,I,lo,rfl⟩
    dsimp only
    have fw:=I.few
    have fz:(flR Rs).length=l0.length:=by have:=I.pm.length_eq;rwa[List.append_nil]at this
    refine kasC_bind (kasC_range (bI (Q':=fun c st' s2=>s2=s'/\c=(none,())/\∃Rs,RI LT l0 κ Rs [] st'/\Rs.length<=1) (cI (fun k c st'=>c=(none,())/\∃Rs,RI LT l0 κ Rs [] st'/\Rs.length<=k+1) (fun x k c st' h=>?_) (fun c st' h=>?_) _ _ _ ⟨rfl,Rs,I,by rw[List.length_range'];omega⟩) ?_))
    · obtain⟨rfl,Rs,I,hr⟩:=h
      refine kasC_bind (kasC_get ?_)
      rw[I.size]
      by_cases e:Rs.length<=1
      · rw[if_pos e]
        exact kasC_pure ⟨rfl,rfl,Rs,I,e⟩
      rw[if_neg e]
      have hi:∀(c:Prop) [Decidable c],(if c then Rs.length-2-1 else Rs.length-2)+1<Rs.length:=fun c _=>by split<;>omega
      refine kasC_bind (yR hl O I (hi _) fun Rs' st2 I' h'=>?_)
      exact kasC_pure ⟨⟨rfl,Rs',I',by omega⟩,rfl⟩
    · obtain⟨rfl,Rs,I,hr⟩:=h
      exact⟨rfl,rfl,Rs,I,by omega⟩
    · rintro c st' s2 ⟨rfl,rfl,Rs,I,hr⟩
      refine kasC_pure ?_
      cases Rs with
      |nil=>have:=I.pm.length_eq;simp[flR]at this;omega
      | cons r Rs=>
        have:Rs=[]:=List.eq_nil_of_length_eq_zero (by rw[List.length_cons]at hr;omega)
        subst this
        have e:flR [r]++[]=r.1:=by simp[flR]
        have pm:=I.pm
        have ar:=I.ar
        rw[e]at pm ar
        exact q _ r.1 I.fl ar pm (I.as r List.mem_cons_self).1
end
theorem xi{α β:Type}(g:α->β){l:List α}:∀{R M:List β},R.Perm M->M=l.map g->∃q:List α,q.Perm l/\R=q.map g:=fun{R M} h=>by
 induction h generalizing l with
 |nil=>
  intro e
  cases l with
  |nil=>exact⟨[],.refl _,rfl⟩
  |cons a l=>cases e
 |cons x _ ih=>
  intro e
  cases l with
  |nil=>cases e
  |cons a l=>
   injection e with e1 e2
   obtain⟨q,h1,h2⟩:=ih e2
   exact⟨a::q,h1.cons a,by rw[List.map_cons,<-h2,e1]⟩
 |swap x y t=>
  intro e
  cases l with
  |nil=>cases e
  |cons a l=>cases l with
   |nil=>cases e
   |cons b l=>
    injection e with e1 e2
    injection e2 with e2 e3
    exact⟨b::a::l,.swap _ _ _,by rw[List.map_cons,List.map_cons,e1,e2,e3]⟩
 |trans _ _ ih1 ih2=>
  intro e
  obtain⟨q,h1,h2⟩:=ih2 e
  obtain⟨q',h3,h4⟩:=ih1 h2
  exact⟨q',h3.trans h1,h4⟩
theorem GI{n:Nat}{q:List Nat}(h:q.Perm (List.range n)):Pm n q.toArray:=by
 have hl:q.length=n:=by rw[h.length_eq,List.length_range]
 have gd:∀i (hi:i<n),q.toArray.getD i 0=q[i]'(by omega):=fun i hi=>by simp[Array.getD,hl,hi]
 refine⟨by simpa using hl,fun i hi=>?_,fun i j hij hj=>?_⟩
 ·rw[gd i hi]
  exact List.mem_range.mp (h.mem_iff.mp (List.getElem_mem _))
 ·rw[gd i (by omega),gd j hj]
  exact fun e=>by have:=(List.getElem_inj (h.nodup_iff.mpr List.nodup_range)).mp e;omega
theorem kQ{prog:Program}{w:World}{A:Around}{E:Value->Shared->Prop}{s:Shared}{a:Addr}{vs:List Value}{n:Nat}{P:PySem.Fin->Shared->Prop}
  (g:s.heap.get? a=some (seqObj "list" vs.toArray n)) (h2:2<=vs.length) (hz:vs.length<=sizeLine)
  (ask:∀h':Heap,(∀b o,b≠a->s.heap.get? b=some o->h'.get? b=some o)->wpAny (model prog w) A (keyKind' vs.toArray) (fun κ s'=>s'={ s with heap:=h' }/\kasC (model prog w) A E sortRuns'
   (fun _ st s''=>s''={ s with heap:=h' }/\failedOf st=none/\(arrOf st).size=vs.length/\P (Fin.done (Flow.ret Value.none)) { s with heap:=sortedHeap s.heap a vs (Array.map (fun x=>x.snd) (arrOf st)) }) (SortSt.mk' κ (vs.toArray.zip vs.toArray) #[] 7 none) { s with heap:=h' }) E { s with heap:=h' }) :
  wpAny (model prog w) A (Builtin.«list.sort» { pos:=[Value.ref a] }) P E s:=by
 rw[list_sort_plain]
 have hS:vs.toArray.size=vs.length:=by simp
 refine wpAny_bind (listItems_at g rfl (wpAny_bind (listUpdate_at g rfl ?_ (by rw[hS];exact hz) (by simp))))
 obtain⟨e1,g1⟩:∃e1,(s.heap.update a (Obj.mapSeq fun _=>#[])).get? a=some (seqObj "list" #[] e1):=⟨_,get?_update_seq g fun _=>#[]⟩
 refine wpAny_bind (seqEpoch_at g1 rfl (wpAny_bind (wpAny_newTuple (wpAny_bind (wpAny_newList (wpAny_holding ?_) (by simp))) (by simpa using hz))))
 have g2:(((s.heap.update a (Obj.mapSeq fun _=>#[])).push (seqObj "tuple" vs.toArray 0)).push (seqObj "list" #[] 0)).get? a=some (seqObj "list" #[] e1):=
  Heap.get?_push_of_some _ (Heap.get?_push_of_some _ g1)
 have n2:¬vs.toArray.size<2:=by rw[hS];omega
 dsimp only
 rw[if_neg n2]
 have hk:∀b o,b≠a->s.heap.get? b=some o->(((s.heap.update a (Obj.mapSeq fun _=>#[])).push (seqObj "tuple" vs.toArray 0)).push (seqObj "list" #[] 0)).get? b=some o:=fun b o hb ho=>by
  refine Heap.get?_push_of_some _ (Heap.get?_push_of_some _ ?_)
  rw[Heap.get?_update_ne _ _ _ _ hb];exact ho
 refine wpAny_bind (wpAny_mono (ask _ hk) (fun κ s' hs'=>?_) fun _ _ h'=>h')
 obtain⟨rfl,hrun⟩:=hs'
 rw[if_neg n2]
 refine wpAny_bind (wpAny_mono hrun (fun r s' hr=>?_) fun _ _ h'=>h')
 obtain⟨u,st'⟩:=r
 obtain⟨rfl,hfail,hsz,hP⟩:=hr
 refine wpAny_bind (seqEpoch_at g2 rfl (wpAny_bind (listUpdate_at g2 rfl ?_ (by simp) ?_)))
 ·dsimp only at hfail ⊢
  rw[hfail]
  simp only[bne_self_eq_false,Bool.false_eq_true,if_false]
  exact wpAny_pure hP
 ·dsimp only
  rw[Array.size_map]
  dsimp only at hsz
  omega
theorem jq{prog:Program}{w:World}{A:Around}{E:Value->Shared->Prop}{s:Shared}{a:Addr}{vs:List Value}{ps:List (Int×Int)}{n:Nat}{P:PySem.Fin->Shared->Prop}
  (g:s.heap.get? a=some (seqObj "list" vs.toArray n)) (hp:dJ s.heap vs ps) (hv:∀v∈vs,v≠.ref a) (nd:ps.Nodup) (hz:ps.length<=sizeLine)
  (k:∀q:Array Nat,Fi ps q->P (Fin.done (Flow.ret Value.none)) { s with heap:=sortedHeap s.heap a vs (q.toList.map fun i=>vs.getD i Value.none).toArray }) :
  wpAny (model prog w) A (Builtin.«list.sort» { pos:=[Value.ref a] }) P E s:=by
 have hl:=jQ hp
 by_cases h2:vs.length<2
 ·have hr:((List.range ps.length).toArray.toList.map fun i=>vs.getD i Value.none)=vs:=by
   rw[<-hl]
   refine List.ext_getElem? fun i=>?_
   by_cases hi:i<vs.length
   ·simp[List.getElem?_range hi,List.getElem?_eq_getElem hi]
   ·simp[List.getElem?_eq_none (Nat.le_of_not_lt hi),hi]
  have:=k (List.range ps.length).toArray ⟨xf,fun i j hij hj=>by omega⟩
  rw[hr]at this
  exact jY g h2 this
 ·refine kQ g (by omega) (by omega) fun h' m=>?_
  have hp':dJ ({ s with heap:=h' }:Shared).heap vs ps:=iO m hp hv
  refine rR hp' (by omega) ⟨rfl,?_⟩
  obtain⟨f,hf⟩:∃f:Keyed->Int×Int,∀x p,e8 h' x.1 p->f x=p:=by
   classical
   refine⟨fun x=>if h:∃p,e8 h' x.1 p then h.choose else(0,0),fun x p hp=>?_⟩
   have h:∃p,e8 h' x.1 p:=⟨p,hp⟩
   dsimp only
   rw[dif_pos h]
   obtain⟨b,o,t1,t2,e,hx,g1,_,d1⟩:=h.choose_spec
   obtain⟨b',o',t1',t2',e',hx',g1',_,d1'⟩:=hp
   rw[hx]at hx';cases hx'
   rw[g1]at g1';cases g1'
   rw[d1]at d1'
   injection d1' with d2 _
   have d3:=congrArg Array.toList d2
   simp only[List.cons.injEq,Value.int.injEq]at d3
   exact Prod.ext d3.1.1 d3.2.1.1
  obtain⟨it,hit⟩:∃it:Nat->Keyed,it=kas_item (vs.toArray.zip vs.toArray):=⟨_,rfl⟩
  have it1:∀i,i<ps.length->it i=(vs.getD i Value.none,vs.getD i Value.none):=fun i hi=>by
   rw[hit];exact kat_item rfl i
  have fi:∀i,i<ps.length->e8 h' (it i).1 (f (it i))/\f (it i)=ps.getD i (0,0):=fun i hi=>by
   have h1:=nJ hp' hi
   have h2:f (it i)=ps.getD i (0,0):=hf _ _ (by rw[it1 i hi];exact h1)
   exact⟨by rw[h2,it1 i hi];exact h1,h2⟩
  have l0:(vs.toArray.zip vs.toArray).toList=(List.range ps.length).map it:=by
   have e:=kas_range (vs.toArray.zip vs.toArray)
   rw[show(vs.toArray.zip vs.toArray).size=ps.length by simp[hl]]at e
   rw[<-hit]at e
   rw[<-e];simp
  have LO:=D8 nd
  have lev:rD prog w A E { s with heap:=h' } (tuples' true) (fun x y=>ltP (f x) (f y)) (fun x=>e8 h' x.1 (f x)):=fun x y st Q hx hy hk hq=>by
   rw[lt'_eq]
   refine kasC_bind (kasC_get ?_)
   rw[hk]
   exact kasC_bind (kasC_lift (wpAny_attempt (AQ (s:={ s with heap:=h' }) hx hy (kasC_pure hq))))
  have od:Od (fun x y=>ltP (f x) (f y)) (fun x=>e8 h' x.1 (f x)) ((List.range ps.length).map it):=by
   refine⟨fun x hx=>?_,fun{x y z} _ _ _ h1 h2=>?_,fun{x y} _ _ h=>?_,?_⟩
   ·obtain⟨i,hi,rfl⟩:=List.mem_map.mp hx
    exact(fi i (List.mem_range.mp hi)).1
   ·simp only[ltP,decide_eq_true_eq]at *;omega
   ·simp only[ltP,decide_eq_true_eq,decide_eq_false_iff_not]at *;omega
   ·refine List.pairwise_map.mpr (List.Pairwise.imp_of_mem (fun{i j} hi hj hn=>?_) List.nodup_range)
    have hi:=List.mem_range.mp hi
    have hj:=List.mem_range.mp hj
    rw[(fi i hi).2,(fi j hj).2]
    cases hc:ltP (ps.getD i (0,0)) (ps.getD j (0,0))with
    |true=>exact .inl rfl
    |false=>exact .inr (LO.tot hi hj hn hc)
  refine Aj lev od rfl rfl l0 rfl (by rw[List.length_map,List.length_range];omega) fun st R h3 h4 h5 h6=>?_
  obtain⟨q,q1,q2⟩:=xi it h5 rfl
  have ql:q.length=ps.length:=by rw[q1.length_eq,List.length_range]
  have qb:∀i∈q,i<ps.length:=fun i hi=>List.mem_range.mp (q1.mem_iff.mp hi)
  have ha:Array.map (fun x=>x.snd) (arrOf st)=(q.toArray.toList.map fun i=>vs.getD i Value.none).toArray:=by
   apply Array.toList_inj.mp
   rw[Array.toList_map,h4,q2,List.map_map]
   exact List.map_congr_left fun i hi=>by show(it i).2=_;rw[it1 i (qb i hi)]
  refine⟨rfl,h3,by rw[<-Array.length_toList,h4,q2,List.length_map,ql,hl],?_⟩
  rw[ha]
  refine k q.toArray ⟨GI q1,fun i j hij hj=>?_⟩
  have gd:∀i (hi:i<ps.length),q.toArray.getD i 0=q[i]'(by omega):=fun i hi=>by simp[Array.getD,ql,hi]
  unfold dA at h6
  rw[q2,List.pairwise_map,List.pairwise_iff_getElem]at h6
  have:=h6 i j (by omega) (by omega) hij
  dsimp only at this
  rw[(fi _ (qb _ (List.getElem_mem _))).2,(fi _ (qb _ (List.getElem_mem _))).2]at this
  dsimp only
  rw[gd i (by omega),gd j hj]
  exact this
theorem mz{prog:Program}{w:World}{A:Around}{E:Value->Shared->Prop}{s:Shared}{l:Addr}{vs:List Value}{ps:List (Int×Int)}{Q:Value->Shared->Prop}
  (hL:s.heap.IsList l vs.toArray) (hp:dJ s.heap vs ps) (nd:ps.Nodup) (hz0:ps.length<=sizeLine)
  (k:∀q:Array Nat,Fi ps q->Q (Value.ref (s.heap.objs.size+1)) { s with heap:=sortedAll s.heap vs (q.toList.map fun i=>vs.getD i Value.none).toArray }) :
  wpAny (model prog w) A (call (Value.builtin "sorted") [Value.ref l]) Q E s:=by
 have hl:=jQ hp
 have hz:vs.length<=sizeLine:=by omega
 refine Calls.call_function_entry kind_sorted plain_sorted entry_sorted (args_sorted1 _) ?_
 unfold Builtin.«sorted»
 refine wpAny_bind (m:=checkCount "sorted" 1 1 _) (wpAny_pure (wpAny_bind (collect_list hL (wpAny_bind (wpAny_newList ?_ hz)) hz)))
 have hsz:((s.heap.push (seqObj "list" #[] 0)).update s.heap.objs.size (Obj.mapSeq fun x=>x++vs.toArray)).objs.size=s.heap.objs.size+1:=by
  rw[Heap.size_update,size_push']
 have gL:(((s.heap.push (seqObj "list" #[] 0)).update s.heap.objs.size (Obj.mapSeq fun x=>x++vs.toArray)).push (seqObj "list" vs.toArray 0)).get? (s.heap.objs.size+1)=some (seqObj "list" vs.toArray 0):=by
  rw[<-hsz];exact Heap.get?_push_size _ rfl
 have old:∀b o,s.heap.get? b=some o->(((s.heap.push (seqObj "list" #[] 0)).update s.heap.objs.size (Obj.mapSeq fun x=>x++vs.toArray)).push (seqObj "list" vs.toArray 0)).get? b=some o:=fun b o g=>by
  refine Heap.get?_push_of_some _ ?_
  rw[Heap.get?_update_ne _ _ _ _ (Nat.ne_of_lt (Heap.lt_size g))]
  exact Heap.get?_push_of_some _ g
 show wpAny _ _ _ _ _ { s with heap:=((s.heap.push (seqObj "list" #[] 0)).update s.heap.objs.size (Obj.mapSeq fun x=>x++vs.toArray)).push (seqObj "list" vs.toArray 0) }
 rw[show Value.ref ((s.heap.push (seqObj "list" #[] 0)).update s.heap.objs.size (Obj.mapSeq fun x=>x++vs.toArray)).objs.size=Value.ref (s.heap.objs.size+1)from by rw[hsz]]
 refine wpAny_bind (wpAny_holding (wpAny_call_entry slot_list_sort ⟨_,gL,rfl⟩ entry_list_sort (jq (n:=0) gL (iO (a:=s.heap.objs.size+1) (fun b o _ g=>old b o g) hp fun v hv=>iP hp v hv _ (by omega)) (fun v hv=>iP hp v hv _ (by omega)) nd hz0 fun q hq=>⟨_,rfl,?_⟩) (args_list_sort _)))
 exact wpAny_pure ⟨_,rfl,k q hq⟩
def nG(K:PySem.W.Frag):List V->Hp->VK->Prop:=fun xs H Q=>∃(p:Addr) (ys:List V) (ps:List (Int×Int)),xs=[.ref p]/\SqL K H p ys/\PrL K H ys ps/\ps.Nodup/\ps.length<=sizeLine/\
 ∀(l:Addr) (q:Array Nat),H l=none->Fi ps q->Q (.ref l) (upd H l (.lst (q.toList.map fun i=>ys.getD i .non)))
theorem lN{X:Cx}:fF X (.builtin "sorted") (nG X.K):=by
 rintro pins s σ H xs us Q I r ⟨p,ys,ps,rfl,hL,hp,nd,h64,q⟩
 obtain⟨u,rfl,ru⟩:=oW r
 cases ru
 obtain⟨its,rv,pl,hz⟩:=I.list hL
 have eF:=uh hp
 refine mz pl.isList (yX I hp rv) nd h64 fun qa a1=>?_
 obtain⟨e,ge⟩:=sortedAll_at s.heap its (qa.toList.map fun i=>its.getD i Value.none).toArray
 have hf:=I.hok.fresh (Nat.le_succ s.heap.objs.size)
 have hq:qa.toList.length=ps.length:=by rw[Array.length_toList,a1.1.sz]
 refine⟨.ref (s.heap.objs.size+1),_,I.laid (o:=.lst (qa.toList.map fun i=>ys.getD i .non)) (t':=s.toks) (fun b o e=>sortedAll_old e) (Nat.le_succ _) ⟨by rw[List.length_map,hq];exact h64,_,e,qf rv qa.toList (by rw[eF];exact uk a1.1),ge⟩,rfl,q _ qa hf a1⟩
open Classical in
def cN:Fn
 |[.ref l],S=>match S[l]? with
  |some (.lst us)=>(jR us).bind fun ps=>if ps.Nodup/\ps.length<=9000 then some (.ref S.length,S++[.lst ((fK ps).map pP)])else none
  |_=>none
 |_,_=>none
theorem lL{K:PySem.W.Frag}:oM K (nG K) cN:=by
 intro m S H us vs u S' Q sr i hf post
 match us,hf with
 |[.ref l],hf=>
  obtain⟨v,rfl,iv⟩:=i.one
  obtain⟨a,ha,rfl⟩:=iv.of_ref
  simp only[cN]at hf
  split at hf<;>try cases hf
  rename_i ws hS
  obtain⟨ps,hn,h⟩:=Option.bind_eq_some_iff.mp hf
  split at h<;>try cases h
  have hc:ps.Nodup/\ps.length<=9000:=by assumption
  obtain⟨a',ha',xs,hx,la⟩:=sr.get hS
  rw[ha]at ha';cases ha'
  rw[nK hn]at la
  have pr:=yW la
  refine⟨a,xs,ps,rfl,SqL.of hx,pr,hc.1,Nat.le_trans hc.2 (by decide),fun p q hp aq=>?_⟩
  have il:=ug (m:=m) pr q.toList (uk aq.1)
  have e:(q.toList.map fun i=>pP (ps.getD i (0,0)))=(fK ps).map pP:=by rw[vU aq,List.map_map];rfl
  rw[e]at il
  exact dQ sr il post hp
end OP
namespace OQ
open PySem PySem.Spec PyProof.Rows L2 OG OP
def dw:CS:=
 (bZ (gx (aN (cOp fEq (cOp fIx (ax 0) (cC (.int 2))) (cC (.int 0)))) (bZ (fe 2 (cOp fIx (ax 0) (cC (.int 1))))
  (bZ (d7 (ax 0) (cC (.int 1)) (cOp lV (ax 2) (cC (.int 1))))
  (bZ (fe 3 (cC (.int 0)))
  (bZ (gx (aN (cOp fLt (ax 2) (cCB oO (ao (cOp fIx (ax 0) (cC (.int 0))) aL)))) (fe 3 (cOp fIx (cOp fIx (ax 0) (cC (.int 0))) (ax 2))) (gx (aN (cOp fGt (cCB oO (ao (cOp fIx (ax 0) (cC (.int 0))) aL)) (cC (.int 0)))) (fe 3 (cOp lV (cOp nZ (cOp fIx (cOp fIx (ax 0) (cC (.int 0))) (cOp nZ (cOp ke (ax 2) (cC (.int 3))) (cCB oO (ao (cOp fIx (ax 0) (cC (.int 0))) aL)))) (cC (.int 1000003))) (cOp ke (cC (.int 97)) (ax 2)))) dR))
  (bZ (fe 4 (cOp nZ (cOp ke (cOp lV (cOp lV (cOp nZ (ax 3) (cC (.int 998244353))) (cOp ke (cC (.int 53)) (ax 2))) (cC (.int 1))) (cC (.int 48271))) (cC (.int 2147483647))))
  (bZ (fe 5 (cOp nZ (cOp lV (cOp lV (cOp ke (ax 4) (ax 4)) (cOp ke (cC (.int 69621)) (ax 2))) (cC (.int 5))) (cC (.int 1000000007))))
  (bZ (fe 6 (cOp nZ (cOp lV (cOp ke (ax 5) (ax 5)) (ax 4)) (cC (.int 998244353))))
  (bZ (d7 (ax 0) (cC (.int 2)) (cOp lV (cOp ya (cOp lV (cOp ke (ax 5) (cC (.int 998244353))) (ax 6)) (cC (.int 16))) (cC (.int 1))))
  (gx (aN (cOp fGe (ax 3) (cOp BB (cC (.int 10)) (cC (.int 18))))) (d7 (ax 0) (cC (.int 2)) (cOp ya (ax 3) (cOp BB (cC (.int 10)) (cC (.int 18))))) dR))))))))) dR)
  (bZ (fe 7 (cOp nZ (cOp fIx (ax 0) (cC (.int 2))) (ax 1)))
  (bZ (d7 (ax 0) (cC (.int 2)) (cOp ya (cOp fIx (ax 0) (cC (.int 2))) (ax 1)))
  (gS (ax 7)))))
theorem pC{a0 a1:U}{S:Sto}:fnU 8 2 (dw ) [a0,a1] S=((dw ) [some a0,some a1,none,none,none,none,none,none] S).bind kFn:=lj rfl
def dC(ak:Fn):CS:=
 (gS (jk (ao (cOp lV (cC (.int 1)) (cCB ak (ao (ax 0) (ao (cC (.int 6)) aL)))) (ao (cOp fIx (md (ao (cC (.int 2)) (ao (cC (.int 3)) (ao (cC (.int 5)) (ao (cC (.int 10)) (ao (cOp lV (cC (.int 2)) (cCB ak (ao (ax 0) (ao (cC (.int 999)) aL)))) aL)))))) (cCB ak (ao (ax 0) (ao (cC (.int 5)) aL)))) aL))))
theorem n8{ak:Fn}{a0:U}{S:Sto}:fnU 1 1 (dC ak) [a0] S=((dC ak) [some a0] S).bind kFn:=lj rfl
def dE(ak:Fn):CS:=
 (gS (cCB j9 (ao (iU (d4 (ao (cOp fIx (ax 1) (cC (.int 0))) aL)) (gNm 0) (cCB ak (ao (ax 1) (ao (cOp fIx (ax 2) (cC (.int 1))) aL))) 1 [0,1]) aL)))
theorem oa{ak:Fn}{a0 a1:U}{S:Sto}:fnU 2 2 (dE ak) [a0,a1] S=((dE ak) [some a0,some a1] S).bind kFn:=lj rfl
def cy(aI:Fn):CS:=
 (bZ (gx (aN (cOp EA (ax 1) (cC .non))) (gS (cOp EA (ax 0) (cC .non))) dR)
  (bZ (gx (aN (sE .bool (ax 1))) (gS (oB (sE .bool (ax 0)) (cOp fEq (ax 0) (ax 1)))) dR)
  (bZ (gx (aN (sE .str (ax 1))) (gS (oB (sE .str (ax 0)) (cOp fEq (ax 0) (ax 1)))) dR)
  (bZ (gx (aN (sE .int (ax 1))) (gS (oB (sE .int (ax 0)) (oB (yo (sE .bool (ax 0))) (cOp fEq (ax 0) (ax 1))))) dR)
  (bZ (gx (cOr (aN (cOp fNe (sE .tuple (ax 1)) (sE .tuple (ax 0)))) (aN (cOp fNe (sE .list (ax 1)) (sE .list (ax 0))))) (gS (cC (.bl false))) dR)
  (gS (oB (cOp fEq (cCB oO (ao (ax 0) aL)) (cCB oO (ao (ax 1) aL))) (cOp (fIn true) (cC (.bl false)) (iU (Ff (ax 0) (ax 1)) (gTp [0,1]) (cCB aI (ao (ax 0) (ao (ax 1) aL))) 2 [])))))))))
theorem fq{aI:Fn}{a0 a1:U}{S:Sto}:fnU 2 2 (cy aI) [a0,a1] S=((cy aI) [some a0,some a1] S).bind kFn:=lj rfl
end OQ
local macro_rules
 | `(tactic| rwa $s:rwRuleSeq) => do
  let ts : Array (Lean.TSyntax `term) := s.raw[1].getSepArgs.map fun r => ⟨r[1]⟩
  let us : Array (Lean.TSyntax `term) := (("Fj BF x_c Iw FH FG BK zq Gv Cv Cu Iu FF FE FI B2 Ct zG zF FD BZ BY B1 zr B3 yE sR sQ Fl BJ FR B7 IQ Gr FY Ce BL BS yz BR BQ BP yD zB BV BU Ck yA Cj IK F7 F6 Fz BO Gs Cs Cr F9 F8 Cy Cw Il Fu Ft Fs Fq FU FV FW FX Fo BM BN B9 Ca Cb B8 Gw Fm IH IJ IL IM Gf FK Ge FJ Gg FL Gb Ga at0 at1 at2 at3 ix0 ix1 ix2 Option.bind_some List.getElem?_cons_zero List.getElem?_cons_succ List.set_cons_zero List.set_cons_succ List.length_cons List.length_nil List.map_cons List.map_nil decide_true decide_false Bool.not_true Bool.not_false Gd yC yB Im Fy Fx Fv B5 zv zu zt zw FZ F5 FT Cc Hz Cq Cp Co Gu IP Gm Gk Gj Gi Gh Cm Ir x_p Iq Ip Io Cn zE zD BG BH BI zx zy zA Cg ga ga0 gs gs0 Option.join_some Nat.add_zero List.cons_append List.nil_append List.append_assoc" : String).splitOn " ").toArray.map fun x => ⟨(Lean.mkIdent ((x.splitOn ".").foldl Lean.Name.str Lean.Name.anonymous)).raw⟩
  let vs:=ts++us
  `(tactic| simp only [$[$vs:term],*])
namespace OQ
open PySem PySem.Spec PyProof.Rows L2 OG OP
def pen(a c:Int):O:=.lst [.ref 0,.int a,.int c]
section
variable{S:Sto}{j k:Int}
theorem sP(h:-(2^64)<k/\k<2^64):ke (.int j) (.int k) S=some (.int (j*k),S):=B4 (.inr h)
theorem ni(h:-(2^64)<j/\j<2^64):ke (.int j) (.int k) S=some (.int (j*k),S):=B4 (.inl h)
theorem IG:ke (.int j) (.int 3) S=some (.int (j*3),S):=sP (by decide)
theorem FP:ke (.int 97) (.int k) S=some (.int (97*k),S):=ni (by decide)
theorem FQ:ke (.int 53) (.int k) S=some (.int (53*k),S):=ni (by decide)
theorem IF:ke (.int j) (.int 48271) S=some (.int (j*48271),S):=sP (by decide)
theorem IE:ke (.int 69621) (.int k) S=some (.int (69621*k),S):=ni (by decide)
theorem ID:ke (.int j) (.int 998244353) S=some (.int (j*998244353),S):=sP (by decide)
theorem FO:ke (.int (j % 2147483647)) (.int k) S=some (.int (j % 2147483647*k),S):=ni (by have:=Int.emod_nonneg j (show(2147483647:Int)≠0 by decide);have:=Int.emod_lt_of_pos j (show(0:Int)<2147483647 by decide);omega)
theorem FN:ke (.int (j % 1000000007)) (.int k) S=some (.int (j % 1000000007*k),S):=ni (by have:=Int.emod_nonneg j (show(1000000007:Int)≠0 by decide);have:=Int.emod_lt_of_pos j (show(0:Int)<1000000007 by decide);omega)
theorem IC:nZ (.int j) (.int 998244353) S=some (.int (j % 998244353),S):=rG (by decide)
theorem IB:nZ (.int j) (.int 2147483647) S=some (.int (j % 2147483647),S):=rG (by decide)
theorem IA:nZ (.int j) (.int 1000000007) S=some (.int (j % 1000000007),S):=rG (by decide)
theorem Iy:nZ (.int j) (.int 1000003) S=some (.int (j % 1000003),S):=rG (by decide)
theorem Gq:ya (.int j) (.int 16) S=some (.int (j / 16),S):=zC ⟨by decide,by decide +kernel⟩
theorem BX:BB (.int 10) (.int 18) S=some (.int 1000000000000000000,S):=FA (j:=10) (k:=18) ⟨by decide,by decide,by decide⟩
theorem Gn:ya (.int j) (.int 1000000000000000000) S=some (.int (j / 1000000000000000000),S):=zC ⟨by decide,by decide +kernel⟩
theorem atU{ns:List Int}{k:Int}(h0:0<=k)(h1:k<(ns.length:Int)):∃v:Int,atI (ns.map U.int) k=some (.int v):=by
 have hk:k.toNat<ns.length:=by omega
 exact⟨ns[k.toNat],vQ h0 (by rw[List.getElem?_map,List.getElem?_eq_getElem hk];rfl)⟩
end
def eD:Fn:=fnU 8 2 dw
theorem cY(ns:List Int)(T:Sto){a c m:Int}(ha:0<=a)(hc:0<=c)(hm:0<m)(hb:m.natAbs.log2<9000) :
  ∃f a' c',eD [.ref 1,.int m] (.lst (ns.map U.int)::pen a c::T)=some (.int f,.lst (ns.map U.int)::pen a' c'::T)/\0<=f/\f<m/\0<=a'/\0<=c':=by
 unfold eD
 rw[pC]
 have dm:∀{j:Int} {S:Sto},ya (.int j) (.int m) S=some (.int (j / m),S):=zC ⟨hm,hb⟩
 have mm:∀{j:Int} {S:Sto},nZ (.int j) (.int m) S=some (.int (j % m),S):=rG hm
 have fin:∀{a' c':Int},0<=a'->0<=c'->0<=c' % m/\c' % m<m/\0<=a'/\0<=c' / m:=fun h1 h2=>⟨Int.emod_nonneg _ (by omega),Int.emod_lt_of_pos _ hm,h1,Int.ediv_nonneg h2 (by omega)⟩
 by_cases c0:c=0
 ·subst c0
  have cell : ∃ z : Int, (gx (aN (cOp fLt (ax 2) (cCB oO (ao (cOp fIx (ax 0) (cC (U.int 0))) aL))))
              (fe 3 (cOp fIx (cOp fIx (ax 0) (cC (U.int 0))) (ax 2)))
              (gx
               (aN (cOp fGt (cCB oO (ao (cOp fIx (ax 0) (cC (U.int 0))) aL)) (cC (U.int 0))))
               (fe 3
                (cOp lV
                 (cOp nZ
                  (cOp fIx (cOp fIx (ax 0) (cC (U.int 0)))
                   (cOp nZ (cOp ke (ax 2) (cC (U.int 3)))
                    (cCB oO (ao (cOp fIx (ax 0) (cC (U.int 0))) aL))))
                  (cC (U.int 1000003)))
                 (cOp ke (cC (U.int 97)) (ax 2))))
               dR)) [some (.ref 1),some (.int m),some (.int a),some (.int 0),none,none,none,none] (O.lst (ns.map U.int)::.lst [.ref 0,.int (a+1),.int 0]::T)=some (.nx,[some (.ref 1),some (.int m),some (.int a),some (.int z),none,none,none,none],O.lst (ns.map U.int)::.lst [.ref 0,.int (a+1),.int 0]::T):=by
   by_cases h1:a<(ns.length:Int)
   ·obtain⟨z,hz⟩:=atU ha h1
    exact⟨z,by rwa[hz,h1,List.length_map]⟩
   ·by_cases h2:(0:Int)<(ns.length:Int)
    ·obtain⟨z,hz⟩:=atU (ns:=ns) (k:=a*3 % (ns.length:Int)) (Int.emod_nonneg _ (by omega)) (Int.emod_lt_of_pos _ h2)
     exact⟨z % 1000003+97*a,by rwa[h1,h2,IG,rG h2,hz,Iy,FP,List.length_map]⟩
    ·exact⟨0,by rwa[h1,h2,List.length_map]⟩
  obtain⟨z,hz⟩:=cell
  rwa[dw,pen,hz,IC,IB,IA,FQ,IF,IE,ID,FO,FN,Gq,BX]
  by_cases h3:(1000000000000000000:Int)<=z
  ·rwa[h3,BX,Gn,mm,dm]
   exact⟨_,_,_,rfl,fin (by omega) (Int.ediv_nonneg (by omega) (by omega))⟩
  ·rwa[h3,mm,dm]
   refine⟨_,_,_,rfl,fin (by omega) ?_⟩
   exact Int.add_nonneg (Int.ediv_nonneg (Int.add_nonneg (Int.mul_nonneg (Int.emod_nonneg _ (by decide)) (by decide)) (Int.emod_nonneg _ (by decide))) (by decide)) (by decide)
 ·rwa[dw,pen,c0,mm,dm]
  exact⟨_,_,_,rfl,fin ha hc⟩
theorem l9{m:Int}(h0:0<=m)(h:m<2^60):m.natAbs.log2<9000:=uI h0 h
abbrev scr(ns:List Int):O:=.lst (ns.map U.int)
theorem GJ{f g:Int}(g0:0<=g)(g1:g<999)(f0:0<=f)(f1:f<5):∃v:Int,atI [U.int 2,U.int 3,U.int 5,U.int 10,U.int (2+g)] f=some (.int v)/\2<=v/\v<=1000:=by
 have:f=0\/f=1\/f=2\/f=3\/f=4:=by omega
 rcases this with rfl|rfl|rfl|rfl|rfl
 ·exact⟨2,rfl,by omega,by omega⟩
 ·exact⟨3,rfl,by omega,by omega⟩
 ·exact⟨5,rfl,by omega,by omega⟩
 ·exact⟨10,rfl,by omega,by omega⟩
 ·exact⟨2+g,rfl,by omega,by omega⟩
def pQ:Fn:=fnU 1 1 (dC eD)
theorem wA(ns:List Int)(T:Sto){a c:Int}(ha:0<=a)(hc:0<=c) :
  ∃n w a' c' G,pQ [.ref 1] (scr ns::pen a c::T)=some (.tup [.int n,.int w],scr ns::pen a' c'::(T++G))/\1<=n/\n<=6/\2<=w/\w<=1000/\0<=a'/\0<=c':=by
 unfold pQ
 rw[n8]
 obtain⟨f1,a1,c1,h1,p1,q1,ha1,hc1⟩:=cY ns T (m:=6) ha hc (by decide) (by decide +kernel)
 obtain⟨f2,a2,c2,h2,p2,q2,ha2,hc2⟩:=cY ns T (m:=999) ha1 hc1 (by decide) (by decide +kernel)
 obtain⟨f3,a3,c3,h3,p3,q3,ha3,hc3⟩:=cY ns (T++[.lst [.int 2,.int 3,.int 5,.int 10,.int (2+f2)]]) (m:=5) ha2 hc2 (by decide) (by decide +kernel)
 obtain⟨v,hv,v0,v1⟩:=GJ p2 q2 p3 q3
 refine⟨1+f1,v,a3,c3,[.lst [.int 2,.int 3,.int 5,.int 10,.int (2+f2)]],?_,by omega,by omega,v0,v1,ha3,hc3⟩
 rwa[dC,h1,h2,h3,hv]
def pS:Fn:=fnU 2 2 (dE eD)
theorem tQ(ns:List Int)(T:Sto){n w:Int}(w0:2<=w)(w1:w<=1000):∀(us:List U) (r:Option U) (ys:List Int) {a c:Int},0<=a->0<=c->ys.length+us.length<=1000->
  ∃zs a' c',ft (fun _=>True) (gNm 0) (cCB eD (ao (ax 1) (ao (cOp fIx (ax 2) (cC (.int 1))) aL))) (T.length+1+1) us [r,some (.ref 1),some (.tup [.int n,.int w])] (scr ns::pen a c::(T++[.lst (ys.map U.int)]))
   = some (scr ns::pen a' c'::(T++[.lst ((ys++zs).map U.int)]))/\zs.length=us.length/\(∀z∈zs,0<=z/\z<w)/\0<=a'/\0<=c'
 |[],r,ys,a,c,ha,hc,hl=>⟨[],a,c,by simp[ft],rfl,by simp,ha,hc⟩
 |u::us,r,ys,a,c,ha,hc,hl=>by
  obtain⟨f,a1,c1,h1,p1,q1,ha1,hc1⟩:=cY ns (T++[.lst (ys.map U.int)]) (m:=w) ha hc (by omega) (l9 (by omega) (by omega))
  obtain⟨zs,a2,c2,h2,e2,b2,ha2,hc2⟩:=tQ ns T (n:=n) w0 w1 us (some u) (ys++[f]) ha1 hc1 (by simp at hl ⊢;omega)
  refine⟨f::zs,a2,c2,?_,by simp[e2],fun z hz=>?_,ha2,hc2⟩
  ·have eF:(ys.map U.int).length<LIM:=by unfold LIM;simp at hl ⊢;omega
   unfold ft
   rwa[h1,if_true,eF]
   rw[List.map_append]at h2
   simp only[List.map_cons,List.map_nil]at h2
   rw[h2]
   simp
  ·rcases List.mem_cons.mp hz with rfl|hz
   ·exact⟨p1,q1⟩
   ·exact b2 z hz
theorem wI(ns:List Int)(T:Sto){a c n w:Int}(ha:0<=a)(hc:0<=c)(n0:1<=n)(n1:n<=6)(w0:2<=w)(w1:w<=1000) :
  ∃(zs:List Int) (a' c':Int) (G:Sto),pS [.ref 1,.tup [.int n,.int w]] (scr ns::pen a c::T)=some (.tup (zs.map U.int),scr ns::pen a' c'::(T++G))/\zs.length=n.toNat/\(∀z∈zs,0<=z/\z<w)/\0<=a'/\0<=c':=by
 unfold pS
 rw[oa]
 obtain⟨zs,a',c',h,e,b,ha',hc'⟩:=tQ ns T (n:=n) w0 w1 (cH 0 n.toNat) none [] ha hc (by simp[cH];omega)
 refine⟨zs,a',c',[.lst (zs.map U.int)],?_,by rw[e];simp[cH],b,ha',hc'⟩
 have hr:-(2^62)<=n/\n<2^62:=by omega
 simp only[List.map_nil,List.nil_append]at h
 rwa[dE,iU,d4,lG,hr,h,if_true,and_self,List.replicate,Option.getD_some]
def ji(ps:List (Int×Int)):List (Key×U):=ps.map fun p=>(.inl p.1,.int p.2)
theorem gT(b:Int):∀ps:List (Int×Int),br (ji ps) (.inl b)=(br ps b).map U.int
 |[]=>rfl
 |(k,v)::r=>by
  have ih:=gT b r
  unfold br ji at ih ⊢
  simp only[List.map_cons,List.find?_cons]
  by_cases e:k=b
  ·subst e;simp
  ·rw[decide_eq_false (fun z:(Sum.inl k:Key)=Sum.inl b=>e (Sum.inl.inj z)),decide_eq_false e]
   exact ih
theorem yu(b:Int)(ps:List (Int×Int)):((ji ps).any fun kv=>decide (kv.1=Sum.inl b))=ps.any fun kv=>decide (kv.1=b):=by
 unfold ji
 induction ps with
 |nil=>rfl
 |cons p r ih=>
  simp only[List.map_cons,List.any_cons,ih]
  by_cases e:p.1=b
  ·rw[decide_eq_true e,decide_eq_true (by rw[e])]
  ·rw[decide_eq_false e,decide_eq_false (fun z:(Sum.inl p.1:Key)=Sum.inl b=>e (Sum.inl.inj z))]
theorem qz(b v:Int)(ps:List (Int×Int)):ig (ji ps) (.inl b) (.int v)=ji (ig ps b v):=by
 unfold ig
 rw[yu]
 split
 ·unfold ji
  rw[List.map_map,List.map_map]
  refine List.map_congr_left fun p _=>?_
  simp only[Function.comp]
  by_cases e:p.1=b
  ·simp[e]
  ·rw[if_neg e,if_neg (fun z:(Sum.inl p.1:Key)=Sum.inl b=>e (Sum.inl.inj z))]
 ·simp[ji]
theorem qP{κ α:Type}[DecidableEq κ](ps:List (κ×α))(b:κ)(v:α):(ig ps b v).length<=ps.length+1:=by
 unfold ig;split<;>simp
theorem atF{first:List Int}{b n:Int}(l:first.length=n.toNat)(h0:0<=b)(h1:b<n):atI (first.map U.int) b=some (.int (first.getD b.toNat 0)):=by
 have hk:b.toNat<first.length:=by omega
 refine vQ h0 ?_
 rw[List.getElem?_map,List.getElem?_eq_getElem hk,List.getD_eq_getElem?_getD,List.getElem?_eq_getElem hk];rfl
theorem cw{α:Type}{l:List α}{k:Nat}{x:α}(h:l[k]?=some x):k<l.length:=(List.getElem?_eq_some_iff.mp h).1
theorem aD{α:Type}{l r:List α}{k:Nat}{x:α}(h:l[k]?=some x):(l++r)[k]?=some x:=by rw[List.getElem?_append_left (cw h)];exact h
def beh(first:List Int)(ps:List (Int×Int))(k:Nat):List Int:=(first.zipIdx k).map fun p=>(br ps (p.2:Int)).getD p.1
theorem Ez{ls:List Nat}{S0 S':Sto}(len:S0.length<=S'.length)(old:∀l,l<S0.length->S'[l]?=S0[l]?):∃G,S'=S0++G:=by
 refine⟨S'.drop S0.length,List.ext_getElem? fun l=>?_⟩
 by_cases c:l<S0.length
 ·rw[old l c,List.getElem?_append_left c]
 ·rw[List.getElem?_append_right (by omega),List.getElem?_drop];congr 1;omega
theorem Bp(first:List Int)(ps:List (Int×Int))(k:Nat):(beh first ps k).length=first.length:=by simp[beh]
theorem CJ{us:List U}{S:Sto}:tyU (.tup us) S=some .tuple:=rfl
theorem CL{i:Int}{S:Sto}:tyU (.int i) S=some .int:=rfl
theorem CK{i:Str}{S:Sto}:tyU (.str i) S=some .str:=rfl
theorem yI{l:Nat}{us:List U}{S:Sto}(h:S[l]?=some (.lst us)):tyU (.ref l) S=some .list:=by simp only[tyU,h]
theorem wj{x:U}{S:Sto}:EA x .non S=some (.bl (o9 x),S):=rfl
def fc:Nat->Fn
 |0=>fun _ _=>none
 |k+1=>fnU 2 2 (cy (fc k))
def gF(k:Nat)(u v:U)(S:Sto):Prop:=∀X,∃G,fc k [u,v] (S++X)=some (.bl true,S++(X++G))
theorem qu{k:Nat}{i:Int}{S:Sto}:gF (k+1) (.int i) (.int i) S:=fun X=>⟨[],by
 unfold fc;rw[fq]
 rwa[cy,wj,o9,CL,wH,eq_self,List.append_nil]⟩
theorem wN{k:Nat}{i:Str}{S:Sto}:gF (k+1) (.str i) (.str i) S:=fun X=>⟨[],by
 unfold fc;rw[fq]
 rwa[cy,wj,o9,CK,wH,eq_self,List.append_nil]⟩
theorem mC{k:Nat}{S:Sto}{ok:Sto->Prop}(hok:∀X,ok (S++X)):∀(ps:List (U×U)) (j:Nat) (X G:Sto) (r0 r1:Option U),(∀p∈ps,gF k p.1 p.2 S)->j+ps.length<=1000->
  ∃G',ft ok (gTp [0,1]) (cCB (fc k) (ao (ax 0) (ao (ax 1) aL))) (S.length+X.length) (ps.map fun p=>.tup [p.1,p.2]) [r0,r1] (S++(X++.lst (List.replicate j (.bl true))::G))=some (S++(X++.lst (List.replicate (j+ps.length) (.bl true))::G'))
 |[],j,X,G,r0,r1,_,_=>⟨G,mX (hok _)⟩
 |p::ps,j,X,G,r0,r1,h,hl=>by
  obtain⟨G1,e1⟩:=h p List.mem_cons_self (X++.lst (List.replicate j (.bl true))::G)
  obtain⟨G2,ih⟩:=mC hok ps (j+1) X (G++G1) (some p.1) (some p.2) (fun q hq=>h q (List.mem_cons_of_mem _ hq)) (by simp at hl;omega)
  refine⟨G2,?_⟩
  have e2:j+(p::ps).length=j+1+ps.length:=by simp;omega
  rw[e2,List.map_cons]
  refine(kr (ρ0:=[some p.1,some p.2]) (S0:=S++(X++.lst (List.replicate j (.bl true))::G)) (S1:=S++(X++.lst (List.replicate j (.bl true))::(G++G1))) (x:=.bl true) (ys:=List.replicate j (.bl true)) (hok _) (by rwa[]) ?_ ?_ (by unfold LIM;simp at hl ⊢;omega)).trans ?_
  ·rwa[e1]
  ·rw[ga,<-Nat.add_zero X.length,ga];rfl
  ·rw[gs,<-Nat.add_zero X.length,gs]
   rw[show(O.lst (List.replicate j (U.bl true))::(G++G1)).set 0 (.lst (List.replicate j (.bl true)++[.bl true]))=.lst (List.replicate (j+1) (.bl true))::(G++G1)by rw[List.replicate_succ'];rfl]
   exact ih
theorem wO{k:Nat}{us vs:List U}{S:Sto}(hl:us.length=vs.length)(hn:us.length<=1000)(h:∀p∈us.zip vs,gF k p.1 p.2 S):gF (k+1) (.tup us) (.tup vs) S:=fun X=>by
 obtain⟨G,e⟩:=mC (ok:=fun _=>True/\True) (S:=S) (fun _=>⟨trivial,trivial⟩) (us.zip vs) 0 X [] none none h (by simp[hl];omega)
 refine⟨.lst (List.replicate (0+(us.zip vs).length) (.bl true))::G,?_⟩
 unfold fc;rw[fq]
 have fl:eR (.bl false)=true/\(List.replicate (0+(us.zip vs).length) (U.bl true)).all eR=true:=⟨rfl,by simp[eR]⟩
 have nin:inU (.bl false) (List.replicate (0+(us.zip vs).length) (U.bl true))=false:=by
  unfold inU;rw[List.any_eq_false];intro x hx;rw[List.eq_of_mem_replicate hx];decide
 have g1:(S++(X++O.lst (List.replicate (0+(us.zip vs).length) (U.bl true))::G))[S.length+X.length]?=some (.lst (List.replicate (0+(us.zip vs).length) (.bl true))):=by rw[ga,<-Nat.add_zero X.length,ga];rfl
 have hl':((us.length:Nat):Int)=(vs.length:Int):=by omega
 have e':ft (fun _=>True/\True) (gTp [0,1]) (cCB (fc k) (ao (ax 0) (ao (ax 1) aL))) (S.length+X.length) (uu us vs) [none,none] (S++(X++[.lst []]))=some (S++(X++.lst (List.replicate (0+(us.zip vs).length) (.bl true))::G)):=e
 rwa[cy,wj,o9,CJ,wH,hl',eq_self,iU,Ff,vZ,lG,List.replicate,List.length_append,e',g1,Ci fl,nin,if_true]
theorem qt{k:Nat}{us vs:List U}{S:Sto}{l1 l2:Nat}(h1:S[l1]?=some (.lst us))(h2:S[l2]?=some (.lst vs))(hl:us.length=vs.length)(hn:us.length<=1000)(h:∀p∈us.zip vs,gF k p.1 p.2 S):gF (k+1) (.ref l1) (.ref l2) S:=fun X=>by
 have up:∀{l:Nat} {o:O} (Y:Sto),S[l]?=some o->(S++Y)[l]?=some o:=fun{l o} Y q=>by rw[List.getElem?_append_left (List.getElem?_eq_some_iff.mp q).1];exact q
 obtain⟨G,e⟩:=mC (ok:=fun S'=>S'[l1]?=some (.lst us)/\S'[l2]?=some (.lst vs)) (S:=S) (fun Y=>⟨up Y h1,up Y h2⟩) (us.zip vs) 0 X [] none none h (by simp[hl];omega)
 refine⟨.lst (List.replicate (0+(us.zip vs).length) (.bl true))::G,?_⟩
 unfold fc;rw[fq]
 have fl:eR (.bl false)=true/\(List.replicate (0+(us.zip vs).length) (U.bl true)).all eR=true:=⟨rfl,by simp[eR]⟩
 have nin:inU (.bl false) (List.replicate (0+(us.zip vs).length) (U.bl true))=false:=by
  unfold inU;rw[List.any_eq_false];intro x hx;rw[List.eq_of_mem_replicate hx];decide
 have g1:(S++(X++O.lst (List.replicate (0+(us.zip vs).length) (U.bl true))::G))[S.length+X.length]?=some (.lst (List.replicate (0+(us.zip vs).length) (.bl true))):=by rw[ga,<-Nat.add_zero X.length,ga];rfl
 have hl':((us.length:Nat):Int)=(vs.length:Int):=by omega
 have e':ft (fun S'=>S'[l1]?=some (.lst us)/\S'[l2]?=some (.lst vs)) (gTp [0,1]) (cCB (fc k) (ao (ax 0) (ao (ax 1) aL))) (S.length+X.length) (uu us vs) [none,none] (S++(X++[.lst []]))=some (S++(X++.lst (List.replicate (0+(us.zip vs).length) (.bl true))::G)):=e
 have q1:=up X h1
 have q2:=up X h2
 rwa[cy,wj,o9,yI q1,yI q2,q1,q2,wH,hl',eq_self,iU,Ff,vZ,lG,List.replicate,List.length_append,e',g1,Ci fl,nin,if_true]
theorem mf{us:List U}{P:U×U->Prop}(h:∀u∈us,P (u,u)):∀p∈us.zip us,P p:=fun p hp=>by
 obtain⟨e,m⟩:=mem_zip_self hp
 have:p=(p.1,p.1):=by cases p;simp at e;rw[e]
 rw[this];exact h _ m
theorem t4{k:Nat}{ns:List Int}{S:Sto}(hn:ns.length<=1000):gF (k+2) (.tup (ns.map U.int)) (.tup (ns.map U.int)) S:=
 wO rfl (by simpa using hn) (mf fun u hu=>by
  obtain⟨i,_,rfl⟩:=List.mem_map.mp hu
  exact qu)
theorem Ah{c:CE}{ρ:Rho}{S S':Sto}{i:Int}(h:c ρ S=some (.int i,S')):sC (some c) ρ S=some (some i,S'):=by simp only[sC,h,Option.bind_some]
def pU(p:Int×Int):U:=.tup [.int p.1,.int p.2]
theorem lY{ok:Sto->Prop}{g:CG}{ct:CT}{ce:CE}{l:Nat}{ρ:Rho}{S:Sto}(h:ok S):bV ok g ct ce l [] ρ S=some S:=by rw[bV,if_pos h]
theorem oy{ok:Sto->Prop}{g:CG}{ct:CT}{ce:CE}{l:Nat}{ρ ρ0:Rho}{S S0 S1:Sto}{u:U}{us:List U}(h:ok S)(hg:g u ρ S=some (ρ0,S0))(ht:ct ρ0 S0=some (false,S1)):bV ok g ct ce l (u::us) ρ S=bV ok g ct ce l us ρ0 S1:=by
 rw[bV,if_pos h,hg,Option.bind_some,ht,Option.bind_some,if_neg Bool.false_ne_true]
theorem lX{ok:Sto->Prop}{g:CG}{ct:CT}{ce:CE}{l:Nat}{ρ ρ0:Rho}{S S0 S1 S2:Sto}{u x:U}{us ys:List U}(h:ok S)(hg:g u ρ S=some (ρ0,S0))(ht:ct ρ0 S0=some (true,S1))(he:ce ρ0 S1=some (x,S2))(hl:S2[l]?=some (.lst ys))(hn:ys.length<LIM) :
  bV ok g ct ce l (u::us) ρ S=bV ok g ct ce l us ρ0 (S2.set l (.lst (ys++[x]))):=by
 rw[bV,if_pos h,hg,Option.bind_some,ht,Option.bind_some,if_pos rfl,he,Option.bind_some]
 simp only[hl,hn,if_true]
section
variable{w:Int}{first:List Int}{i ls lo lh ll:Nat}{m:M}{T:Sto}{n:Int}
theorem wQ{k:Nat}{ps:List (Int×Int)}{S:Sto}{l1 l2:Nat}(h1:S[l1]?=some (.lst (ps.map pU)))(h2:S[l2]?=some (.lst (ps.map pU)))(hn:ps.length<=1000):gF (k+3) (.ref l1) (.ref l2) S:=
 qt h1 h2 rfl (by simpa using hn) (mf fun u hu=>by
  obtain⟨p,_,rfl⟩:=List.mem_map.mp hu
  have:=t4 (k:=k) (ns:=[p.1,p.2]) (S:=S) (by simp)
  exact this)
theorem rO{k:Nat}{ns:List Int}{S:Sto}{l1 l2:Nat}(h1:S[l1]?=some (.lst (ns.map U.int)))(h2:S[l2]?=some (.lst (ns.map U.int)))(hn:ns.length<=1000):gF (k+2) (.ref l1) (.ref l2) S:=
 qt h1 h2 rfl (by simpa using hn) (mf fun u hu=>by
  obtain⟨p,_,rfl⟩:=List.mem_map.mp hu
  exact qu)
end
def Lay(k:Nat)(S:Sto)(u:U):Prop:=∃d,Dt S u d/\d.canLay0=true/\d.depth<=k
def iV(k:Nat)(S:Sto)(u v:U):Prop:=∃d,Dt S u d/\Dt S v d/\d.canLay0=true/\d.depth<=k
def fJ(k:Nat)(S:Sto)(us vs:List U):Prop:=∃ds,DtL S us ds/\DtL S vs ds/\PyData.canLayAll0 ds=true/\PyData.depthAll ds<=k
section
variable{k j:Nat}{S:Sto}{u v:U}{us vs:List U}
theorem Lay.int{i:Int}:Lay k S (.int i):=⟨_,.int i,rfl,Nat.zero_le _⟩
theorem Lay.str{x:Str}(h:PyData.strOk x=true):Lay k S (.str x):=⟨_,.str x,h,Nat.zero_le _⟩
theorem iV.refl(h:Lay k S u):iV k S u u:=by obtain⟨d,a,b,c⟩:=h;exact⟨d,a,a,b,c⟩
theorem fJ.nil:fJ k S [] []:=⟨[],.nil,.nil,rfl,Nat.zero_le _⟩
theorem fJ.cons(h:iV k S u v)(t:fJ k S us vs):fJ k S (u::us) (v::vs):=by
 obtain⟨d,a,b,c,e⟩:=h
 obtain⟨ds,a',b',c',e'⟩:=t
 refine⟨d::ds,.cons a a',.cons b b',by unfold PyData.canLayAll0;rw[c,c'];rfl,?_⟩
 unfold PyData.depthAll
 exact Nat.max_le.mpr ⟨e,e'⟩
theorem fJ.all:∀{us:List U},(∀u∈us,Lay k S u)->fJ k S us us
 |[],_=>.nil
 |u::us,h=>.cons (.refl (h u List.mem_cons_self)) (fJ.all fun x hx=>h x (List.mem_cons_of_mem _ hx))
theorem iV.tup(h:fJ k S us vs):iV (k+1) S (.tup us) (.tup vs):=by
 obtain⟨ds,a,b,c,e⟩:=h
 refine⟨.tuple ds,.tup a,.tup b,by unfold PyData.canLay0;exact c,?_⟩
 unfold PyData.depth
 omega
theorem iV.lst{l l':Nat}(h1:S[l]?=some (.lst us))(h2:S[l']?=some (.lst vs))(h:fJ k S us vs):iV (k+1) S (.ref l) (.ref l'):=by
 obtain⟨ds,a,b,c,e⟩:=h
 refine⟨.list ds,.lst h1 a,.lst h2 b,by unfold PyData.canLay0;exact c,?_⟩
 unfold PyData.depth
 omega
theorem Lay.tup(h:∀u∈us,Lay k S u):Lay (k+1) S (.tup us):=by
 obtain⟨d,a,_,b,c⟩:=iV.tup (fJ.all h)
 exact⟨d,a,b,c⟩
theorem iV.ne(h:iV k S u v)(hk:k<=60):oP true u v S=some (.bl false,S):=by
 obtain⟨d,a,b,c,e⟩:=h
 exact pA true (.inl ⟨d,d,a,b,⟨c,Nat.le_trans e hk⟩,⟨c,Nat.le_trans e hk⟩,(SeqAt.eqv_refl d c).symm⟩)
end
def eJ(ak:Fn):CS:=
 (eX (cBM cV (ax 3) (ao (cBM jg (ax 2) (ao (cCB ak (ao (ax 0) (ao (cCB oO (ao (ax 2) aL)) aL))) aL)) aL)))
def dF(ak:Fn):CS:=
 (bZ (fe 2 (iT (ao (cC (.int 200)) aL)))
  (bZ (fe 3 (md aL))
  (bZ (oA (d4 (ao (ax 1) aL)) (gNm 4) (eJ ak))
  (gS (ax 3)))))
theorem og{ak:Fn}{a0 a1:U}{S:Sto}:fnU 5 2 (dF ak) [a0,a1] S=((dF ak) [some a0,some a1,none,none,none] S).bind kFn:=lj rfl
def dc:CS:=
 (gS (cCB j9 (ao (iU (pj (ax 0)) (gTp [0,1]) (sG (ax 2) (ax 0) (ax 1)) 2 [1]) aL)))
theorem mV{a0 a1:U}{S:Sto}:fnU 2 2 (dc ) [a0,a1] S=((dc ) [some a0,some a1] S).bind kFn:=lj rfl
def cD(ak:Fn):CS:=
 (bZ (fe 6 (cCB ak (ao (ax 0) (ao (cC (.int 12)) aL))))
  (bZ (fe 7 (cCB ak (ao (ax 0) (ao (cOp fIx (ax 1) (cC (.int 0))) aL))))
  (bZ (gx (aN (cOp fLt (ax 6) (cC (.int 5)))) (bZ (fe 8 (cOp fIx (md (ao (cOp fIx (ax 3) (ax 7)) (ao (cOp fIx (ax 3) (ax 7)) (ao (cOp fIx (ax 5) (ax 7)) (ao (cCB ak (ao (ax 0) (ao (cOp fIx (ax 1) (cC (.int 1))) aL))) aL))))) (cCB ak (ao (ax 0) (ao (cC (.int 4)) aL)))))
  (gS (jk (ao (cC (.str "look")) (ao (ax 2) (ao (ax 7) (ao (sG (ax 4) (ax 7) (ax 8)) aL))))))) dR)
  (bZ (gx (aN (cOp fLt (ax 6) (cC (.int 8)))) (gS (jk (ao (cC (.str "put")) (ao (ax 2) (ao (ax 7) (ao (cCB ak (ao (ax 0) (ao (cOp fIx (ax 1) (cC (.int 1))) aL))) aL)))))) dR)
  (gS (jk (ao (cOp fIx (md (ao (cC (.str "done")) (ao (cC (.str "done")) (ao (cC (.str "done")) (ao (cC (.str "fall")) aL))))) (cOp Hm (ax 6) (cC (.int 8)))) (ao (ax 2) aL))))))))
theorem oh{ak:Fn}{a0 a1 a2 a3 a4 a5:U}{S:Sto}:fnU 9 6 (cD ak) [a0,a1,a2,a3,a4,a5] S=((cD ak) [some a0,some a1,some a2,some a3,some a4,some a5,none,none,none] S).bind kFn:=lj rfl
def eC(bJ ak bK bt:Fn):CS:=
 (gx (BD (aN (cOp (oP true) (ax 5) (md aL))) (cOr (aN (cOp (oP false) (ax 8) (md aL))) (aN (cOp fEq (cCB ak (ao (ax 0) (ao (cC (.int 4)) aL))) (cC (.int 0)))))) (bZ (eX (cBM cV (ax 8) (ao (jk (ao (cBM Bg (ax 5) aL) (ao (ax 7) (ao kY aL)))) aL)))
  (eX (cBM cV (ax 6) (ao (jk (ao (cC (.str "begin")) (ao (cOp fIx (cOp fIx (ax 8) (pI (cC (.int 1)))) (cC (.int 0))) aL))) aL)))) (gx (aN (cOp (oP true) (ax 8) (md aL))) (bZ (fe 10 (cCB ak (ao (ax 0) (ao (cCB oO (ao (ax 8) aL)) aL))))
  (bZ (EM (cOp fIx (ax 8) (ax 10)) (gTp [11,12,13]))
  (bZ (eX (cBM cV (ax 6) (ao (cCB bK (ao (ax 0) (ao (ax 1) (ao (ax 11) (ao (ax 12) (ao (ax 13) (ao (ax 7) aL))))))) aL)))
  (bZ (gx (aN (cOp fEq (cOp fIx (cOp fIx (ax 6) (pI (cC (.int 1)))) (cC (.int 0))) (cC (.str "put")))) (d7 (ax 13) (cOp fIx (cOp fIx (ax 6) (pI (cC (.int 1)))) (cC (.int 2))) (cOp fIx (cOp fIx (ax 6) (pI (cC (.int 1)))) (cC (.int 3)))) (gx (aN (cOp fEq (cOp fIx (cOp fIx (ax 6) (pI (cC (.int 1)))) (cC (.int 0))) (cC (.str "done")))) (fe 7 (cCB bt (ao (ax 7) (ao (ax 13) aL)))) dR))
  (gx (aN (cOp (fIn false) (cOp fIx (cOp fIx (ax 6) (pI (cC (.int 1)))) (cC (.int 0))) (jk (ao (cC (.str "done")) (ao (cC (.str "fall")) aL))))) (eX (cBM jg (ax 8) (ao (ax 10) aL))) dR))))) dR))
def eV(bJ ak bK bt:Fn):CS:=
 (bZ (fe 5 (cCB bJ (ao (ax 0) (ao (cCB ak (ao (ax 0) (ao (cOp lV (ax 3) (cC (.int 1))) aL))) aL))))
  (bZ (fe 6 (md aL))
  (bZ (fe 7 (ax 2))
  (bZ (fe 8 (md aL))
  (bZ (oA (d4 (ao (cCB ak (ao (ax 0) (ao (cOp lV (ax 4) (cC (.int 1))) aL))) aL)) (gNm 9) (eC bJ ak bK bt))
  (gS (ax 6)))))))
theorem sy{bJ ak bK bt:Fn}{a0 a1 a2 a3 a4:U}{S:Sto}:fnU 14 5 (eV bJ ak bK bt) [a0,a1,a2,a3,a4] S=((eV bJ ak bK bt) [some a0,some a1,some a2,some a3,some a4,none,none,none,none,none,none,none,none,none] S).bind kFn:=lj rfl
def dH:CS:=
 (gS (cCB fZ (ao (d8 (iTp (ax 0)) (gNm 0) (aN (cOp fEq (cOp fIx (ax 0) (cC (.int 0))) (cC (.str "begin")))) (cOp fIx (ax 0) (cC (.int 1))) 1 []) aL)))
theorem oj{a0:U}{S:Sto}:fnU 1 1 (dH ) [a0] S=((dH ) [some a0] S).bind kFn:=lj rfl
def bq(av:Cl):CS:=
 (gx (aN (cOp (fIn true) (ax 2) (cOp fIx (js av 3 (ax 0)) (ax 1)))) (bZ (eX (cBM cV (cOp fIx (js av 1 (ax 0)) (ax 1)) (ao (jk (ao (ax 2) (ao (ax 3) aL))) aL)))
  (ky (cOp fIx (js av 2 (ax 0)) (ax 1)) (ao (ax 2) (ao (ax 3) aL)) (cC (.bl true)))) dR)
theorem iI{av:Cl}{a0 a1 a2 a3:U}{S:Sto}:fnU 4 4 (bq av) [a0,a1,a2,a3] S=((bq av) [some a0,some a1,some a2,some a3] S).bind kFn:=lj rfl
def cP(av:Cl):CS:=
 (bZ (d7 (js av 4 (ax 0)) (ax 1) (jC (js av 0 (ax 0)) (gNm 0) (aN (cOp fNe (cOp fIx (js av 0 (ax 1)) (ax 0)) (cC (.str "open")))) (ax 0) 1 [0]))
  (bZ (d7 (js av 0 (ax 0)) (ax 1) (cC (.str "open")))
  (bZ (d7 (js av 1 (ax 0)) (ax 1) (md aL))
  (bZ (d7 (js av 2 (ax 0)) (ax 1) vM)
  (d7 (js av 3 (ax 0)) (ax 1) kY)))))
theorem kW{av:Cl}{a0 a1:U}{S:Sto}:fnU 2 2 (cP av) [a0,a1] S=((cP av) [some a0,some a1] S).bind kFn:=lj rfl
def aR(bL aP:Fn)(av:Cl):CS:=
 (bZ (fe 2 (cOp fIx (ax 1) (cC (.int 1))))
  (gx (aN (cOp fEq (cOp fIx (ax 1) (cC (.int 0))) (cC (.str "begin")))) (eX (sD av bL (ax 0) (ao (ax 2) aL))) (gx (aN (cOp fEq (cOp fIx (ax 1) (cC (.int 0))) (cC (.str "look")))) (eX (sD av aP (ax 0) (ao (ax 2) (ao (cOp fIx (ax 1) (cC (.int 2))) (ao (cOp fIx (ax 1) (cC (.int 3))) aL))))) (gx (aN (cOp fEq (cOp fIx (ax 1) (cC (.int 0))) (cC (.str "put")))) (d7 (cOp fIx (js av 3 (ax 0)) (ax 2)) (cOp fIx (ax 1) (cC (.int 2))) (cOp fIx (ax 1) (cC (.int 3)))) (d7 (js av 0 (ax 0)) (ax 2) (cOp fIx (ax 1) (cC (.int 0))))))))
theorem ki{bL aP:Fn}{av:Cl}{a0 a1:U}{S:Sto}:fnU 3 2 (aR bL aP av) [a0,a1] S=((aR bL aP av) [some a0,some a1,none] S).bind kFn:=lj rfl
def de(av:Cl):CS:=
 (bZ (pH av 0 (ax 0) kY)
  (bZ (pH av 1 (ax 0) kY)
  (bZ (pH av 2 (ax 0) kY)
  (bZ (pH av 3 (ax 0) kY)
  (pH av 4 (ax 0) kY)))))
theorem mW{av:Cl}{a0:U}{S:Sto}:fnU 1 1 (de av) [a0] S=((de av) [some a0] S).bind kFn:=lj rfl
def fB(aQ bu:Fn)(av:Cl):CS:=
 (eX (sD av aQ (ax 1) (ao (ax 2) aL)))
def d6(aQ bu:Fn)(av:Cl):CS:=
 (bZ (fe 1 (cCB (so av bu) aL))
  (bZ (oA (iTp (ax 0)) (gNm 2) (fB aQ bu av))
  (gS (ax 1))))
theorem pB{aQ bu:Fn}{av:Cl}{a0:U}{S:Sto}:fnU 3 1 (d6 aQ bu av) [a0] S=((d6 aQ bu av) [some a0,none,none] S).bind kFn:=lj rfl
section
variable{S:Sto}{l l':Nat}{us:List U}{u:U}{i:Int}
def qT(l:Nat)(i:Int)(S:Sto):Option O->Option (U×Sto)
 |some (.lst us)=>if 0<=i/\i<us.length/\us.length<=LIM then(us[i.toNat]?).bind fun u=>some (u,S.set l (.lst (us.eraseIdx i.toNat)))else none
 |_=>none
theorem oR:jg (.ref l) [.int i] S=qT l i S S[l]?:=by
 unfold jg qT;rfl
theorem mh(h0:0<=i)(h1:i<us.length)(hL:us.length<=LIM)(hu:us[i.toNat]?=some u):qT l i S (some (.lst us))=some (u,S.set l (.lst (us.eraseIdx i.toNat))):=by
 simp only[qT]
 rw[if_pos ⟨h0,h1,hL⟩,hu,Option.bind_some]
def E9(l:Nat)(S:Sto):Option O->Option (U×Sto)
 |some (.lst us)=>(us[us.length-1]?).bind fun u=>some (u,S.set l (.lst us.dropLast))
 |_=>none
theorem FC:Bg (.ref l) [] S=E9 l S S[l]?:=by
 unfold Bg E9;rfl
theorem BW{vs:List U}:E9 l S (some (.lst (vs++[u])))=some (u,S.set l (.lst vs)):=by
 unfold E9
 simp
def kNg:U×Sto->Option (U×Sto)
 |(.int i,S)=>some (.int (-i),S)
 |_=>none
theorem sO{ca:CE}{ρ:Rho}:pI ca ρ S=(ca ρ S).bind kNg:=by
 unfold pI
 congr 1
 funext p
 obtain⟨x,S⟩:=p
 cases x<;>rfl
theorem nh:kNg (.int i,S)=some (.int (-i),S):=rfl
theorem kC{vs:List U}:atI (vs++[u]) (-1)=some u:=by
 unfold atI ixN
 rw[if_neg (by omega),if_pos (by rw[List.length_append,List.length_singleton];omega)]
 simp only[Option.bind_some]
 have e:((-1:Int)+((vs++[u]).length:Int)).toNat=vs.length:=by rw[List.length_append,List.length_singleton];omega
 rw[e]
 simp
theorem uA(neg:Bool)(h:S[l]?=some (.lst us))(h':S[l']?=some (.lst [])):oP neg (.ref l) (.ref l') S=some (.bl (if neg then !decide (us=[])else decide (us=[])),S):=by
 by_cases e:us=[]
 ·subst e
  have k:=(iV.lst (k:=0) h h' .nil)
  obtain⟨d,a,b,c,e⟩:=k
  rw[decide_eq_true rfl]
  exact pA neg (.inl ⟨d,d,a,b,⟨c,Nat.le_trans e (by omega)⟩,⟨c,Nat.le_trans e (by omega)⟩,(SeqAt.eqv_refl d c).symm⟩)
 ·rw[decide_eq_false e]
  exact pA neg (.inr ⟨l,l',us,[],rfl,rfl,h,h',by simpa using e,rfl⟩)
end
theorem lW{α:Type}{l:List α}{k:Nat}(h:k<l.length):(l[k]::l.eraseIdx k).Perm l:=by
 rw[List.eraseIdx_eq_take_drop_succ]
 refine(List.perm_middle.symm).trans ?_
 rw[List.getElem_cons_drop h,List.take_append_drop]
theorem jV{α β:Type}(f:α->β)(l:List α)(k:Nat):(l.eraseIdx k).map f=(l.map f).eraseIdx k:=by
 rw[List.eraseIdx_eq_take_drop_succ,List.eraseIdx_eq_take_drop_succ,List.map_append,List.map_take,List.map_drop]
def iX:Fn:=fnU 5 2 (dF eD)
theorem lO(ns:List Int)(T:Sto){x1:Option U}:∀(us:List U) (r4:Option U) (left found:List Int) {a c:Int},0<=a->0<=c->left.length+found.length=200->us.length+found.length<=100->(found++left).Nodup->(∀x∈found++left,0<=x/\x<200)->
  ∃(r4':Option U) (left' found':List Int) (a' c':Int),ej (fun _=>True) (gNm 4) (eJ eD) us [some (.ref 1),x1,some (.ref (T.length+1+1)),some (.ref (T.length+1+1+1)),r4] (scr ns::pen a c::(T++[.lst (left.map U.int),.lst (found.map U.int)]))
   = some (.nx,[some (.ref 1),x1,some (.ref (T.length+1+1)),some (.ref (T.length+1+1+1)),r4'],scr ns::pen a' c'::(T++[.lst (left'.map U.int),.lst (found'.map U.int)]))/\found'.length=found.length+us.length/\found'.Nodup/\(∀x∈found',0<=x/\x<200)/\0<=a'/\0<=c'
 |[],r4,left,found,a,c,ha,hc,hl,hu,hd,hb=>⟨r4,left,found,a,c,et trivial,by simp,(List.nodup_append.mp hd).1,fun x hx=>hb x (List.mem_append_left _ hx),ha,hc⟩
 |u::us,r4,left,found,a,c,ha,hc,hl,hu,hd,hb=>by
  simp only[List.length_cons]at hu
  obtain⟨f,a1,c1,e1,p1,q1,ha1,hc1⟩:=cY ns (T++[.lst (left.map U.int),.lst (found.map U.int)]) (m:=(left.length:Int)) ha hc (by omega) (l9 (by omega) (by omega))
  have hk:f.toNat<left.length:=by omega
  have hp:(found++[left[f.toNat]]++left.eraseIdx f.toNat).Perm (found++left):=by
   rw[List.append_assoc]
   refine List.Perm.append_left _ ?_
   exact lW hk
  obtain⟨r4',left',found',a',c',ih,k1,k2⟩:=lO ns T (x1:=x1) us (some u) (left.eraseIdx f.toNat) (found++[left[f.toNat]]) ha1 hc1 (by rw[List.length_eraseIdx_of_lt hk,List.length_append,List.length_singleton];omega) (by rw[List.length_append,List.length_singleton];omega) (hp.nodup_iff.mpr hd) (fun x hx=>hb x (hp.mem_iff.mp hx))
  refine⟨r4',left',found',a',c',(fX trivial rfl ?_).trans ih,by rw[k1,List.length_append,List.length_singleton,List.length_cons];omega,k2⟩
  have hg:(left.map U.int)[f.toNat]?=some (.int left[f.toNat]):=by rw[List.getElem?_map,List.getElem?_eq_getElem hk];rfl
  have h1:(left.map U.int).length<=LIM:=by unfold LIM;rw[List.length_map];omega
  have h2:(found.map U.int).length<LIM:=by unfold LIM;rw[List.length_map];omega
  rwa[eJ,e1,oR,mh p1 (show f<((left.map U.int).length:Int)by rw[List.length_map];exact q1) h1 hg,jE h2,List.length_map]
  rw[List.map_append,jV]
  rfl
theorem t5(n:Nat):cH 0 n=((List.range n).map fun i:Nat=>(i:Int)).map U.int:=by
 unfold cH
 rw[List.map_map]
 refine List.map_congr_left fun i _=>?_
 simp
theorem xE(ns:List Int)(T:Sto){a c m:Int}(ha:0<=a)(hc:0<=c)(m0:0<=m)(m1:m<=100) :
  ∃(left names:List Int) (a' c':Int),iX [.ref 1,.int m] (scr ns::pen a c::T)=some (.ref (T.length+1+1+1),scr ns::pen a' c'::(T++[.lst (left.map U.int),.lst (names.map U.int)]))/\names.length=m.toNat/\names.Nodup/\(∀x∈names,0<=x/\x<200)/\0<=a'/\0<=c':=by
 unfold iX
 rw[og]
 have hL:(((List.range 200).map fun i:Nat=>(i:Int))).Nodup:=List.Pairwise.map _ (fun a b h e=>h (by omega)) List.nodup_range
 obtain⟨r4,left,names,a',c',e,k1,k2,k3,k4,k5⟩:=lO ns T (x1:=some (.int m)) (cH 0 m.toNat) none ((List.range 200).map fun i:Nat=>(i:Int)) [] ha hc (by simp) (by simp[cH];omega) (by rw[List.nil_append];exact hL) (fun x hx=>by
  rw[List.nil_append]at hx
  obtain⟨i,hi,rfl⟩:=List.mem_map.mp hx
  have:=List.mem_range.mp hi
  omega)
 refine⟨left,names,a',c',?_,by rw[k1];simp[cH],k2,k3,k4,k5⟩
 have hr:-(2^62)<=m/\m<2^62:=by omega
 have hR:iT (ao (cC (.int 200)) aL) [some (.ref 1),some (.int m),none,none,none] (scr ns::pen a c::T)=some (.ref (T.length+1+1),scr ns::pen a c::(T++[.lst (((List.range 200).map fun i:Nat=>(i:Int)).map U.int)])):=by
  rw[<-t5]
  rfl
 simp only[List.map_nil]at e
 rwa[dF,hR,oA,d4,hr,if_true,and_self,List.length_append,e]
inductive Ev where
 |beg (a:Int)|look (a b x:Int)|put (a b x:Int)|fin (d:Bool) (a:Int)
def gu(d:Bool):Str:=if d then "done" else "fall"
def Ev.u:Ev->U
 |.beg a=>.tup [.str "begin",.int a]
 |.look a b x=>.tup [.str "look",.int a,.int b,.int x]
 |.put a b x=>.tup [.str "put",.int a,.int b,.int x]
 |.fin d a=>.tup [.str (gu d),.int a]
structure Att where
 en:Option Bool
 lk:List (Int×Int)
 nd:List (Int×Int)
 ps:List (Int×Int)
 bf:List Int
abbrev St:=List (Int×Att)
def m6(st:St):Att:=⟨none,[],[],[],(st.filter fun p=>p.2.en.isSome).map (·.1)⟩
def zj(nd:List (Int×Int))(p:Int×Int):List (Int×Int):=if p∈nd then nd else nd++[p]
def Att.ev(t:Att):Ev->Att
 |.beg _=>t
 |.look _ b x=>if (br t.ps b).isSome then t else { t with lk:=t.lk++[(b,x)],nd:=zj t.nd (b,x) }
 |.put _ b x=>{ t with ps:=ig t.ps b x }
 |.fin d _=>{ t with en:=some d }
def Ev.at:Ev->Int
 |.beg a=>a|.look a _ _=>a|.put a _ _=>a|.fin _ a=>a
def vY(st:St)(a:Int)(f:Att->Att):St:=st.map fun p=>if p.1=a then(p.1,f p.2)else p
def stp(st:St):Ev->St
 |.beg a=>st++[(a,m6 st)]
 |e=>vY st e.at fun t=>t.ev e
def aA(st:St):List Int:=st.map (·.1)
def rE(n w:Int)(st:St):Ev->Prop
 |.beg a=>0<=a/\a<200/\a∉aA st
 |.look a b x=>(0<=b/\b<n/\0<=x/\x<w)/\∃t,br st a=some t/\t.en=none/\(∀y,br t.ps b=some y->y=x)
 |.put a b x=>(0<=b/\b<n/\0<=x/\x<w)/\∃t,br st a=some t/\t.en=none
 |.fin _ a=>∃t,br st a=some t/\t.en=none
def oQ(n w:Int):St->List Ev->Prop
 |_,[]=>True
 |st,e::r=>rE n w st e/\oQ n w (stp st e) r
def bj(st:St)(es:List Ev):St:=es.foldl stp st
theorem jX{n w:Int}{e:Ev}:∀{es:List Ev} {st:St},oQ n w st (es++[e])↔oQ n w st es/\rE n w (bj st es) e
 |[],st=>by simp[oQ,bj]
 |x::es,st=>by
  have ih:=jX (n:=n) (w:=w) (e:=e) (es:=es) (st:=stp st x)
  simp only[List.cons_append,oQ,bj,List.foldl_cons]at ih ⊢
  rw[ih,and_assoc]
theorem bE{st:St}{es:List Ev}{e:Ev}:bj st (es++[e])=stp (bj st es) e:=by
 unfold bj;rw[List.foldl_append];rfl
theorem gU{κ α:Type}[DecidableEq κ]{ps:List (κ×α)}{k:κ}{v:α}(h:br ps k=some v):(k,v)∈ps:=by
 unfold br at h
 obtain⟨p,hp,rfl⟩:=Option.map_eq_some_iff.mp h
 have:=List.find?_some hp
 have e:p.1=k:=by simpa using this
 subst e
 exact List.mem_of_find?_eq_some hp
theorem eM{κ α:Type}[DecidableEq κ]{ps:List (κ×α)}{k:κ}:br ps k=none↔k∉ps.map (·.1):=by
 unfold br
 rw[Option.map_eq_none_iff,List.find?_eq_none]
 simp only[decide_eq_true_eq,List.mem_map,not_exists,not_and]
theorem uN{st:St}{a:Int}{f:Att->Att}:aA (vY st a f)=aA st:=by
 unfold aA vY
 rw[List.map_map]
 refine List.map_congr_left fun p _=>?_
 simp only[Function.comp]
 split<;>rfl
theorem qg{st:St}{a:Int}{f:Att->Att}{b:Int}:br (vY st a f) b=if b=a then(br st b).map f else br st b:=by
 unfold br vY
 induction st with
 |nil=>simp
 |cons p r ih=>
  simp only[List.map_cons,List.find?_cons]
  by_cases e:p.1=b
  ·subst e
   by_cases e2:p.1=a
   ·subst e2;simp
   ·simp[e2]
  ·have e3:(if p.1=a then(p.1,f p.2)else p).1=p.1:=by split<;>rfl
   rw[e3,decide_eq_false e]
   exact ih
theorem jt{κ α:Type}[DecidableEq κ]{ps qs:List (κ×α)}{k:κ}:br (ps++qs) k=(br ps k).or (br qs k):=by
 unfold br
 rw[List.find?_append]
 cases List.find? (fun kv=>decide (kv.1=k)) ps<;>simp
theorem gq{st:St}{e:Ev}:aA (stp st e)=match e with
  |.beg a=>aA st++[a]
  |_=>aA st:=by
 cases e with
 |beg a=>simp[stp,aA]
 |_=>simp only[stp,uN]
theorem bT{st:St}{e:Ev}{b:Int}(h:b≠e.at):br (stp st e) b=br st b:=by
 cases e with
 |beg a=>
  have h':a≠b:=Ne.symm h
  simp[stp,jt]
  cases br st b with
  |some t=>rfl
  |none=>simp[br,h']
 |_=>simp only[stp,qg,if_neg h]
theorem b0{st:St}{e:Ev}{t:Att}(h:br st e.at=some t):br (stp st e) e.at=some (t.ev e):=by
 cases e with
 |beg a=>simp only[stp,jt,Ev.at]at h ⊢;rw[h];rfl
 |_=>simp only[stp,qg,if_pos];rw[h];rfl
theorem dW{st:St}{a:Int}(h:a∉aA st):br (stp st (.beg a)) a=some (m6 st):=by
 simp only[stp,jt]
 rw[eM.mpr h]
 simp[br]
theorem dB{n w:Int}{st:St}{e:Ev}(h:(aA st).Nodup)(ok:rE n w st e):(aA (stp st e)).Nodup:=by
 rw[gq]
 cases e with
 |beg a=>
  refine List.nodup_append.mpr ⟨h,by simp,fun x hx y hy e=>?_⟩
  simp at hy
  subst hy;subst e
  exact ok.2.2 hx
 |_=>exact h
def gR:Fn:=fnU 9 6 (cD eD)
theorem yb(ns:List Int)(T:Sto){a c n w at_:Int}{seen now:List Int}{r:Nat}{ps:List (Int×Int)}(ha:0<=a)(hc:0<=c)(n0:1<=n)(n1:n<=6)(w0:2<=w)(w1:w<=1000)(hr:T[r]?=some (.dic (ji ps)))(hs:seen.length=n.toNat)(bs:∀z∈seen,0<=z/\z<w)(hn:now.length=n.toNat)(bn:∀z∈now,0<=z/\z<w)(bp:∀p∈ps,0<=p.2/\p.2<w) :
  ∃(e:Ev) (a' c':Int) (G:Sto),gR [.ref 1,.tup [.int n,.int w],.int at_,.tup (seen.map U.int),.ref (r+1+1),.tup (now.map U.int)] (scr ns::pen a c::T)=some (e.u,scr ns::pen a' c'::(T++G))/\e.at=at_/\(∀{st:St} {t:Att},br st at_=some t->t.en=none->t.ps=ps->rE n w st e)/\(∀x,e≠.beg x)/\0<=a'/\0<=c':=by
 unfold gR
 rw[oh]
 obtain⟨way,a1,c1,e1,p1,q1,ha1,hc1⟩:=cY ns T (m:=12) ha hc (by decide) (by decide +kernel)
 obtain⟨box,a2,c2,e2,p2,q2,ha2,hc2⟩:=cY ns T (m:=n) ha1 hc1 (by omega) (l9 (by omega) (by omega))
 by_cases c5:way<5
 ·obtain⟨f,a3,c3,e3,p3,q3,ha3,hc3⟩:=cY ns T (m:=w) ha2 hc2 (by omega) (l9 (by omega) (by omega))
  obtain⟨sb,hsb⟩:∃z,z=seen.getD box.toNat 0:=⟨_,rfl⟩
  obtain⟨nb,hnb⟩:∃z,z=now.getD box.toNat 0:=⟨_,rfl⟩
  obtain⟨g,a4,c4,e4,p4,q4,ha4,hc4⟩:=cY ns (T++[.lst [.int sb,.int sb,.int nb,.int f]]) (m:=4) ha3 hc3 (by decide) (by decide +kernel)
  have k1:=atF hs p2 q2
  have k2:=atF hn p2 q2
  have hb1:box.toNat<seen.length:=by omega
  have hb2:box.toNat<now.length:=by omega
  have b1:0<=sb/\sb<w:=by
   rw[hsb,List.getD_eq_getElem?_getD,List.getElem?_eq_getElem hb1];exact bs _ (List.getElem_mem hb1)
  have b2:0<=nb/\nb<w:=by
   rw[hnb,List.getD_eq_getElem?_getD,List.getElem?_eq_getElem hb2];exact bn _ (List.getElem_mem hb2)
  rw[<-hsb]at k1
  rw[<-hnb]at k2
  have pick:∃z:Int,atI [U.int sb,U.int sb,U.int nb,U.int f] g=some (.int z)/\0<=z/\z<w:=by
   have:g=0\/g=1\/g=2\/g=3:=by omega
   rcases this with rfl|rfl|rfl|rfl
   ·exact⟨sb,rfl,b1⟩
   ·exact⟨sb,rfl,b1⟩
   ·exact⟨nb,rfl,b2⟩
   ·exact⟨f,rfl,p3,q3⟩
  obtain⟨z,hz,z0,z1⟩:=pick
  have hr':∀G:Sto,(T++G)[r]?=some (.dic (ji ps)):=fun G=>aD hr
  obtain⟨v,hv⟩:∃v,v=(br ps box).getD z:=⟨_,rfl⟩
  have hv2:((br ps box).map U.int).getD (.int z)=.int v:=by rw[hv];cases br ps box<;>rfl
  refine⟨.look at_ box v,a4,c4,[.lst [.int sb,.int sb,.int nb,.int f]],?_,rfl,fun h1 h2 h3=>⟨⟨p2,q2,?_⟩,_,h1,h2,fun y hy=>?_⟩,(fun x h=>by cases h),ha4,hc4⟩
  ·rwa[cD,e1,e2,e3,e4,c5,k1,k2,hz,hr',gT,hv2,Ev.u]
  ·rw[hv]
   cases hq:br ps box with
   |none=>exact⟨z0,z1⟩
   |some y=>exact bp _ (gU hq)
  ·rw[h3]at hy
   rw[hv,hy];rfl
 by_cases c8:way<8
 ·obtain⟨f,a3,c3,e3,p3,q3,ha3,hc3⟩:=cY ns T (m:=w) ha2 hc2 (by omega) (l9 (by omega) (by omega))
  refine⟨.put at_ box f,a3,c3,[],?_,rfl,fun h1 h2 h3=>⟨⟨p2,q2,p3,q3⟩,_,h1,h2⟩,(fun x h=>by cases h),ha3,hc3⟩
  rwa[cD,e1,e2,e3,c5,c8,Ev.u,List.append_nil]
 have pick:∃d:Bool,atI [U.str "done",U.str "done",U.str "done",U.str "fall"] (way-8)=some (.str (gu d)):=by
  have:way=8\/way=9\/way=10\/way=11:=by omega
  rcases this with rfl|rfl|rfl|rfl
  ·exact⟨true,rfl⟩
  ·exact⟨true,rfl⟩
  ·exact⟨true,rfl⟩
  ·exact⟨false,rfl⟩
 obtain⟨d,hd⟩:=pick
 refine⟨.fin d at_,a2,c2,[.lst [.str "done",.str "done",.str "done",.str "fall"]],?_,rfl,fun h1 h2 h3=>⟨_,h1,h2⟩,(fun x h=>by cases h),ha2,hc2⟩
 rwa[cD,e1,e2,c5,c8,hd,Ev.u]
def gQ:Fn:=fnU 2 2 dc
theorem lJ{S:Sto}{r:Nat}{ps:List (Int×Int)}(hr:S[r]?=some (.dic (ji ps))):∀(xs:List Int) (k:Nat) (ys:List Int) (r0 r1:Option U),ys.length+xs.length<=1000->
  ∃zs,ft (fun _=>True) (gTp [0,1]) (sG (ax 2) (ax 0) (ax 1)) S.length (((xs.map U.int).zipIdx k).map fun p=>.tup [.int p.2,p.1]) [r0,r1,some (.ref r)] (S++[.lst (ys.map U.int)])=some (S++[.lst ((ys++zs).map U.int)])/\zs=beh xs ps k
 |[],k,ys,r0,r1,hl=>⟨[],by simp only[List.map_nil,List.zipIdx_nil,List.append_nil];exact mX trivial,rfl⟩
 |x::xs,k,ys,r0,r1,hl=>by
  obtain⟨v,hv⟩:∃v,v=(br ps (k:Int)).getD x:=⟨_,rfl⟩
  have hv2:((br ps (k:Int)).map U.int).getD (.int x)=.int v:=by rw[hv];cases br ps (k:Int)<;>rfl
  obtain⟨zs,h2,e2⟩:=lJ hr xs (k+1) (ys++[v]) (some (.int k)) (some (.int x)) (by simp at hl ⊢;omega)
  refine⟨v::zs,?_,by rw[e2,hv];rfl⟩
  have hr':∀G:Sto,(S++G)[r]?=some (.dic (ji ps)):=fun G=>aD hr
  simp only[List.map_cons,List.zipIdx_cons]
  refine(kr (ρ0:=[some (.int k),some (.int x),some (.ref r)]) (S0:=S++[.lst (ys.map U.int)]) (S1:=S++[.lst (ys.map U.int)]) (x:=.int v) (ys:=ys.map U.int) trivial rfl ?_ ?_ (by unfold LIM;simp at hl ⊢;omega)).trans ?_
  ·rwa[hr',gT,hv2]
  ·rwa[]
  ·have e5:(S++[O.lst (ys.map U.int)]).set S.length (.lst (ys.map U.int++[U.int v]))=S++[.lst ((ys++[v]).map U.int)]:=by
    rwa[List.map_append,List.map_cons,List.map_nil]
   rw[e5,h2]
   simp
theorem wZ{S:Sto}{r:Nat}{ps:List (Int×Int)}{now:List Int}(hr:S[r]?=some (.dic (ji ps)))(hl:now.length<=1000) :
  gQ [.tup (now.map U.int),.ref r] S=some (.tup ((beh now ps 0).map U.int),S++[.lst ((beh now ps 0).map U.int)]):=by
 unfold gQ
 rw[mV]
 obtain⟨zs,h,e⟩:=lJ hr now 0 [] none none (by simpa using hl)
 subst e
 simp only[List.map_nil,List.nil_append]at h
 have es:vZ (.tup (now.map U.int)) S=some (now.map U.int,fun _=>True):=rfl
 rwa[dc,iU,pj,es,vn,lG,List.replicate,Option.getD_some,h]
structure Go where
 a:Int
 seen:List Int
 r:Nat
def Go.u(g:Go):U:=.tup [.int g.a,.tup (g.seen.map U.int),.ref (g.r+1+1)]
structure LgI(n w:Int)(N:Nat)(T0 T:Sto)(ln ll lg:Nat)(names:List Int)(evs:List Ev)(g:List Go)(now:List Int):Prop where
 hn:T[ln]?=some (.lst (names.map U.int))
 hl:T[ll]?=some (.lst (evs.map Ev.u))
 hg:T[lg]?=some (.lst (g.map Go.u))
 bn:T0.length<=ln
 bl:T0.length<=ll
 bg:T0.length<=lg
 n1:ln≠ll
 n2:ln≠lg
 n3:ll≠lg
 go:∀x∈g,(T0.length<=x.r/\x.r≠ln/\x.r≠ll/\x.r≠lg/\x.seen.length=n.toNat/\(∀z∈x.seen,0<=z/\z<w))/\∃t,br (bj [] evs) x.a=some t/\t.en=none/\T[x.r]?=some (.dic (ji t.ps))
 gd:g.Pairwise fun x y=>x.r≠y.r/\x.a≠y.a
 nd:names.Nodup
 nb:∀x∈names,0<=x/\x<200/\x∉aA (bj [] evs)
 lo:oQ n w [] evs
 kd:(aA (bj [] evs)).Nodup
 cnt:(bj [] evs).length+names.length<=N
 gl:g.length<=(bj [] evs).length
 nw:now.length=n.toNat
 nwb:∀z∈now,0<=z/\z<w
 pb:∀a t,br (bj [] evs) a=some t->t.ps.length<=evs.length/\∀p∈t.ps,(0<=p.1/\p.1<n)/\0<=p.2/\p.2<w
 fr:∀i,i<T0.length->T[i]?=T0[i]?
 le:T0.length<=T.length
section
variable{n w:Int}{N:Nat}{T0 T T':Sto}{ln ll lg:Nat}{names:List Int}{evs:List Ev}{g:List Go}{now:List Int}
theorem LgI.app(h:LgI n w N T0 T ln ll lg names evs g now)(G:Sto):LgI n w N T0 (T++G) ln ll lg names evs g now:=
 { h with
  hn:=aD h.hn,hl:=aD h.hl,hg:=aD h.hg
  go:=fun x hx=>by obtain⟨k,t,h1,h2,h3⟩:=h.go x hx;exact⟨k,t,h1,h2,aD h3⟩
  fr:=fun i hi=>by rw[List.getElem?_append_left (Nat.lt_of_lt_of_le hi h.le)];exact h.fr i hi
  le:=by rw[List.length_append];have:=h.le;omega }
theorem xJ{κ α:Type}[DecidableEq κ]{ps:List (κ×α)}{b:κ}{v:α}{p:κ×α}(h:p∈ig ps b v):p∈ps\/p=(b,v):=by
 unfold ig at h
 split at h
 ·obtain⟨q,hq,rfl⟩:=List.mem_map.mp h
  split
  ·rename_i e
   right
   rw[<-e]
  ·exact .inl hq
 ·rcases List.mem_append.mp h with z|z
  ·exact .inl z
  ·simp at z;exact .inr z
theorem uJ{st:St}{e:Ev}(h:∀x,e≠.beg x):(stp st e).length=st.length:=by
 cases e with
 |beg a=>exact absurd rfl (h a)
 |_=>simp[stp,vY]
theorem LgI.begin{a0:Int}(h:LgI n w N T0 T ln ll lg (names++[a0]) evs g now)(hn:T'[ln]?=some (.lst (names.map U.int)))(hl:T'[ll]?=some (.lst ((evs++[Ev.beg a0]).map Ev.u)))(hg:T'[lg]?=some (.lst ((g++[Go.mk a0 now T.length]).map Go.u)))
  (hd:T'[T.length]?=some (.dic [])) (old:∀i,i≠ln->i≠ll->i≠lg->i<T.length->T'[i]?=T[i]?) (le:T.length<=T'.length):LgI n w N T0 T' ln ll lg names (evs++[.beg a0]) (g++[⟨a0,now,T.length⟩]) now:=by
 have ha:a0∈names++[a0]:=by simp
 obtain⟨a1,a2,a3⟩:=h.nb a0 ha
 have ok:rE n w (bj [] evs) (.beg a0):=⟨a1,a2,a3⟩
 have hb:=h.le
 have dn:=List.nodup_append.mp h.nd
 have oth:∀{x:Int},x∈aA (bj [] evs)->x≠a0:=fun hx e=>a3 (e▸hx)
 have vk:∀{x:Int} {t:Att},br (bj [] evs) x=some t->x∈aA (bj [] evs):=fun e=>List.mem_map.mpr ⟨_,gU e,rfl⟩
 refine { h with hn:=hn,hl:=hl,hg:=hg,nd:=dn.1,lo:=jX.mpr ⟨h.lo,ok⟩,kd:=by rw[bE];exact dB h.kd ok,go:=?go,gd:=?gd,nb:=?nb,cnt:=?cnt,gl:=?gl,pb:=?pb,fr:=?fr,le:=?le }
 case go=>
  intro x hx
  rcases List.mem_append.mp hx with hx|hx
  ·obtain⟨⟨k1,k2,k3,k4,k5⟩,t,h1,h2,h3⟩:=h.go x hx
   refine⟨⟨k1,k2,k3,k4,k5⟩,t,?_,h2,?_⟩
   ·rw[bE,bT (show x.a≠(Ev.beg a0).at from oth (vk h1))];exact h1
   ·rw[old _ k2 k3 k4 (cw h3)];exact h3
  ·simp at hx
   subst hx
   have z1:=cw h.hn
   have z2:=cw h.hl
   have z3:=cw h.hg
   refine⟨⟨hb,by dsimp only;omega,by dsimp only;omega,by dsimp only;omega,h.nw,h.nwb⟩,m6 (bj [] evs),?_,rfl,hd⟩
   rw[bE];exact dW a3
 case gd=>
  refine List.pairwise_append.mpr ⟨h.gd,by simp,fun x hx y hy=>?_⟩
  simp at hy
  subst hy
  obtain⟨_,t,h1,h2,h3⟩:=h.go x hx
  have:=cw h3
  exact⟨by dsimp only;omega,oth (vk h1)⟩
 case nb=>
  intro x hx
  obtain⟨b1,b2,b3⟩:=h.nb x (List.mem_append_left _ hx)
  refine⟨b1,b2,?_⟩
  rw[bE,gq]
  simp only[List.mem_append,List.mem_singleton,not_or]
  exact⟨b3,dn.2.2 x hx a0 (by simp)⟩
 case cnt=>
  have:=h.cnt
  rw[bE]
  simp[stp]at this ⊢
  omega
 case gl=>
  have:=h.gl
  rw[bE]
  simp[stp]
  omega
 case pb=>
  intro a t e
  rw[bE]at e
  by_cases c:a=a0
  ·subst c
   rw[dW a3]at e
   cases e
   simp[m6]
  ·rw[bT (show a≠(Ev.beg a0).at from c)]at e
   obtain⟨k1,k2⟩:=h.pb a t e
   exact⟨by rw[List.length_append];omega,k2⟩
 case fr=>
  intro i hi
  have:=h.bn;have:=h.bl;have:=h.bg
  rw[old i (by omega) (by omega) (by omega) (by omega)]
  exact h.fr i hi
 case le=>
  omega
theorem LgI.ev{e:Ev}{x:Go}{t:Att}{g':List Go}{now':List Int}(h:LgI n w N T0 T ln ll lg names evs g now)(ht:br (bj [] evs) x.a=some t)(ea:e.at=x.a)(ok:rE n w (bj [] evs) e)(nb:∀y,e≠.beg y)(sub:g'.Sublist g)
  (hn:T'[ln]?=T[ln]?) (hl:T'[ll]?=some (.lst ((evs++[e]).map Ev.u))) (hg:T'[lg]?=some (.lst (g'.map Go.u)))
  (oth:∀y∈g',(y=x/\(t.ev e).en=none/\T'[y.r]?=some (.dic (ji (t.ev e).ps)))\/(y.a≠x.a/\T'[y.r]?=T[y.r]?))
  (fr:∀i,i<T0.length->T'[i]?=T[i]?) (le:T.length<=T'.length) (nw:now'.length=n.toNat) (nwb:∀z∈now',0<=z/\z<w):LgI n w N T0 T' ln ll lg names (evs++[e]) g' now':=by
 have hb:=h.le
 have ks:aA (stp (bj [] evs) e)=aA (bj [] evs):=by
  rw[gq]
  cases e with
  |beg a=>exact absurd rfl (nb a)
  |_=>rfl
 refine { h with hn:=by rw[hn];exact h.hn,hl:=hl,hg:=hg,lo:=jX.mpr ⟨h.lo,ok⟩,kd:=by rw[bE];exact dB h.kd ok,nw:=nw,nwb:=nwb,gd:=h.gd.sublist sub,nb:=fun y hy=>by rw[bE,ks];exact h.nb y hy,fr:=fun i hi=>by rw[fr i hi];exact h.fr i hi,le:=by omega,cnt:=by rw[bE,uJ nb];exact h.cnt,gl:=by rw[bE,uJ nb];have:=h.gl;have:=sub.length_le;omega,go:=?go,pb:=?pb }
 case go=>
  intro y hy
  obtain⟨k,u,h1,h2,h3⟩:=h.go y (sub.subset hy)
  refine⟨k,?_⟩
  rcases oth y hy with⟨rfl,o1,o2⟩|⟨o1,o2⟩
  ·refine⟨t.ev e,?_,o1,o2⟩
   rw[bE,<-ea]
   exact b0 (by rw[ea];exact ht)
  ·refine⟨u,?_,h2,by rw[o2];exact h3⟩
   rw[bE,bT (by rw[ea];exact o1)]
   exact h1
 case pb=>
  intro a u e1
  rw[bE]at e1
  by_cases c:a=e.at
  ·subst c
   rw[b0 (by rw[ea];exact ht)]at e1
   cases e1
   obtain⟨k1,k2⟩:=h.pb _ _ ht
   rw[List.length_append,List.length_singleton]
   cases e with
   |beg a=>exact absurd rfl (nb a)
   |look a b v=>
    simp only[Att.ev]
    split
    ·exact⟨by omega,k2⟩
    ·exact⟨by dsimp only;omega,k2⟩
   |put a b v=>
    obtain⟨⟨b1,b2,b3,b4⟩,_⟩:=ok
    refine⟨Nat.le_trans (qP t.ps b v) (by omega),fun p hp=>?_⟩
    rcases xJ hp with z|z
    ·exact k2 p z
    ·subst z;exact⟨⟨b1,b2⟩,b3,b4⟩
   |fin d a=>exact⟨by simp only[Att.ev];omega,k2⟩
  ·rw[bT c]at e1
   obtain⟨k1,k2⟩:=h.pb a u e1
   exact⟨by rw[List.length_append];omega,k2⟩
end
theorem gss{S:Sto}{i:Nat}{o:O}:(S.set i o)[i]?=(S[i]?).map fun _=>o:=by
 by_cases h:i<S.length
 ·rw[List.getElem?_set_self h,List.getElem?_eq_getElem h];rfl
 ·rw[List.getElem?_eq_none (by simpa using h),List.getElem?_eq_none (by simpa using h)];rfl
theorem gsn{S:Sto}{i j:Nat}{o:O}(h:i≠j):(S.set i o)[j]?=S[j]?:=List.getElem?_set_ne h
def GC:CS:=(bZ (eX (cBM cV (ax 8) (ao (jk (ao (cBM Bg (ax 5) aL) (ao (ax 7) (ao kY aL)))) aL)))
  (eX (cBM cV (ax 6) (ao (jk (ao (cC (.str "begin")) (ao (cOp fIx (cOp fIx (ax 8) (pI (cC (.int 1)))) (cC (.int 0))) aL))) aL))))
def BA:CS:=(bZ (gx (aN (cOp fEq (cOp fIx (cOp fIx (ax 6) (pI (cC (.int 1)))) (cC (.int 0))) (cC (.str "put")))) (d7 (ax 13) (cOp fIx (cOp fIx (ax 6) (pI (cC (.int 1)))) (cC (.int 2))) (cOp fIx (cOp fIx (ax 6) (pI (cC (.int 1)))) (cC (.int 3)))) (gx (aN (cOp fEq (cOp fIx (cOp fIx (ax 6) (pI (cC (.int 1)))) (cC (.int 0))) (cC (.str "done")))) (fe 7 (cCB gQ (ao (ax 7) (ao (ax 13) aL)))) dR))
  (gx (aN (cOp (fIn false) (cOp fIx (cOp fIx (ax 6) (pI (cC (.int 1)))) (cC (.int 0))) (jk (ao (cC (.str "done")) (ao (cC (.str "fall")) aL))))) (eX (cBM jg (ax 8) (ao (ax 10) aL))) dR))
def rEv:CS:=(bZ (fe 10 (cCB eD (ao (ax 0) (ao (cCB oO (ao (ax 8) aL)) aL))))
  (bZ (EM (cOp fIx (ax 8) (ax 10)) (gTp [11,12,13]))
  (bZ (eX (cBM cV (ax 6) (ao (cCB gR (ao (ax 0) (ao (ax 1) (ao (ax 11) (ao (ax 12) (ao (ax 13) (ao (ax 7) aL))))))) aL))) BA)))
theorem Ht:eC iX eD gR gQ=gx (BD (aN (cOp (oP true) (ax 5) (md aL))) (cOr (aN (cOp (oP false) (ax 8) (md aL))) (aN (cOp fEq (cCB eD (ao (ax 0) (ao (cC (.int 4)) aL))) (cC (.int 0)))))) GC (gx (aN (cOp (oP true) (ax 8) (md aL))) rEv dR):=rfl
section
variable{n w:Int}{N:Nat}{T0 T T':Sto}{ln ll lg:Nat}{names:List Int}{evs:List Ev}{g:List Go}{now:List Int}{x2 x3 x4 x9 x10 x11 x12 x13:Option U}
abbrev kJ(n w:Int)(ln ll lg:Nat)(now:List Int)(x2 x3 x4 x9 x10 x11 x12 x13:Option U):Rho:=[some (.ref 1),some (.tup [.int n,.int w]),x2,x3,x4,some (.ref (ln+1+1)),some (.ref (ll+1+1)),some (.tup (now.map U.int)),some (.ref (lg+1+1)),x9,x10,x11,x12,x13]
theorem zh(ns:List Int){a c:Int}{a0:Int}(h:LgI n w N T0 T ln ll lg (names++[a0]) evs g now)(hN:N<=100)(hE:evs.length<=1000) :
  ∃T',GC (kJ n w ln ll lg now x2 x3 x4 x9 x10 x11 x12 x13) (scr ns::pen a c::T)=some (.nx,kJ n w ln ll lg now x2 x3 x4 x9 x10 x11 x12 x13,scr ns::pen a c::T')/\LgI n w N T0 T' ln ll lg names (evs++[.beg a0]) (g++[⟨a0,now,T.length⟩]) now:=by
 have z1:=cw h.hn
 have z2:=cw h.hl
 have z3:=cw h.hg
 have hG:(g.map Go.u).length<LIM:=by have:=h.gl;have:=h.cnt;unfold LIM;rw[List.length_map];omega
 have hV:(evs.map Ev.u).length<LIM:=by unfold LIM;rw[List.length_map];omega
 have u:Go.u ⟨a0,now,T.length⟩=.tup [.int a0,.tup (now.map U.int),.ref (T.length+1+1)]:=rfl
 have hn:=h.hn
 rw[List.map_append,List.map_cons,List.map_nil]at hn
 have e1:(T.set ln (.lst (names.map U.int))++[O.dic []])[lg]?=some (.lst (g.map Go.u)):=aD (by rw[gsn h.n2];exact h.hg)
 have e2:((T.set ln (.lst (names.map U.int))++[O.dic []]).set lg (.lst (g.map Go.u++[.tup [.int a0,.tup (now.map U.int),.ref (T.length+1+1)]])))[ll]?=some (.lst (evs.map Ev.u)):=by
  rw[gsn (Ne.symm h.n3)];exact aD (by rw[gsn h.n1];exact h.hl)
 have e3:((T.set ln (.lst (names.map U.int))++[O.dic []]).set lg (.lst (g.map Go.u++[.tup [.int a0,.tup (now.map U.int),.ref (T.length+1+1)]])))[lg]?=some (.lst (g.map Go.u++[.tup [.int a0,.tup (now.map U.int),.ref (T.length+1+1)]])):=by
  rw[gss,e1];rfl
 refine⟨((T.set ln (.lst (names.map U.int))++[O.dic []]).set lg (.lst (g.map Go.u++[U.tup [.int a0,.tup (now.map U.int),.ref (T.length+1+1)]]))).set ll (.lst (evs.map Ev.u++[U.tup [.str "begin",.int a0]])),?_,?_⟩
 ·rwa[GC,kJ,h.hg,h.hl,hn,e1,e2,e3,FC,BW,jE hG,jE hV,sO,nh,kC,List.length_set]
 ·refine h.begin ?_ ?_ ?_ ?_ (fun i i1 i2 i3 hi=>?_) (by simp)
  ·rw[gsn (Ne.symm h.n1),gsn (Ne.symm h.n2)]
   refine aD ?_
   rw[gss,h.hn];rfl
  ·rw[gss,e2,List.map_append];rfl
  ·rw[gsn h.n3,e3,List.map_append,<-u];rfl
  ·rw[gsn (by omega),gsn (by omega)]
   have:(T.set ln (O.lst (names.map U.int))).length=T.length:=List.length_set
   rw[<-this]
   exact ga0
  ·rw[gsn (Ne.symm i2),gsn (Ne.symm i3),List.getElem?_append_left (by simpa using hi),gsn (Ne.symm i1)]
theorem vb:∀{x y:Go},(x.r≠y.r/\x.a≠y.a)->(y.r≠x.r/\y.a≠x.a):=fun h=>⟨Ne.symm h.1,Ne.symm h.2⟩
theorem Hk{k:Nat}(hk:k<g.length)(h:g.Pairwise fun x y=>x.r≠y.r/\x.a≠y.a):(∀y∈g,y=g[k]\/(y.r≠g[k].r/\y.a≠g[k].a))/\∀y∈g.eraseIdx k,y.r≠g[k].r/\y.a≠g[k].a:=by
 have hp:=lW hk
 have h1:(g[k]::g.eraseIdx k).Pairwise fun x y=>x.r≠y.r/\x.a≠y.a:=(hp.pairwise_iff vb).mpr h
 have h2:=(List.pairwise_cons.mp h1).1
 refine⟨fun y hy=>?_,fun y hy=>vb (h2 y hy)⟩
 rcases List.mem_cons.mp (hp.mem_iff.mpr hy)with z|z
 ·exact .inl z
 ·exact .inr (vb (h2 y z))
theorem rK:decide (("look":Str)="put")=false:=by decide +kernel
theorem oS:decide (("look":Str)="done")=false:=by decide +kernel
theorem lC:decide (("done":Str)="put")=false:=by decide +kernel
theorem lB:decide (("fall":Str)="put")=false:=by decide +kernel
theorem oU:decide (("fall":Str)="done")=false:=by decide +kernel
theorem jG{x:Str}:decide (x=x)=true:=decide_eq_true rfl
theorem eA{x:Str}{S:Sto}:fIn false (.str x) (.tup [.str "done",.str "fall"]) S=some (.bl (inU (.str x) [.str "done",.str "fall"]),S):=rfl
theorem pd:inU (.str "look") [.str "done",.str "fall"]=false:=by decide +kernel
theorem uY:inU (.str "put") [.str "done",.str "fall"]=false:=by decide +kernel
theorem ph:inU (.str "done") [.str "done",.str "fall"]=true:=by decide +kernel
theorem pf:inU (.str "fall") [.str "done",.str "fall"]=true:=by decide +kernel
theorem ER{now:List Int}{ps:List (Int×Int)}{w:Int}(h:∀z∈now,0<=z/\z<w)(hp:∀p∈ps,0<=p.2/\p.2<w)(k:Nat):∀z∈beh now ps k,0<=z/\z<w:=fun z hz=>by
 unfold beh at hz
 obtain⟨p,hp',rfl⟩:=List.mem_map.mp hz
 cases hv:br ps (p.2:Int)with
 |some y=>exact hp _ (gU hv)
 |none=>exact h _ (List.fst_mem_of_mem_zipIdx hp')
theorem ED(ns:List Int){a c:Int}(ha:0<=a)(hc:0<=c)(n0:1<=n)(n1:n<=6)(w0:2<=w)(w1:w<=1000)(h:LgI n w N T0 T ln ll lg names evs g now)(hN:N<=100)(hE:evs.length<=1000)(hg:g≠[]) :
  ∃T' a' c' e g' now' y10 y11 y12 y13,rEv (kJ n w ln ll lg now x2 x3 x4 x9 x10 x11 x12 x13) (scr ns::pen a c::T)=some (.nx,kJ n w ln ll lg now' x2 x3 x4 x9 y10 y11 y12 y13,scr ns::pen a' c'::T')/\LgI n w N T0 T' ln ll lg names (evs++[e]) g' now'/\0<=a'/\0<=c':=by
 have hgl:=h.gl
 have hct:=h.cnt
 have gpos:0<g.length:=List.length_pos_iff.mpr hg
 obtain⟨f,a1,c1,e1,p1,q1,ha1,hc1⟩:=cY ns T (m:=(g.length:Int)) ha hc (by omega) (l9 (by omega) (by omega))
 have hk:f.toNat<g.length:=by omega
 obtain⟨o1,o2⟩:=Hk hk h.gd
 have hx:g[f.toNat]∈g:=List.getElem_mem hk
 generalize hX:g[f.toNat]=x at o1 o2 hx
 obtain⟨⟨k1,k2,k3,k4,k5,k6⟩,t,t1,t2,t3⟩:=h.go x hx
 obtain⟨pl,pb⟩:=h.pb _ _ t1
 have hat:atI (g.map Go.u) f=some (.tup [.int x.a,.tup (x.seen.map U.int),.ref (x.r+1+1)]):=vQ p1 (by rw[List.getElem?_map,List.getElem?_eq_getElem hk,hX];rfl)
 obtain⟨e,a2,c2,G,e2,ea,ok,nb,ha2,hc2⟩:=yb ns T (at_:=x.a) ha1 hc1 n0 n1 w0 w1 t3 k5 k6 h.nw h.nwb fun p hp=>(pb p hp).2
 have okE:=ok t1 t2 rfl
 have hV:(evs.map Ev.u).length<LIM:=by unfold LIM;rw[List.length_map];omega
 have hGL:(g.map Go.u).length<=LIM:=by unfold LIM;rw[List.length_map];omega
 have hPL:(ji t.ps).length<LIM:=by unfold LIM ji;rw[List.length_map];omega
 have A:=h.app G
 have pre:rEv (kJ n w ln ll lg now x2 x3 x4 x9 x10 x11 x12 x13) (scr ns::pen a c::T)=BA (kJ n w ln ll lg now x2 x3 x4 x9 (some (.int f)) (some (.int x.a)) (some (.tup (x.seen.map U.int))) (some (.ref (x.r+1+1)))) (scr ns::pen a2 c2::((T++G).set ll (.lst (evs.map Ev.u++[e.u])))):=by
  rwa[rEv,kJ,h.hg,h.hl,A.hl,e1,e2,hat,jE hV,List.length_map]
 rw[pre]
 have L0:((T++G).set ll (.lst (evs.map Ev.u++[e.u])))[ll]?=some (.lst (evs.map Ev.u++[e.u])):=by rw[gss,A.hl];rfl
 have D0:((T++G).set ll (.lst (evs.map Ev.u++[e.u])))[x.r]?=some (.dic (ji t.ps)):=by rw[gsn (Ne.symm k3)];exact aD t3
 have G0:((T++G).set ll (.lst (evs.map Ev.u++[e.u])))[lg]?=some (.lst (g.map Go.u)):=by rw[gsn h.n3];exact A.hg
 have N0:((T++G).set ll (.lst (evs.map Ev.u++[e.u])))[ln]?=T[ln]?:=by rw[gsn (Ne.symm h.n1)];rw[A.hn,h.hn]
 have F0:∀i,i<T0.length->((T++G).set ll (.lst (evs.map Ev.u++[e.u])))[i]?=T[i]?:=fun i hi=>by
  have:=h.bl;have:=h.le
  rw[gsn (by omega),List.getElem?_append_left (by omega)]
 have Y0:∀y∈g,((T++G).set ll (.lst (evs.map Ev.u++[e.u])))[y.r]?=T[y.r]?:=fun y hy=>by
  obtain⟨⟨_,_,j3,_⟩,u,_,_,u3⟩:=h.go y hy
  rw[gsn (Ne.symm j3),u3];exact aD u3
 have Z0:T.length<=((T++G).set ll (.lst (evs.map Ev.u++[e.u]))).length:=by simp
 have m1:(evs++[e]).map Ev.u=evs.map Ev.u++[e.u]:=by simp
 generalize (T++G).set ll (.lst (evs.map Ev.u++[e.u]))=T1 at L0 D0 G0 N0 F0 Y0 Z0 ⊢
 have hP:(g.map Go.u)[f.toNat]?=some (Go.u x):=by rw[List.getElem?_map,List.getElem?_eq_getElem hk,hX];rfl
 have hpf:f<((g.map Go.u).length:Int):=by rw[List.length_map];exact q1
 cases e with
 |beg b=>exact absurd rfl (nb b)
 |look b1 b2 b3=>
  refine⟨T1,a2,c2,.look b1 b2 b3,g,now,some (.int f),some (.int x.a),some (.tup (x.seen.map U.int)),some (.ref (x.r+1+1)),?_,h.ev t1 ea okE nb (List.Sublist.refl g) N0 (by rw[m1];exact L0) G0 (fun y hy=>?_) F0 Z0 h.nw h.nwb,ha2,hc2⟩
  ·simp only[Ev.u]at L0
   rwa[BA,kJ,L0,sO,nh,kC,rK,oS,eA,pd]
  ·rcases o1 y hy with rfl|z
   ·refine .inl ⟨rfl,?_,?_⟩
    ·simp only[Att.ev];split<;>exact t2
    ·rw[D0];simp only[Att.ev];split<;>rfl
   ·exact .inr ⟨z.2,Y0 y hy⟩
 |put b1 b2 b3=>
  refine⟨T1.set x.r (.dic (ji (ig t.ps b2 b3))),a2,c2,.put b1 b2 b3,g,now,some (.int f),some (.int x.a),some (.tup (x.seen.map U.int)),some (.ref (x.r+1+1)),?_,h.ev t1 ea okE nb (List.Sublist.refl g) (by rw[gsn k2];exact N0) (by rw[m1,gsn k3];exact L0) (by rw[gsn k4];exact G0) (fun y hy=>?_) (fun i hi=>by rw[gsn (by omega)];exact F0 i hi) (by simpa using Z0) h.nw h.nwb,ha2,hc2⟩
  ·simp only[Ev.u]at L0
   have L1:(T1.set x.r (.dic (ji (ig t.ps b2 b3))))[ll]?=some (.lst (evs.map Ev.u++[U.tup [.str "put",.int b1,.int b2,.int b3]])):=by rw[gsn k3];exact L0
   rwa[BA,kJ,L0,L1,D0,hPL,if_true,qz,sO,nh,kC,jG,eA,uY]
  ·rcases o1 y hy with rfl|z
   ·exact .inl ⟨rfl,t2,by rw[gss,D0];rfl⟩
   ·exact .inr ⟨z.2,by rw[gsn (Ne.symm z.1)];exact Y0 y hy⟩
 |fin d b1=>
  have bb:∀z∈beh now t.ps 0,0<=z/\z<w:=ER h.nwb (fun p hp=>(pb p hp).2) 0
  have sub:(g.eraseIdx f.toNat).Sublist g:=List.eraseIdx_sublist ..
  cases d with
  |true=>
   have eP:=wZ (S:=scr ns::pen a2 c2::T1) (r:=x.r+1+1) (ps:=t.ps) (now:=now) (by simp only[List.getElem?_cons_succ];exact D0) (by have:=h.nw;omega)
   have L1:(T1++[O.lst ((beh now t.ps 0).map U.int)])[ll]?=some (.lst (evs.map Ev.u++[U.tup [.str "done",.int b1]])):=aD L0
   have G1:(T1++[O.lst ((beh now t.ps 0).map U.int)])[lg]?=some (.lst (g.map Go.u)):=aD G0
   have gl:∀i,i<T.length->(T1++[O.lst ((beh now t.ps 0).map U.int)])[i]?=T1[i]?:=fun i hi=>List.getElem?_append_left (by omega)
   refine⟨(T1++[O.lst ((beh now t.ps 0).map U.int)]).set lg (.lst ((g.map Go.u).eraseIdx f.toNat)),a2,c2,.fin true b1,g.eraseIdx f.toNat,beh now t.ps 0,some (.int f),some (.int x.a),some (.tup (x.seen.map U.int)),some (.ref (x.r+1+1)),?_,h.ev t1 ea okE nb sub (by rw[gsn (Ne.symm h.n2),gl _ (cw h.hn)];exact N0) (by rw[m1,gsn (Ne.symm h.n3)];exact L1) (by rw[gss,G1,jV];rfl) (fun y hy=>?_) (fun i hi=>?_) (by simp;omega) (by rw[Bp];exact h.nw) bb,ha2,hc2⟩
   ·simp only[Ev.u,gu,if_true]at L0
    rwa[BA,kJ,L0,L1,G1,eP,sO,nh,kC,lC,jG,eA,ph,oR,mh p1 hpf hGL hP]
   ·have hy':=sub.subset hy
    obtain⟨z1,z2⟩:=o2 y hy
    obtain⟨⟨_,_,_,j4,_⟩,u,_,_,u3⟩:=h.go y hy'
    exact .inr ⟨z2,by rw[gsn (Ne.symm j4),gl _ (cw u3)];exact Y0 y hy'⟩
   ·have:=h.bg;have:=h.le
    rw[gsn (by omega),gl i (by omega)];exact F0 i hi
  |false=>
   refine⟨T1.set lg (.lst ((g.map Go.u).eraseIdx f.toNat)),a2,c2,.fin false b1,g.eraseIdx f.toNat,now,some (.int f),some (.int x.a),some (.tup (x.seen.map U.int)),some (.ref (x.r+1+1)),?_,h.ev t1 ea okE nb sub (by rw[gsn (Ne.symm h.n2)];exact N0) (by rw[m1,gsn (Ne.symm h.n3)];exact L0) (by rw[gss,G0,jV];rfl) (fun y hy=>?_) (fun i hi=>?_) (by simpa using Z0) h.nw h.nwb,ha2,hc2⟩
   ·simp only[Ev.u,gu,Bool.false_eq_true,if_false]at L0
    rwa[BA,kJ,L0,G0,sO,nh,kC,lB,oU,eA,pf,oR,mh p1 hpf hGL hP]
   ·have hy':=sub.subset hy
    obtain⟨z1,z2⟩:=o2 y hy
    obtain⟨⟨_,_,_,j4,_⟩,u,_,_,u3⟩:=h.go y hy'
    exact .inr ⟨z2,by rw[gsn (Ne.symm j4)];exact Y0 y hy'⟩
   ·have:=h.bg;have:=h.le
    rw[gsn (by omega)];exact F0 i hi
end
section
variable{n w:Int}{N:Nat}{T0:Sto}{ln ll lg:Nat}{x2 x3 x4:Option U}
theorem qM(ns:List Int)(n0:1<=n)(n1:n<=6)(w0:2<=w)(w1:w<=1000)(hN:N<=100):∀(us:List U) (T:Sto) (names:List Int) (evs:List Ev) (g:List Go) (now:List Int) (x9 x10 x11 x12 x13:Option U) {a c:Int},0<=a->0<=c->LgI n w N T0 T ln ll lg names evs g now->evs.length+us.length<=1000->
  ∃(T':Sto) (names':List Int) (evs':List Ev) (g':List Go) (now':List Int) (y9 y10 y11 y12 y13:Option U) (a' c':Int),
   ej (fun _=>True) (gNm 9) (eC iX eD gR gQ) us (kJ n w ln ll lg now x2 x3 x4 x9 x10 x11 x12 x13) (scr ns::pen a c::T)
    = some (.nx,kJ n w ln ll lg now' x2 x3 x4 y9 y10 y11 y12 y13,scr ns::pen a' c'::T')/\LgI n w N T0 T' ln ll lg names' evs' g' now'/\evs'.length<=evs.length+us.length/\0<=a'/\0<=c'
 |[],T,names,evs,g,now,x9,x10,x11,x12,x13,a,c,ha,hc,I,hl=>⟨T,names,evs,g,now,x9,x10,x11,x12,x13,a,c,et trivial,I,by simp,ha,hc⟩
 |u::us,T,names,evs,g,now,x9,x10,x11,x12,x13,a,c,ha,hc,I,hl=>by
  rw[List.length_cons]at hl
  have key:∃(T1:Sto) (names1:List Int) (evs1:List Ev) (g1:List Go) (now1:List Int) (z10 z11 z12 z13:Option U) (a1 c1:Int),
    eC iX eD gR gQ (kJ n w ln ll lg now x2 x3 x4 (some u) x10 x11 x12 x13) (scr ns::pen a c::T)=some (.nx,kJ n w ln ll lg now1 x2 x3 x4 (some u) z10 z11 z12 z13,scr ns::pen a1 c1::T1)/\LgI n w N T0 T1 ln ll lg names1 evs1 g1 now1/\evs1.length<=evs.length+1/\0<=a1/\0<=c1:=by
   rw[Ht]
   have E1:=uA true (S:=scr ns::pen a c::(T++[.lst []])) (l:=ln+1+1) (l':=T.length+1+1) (us:=names.map U.int) (by simp only[List.getElem?_cons_succ];exact aD I.hn) (by simp only[List.getElem?_cons_succ,ga0];rfl)
   have E2:∀neg:Bool,oP neg (.ref (lg+1+1)) (.ref (T.length+1+1+1)) (scr ns::pen a c::(T++[.lst [],.lst []]))=some (.bl (if neg then !decide (g.map Go.u=[])else decide (g.map Go.u=[])),scr ns::pen a c::(T++[.lst [],.lst []])):=fun neg=>uA neg (by simp only[List.getElem?_cons_succ];exact aD I.hg) (by simp only[List.getElem?_cons_succ,ga];rfl)
   have dG:decide (g.map Go.u=[])=decide (g=[]):=by cases g<;>simp
   have dN:decide (names.map U.int=[])=decide (names=[]):=by cases names<;>simp
   rw[dN]at E1
   rw[dG]at E2
   have sub:(scr ns::pen a c::(T++[.lst []])).length=T.length+1+1+1:=by simp
   rcases List.eq_nil_or_concat names with rfl|⟨names',a0,rfl⟩
   ·by_cases gE:g=[]
    ·subst gE
     refine⟨T++[.lst [],.lst []],[],evs,[],now,x10,x11,x12,x13,a,c,?_,I.app _,by omega,ha,hc⟩
     rwa[kJ,E1,E2,if_true,decide_true,List.length_append]
    ·have J:=I.app [.lst [],.lst []]
     obtain⟨T',a',c',e,g',now',y10,y11,y12,y13,h1,h2,h3,h4⟩:=ED (x2:=x2) (x3:=x3) (x4:=x4) (x9:=some u) (x10:=x10) (x11:=x11) (x12:=x12) (x13:=x13) ns ha hc n0 n1 w0 w1 J hN (by omega) gE
     refine⟨T',_,_,_,_,y10,y11,y12,y13,a',c',?_,h2,by simp,h3,h4⟩
     rw[<-h1]
     rwa[kJ,E1,E2,gE,if_true,decide_true,List.length_append]
   ·have ne:names'.concat a0≠[]:=by simp
    by_cases gE:g=[]
    ·have J:=I.app [.lst [],.lst []]
     rw[List.concat_eq_append]at J
     obtain⟨T',h1,h2⟩:=zh (x2:=x2) (x3:=x3) (x4:=x4) (x9:=some u) (x10:=x10) (x11:=x11) (x12:=x12) (x13:=x13) ns (a:=a) (c:=c) J hN (by omega)
     refine⟨T',_,_,_,_,x10,x11,x12,x13,a,c,?_,h2,by simp,ha,hc⟩
     rw[<-h1]
     rwa[kJ,E1,E2,ne,gE,if_true,decide_true,List.length_append,Bool.false_eq_true,if_false]
    ·obtain⟨f,a1,c1,e1,p1,q1,ha1,hc1⟩:=cY ns (T++[.lst [],.lst []]) (m:=4) ha hc (by decide) (by decide +kernel)
     by_cases fE:f=0
     ·have J:=I.app [.lst [],.lst []]
      rw[List.concat_eq_append]at J
      obtain⟨T',h1,h2⟩:=zh (x2:=x2) (x3:=x3) (x4:=x4) (x9:=some u) (x10:=x10) (x11:=x11) (x12:=x12) (x13:=x13) ns (a:=a1) (c:=c1) J hN (by omega)
      refine⟨T',_,_,_,_,x10,x11,x12,x13,a1,c1,?_,h2,by simp,ha1,hc1⟩
      rw[<-h1]
      rwa[kJ,E1,E2,ne,gE,e1,fE,if_true,decide_true,List.length_append,Bool.false_eq_true,if_false]
     ·have J:=I.app [.lst [],.lst [],.lst []]
      have E3:oP true (.ref (lg+1+1)) (.ref (T.length+1+1+1+1)) (scr ns::pen a1 c1::(T++[.lst [],.lst [],.lst []]))=some (.bl true,scr ns::pen a1 c1::(T++[.lst [],.lst [],.lst []])):=by
       have z:=uA true (S:=scr ns::pen a1 c1::(T++[.lst [],.lst [],.lst []])) (l:=lg+1+1) (l':=T.length+1+1+1+1) (us:=g.map Go.u) (by simp only[List.getElem?_cons_succ];exact aD I.hg) (by
        simp only[List.getElem?_cons_succ]
        rw[show T.length+1+1=T.length+2 from rfl,ga];rfl)
       rw[dG,decide_eq_false gE]at z
       exact z
      obtain⟨T',a',c',e,g',now',y10,y11,y12,y13,h1,h2,h3,h4⟩:=ED (x2:=x2) (x3:=x3) (x4:=x4) (x9:=some u) (x10:=x10) (x11:=x11) (x12:=x12) (x13:=x13) ns ha1 hc1 n0 n1 w0 w1 J hN (by omega) gE
      refine⟨T',_,_,_,_,y10,y11,y12,y13,a',c',?_,h2,by simp,h3,h4⟩
      rw[<-h1]
      rwa[kJ,E1,E2,E3,ne,gE,e1,fE,if_true,decide_true,List.length_append,Bool.false_eq_true,if_false]
  obtain⟨T1,names1,evs1,g1,now1,z10,z11,z12,z13,a1,c1,h1,I1,l1,ha1,hc1⟩:=key
  obtain⟨T',names',evs',g',now',y9,y10,y11,y12,y13,a',c',h2,I2,l2,ha2,hc2⟩:=qM ns n0 n1 w0 w1 hN us T1 names1 evs1 g1 now1 (some u) z10 z11 z12 z13 ha1 hc1 I1 (by omega)
  exact⟨T',names',evs',g',now',y9,y10,y11,y12,y13,a',c',(fX trivial rfl h1).trans h2,I2,by rw[List.length_cons];omega,ha2,hc2⟩
end
def Bu:Fn:=fnU 14 5 (eV iX eD gR gQ)
structure kI(n w:Int)(N:Nat)(evs:List Ev):Prop where
 lo:oQ n w [] evs
 kd:(aA (bj [] evs)).Nodup
 cnt:(bj [] evs).length<=N
 pb:∀a t,br (bj [] evs) a=some t->t.ps.length<=evs.length/\∀p∈t.ps,(0<=p.1/\p.1<n)/\0<=p.2/\p.2<w
theorem D9 (ns : List Int) (T : Sto) {a c n w most size : Int} {state : List Int} (ha : 0 <= a) (hc : 0 <= c) (n0 : 1 <= n) (n1 : n <= 6) (w0 : 2 <= w) (w1 : w <= 1000) (hs : state.length = n.toNat) (bs : ∀ z ∈ state, 0 <= z /\ z < w) (m0 : 0 <= most) (m1 : most <= 99) (s0 : 0 <= size) (s1 : size <= 900) :
    ∃(evs:List Ev) (a' c':Int) (G:Sto) (k:Nat),Bu [.ref 1,.tup [.int n,.int w],.tup (state.map U.int),.int most,.int size] (scr ns::pen a c::T)=some (.ref (T.length+k+1+1),scr ns::pen a' c'::(T++G))/\G[k]?=some (.lst (evs.map Ev.u))/\kI n w most.toNat evs/\evs.length<=size.toNat/\0<=a'/\0<=c':=by
  unfold Bu
  rw[sy]
  obtain⟨f,a1,c1,e1,p1,q1,ha1,hc1⟩:=cY ns T (m:=most+1) ha hc (by omega) (l9 (by omega) (by omega))
  obtain⟨left,names,a2,c2,e2,l2,d2,b2,ha2,hc2⟩:=xE ns T ha1 hc1 p1 (by omega)
  obtain⟨h,a3,c3,e3,p3,q3,ha3,hc3⟩:=cY ns (T++[.lst (left.map U.int),.lst (names.map U.int),.lst [],.lst []]) (m:=size+1) ha2 hc2 (by omega) (l9 (by omega) (by omega))
  have I:LgI n w most.toNat T (T++[.lst (left.map U.int),.lst (names.map U.int),.lst [],.lst []]) (T.length+1) (T.length+2) (T.length+3) names [] [] state:=
    { hn:=ga,hl:=ga,hg:=ga,bn:=by omega,bl:=by omega,bg:=by omega,n1:=by omega,n2:=by omega,n3:=by omega
      go:=fun x hx=>by cases hx
      gd:=.nil,nd:=d2,nb:=fun x hx=>⟨(b2 x hx).1,(b2 x hx).2,by simp[bj,aA]⟩,lo:=trivial,kd:=by simp[bj,aA],cnt:=by simp[bj];omega,gl:=by simp,nw:=hs,nwb:=bs
      pb:=fun a t e=>by simp[bj,br]at e
      fr:=fun i hi=>List.getElem?_append_left hi,le:=by simp }
  obtain⟨T',names',evs',g',now',y9,y10,y11,y12,y13,a',c',e4,I4,l4,ha4,hc4⟩:=qM (x2:=some (.tup (state.map U.int))) (x3:=some (.int most)) (x4:=some (.int size)) ns n0 n1 w0 w1 (by omega) (cH 0 h.toNat) _ _ _ _ _ none none none none none ha3 hc3 I (by simp[cH];omega)
  obtain⟨G,rfl⟩:=Ez (ls:=[]) I4.le I4.fr
  have hl:=I4.hl
  rw[ga]at hl
  refine⟨evs',a',c',G,2,?_,hl,⟨I4.lo,I4.kd,by have:=I4.cnt;omega,I4.pb⟩,by simp[cH]at l4;omega,ha4,hc4⟩
  have hr:-(2^62)<=h/\h<2^62:=by omega
  simp only[kJ]at e4
  rwa[eV,e1,e2,e3,oA,d4,hr,if_true,and_self,e4,List.length_append]
section
variable{c:Cl}{B:Nat}{E L N P F E':List (Key×U)}{X Y S:Sto}{k:Nat}{o:O}
def hd(c:Cl)(B:Nat)(E L N P F:List (Key×U)):Sto:=[.ins c [some (.ref (B+1)),some (.ref (B+2)),some (.ref (B+3)),some (.ref (B+4)),some (.ref (B+5))],.dic E,.dic L,.dic N,.dic P,.dic F]
theorem hd0:(S++(hd c B E L N P F++X))[S.length]?=some (.ins c [some (.ref (B+1)),some (.ref (B+2)),some (.ref (B+3)),some (.ref (B+4)),some (.ref (B+5))]):=by rw[ga0];rfl
theorem hd1:(S++(hd c B E L N P F++X))[S.length+1]?=some (.dic E):=by rw[ga];rfl
theorem hd2:(S++(hd c B E L N P F++X))[S.length+2]?=some (.dic L):=by rw[ga];rfl
theorem hd3:(S++(hd c B E L N P F++X))[S.length+3]?=some (.dic N):=by rw[ga];rfl
theorem hd4:(S++(hd c B E L N P F++X))[S.length+4]?=some (.dic P):=by rw[ga];rfl
theorem hd5:(S++(hd c B E L N P F++X))[S.length+5]?=some (.dic F):=by rw[ga];rfl
theorem hs1:(S++(hd c B E L N P F++X)).set (S.length+1) (.dic E')=S++(hd c B E' L N P F++X):=by rw[gs];rfl
theorem hs2:(S++(hd c B E L N P F++X)).set (S.length+2) (.dic E')=S++(hd c B E E' N P F++X):=by rw[gs];rfl
theorem hs3:(S++(hd c B E L N P F++X)).set (S.length+3) (.dic E')=S++(hd c B E L E' P F++X):=by rw[gs];rfl
theorem hs4:(S++(hd c B E L N P F++X)).set (S.length+4) (.dic E')=S++(hd c B E L N E' F++X):=by rw[gs];rfl
theorem hs5:(S++(hd c B E L N P F++X)).set (S.length+5) (.dic E')=S++(hd c B E L N P E'++X):=by rw[gs];rfl
theorem eF:(S++(hd c B E L N P F++X)).length=S.length+(6+X.length):=by simp[hd];omega
theorem hgx:(S++(hd c B E L N P F++X))[S.length+(6+k)]?=X[k]?:=by
 rw[ga,List.getElem?_append_right (by simp[hd])]
 congr 1
 simp[hd]
theorem hsx:(S++(hd c B E L N P F++X)).set (S.length+(6+k)) o=S++(hd c B E L N P F++X.set k o):=by
 rw[gs,List.set_append_right _ _ (by simp[hd])]
 congr 3
 simp[hd]
theorem Jd:S++(hd c B E L N P F++X)++Y=S++(hd c B E L N P F++(X++Y)):=by simp only[List.append_assoc]
end
def enS:Option Bool->Str
 |none=>"open"
 |some d=>gu d
def eI(st:St):List (Key×U):=st.map fun p=>(.inl p.1,.str (enS p.2.en))
def dI(B j:Nat)(st:St)(i:Nat):List (Key×U):=match st with
 |[]=>[]
 |p::r=>(.inl p.1,.ref (B+(6+(4*i+j))))::dI B j r (i+1)
def vt(nd:List (Int×Int)):List (List Key×U):=nd.map fun p=>([.inl p.1,.inl p.2],.bl true)
def blk(t:Att):Sto:=[.lst (t.bf.map U.int),.lst (t.lk.map pU),.dit (vt t.nd),.dic (ji t.ps)]
def kK:St->Sto
 |[]=>[]
 |p::r=>blk p.2++kK r
def crs(c:Cl)(S:Sto)(st:St):Sto:=S++(hd c S.length (eI st) (dI S.length 1 st 0) (dI S.length 2 st 0) (dI S.length 3 st 0) (dI S.length 0 st 0)++kK st)
theorem eB:∀st:St,(kK st).length=4*st.length
 |[]=>rfl
 |p::r=>by rw[kK,List.length_append,eB r,List.length_cons];simp[blk];omega
theorem fA:∀s r:St,kK (s++r)=kK s++kK r
 |[],r=>rfl
 |p::s,r=>by rw[List.cons_append,kK,kK,fA s r,List.append_assoc]
theorem iH{B j:Nat}:∀(s r:St) (i:Nat),dI B j (s++r) i=dI B j s i++dI B j r (i+s.length)
 |[],r,i=>rfl
 |p::s,r,i=>by
  rw[List.cons_append,dI,dI,iH s r (i+1),List.cons_append,List.length_cons]
  congr 3
  omega
theorem kg{B j:Nat}:∀(s:St) (i:Nat),(dI B j s i).map (·.1)=(aA s).map Sum.inl
 |[],i=>rfl
 |p::s,i=>by rw[dI,List.map_cons,kg s (i+1)];rfl
theorem kh{s:St}:(eI s).map (·.1)=(aA s).map Sum.inl:=by
 unfold eI aA;rw[List.map_map,List.map_map];rfl
theorem mM{ks:List Int}{a:Int}(h:a∉ks):(Sum.inl a:Key)∉ks.map Sum.inl:=fun z=>by
 obtain⟨b,hb,e⟩:=List.mem_map.mp z
 cases e
 exact h hb
theorem jH{κ α:Type}[DecidableEq κ]{ps qs:List (κ×α)}{k:κ}{v:α}(h:k∉ps.map (·.1)):br (ps++(k,v)::qs) k=some v:=by
 rw[jt,eM.mpr h]
 simp[br]
theorem qA{κ α:Type}[DecidableEq κ]{ps:List (κ×α)}{k:κ}{v:α}(h:k∉ps.map (·.1)):ig ps k v=ps++[(k,v)]:=by
 unfold ig
 rw[if_neg]
 simp only[List.any_eq_true,decide_eq_true_eq,not_exists,not_and]
 intro p hp e
 exact h (List.mem_map.mpr ⟨p,hp,e⟩)
theorem w8{κ α:Type}[DecidableEq κ]{ps qs:List (κ×α)}{k:κ}{v v':α}(h:(ps++(k,v)::qs).map (·.1) |>.Nodup):ig (ps++(k,v)::qs) k v'=ps++(k,v')::qs:=by
 unfold ig
 rw[if_pos (by simp)]
 rw[List.map_append,List.map_cons]at h
 have h1:=List.nodup_append.mp h
 have h2:=List.nodup_cons.mp h1.2.1
 have keep:∀{l:List (κ×α)},k∉l.map (·.1)->(l.map fun p=>if p.1=k then(p.1,v')else p)=l:=fun{l} hl=>by
  rw[List.map_congr_left (g:=id) fun p hp=>?_,List.map_id]
  rw[if_neg fun e=>hl (List.mem_map.mpr ⟨p,hp,e⟩)];rfl
 rw[List.map_append,List.map_cons]
 rw[keep fun z=>h1.2.2 k z k List.mem_cons_self rfl,keep h2.1,if_pos rfl]
section
variable{c:Cl}{S:Sto}{s1 s2 st:St}{a:Int}{t t':Att}
theorem uB(h:(aA (s1++(a,t)::s2)).Nodup):a∉aA s1:=fun z=>by
 unfold aA at h z
 rw[List.map_append,List.map_cons]at h
 exact(List.nodup_append.mp h).2.2 a z a List.mem_cons_self rfl
theorem gp{j:Nat}(h:(aA (s1++(a,t)::s2)).Nodup):br (dI S.length j (s1++(a,t)::s2) 0) (.inl a)=some (.ref (S.length+(6+(4*s1.length+j)))):=by
 rw[iH,dI,Nat.zero_add]
 exact jH (by rw[kg];exact mM (uB h))
theorem qh(h:(aA (s1++(a,t)::s2)).Nodup):br (eI (s1++(a,t)::s2)) (.inl a)=some (.str (enS t.en)):=by
 have e:eI (s1++(a,t)::s2)=eI s1++(Sum.inl a,U.str (enS t.en))::eI s2:=by unfold eI;rw[List.map_append,List.map_cons]
 rw[e]
 exact jH (by rw[kh];exact mM (uB h))
theorem n6{j:Nat}:dI S.length j (s1++(a,t)::s2) 0=dI S.length j (s1++(a,t')::s2) 0:=by
 rw[iH,iH];rfl
theorem vv(h:t.en=t'.en):eI (s1++(a,t)::s2)=eI (s1++(a,t')::s2):=by
 unfold eI;rw[List.map_append,List.map_cons,List.map_append,List.map_cons,h]
theorem w6{d:Bool}(h:(aA (s1++(a,t)::s2)).Nodup)(e:t'.en=some d):ig (eI (s1++(a,t)::s2)) (.inl a) (.str (gu d))=eI (s1++(a,t')::s2):=by
 have e1:∀t:Att,eI (s1++(a,t)::s2)=eI s1++(Sum.inl a,U.str (enS t.en))::eI s2:=fun t=>by unfold eI;rw[List.map_append,List.map_cons]
 rw[e1,e1,e]
 refine w8 ?_
 rw[<-e1,kh]
 exact List.Pairwise.map _ (fun a b h e=>h (by cases e;rfl)) h
theorem Bn{j:Nat}(hj:j<4):(kK (s1++(a,t)::s2))[4*s1.length+j]?=(blk t)[j]?:=by
 rw[fA,kK,List.getElem?_append_right (by rw[eB];omega),eB,Nat.add_sub_cancel_left,List.getElem?_append_left (by simp[blk];omega)]
theorem Bm{j:Nat}{o:O}(hj:j<4)(h:(blk t).set j o=blk t'):(kK (s1++(a,t)::s2)).set (4*s1.length+j) o=kK (s1++(a,t')::s2):=by
 rw[fA,fA,kK,kK,List.set_append_right _ _ (by rw[eB];omega),eB,Nat.add_sub_cancel_left,List.set_append_left _ _ (by simp[blk];omega),h]
theorem kn{j:Nat}(hj:j<4):(crs c S (s1++(a,t)::s2))[S.length+(6+(4*s1.length+j))]?=(blk t)[j]?:=by
 unfold crs;rw[hgx,Bn hj]
theorem pF{j:Nat}{o:O}(hj:j<4)(he:t.en=t'.en)(h:(blk t).set j o=blk t'):(crs c S (s1++(a,t)::s2)).set (S.length+(6+(4*s1.length+j))) o=crs c S (s1++(a,t')::s2):=by
 unfold crs
 rw[hsx,Bm hj h,vv he]
 simp only[n6 (t:=t) (t':=t')]
theorem Bl{d:Bool}(h:(aA (s1++(a,t)::s2)).Nodup):(crs c S (s1++(a,t)::s2)).set (S.length+1) (.dic (ig (eI (s1++(a,t)::s2)) (.inl a) (.str (gu d))))=crs c S (s1++(a,{ t with en:=some d })::s2):=by
 unfold crs
 rw[hs1,w6 (t':={ t with en:=some d }) h rfl]
 simp only[n6 (t:=t) (t':={ t with en:=some d })]
 congr 2
 rw[fA,fA];rfl
theorem gX{f:Att->Att}(h:(aA (s1++(a,t)::s2)).Nodup):vY (s1++(a,t)::s2) a f=s1++(a,f t)::s2:=by
 have h0:=h
 unfold aA at h
 rw[List.map_append,List.map_cons]at h
 have h1:=List.nodup_append.mp h
 have h2:=List.nodup_cons.mp h1.2.1
 unfold vY
 have keep:∀{l:St},a∉l.map (·.1)->(l.map fun p=>if p.1=a then(p.1,f p.2)else p)=l:=fun{l} hl=>by
  rw[List.map_congr_left (g:=id) fun p hp=>?_,List.map_id]
  rw[if_neg fun e=>hl (List.mem_map.mpr ⟨p,hp,e⟩)];rfl
 rw[List.map_append,List.map_cons,keep fun z=>h1.2.2 a z a List.mem_cons_self rfl,keep h2.1,if_pos rfl]
theorem fT{st:St}(h:br st a=some t):∃s1 s2,st=s1++(a,t)::s2:=List.append_of_mem (gU h)
theorem dU{i:Nat}{u:U}{fus:List (Option U)}{Z:Sto}{l:Nat}(h:Z[l]?=some (.ins c fus))(hu:fus[i]?=some (some u)):lS c i (.ref l,Z)=some (u,Z):=by
 rw[yC,h,yB,hu];rfl
theorem Fp{co cv:CE}{cr:CA}{ρ:Rho}{Z Z1 Z2 Z3:Sto}{u:U}{l:Nat}{us:List U}{ks:List Key}{kus:List (List Key×U)}(h1:cv ρ Z=some (u,Z1))(h2:co ρ Z1=some (.ref l,Z2))(h3:cr ρ Z2=some (us,Z3))(h4:Z3[l]?=some (.dit kus))(h5:EW us=some ks)(h6:kus.length<LIM)(h7:us.length<=LIM) :
  ky co cr cv ρ Z=some (.nx,ρ,Z3.set l (.dit (ig kus ks u))):=by
 unfold ky
 rw[h1,Option.bind_some,h2,Option.bind_some,h3,Option.bind_some]
 simp only[h4,h5,Option.bind_some]
 rw[if_pos ⟨h6,h7⟩]
theorem w4(nd:List (Int×Int))(b x:Int):ig (vt nd) [.inl b,.inl x] (.bl true)=vt (zj nd (b,x)):=by
 have kk:∀p:Int×Int,([Sum.inl p.1,Sum.inl p.2]:List Key)=[.inl b,.inl x]↔p=(b,x):=fun p=>by
  obtain⟨p1,p2⟩:=p
  simp
 unfold ig zj
 have ha:((vt nd).any fun kv=>decide (kv.1=[Sum.inl b,Sum.inl x]))=decide ((b,x)∈nd):=by
  unfold vt
  induction nd with
  |nil=>rfl
  |cons p r ih=>
   simp only[List.map_cons,List.any_cons,ih,List.mem_cons,kk]
   by_cases e:p=(b,x)
   ·simp[e]
   ·simp[e,Ne.symm e]
 rw[ha]
 by_cases m:(b,x)∈nd
 ·rw[if_pos (decide_eq_true m),if_pos m]
  unfold vt
  rw[List.map_map]
  refine List.map_congr_left fun p _=>?_
  simp only[Function.comp]
  split<;>simp_all
 ·rw[if_neg (by simpa using m),if_neg m]
  simp[vt]
def vX(c:Cl):Fn:=fnU 4 4 (bq c)
theorem A0{b x:Int}(h:(aA (s1++(a,t)::s2)).Nodup)(hl:t.lk.length<=10000)(hn:t.nd.length<=10000):vX c [.ref S.length,.int a,.int b,.int x] (crs c S (s1++(a,t)::s2))=some (.non,crs c S (s1++(a,t.ev (.look a b x))::s2)):=by
 unfold vX
 rw[iI]
 have g3:=kn (c:=c) (S:=S) (s1:=s1) (s2:=s2) (a:=a) (t:=t) (j:=3) (by omega)
 have g1:=kn (c:=c) (S:=S) (s1:=s1) (s2:=s2) (a:=a) (t:=t) (j:=1) (by omega)
 have v1:=gp (S:=S) (j:=1) h
 have v2:=gp (S:=S) (j:=2) h
 have v3:=gp (S:=S) (j:=3) h
 have f0:∀st:St,(crs c S st)[S.length]?=some (.ins c [some (.ref (S.length+1)),some (.ref (S.length+2)),some (.ref (S.length+3)),some (.ref (S.length+4)),some (.ref (S.length+5))]):=fun st=>hd0
 have f2:∀st:St,(crs c S st)[S.length+2]?=some (.dic (dI S.length 1 st 0)):=fun st=>hd2
 have f3:∀st:St,(crs c S st)[S.length+3]?=some (.dic (dI S.length 2 st 0)):=fun st=>hd3
 have f4:∀st:St,(crs c S st)[S.length+4]?=some (.dic (dI S.length 3 st 0)):=fun st=>hd4
 have F1:∀st:St,lS c 1 (.ref S.length,crs c S st)=some (.ref (S.length+2),crs c S st):=fun st=>dU (f0 st) rfl
 have F2:∀st:St,lS c 2 (.ref S.length,crs c S st)=some (.ref (S.length+3),crs c S st):=fun st=>dU (f0 st) rfl
 have F3:∀st:St,lS c 3 (.ref S.length,crs c S st)=some (.ref (S.length+4),crs c S st):=fun st=>dU (f0 st) rfl
 have g3':(crs c S (s1++(a,t)::s2))[S.length+(6+(4*s1.length+3))]?=some (.dic (ji t.ps)):=g3
 have g1':(crs c S (s1++(a,t)::s2))[S.length+(6+(4*s1.length+1))]?=some (.lst (t.lk.map pU)):=g1
 cases hv:br t.ps b with
 |some y=>
  have e:t.ev (.look a b x)=t:=by simp[Att.ev,hv]
  rw[e]
  rwa[bq,F3,f4,v3,g3',gT,hv,Option.map_some,Option.isSome_some,if_true]
 |none=>
  have e:t.ev (.look a b x)={ t with lk:=t.lk++[(b,x)],nd:=zj t.nd (b,x) }:=by simp[Att.ev,hv]
  rw[e]
  have hL:(t.lk.map pU).length<LIM:=by unfold LIM;rw[List.length_map];omega
  have s1':=pF (c:=c) (S:=S) (s1:=s1) (s2:=s2) (a:=a) (t:=t) (t':={ t with lk:=t.lk++[(b,x)] }) (j:=1) (o:=.lst (t.lk.map pU++[pU (b,x)])) (by omega) rfl (by unfold blk;rw[List.map_append];rfl)
  have h':(aA (s1++(a,({ t with lk:=t.lk++[(b,x)] }:Att))::s2)).Nodup:=by unfold aA at h ⊢;rw[List.map_append,List.map_cons]at h ⊢;exact h
  have v2':=gp (S:=S) (j:=2) h'
  have g2:=kn (c:=c) (S:=S) (s1:=s1) (s2:=s2) (a:=a) (t:={ t with lk:=t.lk++[(b,x)] }) (j:=2) (by omega)
  have g2':(crs c S (s1++(a,({ t with lk:=t.lk++[(b,x)] }:Att))::s2))[S.length+(6+(4*s1.length+2))]?=some (.dit (vt t.nd)):=g2
  have s2':=pF (c:=c) (S:=S) (s1:=s1) (s2:=s2) (a:=a) (t:={ t with lk:=t.lk++[(b,x)] }) (t':={ t with lk:=t.lk++[(b,x)],nd:=zj t.nd (b,x) }) (j:=2) (o:=.dit (vt (zj t.nd (b,x)))) (by omega) rfl rfl
  have e3:ky (cOp fIx (js c 2 (ax 0)) (ax 1)) (ao (ax 2) (ao (ax 3) aL)) (cC (.bl true)) [some (.ref S.length),some (.int a),some (.int b),some (.int x)] (crs c S (s1++(a,({ t with lk:=t.lk++[(b,x)] }:Att))::s2))=some (.nx,[some (.ref S.length),some (.int a),some (.int b),some (.int x)],crs c S (s1++(a,({ t with lk:=t.lk++[(b,x)],nd:=zj t.nd (b,x) }:Att))::s2)):=by
   rw[Fp (u:=.bl true) (us:=[.int b,.int x]) (ks:=[.inl b,.inl x]) (kus:=vt t.nd) (l:=S.length+(6+(4*s1.length+2))) (Z1:=crs c S (s1++(a,({ t with lk:=t.lk++[(b,x)] }:Att))::s2)) (Z2:=crs c S (s1++(a,({ t with lk:=t.lk++[(b,x)] }:Att))::s2)) (Z3:=crs c S (s1++(a,({ t with lk:=t.lk++[(b,x)] }:Att))::s2)) rfl ?_ rfl g2' rfl (by unfold LIM vt;rw[List.length_map];omega) (by unfold LIM;simp),w4,s2']
   rwa[F2,f3,v2']
  have pu:pU (b,x)=.tup [.int b,.int x]:=rfl
  rw[pu]at s1'
  rwa[bq,F1,F3,f2,f4,v1,v3,g1',g3',gT,hv,jE hL,s1',e3,Option.map_none,Option.isSome_none,Bool.false_eq_true,if_true,if_false]
end
section
variable{c:Cl}{S:Sto}{s1 s2 st:St}{a:Int}{t t':Att}
theorem Bh{o:Option Bool}:decide (enS o=("open":Str))=!o.isSome:=by
 cases o with
 |none=>exact decide_eq_true rfl
 |some d=>cases d<;>(simp only[enS,gu,if_true,if_false,Bool.false_eq_true];decide +kernel)
theorem pJ{ep:Nat}{E L N P F:List (Key×U)}{X:Sto}(hE:E=eI st)(hk:(aA st).Nodup):∀(p r:St) (r0:Option U) (ys:List Int),st=p++r->ys.length+r.length<=1000->
  bV (fun S'=>S'[S.length+1]?=some (.fdc ep E)) (gNm 0) (aN (cOp fNe (cOp fIx (js c 0 (ax 1)) (ax 0)) (cC (.str "open")))) (ax 0) (S.length+(6+X.length)) ((eI r).map fun q=>kU q.1) [r0,some (.ref S.length)] ((S++(hd c S.length E L N P F++X)).set (S.length+1) (.fdc ep E)++[.lst (ys.map U.int)])
   = some ((S++(hd c S.length E L N P F++X)).set (S.length+1) (.fdc ep E)++[.lst ((ys++(r.filter fun p=>p.2.en.isSome).map (·.1)).map U.int)])
 |p,[],r0,ys,e,hl=>by
  have ok:((S++(hd c S.length E L N P F++X)).set (S.length+1) (.fdc ep E)++[O.lst (ys.map U.int)])[S.length+1]?=some (.fdc ep E):=aD (by rw[gss,hd1];rfl)
  simp only[List.filter_nil,List.map_nil,List.append_nil]
  exact lY ok
 |p,(b,t)::r,r0,ys,e,hl=>by
  have hk':(aA (p++(b,t)::r)).Nodup:=by rw[<-e];exact hk
  have ok:∀ys:List Int,((S++(hd c S.length E L N P F++X)).set (S.length+1) (.fdc ep E)++[O.lst (ys.map U.int)])[S.length+1]?=some (.fdc ep E):=fun ys=>aD (by rw[gss,hd1];rfl)
  have i0:((S++(hd c S.length E L N P F++X)).set (S.length+1) (.fdc ep E)++[O.lst (ys.map U.int)])[S.length]?=some (.ins c [some (.ref (S.length+1)),some (.ref (S.length+2)),some (.ref (S.length+3)),some (.ref (S.length+4)),some (.ref (S.length+5))]):=aD (by rw[gsn (by omega),hd0])
  have F0:lS c 0 (.ref S.length,(S++(hd c S.length E L N P F++X)).set (S.length+1) (.fdc ep E)++[O.lst (ys.map U.int)])=some (.ref (S.length+1),(S++(hd c S.length E L N P F++X)).set (S.length+1) (.fdc ep E)++[O.lst (ys.map U.int)]):=dU i0 rfl
  have vE:br E (.inl b)=some (.str (enS t.en)):=by rw[hE,e];exact qh hk'
  have kk:kU (Sum.inl b)=.int b:=rfl
  have tst0:∀Z:Sto,lS c 0 (.ref S.length,Z)=some (.ref (S.length+1),Z)->Z[S.length+1]?=some (.fdc ep E)->(aN (cOp fNe (cOp fIx (js c 0 (ax 1)) (ax 0)) (cC (.str "open")))) [some (.int b),some (.ref S.length)] Z=some (t.en.isSome,Z):=fun Z z1 z2=>by
   have z:(!decide (enS t.en=("open":Str)))=t.en.isSome:=by rw[Bh,Bool.not_not]
   rwa[z1,z2,Cd,vE,z]
  have tst:=tst0 _ F0 (ok ys)
  have ln:((S++(hd c S.length E L N P F++X)).set (S.length+1) (.fdc ep E)).length=S.length+(6+X.length):=by rw[List.length_set,eF]
  simp only[eI,List.map_cons,kk]
  cases hs:t.en.isSome with
  |false=>
   have ih:=pJ (ep:=ep) (L:=L) (N:=N) (P:=P) (F:=F) (X:=X) hE hk (p++[(b,t)]) r (some (.int b)) ys (by rw[e];simp) (by simp at hl ⊢;omega)
   refine(oy (ok ys) rfl (by rw[<-hs];exact tst)).trans ?_
   rw[List.filter_cons_of_neg (by simpa using hs)]
   exact ih
  |true=>
   have ih:=pJ (ep:=ep) (L:=L) (N:=N) (P:=P) (F:=F) (X:=X) hE hk (p++[(b,t)]) r (some (.int b)) (ys++[b]) (by rw[e];simp) (by simp at hl ⊢;omega)
   refine(lX (x:=.int b) (ys:=ys.map U.int) (ok ys) rfl (by rw[<-hs];exact tst) rfl (by rw[<-ln,ga0];rfl) (by unfold LIM;simp at hl ⊢;omega)).trans ?_
   rw[List.filter_cons_of_pos (by simpa using hs)]
   have e5:((S++(hd c S.length E L N P F++X)).set (S.length+1) (.fdc ep E)++[O.lst (ys.map U.int)]).set (S.length+(6+X.length)) (.lst (ys.map U.int++[U.int b]))=(S++(hd c S.length E L N P F++X)).set (S.length+1) (.fdc ep E)++[.lst ((ys++[b]).map U.int)]:=by
    rw[<-ln,gs0,List.map_append];rfl
   rw[e5]
   refine ih.trans ?_
   simp
theorem Hr(hk:(aA st).Nodup)(hl:st.length<=900)(x1:Option U):jC (js c 0 (ax 0)) (gNm 0) (aN (cOp fNe (cOp fIx (js c 0 (ax 1)) (ax 0)) (cC (.str "open")))) (ax 0) 1 [0] [some (.ref S.length),x1] (crs c S st)=some (.ref (S.length+(6+4*st.length)),crs c S st++[.lst ((m6 st).bf.map U.int)]):=by
 have i0:(crs c S st)[S.length]?=some (.ins c [some (.ref (S.length+1)),some (.ref (S.length+2)),some (.ref (S.length+3)),some (.ref (S.length+4)),some (.ref (S.length+5))]):=hd0
 have F0:lS c 0 (.ref S.length,crs c S st)=some (.ref (S.length+1),crs c S st):=dU i0 rfl
 have ce:js c 0 (ax 0) [some (.ref S.length),x1] (crs c S st)=some (.ref (S.length+1),crs c S st):=by rwa[F0]
 have ln:(crs c S st).length=S.length+(6+4*st.length):=by unfold crs;rw[eF,eB]
 have f1:(crs c S st)[S.length+1]?=some (.dic (eI st)):=hd1
 unfold jC vL
 rw[ce,Option.bind_some]
 simp only[f1]
 refine yG fun ep=>?_
 have h:=pJ (c:=c) (S:=S) (ep:=ep) (L:=dI S.length 1 st 0) (N:=dI S.length 2 st 0) (P:=dI S.length 3 st 0) (F:=dI S.length 0 st 0) (X:=kK st) rfl hk [] st none [] rfl (by simp;omega)
 have e1:lG 1 [0] [some (.ref S.length),x1]=[none,some (.ref S.length)]:=rfl
 rw[eB]at h
 rw[e1,ln]
 simp only[List.map_nil,List.nil_append]at h
 have h':bV (fun S'=>S'[S.length+1]?=some (.fdc ep (eI st))) (gNm 0) (aN (cOp fNe (cOp fIx (js c 0 (ax 1)) (ax 0)) (cC (.str "open")))) (ax 0) (S.length+(6+4*st.length)) ((eI st).map fun q=>kU q.1) [none,some (.ref S.length)] ((crs c S st).set (S.length+1) (.fdc ep (eI st))++[.lst []])=some ((crs c S st).set (S.length+1) (.fdc ep (eI st))++[.lst ((m6 st).bf.map U.int)]):=h
 rw[h',Option.bind_some]
 have g:((crs c S st).set (S.length+1) (.fdc ep (eI st))++[O.lst ((m6 st).bf.map U.int)])[S.length+1]?=some (.fdc ep (eI st)):=aD (by rw[gss,f1];rfl)
 simp only[g]
 have hlt:S.length+1<(crs c S st).length:=by omega
 rw[List.set_append_left _ _ (by simpa using hlt),List.set_set]
 congr 3
 unfold crs
 rw[hs1]
def hc(c:Cl)(S:Sto)(E L N P F:List (Key×U))(X:Sto):Sto:=S++(hd c S.length E L N P F++X)
section
variable{E L N P F E':List (Key×U)}{X Y:Sto}
theorem hc0:(hc c S E L N P F X)[S.length]?=some (.ins c [some (.ref (S.length+1)),some (.ref (S.length+2)),some (.ref (S.length+3)),some (.ref (S.length+4)),some (.ref (S.length+5))]):=hd0
theorem hc1:(hc c S E L N P F X)[S.length+1]?=some (.dic E):=hd1
theorem hc2:(hc c S E L N P F X)[S.length+2]?=some (.dic L):=hd2
theorem hc3:(hc c S E L N P F X)[S.length+3]?=some (.dic N):=hd3
theorem hc4:(hc c S E L N P F X)[S.length+4]?=some (.dic P):=hd4
theorem hc5:(hc c S E L N P F X)[S.length+5]?=some (.dic F):=hd5
theorem ht1:(hc c S E L N P F X).set (S.length+1) (.dic E')=hc c S E' L N P F X:=hs1
theorem ht2:(hc c S E L N P F X).set (S.length+2) (.dic E')=hc c S E E' N P F X:=hs2
theorem ht3:(hc c S E L N P F X).set (S.length+3) (.dic E')=hc c S E L E' P F X:=hs3
theorem ht4:(hc c S E L N P F X).set (S.length+4) (.dic E')=hc c S E L N E' F X:=hs4
theorem ht5:(hc c S E L N P F X).set (S.length+5) (.dic E')=hc c S E L N P E' X:=hs5
theorem hcl:(hc c S E L N P F X).length=S.length+(6+X.length):=eF
theorem hcA:hc c S E L N P F X++Y=hc c S E L N P F (X++Y):=Jd
end
def m7(c:Cl):Fn:=fnU 2 2 (cP c)
theorem vo{B j:Nat}{p:Int×Att}:dI B j (st++[p]) 0=dI B j st 0++[(.inl p.1,.ref (B+(6+(4*st.length+j))))]:=by
 rw[iH,dI,Nat.zero_add];rfl
theorem rg{B j:Nat}:∀(s:St) (i:Nat),(dI B j s i).length=s.length
 |[],_=>rfl
 |p::s,i=>by rw[dI,List.length_cons,rg s (i+1),List.length_cons]
theorem vI(hk:(aA st).Nodup)(ha:a∉aA st)(hl:st.length<=900):m7 c [.ref S.length,.int a] (crs c S st)=some (.non,crs c S (st++[(a,m6 st)])):=by
 unfold m7
 rw[kW]
 have B0:=Hr (c:=c) (S:=S) hk hl (some (.int a))
 have pr:∀j,ig (dI S.length j st 0) (.inl a) (.ref (S.length+(6+(4*st.length+j))))=dI S.length j (st++[(a,m6 st)]) 0:=fun j=>by
  rw[qA (by rw[kg];exact mM ha),vo]
 have pe:ig (eI st) (.inl a) (.str "open")=eI (st++[(a,m6 st)]):=by
  rw[qA (by rw[kh];exact mM ha)]
  unfold eI;rw[List.map_append];rfl
 have lR:∀j,(dI S.length j st 0).length<LIM:=fun j=>by rw[rg];unfold LIM;omega
 have lE:(eI st).length<LIM:=by unfold eI LIM;rw[List.length_map];omega
 have l0:(kK st).length=4*st.length:=eB st
 have l1:∀o:O,(kK st++[o]).length=4*st.length+1:=fun o=>by rw[List.length_append,l0];rfl
 have l2:∀o o':O,(kK st++[o,o']).length=4*st.length+2:=fun o o'=>by rw[List.length_append,l0];rfl
 have l3:∀o o' o'':O,(kK st++[o,o',o'']).length=4*st.length+3:=fun o o' o''=>by rw[List.length_append,l0];rfl
 have F0:∀{E L N P F:List (Key×U)} {X:Sto},lS c 0 (.ref S.length,hc c S E L N P F X)=some (.ref (S.length+1),hc c S E L N P F X):=dU hc0 rfl
 have F1:∀{E L N P F:List (Key×U)} {X:Sto},lS c 1 (.ref S.length,hc c S E L N P F X)=some (.ref (S.length+2),hc c S E L N P F X):=dU hc0 rfl
 have F2:∀{E L N P F:List (Key×U)} {X:Sto},lS c 2 (.ref S.length,hc c S E L N P F X)=some (.ref (S.length+3),hc c S E L N P F X):=dU hc0 rfl
 have F3:∀{E L N P F:List (Key×U)} {X:Sto},lS c 3 (.ref S.length,hc c S E L N P F X)=some (.ref (S.length+4),hc c S E L N P F X):=dU hc0 rfl
 have F4:∀{E L N P F:List (Key×U)} {X:Sto},lS c 4 (.ref S.length,hc c S E L N P F X)=some (.ref (S.length+5),hc c S E L N P F X):=dU hc0 rfl
 have dT:∀(ρ:Rho) (Z:Sto),vM ρ Z=some (.ref Z.length,Z++[.dit []]):=fun _ _=>rfl
 have fin:crs c S (st++[(a,m6 st)])=hc c S (eI (st++[(a,m6 st)])) (dI S.length 1 (st++[(a,m6 st)]) 0) (dI S.length 2 (st++[(a,m6 st)]) 0) (dI S.length 3 (st++[(a,m6 st)]) 0) (dI S.length 0 (st++[(a,m6 st)]) 0) (kK st++[.lst ((m6 st).bf.map U.int),.lst [],.dit [],.dic []]):=by
  unfold crs hc;rw[fA];rfl
 rw[fin]
 have p0:=pr 0
 have p1:=pr 1
 have p2:=pr 2
 have p3:=pr 3
 rw[Nat.add_zero]at p0
 have C0:crs c S st=hc c S (eI st) (dI S.length 1 st 0) (dI S.length 2 st 0) (dI S.length 3 st 0) (dI S.length 0 st 0) (kK st):=rfl
 rw[C0]at B0 ⊢
 rwa[cP,B0,hcA,F0,F1,F2,F3,F4,hc1,hc2,hc3,hc4,hc5,ht1,ht2,ht3,ht4,ht5,lR,lE,if_true,p0,p1,p2,p3,pe,dT,hcl,l1,l2,l3]
def jD(c:Cl):Fn:=fnU 3 2 (aR (m7 c) (vX c) c)
theorem fP:decide (("look":Str)="begin")=false:=by decide +kernel
theorem gI:decide (("put":Str)="begin")=false:=by decide +kernel
theorem rJ:decide (("put":Str)="look")=false:=by decide +kernel
theorem fR:decide (("done":Str)="begin")=false:=by decide +kernel
theorem oV:decide (("done":Str)="look")=false:=by decide +kernel
theorem fQ:decide (("fall":Str)="begin")=false:=by decide +kernel
theorem oT:decide (("fall":Str)="look")=false:=by decide +kernel
def Few(st:St)(m:Nat):Prop:=st.length<=m/\∀p∈st,p.2.lk.length<=m/\p.2.nd.length<=m/\p.2.ps.length<=m
theorem vc{n w:Int}{e:Ev}{m:Nat}(hk:(aA st).Nodup)(ok:rE n w st e)(fw:Few st m)(hm:m<=900):jD c [.ref S.length,e.u] (crs c S st)=some (.non,crs c S (stp st e)):=by
 unfold jD
 rw[ki]
 have i0:∀st:St,(crs c S st)[S.length]?=some (.ins c [some (.ref (S.length+1)),some (.ref (S.length+2)),some (.ref (S.length+3)),some (.ref (S.length+4)),some (.ref (S.length+5))]):=fun _=>hd0
 cases e with
 |beg a=>
  have h:=vI (c:=c) (S:=S) hk ok.2.2 (by have:=fw.1;omega)
  rwa[aR,Ev.u,jG,h,i0,stp]
 |look a b x=>
  obtain⟨_,t,h1,h2,_⟩:=ok
  obtain⟨s1,s2,rfl⟩:=fT h1
  obtain⟨q1,q2,q3⟩:=fw.2 _ (List.mem_append_right s1 List.mem_cons_self)
  dsimp only at q1 q2
  have h:=A0 (c:=c) (S:=S) (b:=b) (x:=x) hk (by omega) (by omega)
  rwa[aR,Ev.u,fP,jG,h,i0,stp,Ev.at,gX hk]
 |put a b x=>
  obtain⟨_,t,h1,h2⟩:=ok
  obtain⟨s1,s2,rfl⟩:=fT h1
  obtain⟨q1,q2,q3⟩:=fw.2 _ (List.mem_append_right s1 List.mem_cons_self)
  dsimp only at q3
  have F3:lS c 3 (.ref S.length,crs c S (s1++(a,t)::s2))=some (.ref (S.length+4),crs c S (s1++(a,t)::s2)):=dU hd0 rfl
  have f4:(crs c S (s1++(a,t)::s2))[S.length+4]?=some (.dic (dI S.length 3 (s1++(a,t)::s2) 0)):=hd4
  have v3:=gp (S:=S) (j:=3) hk
  have g3:(crs c S (s1++(a,t)::s2))[S.length+(6+(4*s1.length+3))]?=some (.dic (ji t.ps)):=kn (by omega)
  have lp:(ji t.ps).length<LIM:=by unfold ji LIM;rw[List.length_map];omega
  have s3:=pF (c:=c) (S:=S) (s1:=s1) (s2:=s2) (a:=a) (t:=t) (t':=t.ev (.put a b x)) (j:=3) (o:=.dic (ji (ig t.ps b x))) (by omega) rfl rfl
  rwa[aR,Ev.u,gI,rJ,jG,i0,F3,f4,v3,g3,lp,if_true,qz,s3,stp,Ev.at,gX hk]
 |fin d a=>
  obtain⟨t,h1,h2⟩:=ok
  obtain⟨s1,s2,rfl⟩:=fT h1
  have F0:lS c 0 (.ref S.length,crs c S (s1++(a,t)::s2))=some (.ref (S.length+1),crs c S (s1++(a,t)::s2)):=dU hd0 rfl
  have f1:(crs c S (s1++(a,t)::s2))[S.length+1]?=some (.dic (eI (s1++(a,t)::s2))):=hd1
  have lE:(eI (s1++(a,t)::s2)).length<LIM:=by have:=fw.1;unfold eI LIM;rw[List.length_map];omega
  have ce:=Bl (c:=c) (S:=S) (d:=d) hk
  cases d with
  |true=>
   simp only[gu,if_true]at ce
   rwa[aR,Ev.u,gu,if_true,fR,oV,lC,i0,F0,f1,lE,ce,stp,Ev.at,Att.ev,gX hk]
  |false=>
   simp only[gu,Bool.false_eq_true,if_false]at ce
   rwa[aR,Ev.u,gu,Bool.false_eq_true,if_true,if_false,fQ,oT,lB,i0,F0,f1,lE,ce,stp,Ev.at,Att.ev,gX hk]
def kH(c:Cl):Fn:=fnU 1 1 (de c)
theorem ym(hns:c.ns.length=5):so c (kH c) [] S=some (.ref S.length,crs c S []):=by
 rw[B6,hns]
 have h:kH c [.ref S.length] (S++[.ins c (List.replicate 5 none)])=some (.non,crs c S []):=by
  unfold kH
  rw[mW]
  rwa[de,List.replicate,List.length_append]
  rfl
 rw[h]
 rfl
theorem Bf{n w:Int}{e:Ev}{m:Nat}(hk:(aA st).Nodup)(ok:rE n w st e)(fw:Few st m):Few (stp st e) (m+1):=by
  obtain⟨f1,f2⟩:=fw
  cases e with
  | beg a=>
    refine⟨by simp[stp];omega,fun p hp=>?_⟩
    rcases List.mem_append.mp hp with z|z
    · obtain⟨q1,q2,q3⟩:=f2 p z;exact⟨by omega,by omega,by omega⟩
    · simp at z;subst z;simp[m6]
  | _=>
    refine⟨by simp[stp,vY];omega,fun p hp=>?_⟩
    simp only[stp,vY]at hp
    obtain⟨q,hq,rfl⟩:=List.mem_map.mp hp
    obtain⟨q1,q2,q3⟩:=f2 q hq
    split
    · simp only[Att.ev]
      first
      | (split
         · exact⟨by omega,by omega,by omega⟩
         · refine⟨by simp;omega,?_,by dsimp only;omega⟩
           dsimp only[zj]
           split
           · omega
           · simp;omega)
      |exact⟨by omega,by omega,Nat.le_trans (qP ..) (by omega)⟩
      |exact⟨by omega,by omega,by omega⟩
    · exact⟨by omega,by omega,by omega⟩
def fC(c:Cl):Fn:=fnU 3 1 (d6 (jD c) (kH c) c)
theorem kq{n w:Int}{x0:Option U}{ok:Sto->Prop}(hok:∀st,ok (crs c S st)):∀(es:List Ev) (st:St) (m:Nat) (r2:Option U),oQ n w st es->(aA st).Nodup->Few st m->m+es.length<=900->
  ∃r2',ej ok (gNm 2) (fB (jD c) (kH c) c) (es.map Ev.u) [x0,some (.ref S.length),r2] (crs c S st)=some (.nx,[x0,some (.ref S.length),r2'],crs c S (bj st es))
 |[],st,m,r2,_,_,_,_=>⟨r2,et (hok st)⟩
 |e::es,st,m,r2,lf,hk,fw,hm=>by
  rw[List.length_cons]at hm
  obtain⟨oke,lf'⟩:=lf
  obtain⟨r2',ih⟩:=kq hok es (stp st e) (m+1) (some e.u) lf' (dB hk oke) (Bf hk oke fw) (by omega)
  refine⟨r2',(fX (hok st) rfl ?_).trans ih⟩
  have h:=vc (c:=c) (S:=S) hk oke fw (by omega)
  have i0:(crs c S st)[S.length]?=some (.ins c [some (.ref (S.length+1)),some (.ref (S.length+2)),some (.ref (S.length+3)),some (.ref (S.length+4)),some (.ref (S.length+5))]):=hd0
  rwa[fB,i0,h]
theorem ko{n w:Int}{N:Nat}{evs:List Ev}{l:Nat}(hns:c.ns.length=5)(hl:S[l]?=some (.lst (evs.map Ev.u)))(lo:oQ n w [] evs)(he:evs.length<=900):fC c [.ref l] S=some (.ref S.length,crs c S (bj [] evs)):=by
 unfold fC
 rw[pB]
 have hok:∀st,(crs c S st)[l]?=some (.lst (evs.map Ev.u)):=fun st=>by unfold crs;exact aD hl
 obtain⟨r2,h⟩:=kq (c:=c) (S:=S) (x0:=some (.ref l)) (ok:=fun S=>S[l]?=some (.lst (evs.map Ev.u))) hok evs [] 0 none lo (by simp[aA]) ⟨by simp,by simp⟩ (by omega)
 rwa[d6,ym hns,oA,iTp,hok,h]
end
def eW:CS:=
 (bZ (fe 2 (d8 (iTp (ax 0)) (gNm 0) (BD (aN (cOp fEq (cOp fIx (ax 0) (cC (.int 1))) (ax 1))) (aN (cOp (fIn false) (cOp fIx (ax 0) (cC (.int 0))) (jk (ao (cC (.str "done")) (ao (cC (.str "fall")) aL)))))) (cOp fIx (ax 0) (cC (.int 0))) 1 [1]))
  (gS (cOp fIx (cOp lV (ax 2) (md (ao (cC (.str "open")) aL))) (cC (.int 0)))))
theorem sA{a0 a1:U}{S:Sto}:fnU 3 2 (eW ) [a0,a1] S=((eW ) [some a0,some a1,none] S).bind kFn:=lj rfl
def y2(st:St)(a:Int):List (Int×Int):=((br st a).map (·.lk)).getD []
def xc(st:St)(a:Int):List (Int×Int):=((br st a).map (·.ps)).getD []
def fM(st:St)(a:Int):Option Bool:=(br st a).bind (·.en)
section
variable{n w:Int}{st:St}{e:Ev}{a:Int}
theorem i6(ok:rE n w st (.beg a)):br st a=none:=eM.mpr ok.2.2
theorem qN(h:a≠e.at):y2 (stp st e) a=y2 st a/\xc (stp st e) a=xc st a/\fM (stp st e) a=fM st a:=by
 unfold y2 xc fM
 rw[bT h]
 exact⟨rfl,rfl,rfl⟩
theorem y1(ok:rE n w st (.beg a)):y2 (stp st (.beg a)) a=y2 st a/\xc (stp st (.beg a)) a=xc st a/\fM (stp st (.beg a)) a=fM st a:=by
 unfold y2 xc fM
 rw[dW ok.2.2,i6 ok]
 exact⟨rfl,rfl,rfl⟩
theorem iR{t:Att}(h:br st e.at=some t):y2 (stp st e) e.at=(t.ev e).lk/\xc (stp st e) e.at=(t.ev e).ps/\fM (stp st e) e.at=(t.ev e).en:=by
 unfold y2 xc fM
 rw[b0 h]
 exact⟨rfl,rfl,rfl⟩
end
theorem eS{α:Type}{ok:Sto->Prop}{gg:CG}{ct:CT}{ce:CE}{S:Sto}{f:α->U}{p:α->Bool}{v:α->U}{Rel:Rho->Prop}(hok:∀ys G,ok (S++(.lst ys::G))) :
  ∀(xs:List α) (ys:List U) (G:Sto) (ρ:Rho),Rel ρ->ys.length+xs.length<=9999->
  (∀x∈xs,∀ys G ρ,Rel ρ->∃ρ0 G1,Rel ρ0/\gg (f x) ρ (S++(.lst ys::G))=some (ρ0,S++(.lst ys::G))/\ct ρ0 (S++(.lst ys::G))=some (p x,S++(.lst ys::(G++G1)))/\
   (p x=true->∃G2,ce ρ0 (S++(.lst ys::(G++G1)))=some (v x,S++(.lst ys::(G++G1++G2)))))->
  ∃G',bV ok gg ct ce S.length (xs.map f) ρ (S++(.lst ys::G))=some (S++(.lst (ys++(xs.filter p).map v)::(G++G')))
 |[],ys,G,ρ,_,_,_=>⟨[],by simp only[List.map_nil,List.filter_nil,List.append_nil];exact lY (hok ys G)⟩
 |x::xs,ys,G,ρ,hr,hl,hb=>by
  rw[List.length_cons]at hl
  obtain⟨ρ0,G1,r0,h1,h2,h3⟩:=hb x List.mem_cons_self ys G ρ hr
  have hb':=fun x (hx:x∈xs)=>hb x (List.mem_cons_of_mem _ hx)
  cases hp:p x with
  |false=>
   rw[hp]at h2
   obtain⟨G',h⟩:=eS hok xs ys (G++G1) ρ0 r0 (by omega) hb'
   refine⟨G1++G',?_⟩
   rw[List.map_cons,List.filter_cons_of_neg (by simp[hp])]
   refine(oy (hok ys G) h1 h2).trans ?_
   rw[h,List.append_assoc]
  |true=>
   rw[hp]at h2
   obtain⟨G2,h4⟩:=h3 hp
   obtain⟨G',h⟩:=eS hok xs (ys++[v x]) (G++G1++G2) ρ0 r0 (by simp;omega) hb'
   refine⟨G1++(G2++G'),?_⟩
   rw[List.map_cons,List.filter_cons_of_pos hp]
   refine(lX (hok ys G) h1 h2 h4 (by rw[ga0];rfl) (by unfold LIM;omega)).trans ?_
   rw[gs0]
   simp only[List.set_cons_zero]
   rw[h]
   simp only[List.map_cons,List.append_assoc,List.cons_append,List.nil_append]
section
variable{n w:Int}{S:Sto}{l:Nat}{evs:List Ev}{a:Int}
def fk(a:Int):Ev->Option Bool
 |.fin d b=>if b=a then some d else none
 |_=>none
theorem zc:∀(es:List Ev) (st:St),oQ n w st es->fM (bj st es) a=(fM st a).or (es.filterMap (fk a)).head?
 |[],st,_=>by simp[bj]
 |e::es,st,lf=>by
  obtain⟨ok,lf'⟩:=lf
  have ih:=zc es (stp st e) lf'
  show fM (bj (stp st e) es) a=_
  rw[ih]
  by_cases ea:a=e.at
  ·cases e with
   |beg b=>
    have eb:a=b:=ea
    subst eb
    obtain⟨_,_,k3⟩:=y1 ok
    rw[k3];rfl
   |look b1 b2 b3=>
    have eb:a=b1:=ea
    subst eb
    obtain⟨_,t,t1,t2,t3⟩:=id ok
    obtain⟨_,_,k3⟩:=iR (e:=.look a b2 b3) t1
    simp only[Ev.at]at k3
    have pt:fM st a=t.en:=by unfold fM;rw[t1];rfl
    rw[k3,pt,List.filterMap_cons]
    simp only[Att.ev,fk];split<;>rfl
   |put b1 b2 b3=>
    have eb:a=b1:=ea
    subst eb
    obtain⟨_,t,t1,t2⟩:=id ok
    obtain⟨_,_,k3⟩:=iR (e:=.put a b2 b3) t1
    simp only[Ev.at]at k3
    have pt:fM st a=t.en:=by unfold fM;rw[t1];rfl
    rw[k3,pt];rfl
   |fin d b1=>
    have eb:a=b1:=ea
    subst eb
    obtain⟨t,t1,t2⟩:=id ok
    obtain⟨_,_,k3⟩:=iR (e:=.fin d a) t1
    simp only[Ev.at]at k3
    have pt:fM st a=t.en:=by unfold fM;rw[t1];rfl
    rw[k3,pt,t2,List.filterMap_cons]
    simp[fk,Att.ev]
  ·obtain⟨_,_,k3⟩:=qN (st:=st) ea
   rw[k3]
   have:fk a e=none:=by cases e<;>simp_all [fk,Ev.at,Ne.symm]
   rw[List.filterMap_cons,this]
def Bv:Fn:=fnU 3 2 eW
theorem qY:inU (.str "begin") [.str "done",.str "fall"]=false:=by decide +kernel
def ye:Ev->U
 |.fin d _=>.str (gu d)
 |_=>.non
theorem rb(a:Int):∀es:List Ev,(es.filter fun e=>(fk a e).isSome).map ye=(es.filterMap (fk a)).map fun d=>U.str (gu d)
 |[]=>rfl
 |e::es=>by
  have ih:=rb a es
  rw[List.filter_cons,List.filterMap_cons]
  cases hf:fk a e with
  |none=>simpa [hf] using ih
  |some d=>
   have he:ye e=.str (gu d):=by
    cases e with
    |fin d' b=>
     simp only[fk]at hf
     split at hf<;>cases hf
     rfl
    |_=>simp[fk]at hf
   simpa [hf,he] using ih
theorem EG(hl:S[l]?=some (.lst (evs.map Ev.u)))(lo:oQ n w [] evs)(he:evs.length<=900) :
  ∃G:Sto,Bv [.ref l,.int a] S=some (.str (enS (fM (bj [] evs) a)),S++G):=by
 unfold Bv
 rw[sA]
 have hr:=zc (a:=a) evs [] lo
 obtain⟨G',h⟩:=eS (S:=S) (ok:=fun S=>S[l]?=some (.lst (evs.map Ev.u))) (gg:=gNm 0)
  (ct:=BD (aN (cOp fEq (cOp fIx (ax 0) (cC (.int 1))) (ax 1))) (aN (cOp (fIn false) (cOp fIx (ax 0) (cC (.int 0))) (jk (ao (cC (.str "done")) (ao (cC (.str "fall")) aL))))))
  (ce:=cOp fIx (ax 0) (cC (.int 0))) (f:=Ev.u) (p:=fun e=>(fk a e).isSome) (v:=ye) (Rel:=fun ρ=>∃r0,ρ=[r0,some (.int a)]) (fun ys G=>aD hl) evs [] [] [none,some (.int a)] ⟨_,rfl⟩ (by simp;omega) (fun e he ys G ρ hρ=>by
   obtain⟨r0,rfl⟩:=hρ
   refine⟨[some e.u,some (.int a)],[],⟨_,rfl⟩,rfl,?_,fun hp=>⟨[],?_⟩⟩
   ·cases e with
    |fin d b=>
     by_cases z:b=a
     ·cases d with
      |true=>rwa[Ev.u,gu,if_true,z,eA,ph,fk,Option.isSome_some,List.append_nil]
      |false=>rwa[Ev.u,gu,Bool.false_eq_true,if_false,if_true,z,eA,pf,fk,Option.isSome_some,List.append_nil]
     ·cases d<;>rwa[Ev.u,gu,z,fk,if_false,Option.isSome_none,List.append_nil]
    |beg b=>by_cases z:b=a<;>rwa[Ev.u,z,eA,qY,fk,Option.isSome_none,List.append_nil]
    |look b _ _=>by_cases z:b=a<;>rwa[Ev.u,z,eA,pd,fk,Option.isSome_none,List.append_nil]
    |put b _ _=>by_cases z:b=a<;>rwa[Ev.u,z,eA,uY,fk,Option.isSome_none,List.append_nil]
   ·cases e with
    |fin d b=>rwa[Ev.u,ye,List.append_nil]
    |_=>simp[fk]at hp)
 rw[rb]at h
 simp only[List.nil_append]at h
 obtain⟨ds,hds⟩:∃ds,ds=evs.filterMap (fk a):=⟨_,rfl⟩
 have hdl:ds.length<=900:=by rw[hds];exact Nat.le_trans (List.length_filterMap_le ..) he
 rw[<-hds]at h hr
 have hen:atI (ds.map (fun d=>U.str (gu d))++[U.str "open"]) 0=some (.str (enS (fM (bj [] evs) a))):=by
  rw[hr]
  have e0:fM [] a=none:=rfl
  rw[e0]
  cases ds with
  |nil=>rfl
  |cons d r=>exact at0
 have lcat:lV (.ref S.length) (.ref (S.length+(G'.length+1))) (S++(.lst (ds.map fun d=>U.str (gu d))::(G'++[.lst [.str "open"]])))=some (.ref (S.length+(G'.length+1+1)),S++(.lst (ds.map fun d=>U.str (gu d))::(G'++[.lst [.str "open"],.lst (ds.map (fun d=>U.str (gu d))++[.str "open"])]))):=by
  have g1:(S++(O.lst (ds.map fun d=>U.str (gu d))::(G'++[.lst [.str "open"]])))[S.length+(G'.length+1)]?=some (.lst [.str "open"]):=by rw[ga,List.getElem?_cons_succ,List.getElem?_append_right (by omega)];simp
  simp only[lV,mS,ga0,List.getElem?_cons_zero,g1]
  rw[if_pos (by unfold LIM;simp;omega)]
  simp[Nat.add_assoc]
 refine⟨.lst (ds.map fun d=>U.str (gu d))::(G'++[.lst [.str "open"],.lst (ds.map (fun d=>U.str (gu d))++[.str "open"])]),?_⟩
 have g2:(S++(O.lst (ds.map fun d=>U.str (gu d))::(G'++[.lst [.str "open"],.lst (ds.map (fun d=>U.str (gu d))++[.str "open"])])))[S.length+(G'.length+1+1)]?=some (.lst (ds.map (fun d=>U.str (gu d))++[.str "open"])):=by
  rw[ga,List.getElem?_cons_succ,List.getElem?_append_right (by omega)];simp
 rwa[eW,d8,iTp,hl,lG,List.replicate,Option.getD_some,h,List.length_append,lcat,g2,hen]
end
def yt:Ev->U
 |.beg a=>.int a
 |_=>.non
def eO:Ev->Bool
 |.beg _=>true
 |_=>false
theorem rq:∀(es:List Ev) (st:St),(aA (bj st es)).map U.int=(aA st).map U.int++(es.filter eO).map yt
 |[],st=>by simp[bj]
 |e::es,st=>by
  have ih:=rq es (stp st e)
  show(aA (bj (stp st e) es)).map U.int=_
  rw[ih,gq,List.filter_cons]
  cases e<;>simp[eO,yt]
def chg(st:St)(a:Int)(x:List Int):List Int:=if fM st a=some true then beh x (xc st a) 0 else x
section
variable{n w:Int}{S:Sto}{l:Nat}{evs:List Ev}{a:Int}{N:Nat}
def pV:Fn:=fnU 1 1 dH
theorem rp(hl:S[l]?=some (.lst (evs.map Ev.u)))(lo:kI n w N evs)(he:evs.length<=900)(hN:N<=60) :
  ∃(G:Sto) (k:Nat),pV [.ref l] S=some (.ref (S.length+k),S++G)/\G[k]?=some (.lst ((jn (aA (bj [] evs))).map U.int)):=by
 unfold pV
 rw[oj]
 obtain⟨G',h⟩:=eS (S:=S) (ok:=fun S=>S[l]?=some (.lst (evs.map Ev.u))) (gg:=gNm 0)
  (ct:=aN (cOp fEq (cOp fIx (ax 0) (cC (.int 0))) (cC (.str "begin"))))
  (ce:=cOp fIx (ax 0) (cC (.int 1))) (f:=Ev.u) (p:=eO) (v:=yt) (Rel:=fun ρ=>∃r0,ρ=[r0]) (fun ys G=>aD hl) evs [] [] [none] ⟨_,rfl⟩ (by simp;omega) (fun e he ys G ρ hρ=>by
   obtain⟨r0,rfl⟩:=hρ
   refine⟨[some e.u],[],⟨_,rfl⟩,rfl,?_,fun hp=>⟨[],?_⟩⟩
   ·cases e with
    |fin d b=>cases d with
     |true=>rwa[Ev.u,gu,if_true,fR,eO,List.append_nil]
     |false=>rwa[Ev.u,gu,Bool.false_eq_true,if_false,fQ,eO,List.append_nil]
    |beg b=>rwa[Ev.u,jG,eO,List.append_nil]
    |look b _ _=>rwa[Ev.u,fP,eO,List.append_nil]
    |put b _ _=>rwa[Ev.u,gI,eO,List.append_nil]
   ·cases e with
    |beg b=>rwa[Ev.u,yt,List.append_nil]
    |_=>simp[eO]at hp)
 have hk:=rq evs []
 simp only[aA,List.map_nil,List.nil_append]at hk h
 rw[<-hk]at h
 have hc:=lo.cnt
 have eF:((bj [] evs).map (·.1)).length<64:=by rw[List.length_map];omega
 refine⟨.lst (((bj [] evs).map (·.1)).map U.int)::(G'++[.lst ((jn (aA (bj [] evs))).map U.int)]),G'.length+1,?_,?_⟩
 ·have hs:fZ [.ref S.length] (S++(.lst (((bj [] evs).map (·.1)).map U.int)::G'))=some (.ref (S.length+(G'.length+1)),S++(.lst (((bj [] evs).map (·.1)).map U.int)::(G'++[.lst ((jn (aA (bj [] evs))).map U.int)]))):=by
   simp only[fZ,ga0,List.getElem?_cons_zero,nS,Option.bind_some,eF,if_true]
   simp[aA]
  rwa[dH,d8,iTp,hl,lG,List.replicate,h,hs]
 ·rw[List.getElem?_cons_succ,List.getElem?_append_right (by omega)];simp
end
section
variable{c:Cl}{n w:Int}{S G:Sto}{st:St}{a:Int}{t:Att}{x:List Int}
theorem cB{j:Nat}(hj:j<4)(h:br st a=some t)(hk:(aA st).Nodup):∃r,br (dI S.length j st 0) (.inl a)=some (.ref r)/\∀G,(crs c S st++G)[r]?=(blk t)[j]?:=by
 obtain⟨s1,s2,rfl⟩:=fT h
 refine⟨_,gp hk,fun G=>?_⟩
 have:=kn (c:=c) (S:=S) (s1:=s1) (s2:=s2) (a:=a) (t:=t) hj
 have hs:∃o,(blk t)[j]?=some o:=by
  have:j<(blk t).length:=by simpa [blk] using hj
  exact⟨_,List.getElem?_eq_getElem this⟩
 obtain⟨o,ho⟩:=hs
 rw[ho]at this ⊢
 exact aD this
theorem wM{Z:Sto}{r:Nat}{o o':O}(h:Z[r]?=some o):(Z.set r o').set r o=Z:=by
 rw[List.set_set]
 refine List.ext_getElem? fun i=>?_
 rw[List.getElem?_set]
 split
 ·subst i
  obtain⟨h1,h2⟩:=List.getElem?_eq_some_iff.mp h
  simp[h1,h2]
 ·rfl
end
def eY(aB:Fn)(av:Cl):CS:=
 (eX (cBM eG (ax 2) (ao (iU (iTp (cOp fIx (ax 1) (ax 3))) (gNm 0) (jk (ao (ax 0) (ao (ax 1) aL))) 1 [3]) aL)))
def gb(aB:Fn)(av:Cl):CS:=
 (bZ (fe 1 (js av 4 (cCB aB (ao (ax 0) aL))))
  (bZ (fe 2 (md aL))
  (bZ (sF (ax 1) (gNm 3) (eY aB av))
  (gS (cCB x8 (ao (ax 2) aL))))))
theorem vx{aB:Fn}{av:Cl}{a0:U}{S:Sto}:fnU 4 1 (gb aB av) [a0] S=((gb aB av) [some a0,none,none,none] S).bind kFn:=lj rfl
section
variable{c cA:Cl}{n w:Int}{S G:Sto}{st:St}{a:Int}{t:Att}{x:List Int}{every:Bool}
theorem A1(h:a∈aA st):∃t,br st a=some t:=by
 cases hv:br st a with
 |some t=>exact⟨t,rfl⟩
 |none=>exact absurd h (eM.mp hv)
theorem Aa(h:br st a=some t):a∈aA st:=Classical.byContradiction fun z=>by
 have:=eM.mpr z
 rw[h]at this;cases this
theorem lP:∀st:St,rZ (eI st)=some (aA st)
 |[]=>rfl
 |p::r=>by
  have ih:=lP r
  unfold eI aA at ih ⊢
  rw[List.map_cons,rZ,ih];rfl
end
def BfI(st:St):Prop:=∀a t,br st a=some t->(∀b∈t.bf,b∈aA st/\b≠a)/\t.bf.Nodup
theorem bf0{st:St}:(m6 st).bf=(st.filter fun p=>p.2.en.isSome).map (·.1):=rfl
theorem Bo{n w:Int}{st:St}{e:Ev}(hk:(aA st).Nodup)(ok:rE n w st e)(h:BfI st):BfI (stp st e):=by
 have sub:∀b,b∈aA st->b∈aA (stp st e):=fun b hb=>by
  rw[gq]
  cases e with
  |beg a=>exact List.mem_append_left _ hb
  |_=>exact hb
 intro a t ht
 by_cases ea:a=e.at
 ·cases e with
  |beg b=>
   have eb:a=b:=ea
   subst eb
   rw[dW ok.2.2]at ht
   cases ht
   rw[bf0]
   refine⟨fun b hb=>?_,?_⟩
   ·obtain⟨p,hp,rfl⟩:=List.mem_map.mp hb
    have hm:p.1∈aA st:=List.mem_map.mpr ⟨p,(List.mem_filter.mp hp).1,rfl⟩
    exact⟨sub _ hm,fun z=>ok.2.2 (z▸hm)⟩
   ·have:((st.filter fun p=>p.2.en.isSome).map (·.1)).Sublist (st.map (·.1)):=List.Sublist.map _ List.filter_sublist
    exact List.Nodup.sublist this hk
  |look b1 b2 b3=>
   have eb:a=b1:=ea
   subst eb
   obtain⟨bd,t0,t1,t2,t3⟩:=id ok
   have:=b0 (e:=.look a b2 b3) t1
   simp only[Ev.at]at this
   rw[this]at ht;cases ht
   have q:=h a t0 t1
   have e1:(t0.ev (.look a b2 b3)).bf=t0.bf:=by simp only[Att.ev];split<;>rfl
   rw[e1]
   exact⟨fun b hb=>⟨sub b (q.1 b hb).1,(q.1 b hb).2⟩,q.2⟩
  |put b1 b2 b3=>
   have eb:a=b1:=ea
   subst eb
   obtain⟨_,t0,t1,t2⟩:=id ok
   have:=b0 (e:=.put a b2 b3) t1
   simp only[Ev.at]at this
   rw[this]at ht;cases ht
   have q:=h a t0 t1
   exact⟨fun b hb=>⟨sub b (q.1 b hb).1,(q.1 b hb).2⟩,q.2⟩
  |fin d b1=>
   have eb:a=b1:=ea
   subst eb
   obtain⟨t0,t1,t2⟩:=id ok
   have:=b0 (e:=.fin d a) t1
   simp only[Ev.at]at this
   rw[this]at ht;cases ht
   have q:=h a t0 t1
   exact⟨fun b hb=>⟨sub b (q.1 b hb).1,(q.1 b hb).2⟩,q.2⟩
 ·rw[bT ea]at ht
  have q:=h a t ht
  exact⟨fun b hb=>⟨sub b (q.1 b hb).1,(q.1 b hb).2⟩,q.2⟩
theorem mY{n w:Int}:∀(es:List Ev) (st:St),oQ n w st es->(aA st).Nodup->BfI st->BfI (bj st es)
 |[],st,_,_,h=>h
 |e::es,st,lf,hk,h=>mY es (stp st e) lf.2 (dB hk lf.1) (Bo hk lf.1 h)
theorem Hs:BfI []:=fun a t h=>by simp[br]at h
theorem zg{st:St}(hk:(aA st).Nodup)(h:BfI st){a:Int}{t:Att}(hv:br st a=some t):t.bf.length<=st.length:=by
 have:=List.Nodup.length_le_of_subset (h a t hv).2 (l₂:=aA st) fun b hb=>((h a t hv).1 b hb).1
 unfold aA at this
 rwa[List.length_map]at this
section
variable{c cA:Cl}{n w:Int}{S G C:Sto}{st:St}{a:Int}{t:Att}{x:List Int}{every:Bool}{L:Nat}
def kL(st:St)(a:Int):List Int:=match br st a with
 |some t=>t.bf
 |none=>[]
def prA(a:Int)(b:Int):Int×Int:=(b,a)
def gM(st:St)(as:List Int):List (Int×Int):=as.flatMap fun a=>(kL st a).map (prA a)
theorem qJ{as:List Int}{b:Int}:(b,a)∈gM st as↔a∈as/\b∈kL st a:=by
 unfold gM
 rw[List.mem_flatMap]
 constructor
 ·rintro⟨d,h1,h2⟩
  obtain⟨e,h3,h4⟩:=List.mem_map.mp h2
  cases h4
  exact⟨h1,h3⟩
 ·rintro⟨h1,h2⟩
  exact⟨a,h1,List.mem_map.mpr ⟨b,h2,rfl⟩⟩
theorem vO(hk:(aA st).Nodup)(bi:BfI st):(kL st a).Nodup/\(kL st a).length<=st.length:=by
 unfold kL
 cases hv:br st a with
 |none=>exact⟨List.nodup_nil,Nat.zero_le _⟩
 |some t=>exact⟨(bi a t hv).2,zg hk bi hv⟩
theorem mG(hk:(aA st).Nodup)(bi:BfI st):∀as:List Int,as.Nodup->(gM st as).Nodup
 |[],_=>List.nodup_nil
 |a::as,h=>by
  obtain⟨h1,h2⟩:=List.nodup_cons.mp h
  have ih:=mG hk bi as h2
  unfold gM at ih ⊢
  rw[List.flatMap_cons,List.nodup_append]
  refine⟨?_,ih,fun p hp q hq e=>?_⟩
  ·exact List.Pairwise.map (prA a) (fun u v h e=>h (by cases e;rfl)) (vO hk bi).1
  ·subst e
   obtain⟨b,hb,rfl⟩:=List.mem_map.mp hp
   exact h1 (qJ.mp hq).1
theorem jx(hk:(aA st).Nodup)(bi:BfI st):∀as:List Int,(gM st as).length<=as.length*st.length
 |[]=>Nat.zero_le _
 |a::as=>by
  have ih:=jx hk bi as
  have h:=(vO (a:=a) hk bi).2
  unfold gM at ih ⊢
  rw[List.flatMap_cons,List.length_append,List.length_map,List.length_cons,Nat.succ_mul]
  omega
theorem vS(p:Int×Int):∀L:List (Int×Int),L.Pairwise (fun a b=>ltP a b=true)->∃M:List (Int×Int),M.Pairwise (fun a b=>ltP a b=true)/\∀q,q∈M↔q=p\/q∈L
 |[],_=>⟨[p],List.pairwise_singleton _ _,fun q=>by simp⟩
 |y::L,h=>by
  obtain⟨h1,h2⟩:=List.pairwise_cons.mp h
  by_cases e:p=y
  ·subst e
   exact⟨p::L,h,fun q=>by simp⟩
  ·cases hp:ltP p y with
   |true=>
    refine⟨p::y::L,List.pairwise_cons.mpr ⟨fun z hz=>?_,h⟩,fun q=>by simp⟩
    rcases List.mem_cons.mp hz with rfl|m
    ·exact hp
    ·have:=h1 z m
     simp only[ltP,decide_eq_true_eq]at this hp ⊢
     omega
   |false=>
    obtain⟨M,m1,m2⟩:=vS p L h2
    refine⟨y::M,List.pairwise_cons.mpr ⟨fun z hz=>?_,m1⟩,fun q=>?_⟩
    ·rcases(m2 z).mp hz with rfl|m
     ·have e':¬(z.1=y.1/\z.2=y.2):=fun k=>e (Prod.ext k.1 k.2)
      simp only[ltP,decide_eq_true_eq,decide_eq_false_iff_not]at hp ⊢
      omega
     ·exact h1 z m
    ·rw[List.mem_cons,m2 q,List.mem_cons]
     constructor
     ·rintro(k|k|k)
      ·exact .inr (.inl k)
      ·exact .inl k
      ·exact .inr (.inr k)
     ·rintro(k|k|k)
      ·exact .inr (.inl k)
      ·exact .inl k
      ·exact .inr (.inr k)
theorem vT:∀ps:List (Int×Int),∃M:List (Int×Int),M.Pairwise (fun a b=>ltP a b=true)/\∀q,q∈M↔q∈ps
 |[]=>⟨[],List.Pairwise.nil,fun q=>Iff.rfl⟩
 |p::ps=>by
  obtain⟨L,h1,h2⟩:=vT ps
  obtain⟨M,m1,m2⟩:=vS p L h1
  exact⟨M,m1,fun q=>by rw[m2,h2,List.mem_cons]⟩
theorem nO{B j:Nat}:∀(st:St) (i:Nat),(dI B j st i).map (fun q=>kU q.1)=(aA st).map U.int
 |[],_=>rfl
 |p::r,i=>by
  have ih:=nO (B:=B) (j:=j) r (i+1)
  rw[dI,List.map_cons,ih];rfl
theorem ow{α:Type}{ok:Sto->Prop}{gg:CG}{ce:CE}{S:Sto}{f:α->U}{v:α->U}{Rel:Rho->Prop}(hok:∀ys G,ok (S++(.lst ys::G))) :
  ∀(xs:List α) (ys:List U) (G:Sto) (ρ:Rho),Rel ρ->ys.length+xs.length<=9999->
  (∀x∈xs,∀ys G ρ,Rel ρ->∃ρ0,Rel ρ0/\gg (f x) ρ (S++(.lst ys::G))=some (ρ0,S++(.lst ys::G))/\ce ρ0 (S++(.lst ys::G))=some (v x,S++(.lst ys::G)))->
  ft ok gg ce S.length (xs.map f) ρ (S++(.lst ys::G))=some (S++(.lst (ys++xs.map v)::G))
 |[],ys,G,ρ,_,_,_=>by simp only[List.map_nil,List.append_nil];exact mX (hok ys G)
 |x::xs,ys,G,ρ,hr,hl,hb=>by
  rw[List.length_cons]at hl
  obtain⟨ρ0,r0,h1,h2⟩:=hb x List.mem_cons_self ys G ρ hr
  have h:=ow hok xs (ys++[v x]) G ρ0 r0 (by simp;omega) (fun x hx=>hb x (List.mem_cons_of_mem _ hx))
  rw[List.map_cons]
  refine(kr (hok ys G) h1 h2 (by rw[ga0];rfl) (by unfold LIM;omega)).trans ?_
  rw[gs0]
  simp only[List.set_cons_zero]
  rw[h]
  simp only[List.map_cons,List.append_assoc,List.cons_append,List.nil_append]
end
def nc(es:List Ev):List Int:=(es.filter eO).map Ev.at
def kN(es:List Ev):Ev->List (Int×Int)
 |.fin _ a=>(nc es).map fun b=>(a,b)
 |_=>[]
def mv:List Ev->List (Int×Int)
 |[]=>[]
 |e::es=>kN es e++mv es
section
variable{n w:Int}{st:St}{e:Ev}{a b:Int}
theorem uE(hk:(aA st).Nodup):b∈(st.filter fun p=>p.2.en.isSome).map (·.1)↔(fM st b).isSome=true:=by
 constructor
 ·intro h
  obtain⟨p,hp,rfl⟩:=List.mem_map.mp h
  obtain⟨hm,he⟩:=List.mem_filter.mp hp
  obtain⟨l,r,e⟩:=List.append_of_mem hm
  have hv:br st p.1=some p.2:=by
   unfold aA at hk
   rw[e]at hk ⊢
   refine jH fun z=>?_
   rw[List.map_append,List.map_cons]at hk
   exact(List.nodup_append.mp hk).2.2 _ z _ List.mem_cons_self rfl
  unfold fM
  rw[hv];exact he
 ·intro h
  unfold fM at h
  cases hv:br st b with
  |none=>rw[hv]at h;cases h
  |some t=>
   rw[hv]at h
   exact List.mem_map.mpr ⟨(b,t),List.mem_filter.mpr ⟨gU hv,h⟩,rfl⟩
theorem D1(ok:rE n w st e)(h:∀a,e≠.beg a):∃t,br st e.at=some t/\t.en=none:=by
 cases e with
 |beg a=>exact absurd rfl (h a)
 |look a b x=>obtain⟨_,t,h1,h2,_⟩:=ok;exact⟨t,h1,h2⟩
 |put a b x=>obtain⟨_,t,h1,h2⟩:=ok;exact⟨t,h1,h2⟩
 |fin d a=>exact ok
theorem EN(hk:(aA st).Nodup)(ok:rE n w st e):b∈kL (stp st e) a↔b∈kL st a\/e=.beg a/\(fM st b).isSome=true:=by
 by_cases h:a=e.at
 ·cases e with
  |beg x=>
   have hx:a=x:=h
   subst hx
   have e1:kL (stp st (.beg a)) a=(st.filter fun p=>p.2.en.isSome).map (·.1):=by unfold kL;rw[dW ok.2.2];rfl
   have e2:kL st a=[]:=by unfold kL;rw[i6 ok]
   rw[e1,e2,uE hk]
   simp
  |_=>
   obtain⟨t,h1,_⟩:=D1 ok (by intro a z;cases z)
   rw[h]
   have e1:=b0 h1
   have e2:∀t:Att,∀e:Ev,(t.ev e).bf=t.bf:=fun t e=>by cases e<;>simp only[Att.ev]<;>split<;>rfl
   unfold kL
   rw[e1,h1]
   simp only[e2,reduceCtorEq,false_and,or_false]
 ·have e1:kL (stp st e) a=kL st a:=by unfold kL;rw[bT h]
  rw[e1]
  exact⟨.inl,fun z=>z.elim id fun q=>absurd (by rw[q.1];rfl) h⟩
theorem vw(ok:rE n w st e):(fM (stp st e) b).isSome=true↔(fM st b).isSome=true\/∃d,e=.fin d b:=by
 by_cases h:b=e.at
 ·cases e with
  |beg x=>
   have hx:b=x:=h
   subst hx
   rw[(y1 ok).2.2]
   exact⟨.inl,fun z=>z.elim id fun⟨d,q⟩=>by cases q⟩
  |fin d x=>
   have hx:b=x:=h
   subst hx
   obtain⟨t,h1,_⟩:=id ok
   have:=(iR (e:=.fin d b) h1).2.2
   simp only[Ev.at]at this
   rw[this]
   exact⟨fun _=>.inr ⟨d,rfl⟩,fun _=>rfl⟩
  |look x y z=>
   have hx:b=x:=h
   subst hx
   obtain⟨_,t,h1,_⟩:=id ok
   have:=(iR (e:=.look b y z) h1).2.2
   simp only[Ev.at]at this
   have e2:(t.ev (.look b y z)).en=t.en:=by simp only[Att.ev];split<;>rfl
   rw[this,e2]
   unfold fM
   rw[h1]
   exact⟨.inl,fun z=>z.elim id fun⟨d,q⟩=>by cases q⟩
  |put x y z=>
   have hx:b=x:=h
   subst hx
   obtain⟨_,t,h1,_⟩:=id ok
   have:=(iR (e:=.put b y z) h1).2.2
   simp only[Ev.at]at this
   rw[this]
   unfold fM
   rw[h1]
   exact⟨.inl,fun z=>z.elim id fun⟨d,q⟩=>by cases q⟩
 ·rw[(qN h).2.2]
  exact⟨.inl,fun z=>z.elim id fun⟨d,q⟩=>absurd (by rw[q];rfl) h⟩
theorem nz:∀(es:List Ev) (st:St),oQ n w st es->(aA st).Nodup->(b∈kL (bj st es) a↔b∈kL st a\/(a∈nc es/\(fM st b).isSome=true)\/(b,a)∈mv es)
 |[],st,_,_=>by simp[bj,nc,mv]
 |e::es,st,lf,hk=>by
  have ih:=nz es (stp st e) lf.2 (dB hk lf.1)
  have e1:bj st (e::es)=bj (stp st e) es:=rfl
  have t1:mv (e::es)=kN es e++mv es:=rfl
  rw[e1,ih,EN hk lf.1,vw lf.1,t1,List.mem_append]
  cases e with
  |beg x=>
   have b1:nc (.beg x::es)=x::nc es:=rfl
   rw[b1,List.mem_cons]
   simp only[kN,List.not_mem_nil,false_or,reduceCtorEq,exists_false,or_false,Ev.beg.injEq]
   constructor
   ·rintro((h|⟨h,h'⟩)|⟨h,h'⟩|h)
    ·exact .inl h
    ·exact .inr (.inl ⟨.inl h.symm,h'⟩)
    ·exact .inr (.inl ⟨.inr h,h'⟩)
    ·exact .inr (.inr h)
   ·rintro(h|⟨h|h,h'⟩|h)
    ·exact .inl (.inl h)
    ·exact .inl (.inr ⟨h.symm,h'⟩)
    ·exact .inr (.inl ⟨h,h'⟩)
    ·exact .inr (.inr h)
  |fin d x=>
   have b1:nc (.fin d x::es)=nc es:=rfl
   have m1:(b,a)∈kN es (.fin d x)↔a∈nc es/\x=b:=by
    simp only[kN,List.mem_map,Prod.mk.injEq]
    exact⟨fun⟨y,h1,h2,h3⟩=>⟨by rw[<-h3];exact h1,h2⟩,fun⟨h1,h2⟩=>⟨a,h1,h2,rfl⟩⟩
   rw[b1,m1]
   simp only[reduceCtorEq,false_and,or_false,Ev.fin.injEq,exists_and_right,exists_eq',true_and]
   constructor
   ·rintro(h|⟨h,h'|h'⟩|h)
    ·exact .inl h
    ·exact .inr (.inl ⟨h,h'⟩)
    ·exact .inr (.inr (.inl ⟨h,h'⟩))
    ·exact .inr (.inr (.inr h))
   ·rintro(h|⟨h,h'⟩|⟨h,h'⟩|h)
    ·exact .inl h
    ·exact .inr (.inl ⟨h,.inl h'⟩)
    ·exact .inr (.inl ⟨h,.inr h'⟩)
    ·exact .inr (.inr h)
  |look x y z=>
   have b1:nc (.look x y z::es)=nc es:=rfl
   rw[b1]
   simp only[kN,List.not_mem_nil,false_or,reduceCtorEq,exists_false,or_false,false_and]
  |put x y z=>
   have b1:nc (.put x y z::es)=nc es:=rfl
   rw[b1]
   simp only[kN,List.not_mem_nil,false_or,reduceCtorEq,exists_false,or_false,false_and]
theorem qk:∀(es:List Ev) (st:St),oQ n w st es->(b,a)∈mv es->fM st b=none
 |[],st,_,h=>by cases h
 |e::es,st,lf,h=>by
  rcases List.mem_append.mp (show(b,a)∈kN es e++mv es from h)with h|h
  ·cases e with
   |fin d x=>
    simp only[kN,List.mem_map,Prod.mk.injEq]at h
    obtain⟨y,_,rfl,_⟩:=h
    obtain⟨t,h1,h2⟩:=lf.1
    unfold fM
    rw[h1];exact h2
   |_=>cases h
  ·have:=qk es (stp st e) lf.2 h
   cases hn:fM st b with
   |none=>rfl
   |some d=>
    have:=(vw (b:=b) lf.1).mpr (.inl (by rw[hn];rfl))
    rw[‹fM (stp st e) b=none›]at this
    cases this
theorem qQ:∀(es:List Ev) (st:St),aA (bj st es)=aA st++nc es
 |[],st=>by simp[bj,nc]
 |e::es,st=>by
  have ih:=qQ es (stp st e)
  have e1:bj st (e::es)=bj (stp st e) es:=rfl
  rw[e1,ih,gq]
  cases e with
  |beg x=>
   have b1:nc (.beg x::es)=x::nc es:=rfl
   rw[b1,List.append_assoc];rfl
  |_=>rfl
theorem nM:∀(es:List Ev) (st:St),oQ n w st es->(aA st).Nodup->(aA (bj st es)).Nodup
 |[],st,_,h=>h
 |e::es,st,lf,h=>nM es (stp st e) lf.2 (dB h lf.1)
theorem nA:∀(es:List Ev) (st:St),oQ n w st es->(aA st).Nodup->(mv es).Nodup
 |[],st,_,_=>List.nodup_nil
 |e::es,st,lf,hk=>by
  have ih:=nA es (stp st e) lf.2 (dB hk lf.1)
  have nb:(nc es).Nodup:=by
   have:=nM es (stp st e) lf.2 (dB hk lf.1)
   rw[qQ]at this
   exact(List.nodup_append.mp this).2.1
  show(kN es e++mv es).Nodup
  refine List.nodup_append.mpr ⟨?_,ih,fun p hp q hq z=>?_⟩
  ·cases e with
   |fin d x=>
    refine List.pairwise_map.mpr (nb.imp fun h z=>h ?_)
    exact(Prod.mk.inj z).2
   |_=>exact List.nodup_nil
  ·subst z
   cases e with
   |fin d x=>
    simp only[kN,List.mem_map]at hp
    obtain⟨y,_,rfl⟩:=hp
    have h1:=qk es (stp st (.fin d x)) lf.2 hq
    have h2:=(vw (b:=x) lf.1).mpr (.inr ⟨d,rfl⟩)
    rw[h1]at h2
    cases h2
   |_=>cases hp
theorem tR{ps qs:List (Int×Int)}(h:∀x,x∈ps↔x∈qs):fK ps=fK qs:=by
 obtain⟨M,h1,h2⟩:=vT qs
 rw[jw h1 h2,jw h1 fun x=>(h2 x).trans (h x).symm]
end
section
variable{n w:Int}{N:Nat}{evs:List Ev}
theorem tN(lg:kI n w N evs)(p:Int×Int):p∈mv evs↔p∈gM (bj [] evs) (aA (bj [] evs)):=by
 obtain⟨b,a⟩:=p
 rw[qJ]
 have h:=nz (b:=b) (a:=a) evs [] lg.lo List.nodup_nil
 have h0:kL [] a=[]:=rfl
 have h1:fM [] b=none:=rfl
 rw[h0,h1]at h
 simp only[List.not_mem_nil,Option.isSome_none,Bool.false_eq_true,and_false,false_or]at h
 rw[<-h]
 refine⟨fun z=>⟨?_,z⟩,fun z=>z.2⟩
 unfold kL at z
 cases hv:br (bj [] evs) a with
 |none=>rw[hv]at z;cases z
 |some t=>exact Aa hv
end
theorem HJ{ca cb:CS}{ρ ρ':Rho}{S S':Sto}(h:ca ρ S=some (.nx,ρ',S')):bZ ca cb ρ S=cb ρ' S':=by rw[BS,h,Option.bind_some,yz]
end OQ
namespace OL
open PySem PySem.Spec PyProof.Rows L2 OG OP OQ
def top(i:Nat):Stmt:=PySem.Challenge.pw_oneglance_k12_attempts_and_times.main.body.getD i (.Pass ⟨0,0,0,0⟩)
abbrev cG:Stmt:=mN (top 2) 0
abbrev bO:Stmt:=mN (top 2) 2
abbrev bX:Stmt:=mN (top 2) 3
abbrev ba:Stmt:=mN (top 2) 4
abbrev cS:Stmt:=top 3
abbrev dh:Stmt:=top 4
abbrev fg:Stmt:=top 5
abbrev gJ:Stmt:=top 6
abbrev dj:Stmt:=top 8
abbrev cT:Stmt:=top 9
abbrev b6:Stmt:=top 10
abbrev b8:Stmt:=top 11
abbrev cf:Stmt:=top 12
abbrev bU:Stmt:=top 13
abbrev cg:Stmt:=top 14
abbrev dk:Stmt:=top 15
abbrev cm:Stmt:=top 16
abbrev dq:Stmt:=top 17
abbrev b7:Stmt:=top 20
abbrev cU:Stmt:=top 21
abbrev kO:Stmt:=top 22
section
variable{P:Program}{w:World}{K:PySem.W.Frag}{mg:Str->Option Value}{base:Heap}
theorem i8:aT ["pen","many","at","cell","one","two","three","found"] ["pen","many"] (ay cT):=⟨rfl,rfl,rfl,by decide +kernel,rfl,by decide +kernel,by decide +kernel⟩
theorem px{k:Nat}(d:Def K mg "_law_take" cT ["pen","many"])(B:Blt mg):eL P w K mg base "_law_take" (k+1) ["pen","many"] (fnU 8 2 (dw )):=
 d.pure i8 fun f cdv A outer s H E hr=>by
  have hu:=eQ hr
  have nd:=i8.nd
  exact(aC (dM (cq iA qF (cW hu (ae (wpv 0)) (aF aw) (fun _ _=>rfl) (fun _ _=>rfl)) (aF aw) (bM _)) (aC (bF (i:=2) nd rfl (by first|exact Or.inl rfl|exact Or.inr rfl) (cW hu (ae (wpv 0)) (aF aw) (fun _ _=>rfl) (fun _ _=>rfl)))
   (aC (cR hu (ae (wpv 0)) (aF aw) (fW iB iw (ae (wpv 2)) (aF aw)))
   (aC (bF (i:=3) nd rfl (by first|exact Or.inl rfl|exact Or.inr rfl) (aF aw))
   (aC (dM (cq AW GU (ae (wpv 2)) (dZ o5 oZ rfl B.len PySem.boot_len (ag (cW hu (ae (wpv 0)) (aF aw) (fun _ _=>rfl) (fun _ _=>rfl)) aG)) (bM _)) (aH (bF (i:=3) nd rfl (by first|exact Or.inl rfl|exact Or.inr rfl) (cW hu (cW hu (ae (wpv 0)) (aF aw) (fun _ _=>rfl) (fun _ _=>rfl)) (ae (wpv 2)) (fun _ _=>rfl) (fun _ _=>rfl)))) (aH (dM (cq GV Ja (dZ o5 oZ rfl B.len PySem.boot_len (ag (cW hu (ae (wpv 0)) (aF aw) (fun _ _=>rfl) (fun _ _=>rfl)) aG)) (aF aw) (bM _)) (aH (bF (i:=3) nd rfl (by first|exact Or.inl rfl|exact Or.inr rfl) (fW iB iw (fW jT oY (cW hu (cW hu (ae (wpv 0)) (aF aw) (fun _ _=>rfl) (fun _ _=>rfl)) (fW jT oY (fW jc nL (ae (wpv 2)) (aF aw)) (dZ o5 oZ rfl B.len PySem.boot_len (ag (cW hu (ae (wpv 0)) (aF aw) (fun _ _=>rfl) (fun _ _=>rfl)) aG))) (fun _ _=>rfl) (fun _ _=>rfl)) (aF aw)) (fW jc nL (aF aw) (ae (wpv 2)))))) dg)))
   (aC (bF (i:=4) nd rfl (by first|exact Or.inl rfl|exact Or.inr rfl) (fW jT oY (fW jc nL (fW iB iw (fW iB iw (fW jT oY (ae (wpv 3)) (aF aw)) (fW jc nL (aF aw) (ae (wpv 2)))) (aF aw)) (aF aw)) (aF aw)))
   (aC (bF (i:=5) nd rfl (by first|exact Or.inl rfl|exact Or.inr rfl) (fW jT oY (fW iB iw (fW iB iw (fW jc nL (ae (wpv 4)) (ae (wpv 4))) (fW jc nL (aF aw) (ae (wpv 2)))) (aF aw)) (aF aw)))
   (aC (bF (i:=6) nd rfl (by first|exact Or.inl rfl|exact Or.inr rfl) (fW jT oY (fW iB iw (fW jc nL (ae (wpv 5)) (ae (wpv 5))) (ae (wpv 4))) (aF aw)))
   (aC (cR hu (ae (wpv 0)) (aF aw) (fW iB iw (fW mI AU (fW iB iw (fW jc nL (ae (wpv 5)) (aF aw)) (ae (wpv 6))) (aF aw)) (aF aw)))
   (aH (dM (cq GW Jb (ae (wpv 3)) (fW yY DT (aF aw) (aF aw)) (bM _)) (aH (cR hu (ae (wpv 0)) (aF aw) (fW mI AU (ae (wpv 3)) (fW yY DT (aF aw) (aF aw))))) dg)))))))))) dg)
   (aC (bF (i:=7) nd rfl (by first|exact Or.inl rfl|exact Or.inr rfl) (fW jT oY (cW hu (ae (wpv 0)) (aF aw) (fun _ _=>rfl) (fun _ _=>rfl)) (ae (wpv 1))))
   (aC (cR hu (ae (wpv 0)) (aF aw) (fW mI AU (cW hu (ae (wpv 0)) (aF aw) (fun _ _=>rfl) (fun _ _=>rfl)) (ae (wpv 1))))
   (aH (bS (ae (wpv 7)))))))
theorem g6:aT ["pen"] ["pen"] (ay b6):=⟨rfl,rfl,rfl,by decide +kernel,rfl,by decide +kernel,by decide +kernel⟩
theorem nT{k:Nat}{ak:Fn}(d:Def K mg "_law_world" b6 ["pen"])(B:Blt mg)(aE:eL P w K mg base "_law_take" (k) ["pen","many"] ak):eL P w K mg base "_law_world" (k+1) ["pen"] (fnU 1 1 (dC ak)):=
 d.pure g6 fun f cdv A outer s H E hr=>by
  have hu:=eQ hr
  have nd:=g6.nd
  exact(aH (bS (iM (ag (fW iB iw (aF aw) (bo aE hr rfl (ag (ae (wpv 0)) (ag (aF aw) aG)))) (ag (cW hu (iN (ag (aF aw) (ag (aF aw) (ag (aF aw) (ag (aF aw) (ag (fW iB iw (aF aw) (bo aE hr rfl (ag (ae (wpv 0)) (ag (aF aw) aG)))) aG)))))) (bo aE hr rfl (ag (ae (wpv 0)) (ag (aF aw) aG))) (fun _ _=>rfl) (fun _ _=>rfl)) aG)))))
theorem hJ:aT ["pen","world"] ["pen","world"] (ay b8):=⟨rfl,rfl,rfl,by decide +kernel,rfl,by decide +kernel,by decide +kernel⟩
theorem nV{k:Nat}{ak:Fn}(d:Def K mg "_law_state" b8 ["pen","world"])(B:Blt mg)(aE:eL P w K mg base "_law_take" (k) ["pen","many"] ak):eL P w K mg base "_law_state" (k+1) ["pen","world"] (fnU 2 2 (dE ak)):=
 d.pure hJ fun f cdv A outer s H E hr=>by
  have hu:=eQ hr
  have nd:=hJ.nd
  exact(aH (bS (mE iJ uv rfl B.tuple OG.gv (ag (qy (Nc:=["box","pen","world"]) (tn:=["box"]) (capN:=["pen","world"]) (caps:=[0,1]) rfl (fV rfl B.range (ag (cW hu (ae (wpv 1)) (aF aw) (fun _ _=>rfl) (fun _ _=>rfl)) aG)) (fun _ _ _=>(dv (aU (i:=0) (show(["box","pen","world"]:List Str).Nodup by decide +kernel) rfl (by first|exact Or.inl rfl|exact Or.inr rfl)))) (fun _ _ _=>(bo aE hr rfl (ag (ae (wpv 1)) (ag (cW hu (ae (wpv 2)) (aF aw) (fun _ _=>rfl) (fun _ _=>rfl)) aG)))) rfl rfl (by decide +kernel) (by decide +kernel) ⟨rfl,rfl,trivial⟩ rfl (.cons ⟨rfl,rfl,rfl,_,rfl⟩ (.cons ⟨rfl,rfl,rfl,_,rfl⟩ .nil)) rfl rfl) aG))))
theorem hU:aT ["pen","many","left","found","k"] ["pen","many"] (ay cf):=⟨rfl,rfl,rfl,by decide +kernel,rfl,by decide +kernel,by decide +kernel⟩
theorem nW{k:Nat}{ak:Fn}(d:Def K mg "_law_names" cf ["pen","many"])(B:Blt mg)(aE:eL P w K mg base "_law_take" (k) ["pen","many"] ak):eL P w K mg base "_law_names" (k+1) ["pen","many"] (fnU 5 2 (dF ak)):=
 d.pure hU fun f cdv A outer s H E hr=>by
  have hu:=eQ hr
  have nd:=hU.nd
  exact(aC (bF (i:=2) nd rfl (by first|exact Or.inl rfl|exact Or.inr rfl) (oX rfl rfl B.list rfl B.range (ag (aF aw) aG) rfl rfl))
   (aC (bF (i:=3) nd rfl (by first|exact Or.inl rfl|exact Or.inr rfl) (iN aG))
   (aC (jN PassesOwn.never rfl (fV rfl B.range (ag (ae (wpv 1)) aG)) (dv (aU (i:=4) nd rfl (by first|exact Or.inl rfl|exact Or.inr rfl))) (aH (du (fh (ae (wpv 3)) (ag (uc (ae (wpv 2)) (ag (bo aE hr rfl (ag (ae (wpv 0)) (ag (dZ o5 oZ rfl B.len PySem.boot_len (ag (ae (wpv 2)) aG)) aG))) aG)) aG)))))
   (aH (bS (ae (wpv 3)))))))
theorem gC:aT ["state","puts"] ["state","puts"] (ay bU):=⟨rfl,rfl,rfl,by decide +kernel,rfl,by decide +kernel,by decide +kernel⟩
theorem mP{k:Nat}(d:Def K mg "_law_put_in" bU ["state","puts"])(B:Blt mg):eL P w K mg base "_law_put_in" (k+1) ["state","puts"] (fnU 2 2 (dc )):=
 d.pure gC fun f cdv A outer s H E hr=>by
  have hu:=eQ hr
  have nd:=gC.nd
  exact(aH (bS (mE iJ uv rfl B.tuple OG.gv (ag (qy (Nc:=["box","number","puts"]) (tn:=["box","number"]) (capN:=["puts"]) (caps:=[1]) rfl (ua rfl B.enumerate (ae (wpv 0))) (fun _ _ _=>(qv rfl (dP (aU (i:=0) (show(["box","number","puts"]:List Str).Nodup by decide +kernel) rfl (by first|exact Or.inl rfl|exact Or.inr rfl)) (dP (aU (i:=1) (show(["box","number","puts"]:List Str).Nodup by decide +kernel) rfl (by first|exact Or.inl rfl|exact Or.inr rfl)) mD)))) (fun _ _ _=>(yT hu (ae (wpv 2)) (ae (wpv 0)) (ae (wpv 1)) ⟨rfl,rfl,rfl,rfl⟩)) rfl rfl (by decide +kernel) (by decide +kernel) ⟨rfl,trivial⟩ rfl (.cons ⟨rfl,rfl,rfl,_,rfl⟩ .nil) rfl rfl) aG))))
theorem ib:aT ["pen","world","a","seen","puts","now","way","box","number"] ["pen","world","a","seen","puts","now"] (ay cg):=⟨rfl,rfl,rfl,by decide +kernel,rfl,by decide +kernel,by decide +kernel⟩
theorem nX{k:Nat}{ak:Fn}(d:Def K mg "_law_event" cg ["pen","world","a","seen","puts","now"])(B:Blt mg)(aE:eL P w K mg base "_law_take" (k) ["pen","many"] ak):eL P w K mg base "_law_event" (k+1) ["pen","world","a","seen","puts","now"] (fnU 9 6 (cD ak)):=
 d.pure ib fun f cdv A outer s H E hr=>by
  have hu:=eQ hr
  have nd:=ib.nd
  exact(aC (bF (i:=6) nd rfl (by first|exact Or.inl rfl|exact Or.inr rfl) (bo aE hr rfl (ag (ae (wpv 0)) (ag (aF aw) aG))))
   (aC (bF (i:=7) nd rfl (by first|exact Or.inl rfl|exact Or.inr rfl) (bo aE hr rfl (ag (ae (wpv 0)) (ag (cW hu (ae (wpv 1)) (aF aw) (fun _ _=>rfl) (fun _ _=>rfl)) aG))))
   (aC (dM (cq AW GU (ae (wpv 6)) (aF aw) (bM _)) (aC (bF (i:=8) nd rfl (by first|exact Or.inl rfl|exact Or.inr rfl) (cW hu (iN (ag (cW hu (ae (wpv 3)) (ae (wpv 7)) (fun _ _=>rfl) (fun _ _=>rfl)) (ag (cW hu (ae (wpv 3)) (ae (wpv 7)) (fun _ _=>rfl) (fun _ _=>rfl)) (ag (cW hu (ae (wpv 5)) (ae (wpv 7)) (fun _ _=>rfl) (fun _ _=>rfl)) (ag (bo aE hr rfl (ag (ae (wpv 0)) (ag (cW hu (ae (wpv 1)) (aF aw) (fun _ _=>rfl) (fun _ _=>rfl)) aG))) aG))))) (bo aE hr rfl (ag (ae (wpv 0)) (ag (aF aw) aG))) (fun _ _=>rfl) (fun _ _=>rfl)))
   (aH (bS (iM (ag (dY bz) (ag (ae (wpv 2)) (ag (ae (wpv 7)) (ag (yT hu (ae (wpv 4)) (ae (wpv 7)) (ae (wpv 8)) ⟨rfl,rfl,rfl,rfl⟩) aG)))))))) dg)
   (aC (dM (cq AW GU (ae (wpv 6)) (aF aw) (bM _)) (aH (bS (iM (ag (dY bz) (ag (ae (wpv 2)) (ag (ae (wpv 7)) (ag (bo aE hr rfl (ag (ae (wpv 0)) (ag (cW hu (ae (wpv 1)) (aF aw) (fun _ _=>rfl) (fun _ _=>rfl)) aG))) aG))))))) dg)
   (aH (bS (iM (ag (cW hu (iN (ag (dY bz) (ag (dY bz) (ag (dY bz) (ag (dY bz) aG))))) (fW DW GQ (ae (wpv 6)) (aF aw)) (fun _ _=>rfl) (fun _ _=>rfl)) (ag (ae (wpv 2)) aG)))))))))
theorem jK:aT ["pen","world","state","most","size","names","log","now","going","k","at","a","seen","puts"] ["pen","world","state","most","size"] (ay dk):=⟨rfl,rfl,rfl,by decide +kernel,rfl,by decide +kernel,by decide +kernel⟩
theorem sg{k:Nat}{bJ ak bK bt:Fn}(d:Def K mg "_law_log" dk ["pen","world","state","most","size"])(B:Blt mg)(gm:eL P w K mg base "_law_names" (k) ["pen","many"] bJ)(aE:eL P w K mg base "_law_take" (k) ["pen","many"] ak)(gn:eL P w K mg base "_law_event" (k) ["pen","world","a","seen","puts","now"] bK)(fD:eL P w K mg base "_law_put_in" (k) ["state","puts"] bt):eL P w K mg base "_law_log" (k+1) ["pen","world","state","most","size"] (fnU 14 5 (eV bJ ak bK bt)):=
 d.pure jK fun f cdv A outer s H E hr=>by
  have hu:=eQ hr
  have nd:=jK.nd
  exact(aC (bF (i:=5) nd rfl (by first|exact Or.inl rfl|exact Or.inr rfl) (bo gm hr rfl (ag (ae (wpv 0)) (ag (bo aE hr rfl (ag (ae (wpv 0)) (ag (fW iB iw (ae (wpv 3)) (aF aw)) aG))) aG))))
   (aC (bF (i:=6) nd rfl (by first|exact Or.inl rfl|exact Or.inr rfl) (iN aG))
   (aC (bF (i:=7) nd rfl (by first|exact Or.inl rfl|exact Or.inr rfl) (ae (wpv 2)))
   (aC (bF (i:=8) nd rfl (by first|exact Or.inl rfl|exact Or.inr rfl) (iN aG))
   (aC (jN PassesOwn.never rfl (fV rfl B.range (ag (bo aE hr rfl (ag (ae (wpv 0)) (ag (fW iB iw (ae (wpv 4)) (aF aw)) aG))) aG)) (dv (aU (i:=9) nd rfl (by first|exact Or.inl rfl|exact Or.inr rfl))) (aH (dM (Dh (Dk (cq (uw hr.units) xB (ae (wpv 5)) (iN aG) (bM _)) (yU (Dh (GF (cq (DX hr.units) xB (ae (wpv 8)) (iN aG) (bM _)) (Aq (cq iA qF (bo aE hr rfl (ag (ae (wpv 0)) (ag (aF aw) aG))) (aF aw) (bM _)))))))) (aC (du (fh (ae (wpv 8)) (ag (iM (ag (GD (ae (wpv 5))) (ag (ae (wpv 7)) (ag jP aG)))) aG)))
   (aH (du (fh (ae (wpv 6)) (ag (iM (ag (dY bz) (ag (cW hu (cW hu (ae (wpv 8)) (rP (aF aw)) (fun _ _=>rfl) (fun _ _=>rfl)) (aF aw) (fun _ _=>rfl) (fun _ _=>rfl)) aG))) aG))))) (aH (dM (cq (uw hr.units) xB (ae (wpv 8)) (iN aG) (bM _)) (aC (bF (i:=10) nd rfl (by first|exact Or.inl rfl|exact Or.inr rfl) (bo aE hr rfl (ag (ae (wpv 0)) (ag (dZ o5 oZ rfl B.len PySem.boot_len (ag (ae (wpv 8)) aG)) aG))))
   (aC (Df (cW hu (ae (wpv 8)) (ae (wpv 10)) (fun _ _=>rfl) (fun _ _=>rfl)) (qv rfl (dP (aU (i:=11) nd rfl (by first|exact Or.inl rfl|exact Or.inr rfl)) (dP (aU (i:=12) nd rfl (by first|exact Or.inl rfl|exact Or.inr rfl)) (dP (aU (i:=13) nd rfl (by first|exact Or.inl rfl|exact Or.inr rfl)) mD)))))
   (aC (du (fh (ae (wpv 6)) (ag (bo gn hr rfl (ag (ae (wpv 0)) (ag (ae (wpv 1)) (ag (ae (wpv 11)) (ag (ae (wpv 12)) (ag (ae (wpv 13)) (ag (ae (wpv 7)) aG))))))) aG)))
   (aC (dM (cq iA qF (cW hu (cW hu (ae (wpv 6)) (rP (aF aw)) (fun _ _=>rfl) (fun _ _=>rfl)) (aF aw) (fun _ _=>rfl) (fun _ _=>rfl)) (dY bz) (bM _)) (aH (cR hu (ae (wpv 13)) (cW hu (cW hu (ae (wpv 6)) (rP (aF aw)) (fun _ _=>rfl) (fun _ _=>rfl)) (aF aw) (fun _ _=>rfl) (fun _ _=>rfl)) (cW hu (cW hu (ae (wpv 6)) (rP (aF aw)) (fun _ _=>rfl) (fun _ _=>rfl)) (aF aw) (fun _ _=>rfl) (fun _ _=>rfl)))) (aH (dM (cq iA qF (cW hu (cW hu (ae (wpv 6)) (rP (aF aw)) (fun _ _=>rfl) (fun _ _=>rfl)) (aF aw) (fun _ _=>rfl) (fun _ _=>rfl)) (dY bz) (bM _)) (aH (bF (i:=7) nd rfl (by first|exact Or.inl rfl|exact Or.inr rfl) (bo fD hr rfl (ag (ae (wpv 7)) (ag (ae (wpv 13)) aG))))) dg)))
   (aH (dM (Ap hu (cW hu (cW hu (ae (wpv 6)) (rP (aF aw)) (fun _ _=>rfl) (fun _ _=>rfl)) (aF aw) (fun _ _=>rfl) (fun _ _=>rfl)) (iM (ag (dY bz) (ag (dY bz) aG))) (by with_unfolding_all rfl)) (aH (du (uc (ae (wpv 8)) (ag (ae (wpv 10)) aG)))) dg)))))) dg)))))
   (aH (bS (ae (wpv 6)))))))))
theorem ie:aT ["log"] ["log"] (ay cm):=⟨rfl,rfl,rfl,by decide +kernel,rfl,by decide +kernel,by decide +kernel⟩
theorem nY{k:Nat}(d:Def K mg "_law_begun" cm ["log"])(B:Blt mg):eL P w K mg base "_law_begun" (k+1) ["log"] (fnU 1 1 (dH )):=
 d.pure ie fun f cdv A outer s H E hr=>by
  have hu:=eQ hr
  have nd:=ie.nd
  exact(aH (bS (dZ (qG rfl) qE rfl B.sorted OG.fu (ag (qx (Nc:=["event"]) (tn:=["event"]) (capN:=[]) (caps:=[]) rfl (lH (ae (wpv 0))) (fun _ _ _=>(dv (aU (i:=0) (show(["event"]:List Str).Nodup by decide +kernel) rfl (by first|exact Or.inl rfl|exact Or.inr rfl)))) (fun _ _ _=>(cq iA qF (cW hu (ae (wpv 0)) (aF aw) (fun _ _=>rfl) (fun _ _=>rfl)) (dY bz) (bM _))) (fun _ _ _=>(cW hu (ae (wpv 0)) (aF aw) (fun _ _=>rfl) (fun _ _=>rfl))) rfl rfl (by decide +kernel) (by decide +kernel) trivial rfl .nil rfl rfl) aG))))
theorem jL:aT ["log","a","ends"] ["log","a"] (ay dq):=⟨rfl,rfl,rfl,by decide +kernel,rfl,by decide +kernel,by decide +kernel⟩
theorem sh{k:Nat}(d:Def K mg "_law_end" dq ["log","a"])(B:Blt mg):eL P w K mg base "_law_end" (k+1) ["log","a"] (fnU 3 2 (eW )):=
 d.pure jL fun f cdv A outer s H E hr=>by
  have hu:=eQ hr
  have nd:=jL.nd
  exact(aC (nH (Nc:=["event","a"]) (tn:=["event"]) (capN:=["a"]) (caps:=[1]) rfl (lH (ae (wpv 0))) (fun _ _ _=>(dv (aU (i:=0) (show(["event","a"]:List Str).Nodup by decide +kernel) rfl (by first|exact Or.inl rfl|exact Or.inr rfl)))) (fun _ _ _=>(Dh (Dk (cq iA qF (cW hu (ae (wpv 0)) (aF aw) (fun _ _=>rfl) (fun _ _=>rfl)) (ae (wpv 1)) (bM _)) (yU (Ap hu (cW hu (ae (wpv 0)) (aF aw) (fun _ _=>rfl) (fun _ _=>rfl)) (iM (ag (dY bz) (ag (dY bz) aG))) (by with_unfolding_all rfl)))))) (fun _ _ _=>(cW hu (ae (wpv 0)) (aF aw) (fun _ _=>rfl) (fun _ _=>rfl))) rfl rfl (by decide +kernel) (by decide +kernel) ⟨rfl,trivial⟩ rfl (.cons ⟨rfl,rfl,rfl,_,rfl⟩ .nil) rfl rfl nd rfl rfl rfl)
   (aH (bS (cW hu (fW iB iw (ae (wpv 2)) (iN (ag (dY bz) aG))) (aF aw) (fun _ _=>rfl) (fun _ _=>rfl)))))
theorem g9:aT ["log","found","at","event"] ["log"] (ay b7):=⟨rfl,rfl,rfl,by decide +kernel,rfl,by decide +kernel,by decide +kernel⟩
def bw:CS:=
 (gx (aN (cOp (fIn false) (cOp fIx (ax 3) (cC (.int 0))) (jk (ao (cC (.str "done")) (ao (cC (.str "fall")) aL))))) (eX (cBM eG (ax 1) (ao (d8 (iTp (cSl (ax 0) (some (ax 2)) none)) (gNm 0) (aN (cOp fEq (cOp fIx (ax 0) (cC (.int 0))) (cC (.str "begin")))) (jk (ao (cOp fIx (ax 1) (cC (.int 1))) (ao (cOp fIx (ax 0) (cC (.int 1))) aL))) 1 [3]) aL))) dR)
def dD:CS:=
 (bZ (fe 1 (md aL))
  (bZ (oA (pj (ax 0)) (gTp [2,3]) (bw ))
  (gS (cCB cN (ao (ax 1) aL)))))
theorem n9{a0:U}{S:Sto}:fnU 4 1 (dD ) [a0] S=((dD ) [some a0,none,none,none] S).bind kFn:=lj rfl
theorem nU{k:Nat}(d:Def K mg "_law_times" b7 ["log"])(B:Blt mg):eL P w K mg base "_law_times" (k+1) ["log"] (fnU 4 1 (dD )):=
 d.pure g9 fun f cdv A outer s H E hr=>by
  have hu:=eQ hr
  have nd:=g9.nd
  exact(aC (bF (i:=1) nd rfl (by first|exact Or.inl rfl|exact Or.inr rfl) (iN aG))
   (aC (jN PassesOwn.never rfl (ua rfl B.enumerate (ae (wpv 0))) (qv rfl (dP (aU (i:=2) nd rfl (by first|exact Or.inl rfl|exact Or.inr rfl)) (dP (aU (i:=3) nd rfl (by first|exact Or.inl rfl|exact Or.inr rfl)) mD))) (aH (dM (Ap hu (cW hu (ae (wpv 3)) (aF aw) (fun _ _=>rfl) (fun _ _=>rfl)) (iM (ag (dY bz) (ag (dY bz) aG))) (by with_unfolding_all rfl)) (aH (du (qw (ae (wpv 1)) (ag (qx (Nc:=["later","event"]) (tn:=["later"]) (capN:=["event"]) (caps:=[3]) rfl (lH (I0 (ae (wpv 0)) (An (ae (wpv 2))) Ao)) (fun _ _ _=>(dv (aU (i:=0) (show(["later","event"]:List Str).Nodup by decide +kernel) rfl (by first|exact Or.inl rfl|exact Or.inr rfl)))) (fun _ _ _=>(cq iA qF (cW hu (ae (wpv 0)) (aF aw) (fun _ _=>rfl) (fun _ _=>rfl)) (dY bz) (bM _))) (fun _ _ _=>(iM (ag (cW hu (ae (wpv 1)) (aF aw) (fun _ _=>rfl) (fun _ _=>rfl)) (ag (cW hu (ae (wpv 0)) (aF aw) (fun _ _=>rfl) (fun _ _=>rfl)) aG)))) rfl rfl (by decide +kernel) (by decide +kernel) ⟨rfl,trivial⟩ rfl (.cons ⟨rfl,rfl,rfl,_,rfl⟩ .nil) rfl rfl) aG)))) dg)))
   (aH (bS (dZ lN lL rfl B.sorted OG.fu (ag (ae (wpv 1)) aG))))))
theorem i9:aT ["found","due"] ["found","due"] (ay cU):=⟨rfl,rfl,rfl,by decide +kernel,rfl,by decide +kernel,by decide +kernel⟩
theorem gP{k:Nat}{aI:Fn}(d:Def K mg "_law_same" cU ["found","due"])(B:Blt mg)(d9:eL P w K mg base "_law_same" (k) ["found","due"] aI):eL P w K mg base "_law_same" (k+1) ["found","due"] (fnU 2 2 (cy aI)):=
 d.pure i9 fun f cdv A outer s H E hr=>by
  have hu:=eQ hr
  have nd:=i9.nd
  exact(aC (dM (cq yZ DV (ae (wpv 1)) (Dj tf) (bM _)) (aH (bS (uf yZ DV (ae (wpv 0)) (Dj tf) (bM _)))) dg)
   (aC (dM (lI (jO (T:=.bool) (by intro z;cases z) (ae (wpv 1)) (fO rfl B.bool OG.kB) rfl B.isinstance)) (aH (bS (nI (jO (T:=.bool) (by intro z;cases z) (ae (wpv 0)) (fO rfl B.bool OG.kB) rfl B.isinstance) (wY (uf iA qF (ae (wpv 0)) (ae (wpv 1)) (bM _)))))) dg)
   (aC (dM (lI (jO (T:=.str) (by intro z;cases z) (ae (wpv 1)) (fO rfl B.str OG.rk) rfl B.isinstance)) (aH (bS (nI (jO (T:=.str) (by intro z;cases z) (ae (wpv 0)) (fO rfl B.str OG.rk) rfl B.isinstance) (wY (uf iA qF (ae (wpv 0)) (ae (wpv 1)) (bM _)))))) dg)
   (aC (dM (lI (jO (T:=.int) (by intro z;cases z) (ae (wpv 1)) (fO rfl B.int OG.rl) rfl B.isinstance)) (aH (bS (nI (jO (T:=.int) (by intro z;cases z) (ae (wpv 0)) (fO rfl B.int OG.rl) rfl B.isinstance) (nI (Di (jO (T:=.bool) (by intro z;cases z) (ae (wpv 0)) (fO rfl B.bool OG.kB) rfl B.isinstance)) (wY (uf iA qF (ae (wpv 0)) (ae (wpv 1)) (bM _))))))) dg)
   (aC (dM (Dh (GF (cq AV GS (jO (T:=.tuple) (by intro z;cases z) (ae (wpv 1)) (fO rfl B.tuple OG.gv) rfl B.isinstance) (jO (T:=.tuple) (by intro z;cases z) (ae (wpv 0)) (fO rfl B.tuple OG.gv) rfl B.isinstance) (bM _)) (Aq (cq AV GS (jO (T:=.list) (by intro z;cases z) (ae (wpv 1)) (fO rfl B.list OG.gc) rfl B.isinstance) (jO (T:=.list) (by intro z;cases z) (ae (wpv 0)) (fO rfl B.list OG.gc) rfl B.isinstance) (bM _))))) (aH (bS (Aw jF))) dg)
   (aH (bS (nI (uf iA qF (dZ o5 oZ rfl B.len PySem.boot_len (ag (ae (wpv 0)) aG)) (dZ o5 oZ rfl B.len PySem.boot_len (ag (ae (wpv 1)) aG)) (bM _)) (wY (Ar hu (Aw jF) (qy (Nc:=["one","other"]) (tn:=["one","other"]) (capN:=[]) (caps:=[]) rfl (Dg rfl B.zip (ae (wpv 0)) (ae (wpv 1))) (fun _ _ _=>(qv rfl (dP (aU (i:=0) (show(["one","other"]:List Str).Nodup by decide +kernel) rfl (by first|exact Or.inl rfl|exact Or.inr rfl)) (dP (aU (i:=1) (show(["one","other"]:List Str).Nodup by decide +kernel) rfl (by first|exact Or.inl rfl|exact Or.inr rfl)) mD)))) (fun _ _ _=>(bo d9 hr rfl (ag (ae (wpv 0)) (ag (ae (wpv 1)) aG)))) rfl rfl (by decide +kernel) (by decide +kernel) trivial rfl .nil rfl rfl) (by with_unfolding_all rfl)))))))))))
theorem dX:aT ["self","a","box","number"] ["self","a","box","number"] (ay ba):=⟨rfl,rfl,rfl,by decide +kernel,rfl,by decide +kernel,by decide +kernel⟩
theorem iG{k:Nat}{av:Cl}{fa:Addr}{fd:FuncData}(F:Fun K "note_look" "Course.note_look" ba fa fd)(bi:fN K fd ["self","a","box","number"] [])(mt:v8 K av.C "note_look" fa)(B:Blt mg)(TCourse:TC K av ["ends","looks","needs","puts","before"]):By P w K mg base av "note_look" (k+1) ["self","a","box","number"] (fnU 4 4 (bq av)):=
 ⟨⟨fa,fd,mt,F.pure dX fun cdv A outer s H E hr=>(by
  have hu:=eQ hr
  have nd:=dX.nd
  exact(aH (dM (wX hu (ae (wpv 2)) (cW hu (gK TCourse.cl (TCourse.na 3 rfl) (TCourse.ix rfl) (ae (wpv 0))) (ae (wpv 1)) (fun _ _=>rfl) (fun _ _=>rfl)) (by with_unfolding_all rfl)) (aC (du (fh (cW hu (gK TCourse.cl (TCourse.na 1 rfl) (TCourse.ix rfl) (ae (wpv 0))) (ae (wpv 1)) (fun _ _=>rfl) (fun _ _=>rfl)) (ag (iM (ag (ae (wpv 2)) (ag (ae (wpv 3)) aG))) aG)))
   (aH (t9 hu (cW hu (gK TCourse.cl (TCourse.na 2 rfl) (TCourse.ix rfl) (ae (wpv 0))) (ae (wpv 1)) (fun _ _=>rfl) (fun _ _=>rfl)) (ag (ae (wpv 2)) (ag (ae (wpv 3)) aG)) (Aw jF)))) dg))),bi⟩⟩
theorem fU:aT ["self","a"] ["self","a"] (ay bX):=⟨rfl,rfl,rfl,by decide +kernel,rfl,by decide +kernel,by decide +kernel⟩
theorem kR{k:Nat}{av:Cl}{fa:Addr}{fd:FuncData}(F:Fun K "enter" "Course.enter" bX fa fd)(bi:fN K fd ["self","a"] [])(mt:v8 K av.C "enter" fa)(B:Blt mg)(TCourse:TC K av ["ends","looks","needs","puts","before"]):By P w K mg base av "enter" (k+1) ["self","a"] (fnU 2 2 (cP av)):=
 ⟨⟨fa,fd,mt,F.pure fU fun cdv A outer s H E hr=>(by
  have hu:=eQ hr
  have nd:=fU.nd
  exact(aC (cR hu (gK TCourse.cl (TCourse.na 4 rfl) (TCourse.ix rfl) (ae (wpv 0))) (ae (wpv 1)) (ue (Nc:=["one","self"]) (tn:=["one"]) (capN:=["self"]) (caps:=[0]) rfl (gK TCourse.cl (TCourse.na 0 rfl) (TCourse.ix rfl) (ae (wpv 0))) (fun _ _ _=>(dv (aU (i:=0) (show(["one","self"]:List Str).Nodup by decide +kernel) rfl (by first|exact Or.inl rfl|exact Or.inr rfl)))) (fun _ _ _=>(cq AV GS (cW hu (gK TCourse.cl (TCourse.na 0 rfl) (TCourse.ix rfl) (ae (wpv 1))) (ae (wpv 0)) (fun _ _=>rfl) (fun _ _=>rfl)) (dY bz) (bM _))) (fun _ _ _=>(ae (wpv 0))) rfl rfl (by decide +kernel) (by decide +kernel) ⟨rfl,trivial⟩ rfl (.cons ⟨rfl,rfl,rfl,_,rfl⟩ .nil) rfl rfl))
   (aC (cR hu (gK TCourse.cl (TCourse.na 0 rfl) (TCourse.ix rfl) (ae (wpv 0))) (ae (wpv 1)) (dY bz))
   (aC (cR hu (gK TCourse.cl (TCourse.na 1 rfl) (TCourse.ix rfl) (ae (wpv 0))) (ae (wpv 1)) (iN aG))
   (aC (cR hu (gK TCourse.cl (TCourse.na 2 rfl) (TCourse.ix rfl) (ae (wpv 0))) (ae (wpv 1)) Av)
   (aH (cR hu (gK TCourse.cl (TCourse.na 3 rfl) (TCourse.ix rfl) (ae (wpv 0))) (ae (wpv 1)) jP))))))),bi⟩⟩
theorem fH:aT ["self","event","a"] ["self","event"] (ay bO):=⟨rfl,rfl,rfl,by decide +kernel,rfl,by decide +kernel,by decide +kernel⟩
theorem j8{k:Nat}{bL aP:Fn}{av:Cl}{fa:Addr}{fd:FuncData}(F:Fun K "follow" "Course.follow" bO fa fd)(bi:fN K fd ["self","event"] [])(mt:v8 K av.C "follow" fa)(B:Blt mg)(TCourse:TC K av ["ends","looks","needs","puts","before"])(M_Course_enter:By P w K mg base av "enter" (k) ["self","a"] bL)(M_Course_note_look:By P w K mg base av "note_look" (k) ["self","a","box","number"] aP):By P w K mg base av "follow" (k+1) ["self","event"] (fnU 3 2 (aR bL aP av)):=
 ⟨⟨fa,fd,mt,F.pure fH fun cdv A outer s H E hr=>(by
  have hu:=eQ hr
  have nd:=fH.nd
  exact(aC (bF (i:=2) nd rfl (by first|exact Or.inl rfl|exact Or.inr rfl) (cW hu (ae (wpv 1)) (aF aw) (fun _ _=>rfl) (fun _ _=>rfl)))
   (aH (dM (cq iA qF (cW hu (ae (wpv 1)) (aF aw) (fun _ _=>rfl) (fun _ _=>rfl)) (dY bz) (bM _)) (aH (du (ud TCourse.cl M_Course_enter hr (TCourse.nm (by decide +kernel)) (ae (wpv 0)) (ag (ae (wpv 2)) aG)))) (aH (dM (cq iA qF (cW hu (ae (wpv 1)) (aF aw) (fun _ _=>rfl) (fun _ _=>rfl)) (dY bz) (bM _)) (aH (du (ud TCourse.cl M_Course_note_look hr (TCourse.nm (by decide +kernel)) (ae (wpv 0)) (ag (ae (wpv 2)) (ag (cW hu (ae (wpv 1)) (aF aw) (fun _ _=>rfl) (fun _ _=>rfl)) (ag (cW hu (ae (wpv 1)) (aF aw) (fun _ _=>rfl) (fun _ _=>rfl)) aG)))))) (aH (dM (cq iA qF (cW hu (ae (wpv 1)) (aF aw) (fun _ _=>rfl) (fun _ _=>rfl)) (dY bz) (bM _)) (aH (cR hu (cW hu (gK TCourse.cl (TCourse.na 3 rfl) (TCourse.ix rfl) (ae (wpv 0))) (ae (wpv 2)) (fun _ _=>rfl) (fun _ _=>rfl)) (cW hu (ae (wpv 1)) (aF aw) (fun _ _=>rfl) (fun _ _=>rfl)) (cW hu (ae (wpv 1)) (aF aw) (fun _ _=>rfl) (fun _ _=>rfl)))) (aH (cR hu (gK TCourse.cl (TCourse.na 0 rfl) (TCourse.ix rfl) (ae (wpv 0))) (ae (wpv 2)) (cW hu (ae (wpv 1)) (aF aw) (fun _ _=>rfl) (fun _ _=>rfl)))))))))))),bi⟩⟩
theorem gD:aT ["self"] ["self"] (ay cG):=⟨rfl,rfl,rfl,by decide +kernel,rfl,by decide +kernel,by decide +kernel⟩
theorem mQ{k:Nat}{av:Cl}{fa:Addr}{fd:FuncData}(F:Fun K "__init__" "Course.__init__" cG fa fd)(bi:fN K fd ["self"] [])(mk:Mk K av.C fa)(hmg:mg "Course"=some (.ref av.C))(B:Blt mg)(TCourse:TC K av ["ends","looks","needs","puts","before"]):CMk P w K mg base av "Course" (k+1) ["self"] (fnU 1 1 (de av)):=
 ⟨⟨fa,fd,mk,F.pure gD fun cdv A outer s H E hr=>(by
  have hu:=eQ hr
  have nd:=gD.nd
  exact(aC (jM TCourse.cl (TCourse.na 0 rfl) (TCourse.ix rfl) (ae (wpv 0)) jP)
   (aC (jM TCourse.cl (TCourse.na 1 rfl) (TCourse.ix rfl) (ae (wpv 0)) jP)
   (aC (jM TCourse.cl (TCourse.na 2 rfl) (TCourse.ix rfl) (ae (wpv 0)) jP)
   (aC (jM TCourse.cl (TCourse.na 3 rfl) (TCourse.ix rfl) (ae (wpv 0)) jP)
   (aH (jM TCourse.cl (TCourse.na 4 rfl) (TCourse.ix rfl) (ae (wpv 0)) jP))))))),bi,hmg⟩,by rw[TCourse.ns];decide +kernel,by rw[TCourse.ns];decide⟩
theorem i7:aT ["log","course","event"] ["log"] (ay cS):=⟨rfl,rfl,rfl,by decide +kernel,rfl,by decide +kernel,by decide +kernel⟩
theorem pq{k:Nat}{aQ bu:Fn}{av:Cl}(d:Def K mg "course_of" cS ["log"])(B:Blt mg)(TCourse:TC K av ["ends","looks","needs","puts","before"])(M_Course_follow:By P w K mg base av "follow" (k+1) ["self","event"] aQ)(M_Course:CMk P w K mg base av "Course" k ["self"] bu):eL P w K mg base "course_of" (k+1+1) ["log"] (fnU 3 1 (d6 aQ bu av)):=
 d.pure i7 fun f cdv A outer s H E hr=>by
  have hu:=eQ hr
  have nd:=i7.nd
  exact(aC (bF (i:=1) nd rfl (by first|exact Or.inl rfl|exact Or.inr rfl) (Au M_Course hr rfl))
   (aC (jN PassesOwn.never rfl (lH (ae (wpv 0))) (dv (aU (i:=2) nd rfl (by first|exact Or.inl rfl|exact Or.inr rfl))) (aH (du (ud TCourse.cl M_Course_follow hr (TCourse.nm (by decide +kernel)) (ae (wpv 1)) (ag (ae (wpv 2)) aG)))))
   (aH (bS (ae (wpv 1))))))
theorem jI:aT ["log"] ["log"] (ay dh):=⟨rfl,rfl,rfl,by decide +kernel,rfl,by decide +kernel,by decide +kernel⟩
def eU(aB:Fn)(av:Cl):CS:=
 (gS (cCB fZ (ao (js av 0 (cCB aB (ao (ax 0) aL))) aL)))
theorem sx{aB:Fn}{av:Cl}{a0:U}{S:Sto}:fnU 1 1 (eU aB av) [a0] S=((eU aB av) [some a0] S).bind kFn:=lj rfl
theorem sf{k:Nat}{aB:Fn}{av:Cl}(d:Def K mg "attempts" dh ["log"])(B:Blt mg)(TCourse:TC K av ["ends","looks","needs","puts","before"])(bW:eL P w K mg base "course_of" (k) ["log"] aB):eL P w K mg base "attempts" (k+1) ["log"] (fnU 1 1 (eU aB av)):=
 d.pure jI fun f cdv A outer s H E hr=>by
  have hu:=eQ hr
  have nd:=jI.nd
  exact(aH (bS (dZ (qG rfl) qE rfl B.sorted OG.fu (ag (gK TCourse.cl (TCourse.na 0 rfl) (TCourse.ix rfl) (bo bW hr rfl (ag (ae (wpv 0)) aG))) aG))))
theorem nF:aT ["log","a"] ["log","a"] (ay fg):=⟨rfl,rfl,rfl,by decide +kernel,rfl,by decide +kernel,by decide +kernel⟩
def iK(aB:Fn)(av:Cl):CS:=
 (gS (cOp fIx (js av 0 (cCB aB (ao (ax 0) aL))) (ax 1)))
theorem yf{aB:Fn}{av:Cl}{a0 a1:U}{S:Sto}:fnU 2 2 (iK aB av) [a0,a1] S=((iK aB av) [some a0,some a1] S).bind kFn:=lj rfl
theorem xY{k:Nat}{aB:Fn}{av:Cl}(d:Def K mg "end_of" fg ["log","a"])(B:Blt mg)(TCourse:TC K av ["ends","looks","needs","puts","before"])(bW:eL P w K mg base "course_of" (k) ["log"] aB):eL P w K mg base "end_of" (k+1) ["log","a"] (fnU 2 2 (iK aB av)):=
 d.pure nF fun f cdv A outer s H E hr=>by
  have hu:=eQ hr
  have nd:=nF.nd
  exact(aH (bS (cW hu (gK TCourse.cl (TCourse.na 0 rfl) (TCourse.ix rfl) (bo bW hr rfl (ag (ae (wpv 0)) aG))) (ae (wpv 1)) (fun _ _=>rfl) (fun _ _=>rfl))))
theorem qr:aT ["log","before","pairs","other"] ["log"] (ay gJ):=⟨rfl,rfl,rfl,by decide +kernel,rfl,by decide +kernel,by decide +kernel⟩
def eY(aB:Fn)(av:Cl):CS:=
 (eX (cBM eG (ax 2) (ao (iU (iTp (cOp fIx (ax 1) (ax 3))) (gNm 0) (jk (ao (ax 0) (ao (ax 1) aL))) 1 [3]) aL)))
def gb(aB:Fn)(av:Cl):CS:=
 (bZ (fe 1 (js av 4 (cCB aB (ao (ax 0) aL))))
  (bZ (fe 2 (md aL))
  (bZ (sF (ax 1) (gNm 3) (eY aB av))
  (gS (cCB cN (ao (ax 2) aL))))))
theorem vx{aB:Fn}{av:Cl}{a0:U}{S:Sto}:fnU 4 1 (gb aB av) [a0] S=((gb aB av) [some a0,none,none,none] S).bind kFn:=lj rfl
theorem Bb{k:Nat}{aB:Fn}{av:Cl}(d:Def K mg "ahead" gJ ["log"])(B:Blt mg)(TCourse:TC K av ["ends","looks","needs","puts","before"])(bW:eL P w K mg base "course_of" (k) ["log"] aB):eL P w K mg base "ahead" (k+1) ["log"] (fnU 4 1 (gb aB av)):=
 d.pure qr fun f cdv A outer s H E hr=>by
  have hu:=eQ hr
  have nd:=qr.nd
  exact(aC (bF (i:=1) nd rfl (by first|exact Or.inl rfl|exact Or.inr rfl) (gK TCourse.cl (TCourse.na 4 rfl) (TCourse.ix rfl) (bo bW hr rfl (ag (ae (wpv 0)) aG))))
   (aC (bF (i:=2) nd rfl (by first|exact Or.inl rfl|exact Or.inr rfl) (iN aG))
   (aC (Am PassesOwn.never rfl (ae (wpv 1)) (dv (aU (i:=3) nd rfl (by first|exact Or.inl rfl|exact Or.inr rfl))) (aH (du (qw (ae (wpv 2)) (ag (qy (Nc:=["one","other"]) (tn:=["one"]) (capN:=["other"]) (caps:=[3]) rfl (lH (cW hu (ae (wpv 1)) (ae (wpv 3)) (fun _ _=>rfl) (fun _ _=>rfl))) (fun _ _ _=>(dv (aU (i:=0) (show(["one","other"]:List Str).Nodup by decide +kernel) rfl (by first|exact Or.inl rfl|exact Or.inr rfl)))) (fun _ _ _=>(iM (ag (ae (wpv 0)) (ag (ae (wpv 1)) aG)))) rfl rfl (by decide +kernel) (by decide +kernel) ⟨rfl,trivial⟩ rfl (.cons ⟨rfl,rfl,rfl,_,rfl⟩ .nil) rfl rfl) aG)))))
   (aH (bS (dZ lN lL rfl B.sorted OG.fu (ag (ae (wpv 2)) aG)))))))
theorem yP:aT ["script","pen","world","turn","log","handed","again","found","times","a"] ["script"] (ay kO):=⟨rfl,rfl,rfl,by decide +kernel,rfl,by decide +kernel,by decide +kernel⟩
def pL(aW bQ aY bP d5 aI aS aX bR cZ:Fn):CS:=
 (gx (EK (aN (cCB aI (ao (cCB cZ (ao (ax 5) (ao (ax 9) aL))) (ao (cCB bR (ao (ax 4) (ao (ax 9) aL))) aL))))) (gS (cC (.bl false))) dR)
def pK(aW bQ aY bP d5 aI aS aX bR cZ:Fn):CS:=
 (bZ (fe 7 (cCB bP (ao (ax 5) aL)))
  (bZ (fe 8 (cCB d5 (ao (ax 5) aL)))
  (bZ (gx (cOr (EK (aN (cCB aI (ao (ax 7) (ao (cCB aS (ao (ax 4) aL)) aL))))) (EK (aN (cCB aI (ao (ax 8) (ao (cCB aX (ao (ax 4) aL)) aL)))))) (gS (cC (.bl false))) dR)
  (bZ (oA (iTp (cCB aS (ao (ax 4) aL))) (gNm 9) (pL aW bQ aY bP d5 aI aS aX bR cZ))
  (bZ (eX (cBM cV (ax 7) (ao (cC (.int 0)) aL)))
  (eX (cBM cV (ax 8) (ao (jk (ao (cC (.int 0)) (ao (cC (.int 0)) aL))) aL))))))))
def mZ(aW bQ aY bP d5 aI aS aX bR cZ:Fn):CS:=
 (bZ (fe 4 (cCB bQ (ao (ax 1) (ao (ax 2) (ao (cCB aY (ao (ax 1) (ao (ax 2) aL))) (ao (cC (.int 12)) (ao (cC (.int 60)) aL)))))))
  (bZ (fe 5 (cCB su (ao (ax 4) aL)))
  (bZ (oA (d4 (ao (cC (.int 2)) aL)) (gNm 6) (pK aW bQ aY bP d5 aI aS aX bR cZ))
  (gx (aN (cOp (oP true) (ax 5) (ax 4))) (gS (cC (.bl false))) dR))))
def vK(aW bQ aY bP d5 aI aS aX bR cZ:Fn):CS:=
 (bZ (fe 2 (cCB aW (ao (ax 1) aL)))
  (bZ (oA (d4 (ao (cC (.int 2)) aL)) (gNm 3) (mZ aW bQ aY bP d5 aI aS aX bR cZ))
  (gS (cC (.bl true)))))
theorem Hj{k:Nat}{aW bQ aY bP d5 aI aS aX bR cZ:Fn}{fa:Addr}{fd:FuncData}(F:Fun K "law" "law" kO fa fd)(B:Blt mg)(sJ:Has P w K mg base "_law_pen" k ["script"] (yN K))(gh:eL P w K mg base "_law_world" k ["pen"] aW)(iZ:eL P w K mg base "_law_log" k ["pen","world","state","most","size"] bQ)(gk:eL P w K mg base "_law_state" k ["pen","world"] aY)(iY:eL P w K mg base "attempts" k ["log"] bP)(pW:eL P w K mg base "ahead" k ["log"] d5)(d9:eL P w K mg base "_law_same" k ["found","due"] aI)(eE:eL P w K mg base "_law_begun" k ["log"] aS)(gj:eL P w K mg base "_law_times" k ["log"] aX)(i4:eL P w K mg base "_law_end" k ["log","a"] bR)(m9:eL P w K mg base "end_of" k ["log","a"] cZ)
  (ok:∀(ns:List Int) (a c:Int),0<=a->0<=c->∃ρ' S',vK aW bQ aY bP d5 aI aS aX bR cZ [none,some (.ref 1),none,none,none,none,none,none,none,none] [.lst (ns.map U.int),.lst [.ref 0,.int a,.int c]]=some (.rt (.bl true),ρ',S')):kM P w K mg base CX0 (k+1) fa fd ["script"] (wK K):=by
 refine Fun.okW F yP (fun vs H Q E h=>(by obtain⟨a,ns,rfl,_⟩:=h;rfl)) fun cdv A outer s H vs Q E hr h=>?_
 obtain⟨a,ns,rfl,hS,eF,q⟩:=h
 have hu:=eQ hr
 have nd:=yP.nd
 refine⟨_,nk (u:=tS K (vK aW bQ aY bP d5 aI aS aX bR cZ)) (sU (i:=1) nd rfl (by first|exact Or.inl rfl|exact Or.inr rfl) (yF sJ hr rfl (cX (wpv 0) gH))) (aC (bF (i:=2) nd rfl (by first|exact Or.inl rfl|exact Or.inr rfl) (bo gh hr rfl (ag (ae (wpv 1)) aG)))
   (aC (jN PassesOwn.never rfl (fV rfl B.range (ag (aF aw) aG)) (dv (aU (i:=3) nd rfl (by first|exact Or.inl rfl|exact Or.inr rfl))) (aC (bF (i:=4) nd rfl (by first|exact Or.inl rfl|exact Or.inr rfl) (bo iZ hr rfl (ag (ae (wpv 1)) (ag (ae (wpv 2)) (ag (bo gk hr rfl (ag (ae (wpv 1)) (ag (ae (wpv 2)) aG))) (ag (aF aw) (ag (aF aw) aG)))))))
   (aC (bF (i:=5) nd rfl (by first|exact Or.inl rfl|exact Or.inr rfl) (mE jj DU rfl B.list OG.gc (ag (ae (wpv 4)) aG)))
   (aC (jN PassesOwn.never rfl (fV rfl B.range (ag (aF aw) aG)) (dv (aU (i:=6) nd rfl (by first|exact Or.inl rfl|exact Or.inr rfl))) (aC (bF (i:=7) nd rfl (by first|exact Or.inl rfl|exact Or.inr rfl) (bo iY hr rfl (ag (ae (wpv 5)) aG)))
   (aC (bF (i:=8) nd rfl (by first|exact Or.inl rfl|exact Or.inr rfl) (bo pW hr rfl (ag (ae (wpv 5)) aG)))
   (aC (dM (Dh (GF (ub (lI (bo d9 hr rfl (ag (ae (wpv 7)) (ag (bo eE hr rfl (ag (ae (wpv 4)) aG)) aG))))) (Aq (ub (lI (bo d9 hr rfl (ag (ae (wpv 8)) (ag (bo gj hr rfl (ag (ae (wpv 4)) aG)) aG)))))))) (aH (bS (Aw jF))) dg)
   (aC (jN PassesOwn.never rfl (lH (bo eE hr rfl (ag (ae (wpv 4)) aG))) (dv (aU (i:=9) nd rfl (by first|exact Or.inl rfl|exact Or.inr rfl))) (aH (dM (ub (lI (bo d9 hr rfl (ag (bo m9 hr rfl (ag (ae (wpv 5)) (ag (ae (wpv 9)) aG))) (ag (bo i4 hr rfl (ag (ae (wpv 4)) (ag (ae (wpv 9)) aG))) aG))))) (aH (bS (Aw jF))) dg)))
   (aC (du (fh (ae (wpv 7)) (ag (aF aw) aG)))
   (aH (du (fh (ae (wpv 8)) (ag (iM (ag (aF aw) (ag (aF aw) aG))) aG))))))))))
   (aH (dM (cq (uw hr.units) xB (ae (wpv 5)) (ae (wpv 4)) (bM _)) (aH (bS (Aw jF))) dg))))))
   (aH (bS (Aw jF))))),?_⟩
 refine⟨_,rfl,a,ns,rfl,hS,fun p xs H1 s1 P1 n1=>?_⟩
 exact A2 P1 ok q
end
section
variable{c:Cl}{n w:Int}{S:Sto}{evs:List Ev}{a:Int}{t:Att}{N l:Nat}{st:OQ.St}
def m8(c:Cl):Fn:=fnU 4 1 (gb (fC c) c)
def gAL(st:OQ.St)(as:List Int):Sto:=as.map fun a=>.lst ((kL st a).map fun b=>pP (prA a b))
def uL:List Int->Option U->Option U
 |[],r=>r
 |a::as,_=>uL as (some (.int a))
theorem kG{B:Sto}{D:List (Key×U)}{ep q:Nat}{u0:Option U}(hk:(aA st).Nodup)(bi:BfI st)(hl:st.length<=12)(hB:B[q]?=some (.fdc ep D))(hv:∀a t,br st a=some t->∃r,br D (.inl a)=some (.ref r)/\B[r]?=some (.lst (t.bf.map U.int))) :
  ∀(as:List Int) (acc:List (Int×Int)) (G2:Sto) (r3:Option U),(∀a∈as,a∈aA st)->acc.length+as.length*12<=900->
  ej (fun Y=>Y[q]?=some (.fdc ep D)) (gNm 3) (eY (fC c) c) (as.map U.int) [u0,some (.ref q),some (.ref B.length),r3] (B++(.lst (acc.map pP)::G2))
   = some (.nx,[u0,some (.ref q),some (.ref B.length),uL as r3],B++(.lst ((acc++gM st as).map pP)::(G2++gAL st as)))
 |[],acc,G2,r3,_,_=>by
  have e1:acc++gM st []=acc:=List.append_nil _
  have e2:G2++gAL st []=G2:=List.append_nil _
  rw[e1,e2];exact et (aD hB)
 |a::as,acc,G2,r3,hm,eF=>by
  rw[List.length_cons]at eF
  obtain⟨t,ht⟩:=A1 (hm a List.mem_cons_self)
  obtain⟨r,v0,g0⟩:=hv a t ht
  have hb:=zg hk bi ht
  have eb:kL st a=t.bf:=by unfold kL;rw[ht]
  have ep0:gM st (a::as)=t.bf.map (prA a)++gM st as:=by unfold gM;rw[List.flatMap_cons,eb]
  have eg:G2++gAL st (a::as)=G2++[.lst (t.bf.map fun b=>pP (prA a b))]++gAL st as:=by unfold gAL;rw[List.map_cons,eb,List.append_assoc];rfl
  have h:=ow (S:=B++(.lst (acc.map pP)::G2)) (ok:=fun Y=>Y[r]?=some (.lst (t.bf.map U.int))) (gg:=gNm 0) (ce:=jk (ao (ax 0) (ao (ax 1) aL))) (f:=U.int) (v:=fun b=>pP (prA a b)) (Rel:=fun ρ=>∃r0,ρ=[r0,some (.int a)]) (fun ys G=>by rw[List.append_assoc];exact aD g0) t.bf [] [] [none,some (.int a)] ⟨_,rfl⟩ (by simp;omega) (fun b hb ys G2 ρ hρ=>by
   obtain⟨r0,rfl⟩:=hρ
   refine⟨[some (.int b),some (.int a)],⟨_,rfl⟩,rfl,?_⟩
   have e:pP (prA a b)=.tup [.int b,.int a]:=rfl
   rwa[e])
  simp only[List.nil_append]at h
  have hcomp:iU (iTp (cOp fIx (ax 1) (ax 3))) (gNm 0) (jk (ao (ax 0) (ao (ax 1) aL))) 1 [3] [u0,some (.ref q),some (.ref B.length),some (.int a)] (B++(.lst (acc.map pP)::G2))=some (.ref (B.length+(1+G2.length)),B++(.lst (acc.map pP)::(G2++[.lst (t.bf.map fun b=>pP (prA a b))]))):=by
   have hi:cOp fIx (ax 1) (ax 3) [u0,some (.ref q),some (.ref B.length),some (.int a)] (B++(.lst (acc.map pP)::G2))=some (.ref r,B++(.lst (acc.map pP)::G2)):=by
    have gB:(B++(O.lst (acc.map pP)::G2))[q]?=some (.fdc ep D):=aD hB
    rwa[gB,Cd,v0]
   have gr:(B++(O.lst (acc.map pP)::G2))[r]?=some (.lst (t.bf.map U.int)):=aD g0
   have ln:(B++(O.lst (acc.map pP)::G2)).length=B.length+(1+G2.length):=by simp;omega
   rw[ln]at h
   simp only[List.append_assoc,List.cons_append]at h
   unfold iU iTp
   rw[hi,Option.bind_some]
   simp only[gr,Option.bind_some,lG,List.replicate,List.map_cons,List.map_nil,List.getElem?_cons_zero,List.getElem?_cons_succ,Option.getD_some,List.cons_append,List.nil_append,ln,h,List.append_assoc]
  have hmap:(acc++t.bf.map (prA a)).map pP=acc.map pP++t.bf.map fun b=>pP (prA a b):=by rw[List.map_append,List.map_map];rfl
  have hext:eG (.ref B.length) [.ref (B.length+(1+G2.length))] (B++(.lst (acc.map pP)::(G2++[.lst (t.bf.map fun b=>pP (prA a b))])))=some (.non,B++(.lst ((acc++t.bf.map (prA a)).map pP)::(G2++[.lst (t.bf.map fun b=>pP (prA a b))]))):=by
   have e1:(B++(O.lst (acc.map pP)::(G2++[.lst (t.bf.map fun b=>pP (prA a b))])))[B.length]?=some (.lst (acc.map pP)):=by rw[ga0];rfl
   have e2:(B++(O.lst (acc.map pP)::(G2++[.lst (t.bf.map fun b=>pP (prA a b))])))[B.length+(1+G2.length)]?=some (.lst (t.bf.map fun b=>pP (prA a b))):=by
    rw[ga,Nat.add_comm 1,List.getElem?_cons_succ,ga0];rfl
   have hL:(acc.map pP).length+(t.bf.map fun b=>pP (prA a b)).length<=LIM:=by unfold LIM;rw[List.length_map,List.length_map];omega
   simp only[eG,e1,e2,hL,if_true,gs0,List.set_cons_zero,hmap]
  have ih:=kG (u0:=u0) hk bi hl hB hv as (acc++t.bf.map (prA a)) (G2++[.lst (t.bf.map fun b=>pP (prA a b))]) (some (.int a)) (fun b hb=>hm b (List.mem_cons_of_mem _ hb)) (by simp;omega)
  rw[ep0,<-List.append_assoc,eg]
  refine(fX (aD hB) rfl ?_).trans ih
  have gz:∀X:Sto,(B++(O.lst (acc.map pP)::X))[B.length]?=some (.lst (acc.map pP)):=fun X=>by rw[ga0];rfl
  rwa[eY,hcomp,hext,gz]
theorem vV{N:Nat}{evs:List Ev}{l:Nat}(hns:c.ns.length=5)(hl:S[l]?=some (.lst (evs.map Ev.u)))(lg:kI n w N evs)(he:evs.length<=900)(hN:N<=12) :
  ∃G' k,m8 c [.ref l] S=some (.ref (S.length+k),S++G')/\G'[k]?=some (.lst ((fK (gM (bj [] evs) (aA (bj [] evs)))).map pP)):=by
 unfold m8
 rw[vx]
 have h1:=ko (c:=c) (S:=S) (N:=N) hns hl lg.lo he
 have bi:=mY evs [] lg.lo List.nodup_nil Hs
 obtain⟨st,hst⟩:∃st,st=bj [] evs:=⟨_,rfl⟩
 have hk:(aA st).Nodup:=by rw[hst];exact lg.kd
 have hc:st.length<=12:=by rw[hst];exact Nat.le_trans lg.cnt hN
 rw[<-hst]at h1 bi ⊢
 have F4:lS c 4 (.ref S.length,crs c S st)=some (.ref (S.length+5),crs c S st):=dU hd0 rfl
 have f5:∀X,(crs c S st++X)[S.length+5]?=some (.dic (dI S.length 0 st 0)):=fun X=>aD hd5
 have kl:(aA st).length=st.length:=by unfold aA;rw[List.length_map]
 have hq:S.length+5<(crs c S st).length:=(List.getElem?_eq_some_iff.mp (show(crs c S st)[S.length+5]?=_ from hd5)).1
 have hfor:sF (ax 1) (gNm 3) (eY (fC c) c) [some (.ref l),some (.ref (S.length+5)),some (.ref (crs c S st).length),none] (crs c S st++[.lst []])=some (.nx,[some (.ref l),some (.ref (S.length+5)),some (.ref (crs c S st).length),uL (aA st) none],crs c S st++(.lst ((gM st (aA st)).map pP)::gAL st (aA st))):=by
  have h0:ax 1 [some (.ref l),some (.ref (S.length+5)),some (.ref (crs c S st).length),none] (crs c S st++[.lst []])=some (.ref (S.length+5),crs c S st++[.lst []]):=rfl
  unfold sF
  rw[h0,Option.bind_some]
  simp only[f5]
  refine yG fun ep=>?_
  have es:∀(X:Sto) (o:O),(crs c S st++X).set (S.length+5) o=(crs c S st).set (S.length+5) o++X:=fun X o=>List.set_append_left _ _ hq
  have key:=kG (c:=c) (B:=(crs c S st).set (S.length+5) (.fdc ep (dI S.length 0 st 0))) (D:=dI S.length 0 st 0) (ep:=ep) (q:=S.length+5) (u0:=some (.ref l)) hk bi hc (by rw[List.getElem?_set,if_pos rfl,if_pos hq]) (fun a t hv=>by
   obtain⟨r,v0,g0⟩:=cB (c:=c) (S:=S) (j:=0) (by omega) hv hk
   have g1:=g0 []
   rw[List.append_nil]at g1
   refine⟨r,v0,?_⟩
   rw[List.getElem?_set,if_neg fun e=>?_]
   ·exact g1
   ·have:=f5 []
    rw[List.append_nil,e,g1]at this
    cases this) (aA st) [] [] none (fun a h=>h) (by simp;omega)
  rw[List.length_set]at key
  simp only[List.map_nil,List.nil_append]at key
  rw[nO,es,key,Option.bind_some]
  have e1:((crs c S st).set (S.length+5) (.fdc ep (dI S.length 0 st 0))++(O.lst ((gM st (aA st)).map pP)::gAL st (aA st)))[S.length+5]?=some (.fdc ep (dI S.length 0 st 0)):=aD (by rw[List.getElem?_set,if_pos rfl,if_pos hq])
  have e2:((crs c S st).set (S.length+5) (.fdc ep (dI S.length 0 st 0))++(O.lst ((gM st (aA st)).map pP)::gAL st (aA st))).set (S.length+5) (.dic (dI S.length 0 st 0))=crs c S st++(.lst ((gM st (aA st)).map pP)::gAL st (aA st)):=by
   rw[List.set_append_left _ _ (by rw[List.length_set];exact hq),wM (show(crs c S st)[S.length+5]?=some (.dic (dI S.length 0 st 0))from hd5)]
  simp only[e1,e2]
 have hsz:(gM st (aA st)).length<=900:=by
  have:=jx hk bi (aA st)
  rw[kl]at this
  have h49:st.length*st.length<=12*12:=Nat.mul_le_mul hc hc
  omega
 have hs:cN [.ref (crs c S st).length] (crs c S st++(.lst ((gM st (aA st)).map pP)::gAL st (aA st)))=some (.ref ((crs c S st).length+(1+(gAL st (aA st)).length)),crs c S st++(.lst ((gM st (aA st)).map pP)::(gAL st (aA st)++[.lst ((fK (gM st (aA st))).map pP)]))):=by
  have g0:(crs c S st++(O.lst ((gM st (aA st)).map pP)::gAL st (aA st)))[(crs c S st).length]?=some (.lst ((gM st (aA st)).map pP)):=by rw[ga0];rfl
  have ln:(crs c S st++(O.lst ((gM st (aA st)).map pP)::gAL st (aA st))).length=(crs c S st).length+(1+(gAL st (aA st)).length):=by simp;omega
  have hsz':(gM st (aA st)).length<=9000:=by omega
  simp only[cN,g0,iQ,Option.bind_some,mG hk bi _ hk,hsz',and_self,if_true,ln,List.append_assoc,List.cons_append]
 obtain⟨C,hC⟩:∃C,crs c S st=S++C:=⟨_,rfl⟩
 have cl:(crs c S st).length+(1+(gAL st (aA st)).length)=S.length+(C.length+(1+(gAL st (aA st)).length)):=by rw[hC,List.length_append];omega
 refine⟨C++(.lst ((gM st (aA st)).map pP)::(gAL st (aA st)++[.lst ((fK (gM st (aA st))).map pP)])),C.length+(1+(gAL st (aA st)).length),?_,?_⟩
 ·rw[<-cl,<-List.append_assoc,<-hC]
  rwa[gb,h1,F4,hfor,hs]
 ·rw[ga,Nat.add_comm 1,List.getElem?_cons_succ,ga0];rfl
theorem Ac(lg:kI n w N evs)(hN:N<=12):(mv evs).Nodup/\(mv evs).length<=900/\fK (mv evs)=fK (gM (bj [] evs) (aA (bj [] evs))):=by
 have bi:=mY evs [] lg.lo List.nodup_nil Hs
 have nd:=nA evs [] lg.lo List.nodup_nil
 refine⟨nd,?_,tR (tN lg)⟩
 have pm:=(List.perm_ext_iff_of_nodup nd (mG lg.kd bi _ lg.kd)).mpr (tN lg)
 have l1:=jx lg.kd bi (aA (bj [] evs))
 rw[pm.length_eq]
 have l2:(aA (bj [] evs)).length=(bj [] evs).length:=by unfold aA;rw[List.length_map]
 have l3:=lg.cnt
 rw[l2]at l1
 have:(bj [] evs).length*(bj [] evs).length<=12*12:=Nat.mul_le_mul (by omega) (by omega)
 omega
def pR:Fn:=fnU 4 1 dD
theorem yj{us:List U}{i:Nat}(h:i<=us.length):BC us (some (i:Int)) none=us.drop i:=by
 have h0:HT.sIx us.length us.length none=us.length:=rfl
 have h1:HT.sIx us.length 0 (some (i:Int))=i:=by
  unfold HT.sIx
  simp only
  split<;>omega
 unfold BC
 rw[h0,h1,List.take_of_length_le (by rw[List.length_drop];omega)]
theorem wG(hl:S[l]?=some (.lst (evs.map Ev.u)))(he:evs.length<=900){i:Nat}{e:Ev}{es:List Ev}(hd:evs.drop i=e::es){acc:List (Int×Int)}{G:Sto}(hb:acc.length+(kN es e).length<=5000) :
  ∃G',bw [some (.ref l),some (.ref S.length),some (.int i),some e.u] (S++(.lst (acc.map pP)::G))=some (.nx,[some (.ref l),some (.ref S.length),some (.int i),some e.u],S++(.lst ((acc++kN es e).map pP)::(G++G'))):=by
 cases e with
 |beg x=>exact⟨[],by rwa[kN,List.append_nil,bw,Ev.u,eA,qY]⟩
 |look x y z=>exact⟨[],by rwa[kN,List.append_nil,bw,Ev.u,eA,pd]⟩
 |put x y z=>exact⟨[],by rwa[kN,List.append_nil,bw,Ev.u,eA,uY]⟩
 |fin d a=>
  obtain⟨Y,hY⟩:∃Y,Y=S++(.lst (acc.map pP)::G):=⟨_,rfl⟩
  have gl:Y[l]?=some (.lst (evs.map Ev.u)):=by rw[hY];exact aD hl
  have il:i<=(evs.map Ev.u).length:=by
   rw[List.length_map]
   have:=congrArg List.length hd
   rw[List.length_drop,List.length_cons]at this
   omega
  have lsl:es.length<=900:=by
   have:=congrArg List.length hd
   rw[List.length_drop,List.length_cons]at this
   omega
  have ed:(evs.map Ev.u).drop i=(Ev.fin d a::es).map Ev.u:=by rw[<-List.map_drop,hd]
  obtain⟨dr,hdr⟩:∃dr,dr=(Ev.fin d a::es).map Ev.u:=⟨_,rfl⟩
  obtain⟨ρ,hρ⟩:∃ρ:Rho,ρ=[some (.ref l),some (.ref S.length),some (.int i),some (Ev.fin d a).u]:=⟨_,rfl⟩
  have esl:cSl (ax 0) (some (ax 2)) none ρ Y=some (.ref Y.length,Y++[.lst dr]):=by
   have v0:ax 0 ρ Y=some (.ref l,Y):=by rw[hρ];rfl
   have v2:ax 2 ρ Y=some (.int i,Y):=by rw[hρ];rfl
   have p0:sC none ρ Y=some (none,Y):=rfl
   unfold cSl
   rw[v0,Option.bind_some]
   simp only[Ah v2,Option.bind_some,p0,fSl,gl,yj il,ed,hdr]
  have gd:(Y++[O.lst dr])[Y.length]?=some (.lst dr):=by rw[ga0];rfl
  obtain⟨G1,h⟩:=eS (S:=Y++[O.lst dr]) (ok:=fun Z=>Z[Y.length]?=some (.lst dr)) (gg:=gNm 0)
   (ct:=aN (cOp fEq (cOp fIx (ax 0) (cC (.int 0))) (cC (.str "begin")))) (ce:=jk (ao (cOp fIx (ax 1) (cC (.int 1))) (ao (cOp fIx (ax 0) (cC (.int 1))) aL)))
   (f:=Ev.u) (p:=eO) (v:=fun e=>pP (a,e.at)) (Rel:=fun ρ=>∃r0,ρ=[r0,some (Ev.fin d a).u]) (fun ys G=>aD gd) (Ev.fin d a::es) [] [] [none,some (Ev.fin d a).u] ⟨_,rfl⟩ (by simp;omega) (fun e he ys G ρ hρ=>by
    obtain⟨r0,rfl⟩:=hρ
    refine⟨[some e.u,some (Ev.fin d a).u],[],⟨_,rfl⟩,rfl,?_,fun hp=>⟨[],?_⟩⟩
    ·cases e with
     |fin d b=>cases d with
      |true=>rwa[Ev.u,gu,if_true,fR,eO,List.append_nil]
      |false=>rwa[Ev.u,gu,Bool.false_eq_true,if_false,fQ,eO,List.append_nil]
     |beg b=>rwa[Ev.u,jG,eO,List.append_nil]
     |look b _ _=>rwa[Ev.u,fP,eO,List.append_nil]
     |put b _ _=>rwa[Ev.u,gI,eO,List.append_nil]
    ·cases e with
     |beg b=>rwa[Ev.u,Ev.at,pP,List.append_nil]
     |_=>simp[eO]at hp)
  have ev:((Ev.fin d a::es).filter eO).map (fun e=>pP (a,e.at))=(kN es (.fin d a)).map pP:=by
   have:(Ev.fin d a::es).filter eO=es.filter eO:=rfl
   rw[this]
   simp only[kN,nc,List.map_map]
   rfl
  obtain⟨ts,hts⟩:∃ts,ts=kN es (.fin d a):=⟨_,rfl⟩
  rw[ev,List.nil_append,List.nil_append,<-hdr,<-hts]at h
  rw[<-hts]at hb ⊢
  obtain⟨Z,hZ⟩:∃Z,Z=Y++[O.lst dr]++(.lst (ts.map pP)::G1):=⟨_,rfl⟩
  have hcomp:d8 (iTp (cSl (ax 0) (some (ax 2)) none)) (gNm 0) (aN (cOp fEq (cOp fIx (ax 0) (cC (.int 0))) (cC (.str "begin")))) (jk (ao (cOp fIx (ax 1) (cC (.int 1))) (ao (cOp fIx (ax 0) (cC (.int 1))) aL))) 1 [3] ρ Y=some (.ref (Y++[O.lst dr]).length,Z):=by
   have er:lG 1 [3] ρ=[none,some (Ev.fin d a).u]:=by rw[hρ];rfl
   unfold d8 iTp
   rw[esl,Option.bind_some]
   simp only[gd,Option.bind_some,er,h,hZ]
  have eZ:Z=S++(.lst (acc.map pP)::(G++([.lst dr]++(.lst (ts.map pP)::G1)))):=by rw[hZ,hY];simp only[List.append_assoc,List.cons_append]
  have ga1:Z[S.length]?=some (.lst (acc.map pP)):=by rw[eZ,ga0];rfl
  have ga2:Z[(Y++[O.lst dr]).length]?=some (.lst (ts.map pP)):=by rw[hZ,ga0];rfl
  have lz:(acc.map pP).length+(ts.map pP).length<=LIM:=by rw[List.length_map,List.length_map];unfold LIM;omega
  have hext:eG (.ref S.length) [.ref (Y++[O.lst dr]).length] Z=some (.non,S++(.lst ((acc++ts).map pP)::(G++([.lst dr]++(.lst (ts.map pP)::G1))))):=by
   unfold eG
   simp only[ga1,ga2]
   rw[if_pos lz,eZ,gs0,List.map_append]
   rfl
  have gY:Y[S.length]?=some (.lst (acc.map pP)):=by rw[hY,ga0];rfl
  refine⟨[.lst dr]++(.lst (ts.map pP)::G1),?_⟩
  rw[<-hY,<-hρ]
  have t3:aN (cOp (fIn false) (cOp fIx (ax 3) (cC (.int 0))) (jk (ao (cC (.str "done")) (ao (cC (.str "fall")) aL)))) ρ Y=some (true,Y):=by
   rw[hρ]
   cases d with
   |true=>rwa[Ev.u,gu,if_true,eA,ph]
   |false=>rwa[Ev.u,gu,Bool.false_eq_true,if_false,eA,pf]
  have v1:ax 1 ρ Y=some (.ref S.length,Y):=by rw[hρ];rfl
  unfold bw
  generalize d8 (iTp (cSl (ax 0) (some (ax 2)) none)) (gNm 0) (aN (cOp fEq (cOp fIx (ax 0) (cC (.int 0))) (cC (.str "begin")))) (jk (ao (cOp fIx (ax 1) (cC (.int 1))) (ao (cOp fIx (ax 0) (cC (.int 1))) aL))) 1 [3]=cc at hcomp ⊢
  rw[Ck,t3,Option.bind_some,yA,yD,Hz,v1,Option.bind_some,Cq,gY,Cp,yE,hcomp,Option.bind_some,sR,B3,Option.bind_some,sQ,Option.bind_some,Co,hext]
  rfl
theorem qm(hl:S[l]?=some (.lst (evs.map Ev.u)))(he:evs.length<=900):∀(es:List Ev) (i:Nat) (acc:List (Int×Int)) (G:Sto) (r2 r3:Option U),evs.drop i=es->acc.length+(mv es).length<=5000->
  ∃r2' r3' G',ej (fun Z=>Z[l]?=some (.lst (evs.map Ev.u))) (gTp [2,3]) bw (((es.map Ev.u).zipIdx i).map fun p=>.tup [.int p.2,p.1]) [some (.ref l),some (.ref S.length),r2,r3] (S++(.lst (acc.map pP)::G))=some (.nx,[some (.ref l),some (.ref S.length),r2',r3'],S++(.lst ((acc++mv es).map pP)::G'))
 |[],i,acc,G,r2,r3,_,_=>⟨r2,r3,G,by rw[show mv []=[]from rfl,List.append_nil];exact et (aD hl)⟩
 |e::es,i,acc,G,r2,r3,hd,hb=>by
  have e1:mv (e::es)=kN es e++mv es:=rfl
  rw[e1,List.length_append]at hb
  obtain⟨G1,h1⟩:=wG (acc:=acc) (G:=G) hl he hd (by omega)
  have hd':evs.drop (i+1)=es:=by rw[<-List.drop_drop,hd];rfl
  obtain⟨r2',r3',G',ih⟩:=qm hl he es (i+1) (acc++kN es e) (G++G1) (some (.int i)) (some e.u) hd' (by rw[List.length_append];omega)
  refine⟨r2',r3',G',?_⟩
  rw[List.map_cons,List.zipIdx_cons,List.map_cons,e1,<-List.append_assoc]
  exact(fX (aD hl) rfl h1).trans ih
theorem wF(hl:S[l]?=some (.lst (evs.map Ev.u)))(lg:kI n w N evs)(he:evs.length<=900)(hN:N<=12) :
  ∃G k,pR [.ref l] S=some (.ref (S.length+k),S++G)/\G[k]?=some (.lst ((fK (gM (bj [] evs) (aA (bj [] evs)))).map pP)):=by
 obtain⟨nd,ln,es⟩:=Ac lg hN
 obtain⟨r2,r3,G,h⟩:=qm hl he evs 0 [] [] none none rfl (by rw[List.length_nil];omega)
 rw[<-es]
 rw[List.nil_append]at h
 obtain⟨ts,hts⟩:∃ts,ts=mv evs:=⟨_,rfl⟩
 rw[<-hts]at h nd ln ⊢
 unfold pR
 rw[n9]
 have e1:fe 1 (md aL) [some (.ref l),none,none,none] S=some (.nx,[some (.ref l),some (.ref S.length),none,none],S++[.lst []]):=rfl
 have gl:(S++[O.lst []])[l]?=some (.lst (evs.map Ev.u)):=aD hl
 have e2:oA (pj (ax 0)) (gTp [2,3]) bw [some (.ref l),some (.ref S.length),none,none] (S++[.lst []])=some (.nx,[some (.ref l),some (.ref S.length),r2,r3],S++(.lst (ts.map pP)::G)):=by
  have ei:pj (ax 0) [some (.ref l),some (.ref S.length),none,none] (S++[.lst []])=some (vn (evs.map Ev.u),fun Z=>Z[l]?=some (.lst (evs.map Ev.u)),S++[.lst []]):=by
   have v0:ax 0 [some (.ref l),some (.ref S.length),none,none] (S++[.lst []])=some (.ref l,S++[.lst []]):=rfl
   unfold pj
   rw[v0,Option.bind_some]
   simp only[vZ,gl,Option.bind_some]
  unfold oA
  rw[ei,Option.bind_some]
  exact h
 have gs1:(S++(O.lst (ts.map pP)::G))[S.length]?=some (.lst (ts.map pP)):=by rw[ga0];rfl
 have e3:cN [.ref S.length] (S++(O.lst (ts.map pP)::G))=some (.ref (S++(O.lst (ts.map pP)::G)).length,S++(O.lst (ts.map pP)::G)++[.lst ((fK ts).map pP)]):=by
  simp only[cN,gs1,iQ,Option.bind_some]
  rw[if_pos ⟨nd,by omega⟩]
 refine⟨(.lst (ts.map pP)::G)++[.lst ((fK ts).map pP)],(O.lst (ts.map pP)::G).length,?_,by rw[ga0];rfl⟩
 unfold dD
 rw[HJ e1,HJ e2]
 have e4:gS (cCB cN (ao (ax 1) aL)) [some (.ref l),some (.ref S.length),r2,r3] (S++(.lst (ts.map pP)::G))=some (.rt (.ref (S++(O.lst (ts.map pP)::G)).length),[some (.ref l),some (.ref S.length),r2,r3],S++(O.lst (ts.map pP)::G)++[.lst ((fK ts).map pP)]):=by
  rw[BV]
  show(cN [.ref S.length] (S++(.lst (ts.map pP)::G))).bind _=_
  rw[e3];rfl
 rw[e4,List.length_append,List.append_assoc]
 rfl
def pT(c:Cl):Fn:=fnU 2 2 (iK (fC c) c)
def Bw(c:Cl):Fn:=fnU 1 1 (eU (fC c) c)
theorem yd(hns:c.ns.length=5)(hl:S[l]?=some (.lst (evs.map Ev.u)))(lg:kI n w N evs)(he:evs.length<=900)(hv:br (bj [] evs) a=some t) :
  ∃G,pT c [.ref l,.int a] S=some (.str (enS t.en),S++G):=by
 unfold pT
 rw[yf]
 have h1:=ko (c:=c) (N:=N) hns hl lg.lo (by omega)
 obtain⟨C,hC⟩:∃C,crs c S (bj [] evs)=S++C:=⟨_,rfl⟩
 have f1:(crs c S (bj [] evs))[S.length+1]?=some (.dic (eI (bj [] evs))):=hd1
 have F0:lS c 0 (.ref S.length,crs c S (bj [] evs))=some (.ref (S.length+1),crs c S (bj [] evs)):=dU hd0 rfl
 have v0:br (eI (bj [] evs)) (.inl a)=some (.str (enS t.en)):=by
  obtain⟨s1,s2,e⟩:=fT hv
  have hk:=lg.kd
  rw[e]at hk ⊢
  exact qh hk
 refine⟨C,?_⟩
 rw[<-hC]
 rwa[iK,h1,F0,f1,v0]
theorem ES(hns:c.ns.length=5)(hl:S[l]?=some (.lst (evs.map Ev.u)))(lg:kI n w N evs)(he:evs.length<=900)(hN:N<64) :
  ∃G k,Bw c [.ref l] S=some (.ref (S.length+k),S++G)/\G[k]?=some (.lst ((jn (aA (bj [] evs))).map U.int)):=by
 unfold Bw
 rw[sx]
 have h1:=ko (c:=c) (N:=N) hns hl lg.lo (by omega)
 obtain⟨C,hC⟩:∃C,crs c S (bj [] evs)=S++C:=⟨_,rfl⟩
 have f1:(crs c S (bj [] evs))[S.length+1]?=some (.dic (eI (bj [] evs))):=hd1
 have F0:lS c 0 (.ref S.length,crs c S (bj [] evs))=some (.ref (S.length+1),crs c S (bj [] evs)):=dU hd0 rfl
 have ln:(aA (bj [] evs)).length<64:=by unfold aA;rw[List.length_map];exact Nat.lt_of_le_of_lt lg.cnt hN
 have hs:fZ [.ref (S.length+1)] (crs c S (bj [] evs))=some (.ref (crs c S (bj [] evs)).length,crs c S (bj [] evs)++[.lst ((jn (aA (bj [] evs))).map U.int)]):=by
  simp only[fZ,f1,lP,Option.bind_some]
  rw[if_pos ln]
 refine⟨C++[.lst ((jn (aA (bj [] evs))).map U.int)],C.length,?_,by rw[ga0];rfl⟩
 rw[<-List.append_assoc,<-hC]
 have:(crs c S (bj [] evs)).length=S.length+C.length:=by rw[hC,List.length_append]
 rw[this]at hs
 rwa[eU,h1,F0,hs]
theorem Eb{S:Sto}(e:Ev):Lay 1 S e.u:=by
 have two:∀(x:Str) (a:Int),PyData.strOk x=true->Lay 1 S (.tup [.str x,.int a]):=fun x a h=>.tup fun u hu=>by
  simp only[List.mem_cons,List.not_mem_nil,or_false]at hu
  rcases hu with rfl|rfl
  ·exact .str h
  ·exact .int
 have four:∀(x:Str) (a b y:Int),PyData.strOk x=true->Lay 1 S (.tup [.str x,.int a,.int b,.int y]):=fun x a b y h=>.tup fun u hu=>by
  simp only[List.mem_cons,List.not_mem_nil,or_false]at hu
  rcases hu with rfl|rfl|rfl|rfl
  ·exact .str h
  ·exact .int
  ·exact .int
  ·exact .int
 cases e with
 |fin d a=>cases d<;>exact two _ a (by decide +kernel)
 |beg a=>exact two _ a (by decide +kernel)
 |look a b x=>exact four _ a b x (by decide +kernel)
 |put a b x=>exact four _ a b x (by decide +kernel)
theorem EC{S:Sto}{l l':Nat}{es:List Ev}(h:S[l]?=some (.lst (es.map Ev.u)))(h':S[l']?=some (.lst (es.map Ev.u))):oP true (.ref l) (.ref l') S=some (.bl false,S):=
 iV.ne (k:=2) (iV.lst h h' (fJ.all fun u hu=>by obtain⟨e,_,rfl⟩:=List.mem_map.mp hu;exact Eb e)) (by omega)
abbrev fL(c:Cl)(f:Fn->Fn->Fn->Fn->Fn->Fn->Fn->Fn->Fn->Fn->CS):CS:=f pQ Bu pS (Bw c) (m8 c) (fc 3) pV pR Bv (pT c)
abbrev rh(wu:U)(r3:Option U)(jl jh:Nat)(r6 r7 r8 r9:Option U):Rho:=[none,some (.ref 1),some wu,r3,some (.ref jl),some (.ref jh),r6,r7,r8,r9]
variable{jl jh:Nat}{r3 r6 r7 r8:Option U}{wu:U}
theorem n5{Z:Sto}{jb:Nat}{us:List U}(hns:c.ns.length=5)(lg:kI n w N evs)(he:evs.length<=60)
  (hl:Z[jl]?=some (.lst (evs.map Ev.u))) (hh:Z[jh]?=some (.lst (evs.map Ev.u))) (hb:Z[jb]?=some (.lst us)):∀(bs:List Int) (G:Sto) (r9:Option U),(∀b∈bs,b∈aA (bj [] evs))->
  ∃G' r9',ej (fun Z=>Z[jb]?=some (.lst us)) (gNm 9) (fL c pL) (bs.map U.int) (rh wu r3 jl jh r6 r7 r8 r9) (Z++G)=some (.nx,rh wu r3 jl jh r6 r7 r8 r9',Z++G')
 |[],G,r9,_=>⟨G,r9,et (aD hb)⟩
 |b::bs,G,r9,hk=>by
  have hbk:=hk b List.mem_cons_self
  obtain⟨t,hv⟩:∃t,br (bj [] evs) b=some t:=by
   cases hv:br (bj [] evs) b with
   |some t=>exact⟨t,rfl⟩
   |none=>exact absurd hbk (eM.mp hv)
  have een:fM (bj [] evs) b=t.en:=by unfold fM;rw[hv];rfl
  obtain⟨G1,h1⟩:=yd (c:=c) (S:=Z++G) hns (aD hh) lg (by omega) hv
  obtain⟨G2,h2⟩:=EG (a:=b) (S:=Z++G++G1) (aD (aD hl)) lg.lo (by omega)
  rw[een]at h2
  obtain⟨G3,h3⟩:=wN (k:=2) (i:=enS t.en) (S:=Z++G++G1++G2) []
  simp only[List.append_nil,List.nil_append,List.append_assoc]at h1 h2 h3
  obtain⟨G',r9',ih⟩:=n5 hns lg he hl hh hb bs (G++(G1++(G2++G3))) (some (.int b)) (fun z hz=>hk z (List.mem_cons_of_mem _ hz))
  refine⟨G',r9',(fX (aD hb) rfl ?_).trans ih⟩
  rwa[fL,rh,pL,h1,h2,h3]
theorem tX{Z G:Sto}{i:Nat}{o:O}(h:Z.length<=i):(Z++G).set i o=Z++G.set (i-Z.length) o:=List.set_append_right _ _ h
theorem me{Z:Sto}(hns:c.ns.length=5)(lg:kI n w 12 evs)(he:evs.length<=60)
  (hl:Z[jl]?=some (.lst (evs.map Ev.u))) (hh:Z[jh]?=some (.lst (evs.map Ev.u))):∀(us:List U) (G:Sto) (r6 r7 r8 r9:Option U),
  ∃G' r6' r7' r8' r9',ej (fun _=>True) (gNm 6) (fL c pK) us (rh wu r3 jl jh r6 r7 r8 r9) (Z++G)=some (.nx,rh wu r3 jl jh r6' r7' r8' r9',Z++G')
 |[],G,r6,r7,r8,r9=>⟨G,r6,r7,r8,r9,et trivial⟩
 |u::us,G,r6,r7,r8,r9=>by
  obtain⟨Y,hY⟩:∃Y,Y=Z++G:=⟨_,rfl⟩
  have al:∀X,(Y++X)[jl]?=some (.lst (evs.map Ev.u)):=fun X=>by rw[hY];exact aD (aD hl)
  have ah:∀X,(Y++X)[jh]?=some (.lst (evs.map Ev.u)):=fun X=>by rw[hY];exact aD (aD hh)
  obtain⟨ks,hks⟩:∃ks,ks=jn (aA (bj [] evs)):=⟨_,rfl⟩
  obtain⟨ts,hts⟩:∃ts,ts=fK (gM (bj [] evs) (aA (bj [] evs))):=⟨_,rfl⟩
  have lk:ks.length<=12:=by rw[hks,(iL _).length_eq];unfold aA;rw[List.length_map];exact lg.cnt
  have lt:ts.length<=900:=by
   have bi:=mY evs [] lg.lo List.nodup_nil Hs
   have nd:=mG lg.kd bi _ lg.kd
   obtain⟨M,m1,m2⟩:=vT (gM (bj [] evs) (aA (bj [] evs)))
   rw[hts,jw m1 m2]
   have mn:M.Nodup:=m1.imp fun{p q} h e=>by subst e;rw[mJ]at h;cases h
   rw[((List.perm_ext_iff_of_nodup mn nd).mpr m2).length_eq]
   have l1:=jx lg.kd bi (aA (bj [] evs))
   have l2:(aA (bj [] evs)).length=(bj [] evs).length:=by unfold aA;rw[List.length_map]
   have l3:=lg.cnt
   rw[l2]at l1
   have:(bj [] evs).length*(bj [] evs).length<=12*12:=Nat.mul_le_mul l3 l3
   omega
  obtain⟨C1,k1,h1,g1⟩:=ES (c:=c) (S:=Y) hns (by have:=ah [];rwa[List.append_nil]at this) lg (by omega) (by omega)
  obtain⟨C2,k2,h2,g2⟩:=vV (c:=c) (S:=Y++C1) hns (ah C1) lg (by omega) (by omega)
  obtain⟨Y2,hY2⟩:∃Y2,Y2=Y++(C1++C2):=⟨_,rfl⟩
  rw[List.append_assoc,<-hY2]at h2
  have bl:∀X,(Y2++X)[jl]?=some (.lst (evs.map Ev.u)):=fun X=>by rw[hY2,List.append_assoc];exact al _
  have bh:∀X,(Y2++X)[jh]?=some (.lst (evs.map Ev.u)):=fun X=>by rw[hY2,List.append_assoc];exact ah _
  have b1:k1<C1.length:=(List.getElem?_eq_some_iff.mp g1).1
  have f1:∀X,(Y2++X)[Y.length+k1]?=some (.lst (ks.map U.int)):=fun X=>by rw[hY2,List.append_assoc,ga,List.append_assoc,hks];exact aD g1
  have f2:∀X,(Y2++X)[(Y++C1).length+k2]?=some (.lst (ts.map pP)):=fun X=>by rw[hY2,<-List.append_assoc,List.append_assoc (Y++C1),ga,hts];exact aD g2
  obtain⟨C3,k3,h3,g3⟩:=rp (S:=Y2) (by have:=bl [];rwa[List.append_nil]at this) lg (by omega) (by omega)
  rw[<-hks]at g3
  obtain⟨C4,h4⟩:=rO (k:=1) (S:=Y2++C3) (l1:=Y.length+k1) (l2:=Y2.length+k3) (f1 C3) (by rw[ga];exact g3) (by omega) []
  rw[List.append_nil,List.nil_append,List.append_assoc]at h4
  obtain⟨C5,k5,h5,g5⟩:=wF (S:=Y2++(C3++C4)) (bl _) lg (by omega) (by omega)
  rw[<-hts]at g5
  rw[List.append_assoc]at h5
  obtain⟨C6,h6⟩:=wQ (k:=0) (S:=Y2++(C3++C4++C5)) (l1:=(Y++C1).length+k2) (l2:=(Y2++(C3++C4)).length+k5) (f2 _) (by rw[<-List.append_assoc,ga];exact g5) (by omega) []
  rw[List.append_nil,List.nil_append,List.append_assoc]at h6
  obtain⟨C7,k7,h7,g7⟩:=rp (S:=Y2++(C3++C4++C5++C6)) (bl _) lg (by omega) (by omega)
  rw[<-hks]at g7
  rw[List.append_assoc]at h7
  obtain⟨C8,r9',h8⟩:=n5 (c:=c) (Z:=Y2++(C3++C4++C5++C6++C7)) (wu:=wu) (r3:=r3) (r6:=some u) (r7:=some (.ref (Y.length+k1))) (r8:=some (.ref ((Y++C1).length+k2))) (jb:=(Y2++(C3++C4++C5++C6)).length+k7) hns lg he (bl _) (bh _) (by rw[<-List.append_assoc,ga];exact g7) ks [] r9 (fun b hb=>by rw[hks]at hb;exact(iL _).mem_iff.mp hb)
  rw[List.append_nil]at h8
  obtain⟨X8,hX8⟩:∃X8,X8=C3++(C4++(C5++(C6++(C7++C8)))):=⟨_,rfl⟩
  simp only[List.append_assoc]at h3 h4 h5 h6 h7 h8
  rw[<-hX8]at h8
  have g7':(Y2++(C3++C4++C5++C6++C7))[(Y2++(C3++C4++C5++C6)).length+k7]?=some (.lst (ks.map U.int)):=by rw[<-List.append_assoc,ga];exact g7
  simp only[List.append_assoc]at g7'
  have hL1:(ks.map U.int).length<LIM:=by unfold LIM;rw[List.length_map];omega
  have hL2:(ts.map pP).length<LIM:=by unfold LIM;rw[List.length_map];omega
  have f3:((Y2++X8).set (Y.length+k1) (.lst (ks.map U.int++[.int 0])))[(Y++C1).length+k2]?=some (.lst (ts.map pP)):=by
   rw[List.getElem?_set_ne (by rw[List.length_append];omega)];exact f2 _
  have z1:Z.length<=Y.length:=by rw[hY,List.length_append];omega
  obtain⟨G',hG'⟩:∃G',((Y2++X8).set (Y.length+k1) (.lst (ks.map U.int++[.int 0]))).set ((Y++C1).length+k2) (.lst (ts.map pP++[.tup [.int 0,.int 0]]))=Z++G':=by
   rw[hY2,hY,List.append_assoc,List.append_assoc,tX (by rw[List.length_append];omega),tX (by simp only[List.length_append];omega)]
   exact⟨_,rfl⟩
  obtain⟨G'',a6,a7,a8,a9,ih⟩:=me hns lg he hl hh us G' (some u) (some (.ref (Y.length+k1))) (some (.ref ((Y++C1).length+k2))) r9'
  refine⟨G'',a6,a7,a8,a9,?_⟩
  rw[<-hY]
  refine(fX trivial rfl ?_).trans ih
  rw[<-hG']
  clear hG' ih
  simp only[fL,rh]at h8
  rwa[fL,rh,pK,h1,h2,h3,h4,h5,h6,h7,oA,iTp,g7',h8,f1,jE hL1,f3,jE hL2]
theorem Ab(hns:c.ns.length=5)(ns:List Int)(n0:1<=n)(n1:n<=6)(w0:2<=w)(w1:w<=1000)(T:Sto){a c1:Int}(ha:0<=a)(hc:0<=c1)(q3 q4 q5 q6 q7 q8 q9:Option U) :
  ∃(p4 p5 p6 p7 p8 p9:Option U) (T':Sto) (a' c':Int),fL c mZ [none,some (.ref 1),some (.tup [.int n,.int w]),q3,q4,q5,q6,q7,q8,q9] (scr ns::pen a c1::T)
   = some (.nx,[none,some (.ref 1),some (.tup [.int n,.int w]),q3,p4,p5,p6,p7,p8,p9],scr ns::pen a' c'::T')/\0<=a'/\0<=c':=by
 obtain⟨x,a0,c0,G0,e0,hx,bx,ha0,hc0⟩:=wI ns T ha hc n0 n1 w0 w1
 obtain⟨evs,a1,c2,G1,k1,e1,g1,lg,he,ha1,hc1⟩:=D9 ns (T++G0) (most:=12) (size:=60) ha0 hc0 n0 n1 w0 w1 hx bx (by omega) (by omega) (by omega) (by omega)
 have he':evs.length<=60:=by have:(60:Int).toNat=60:=rfl;omega
 have lg:kI n w 12 evs:=lg
 obtain⟨Z,hZ⟩:∃Z,Z=scr ns::pen a1 c2::(T++G0++G1):=⟨_,rfl⟩
 have zl:Z[(T++G0).length+k1+1+1]?=some (.lst (evs.map Ev.u)):=by
  rw[hZ,List.getElem?_cons_succ,List.getElem?_cons_succ,ga];exact g1
 obtain⟨W,hW⟩:∃W,W=Z++[.lst (evs.map Ev.u)]:=⟨_,rfl⟩
 have wl:W[(T++G0).length+k1+1+1]?=some (.lst (evs.map Ev.u)):=by rw[hW];exact aD zl
 have wh:W[Z.length]?=some (.lst (evs.map Ev.u)):=by rw[hW,ga0];rfl
 obtain⟨G9,p6,p7,p8,p9,e9⟩:=me (c:=c) (Z:=W) (jh:=Z.length) (wu:=.tup [.int n,.int w]) (r3:=q3) hns lg he' wl wh (cH 0 2) [] q6 q7 q8 q9
 rw[List.append_nil]at e9
 have e10:=EC (S:=W++G9) (aD wh) (aD wl)
 obtain⟨T',hT'⟩:∃T',W++G9=scr ns::pen a1 c2::T':=⟨T++G0++G1++([.lst (evs.map Ev.u)]++G9),by rw[hW,hZ];simp only[List.append_assoc,List.cons_append,List.nil_append]⟩
 refine⟨some (.ref ((T++G0).length+k1+1+1)),some (.ref Z.length),p6,p7,p8,p9,T',a1,c2,?_,ha1,hc1⟩
 rw[<-hT']
 rw[<-hZ]at e1
 have r2:d4 (ao (cC (.int 2)) aL)=fun ρ S=>some (cH 0 2,fun _=>True,S):=rfl
 simp only[fL,rh,List.append_assoc]at e9 e10
 have hW2:Z++[O.lst (evs.map Ev.u)]=W:=hW.symm
 rwa[fL,mZ,e0,e1,zl,hW2,oA,r2,e9,e10]
theorem nv(hns:c.ns.length=5)(ns:List Int)(n0:1<=n)(n1:n<=6)(w0:2<=w)(w1:w<=1000):∀(us:List U) (T:Sto) (a c1:Int) (q3 q4 q5 q6 q7 q8 q9:Option U),0<=a->0<=c1->
  ∃(ρ':Rho) (S':Sto),ej (fun _=>True) (gNm 3) (fL c mZ) us [none,some (.ref 1),some (.tup [.int n,.int w]),q3,q4,q5,q6,q7,q8,q9] (scr ns::pen a c1::T)=some (.nx,ρ',S')
 |[],T,a,c1,q3,q4,q5,q6,q7,q8,q9,_,_=>⟨_,_,et trivial⟩
 |u::us,T,a,c1,q3,q4,q5,q6,q7,q8,q9,ha,hc=>by
  obtain⟨p4,p5,p6,p7,p8,p9,T',a',c',e,ha',hc'⟩:=Ab hns ns n0 n1 w0 w1 T ha hc (some u) q4 q5 q6 q7 q8 q9
  obtain⟨ρ',S',ih⟩:=nv hns ns n0 n1 w0 w1 us T' a' c' (some u) p4 p5 p6 p7 p8 p9 ha' hc'
  exact⟨ρ',S',(fX trivial rfl e).trans ih⟩
theorem Ec(hns:c.ns.length=5)(ns:List Int)(a c1:Int)(ha:0<=a)(hc:0<=c1):∃ρ' S',(fL c vK) [none,some (.ref 1),none,none,none,none,none,none,none,none] [.lst (ns.map U.int),.lst [.ref 0,.int a,.int c1]]=some (.rt (.bl true),ρ',S'):=by
 obtain⟨n,w,a1,c2,G,e1,n0,n1,w0,w1,ha1,hc1⟩:=wA ns [] ha hc
 obtain⟨ρ,S',e6⟩:=nv (c:=c) hns ns n0 n1 w0 w1 (cH 0 2) ([]++G) a1 c2 none none none none none none none ha1 hc1
 refine⟨ρ,S',?_⟩
 have r2:d4 (ao (cC (.int 2)) aL)=fun ρ S=>some (cH 0 2,fun _=>True,S):=rfl
 show fL c vK _ [scr ns,pen a c1]=_
 simp only[fL,List.nil_append]at e6
 rwa[fL,vK,oA,r2,e1,e6]
end
section
variable{P:Program}{w:World}{K:PySem.W.Frag}{mg:Str->Option Value}{base:Heap}
theorem jJ:aT ["script"] ["script"] (ay dj):=⟨rfl,rfl,rfl,by decide +kernel,rfl,by decide +kernel,by decide +kernel⟩
theorem Ba{k:Nat}(B:Blt mg)(d:Def K mg "_law_pen" dj ["script"]):Has P w K mg base "_law_pen" (k+1) ["script"] (yN K):=by
 refine d.has jJ (fun vs H Q E h=>?_) (fun f cdv A outer s H vs Q E hr h=>?_)
 ·obtain⟨a,ns,rfl,_⟩:=h;rfl
 obtain⟨a,ns,rfl,hS,q⟩:=h
 have nd:=jJ.nd
 refine⟨_,(pX (sV (tm (cX (lu jj rfl B.list OG.gc (cX (nq tW (wpv 0) qd (pZ aw)) gH)) (cX aw (cX aw gH)))))),?_⟩
 refine⟨_,rfl,_,rfl,a,_,rfl,hS,fun p hp=>⟨p,_,rfl,.inl (SqL.of aJ),fun l hl=>⟨(by show 3<=sizeLine;decide),fun r hr'=>?_⟩⟩⟩
 obtain⟨ms,em⟩:∃ms:List Int,vF (ns.map V.int) none (some 63)=ms.map V.int:=⟨_,yi _ _ _⟩
 rw[em]at hl hr' ⊢
 refine q r l _ (((cQ hp _).trans (cQ hl _)).trans (cQ hr' _)) ⟨ms,0,0,aJ,?_,bY aJ hr',by decide,by decide⟩ ?_
 ·rw[aV (bY aJ hr')];exact aJ
 ·exact(((cQ hp _).trans (cQ hl _))).free hr'
end
theorem ET{l:PySem.W.OpenLaw}{w:World}{K:PySem.W.Frag}{h:Heap}{mg:Str->Option Value}{fa:Addr}(X:K.In h)(G:h.Ns mainGlobals mg)(hfa:mg "law"=some (.ref fa))
  {f1:Addr} {od1 an1:Option Addr} {sl1:Array (Option Value)} {oc1 kV1 dc1 pm1 cd1 ct1:Value}
  {f2:Addr} {od2 an2:Option Addr} {sl2:Array (Option Value)} {oc2 kV2 dc2 pm2 cd2 ct2:Value}
  {f3:Addr} {od3 an3:Option Addr} {sl3:Array (Option Value)} {oc3 kV3 dc3 pm3 cd3 ct3:Value}
  {f4:Addr} {od4 an4:Option Addr} {sl4:Array (Option Value)} {oc4 kV4 dc4 pm4 cd4 ct4:Value}
  {f5:Addr} {od5 an5:Option Addr} {sl5:Array (Option Value)} {oc5 kV5 dc5 pm5 cd5 ct5:Value}
  {f6:Addr} {od6 an6:Option Addr} {sl6:Array (Option Value)} {oc6 kV6 dc6 pm6 cd6 ct6:Value}
  {f7:Addr} {od7 an7:Option Addr} {sl7:Array (Option Value)} {oc7 kV7 dc7 pm7 cd7 ct7:Value}
  {f8:Addr} {od8 an8:Option Addr} {sl8:Array (Option Value)} {oc8 kV8 dc8 pm8 cd8 ct8:Value}
  {f9:Addr} {od9 an9:Option Addr} {sl9:Array (Option Value)} {oc9 kV9 dc9 pm9 cd9 ct9:Value}
  {f10:Addr} {od10 an10:Option Addr} {sl10:Array (Option Value)} {oc10 kV10 dc10 pm10 cd10 ct10:Value}
  {f11:Addr} {od11 an11:Option Addr} {sl11:Array (Option Value)} {oc11 kV11 dc11 pm11 cd11 ct11:Value}
  {f12:Addr} {od12 an12:Option Addr} {sl12:Array (Option Value)} {oc12 kV12 dc12 pm12 cd12 ct12:Value}
  {f13:Addr} {od13 an13:Option Addr} {sl13:Array (Option Value)} {oc13 kV13 dc13 pm13 cd13 ct13:Value}
  {f14:Addr} {od14 an14:Option Addr} {sl14:Array (Option Value)} {oc14 kV14 dc14 pm14 cd14 ct14:Value}
  {f15:Addr} {od15 an15:Option Addr} {sl15:Array (Option Value)} {oc15 kV15 dc15 pm15 cd15 ct15:Value}
  {f16:Addr} {od16 an16:Option Addr} {sl16:Array (Option Value)} {oc16 kV16 dc16 pm16 cd16 ct16:Value}
  {f17:Addr} {od17 an17:Option Addr} {sl17:Array (Option Value)} {oc17 kV17 dc17 pm17 cd17 ct17:Value}
  {CCourse:Addr}
  {f18:Addr} {od18 an18:Option Addr} {sl18:Array (Option Value)} {oc18 kV18 dc18 pm18 cd18 ct18:Value}
  {f19:Addr} {od19 an19:Option Addr} {sl19:Array (Option Value)} {oc19 kV19 dc19 pm19 cd19 ct19:Value}
  {f20:Addr} {od20 an20:Option Addr} {sl20:Array (Option Value)} {oc20 kV20 dc20 pm20 cd20 ct20:Value}
  {f21:Addr} {od21 an21:Option Addr} {sl21:Array (Option Value)} {oc21 kV21 dc21 pm21 cd21 ct21:Value}
  (a1:PySem.W.nsIn K mainGlobals "_law_take"=some (some (.ref f1))) (l1:K.lookup f1=some ⟨oc1,od1,.func (PySem.W.fnOf "_law_take" "_law_take" (aZ cT) (aM cT) (ay cT) .none kV1 dc1 pm1 an1 cd1 ct1),sl1⟩) (c1:PySem.W.codeIn K cd1 "_law_take"=true) (k1:PySem.W.keepIn K (.ref f1)=true)
  (a2:PySem.W.nsIn K mainGlobals "_law_world"=some (some (.ref f2))) (l2:K.lookup f2=some ⟨oc2,od2,.func (PySem.W.fnOf "_law_world" "_law_world" (aZ b6) (aM b6) (ay b6) .none kV2 dc2 pm2 an2 cd2 ct2),sl2⟩) (c2:PySem.W.codeIn K cd2 "_law_world"=true) (k2:PySem.W.keepIn K (.ref f2)=true)
  (a3:PySem.W.nsIn K mainGlobals "_law_state"=some (some (.ref f3))) (l3:K.lookup f3=some ⟨oc3,od3,.func (PySem.W.fnOf "_law_state" "_law_state" (aZ b8) (aM b8) (ay b8) .none kV3 dc3 pm3 an3 cd3 ct3),sl3⟩) (c3:PySem.W.codeIn K cd3 "_law_state"=true) (k3:PySem.W.keepIn K (.ref f3)=true)
  (a4:PySem.W.nsIn K mainGlobals "_law_names"=some (some (.ref f4))) (l4:K.lookup f4=some ⟨oc4,od4,.func (PySem.W.fnOf "_law_names" "_law_names" (aZ cf) (aM cf) (ay cf) .none kV4 dc4 pm4 an4 cd4 ct4),sl4⟩) (c4:PySem.W.codeIn K cd4 "_law_names"=true) (k4:PySem.W.keepIn K (.ref f4)=true)
  (a5:PySem.W.nsIn K mainGlobals "_law_put_in"=some (some (.ref f5))) (l5:K.lookup f5=some ⟨oc5,od5,.func (PySem.W.fnOf "_law_put_in" "_law_put_in" (aZ bU) (aM bU) (ay bU) .none kV5 dc5 pm5 an5 cd5 ct5),sl5⟩) (c5:PySem.W.codeIn K cd5 "_law_put_in"=true) (k5:PySem.W.keepIn K (.ref f5)=true)
  (a6:PySem.W.nsIn K mainGlobals "_law_event"=some (some (.ref f6))) (l6:K.lookup f6=some ⟨oc6,od6,.func (PySem.W.fnOf "_law_event" "_law_event" (aZ cg) (aM cg) (ay cg) .none kV6 dc6 pm6 an6 cd6 ct6),sl6⟩) (c6:PySem.W.codeIn K cd6 "_law_event"=true) (k6:PySem.W.keepIn K (.ref f6)=true)
  (a7:PySem.W.nsIn K mainGlobals "_law_log"=some (some (.ref f7))) (l7:K.lookup f7=some ⟨oc7,od7,.func (PySem.W.fnOf "_law_log" "_law_log" (aZ dk) (aM dk) (ay dk) .none kV7 dc7 pm7 an7 cd7 ct7),sl7⟩) (c7:PySem.W.codeIn K cd7 "_law_log"=true) (k7:PySem.W.keepIn K (.ref f7)=true)
  (a8:PySem.W.nsIn K mainGlobals "_law_begun"=some (some (.ref f8))) (l8:K.lookup f8=some ⟨oc8,od8,.func (PySem.W.fnOf "_law_begun" "_law_begun" (aZ cm) (aM cm) (ay cm) .none kV8 dc8 pm8 an8 cd8 ct8),sl8⟩) (c8:PySem.W.codeIn K cd8 "_law_begun"=true) (k8:PySem.W.keepIn K (.ref f8)=true)
  (a9:PySem.W.nsIn K mainGlobals "_law_end"=some (some (.ref f9))) (l9:K.lookup f9=some ⟨oc9,od9,.func (PySem.W.fnOf "_law_end" "_law_end" (aZ dq) (aM dq) (ay dq) .none kV9 dc9 pm9 an9 cd9 ct9),sl9⟩) (c9:PySem.W.codeIn K cd9 "_law_end"=true) (k9:PySem.W.keepIn K (.ref f9)=true)
  (a10:PySem.W.nsIn K mainGlobals "_law_times"=some (some (.ref f10))) (l10:K.lookup f10=some ⟨oc10,od10,.func (PySem.W.fnOf "_law_times" "_law_times" (aZ b7) (aM b7) (ay b7) .none kV10 dc10 pm10 an10 cd10 ct10),sl10⟩) (c10:PySem.W.codeIn K cd10 "_law_times"=true) (k10:PySem.W.keepIn K (.ref f10)=true)
  (a11:PySem.W.nsIn K mainGlobals "_law_same"=some (some (.ref f11))) (l11:K.lookup f11=some ⟨oc11,od11,.func (PySem.W.fnOf "_law_same" "_law_same" (aZ cU) (aM cU) (ay cU) .none kV11 dc11 pm11 an11 cd11 ct11),sl11⟩) (c11:PySem.W.codeIn K cd11 "_law_same"=true) (k11:PySem.W.keepIn K (.ref f11)=true)
  (a12:PySem.W.nsIn K mainGlobals "course_of"=some (some (.ref f12))) (l12:K.lookup f12=some ⟨oc12,od12,.func (PySem.W.fnOf "course_of" "course_of" (aZ cS) (aM cS) (ay cS) .none kV12 dc12 pm12 an12 cd12 ct12),sl12⟩) (c12:PySem.W.codeIn K cd12 "course_of"=true) (k12:PySem.W.keepIn K (.ref f12)=true)
  (a13:PySem.W.nsIn K mainGlobals "attempts"=some (some (.ref f13))) (l13:K.lookup f13=some ⟨oc13,od13,.func (PySem.W.fnOf "attempts" "attempts" (aZ dh) (aM dh) (ay dh) .none kV13 dc13 pm13 an13 cd13 ct13),sl13⟩) (c13:PySem.W.codeIn K cd13 "attempts"=true) (k13:PySem.W.keepIn K (.ref f13)=true)
  (a14:PySem.W.nsIn K mainGlobals "end_of"=some (some (.ref f14))) (l14:K.lookup f14=some ⟨oc14,od14,.func (PySem.W.fnOf "end_of" "end_of" (aZ fg) (aM fg) (ay fg) .none kV14 dc14 pm14 an14 cd14 ct14),sl14⟩) (c14:PySem.W.codeIn K cd14 "end_of"=true) (k14:PySem.W.keepIn K (.ref f14)=true)
  (a15:PySem.W.nsIn K mainGlobals "ahead"=some (some (.ref f15))) (l15:K.lookup f15=some ⟨oc15,od15,.func (PySem.W.fnOf "ahead" "ahead" (aZ gJ) (aM gJ) (ay gJ) .none kV15 dc15 pm15 an15 cd15 ct15),sl15⟩) (c15:PySem.W.codeIn K cd15 "ahead"=true) (k15:PySem.W.keepIn K (.ref f15)=true)
  (a16:PySem.W.nsIn K mainGlobals "_law_pen"=some (some (.ref f16))) (l16:K.lookup f16=some ⟨oc16,od16,.func (PySem.W.fnOf "_law_pen" "_law_pen" (aZ dj) (aM dj) (ay dj) .none kV16 dc16 pm16 an16 cd16 ct16),sl16⟩) (c16:PySem.W.codeIn K cd16 "_law_pen"=true) (k16:PySem.W.keepIn K (.ref f16)=true)
  (a17:PySem.W.nsIn K mainGlobals "law"=some (some (.ref f17))) (l17:K.lookup f17=some ⟨oc17,od17,.func (PySem.W.fnOf "law" "law" (aZ kO) (aM kO) (ay kO) .none kV17 dc17 pm17 an17 cd17 ct17),sl17⟩) (c17:PySem.W.codeIn K cd17 "law"=true) (k17:PySem.W.keepIn K (.ref f17)=true)
  (aCCourse:PySem.W.nsIn K mainGlobals "Course"=some (some (.ref CCourse))) (pgCourse:PySem.W.plainGet K CCourse Str.empty=true) (hdCourse:PySem.W.hasDictIn K CCourse=true) (poCourse:PySem.W.plainOver K CCourse=true) (saCourse:PySem.W.findIn K (.ref CCourse) "__setattr__"=some (some (.builtin "object.__setattr__"))) (mkCourse:PySem.W.makesIn K CCourse=true) (kcCourse:PySem.W.keepIn K (.ref CCourse)=true)
  (nfCourse0:PySem.W.findIn K (.ref CCourse) "ends"=some none)
  (nfCourse1:PySem.W.findIn K (.ref CCourse) "looks"=some none)
  (nfCourse2:PySem.W.findIn K (.ref CCourse) "needs"=some none)
  (nfCourse3:PySem.W.findIn K (.ref CCourse) "puts"=some none)
  (nfCourse4:PySem.W.findIn K (.ref CCourse) "before"=some none)
  (a18:PySem.W.findIn K (.ref CCourse) "__init__"=some (some (.ref f18))) (i18:PySem.W.isFn K (.ref f18)=true) (l18:K.lookup f18=some ⟨oc18,od18,.func (PySem.W.fnOf "__init__" "Course.__init__" (aZ cG) (aM cG) (ay cG) .none kV18 dc18 pm18 an18 cd18 ct18),sl18⟩) (c18:PySem.W.codeIn K cd18 "Course.__init__"=true) (k18:PySem.W.keepIn K (.ref f18)=true)
  (a19:PySem.W.findIn K (.ref CCourse) "note_look"=some (some (.ref f19))) (i19:PySem.W.isFn K (.ref f19)=true) (l19:K.lookup f19=some ⟨oc19,od19,.func (PySem.W.fnOf "note_look" "Course.note_look" (aZ ba) (aM ba) (ay ba) .none kV19 dc19 pm19 an19 cd19 ct19),sl19⟩) (c19:PySem.W.codeIn K cd19 "Course.note_look"=true) (k19:PySem.W.keepIn K (.ref f19)=true)
  (a20:PySem.W.findIn K (.ref CCourse) "enter"=some (some (.ref f20))) (i20:PySem.W.isFn K (.ref f20)=true) (l20:K.lookup f20=some ⟨oc20,od20,.func (PySem.W.fnOf "enter" "Course.enter" (aZ bX) (aM bX) (ay bX) .none kV20 dc20 pm20 an20 cd20 ct20),sl20⟩) (c20:PySem.W.codeIn K cd20 "Course.enter"=true) (k20:PySem.W.keepIn K (.ref f20)=true)
  (a21:PySem.W.findIn K (.ref CCourse) "follow"=some (some (.ref f21))) (i21:PySem.W.isFn K (.ref f21)=true) (l21:K.lookup f21=some ⟨oc21,od21,.func (PySem.W.fnOf "follow" "Course.follow" (aZ bO) (aM bO) (ay bO) .none kV21 dc21 pm21 an21 cd21 ct21),sl21⟩) (c21:PySem.W.codeIn K cd21 "Course.follow"=true) (k21:PySem.W.keepIn K (.ref f21)=true)
  (z22:PySem.W.nsIn K mainGlobals "len"=some none)
  (z23:PySem.W.nsIn K mainGlobals "isinstance"=some none)
  (z24:PySem.W.nsIn K mainGlobals "int"=some none)
  (z25:PySem.W.nsIn K mainGlobals "bool"=some none)
  (z26:PySem.W.nsIn K mainGlobals "str"=some none)
  (z27:PySem.W.nsIn K mainGlobals "tuple"=some none)
  (z28:PySem.W.nsIn K mainGlobals "list"=some none)
  (z29:PySem.W.nsIn K mainGlobals "range"=some none)
  (z30:PySem.W.nsIn K mainGlobals "min"=some none)
  (z31:PySem.W.nsIn K mainGlobals "sum"=some none)
  (z32:PySem.W.nsIn K mainGlobals "all"=some none)
  (z33:PySem.W.nsIn K mainGlobals "zip"=some none)
  (z34:PySem.W.nsIn K mainGlobals "sorted"=some none)
  (z35:PySem.W.nsIn K mainGlobals "dict"=some none)
  (z36:PySem.W.nsIn K mainGlobals "enumerate"=some none)
  (z37:PySem.W.nsIn K mainGlobals "any"=some none)
  (z38:PySem.W.nsIn K mainGlobals "max"=some none)
  (z39:PySem.W.nsIn K mainGlobals "set"=some none) :
  ∃fd:FuncData,(∀(s:Shared) (v:Value),BindsTo s fd ⟨[v],[]⟩ [("script",v)])/\∀base:Heap,K.In base->base.Ns mainGlobals mg->kM l.prog w K mg base CX0 5 fa fd ["script"] (wK K):=by
 have e:=hfa.symm.trans (PySem.W.mg_of X G a17)
 cases e
 have F__law_take:=cM (st:=cT) l1 c1 k1
 have D__law_take:Def K mg "_law_take" cT ["pen","many"]:=⟨_,_,F__law_take,F__law_take.binds (ps:=["pen","many"]) fun _ _ _ _ _ _=>eK fun _=>eK fun _=>kZ rfl,PySem.W.mg_of X G a1⟩
 have F__law_world:=cM (st:=b6) l2 c2 k2
 have D__law_world:Def K mg "_law_world" b6 ["pen"]:=⟨_,_,F__law_world,F__law_world.binds (ps:=["pen"]) fun _ _ _ _ _ _=>eK fun _=>kZ rfl,PySem.W.mg_of X G a2⟩
 have F__law_state:=cM (st:=b8) l3 c3 k3
 have D__law_state:Def K mg "_law_state" b8 ["pen","world"]:=⟨_,_,F__law_state,F__law_state.binds (ps:=["pen","world"]) fun _ _ _ _ _ _=>eK fun _=>eK fun _=>kZ rfl,PySem.W.mg_of X G a3⟩
 have F__law_names:=cM (st:=cf) l4 c4 k4
 have D__law_names:Def K mg "_law_names" cf ["pen","many"]:=⟨_,_,F__law_names,F__law_names.binds (ps:=["pen","many"]) fun _ _ _ _ _ _=>eK fun _=>eK fun _=>kZ rfl,PySem.W.mg_of X G a4⟩
 have F__law_put_in:=cM (st:=bU) l5 c5 k5
 have D__law_put_in:Def K mg "_law_put_in" bU ["state","puts"]:=⟨_,_,F__law_put_in,F__law_put_in.binds (ps:=["state","puts"]) fun _ _ _ _ _ _=>eK fun _=>eK fun _=>kZ rfl,PySem.W.mg_of X G a5⟩
 have F__law_event:=cM (st:=cg) l6 c6 k6
 have D__law_event:Def K mg "_law_event" cg ["pen","world","a","seen","puts","now"]:=⟨_,_,F__law_event,F__law_event.binds (ps:=["pen","world","a","seen","puts","now"]) fun _ _ _ _ _ _=>eK fun _=>eK fun _=>eK fun _=>eK fun _=>eK fun _=>eK fun _=>kZ rfl,PySem.W.mg_of X G a6⟩
 have F__law_log:=cM (st:=dk) l7 c7 k7
 have D__law_log:Def K mg "_law_log" dk ["pen","world","state","most","size"]:=⟨_,_,F__law_log,F__law_log.binds (ps:=["pen","world","state","most","size"]) fun _ _ _ _ _ _=>eK fun _=>eK fun _=>eK fun _=>eK fun _=>eK fun _=>kZ rfl,PySem.W.mg_of X G a7⟩
 have F__law_begun:=cM (st:=cm) l8 c8 k8
 have D__law_begun:Def K mg "_law_begun" cm ["log"]:=⟨_,_,F__law_begun,F__law_begun.binds (ps:=["log"]) fun _ _ _ _ _ _=>eK fun _=>kZ rfl,PySem.W.mg_of X G a8⟩
 have F__law_end:=cM (st:=dq) l9 c9 k9
 have D__law_end:Def K mg "_law_end" dq ["log","a"]:=⟨_,_,F__law_end,F__law_end.binds (ps:=["log","a"]) fun _ _ _ _ _ _=>eK fun _=>eK fun _=>kZ rfl,PySem.W.mg_of X G a9⟩
 have F__law_times:=cM (st:=b7) l10 c10 k10
 have D__law_times:Def K mg "_law_times" b7 ["log"]:=⟨_,_,F__law_times,F__law_times.binds (ps:=["log"]) fun _ _ _ _ _ _=>eK fun _=>kZ rfl,PySem.W.mg_of X G a10⟩
 have F__law_same:=cM (st:=cU) l11 c11 k11
 have D__law_same:Def K mg "_law_same" cU ["found","due"]:=⟨_,_,F__law_same,F__law_same.binds (ps:=["found","due"]) fun _ _ _ _ _ _=>eK fun _=>eK fun _=>kZ rfl,PySem.W.mg_of X G a11⟩
 have F_course_of:=cM (st:=cS) l12 c12 k12
 have D_course_of:Def K mg "course_of" cS ["log"]:=⟨_,_,F_course_of,F_course_of.binds (ps:=["log"]) fun _ _ _ _ _ _=>eK fun _=>kZ rfl,PySem.W.mg_of X G a12⟩
 have F_attempts:=cM (st:=dh) l13 c13 k13
 have D_attempts:Def K mg "attempts" dh ["log"]:=⟨_,_,F_attempts,F_attempts.binds (ps:=["log"]) fun _ _ _ _ _ _=>eK fun _=>kZ rfl,PySem.W.mg_of X G a13⟩
 have F_end_of:=cM (st:=fg) l14 c14 k14
 have D_end_of:Def K mg "end_of" fg ["log","a"]:=⟨_,_,F_end_of,F_end_of.binds (ps:=["log","a"]) fun _ _ _ _ _ _=>eK fun _=>eK fun _=>kZ rfl,PySem.W.mg_of X G a14⟩
 have F_ahead:=cM (st:=gJ) l15 c15 k15
 have D_ahead:Def K mg "ahead" gJ ["log"]:=⟨_,_,F_ahead,F_ahead.binds (ps:=["log"]) fun _ _ _ _ _ _=>eK fun _=>kZ rfl,PySem.W.mg_of X G a15⟩
 have F__law_pen:=cM (st:=dj) l16 c16 k16
 have D__law_pen:Def K mg "_law_pen" dj ["script"]:=⟨_,_,F__law_pen,F__law_pen.binds (ps:=["script"]) fun _ _ _ _ _ _=>eK fun _=>kZ rfl,PySem.W.mg_of X G a16⟩
 have F_law:=cM (st:=kO) l17 c17 k17
 have D_law:Def K mg "law" kO ["script"]:=⟨_,_,F_law,F_law.binds (ps:=["script"]) fun _ _ _ _ _ _=>eK fun _=>kZ rfl,PySem.W.mg_of X G a17⟩
 have TCourse:TC K (⟨CCourse,["ends","looks","needs","puts","before"]⟩:Cl) ["ends","looks","needs","puts","before"]:=⟨⟨pgCourse,hdCourse,poCourse,saCourse⟩,rfl,fun f hf=>by
  simp only[List.mem_cons,List.not_mem_nil,or_false]at hf
  rcases hf with rfl|rfl|rfl|rfl|rfl
  ·exact nfCourse0
  ·exact nfCourse1
  ·exact nfCourse2
  ·exact nfCourse3
  ·exact nfCourse4⟩
 have mgC_Course:=PySem.W.mg_of X G aCCourse
 have F_Course_init:=cM (st:=cG) l18 c18 k18
 have bi_Course_init:=F_Course_init.binds (ps:=["self"]) fun _ _ _ _ _ _=>eK fun _=>kZ rfl
 have mk_Course:Mk K (⟨CCourse,["ends","looks","needs","puts","before"]⟩:Cl).C f18:=⟨mkCourse,a18,i18,kcCourse⟩
 have F_Course_note_look:=cM (st:=ba) l19 c19 k19
 have bi_Course_note_look:=F_Course_note_look.binds (ps:=["self","a","box","number"]) fun _ _ _ _ _ _=>eK fun _=>eK fun _=>eK fun _=>eK fun _=>kZ rfl
 have mt_Course_note_look:v8 K (⟨CCourse,["ends","looks","needs","puts","before"]⟩:Cl).C "note_look" f19:=⟨a19,i19,k19⟩
 have F_Course_enter:=cM (st:=bX) l20 c20 k20
 have bi_Course_enter:=F_Course_enter.binds (ps:=["self","a"]) fun _ _ _ _ _ _=>eK fun _=>eK fun _=>kZ rfl
 have mt_Course_enter:v8 K (⟨CCourse,["ends","looks","needs","puts","before"]⟩:Cl).C "enter" f20:=⟨a20,i20,k20⟩
 have F_Course_follow:=cM (st:=bO) l21 c21 k21
 have bi_Course_follow:=F_Course_follow.binds (ps:=["self","event"]) fun _ _ _ _ _ _=>eK fun _=>eK fun _=>kZ rfl
 have mt_Course_follow:v8 K (⟨CCourse,["ends","looks","needs","puts","before"]⟩:Cl).C "follow" f21:=⟨a21,i21,k21⟩
 have B:Blt mg:=⟨PySem.W.mg_none_of X G z22,PySem.W.mg_none_of X G z23,PySem.W.mg_none_of X G z24,PySem.W.mg_none_of X G z25,PySem.W.mg_none_of X G z26,PySem.W.mg_none_of X G z27,PySem.W.mg_none_of X G z28,PySem.W.mg_none_of X G z29,PySem.W.mg_none_of X G z30,PySem.W.mg_none_of X G z31,PySem.W.mg_none_of X G z32,PySem.W.mg_none_of X G z33,PySem.W.mg_none_of X G z34,PySem.W.mg_none_of X G z35,PySem.W.mg_none_of X G z36,PySem.W.mg_none_of X G z37,PySem.W.mg_none_of X G z38,PySem.W.mg_none_of X G z39⟩
 refine⟨PySem.W.fnOf "law" "law" (aZ kO) (aM kO) (ay kO) .none kV17 dc17 pm17 an17 cd17 ct17,fun s v=>.of_eq rfl,fun base _ _=>?_⟩
 have Gp:=Ba (P:=l.prog) (w:=w) (base:=base) (k:=0) B D__law_pen
 have aE:=px (P:=l.prog) (w:=w) (base:=base) (k:=0) D__law_take B 
 have gh:=nT (P:=l.prog) (w:=w) (base:=base) (k:=1) D__law_world B aE
 have gk:=nV (P:=l.prog) (w:=w) (base:=base) (k:=1) D__law_state B aE
 have gm:=nW (P:=l.prog) (w:=w) (base:=base) (k:=1) D__law_names B aE
 have fD:=mP (P:=l.prog) (w:=w) (base:=base) (k:=0) D__law_put_in B 
 have gn:=nX (P:=l.prog) (w:=w) (base:=base) (k:=1) D__law_event B aE
 have iZ:=sg (P:=l.prog) (w:=w) (base:=base) (k:=2) D__law_log B gm (Has.mono aE (by decide)) gn (Has.mono fD (by decide))
 have eE:=nY (P:=l.prog) (w:=w) (base:=base) (k:=0) D__law_begun B 
 have i4:=sh (P:=l.prog) (w:=w) (base:=base) (k:=0) D__law_end B 
 have gj:=nU (P:=l.prog) (w:=w) (base:=base) (k:=0) D__law_times B 
 have oJ:eL l.prog w K mg base "_law_same" 1 ["found","due"] (fc 1):=gP (P:=l.prog) (w:=w) (base:=base) (k:=0) D__law_same B (D__law_same.no)
 have oI:eL l.prog w K mg base "_law_same" 2 ["found","due"] (fc 2):=gP (P:=l.prog) (w:=w) (base:=base) (k:=1) D__law_same B oJ
 have oH:eL l.prog w K mg base "_law_same" 3 ["found","due"] (fc 3):=gP (P:=l.prog) (w:=w) (base:=base) (k:=2) D__law_same B oI
 have M_Course_note_look:=iG (P:=l.prog) (w:=w) (base:=base) (k:=0) F_Course_note_look bi_Course_note_look mt_Course_note_look B TCourse
 have M_Course_enter:=kR (P:=l.prog) (w:=w) (base:=base) (k:=0) F_Course_enter bi_Course_enter mt_Course_enter B TCourse
 have M_Course_follow:=j8 (P:=l.prog) (w:=w) (base:=base) (k:=1) F_Course_follow bi_Course_follow mt_Course_follow B TCourse M_Course_enter M_Course_note_look
 have M_Course_init:=mQ (P:=l.prog) (w:=w) (base:=base) (k:=0) F_Course_init bi_Course_init mk_Course mgC_Course B TCourse
 have bW:=pq (P:=l.prog) (w:=w) (base:=base) (k:=1) D_course_of B TCourse M_Course_follow M_Course_init
 have iY:=sf (P:=l.prog) (w:=w) (base:=base) (k:=3) D_attempts B TCourse bW
 have m9:=xY (P:=l.prog) (w:=w) (base:=base) (k:=3) D_end_of B TCourse bW
 have pW:=Bb (P:=l.prog) (w:=w) (base:=base) (k:=3) D_ahead B TCourse bW
 exact Hj (P:=l.prog) (w:=w) (base:=base) (k:=4) F_law B (Has.mono Gp (by decide)) (Has.mono gh (by decide)) (Has.mono iZ (by decide)) (Has.mono gk (by decide)) iY pW (Has.mono oH (by decide)) (Has.mono eE (by decide)) (Has.mono gj (by decide)) (Has.mono i4 (by decide)) m9 fun ns a c ha hc=>Ec (c:=⟨CCourse,_⟩) rfl ns a c ha hc
theorem IS{l:PySem.W.OpenLaw}{q:Program}{loose:List Str}{XP:(Str->Option Value)->Heap->Prop}{YP:World->Heap->Prop}{d:DefRec}{K:Params->PySem.W.Frag}(hn:l.most=some 63)(hdf:d.params.defaults=[])
  (hY:∀(w:World) (h:Heap),YP w h->(K w.params).In h)
  (F:∀(w:World) (mg:Str->Option Value) (fa:Addr) (h:Heap),(K w.params).In h->h.Ns mainGlobals mg->mg d.name=some (.ref fa)->
   ∃fd:FuncData,(∀(s:Shared) (u:Value),BindsTo s fd ⟨[u],[]⟩ [("script",u)])/\∀base:Heap,(K w.params).In base->base.Ns mainGlobals mg->kM l.prog w (K w.params) mg base CX0 5 fa fd ["script"] (wK (K w.params))) :
  PySem.W.WalkO q loose XP YP l.row.toRowW d [] (fun f vs=>PySem.call f vs):=
 L2.zZ (n:=63) (k:=5) (x:="script") (CX:=fun _=>CX0) (sp:=fun w=>wK (K w.params)) hn (by decide) hdf ⟨rfl,by decide,by decide,rfl⟩ hY F (fun _ _ a ns hl _ hS=>⟨a,ns,rfl,hS,hl,fun _=>rfl⟩) fun _ _ _ _ _ z=>z
end OL
namespace PySem.W.Fast
def tw10156022888958762503:=0
def tw15155631297832480871:=0
def tw977469166814261163:=0
def tw8094347350457140402:=0
def tw9492738876187876113:=0
def tw12733246047893509313:=0
def tw4633439293260754163:=0
def tw15072609997498368759:=0
def tw14710674697756243625:=0
def tw14629497420736080789:=0
def tw4891579676160344646:=0
def tw12681828918486567227:=0
def tw13240947307026990818:=0
def tw7722681165097511387:=0
def tw12827040536609071908:=0
def tw11365554599011421742:=0
def tw12661940530619552874:=0
def tw8502867146134922137:=0
def tw17313690384058565657:=0
def tw6868887892714526129:=0
def tw10381942546197104365:=0
def tw4223919611291373709:=0
def tw6082880264130200207:=0
def tw17174749533633293114:=0
def tw9123916192259184132:=0
def tw9398062868223894595:=0
def tw10313009127666912855:=0
def tw3669640338955891813:=0
def tw6138697824515105208:=0
def tw10148651312663334900:=0
def tw5993674746368314776:=0
def tw8156970505264414632:=0
def tw11246410556466611827:=0
def tw15690154720137551519:=0
def tw1894535931968222912:=0
def tw18034175100308179138:=0
def tw4185252457091309219:=0
def tw16075554556629634596:=0
def tw10799861924644607209:=0
def tw824348901112483130:=0
def tw3032514655165729797:=0
def tw11108764190294147625:=0
def tw14752094193251096555:=0
def tw12553621851499421083:=0
def tw10576389018526994058:=0
def tw5877411771806629846:=0
def tw6208002225458162302:=0
def tw345127395617161970:=0
def tw4498318774271088176:=0
def tw17036982594400185266:=0
def tw5322464214526610135:=0
def tw9917525681185696515:=0
def tw2863885014750638108:=0
def tw5847563829077686386:=0
def tw17632721447722392979:=0
def tw5296451118530994825:=0
def tw12260624675174217964:=0
def tw18112304023814588472:=0
def tw8362659403425738681:=0
def tw4274032208822915731:=0
def tw3549904962807989837:=0
def tw18181887682912208253:=0
def tw5870438359403064895:=0
def tw10641403282181353176:=0
def tw7898704338970615431:=0
def tw2770528746462562258:=0
def tw11983209460995891023:=0
def tw17886703519820142146:=0
def tw1290001148995566324:=0
def tw7138825049120019066:=0
def tw14862898780593809790:=0
def tw2704715631647031317:=0
def tw14122522654329909338:=0
def tw5691043988710161843:=0
def tw5249122876338195573:=0
def tw12798612254131513197:=0
def tw12156870705434702687:=0
def tw4451424769248236870:=0
def tw354379776297671536:=0
def tw12715318864996942397:=0
def tw9645167694952845719:=0
def tw3560170818002857566:=0
def tw3125099264370110025:=0
def tw17015326954331286416:=0
def tw9345243618414812682:=0
def tw13154648306422362841:=0
def tw9304294317398044995:=0
def tw14660652791633349677:=0
def tw6766172526736244903:=0
def tw6300679167589871781:=0
def tw7710890534180058900:=0
def tw16569556140146424091:=0
def tw9661556925547314566:=0
def tw8232622494880927534:=0
def tw3698976491113330290:=0
def tw10806351466577197903:=0
def tw2647852906663881746:=0
def tw3938957937413055576:=0
def tw6712044772113118077:=0
def tw17170267925510257305:=0
def tw6411204587083215437:=0
def tw8102909176080717238:=0
def tw2167038336180108591:=0
def tw2718129299612440772:=0
def tw4544989611874016632:=0
end PySem.W.Fast
open PySem PySem.W PyProof.Rows
set_option maxRecDepth 100000 in
set_option maxHeartbeats 0 in
theorem PySem.Challenge.cw_oneglance_k12_attempts_and_times_holds : PySem.Challenge.rw_oneglance_k12_attempts_and_times.Holds := by
 w_on; o_law; k_head; (case hw => w_witness2)
 k_fill
 refine OL.IS (l := PySem.Challenge.rw_oneglance_k12_attempts_and_times) rfl rfl (fun w h Y => PySem.W.kIn_of Y) ?F
 case F =>
  intro w mg fa h KX G hmg
  refine' OL.ET KX G hmg ?a1 ?l1 ?c1 ?k1 ?a2 ?l2 ?c2 ?k2 ?a3 ?l3 ?c3 ?k3 ?a4 ?l4 ?c4 ?k4 ?a5 ?l5 ?c5 ?k5 ?a6 ?l6 ?c6 ?k6 ?a7 ?l7 ?c7 ?k7 ?a8 ?l8 ?c8 ?k8 ?a9 ?l9 ?c9 ?k9 ?a10 ?l10 ?c10 ?k10 ?a11 ?l11 ?c11 ?k11 ?a12 ?l12 ?c12 ?k12 ?a13 ?l13 ?c13 ?k13 ?a14 ?l14 ?c14 ?k14 ?a15 ?l15 ?c15 ?k15 ?a16 ?l16 ?c16 ?k16 ?a17 ?l17 ?c17 ?k17 ?aCCourse ?pgCourse ?hdCourse ?poCourse ?saCourse ?mkCourse ?kcCourse ?nfCourse0 ?nfCourse1 ?nfCourse2 ?nfCourse3 ?nfCourse4 ?a18 ?i18 ?l18 ?c18 ?k18 ?a19 ?i19 ?l19 ?c19 ?k19 ?a20 ?i20 ?l20 ?c20 ?k20 ?a21 ?i21 ?l21 ?c21 ?k21 ?z22 ?z23 ?z24 ?z25 ?z26 ?z27 ?z28 ?z29 ?z30 ?z31 ?z32 ?z33 ?z34 ?z35 ?z36 ?z37 ?z38 ?z39
  (case a1 => k_is)
  (case l1 => k_is)
  (case c1 => k_is)
  (case k1 => k_is)
  (case a2 => k_is)
  (case l2 => k_is)
  (case c2 => k_is)
  (case k2 => k_is)
  (case a3 => k_is)
  (case l3 => k_is)
  (case c3 => k_is)
  (case k3 => k_is)
  (case a4 => k_is)
  (case l4 => k_is)
  (case c4 => k_is)
  (case k4 => k_is)
  (case a5 => k_is)
  (case l5 => k_is)
  (case c5 => k_is)
  (case k5 => k_is)
  (case a6 => k_is)
  (case l6 => k_is)
  (case c6 => k_is)
  (case k6 => k_is)
  (case a7 => k_is)
  (case l7 => k_is)
  (case c7 => k_is)
  (case k7 => k_is)
  (case a8 => k_is)
  (case l8 => k_is)
  (case c8 => k_is)
  (case k8 => k_is)
  (case a9 => k_is)
  (case l9 => k_is)
  (case c9 => k_is)
  (case k9 => k_is)
  (case a10 => k_is)
  (case l10 => k_is)
  (case c10 => k_is)
  (case k10 => k_is)
  (case a11 => k_is)
  (case l11 => k_is)
  (case c11 => k_is)
  (case k11 => k_is)
  (case a12 => k_is)
  (case l12 => k_is)
  (case c12 => k_is)
  (case k12 => k_is)
  (case a13 => k_is)
  (case l13 => k_is)
  (case c13 => k_is)
  (case k13 => k_is)
  (case a14 => k_is)
  (case l14 => k_is)
  (case c14 => k_is)
  (case k14 => k_is)
  (case a15 => k_is)
  (case l15 => k_is)
  (case c15 => k_is)
  (case k15 => k_is)
  (case a16 => k_is)
  (case l16 => k_is)
  (case c16 => k_is)
  (case k16 => k_is)
  (case a17 => k_is)
  (case l17 => k_is)
  (case c17 => k_is)
  (case k17 => k_is)
  (case aCCourse => k_is)
  (case pgCourse => k_is)
  (case hdCourse => k_is)
  (case poCourse => k_is)
  (case saCourse => k_is)
  (case mkCourse => k_is)
  (case kcCourse => k_is)
  (case nfCourse0 => k_is)
  (case nfCourse1 => k_is)
  (case nfCourse2 => k_is)
  (case nfCourse3 => k_is)
  (case nfCourse4 => k_is)
  (case a18 => k_is)
  (case i18 => k_is)
  (case l18 => k_is)
  (case c18 => k_is)
  (case k18 => k_is)
  (case a19 => k_is)
  (case i19 => k_is)
  (case l19 => k_is)
  (case c19 => k_is)
  (case k19 => k_is)
  (case a20 => k_is)
  (case i20 => k_is)
  (case l20 => k_is)
  (case c20 => k_is)
  (case k20 => k_is)
  (case a21 => k_is)
  (case i21 => k_is)
  (case l21 => k_is)
  (case c21 => k_is)
  (case k21 => k_is)
  (case z22 => k_is)
  (case z23 => k_is)
  (case z24 => k_is)
  (case z25 => k_is)
  (case z26 => k_is)
  (case z27 => k_is)
  (case z28 => k_is)
  (case z29 => k_is)
  (case z30 => k_is)
  (case z31 => k_is)
  (case z32 => k_is)
  (case z33 => k_is)
  (case z34 => k_is)
  (case z35 => k_is)
  (case z36 => k_is)
  (case z37 => k_is)
  (case z38 => k_is)
  (case z39 => k_is)
