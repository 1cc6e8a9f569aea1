import PyProof.Rows.All
import Wide.All
import OpenK.AllK
import Wide.FinOn
import Lean
import PyProof.EqAt
import PyProof.EqKinds
import PyProof.TupleCall
import PySem.Challenge.RW_oneglance_k27_musts_told
set_option maxHeartbeats 4000000
set_option Elab.async false
set_option linter.all false
set_option maxRecDepth 100000
noncomputable section
namespace L2
open PySem PySem.Spec PyProof.Rows
abbrev Key:=Sum Int Str
def lD:Key->Value->Bool
 |.inl k,v=>Value.isInt k v
 |.inr x,v=>Value.isStrOf x v
def Hj(w:World):Key->Int
 |.inl k=>hashInt k
 |.inr x=>hashStr w x
theorem bg:∀{k:Key} {v:Value},lD k v=true->(∃i t,k=Sum.inl i/\v=Value.int i t)\/(∃x t,k=Sum.inr x/\v=Value.str x t)
 |.inl i,v,h=>by
  obtain⟨t,e⟩:=Value.isInt_shape (k:=i) (v:=v) h
  exact .inl ⟨i,t,rfl,e⟩
 |.inr x,v,h=>by
  obtain⟨t,e⟩:=Value.isStrOf_shape (x:=x) (v:=v) h
  exact .inr ⟨x,t,rfl,e⟩
theorem rS(i:Int)(t:Tok):lD (.inl i) (.int i t)=true:=by simp[lD,Value.isInt]
theorem rR(x:Str)(t:Tok):lD (.inr x) (.str x t)=true:=by simp[lD,Value.isStrOf]
theorem CV(a b:Int):decide ((Sum.inl a:Key)=Sum.inl b)=(a == b):=by
 by_cases e:a=b
 ·subst e;simp
 ·have h:¬(Sum.inl a:Key)=Sum.inl b:=fun q=>e (Sum.inl.inj q)
  rw[decide_eq_false h]
  exact(beq_eq_false_iff_ne.mpr e).symm
theorem CP(a b:Str):decide ((Sum.inr a:Key)=Sum.inr b)=decide (a=b):=by
 by_cases e:a=b
 ·subst e;simp
 ·have h:¬(Sum.inr a:Key)=Sum.inr b:=fun q=>e (Sum.inr.inj q)
  rw[decide_eq_false h,decide_eq_false e]
theorem CU(a:Int)(b:Str):decide ((Sum.inl a:Key)=Sum.inr b)=false:=decide_eq_false (fun q=>nomatch q)
theorem CQ(a:Str)(b:Int):decide ((Sum.inr a:Key)=Sum.inl b)=false:=decide_eq_false (fun q=>nomatch q)
def ba(prog:Program)(w:World):PySem.KeyKind prog w Key where
 is:=lD
 hash:=Hj w
 inj:=fun v a b ha hb=>by
  rcases bg ha with⟨i,t,rfl,rfl⟩|⟨x,t,rfl,rfl⟩
  ·rcases bg hb with⟨j,u,rfl,e⟩|⟨y,u,rfl,e⟩
   ·injection e with e1 _;rw[e1]
   ·exact nomatch e
  ·rcases bg hb with⟨j,u,rfl,e⟩|⟨y,u,rfl,e⟩
   ·exact nomatch e
   ·injection e with e1 _;rw[e1]
 byValue:=fun k v h=>by
  rcases bg h with⟨i,t,rfl,rfl⟩|⟨x,t,rfl,rfl⟩<;>rfl
 pyHash:=fun hv h=>by
  rcases bg hv with⟨i,t,rfl,rfl⟩|⟨x,t,rfl,rfl⟩
  ·exact wpAny_pyHash_int h
  ·exact wpAny_pyHash_str h
 eqBool:=fun hu hv h=>by
  rcases bg hu with⟨i,t,rfl,rfl⟩|⟨x,t,rfl,rfl⟩
  ·rcases bg hv with⟨j,u,rfl,rfl⟩|⟨y,u,rfl,rfl⟩
   ·rw[CV]at h;exact wpAny_eqBool_int h
   ·rw[CU]at h;exact SeqAt.EqAt.int_str i t y u _ _ _ _ h
  ·rcases bg hv with⟨j,u,rfl,rfl⟩|⟨y,u,rfl,rfl⟩
   ·rw[CQ]at h;exact SeqAt.EqAt.str_int x t j u _ _ _ _ h
   ·rw[CP]at h;exact wpAny_eqBool_str h
 «strs»:=fun k x t v h=>by
  rcases bg h with⟨i,u,rfl,e⟩|⟨y,u,rfl,e⟩
  ·exact nomatch e
  ·injection e with e1 _
   subst e1
   cases v<;>rfl
theorem mJ(prog:Program)(w:World)(i:Int)(t:Tok):(ba prog w).is (.inl i) (.int i t)=true:=rS i t
theorem mI(prog:Program)(w:World)(x:Str)(t:Tok):(ba prog w).is (.inr x) (.str x t)=true:=rR x t
inductive V where
 |non|bl (b:Bool)|int (i:Int)|str (x:Str)|byt (b:Array UInt8)|flt (b:UInt64)|ref (a:Addr)|ty (n:String)
 deriving DecidableEq
def bu:V->Value->Prop
 |.non,u=>u=Value.none
 |.bl b,u=>u=Value.bool b
 |.int i,u=>∃t,u=Value.int i t
 |.str x,u=>∃t,u=Value.str x t
 |.byt b,u=>∃t,u=Value.bytes b t
 |.flt b,u=>∃t,u=Value.float b t
 |.ref a,u=>u=Value.ref a
 |.ty n,u=>u=Value.type n
abbrev aV:List V->List Value->Prop:=Paired bu
theorem aV.length{xs:List V}{us:List Value}(r:aV xs us):xs.length=us.length:=Paired.length r
theorem aV.get:∀{xs:List V} {us:List Value} {i:Nat} {x:V},aV xs us->xs[i]?=some x->∃u,us[i]?=some u/\bu x u
 |_,_,_,_,.nil,e=>by simp at e
 |_,_,0,_,.cons r _,e=>by simp at e;subst e;exact⟨_,rfl,r⟩
 |_,_,i+1,x,.cons _ t,e=>by
  obtain⟨u,h1,h2⟩:=aV.get (i:=i) (x:=x) t (by simpa using e)
  exact⟨u,by simpa using h1,h2⟩
theorem aV.set{x:V}{u:Value}(r:bu x u):∀{xs:List V} {us:List Value} (i:Nat),aV xs us->aV (xs.set i x) (us.set i u)
 |_,_,_,.nil=>.nil
 |_,_,0,.cons _ t=>.cons r t
 |_,_,i+1,.cons q t=>.cons q (aV.set r i t)
theorem aV.append:∀{xs ys:List V} {us ws:List Value},aV xs us->aV ys ws->aV (xs++ys) (us++ws)
 |_,_,_,_,.nil,s=>s
 |_,_,_,_,.cons r t,s=>.cons r (aV.append t s)
theorem aV.take:∀{xs:List V} {us:List Value} (n:Nat),aV xs us->aV (xs.take n) (us.take n)
 |_,_,0,_=>.nil
 |_,_,_+1,.nil=>.nil
 |_,_,n+1,.cons r t=>.cons r (aV.take n t)
theorem aV.drop:∀{xs:List V} {us:List Value} (n:Nat),aV xs us->aV (xs.drop n) (us.drop n)
 |_,_,0,r=>r
 |_,_,_+1,.nil=>.nil
 |_,_,n+1,.cons _ t=>aV.drop n t
def pR:Option V->Option Value->Prop
 |some v,some u=>bu v u
 |none,none=>True
 |_,_=>False
def KV{κ:Type}:List (κ×V)->List (κ×Value)->Prop:=Paired fun(p:κ×V) (q:κ×Value)=>p.1=q.1/\bu p.2 q.2
def kV:Key->V
 |.inl i=>.int i
 |.inr x=>.str x
inductive HO where
 |lst (xs:List V)
 |tup (xs:List V)
 |dK (kvs:List (Key×V))|dT (kvs:List (List Key×V))
 |set (S:Int->Bool) (n:Nat)
 |ins (C dx:Addr) (fs:List (Str×V))
 |own (x:Addr)
 |xd (fs:List (Str×V))
 |met (f x:Addr)
 |rng (lo hi:Int)
 |frz (o:Obj) (u:HO)
 |tbl (ps:Array Value)
 |ext (φ:Heap->Prop)
abbrev Hp:=Addr->Option HO
def upd(H:Hp)(a:Addr)(o:HO):Hp:=fun b=>if b=a then some o else H b
theorem aH{H:Hp}{a:Addr}{o:HO}:upd H a o a=some o:=by unfold upd;rw[if_pos rfl]
theorem aJ{H:Hp}{a b:Addr}{o:HO}(h:b≠a):upd H a o b=H b:=by unfold upd;rw[if_neg h]
theorem FD{H:Hp}{a b:Addr}{o u:HO}(h:H a=some o)(h':H b=some u)(d:o≠u):a≠b:=by
 intro e;subst e;rw[h]at h';exact d (Option.some.inj h')
theorem bB{H:Hp}{a b:Addr}{o:HO}(h:H a=some o)(h':H b=none):a≠b:=by
 intro e;subst e;rw[h]at h';cases h'
section
variable(P:Program)(w:World)
def bt(H:Hp)(h:Heap)(a:Addr):HO->Prop
 |.lst xs=>xs.length<=sizeLine/\∃(its:List Value) (n:Nat),aV xs its/\h.get? a=some { cls:=.type "list",data:=.seq its.toArray n }
 |.tup xs=>xs.length<=sizeLine/\∃its:List Value,aV xs its/\IsTup h a its.toArray
 |.dK kvs=>kvs.length<=sizeLine/\(a == sysModules)=false/\∃vs,KV kvs vs/\h.DictOf (ba P w) a vs
 | .dT kvs=>kvs.length<=sizeLine/\(a == sysModules)=false/\∃xs:List (List Key×Addr×Value),
   Paired (fun(p:List Key×V) (q:List Key×Addr×Value)=>p.1=q.1/\H q.2.1=some (.tup (p.1.map kV))/\bu p.2 q.2.2) kvs xs/\
   ∃o es ep,h.get? a=some o/\o.ExactDict/\o.data=.dict es ep/\es.toList=xs.map (entryOfKey (tupleKind (ba P w)))/\(xs.map (·.1)).Nodup
 |.set S n=>h.SetOf (intKind P w) a S n
 | .ins C dx fs=>H dx=some (.own a)/\fs.length<=1000/\dx≠a/\h.get? a=some (PySem.W.instObj C dx)/\
   ∃mA,h.Ns1 dx mA/\(∀f,pR (fs.lookup f) (mA f))/\PySem.Within mA (fs.map (·.1))
 |.own _=>∃o,h.get? a=some o
 |.xd fs=>∃mA,h.Ns1 a mA/\∀f,pR (fs.lookup f) (mA f)
 |.rng lo hi=>∃t u v,h.get? a=some { cls:=.type "range",data:=.fields #[.int lo t,.int hi u,.int 1 v] }
 |.frz o u=>h.get? a=some o/\bt H h a u
 |.tbl ps=>h.get? a=some { cls:=.none,data:=.fields ps }
 |.met f x=>h.get? a=some (PySem.W.methodObj (.ref f) (.ref x))
 |.ext φ=>φ h/\(∃o,h.get? a=some o)/\∀h1 h2:Heap,φ h1->(∀o,h1.get? a=some o->h2.get? a=some o)->φ h2
def HOk(H:Hp)(h:Heap):Prop:=∀a o,H a=some o->bt P w H h a o
end
section
variable{P:Program}{w:World}{H H':Hp}{h h':Heap}{a:Addr}{o:HO}
theorem bt.lt(x:bt P w H h a o):a<h.objs.size:=by
 cases o with
 |lst xs=>obtain⟨_,_,_,_,e⟩:=x;exact Heap.lt_size e
 |tup xs=>obtain⟨_,_,_,p⟩:=x;exact p.lt
 |dK kvs=>obtain⟨_,_,_,_,o,_,_,e,_⟩:=x;exact Heap.lt_size e
 |dT kvs=>obtain⟨_,_,_,_,o,_,_,e,_⟩:=x;exact Heap.lt_size e
 |set S n=>obtain⟨o,_,_,_,e,_⟩:=x;exact Heap.lt_size e
 |ins C dx fs=>obtain⟨_,_,_,e,_⟩:=x;exact Heap.lt_size e
 |own y=>obtain⟨_,e⟩:=x;exact Heap.lt_size e
 |xd fs=>obtain⟨_,⟨_,_,_,e,_⟩,_⟩:=x;exact Heap.lt_size e
 |rng lo hi=>obtain⟨_,_,_,e⟩:=x;exact Heap.lt_size e
 |frz ob u=>obtain⟨e,_⟩:=x;exact Heap.lt_size e
 |tbl ps=>exact Heap.lt_size (show h.get? a=some _ from x)
 |met f y=>exact Heap.lt_size (show h.get? a=some _ from x)
 |ext φ=>obtain⟨_,⟨_,e⟩,_⟩:=x;exact Heap.lt_size e
theorem Paired.mapP{α β:Type}{F G:α->β->Prop}:∀{l₁:List α} {l₂:List β},Paired F l₁ l₂->(∀a b,F a b->G a b)->Paired G l₁ l₂
 |_,_,.nil,_=>.nil
 |_,_,.cons r t,f=>.cons (f _ _ r) (Paired.mapP t f)
theorem bt.stay(x:bt P w H h a o)(k:∀b u,(b=a\/H b=some (.own a))->h.get? b=some u->h'.get? b=some u)
  (ho:∀b,H b=some (.own a)->H' b=some (.own a)) (ht:∀b xs,H b=some (.tup xs)->H' b=some (.tup xs)):bt P w H' h' a o:=by
 induction o with
 |lst xs=>obtain⟨z,its,n,r,e⟩:=x;exact⟨z,its,n,r,k _ _ (.inl rfl) e⟩
 |tup xs=>obtain⟨z,its,r,ob,e,c⟩:=x;exact⟨z,its,r,ob,k _ _ (.inl rfl) e,c⟩
 |dK kvs=>obtain⟨z,y,vs,r,ob,es,ep,e,c⟩:=x;exact⟨z,y,vs,r,ob,es,ep,k _ _ (.inl rfl) e,c⟩
 |dT kvs=>
  obtain⟨z,y,xs,r,ob,es,ep,e,c⟩:=x
  exact⟨z,y,xs,Paired.mapP r fun p q z=>⟨z.1,ht _ _ z.2.1,z.2.2⟩,ob,es,ep,k _ _ (.inl rfl) e,c⟩
 |set S n=>obtain⟨ob,es,ep,t,e,c⟩:=x;exact⟨ob,es,ep,t,k _ _ (.inl rfl) e,c⟩
 |ins C dx fs=>
  obtain⟨d,z,ne,e,mA,⟨od,es,ep,e2,c⟩,r⟩:=x
  exact⟨ho _ d,z,ne,k _ _ (.inl rfl) e,mA,⟨od,es,ep,k _ _ (.inr d) e2,c⟩,r⟩
 |own y=>obtain⟨ob,e⟩:=x;exact⟨ob,k _ _ (.inl rfl) e⟩
 |xd fs=>obtain⟨mA,⟨od,es,ep,e,c⟩,r⟩:=x;exact⟨mA,⟨od,es,ep,k _ _ (.inl rfl) e,c⟩,r⟩
 |rng lo hi=>obtain⟨t,u,v,e⟩:=x;exact⟨t,u,v,k _ _ (.inl rfl) e⟩
 |frz ob u ih=>obtain⟨e,q⟩:=x;exact⟨k _ _ (.inl rfl) e,ih q⟩
 |tbl ps=>
  have e:h.get? a=some { cls:=.none,data:=.fields ps }:=x
  show h'.get? a=some { cls:=.none,data:=.fields ps }
  exact k a _ (.inl rfl) e
 |met f y=>
  have e:h.get? a=some (PySem.W.methodObj (.ref f) (.ref y)):=x
  show h'.get? a=some (PySem.W.methodObj (.ref f) (.ref y))
  exact k a _ (.inl rfl) e
 |ext φ=>obtain⟨p,⟨o,e⟩,st⟩:=x;exact⟨st _ _ p fun o q=>k _ _ (.inl rfl) q,⟨o,k _ _ (.inl rfl) e⟩,st⟩
theorem HOk.lt(x:HOk P w H h)(e:H a=some o):a<h.objs.size:=(x a o e).lt
theorem HOk.fresh(x:HOk P w H h)(e:h.objs.size<=a):H a=none:=by
 cases q:H a with
 |none=>rfl
 |some u=>exact absurd (Nat.lt_of_lt_of_le (x.lt q) e) (Nat.lt_irrefl _)
theorem HOk.kept(x:HOk P w H h)(k:∀b u,h.get? b=some u->h'.get? b=some u):HOk P w H h':=fun a o e=>
 (x a o e).stay (fun b u _ q=>k b u q) (fun _ q=>q) fun _ _ q=>q
theorem HOk.laid(x:HOk P w H h)(k:∀b u,h.get? b=some u->h'.get? b=some u)(hp:h.objs.size<=a)(new:bt P w (upd H a o) h' a o):HOk P w (upd H a o) h':=fun b u e=>by
 have hn:=x.fresh hp
 by_cases hb:b=a
 ·subst hb;rw[aH]at e;cases e;exact new
 ·rw[aJ hb]at e
  exact(x b u e).stay (fun c v _ q=>k c v q) (fun c q=>by rw[aJ (bB q hn)];exact q) fun c xs q=>by rw[aJ (bB q hn)];exact q
end
def Rd(H:Hp)(a:Addr)(u:HO):Prop:=H a=some u\/∃o,H a=some (.frz o u)
theorem Rd.ok{P:Program}{w:World}{H:Hp}{h:Heap}{a:Addr}{u:HO}(r:Rd H a u)(x:HOk P w H h):bt P w H h a u:=by
 rcases r with r|⟨o,r⟩
 ·exact x a u r
 ·obtain⟨_,q⟩:=x a _ r
  exact q
def Mut:Option HO->Prop
 |some (.lst _)=>True
 |some (.dK _)=>True
 |some (.dT _)=>True
 |some (.set _ _)=>True
 |some (.ins _ _ _)=>True
 |some (.ext _)=>True
 |_=>False
section
variable{P:Program}{w:World}{H:Hp}{h h':Heap}{x e:Addr}{o':HO}
theorem HOk.write(ok:HOk P w H h)(mu:Mut (H x))(he:e=x\/H e=some (.own x))(k:∀b u,b≠e->h.get? b=some u->h'.get? b=some u)(heo:∃u,h'.get? e=some u)
  (new:bt P w (upd H x o') h' x o'):HOk P w (upd H x o') h':=fun b u q=>by
 have nown:∀c y,H c=some (.own y)->c≠x:=fun c y r z=>by subst z;rw[r]at mu;exact mu
 have ntup:∀c xs,H c=some (.tup xs)->c≠x:=fun c xs r z=>by subst z;rw[r]at mu;exact mu
 by_cases hb:b=x
 ·subst hb;rw[aH]at q;cases q;exact new
 ·rw[aJ hb]at q
  by_cases hbe:b=e
  ·have q':H b=some (.own x):=by
    rcases he with z|z
    ·exact absurd (hbe.trans z) hb
    ·rw[hbe];exact z
   rw[q]at q';cases q'
   obtain⟨v,hv⟩:=heo
   exact⟨v,by rw[hbe];exact hv⟩
  ·refine(ok b u q).stay (fun c v hc r=>k c v ?_ r) (fun c r=>by rw[aJ (nown c b r)];exact r) fun c xs r=>by rw[aJ (ntup c xs r)];exact r
   rcases hc with rfl|hc
   ·exact hbe
   ·rintro rfl
    rcases he with z|z
    ·exact nown c b hc z
    ·rw[hc]at z;cases z;exact hb rfl
end
structure Un(fs ex:List Addr)(H H':Hp)(h h':Heap):Prop where
 keep:∀b o,h.get? b=some o->H b=none->b∉fs->b∉ex->h'.get? b=some o
 slot:∀b o,h.get? b=some o->H b=none->b∈fs->b∉ex->∃sl,h'.get? b=some { o with slots:=sl }
 free:∀b o,h.get? b=some o->H b=none->b∉ex->H' b=none
 there:∀b o,h.get? b=some o->b∉ex->∃o',h'.get? b=some o'
 tups:∀b xs,H b=some (.tup xs)->H' b=some (.tup xs)
 frzs:∀b o u,H b=some (.frz o u)->H' b=some (.frz o u)
 tbls:∀b ps,H b=some (.tbl ps)->∃more,H' b=some (.tbl (ps++more))
section
variable{fs fs' ex ex':List Addr}{H H1 H2:Hp}{h h1 h2 h':Heap}{a x e:Addr}{o:HO}
theorem Un.any(u:Un fs ex H H1 h h1){b:Addr}{ob:Obj}(q:h.get? b=some ob)(n:H b=none)(hx:b∉ex):∃sl,h1.get? b=some { ob with slots:=sl }:=by
 by_cases hb:b∈fs
 ·exact u.slot b ob q n hb hx
 ·exact⟨ob.slots,u.keep b ob q n hb hx⟩
theorem Un.kept(k:∀b u,h.get? b=some u->h'.get? b=some u):Un fs ex H H h h':=
 ⟨fun b ob q _ _ _=>k b ob q,fun b ob q _ _ _=>⟨ob.slots,k b ob q⟩,fun _ _ _ n _=>n,fun b ob q _=>⟨ob,k b ob q⟩,fun _ _ q=>q,fun _ _ _ q=>q,fun _ ps q=>⟨#[],by rw[q];simp⟩⟩
theorem Un.refl:Un fs ex H H h h:=Un.kept fun _ _ q=>q
theorem Un.laid(k:∀b u,h.get? b=some u->h'.get? b=some u)(hp:h.objs.size<=a)(hn:H a=none):Un fs ex H (upd H a o) h h' where
 keep:=fun b u q _ _ _=>k b u q
 slot:=fun b u q _ _ _=>⟨u.slots,k b u q⟩
 free:=fun b u q n _=>by rw[aJ (Nat.ne_of_lt (Nat.lt_of_lt_of_le (Heap.lt_size q) hp))];exact n
 there:=fun b u q _=>⟨u,k b u q⟩
 tups:=fun b xs q=>by rw[aJ (bB q hn)];exact q
 frzs:=fun b u xs q=>by rw[aJ (bB q hn)];exact q
 tbls:=fun b ps q=>⟨#[],by rw[aJ (bB q hn),q];simp⟩
theorem Un.write(mu:Mut (H x))(he:e=x\/H e=some (.own x))(k:∀b u,b≠e->h.get? b=some u->h'.get? b=some u)(heo:∃u,h'.get? e=some u):Un fs ex H (upd H x o) h h':=by
 have hx:∀b,H b=none->b≠x:=fun b n z=>by subst z;rw[n]at mu;exact mu
 have hb:∀b,H b=none->b≠e:=fun b n z=>by
  subst z
  rcases he with r|r
  ·exact hx b n r
  ·rw[n]at r;cases r
 have hm:∀b u,H b=some u->¬Mut (some u)->b≠x:=fun b u q nm z=>by subst z;rw[q]at mu;exact nm mu
 refine⟨fun b u q n _ _=>k b u (hb b n) q,fun b u q n _ _=>⟨u.slots,k b u (hb b n) q⟩,fun b u q n _=>by rw[aJ (hx b n)];exact n,fun b u q _=>?_,
  fun b xs q=>by rw[aJ (hm b _ q fun z=>z)];exact q,fun b u xs q=>by rw[aJ (hm b _ q fun z=>z)];exact q,fun b ps q=>⟨#[],by rw[aJ (hm b _ q fun z=>z),q];simp⟩⟩
 by_cases hbe:b=e
 ·subst hbe;exact heo
 ·exact⟨u,k b u hbe q⟩
end
def trk(h:Heap)(H:Hp):List Addr:=(List.range h.objs.size).filter fun a=>(H a).isSome
def wd(h:Heap)(H:Hp):Heap:=PySem.W.hideAll h (trk h H)
theorem sj(h:Heap)(H:Hp):(wd h H).objs.size=h.objs.size:=PySem.W.hideAll_size _ _
theorem wc{h:Heap}{H:Hp}{b:Addr}{o:Obj}(e:h.get? b=some o)(n:H b=none):(wd h H).get? b=some o:=
 PySem.W.hideAll_get _ e fun hm=>by
  have q:(H b).isSome=true:=(List.mem_filter.mp hm).2
  rw[n]at q;simp at q
theorem zL{h:Heap}{H:Hp}{b:Addr}{o:Obj}(e:(wd h H).get? b=some o):h.get? b=some o/\H b=none:=by
 have e':h.get? b=some o:=PySem.W.of_hideAll (trk h H) e
 refine⟨e',?_⟩
 cases q:H b with
 |none=>rfl
 |some x=>
  have hm:b∈trk h H:=List.mem_filter.mpr ⟨List.mem_range.mpr (Heap.lt_size e'),by simp[q]⟩
  have z:(wd h H).get? b=none:=PySem.W.hideAll_none (trk h H) hm
  rw[z]at e;cases e
structure Mod(K:PySem.W.Frag)(mg:Str->Option Value)(base:Heap):Prop where
 kin:K.In base
 glob:base.Ns mainGlobals mg
 blt:∃mb,base.Ns builtinsNs mb/\∀x:Str,x≠"__name__"->mb x=bootBuiltins x
 nolimit:base.NoLimit
structure Cx where
 prog:Program
 w:World
 K:PySem.W.Frag
 mg:Str->Option Value
 base:Heap
 A:Around
 N:List Str
 s₀:Shared
 H₀:Hp
 env:Env
 outer:List Env
 stack:List Env
 ex:List Addr
 fn:Str->Bool
 calm:Bool
 pn:List (Addr×Obj)
 xe:Value->Shared->Prop
def frs(l:List Env):List Addr:=l.filterMap (·.frame)
abbrev Cx.fs(X:Cx):List Addr:=frs X.outer
def Vis(sc:Scope)(x:Str):Prop:=sc.names.lookup x=some .local\/sc.names.lookup x=some .cell\/sc.names.lookup x=some .free
def Loc(sc:Scope)(x:Str):Prop:=sc.names.lookup x=some .local\/sc.names.lookup x=some .cell
def Hr(env:Env)(h:Heap)(m:Str->Option Value)(x:Str)(u:Value):Prop:=
 (env.kindOf x=some .local/\m x=some u)\/((env.kindOf x=some .cell\/env.kindOf x=some .free)/\∃c,env.cells.lookup x=some c/\h.IsCell c (some u))
structure Cx.Ok(X:Cx):Prop where
 mod:Mod X.K X.mg X.base
 kind:X.env.scope.kind=.function
 glob:X.env.globals=mainGlobals
 blt:X.env.builtins=builtinsNs
 above:X.s₀.heap.objs.size<=X.env.locals
 inj:∀x y c,X.env.cells.lookup x=some c->X.env.cells.lookup y=some c->x=y
 has:∀x,(X.env.kindOf x=some .cell\/X.env.kindOf x=some .free)->∃c,X.env.cells.lookup x=some c
 cab:∀x c,X.fn x=true->X.env.cells.lookup x=some c->X.s₀.heap.objs.size<=c
 hd:X.calm=true->X.A.handled=none
 frames:X.A.frames=some X.stack
 stk:X.stack=X.outer\/(X.stack=X.env::X.outer/\X.env.frame=some X.env.locals)
 exf:∀b∈X.ex,b≠X.env.locals/\∀x c,X.env.cells.lookup x=some c->c≠b
 bs:∀b o,X.base.get? b=some o->X.s₀.heap.get? b=some o/\X.H₀ b=none
 bsz:X.base.objs.size<=X.s₀.heap.objs.size
 noex:∀b o,X.base.get? b=some o->b∉X.ex
 exfs:∀b∈X.ex,b∉X.fs
 funs:X.s₀.heap.FunFrames X.base X.outer
 frf:∀b∈X.fs,X.H₀ b=none
structure Inv(X:Cx)(pins:List (Addr×Obj))(σ:List (Option V))(H:Hp)(s:Shared):Prop where
 ok:X.Ok
 os:s.os=X.s₀.os
 bare:AllBare s.gens
 base:Un X.fs X.ex X.H₀ H X.s₀.heap s.heap
 loc:∃m,s.heap.Ns X.env.locals m/\∀(i:Nat) (x:Str) (v:V),X.N[i]?=some x->σ[i]?=some (some v)->Vis X.env.scope x->∃u,bu v u/\Hr X.env s.heap m x u
 cell:∀x c,X.env.cells.lookup x=some c->∃v,s.heap.IsCell c v
 free:H X.env.locals=none
 freeC:∀x c,X.env.cells.lookup x=some c->H c=none
 pin:∀p∈X.pn++pins,s.heap.get? p.1=some p.2/\H p.1=none/\p.1≠X.env.locals/\p.1∉X.fs/\∀v,p.2.data≠.cell v
 hok:HOk X.prog X.w H s.heap
 len:σ.length=X.N.length
section
variable{X:Cx}{pins:List (Addr×Obj)}{σ:List (Option V)}{H H':Hp}{s:Shared}{h':Heap}
theorem Cx.Ok.nofr(ok:X.Ok){b:Addr}{o:Obj}(e:X.base.get? b=some o):b∉X.fs:=fun hb=>by
 have:=(ok.funs.mem hb).1
 rw[e]at this;cases this
theorem Inv.bs(I:Inv X pins σ H s):∀b o,X.base.get? b=some o->s.heap.get? b=some o/\H b=none:=fun b o e=>
 ⟨I.base.keep b o (I.ok.bs b o e).1 (I.ok.bs b o e).2 (I.ok.nofr e) (I.ok.noex b o e),I.base.free b o (I.ok.bs b o e).1 (I.ok.bs b o e).2 (I.ok.noex b o e)⟩
theorem Inv.bk(I:Inv X pins σ H s):∀b o,X.base.get? b=some o->s.heap.get? b=some o:=fun b o e=>(I.bs b o e).1
theorem Inv.mod(I:Inv X pins σ H s):Mod X.K X.mg X.base:=I.ok.mod
theorem Inv.kIn(I:Inv X pins σ H s):X.K.In s.heap:=I.ok.mod.kin.keeps I.bk
theorem Inv.lt(I:Inv X pins σ H s):X.env.locals<s.heap.objs.size:=let ⟨_,hn,_⟩:=I.loc;hn.lt
theorem Inv.sz(I:Inv X pins σ H s):X.s₀.heap.objs.size<=s.heap.objs.size:=Nat.le_trans I.ok.above (Nat.le_of_lt I.lt)
theorem Inv.nofs(I:Inv X pins σ H s){a:Addr}(h:s.heap.objs.size<=a):a∉X.fs:=fun hb=>by
 obtain⟨_,o,ho,_⟩:=I.ok.funs.mem hb
 exact absurd (Nat.lt_of_lt_of_le (Heap.lt_size ho) (Nat.le_trans I.sz h)) (Nat.lt_irrefl _)
theorem Inv.cne(I:Inv X pins σ H s):∀x c,X.env.cells.lookup x=some c->c≠X.env.locals:=fun x c e z=>by
 obtain⟨v,o,ho,hd⟩:=I.cell x c e
 obtain⟨m,⟨o',es,ep,ho',hd',_⟩,_⟩:=I.loc
 rw[z,ho']at ho;cases ho;rw[hd']at hd;cases hd
theorem Inv.funs(I:Inv X pins σ H s):s.heap.FunFrames X.base X.outer:=by
 have all:∀(l:List Env),(∀b∈frs l,b∈X.fs)->X.s₀.heap.FunFrames X.base l->s.heap.FunFrames X.base l:=by
  intro l
  induction l with
  |nil=>intro _ _;trivial
  |cons env r ih=>
   intro hs hl
   obtain⟨hk,⟨L,o,hf,hn,ho,hd⟩,hr⟩:=hl
   have hL:L∈X.fs:=hs L (by unfold frs;rw[List.filterMap_cons,hf];exact List.mem_cons_self)
   obtain⟨sl,e⟩:=I.base.slot L o ho (I.ok.frf L hL) hL fun z=>I.ok.exfs L z hL
   exact⟨hk,⟨L,_,hf,hn,e,hd⟩,ih (fun b hb=>hs b (by unfold frs;rw[List.filterMap_cons,hf];exact List.mem_cons_of_mem _ hb)) hr⟩
 exact all X.outer (fun _ hb=>hb) I.ok.funs
theorem Inv.stack(I:Inv X pins σ H s):s.heap.FunFrames X.base X.stack:=by
 rcases I.ok.stk with e|⟨e,hf⟩
 ·rw[e];exact I.funs
 ·rw[e]
  obtain⟨m,hn,_⟩:=I.loc
  refine .cons (by rw[I.ok.kind];decide) hf hn ?_ I.funs
  exact Heap.get?_none_of_le (Nat.le_trans I.ok.bsz I.ok.above)
theorem Inv.stkSub(I:Inv X pins σ H s):∀b∈frs X.stack,b∈X.env.locals::X.fs:=fun b hb=>by
 rcases I.ok.stk with e|⟨e,hf⟩
 ·rw[e]at hb;exact List.mem_cons_of_mem _ hb
 ·rw[e]at hb
  unfold frs at hb
  rw[List.filterMap_cons,hf]at hb
  exact hb
theorem Inv.stkFree(I:Inv X pins σ H s):∀b∈frs X.stack,H b=none:=fun b hb=>by
 rcases List.mem_cons.mp (I.stkSub b hb)with e|hb
 ·rw[e];exact I.free
 ·obtain⟨_,o,ho,_⟩:=I.ok.funs.mem hb
  exact I.base.free b o ho (I.ok.frf b hb) fun z=>I.ok.exfs b z hb
theorem Inv.step{g':Array GenState}{t':Nat}{d':Drawn}{ch:List Addr}(I:Inv X pins σ H s)
  (hch:∀b∈ch,(b∈X.ex\/X.s₀.heap.objs.size<=b)/\b≠X.env.locals/\(∀x c,X.env.cells.lookup x=some c->c≠b)/\∀p∈X.pn++pins,p.1≠b)
  (keep:∀b o,b≠X.env.locals->b∉X.fs->b∉ch->s.heap.get? b=some o->H b=none->h'.get? b=some o)
  (slot:∀b o,b≠X.env.locals->b∈X.fs->b∉ch->s.heap.get? b=some o->H b=none->∃sl,h'.get? b=some { o with slots:=sl }) (free:∀b o,b∉ch->s.heap.get? b=some o->H b=none->H' b=none)
  (there:∀b o,b∉ch->s.heap.get? b=some o->∃o',h'.get? b=some o')
  (tups:∀b xs,H b=some (.tup xs)->H' b=some (.tup xs)) (frzs:∀b o u,H b=some (.frz o u)->H' b=some (.frz o u)) (tbls:∀b ps,H b=some (.tbl ps)->∃more,H' b=some (.tbl (ps++more)))
  (ns:∀m,s.heap.Ns X.env.locals m->h'.Ns X.env.locals m) (hok:HOk X.prog X.w H' h') (hg:AllBare g') :
  Inv X pins σ H' { s with heap:=h',gens:=g',drawn:=d',toks:=t' }:=by
 have neL:∀b o,X.s₀.heap.get? b=some o->b≠X.env.locals:=fun b o e=>Nat.ne_of_lt (Nat.lt_of_lt_of_le (Heap.lt_size e) I.ok.above)
 have neC:∀b o,X.s₀.heap.get? b=some o->b∉X.ex->b∉ch:=fun b o e hx hb=>by
  rcases(hch b hb).1 with z|z
  ·exact hx z
  ·exact absurd (Nat.lt_of_lt_of_le (Heap.lt_size e) z) (Nat.lt_irrefl _)
 have cellK:∀x c,X.env.cells.lookup x=some c->∀v,s.heap.IsCell c v->h'.IsCell c v:=fun x c e v ⟨o,ho,hd⟩=>by
  have nch:c∉ch:=fun z=>(hch c z).2.2.1 x c e rfl
  by_cases hc:c∈X.fs
  ·obtain⟨sl,q⟩:=slot c o (I.cne x c e) hc nch ho (I.freeC x c e)
   exact⟨_,q,hd⟩
  ·exact⟨o,keep c o (I.cne x c e) hc nch ho (I.freeC x c e),hd⟩
 refine⟨I.ok,I.os,hg,⟨fun b o e n hb hx=>?_,fun b o e n hb hx=>?_,fun b o e n hx=>?_,fun b o e hx=>?_,fun b xs e=>tups b xs (I.base.tups b xs e),fun b o xs e=>frzs b o xs (I.base.frzs b o xs e),fun b ps e=>?_⟩,?_,fun x c e=>?_,?_,fun x c e=>?_,fun p hp=>?_,hok,I.len⟩
 ·exact keep b o (neL b o e) hb (neC b o e hx) (I.base.keep b o e n hb hx) (I.base.free b o e n hx)
 ·obtain⟨sl,e1⟩:=I.base.slot b o e n hb hx
  obtain⟨sl',e2⟩:=slot b _ (neL b o e) hb (neC b o e hx) e1 (I.base.free b o e n hx)
  exact⟨sl',e2⟩
 ·obtain⟨o',e1⟩:=I.base.there b o e hx
  exact free b o' (neC b o e hx) e1 (I.base.free b o e n hx)
 ·obtain⟨o',e1⟩:=I.base.there b o e hx
  exact there b o' (neC b o e hx) e1
 ·obtain⟨m1,e1⟩:=I.base.tbls b ps e
  obtain⟨m2,e2⟩:=tbls b _ e1
  exact⟨m1++m2,by rw[e2,Array.append_assoc]⟩
 ·obtain⟨m,hn,hl⟩:=I.loc
  refine⟨m,ns m hn,fun i x v e1 e2 e3=>?_⟩
  obtain⟨u,r,l⟩:=hl i x v e1 e2 e3
  refine⟨u,r,?_⟩
  rcases l with l|⟨k,c,e,z⟩
  ·exact .inl l
  ·exact .inr ⟨k,c,e,cellK x c e _ z⟩
 ·obtain⟨v,z⟩:=I.cell x c e
  exact⟨v,cellK x c e v z⟩
 ·obtain⟨m,⟨o,_,_,ho,_⟩,_⟩:=I.loc
  exact free _ o (fun z=>(hch _ z).2.1 rfl) ho I.free
 ·obtain⟨v,o,ho,hd⟩:=I.cell x c e
  exact free c o (fun z=>(hch c z).2.2.1 x c e rfl) ho (I.freeC x c e)
 ·obtain⟨e,n,ne,nf,d⟩:=I.pin p hp
  have nch:p.1∉ch:=fun z=>(hch p.1 z).2.2.2 p hp rfl
  exact⟨keep p.1 p.2 ne nf nch e n,free p.1 p.2 nch e n,ne,nf,d⟩
theorem Inv.un{t':Nat}(I:Inv X pins σ H s)(u:Un X.fs [] H H' s.heap h')(hok:HOk X.prog X.w H' h'):Inv X pins σ H' { s with heap:=h',toks:=t' }:=by
 obtain⟨m,⟨o,es,ep,ho,r⟩,_⟩:=id I.loc
 obtain⟨sl,hL⟩:=u.any ho I.free (by simp)
 exact I.step (g':=s.gens) (d':=s.drawn) (ch:=[]) (fun _ z=>nomatch z) (fun b o _ hb _ e n=>u.keep b o e n hb (by simp)) (fun b o _ hb _ e n=>u.slot b o e n hb (by simp)) (fun b o _ e n=>u.free b o e n (by simp)) (fun b o _ e=>u.there b o e (by simp)) u.tups u.frzs u.tbls (fun m' hm=>by
  obtain⟨o',es',ep',ho',r'⟩:=hm
  rw[ho]at ho';cases ho'
  exact⟨_,es',ep',hL,r'⟩) hok I.bare
theorem Inv.call{g':Array GenState}{t':Nat}{d':Drawn}{ch:List Addr}(I:Inv X pins σ H s)(u:Un (frs X.stack) ch H H' s.heap h')(hok:HOk X.prog X.w H' h')(hg:AllBare g')
  (hch:∀b∈ch,(b∈X.ex\/X.s₀.heap.objs.size<=b)/\b≠X.env.locals/\(∀x c,X.env.cells.lookup x=some c->c≠b)/\∀p∈X.pn++pins,p.1≠b) :
  Inv X pins σ H' { s with heap:=h',gens:=g',drawn:=d',toks:=t' }:=by
 obtain⟨m,⟨o,es,ep,ho,r⟩,_⟩:=id I.loc
 obtain⟨sl,hL⟩:=u.any ho I.free fun z=>(hch _ z).2.1 rfl
 exact I.step (ch:=ch) hch (fun b o hL hb hc e n=>u.keep b o e n (fun z=>(List.mem_cons.mp (I.stkSub b z)).elim hL hb) hc) (fun b o _ _ hc e n=>u.any e n hc) (fun b o hc e n=>u.free b o e n hc) (fun b o hc e=>u.there b o e hc) u.tups u.frzs u.tbls (fun m' hm=>by
  obtain⟨o',es',ep',ho',r'⟩:=hm
  rw[ho]at ho';cases ho'
  exact⟨_,es',ep',hL,r'⟩) hok hg
theorem Inv.turned{t':Nat}{it:Addr}(I:Inv X pins σ H s)(k:∀b o,b≠it->s.heap.get? b=some o->h'.get? b=some o)(hn:H it=none)(hL:it≠X.env.locals)
  (h1:it∈X.ex\/X.s₀.heap.objs.size<=it) (h2:∀x c,X.env.cells.lookup x=some c->c≠it) (h3:∀p∈X.pn++pins,p.1≠it):Inv X pins σ H { s with heap:=h',toks:=t' }:=by
 have nit:∀b u,H b=some u->b≠it:=fun b u e z=>by rw[z,hn]at e;cases e
 refine I.step (g':=s.gens) (d':=s.drawn) (ch:=[it]) (fun b hb=>?_) (fun b o _ _ hc e _=>k b o (fun z=>hc (by simp[z])) e) (fun b o _ _ hc e _=>⟨o.slots,k b o (fun z=>hc (by simp[z])) e⟩) (fun _ _ _ _ n=>n)
  (fun b o hc e=>⟨o,k b o (fun z=>hc (by simp[z])) e⟩) (fun _ _ e=>e) (fun _ _ _ e=>e) (fun b ps e=>⟨#[],by rw[e];simp⟩) (fun m hm=>?_) (fun b u e=>?_) I.bare
 ·have e:b=it:=by simpa using hb
  subst e
  exact⟨h1,hL,h2,h3⟩
 ·obtain⟨o,es,ep,ho,r⟩:=hm
  exact⟨o,es,ep,k _ o (Ne.symm hL) ho,r⟩
 ·refine(I.hok b u e).stay (fun c v hc q=>k c v ?_ q) (fun _ q=>q) fun _ _ q=>q
  rcases hc with z|z
  ·rw[z];exact nit b u e
  ·exact nit c _ z
theorem Inv.tok(I:Inv X pins σ H s)(t:Nat):Inv X pins σ H { s with toks:=t }:=I.un (h':=s.heap) (t':=t) Un.refl I.hok
theorem Inv.kept{t':Nat}(I:Inv X pins σ H s)(k:∀b u,s.heap.get? b=some u->h'.get? b=some u):Inv X pins σ H { s with heap:=h',toks:=t' }:=I.un (Un.kept k) (I.hok.kept k)
theorem Inv.laid{a:Addr}{o:HO}{t':Nat}(I:Inv X pins σ H s)(k:∀b u,s.heap.get? b=some u->h'.get? b=some u)(hp:s.heap.objs.size<=a)(new:bt X.prog X.w (upd H a o) h' a o) :
  Inv X pins σ (upd H a o) { s with heap:=h',toks:=t' }:=I.un (Un.laid k hp (I.hok.fresh hp)) (I.hok.laid k hp new)
theorem Inv.write{x e:Addr}{o:HO}{t':Nat}(I:Inv X pins σ H s)(mu:Mut (H x))(he:e=x\/H e=some (.own x))(k:∀b u,b≠e->s.heap.get? b=some u->h'.get? b=some u)(heo:∃u,h'.get? e=some u)
  (new:bt X.prog X.w (upd H x o) h' x o):Inv X pins σ (upd H x o) { s with heap:=h',toks:=t' }:=I.un (Un.write mu he k heo) (I.hok.write mu he k heo new)
theorem Inv.pins_of{pins':List (Addr×Obj)}(I:Inv X pins σ H s)(h:∀p∈pins',s.heap.get? p.1=some p.2/\H p.1=none/\p.1≠X.env.locals/\p.1∉X.fs/\∀v,p.2.data≠.cell v):Inv X pins' σ H s:=
 ⟨I.ok,I.os,I.bare,I.base,I.loc,I.cell,I.free,I.freeC,fun p hp=>(List.mem_append.mp hp).elim (fun z=>I.pin p (List.mem_append_left _ z)) (h p),I.hok,I.len⟩
theorem nY{N:List Str}(hN:N.Nodup){i j:Nat}{x:Str}(a:N[i]?=some x)(b:N[j]?=some x):i=j:=by
 obtain⟨h1,e1⟩:=List.getElem?_eq_some_iff.mp a
 obtain⟨h2,e2⟩:=List.getElem?_eq_some_iff.mp b
 exact(List.getElem_inj hN).mp (e1.trans e2.symm)
theorem kK{M:Model}{A:Around}{E:Value->Shared->Prop}{i:Nat}{x:Str}{v:V}{u:Value}{Q:Unit->Shared->Prop}(I:Inv X pins σ H s)(hN:X.N.Nodup)(hi:X.N[i]?=some x)(hx:Loc X.env.scope x)(r:bu v u)
  (h:∀s',Inv X pins (σ.set i (some v)) H s'->(∃a,Heap.SameBut a s.heap s'.heap/\(a=X.env.locals\/X.env.cells.lookup x=some a))->Q () s') (hf:X.fn x=true\/X.env.scope.names.lookup x=some .local:=by first|exact .inl rfl|exact .inr rfl|assumption):wpAny M A (storeName X.env x u) Q E s:=by
 obtain⟨m,hn,hl⟩:=id I.loc
 have hcls:(X.env.scope.kind == .class||(X.env.scope.kind == .module&&X.env.locals !=X.env.globals))=false:=by rw[I.ok.kind];rfl
 have hiσ:i < σ.length:=by rw[I.len];exact(List.getElem?_eq_some_iff.mp hi).1
 have cne:=I.cne
 have tracked:∀{a:Addr} {h':Heap},(∃o,s.heap.get? a=some o/\H a=none)->Heap.SameBut a s.heap h'->HOk X.prog X.w H h':=fun{a h'} ha hs b ob e=>by
  obtain⟨_,_,hfree⟩:=ha
  refine(I.hok b ob e).stay (fun c w' hc q=>(hs.2 c ?_).trans q) (fun _ q=>q) fun _ _ q=>q
  rintro rfl
  rcases hc with rfl|hc
  ·rw[hfree]at e;cases e
  ·rw[hfree]at hc;cases hc
 rcases hx with hk|hk
 ·refine wpAny_storeName_local hk hn (fun h' hn' hs=>?_) hcls
  obtain⟨oL,_,_,hoL,_⟩:=id hn
  refine h _ ⟨I.ok,I.os,I.bare,⟨fun b o e n hb hx=>?_,fun b o e n hb hx=>?_,I.base.free,fun b o e hx=>?_,I.base.tups,I.base.frzs,I.base.tbls⟩,⟨_,hn',fun j y v' e1 e2 e3=>?_⟩,fun y c e=>?_,I.free,I.freeC,fun p hp=>?_,tracked ⟨oL,hoL,I.free⟩ hs,by simpa using I.len⟩ ⟨_,hs,.inl rfl⟩
  ·exact(hs.2 b (Nat.ne_of_lt (Nat.lt_of_lt_of_le (Heap.lt_size e) I.ok.above))).trans (I.base.keep b o e n hb hx)
  ·obtain⟨sl,e1⟩:=I.base.slot b o e n hb hx
   exact⟨sl,(hs.2 b (Nat.ne_of_lt (Nat.lt_of_lt_of_le (Heap.lt_size e) I.ok.above))).trans e1⟩
  ·obtain⟨o',e1⟩:=I.base.there b o e hx
   exact⟨o',(hs.2 b (Nat.ne_of_lt (Nat.lt_of_lt_of_le (Heap.lt_size e) I.ok.above))).trans e1⟩
  ·by_cases hj:j=i
   ·subst hj
    rw[hi]at e1;cases e1
    rw[List.getElem?_set_self hiσ]at e2
    cases e2
    exact⟨u,r,.inl ⟨hk,by simp⟩⟩
   ·rw[List.getElem?_set_ne (Ne.symm hj)]at e2
    obtain⟨u',r',q⟩:=hl j y v' e1 e2 e3
    refine⟨u',r',?_⟩
    rcases q with⟨k,e⟩|⟨k,c,e,z⟩
    ·refine .inl ⟨k,?_⟩
     have:y≠x:=fun e=>hj (nY hN e1 (e▸hi))
     simp[this,e]
    ·exact .inr ⟨k,c,e,z.sameBut hs (cne y c e)⟩
  ·obtain⟨w',z⟩:=I.cell y c e
   exact⟨w',z.sameBut hs (cne y c e)⟩
  ·obtain⟨e,n,ne,nf,d⟩:=I.pin p hp
   exact⟨(hs.2 p.1 ne).trans e,n,ne,nf,d⟩
 ·have hfn:X.fn x=true:=by
   rcases hf with z|z
   ·exact z
   ·rw[z]at hk;cases hk
  obtain⟨c,hc⟩:=I.ok.has x (.inl hk)
  obtain⟨w',z⟩:=I.cell x c hc
  refine wpAny_storeName_cell I.ok.kind hk hc z (fun h' hc' hs=>?_)
  obtain⟨oc,hoc,hocd⟩:=id z
  refine h { s with heap:=h' } ⟨I.ok,I.os,I.bare,⟨fun b o e n hb hx=>?_,fun b o e n hb hx=>?_,I.base.free,fun b o e hx=>?_,I.base.tups,I.base.frzs,I.base.tbls⟩,⟨m,hn.sameBut hs (Ne.symm (cne x c hc)),fun j y v' e1 e2 e3=>?_⟩,fun y c' e=>?_,I.free,I.freeC,fun p hp=>?_,tracked ⟨oc,hoc,I.freeC x c hc⟩ hs,by simpa using I.len⟩ ⟨c,hs,.inr hc⟩
  ·exact(hs.2 b (Nat.ne_of_lt (Nat.lt_of_lt_of_le (Heap.lt_size e) (I.ok.cab x c hfn hc)))).trans (I.base.keep b o e n hb hx)
  ·obtain⟨sl,e1⟩:=I.base.slot b o e n hb hx
   exact⟨sl,(hs.2 b (Nat.ne_of_lt (Nat.lt_of_lt_of_le (Heap.lt_size e) (I.ok.cab x c hfn hc)))).trans e1⟩
  ·obtain⟨o',e1⟩:=I.base.there b o e hx
   exact⟨o',(hs.2 b (Nat.ne_of_lt (Nat.lt_of_lt_of_le (Heap.lt_size e) (I.ok.cab x c hfn hc)))).trans e1⟩
  ·by_cases hj:j=i
   ·subst hj
    rw[hi]at e1;cases e1
    rw[List.getElem?_set_self hiσ]at e2
    cases e2
    exact⟨u,r,.inr ⟨.inl hk,c,hc,hc'⟩⟩
   ·rw[List.getElem?_set_ne (Ne.symm hj)]at e2
    obtain⟨u',r',q⟩:=hl j y v' e1 e2 e3
    refine⟨u',r',?_⟩
    rcases q with q|⟨k,c',e,z'⟩
    ·exact .inl q
    ·refine .inr ⟨k,c',e,z'.sameBut hs ?_⟩
     rintro rfl
     exact hj (nY hN e1 (I.ok.inj _ _ _ e hc▸hi))
  ·by_cases hcc:c'=c
   ·subst hcc;exact⟨_,hc'⟩
   ·obtain⟨w2,z2⟩:=I.cell y c' e
    exact⟨w2,z2.sameBut hs hcc⟩
  ·obtain⟨e,n,ne,nf,d⟩:=I.pin p hp
   refine⟨(hs.2 p.1 ?_).trans e,n,ne,nf,d⟩
   intro q
   rw[q,hoc]at e
   have q':oc=p.2:=Option.some.inj e
   exact d w' (by rw[<-q'];exact hocd)
theorem nB{M:Model}{A:Around}{E:Value->Shared->Prop}{i:Nat}{x:Str}{v:V}{u:Value}{Q:Unit->Shared->Prop}(I:Inv X pins σ H s)(hN:X.N.Nodup)(hi:X.N[i]?=some x)(hx:Loc X.env.scope x)(r:bu v u)
  (h:∀s',Inv X pins (σ.set i (some v)) H s'->Q () s') (hf:X.fn x=true\/X.env.scope.names.lookup x=some .local:=by first|exact .inl rfl|exact .inr rfl|assumption):wpAny M A (storeName X.env x u) Q E s:=
 kK I hN hi hx r (fun s' I' _=>h s' I') hf
theorem Inv.call'{s':Shared}{ch:List Addr}(I:Inv X pins σ H s)(ho:s'.os=s.os)(u:Un (frs X.stack) ch H H' s.heap s'.heap)(hok:HOk X.prog X.w H' s'.heap)(hg:AllBare s'.gens)
  (hch:∀b∈ch,(b∈X.ex\/X.s₀.heap.objs.size<=b)/\b≠X.env.locals/\(∀x c,X.env.cells.lookup x=some c->c≠b)/\∀p∈X.pn++pins,p.1≠b):Inv X pins σ H' s':=by
 obtain⟨h',g',d',t',o'⟩:=s'
 have e:o'=s.os:=ho
 subst e
 exact I.call (g':=g') (t':=t') (d':=d') u hok hg hch
end
abbrev XK:=Value->Option Addr->Hp->Prop
abbrev St:=List (Option V)
abbrev VK:=V->Hp->Prop
abbrev TE:=St->Hp->VK->Prop
abbrev TT:=St->Hp->(Bool->Hp->Prop)->Prop
abbrev TA:=St->Hp->(List V->Hp->Prop)->Prop
structure x5 where
 nx:St->Hp->Prop
 rt:VK
 bk:St->Hp->Prop:=fun _ _=>False
 ct:St->Hp->Prop:=fun _ _=>False
abbrev TS:=x5->St->Hp->Prop
def EP(X:Cx)(pins:List (Addr×Obj))(σ:St)(Q:VK)(u:Value)(s':Shared):Prop:=∃v H',Inv X pins σ H' s'/\bu v u/\Q v H'
def TP(X:Cx)(pins:List (Addr×Obj))(σ:St)(Q:Bool->Hp->Prop)(b:Bool)(s':Shared):Prop:=∃H',Inv X pins σ H' s'/\Q b H'
def AP(X:Cx)(pins:List (Addr×Obj))(σ:St)(Q:List V->Hp->Prop)(us:List Value)(s':Shared):Prop:=∃vs H',Inv X pins σ H' s'/\aV vs us/\Q vs H'
def SP(X:Cx)(pins:List (Addr×Obj))(D:x5)(f:Flow)(s':Shared):Prop:=
 match f with
 |.next=>∃σ' H',Inv X pins σ' H' s'/\D.nx σ' H'
 |.brk=>∃σ' H',Inv X pins σ' H' s'/\D.bk σ' H'
 |.cont=>∃σ' H',Inv X pins σ' H' s'/\D.ct σ' H'
 |.ret u=>∃v σ' H',Inv X pins σ' H' s'/\bu v u/\D.rt v H'
def PE(X:Cx)(e:Expr)(t:TE):Prop:=
 ∀(pins:List (Addr×Obj)) (s:Shared) (σ:St) (H:Hp) (Q:VK),Inv X pins σ H s->t σ H Q->wpAny (model X.prog X.w) X.A (eval e X.env) (EP X pins σ Q) X.xe s
def PT(X:Cx)(e:Expr)(t:TT):Prop:=
 ∀(pins:List (Addr×Obj)) (s:Shared) (σ:St) (H:Hp) (Q:Bool->Hp->Prop),Inv X pins σ H s->t σ H Q->wpAny (model X.prog X.w) X.A (isTrue e X.env (eval e X.env)) (TP X pins σ Q) X.xe s
def PW(X:Cx)(e:Expr)(t:TT):Prop:=
 ∀(whole:Sem Value) (pins:List (Addr×Obj)) (s:Shared) (σ:St) (H:Hp) (Q:Bool->Hp->Prop),Inv X pins σ H s->t σ H Q->wpAny (model X.prog X.w) X.A (isTrue e X.env whole) (TP X pins σ Q) X.xe s
theorem PW.pt{X:Cx}{e:Expr}{t:TT}(h:PW X e t):PT X e t:=h _
def PA(X:Cx)(es:List Expr)(t:TA):Prop:=
 ∀(pos:Pos) (pins:List (Addr×Obj)) (s:Shared) (σ:St) (H:Hp) (Q:List V->Hp->Prop),Inv X pins σ H s->t σ H Q->wpAny (model X.prog X.w) X.A (spliced (backTo pos (starEach es X.env))) (AP X pins σ Q) X.xe s
def PS(X:Cx)(st:Stmt)(t:TS):Prop:=
 ∀(pins:List (Addr×Obj)) (s:Shared) (σ:St) (H:Hp) (D:x5),Inv X pins σ H s->t D σ H->wpAny (model X.prog X.w) X.A (exec st X.env) (SP X pins D) X.xe s
def PSs(X:Cx)(st:List Stmt)(t:TS):Prop:=
 ∀(pins:List (Addr×Obj)) (s:Shared) (σ:St) (H:Hp) (D:x5),Inv X pins σ H s->t D σ H->wpAny (model X.prog X.w) X.A (execs st X.env) (SP X pins D) X.xe s
theorem thn{α:Type}{t:Sem α}{Q Q':α->Shared->Prop}{M:Model}{A:Around}{E:Value->Shared->Prop}{s:Shared}(h:wpAny M A t Q E s)(hQ:∀a s,Q a s->Q' a s):wpAny M A t Q' E s:=wpAny_mono h hQ fun _ _ x=>x
section
variable{X:Cx}
def DP(i:Nat):TE:=fun σ H Q=>∃v,σ[i]?=some (some v)/\Q v H
def tC(v:V):TE:=fun _ H Q=>Q v H
theorem B0{i:Nat}{x:Str}{pos:Pos}(hN:X.N[i]?=some x)(hv:Vis X.env.scope x)(hd:(x == ("__debug__":Str))=false:=by decide)(hcd:(x == ("__classdict__":Str))=false:=by decide):PE X (.Name x pos) (DP i):=by
 intro pins s σ H Q I h
 obtain⟨v,e,h⟩:=h
 obtain⟨m,hn,hl⟩:=I.loc
 obtain⟨u,r,l⟩:=hl i x v hN e hv
 have fin:EP X pins σ Q u s:=⟨v,H,I,r,h⟩
 rcases l with⟨hk,hm⟩|⟨hk,c,hc,hcell⟩
 ·exact wpAny_Name (wpAny_loadName_local I.ok.kind hk hn hm fin) hd
 ·rcases hk with hk|hk
  ·exact wpAny_Name (wpAny_loadName_cell I.ok.kind hk hc hcell fin) hd
  ·exact wpAny_Name (wpAny_loadName_free I.ok.kind hk hc hcell fin hcd) hd
theorem Ce{i j pos}:PE X (.Constant (.int i) j pos) (tC (.int i)):=fun _ _ _ H _ I h=>wpAny_Constant_int ⟨.int i,H,I.tok _,⟨_,rfl⟩,h⟩
theorem Fp{b j pos}:PE X (.Constant (.bool b) j pos) (tC (.bl b)):=fun _ _ _ H _ I h=>Constant_bool ⟨.bl b,H,I,rfl,h⟩
def Gl(X:Cx)(x:Str):Prop:=X.env.kindOf x=some .globalImplicit
theorem zP{E:Value->Shared->Prop}{pins:List (Addr×Obj)}{s:Shared}{σ:St}{H:Hp}{x:Str}{u:Value}{pos:Pos}{Q:Value->Shared->Prop}(I:Inv X pins σ H s)(hg:Gl X x)(hm:X.mg x=some u)(h:Q u s)
  (hd:(x == ("__debug__":Str))=false:=by decide):wpAny (model X.prog X.w) X.A (eval (.Name x pos) X.env) Q E s:=
 Calls.Name_function_global I.ok.kind hg (Calls.loadGlobal_global (by rw[I.ok.glob];exact I.mod.glob.keeps I.bk) hm h) hd
theorem fR{E:Value->Shared->Prop}{pins:List (Addr×Obj)}{s:Shared}{σ:St}{H:Hp}{x:Str}{u:Value}{pos:Pos}{Q:Value->Shared->Prop}(I:Inv X pins σ H s)(hg:Gl X x)(hm:X.mg x=none)(hv:bootBuiltins x=some u)(h:Q u s)
  (hn:x≠"__name__":=by decide) (hd:(x == ("__debug__":Str))=false:=by decide):wpAny (model X.prog X.w) X.A (eval (.Name x pos) X.env) Q E s:=by
 obtain⟨mb,h1,h2⟩:=I.mod.blt
 exact Calls.Name_function_global I.ok.kind hg (Calls.loadGlobal_builtin (by rw[I.ok.glob];exact I.mod.glob.keeps I.bk) hm (by rw[I.ok.blt];exact h1.keeps I.bk) ((h2 x hn).trans hv) h) hd
theorem zE{x:Str}{v:V}{u:Value}{pos:Pos}(hg:Gl X x)(hm:X.mg x=none)(hv:bootBuiltins x=some u)(r:bu v u)(hn:x≠"__name__":=by decide)(hd:(x == ("__debug__":Str))=false:=by decide):PE X (.Name x pos) (tC v):=
 fun _ _ _ H _ I h=>fR I hg hm hv ⟨v,H,I,r,h⟩ hn hd
variable{a b:Expr}{ta tb:TE}{pos:Pos}
def PC(X:Cx)(op:CmpOp)(a b:Expr)(t:TE):Prop:=
 ∀(pins:List (Addr×Obj)) (s:Shared) (σ:St) (H:Hp) (Q:VK),Inv X pins σ H s->t σ H Q->
  wpAny (model X.prog X.w) X.A (eval a X.env) (fun v s₁=>wpAny (model X.prog X.w) X.A (eval b X.env) (fun u s₂=>wpAny (model X.prog X.w) X.A (compareOp op v u) (EP X pins σ Q) X.xe s₂) X.xe s₁) X.xe s
def tB(t:TE):TT:=fun σ H Q=>t σ H fun x H1=>∃c,x=.bl c/\Q c H1
theorem BR{op:CmpOp}{t:TE}(h:PC X op a b t)(h1:behindInMarks op b=false:=by first|exact nobehind _ (by decide) (by decide)|rfl):PT X (.Compare a [op] [b] pos) (tB t):=by
 intro pins s σ H Q I hw
 refine wpAny_isTrue_Compare1 (thn (h pins s σ H _ I hw) fun v s1 h1=>thn h1 fun u s2 h2=>thn h2 fun c s3 hz=>?_) h1
 obtain⟨x,H1,I1,r1,q1⟩:=hz
 obtain⟨d,rfl,q⟩:=q1
 cases r1
 exact wpAny_truthy_bool ⟨H1,I1,q⟩
theorem BP{e:Expr}{t:TE}(h:PE X e t)(he:∀whole,isTrue e X.env whole=(do let v <-whole;standAt e.pos;holding [v] (truthy v)):=by intro _;rfl):PT X e (tB t):=by
 intro pins s σ H Q I hw
 refine isTrue_plain (thn (h pins s σ H _ I hw) fun v s1 ⟨x,H1,I1,r1,q1⟩=>?_) (he _)
 obtain⟨d,rfl,q⟩:=q1
 cases r1
 exact wpAny_truthy_bool ⟨H1,I1,q⟩
variable{tA tB':TT}{rest:List Expr}
def Gp(t u:TT):TT:=fun σ H Q=>t σ H fun c H1=>if c=true then u σ H1 Q else Q false H1
def tOr(t u:TT):TT:=fun σ H Q=>t σ H fun c H1=>if c=true then Q true H1 else u σ H1 Q
def Gj(t:TT):TT:=fun σ H Q=>t σ H fun c H1=>Q (!c) H1
theorem zm(ha:PT X a tA):PW X (.BoolOp .And [a] pos) tA:=by
 intro wh pins s σ H Q I h
 refine isTrue_and (thn (ha pins s σ H Q I h) fun c s1 e=>?_)
 cases c with
 |true=>exact isTrue_and_nil e
 |false=>exact e
theorem BM(ha:PT X a tA):PW X (.BoolOp .Or [a] pos) tA:=by
 intro wh pins s σ H Q I h
 refine isTrue_or (thn (ha pins s σ H Q I h) fun c s1 e=>?_)
 cases c with
 |false=>exact isTrue_or_nil e
 |true=>exact e
theorem BN(ha:PT X a tA)(hb:PW X (.BoolOp .And (b::rest) pos) tB'):PW X (.BoolOp .And (a::b::rest) pos) (Gp tA tB'):=by
 intro wh pins s σ H Q I h
 refine isTrue_and (thn (ha pins s σ H _ I h) fun c s1 ⟨H1,I1,q1⟩=>?_)
 cases c with
 |true=>exact hb wh pins s1 σ H1 Q I1 q1
 |false=>exact⟨H1,I1,q1⟩
theorem Fg(ha:PT X a tA)(hb:PW X (.BoolOp .Or (b::rest) pos) tB'):PW X (.BoolOp .Or (a::b::rest) pos) (tOr tA tB'):=by
 intro wh pins s σ H Q I h
 refine isTrue_or (thn (ha pins s σ H _ I h) fun c s1 ⟨H1,I1,q1⟩=>?_)
 cases c with
 |true=>exact⟨H1,I1,q1⟩
 |false=>exact hb wh pins s1 σ H1 Q I1 q1
theorem BQ(ha:PT X a tA):PT X (.UnaryOp .Not a pos) (Gj tA):=by
 intro pins s σ H Q I h
 exact isTrue_not (ha pins s σ H (fun c H1=>Q (!c) H1) I h)
def Bw(ta tb:TE):TE:=fun σ H Q=>ta σ H fun x H1=>∃c,x=.bl c/\if c=true then tb σ H1 Q else Q (.bl false) H1
def Bn(ta:TE):TE:=fun σ H Q=>ta σ H fun x H1=>∃c,x=.bl c/\Q (.bl (!c)) H1
theorem Cb{op}{t:TE}(h:PE X a t):PE X (.BoolOp op [a] pos) t:=fun pins s σ H Q I hw=>BoolOp_one (h pins s σ H Q I hw)
theorem Cg(ha:PE X a ta)(hb:PE X (.BoolOp .And (b::rest) pos) tb):PE X (.BoolOp .And (a::b::rest) pos) (Bw ta tb):=by
 intro pins s σ H Q I h
 refine BoolOp_and (thn (ha pins s σ H _ I h) fun v s1 hz=>?_)
 obtain⟨x,H1,I1,r1,q1⟩:=hz
 obtain⟨c,rfl,q1⟩:=q1
 cases r1
 refine wpAny_truthy_bool ?_
 cases c with
 |true=>exact hb pins s1 σ H1 Q I1 q1
 |false=>exact⟨.bl false,H1,I1,rfl,q1⟩
theorem Cc(ha:PE X a ta):PE X (.UnaryOp .Not a pos) (Bn ta):=by
 intro pins s σ H Q I h
 refine UnaryOp_ (thn (ha pins s σ H _ I h) fun v s1 hz=>?_)
 obtain⟨x,H1,I1,r1,q1⟩:=hz
 obtain⟨c,rfl,q1⟩:=q1
 cases r1
 exact not_of (wpAny_truthy_bool ⟨.bl (!c),H1,I1,rfl,q1⟩)
end
def SqL(K:PySem.W.Frag)(H:Hp)(a:Addr)(xs:List V):Prop:=
 Rd H a (.lst xs)\/
  ∃(o:Obj) (its:Array Value) (n:Nat),K.lookup a=some o/\o.cls=.type "list"/\o.dict=none/\o.data=.seq its n/\its.size<=sizeLine/\aV xs its.toList
def SqT(K:PySem.W.Frag)(H:Hp)(a:Addr)(xs:List V):Prop:=
 Rd H a (.tup xs)\/
  ∃(o:Obj) (its:Array Value) (n:Nat),K.lookup a=some o/\o.cls=.type "tuple"/\o.data=.seq its n/\its.size<=sizeLine/\aV xs its.toList
def Hq:Value->Option V
 |.none=>some .non
 |.bool b=>some (.bl b)
 |.int i _=>some (.int i)
 |.str x _=>some (.str x)
 |.bytes b _=>some (.byt b)
 |.float b _=>some (.flt b)
 |.ref a=>some (.ref a)
 |.type n=>some (.ty n)
 |_=>none
theorem bu.abs{x:V}{u:Value}(r:bu x u):Hq u=some x:=by
 cases x with
 |non=>cases r;rfl
 |bl _=>cases r;rfl
 |int _=>obtain⟨t,rfl⟩:=r;rfl
 |str _=>obtain⟨t,rfl⟩:=r;rfl
 |byt _=>obtain⟨t,rfl⟩:=r;rfl
 |flt _=>obtain⟨t,rfl⟩:=r;rfl
 |ref _=>cases r;rfl
 |ty _=>cases r;rfl
theorem bu.inj{x y:V}{u:Value}(r:bu x u)(q:bu y u):x=y:=Option.some.inj (r.abs.symm.trans q.abs)
theorem aV.inj:∀{xs ys:List V} {us:List Value},aV xs us->aV ys us->xs=ys
 |_,_,_,.nil,.nil=>rfl
 |_,_,_,.cons r t,.cons r' t'=>by rw[r.inj r',aV.inj t t']
section
variable{X:Cx}{pins:List (Addr×Obj)}{σ:St}{H:Hp}{s:Shared}{a:Addr}{xs ys:List V}
theorem SqL.of{K:PySem.W.Frag}(h:H a=some (.lst xs)):SqL K H a xs:=.inl (.inl h)
theorem SqT.of{K:PySem.W.Frag}(h:H a=some (.tup xs)):SqT K H a xs:=.inl (.inl h)
theorem Inv.list(I:Inv X pins σ H s)(h:SqL X.K H a xs):∃its:List Value,aV xs its/\PlainL s.heap a its.toArray/\xs.length<=sizeLine:=by
 rcases h with h|⟨o,its,n,hk,hc,hd,hs,hz,r⟩
 ·obtain⟨z,its,n,r,e⟩:=h.ok I.hok
  exact⟨its,r,⟨_,n,e,rfl,rfl,rfl⟩,z⟩
 ·refine⟨its.toList,r,⟨o,n,I.kIn a o hk,hc,hd,by simpa using hs⟩,?_⟩
  have e:=r.length
  simp only[Array.length_toList]at e
  omega
theorem Inv.tuple(I:Inv X pins σ H s)(h:SqT X.K H a xs):∃its:List Value,aV xs its/\IsTup s.heap a its.toArray/\xs.length<=sizeLine:=by
 rcases h with h|⟨o,its,n,hk,hc,hs,hz,r⟩
 ·obtain⟨z,its,r,p⟩:=h.ok I.hok
  exact⟨its,r,p,z⟩
 ·refine⟨its.toList,r,⟨o,I.kIn a o hk,hc,n,by simpa using hs⟩,?_⟩
  have e:=r.length
  simp only[Array.length_toList]at e
  omega
theorem Inv.list_inj(I:Inv X pins σ H s)(h:SqL X.K H a xs)(h':SqL X.K H a ys):xs=ys:=by
 obtain⟨its,r,⟨o,n,e,_,_,d⟩,_⟩:=I.list h
 obtain⟨its',r',⟨o',n',e',_,_,d'⟩,_⟩:=I.list h'
 rw[e]at e';cases e'
 rw[d]at d'
 injection d' with d1 _
 have:its=its':=by simpa using congrArg Array.toList d1
 subst this
 exact r.inj r'
theorem Inv.tuple_inj(I:Inv X pins σ H s)(h:SqT X.K H a xs)(h':SqT X.K H a ys):xs=ys:=by
 obtain⟨its,r,⟨o,e,_,n,d⟩,_⟩:=I.tuple h
 obtain⟨its',r',⟨o',e',_,n',d'⟩,_⟩:=I.tuple h'
 rw[e]at e';cases e'
 rw[d]at d'
 injection d' with d1 _
 have:its=its':=by simpa using congrArg Array.toList d1
 subst this
 exact r.inj r'
end
abbrev Cx.wish(X:Cx)(E:Value->Shared->Prop):Cx:={ X with xe:=E }
abbrev Cx.nox(X:Cx):Cx:=X.wish fun _ _=>False
theorem Cx.Ok.wish{X:Cx}(ok:X.Ok)(E:Value->Shared->Prop):(X.wish E).Ok:=
 ⟨ok.mod,ok.kind,ok.glob,ok.blt,ok.above,ok.inj,ok.has,ok.cab,ok.hd,ok.frames,ok.stk,ok.exf,ok.bs,ok.bsz,ok.noex,ok.exfs,ok.funs,ok.frf⟩
theorem Cx.Ok.unwish{X:Cx}{E:Value->Shared->Prop}(ok:(X.wish E).Ok):X.Ok:=
 ⟨ok.mod,ok.kind,ok.glob,ok.blt,ok.above,ok.inj,ok.has,ok.cab,ok.hd,ok.frames,ok.stk,ok.exf,ok.bs,ok.bsz,ok.noex,ok.exfs,ok.funs,ok.frf⟩
section
variable{X:Cx}{pins:List (Addr×Obj)}{σ:St}{H:Hp}{s:Shared}{E:Value->Shared->Prop}
theorem Inv.wish(I:Inv X pins σ H s)(E:Value->Shared->Prop):Inv (X.wish E) pins σ H s:=⟨I.ok.wish E,I.os,I.bare,I.base,I.loc,I.cell,I.free,I.freeC,I.pin,I.hok,I.len⟩
theorem Inv.unwish(I:Inv (X.wish E) pins σ H s):Inv X pins σ H s:=⟨I.ok.unwish,I.os,I.bare,I.base,I.loc,I.cell,I.free,I.freeC,I.pin,I.hok,I.len⟩
theorem SP.unwish{D:x5}{f:Flow}{s':Shared}(h:SP (X.wish E) pins D f s'):SP X pins D f s':=by
 cases f with
 |next=>obtain⟨σ',H',I,q⟩:=h;exact⟨σ',H',I.unwish,q⟩
 |brk=>obtain⟨σ',H',I,q⟩:=h;exact⟨σ',H',I.unwish,q⟩
 |cont=>obtain⟨σ',H',I,q⟩:=h;exact⟨σ',H',I.unwish,q⟩
 |ret u=>obtain⟨v,σ',H',I,r,q⟩:=h;exact⟨v,σ',H',I.unwish,r,q⟩
theorem PSs.nox{st:List Stmt}{t:TS}(h:PSs X.nox st t):PSs X st t:=fun pins s σ H D I hw=>
 wpAny_mono (h pins s σ H D (I.wish _) hw) (fun _ _ q=>q.unwish) fun _ _ z=>False.elim z
end
section
variable{X:Cx}{st:Stmt}{rest:List Stmt}{t u:TS}{e:Expr}{te:TE}{pos:Pos}
def Bo:TS:=fun D σ H=>D.nx σ H
def Gh(t u:TS):TS:=fun D σ H=>t { D with nx:=u D } σ H
theorem zq:PSs X [] Bo:=fun _ _ σ H _ I h=>wpAny_execs_nil ⟨σ,H,I,h⟩
theorem u0(h1:PS X st t)(h2:PSs X rest u):PSs X (st::rest) (Gh t u):=by
 intro pins s σ H D I h
 refine wpAny_execs_cons (thn (h1 pins s σ H { D with nx:=u D } I h) fun f s1 q=>?_)
 cases f with
 |next=>
  obtain⟨σ',H',I',q⟩:=q
  exact h2 pins s1 σ' H' D I' q
 |ret v=>exact q
 |brk=>exact q
 |cont=>exact q
theorem zp(h1:PS X st t):PSs X [st] t:=by
 intro pins s σ H D I h
 refine wpAny_execs_cons (thn (h1 pins s σ H D I h) fun f s1 q=>?_)
 cases f with
 |next=>exact wpAny_execs_nil q
 |ret v=>exact q
 |brk=>exact q
 |cont=>exact q
theorem Inv.quiet{pins:List (Addr×Obj)}{σ:St}{H:Hp}{s:Shared}(I:Inv X pins σ H s):interactive X.env=false:=by simp[interactive,I.ok.kind]
def Bp(te:TE):TS:=fun D σ H=>te σ H fun _ H1=>D.nx σ H1
theorem zr(he:PE X e te)(hs:swapsWith e none pos.line X.env=pure false:=by rfl):PS X (.Expr e pos) (Bp te):=by
 intro pins s σ H D I h
 exact wpAny_Expr_any (thn (he pins s σ H _ I h) fun v s1 ⟨x,H1,I1,r1,q1⟩=>⟨σ,H1,I1,q1⟩) I.quiet hs
def Gi(te:TE):TS:=fun D σ H=>te σ H D.rt
theorem BU(he:PE X e te):PS X (.Return (some e) pos) (Gi te):=by
 intro pins s σ H D I h
 exact wpAny_Return_some (thn (he pins s σ H _ I h) fun v s1 ⟨x,H1,I1,r1,q1⟩=>⟨x,σ,H1,I1,r1,q1⟩)
def Gn(c:TT)(t u:TS):TS:=fun D σ H=>c σ H fun b H1=>if b=true then t D σ H1 else u D σ H1
theorem Fh{c:Expr}{a b:List Stmt}{tc:TT}(hc:PT X c tc)(ha:PSs X a t)(hb:PSs X b u):PS X (.If c a b pos) (Gn tc t u):=by
 intro pins s σ H D I h
 refine wpAny_If (thn (hc pins s σ H _ I h) fun d s1 ⟨H1,I1,q1⟩=>?_)
 cases d with
 |true=>exact ha pins s1 σ H1 D I1 q1
 |false=>exact hb pins s1 σ H1 D I1 q1
end
abbrev TG:=V->St->Hp->(St->Hp->Prop)->Prop
abbrev TGs:=List V->St->Hp->(St->Hp->Prop)->Prop
def PG(X:Cx)(target:Expr)(t:TG):Prop:=
 ∀(pins:List (Addr×Obj)) (s:Shared) (σ:St) (H:Hp) (v:V) (u:Value) (Q:St->Hp->Prop),Inv X pins σ H s->bu v u->t v σ H Q->
  wpAny (model X.prog X.w) X.A (assign target X.env u) (fun _ s'=>∃σ' H',Inv X pins σ' H' s'/\Q σ' H') X.xe s
def PGs(X:Cx)(ts:List Expr)(t:TGs):Prop:=
 ∀(pins:List (Addr×Obj)) (s:Shared) (σ:St) (H:Hp) (vs:List V) (us:List Value) (Q:St->Hp->Prop),Inv X pins σ H s->aV vs us->t vs σ H Q->
  wpAny (model X.prog X.w) X.A (assignInOrder ((assignEach ts X.env).map (·.2)) us) (fun _ s'=>∃σ' H',Inv X pins σ' H' s'/\Q σ' H') X.xe s
abbrev D6:=V->V->V->Hp->(Hp->Prop)->Prop
def Ge(X:Cx)(t:D6):Prop:=
 ∀(pins:List (Addr×Obj)) (s:Shared) (σ:St) (H:Hp) (o i v:V) (ov iv u:Value) (Q:Hp->Prop),Inv X pins σ H s->bu o ov->bu i iv->bu v u->t o i v H Q->
  wpAny (model X.prog X.w) X.A (setItem ov iv u) (fun _ s'=>∃H',Inv X pins σ H' s'/\Q H') X.xe s
section
variable{X:Cx}{pos:Pos}
def pE(i:Nat):TG:=fun v σ H Q=>Q (σ.set i (some v)) H
theorem zA{i:Nat}{x:Str}(hN:X.N.Nodup)(hi:X.N[i]?=some x)(hx:Loc X.env.scope x)(hf:X.fn x=true\/X.env.scope.names.lookup x=some .local:=by first|exact .inl rfl|exact .inr rfl|assumption):PG X (.Name x pos) (pE i):=by
 intro pins s σ H v u Q I r h
 exact wpAny_assign_Name (nB I hN hi hx r (fun s' I'=>⟨_,H,I',h⟩) hf)
def GJ:TGs:=fun vs σ H Q=>vs=[]/\Q σ H
def Df(t:TG)(u:TGs):TGs:=fun vs σ H Q=>∃v r,vs=v::r/\t v σ H fun σ' H'=>u r σ' H' Q
theorem zy:PGs X [] GJ:=by
 intro pins s σ H vs us Q I r h
 obtain⟨e,h⟩:=h
 subst e
 cases r
 exact assignInOrder_nil ⟨σ,H,I,h⟩
theorem vc{e:Expr}{es:List Expr}{t:TG}{u:TGs}(h1:PG X e t)(h2:PGs X es u)
  (hs:(assignEach (e::es) X.env).map (·.2)=assign e X.env::(assignEach es X.env).map (·.2):=by rfl):PGs X (e::es) (Df t u):=by
 intro pins s σ H vs us Q I r h
 obtain⟨v,vr,e1,h⟩:=h
 subst e1
 cases r with
 |cons r rr=>
  rw[hs]
  refine assignInOrder_cons (thn (h1 pins s σ H _ _ _ I r h) fun _ s1 hz=>?_)
  obtain⟨σ1,H1,I1,q1⟩:=hz
  exact h2 pins s1 σ1 H1 _ _ Q I1 rr q1
def GH(K:PySem.W.Frag)(n:Nat)(t:TGs):TG:=fun v σ H Q=>∃a xs,v=.ref a/\SqT K H a xs/\xs.length=n/\t xs σ H Q
theorem BY{es:List Expr}{k:Nat}{t:TGs}{n:Nat}(hc:X.calm=true)(h:PGs X es t)
  (hn:(assignEach es X.env).length=n:=by rfl) (hst:(assignEach es X.env).findIdx? (·.1)=none:=by rfl):PG X (.Tuple es k pos) (GH X.K n t):=by
 intro pins s σ H v u Q I r hw
 obtain⟨a,xs,e1,hq,hl,hw⟩:=hw
 subst e1
 cases r
 obtain⟨its,rv,ht,hz⟩:=I.tuple hq
 refine assign_Tuple_tuple (I.ok.hd hc) ht (by simp[hn,<-hl,rv.length]) hst fun h' hx=>?_
 have I1:Inv X pins σ H { s with heap:=h' }:=I.kept (t':=s.toks) fun b o e=>hx b o (Nat.ne_of_lt (Heap.lt_size e)) e
 exact h pins _ σ H xs _ Q I1 (by simpa using rv) hw
def GI(to ti:TE)(t:D6):TG:=fun v σ H Q=>to σ H fun o H1=>ti σ H1 fun i H2=>t o i v H2 fun H3=>Q σ H3
theorem BZ{o i:Expr}{to ti:TE}{t:D6}(ho:PE X o to)(hi:PE X i ti)(hs:Ge X t)
  (ha:∀v,assign (.Subscript o i pos) X.env v=(do
   let ov <-holding [v] (eval o X.env)
   let iv <-holding [v,ov] (eval i X.env)
   standAt pos
   holding [v,ov,iv] (setItem ov iv v)
   release [v,ov,iv] []):=by intro _;rfl):PG X (.Subscript o i pos) (GI to ti t):=by
 intro pins s σ H v u Q I r h
 rw[ha]
 refine wpAny_bind (wpAny_holding (thn (ho pins s σ H _ I h) fun ov s1 hz=>?_))
 obtain⟨x,H1,I1,r1,q1⟩:=hz
 refine wpAny_bind (wpAny_holding (thn (hi pins s1 σ H1 _ I1 q1) fun iv s2 hz=>?_))
 obtain⟨y,H2,I2,r2,q2⟩:=hz
 refine wpAny_bind (wpAny_standAt (wpAny_bind (wpAny_holding (thn (hs pins s2 σ H2 x y v ov iv u _ I2 r1 r2 r q2) fun _ s3 ⟨H3,I3,q3⟩=>?_))))
 exact wpAny_release ⟨σ,H3,I3,q3⟩
def Bv(te:TE)(g:TG):TS:=fun D σ H=>te σ H fun x H1=>g x σ H1 D.nx
theorem BW{tg e:Expr}{te:TE}{g:TG}(he:PE X e te)(hg:PG X tg g)(hs:swapsWithSole [tg] e pos.line X.env=pure false:=by rfl)(hw:swappedStores [tg] e X.env=pure none:=by rfl)
  (h1:(assignEach [tg] X.env).map (·.2)=[assign tg X.env]:=by rfl):PS X (.Assign [tg] e pos) (Bv te g):=by
 intro pins s σ H D I h
 refine wpAny_Assign_stores (thn (he pins s σ H _ I h) fun v s1 hz=>?_) hs hw
 obtain⟨x,H1,I1,r1,q1⟩:=hz
 rw[h1]
 exact thn (hg pins s1 σ H1 x v _ I1 r1 q1) fun _ s2 q=>q
theorem BS{i:Nat}{x:Str}{e:Expr}{te:TE}{pos':Pos}(hN:X.N.Nodup)(hi:X.N[i]?=some x)(hx:Loc X.env.scope x)(he:PE X e te)(hs:swapsWith e (some (.Name x pos')) pos.line X.env=pure false:=by rfl)(hf:X.fn x=true\/X.env.scope.names.lookup x=some .local:=by first|exact .inl rfl|exact .inr rfl|assumption) :
  PS X (.Assign [.Name x pos'] e pos) (Bv te (pE i)):=by
 intro pins s σ H D I h
 refine wpAny_Assign_Name (thn (he pins s σ H _ I h) fun v s1 hz=>?_) hs
 obtain⟨y,H1,I1,r1,q1⟩:=hz
 exact nB I1 hN hi hx r1 (fun s2 I2=>⟨_,H1,I2,q1⟩) hf
end
section
variable{X:Cx}{pos:Pos}
def qr(c:TT)(tb:TS):TS:=fun D σ H=>∃W:Nat->St->Hp->Prop,(∃m,W m σ H)/\∀m σ H,W m σ H->
 c σ H fun b H1=>if b=true then ∃N:St->Hp->Prop,(∀σ' H',N σ' H'->∃m',m'<m/\W m' σ' H')/\tb { D with nx:=N,ct:=N,bk:=D.nx } σ H1 else D.nx σ H1
theorem u6{c:Expr}{body:List Stmt}{tc:TT}{tb:TS}(hp:PassesOwn (model X.prog X.w) X.A X.env X.xe)(hc:PT X c tc)(hb:PSs X body tb):PS X (.While c body [] pos) (qr tc tb):=by
 intro pins s σ H D I h
 obtain⟨W,⟨m0,w0⟩,turn⟩:=h
 refine wpAny_While (codeAny_whileLoop (fun n s'=>∃σ' H',Inv X pins σ' H' s'/\W n σ' H') ?_ m0 ⟨σ,H,I,w0⟩)
 rintro n s1 ⟨σ1,H1,I1,w1⟩
 refine wpAny_passesOwn hp (thn (hc pins s1 σ1 H1 _ I1 (turn n σ1 H1 w1)) fun b s2 ⟨H2,I2,q2⟩=>?_)
 cases b with
 |true=>
  obtain⟨N,hN,q2⟩:=q2
  rw[if_pos rfl]
  refine wpAny_passesOwn hp (thn (hb pins s2 σ1 H2 _ I2 q2) fun f s3 q3=>?_)
  cases f with
  |next=>
   obtain⟨σ3,H3,I3,n3⟩:=q3
   obtain⟨m',hm,w3⟩:=hN σ3 H3 n3
   exact⟨m',hm,σ3,H3,I3,w3⟩
  |cont=>
   obtain⟨σ3,H3,I3,n3⟩:=q3
   obtain⟨m',hm,w3⟩:=hN σ3 H3 n3
   exact⟨m',hm,σ3,H3,I3,w3⟩
  |brk=>exact q3
  |ret v=>exact q3
 |false=>
  rw[if_neg Bool.false_ne_true]
  exact wpAny_execs_nil ⟨σ1,H2,I2,q2⟩
end
structure It where
 go:Nat->Hp->Prop
 yld:Nat->Hp->V->Hp->Prop
 stop:Nat->Hp->Prop
def tX(X:Cx)(pins:List (Addr×Obj))(H:Hp)(b:Addr):Prop:=
 H b=none/\b≠X.env.locals/\b∉X.fs/\(b∈X.ex\/X.s₀.heap.objs.size<=b)/\(∀x c,X.env.cells.lookup x=some c->c≠b)/\∀p∈X.pn++pins,p.1≠b
theorem Inv.fpOk{X:Cx}{pins:List (Addr×Obj)}{σ:St}{H H':Hp}{s:Shared}{b:Addr}(I:Inv X pins σ H s)(hb:s.heap.objs.size<=b)(hn:H' b=none):tX X pins H' b:=by
 refine⟨hn,Nat.ne_of_gt (Nat.lt_of_lt_of_le I.lt hb),I.nofs hb,.inr (Nat.le_trans I.sz hb),fun x c e z=>?_,fun p hp z=>?_⟩
 ·obtain⟨v,q⟩:=I.cell x c e
  exact absurd (Nat.lt_of_lt_of_le q.lt (by rw[z];exact hb)) (Nat.lt_irrefl _)
 ·exact absurd (Nat.lt_of_lt_of_le (Heap.lt_size (I.pin p hp).1) (by rw[z];exact hb)) (Nat.lt_irrefl _)
structure DD(P:Program)(w:World)(K:PySem.W.Frag)(tg:Expr)(J:It)(fp:List Addr)(it:Addr)(tn:Nat->Heap->Prop):Prop where
 mem:it∈fp
 obj:∀i h,tn i h->∀b∈fp,∃o,h.get? b=some o/\∀v,o.data≠.cell v
 keep:∀i h h',tn i h->(∀b∈fp,∀o,h.get? b=some o->h'.get? b=some o)->tn i h'
 item:∀(X:Cx),X.prog=P->X.w=w->X.K=K->X.calm=true->∀(i:Nat) (pins:List (Addr×Obj)) (s:Shared) (σ:St) (H:Hp) (E:Value->Shared->Prop),Inv X pins σ H s->(∀b∈fp,tX X pins H b)->tn i s.heap->J.go i H->
  wpAny (model P w) X.A (pyNext (.ref it)) (fun r s1=>∃u,r=some u/\
   wpAny (model P w) X.A (letOwnedTupleGo tg (.ref it) u) (fun _ s2=>∃x H',Inv X pins σ H' s2/\bu x u/\J.yld i H x H'/\tn (i+1) s2.heap/\∀b∈fp,H' b=none) E s1) E s
 done:∀(X:Cx),X.prog=P->X.w=w->X.K=K->X.calm=true->∀(i:Nat) (pins:List (Addr×Obj)) (s:Shared) (σ:St) (H:Hp) (E:Value->Shared->Prop),Inv X pins σ H s->(∀b∈fp,tX X pins H b)->tn i s.heap->J.stop i H->
  wpAny (model P w) X.A (pyNext (.ref it)) (fun r s1=>r=none/\Inv X pins σ H s1) E s
 self:∀(A:Around) (i:Nat) (s:Shared) (Q:Value->Shared->Prop) (E:Value->Shared->Prop),tn i s.heap->Q (.ref it) s->wpAny (model P w) A (pyIter (.ref it)) Q E s
abbrev TI:=St->Hp->(It->Hp->Prop)->Prop
def PIE(X:Cx)(pins:List (Addr×Obj))(σ:St)(tg:Expr)(R:It->Hp->Prop)(itv:Value)(s2:Shared):Prop:=
 ∃(it:Addr) (fp:List Addr) (tn:Nat->Heap->Prop) (J:It) (H':Hp),itv=.ref it/\Inv X pins σ H' s2/\DD X.prog X.w X.K tg J fp it tn/\tn 0 s2.heap/\(∀b∈fp,tX X pins H' b)/\R J H'
def PI(X:Cx)(tg iter:Expr)(wi:TI):Prop:=
 ∀(pins:List (Addr×Obj)) (s:Shared) (σ:St) (H:Hp) (R:It->Hp->Prop),Inv X pins σ H s->wi σ H R->
  wpAny (model X.prog X.w) X.A (eval iter X.env) (fun v s1=>wpAny (model X.prog X.w) X.A (pyIter v) (PIE X pins σ tg R) X.xe s1) X.xe s
theorem wg {M : Model} {A : Around} {E : Value -> Shared -> Prop} {s : Shared} {tg : Expr} {it : Addr} {u : Value} {o : Obj} {n : String} {vs : Array Value} {Q : Unit -> Shared -> Prop} (ho : s.heap.get? it = some o) (hc : o.cls = .type n) (hd : o.data = .fields vs)
    (hn:["enumerate","zip","dict_itemiterator","dict_reverseitemiterator","odict_iterator","itertools.zip_longest","itertools.pairwise"].contains n=false) (hQ:Q () s):wpAny M A (letOwnedTupleGo tg (.ref it) u) Q E s:=by
  unfold letOwnedTupleGo
  cases tg<;>first
    |exact wpAny_pure hQ
    | (cases u <;> first
        |exact wpAny_pure hQ
        | (refine wpAny_bind (wpAny_load ho ?_)
           rw[hc,hd]
           show wpAny M A (if (["enumerate","zip","dict_itemiterator","dict_reverseitemiterator","odict_iterator","itertools.zip_longest","itertools.pairwise"].contains n&&vs[0]? == some (rawInt _))=true then _ else _) Q E s
           rw[if_neg (by intro h;rw[hn,Bool.false_and]at h;cases h)]
           exact wpAny_pure hQ))
def Itl(K:PySem.W.Frag)(a:Addr):It:=
 ⟨fun i H=>∃xs x,SqL K H a xs/\xs[i]?=some x,fun i H x H'=>H'=H/\∀xs,SqL K H a xs->xs[i]?=some x,fun i H=>∃xs,SqL K H a xs/\xs.length<=i⟩
def Itt(K:PySem.W.Frag)(a:Addr):It:=
 ⟨fun i H=>∃xs x,SqT K H a xs/\xs[i]?=some x,fun i H x H'=>H'=H/\∀xs,SqT K H a xs->xs[i]?=some x,fun i H=>∃xs,SqT K H a xs/\xs.length<=i⟩
def Itr(lo:Int)(n:Nat):It:=⟨fun i _=>i<n,fun i H x H'=>H'=H/\x=.int (lo+i),fun i _=>n<=i⟩
theorem qp{P:Program}{w:World}{K:PySem.W.Frag}{tg:Expr}(a it:Addr):DD P w K tg (Itl K a) [it] it (fun i h=>h.IsListIter it a i) where
 mem:=by simp
 obj:=fun i h st b hb=>by
  have e:b=it:=by simpa using hb
  subst e
  obtain⟨o,e,c,d⟩:=st
  exact⟨o,e,fun v z=>by rw[d]at z;cases z⟩
 keep:=fun i h h' st k=>st.at fun o e=>k it (by simp) o e
 item:=by
  intro X hP hw hK hc i pins s σ H E I hf st hg
  subst hP hw hK
  obtain⟨xs,x,hq,hx⟩:=hg
  obtain⟨its,rv,p,hz⟩:=I.list hq
  obtain⟨u,hu,ru⟩:=rv.get hx
  obtain⟨f0,f1,f2,f3,f4,f5⟩:=hf it (by simp)
  refine wpAny_pyNext_list_item st p.isList (x:=u) (by simpa using hu) fun h' st' sb=>?_
  have I1:Inv X pins σ H { s with heap:=h' }:=I.turned (t':=s.toks) (fun b o hb e=>(sb.2 b hb).trans e) f0 f1 f3 f4 f5
  obtain⟨o,e,c,d⟩:=id st'
  exact⟨u,rfl,wg (s:={ s with heap:=h' }) e c d (by decide) ⟨x,H,I1,ru,⟨rfl,fun ys hy=>by rw[I.list_inj hy hq];exact hx⟩,st',fun b hb=>(hf b hb).1⟩⟩
 done:=by
  intro X hP hw hK hc i pins s σ H E I hf st hg
  subst hP hw hK
  obtain⟨xs,hq,hx⟩:=hg
  obtain⟨its,rv,p,hz⟩:=I.list hq
  obtain⟨f0,f1,f2,f3,f4,f5⟩:=hf it (by simp)
  have hl:=rv.length
  exact wpAny_pyNext_list_end (I.ok.hd hc) st p.isList (by simp;omega) fun h' eb=>⟨rfl,I.turned (t':=s.toks) (fun b o hb e=>eb b o hb e) f0 f1 f3 f4 f5⟩
 self:=fun _ _ _ _ _ st h=>wpAny_pyIter_listiter st h
theorem oV{P:Program}{w:World}{K:PySem.W.Frag}{tg:Expr}(a it:Addr):DD P w K tg (Itt K a) [it] it (fun i h=>h.IsTupleIter it a i) where
 mem:=by simp
 obj:=fun i h st b hb=>by
  have e:b=it:=by simpa using hb
  subst e
  obtain⟨o,e,c,d⟩:=st
  exact⟨o,e,fun v z=>by rw[d]at z;cases z⟩
 keep:=fun i h h' st k=>st.at fun o e=>k it (by simp) o e
 item:=by
  intro X hP hw hK hc i pins s σ H E I hf st hg
  subst hP hw hK
  obtain⟨xs,x,hq,hx⟩:=hg
  obtain⟨its,rv,p,hz⟩:=I.tuple hq
  obtain⟨u,hu,ru⟩:=rv.get hx
  obtain⟨f0,f1,f2,f3,f4,f5⟩:=hf it (by simp)
  refine wpAny_pyNext_tuple_item st (show s.heap.IsTuple a its.toArray from p) (x:=u) (by simpa using hu) fun h' st' sb=>?_
  have I1:Inv X pins σ H { s with heap:=h' }:=I.turned (t':=s.toks) (fun b o hb e=>(sb.2 b hb).trans e) f0 f1 f3 f4 f5
  obtain⟨o,e,c,d⟩:=id st'
  exact⟨u,rfl,wg (s:={ s with heap:=h' }) e c d (by decide) ⟨x,H,I1,ru,⟨rfl,fun ys hy=>by rw[I.tuple_inj hy hq];exact hx⟩,st',fun b hb=>(hf b hb).1⟩⟩
 done:=by
  intro X hP hw hK hc i pins s σ H E I hf st hg
  subst hP hw hK
  obtain⟨xs,hq,hx⟩:=hg
  obtain⟨its,rv,p,hz⟩:=I.tuple hq
  obtain⟨f0,f1,f2,f3,f4,f5⟩:=hf it (by simp)
  have hl:=rv.length
  exact wpAny_pyNext_tuple_end (I.ok.hd hc) st (show s.heap.IsTuple a its.toArray from p) (by simp;omega) fun h' eb=>⟨rfl,I.turned (t':=s.toks) (fun b o hb e=>eb b o hb e) f0 f1 f3 f4 f5⟩
 self:=fun _ _ _ _ _ st h=>wpAny_pyIter_tupleiter st h
theorem oW{P:Program}{w:World}{K:PySem.W.Frag}{tg:Expr}(it:Addr)(lo:Int)(n:Nat):DD P w K tg (Itr lo n) [it] it (fun i h=>IsRangeIter h it (lo+(i:Nat)*1) ((n:Int)-(i:Nat)) 1) where
 mem:=by simp
 obj:=fun i h st b hb=>by
  have e:b=it:=by simpa using hb
  subst e
  exact⟨_,st,fun v z=>by
   have z':Data.fields _=Data.cell v:=z
   cases z'⟩
 keep:=fun i h h' st k=>k it (by simp) _ st
 item:=by
  intro X hP hw hK hc i pins s σ H E I hf st hg
  subst hP hw hK
  obtain⟨f0,f1,f2,f3,f4,f5⟩:=hf it (by simp)
  have W:=Walks.range (prog:=X.prog) (w:=X.w) (I.ok.hd hc) it lo 1 n
  refine W.item i s _ _ hg st fun v h' tk hv st' kk=>?_
  obtain⟨t,rfl⟩:=hv
  have I1:Inv X pins σ H { s with heap:=h',toks:=tk }:=I.turned (fun b o hb e=>kk b o (by simpa using hb) e) f0 f1 f3 f4 f5
  refine⟨_,rfl,wg (s:={ s with heap:=h',toks:=tk }) (n:="range_iterator") st' rfl rfl (by decide) ⟨.int (lo+i),H,I1,⟨t,?_⟩,⟨rfl,rfl⟩,st',fun b hb=>(hf b hb).1⟩⟩
  rw[Int.mul_one]
 done:=by
  intro X hP hw hK hc i pins s σ H E I hf st hg
  subst hP hw hK
  obtain⟨f0,f1,f2,f3,f4,f5⟩:=hf it (by simp)
  exact wpAny_pyNext_range_end (I.ok.hd hc) st (by have:n<=i:=hg;omega) fun h' eb=>⟨rfl,I.turned (t':=s.toks) (fun b o hb e=>eb b o hb e) f0 f1 f3 f4 f5⟩
 self:=fun _ _ _ _ _ st h=>wpAny_pyIter_rangeiter st h
section
variable{X:Cx}{tg:Expr}
def De(K:PySem.W.Frag)(tl:TE):TI:=fun σ H R=>tl σ H fun x H1=>∃a,x=.ref a/\(∃xs,SqL K H1 a xs)/\R (Itl K a) H1
def GG(K:PySem.W.Frag)(tl:TE):TI:=fun σ H R=>tl σ H fun x H1=>∃a,x=.ref a/\(∃xs,SqT K H1 a xs)/\R (Itt K a) H1
theorem zx{l:Expr}{tl:TE}(hl:PE X l tl):PI X tg l (De X.K tl):=by
 intro pins s σ H R I h
 refine thn (hl pins s σ H _ I h) fun v s1 hz=>?_
 obtain⟨x,H1,I1,r1,q1⟩:=hz
 obtain⟨a,e,⟨xs,hq⟩,q⟩:=q1
 subst e
 cases r1
 obtain⟨its,rv,p,hz⟩:=I1.list hq
 refine wpAny_pyIter_list p.isList ?_
 refine⟨s1.heap.objs.size,[s1.heap.objs.size],_,_,H1,rfl,I1.kept (t':=s1.toks) fun b o e=>Heap.get?_push_of_some _ e,qp a _,⟨_,Heap.get?_push_size _ rfl,rfl,rfl⟩,fun b hb=>?_,q⟩
 have e:b=s1.heap.objs.size:=by simpa using hb
 subst e
 exact I1.fpOk (Nat.le_refl _) (I1.hok.fresh (Nat.le_refl _))
theorem BX{l:Expr}{tl:TE}(hl:PE X l tl):PI X tg l (GG X.K tl):=by
 intro pins s σ H R I h
 refine thn (hl pins s σ H _ I h) fun v s1 hz=>?_
 obtain⟨x,H1,I1,r1,q1⟩:=hz
 obtain⟨a,e,⟨xs,hq⟩,q⟩:=q1
 subst e
 cases r1
 obtain⟨its,rv,p,hz⟩:=I1.tuple hq
 refine wpAny_pyIter_tuple (show s1.heap.IsTuple a its.toArray from p) ?_
 refine⟨s1.heap.objs.size,[s1.heap.objs.size],_,_,H1,rfl,I1.kept (t':=s1.toks) fun b o e=>Heap.get?_push_of_some _ e,oV a _,⟨_,Heap.get?_push_size _ rfl,rfl,rfl⟩,fun b hb=>?_,q⟩
 have e:b=s1.heap.objs.size:=by simpa using hb
 subst e
 exact I1.fpOk (Nat.le_refl _) (I1.hok.fresh (Nat.le_refl _))
theorem uR{pins:List (Addr×Obj)}{σ:St}{H:Hp}{s:Shared}{R:It->Hp->Prop}{E:Value->Shared->Prop}{lo hi:Int}{t u v:Tok}{tk:Nat}(I:Inv X pins σ H s)(h1:-(2^62)<=lo)(h2:lo<2^62)(h3:-(2^62)<=hi)(h4:hi<2^62)
  (q:R (Itr lo (hi-lo).toNat) H):wpAny (model X.prog X.w) X.A (pyIter (.ref s.heap.objs.size)) (PIE X pins σ tg R) E { s with heap:=s.heap.push { cls:=.type "range",data:=.fields #[.int lo t,.int hi u,.int 1 v] },toks:=tk }:=by
 refine wpAny_pyIter_range (IsRange.new ..) (small_one h1 h2 h3 h4) ?_
 have I1:Inv X pins σ H { s with heap:=s.heap.push { cls:=.type "range",data:=.fields #[.int lo t,.int hi u,.int 1 v] },toks:=tk }:=I.kept fun b o e=>Heap.get?_push_of_some _ e
 refine⟨(s.heap.push { cls:=.type "range",data:=.fields #[.int lo t,.int hi u,.int 1 v] }).objs.size,[(s.heap.push { cls:=.type "range",data:=.fields #[.int lo t,.int hi u,.int 1 v] }).objs.size],_,_,H,rfl,
  I1.kept (t':=tk) fun b o e=>Heap.get?_push_of_some _ e,oW _ lo (hi-lo).toNat,?_,fun b hb=>?_,q⟩
 ·have e1:lo+((0:Nat):Int)*1=lo:=by simp
  have e2:(((hi-lo).toNat:Nat):Int)-((0:Nat):Int)=Builtin.Range.rangeSize lo hi 1:=by rw[rangeSize_one];split<;>omega
  show IsRangeIter _ _ (lo+((0:Nat):Int)*1) ((((hi-lo).toNat:Nat):Int)-((0:Nat):Int)) 1
  rw[e1,e2]
  exact Heap.get?_push_size _ rfl
 ·have e:b=(s.heap.push { cls:=.type "range",data:=.fields #[.int lo t,.int hi u,.int 1 v] }).objs.size:=by simpa using hb
  subst e
  exact I1.fpOk (Nat.le_refl _) (I1.hok.fresh (Nat.le_refl _))
def Dd(ta:TA):TI:=fun σ H R=>ta σ H fun vs H1=>∃j:Int,vs=[.int j]/\-(2^62)<=j/\j<2^62/\R (Itr 0 j.toNat) H1
theorem rg{a:Expr}{ta:TA}{p pos:Pos}(hg:Gl X "range")(hm:X.mg "range"=none)(ha:PA X [a] ta)(hs:starEach [a] X.env=[(false,eval a X.env)]:=by rfl):PI X tg (.Call (.Name "range" p) [a] [] pos) (Dd ta):=by
 intro pins s σ H R I h
 refine Call_ (fR I hg hm boot_range (PyProof.Rows.callWith_type1 (thn (ha pos pins s σ H _ I h) fun us s1 ⟨vs,H1,I1,r1,q1⟩=>?_) hs rfl))
 obtain⟨j,e,q1,q2,q⟩:=q1
 subst e
 cases r1 with
 |cons r rr=>
  cases rr
  obtain⟨t,rfl⟩:=r
  exact call_range_1 (uR I1 (by omega) (by omega) q1 q2 (by simpa using q))
def E2(wi:TI)(g:TG)(tb:TS):TS:=fun D σ H=>wi σ H fun J H1=>∃W:Nat->Nat->St->Hp->Prop,(∃m,W 0 m σ H1)/\∀i m σ H,W i m σ H->
 (J.stop i H/\D.nx σ H)\/(J.go i H/\∃N:St->Hp->Prop,(∀σ' H',N σ' H'->∃m',m'<m/\W (i+1) m' σ' H')/\∀x H',J.yld i H x H'->g x σ H' fun σ2 H2=>tb { D with nx:=N,ct:=N,bk:=D.nx } σ2 H2)
def nT(fp:List Addr)(h:Heap):List (Addr×Obj):=fp.filterMap fun b=>(h.get? b).map fun o=>(b,o)
theorem cq{fp:List Addr}{h:Heap}{b:Addr}{o:Obj}(hb:b∈fp)(e:h.get? b=some o):(b,o)∈nT fp h:=List.mem_filterMap.mpr ⟨b,hb,by rw[e];rfl⟩
theorem rn{fp:List Addr}{h:Heap}{p:Addr×Obj}(hp:p∈nT fp h):p.1∈fp/\h.get? p.1=some p.2:=by
 obtain⟨b,hb,e⟩:=List.mem_filterMap.mp hp
 cases q:h.get? b with
 |none=>rw[q]at e;cases e
 |some o=>
  rw[q]at e
  have e':(b,o)=p:=Option.some.inj e
  subst e'
  exact⟨hb,q⟩
theorem Inv.pinned{pins:List (Addr×Obj)}{σ:St}{H:Hp}{s:Shared}{fp:List Addr}(I:Inv X pins σ H s)(hf:∀b∈fp,tX X pins H b)(ho:∀b∈fp,∃o,s.heap.get? b=some o/\∀v,o.data≠.cell v):Inv X (pins++nT fp s.heap) σ H s:=
 I.pins_of fun p hp=>(List.mem_append.mp hp).elim (fun z=>I.pin p (List.mem_append_right _ z)) fun z=>by
  obtain⟨hb,e⟩:=rn z
  obtain⟨f0,f1,f2,_⟩:=hf p.1 hb
  obtain⟨o,e',d⟩:=ho p.1 hb
  rw[e]at e';cases e'
  exact⟨e,f0,f1,f2,d⟩
theorem Inv.unpinned{pins pl:List (Addr×Obj)}{σ:St}{H:Hp}{s:Shared}(I:Inv X (pins++pl) σ H s):Inv X pins σ H s:=I.pins_of fun p hp=>I.pin p (List.mem_append_right _ (List.mem_append_left _ hp))
theorem BV{iter:Expr}{body:List Stmt}{wi:TI}{g:TG}{tb:TS}{pos:Pos}(hp:PassesOwn (model X.prog X.w) X.A X.env X.xe)(hc:X.calm=true)(hi:PI X tg iter wi)(hg:PG X tg g)(hb:PSs X body tb)
  (hs:∀x,foldedSetIterable iter X.env x=pure x:=by intro _;rfl):PS X (.For tg iter body [] pos) (E2 wi g tb):=by
 intro pins s σ H D I h
 refine wpAny_For (thn (hi pins s σ H _ I h) fun v s1 h1=>thn h1 fun itv s2 h2=>?_) hs
 obtain⟨it,fp,tn,J,H2,e,I2,T,st2,f2,W,⟨m0,w0⟩,turn⟩:=h2
 subst e
 have stat:∀{H':Hp},(∀b∈fp,H' b=none)->∀b∈fp,tX X pins H' b:=fun hn b hb=>⟨hn b hb,(f2 b hb).2⟩
 refine codeAny_forLoop_any (fun n s'=>∃i σ' H',Inv X pins σ' H' s'/\tn i s'.heap/\(∀b∈fp,H' b=none)/\W i n σ' H') ?_ m0 ⟨0,σ,H2,I2,st2,fun b hb=>(f2 b hb).1,w0⟩
 rintro n s3 ⟨i,σ3,H3,I3,st3,fr3,w3⟩
 rcases turn i n σ3 H3 w3 with⟨stop,qn⟩|⟨go,N,hN,step⟩
 ·refine wpAny_passesOwn hp (thn (T.done X rfl rfl rfl hc i pins s3 σ3 H3 X.xe I3 (stat fr3) st3 stop) fun r s4 ⟨hr,I4⟩=>?_)
  subst hr
  exact wpAny_execs_nil ⟨σ3,H3,I4,qn⟩
 ·refine wpAny_passesOwn hp (thn (T.item X rfl rfl rfl hc i pins s3 σ3 H3 X.xe I3 (stat fr3) st3 go) fun r s4 ⟨u,hr,h4⟩=>?_)
  subst hr
  refine wpAny_passesOwn hp (thn h4 fun _ s5 hz=>?_)
  obtain⟨x,H5,I5,r5,y5,st5,fr5⟩:=hz
  have I5':=I5.pinned (stat fr5) (T.obj _ _ st5)
  refine wpAny_passesOwn hp (thn (hg _ s5 σ3 H5 x u _ I5' r5 (step x H5 y5)) fun _ s6 hz=>?_)
  obtain⟨σ6,H6,I6,q6⟩:=hz
  refine wpAny_passesOwn hp (thn (hb _ s6 σ6 H6 _ I6 q6) fun f s7 q7=>?_)
  have again:∀{σ7:St} {H7:Hp},Inv X (pins++nT fp s5.heap) σ7 H7 s7->N σ7 H7->∃m,m<n/\∃i σ' H',Inv X pins σ' H' s7/\tn i s7.heap/\(∀b∈fp,H' b=none)/\W i m σ' H':=fun{σ7 H7} I7 n7=>by
   obtain⟨m',hm,w7⟩:=hN σ7 H7 n7
   refine⟨m',hm,i+1,σ7,H7,I7.unpinned,T.keep _ _ _ st5 fun b hb o e=>(I7.pin (b,o) (List.mem_append_right _ (List.mem_append_right _ (cq hb e)))).1,fun b hb=>?_,w7⟩
   obtain⟨o,e,d⟩:=T.obj _ _ st5 b hb
   exact(I7.pin (b,o) (List.mem_append_right _ (List.mem_append_right _ (cq hb e)))).2.1
  cases f with
  |next=>obtain⟨σ7,H7,I7,n7⟩:=q7;exact again I7 n7
  |cont=>obtain⟨σ7,H7,I7,n7⟩:=q7;exact again I7 n7
  |brk=>obtain⟨σ7,H7,I7,q7⟩:=q7;exact⟨σ7,H7,I7.unpinned,q7⟩
  |ret v=>obtain⟨x7,σ7,H7,I7,r7,q7⟩:=q7;exact⟨x7,σ7,H7,I7.unpinned,r7,q7⟩
end
abbrev R2:=V->V->Hp->VK->Prop
def OpR(X:Cx)(f:Value->Value->Sem Value)(r:R2):Prop:=
 ∀(pins:List (Addr×Obj)) (s:Shared) (σ:St) (H:Hp) (x y:V) (v u:Value) (Q:VK),Inv X pins σ H s->bu x v->bu y u->r x y H Q->
  wpAny (model X.prog X.w) X.A (f v u) (EP X pins σ Q) X.xe s
def UnR(X:Cx)(f:Value->Sem Value)(r:V->Hp->VK->Prop):Prop:=
 ∀(pins:List (Addr×Obj)) (s:Shared) (σ:St) (H:Hp) (x:V) (v:Value) (Q:VK),Inv X pins σ H s->bu x v->r x H Q->
  wpAny (model X.prog X.w) X.A (f v) (EP X pins σ Q) X.xe s
def bT(X:Cx)(f:Value)(r:List V->Hp->VK->Prop):Prop:=
 ∀(pins:List (Addr×Obj)) (s:Shared) (σ:St) (H:Hp) (xs:List V) (us:List Value) (Q:VK),Inv X pins σ H s->aV xs us->r xs H Q->
  wpAny (model X.prog X.w) X.A (call f us) (EP X pins σ Q) X.xe s
def tOp(r:R2)(ta tb:TE):TE:=fun σ H Q=>ta σ H fun x H1=>tb σ H1 fun y H2=>r x y H2 Q
def tUn(r:V->Hp->VK->Prop)(ta:TE):TE:=fun σ H Q=>ta σ H fun x H1=>r x H1 Q
def rI(C:Int->Int->Prop)(g:Int->Int->V):R2:=fun x y H Q=>∃i j,x=.int i/\y=.int j/\C i j/\Q (g i j) H
def rI0(g:Int->Int->V):R2:=fun x y H Q=>∃i j,x=.int i/\y=.int j/\Q (g i j) H
def rU(g:Int->V):V->Hp->VK->Prop:=fun x H Q=>∃i,x=.int i/\Q (g i) H
section
variable{X:Cx}{a b c:Expr}{ta tb tc:TE}{pos:Pos}
theorem Ga(ha:PE X a ta)(hb:PE X b tb){pins:List (Addr×Obj)}{s:Shared}{σ:St}{H:Hp}{R:V->V->Hp->Prop}(I:Inv X pins σ H s)
  (h:ta σ H fun x H1=>tb σ H1 fun y H2=>R x y H2) {Q:Value->Shared->Prop} {f:Value->Value->Sem Value}
  (hf:∀v u s2 x y H2,Inv X pins σ H2 s2->bu x v->bu y u->R x y H2->wpAny (model X.prog X.w) X.A (f v u) Q X.xe s2) :
  wpAny (model X.prog X.w) X.A (eval a X.env) (fun v s₁=>wpAny (model X.prog X.w) X.A (eval b X.env) (fun u s₂=>wpAny (model X.prog X.w) X.A (f v u) Q X.xe s₂) X.xe s₁) X.xe s:=by
 refine thn (ha pins s σ H _ I h) fun v s1 hz=>?_
 obtain⟨x,H1,I1,r1,q1⟩:=hz
 refine thn (hb pins s1 σ H1 _ I1 q1) fun u s2 hz=>?_
 obtain⟨y,H2,I2,r2,q2⟩:=hz
 exact hf v u s2 x y H2 I2 r1 r2 q2
theorem Fl{op:Operator}{r:R2}(ho:OpR X (binaryOp op) r)(ha:PE X a ta)(hb:PE X b tb):PE X (.BinOp a op b pos) (tOp r ta tb):=by
 intro pins s σ H Q I h
 exact wpAny_BinOp (Ga ha hb I h fun v u s2 x y H2 I2 rx ry q=>ho pins s2 σ H2 x y v u Q I2 rx ry q)
theorem Fj{op:UnaryOp}{r:V->Hp->VK->Prop}(ho:UnR X (unaryOp op) r)(ha:PE X a ta):PE X (.UnaryOp op a pos) (tUn r ta):=by
 intro pins s σ H Q I h
 exact UnaryOp_ (thn (ha pins s σ H _ I h) fun v s1 ⟨x,H1,I1,r1,q1⟩=>ho pins s1 σ H1 x v Q I1 r1 q1)
theorem opI{f:Value->Value->Sem Value}{C:Int->Int->Prop}{g:Int->Int->Int}
  (rule:∀(i j:Int) (t u:Tok) (s:Shared) (Q:Value->Shared->Prop) (E:Value->Shared->Prop),C i j->Q (.int (g i j) s.toks) { s with toks:=s.toks+1 }->wpAny (model X.prog X.w) X.A (f (.int i t) (.int j u)) Q E s) :
  OpR X f (rI C fun i j=>.int (g i j)):=by
 intro pins s σ H x y v u Q I rx ry h
 obtain⟨i,j,rfl,rfl,hc,q⟩:=h
 obtain⟨t,rfl⟩:=rx
 obtain⟨t',rfl⟩:=ry
 exact rule i j t t' s _ _ hc ⟨.int (g i j),H,I.tok _,⟨_,rfl⟩,q⟩
theorem Gu{f:Value->Value->Sem Value}{g:Int->Int->Int}
  (rule:∀(i j:Int) (t u:Tok) (s:Shared) (Q:Value->Shared->Prop) (E:Value->Shared->Prop),Q (.int (g i j) s.toks) { s with toks:=s.toks+1 }->wpAny (model X.prog X.w) X.A (f (.int i t) (.int j u)) Q E s) :
  OpR X f (rI0 fun i j=>.int (g i j)):=by
 intro pins s σ H x y v u Q I rx ry h
 obtain⟨i,j,rfl,rfl,q⟩:=h
 obtain⟨t,rfl⟩:=rx
 obtain⟨t',rfl⟩:=ry
 exact rule i j t t' s _ _ ⟨.int (g i j),H,I.tok _,⟨_,rfl⟩,q⟩
theorem Fy{f:Value->Value->Sem Value}{g:Int->Int->Bool}
  (rule:∀(i j:Int) (t u:Tok) (s:Shared) (Q:Value->Shared->Prop) (E:Value->Shared->Prop),Q (.bool (g i j)) s->wpAny (model X.prog X.w) X.A (f (.int i t) (.int j u)) Q E s) :
  OpR X f (rI0 fun i j=>.bl (g i j)):=by
 intro pins s σ H x y v u Q I rx ry h
 obtain⟨i,j,rfl,rfl,q⟩:=h
 obtain⟨t,rfl⟩:=rx
 obtain⟨t',rfl⟩:=ry
 exact rule i j t t' s _ _ ⟨.bl (g i j),H,I,rfl,q⟩
def GP(i j:Int):Prop:=0<=j/\j<=1000000/\i.natAbs<2^64
def x8(i j:Int):Prop:=(-(2^64)<i/\i<2^64)\/(-(2^64)<j/\j<2^64)
theorem x8.ok{i j:Int}(h:x8 i j):IntMulOk i j:=by
 rcases h with⟨h1,h2⟩|⟨h1,h2⟩
 ·exact .of_left (intBits_le_64 h1 h2)
 ·exact .of_right (intBits_le_64 h1 h2)
theorem Cu:OpR X (binaryOp .Add) (rI0 fun i j=>.int (i+j)):=Gu fun _ _ _ _ _ _ _ q=>add_int q
theorem xA:OpR X (binaryOp .Sub) (rI0 fun i j=>.int (i-j)):=Gu fun _ _ _ _ _ _ _ q=>sub_int q
theorem fe:OpR X (binaryOp .Mult) (rI x8 fun i j=>.int (i*j)):=opI fun _ _ _ _ _ _ _ hc q=>mul_int q hc.ok
theorem nW:OpR X (binaryOp .Mod) (rI (fun _ j=>0<j) fun i j=>.int (i % j)):=opI fun i j _ _ _ _ _ hc q=>by
 have h1:(0:Int)<j:=hc
 exact mod_int' (by omega) (by rw[Int.fmod_eq_emod_of_nonneg i (by omega)];exact q)
theorem unI{f:Value->Sem Value}{g:Int->Int}
  (rule:∀(i:Int) (t:Tok) (s:Shared) (Q:Value->Shared->Prop) (E:Value->Shared->Prop),Q (.int (g i) s.toks) { s with toks:=s.toks+1 }->wpAny (model X.prog X.w) X.A (f (.int i t)) Q E s) :
  UnR X f (rU fun i=>.int (g i)):=by
 intro pins s σ H x v Q I rx h
 obtain⟨i,rfl,q⟩:=h
 obtain⟨t,rfl⟩:=rx
 exact rule i t s _ _ ⟨.int (g i),H,I.tok _,⟨_,rfl⟩,q⟩
theorem wY:UnR X (unaryOp .USub) (rU fun i=>.int (-i)):=unI fun _ _ _ _ _ q=>neg_int q
end
def E5:V->V->Bool
 |.non,.non=>true|.non,.int _=>true|.int _,.non=>true|.non,.bl _=>true|.bl _,.non=>true|.non,.str _=>true|.str _,.non=>true
 |.int _,.int _=>true|.bl _,.bl _=>true|.str _,.str _=>true|.byt _,.byt _=>true
 |.int _,.str _=>true|.str _,.int _=>true|.bl _,.str _=>true|.str _,.bl _=>true
 |_,_=>false
def rEq:R2:=fun x y H Q=>E5 x y=true/\Q (.bl (decide (x=y))) H
def rNe:R2:=fun x y H Q=>E5 x y=true/\Q (.bl (!decide (x=y))) H
theorem sN{i j:Int}:decide (V.int i=V.int j)=(i == j):=by
 rw[Bool.eq_iff_iff]
 simp
theorem xT{i j:Bool}:decide (V.bl i=V.bl j)=(i == j):=by
 rw[Bool.eq_iff_iff]
 simp
theorem sM{i j:Str}:decide (V.str i=V.str j)=(i == j):=by
 rw[Bool.eq_iff_iff]
 simp
theorem sO{i j:Array UInt8}:decide (V.byt i=V.byt j)=(i.toList == j.toList):=by
 rw[Bool.eq_iff_iff]
 cases i
 cases j
 simp
section
variable{X:Cx}{a b c:Expr}{ta tb tc:TE}{pos:Pos}
theorem aP{pins:List (Addr×Obj)}{σ:St}{H:Hp}{s:Shared}{Q:VK}{k k':Bool}(I:Inv X pins σ H s)(q:Q (.bl k) H)(e:k=k'):EP X pins σ Q (.bool k') s:=by
 subst e
 exact⟨.bl k,H,I,rfl,q⟩
theorem vD:OpR X (compareOp .Eq) rEq:=by
 intro pins s σ H x y v u Q I rx ry h
 obtain⟨hs,q⟩:=h
 cases x with
 |non=>
  cases rx
  cases y with
  |non=>cases ry;exact PySem.EqNone.eq_none_none (aP I q (by simp))
  |bl j=>cases ry;exact PySem.EqNone.eq_none_bool (aP I q (by simp))
  |int j=>obtain⟨t',rfl⟩:=ry;exact PySem.EqNone.eq_none_int (aP I q (by simp))
  |str j=>obtain⟨t',rfl⟩:=ry;exact PySem.EqNone.eq_none_str (aP I q (by simp))
  |_=>exact absurd (show false=true from hs) Bool.false_ne_true
 |bl i=>
  cases rx
  cases y with
  |non=>cases ry;exact PySem.EqNone.eq_bool_none (aP I q (by simp))
  |bl j=>cases ry;exact eq_bool (aP I q xT)
  |str j=>obtain⟨t',rfl⟩:=ry;exact PySem.EqMixed.eq_bool_str (aP I q (by simp))
  |_=>exact absurd (show false=true from hs) Bool.false_ne_true
 |int i=>
  obtain⟨t,rfl⟩:=rx
  cases y with
  |non=>cases ry;exact PySem.EqNone.eq_int_none (aP I q (by simp))
  |int j=>obtain⟨t',rfl⟩:=ry;exact eq_int (aP I q sN)
  |str j=>obtain⟨t',rfl⟩:=ry;exact PySem.EqMixed.eq_int_str (aP I q (by simp))
  |_=>exact absurd (show false=true from hs) Bool.false_ne_true
 |str i=>
  obtain⟨t,rfl⟩:=rx
  cases y with
  |non=>cases ry;exact PySem.EqNone.eq_str_none (aP I q (by simp))
  |bl j=>cases ry;exact PySem.EqMixed.eq_str_bool (aP I q (by simp))
  |int j=>obtain⟨t',rfl⟩:=ry;exact PySem.EqMixed.eq_str_int (aP I q (by simp))
  |str j=>obtain⟨t',rfl⟩:=ry;exact eq_str (aP I q sM)
  |_=>exact absurd (show false=true from hs) Bool.false_ne_true
 |byt i=>
  obtain⟨t,rfl⟩:=rx
  cases y with
  |byt j=>obtain⟨t',rfl⟩:=ry;exact PySem.W.eq_bytes (aP I q sO)
  |_=>exact absurd (show false=true from hs) Bool.false_ne_true
 |_=>cases y<;>exact absurd (show false=true from hs) Bool.false_ne_true
theorem vB:OpR X (compareOp .NotEq) rNe:=by
 intro pins s σ H x y v u Q I rx ry h
 obtain⟨hs,q⟩:=h
 cases x with
 |non=>
  cases rx
  cases y with
  |non=>cases ry;exact PySem.EqNone.ne_none_none (aP I q (by simp))
  |bl j=>cases ry;exact PySem.EqNone.ne_none_bool (aP I q (by simp))
  |int j=>obtain⟨t',rfl⟩:=ry;exact PySem.EqNone.ne_none_int (aP I q (by simp))
  |str j=>obtain⟨t',rfl⟩:=ry;exact PySem.EqNone.ne_none_str (aP I q (by simp))
  |_=>exact absurd (show false=true from hs) Bool.false_ne_true
 |bl i=>
  cases rx
  cases y with
  |non=>cases ry;exact PySem.EqNone.ne_bool_none (aP I q (by simp))
  |bl j=>cases ry;exact ne_bool (aP I q (congrArg not xT))
  |str j=>obtain⟨t',rfl⟩:=ry;exact PySem.EqMixed.ne_bool_str (aP I q (by simp))
  |_=>exact absurd (show false=true from hs) Bool.false_ne_true
 |int i=>
  obtain⟨t,rfl⟩:=rx
  cases y with
  |non=>cases ry;exact PySem.EqNone.ne_int_none (aP I q (by simp))
  |int j=>obtain⟨t',rfl⟩:=ry;exact ne_int (aP I q (congrArg not sN))
  |str j=>obtain⟨t',rfl⟩:=ry;exact PySem.EqMixed.ne_int_str (aP I q (by simp))
  |_=>exact absurd (show false=true from hs) Bool.false_ne_true
 |str i=>
  obtain⟨t,rfl⟩:=rx
  cases y with
  |non=>cases ry;exact PySem.EqNone.ne_str_none (aP I q (by simp))
  |bl j=>cases ry;exact PySem.EqMixed.ne_str_bool (aP I q (by simp))
  |int j=>obtain⟨t',rfl⟩:=ry;exact PySem.EqMixed.ne_str_int (aP I q (by simp))
  |str j=>obtain⟨t',rfl⟩:=ry;exact ne_str (aP I q (congrArg not sM))
  |_=>exact absurd (show false=true from hs) Bool.false_ne_true
 |byt i=>
  obtain⟨t,rfl⟩:=rx
  cases y with
  |byt j=>obtain⟨t',rfl⟩:=ry;exact PySem.W.ne_bytes (aP I q (congrArg not sO))
  |_=>exact absurd (show false=true from hs) Bool.false_ne_true
 |_=>cases y<;>exact absurd (show false=true from hs) Bool.false_ne_true
theorem vC:OpR X (compareOp .Lt) (rI0 fun i j=>.bl (decide (i<j))):=Fy fun _ _ _ _ _ _ _ q=>lt_int q
theorem Fx:OpR X (compareOp .Gt) (rI0 fun i j=>.bl (decide (j<i))):=Fy fun _ _ _ _ _ _ _ q=>gt_int q
theorem Cq:OpR X (compareOp .GtE) (rI0 fun i j=>.bl (decide (j<=i))):=Fy fun _ _ _ _ _ _ _ q=>ge_int q
theorem OpR.or{f:Value->Value->Sem Value}{r r':R2}(h:OpR X f r)(h':OpR X f r'):OpR X f (fun x y H Q=>r x y H Q\/r' x y H Q):=by
 intro pins s σ H x y v u Q I rx ry q
 rcases q with q|q
 ·exact h pins s σ H x y v u Q I rx ry q
 ·exact h' pins s σ H x y v u Q I rx ry q
theorem bD(b:Expr){op:CmpOp}(h:op≠.In:=by decide)(h2:op≠.NotIn:=by decide):behindInMarks op b=false:=by
 have e1:(op == CmpOp.In)=false:=by cases op<;>first|rfl|exact absurd rfl h
 have e2:(op == CmpOp.NotIn)=false:=by cases op<;>first|rfl|exact absurd rfl h2
 cases b<;>simp[behindInMarks,e1,e2]
theorem zC{op:CmpOp}{r:R2}(ho:OpR X (compareOp op) r)(ha:PE X a ta)(hb:PE X b tb)(hm:behindInMarks op b=false):PE X (.Compare a [op] [b] pos) (tOp r ta tb):=by
 intro pins s σ H Q I h
 exact wpAny_Compare1 (Ga ha hb I h fun v u s2 x y H2 I2 rx ry q=>ho pins s2 σ H2 x y v u Q I2 rx ry q) hm
def Bl(t:TE):TT:=fun σ H Q=>t σ H fun x H'=>∃k,x=.bl k/\Q k H'
theorem zo{op:CmpOp}{r:R2}(ho:OpR X (compareOp op) r)(ha:PE X a ta)(hb:PE X b tb)(hm:behindInMarks op b=false):PT X (.Compare a [op] [b] pos) (Bl (tOp r ta tb)):=by
 intro pins s σ H Q I h
 refine wpAny_isTrue_Compare1 (thn (ha pins s σ H _ I h) fun v s1 ⟨x,H1,I1,r1,q1⟩=>thn (hb pins s1 σ H1 _ I1 q1) fun u s2 ⟨y,H2,I2,r2,q2⟩=>
  thn (ho pins s2 σ H2 x y v u _ I2 r1 r2 q2) fun c s3 ⟨z,H3,I3,r3,k,e,q3⟩=>?_) hm
 subst e
 cases r3
 exact wpAny_truthy_bool ⟨H3,I3,q3⟩
theorem oa:(sizeLine:Nat)<2^63:=by rw[sizeLine_eq];decide
theorem pq:OpR X (binaryOp .Add) (fun x y H Q=>∃i j,x=.str i/\y=.str j/\i.length+j.length<=sizeLine/\Q (.str (i++j)) H):=by
 intro pins s σ H x y v u Q I rx ry h
 obtain⟨i,j,rfl,rfl,hz,q⟩:=h
 obtain⟨t,rfl⟩:=rx
 obtain⟨t',rfl⟩:=ry
 exact add_str (fun t' tk=>⟨.str (i++j),H,I.tok _,⟨_,rfl⟩,q⟩) hz
theorem gE{x:V}{us:List Value}(r:aV [x] us):∃u,us=[u]/\bu x u:=by
 cases r with
 |cons r1 r2=>cases r2;exact⟨_,rfl,r1⟩
theorem qo{x y:V}{us:List Value}(r:aV [x,y] us):∃u w',us=[u,w']/\bu x u/\bu y w':=by
 cases r with
 |cons r1 r2=>
  cases r2 with
  |cons r3 r4=>cases r4;exact⟨_,_,rfl,r1,r3⟩
theorem sW(hc:X.calm=true):bT X (.builtin "max") (fun xs H Q=>∃i j,xs=[.int i,.int j]/\Q (.int (if j>i then j else i)) H):=by
 intro pins s σ H xs us Q I r h
 obtain⟨i,j,rfl,q⟩:=h
 obtain⟨u,w',rfl,⟨t,rfl⟩,⟨t',rfl⟩⟩:=qo r
 refine max_two_ints (I.ok.hd hc) fun h' tk k=>⟨_,H,I.kept k,?_,q⟩
 by_cases hj:j>i
 ·rw[if_pos hj,if_pos hj];exact⟨_,rfl⟩
 ·rw[if_neg hj,if_neg hj];exact⟨_,rfl⟩
theorem sV(hc:X.calm=true):bT X (.builtin "min") (fun xs H Q=>∃i j,xs=[.int i,.int j]/\Q (.int (if j<i then j else i)) H):=by
 intro pins s σ H xs us Q I r h
 obtain⟨i,j,rfl,q⟩:=h
 obtain⟨u,w',rfl,⟨t,rfl⟩,⟨t',rfl⟩⟩:=qo r
 refine min_two_ints (I.ok.hd hc) fun h' tk k=>⟨_,H,I.kept k,?_,q⟩
 by_cases hj:j<i
 ·rw[if_pos hj,if_pos hj];exact⟨_,rfl⟩
 ·rw[if_neg hj,if_neg hj];exact⟨_,rfl⟩
theorem lV:bT X (.type "int") (fun xs H Q=>(∃i,xs=[.int i]/\Q (.int i) H)\/∃k,xs=[.bl k]/\Q (.int (if k then 1 else 0)) H):=by
 intro pins s σ H xs us Q I r h
 rcases h with⟨i,rfl,q⟩|⟨k,rfl,q⟩
 ·obtain⟨u,rfl,t,rfl⟩:=gE r
  exact call_int_int ⟨.int i,H,I,⟨_,rfl⟩,q⟩
 ·obtain⟨u,rfl,r1⟩:=gE r
  cases r1
  exact call_int_bool ⟨.int (if k then 1 else 0),H,I.tok _,⟨_,rfl⟩,q⟩
end
structure Gf(h:Heap)(x dx C:Addr)(mA:Str->Option Value):Prop where
 obj:h.get? x=some (PySem.W.instObj C dx)
 ns:h.Ns1 dx mA
 ne:dx≠x
theorem rK{h:Heap}{dx:Addr}{mA:Str->Option Value}(n:h.Ns1 dx mA):∃od,h.get? dx=some od/\∀name,PySem.W.lookIn name od=some (mA name):=by
 obtain⟨o,es,ep,ho,hd,hk,_,hm⟩:=n
 refine⟨o,ho,fun name=>?_⟩
 have e:=hm name
 unfold nsFind findBy at e
 rw[<-Array.find?_toList]at e
 unfold PySem.W.lookIn
 rw[hd]
 dsimp only
 split
 ·rename_i y q
  rw[q]at e
  exact congrArg some e
 ·rename_i q
  rw[q]at e
  have a:es.toList.any (·.refKey)=false:=by
   rw[List.any_eq_false]
   intro y hy
   obtain⟨z,t,hkey⟩:=hk y (Array.mem_toList_iff.mp hy)
   simp[DictEntry.refKey,hkey]
  have a':¬es.toList.any (·.refKey)=true:=by rw[a];exact Bool.false_ne_true
  rw[if_neg a']
  exact congrArg some e
theorem Gf.look{h:Heap}{x dx C:Addr}{mA:Str->Option Value}(I:Gf h x dx C mA):∃od,PySem.W.InstAt h x (PySem.W.instObj C dx) C (some od)/\∀name,PySem.W.lookIn name od=some (mA name):=
 let ⟨od,ho,hl⟩:=rK I.ns
 ⟨od,⟨I.obj,rfl,rfl,ho⟩,hl⟩
theorem pR.some_of{v:V}{o:Option Value}(r:pR (some v) o):∃u,o=some u/\bu v u:=by
 cases o with
 |none=>exact(show False from r).elim
 |some u=>exact⟨u,rfl,r⟩
section
variable{P:Program}{w:World}{H H':Hp}{h h':Heap}{a C dx:Addr}{fs fs':List (Str×V)}
theorem zW(hok:HOk P w H h)(e:H a=some (.ins C dx fs)):∃mA,Gf h a dx C mA/\(∀f,pR (fs.lookup f) (mA f))/\PySem.Within mA (fs.map (·.1))/\fs.length<=1000/\H dx=some (.own a):=by
 obtain⟨d,z,ne,ob,mA,n,r,q⟩:=(show bt P w H h a (.ins C dx fs)from hok a _ e)
 exact⟨mA,⟨ob,n,ne⟩,r,q,z,d⟩
end
structure Cls(K:PySem.W.Frag)(C:Addr):Prop where
 pg:PySem.W.plainGet K C Str.empty=true
 hd:PySem.W.hasDictIn K C=true
 po:PySem.W.plainOver K C=true
 sa:PySem.W.findIn K (.ref C) "__setattr__"=some (some (.builtin "object.__setattr__"))
theorem Cls.get{K:PySem.W.Frag}{C:Addr}(c:Cls K C)(f:Str):PySem.W.plainGet K C f=true:=c.pg
section
variable{X:Cx}{pins:List (Addr×Obj)}{σ:St}{H:Hp}{s:Shared}{A:Around}{E:Value->Shared->Prop}{Q:Value->Shared->Prop}{c:Value}{b:Bool}
inductive oP(K:PySem.W.Frag)(H:Hp):V->Value->Prop where
 |non:oP K H .non (.type "NoneType")
 |bl (x:Bool):oP K H (.bl x) (.type "bool")
 |int (i:Int):oP K H (.int i) (.type "int")
 |str (x:Str):oP K H (.str x) (.type "str")
 |flt (x:UInt64):oP K H (.flt x) (.type "float")
 |lst {a:Addr} {xs:List V} (e:H a=some (.lst xs)):oP K H (.ref a) (.type "list")
 |frz {a:Addr} {o:Obj} {xs:List V} (e:H a=some (.frz o (.lst xs))):oP K H (.ref a) (.type "list")
 |tup {a:Addr} {xs:List V} (e:H a=some (.tup xs)):oP K H (.ref a) (.type "tuple")
 |dK {a:Addr} {kvs:List (Key×V)} (e:H a=some (.dK kvs)):oP K H (.ref a) (.type "dict")
 |dT {a:Addr} {kvs:List (List Key×V)} (e:H a=some (.dT kvs)):oP K H (.ref a) (.type "dict")
 | ins {a C dx:Addr} {fs:List (Str×V)} (e:H a=some (.ins C dx fs)) (cl:Cls K C) (ha:PySem.W.findIn K (.ref C) "__class__"=some (some (.builtin "object.__class__")))
   (hn:PySem.W.specialIn K (.builtin "object.__class__") "__get__"=some (some (.builtin "getset_descriptor.__get__"))) (htk:PySem.W.takesIn K (.builtin "object.__class__")=some true)
   (hm:PySem.W.mroIn K C (.type "object")=some true):oP K H (.ref a) (.ref C)
theorem rZ{x:V}{u t:Value}(I:Inv X pins σ H s)(rx:bu x u)(ty:oP X.K H x t)(e:PySem.W.kitOne X.K t c=some b)(h:∀tk,Q (.bool b) { s with toks:=tk }) :
  wpAny (model X.prog X.w) A (call (.builtin "isinstance") [u,c]) Q E s:=by
 cases ty with
 |non=>cases (show u=Value.none from rx);exact PySem.W.kia_one PySem.W.kitx_none I.kIn True.intro e (fun z=>nomatch z) h
 |bl y=>cases (show u=Value.bool y from rx);exact PySem.W.kia_one PySem.W.kitx_bool I.kIn True.intro e (fun z=>nomatch z) h
 |int i=>obtain⟨t,q⟩:=(show ∃t,u=Value.int i t from rx);cases q;exact PySem.W.kia_one PySem.W.kitx_int I.kIn True.intro e (fun z=>nomatch z) h
 |str y=>obtain⟨t,q⟩:=(show ∃t,u=Value.str y t from rx);cases q;exact PySem.W.kia_one PySem.W.kitx_str I.kIn True.intro e (fun z=>nomatch z) h
 |flt y=>obtain⟨t,q⟩:=(show ∃t,u=Value.float y t from rx);cases q;exact PySem.W.kia_one PySem.W.kitx_float I.kIn True.intro e (fun z=>nomatch z) h
 |@lst a xs ea=>
  cases (show u=Value.ref a from rx)
  obtain⟨_,_,n,_,h1⟩:=(show bt X.prog X.w H s.heap a (.lst xs)from I.hok a _ ea)
  exact PySem.W.kia_one PySem.W.kitx_list I.kIn ⟨_,h1,rfl⟩ e (fun z=>nomatch z) h
 |@frz a ob xs ea=>
  cases (show u=Value.ref a from rx)
  obtain⟨_,_,_,n,_,h1⟩:=(show bt X.prog X.w H s.heap a (.frz ob (.lst xs))from I.hok a _ ea)
  exact PySem.W.kia_one PySem.W.kitx_list I.kIn ⟨_,h1,rfl⟩ e (fun z=>nomatch z) h
 |@tup a xs ea=>
  cases (show u=Value.ref a from rx)
  obtain⟨_,_,_,p⟩:=(show bt X.prog X.w H s.heap a (.tup xs)from I.hok a _ ea)
  obtain⟨o,h1,h2,_⟩:=p
  exact PySem.W.kia_one PySem.W.kitx_tuple I.kIn ⟨o,h1,h2⟩ e (fun z=>nomatch z) h
 |@dK a kvs ea=>
  cases (show u=Value.ref a from rx)
  obtain⟨_,_,vs,_,p⟩:=(show bt X.prog X.w H s.heap a (.dK kvs)from I.hok a _ ea)
  obtain⟨o,es,ep,h1,h2,_⟩:=p
  exact PySem.W.kia_one PySem.W.kitx_dict I.kIn ⟨o,h1,h2.1⟩ e (fun z=>nomatch z) h
 |@dT a kvs ea=>
  cases (show u=Value.ref a from rx)
  obtain⟨_,_,xs,_,o,es,ep,h1,h2,_⟩:=(show bt X.prog X.w H s.heap a (.dT kvs)from I.hok a _ ea)
  exact PySem.W.kia_one PySem.W.kitx_dict I.kIn ⟨o,h1,h2.1⟩ e (fun z=>nomatch z) h
 |@ins a C dx fs ea cl ha hn htk hm=>
  cases (show u=Value.ref a from rx)
  obtain⟨mA,O,_⟩:=zW I.hok ea
  obtain⟨od,J,_⟩:=O.look
  exact PySem.W.kia_one (PySem.W.kitx_own (cl.get _) cl.hd ha hn htk hm) I.kIn J e (fun z=>nomatch z) h
end
structure iH(k:Nat)(A:Around):Prop where
 hd:A.handled=none
 dp:A.depth+3*k+5<recursionLimit
 un:A.units+16*k+200<cLine
 gd:A.guards=some []
theorem iH.mono{j k:Nat}{A:Around}(r:iH k A)(h:j<=k):iH j A:=⟨r.hd,by have:=r.dp;omega,by have:=r.un;omega,r.gd⟩
theorem iH.deeper{k:Nat}{A:Around}(r:iH (k+1) A)(env:Env):iH k (A.deeper env):=
 ⟨r.hd,by have:=r.dp;show A.depth+1+3*k+5<_;omega,by have:=r.un;show A.units+3+16*k+200<_;omega,r.gd⟩
theorem iH.depth{k:Nat}{A:Around}(r:iH k A):A.depth<recursionLimit:=by have:=r.dp;omega
theorem iH.units{k:Nat}{A:Around}(r:iH k A):A.units+64<cLine:=by have:=r.un;omega
def Gk:TA:=fun _ H Q=>Q [] H
def Bt(ta:TE)(tr:TA):TA:=fun σ H Q=>ta σ H fun x H1=>tr σ H1 fun xs H2=>Q (x::xs) H2
section
variable{X:Cx}{e:Expr}{es:List Expr}{te:TE}{t:TA}{pos:Pos}
theorem Ck:PA X [] Gk:=fun _ _ _ _ H Q I h=>Calls.spliced_nil ⟨[],H,I,.nil,h⟩
theorem zG(ha:PE X e te)(hr:PA X es t)(hs:starEach (e::es) X.env=(false,eval e X.env)::starEach es X.env:=by rfl):PA X (e::es) (Bt te t):=by
 intro pos pins s σ H Q I h
 rw[hs]
 show wpAny _ _ (spliced ((false,eval e X.env)::backTo pos (starEach es X.env))) _ _ s
 refine Calls.spliced_cons (thn (ha pins s σ H _ I h) fun u s1 hz=>?_)
 obtain⟨x,H1,I1,r1,q1⟩:=hz
 exact thn (hr pos pins s1 σ H1 _ I1 q1) fun us s2 ⟨xs,H2,I2,r2,q2⟩=>⟨x::xs,H2,I2,.cons r1 r2,q2⟩
def Gg(t:TA):TE:=fun σ H Q=>t σ H fun xs H1=>xs.length<=sizeLine/\∀p,H1 p=none->Q (.ref p) (upd H1 p (.tup xs))
def Gm(t:TA):TE:=fun σ H Q=>t σ H fun xs H1=>xs.length<=sizeLine/\∀p,H1 p=none->Q (.ref p) (upd H1 p (.lst xs))
theorem Ca{x1}(h:PA X es t):PE X (.Tuple es x1 pos) (Gg t):=by
 intro pins s σ H Q I hq
 refine wpAny_Tuple_spliced (thn (h pos pins s σ H _ I hq) fun us s1 ⟨xs,H1,I1,r,z,q⟩=>⟨by rw[<-r.length];exact z,?_⟩)
 have hf:H1 s1.heap.objs.size=none:=I1.hok.fresh (Nat.le_refl _)
 refine⟨.ref s1.heap.objs.size,upd H1 s1.heap.objs.size (.tup xs),I1.laid (t':=s1.toks) (fun b u e=>Heap.get?_push_of_some _ e) (Nat.le_refl _) ?_,rfl,q _ hf⟩
 exact⟨z,us,r,⟨_,Heap.get?_push_size _ rfl,rfl,_,rfl⟩⟩
theorem Cd(h:PA X es t):PE X (.List es pos) (Gm t):=by
 intro pins s σ H Q I hq
 refine wpAny_List_spliced (thn (h pos pins s σ H _ I hq) fun us s1 ⟨xs,H1,I1,r,z,q⟩=>⟨by rw[<-r.length];exact z,?_⟩)
 have hf:H1 s1.heap.objs.size=none:=I1.hok.fresh (Nat.le_refl _)
 refine⟨.ref s1.heap.objs.size,upd H1 s1.heap.objs.size (.lst xs),I1.laid (t':=s1.toks) (fun b u e=>Heap.get?_push_of_some _ e) (Nat.le_refl _) ?_,rfl,q _ hf⟩
 exact⟨z,us,0,r,Heap.get?_push_size _ rfl⟩
end
abbrev Sp:=List V->Hp->VK->XK->Prop
abbrev CXT:=List Env->Hp->Shared->XK->Value->Shared->Prop
structure D9(P:Program)(w:World)(K:PySem.W.Frag)(mg:Str->Option Value)(base:Heap)(A:Around)(outer:List Env)(s:Shared)(H:Hp):Prop where
 frames:A.frames=some outer
 mod:Mod K mg base
 bs:∀b o,base.get? b=some o->s.heap.get? b=some o/\H b=none
 bsz:base.objs.size<=s.heap.objs.size
 funs:s.heap.FunFrames base outer
 frf:∀b∈frs outer,H b=none
 hok:HOk P w H s.heap
 bare:AllBare s.gens
def CE(outer:List Env)(P:Program)(w:World)(H:Hp)(s:Shared)(Q:VK)(u:Value)(s':Shared):Prop:=
 ∃v H',s'.os=s.os/\AllBare s'.gens/\Un (frs outer) [] H H' s.heap s'.heap/\HOk P w H' s'.heap/\bu v u/\Q v H'
def CR(CX:CXT)(outer:List Env)(P:Program)(w:World)(H:Hp)(s:Shared)(Q:VK)(E:XK)(r:Result)(s':Shared):Prop:=
 match r with
 |.ok (.ret u)=>CE outer P w H s Q u s'
 |.ok _=>False
 |.error e=>CX outer H s E e s'
structure mq(P:Program)(w:World)(K:PySem.W.Frag)(mg:Str->Option Value)(base:Heap)(CX:CXT)(k:Nat)(f:Addr)(fd:FuncData)(ps:List Str)(sp:Sp):Prop where
 len:∀vs H Q E,sp vs H Q E->vs.length=ps.length
 run:∀(A:Around) (outer:List Env) (s:Shared) (H:Hp) (args:Args) (us:List Value) (vs:List V) (Q:VK) (E:XK),iH k A->D9 P w K mg base A outer s H->BindsTo s fd args (ps.zip us)->aV vs us->sp vs H Q E->
  codeAny (model P w) A (.call (.ref f) args) (CR CX outer P w H s Q E) s
theorem mq.mono{P:Program}{w:World}{K:PySem.W.Frag}{mg:Str->Option Value}{base:Heap}{CX:CXT}{j k:Nat}{f:Addr}{fd:FuncData}{ps:List Str}{sp:Sp}(F:mq P w K mg base CX j f fd ps sp)(h:j<=k) :
  mq P w K mg base CX k f fd ps sp:=⟨F.len,fun A outer s H args us vs Q E hr=>F.run A outer s H args us vs Q E (hr.mono h)⟩
section
variable{X:Cx}{pins:List (Addr×Obj)}{σ:St}{H:Hp}{s s':Shared}
theorem Inv.env0(I:Inv X pins σ H s):D9 X.prog X.w X.K X.mg X.base X.A X.stack s H:=
 ⟨I.ok.frames,I.ok.mod,I.bs,Nat.le_trans I.ok.bsz I.sz,I.stack,I.stkFree,I.hok,I.bare⟩
theorem Inv.after{Q:VK}{u:Value}(I:Inv X pins σ H s)(h:CE X.stack X.prog X.w H s Q u s'):EP X pins σ Q u s':=by
 obtain⟨v,H',os,bare,un,hok,r,q⟩:=h
 obtain⟨hh,g,d,t,os'⟩:=s'
 obtain rfl:os'=s.os:=os
 exact⟨v,H',I.call (h':=hh) (g':=g) (d':=d) (t':=t) (ch:=[]) un hok bare (fun b z=>absurd z (by simp)),r,q⟩
end
def Bu(sp:Sp)(dvs:List V)(E:XK)(t:TA):TE:=fun σ H Q=>t σ H fun vs H1=>sp (vs++dvs) H1 Q E
def ng(K:PySem.W.Frag)(fd:FuncData)(ps:List Str)(ds:List Value):Prop:=
 ∀(s:Shared) (us:List Value),K.In s.heap->(us++ds).length=ps.length->BindsTo s fd ⟨us,[]⟩ (ps.zip (us++ds))
theorem ng.all{K:PySem.W.Frag}{fd:FuncData}{ps:List Str}(h:∀us:List Value,us.length=ps.length->bindArgs fd ⟨us,[]⟩=pure (ps.zip us)):ng K fd ps []:=fun s us _ hl=>by
 rw[List.append_nil]at hl ⊢
 exact .of_eq (h us hl)
def tQ(CX:CXT)(X:Cx)(E:XK):Prop:=∀(pins:List (Addr×Obj)) (σ:St) (H:Hp) (s:Shared) (e:Value) (s':Shared),Inv X pins σ H s->CX X.stack H s E e s'->X.xe e s'
section
variable{X:Cx}{CX:CXT}{k:Nat}{f C:Addr}{fd:FuncData}{ps:List Str}{sp:Sp}{dvs:List V}{ds:List Value}{E:XK}{x m:Str}{p pos apos:Pos}{e o:Expr}{es:List Expr}{ta:TE}{t:TA}
theorem BD{pins:List (Addr×Obj)}{σ:St}{H:Hp}{s:Shared}{Q:VK}{us:List Value}{vs:List V}(F:mq X.prog X.w X.K X.mg X.base CX k f fd ps sp)(hr:iH k X.A)(hb:ng X.K fd ps ds)(hd:aV dvs ds)(hx:tQ CX X E)
  (I:Inv X pins σ H s) (r:aV vs us) (h:sp (vs++dvs) H Q E):wpAny (model X.prog X.w) X.A (call (.ref f) us) (EP X pins σ Q) X.xe s:=by
 have r2:aV (vs++dvs) (us++ds):=r.append hd
 have hl:(us++ds).length=ps.length:=by rw[<-r2.length];exact F.len _ _ _ _ h
 refine wpAny_call (codeAny_mono (F.run X.A X.stack s H ⟨us,[]⟩ (us++ds) (vs++dvs) Q E hr I.env0 (hb s us I.kIn hl) r2 h) fun r s' hq=>?_)
 cases r with
 |error e=>exact hx pins σ H s e s' I hq
 |ok fl=>
  cases fl with
  |ret u=>exact I.after hq
  |next=>exact False.elim hq
  |brk=>exact False.elim hq
  |cont=>exact False.elim hq
theorem zD(F:mq X.prog X.w X.K X.mg X.base CX k f fd ps sp)(hr:iH k X.A)(hg:Gl X x)(hm:X.mg x=some (.ref f))(hk:PySem.W.keepIn X.K (.ref f)=true)(hb:ng X.K fd ps ds)(hd:aV dvs ds)(hx:tQ CX X E)
  (ha:PA X (e::es) t) (hdb:(x == ("__debug__":Str))=false:=by decide) (he:starEach (e::es) X.env=(false,eval e X.env)::starEach es X.env:=by rfl) (hpl:(backTo pos (starEach es X.env)).any (·.1)=false:=by rfl) :
  PE X (.Call (.Name x p) (e::es) [] pos) (Bu sp dvs E t):=by
 intro pins s σ H Q I h
 refine wpAny_Call_Name_kw (zP I hg hm ?_ hdb)
 refine PySem.W.callWith_K (h₀:=X.base) I.ok.mod.kin hk (thn (ha pos pins s σ H _ I h) fun us s1 ⟨vs,H1,I1,r,q⟩=>⟨I1.kIn,?_⟩) he hpl
 exact BD F hr hb hd hx I1 r q
end
structure bA(N P:List Str)(sc:Scope):Prop where
 kind:sc.kind=.function
 co:sc.isCoroutine=false
 gen:sc.isGenerator=false
 nd:N.Nodup
 pre:N.take P.length=P
 par:∀x∈P,sc.names.lookup x=some .local\/sc.names.lookup x=some .cell
 nofree:∀y∈sc.names,y.2≠.free
theorem lX{kindOf:Str->Option NameKind}{x:Str}:∀{binds:List (Str×Value)} {m:Str->Option Value},(∀v,(x,v)∉binds)->bindL kindOf binds m x=m x
 |[],_,_=>rfl
 |(n,v)::r,m,h=>by
  unfold bindL
  rw[lX fun w hw=>h w (List.mem_cons_of_mem _ hw)]
  split
  ·have:x≠n:=by rintro rfl;exact h v List.mem_cons_self
   simp[this]
  ·rfl
theorem lZ{kindOf:Str->Option NameKind}{x:Str}:∀{binds:List (Str×Value)} {m:Str->Option Value},(∀v,(x,v)∉binds)->bindC kindOf binds m x=m x
 |[],_,_=>rfl
 |(n,v)::r,m,h=>by
  unfold bindC
  rw[lZ fun w hw=>h w (List.mem_cons_of_mem _ hw)]
  split
  ·rfl
  ·have:x≠n:=by rintro rfl;exact h v List.mem_cons_self
   simp[this]
theorem lY{kindOf:Str->Option NameKind}{x:Str}{v:Value}:∀{P:List Str} {vs:List Value} {i:Nat} {m:Str->Option Value},P.Nodup->P[i]?=some x->vs[i]?=some v->kindOf x=some .local->
  bindL kindOf (P.zip vs) m x=some v
 |[],_,_,_,_,h,_,_=>by simp at h
 |_::_,[],_,_,_,_,h,_=>by simp at h
 |p::P,w::vs,0,m,nd,h1,h2,hk=>by
  simp at h1 h2;subst h1;subst h2
  show bindL kindOf ((p,w)::P.zip vs) m p=_
  unfold bindL
  rw[lX fun v hv=>(List.nodup_cons.mp nd).1 (List.of_mem_zip hv).1,if_pos hk]
  simp
 |p::P,w::vs,i+1,m,nd,h1,h2,hk=>by
  show bindL kindOf ((p,w)::P.zip vs) m x=_
  unfold bindL
  exact lY (i:=i) (List.nodup_cons.mp nd).2 (by simpa using h1) (by simpa using h2) hk
theorem ma{kindOf:Str->Option NameKind}{x:Str}{v:Value}:∀{P:List Str} {vs:List Value} {i:Nat} {m:Str->Option Value},P.Nodup->P[i]?=some x->vs[i]?=some v->kindOf x≠some .local->
  bindC kindOf (P.zip vs) m x=some v
 |[],_,_,_,_,h,_,_=>by simp at h
 |_::_,[],_,_,_,_,h,_=>by simp at h
 |p::P,w::vs,0,m,nd,h1,h2,hk=>by
  simp at h1 h2;subst h1;subst h2
  show bindC kindOf ((p,w)::P.zip vs) m p=_
  unfold bindC
  rw[lZ fun v hv=>(List.nodup_cons.mp nd).1 (List.of_mem_zip hv).1,if_neg hk]
  simp
 |p::P,w::vs,i+1,m,nd,h1,h2,hk=>by
  show bindC kindOf ((p,w)::P.zip vs) m x=_
  unfold bindC
  exact ma (i:=i) (List.nodup_cons.mp nd).2 (by simpa using h1) (by simpa using h2) hk
def start(N:List Str)(vs:List V):St:=vs.map some++List.replicate (N.length-vs.length) none
def tY(CX:CXT)(P:Program)(w:World)(K:PySem.W.Frag)(mg:Str->Option Value)(base:Heap)(N:List Str)(qual:Str)(scope:Scope)(f:Addr)(cd:Value)(A:Around)(outer:List Env)(s:Shared)(H:Hp)(E:XK):Cx where
 prog:=P
 w:=w
 K:=K
 mg:=mg
 base:=base
 A:=A.deeper (envOfC qual scope s.heap.objs.size f cd)
 N:=N
 s₀:=s
 H₀:=H
 env:=envOfC qual scope s.heap.objs.size f cd
 outer:=outer
 stack:=envOfC qual scope s.heap.objs.size f cd::outer
 ex:=[]
 calm:=true
 fn:=fun _=>true
 pn:=[]
 xe:=fun e s'=>wpAny (model P w) (A.deeper (envOfC qual scope s.heap.objs.size f cd)) (leaving (envOfC qual scope s.heap.objs.size f cd) e) (fun _ s''=>CX outer H s E e s'') (fun e' s''=>CX outer H s E e' s'') s'
theorem oH{sc:Scope}{n:Nat}{x:Str}(h:sc.names.lookup x=some .cell):∃c,(cellsFrom n sc.names []).lookup x=some c:=by
 have q:=PySem.W.cellsFrom_some sc.names n [] (.inl h)
 exact Option.isSome_iff_exists.mp q
theorem sg{CX:CXT}{P:Program}{w:World}{K:PySem.W.Frag}{mg:Str->Option Value}{base:Heap}{N ps:List Str}{qual:Str}{scope:Scope}{f:Addr}{cd:Value}{A:Around}{outer:List Env}{s s1:Shared}{H:Hp}{E:XK}{us:List Value}{vs:List V}
  (S:bA N ps scope) (hd:A.handled=none) (e0:D9 P w K mg base A outer s H) (hl:vs.length=ps.length) (r:aV vs us)
  (x:InCallC s s.heap.objs.size (bindL (envOfC qual scope s.heap.objs.size f cd).kindOf (ps.zip us) fun _=>none) (cellsFrom (s.heap.objs.size+1) scope.names []) (bindC (envOfC qual scope s.heap.objs.size f cd).kindOf (ps.zip us) fun _=>none) s1) :
  Inv (tY CX P w K mg base N qual scope f cd A outer s H E) [] (start N vs) H s1:=by
 have hpl:ps.length<=N.length:=by have:=congrArg List.length S.pre;rw[List.length_take]at this;omega
 obtain⟨h1,tk,rfl,hk⟩:=x.done
 have noA:∀b:Addr,b∉(tY CX P w K mg base N qual scope f cd A outer s H E).ex:=fun b z=>absurd (show b∈([]:List Addr)from z) (by simp)
 refine⟨⟨e0.mod,S.kind,rfl,rfl,Nat.le_refl _,fun y z c h1 h2=>?_,fun y hy=>?_,fun y c _ h=>?_,fun _=>hd,Around.frames_deeper e0.frames,.inr ⟨rfl,rfl⟩,fun b z=>absurd z (noA b),e0.bs,e0.bsz,fun b _ _=>noA b,fun b z=>absurd z (noA b),e0.funs,e0.frf⟩,
  rfl,e0.bare,Un.kept hk,⟨_,x.toInCall.ns,fun i y v h1 h2 h3=>?_⟩,fun y c h=>⟨_,x.cell y c h⟩,e0.hok.fresh (Nat.le_refl _),fun y c h=>?_,fun p hp=>absurd (show p∈([]:List (Addr×Obj))from hp) (by simp),e0.hok.kept hk,?_⟩
 ·exact name_of_addr x.apart (PySem.mem_of_lookup h1) (PySem.mem_of_lookup h2)
 ·have hy:scope.names.lookup y=some .cell\/scope.names.lookup y=some .free:=hy
  rcases hy with hy|hy
  ·exact oH hy
  ·exact absurd rfl (S.nofree _ (PySem.mem_of_lookup hy))
 ·exact Nat.le_of_lt (x.above y c (PySem.mem_of_lookup h))
 ·have hi:i<vs.length:=by
   unfold start at h2
   by_cases hi:i<vs.length
   ·exact hi
   ·rw[List.getElem?_append_right (by simpa using hi)]at h2
    rw[List.getElem?_replicate]at h2
    split at h2<;>cases h2
  have ha:vs[i]?=some v:=by
   unfold start at h2
   rw[List.getElem?_append_left (by simpa using hi),List.getElem?_map]at h2
   cases e:vs[i]? with
   |none=>rw[e]at h2;cases h2
   |some a=>rw[e]at h2;cases h2;rfl
  obtain⟨u,hu,rv⟩:=r.get ha
  have hp:ps[i]?=some y:=by
   rw[<-S.pre,List.getElem?_take_of_lt (by omega)];exact h1
  have ndP:ps.Nodup:=by rw[<-S.pre];exact S.nd.sublist (List.take_sublist _ _)
  refine⟨u,rv,?_⟩
  rcases S.par y (List.mem_of_getElem? hp)with k|k
  ·exact .inl ⟨k,lY ndP hp hu k⟩
  ·obtain⟨c,e⟩:=oH (n:=s.heap.objs.size+1) k
   refine .inr ⟨.inl k,c,e,?_⟩
   have q:=x.cell y c e
   rw[ma ndP hp hu (by show scope.names.lookup y≠_;rw[k];decide)]at q
   exact q
 ·exact e0.hok.fresh (Nat.le_of_lt (x.above y c (PySem.mem_of_lookup h)))
 ·unfold start
  show _=N.length
  rw[List.length_append,List.length_map,List.length_replicate]
  omega
theorem F0{CX:CXT}{P:Program}{w:World}{K:PySem.W.Frag}{mg:Str->Option Value}{base:Heap}{k:Nat}{f:Addr}{name qual:Str}{params:Arguments}{body:List Stmt}{scope:Scope}{dV kV doc pm cdv ct oc:Value}{an od:Option Addr}
  {osl:Array (Option Value)} {N ps:List Str} {sp:Sp} (lk:K.lookup f=some ⟨oc,od,.func (PySem.W.fnOf name qual params body scope dV kV doc pm an cdv ct),osl⟩) (hcd:PySem.W.codeIn K cdv qual=true) (S:bA N ps scope)
  (len:∀vs H Q E,sp vs H Q E->vs.length=ps.length)
  (hbody:∀(A:Around) (outer:List Env) (s:Shared) (H:Hp) (vs:List V) (Q:VK) (E:XK),iH k (A.deeper (envOfC qual scope s.heap.objs.size f cdv))->sp vs H Q E->
   ∃t,PSs (tY CX P w K mg base N qual scope f cdv A outer s H E) body t/\t { nx:=fun _ H'=>Q .non H',rt:=Q } (start N vs) H) :
  mq P w K mg base CX (k+1) f (PySem.W.fnOf name qual params body scope dV kV doc pm an cdv ct) ps sp:=by
 refine⟨len,fun A outer s H args us vs Q E hr e0 hb r hsp=>?_⟩
 have hl:=len _ _ _ _ hsp
 have KX:K.In s.heap:=e0.mod.kin.keeps fun b o e=>(e0.bs b o e).1
 have lim:s.heap.NoLimit:=e0.mod.nolimit.keeps fun b o e=>(e0.bs b o e).1
 have hkind:∀y∈ps.zip us,scope.names.lookup y.1=some .local\/(scope.names.lookup y.1=some .cell/\((cellsFrom (s.heap.objs.size+1) scope.names []).lookup y.1).isSome=true):=fun⟨n,v⟩ hy=>by
  rcases S.par n (List.of_mem_zip hy).1 with q|q
  ·exact .inl q
  ·exact .inr ⟨q,PySem.W.cellsFrom_some _ _ _ (.inl q)⟩
 refine codeAny_call_function hr.depth (KX _ _ lk) rfl S.co S.gen rfl (PySem.W.codeRec_of KX hcd) (hb _ _ _ _ ?_)
 refine wpAny_newFunctionEnv_cells S.kind hkind fun env he s1 x=>?_
 subst he
 refine⟨lim.keeps x.toInCall.keep,codeAny_func ?_⟩
 obtain⟨t,ht,hq⟩:=hbody A outer s H vs Q E (hr.deeper _) hsp
 have I:Inv (tY CX P w K mg base N qual scope f cdv A outer s H E) [] (start N vs) H s1:=sg S hr.hd e0 hl r x
 refine wpAny_mono (ht [] s1 (start N vs) H _ I hq) (fun fl s' hs=>?_) fun e s' hs=>hs
 have fin:∀{σ':St} {H':Hp} {v:V} {u:Value},Inv (tY CX P w K mg base N qual scope f cdv A outer s H E) [] σ' H' s'->bu v u->Q v H'->CE outer P w H s Q u s':=
  fun{σ' H' v u} J rv q=>⟨v,H',J.os,J.bare,J.base,J.hok,rv,q⟩
 cases fl with
 |ret u=>
  obtain⟨v,σ',H',J,rv,q⟩:=hs
  exact fin J rv q
 |next=>
  obtain⟨σ',H',J,q⟩:=hs
  exact fin (v:=V.non) (u:=Value.none) J rfl q
 |brk=>
  obtain⟨_,_,_,q⟩:=hs
  exact False.elim q
 |cont=>
  obtain⟨_,_,_,q⟩:=hs
  exact False.elim q
section
variable{X:Cx}{x:Str}{p pos:Pos}{e:Expr}{es:List Expr}{t:TA}{id T:String}{r:List V->Hp->VK->Prop}
def tCB(r:List V->Hp->VK->Prop)(t:TA):TE:=fun σ H Q=>t σ H fun vs H1=>r vs H1 Q
theorem vh(hc:bT X (.builtin id) r)(hg:Gl X x)(hm:X.mg x=none)(hv:bootBuiltins x=some (.builtin id))(ha:PA X (e::es) t)(hn:x≠"__name__":=by decide)(hdb:(x == ("__debug__":Str))=false:=by decide)
  (he:starEach (e::es) X.env=(false,eval e X.env)::starEach es X.env:=by rfl) (hpl:(backTo pos (starEach es X.env)).any (·.1)=false:=by rfl):PE X (.Call (.Name x p) (e::es) [] pos) (tCB r t):=by
 intro pins s σ H Q I h
 refine wpAny_Call_Name_kw (fR I hg hm hv ?_ hn hdb)
 exact PyProof.Rows.callWith_builtin1 (thn (ha pos pins s σ H _ I h) fun us s1 ⟨vs,H1,I1,r1,q1⟩=>hc pins s1 σ H1 vs us Q I1 r1 q1) he hpl
theorem rh(hc:bT X (.type T) r)(hg:Gl X x)(hm:X.mg x=none)(hv:bootBuiltins x=some (.type T))(ha:PA X (e::es) t)(hn:x≠"__name__":=by decide)(hdb:(x == ("__debug__":Str))=false:=by decide)
  (he:starEach (e::es) X.env=(false,eval e X.env)::starEach es X.env:=by rfl) (hpl:(backTo pos (starEach es X.env)).any (·.1)=false:=by rfl):PE X (.Call (.Name x p) (e::es) [] pos) (tCB r t):=by
 intro pins s σ H Q I h
 refine wpAny_Call_Name_kw (fR I hg hm hv ?_ hn hdb)
 exact PyProof.Rows.callWith_type1 (thn (ha pos pins s σ H _ I h) fun us s1 ⟨vs,H1,I1,r1,q1⟩=>hc pins s1 σ H1 vs us Q I1 r1 q1) he hpl
end
end L2
namespace HT
open PySem PyProof.Rows
section
variable{prog:Program}{w:World}{A:Around}{E:Value->Shared->Prop}{s:Shared}
theorem cat_tup{t b:Addr}{vs ws:List Value}{Q:Value->Shared->Prop}(ht:IsTup s.heap t vs.toArray)(hb:IsTup s.heap b ws.toArray)(hv:vs≠[])
  (h1:ws=[]->Q (.ref t) s) (h2:ws≠[]->Q (.ref s.heap.objs.size) { s with heap:=s.heap.push { cls:=.type "tuple",data:=.seq (vs++ws).toArray } })
  (hsz:vs.length+ws.length<=sizeLine):wpAny (model prog w) A (binaryOp .Add (.ref t) (.ref b)) Q E s:=by
 obtain⟨⟨cls,dd,data,sl⟩,ho,hc,n,hd⟩:=id ht
 obtain⟨⟨cls2,dd2,data2,sl2⟩,ho2,hc2,n2,hd2⟩:=id hb
 simp only at hc hd hc2 hd2
 subst hc hd hc2 hd2
 have e:vs.toArray++ws.toArray=(vs++ws).toArray:=by simp
 by_cases hw:ws=[]
 ·exact concat_meets ⟨_,ho,rfl⟩ ⟨_,ho2,rfl⟩ noFill_tuple_add seq_tuple_add PySem.F.slot_tuple_add PySem.F.entry_tuple_add (PySem.F.args_tuple_add_2 _ _)
   (tuple_addW1 t b vs.toArray ws.toArray n n2 dd dd2 sl sl2 (by simpa using hv) (by simp[hw])) ⟨ho,ho2,h1 hw⟩
 ·refine concat_meets ⟨_,ho,rfl⟩ ⟨_,ho2,rfl⟩ noFill_tuple_add seq_tuple_add PySem.F.slot_tuple_add PySem.F.entry_tuple_add (PySem.F.args_tuple_add_2 _ _)
   (tuple_addW2 t b vs.toArray ws.toArray n n2 dd dd2 sl sl2 (by simpa using hv) (by simpa using hw) (by rw[List.size_toArray,List.size_toArray];exact hsz)) ⟨ho,ho2,?_⟩
  rw[e]
  exact h2 hw
def sIx(n d:Nat):Option Int->Nat
 |none=>d
 |some v=>if v<0 then(v+(n:Int)).toNat else min v.toNat n
theorem sIx_none(n d:Nat):sIx n d none=d:=rfl
theorem sIx_nat(n d k:Nat):sIx n d (some (k:Int))=min k n:=by
 show(if (k:Int)<0 then((k:Int)+(n:Int)).toNat else min (k:Int).toNat n)=min k n
 rw[if_neg (by omega),Int.toNat_natCast]
theorem BB(n d:Nat)(hd:d<=n)(o:Option Int):sIx n d o<=n:=by
 cases o with
 |none=>exact hd
 |some v=>
  show(if v<0 then(v+(n:Int)).toNat else min v.toNat n)<=n
  by_cases hv:v<0
  ·rw[if_pos hv];omega
  ·rw[if_neg hv];exact Nat.min_le_right _ _
theorem sU(v:Int)(n d:Nat):(if v<0 then max (v+(n:Int)) 0 else min v (n:Int))=((sIx n d (some v):Nat):Int):=by
 show(if v<0 then max (v+(n:Int)) 0 else min v (n:Int))=(((if v<0 then(v+(n:Int)).toNat else min v.toNat n):Nat):Int)
 by_cases hv:v<0
 ·simp only[if_pos hv];omega
 ·simp only[if_neg hv];omega
theorem pM(lo hi:Option Int)(n:Nat):Builtin.Slice.sliceAdjust lo hi 1 (n:Int)=(((sIx n 0 lo:Nat):Int),((sIx n n hi:Nat):Int)):=by
 have h1:¬((1:Int)<0):=by omega
 unfold Builtin.Slice.sliceAdjust
 simp only[h1,if_false]
 refine Prod.ext ?_ ?_
 ·cases lo with
  |none=>rfl
  |some v=>exact sU v n 0
 ·cases hi with
  |none=>rfl
  |some v=>exact sU v n n
theorem o9(i j:Nat):Builtin.Slice.slicePlaces (i:Int) (j:Int) 1=j-i:=by
 unfold Builtin.Slice.slicePlaces
 have h1:(1:Int)>0:=by omega
 simp only[h1,if_true,Int.ediv_one]
 split<;>omega
theorem iV{v:Value}{o:Option Int}{Q:Option Int->Shared->Prop}(p:IsPart v o)(h:Q o s):wpAny (model prog w) A (Builtin.Slice.slicePartIndex v) Q E s:=by
 cases p with
 |none=>exact slicePart_none h
 |int i t=>exact slicePart_int h
theorem dg{sl:Addr}{vl vu:Value}{lo hi:Option Int}{n:Nat}{Q:Int×Int×Nat->Shared->Prop}(hs:s.heap.IsSliceOf sl vl vu .none)(pl:IsPart vl lo)(pu:IsPart vu hi)
  (h:Q (((sIx n 0 lo:Nat):Int),1,sIx n n hi-sIx n 0 lo) s):wpAny (model prog w) A (Builtin.Slice.sliceApplied (.ref sl) (pure (n:Int))) Q E s:=by
 obtain⟨os,hos,hcs,hds⟩:=id hs
 unfold Builtin.Slice.sliceApplied Builtin.Slice.sliceFields
 refine wpAny_bind (wpAny_bind (wpAny_field hos hds (x:=vl) rfl (wpAny_bind (wpAny_field hos hds (x:=vu) rfl (wpAny_bind (wpAny_field hos hds (x:=.none) rfl (wpAny_pure ?_)))))))
 refine wpAny_bind (slicePart_none ?_)
 show wpAny _ _ (if ((1:Int) == 0)=true then _ else _) _ _ s
 rw[if_neg (by decide)]
 refine wpAny_bind (iV pl (wpAny_bind (iV pu (wpAny_bind (wpAny_pure ?_)))))
 show wpAny _ _ (match Builtin.Slice.sliceAdjust lo hi 1 (n:Int)with|(lo,hi)=>pure (lo,(1:Int),Builtin.Slice.slicePlaces lo hi 1)) _ _ s
 rw[pM lo hi n]
 show wpAny _ _ (pure (((sIx n 0 lo:Nat):Int),(1:Int),Builtin.Slice.slicePlaces ((sIx n 0 lo:Nat):Int) ((sIx n n hi:Nat):Int) 1)) _ _ s
 rw[o9]
 exact wpAny_pure h
theorem va(xs:Array Value)(i k:Nat):((List.range k).filterMap fun(m:Nat)=>xs[((i:Int)+(m:Int)*1).toNat]?).toArray=((xs.toList.drop i).take k).toArray:=by
 have e:(fun(m:Nat)=>xs[((i:Int)+(m:Int)*1).toNat]?)=fun m=>xs[i+m]?:=by
  funext m
  have:((i:Int)+(m:Int)*1).toNat=i+m:=by omega
  rw[this]
 rw[e]
 have:=pick_run xs i k
 rw[List.filterMap_map]at this
 have e2:((fun x=>xs[x]?) ∘ fun x=>i+x)=fun m=>xs[i+m]?:=rfl
 rw[e2]at this
 rw[this]
theorem getItem_tuple_cut{t sl:Addr}{items:Array Value}{vl vu:Value}{lo hi:Option Int}{Q:Value->Shared->Prop}(ht:IsTup s.heap t items)(hs:s.heap.IsSliceOf sl vl vu .none)(pl:IsPart vl lo)(pu:IsPart vu hi)
  (hw:¬(sIx items.size 0 lo=0/\sIx items.size items.size hi=items.size))
  (h:Q (.ref s.heap.objs.size) { s with heap:=s.heap.push { cls:=.type "tuple",data:=.seq ((items.toList.drop (sIx items.size 0 lo)).take (sIx items.size items.size hi-sIx items.size 0 lo)).toArray } })
  (hsz:items.size<=sizeLine):wpAny (model prog w) A (getItem (.ref t) (.ref sl)) Q E s:=by
 have htake:sizeOk (.seq ((items.toList.drop (sIx items.size 0 lo)).take (sIx items.size items.size hi-sIx items.size 0 lo)).toArray):=by
  show((items.toList.drop (sIx items.size 0 lo)).take (sIx items.size items.size hi-sIx items.size 0 lo)).toArray.size<=sizeLine
  rw[List.size_toArray,List.length_take,List.length_drop,Array.length_toList]
  omega
 have hj:sIx items.size items.size hi<=items.size:=BB _ _ (Nat.le_refl _) hi
 obtain⟨os,hos,hcs,hds⟩:=id hs
 have hTs:s.TypeIs (.ref sl) "slice":=⟨os,hos,hcs⟩
 unfold getItem
 try with_reducible refine wpAny_holding ?_
 first|refine wpAny_bind (wpAny_pure ?_)|skip
 refine wpAny_bind (wpAny_sequenceKey ht.typeIs (by decide) ?_)
 refine wpAny_bind (wpAny_callSpecial?_slot (name:=Str.ofString "__getitem__") ht.typeIs PyProof.Rows.slot_tuple_getitem
  (wpAny_call_entry PyProof.Rows.slot_tuple_getitem ht.typeIs entry_tuple_getitem ?_ (args_tuple_getitem _ _)))
 show wpAny _ _ (Builtin.Tuple.tupleItemsOf (.ref t) >>= _) _ _ s
 refine wpAny_bind (tupleItemsOf_ ht ?_)
 refine wpAny_bind (wpAny_typeOf hTs ?_)
 rw[if_pos (by decide)]
 refine wpAny_bind (dg hs pl pu ?_)
 have hno:¬((((sIx items.size 0 lo:Nat):Int) == 0&&(1:Int) == 1&&(sIx items.size items.size hi-sIx items.size 0 lo) == items.size)=true):=by
  intro q
  rw[Bool.and_eq_true,Bool.and_eq_true]at q
  have q1:((sIx items.size 0 lo:Nat):Int)=0:=eq_of_beq q.1.1
  have q2:sIx items.size items.size hi-sIx items.size 0 lo=items.size:=eq_of_beq q.2
  exact hw ⟨by omega,by omega⟩
 show wpAny _ _ (if (((sIx items.size 0 lo:Nat):Int) == 0&&(1:Int) == 1&&(sIx items.size items.size hi-sIx items.size 0 lo) == items.size)=true then _ else _) _ _ s
 rw[if_neg hno,va]
 first
  |exact wpAny_bind (m:=Builtin.Tuple.tupleExact _) (wpAny_newObj_type (wpAny_pure ⟨_,rfl,wpAny_pure h⟩) htake)
  |exact wpAny_bind (m:=Builtin.Tuple.tupleExact _) (wpAny_newObj_type (wpAny_bind (wpAny_pure (wpAny_pure ⟨_,rfl,wpAny_pure h⟩))) htake)
  |exact wpAny_bind (wpAny_bind (m:=Builtin.Tuple.tupleExact _) (wpAny_newObj_type (wpAny_pure (wpAny_pure ⟨_,rfl,wpAny_pure h⟩)) htake))
  |exact wpAny_bind (wpAny_bind (m:=Builtin.Tuple.tupleExact _) (wpAny_newObj_type (wpAny_pure ⟨_,rfl,wpAny_pure h⟩) htake))
end
end HT
namespace L2
open PySem PySem.Spec PyProof.Rows
abbrev TO:=St->Hp->(Option Int->Hp->Prop)->Prop
def PO(X:Cx)(e:Option Expr)(t:TO):Prop:=
 ∀(pins:List (Addr×Obj)) (s:Shared) (σ:St) (H:Hp) (Q:Option Int->Hp->Prop),Inv X pins σ H s->t σ H Q->
  wpAny (model X.prog X.w) X.A (evalPart e X.env) (fun u s'=>∃o H',Inv X pins σ H' s'/\IsPart u o/\Q o H') X.xe s
def qt:TO:=fun _ H Q=>Q none H
def Bm(t:TE):TO:=fun σ H Q=>t σ H fun x H1=>∃i,x=.int i/\Q (some i) H1
section
variable{X:Cx}{e:Expr}{te:TE}{lo hi:Option Expr}{tl th:TO}{pos p2:Pos}
theorem zw:PO X none qt:=by
 intro pins s σ H Q I h
 rw[evalPart_none]
 exact wpAny_pure ⟨none,H,I,.none,h⟩
theorem zv(h:PE X e te):PO X (some e) (Bm te):=by
 intro pins s σ H Q I hw
 rw[evalPart_some]
 refine thn (h pins s σ H _ I hw) fun u s1 hz=>?_
 obtain⟨x,H1,I1,r1,q1⟩:=hz
 obtain⟨i,rfl,q⟩:=q1
 obtain⟨t,rfl⟩:=r1
 exact⟨some i,H1,I1,.int i t,q⟩
def SlR(X:Cx)(r:V->Option Int->Option Int->Hp->VK->Prop):Prop:=
 ∀(pins:List (Addr×Obj)) (s:Shared) (σ:St) (H:Hp) (x:V) (v vl vu:Value) (lo hi:Option Int) (sl:Addr) (Q:VK),Inv X pins σ H s->bu x v->s.heap.IsSliceOf sl vl vu .none->IsPart vl lo->IsPart vu hi->r x lo hi H Q->
  ∃T id,typeLookup (.type T) "__getitem__"=pure (some (.builtin id))/\s.TypeIs v T/\wpAny (model X.prog X.w) X.A (getItem v (.ref sl)) (EP X pins σ Q) X.xe s
theorem SlR.or{r r':V->Option Int->Option Int->Hp->VK->Prop}(h:SlR X r)(h':SlR X r'):SlR X (fun x lo hi H Q=>r x lo hi H Q\/r' x lo hi H Q):=by
 intro pins s σ H x v vl vu lo hi sl Q I rx hs pl pu q
 rcases q with q|q
 ·exact h pins s σ H x v vl vu lo hi sl Q I rx hs pl pu q
 ·exact h' pins s σ H x v vl vu lo hi sl Q I rx hs pl pu q
def tSl(r:V->Option Int->Option Int->Hp->VK->Prop)(te:TE)(tl th:TO):TE:=fun σ H Q=>te σ H fun x H1=>tl σ H1 fun l H2=>th σ H2 fun u H3=>r x l u H3 Q
theorem ve{r:V->Option Int->Option Int->Hp->VK->Prop}(hr:SlR X r)(he:PE X e te)(hl:PO X lo tl)(hu:PO X hi th):PE X (.Subscript e (.Slice lo hi none p2) pos) (tSl r te tl th):=by
 intro pins s σ H Q I h
 refine Subscript_ (thn (he pins s σ H _ I h) fun v s1 hz=>?_)
 obtain⟨x,H1,I1,r1,q1⟩:=hz
 refine wpAny_Slice (thn (hl pins s1 σ H1 _ I1 q1) fun vl s2 ⟨l,H2,I2,pl,q2⟩=>thn (hu pins s2 σ H2 _ I2 q2) fun vu s3 hz=>?_)
 obtain⟨u,H3,I3,pu,q3⟩:=hz
 rw[evalPart_none]
 refine wpAny_pure ?_
 have I4:Inv X pins σ H3 { s3 with heap:=s3.heap.push { cls:=.type "slice",data:=.fields #[vl,vu,.none] } }:=I3.kept (t':=s3.toks) fun b ob q=>Heap.get?_push_of_some _ q
 obtain⟨T,id,hT,ht,hg⟩:=hr pins { s3 with heap:=s3.heap.push { cls:=.type "slice",data:=.fields #[vl,vu,.none] } } σ H3 x v vl vu l u s3.heap.objs.size Q I4 r1 (Heap.IsSliceOf.new ..) pl pu q3
 show wpAny (model X.prog X.w) X.A (subscriptTail e (.Slice lo hi none p2) v (.ref s3.heap.objs.size)) (EP X pins σ Q) X.xe { s3 with heap:=s3.heap.push { cls:=.type "slice",data:=.fields #[vl,vu,.none] } }
 exact tail_any (ops:=[.ref s3.heap.objs.size,v]) ht hT hg (by with_unfolding_all rfl)
def xU(xs:List V)(lo hi:Option Int):List V:=(xs.drop (HT.sIx xs.length 0 lo)).take (HT.sIx xs.length xs.length hi-HT.sIx xs.length 0 lo)
theorem ig(xs:List V)(lo hi:Option Int):(xU xs lo hi).length<=xs.length:=by
 unfold xU
 rw[List.length_take,List.length_drop]
 omega
def Hc(K:PySem.W.Frag):V->Option Int->Option Int->Hp->VK->Prop:=fun x lo hi H Q=>∃a xs,x=.ref a/\SqT K H a xs/\
 ¬(HT.sIx xs.length 0 lo=0/\HT.sIx xs.length xs.length hi=xs.length)/\∀p,H p=none->Q (.ref p) (upd H p (.tup (xU xs lo hi)))
theorem xc:SlR X (Hc X.K):=by
 intro pins s σ H x v vl vu lo hi sl Q I rx hs pl pu h
 obtain⟨a,xs,rfl,hx,hw,q⟩:=h
 cases rx
 obtain⟨its,r,ht,hz⟩:=I.tuple hx
 have hlen:its.toArray.size=xs.length:=by rw[List.size_toArray];exact r.length.symm
 refine⟨"tuple",_,PyProof.Rows.slot_tuple_getitem.lookup,ht.typeIs,?_⟩
 refine HT.getItem_tuple_cut ht hs pl pu (by rw[hlen];exact hw) ?_ (by rw[hlen];exact hz)
 rw[hlen]
 refine⟨.ref s.heap.objs.size,_,I.laid (t':=s.toks) (o:=.tup (xU xs lo hi)) (fun b ob q=>Heap.get?_push_of_some _ q) (Nat.le_refl _) ?_,rfl,q _ (I.hok.fresh (Nat.le_refl _))⟩
 exact⟨Nat.le_trans (ig xs lo hi) hz,_,(r.drop (HT.sIx xs.length 0 lo)).take (HT.sIx xs.length xs.length hi-HT.sIx xs.length 0 lo),IsTup.new _ _⟩
def E9(K:PySem.W.Frag):R2:=fun x y H Q=>∃a b xs ys,x=.ref a/\y=.ref b/\SqT K H a xs/\SqT K H b ys/\xs≠[]/\xs.length+ys.length<=sizeLine/\
 (ys=[]->Q (.ref a) H)/\(ys≠[]->∀p,H p=none->Q (.ref p) (upd H p (.tup (xs++ys))))
theorem aV.nil_iff{xs:List V}{us:List Value}(r:aV xs us):us=[]↔xs=[]:=by
 cases r with
 |nil=>simp
 |cons _ _=>simp
theorem zJ:OpR X (binaryOp .Add) (E9 X.K):=by
 intro pins s σ H x y v u Q I rx ry h
 obtain⟨a,b,xs,ys,rfl,rfl,ha,hb,hx,hz,q1,q2⟩:=h
 cases rx
 cases ry
 obtain⟨its,r1,p1,_⟩:=I.tuple ha
 obtain⟨its2,r2,p2,_⟩:=I.tuple hb
 refine HT.cat_tup p1 p2 (fun z=>hx (r1.nil_iff.mp z)) (fun z=>⟨.ref a,H,I,rfl,q1 (r2.nil_iff.mp z)⟩) (fun z=>?_) (by rw[<-r1.length,<-r2.length];exact hz)
 refine⟨.ref s.heap.objs.size,_,I.laid (t':=s.toks) (o:=.tup (xs++ys)) (fun b ob q=>Heap.get?_push_of_some _ q) (Nat.le_refl _) ?_,rfl,q2 (fun w=>z (r2.nil_iff.mpr w)) _ (I.hok.fresh (Nat.le_refl _))⟩
 exact⟨by rw[List.length_append];exact hz,_,r1.append r2,IsTup.new _ _⟩
end
def ixN(n:Nat)(i:Int):Option Nat:=if 0<=i then(if i<n then some i.toNat else none)else if -(n:Int)<=i then some (i+n).toNat else none
def atI{α:Type}(xs:List α)(i:Int):Option α:=(ixN xs.length i).bind fun j=>xs[j]?
theorem rY{n:Nat}{i:Int}{j:Nat}(h:ixN n i=some j):seqIndex? i n=some j/\j<n/\-(n:Int)<=i/\i<n:=by
 unfold ixN at h
 by_cases h0:0<=i
 ·rw[if_pos h0]at h
  by_cases h1:i<n
  ·rw[if_pos h1]at h
   have e:i.toNat=j:=Option.some.inj h
   exact⟨by rw[seqIndex_of h0 h1,e],by omega,by omega,h1⟩
  ·rw[if_neg h1]at h;cases h
 ·rw[if_neg h0]at h
  by_cases h1:-(n:Int)<=i
  ·rw[if_pos h1]at h
   have e:(i+n).toNat=j:=Option.some.inj h
   exact⟨by rw[seqIndex_neg (by omega) h1,e],by omega,h1,by omega⟩
  ·rw[if_neg h1]at h;cases h
theorem tJ{α:Type}{xs:List α}{i:Int}{v:α}(h:atI xs i=some v):∃j,seqIndex? i xs.length=some j/\xs[j]?=some v/\j<xs.length/\-(xs.length:Int)<=i/\i<xs.length:=by
 unfold atI at h
 cases e:ixN xs.length i with
 |none=>rw[e]at h;cases h
 |some j=>
  rw[e]at h
  obtain⟨h1,h2,h3,h4⟩:=rY e
  exact⟨j,h1,h,h2,h3,h4⟩
theorem dQ{α:Type}{xs:List α}{j:Nat}{v:α}(h:xs[j]?=some v):atI xs (j:Int)=some v:=by
 have hj:j<xs.length:=(List.getElem?_eq_some_iff.mp h).1
 have e:ixN xs.length (j:Int)=some j:=by
  unfold ixN
  rw[if_pos (by omega),if_pos (by omega)];simp
 unfold atI;rw[e];exact h
def m9(b:Expr):Prop:=∀o i,subscripted b false o i=operate [o,i] (getItem o i)
def IxR(X:Cx)(r:R2):Prop:=
 ∀(value slice:Expr) (pins:List (Addr×Obj)) (s:Shared) (σ:St) (H:Hp) (x y:V) (v u:Value) (Q:VK),Inv X pins σ H s->bu x v->bu y u->r x y H Q->
  subscripted slice false v u=operate [v,u] (getItem v u)->wpAny (model X.prog X.w) X.A (subscriptTail value slice v u) (EP X pins σ Q) X.xe s
def MtR(X:Cx)(id:String)(r:V->List V->Hp->VK->Prop):Prop:=
 ∀(pins:List (Addr×Obj)) (s:Shared) (σ:St) (H:Hp) (x:V) (xs:List V) (v:Value) (us:List Value) (Q:VK),Inv X pins σ H s->bu x v->aV xs us->r x xs H Q->
  wpAny (model X.prog X.w) X.A (call (.builtin id) (v::us)) (EP X pins σ Q) X.xe s
section
variable{X:Cx}{a b:Expr}{ta tb:TE}{pos:Pos}
theorem IxR.or{r r':R2}(h:IxR X r)(h':IxR X r'):IxR X (fun x y H Q=>r x y H Q\/r' x y H Q):=by
 intro value slice pins s σ H x y v u Q I rx ry q hs
 rcases q with q|q
 ·exact h value slice pins s σ H x y v u Q I rx ry q hs
 ·exact h' value slice pins s σ H x y v u Q I rx ry q hs
theorem Fm{r:R2}(hr:IxR X r)(ha:PE X a ta)(hb:PE X b tb)(hs:m9 b):PE X (.Subscript a b pos) (tOp r ta tb):=by
 intro pins s σ H Q I h
 exact Subscript_ (Ga ha hb I h fun v u s2 x y H2 I2 rx ry q=>hr a b pins s2 σ H2 x y v u Q I2 rx ry q (hs _ _))
def Hg(K:PySem.W.Frag):R2:=fun x y H Q=>∃p xs i v,x=.ref p/\y=.int i/\SqL K H p xs/\atI xs i=some v/\Q v H
def Hf(K:PySem.W.Frag):R2:=fun x y H Q=>∃p xs i v,x=.ref p/\y=.int i/\SqT K H p xs/\atI xs i=some v/\Q v H
theorem zV:IxR X (Hg X.K):=by
 intro value slice pins s σ H x y v u Q I rx ry h hs
 obtain⟨p,xs,i,z,rfl,rfl,hq,he,q⟩:=h
 cases rx
 obtain⟨t,rfl⟩:=ry
 obtain⟨its,r,pl,hz⟩:=I.list hq
 obtain⟨j,h1,h2,h3,h4,h5⟩:=tJ he
 obtain⟨w,ew,rw'⟩:=r.get h2
 have hl:=r.length
 have hn:=oa
 have fin:EP X pins σ Q w s:=⟨z,H,I,rw',q⟩
 by_cases h0:0<=i
 ·have hj:i.toNat=j:=by
   rw[seqIndex_of h0 h5]at h1
   exact Option.some.inj h1
  exact item_listR pl.isList h0 (by omega) (by rw[hj];simpa using ew) fin hs
 ·have hj:(i+(its.toArray.size:Int)).toNat=j:=by
   rw[seqIndex_neg (by omega) h4]at h1
   rw[List.size_toArray,<-hl]
   exact Option.some.inj h1
  exact subscriptTail_builtinR (x:=w) pl.isList.typeIs slot_list_getitem.lookup
   (wpAny_getItem_list_neg (Q:=fun r s'=>r=w/\EP X pins σ Q r s') pl.isList (by omega) (by rw[List.size_toArray]<;>omega) (by omega) (by rw[hj];simpa using ew) ⟨rfl,fin⟩) hs
theorem C3:IxR X (Hf X.K):=by
 intro value slice pins s σ H x y v u Q I rx ry h hs
 obtain⟨p,xs,i,z,rfl,rfl,hq,he,q⟩:=h
 cases rx
 obtain⟨t,rfl⟩:=ry
 obtain⟨its,r,pl,hz⟩:=I.tuple hq
 obtain⟨j,h1,h2,h3,h4,h5⟩:=tJ he
 obtain⟨w,ew,rw'⟩:=r.get h2
 have hl:=r.length
 have hn:=oa
 have fin:EP X pins σ Q w s:=⟨z,H,I,rw',q⟩
 exact subscriptTail_builtinR (x:=w) pl.typeIs slot_tuple_getitem.lookup
  (getItem_tuple (j:=j) (Q:=fun r s'=>r=w/\EP X pins σ Q r s') pl (by omega) (by omega) (by rw[List.size_toArray,<-hl];exact h1) (by simpa using ew) ⟨rfl,fin⟩) hs
theorem px(its:List Value)(n j:Nat)(u:Value):Obj.mapSeq (·.setIfInBounds j u) { cls:=.type "list",data:=.seq its.toArray n }={ cls:=.type "list",data:=.seq (its.set j u).toArray n }:=by
 simp[Obj.mapSeq]
theorem Inv.lst{pins:List (Addr×Obj)}{σ:St}{H:Hp}{s:Shared}{p:Addr}{xs:List V}(I:Inv X pins σ H s)(h:H p=some (.lst xs)) :
  ∃(its:List Value) (n:Nat),aV xs its/\s.heap.get? p=some { cls:=.type "list",data:=.seq its.toArray n }/\xs.length<=sizeLine:=by
 obtain⟨z,its,n,r,e⟩:=I.hok p _ h
 exact⟨its,n,r,e,z⟩
theorem Inv.lstUpd{pins:List (Addr×Obj)}{σ:St}{H:Hp}{s:Shared}{p:Addr}{xs ys:List V}{its its':List Value}{n n':Nat}{f:Obj->Obj}(I:Inv X pins σ H s)(h:H p=some (.lst xs))
  (ho:s.heap.get? p=some { cls:=.type "list",data:=.seq its.toArray n }) (hf:f { cls:=.type "list",data:=.seq its.toArray n }={ cls:=.type "list",data:=.seq its'.toArray n' }) (r:aV ys its') (hz:ys.length<=sizeLine) (t:Nat) :
  Inv X pins σ (upd H p (.lst ys)) { s with heap:=s.heap.update p f,toks:=t }:=by
 have e:(s.heap.update p f).get? p=some { cls:=.type "list",data:=.seq its'.toArray n' }:=by
  rw[Heap.get?_update_self f ho (by rw[hf]<;>rfl),hf]
 refine I.write (x:=p) (e:=p) (by rw[h];trivial) (.inl rfl) (fun b u hb q=>(Heap.get?_update_other _ _ (Ne.symm hb)).trans q) ⟨_,e⟩ ?_
 exact⟨hz,its',n',r,e⟩
def E7:V->V->V->Hp->(Hp->Prop)->Prop:=fun o i v H Q=>∃p xs k j,o=.ref p/\i=.int k/\H p=some (.lst xs)/\ixN xs.length k=some j/\Q (upd H p (.lst (xs.set j v)))
theorem jE:Ge X E7:=by
 intro pins s σ H o i v ov iv u Q I ro ri rv h
 obtain⟨p,xs,k,j,rfl,rfl,hp,hj,q⟩:=h
 cases ro
 obtain⟨t,rfl⟩:=ri
 obtain⟨its,n,r,ho,hz⟩:=I.lst hp
 obtain⟨h1,h2,h3,h4⟩:=rY hj
 have hl:=r.length
 have hn:=oa
 have I':Inv X pins σ (upd H p (.lst (xs.set j v))) { s with heap:=s.heap.update p (Obj.mapSeq (·.setIfInBounds j u)) }:=
  I.lstUpd hp ho (px its n j u) (r.set rv j) (by rw[List.length_set];exact hz) s.toks
 by_cases h0:0<=k
 ·have hk:k.toNat=j:=by
   rw[seqIndex_of h0 h4]at h1
   exact Option.some.inj h1
  exact PySem.W.ki_setAt ho h0 (by omega) (by rw[List.size_toArray,<-hl];exact h4) (by rw[hk];exact⟨_,I',q⟩)
 ·have hk:(k+(its.toArray.size:Int)).toNat=j:=by
   rw[seqIndex_neg (by omega) h3]at h1
   rw[List.size_toArray,<-hl]
   exact Option.some.inj h1
  exact PySem.W.ki_setBack ho (by omega) (by rw[List.size_toArray,<-hl];exact h3) (by omega) (by rw[hk];exact⟨_,I',q⟩)
theorem kN(lo hi:Option Int)(n:Nat):(sliceBounds lo hi none n).1=((HT.sIx n 0 lo:Nat):Int)/\(sliceBounds lo hi none n).2.1=((HT.sIx n n hi:Nat):Int)/\(sliceBounds lo hi none n).2.2=1:=by
 refine⟨?_,?_,rfl⟩
 ·cases lo with
  |none=>simp[sliceBounds,HT.sIx]
  |some i=>
   simp only[sliceBounds,HT.sIx,Option.getD_none,show(1:Int)>0 by decide,if_true]
   by_cases h:i<0
   ·simp only[h,if_true]<;>omega
   ·simp only[h,if_false]<;>omega
 ·cases hi with
  |none=>simp[sliceBounds,HT.sIx]
  |some i=>
   simp only[sliceBounds,HT.sIx,Option.getD_none,show(1:Int)>0 by decide,if_true]
   by_cases h:i<0
   ·simp only[h,if_true]<;>omega
   ·simp only[h,if_false]<;>omega
theorem jD(its:List Value)(lo hi:Option Int):slicePick its.toArray lo hi none=((its.drop (HT.sIx its.length 0 lo)).take (HT.sIx its.length its.length hi-HT.sIx its.length 0 lo)).toArray:=by
 obtain⟨h1,h2,h3⟩:=kN lo hi its.toArray.size
 unfold slicePick
 rw[h1,h2,h3]
 simp only[sliceRange_one,pick_run,List.size_toArray]<;>rfl
def Hd(K:PySem.W.Frag):V->Option Int->Option Int->Hp->VK->Prop:=fun x lo hi H Q=>∃a xs,x=.ref a/\SqL K H a xs/\∀p,H p=none->Q (.ref p) (upd H p (.lst (xU xs lo hi)))
theorem qy:SlR X (Hd X.K):=by
 intro pins s σ H x v vl vu lo hi sl Q I rx hs pl pu h
 obtain⟨a,xs,rfl,hx,q⟩:=h
 cases rx
 obtain⟨its,r,ht,hz⟩:=I.list hx
 have hlen:=r.length
 refine⟨"list",_,slot_list_getitem.lookup,ht.isList.typeIs,?_⟩
 refine wpAny_getItem_list_slice ht.isList hs pl pu .none (by simp) ?_ (by rw[List.size_toArray]<;>omega)
 rw[jD,<-hlen]
 refine⟨.ref s.heap.objs.size,_,I.laid (t':=s.toks) (o:=.lst (xU xs lo hi)) (fun b ob q=>Heap.get?_push_of_some _ q) (Nat.le_refl _) ?_,rfl,q _ (I.hok.fresh (Nat.le_refl _))⟩
 exact⟨Nat.le_trans (ig xs lo hi) hz,_,0,(r.drop (HT.sIx xs.length 0 lo)).take (HT.sIx xs.length xs.length hi-HT.sIx xs.length 0 lo),Heap.get?_push_size _ rfl⟩
def iM:V->Bool
 |.non=>true
 |.bl _=>true
 |.int _=>true
 |.str _=>true
 |_=>false
def eqV:V->V->Bool
 |.non,.non=>true
 |.bl a,.bl b=>a == b
 |.bl a,.int b=>(if a then 1 else 0) == b
 |.int a,.bl b=>a == (if b then 1 else 0)
 |.int a,.int b=>a == b
 |.str a,.str b=>a == b
 |_,_=>false
theorem Dr{A:Around}{s:Shared}{y x:V}{u v:Value}(ry:bu y u)(rx:bu x v)(fy:iM y=true)(fx:iM x=true):SeqAt.EqAt A s u v (eqV y x):=by
 cases y with
 |non=>
  cases ry
  cases x with
  |non=>cases rx;exact SeqAt.EqAt.same _
  |bl b=>cases rx;exact SeqAt.EqAt.none_bool b
  |int b=>obtain⟨t,rfl⟩:=rx;exact SeqAt.EqAt.none_int b t
  |str b=>obtain⟨t,rfl⟩:=rx;exact SeqAt.EqAt.none_str b t
  |_=>exact absurd (show false=true from fx) Bool.false_ne_true
 |bl a=>
  cases ry
  cases x with
  |non=>cases rx;exact SeqAt.EqAt.bool_none a
  |bl b=>cases rx;exact SeqAt.EqAt.bool_bool a b
  |int b=>obtain⟨t,rfl⟩:=rx;exact SeqAt.EqAt.bool_int a b t
  |str b=>obtain⟨t,rfl⟩:=rx;exact SeqAt.EqAt.bool_str a b t
  |_=>exact absurd (show false=true from fx) Bool.false_ne_true
 |int a=>
  obtain⟨t',rfl⟩:=ry
  cases x with
  |non=>cases rx;exact SeqAt.EqAt.int_none a t'
  |bl b=>cases rx;exact SeqAt.EqAt.int_bool a t' b
  |int b=>obtain⟨t,rfl⟩:=rx;exact SeqAt.EqAt.int_int a t' b t
  |str b=>obtain⟨t,rfl⟩:=rx;exact SeqAt.EqAt.int_str a t' b t
  |_=>exact absurd (show false=true from fx) Bool.false_ne_true
 |str a=>
  obtain⟨t',rfl⟩:=ry
  cases x with
  |non=>cases rx;exact SeqAt.EqAt.str_none a t'
  |bl b=>cases rx;exact SeqAt.EqAt.str_bool a t' b
  |int b=>obtain⟨t,rfl⟩:=rx;exact SeqAt.EqAt.str_int a t' b t
  |str b=>obtain⟨t,rfl⟩:=rx;exact SeqAt.EqAt.str_str a t' b t
  |_=>exact absurd (show false=true from fx) Bool.false_ne_true
 |_=>exact absurd (show false=true from fy) Bool.false_ne_true
def eqU(x:V)(u:Value):Bool:=match u with
 |.none=>eqV .non x
 |.bool b=>eqV (.bl b) x
 |.int i _=>eqV (.int i) x
 |.str z _=>eqV (.str z) x
 |_=>false
theorem xR{x y:V}{u:Value}(r:bu y u)(f:iM y=true):eqU x u=eqV y x:=by
 cases y with
 |non=>cases r;rfl
 |bl b=>cases r;rfl
 |int i=>obtain⟨t,rfl⟩:=r;rfl
 |str z=>obtain⟨t,rfl⟩:=r;rfl
 |_=>exact absurd (show false=true from f) Bool.false_ne_true
theorem mZ{x:V}:∀{xs:List V} {us:List Value},aV xs us->xs.all iM=true->us.any (eqU x)=xs.any fun y=>eqV y x
 |_,_,.nil,_=>rfl
 |y::xs,u::us,.cons r t,f=>by
  rw[List.all_cons,Bool.and_eq_true]at f
  rw[List.any_cons,List.any_cons,xR r f.1,mZ t f.2]
theorem jU{A:Around}{s:Shared}{x:V}{v:Value}(rx:bu x v)(fx:iM x=true):∀{xs:List V} {us:List Value},aV xs us->xs.all iM=true->∀u∈us,SeqAt.EqAt A s u v (eqU x u)
 |_,_,.nil,_=>fun u hu=>by cases hu
 |y::xs,u::us,.cons r t,f=>fun u' hu=>by
  rw[List.all_cons,Bool.and_eq_true]at f
  rcases List.mem_cons.mp hu with rfl|hu
  ·rw[xR r f.1];exact Dr r rx f.1 fx
  ·exact jU rx fx t f.2 u' hu
def inV(x:V)(xs:List V):Bool:=xs.any fun y=>eqV y x
def rIn(K:PySem.W.Frag)(neg:Bool):R2:=fun x y H Q=>∃p xs,y=.ref p/\(SqL K H p xs\/SqT K H p xs)/\iM x=true/\xs.all iM=true/\Q (.bl (if neg then !inV x xs else inV x xs)) H
theorem rk:OpR X (compareOp .In) (rIn X.K false):=by
 intro pins s σ H x y v u Q I rx ry h
 obtain⟨p,xs,rfl,hq,fx,fs,q⟩:=h
 cases ry
 rcases hq with hq|hq
 ·obtain⟨its,r,pl,hz⟩:=I.list hq
  refine SeqAt.in_listAt (eqU x) pl.isList (fun w hw=>jU rx fx r fs w (by simpa using hw)) ⟨.bl _,H,I,rfl,?_⟩
  rw[show its.toArray.any (eqU x)=its.any (eqU x)by simp,mZ r fs]
  exact q
 ·obtain⟨its,r,pl,hz⟩:=I.tuple hq
  refine SeqAt.in_tupleAt (eqU x) pl (fun w hw=>jU rx fx r fs w (by simpa using hw)) ⟨.bl _,H,I,rfl,?_⟩
  rw[show its.toArray.any (eqU x)=its.any (eqU x)by simp,mZ r fs]
  exact q
theorem lU:bT X (.builtin "len") (fun xs H Q=>∃p ys,xs=[.ref p]/\(SqL X.K H p ys\/SqT X.K H p ys)/\Q (.int ys.length) H):=by
 intro pins s σ H xs us Q I r h
 obtain⟨p,ys,rfl,hq,q⟩:=h
 obtain⟨u,rfl,rx⟩:=gE r
 cases rx
 have hn:=oa
 rcases hq with hq|hq
 ·obtain⟨its,r',pl,hz⟩:=I.list hq
  have hlen:=r'.length
  exact Calls.call_len_list pl.isList (by simp only[List.size_toArray]<;>omega) ⟨.int ys.length,H,I.tok _,⟨s.toks+1,by rw[List.size_toArray,hlen]⟩,q⟩
 ·obtain⟨its,r',pl,hz⟩:=I.tuple hq
  have hlen:=r'.length
  exact len_tuple pl (by simp only[List.size_toArray]<;>omega) ⟨.int ys.length,H,I.tok _,⟨s.toks+1,by rw[List.size_toArray,hlen]⟩,q⟩
theorem bT.or{f:Value}{r r':List V->Hp->VK->Prop}(h:bT X f r)(h':bT X f r'):bT X f (fun xs H Q=>r xs H Q\/r' xs H Q):=by
 intro pins s σ H xs us Q I rs q
 rcases q with q|q
 ·exact h pins s σ H xs us Q I rs q
 ·exact h' pins s σ H xs us Q I rs q
theorem cK:bT X (.type "list") (fun xs H Q=>∃p ys,xs=[.ref p]/\(SqL X.K H p ys\/SqT X.K H p ys)/\∀l,H l=none->Q (.ref l) (upd H l (.lst ys))):=by
 intro pins s σ H xs us Q I r h
 obtain⟨p,ys,rfl,hq,q⟩:=h
 obtain⟨u,rfl,rx⟩:=gE r
 cases rx
 have fin:∀(its:List Value),aV ys its->ys.length<=sizeLine->∀(h':Heap) (c':Nat),(∀b o',s.heap.get? b=some o'->h'.get? b=some o')->
   h'.get? s.heap.objs.size=some { cls:=.type "list",dict:=none,data:=.seq its.toArray c',slots:=#[] }->EP X pins σ Q (.ref s.heap.objs.size) { s with heap:=h' }:=fun its r' hz h' c' kp e=>
  ⟨.ref s.heap.objs.size,_,I.laid (t':=s.toks) kp (Nat.le_refl _) (show bt X.prog X.w _ h' _ (.lst ys)from⟨hz,its,c',r',e⟩),rfl,q _ (I.hok.fresh (Nat.le_refl _))⟩
 rcases hq with hq|hq
 ·obtain⟨its,r',pl,hz⟩:=I.list hq
  have hlen:=r'.length
  obtain⟨o,ho,hc,n,hd⟩:=pl.isList
  exact call_list_seq p (.inl rfl) ho hc hd (fun h' c' kp e=>fin its r' hz h' c' kp e) (by simp only[List.size_toArray]<;>omega)
 ·obtain⟨its,r',pl,hz⟩:=I.tuple hq
  have hlen:=r'.length
  obtain⟨o,ho,hc,n,hd⟩:=pl
  exact call_list_seq p (.inr rfl) ho hc hd (fun h' c' kp e=>fin its r' hz h' c' kp e) (by simp only[List.size_toArray]<;>omega)
theorem bZ:bT X (.type "tuple") (fun xs H Q=>∃p ys,xs=[.ref p]/\((SqL X.K H p ys/\∀l,H l=none->Q (.ref l) (upd H l (.tup ys)))\/(SqT X.K H p ys/\Q (.ref p) H))):=by
 intro pins s σ H xs us Q I r h
 obtain⟨p,ys,rfl,h⟩:=h
 obtain⟨u,rfl,rx⟩:=gE r
 cases rx
 rcases h with⟨hq,q⟩|⟨hq,q⟩
 ·obtain⟨its,r',pl,hz⟩:=I.list hq
  have hlen:=r'.length
  refine call_tuple_list pl.isList (fun h' kp=>?_) (by simp only[List.size_toArray]<;>omega)
  have I1:Inv X pins σ H { s with heap:=h' }:=I.kept (t':=s.toks) kp
  have I2:Inv X pins σ (upd H h'.objs.size (.tup ys)) { s with heap:=h'.push { cls:=.type "tuple",data:=.seq its.toArray } }:=
   I1.laid (t':=s.toks) (fun b o e=>Heap.get?_push_of_some _ e) (Nat.le_refl _) (show bt X.prog X.w _ _ _ (.tup ys)from⟨hz,its,r',IsTup.new _ _⟩)
  exact⟨.ref h'.objs.size,_,I2,rfl,q _ (I1.hok.fresh (Nat.le_refl _))⟩
 ·obtain⟨its,r',pl,hz⟩:=I.tuple hq
  exact call_tuple_same pl ⟨.ref p,H,I,rfl,q⟩
def tyV(K:PySem.W.Frag)(T:String)(x:V)(H:Hp):Prop:=match x with
 |.str _=>T="str"
 |.int _=>T="int"
 | .ref p=>(T="list"/\∃xs,SqL K H p xs)\/(T="tuple"/\∃o,K.lookup p=some o/\o.cls=.type "tuple"/\o.dict=none)\/
   (T="dict"/\((∃kvs,H p=some (.dK kvs))\/∃kvs,H p=some (.dT kvs)))\/(T="set"/\∃S n,H p=some (.set S n))
 |_=>False
theorem Bk{pins:List (Addr×Obj)}{σ:St}{H:Hp}{s:Shared}{T:String}{x:V}{v:Value}(I:Inv X pins σ H s)(r:bu x v)(ty:tyV X.K T x H) :
  s.TypeIs v T/\∀a,v=.ref a->∃ob,s.heap.get? a=some ob/\ob.dict=none:=by
 cases x with
 |str z=>
  obtain⟨t,rfl⟩:=r
  cases (show T="str" from ty)
  exact⟨typeIs_str s z t,fun _ e=>nomatch e⟩
 |int i=>
  obtain⟨t,rfl⟩:=r
  cases (show T="int" from ty)
  exact⟨typeIs_int s i t,fun _ e=>nomatch e⟩
 |ref p=>
  cases r
  rcases ty with⟨rfl,xs,hq⟩|⟨rfl,o,hk,hc,hd⟩|⟨rfl,hk⟩|⟨rfl,S,n,hk⟩
  ·obtain⟨its,_,pl,_⟩:=I.list hq
   refine⟨pl.isList.typeIs,fun a e=>?_⟩
   cases e
   obtain⟨o,n,e,c,hd,_⟩:=pl
   exact⟨o,e,hd⟩
  ·refine⟨⟨o,I.kIn p o hk,hc⟩,fun a e=>?_⟩
   cases e
   exact⟨o,I.kIn _ o hk,hd⟩
  ·have z:∃o,s.heap.get? p=some o/\o.ExactDict:=by
    rcases hk with⟨kvs,hk⟩|⟨kvs,hk⟩
    ·obtain⟨_,_,_,_,o,_,_,e,ex,_⟩:=I.hok p _ hk
     exact⟨o,e,ex⟩
    ·obtain⟨_,_,_,_,o,_,_,e,ex,_⟩:=I.hok p _ hk
     exact⟨o,e,ex⟩
   obtain⟨o,e,ex⟩:=z
   refine⟨⟨o,e,ex.1⟩,fun a e2=>?_⟩
   cases e2
   exact⟨o,e,ex.2.1⟩
  ·obtain⟨o,_,_,_,e,ex,_⟩:=I.hok p _ hk
   refine⟨⟨o,e,ex.1⟩,fun a e2=>?_⟩
   cases e2
   exact⟨o,e,ex.2.1⟩
 |_=>exact False.elim ty
def tBM(K:PySem.W.Frag)(T:String)(r:V->List V->Hp->VK->Prop)(to:TE)(t:TA):TE:=fun σ H Q=>to σ H fun x H1=>tyV K T x H1/\t σ H1 fun xs H2=>r x xs H2 Q
variable{o e:Expr}{es:List Expr}{to:TE}{t:TA}{name:Str}{apos cpos:Pos}{T id:String}{r:V->List V->Hp->VK->Prop}
theorem Fo(pa:PlainAttrs T)(slot:Slot T name id)(hty:typeOf (.builtin id)=pure (.type "method_descriptor"))(hm:MtR X id r)(ho:PE X o to)(ha:PA X (e::es) t)
  (hbase:attributeBase o name X.env (eval o X.env)=eval o X.env:=by rfl)
  (hfew:((backTo cpos (starEach (e::es) X.env)).all (fun x=>!x.1)&&(backToKw cpos (keywordEach [] X.env)).all (fun x=>x.1.isSome)
   && decide ((e::es).length+([]:List Keyword).length+(if ([]:List Keyword).isEmpty then 0 else 1)<30))=true:=by rfl)
  (hline:(apos.endLine == cpos.line)=true:=by rfl) (hs:starEach (e::es) X.env=(false,eval e X.env)::starEach es X.env:=by rfl) (hplain:(backTo cpos (starEach es X.env)).any (·.1)=false:=by rfl) :
  PE X (.Call (.Attribute o name apos) (e::es) [] cpos) (tBM X.K T r to t):=by
 intro pins s σ H Q I h
 refine wpAny_Call_method_late hbase hfew hline rfl (thn (ho pins s σ H _ I h) fun v s1 hz=>?_)
 obtain⟨x,H1,I1,r1,ty,q1⟩:=hz
 obtain⟨h1,h2⟩:=Bk I1 r1 ty
 refine⟨T,id,pa,slot,hty,h1,h2,?_⟩
 have hA:=ha cpos pins s1 σ H1 _ I1 q1
 rw[hs]at hA ⊢
 refine Calls.callWith_builtin (by show(false||(backTo cpos (starEach es X.env)).any (·.1))=false;rw[hplain]<;>rfl) (Calls.evalArgs_plain ?_)
 exact thn hA fun us s2 ⟨vs,H2,I2,r2,q2⟩=>hm pins s2 σ H2 x vs v us Q I2 r1 r2 q2
end
def MtM(X:Cx)(id:String)(r:V->List V->Hp->VK->Prop):Prop:=
 ∀(pins:List (Addr×Obj)) (s:Shared) (σ:St) (H:Hp) (x:V) (xs:List V) (v:Value) (us:List Value) (Q:VK),Inv X pins σ H s->bu x v->aV xs us->r x xs H Q->
  wpAny (model X.prog X.w) X.A (call (.builtin id) (v::us)) (EP X pins σ Q) X.xe s
theorem aV.one:∀{x:V} {us:List Value},aV [x] us->∃u,us=[u]/\bu x u
 |_,_,.cons r .nil=>⟨_,rfl,r⟩
theorem aV.eraseIdx:∀{xs:List V} {us:List Value} (i:Nat),aV xs us->aV (xs.eraseIdx i) (us.eraseIdx i)
 |_,_,_,.nil=>.nil
 |_,_,0,.cons _ t=>t
 |_,_,i+1,.cons r t=>.cons r (aV.eraseIdx i t)
theorem lC{α:Type}:∀(l:List α) (i:Nat),(l.eraseIdx i).length<=l.length
 |[],_=>Nat.le_refl _
 |_::_,0=>Nat.le_succ _
 |_::r,i+1=>Nat.succ_le_succ (lC r i)
section
variable{X:Cx}{pins:List (Addr×Obj)}{σ:St}{H:Hp}{s:Shared}{l b:Addr}{xs ys zs:List V}
theorem Inv.lset{its its':List Value}{n:Nat}{f:Array Value->Array Value}{t':Nat}(I:Inv X pins σ H s)(hH:H l=some (.lst xs))
  (e:s.heap.get? l=some { cls:=.type "list",data:=.seq its.toArray n }) (hf:f its.toArray=its'.toArray) (hv:aV ys its') (hz:ys.length<=sizeLine) :
  Inv X pins σ (upd H l (.lst ys)) { s with heap:=s.heap.update l (Obj.mapSeq f),toks:=t' }:=by
 have q:=PySem.IsL.update e f
 rw[hf]at q
 refine I.write (x:=l) (e:=l) (by rw[hH];exact trivial) (.inl rfl) (fun b' u hb hu=>(Heap.get?_update_other s.heap (Obj.mapSeq f) (Ne.symm hb)).trans hu) ⟨_,q⟩ ?_
 exact⟨hz,its',_,hv,q⟩
theorem Inv.lnew{its:List Value}{t':Nat}(I:Inv X pins σ H s)(hv:aV ys its)(hz:ys.length<=sizeLine) :
  Inv X pins σ (upd H s.heap.objs.size (.lst ys)) { s with heap:=s.heap.push { cls:=.type "list",data:=.seq its.toArray },toks:=t' }:=
 I.laid (fun _ _ q=>Heap.get?_push_of_some _ q) (Nat.le_refl _) ⟨hz,its,0,hv,Heap.get?_push_size _ rfl⟩
theorem Inv.fresh(I:Inv X pins σ H s):H s.heap.objs.size=none:=I.hok.fresh (Nat.le_refl _)
theorem Inv.lstM(I:Inv X pins σ H s)(hH:H l=some (.lst xs)):xs.length<=sizeLine/\∃(its:List Value) (n:Nat),aV xs its/\xs.length=its.length/\s.heap.get? l=some { cls:=.type "list",data:=.seq its.toArray n }:=by
 obtain⟨z,its,n,r,e⟩:=I.hok l _ hH
 exact⟨z,its,n,r,r.length,e⟩
theorem vE{n:Nat}(h:n<=sizeLine):Builtin.List.listTooLong n=false:=by
 unfold Builtin.List.listTooLong
 exact decide_eq_false (by omega)
end
section
variable{X:Cx}
def qN:V->List V->Hp->VK->Prop:=fun x vs H Q=>∃l xs y,x=.ref l/\vs=[y]/\H l=some (.lst xs)/\xs.length<sizeLine/\Q .non (upd H l (.lst (xs++[y])))
theorem gO:MtM X "list.append" qN:=by
 intro pins s σ H x vs v us Q I rx rv h
 obtain⟨l,xs,y,rfl,rfl,hH,hz,q⟩:=h
 cases rx
 obtain⟨u,rfl,ru⟩:=rv.one
 obtain⟨z,its,n,r,hl,e⟩:=I.lstM hH
 refine call_meets F.slot_list_append ⟨_,e,rfl⟩ F.entry_list_append (F.args_list_append_2 _ _) (PySem.list_append l its.toArray n u (by rw[List.size_toArray];omega)) ⟨e,?_⟩
 refine⟨.non,_,I.lset (its':=its++[u]) hH e (by simp) (r.append (.cons ru .nil)) ?_,rfl,q⟩
 rw[List.length_append,List.length_singleton]
 omega
def qM:V->List V->Hp->VK->Prop:=fun x vs H Q=>∃l b xs zs,x=.ref l/\vs=[.ref b]/\H l=some (.lst xs)/\H b=some (.lst zs)/\xs.length+zs.length<=sizeLine/\Q .non (upd H l (.lst (xs++zs)))
theorem rA:MtM X "list.extend" qM:=by
 intro pins s σ H x vs v us Q I rx rv h
 obtain⟨l,b,xs,zs,rfl,rfl,hH,hB,hz,q⟩:=h
 cases rx
 obtain⟨u,rfl,ru⟩:=rv.one
 cases ru
 obtain⟨z,its,n,r,hl,e⟩:=I.lstM hH
 obtain⟨z2,its2,n2,r2,hl2,e2⟩:=I.lstM hB
 have hsz:its.toArray.size+its2.toArray.size<=sizeLine:=by rw[List.size_toArray,List.size_toArray];omega
 have hlong:¬(!its.toArray.isEmpty&&Builtin.List.listTooLong (its.toArray.size+its2.toArray.size))=true:=by
  rw[vE hsz,Bool.and_false]
  exact Bool.false_ne_true
 refine call_meets F.slot_list_extend ⟨_,e,rfl⟩ F.entry_list_extend (F.args_list_extend_2 _ _)
  (AutoSeq1.list_extend_list_list_0 l its.toArray n b its2.toArray n2 hlong (by rw[List.size_toArray];omega) (by omega)) ⟨e,e2,?_⟩
 refine⟨.non,_,I.lset (its':=its++its2) hH e (by simp) (r.append r2) ?_,rfl,q⟩
 rw[List.length_append]
 omega
def xm:V->List V->Hp->VK->Prop:=fun x vs H Q=>∃l xs i k y,x=.ref l/\vs=[.int i]/\H l=some (.lst xs)/\-(2^63)<=i/\i<2^63/\seqIndex? i xs.length=some k/\xs[k]?=some y/\Q y (upd H l (.lst (xs.eraseIdx k)))
theorem vF:MtM X "list.pop" xm:=by
 intro pins s σ H x vs v us Q I rx rv h
 obtain⟨l,xs,i,k,y,rfl,rfl,hH,h1,h2,hk,hy,q⟩:=h
 cases rx
 obtain⟨u,rfl,ru⟩:=rv.one
 obtain⟨t,rfl⟩:=ru
 obtain⟨z,its,n,r,hl,e⟩:=I.lstM hH
 obtain⟨w,hw,rw'⟩:=r.get hy
 refine call_meets F.slot_list_pop ⟨_,e,rfl⟩ F.entry_list_pop (F.args_list_pop_2 _ _)
  (MeetsSeq.list_pop_at l its.toArray n i t k w (fitsIndex_both h1 h2) (by rw[List.size_toArray,<-hl];exact hk) (by rw[<-Array.getElem?_toList];exact hw) (by rw[List.size_toArray];omega)) ⟨e,?_⟩
 refine⟨y,_,I.lset (its':=its.eraseIdx k) hH e ?_ (r.eraseIdx k) ?_,rw',q⟩
 ·show its.toArray.eraseIdxIfInBounds k=(its.eraseIdx k).toArray
  rw[List.eraseIdxIfInBounds_toArray]
 ·have:=lC xs k
  omega
def DR:R2:=fun x y H Q=>∃l b xs zs,x=.ref l/\y=.ref b/\H l=some (.lst xs)/\H b=some (.lst zs)/\xs.length+zs.length<=sizeLine/\∀p,H p=none->Q (.ref p) (upd H p (.lst (xs++zs)))
theorem Cr:OpR X (binaryOp .Add) DR:=by
 intro pins s σ H x y v u Q I rx ry h
 obtain⟨l,b,xs,zs,rfl,rfl,hH,hB,hz,q⟩:=h
 cases rx
 cases ry
 obtain⟨z,its,n,r,hl,e⟩:=I.lstM hH
 obtain⟨z2,its2,n2,r2,hl2,e2⟩:=I.lstM hB
 refine PySem.P.add_list e e2 ?_ (by rw[List.size_toArray,List.size_toArray];omega)
 have ea:its.toArray++its2.toArray=(its++its2).toArray:=by simp
 rw[ea]
 exact⟨.ref _,_,I.lnew (t':=s.toks) (r.append r2) (by rw[List.length_append];omega),rfl,q _ I.fresh⟩
end
section
variable{κ:Type}[DecidableEq κ]
def iK(kvs:List (κ×V))(k:κ):Option V:=(kvs.find? fun kv=>decide (kv.1=k)).map (·.2)
def mj(kvs:List (κ×V))(k:κ)(v:V):List (κ×V):=
 if (kvs.any fun kv=>decide (kv.1=k))=true then kvs.map (fun kv=>if kv.1=k then(kv.1,v)else kv)else kvs++[(k,v)]
theorem jy{p:κ×V}{r:List (κ×V)}{k:κ}(e:p.1=k):iK (p::r) k=some p.2:=by simp[iK,List.find?_cons,e]
theorem jA{p:κ×V}{r:List (κ×V)}{k:κ}(e:¬p.1=k):iK (p::r) k=iK r k:=by simp[iK,List.find?_cons,e]
theorem nA(k:κ):∀kvs:List (κ×V),(kvs.any fun kv=>decide (kv.1=k))=(iK kvs k).isSome
 |[]=>rfl
 |p::r=>by
  rw[List.any_cons]
  by_cases e:p.1=k
  ·simp only[jy e,decide_eq_true e,Bool.true_or,Option.isSome_some]
  ·rw[jA e,decide_eq_false e,Bool.false_or];exact nA k r
theorem gT(kvs:List (κ×V))(k:κ)(v:V):(mj kvs k v).length<=kvs.length+1:=by
 unfold mj
 split
 ·rw[List.length_map];omega
 ·rw[List.length_append,List.length_cons,List.length_nil];omega
theorem pR.isSome_eq{o:Option V}{u:Option Value}(r:pR o u):o.isSome=u.isSome:=by
 cases o with
 |none=>cases u with
  |none=>rfl
  |some _=>exact(show False from r).elim
 |some _=>cases u with
  |none=>exact(show False from r).elim
  |some _=>rfl
theorem KV.val{kvs:List (κ×V)}{vs:List (κ×Value)}(r:KV kvs vs)(k:κ):pR (iK kvs k) (valueAt vs k):=by
 unfold KV at r
 induction r with
 |nil=>exact True.intro
 |@cons p q ps qs h t ih=>
  obtain⟨h1,h2⟩:=h
  by_cases e:p.1=k
  ·have e':q.1=k:=h1.symm.trans e
   have b:valueAt (q::qs) k=some q.2:=by simp[valueAt,List.find?_cons,e']
   rw[jy e,b];exact h2
  ·have e':¬q.1=k:=fun z=>e (h1.trans z)
   have b:valueAt (q::qs) k=valueAt qs k:=by simp[valueAt,List.find?_cons,e']
   rw[jA e,b];exact ih
theorem KV.any{kvs:List (κ×V)}{vs:List (κ×Value)}(r:KV kvs vs)(k:κ):(kvs.any fun kv=>decide (kv.1=k))=vs.any fun kv=>decide (kv.1=k):=by
 unfold KV at r
 induction r with
 |nil=>rfl
 |cons h t ih=>rw[List.any_cons,List.any_cons,ih,h.1]
theorem KV.repl{kvs:List (κ×V)}{vs:List (κ×Value)}(r:KV kvs vs)(k:κ){y:V}{u:Value}(ry:bu y u) :
  KV (kvs.map fun kv=>if kv.1=k then(kv.1,y)else kv) (vs.map fun kv=>if kv.1=k then(kv.1,u)else kv):=by
 unfold KV at r ⊢
 induction r with
 |nil=>exact .nil
 |@cons p q ps qs h t ih=>
  rw[List.map_cons,List.map_cons]
  refine .cons ?_ ih
  obtain⟨h1,h2⟩:=h
  by_cases e:p.1=k
  ·rw[if_pos e,if_pos (h1.symm.trans e)];exact⟨h1,ry⟩
  ·rw[if_neg e,if_neg (fun z=>e (h1.trans z))];exact⟨h1,h2⟩
theorem KV.put{kvs:List (κ×V)}{vs:List (κ×Value)}(r:KV kvs vs)(k:κ){y:V}{u:Value}(ry:bu y u):KV (mj kvs k y) (stored vs k u):=by
 unfold mj stored
 rw[r.any k]
 by_cases e:(vs.any fun kv=>decide (kv.1=k))=true
 ·rw[if_pos e,if_pos e];exact r.repl k ry
 ·rw[if_neg e,if_neg e];exact Paired.snoc r ⟨rfl,ry⟩
theorem KV.length{kvs:List (κ×V)}{vs:List (κ×Value)}(r:KV kvs vs):kvs.length=vs.length:=Paired.length r
end
theorem vV{P:Program}{w:World}{k:Key}{u:Value}(r:bu (kV k) u):(ba P w).is k u=true:=by
 cases k with
 |inl i=>obtain⟨t,e⟩:=(show ∃t,u=Value.int i t from r);subst e;exact mJ P w i t
 |inr x=>obtain⟨t,e⟩:=(show ∃t,u=Value.str x t from r);subst e;exact mI P w x t
theorem gX{P:Program}{w:World}:∀{ks:List Key} {us:List Value},aV (ks.map kV) us->ItemsAre (ba P w) ks us
 |[],_,r=>by rw[List.map_nil]at r;cases r;exact .nil
 |k::ks,_,r=>by
  rw[List.map_cons]at r
  cases r with
  |cons h t=>exact .cons (vV h) (gX t)
abbrev KT(H:Hp):List (List Key×V)->List (List Key×Addr×Value)->Prop:=Paired fun p q=>p.1=q.1/\H q.2.1=some (.tup (p.1.map kV))/\bu p.2 q.2.2
theorem KT.val{H:Hp}{kvs:List (List Key×V)}{xs:List (List Key×Addr×Value)}(r:KT H kvs xs)(k:List Key):pR (iK kvs k) ((atKey xs k).map (·.2)):=by
 induction r with
 |nil=>exact True.intro
 |@cons p q ps qs h t ih=>
  obtain⟨h1,_,h2⟩:=h
  by_cases e:p.1=k
  ·have e':q.1=k:=h1.symm.trans e
   have b:atKey (q::qs) k=some q.2:=by simp[atKey,List.find?_cons,e']
   rw[jy e,b];exact h2
  ·have e':¬q.1=k:=fun z=>e (h1.trans z)
   have b:atKey (q::qs) k=atKey qs k:=by simp[atKey,List.find?_cons,e']
   rw[jA e,b];exact ih
theorem KT.repl{H:Hp}{kvs:List (List Key×V)}{xs:List (List Key×Addr×Value)}(r:KT H kvs xs)(k:List Key){y:V}{u:Value}(ry:bu y u) :
  KT H (kvs.map fun kv=>if kv.1=k then(kv.1,y)else kv) (xs.map (putAt k u)):=by
 induction r with
 |nil=>exact .nil
 |@cons p q ps qs h t ih=>
  rw[List.map_cons,List.map_cons]
  refine .cons ?_ ih
  obtain⟨h1,h2,h3⟩:=h
  unfold putAt
  by_cases e:p.1=k
  ·rw[if_pos e,if_pos (h1.symm.trans e)];exact⟨h1,h2,ry⟩
  ·rw[if_neg e,if_neg (fun z=>e (h1.trans z))];exact⟨h1,h2,h3⟩
theorem KT.put{H:Hp}{kvs:List (List Key×V)}{xs:List (List Key×Addr×Value)}(r:KT H kvs xs)(k:List Key){b:Addr}{y:V}{u:Value}(hb:H b=some (.tup (k.map kV)))(ry:bu y u) :
  KT H (mj kvs k y) (storedH xs k b u):=by
 have e:(kvs.any fun kv=>decide (kv.1=k))=(atKey xs k).isSome:=by
  rw[nA,(r.val k).isSome_eq,Option.isSome_map]
 unfold mj storedH
 rw[e]
 by_cases q:(atKey xs k).isSome=true
 ·rw[if_pos q,if_pos q];exact r.repl k ry
 ·rw[if_neg q,if_neg q];exact Paired.snoc r ⟨rfl,hb,ry⟩
theorem KT.keeps{H H':Hp}{kvs:List (List Key×V)}{xs:List (List Key×Addr×Value)}(r:KT H kvs xs)(ht:∀b ys,H b=some (.tup ys)->H' b=some (.tup ys)):KT H' kvs xs:=
 Paired.mapP r fun _ _ z=>⟨z.1,ht _ _ z.2.1,z.2.2⟩
section
variable{P:Program}{w:World}{H:Hp}{h:Heap}{a:Addr}
theorem BG{u:HO}(ok:HOk P w H h)(e:Rd H a u):bt P w H h a u:=e.ok ok
theorem sI{kvs:List (Key×V)}(ok:HOk P w H h)(e:Rd H a (.dK kvs)):kvs.length<=sizeLine/\(a == sysModules)=false/\∃vs,KV kvs vs/\h.DictOf (ba P w) a vs:=
 show bt P w H h a (.dK kvs)from BG ok e
theorem F5{kvs:List (Key×V)}(ok:HOk P w H h)(e:H a=some (.dK kvs)):kvs.length<=sizeLine/\(a == sysModules)=false/\∃vs,KV kvs vs/\h.DictOf (ba P w) a vs:=sI ok (.inl e)
theorem oj{ks:List Key}(ok:HOk P w H h)(e:H a=some (.tup (ks.map kV))):(tupleKind (ba P w)).is h ks a:=by
 obtain⟨_,its,r,o,h1,h2,n,h3⟩:=(show bt P w H h a (.tup (ks.map kV))from ok a _ e)
 exact⟨o,its.toArray,n,h1,h2,h3,by simpa using gX r⟩
theorem pI{kvs:List (List Key×V)}(ok:HOk P w H h)(e:Rd H a (.dT kvs)):kvs.length<=sizeLine/\(a == sysModules)=false/\
  ∃xs,KT H kvs xs/\h.DictOfH (tupleKind (ba P w)) a xs:=by
 obtain⟨z,y,xs,r,o,es,ep,h1,h2,h3,h4,h5⟩:=(show bt P w H h a (.dT kvs)from BG ok e)
 refine⟨z,y,xs,r,o,es,ep,h1,h2,h3,h4,fun x hx=>?_,h5⟩
 have all:∀{l:List (List Key×V)} {m:List (List Key×Addr×Value)},KT H l m->∀x∈m,(tupleKind (ba P w)).is h x.1 x.2.1:=by
  intro l m q
  induction q with
  |nil=>intro x hx;exact nomatch hx
  |@cons p q ps qs hq t ih=>
   intro x hx
   rcases List.mem_cons.mp hx with e|hx
   ·subst e
    exact oj ok (by rw[<-hq.1];exact hq.2.1)
   ·exact ih x hx
 exact all r x hx
theorem F4{kvs:List (List Key×V)}(ok:HOk P w H h)(e:H a=some (.dT kvs)):kvs.length<=sizeLine/\(a == sysModules)=false/\
  ∃xs,KT H kvs xs/\h.DictOfH (tupleKind (ba P w)) a xs:=pI ok (.inl e)
end
def DGet(H:Hp)(a:Addr)(y:V)(r:Option V):Prop:=
 (∃kvs k,Rd H a (.dK kvs)/\y=kV k/\r=iK kvs k)\/∃kvs k b,Rd H a (.dT kvs)/\y=.ref b/\H b=some (.tup (k.map kV))/\r=iK kvs k
def x6(H:Hp)(a:Addr)(y v:V)(H':Hp):Prop:=
 (∃kvs k,H a=some (.dK kvs)/\y=kV k/\kvs.length<sizeLine/\H'=upd H a (.dK (mj kvs k v)))\/
 ∃kvs k b,H a=some (.dT kvs)/\y=.ref b/\H b=some (.tup (k.map kV))/\kvs.length<sizeLine/\H'=upd H a (.dT (mj kvs k v))
theorem DGet.k{H:Hp}{a:Addr}{kvs:List (Key×V)}{k:Key}(e:H a=some (.dK kvs)):DGet H a (kV k) (iK kvs k):=.inl ⟨kvs,k,.inl e,rfl,rfl⟩
theorem x6.k{H:Hp}{a:Addr}{kvs:List (Key×V)}{k:Key}{v:V}(e:H a=some (.dK kvs))(hl:kvs.length<sizeLine):x6 H a (kV k) v (upd H a (.dK (mj kvs k v))):=.inl ⟨kvs,k,e,rfl,hl,rfl⟩
theorem x6.t{H:Hp}{a b:Addr}{kvs:List (List Key×V)}{k:List Key}{v:V}(e:H a=some (.dT kvs))(eb:H b=some (.tup (k.map kV)))(hl:kvs.length<sizeLine) :
  x6 H a (.ref b) v (upd H a (.dT (mj kvs k v))):=.inr ⟨kvs,k,b,e,rfl,eb,hl,rfl⟩
section
variable{X:Cx}{pins:List (Addr×Obj)}{σ:St}{H:Hp}{s:Shared}{a:Addr}{y v:V}{u r:Value}{o:Option V}{A:Around}{E:Value->Shared->Prop}
theorem Inv.big(I:Inv X pins σ H s):sysModules<s.heap.objs.size:=by
 have h:mainGlobals<s.heap.objs.size:=(I.mod.glob.keeps I.bk).lt
 exact Nat.lt_trans (by decide) h
theorem sR{Q:Value->Shared->Prop}(hu:A.units+1<cLine)(I:Inv X pins σ H s)(g:DGet H a y (some v))(ry:bu y u)(h:∀w' s',Inv X pins σ H s'->bu v w'->Q w' s') :
  wpAny (model X.prog X.w) A (getItem (.ref a) u) Q E s:=by
 rcases g with⟨kvs,k,e,ey,l⟩|⟨kvs,k,b,e,ey,eb,l⟩
 ·subst ey
  obtain⟨z,hd,vs,rel,dd⟩:=sI I.hok e
  obtain⟨w',hw,rw'⟩:=pR.some_of (v:=v) (o:=valueAt vs k) (by rw[l];exact rel.val k)
  exact wpAny_getItem_of (vV ry) dd.mapOf hw (h w' _ (I.tok _) rw')
 ·subst ey
  cases (show u=Value.ref b from ry)
  obtain⟨z,hd,xs,rel,dd⟩:=pI I.hok e
  obtain⟨w',hw,rw'⟩:=pR.some_of (v:=v) (o:=(atKey xs k).map (·.2)) (by rw[l];exact rel.val k)
  obtain⟨p,hp,hp2⟩:=Option.map_eq_some_iff.mp hw
  refine wpAny_getItem_heap (tupleKind_room_in1 hu) (oj I.hok eb) dd hp ?_
  rw[hp2]
  exact h w' _ (I.tok _) rw'
theorem Hl{Q:Value->Shared->Prop}(hu:A.units+1<cLine)(I:Inv X pins σ H s)(g:DGet H a y o)(ry:bu y u)(h:∀s',Inv X pins σ H s'->Q (.bool o.isSome) s') :
  wpAny (model X.prog X.w) A (compareOp .In u (.ref a)) Q E s:=by
 rcases g with⟨kvs,k,e,ey,l⟩|⟨kvs,k,b,e,ey,eb,l⟩
 ·subst ey
  obtain⟨z,hd,vs,rel,dd⟩:=sI I.hok e
  refine wpAny_in_of (vV ry) hd dd.mapOf ?_
  rw[<-(rel.val k).isSome_eq,<-l]
  exact h _ (I.tok _)
 ·subst ey
  cases (show u=Value.ref b from ry)
  obtain⟨z,hd,xs,rel,dd⟩:=pI I.hok e
  refine wpAny_in_heap (tupleKind_room_in1 hu) (oj I.hok eb) hd dd ?_
  have q:=(rel.val k).isSome_eq
  rw[Option.isSome_map]at q
  rw[<-q,<-l]
  exact h _ (I.tok _)
theorem sP{h':Heap}{t':Nat}{ob:HO}(I:Inv X pins σ H s)(mu:Mut (H a))(hs:Heap.SameBut a s.heap h')(he:∃q,h'.get? a=some q)(new:bt X.prog X.w (upd H a ob) h' a ob) :
  Inv X pins σ (upd H a ob) { s with heap:=h',toks:=t' }:=
 I.write (x:=a) (e:=a) mu (.inl rfl) (fun b q hb z=>(hs.2 b hb).trans z) he new
theorem Ds{P:Program}{w:World}{H':Hp}{h':Heap}{kvs:List (Key×V)}{vs:List (Key×Value)}(z:kvs.length<=sizeLine)(hd:(a == sysModules)=false)(rel:KV kvs vs)(dd:h'.DictOf (ba P w) a vs) :
  bt P w H' h' a (.dK kvs):=⟨z,hd,vs,rel,dd⟩
theorem sQ{H':Hp}{Q:Unit->Shared->Prop}(hu:A.units+1<cLine)(I:Inv X pins σ H s)(g:x6 H a y v H')(ry:bu y u)(rv:bu v r)(h:∀s',Inv X pins σ H' s'->Q () s') :
  wpAny (model X.prog X.w) A (setItem (.ref a) u r) Q E s:=by
 rcases g with⟨kvs,k,e,ey,l,eH⟩|⟨kvs,k,b,e,ey,eb,l,eH⟩
 ·subst ey eH
  obtain⟨z,hd,vs,rel,dd⟩:=F5 I.hok e
  have hz:vs.length<=sizeLine:=by rw[<-rel.length];exact z
  have hl:(mj kvs k v).length<=sizeLine:=by have:=gT kvs k v;omega
  refine wpAny_setItem_pairs (hsz:=hz) (vV ry) dd fun h' dd' hs=>h _ ?_
  have he:∃q,h'.get? a=some q:=let ⟨q,_,_,hq,_⟩:=dd';⟨q,hq⟩
  exact sP I (by rw[e];exact True.intro) hs he (Ds hl hd (rel.put k rv) dd')
 ·subst ey eH
  cases (show u=Value.ref b from ry)
  obtain⟨z,hd,xs,rel,dd⟩:=F4 I.hok e
  have hz:xs.length<=sizeLine:=by rw[<-Paired.length rel];exact z
  have hl:(mj kvs k v).length<=sizeLine:=by have:=gT kvs k v;omega
  refine wpAny_setItem_heap (hsz:=hz) (tupleKind_room_in1 hu) (oj I.hok eb) dd fun h' dd' hs=>h _ ?_
  obtain⟨q,es,ep,hq,h2,h3,h4,_,h5⟩:=dd'
  refine sP I (by rw[e];exact True.intro) hs ⟨q,hq⟩ ⟨hl,hd,_,(rel.put k eb rv).keeps fun c ys ec=>?_,q,es,ep,hq,h2,h3,h4,h5⟩
  rw[aJ (FD ec e (fun z=>nomatch z))]
  exact ec
end
section
variable{X:Cx}{pins:List (Addr×Obj)}{σ:St}{H:Hp}{s:Shared}{a:Addr}{kvs:List (Key×V)}{k:Key}{u:Value}{A:Around}{E:Value->Shared->Prop}
theorem F6{Q:Value->Shared->Prop}(I:Inv X pins σ H s)(e:Rd H a (.dK kvs))(h:∀t s',Inv X pins σ H s'->Q (.int kvs.length t) s'):wpAny (model X.prog X.w) A (call (.builtin "len") [.ref a]) Q E s:=by
 obtain⟨z,hd,vs,rel,dd⟩:=sI I.hok e
 refine call_len_dict hd dd (by rw[<-rel.length];rw[sizeLine_eq]at z;omega) ?_
 rw[<-rel.length]
 exact h _ _ (I.tok _)
end
def Aw(i:Expr):Prop:=∀ov iv,subscripted i false ov iv=operate [ov,iv] (getItem ov iv)
theorem qu{prog:Program}{w:World}{A:Around}{E:Value->Shared->Prop}{s:Shared}{env:Env}{value slice:Expr}{pos:Pos}{T id:String}{Q:Value->Shared->Prop}
  (hl:typeLookup (.type T) "__getitem__"=pure (some (.builtin id))) (hs:Aw slice)
  (h:wpAny (model prog w) A (eval value env) (fun o s₁=>wpAny (model prog w) A (eval slice env) (fun i s₂=>s₂.TypeIs o T/\wpAny (model prog w) A (getItem o i) Q E s₂) E s₁) E s) :
  wpAny (model prog w) A (eval (.Subscript value slice pos) env) Q E s:=by
 refine Subscript_ (wpAny_mono h (fun o s₁ h₁=>wpAny_mono h₁ (fun i s₂ h₂=>?_) fun _ _ x=>x) fun _ _ x=>x)
 obtain⟨hT,h₂⟩:=h₂
 unfold subscriptTail
 refine wpAny_bind ?_
 rw[getitemInPython_of_ne hT.not_modules]
 refine wpAny_bind (wpAny_specialOf hT hl ?_)
 have fin:wpAny (model prog w) A (subscripted slice false o i) (fun r s₃=>wpAny (model prog w) A (letTemporaryGo value o r >>= fun _=>pure r) Q E s₃) E s₂:=by
  rw[hs o i]
  exact wpAny_operating (wpAny_mono h₂ (fun r s₃ h₃=>wpAny_bind (wpAny_letTemporaryGo (wpAny_pure h₃))) fun _ _ x=>x)
 first
  |exact wpAny_pure (wpAny_bind fin)
  |exact wpAny_bind (wpAny_pure (wpAny_bind fin))
  |exact wpAny_bind fin
theorem mR{X:Cx}{pins:List (Addr×Obj)}{σ:St}{H:Hp}{s:Shared}{a:Addr}{y:V}{o:Option V}(I:Inv X pins σ H s)(g:DGet H a y o):s.TypeIs (.ref a) "dict":=by
 rcases g with⟨kvs,k,e,_,_⟩|⟨kvs,k,b,e,_,_,_⟩
 ·obtain⟨_,_,vs,_,dd⟩:=sI I.hok e
  exact dd.typeIs
 ·obtain⟨_,_,xs,_,dd⟩:=pI I.hok e
  exact dd.typeIs
def Br(td ty:TE):TE:=fun σ H Q=>td σ H fun x H1=>ty σ H1 fun y H2=>∃a v,x=.ref a/\DGet H2 a y (some v)/\Q v H2
def E3(ty td:TE):TE:=fun σ H Q=>ty σ H fun y H1=>td σ H1 fun x H2=>∃a o,x=.ref a/\DGet H2 a y o/\Q (.bl o.isSome) H2
def BC(td ty tv:TE):TS:=fun D σ H=>tv σ H fun v H1=>td σ H1 fun x H2=>ty σ H2 fun y H3=>∃a H4,x=.ref a/\x6 H3 a y v H4/\D.nx σ H4
section
variable{X:Cx}{o i e value:Expr}{pos pos' tpos:Pos}{td ty tv:TE}
theorem zB(hu:X.A.units+1<cLine)(ho:PE X o td)(hi:PE X i ty)(hs:Aw i):PE X (.Subscript o i pos) (Br td ty):=by
 intro pins s σ H Q I h
 refine qu PySem.F.slot_dict_getitem.lookup hs (thn (ho pins s σ H _ I h) fun u s1 ⟨x,H1,I1,rx,q1⟩=>thn (hi pins s1 σ H1 _ I1 q1) fun iv s2 hz=>?_)
 obtain⟨y,H2,I2,ry,a,v,ex,g,q2⟩:=hz
 subst ex
 obtain rfl:u=Value.ref a:=rx
 exact⟨mR I2 g,sR hu I2 g ry fun w' s3 I3 rw'=>⟨v,H2,I3,rw',q2⟩⟩
theorem Cj(hu:X.A.units+1<cLine)(hi:PE X i ty)(ho:PE X o td):PC X .In i o (E3 ty td):=by
 intro pins s σ H Q I h
 refine thn (hi pins s σ H _ I h) fun iv s1 ⟨y,H1,I1,ry,q1⟩=>thn (ho pins s1 σ H1 _ I1 q1) fun u s2 hz=>?_
 obtain⟨x,H2,I2,rx,a,ov,ex,g,q2⟩:=hz
 subst ex
 obtain rfl:u=Value.ref a:=rx
 exact Hl hu I2 g ry fun s3 I3=>⟨.bl ov.isSome,H2,I3,rfl,q2⟩
theorem zt(hu:X.A.units+1<cLine)(ho:PE X o td)(hi:PE X i ty)(hv:PE X value tv)(hs:swapsWith value (some (.Subscript o i pos')) pos.line X.env=pure false) :
  PS X (.Assign [.Subscript o i pos'] value pos) (BC td ty tv):=by
 intro pins s σ H D I h
 refine wpAny_Assign_Subscript (thn (hv pins s σ H _ I h) fun r s1 ⟨v,H1,I1,rv,q1⟩=>thn (ho pins s1 σ H1 _ I1 q1) fun u s2 ⟨x,H2,I2,rx,q2⟩=>thn (hi pins s2 σ H2 _ I2 q2) fun iv s3 hz=>?_) hs
 obtain⟨y,H3,I3,ry,a,H4,ex,g,q3⟩:=hz
 subst ex
 obtain rfl:u=Value.ref a:=rx
 exact sQ hu I3 g ry rv fun s4 I4=>⟨σ,H4,I4,q3⟩
end
theorem wq{P:Program}{w:World}{H:Hp}(h:Heap)(hb:sysModules<h.objs.size):bt P w H (h.push { cls:=.type "dict",data:=.dict #[] }) h.objs.size (.dT []):=
 ⟨Nat.zero_le _,beq_eq_false_iff_ne.mpr (Ne.symm (Nat.ne_of_lt hb)),[],.nil,_,#[],0,Heap.get?_push_size _ rfl,⟨rfl,rfl,rfl⟩,rfl,rfl,List.nodup_nil⟩
def wZ:TE:=fun _ H Q=>∀p,H p=none->Q (.ref p) (upd H p (.dT []))
section
variable{X:Cx}{pos:Pos}
theorem vg:PE X (.Dict [] [] pos) wZ:=fun pins s σ H Q I h=>
 wpAny_Dict_empty ⟨.ref s.heap.objs.size,_,I.laid (a:=s.heap.objs.size) (o:=.dT []) (t':=s.toks) (fun _ _ q=>Heap.get?_push_of_some _ q) (Nat.le_refl _) (wq s.heap I.big),rfl,h _ (I.hok.fresh (Nat.le_refl _))⟩
end
structure M1(X:Cx)(o:Expr)(m:Str)(apos:Pos)(e:Expr)(cpos:Pos):Prop where
 base:attributeBase o m X.env (eval o X.env)=eval o X.env
 few:((backTo cpos (starEach [e] X.env)).all (fun x=>!x.1)&&(backToKw cpos (keywordEach [] X.env)).all (fun x=>x.1.isSome)
  && decide (([e]:List Expr).length+([]:List Keyword).length+(if ([]:List Keyword).isEmpty then 0 else 1)<30))=true
 line:(apos.endLine == cpos.line)=true
 trees:backTo cpos (starEach [e] X.env)=[(false,eval e X.env)]
structure M2(X:Cx)(o:Expr)(m:Str)(apos:Pos)(e f:Expr)(cpos:Pos):Prop where
 base:attributeBase o m X.env (eval o X.env)=eval o X.env
 few:((backTo cpos (starEach [e,f] X.env)).all (fun x=>!x.1)&&(backToKw cpos (keywordEach [] X.env)).all (fun x=>x.1.isSome)
  && decide (([e,f]:List Expr).length+([]:List Keyword).length+(if ([]:List Keyword).isEmpty then 0 else 1)<30))=true
 line:(apos.endLine == cpos.line)=true
 trees:backTo cpos (starEach [e,f] X.env)=[(false,eval e X.env),(false,eval f X.env)]
end L2
namespace Att
open PySem PySem.W PySem.Calls PyProof.Rows
theorem gY{P:Params}{h:Heap}:∀(ns:List Int) (vs:List Value),WellAll P h vs (ns.map WData.int)->IntsAre vs ns:=by
 intro ns
 induction ns with
 |nil=>
  intro vs w
  rw[List.map_nil]at w
  cases w
  exact .nil
 |cons n ns ih=>
  intro vs w
  rw[List.map_cons]at w
  cases w with
  |cons a b=>
   cases a
   exact .cons _ _ (ih _ b)
theorem qD{l:OpenLaw}{n:Nat}(hn:l.most=some n){P:Params}{h:Heap}{args:List WData}{vals:List Value}
  (hpre:l.row.toRowW.claim.pre args=true) (hwl:WellAll P h vals args) :
  ∃a vs ns,vals=[Value.ref a]/\args=[WData.list (ns.map WData.int)]/\h.get? a=some { cls:=.type "list",data:=.seq vs.toArray }/\IntsAre vs ns/\ns.length<=n:=by
 have hsh:WShape.hasAll [] args [.list .int]=true:=(pre_splitW hpre).1
 have hc:l.pre.holds [] { args:=args }=true:=(pre_splitW hpre).2
 obtain⟨d,r,rfl,h1,h2⟩:=hasAllW_cons hsh
 obtain rfl:=hasAllW_nil h2
 obtain⟨xs,rfl,h3⟩:=hasW_list h1
 obtain⟨ns,rfl⟩:=items_int h3
 have hlen:ns.length<=n:=by
  unfold OpenLaw.pre at hc
  have h4:(WTm.not (.lt (.lit (.int (n:Int))) (.len (.arg 0)))).holds [] { args:=[.list (ns.map .int)] }=true:=by
   have h4:=(holds_andW hc).1
   rw[hn]at h4
   exact h4
  have h5:=condW_of h4 (w_not (w_lt w_lit (w_len_list (w_arg rfl))))
  rw[List.length_map]at h5
  refine Nat.le_of_not_lt fun q=>?_
  have q':(n:Int)<((ns.length:Nat):Int):=by omega
  first
   |(rw[decide_eq_true q']at h5;exact absurd h5 (by decide))
   |(simp at h5;omega)
 cases hwl with
 |cons w1 w2=>
  cases w2
  cases w1 with
  |list ho hall=>exact⟨_,_,ns,rfl,rfl,ho,gY ns _ hall,hlen⟩
theorem qY(l:OpenLaw)(args:List WData):l.row.toRowW.claim.post args (.bool true) args=true:=
 postW_of (r:=l.row.toRowW) (X:=(true == true))
  (show WShape.has [] (.bool true) .bool=true by first|rfl|decide|simp[WShape.has,WShape.arms,WShape.armsAll])
  (show(WTm.eq .res (.lit (.bool true))).value [] { args:=args,res:=some (.bool true),after:=args }=some (.bool (true == true))from w_eq_bool (w_res rfl) w_lit) rfl
theorem attach_call{l:OpenLaw}{n:Nat}{q:Program}{loose:List Str}{XP:(Str->Option Value)->Heap->Prop}{YP:World->Heap->Prop}{d:DefRec}
  (hn:l.most=some n) (hdf:d.params.defaults=[])
  (call:∀(w:World) (s₀ s₁:Shared) (mg mb:Str->Option Value) (fa:Addr) (o:Obj) (pm cd doc:Value) (a:Addr) (vs:List Value) (ns:List Int),
   Ground q loose [] XP w s₀ mg mb s₁.heap->YP w s₁.heap->
   s₁.heap.get? fa=some o->o.data=.func (docDef d.name d.params d.body d.scope pm cd doc)->s₁.heap.CodeRec cd d.name->mg d.name=some (.ref fa)->
   s₁.heap.get? a=some { cls:=.type "list",data:=.seq vs.toArray }->IntsAre vs ns->ns.length<=n->s₁.gens=#[]->
   codeAny (model l.prog w) callerA (.call (.ref fa) ⟨[.ref a],[]⟩) (fun r s'=>r=.ok (.ret (.bool true))/\OldK s₁.heap s'.heap/\s'.os=s₁.os/\AllBare s'.gens) s₁) :
  WalkO q loose XP YP l.row.toRowW d [] (fun f vs=>PySem.call f vs):=by
 intro w s₀ s₁ mg mb G Y fa o pm cd doc dV kV ho hd hcd hD hmg hg args vals as hpre hlay hrd hwl hlo
 obtain rfl:dV=.none:=Dflts.none hD hdf
 obtain rfl:kV=.none:=Dflts.noKw hD
 obtain⟨a,vs,ns,rfl,rfl,hobj,hints,hlen⟩:=qD hn hpre hwl
 refine enter_call (codeAny_mono (call w s₀ s₁ mg mb fa o pm cd doc a vs ns G Y ho (fd_plain hd) hcd hmg hobj hints hlen hg) fun r s' hq=>?_)
 obtain⟨rfl,h2,h3,h4⟩:=hq
 exact⟨.inl ⟨.bool true,.bool true,[],rfl,fun _=>rfl,.bool true,qY l _,fun _=>⟨List.Pairwise.nil,fun _ hm=>(nomatch hm)⟩⟩,h2,h3,h4⟩
end Att
namespace L2
open PySem PySem.Spec PyProof.Rows
theorem eK:∀{vs:List Value} {ns:List Int},IntsAre vs ns->aV (ns.map V.int) vs
 |_,_,.nil=>.nil
 |_,_,.cons n t h=>.cons ⟨t,rfl⟩ (eK h)
def D7(H:Hp):Prop:=∀b,H b=none\/∃o xs,H b=some (.frz o (.lst xs))
theorem vT{P:Program}{w:World}{K:PySem.W.Frag}{mg mb:Str->Option Value}{CX:CXT}{k:Nat}{fa a:Addr}{fd:FuncData}{x:Str}{sp:Sp}{s₁:Shared}{vs:List Value}{ns:List Int}
  (KX:K.In s₁.heap) (hns:s₁.heap.Ns mainGlobals mg) (hb:s₁.heap.Ns builtinsNs mb) (hbb:∀x:Str,x≠"__name__"->mb x=bootBuiltins x) (hlim:s₁.heap.NoLimit) (hg:s₁.gens=#[])
  (ha:s₁.heap.get? a=some { cls:=.type "list",data:=.seq vs.toArray }) (hi:IntsAre vs ns) (hl:ns.length<=sizeLine) (hr:iH k callerA)
  (F:∀base:Heap,K.In base->base.Ns mainGlobals mg->mq P w K mg base CX k fa fd [x] sp) (hbind:∀(s:Shared) (u:Value),BindsTo s fd ⟨[u],[]⟩ [(x,u)])
  (hsp:∀H:Hp,D7 H->SqL K H a (ns.map V.int)->sp [.ref a] H (fun v _=>v=.bl true) fun _ _ _=>False)
  (hCX:∀H e s',CX [] H s₁ (fun _ _ _=>False) e s'->False) :
  codeAny (model P w) callerA (.call (.ref fa) ⟨[.ref a],[]⟩) (fun r s'=>r=.ok (.ret (.bool true))/\OldK s₁.heap s'.heap/\s'.os=s₁.os/\AllBare s'.gens) s₁:=by
 have rv:=eK hi
 have lenV:=hi.length
 have core:∀H:Hp,D7 H->SqL K H a (ns.map V.int)->HOk P w H s₁.heap->(∀b,H b≠none->b=a)->(H a≠none->K.lookup a=none)->
   codeAny (model P w) callerA (.call (.ref fa) ⟨[.ref a],[]⟩) (fun r s'=>r=.ok (.ret (.bool true))/\OldK s₁.heap s'.heap/\s'.os=s₁.os/\AllBare s'.gens) s₁:=by
  intro H hO hS hok hA hK
  have base_of:∀{b:Addr} {o:Obj},s₁.heap.get? b=some o->H b=none->(wd s₁.heap H).get? b=some o:=fun e n=>wc e n
  have noA:∀{b:Addr} {o:Obj} {es:Array DictEntry} {ep:Nat},s₁.heap.get? b=some o->o.data=.dict es ep->H b=none:=fun{b o es ep} e d=>by
   cases q:H b with
   |none=>rfl
   |some u=>
    have e':b=a:=hA b (by rw[q];simp)
    subst e'
    rw[ha]at e;cases e
    have d':Data.seq vs.toArray _=Data.dict es ep:=d
    cases d'
  have nsK:∀{b:Addr} {m:Str->Option Value},s₁.heap.Ns b m->(wd s₁.heap H).Ns b m:=fun{b m} ⟨o,es,ep,e,d,r⟩=>⟨o,es,ep,base_of e (noA e d),d,r⟩
  have hKb:K.In (wd s₁.heap H):=fun b o e=>base_of (KX b o e) (by
   cases q:H b with
   |none=>rfl
   |some u=>
    have e':b=a:=hA b (by rw[q];simp)
    subst e'
    rw[hK (by rw[q];simp)]at e;cases e)
  have hM:Mod K mg (wd s₁.heap H):=⟨hKb,nsK hns,⟨mb,nsK hb,hbb⟩,let ⟨mc,h1,h2⟩:=hlim;⟨mc,nsK h1,h2⟩⟩
  have e0:D9 P w K mg (wd s₁.heap H) callerA [] s₁ H:=⟨rfl,hM,fun b o e=>zL e,Nat.le_of_eq (sj _ _),trivial,fun b hb=>absurd (show b∈([]:List Addr)from hb) (by simp),hok,.of_eq hg⟩
  refine codeAny_mono ((F _ hKb (nsK hns)).run callerA [] s₁ H ⟨[.ref a],[]⟩ [.ref a] [.ref a] _ _ hr e0 (hbind s₁ (.ref a)) (.cons rfl .nil) (hsp H hO hS)) fun r s' h=>?_
  cases r with
  |error e=>exact(hCX H e s' h).elim
  |ok fl=>
   cases fl with
   |next=>exact False.elim h
   |brk=>exact False.elim h
   |cont=>exact False.elim h
   |ret u=>
    obtain⟨v,H',os,bare,un,hok',r',q⟩:=h
    have q':v=.bl true:=q
    subst q'
    obtain rfl:u=Value.bool true:=r'
    refine⟨rfl,OldK.of_keep fun b o e=>?_,os,bare⟩
    cases q:H b with
    |none=>exact un.keep b o e q (by intro z;exact absurd (show b∈([]:List Addr)from z) (by simp)) (by simp)
    |some u=>
     rcases hO b with z|⟨ob,xs,z⟩
     ·rw[q]at z;cases z
     ·have z2:=un.frzs b ob _ z
      obtain⟨e1,_⟩:=hok b _ z
      obtain⟨e2,_⟩:=hok' b _ z2
      rw[e]at e1;cases e1
      exact e2
 cases hk:K.lookup a with
 |some o=>
  have e:=KX a o hk
  rw[ha]at e
  cases e
  refine core (fun _=>none) (fun _=>.inl rfl) (.inr ⟨_,vs.toArray,_,hk,rfl,rfl,rfl,by rw[List.size_toArray,lenV];exact hl,by simpa using rv⟩) (fun b u z=>by have z':(none:Option HO)=some u:=z;cases z') (fun b z=>absurd rfl z) fun z=>absurd rfl z
 |none=>
  refine core (fun b=>if b=a then some (.frz { cls:=.type "list",data:=.seq vs.toArray } (.lst (ns.map V.int)))else none) (fun b=>?_) (.inl (.inr ⟨{ cls:=.type "list",data:=.seq vs.toArray },if_pos rfl⟩)) (fun b u z=>?_) (fun b z=>?_) fun _=>hk
  ·by_cases hb:b=a
   ·exact .inr ⟨_,_,if_pos hb⟩
   ·exact .inl (if_neg hb)
  ·by_cases hb:b=a
   ·have z':=(if_pos hb).symm.trans z
    cases z'
    subst hb
    exact⟨ha,by rw[List.length_map];exact hl,vs,_,rv,ha⟩
   ·have z':=(if_neg hb).symm.trans z
    cases z'
  ·by_cases hb:b=a
   ·exact hb
   ·exact absurd (if_neg hb) z
theorem yU{l:PySem.W.OpenLaw}{n k:Nat}{q:Program}{loose:List Str}{XP:(Str->Option Value)->Heap->Prop}{YP:World->Heap->Prop}{d:DefRec}{K:Params->PySem.W.Frag}{CX:World->CXT}{sp:World->Sp}{x:Str}
  (hn:l.most=some n) (hn2:n<=sizeLine) (hdf:d.params.defaults=[]) (hr:iH k callerA)
  (hY:∀(w:World) (h:Heap),YP w h->(K w.params).In h)
  (F:∀(w:World) (mg:Str->Option Value) (fa:Addr) (h:Heap),(K w.params).In h->h.Ns mainGlobals mg->mg d.name=some (.ref fa)->
   ∃fd:FuncData,(∀(s:Shared) (u:Value),BindsTo s fd ⟨[u],[]⟩ [(x,u)])/\
    ∀base:Heap,(K w.params).In base->base.Ns mainGlobals mg->mq l.prog w (K w.params) mg base (CX w) k fa fd [x] (sp w))
  (hsp:∀(w:World) (H:Hp) (a:Addr) (ns:List Int),ns.length<=n->D7 H->SqL (K w.params) H a (ns.map V.int)->sp w [.ref a] H (fun v _=>v=.bl true) fun _ _ _=>False)
  (hCX:∀(w:World) (H:Hp) (s:Shared) (e:Value) (s':Shared),CX w [] H s (fun _ _ _=>False) e s'->False) :
  PySem.W.WalkO q loose XP YP l.row.toRowW d [] (fun f vs=>PySem.call f vs):=by
 refine Att.attach_call hn hdf fun w s₀ s₁ mg mb fa o pm cd doc a vs ns G Y ho hd hcd hmg hobj hints hlen hg=>?_
 have KX:=hY w _ Y
 obtain⟨fd,hb,hF⟩:=F w mg fa _ KX G.T.g hmg
 exact vT KX G.T.g G.T.b G.T.builtins G.T.nolimit hg hobj hints (Nat.le_trans hlen hn2) hr hF hb (fun H hO hS=>hsp w H a ns hlen hO hS) fun H e s'=>hCX w H s₁ e s'
def eD(s:Stmt):Arguments:=match s with
 |.FunctionDef _ a _ _ _ _ _ _ _ _=>a
 |_=>{ posonlyargs:=[],args:=[],vararg:=none,kwonlyargs:=[],kw_defaults:=[],kwarg:=none,defaults:=[] }
def cB(s:Stmt):List Stmt:=match s with
 |.FunctionDef _ _ b _ _ _ _ _ _ _=>b
 |_=>[]
def aE(s:Stmt):Scope:=match s with
 |.FunctionDef _ _ _ _ _ _ sc _ _ _=>sc
 |_=>{ kind:=.function,names:=[],isGenerator:=false,isCoroutine:=false }
abbrev CX0:CXT:=fun _ _ _ _ _ _=>False
abbrev E0:XK:=fun _ _ _=>False
theorem Fq{X:Cx}:tQ CX0 X E0:=fun _ _ _ _ _ _ _ h=>h.elim
structure Fun(K:PySem.W.Frag)(x qual:Str)(st:Stmt)(f:Addr)(fd:FuncData):Prop where
 ex:∃(oc:Value) (od:Option Addr) (kV doc pm:Value) (an:Option Addr) (cdv ct:Value) (osl:Array (Option Value)),
  fd=PySem.W.fnOf x qual (eD st) (cB st) (aE st) .none kV doc pm an cdv ct/\K.lookup f=some ⟨oc,od,.func fd,osl⟩/\PySem.W.codeIn K cdv qual=true
 kp:PySem.W.keepIn K (.ref f)=true
section
variable{P:Program}{w:World}{K:PySem.W.Frag}{mg:Str->Option Value}{base:Heap}
theorem Fun.ok{x qual:Str}{st:Stmt}{f:Addr}{fd:FuncData}{N ps:List Str}{k:Nat}{sp:Sp}(F:Fun K x qual st f fd)(S:bA N ps (aE st))(len:∀vs H Q E,sp vs H Q E->vs.length=ps.length)
  (hbody:∀(cdv:Value) (A:Around) (outer:List Env) (s:Shared) (H:Hp) (vs:List V) (Q:VK) (E:XK),iH k (A.deeper (envOfC qual (aE st) s.heap.objs.size f cdv))->sp vs H Q E->
   ∃t,PSs (tY CX0 P w K mg base N qual (aE st) f cdv A outer s H E).nox (cB st) t/\t { nx:=fun _ H'=>Q .non H',rt:=Q } (start N vs) H):mq P w K mg base CX0 (k+1) f fd ps sp:=by
 obtain⟨oc,od,kV,doc,pm,an,cdv,ct,osl,rfl,lk,hcd⟩:=F.ex
 refine F0 lk hcd S len fun A outer s H vs Q E hr hsp=>?_
 obtain⟨t,h,q⟩:=hbody cdv A outer s H vs Q E hr hsp
 exact⟨t,h.nox,q⟩
theorem Fun.binds{x qual:Str}{st:Stmt}{f:Addr}{fd:FuncData}{ps:List Str}(F:Fun K x qual st f fd)
  (h:∀(kV doc pm:Value) (an:Option Addr) (cdv ct:Value) (us:List Value),us.length=ps.length->bindArgs (PySem.W.fnOf x qual (eD st) (cB st) (aE st) .none kV doc pm an cdv ct) ⟨us,[]⟩=pure (ps.zip us)):ng K fd ps []:=by
 obtain⟨oc,od,kV,doc,pm,an,cdv,ct,osl,rfl,lk,hcd⟩:=F.ex
 exact .all (h kV doc pm an cdv ct)
theorem Dg{x qual:Str}{st:Stmt}{f:Addr}{oc:Value}{od an:Option Addr}{osl:Array (Option Value)}{kV doc pm cdv ct:Value}(l:K.lookup f=some ⟨oc,od,.func (PySem.W.fnOf x qual (eD st) (cB st) (aE st) .none kV doc pm an cdv ct),osl⟩)
  (c:PySem.W.codeIn K cdv qual=true) (k:PySem.W.keepIn K (.ref f)=true):Fun K x qual st f (PySem.W.fnOf x qual (eD st) (cB st) (aE st) .none kV doc pm an cdv ct):=⟨⟨oc,od,kV,doc,pm,an,cdv,ct,osl,rfl,l,c⟩,k⟩
end
theorem j7{A:Around}{k:Nat}(hr:iH k A):A.units+1<cLine:=Nat.lt_of_le_of_lt (Nat.add_le_add_left (by decide:1<=64) _) hr.units
theorem qw{n:Nat}(h:n<=1000):n<sizeLine:=Nat.lt_of_le_of_lt h (by decide)
section
variable{X:Cx}
theorem pv(i:Nat){x:Str}{pos:Pos}(hN:X.N[i]?=some x:=by rfl)(hv:Vis X.env.scope x:=by first|exact Or.inl rfl|exact Or.inr (Or.inl rfl)|exact Or.inr (Or.inr rfl))(hd:(x == ("__debug__":Str))=false:=by decide)
  (hcd:(x == ("__classdict__":Str))=false:=by decide):PE X (.Name x pos) (DP i):=B0 hN hv hd hcd
theorem sX:bT X (.builtin "len") (fun xs H Q=>∃a kvs,xs=[V.ref a]/\H a=some (.dK kvs)/\Q (.int kvs.length) H):=by
 intro pins s σ H xs us Q I r h
 obtain⟨a,kvs,rfl,ha,q⟩:=h
 obtain⟨u,rfl,ru⟩:=gE r
 cases ru
 exact F6 I (.inl ha) fun t s' I'=>⟨.int kvs.length,H,I',⟨t,rfl⟩,q⟩
end
theorem C5{A B:Prop}(h:B):if false=true then A else B:=by
 rw[if_neg Bool.false_ne_true]
 exact h
theorem C4{A B:Prop}(h:A):if true=true then A else B:=by
 rw[if_pos rfl]
 exact h
def pN(H H':Hp):Prop:=∀b o,H b=some o->H' b=some o
theorem pN.refl(H:Hp):pN H H:=fun _ _ h=>h
end L2
namespace OG
open PySem PySem.Spec PyProof.Rows L2
structure WE(X:Cx)(e:Expr)(t:TE):Prop where
 h:PE X e t
structure WT(X:Cx)(e:Expr)(t:TT):Prop where
 h:PT X e t
structure WW(X:Cx)(e:Expr)(t:TT):Prop where
 h:PW X e t
structure WA(X:Cx)(es:List Expr)(t:TA):Prop where
 h:PA X es t
structure WS(X:Cx)(st:Stmt)(t:TS):Prop where
 h:PS X st t
structure WSs(X:Cx)(st:List Stmt)(t:TS):Prop where
 h:PSs X st t
structure WI(X:Cx)(tg iter:Expr)(wi:TI):Prop where
 h:PI X tg iter wi
structure WG(X:Cx)(target:Expr)(t:TG):Prop where
 h:PG X target t
structure WGs(X:Cx)(ts:List Expr)(t:TGs):Prop where
 h:PGs X ts t
structure WC(X:Cx)(op:CmpOp)(a b:Expr)(t:TE):Prop where
 h:PC X op a b t
structure WO(X:Cx)(e:Option Expr)(t:TO):Prop where
 h:PO X e t
section
variable{X:Cx}
theorem ak{i j pos}:WE X (.Constant (.int i) j pos) (tC (.int i)):=⟨Ce ⟩
end
section
variable{X:Cx}
theorem qh{b j pos}:WE X (.Constant (.bool b) j pos) (tC (.bl b)):=⟨Fp ⟩
end
section
variable{X:Cx}
variable{a b:Expr}{ta tb:TE}{pos:Pos}
theorem yG{op:CmpOp}{t:TE}(h:WC X op a b t)(h1:behindInMarks op b=false:=by first|exact nobehind _ (by decide) (by decide)|rfl):WT X (.Compare a [op] [b] pos) (tB t):=⟨BR h.h h1⟩
end
section
variable{X:Cx}
variable{a b:Expr}{ta tb:TE}{pos:Pos}
theorem yE{e:Expr}{t:TE}(h:WE X e t)(he:∀whole,isTrue e X.env whole=(do let v <-whole;standAt e.pos;holding [v] (truthy v)):=by intro _;rfl):WT X e (tB t):=⟨BP h.h he⟩
end
section
variable{X:Cx}
variable{a b:Expr}{ta tb:TE}{pos:Pos}
variable{tA tB':TT}{rest:List Expr}
theorem uo(ha:WT X a tA):WW X (.BoolOp .And [a] pos) tA:=⟨zm ha.h⟩
end
section
variable{X:Cx}
variable{a b:Expr}{ta tb:TE}{pos:Pos}
variable{tA tB':TT}{rest:List Expr}
theorem yC(ha:WT X a tA):WW X (.BoolOp .Or [a] pos) tA:=⟨BM ha.h⟩
end
section
variable{X:Cx}
variable{a b:Expr}{ta tb:TE}{pos:Pos}
variable{tA tB':TT}{rest:List Expr}
theorem yD(ha:WT X a tA)(hb:WW X (.BoolOp .And (b::rest) pos) tB'):WW X (.BoolOp .And (a::b::rest) pos) (Gp tA tB'):=⟨BN ha.h hb.h⟩
end
section
variable{X:Cx}
variable{a b:Expr}{ta tb:TE}{pos:Pos}
variable{tA tB':TT}{rest:List Expr}
theorem Bc(ha:WT X a tA)(hb:WW X (.BoolOp .Or (b::rest) pos) tB'):WW X (.BoolOp .Or (a::b::rest) pos) (tOr tA tB'):=⟨Fg ha.h hb.h⟩
end
section
variable{X:Cx}
variable{a b:Expr}{ta tb:TE}{pos:Pos}
variable{tA tB':TT}{rest:List Expr}
theorem yF(ha:WT X a tA):WT X (.UnaryOp .Not a pos) (Gj tA):=⟨BQ ha.h⟩
end
section
variable{X:Cx}
variable{a b:Expr}{ta tb:TE}{pos:Pos}
variable{tA tB':TT}{rest:List Expr}
theorem yO{op}{t:TE}(h:WE X a t):WE X (.BoolOp op [a] pos) t:=⟨Cb h.h⟩
end
section
variable{X:Cx}
variable{a b:Expr}{ta tb:TE}{pos:Pos}
variable{tA tB':TT}{rest:List Expr}
theorem yR(ha:WE X a ta)(hb:WE X (.BoolOp .And (b::rest) pos) tb):WE X (.BoolOp .And (a::b::rest) pos) (Bw ta tb):=⟨Cg ha.h hb.h⟩
end
section
variable{X:Cx}
variable{a b:Expr}{ta tb:TE}{pos:Pos}
variable{tA tB':TT}{rest:List Expr}
theorem yP(ha:WE X a ta):WE X (.UnaryOp .Not a pos) (Bn ta):=⟨Cc ha.h⟩
end
section
variable{X:Cx}{st:Stmt}{rest:List Stmt}{t u:TS}{e:Expr}{te:TE}{pos:Pos}
theorem ur :WSs X [] Bo:=⟨zq ⟩
end
section
variable{X:Cx}{st:Stmt}{rest:List Stmt}{t u:TS}{e:Expr}{te:TE}{pos:Pos}
theorem p7(h1:WS X st t)(h2:WSs X rest u):WSs X (st::rest) (Gh t u):=⟨u0 h1.h h2.h⟩
end
section
variable{X:Cx}{st:Stmt}{rest:List Stmt}{t u:TS}{e:Expr}{te:TE}{pos:Pos}
theorem uq(h1:WS X st t):WSs X [st] t:=⟨zp h1.h⟩
end
section
variable{X:Cx}{st:Stmt}{rest:List Stmt}{t u:TS}{e:Expr}{te:TE}{pos:Pos}
theorem uu(he:WE X e te)(hs:swapsWith e none pos.line X.env=pure false:=by rfl):WS X (.Expr e pos) (Bp te):=⟨zr he.h hs⟩
end
section
variable{X:Cx}{st:Stmt}{rest:List Stmt}{t u:TS}{e:Expr}{te:TE}{pos:Pos}
theorem yI(he:WE X e te):WS X (.Return (some e) pos) (Gi te):=⟨BU he.h⟩
end
section
variable{X:Cx}{st:Stmt}{rest:List Stmt}{t u:TS}{e:Expr}{te:TE}{pos:Pos}
theorem Be{c:Expr}{a b:List Stmt}{tc:TT}(hc:WT X c tc)(ha:WSs X a t)(hb:WSs X b u):WS X (.If c a b pos) (Gn tc t u):=⟨Fh hc.h ha.h hb.h⟩
end
section
variable{X:Cx}{pos:Pos}
theorem aI{i:Nat}{x:Str}(hN:X.N.Nodup)(hi:X.N[i]?=some x)(hx:Loc X.env.scope x)(hf:X.fn x=true\/X.env.scope.names.lookup x=some .local:=by first|exact .inl rfl|exact .inr rfl|assumption):WG X (.Name x pos) (pE i):=⟨zA hN hi hx hf⟩
end
section
variable{X:Cx}{pos:Pos}
theorem uy :WGs X [] GJ:=⟨zy ⟩
end
section
variable{X:Cx}{pos:Pos}
theorem qd{e:Expr}{es:List Expr}{t:TG}{u:TGs}(h1:WG X e t)(h2:WGs X es u)(hs:(assignEach (e::es) X.env).map (·.2)=assign e X.env::(assignEach es X.env).map (·.2):=by rfl):WGs X (e::es) (Df t u):=⟨vc h1.h h2.h hs⟩
end
section
variable{X:Cx}{pos:Pos}
theorem yL{es:List Expr}{k:Nat}{t:TGs}{n:Nat}(hc:X.calm=true)(h:WGs X es t)(hn:(assignEach es X.env).length=n:=by rfl)(hst:(assignEach es X.env).findIdx? (·.1)=none:=by rfl):WG X (.Tuple es k pos) (GH X.K n t):=⟨BY hc h.h hn hst⟩
end
section
variable{X:Cx}{pos:Pos}
theorem yM {o i : Expr} {to ti : TE} {t : D6} (ho : WE X o to) (hi : WE X i ti) (hs : Ge X t) (ha : ∀ v, assign (.Subscript o i pos) X.env v = (do
   let ov <-holding [v] (eval o X.env)
   let iv <-holding [v,ov] (eval i X.env)
   standAt pos
   holding [v,ov,iv] (setItem ov iv v)
   release [v,ov,iv] []):=by intro _;rfl):WG X (.Subscript o i pos) (GI to ti t):=⟨BZ ho.h hi.h hs ha⟩
end
section
variable{X:Cx}{pos:Pos}
theorem p9{tg e:Expr}{te:TE}{g:TG}(he:WE X e te)(hg:WG X tg g)(hs:swapsWithSole [tg] e pos.line X.env=pure false:=by rfl)(hw:swappedStores [tg] e X.env=pure none:=by rfl)(h1:(assignEach [tg] X.env).map (·.2)=[assign tg X.env]:=by rfl):WS X (.Assign [tg] e pos) (Bv te g):=⟨BW he.h hg.h hs hw h1⟩
end
section
variable{X:Cx}{pos:Pos}
theorem yH{i:Nat}{x:Str}{e:Expr}{te:TE}{pos':Pos}(hN:X.N.Nodup)(hi:X.N[i]?=some x)(hx:Loc X.env.scope x)(he:WE X e te)(hs:swapsWith e (some (.Name x pos')) pos.line X.env=pure false:=by rfl)(hf:X.fn x=true\/X.env.scope.names.lookup x=some .local:=by first|exact .inl rfl|exact .inr rfl|assumption):WS X (.Assign [.Name x pos'] e pos) (Bv te (pE i)):=⟨BS hN hi hx he.h hs hf⟩
end
section
variable{X:Cx}{pos:Pos}
theorem p8{c:Expr}{body:List Stmt}{tc:TT}{tb:TS}(hp:PassesOwn (model X.prog X.w) X.A X.env X.xe)(hc:WT X c tc)(hb:WSs X body tb):WS X (.While c body [] pos) (qr tc tb):=⟨u6 hp hc.h hb.h⟩
end
section
variable{X:Cx}{tg:Expr}
theorem ux{l:Expr}{tl:TE}(hl:WE X l tl):WI X tg l (De X.K tl):=⟨zx hl.h⟩
end
section
variable{X:Cx}{tg:Expr}
theorem yK{l:Expr}{tl:TE}(hl:WE X l tl):WI X tg l (GG X.K tl):=⟨BX hl.h⟩
end
section
variable{X:Cx}{tg:Expr}
theorem oT{a:Expr}{ta:TA}{p pos:Pos}(hg:Gl X "range")(hm:X.mg "range"=none)(ha:WA X [a] ta)(hs:starEach [a] X.env=[(false,eval a X.env)]:=by rfl):WI X tg (.Call (.Name "range" p) [a] [] pos) (Dd ta):=⟨rg hg hm ha.h hs⟩
end
section
variable{X:Cx}{tg:Expr}
theorem yJ{iter:Expr}{body:List Stmt}{wi:TI}{g:TG}{tb:TS}{pos:Pos}(hp:PassesOwn (model X.prog X.w) X.A X.env X.xe)(hc:X.calm=true)(hi:WI X tg iter wi)(hg:WG X tg g)(hb:WSs X body tb)(hs:∀x,foldedSetIterable iter X.env x=pure x:=by intro _;rfl):WS X (.For tg iter body [] pos) (E2 wi g tb):=⟨BV hp hc hi.h hg.h hb.h hs⟩
end
section
variable{X:Cx}{a b c:Expr}{ta tb tc:TE}{pos:Pos}
theorem Bg{op:Operator}{r:R2}(ho:OpR X (binaryOp op) r)(ha:WE X a ta)(hb:WE X b tb):WE X (.BinOp a op b pos) (tOp r ta tb):=⟨Fl ho ha.h hb.h⟩
end
section
variable{X:Cx}{a b c:Expr}{ta tb tc:TE}{pos:Pos}
theorem Bf{op:UnaryOp}{r:V->Hp->VK->Prop}(ho:UnR X (unaryOp op) r)(ha:WE X a ta):WE X (.UnaryOp op a pos) (tUn r ta):=⟨Fj ho ha.h⟩
end
section
variable{X:Cx}{a b c:Expr}{ta tb tc:TE}{pos:Pos}
theorem uA{op:CmpOp}{r:R2}(ho:OpR X (compareOp op) r)(ha:WE X a ta)(hb:WE X b tb)(hm:behindInMarks op b=false):WE X (.Compare a [op] [b] pos) (tOp r ta tb):=⟨zC ho ha.h hb.h hm⟩
end
section
variable{X:Cx}{a b c:Expr}{ta tb tc:TE}{pos:Pos}
theorem nk{op:CmpOp}{r:R2}(ho:OpR X (compareOp op) r)(ha:WE X a ta)(hb:WE X b tb)(hm:behindInMarks op b=false):WT X (.Compare a [op] [b] pos) (Bl (tOp r ta tb)):=⟨zo ho ha.h hb.h hm⟩
end
section
variable{X:Cx}{e:Expr}{es:List Expr}{te:TE}{t:TA}{pos:Pos}
theorem gD :WA X [] Gk:=⟨Ck ⟩
end
section
variable{X:Cx}{e:Expr}{es:List Expr}{te:TE}{t:TA}{pos:Pos}
theorem cZ(ha:WE X e te)(hr:WA X es t)(hs:starEach (e::es) X.env=(false,eval e X.env)::starEach es X.env:=by rfl):WA X (e::es) (Bt te t):=⟨zG ha.h hr.h hs⟩
end
section
variable{X:Cx}{e:Expr}{es:List Expr}{te:TE}{t:TA}{pos:Pos}
theorem qe{x1}(h:WA X es t):WE X (.Tuple es x1 pos) (Gg t):=⟨Ca h.h⟩
end
section
variable{X:Cx}{e:Expr}{es:List Expr}{te:TE}{t:TA}{pos:Pos}
theorem yQ(h:WA X es t):WE X (.List es pos) (Gm t):=⟨Cd h.h⟩
end
section
variable{X:Cx}{x:Str}{p pos:Pos}{e:Expr}{es:List Expr}{t:TA}{id T:String}{r:List V->Hp->VK->Prop}
theorem gC(hc:bT X (.builtin id) r)(hg:Gl X x)(hm:X.mg x=none)(hv:bootBuiltins x=some (.builtin id))(ha:WA X (e::es) t)(hn:x≠"__name__":=by decide)(hdb:(x == ("__debug__":Str))=false:=by decide)(he:starEach (e::es) X.env=(false,eval e X.env)::starEach es X.env:=by rfl)(hpl:(backTo pos (starEach es X.env)).any (·.1)=false:=by rfl):WE X (.Call (.Name x p) (e::es) [] pos) (tCB r t):=⟨vh hc hg hm hv ha.h hn hdb he hpl⟩
end
section
variable{X:Cx}{x:Str}{p pos:Pos}{e:Expr}{es:List Expr}{t:TA}{id T:String}{r:List V->Hp->VK->Prop}
theorem iU(hc:bT X (.type T) r)(hg:Gl X x)(hm:X.mg x=none)(hv:bootBuiltins x=some (.type T))(ha:WA X (e::es) t)(hn:x≠"__name__":=by decide)(hdb:(x == ("__debug__":Str))=false:=by decide)(he:starEach (e::es) X.env=(false,eval e X.env)::starEach es X.env:=by rfl)(hpl:(backTo pos (starEach es X.env)).any (·.1)=false:=by rfl):WE X (.Call (.Name x p) (e::es) [] pos) (tCB r t):=⟨rh hc hg hm hv ha.h hn hdb he hpl⟩
end
section
variable{X:Cx}{e:Expr}{te:TE}{lo hi:Option Expr}{tl th:TO}{pos p2:Pos}
theorem uw :WO X none qt:=⟨zw ⟩
end
section
variable{X:Cx}{e:Expr}{te:TE}{lo hi:Option Expr}{tl th:TO}{pos p2:Pos}
theorem uv(h:WE X e te):WO X (some e) (Bm te):=⟨zv h.h⟩
end
section
variable{X:Cx}{e:Expr}{te:TE}{lo hi:Option Expr}{tl th:TO}{pos p2:Pos}
theorem kF{r:V->Option Int->Option Int->Hp->VK->Prop}(hr:SlR X r)(he:WE X e te)(hl:WO X lo tl)(hu:WO X hi th):WE X (.Subscript e (.Slice lo hi none p2) pos) (tSl r te tl th):=⟨ve hr he.h hl.h hu.h⟩
end
section
variable{X:Cx}{a b:Expr}{ta tb:TE}{pos:Pos}
theorem Bh{r:R2}(hr:IxR X r)(ha:WE X a ta)(hb:WE X b tb)(hs:m9 b):WE X (.Subscript a b pos) (tOp r ta tb):=⟨Fm hr ha.h hb.h hs⟩
end
section
variable{X:Cx}{a b:Expr}{ta tb:TE}{pos:Pos}
variable{o e:Expr}{es:List Expr}{to:TE}{t:TA}{name:Str}{apos cpos:Pos}{T id:String}{r:V->List V->Hp->VK->Prop}
theorem ny (pa : PlainAttrs T) (slot : Slot T name id) (hty : typeOf (.builtin id) = pure (.type "method_descriptor")) (hm : MtR X id r) (ho : WE X o to) (ha : WA X (e :: es) t) (hbase : attributeBase o name X.env (eval o X.env) = eval o X.env := by rfl) (hfew : ((backTo cpos (starEach (e :: es) X.env)).all (fun x => !x.1) && (backToKw cpos (keywordEach [] X.env)).all (fun x => x.1.isSome)
   && decide ((e::es).length+([]:List Keyword).length+(if ([]:List Keyword).isEmpty then 0 else 1)<30))=true:=by rfl) (hline:(apos.endLine == cpos.line)=true:=by rfl) (hs:starEach (e::es) X.env=(false,eval e X.env)::starEach es X.env:=by rfl) (hplain:(backTo cpos (starEach es X.env)).any (·.1)=false:=by rfl):WE X (.Call (.Attribute o name apos) (e::es) [] cpos) (tBM X.K T r to t):=⟨Fo pa slot hty hm ho.h ha.h hbase hfew hline hs hplain⟩
end
section
variable{X:Cx}{o i e value:Expr}{pos pos' tpos:Pos}{td ty tv:TE}
theorem uz(hu:X.A.units+1<cLine)(ho:WE X o td)(hi:WE X i ty)(hs:Aw i):WE X (.Subscript o i pos) (Br td ty):=⟨zB hu ho.h hi.h hs⟩
end
section
variable{X:Cx}{o i e value:Expr}{pos pos' tpos:Pos}{td ty tv:TE}
theorem yS(hu:X.A.units+1<cLine)(hi:WE X i ty)(ho:WE X o td):WC X .In i o (E3 ty td):=⟨Cj hu hi.h ho.h⟩
end
section
variable{X:Cx}{o i e value:Expr}{pos pos' tpos:Pos}{td ty tv:TE}
theorem nq(hu:X.A.units+1<cLine)(ho:WE X o td)(hi:WE X i ty)(hv:WE X value tv)(hs:swapsWith value (some (.Subscript o i pos')) pos.line X.env=pure false):WS X (.Assign [.Subscript o i pos'] value pos) (BC td ty tv):=⟨zt hu ho.h hi.h hv.h hs⟩
end
section
variable{X:Cx}{pos:Pos}
theorem qf :WE X (.Dict [] [] pos) wZ:=⟨vg ⟩
end
section
variable{X:Cx}
theorem wpv(i:Nat){x:Str}{pos:Pos}(hN:X.N[i]?=some x:=by rfl)(hv:Vis X.env.scope x:=by first|exact Or.inl rfl|exact Or.inr (Or.inl rfl)|exact Or.inr (Or.inr rfl))(hd:(x == ("__debug__":Str))=false:=by decide)(hcd:(x == ("__classdict__":Str))=false:=by decide):WE X (.Name x pos) (DP i):=⟨pv i hN hv hd hcd⟩
end
theorem WW.pt{X:Cx}{e:Expr}{t:TT}(h:WW X e t):WT X e t:=⟨h.h.pt⟩
section
variable{X:Cx}{a b c e:Expr}{ta tb tc:TE}{pos:Pos}
def pQ(i j:Int):Prop:=0<j/\j.natAbs.log2<9000
theorem nX:OpR X (binaryOp .FloorDiv) (rI pQ fun i j=>.int (i / j)):=opI fun i j _ _ _ _ _ hc q=>by
 refine PyProof.Rows.floordiv_int (by have:=hc.1;omega) ?_ (.inl (PyProof.noPylong_of_log2 hc.2))
 rw[Int.fdiv_eq_ediv_of_nonneg i (Int.le_of_lt hc.1)]
 exact q
theorem mV:bT X (.builtin "isinstance") (fun xs H Q=>∃(x:V) (T:String) (t:Value) (k:Bool),xs=[x,.ty T]/\oP X.K H x t/\PySem.W.kitOne X.K t (.type T)=some k/\Q (.bl k) H):=by
 rintro pins s σ H xs us Q I r ⟨x,T,t,k,rfl,ty,e,q⟩
 obtain⟨u,w',rfl,ru,rw'⟩:=qo r
 cases rw'
 exact rZ I ru ty e fun tk=>⟨.bl k,H,I.tok tk,rfl,q⟩
end
theorem eR{H:Hp}{p:Addr}(h:H p=none)(o:HO):pN H (upd H p o):=fun b u q=>by rw[aJ (bB q h)];exact q
def Def(K:PySem.W.Frag)(mg:Str->Option Value)(x:Str)(st:Stmt)(ps:List Str):Prop:=
 ∃f fd,Fun K x x st f fd/\ng K fd ps []/\mg x=some (.ref f)
def Has(P:Program)(w:World)(K:PySem.W.Frag)(mg:Str->Option Value)(base:Heap)(x:Str)(k:Nat)(ps:List Str)(sp:Sp):Prop:=
 ∃f fd,mq P w K mg base CX0 k f fd ps sp/\ng K fd ps []/\PySem.W.keepIn K (.ref f)=true/\mg x=some (.ref f)
section
variable{P:Program}{w:World}{K:PySem.W.Frag}{mg:Str->Option Value}{base:Heap}{x:Str}{st:Stmt}{ps N:List Str}{k j:Nat}{sp sp':Sp}
theorem Has.mono(h:Has P w K mg base x j ps sp)(l:j<=k):Has P w K mg base x k ps sp:=by
 obtain⟨f,fd,a,b,c,d⟩:=h
 exact⟨f,fd,a.mono l,b,c,d⟩
theorem Def.has(d:Def K mg x st ps)(S:bA N ps (aE st))(len:∀vs H Q E,sp vs H Q E->vs.length=ps.length)
  (hbody:∀(f:Addr) (cdv:Value) (A:Around) (outer:List Env) (s:Shared) (H:Hp) (vs:List V) (Q:VK) (E:XK),iH k (A.deeper (envOfC x (aE st) s.heap.objs.size f cdv))->sp vs H Q E->
   ∃t,WSs (tY CX0 P w K mg base N x (aE st) f cdv A outer s H E).nox (cB st) t/\t { nx:=fun _ H'=>Q .non H',rt:=Q } (start N vs) H):Has P w K mg base x (k+1) ps sp:=by
 obtain⟨f,fd,F,b,m⟩:=d
 exact⟨f,fd,F.ok S len (fun cdv A outer s H vs Q E hr h=>let ⟨t,a,b⟩:=hbody f cdv A outer s H vs Q E hr h;⟨t,a.h,b⟩),b,F.kp,m⟩
end
theorem Bi{X:Cx}{k:Nat}{ps:List Str}{sp:Sp}{x:Str}{p pos:Pos}{e:Expr}{es:List Expr}{t:TA}(F:Has X.prog X.w X.K X.mg X.base x k ps sp)(hr:iH k X.A)(hg:Gl X x)
  (ha:WA X (e::es) t) (hdb:(x == ("__debug__":Str))=false:=by decide) (he:starEach (e::es) X.env=(false,eval e X.env)::starEach es X.env:=by rfl) (hpl:(backTo pos (starEach es X.env)).any (·.1)=false:=by rfl) :
  WE X (.Call (.Name x p) (e::es) [] pos) (Bu sp [] E0 t):=by
 obtain⟨f,fd,a,b,c,d⟩:=F
 exact⟨zD a hr hg d c b .nil Fq ha.h hdb he hpl⟩
structure Blt(mg:Str->Option Value):Prop where
 len:mg "len"=none
 isinstance:mg "isinstance"=none
 int:mg "int"=none
 bool:mg "bool"=none
 str:mg "str"=none
 tuple:mg "tuple"=none
 list:mg "list"=none
 range:mg "range"=none
 min:mg "min"=none
 sum:mg "sum"=none
 all:mg "all"=none
 zip:mg "zip"=none
 sorted:mg "sorted"=none
 dict:mg "dict"=none
 enumerate:mg "enumerate"=none
 any:mg "any"=none
 max:mg "max"=none
 set:mg "set"=none
theorem w9{n:Nat}(h:n<=1000):n<=sizeLine:=Nat.le_of_lt (qw h)
theorem pB{n:Nat}(h:n<2^60):n.log2<1920:=by
 by_cases e:n=0
 ·subst e;decide
 ·have:=(Nat.log2_lt e).mpr h;omega
theorem kj:bootBuiltins "int"=some (.type "int"):=rfl
theorem tq:bootBuiltins "bool"=some (.type "bool"):=rfl
theorem cY:bootBuiltins "tuple"=some (.type "tuple"):=rfl
theorem cE:bootBuiltins "list"=some (.type "list"):=rfl
theorem iD:bootBuiltins "isinstance"=some (.builtin "isinstance"):=rfl
theorem wJ:bootBuiltins "min"=some (.builtin "min"):=rfl
theorem wK:bootBuiltins "max"=some (.builtin "max"):=rfl
theorem wL:bootBuiltins "all"=some (.builtin "all"):=rfl
theorem eF:bootBuiltins "sorted"=some (.builtin "sorted"):=rfl
theorem nr{X:Cx}{x:Str}{T:String}{pos:Pos}(hg:Gl X x)(hm:X.mg x=none)(hv:bootBuiltins x=some (.type T))(hn:x≠"__name__":=by decide)(hd:(x == ("__debug__":Str))=false:=by decide):WE X (.Name x pos) (tC (.ty T)):=
 ⟨zE hg hm hv rfl hn hd⟩
theorem Fun.okW{P:Program}{w:World}{K:PySem.W.Frag}{mg:Str->Option Value}{base:Heap}{x qual:Str}{st:Stmt}{f:Addr}{fd:FuncData}{N ps:List Str}{k:Nat}{sp:Sp}(F:Fun K x qual st f fd)(S:bA N ps (aE st))(len:∀vs H Q E,sp vs H Q E->vs.length=ps.length)
  (hbody:∀(cdv:Value) (A:Around) (outer:List Env) (s:Shared) (H:Hp) (vs:List V) (Q:VK) (E:XK),iH k (A.deeper (envOfC qual (aE st) s.heap.objs.size f cdv))->sp vs H Q E->
   ∃t,WSs (tY CX0 P w K mg base N qual (aE st) f cdv A outer s H E).nox (cB st) t/\t { nx:=fun _ H'=>Q .non H',rt:=Q } (start N vs) H):mq P w K mg base CX0 (k+1) f fd ps sp:=
 F.ok S len fun cdv A outer s H vs Q E hr h=>let ⟨t,a,b⟩:=hbody cdv A outer s H vs Q E hr h;⟨t,a.h,b⟩
def oR(env:Env):List (Str×Addr)->Prop
 |[]=>True
 |p::r=>env.cells.lookup p.1=some p.2/\oR env r
theorem oR.look{env:Env}:∀{cl:List (Str×Addr)} {y:Str} {c:Addr},oR env cl->cl.lookup y=some c->env.cells.lookup y=some c
 |[],_,_,_,h=>by simp at h
 |(n,d)::r,y,c,a,h=>by
  obtain⟨a1,a2⟩:=a
  rw[List.lookup_cons]at h
  by_cases e:(y == n)=true
  ·rw[e]at h
   have e':y=n:=by simpa using e
   subst e'
   cases h
   exact a1
  ·have e':(y == n)=false:=by simpa using e
   rw[e']at h
   exact oR.look a2 h
abbrev cxC(X:Cx)(Nc:List Str)(scope:Scope)(cl:List (Str×Addr))(s3:Shared)(H3:Hp)(fp:List Addr):Cx where
 prog:=X.prog
 w:=X.w
 K:=X.K
 mg:=X.mg
 base:=X.base
 A:=X.A
 N:=Nc
 s₀:=s3
 H₀:=H3
 env:=compEnvC scope cl s3.heap.objs.size X.env
 outer:=X.stack
 stack:=X.stack
 ex:=fp
 fn:=fun _=>false
 calm:=X.calm
 pn:=[]
 xe:=fun _ _=>False
def stC(n:Nat)(caps:List Nat)(σ:L2.St):L2.St:=List.replicate n none++caps.map fun i=>(σ[i]?).getD none
def yZ(wi:TI)(g:TG)(te:TE)(n:Nat)(caps:List Nat):TE:=fun σ H Q=>wi σ H fun J H1=>∀l,H1 l=none->∃W:Nat->Nat->L2.St->Hp->Prop,(∃m,W 0 m (stC n caps σ) (upd H1 l (.lst [])))/\
 ∀i m σ' H2,W i m σ' H2->(J.stop i H2/\Q (.ref l) H2)\/(J.go i H2/\∃N:L2.St->Hp->Prop,(∀σ'' H',N σ'' H'->∃m',m'<m/\W (i+1) m' σ'' H')/\
  ∀x H3,J.yld i H2 x H3->g x σ' H3 fun σ2 H4=>te σ2 H4 fun v H5=>∃ys,H5 l=some (.lst ys)/\ys.length<sizeLine/\N σ2 (upd H5 l (.lst (ys++[v]))))
theorem lQ{prog:Program}{w:World}{A:Around}{R:Result->Shared->Prop}{s:Shared}{elt target iter:Expr}{scope:Scope}{pos:Pos}{it acc:Value}{env:Env}(I:Nat->Shared->Prop)
  (turn:∀n s,I n s->wpAny (model prog w) A (pyNext it) (fun r s₁=>match r with
   |none=>R (.ok .next) s₁
   | some v=>wpAny (model prog w) A (letOwnedTupleGo target it v) (fun _ s₁'=>wpAny (model prog w) A (assign target env v) (fun _ s₂=>wpAny (model prog w) A (eval elt env) (fun x s₃=>
     wpAny (model prog w) A (call (.builtin "list.append") [acc,x]) (fun _ s₄=>∃m,m<n/\I m s₄) (fun _ _=>False) s₃)
     (fun _ _=>False) s₂) (fun _ _=>False) s₁') (fun _ _=>False) s₁) (fun _ _=>False) s)
  (n:Nat) (h:I n s) :
  codeAny (model prog w) A (.compLoop (.ListComp elt [⟨target,iter,[],0⟩] scope pos) 0 it acc env) R s:=by
 refine codeAny_loop rfl I (fun n s hI=>?_) n h
 show wpAny _ _ ((compTurn (.ListComp elt [⟨target,iter,[],0⟩] scope pos) 0 it acc env).onRaise (fun x=>do noteFrame x env;theTreesLotGoes x)) _ _ s
 refine wpAny_noted ?_
 rw[compTurn_list1]
 refine wpAny_bind (wpAny_standAt (wpAny_bind (wpAny_mono (turn n s hI) (fun r s₁ h₁=>?_) fun _ _ h'=>h'.elim)))
 cases r with
 |none=>exact wpAny_pure h₁
 |some v=>
  refine wpAny_bind (wpAny_mono h₁ (fun _ s₁' h₁'=>?_) fun _ _ h'=>h'.elim)
  exact wpAny_bind (wpAny_mono h₁' (fun _ s₂ h₂=>wpAny_bind (wpAny_bind (wpAny_mono h₂ (fun x s₃ h₃=>wpAny_bind (wpAny_mono h₃
   (fun _ s₄ h₄=>wpAny_pure (wpAny_pure ⟨rfl,h₄⟩)) fun _ _ h'=>h'.elim)) fun _ _ h'=>h'.elim))) fun _ _ h'=>h'.elim)
section
variable{X:Cx}{pins:List (Addr×Obj)}{σ:L2.St}{H:Hp}{s:Shared}{Nc capN:List Str}{scope:Scope}{cl:List (Str×Addr)}{fp:List Addr}{n:Nat}{caps:List Nat}{tg iter elt:Expr}{pos:Pos}{wi:TI}{g:TG}{te:TE}
def Cap(X:Cx)(scope:Scope)(cl:List (Str×Addr))(i:Nat)(y:Str):Prop:=X.N[i]?=some y/\X.env.scope.names.lookup y=some .cell/\(relabel scope X.env).names.lookup y=some .cell/\∃c,cl.lookup y=some c
theorem Inv.comp{h1:Heap}{t':Nat}(I:Inv X pins σ H s)(hc:X.calm=true)(f2:∀b∈fp,tX X pins H b)(fo:∀b∈fp,b<s.heap.objs.size)(hkind:scope.kind=.function)(hcl:oR X.env cl)
  (hhas:((relabel scope X.env).names.all fun p=>!(p.2 == .cell||p.2 == .free)||(cl.lookup p.1).isSome)=true)
  (hcap:Paired (Cap X scope cl) caps capN) (tn:List Str) (hN:Nc=tn++capN) (hn:tn.length=n)
  (hns:h1.Ns s.heap.objs.size (fun _=>none)) (hk:∀b o,s.heap.get? b=some o->h1.get? b=some o) :
  Inv (cxC X Nc scope cl s H fp) [] (stC n caps σ) H { s with heap:=h1,toks:=t' }:=by
 have lkc:∀y c,cl.lookup y=some c->X.env.cells.lookup y=some c:=fun y c e=>hcl.look e
 refine⟨⟨I.ok.mod,?_,I.ok.glob,I.ok.blt,Nat.le_refl _,fun x y c a b=>I.ok.inj x y c (lkc _ _ a) (lkc _ _ b),fun x hx=>?_,fun x c z=>(nomatch z),I.ok.hd,I.ok.frames,.inl rfl,fun b hb=>⟨Nat.ne_of_lt (fo b hb),fun x c e=>(f2 b hb).2.2.2.2.1 x c (lkc _ _ e)⟩,I.bs,Nat.le_trans I.ok.bsz I.sz,
  fun b o e hb=>?_,fun b hb z=>?_,I.stack,I.stkFree⟩,rfl,I.bare,Un.kept hk,⟨_,hns,fun i y v h1' h2 h3=>?_⟩,fun y c e=>?_,I.hok.fresh (Nat.le_refl _),fun y c e=>I.freeC y c (lkc _ _ e),fun p hp=>(by simp at hp),I.hok.kept hk,?_⟩
 ·exact hkind
 ·have hx':(relabel scope X.env).names.lookup x=some .cell\/(relabel scope X.env).names.lookup x=some .free:=hx
  have mem:∀{k},(relabel scope X.env).names.lookup x=some k->(x,k)∈(relabel scope X.env).names:=fun{k} e=>by
   generalize (relabel scope X.env).names=L at e
   induction L with
   |nil=>simp at e
   |cons p r ih=>
    obtain⟨a,b⟩:=p
    rw[List.lookup_cons]at e
    by_cases q:(x == a)=true
    ·rw[q]at e;cases e
     have:x=a:=by simpa using q
     subst this;exact List.mem_cons_self
    ·rw[show(x == a)=false by simpa using q]at e
     exact List.mem_cons_of_mem _ (ih e)
  have fin:∀{k},(k=NameKind.cell\/k=.free)->(relabel scope X.env).names.lookup x=some k->∃c,cl.lookup x=some c:=fun{k} hk' e=>by
   have:=List.all_eq_true.mp hhas _ (mem e)
   dsimp only at this
   have q:(cl.lookup x).isSome=true:=by
    rcases hk' with z|z<;>subst z<;>simpa using this
   exact Option.isSome_iff_exists.mp q
  rcases hx' with e|e
  ·exact fin (.inl rfl) e
  ·exact fin (.inr rfl) e
 ·rcases(f2 b hb).2.2.2.1 with z|z
  ·exact I.ok.noex b o e z
  ·exact absurd (Nat.lt_of_lt_of_le (Heap.lt_size e) I.ok.bsz) (Nat.not_lt.mpr z)
 ·rcases List.mem_cons.mp (I.stkSub b z)with q|q
  ·exact(f2 b hb).2.1 q
  ·exact(f2 b hb).2.2.1 q
 ·obtain⟨m,hm,hl⟩:=I.loc
  have h2':(stC n caps σ)[i]?=some (some v):=h2
  have h1'':Nc[i]?=some y:=h1'
  unfold stC at h2'
  by_cases hi:i<n
  ·rw[List.getElem?_append_left (by simpa using hi),List.getElem?_replicate,if_pos hi]at h2'
   cases h2'
  ·rw[List.getElem?_append_right (by simp;omega),List.length_replicate,List.getElem?_map]at h2'
   rw[hN,List.getElem?_append_right (by omega),hn]at h1''
   have key:∀(j:Nat) {caps:List Nat} {capN:List Str},Paired (Cap X scope cl) caps capN->capN[j]?=some y->(Option.map (fun i=>(σ[i]?).getD none) caps[j]?)=some (some v)->∃k,Cap X scope cl k y/\σ[k]?=some (some v):=by
    intro j
    induction j with
    |zero=>
     intro caps capN P e1 e2
     cases P with
     |nil=>simp at e1
     |@cons a b l r p t=>
      simp at e1 e2
      subst e1
      cases q:σ[a]? with
      |none=>rw[q]at e2;simp at e2
      |some w'=>rw[q]at e2;simp at e2;subst e2;exact⟨a,p,q⟩
    |succ j ih=>
     intro caps capN P e1 e2
     cases P with
     |nil=>simp at e1
     |cons p t=>exact ih t (by simpa using e1) (by simpa using e2)
   obtain⟨k,⟨c1,c2,c3,c,c4⟩,e⟩:=key _ hcap h1'' h2'
   obtain⟨u,r,lk⟩:=hl k y v c1 e (.inr (.inl c2))
   refine⟨u,r,.inr ⟨.inl c3,c,c4,?_⟩⟩
   rcases lk with⟨z,_⟩|⟨_,c',e',o,ho,hd⟩
   ·have z':X.env.scope.names.lookup y=some .local:=z
    rw[c2]at z';cases z'
   ·rw[lkc _ _ c4]at e'
    cases e'
    exact⟨o,hk _ _ ho,hd⟩
 ·obtain⟨v,o,ho,hd⟩:=I.cell y c (lkc _ _ e)
  exact⟨v,o,hk _ _ ho,hd⟩
 ·show(stC n caps σ).length=Nc.length
  have pl:caps.length=capN.length:=Paired.length hcap
  unfold stC
  rw[List.length_append,List.length_replicate,List.length_map,hN,List.length_append,hn,pl]
end
theorem wy{X:Cx}{Nc capN tn:List Str}{scope:Scope}{cl:List (Str×Addr)}{n:Nat}{caps:List Nat}{tg iter elt:Expr}{pos:Pos}{wi:TI}{g:TG}{te:TE}
  (hc:X.calm=true) (hi:WI X tg iter wi) (hg:∀s3 H3 fp,WG (cxC X Nc scope cl s3 H3 fp) tg g) (he:∀s3 H3 fp,WE (cxC X Nc scope cl s3 H3 fp) elt te)
  (hclos:closureFor scope X.env=pure cl) (hkind:scope.kind=.function) (hnl:∀x∈scope.names,x.2=.local->scope.names.lookup x.1=some .local) (hcell:∀x∈scope.names,x.2≠.cell)
  (hcl:oR X.env cl) (hhas:((relabel scope X.env).names.all fun p=>!(p.2 == .cell||p.2 == .free)||(cl.lookup p.1).isSome)=true)
  (hcap:Paired (Cap X scope cl) caps capN) (hN:Nc=tn++capN) (hn:tn.length=n)
  {use:Option (Value->Sem Unit)} {pins:List (Addr×Obj)} {σ:L2.St} {H:Hp} {s:Shared} {Q:VK} {Qf:Value->Shared->Prop} (I:Inv X pins σ H s) (h:yZ wi g te n caps σ H Q)
  (hend:∀(D C:Addr) (s6:Shared) (H5:Hp) (m:Str->Option Value),Inv X pins σ H5 s6->s6.heap.Ns C m->H5 C=none->C≠X.env.locals->X.s₀.heap.objs.size<=C->(∀x c,X.env.cells.lookup x=some c->c≠C)->(∀p∈X.pn++pins,p.1≠C)->Q (.ref D) H5->compPost (model X.prog X.w) X.A X.xe use Qf (.ref D) C (.ok .next) s6)
  (hs:∀x,foldedSetIterable iter X.env x=pure x) :
  wpAny (model X.prog X.w) X.A (comprehension (.ListComp elt [⟨tg,iter,[],0⟩] scope pos) scope X.env (firstIterPos [⟨tg,iter,[],0⟩] pos) (newList []) (firstAsync [⟨tg,iter,[],0⟩]) (firstIter [⟨tg,iter,[],0⟩] X.env) use) Qf X.xe s:=by
 refine wpAny_comprehension_free (use:=use) (g:=⟨tg,iter,[],0⟩) (gs:=[]) rfl hs hclos hkind hnl (thn (hi.h pins s σ H _ I h) fun v s1 h1=>thn h1 fun itv s2 h2=>?_)
 obtain⟨it,fp,tnn,J,H2,rfl,I2,T,st2,f2,hW⟩:=h2
 have hD:=I2.fresh
 obtain⟨W,⟨m0,w0⟩,turn⟩:=hW _ hD
 refine wpAny_newObj_type (wpAny_newFunctionEnv hcell (by intro y hy;simp at hy) (fun h₁ hns₁ hsb₁=>?_) hkind)
 dsimp only at hns₁ hsb₁ ⊢
 have I3:Inv X pins σ (upd H2 s2.heap.objs.size (.lst [])) { s2 with heap:=s2.heap.push { cls:=.type "list",dict:=none,data:=.seq ([]:List Value).toArray },toks:=s2.toks }:=I2.lnew (its:=[]) .nil (Nat.zero_le _)
 generalize hs3:({ s2 with heap:=s2.heap.push { cls:=.type "list",dict:=none,data:=.seq ([]:List Value).toArray },toks:=s2.toks }:Shared)=s3 at I3
 have es3:s3.heap=s2.heap.push { cls:=.type "list",dict:=none,data:=.seq ([]:List Value).toArray }:=by rw[<-hs3]
 generalize hDD:s2.heap.objs.size=D at *
 have kept:∀b o,s3.heap.get? b=some o->h₁.get? b=some o:=fun b o e=>by
  have lt:=Heap.lt_size e
  rw[es3]at lt e
  exact hsb₁.extBut b o (Nat.ne_of_lt lt) (Heap.get?_push_of_some _ e)
 have old:∀b o,s2.heap.get? b=some o->s3.heap.get? b=some o:=fun b o e=>by rw[es3];exact Heap.get?_push_of_some _ e
 have ltD:∀b∈fp,b<D:=fun b hb=>by
  obtain⟨o,e,_⟩:=T.obj 0 _ st2 b hb
  rw[<-hDD];exact Heap.lt_size e
 have fo:∀b∈fp,b<s3.heap.objs.size:=fun b hb=>by
  obtain⟨o,e,_⟩:=T.obj 0 _ st2 b hb
  exact Heap.lt_size (old _ _ e)
 have f3:∀b∈fp,tX X pins (upd H2 D (.lst [])) b:=fun b hb=>by
  refine⟨?_,(f2 b hb).2⟩
  rw[aJ (Nat.ne_of_lt (ltD b hb))]
  exact(f2 b hb).1
 rw[<-es3]at hns₁ hsb₁ ⊢
 have Ic:=fun t'=>Inv.comp (h1:=h₁) (t':=t') (Nc:=Nc) (n:=n) I3 hc f3 fo hkind hcl hhas hcap tn hN hn hns₁ kept
 have stat:∀{H':Hp},(∀b∈fp,H' b=none)->∀b∈fp,tX (cxC X Nc scope cl s3 (upd H2 D (.lst [])) fp) [] H' b:=fun hn' b hb=>by
  refine⟨hn' b hb,Nat.ne_of_lt (fo b hb),fun z=>?_,.inl hb,fun x c e=>(f2 b hb).2.2.2.2.1 x c (hcl.look e),fun p hp=>(by simp at hp)⟩
  rcases List.mem_cons.mp (I3.stkSub b z)with q|q
  ·exact(f2 b hb).2.1 q
  ·exact(f2 b hb).2.2.1 q
 have loop:∀s4:Shared,(∃t',s4={ s3 with heap:=h₁,toks:=t' })->codeAny (model X.prog X.w) X.A (.compLoop (.ListComp elt [⟨tg,iter,[],0⟩] scope pos) 0 (.ref it) (.ref D) (compEnvC scope cl s3.heap.objs.size X.env))
   (compPost (model X.prog X.w) X.A X.xe use Qf (.ref D) s3.heap.objs.size) s4:=by
  rintro s4 ⟨t',rfl⟩
  refine lQ (fun n' s'=>∃i σ' H',Inv (cxC X Nc scope cl s3 (upd H2 D (.lst [])) fp) [] σ' H' s'/\tnn i s'.heap/\(∀b∈fp,H' b=none)/\W i n' σ' H') ?_ m0
   ⟨0,_,_,Ic t',T.keep 0 _ _ st2 fun b hb o e=>kept _ _ (old _ _ e),fun b hb=>(f3 b hb).1,w0⟩
  rintro n' s5 ⟨i,σ5,H5,I5,st5,fr5,w5⟩
  rcases turn i n' σ5 H5 w5 with⟨stop,qn⟩|⟨go,N,hN',step⟩
  ·refine thn (T.done (cxC X Nc scope cl s3 (upd H2 D (.lst [])) fp) rfl rfl rfl hc i [] s5 σ5 H5 (fun _ _=>False) I5 (stat fr5) st5 stop) fun r s6 ⟨hr,I6⟩=>?_
   subst hr
   obtain⟨m,hm,_⟩:=I6.loc
   have I7:Inv X pins σ H5 s6:=Inv.call' (ch:=fp) I3 I6.os I6.base I6.hok I6.bare fun b hb=>⟨(f2 b hb).2.2.2.1,(f2 b hb).2.1,(f2 b hb).2.2.2.2.1,(f2 b hb).2.2.2.2.2⟩
   exact hend D _ s6 H5 m I7 hm I6.free (Ne.symm (Nat.ne_of_lt I3.lt)) I3.sz (fun x c e=>by
     obtain⟨v',o,ho,_⟩:=I3.cell x c e
     exact Nat.ne_of_lt (Heap.lt_size ho)) (fun p hp=>Nat.ne_of_lt (Heap.lt_size (I3.pin p hp).1)) qn
  ·refine thn (T.item (cxC X Nc scope cl s3 (upd H2 D (.lst [])) fp) rfl rfl rfl hc i [] s5 σ5 H5 (fun _ _=>False) I5 (stat fr5) st5 go) fun r s6 ⟨u,hr,h6⟩=>?_
   subst hr
   refine thn h6 fun _ s7 hz=>?_
   obtain⟨x,H7,I7,r7,y7,st7,fr7⟩:=hz
   have I7':=I7.pinned (stat fr7) (T.obj _ _ st7)
   refine thn ((hg s3 (upd H2 D (.lst [])) fp).h _ s7 σ5 H7 x u _ I7' r7 (step x H7 y7)) fun _ s8 hz=>?_
   obtain⟨σ8,H8,I8,q8⟩:=hz
   refine thn ((he s3 (upd H2 D (.lst [])) fp).h _ s8 σ8 H8 _ I8 q8) fun v9 s9 hz=>?_
   obtain⟨x9,H9,I9,r9,ys,hy,hlt,q9⟩:=hz
   refine thn (gO (X:=cxC X Nc scope cl s3 (upd H2 D (.lst [])) fp) _ s9 σ8 H9 (.ref D) [x9] (.ref D) [v9] (fun _ H'=>N σ8 H') I9 rfl (.cons r9 .nil) ⟨D,ys,x9,rfl,rfl,hy,hlt,q9⟩) fun _ s10 hz=>?_
   obtain⟨_,H10,I10,_,q10⟩:=hz
   obtain⟨m',hm,w10⟩:=hN' σ8 H10 q10
   refine⟨m',hm,i+1,σ8,H10,I10.unpinned,T.keep _ _ _ st7 fun b hb o e=>(I10.pin (b,o) (List.mem_append_right _ (List.mem_append_right _ (cq hb e)))).1,fun b hb=>?_,w10⟩
   obtain⟨o,e,d⟩:=T.obj _ _ st7 b hb
   exact(I10.pin (b,o) (List.mem_append_right _ (List.mem_append_right _ (cq hb e)))).2.1
 have e4:∀t',({ s2 with heap:=h₁,toks:=t' }:Shared)={ s3 with heap:=h₁,toks:=t' }:=fun t'=>by rw[<-hs3]
 refine codeAny_compStart_list (loop _ ⟨_,e4 _⟩) (T.self _ 0 _ _ _ (T.keep 0 _ _ st2 fun b hb o e=>kept _ _ (old _ _ e)) (loop _ ⟨_,e4 _⟩))
theorem nv{X:Cx}{Nc capN tn:List Str}{scope:Scope}{cl:List (Str×Addr)}{n:Nat}{caps:List Nat}{tg iter elt:Expr}{pos:Pos}{wi:TI}{g:TG}{te:TE}
  (hc:X.calm=true) (hi:WI X tg iter wi) (hg:∀s3 H3 fp,WG (cxC X Nc scope cl s3 H3 fp) tg g) (he:∀s3 H3 fp,WE (cxC X Nc scope cl s3 H3 fp) elt te)
  (hclos:closureFor scope X.env=pure cl) (hkind:scope.kind=.function) (hnl:∀x∈scope.names,x.2=.local->scope.names.lookup x.1=some .local) (hcell:∀x∈scope.names,x.2≠.cell)
  (hcl:oR X.env cl) (hhas:((relabel scope X.env).names.all fun p=>!(p.2 == .cell||p.2 == .free)||(cl.lookup p.1).isSome)=true)
  (hcap:Paired (Cap X scope cl) caps capN) (hN:Nc=tn++capN) (hn:tn.length=n)
  (hs:∀x,foldedSetIterable iter X.env x=pure x:=by intro _;rfl) :
  WE X (.ListComp elt [⟨tg,iter,[],0⟩] scope pos) (yZ wi g te n caps):=by
 constructor
 intro pins s σ H Q I h
 rw[eval_ListComp]
 refine wy hc hi hg he hclos hkind hnl hcell hcl hhas hcap hN hn I h (fun D C s6 H5 m I7 hm fr nl sz cn pn qn=>⟨m,hm,fun h' hs'=>?_⟩) hs
 exact⟨.ref D,H5,I7.turned (t':=s6.toks) (it:=C) (fun b o hb e=>hs'.extBut b o hb e) fr nl (.inr sz) cn pn,rfl,qn⟩
section
variable{X:Cx}
theorem qm:∀{bs:List Bool} {us:List Value} {i:Nat} {v:Value},aV (bs.map V.bl) us->us[i]?=some v->∃b,bs[i]?=some b/\v=.bool b
 |[],_,_,_,r,e=>by cases r;simp at e
 |b::bs,_,0,_,.cons r _,e=>by
  have r':_=Value.bool b:=r
  simp at e;subst e;exact⟨b,by simp,r'⟩
 |b::bs,_,i+1,v,.cons _ t,e=>by
  obtain⟨b',e1,e2⟩:=qm (i:=i) (v:=v) t (by simpa using e)
  exact⟨b',by simpa using e1,e2⟩
theorem wN(bs:List Bool):(List.range bs.length).all (fun i=>(bs[i]?).getD true)=bs.all id:=by
 rw[Bool.eq_iff_iff,List.all_eq_true,List.all_eq_true]
 constructor
 ·intro h b hb
  obtain⟨i,hi,e⟩:=List.mem_iff_getElem.mp hb
  have:=h i (List.mem_range.mpr hi)
  rw[List.getElem?_eq_getElem hi,Option.getD_some,e]at this
  exact this
 ·intro h i hi
  have hi':=List.mem_range.mp hi
  have:=h _ (List.getElem_mem hi')
  rw[List.getElem?_eq_getElem hi',Option.getD_some]
  exact this
theorem zM{h:Heap}{b:Addr}{o:Obj}(e:h.get? b=some o):¬b∈[h.objs.size]:=fun z=>by
 have z':b=h.objs.size:=by simpa using z
 exact absurd (Heap.lt_size e) (by rw[z'];exact Nat.lt_irrefl _)
theorem wB(hc:X.calm=true):bT X (.builtin "all") (fun xs H Q=>∃(p:Addr) (bs:List Bool),xs=[.ref p]/\SqL X.K H p (bs.map V.bl)/\Q (.bl (bs.all id)) H):=by
 intro pins s σ H xs us Q I r h
 obtain⟨p,bs,rfl,hq,q⟩:=h
 obtain⟨u,rfl,rx⟩:=gE r
 cases rx
 obtain⟨its,rv,pl,hz⟩:=I.list hq
 have hlen:=rv.length
 rw[List.length_map]at hlen
 refine call_all_walk (wpAny_pyIter_list pl.isList ?_)
 have lt:p<s.heap.objs.size:=by obtain⟨o,e,_⟩:=pl.isList;exact Heap.lt_size e
 refine⟨s.heap.objs.size,_,_,_,_,_,fun i=>(bs[i]?).getD true,rfl,Walks.list (show X.A.in1.handled=none from I.ok.hd hc) s.heap.objs.size p (Nat.ne_of_lt lt) its.toArray,⟨⟨_,Heap.get?_push_size _ rfl,rfl,rfl⟩,pl.isList.at fun o e=>Heap.get?_push_of_some _ e⟩,?_,fun h' tk hk=>?_⟩
 ·intro i v s' Q' E' hP hQ
  have hP':its.toArray[i]?=some v:=hP
  obtain⟨b,e1,e2⟩:=qm rv (by simpa using hP')
  subst e2
  dsimp only at hQ
  rw[e1,Option.getD_some]at hQ
  exact wpAny_truthy_bool hQ
 ·have e:(List.range its.toArray.size).all (fun i=>(bs[i]?).getD true)=bs.all id:=by
   rw[List.size_toArray,<-hlen];exact wN bs
  rw[e]
  exact⟨.bl (bs.all id),H,I.kept fun b o e=>hk b o (zM e) (Heap.get?_push_of_some _ e),rfl,q⟩
end
open PySem.AutoSeq1 (wpAny_loadPart')
theorem wA{prog:Program}{w:World}{A:Around}{E:Value->Shared->Prop}{s:Shared}{t b:Addr}{vs ws:List Value}{Q:Value->Shared->Prop}(ht:IsTup s.heap t vs.toArray)(hb:IsTup s.heap b ws.toArray)(hv:vs=[])
  (h1:Q (.ref b) s):wpAny (model prog w) A (binaryOp .Add (.ref t) (.ref b)) Q E s:=by
 obtain⟨⟨cls,dd,data,sl⟩,ho,hc,n,hd⟩:=id ht
 obtain⟨⟨cls2,dd2,data2,sl2⟩,ho2,hc2,n2,hd2⟩:=id hb
 simp only at hc hd hc2 hd2
 subst hc hd hc2 hd2
 exact concat_meets ⟨_,ho,rfl⟩ ⟨_,ho2,rfl⟩ noFill_tuple_add seq_tuple_add PySem.F.slot_tuple_add PySem.F.entry_tuple_add (PySem.F.args_tuple_add_2 _ _)
   (tuple_addW0 t b vs.toArray ws.toArray n n2 dd dd2 sl sl2 (by simp[hv])) ⟨ho,ho2,h1⟩
theorem rL{m:Int}(h0:0<=m)(h:m<2^60):m.natAbs.log2<9000:=by
 have:=pB (n:=m.natAbs) (by omega)
 omega
end OG
namespace OP
open PySem PySem.Spec PyProof.Rows L2 OG
inductive U where
 |non|bl (b:Bool)|int (i:Int)|str (x:Str)|tup (us:List U)|ref (l:Nat)|kl (ns:List Int)
structure Cl where
 C:Addr
 ns:List Str
inductive O where
 |lst (us:List U)|dic (kvs:List (Key×U))|ins (c:Cl) (fs:List (Option U))|fdc (ep:Nat) (kvs:List (Key×U))|dit (kvs:List (List Key×U))|fdt (ep:Nat) (kvs:List (List Key×U))|dnt (kvs:List (List (List Int)×U))|fdn (ep:Nat) (kvs:List (List (List Int)×U))
abbrev Sto:=List O
abbrev Rho:=List (Option U)
def KL(K:PySem.W.Frag)(H:Hp)(a:Addr)(ns:List Int):Prop:=
 (∃o,H a=some (.frz o (.lst (ns.map V.int))))\/
  ∃(o:Obj) (its:Array Value) (n:Nat),K.lookup a=some o/\o.cls=.type "list"/\o.dict=none/\o.data=.seq its n/\its.size<=sizeLine/\aV (ns.map V.int) its.toList
theorem KL.sq{K:PySem.W.Frag}{H:Hp}{a:Addr}{ns:List Int}(h:KL K H a ns):SqL K H a (ns.map V.int):=by
 rcases h with h|h
 ·exact .inl (.inr h)
 ·exact .inr h
mutual
def Is(K:PySem.W.Frag)(m:List Addr)(H:Hp):V->U->Prop
 |v,.non=>v=.non
 |v,.bl b=>v=.bl b
 |v,.int i=>v=.int i
 |v,.str x=>v=.str x
 |v,.tup us=>∃a xs,v=.ref a/\SqT K H a xs/\IsL K m H xs us
 |v,.ref l=>∃a,m[l]?=some a/\v=.ref a
 |v,.kl ns=>∃a,v=.ref a/\KL K H a ns
def IsL(K:PySem.W.Frag)(m:List Addr)(H:Hp):List V->List U->Prop
 |xs,[]=>xs=[]
 |xs,u::us=>∃x r,xs=x::r/\Is K m H x u/\IsL K m H r us
end
structure xZ(K:PySem.W.Frag)(H H':Hp):Prop where
 t:∀a xs,SqT K H a xs->SqT K H' a xs
 l:∀a ns,KL K H a ns->KL K H' a ns
structure Ext(K:PySem.W.Frag)(m:List Addr)(H:Hp)(m':List Addr)(H':Hp):Prop where
 pre:∃t,m'=m++t
 keep:xZ K H H'
section
variable{K:PySem.W.Frag}{m m' m'':List Addr}{H H' H'':Hp}{v x:V}{u:U}{xs ys:List V}{us ws:List U}{a q:Addr}{o:HO}
theorem Ext.refl:Ext K m H m H:=⟨⟨[],by simp⟩,fun _ _ h=>h,fun _ _ h=>h⟩
theorem Ext.trans(a:Ext K m H m' H')(b:Ext K m' H' m'' H''):Ext K m H m'' H'':=by
 obtain⟨t,rfl⟩:=a.pre
 obtain⟨t',rfl⟩:=b.pre
 exact⟨⟨t++t',by simp⟩,fun c ys h=>b.keep.t c ys (a.keep.t c ys h),fun c ys h=>b.keep.l c ys (a.keep.l c ys h)⟩
theorem Ext.of(k:xZ K H H'):Ext K m H m H':=⟨⟨[],by simp⟩,k⟩
theorem Ext.new(k:xZ K H H'):Ext K m H (m++[q]) H':=⟨⟨[q],rfl⟩,k⟩
theorem Ext.get{l:Nat}(e:Ext K m H m' H')(h:m[l]?=some a):m'[l]?=some a:=by
 obtain⟨t,rfl⟩:=e.pre
 rw[List.getElem?_append_left (List.getElem?_eq_some_iff.mp h).1]
 exact h
mutual
theorem Is.mono(e:Ext K m H m' H'):∀{v:V} {u:U},Is K m H v u->Is K m' H' v u
 |v,.non,h=>by unfold Is at h ⊢;exact h
 |v,.bl b,h=>by unfold Is at h ⊢;exact h
 |v,.int i,h=>by unfold Is at h ⊢;exact h
 |v,.str x,h=>by unfold Is at h ⊢;exact h
 |v,.tup us,h=>by
  unfold Is at h ⊢
  obtain⟨a,xs,e1,k,l⟩:=h
  exact⟨a,xs,e1,e.keep.t _ _ k,IsL.mono e l⟩
 |v,.ref l,h=>by
  unfold Is at h ⊢
  obtain⟨a,k,e1⟩:=h
  exact⟨a,e.get k,e1⟩
 |v,.kl ns,h=>by
  unfold Is at h ⊢
  obtain⟨a,e1,k⟩:=h
  exact⟨a,e1,e.keep.l _ _ k⟩
theorem IsL.mono(e:Ext K m H m' H'):∀{xs:List V} {us:List U},IsL K m H xs us->IsL K m' H' xs us
 |xs,[],h=>by unfold IsL at h ⊢;exact h
 |xs,u::us,h=>by
  unfold IsL at h ⊢
  obtain⟨x,r,e1,k,l⟩:=h
  exact⟨x,r,e1,Is.mono e k,IsL.mono e l⟩
end
theorem Is.int_{i:Int}:Is K m H (.int i) (.int i):=by unfold Is;rfl
theorem Is.bl_{b:Bool}:Is K m H (.bl b) (.bl b):=by unfold Is;rfl
theorem Is.non_:Is K m H .non .non:=by unfold Is;rfl
theorem Is.str_{x:Str}:Is K m H (.str x) (.str x):=by unfold Is;rfl
theorem Is.of_int{i:Int}(h:Is K m H v (.int i)):v=.int i:=by unfold Is at h;exact h
theorem Is.of_bl{b:Bool}(h:Is K m H v (.bl b)):v=.bl b:=by unfold Is at h;exact h
theorem Is.of_non(h:Is K m H v .non):v=.non:=by unfold Is at h;exact h
theorem Is.of_str{x:Str}(h:Is K m H v (.str x)):v=.str x:=by unfold Is at h;exact h
theorem Is.of_tup(h:Is K m H v (.tup us)):∃a xs,v=.ref a/\SqT K H a xs/\IsL K m H xs us:=by unfold Is at h;exact h
theorem Is.of_ref{l:Nat}(h:Is K m H v (.ref l)):∃a,m[l]?=some a/\v=.ref a:=by unfold Is at h;exact h
theorem Is.of_kl{ns:List Int}(h:Is K m H v (.kl ns)):∃a,v=.ref a/\KL K H a ns:=by unfold Is at h;exact h
theorem Is.kl_{ns:List Int}(e:KL K H a ns):Is K m H (.ref a) (.kl ns):=by unfold Is;exact⟨a,rfl,e⟩
theorem Is.tup_(e:SqT K H a xs)(h:IsL K m H xs us):Is K m H (.ref a) (.tup us):=by unfold Is;exact⟨a,xs,rfl,e,h⟩
theorem Is.ref_{l:Nat}(e:m[l]?=some a):Is K m H (.ref a) (.ref l):=by unfold Is;exact⟨a,e,rfl⟩
theorem IsL.nil_:IsL K m H [] []:=by unfold IsL;rfl
theorem IsL.cons_(h:Is K m H x u)(t:IsL K m H xs us):IsL K m H (x::xs) (u::us):=by unfold IsL;exact⟨x,xs,rfl,h,t⟩
theorem IsL.of_nil(h:IsL K m H xs []):xs=[]:=by unfold IsL at h;exact h
theorem IsL.of_cons(h:IsL K m H xs (u::us)):∃x r,xs=x::r/\Is K m H x u/\IsL K m H r us:=by unfold IsL at h;exact h
theorem IsL.length:∀{xs:List V} {us:List U},IsL K m H xs us->xs.length=us.length
 |xs,[],h=>by rw[h.of_nil];rfl
 |xs,d::ds,h=>by
  obtain⟨x,r,rfl,_,t⟩:=h.of_cons
  rw[List.length_cons,List.length_cons,IsL.length t]
theorem IsL.getD:∀{xs:List V} {us:List U} {i:Nat} {u:U},IsL K m H xs us->us[i]?=some u->∃x,xs[i]?=some x/\Is K m H x u
 |xs,[],i,x,h,e=>by simp at e
 |xs,d::ds,0,x,h,e=>by
  obtain⟨y,r,rfl,k,t⟩:=h.of_cons
  simp at e;subst e;exact⟨y,by simp,k⟩
 |xs,d::ds,i+1,x,h,e=>by
  obtain⟨y,r,rfl,k,t⟩:=h.of_cons
  obtain⟨d',e1,e2⟩:=IsL.getD (i:=i) (u:=x) t (by simpa using e)
  exact⟨d',by simpa using e1,e2⟩
theorem IsL.append:∀{xs:List V} {us:List U},IsL K m H xs us->IsL K m H ys ws->IsL K m H (xs++ys) (us++ws)
 |xs,[],h,k=>by rw[h.of_nil];exact k
 |xs,d::ds,h,k=>by
  obtain⟨y,r,rfl,z,t⟩:=h.of_cons
  exact .cons_ z (IsL.append t k)
theorem IsL.set:∀{xs:List V} {us:List U} {j:Nat},IsL K m H xs us->Is K m H x u->IsL K m H (xs.set j x) (us.set j u)
 |xs,[],j,h,k=>by rw[h.of_nil];exact .nil_
 |xs,d::ds,0,h,k=>by
  obtain⟨y,r,rfl,z,t⟩:=h.of_cons
  exact .cons_ k t
 |xs,d::ds,j+1,h,k=>by
  obtain⟨y,r,rfl,z,t⟩:=h.of_cons
  exact .cons_ z (IsL.set t k)
theorem IsL.drop:∀{xs:List V} {us:List U} (n:Nat),IsL K m H xs us->IsL K m H (xs.drop n) (us.drop n)
 |xs,us,0,h=>h
 |xs,[],n+1,h=>by rw[h.of_nil];exact .nil_
 |xs,d::ds,n+1,h=>by
  obtain⟨y,r,rfl,z,t⟩:=h.of_cons
  exact IsL.drop n t
theorem IsL.take:∀{xs:List V} {us:List U} (n:Nat),IsL K m H xs us->IsL K m H (xs.take n) (us.take n)
 |xs,us,0,h=>.nil_
 |xs,[],n+1,h=>by rw[h.of_nil];exact .nil_
 |xs,d::ds,n+1,h=>by
  obtain⟨y,r,rfl,z,t⟩:=h.of_cons
  exact .cons_ z (IsL.take n t)
theorem IsL.erase:∀{xs:List V} {us:List U} (n:Nat),IsL K m H xs us->IsL K m H (xs.eraseIdx n) (us.eraseIdx n)
 |xs,[],n,h=>by rw[h.of_nil];exact .nil_
 |xs,d::ds,0,h=>by
  obtain⟨y,r,rfl,z,t⟩:=h.of_cons
  exact t
 |xs,d::ds,n+1,h=>by
  obtain⟨y,r,rfl,z,t⟩:=h.of_cons
  exact .cons_ z (IsL.erase n t)
theorem IsL.rev:∀{xs:List V} {us:List U},IsL K m H xs us->IsL K m H xs.reverse us.reverse
 |xs,[],h=>by rw[h.of_nil];exact .nil_
 |xs,d::ds,h=>by
  obtain⟨y,r,rfl,z,t⟩:=h.of_cons
  rw[List.reverse_cons,List.reverse_cons]
  exact IsL.append (IsL.rev t) (.cons_ z .nil_)
theorem om(h:H a=some o)(nt:∀xs,o≠.tup xs)(nf:∀ob xs,o≠.frz ob (.tup xs))(nl:∀ob xs,o≠.frz ob (.lst xs))(o':HO):xZ K H (upd H a o'):=by
 refine⟨fun b xs q=>?_,fun b ns q=>?_⟩
 ·rcases q with(q|⟨ob,q⟩)|q
  ·have n:b≠a:=fun z=>by subst z;rw[q]at h;cases h;exact nt _ rfl
   exact .inl (.inl (by rw[aJ n];exact q))
  ·have n:b≠a:=fun z=>by subst z;rw[q]at h;cases h;exact nf _ _ rfl
   exact .inl (.inr ⟨ob,by rw[aJ n];exact q⟩)
  ·exact .inr q
 ·rcases q with⟨ob,q⟩|q
  ·have n:b≠a:=fun z=>by subst z;rw[q]at h;cases h;exact nl _ _ rfl
   exact .inl ⟨ob,by rw[aJ n];exact q⟩
  ·exact .inr q
theorem bP(s:pN H H'):xZ K H H':=by
 refine⟨fun b xs q=>?_,fun b ns q=>?_⟩
 ·rcases q with(q|⟨ob,q⟩)|q
  ·exact .inl (.inl (s _ _ q))
  ·exact .inl (.inr ⟨ob,s _ _ q⟩)
  ·exact .inr q
 ·rcases q with⟨ob,q⟩|q
  ·exact .inl ⟨ob,s _ _ q⟩
  ·exact .inr q
theorem bj(h:H q=none)(o':HO):xZ K H (upd H q o'):=bP (eR h o')
end
abbrev NK:=List (List Int)
def hNK(ks:NK):Int:=reduceHash (Builtin.Tuple.tupleHashOf (ks.map fun k=>reduceHash (Builtin.Tuple.tupleHashOf (k.map hashInt))))
abbrev KN:List ((NK×Addr)×V)->List (NK×Addr×Value)->Prop:=Paired fun p q=>p.1.1=q.1/\p.1.2=q.2.1/\bu p.2 q.2.2
def dNo(a:Addr)(kvs:List ((NK×Addr)×V)):HO:=.ext fun h=>kvs.length<=sizeLine/\(a == sysModules)=false/\∃xs,KN kvs xs/\
 ∃o es ep,h.get? a=some o/\o.ExactDict/\o.data=.dict es ep/\es.toList=(xs.map fun x=>(⟨hNK x.1,.ref x.2.1,x.2.2⟩:DictEntry))/\(xs.map (·.1)).Nodup
def DH(K:PySem.W.Frag)(H:Hp)(b:Addr)(k:NK):Prop:=∃cs:List Addr,SqT K H b (cs.map V.ref)/\Paired (fun(l:List Int) c=>SqT K H c (l.map V.int)) k cs
theorem DH.mono{K:PySem.W.Frag}{H H':Hp}{b:Addr}{k:NK}(e:xZ K H H')(h:DH K H b k):DH K H' b k:=let ⟨cs,p,q⟩:=h;⟨cs,e.t _ _ p,Paired.mapP q fun _ _ z=>e.t _ _ z⟩
def nP(kvs:List ((NK×Addr)×V)):List (NK×V):=kvs.map fun p=>(p.1.1,p.2)
def IsP{κ:Type}(K:PySem.W.Frag)(m:List Addr)(H:Hp)(kvs:List (κ×V))(kus:List (κ×U)):Prop:=kvs.map (·.1)=kus.map (·.1)/\IsL K m H (kvs.map (·.2)) (kus.map (·.2))
def Rf(K:PySem.W.Frag)(m:List Addr)(H:Hp):Option V->Option U->Prop
 |some v,some u=>Is K m H v u
 |none,none=>True
 |_,_=>False
structure InF(K:PySem.W.Frag)(m:List Addr)(H:Hp)(c:Cl)(fs:List (Str×V))(fus:List (Option U)):Prop where
 nd:c.ns.Nodup
 few:c.ns.length<1000
 knd:(fs.map (·.1)).Nodup
 sub:∀x∈fs.map (·.1),x∈c.ns
 len:fus.length=c.ns.length
 at_:∀(i:Nat) (x:Str),c.ns[i]?=some x->Rf K m H (fs.lookup x) ((fus[i]?).join)
theorem Rf.mono{K:PySem.W.Frag}{m m':List Addr}{H H':Hp}{v:Option V}{u:Option U}(e:Ext K m H m' H')(h:Rf K m H v u):Rf K m' H' v u:=by
 cases v with
 |none=>cases u with
  |none=>trivial
  |some u=>exact h.elim
 |some v=>cases u with
  |none=>exact h.elim
  |some u=>exact Is.mono e h
theorem InF.mono{K:PySem.W.Frag}{m m':List Addr}{H H':Hp}{c:Cl}{fs:List (Str×V)}{fus:List (Option U)}(e:Ext K m H m' H')(h:InF K m H c fs fus):InF K m' H' c fs fus:=⟨h.nd,h.few,h.knd,h.sub,h.len,fun i x q=>(h.at_ i x q).mono e⟩
def Ob(K:PySem.W.Frag)(m:List Addr)(H:Hp)(a:Addr):O->Prop
 |.lst us=>∃xs,H a=some (.lst xs)/\IsL K m H xs us
 |.dic kus=>∃kvs,H a=some (.dK kvs)/\IsP K m H kvs kus
 |.ins c fus=>∃dx fs,H a=some (.ins c.C dx fs)/\InF K m H c fs fus
 |.fdc ep kus=>∃ob es kvs,H a=some (.frz ob (.dK kvs))/\ob.data=.dict es ep/\IsP K m H kvs kus
 |.dit kus=>∃kvs,H a=some (.dT kvs)/\IsP K m H kvs kus
 |.fdt ep kus=>∃ob es kvs,H a=some (.frz ob (.dT kvs))/\ob.data=.dict es ep/\IsP K m H kvs kus
 |.dnt kus=>∃kvs,H a=some (dNo a kvs)/\(∀p∈kvs,DH K H p.1.2 p.1.1)/\IsP K m H (nP kvs) kus
 |.fdn ep kus=>∃ob es kvs,H a=some (.frz ob (dNo a kvs))/\ob.data=.dict es ep/\(∀p∈kvs,DH K H p.1.2 p.1.1)/\IsP K m H (nP kvs) kus
structure Sr(K:PySem.W.Frag)(m:List Addr)(S:Sto)(H:Hp):Prop where
 len:m.length=S.length
 nd:m.Nodup
 ob:∀(l:Nat) (a:Addr) (o:O),m[l]?=some a->S[l]?=some o->Ob K m H a o
structure Lr(K:PySem.W.Frag)(m:List Addr)(H:Hp)(ρ:Rho)(σ:L2.St):Prop where
 len:ρ.length=σ.length
 at_:∀(i:Nat) (u:U),ρ[i]?=some (some u)->∃v,σ[i]?=some (some v)/\Is K m H v u
section
variable{κ:Type}{K:PySem.W.Frag}{m m':List Addr}{H H':Hp}{S S':Sto}{ρ:Rho}{σ:L2.St}{a q:Addr}{l:Nat}{o:O}{ho:HO}{us:List U}{v:V}{u:U}{kvs:List (κ×V)}{kus:List (κ×U)}
theorem IsP.mono(e:Ext K m H m' H')(h:IsP K m H kvs kus):IsP K m' H' kvs kus:=⟨h.1,h.2.mono e⟩
theorem IsP.length(h:IsP K m H kvs kus):kvs.length=kus.length:=by have:=h.2.length;simpa using this
theorem IsP.nil_:IsP (κ:=κ) K m H [] []:=⟨rfl,.nil_⟩
theorem IsP.cons_{k:κ}(h:Is K m H v u)(t:IsP K m H kvs kus):IsP K m H ((k,v)::kvs) ((k,u)::kus):=⟨by simp[t.1],.cons_ h t.2⟩
theorem IsP.ind{P:List (κ×V)->List (κ×U)->Prop}(h0:P [] [])(h1:∀k v u kvs kus,Is K m H v u->IsP K m H kvs kus->P kvs kus->P ((k,v)::kvs) ((k,u)::kus)):∀{kvs:List (κ×V)} {kus:List (κ×U)},IsP K m H kvs kus->P kvs kus
 |[],[],_=>h0
 |[],p::r,h=>by have:=h.length;simp at this
 |p::r,[],h=>by have:=h.length;simp at this
 |(k,v)::r,(k',u)::r',h=>by
  obtain⟨e,i⟩:=h
  simp only[List.map_cons,List.cons.injEq]at e
  obtain⟨e1,e2⟩:=e
  subst e1
  obtain⟨x,t,e3,iu,it⟩:=i.of_cons
  cases e3
  exact h1 k v u r r' iu ⟨e2,it⟩ (IsP.ind h0 h1 (⟨e2,it⟩:IsP K m H r r'))
theorem Ob.mono(e:Ext K m H m' H')(h1:H' a=H a)(h:Ob K m H a o):Ob K m' H' a o:=by
 cases o with
 |lst us=>obtain⟨xs,k,i⟩:=h;exact⟨xs,h1.trans k,i.mono e⟩
 |dic kus=>obtain⟨xs,k,i⟩:=h;exact⟨xs,h1.trans k,i.mono e⟩
 |ins C fus=>obtain⟨dx,fs,k,i⟩:=h;exact⟨dx,fs,h1.trans k,i.mono e⟩
 |fdc ep kus=>obtain⟨ob,es,kvs,k,d,i⟩:=h;exact⟨ob,es,kvs,h1.trans k,d,i.mono e⟩
 |dit kus=>obtain⟨xs,k,i⟩:=h;exact⟨xs,h1.trans k,i.mono e⟩
 |fdt ep kus=>obtain⟨ob,es,kvs,k,d,i⟩:=h;exact⟨ob,es,kvs,h1.trans k,d,i.mono e⟩
 |dnt kus=>obtain⟨kvs,k,y,i⟩:=h;exact⟨kvs,h1.trans k,fun p hp=>(y p hp).mono e.keep,i.mono e⟩
 |fdn ep kus=>obtain⟨ob,es,kvs,k,d,y,i⟩:=h;exact⟨ob,es,kvs,h1.trans k,d,fun p hp=>(y p hp).mono e.keep,i.mono e⟩
theorem Ob.some(h:Ob K m H a o):∃ho,H a=some ho/\(∀xs,ho≠.tup xs)/\(∀ob xs,ho≠.frz ob (.tup xs))/\(∀ob xs,ho≠.frz ob (.lst xs)):=by
 cases o with
 |lst us=>obtain⟨xs,k,i⟩:=h;exact⟨_,k,by simp,by simp,by simp⟩
 |dic kus=>obtain⟨xs,k,i⟩:=h;exact⟨_,k,by simp,by simp,by simp⟩
 |ins C fus=>obtain⟨dx,fs,k,i⟩:=h;exact⟨_,k,by simp,by simp,by simp⟩
 |fdc ep kus=>obtain⟨ob,es,kvs,k,d,i⟩:=h;exact⟨_,k,by simp,by simp,by simp⟩
 |dit kus=>obtain⟨xs,k,i⟩:=h;exact⟨_,k,by simp,by simp,by simp⟩
 |fdt ep kus=>obtain⟨ob,es,kvs,k,d,i⟩:=h;exact⟨_,k,by simp,by simp,by simp⟩
 |dnt kus=>obtain⟨kvs,k,y,i⟩:=h;exact⟨_,k,by simp[dNo],by simp[dNo],by simp[dNo]⟩
 |fdn ep kus=>obtain⟨ob,es,kvs,k,d,y,i⟩:=h;exact⟨_,k,by simp,by simp[dNo],by simp[dNo]⟩
theorem Lr.mono(e:Ext K m H m' H')(h:Lr K m H ρ σ):Lr K m' H' ρ σ:=⟨h.len,fun i u e1=>let ⟨v,e2,e3⟩:=h.at_ i u e1;⟨v,e2,e3.mono e⟩⟩
theorem Lr.set(h:Lr K m H ρ σ)(i:Nat)(hv:Is K m H v u):Lr K m H (ρ.set i (some u)) (σ.set i (some v)):=by
 refine⟨by simp[h.len],fun j w e=>?_⟩
 by_cases c:i=j
 ·subst c
  rw[List.getElem?_set_self' ]at e
  rw[List.getElem?_set_self']
  have hl:=h.len
  cases e1:ρ[i]? with
  |none=>rw[e1]at e;simp at e
  |some z=>
   rw[e1]at e
   simp at e
   subst e
   have:i < σ.length:=by rw[<-hl];exact(List.getElem?_eq_some_iff.mp e1).1
   rw[List.getElem?_eq_getElem this]
   exact⟨v,rfl,hv⟩
 ·rw[List.getElem?_set_ne c]at e
  rw[List.getElem?_set_ne c]
  exact h.at_ j w e
theorem Sr.get(r:Sr K m S H)(h:S[l]?=some o):∃a,m[l]?=some a/\Ob K m H a o:=by
 have hl:l<m.length:=by rw[r.len];exact(List.getElem?_eq_some_iff.mp h).1
 exact⟨_,List.getElem?_eq_getElem hl,r.ob _ _ _ (List.getElem?_eq_getElem hl) h⟩
theorem Sr.at_(r:Sr K m S H)(h:m[l]?=some a):∃o,S[l]?=some o/\Ob K m H a o:=by
 have hl:l<S.length:=by rw[<-r.len];exact(List.getElem?_eq_some_iff.mp h).1
 exact⟨_,List.getElem?_eq_getElem hl,r.ob _ _ _ h (List.getElem?_eq_getElem hl)⟩
theorem Sr.same(r:Sr K m S H)(s:pN H H'):Sr K m S H':=⟨r.len,r.nd,fun l a o h1 h2=>by
 have q:=r.ob l a o h1 h2
 obtain⟨ho,e,_⟩:=q.some
 exact q.mono (.of (bP s)) (by rw[s _ _ e,e])⟩
theorem Sr.new(r:Sr K m S H)(h:H q=none)(n:Ob K (m++[q]) (upd H q ho) q o):Sr K (m++[q]) (S++[o]) (upd H q ho):=by
 have hq:q∉m:=fun z=>by
  obtain⟨l,e⟩:=List.getElem?_of_mem z
  obtain⟨o,_,k⟩:=r.at_ e
  obtain⟨ho,e2,_⟩:=k.some
  rw[h]at e2;cases e2
 refine⟨by simp[r.len],?_,fun l a o' h1 h2=>?_⟩
 ·rw[List.nodup_append]
  exact⟨r.nd,by simp,fun x hx y hy z=>by simp at hy;subst hy;subst z;exact hq hx⟩
 ·by_cases c:l<m.length
  ·rw[List.getElem?_append_left c]at h1
   rw[List.getElem?_append_left (by rw[<-r.len];exact c)]at h2
   have q':=r.ob l a o' h1 h2
   obtain⟨ho',e,_⟩:=q'.some
   exact q'.mono (.new (bj h _)) (by rw[aJ (bB e h)])
  ·have e:l=m.length:=by
    have:=(List.getElem?_eq_some_iff.mp h1).1
    simp at this;omega
   subst e
   rw[List.getElem?_append_right (Nat.le_refl _)]at h1
   rw[List.getElem?_append_right (by rw[r.len];exact Nat.le_refl _)]at h2
   simp[r.len]at h1 h2
   subst h1;subst h2
   exact n
theorem Sr.put(r:Sr K m S H)(h:m[l]?=some a)(n:Ob K m (upd H a ho) a o):Sr K m (S.set l o) (upd H a ho):=by
 obtain⟨o0,h0,k0⟩:=r.at_ h
 obtain⟨ho',e,nt,nf,nl⟩:=k0.some
 refine⟨by simp[r.len],r.nd,fun l' a' o' h1 h2=>?_⟩
 by_cases c:l=l'
 ·subst c
  rw[h]at h1;cases h1
  rw[List.getElem?_set_self (List.getElem?_eq_some_iff.mp h0).1]at h2
  cases h2
  exact n
 ·rw[List.getElem?_set_ne c]at h2
  have na:a'≠a:=fun z=>by
   subst z
   obtain⟨p1,e1⟩:=List.getElem?_eq_some_iff.mp h
   obtain⟨p2,e2⟩:=List.getElem?_eq_some_iff.mp h1
   exact c ((List.getElem_inj r.nd).mp (e1.trans e2.symm))
  exact(r.ob l' a' o' h1 h2).mono (.of (om e nt nf nl _)) (by rw[aJ na])
theorem Sr.keep(r:Sr K m S H)(h:m[l]?=some a)(ho:HO):xZ K H (upd H a ho):=by
 obtain⟨o0,h0,k0⟩:=r.at_ h
 obtain⟨ho',e,nt,nf,nl⟩:=k0.some
 exact om e nt nf nl _
end
def fk(K:PySem.W.Frag)(m:List Addr)(H:Hp)(Q:VK)(u:U)(S':Sto):Prop:=∀m' v H',Ext K m H m' H'->Sr K m' S' H'->Is K m' H' v u->Q v H'
abbrev CE:=Rho->Sto->Option (U×Sto)
abbrev CT:=Rho->Sto->Option (Bool×Sto)
abbrev CA:=Rho->Sto->Option (List U×Sto)
inductive Out where
 |nx|rt (u:U)|bk|ct
abbrev CS:=Rho->Sto->Option (Out×Rho×Sto)
def wR(K:PySem.W.Frag)(m:List Addr)(H:Hp)(Q:Bool->Hp->Prop)(b:Bool)(S':Sto):Prop:=∀m' H',Ext K m H m' H'->Sr K m' S' H'->Q b H'
def Gd(K:PySem.W.Frag)(m:List Addr)(H:Hp)(Q:List V->Hp->Prop)(us:List U)(S':Sto):Prop:=∀m' vs H',Ext K m H m' H'->Sr K m' S' H'->IsL K m' H' vs us->Q vs H'
def d7(K:PySem.W.Frag)(m:List Addr)(H:Hp)(Q:L2.St->Hp->Prop)(ρ':Rho)(S':Sto):Prop:=∀m' σ' H',Ext K m H m' H'->Sr K m' S' H'->Lr K m' H' ρ' σ'->Q σ' H'
def pO(K:PySem.W.Frag)(m:List Addr)(H:Hp)(D:x5):Out->Rho->Sto->Prop
 |.nx,ρ',S'=>d7 K m H D.nx ρ' S'
 |.bk,ρ',S'=>d7 K m H D.bk ρ' S'
 |.ct,ρ',S'=>d7 K m H D.ct ρ' S'
 |.rt u,_,S'=>fk K m H D.rt u S'
theorem fU{α β γ δ ε:Type}{A B C D:α->β->γ->δ->ε->Prop}{p:Prop}(h:∃a b c d e,A a b c d e/\B a b c d e/\C a b c d e/\D a b c d e)(f:∀a b c d e,A a b c d e->B a b c d e->C a b c d e->D a b c d e->p):p:=by
 obtain⟨a,b,c,d,e,h1,h2,h3,h4⟩:=h
 exact f a b c d e h1 h2 h3 h4
theorem sE{α β γ δ ε ζ:Type}{A B C D:α->β->γ->δ->ε->ζ->Prop}{p:Prop}(h:∃a b c d e g,A a b c d e g/\B a b c d e g/\C a b c d e g/\D a b c d e g)(f:∀a b c d e g,A a b c d e g->B a b c d e g->C a b c d e g->D a b c d e g->p):p:=by
 obtain⟨a,b,c,d,e,g,h1,h2,h3,h4⟩:=h
 exact f a b c d e g h1 h2 h3 h4
theorem GK{α β γ δ ε ζ:Type}{A B C D E:α->β->γ->δ->ε->ζ->Prop}{p:Prop}(h:∃a b c d e g,A a b c d e g/\B a b c d e g/\C a b c d e g/\D a b c d e g/\E a b c d e g)(f:∀a b c d e g,A a b c d e g->B a b c d e g->C a b c d e g->D a b c d e g->E a b c d e g->p):p:=by
 obtain⟨a,b,c,d,e,g,h1,h2,h3,h4,h5⟩:=h
 exact f a b c d e g h1 h2 h3 h4 h5
def tE(K:PySem.W.Frag)(c:CE):TE:=fun σ H Q=>∃m ρ S u S',Sr K m S H/\Lr K m H ρ σ/\c ρ S=some (u,S')/\fk K m H Q u S'
def tT(K:PySem.W.Frag)(c:CT):TT:=fun σ H Q=>∃m ρ S u S',Sr K m S H/\Lr K m H ρ σ/\c ρ S=some (u,S')/\wR K m H Q u S'
def tA(K:PySem.W.Frag)(c:CA):TA:=fun σ H Q=>∃m ρ S u S',Sr K m S H/\Lr K m H ρ σ/\c ρ S=some (u,S')/\Gd K m H Q u S'
def tS(K:PySem.W.Frag)(c:CS):TS:=fun D σ H=>∃m ρ S o ρ' S',Sr K m S H/\Lr K m H ρ σ/\c ρ S=some (o,ρ',S')/\pO K m H D o ρ' S'
abbrev QE(X:Cx)(e:Expr)(c:CE):Prop:=WE X e (tE X.K c)
abbrev QT(X:Cx)(e:Expr)(c:CT):Prop:=WT X e (tT X.K c)
abbrev QW(X:Cx)(e:Expr)(c:CT):Prop:=WW X e (tT X.K c)
abbrev QS(X:Cx)(e:Stmt)(c:CS):Prop:=WS X e (tS X.K c)
abbrev QSs(X:Cx)(e:List Stmt)(c:CS):Prop:=WSs X e (tS X.K c)
structure QA(X:Cx)(es:List Expr)(c:CA):Prop where
 h:WA X es (tA X.K c)
 len:∀ρ S us S',c ρ S=some (us,S')->us.length=es.length
section
variable{X:Cx}{e:Expr}{es:List Expr}{st:Stmt}{sts:List Stmt}
theorem _root_.OG.WE.imp{t t':TE}(h:WE X e t)(i:∀σ H Q,t' σ H Q->t σ H Q):WE X e t':=⟨fun pins s σ H Q I k=>h.h pins s σ H Q I (i σ H Q k)⟩
theorem _root_.OG.WT.imp{t t':TT}(h:WT X e t)(i:∀σ H Q,t' σ H Q->t σ H Q):WT X e t':=⟨fun pins s σ H Q I k=>h.h pins s σ H Q I (i σ H Q k)⟩
theorem _root_.OG.WW.imp{t t':TT}(h:WW X e t)(i:∀σ H Q,t' σ H Q->t σ H Q):WW X e t':=⟨fun wh pins s σ H Q I k=>h.h wh pins s σ H Q I (i σ H Q k)⟩
theorem _root_.OG.WA.imp{t t':TA}(h:WA X es t)(i:∀σ H Q,t' σ H Q->t σ H Q):WA X es t':=⟨fun pos pins s σ H Q I k=>h.h pos pins s σ H Q I (i σ H Q k)⟩
theorem _root_.OG.WS.imp{t t':TS}(h:WS X st t)(i:∀D σ H,t' D σ H->t D σ H):WS X st t':=⟨fun pins s σ H D I k=>h.h pins s σ H D I (i D σ H k)⟩
theorem _root_.OG.WSs.imp{t t':TS}(h:WSs X sts t)(i:∀D σ H,t' D σ H->t D σ H):WSs X sts t':=⟨fun pins s σ H D I k=>h.h pins s σ H D I (i D σ H k)⟩
theorem _root_.OG.WI.imp{tg:Expr}{t t':TI}(h:WI X tg e t)(i:∀σ H R,t' σ H R->t σ H R):WI X tg e t':=⟨fun pins s σ H R I k=>h.h pins s σ H R I (i σ H R k)⟩
theorem _root_.OG.WG.imp{t t':TG}(h:WG X e t)(i:∀v σ H Q,t' v σ H Q->t v σ H Q):WG X e t':=⟨fun pins s σ H v u Q I r k=>h.h pins s σ H v u Q I r (i v σ H Q k)⟩
theorem _root_.OG.WGs.imp{t t':TGs}(h:WGs X es t)(i:∀v σ H Q,t' v σ H Q->t v σ H Q):WGs X es t':=⟨fun pins s σ H v u Q I r k=>h.h pins s σ H v u Q I r (i v σ H Q k)⟩
theorem _root_.OG.WE.or{t t':TE}(h:WE X e t)(h':WE X e t'):WE X e (fun σ H Q=>t σ H Q\/t' σ H Q):=⟨fun pins s σ H Q I k=>k.elim (h.h pins s σ H Q I) (h'.h pins s σ H Q I)⟩
theorem _root_.OG.WT.or{t t':TT}(h:WT X e t)(h':WT X e t'):WT X e (fun σ H Q=>t σ H Q\/t' σ H Q):=⟨fun pins s σ H Q I k=>k.elim (h.h pins s σ H Q I) (h'.h pins s σ H Q I)⟩
theorem _root_.OG.WS.or{t t':TS}(h:WS X st t)(h':WS X st t'):WS X st (fun D σ H=>t D σ H\/t' D σ H):=⟨fun pins s σ H D I k=>k.elim (h.h pins s σ H D I) (h'.h pins s σ H D I)⟩
theorem _root_.OG.WI.or{tg:Expr}{t t':TI}(h:WI X tg e t)(h':WI X tg e t'):WI X tg e (fun σ H D=>t σ H D\/t' σ H D):=⟨fun pins s σ H D I k=>k.elim (h.h pins s σ H D I) (h'.h pins s σ H D I)⟩
end
section
variable{K:PySem.W.Frag}{m m':List Addr}{H H':Hp}{Q:VK}{R:L2.St->Hp->Prop}{D:x5}{u:U}{o:Out}{S':Sto}{ρ':Rho}
theorem fk.mono(e:Ext K m H m' H')(p:fk K m H Q u S'):fk K m' H' Q u S':=fun m2 v H2 e2 r i=>p m2 v H2 (e.trans e2) r i
theorem wR.mono{Q:Bool->Hp->Prop}{b:Bool}(e:Ext K m H m' H')(p:wR K m H Q b S'):wR K m' H' Q b S':=fun m2 H2 e2 r=>p m2 H2 (e.trans e2) r
theorem d7.mono(e:Ext K m H m' H')(p:d7 K m H R ρ' S'):d7 K m' H' R ρ' S':=fun m2 v H2 e2 r i=>p m2 v H2 (e.trans e2) r i
theorem pO.mono(e:Ext K m H m' H')(p:pO K m H D o ρ' S'):pO K m' H' D o ρ' S':=by
 cases o with
 |nx=>exact d7.mono e p
 |rt u=>exact fk.mono e p
 |bk=>exact d7.mono e p
 |ct=>exact d7.mono e p
end
def LIM:Nat:=100000
theorem lim{n:Nat}(h:n<=LIM):n<=sizeLine:=Nat.le_trans h (by unfold LIM sizeLine;decide)
theorem CK{n:Nat}(h:n<LIM):n<sizeLine:=Nat.lt_of_lt_of_le h (by unfold LIM sizeLine;decide)
def ah(i:Nat):CE:=fun ρ S=>match ρ[i]? with
 |some (some u)=>some (u,S)
 |_=>none
def cC(u:U):CE:=fun _ S=>some (u,S)
section
variable{X:Cx}{e a b c:Expr}{ca cb cc:CE}{pos:Pos}
theorem ao{i:Nat}(h:WE X e (DP i)):QE X e (ah i):=h.imp fun σ H Q hz=>fU hz fun m ρ S u S' sr lr hc post=>by
 unfold ah at hc
 split at hc
 ·rename_i u' e
  cases hc
  obtain⟨v,e1,e2⟩:=lr.at_ i u e
  exact⟨v,e1,post m v H .refl sr e2⟩
 ·cases hc
theorem q_c{v:V}{u:U}(h:WE X e (tC v))(hi:∀m H,Is X.K m H v u):QE X e (cC u):=h.imp fun σ H Q hz=>fU hz fun m ρ S u' S' sr lr hc post=>by
 cases hc
 exact post m v H .refl sr (hi m H)
theorem aB{i:Int}(h:WE X e (tC (.int i))):QE X e (cC (.int i)):=q_c h fun _ _=>.int_
theorem Ff{i:Bool}(h:WE X e (tC (.bl i))):QE X e (cC (.bl i)):=q_c h fun _ _=>.bl_
def cOp(f:U->U->Sto->Option (U×Sto))(ca cb:CE):CE:=fun ρ S=>(ca ρ S).bind fun p=>(cb ρ p.2).bind fun q=>f p.1 q.1 q.2
def OpP(K:PySem.W.Frag)(r:R2)(f:U->U->Sto->Option (U×Sto)):Prop:=
 ∀m S H x y v w u S' Q,Sr K m S H->Is K m H v x->Is K m H w y->f x y S=some (u,S')->fk K m H Q u S'->r v w H Q
theorem rm{K:PySem.W.Frag}{r:R2}{f:U->U->Sto->Option (U×Sto)}(hp:OpP K r f):∀σ H Q,tE K (cOp f ca cb) σ H Q->tOp r (tE K ca) (tE K cb) σ H Q:=by
 rintro σ H Q ⟨m,ρ,S,u,S',sr,lr,hc,post⟩
 obtain⟨⟨x,S1⟩,h1,h⟩:=Option.bind_eq_some_iff.mp hc
 obtain⟨⟨y,S2⟩,h2,h3⟩:=Option.bind_eq_some_iff.mp h
 exact⟨m,ρ,S,x,S1,sr,lr,h1,fun m1 v1 H1 e1 sr1 i1=>⟨m1,ρ,S1,y,S2,sr1,lr.mono e1,h2,fun m2 v2 H2 e2 sr2 i2=>hp m2 S2 H2 x y v1 v2 u S' Q sr2 (i1.mono e2) i2 h3 (post.mono (e1.trans e2))⟩⟩
theorem dU{op:Operator}{r:R2}{f:U->U->Sto->Option (U×Sto)}(ho:OpR X (binaryOp op) r)(hp:OpP X.K r f)(ha:QE X a ca)(hb:QE X b cb):QE X (.BinOp a op b pos) (cOp f ca cb):=(Bg ho ha hb).imp (rm hp)
theorem uX{op:CmpOp}{r:R2}{f:U->U->Sto->Option (U×Sto)}(ho:OpR X (compareOp op) r)(hp:OpP X.K r f)(ha:QE X a ca)(hb:QE X b cb)(hm:behindInMarks op b=false):QE X (.Compare a [op] [b] pos) (cOp f ca cb):=(uA ho ha hb hm).imp (rm hp)
def aN(c:CE):CT:=fun ρ S=>(c ρ S).bind fun p=>match p.1 with
 |.bl b=>some (b,p.2)
 |_=>none
theorem jB{K:PySem.W.Frag}{c:CE}{t:TE}(h:∀σ H Q,tE K c σ H Q->t σ H Q):∀σ H Q,tT K (aN c) σ H Q->t σ H fun x H'=>∃k,x=.bl k/\Q k H':=by
 rintro σ H Q ⟨m,ρ,S,u,S',sr,lr,hc,post⟩
 obtain⟨⟨x,S1⟩,h1,h2⟩:=Option.bind_eq_some_iff.mp hc
 refine h σ H _ ⟨m,ρ,S,x,S1,sr,lr,h1,fun m1 v1 H1 e1 sr1 i1=>?_⟩
 cases x<;>simp at h2
 obtain⟨rfl,rfl⟩:=h2
 exact⟨_,i1.of_bl,post m1 H1 e1 sr1⟩
theorem cy{op:CmpOp}{r:R2}{f:U->U->Sto->Option (U×Sto)}(ho:OpR X (compareOp op) r)(hp:OpP X.K r f)(ha:QE X a ca)(hb:QE X b cb)(hm:behindInMarks op b=false):QT X (.Compare a [op] [b] pos) (aN (cOp f ca cb)):=(nk ho ha hb hm).imp (jB (rm hp))
theorem xp(h:QE X e ca)(he:∀whole,isTrue e X.env whole=(do let v <-whole;standAt e.pos;holding [v] (truthy v)):=by intro _;rfl):QT X e (aN ca):=(yE h he).imp (jB fun _ _ _ z=>z)
variable{ta tb:CT}{rest:List Expr}
def Au(ta tb:CT):CT:=fun ρ S=>(ta ρ S).bind fun p=>if p.1=true then tb ρ p.2 else some (false,p.2)
def cOr(ta tb:CT):CT:=fun ρ S=>(ta ρ S).bind fun p=>if p.1=true then some (true,p.2)else tb ρ p.2
def D5(ta:CT):CT:=fun ρ S=>(ta ρ S).bind fun p=>some (!p.1,p.2)
theorem DS(h:QW X e ta):QT X e ta:=WW.pt h
theorem xv(ha:QT X a ta):QW X (.BoolOp .And [a] pos) ta:=uo ha
theorem BJ(ha:QT X a ta):QW X (.BoolOp .Or [a] pos) ta:=yC ha
theorem BL(ha:QT X a ta)(hb:QW X (.BoolOp .And (b::rest) pos) tb):QW X (.BoolOp .And (a::b::rest) pos) (Au ta tb):=(yD ha hb).imp fun σ H Q hz=>fU hz fun m ρ S u S' sr lr hc post=>by
 obtain⟨⟨x,S1⟩,h1,h2⟩:=Option.bind_eq_some_iff.mp hc
 refine⟨m,ρ,S,x,S1,sr,lr,h1,fun m1 H1 e1 sr1=>?_⟩
 cases x with
 |true=>exact C4 ⟨m1,ρ,S1,u,S',sr1,lr.mono e1,h2,post.mono e1⟩
 |false=>cases h2;exact C5 (post m1 H1 e1 sr1)
theorem Gr(ha:QT X a ta)(hb:QW X (.BoolOp .Or (b::rest) pos) tb):QW X (.BoolOp .Or (a::b::rest) pos) (cOr ta tb):=(Bc ha hb).imp fun σ H Q hz=>fU hz fun m ρ S u S' sr lr hc post=>by
 obtain⟨⟨x,S1⟩,h1,h2⟩:=Option.bind_eq_some_iff.mp hc
 refine⟨m,ρ,S,x,S1,sr,lr,h1,fun m1 H1 e1 sr1=>?_⟩
 cases x with
 |true=>cases h2;exact C4 (post m1 H1 e1 sr1)
 |false=>exact C5 ⟨m1,ρ,S1,u,S',sr1,lr.mono e1,h2,post.mono e1⟩
theorem xq(ha:QT X a ta):QT X (.UnaryOp .Not a pos) (D5 ta):=(yF ha).imp fun σ H Q hz=>fU hz fun m ρ S u S' sr lr hc post=>by
 obtain⟨⟨x,S1⟩,h1,h2⟩:=Option.bind_eq_some_iff.mp hc
 cases h2
 exact⟨m,ρ,S,x,_,sr,lr,h1,fun m1 H1 e1 sr1=>post m1 H1 e1 sr1⟩
def fO(ca cb:CE):CE:=fun ρ S=>(ca ρ S).bind fun p=>match p.1 with
 |.bl true=>cb ρ p.2
 |.bl false=>some (.bl false,p.2)
 |_=>none
def GL(ca cb:CE):CE:=fun ρ S=>(ca ρ S).bind fun p=>match p.1 with
 |.bl false=>cb ρ p.2
 |.bl true=>some (.bl true,p.2)
 |_=>none
def wC(ca:CE):CE:=fun ρ S=>(ca ρ S).bind fun p=>match p.1 with
 |.bl b=>some (.bl (!b),p.2)
 |_=>none
theorem zj{op}(h:QE X a ca):QE X (.BoolOp op [a] pos) ca:=yO h
theorem nM(ha:QE X a ca)(hb:QE X (.BoolOp .And (b::rest) pos) cb):QE X (.BoolOp .And (a::b::rest) pos) (fO ca cb):=(yR ha hb).imp fun σ H Q hz=>fU hz fun m ρ S u S' sr lr hc post=>by
 obtain⟨⟨x,S1⟩,h1,h2⟩:=Option.bind_eq_some_iff.mp hc
 refine⟨m,ρ,S,x,S1,sr,lr,h1,fun m1 v1 H1 e1 sr1 i1=>?_⟩
 cases x with
 |bl k=>
  refine⟨k,i1.of_bl,?_⟩
  cases k with
  |true=>exact C4 ⟨m1,ρ,S1,u,S',sr1,lr.mono e1,h2,post.mono e1⟩
  |false=>cases h2;exact C5 (post m1 _ H1 e1 sr1 .bl_)
 |_=>simp at h2
theorem BK(ha:QE X a ca):QE X (.UnaryOp .Not a pos) (wC ca):=(yP ha).imp fun σ H Q hz=>fU hz fun m ρ S u S' sr lr hc post=>by
 obtain⟨⟨x,S1⟩,h1,h2⟩:=Option.bind_eq_some_iff.mp hc
 refine⟨m,ρ,S,x,S1,sr,lr,h1,fun m1 v1 H1 e1 sr1 i1=>?_⟩
 cases x with
 |bl k=>cases h2;exact⟨k,i1.of_bl,post m1 _ H1 e1 sr1 .bl_⟩
 |_=>simp at h2
def cIf(t:CT)(ca cb:CE):CE:=fun ρ S=>(t ρ S).bind fun p=>if p.1=true then ca ρ p.2 else cb ρ p.2
variable{es:List Expr}{cr:CA}
def ay:CA:=fun _ S=>some ([],S)
def ae(ca:CE)(cr:CA):CA:=fun ρ S=>(ca ρ S).bind fun p=>(cr ρ p.2).bind fun q=>some (p.1::q.1,q.2)
theorem aw:QA X [] ay:=⟨gD.imp fun σ H Q hz=>fU hz fun m ρ S u S' sr lr hc post=>by cases hc;exact post m [] H .refl sr .nil_,fun ρ S us S' h=>by cases h;rfl⟩
theorem ag(ha:QE X e ca)(hr:QA X es cr)(hs:starEach (e::es) X.env=(false,eval e X.env)::starEach es X.env:=by rfl):QA X (e::es) (ae ca cr):=⟨(cZ ha hr.h hs).imp fun σ H Q hz=>fU hz fun m ρ S u S' sr lr hc post=>by
 obtain⟨⟨x,S1⟩,h1,h⟩:=Option.bind_eq_some_iff.mp hc
 obtain⟨⟨y,S2⟩,h2,h3⟩:=Option.bind_eq_some_iff.mp h
 cases h3
 exact⟨m,ρ,S,x,S1,sr,lr,h1,fun m1 v1 H1 e1 sr1 i1=>⟨m1,ρ,S1,y,S2,sr1,lr.mono e1,h2,fun m2 v2 H2 e2 sr2 i2=>post m2 _ H2 (e1.trans e2) sr2 (.cons_ (i1.mono e2) i2)⟩⟩,
 fun ρ S us S' h=>by
 obtain⟨⟨x,S1⟩,h1,h⟩:=Option.bind_eq_some_iff.mp h
 obtain⟨⟨y,S2⟩,h2,h3⟩:=Option.bind_eq_some_iff.mp h
 cases h3
 simp[hr.len ρ S1 y S2 h2]⟩
def dM(cr:CA):CE:=fun ρ S=>(cr ρ S).bind fun p=>some (.tup p.1,p.2)
def iB(cr:CA):CE:=fun ρ S=>(cr ρ S).bind fun p=>some (.ref p.2.length,p.2++[.lst p.1])
theorem bY{m:List Addr}{S:Sto}{q:Addr}(h:m.length=S.length):(m++[q])[S.length]?=some q:=by rw[List.getElem?_append_right (by omega)];simp[h]
theorem gc{K:PySem.W.Frag}{m:List Addr}{H:Hp}{S:Sto}{us:List U}{xs:List V}{Q:VK}{p:Addr}(sr:Sr K m S H)(i:IsL K m H xs us)(post:fk K m H Q (.tup us) S)(hp:H p=none):Q (.ref p) (upd H p (.tup xs)):=
 post m _ _ (.of (bj hp _)) (sr.same (eR hp _)) (.tup_ (SqT.of aH) (i.mono (.of (bj hp _))))
theorem bC{K:PySem.W.Frag}{m:List Addr}{H:Hp}{S:Sto}{us:List U}{xs:List V}{Q:VK}{p:Addr}(sr:Sr K m S H)(i:IsL K m H xs us)(post:fk K m H Q (.ref S.length) (S++[.lst us]))(hp:H p=none):Q (.ref p) (upd H p (.lst xs)):=
 post (m++[p]) _ _ (.new (bj hp _)) (sr.new hp ⟨xs,aH,i.mono (.new (bj hp _))⟩) (.ref_ (bY sr.len))
theorem cP{x1}(h:QA X es cr)(hl:es.length<=1000:=by exact Nat.le_of_ble_eq_true rfl):QE X (.Tuple es x1 pos) (dM cr):=(qe h.h).imp fun σ H Q hz=>fU hz fun m ρ S u S' sr lr hc post=>by
 obtain⟨⟨us,S1⟩,h1,h2⟩:=Option.bind_eq_some_iff.mp hc
 cases h2
 refine⟨m,ρ,S,us,_,sr,lr,h1,fun m1 v1 H1 e1 sr1 i1=>⟨w9 ?_,fun p hp=>gc sr1 i1 (post.mono e1) hp⟩⟩
 rw[i1.length,h.len _ _ _ _ h1];exact hl
theorem fA(h:QA X es cr)(hl:es.length<=1000:=by exact Nat.le_of_ble_eq_true rfl):QE X (.List es pos) (iB cr):=(yQ h.h).imp fun σ H Q hz=>fU hz fun m ρ S u S' sr lr hc post=>by
 obtain⟨⟨us,S1⟩,h1,h2⟩:=Option.bind_eq_some_iff.mp hc
 cases h2
 refine⟨m,ρ,S,us,_,sr,lr,h1,fun m1 v1 H1 e1 sr1 i1=>⟨w9 ?_,fun p hp=>bC sr1 i1 (post.mono e1) hp⟩⟩
 rw[i1.length,h.len _ _ _ _ h1];exact hl
def cCB(f:List U->Sto->Option (U×Sto))(cr:CA):CE:=fun ρ S=>(cr ρ S).bind fun p=>f p.1 p.2
def iJ(K:PySem.W.Frag)(r:List V->Hp->VK->Prop)(f:List U->Sto->Option (U×Sto)):Prop:=
 ∀m S H us vs u S' Q,Sr K m S H->IsL K m H vs us->f us S=some (u,S')->fk K m H Q u S'->r vs H Q
theorem xV{K:PySem.W.Frag}{r:List V->Hp->VK->Prop}{f:List U->Sto->Option (U×Sto)}(hp:iJ K r f):∀σ H Q,tE K (cCB f cr) σ H Q->tCB r (tA K cr) σ H Q:=by
 rintro σ H Q ⟨m,ρ,S,u,S',sr,lr,hc,post⟩
 obtain⟨⟨us,S1⟩,h1,h2⟩:=Option.bind_eq_some_iff.mp hc
 exact⟨m,ρ,S,us,S1,sr,lr,h1,fun m1 v1 H1 e1 sr1 i1=>hp m1 S1 H1 us v1 u S' Q sr1 i1 h2 (post.mono e1)⟩
theorem bU{id:String}{x:Str}{p:Pos}{r:List V->Hp->VK->Prop}{f:List U->Sto->Option (U×Sto)}(hc:bT X (.builtin id) r)(hp:iJ X.K r f)(hg:Gl X x)(hm:X.mg x=none)(hv:bootBuiltins x=some (.builtin id))(ha:QA X (e::es) cr)(hn:x≠"__name__":=by decide)(hdb:(x == ("__debug__":Str))=false:=by decide)(he:starEach (e::es) X.env=(false,eval e X.env)::starEach es X.env:=by rfl)(hpl:(backTo pos (starEach es X.env)).any (·.1)=false:=by rfl) :
  QE X (.Call (.Name x p) (e::es) [] pos) (cCB f cr):=(gC hc hg hm hv ha.h hn hdb he hpl).imp (xV hp)
theorem bJ{id:String}{x:Str}{p:Pos}{r:List V->Hp->VK->Prop}{f:List U->Sto->Option (U×Sto)}(hc:bT X (.type id) r)(hp:iJ X.K r f)(hg:Gl X x)(hm:X.mg x=none)(hv:bootBuiltins x=some (.type id))(ha:QA X (e::es) cr)(hn:x≠"__name__":=by decide)(hdb:(x == ("__debug__":Str))=false:=by decide)(he:starEach (e::es) X.env=(false,eval e X.env)::starEach es X.env:=by rfl)(hpl:(backTo pos (starEach es X.env)).any (·.1)=false:=by rfl) :
  QE X (.Call (.Name x p) (e::es) [] pos) (cCB f cr):=(iU hc hg hm hv ha.h hn hdb he hpl).imp (xV hp)
end
def DQ(K:PySem.W.Frag)(f:List U->Sto->Option (U×Sto)):Sp:=fun vs H Q _=>∃m us S u S',IsL K m H vs us/\Sr K m S H/\f us S=some (u,S')/\fk K m H Q u S'
abbrev Fn:=List U->Sto->Option (U×Sto)
abbrev kq(P:Program)(w:World)(K:PySem.W.Frag)(mg:Str->Option Value)(base:Heap)(x:Str)(k:Nat)(ps:List Str)(f:Fn):Prop:=Has P w K mg base x k ps (DQ K f)
def kL(n:Nat)(us:List U):Rho:=us.map some++List.replicate (n-us.length) none
def fnU(n k:Nat)(c:CS):Fn:=fun us S=>if us.length=k then(c (kL n us) S).bind fun r=>match r.1 with
 |.rt u=>some (u,r.2.2)
 |.nx=>some (.non,r.2.2)
 |_=>none else none
section
variable{P:Program}{w:World}{K:PySem.W.Frag}{mg:Str->Option Value}{base:Heap}{x:Str}{st:Stmt}{ps N:List Str}{k:Nat}{c:CS}{f:Fn}
theorem vM{m:List Addr}{H:Hp}{vs:List V}{us:List U}(i:IsL K m H vs us):Lr K m H (kL N.length us) (L2.start N vs):=by
 have hl:=i.length
 refine⟨by simp[kL,L2.start,hl],fun j u e=>?_⟩
 unfold kL at e
 unfold L2.start
 by_cases c:j<us.length
 ·rw[List.getElem?_append_left (by simpa using c),List.getElem?_map]at e
  rw[List.getElem?_append_left (by simpa [hl] using c),List.getElem?_map]
  rw[List.getElem?_eq_getElem c]at e
  simp at e
  obtain⟨v,e1,e2⟩:=i.getD (List.getElem?_eq_getElem c)
  rw[e1]
  subst e
  exact⟨v,rfl,e2⟩
 ·rw[List.getElem?_append_right (by simpa using c),List.getElem?_replicate]at e
  split at e<;>cases e
theorem Ab{X:Cx}{body:List Stmt}{Q:VK}{E:XK}{vs:List V}{H:Hp}(hK:X.K=K)(h:DQ K (fnU N.length ps.length c) vs H Q E):tS X.K c { nx:=fun _ H'=>Q .non H',rt:=Q } (L2.start N vs) H:=by
 subst hK
 obtain⟨m,us,S,u,S',i,sr,hf,post⟩:=h
 unfold fnU at hf
 split at hf
 ·obtain⟨⟨o,ρ',S2⟩,h1,h2⟩:=Option.bind_eq_some_iff.mp hf
  refine⟨m,_,S,o,ρ',S2,sr,vM i,h1,?_⟩
  cases o with
  |rt v=>cases h2;exact post
  |nx=>cases h2;exact fun m1 σ1 H1 e1 sr1 _=>post m1 _ H1 e1 sr1 .non_
  |bk=>simp at h2
  |ct=>simp at h2
 ·cases hf
theorem uL{vs:List V}{H:Hp}{Q:VK}{E:XK}{n k:Nat}(h:DQ K (fnU n k c) vs H Q E):vs.length=k:=by
 obtain⟨m,us,S,u,S',i,sr,hf,post⟩:=h
 unfold fnU at hf
 split at hf
 ·rename_i e
  rw[i.length,e]
 ·cases hf
theorem _root_.OG.Def.pure(d:Def K mg x st ps)(S:bA N ps (aE st))
  (hb:∀(f:Addr) (cdv:Value) (A:Around) (outer:List Env) (s:Shared) (H:Hp) (E:XK),iH k (A.deeper (envOfC x (aE st) s.heap.objs.size f cdv))->
   WSs (tY CX0 P w K mg base N x (aE st) f cdv A outer s H E).nox (cB st) (tS K c)):kq P w K mg base x (k+1) ps (fnU N.length ps.length c):=
 d.has S (fun vs H Q E h=>uL h) fun f cdv A outer s H vs Q E hr h=>⟨_,hb f cdv A outer s H E hr,Ab (X:=(tY CX0 P w K mg base N x (aE st) f cdv A outer s H E).nox) (body:=[]) (ps:=ps) rfl h⟩
theorem aZ{X:Cx}{e:Expr}{es:List Expr}{cr:CA}{p pos:Pos}(F:Has X.prog X.w X.K X.mg X.base x k ps (DQ X.K f))(hr:iH k X.A)(hg:Gl X x)(ha:QA X (e::es) cr)
  (hdb:(x == ("__debug__":Str))=false:=by decide) (he:starEach (e::es) X.env=(false,eval e X.env)::starEach es X.env:=by rfl) (hpl:(backTo pos (starEach es X.env)).any (·.1)=false:=by rfl) :
  QE X (.Call (.Name x p) (e::es) [] pos) (cCB f cr):=(Bi F hr hg ha.h hdb he hpl).imp fun σ H Q hz=>fU hz fun m ρ S u S' sr lr hc post=>by
 obtain⟨⟨us,S1⟩,h1,h2⟩:=Option.bind_eq_some_iff.mp hc
 exact⟨m,ρ,S,us,S1,sr,lr,h1,fun m1 v1 H1 e1 sr1 i1=>⟨m1,us,S1,u,S',by simpa using i1,sr1,h2,post.mono e1⟩⟩
end
section
variable{X:Cx}{e a b c:Expr}{ca cb cc:CE}{pos:Pos}{st:Stmt}{sts:List Stmt}{c1 c2:CS}
def d5:CS:=fun ρ S=>some (.nx,ρ,S)
def bH(c1 c2:CS):CS:=fun ρ S=>(c1 ρ S).bind fun r=>match r.1 with
 |.nx=>c2 r.2.1 r.2.2
 |o=>some (o,r.2.1,r.2.2)
theorem eV:QSs X [] d5:=ur.imp fun D σ H hz=>sE hz fun m ρ S o ρ' S' sr lr hc post=>by cases hc;exact post m σ H .refl sr lr
theorem aA(h1:QS X st c1)(h2:QSs X sts c2):QSs X (st::sts) (bH c1 c2):=(p7 h1 h2).imp fun D σ H hz=>sE hz fun m ρ S o ρ' S' sr lr hc post=>by
 obtain⟨⟨o1,ρ1,S1⟩,h1,h2⟩:=Option.bind_eq_some_iff.mp hc
 refine⟨m,ρ,S,o1,ρ1,S1,sr,lr,h1,?_⟩
 cases o1 with
 |nx=>exact fun m1 σ1 H1 e1 sr1 lr1=>⟨m1,ρ1,S1,o,ρ',S',sr1,lr1,h2,post.mono e1⟩
 |rt u=>cases h2;exact post
 |bk=>cases h2;exact post
 |ct=>cases h2;exact post
theorem aS(h1:QS X st c1):QSs X [st] c1:=uq h1
def dN(ca:CE):CS:=fun ρ S=>(ca ρ S).bind fun p=>some (.nx,ρ,p.2)
theorem cN(he:QE X e ca)(hs:swapsWith e none pos.line X.env=pure false:=by rfl):QS X (.Expr e pos) (dN ca):=(uu he hs).imp fun D σ H hz=>sE hz fun m ρ S o ρ' S' sr lr hc post=>by
 obtain⟨⟨u,S1⟩,h1,h2⟩:=Option.bind_eq_some_iff.mp hc
 cases h2
 exact⟨m,ρ,S,u,_,sr,lr,h1,fun m1 v1 H1 e1 sr1 i1=>post m1 σ H1 e1 sr1 (lr.mono e1)⟩
def lW(ca:CE):CS:=fun ρ S=>(ca ρ S).bind fun p=>some (.rt p.1,ρ,p.2)
theorem dk(he:QE X e ca):QS X (.Return (some e) pos) (lW ca):=(yI he).imp fun D σ H hz=>sE hz fun m ρ S o ρ' S' sr lr hc post=>by
 obtain⟨⟨u,S1⟩,h1,h2⟩:=Option.bind_eq_some_iff.mp hc
 cases h2
 exact⟨m,ρ,S,u,_,sr,lr,h1,post⟩
def mn(t:CT)(c1 c2:CS):CS:=fun ρ S=>(t ρ S).bind fun p=>if p.1=true then c1 ρ p.2 else c2 ρ p.2
theorem jK{t:CT}{s1 s2:List Stmt}(hc:QT X c t)(h1:QSs X s1 c1)(h2:QSs X s2 c2):QS X (.If c s1 s2 pos) (mn t c1 c2):=(Be hc h1 h2).imp fun D σ H hz=>sE hz fun m ρ S o ρ' S' sr lr hc post=>by
 obtain⟨⟨x,S1⟩,h1,h2⟩:=Option.bind_eq_some_iff.mp hc
 refine⟨m,ρ,S,x,S1,sr,lr,h1,fun m1 H1 e1 sr1=>?_⟩
 cases x with
 |true=>exact C4 ⟨m1,ρ,S1,o,ρ',S',sr1,lr.mono e1,h2,post.mono e1⟩
 |false=>exact C5 ⟨m1,ρ,S1,o,ρ',S',sr1,lr.mono e1,h2,post.mono e1⟩
abbrev CG:=U->Rho->Sto->Option (Rho×Sto)
def tG(K:PySem.W.Frag)(g:CG):TG:=fun v σ H Q=>∃m ρ S u ρ' S',Sr K m S H/\Lr K m H ρ σ/\Is K m H v u/\g u ρ S=some (ρ',S')/\d7 K m H Q ρ' S'
abbrev QG(X:Cx)(e:Expr)(g:CG):Prop:=WG X e (tG X.K g)
def gNm(i:Nat):CG:=fun u ρ S=>some (ρ.set i (some u),S)
theorem bw{i:Nat}(h:WG X e (pE i)):QG X e (gNm i):=h.imp fun v σ H Q hz=>GK hz fun m ρ S u ρ' S' sr lr iu hc post=>by
 cases hc
 exact post m _ H .refl sr (lr.set i iu)
def dh:List Nat->List U->Rho->Option Rho
 |[],[],ρ=>some ρ
 |i::is,u::us,ρ=>dh is us (ρ.set i (some u))
 |_,_,_=>none
def tGs(K:PySem.W.Frag)(is:List Nat):TGs:=fun vs σ H Q=>∃m ρ S us ρ',Sr K m S H/\Lr K m H ρ σ/\IsL K m H vs us/\dh is us ρ=some ρ'/\d7 K m H Q ρ' S
abbrev QGs(X:Cx)(es:List Expr)(is:List Nat):Prop:=WGs X es (tGs X.K is)
theorem qO:QGs X [] []:=uy.imp fun v σ H Q ⟨m,ρ,S,us,ρ',sr,lr,iu,hc,post⟩=>by
 cases us with
 |nil=>cases hc;exact⟨iu.of_nil,post m σ H .refl sr lr⟩
 |cons a r=>simp[dh]at hc
theorem c6{i:Nat}{is:List Nat}{es:List Expr}(h:WG X e (pE i))(h2:QGs X es is)(hs:(assignEach (e::es) X.env).map (·.2)=assign e X.env::(assignEach es X.env).map (·.2):=by rfl):QGs X (e::es) (i::is):=(qd h h2 hs).imp fun v σ H Q ⟨m,ρ,S,us,ρ',sr,lr,iu,hc,post⟩=>by
 cases us with
 |nil=>simp[dh]at hc
 |cons u r=>
  obtain⟨x,xr,rfl,i1,i2⟩:=iu.of_cons
  exact⟨x,xr,rfl,m,ρ.set i (some u),S,r,ρ',sr,lr.set i i1,i2,hc,post⟩
def gTp(is:List Nat):CG:=fun u ρ S=>match u with
 |.tup us=>(dh is us ρ).bind fun ρ'=>some (ρ',S)
 |_=>none
theorem iW:∀{is:List Nat} {us:List U} {ρ ρ':Rho},dh is us ρ=some ρ'->us.length=is.length
 |[],[],_,_,_=>rfl
 |[],_::_,_,_,h=>by simp[dh]at h
 |_::_,[],_,_,h=>by simp[dh]at h
 |i::is,u::us,ρ,ρ',h=>by
  have:=iW (is:=is) (us:=us) h
  simp[this]
theorem xo{is:List Nat}{es:List Expr}{k:Nat}(hc:X.calm=true)(h:QGs X es is)(hn:(assignEach es X.env).length=is.length:=by rfl)(hst:(assignEach es X.env).findIdx? (·.1)=none:=by rfl):QG X (.Tuple es k pos) (gTp is):=(yL hc h hn hst).imp fun v σ H Q hz=>GK hz fun m ρ S u ρ' S' sr lr iu hc post=>by
 cases u with
 |tup us=>
  obtain⟨ρ2,h1,h2⟩:=Option.bind_eq_some_iff.mp hc
  cases h2
  obtain⟨a,xs,rfl,sq,il⟩:=iu.of_tup
  refine⟨a,xs,rfl,sq,?_,m,ρ,S,us,ρ',sr,lr,il,h1,post⟩
  rw[il.length];exact iW h1
 |_=>simp[gTp]at hc
def Dy(ca:CE)(g:CG):CS:=fun ρ S=>(ca ρ S).bind fun p=>(g p.1 ρ p.2).bind fun q=>some (.nx,q.1,q.2)
theorem An{K:PySem.W.Frag}{g:CG}:∀D σ H,tS K (Dy ca g) D σ H->Bv (tE K ca) (tG K g) D σ H:=by
 rintro D σ H ⟨m,ρ,S,o,ρ',S',sr,lr,hc,post⟩
 obtain⟨⟨u,S1⟩,h1,h2⟩:=Option.bind_eq_some_iff.mp hc
 obtain⟨⟨ρ2,S2⟩,h3,h4⟩:=Option.bind_eq_some_iff.mp h2
 cases h4
 exact⟨m,ρ,S,u,S1,sr,lr,h1,fun m1 v1 H1 e1 sr1 i1=>⟨m1,ρ,S1,u,_,_,sr1,lr.mono e1,i1,h3,d7.mono e1 post⟩⟩
theorem BH{tg:Expr}{g:CG}(he:QE X e ca)(hg:QG X tg g)(hs:swapsWithSole [tg] e pos.line X.env=pure false:=by rfl)(hw:swappedStores [tg] e X.env=pure none:=by rfl)
  (h1:(assignEach [tg] X.env).map (·.2)=[assign tg X.env]:=by rfl):QS X (.Assign [tg] e pos) (Dy ca g):=(p9 he hg hs hw h1).imp An
def b6(i:Nat)(ca:CE):CS:=fun ρ S=>(ca ρ S).bind fun p=>some (.nx,ρ.set i (some p.1),p.2)
theorem aK{i:Nat}{x:Str}{pos':Pos}(hN:X.N.Nodup)(hi:X.N[i]?=some x)(hx:Loc X.env.scope x)(he:QE X e ca)(hs:swapsWith e (some (.Name x pos')) pos.line X.env=pure false:=by rfl)(hf:X.fn x=true\/X.env.scope.names.lookup x=some .local:=by first|exact .inl rfl|exact .inr rfl|assumption) :
  QS X (.Assign [.Name x pos'] e pos) (b6 i ca):=(yH hN hi hx he hs hf).imp fun D σ H hz=>sE hz fun m ρ S o ρ' S' sr lr hc post=>by
 obtain⟨⟨u,S1⟩,h1,h2⟩:=Option.bind_eq_some_iff.mp hc
 cases h2
 exact⟨m,ρ,S,u,_,sr,lr,h1,fun m1 v1 H1 e1 sr1 i1=>post m1 _ H1 e1 sr1 ((lr.mono e1).set i i1)⟩
abbrev CI:=Rho->Sto->Option (List U×(Sto->Prop)×Sto)
def wV(K:PySem.W.Frag)(J:It)(m:List Addr)(H:Hp)(us:List U)(ok:Sto->Prop):Prop:=∀m2 S2 H2 i,Ext K m H m2 H2->Sr K m2 S2 H2->ok S2->
 (∀u,us[i]?=some u->J.go i H2/\∀x H3,J.yld i H2 x H3->Ext K m2 H2 m2 H3/\Sr K m2 S2 H3/\Is K m2 H3 x u)/\(us.length<=i->J.stop i H2)
def tI(K:PySem.W.Frag)(ci:CI):TI:=fun σ H R=>∃m ρ S us ok S',Sr K m S H/\Lr K m H ρ σ/\ci ρ S=some (us,ok,S')/\∀m' H' J,Ext K m H m' H'->Sr K m' S' H'->wV K J m' H' us ok->R J H'
abbrev QI(X:Cx)(tg iter:Expr)(ci:CI):Prop:=WI X tg iter (tI X.K ci)
open Classical in
def bX(ok:Sto->Prop)(g:CG)(cb:CS):List U->CS
 |[]=>fun ρ S=>if ok S then some (.nx,ρ,S)else none
 |u::us=>fun ρ S=>if ok S then(g u ρ S).bind fun p=>(cb p.1 p.2).bind fun r=>match r.1 with
  |.nx=>bX ok g cb us r.2.1 r.2.2
  |.ct=>bX ok g cb us r.2.1 r.2.2
  |.bk=>some (.nx,r.2.1,r.2.2)
  |.rt v=>some (.rt v,r.2.1,r.2.2)else none
def iP(ci:CI)(g:CG)(cb:CS):CS:=fun ρ S=>(ci ρ S).bind fun p=>bX p.2.1 g cb p.1 ρ p.2.2
theorem ie{α:Type}{us:List α}{i:Nat}{u:α}(h:us[i]?=some u):us.drop i=u::us.drop (i+1):=by
 obtain⟨hl,e⟩:=List.getElem?_eq_some_iff.mp h
 rw[List.drop_eq_getElem_cons hl,e]
theorem vN{K:PySem.W.Frag}{g:CG}{cb:CS}{J:It}{us:List U}{ok:Sto->Prop}{D:x5}{m1:List Addr}{H1:Hp}{ρ ρ':Rho}{σ:L2.St}{S1 S':Sto}{o:Out}(sr1:Sr K m1 S1 H1)(lr1:Lr K m1 H1 ρ σ)(ito:wV K J m1 H1 us ok)(h2:bX ok g cb us ρ S1=some (o,ρ',S'))(post:pO K m1 H1 D o ρ' S') :
  ∃W:Nat->Nat->L2.St->Hp->Prop,(∃n,W 0 n σ H1)/\∀i n σ H,W i n σ H->
   (J.stop i H/\D.nx σ H)\/(J.go i H/\∃N:L2.St->Hp->Prop,(∀σ' H',N σ' H'->∃n',n'<n/\W (i+1) n' σ' H')/\∀x H',J.yld i H x H'->tG K g x σ H' fun σ2 H2=>tS K cb { D with nx:=N,ct:=N,bk:=D.nx } σ2 H2):=by
 let W:Nat->Nat->L2.St->Hp->Prop:=fun i n σ2 H2=>n=us.length-i/\i<=us.length/\∃m2 ρ2 S2,Ext K m1 H1 m2 H2/\Sr K m2 S2 H2/\Lr K m2 H2 ρ2 σ2/\bX ok g cb (us.drop i) ρ2 S2=some (o,ρ',S')
 refine⟨W,⟨us.length,by simp,Nat.zero_le _,m1,ρ,S1,.refl,sr1,lr1,by simpa using h2⟩,?_⟩
 rintro i n σ2 H2 ⟨rfl,hi,m2,ρ2,S2,e2,sr2,lr2,hl⟩
 by_cases hlt:i<us.length
 ·have hu:=List.getElem?_eq_getElem hlt
  rw[ie hu]at hl
  unfold bX at hl
  split at hl
  ·rename_i hok
   obtain⟨⟨ρ3,S3⟩,h3,hl⟩:=Option.bind_eq_some_iff.mp hl
   obtain⟨⟨o4,ρ4,S4⟩,h4,hl⟩:=Option.bind_eq_some_iff.mp hl
   obtain⟨hgo,hy⟩:=(ito m2 S2 H2 i e2 sr2 hok).1 _ hu
   refine .inr ⟨hgo,W (i+1) (us.length-(i+1)),fun σ' H' w'=>⟨_,by omega,w'⟩,fun x H3 y=>?_⟩
   obtain⟨e3,sr3,ix⟩:=hy x H3 y
   refine⟨m2,ρ2,S2,_,ρ3,S3,sr3,lr2.mono e3,ix,h3,fun m4 σ4 H4 e4 sr4 lr4=>⟨m4,ρ3,S3,o4,ρ4,S4,sr4,lr4,h4,?_⟩⟩
   have e14:=(e2.trans e3).trans e4
   have nxt:bX ok g cb (us.drop (i+1)) ρ4 S4=some (o,ρ',S')->d7 K m4 H4 (W (i+1) (us.length-(i+1))) ρ4 S4:=fun hn m5 σ5 H5 e5 sr5 lr5=>⟨rfl,hlt,m5,ρ4,S4,e14.trans e5,sr5,lr5,hn⟩
   cases o4 with
   |nx=>exact nxt hl
   |ct=>exact nxt hl
   |bk=>cases hl;exact d7.mono e14 post
   |rt v=>cases hl;exact fk.mono e14 post
  ·cases hl
 ·have e:i=us.length:=by omega
  subst e
  rw[List.drop_length]at hl
  unfold bX at hl
  split at hl
  ·rename_i hok
   cases hl
   exact .inl ⟨(ito m2 _ H2 _ e2 sr2 hok).2 (Nat.le_refl _),post m2 σ2 H2 e2 sr2 lr2⟩
  ·cases hl
theorem Aa{K:PySem.W.Frag}{ci:CI}{g:CG}{cb:CS}:∀D σ H,tS K (iP ci g cb) D σ H->E2 (tI K ci) (tG K g) (tS K cb) D σ H:=by
 rintro D σ H ⟨m,ρ,S,o,ρ',S',sr,lr,hc,post⟩
 obtain⟨⟨us,ok,S1⟩,h1,h2⟩:=Option.bind_eq_some_iff.mp hc
 exact⟨m,ρ,S,us,ok,S1,sr,lr,h1,fun m1 H1 J e1 sr1 ito=>vN sr1 (lr.mono e1) ito h2 (pO.mono e1 post)⟩
theorem d9{tg iter:Expr}{body:List Stmt}{ci:CI}{g:CG}{cb:CS}(hp:PassesOwn (model X.prog X.w) X.A X.env X.xe)(hc:X.calm=true)(hi:QI X tg iter ci)(hg:QG X tg g)(hb:QSs X body cb)(hs:∀x,foldedSetIterable iter X.env x=pure x:=by intro _;rfl):QS X (.For tg iter body [] pos) (iP ci g cb):=(yJ hp hc hi hg hb hs).imp Aa
def cI(t:CT)(cb:CS):Nat->CS
 |0=>fun _ _=>none
 |n+1=>fun ρ S=>(t ρ S).bind fun p=>if p.1=true then(cb ρ p.2).bind fun r=>match r.1 with
  |.nx=>cI t cb n r.2.1 r.2.2
  |.ct=>cI t cb n r.2.1 r.2.2
  |.bk=>some (.nx,r.2.1,r.2.2)
  |.rt v=>some (.rt v,r.2.1,r.2.2)else some (.nx,ρ,p.2)
theorem qi{K:PySem.W.Frag}{t:CT}{cb:CS}{n:Nat}:∀D σ H,tS K (cI t cb n) D σ H->qr (tT K t) (tS K cb) D σ H:=by
 rintro D σ H ⟨m,ρ,S,o,ρ',S',sr,lr,hc,post⟩
 let W:Nat->L2.St->Hp->Prop:=fun n σ2 H2=>∃m2 ρ2 S2,Ext K m H m2 H2/\Sr K m2 S2 H2/\Lr K m2 H2 ρ2 σ2/\cI t cb n ρ2 S2=some (o,ρ',S')
 refine⟨W,⟨n,m,ρ,S,.refl,sr,lr,hc⟩,?_⟩
 rintro k σ2 H2 ⟨m2,ρ2,S2,e2,sr2,lr2,hl⟩
 cases k with
 |zero=>cases hl
 |succ k=>
  unfold cI at hl
  obtain⟨⟨x,S3⟩,h3,hl⟩:=Option.bind_eq_some_iff.mp hl
  refine⟨m2,ρ2,S2,x,S3,sr2,lr2,h3,fun m3 H3 e3 sr3=>?_⟩
  have e13:=e2.trans e3
  cases x with
  |true=>
   rw[if_pos rfl]at hl
   refine C4 ?_
   obtain⟨⟨o4,ρ4,S4⟩,h4,hl⟩:=Option.bind_eq_some_iff.mp hl
   refine⟨W k,fun σ' H' w'=>⟨k,Nat.lt_succ_self _,w'⟩,m3,ρ2,S3,o4,ρ4,S4,sr3,lr2.mono e3,h4,?_⟩
   have nxt:cI t cb k ρ4 S4=some (o,ρ',S')->d7 K m3 H3 (W k) ρ4 S4:=fun hn m5 σ5 H5 e5 sr5 lr5=>⟨m5,ρ4,S4,e13.trans e5,sr5,lr5,hn⟩
   cases o4 with
   |nx=>exact nxt hl
   |ct=>exact nxt hl
   |bk=>cases hl;exact d7.mono e13 post
   |rt v=>cases hl;exact fk.mono e13 post
  |false=>
   rw[if_neg Bool.false_ne_true]at hl
   refine C5 ?_
   cases hl
   exact post m3 σ2 H3 e13 sr3 (lr2.mono e3)
theorem uU{body:List Stmt}{t:CT}{cb:CS}(n:Nat)(hp:PassesOwn (model X.prog X.w) X.A X.env X.xe)(hc:QT X c t)(hb:QSs X body cb):QS X (.While c body [] pos) (cI t cb n):=(p8 hp hc hb).imp qi
def iTp(ca:CE):CI:=fun ρ S=>(ca ρ S).bind fun p=>match p.1 with
 |.tup us=>some (us,fun _=>True,p.2)
 |.ref l=>match p.2[l]? with
  |some (.lst us)=>some (us,fun S=>S[l]?=some (.lst us),p.2)
  |_=>none
 |_=>none
theorem C6{K:PySem.W.Frag}{m:List Addr}{H:Hp}{us:List U}{a:Addr}{xs:List V}(sq:SqT K H a xs)(il:IsL K m H xs us):wV K (Itt K a) m H us (fun _=>True):=by
 intro m2 S2 H2 i e2 sr2 _
 have sq2:=e2.keep.t _ _ sq
 have il2:=il.mono e2
 refine⟨fun u hu=>?_,fun hi=>⟨xs,sq2,by rw[il2.length];exact hi⟩⟩
 obtain⟨x,hx,ix⟩:=il2.getD hu
 refine⟨⟨xs,x,sq2,hx⟩,fun y H3 hy=>?_⟩
 obtain⟨rfl,hy⟩:=hy
 have:=hy xs sq2
 rw[hx]at this;cases this
 exact⟨.refl,sr2,ix⟩
theorem C7{K:PySem.W.Frag}{m:List Addr}{H:Hp}{us:List U}{a:Addr}{l:Nat}(hl:m[l]?=some a):wV K (Itl K a) m H us (fun S=>S[l]?=some (.lst us)):=by
 intro m2 S2 H2 i e2 sr2 hok
 obtain⟨a',ha',xs,hx,il⟩:=sr2.get hok
 rw[e2.get hl]at ha'
 cases ha'
 refine⟨fun u hu=>?_,fun hi=>⟨xs,SqL.of hx,by rw[il.length];exact hi⟩⟩
 obtain⟨x,hx',ix⟩:=il.getD hu
 refine⟨⟨xs,x,SqL.of hx,hx'⟩,fun y H3 hy=>?_⟩
 obtain⟨rfl,hy⟩:=hy
 have:=hy xs (SqL.of hx)
 rw[hx']at this;cases this
 exact⟨.refl,sr2,ix⟩
theorem eW{tg:Expr}(h:QE X e ca):QI X tg e (iTp ca):=((yK h).or (ux h)).imp fun σ H R hz=>sE hz fun m ρ S us ok S' sr lr hc post=>by
 obtain⟨⟨u,S1⟩,h1,h2⟩:=Option.bind_eq_some_iff.mp hc
 cases u with
 |tup ws=>
  cases h2
  refine .inl ⟨m,ρ,S,.tup us,_,sr,lr,h1,fun m1 v1 H1 e1 sr1 i1=>?_⟩
  obtain⟨a,xs,rfl,sq,il⟩:=i1.of_tup
  exact⟨a,rfl,⟨xs,sq⟩,post m1 H1 _ e1 sr1 (C6 sq il)⟩
 |ref l=>
  simp only at h2
  split at h2
  ·rename_i us' hS
   cases h2
   refine .inr ⟨m,ρ,S,.ref l,_,sr,lr,h1,fun m1 v1 H1 e1 sr1 i1=>?_⟩
   obtain⟨a,hl,rfl⟩:=i1.of_ref
   obtain⟨a',ha',xs,hx,il⟩:=sr1.get hS
   rw[hl]at ha';cases ha'
   exact⟨a,rfl,⟨xs,SqL.of hx⟩,post m1 H1 _ e1 sr1 (C7 hl)⟩
  ·cases h2
 |_=>simp at h2
def aY(lo:Int)(n:Nat):List U:=(List.range n).map fun i=>.int (lo+(i:Nat))
theorem vX{K:PySem.W.Frag}{m:List Addr}{H:Hp}{lo:Int}{n:Nat}:wV K (Itr lo n) m H (aY lo n) (fun _=>True):=by
 intro m2 S2 H2 i e2 sr2 _
 refine⟨fun u hu=>?_,fun hi=>by show n<=i;simpa [aY] using hi⟩
 unfold aY at hu
 rw[List.getElem?_map]at hu
 by_cases c:i<n
 ·rw[List.getElem?_range c]at hu
  simp at hu
  subst hu
  refine⟨c,fun y H3 hy=>?_⟩
  obtain⟨rfl,rfl⟩:=hy
  exact⟨.refl,sr2,.int_⟩
 ·rw[List.getElem?_eq_none (by simpa using c)]at hu
  cases hu
def bo(cr:CA):CI:=fun ρ S=>(cr ρ S).bind fun p=>match p.1 with
 |[.int j]=>if -(2^62)<=j/\j<2^62 then some (aY 0 j.toNat,fun _=>True,p.2)else none
 |_=>none
theorem cw{tg:Expr}{cr:CA}{p:Pos}(hg:Gl X "range")(hm:X.mg "range"=none)(ha:QA X [a] cr)(hs:starEach [a] X.env=[(false,eval a X.env)]:=by rfl):QI X tg (.Call (.Name "range" p) [a] [] pos) (bo cr):=(oT hg hm ha.h hs).imp fun σ H R hz=>sE hz fun m ρ S us ok S' sr lr hc post=>by
 obtain⟨⟨ws,S1⟩,h1,h2⟩:=Option.bind_eq_some_iff.mp hc
 simp only at h2
 split at h2
 ·rename_i j
  split at h2
  ·rename_i hj
   cases h2
   refine⟨m,ρ,S,_,S',sr,lr,h1,fun m1 v1 H1 e1 sr1 i1=>?_⟩
   obtain⟨x,r,rfl,ix,ir⟩:=i1.of_cons
   rw[ir.of_nil,ix.of_int]
   exact⟨j,rfl,hj.1,hj.2,post m1 H1 _ e1 sr1 vX⟩
  ·cases h2
 ·cases h2
end
def fI(g:Int->Int->Option U):U->U->Sto->Option (U×Sto)
 |.int i,.int j,S=>(g i j).bind fun u=>some (u,S)
 |_,_,_=>none
section
variable{X:Cx}{K:PySem.W.Frag}
theorem Fs{C:Int->Int->Prop}{gV:Int->Int->V}{g:Int->Int->Option U}(h:∀i j u,g i j=some u->C i j/\∀m H,Is K m H (gV i j) u):OpP K (rI C gV) (fI g):=by
 intro m S H x y v w u S' Q sr ix iy hf post
 cases x<;>cases y<;>simp only[fI]at hf<;>try cases hf
 rename_i i j
 obtain⟨u1,h1,h2⟩:=Option.bind_eq_some_iff.mp hf
 cases h2
 obtain⟨hc,hi⟩:=h i j u h1
 exact⟨i,j,ix.of_int,iy.of_int,hc,post m _ H .refl sr (hi m H)⟩
theorem vo{gV:Int->Int->V}{g:Int->Int->Option U}(h:∀i j u,g i j=some u->∀m H,Is K m H (gV i j) u):OpP K (rI0 gV) (fI g):=by
 intro m S H x y v w u S' Q sr ix iy hf post
 cases x<;>cases y<;>simp only[fI]at hf<;>try cases hf
 rename_i i j
 obtain⟨u1,h1,h2⟩:=Option.bind_eq_some_iff.mp hf
 cases h2
 exact⟨i,j,ix.of_int,iy.of_int,post m _ H .refl sr (h i j u h1 m H)⟩
def uT(K:PySem.W.Frag):R2:=fun x y H Q=>∃a b xs ys,x=.ref a/\y=.ref b/\SqT K H a xs/\SqT K H b ys/\xs.length+ys.length<=sizeLine/\∀q H',pN H H'->SqT K H' q (xs++ys)->Q (.ref q) H'
theorem zK:OpR X (binaryOp .Add) (uT X.K):=by
 intro pins s σ H x y v u Q I rx ry h
 obtain⟨a,b,xs,ys,rfl,rfl,ha,hb,hz,q⟩:=h
 by_cases e:xs=[]
 ·cases rx
  cases ry
  obtain⟨its,r1,p1,_⟩:=I.tuple ha
  obtain⟨its2,r2,p2,_⟩:=I.tuple hb
  refine wA p1 p2 (r1.nil_iff.mpr e) ⟨.ref b,H,I,rfl,q b H (.refl _) (by rw[e];exact hb)⟩
 ·refine zJ pins s σ H _ _ v u Q I rx ry ⟨a,b,xs,ys,rfl,rfl,ha,hb,e,hz,fun z=>q a H (.refl _) (by rw[z,List.append_nil];exact ha),fun _ p hp=>q p _ (eR hp _) (SqT.of aH)⟩
def sA:U->U->Sto->Option (U×Sto)
 |.tup a,.tup b,S=>if a.length+b.length<=LIM then some (.tup (a++b),S)else none
 |_,_,_=>none
theorem vm:OpP K (uT K) sA:=by
 intro m S H x y v w u S' Q sr ix iy hf post
 cases x<;>cases y<;>simp only[sA]at hf<;>try cases hf
 split at hf<;>try cases hf
 rename_i hl
 obtain⟨a,xs,rfl,sa,la⟩:=ix.of_tup
 obtain⟨b,ys,rfl,sb,lb⟩:=iy.of_tup
 refine⟨a,b,xs,ys,rfl,rfl,sa,sb,lim (by rw[la.length,lb.length];exact hl),fun q H' s sq=>?_⟩
 exact post m _ H' (.of (bP s)) (sr.same s) (.tup_ sq ((la.append lb).mono (.of (bP s))))
def ke:U->U->Sto->Option (U×Sto)
 |.ref l,.ref k,S=>match S[l]?,S[k]? with
  |some (.lst a),some (.lst b)=>if a.length+b.length<=LIM then some (.ref S.length,S++[.lst (a++b)])else none
  |_,_=>none
 |_,_,_=>none
theorem vv:OpP K DR ke:=by
 intro m S H x y v w u S' Q sr ix iy hf post
 cases x<;>cases y<;>simp only[ke]at hf<;>try cases hf
 rename_i l k
 split at hf<;>try cases hf
 rename_i a b h1 h2
 split at hf<;>try cases hf
 rename_i hl
 obtain⟨p,hp,rfl⟩:=ix.of_ref
 obtain⟨q,hq,rfl⟩:=iy.of_ref
 obtain⟨p',hp',xs,hx,il⟩:=sr.get h1
 obtain⟨q',hq',ys,hy,il'⟩:=sr.get h2
 rw[hp]at hp';cases hp'
 rw[hq]at hq';cases hq'
 exact⟨p,q,xs,ys,rfl,rfl,hx,hy,lim (by rw[il.length,il'.length];exact hl),fun r hr=>bC sr (il.append il') post hr⟩
def sC:U->U->Sto->Option (U×Sto)
 |.str a,.str b,S=>if a.length+b.length<=LIM then some (.str (a++b),S)else none
 |_,_,_=>none
theorem vn:OpP K (fun x y H Q=>∃i j,x=.str i/\y=.str j/\i.length+j.length<=sizeLine/\Q (.str (i++j)) H) sC:=by
 intro m S H x y v w u S' Q sr ix iy hf post
 cases x<;>cases y<;>simp only[sC]at hf<;>try cases hf
 split at hf<;>try cases hf
 rename_i hl
 exact⟨_,_,ix.of_str,iy.of_str,lim hl,post m _ H .refl sr .str_⟩
def cS:U->U->Sto->Option (U×Sto)
 |.int i,.int j,S=>some (.int (i+j),S)
 |.tup a,.tup b,S=>if a.length+b.length<=LIM then some (.tup (a++b),S)else none
 |.str a,.str b,S=>if a.length+b.length<=LIM then some (.str (a++b),S)else none
 |.ref l,.ref k,S=>ke (.ref l) (.ref k) S
 |_,_,_=>none
theorem dG:OpR X (binaryOp .Add) (fun x y H Q=>rI0 (fun i j=>.int (i+j)) x y H Q\/(DR x y H Q\/(uT X.K x y H Q\/∃i j,x=.str i/\y=.str j/\i.length+j.length<=sizeLine/\Q (.str (i++j)) H))):=Cu.or (Cr.or (zK.or pq))
theorem dF:OpP K (fun x y H Q=>rI0 (fun i j=>.int (i+j)) x y H Q\/(DR x y H Q\/(uT K x y H Q\/∃i j,x=.str i/\y=.str j/\i.length+j.length<=sizeLine/\Q (.str (i++j)) H))) cS:=by
 intro m S H x y v w u S' Q sr ix iy hf post
 cases x<;>cases y<;>simp only[cS]at hf<;>try cases hf
 ·exact .inl ⟨_,_,ix.of_int,iy.of_int,post m _ H .refl sr .int_⟩
 ·exact .inr (.inr (.inr (vn m S H _ _ v w u S' Q sr ix iy hf post)))
 ·exact .inr (.inr (.inl (vm m S H _ _ v w u S' Q sr ix iy hf post)))
 ·exact .inr (.inl (vv m S H _ _ v w u S' Q sr ix iy hf post))
def xP:=fI fun i j=>some (.int (i-j))
theorem Cn:OpP K (rI0 fun i j=>.int (i-j)) xP:=vo fun i j u h m H=>by cases h;exact .int_
instance {i j:Int}:Decidable (x8 i j):=by unfold x8;exact inferInstance
def gq:=fI fun i j=>if x8 i j then some (.int (i*j))else none
theorem jQ:OpP K (rI x8 fun i j=>.int (i*j)) gq:=Fs fun i j u h=>by
 split at h
 ·rename_i c;cases h;exact⟨c,fun m H=>.int_⟩
 ·cases h
instance {i j:Int}:Decidable (pQ i j):=by unfold pQ;exact inferInstance
def xQ:=fI fun i j=>if pQ i j then some (.int (i / j))else none
theorem Cp:OpP K (rI pQ fun i j=>.int (i / j)) xQ:=Fs fun i j u h=>by
 split at h
 ·rename_i c;cases h;exact⟨c,fun m H=>.int_⟩
 ·cases h
def pG:=fI fun i j=>if 0<j then some (.int (i % j))else none
theorem vt:OpP K (rI (fun _ j=>0<j) fun i j=>.int (i % j)) pG:=Fs fun i j u h=>by
 split at h
 ·rename_i c;cases h;exact⟨c,fun m H=>.int_⟩
 ·cases h
instance {i j:Int}:Decidable (GP i j):=by unfold GP;exact inferInstance
def fLt:=fI fun i j=>some (.bl (decide (i<j)))
def fLe:=fI fun i j=>some (.bl (decide (i<=j)))
def fGt:=fI fun i j=>some (.bl (decide (j<i)))
def fGe:=fI fun i j=>some (.bl (decide (j<=i)))
theorem DV:OpP K (rI0 fun i j=>.bl (decide (i<j))) fLt:=vo fun i j u h m H=>by cases h;exact .bl_
theorem Hi:OpP K (rI0 fun i j=>.bl (decide (j<i))) fGt:=vo fun i j u h m H=>by cases h;exact .bl_
theorem Gs:OpP K (rI0 fun i j=>.bl (decide (j<=i))) fGe:=vo fun i j u h m H=>by cases h;exact .bl_
def eqS:U->U->Option Bool
 |.int i,.int j=>some (decide (i=j))
 |.bl i,.bl j=>some (decide (i=j))
 |.str i,.str j=>some (decide (i=j))
 |.non,.non=>some true
 |.non,.int _=>some false|.int _,.non=>some false
 |.non,.bl _=>some false|.bl _,.non=>some false
 |.non,.str _=>some false|.str _,.non=>some false
 |.int _,.str _=>some false|.str _,.int _=>some false
 |.bl _,.str _=>some false|.str _,.bl _=>some false
 |_,_=>none
def fEq:U->U->Sto->Option (U×Sto):=fun x y S=>(eqS x y).bind fun b=>some (.bl b,S)
def fNe:U->U->Sto->Option (U×Sto):=fun x y S=>(eqS x y).bind fun b=>some (.bl (!b),S)
theorem xS{m:List Addr}{H:Hp}{x y:U}{v w:V}{b:Bool}(ix:Is K m H v x)(iy:Is K m H w y)(h:eqS x y=some b):E5 v w=true/\decide (v=w)=b:=by
 cases x<;>cases y<;>simp only[eqS]at h<;>(first|cases h|skip)
 all_goals
  (first|(have e1:=ix.of_int)|(have e1:=ix.of_bl)|(have e1:=ix.of_str)|(have e1:=ix.of_non))
  (first|(have e2:=iy.of_int)|(have e2:=iy.of_bl)|(have e2:=iy.of_str)|(have e2:=iy.of_non))
  subst e1 e2
  exact⟨rfl,by simp⟩
theorem DW:OpP K rEq fEq:=by
 intro m S H x y v w u S' Q sr ix iy hf post
 obtain⟨b,h1,h2⟩:=Option.bind_eq_some_iff.mp hf
 cases h2
 obtain⟨e1,e2⟩:=xS ix iy h1
 exact⟨e1,by rw[e2];exact post m _ H .refl sr .bl_⟩
theorem DU:OpP K rNe fNe:=by
 intro m S H x y v w u S' Q sr ix iy hf post
 obtain⟨b,h1,h2⟩:=Option.bind_eq_some_iff.mp hf
 cases h2
 obtain⟨e1,e2⟩:=xS ix iy h1
 exact⟨e1,by rw[e2];exact post m _ H .refl sr .bl_⟩
def FX:U->Bool
 |.non=>true
 |_=>false
def Ht:U->U->Sto->Option (U×Sto)
 |x,.non,S=>some (.bl (FX x),S)
 |_,_,_=>none
section
variable{κ:Type}[DecidableEq κ]
def fq{α:Type}(kvs:List (κ×α))(k:κ):Option α:=(kvs.find? fun kv=>decide (kv.1=k)).map (·.2)
def f6{α:Type}(kvs:List (κ×α))(k:κ)(v:α):List (κ×α):=
 if (kvs.any fun kv=>decide (kv.1=k))=true then kvs.map (fun kv=>if kv.1=k then(kv.1,v)else kv)else kvs++[(k,v)]
variable{m:List Addr}{H:Hp}{kvs:List (κ×V)}{kus:List (κ×U)}{k:κ}{v:V}{u:U}
theorem IsP.val(h:IsP K m H kvs kus):Rf K m H (iK kvs k) (fq kus k):=by
 refine IsP.ind (P:=fun kvs kus=>Rf K m H (iK kvs k) (fq kus k)) trivial (fun k' v u kvs kus i _ ih=>?_) h
 by_cases e:k'=k
 ·subst e
  simp[iK,fq,List.find?_cons,Rf,i]
 ·simp only[iK,fq,List.find?_cons,decide_eq_false e]at ih ⊢
  exact ih
theorem IsP.any_(h:IsP K m H kvs kus):(kvs.any fun kv=>decide (kv.1=k))=(kus.any fun kv=>decide (kv.1=k)):=
 IsP.ind (P:=fun kvs kus=>(kvs.any fun kv=>decide (kv.1=k))=(kus.any fun kv=>decide (kv.1=k))) rfl (fun k' v u kvs kus i _ ih=>by simp only[List.any_cons,ih]) h
theorem IsP.append{kvs':List (κ×V)}{kus':List (κ×U)}(h:IsP K m H kvs kus)(h':IsP K m H kvs' kus'):IsP K m H (kvs++kvs') (kus++kus'):=⟨by simp[h.1,h'.1],by simpa using h.2.append h'.2⟩
theorem IsP.put(h:IsP K m H kvs kus)(i:Is K m H v u):IsP K m H (mj kvs k v) (f6 kus k u):=by
 unfold mj f6
 rw[h.any_]
 split
 ·refine IsP.ind (P:=fun kvs kus=>IsP K m H (kvs.map fun kv=>if kv.1=k then(kv.1,v)else kv) (kus.map fun kv=>if kv.1=k then(kv.1,u)else kv)) .nil_ (fun k' v' u' kvs kus i' _ ih=>?_) h
  simp only[List.map_cons]
  by_cases e:k'=k
  ·simp only[e,if_true];exact .cons_ i ih
  ·simp only[e,if_false];exact .cons_ i' ih
 ·exact h.append (.cons_ i .nil_)
end
def gh:U->Option Key
 |.int i=>some (.inl i)
 |.str x=>some (.inr x)
 |_=>none
theorem fH{m:List Addr}{H:Hp}{x:U}{v:V}{k:Key}(ix:Is K m H v x)(h:gh x=some k):v=kV k:=by
 cases x<;>simp only[gh]at h<;>cases h
 ·exact ix.of_int
 ·exact ix.of_str
def eC:U->Bool
 |.non=>true|.bl _=>true|.int _=>true|.str _=>true|_=>false
def eqF:U->U->Bool
 |.non,.non=>true
 |.bl a,.bl b=>a == b
 |.bl a,.int b=>(if a then 1 else 0) == b
 |.int a,.bl b=>a == (if b then 1 else 0)
 |.int a,.int b=>a == b
 |.str a,.str b=>a == b
 |_,_=>false
def inU(x:U)(us:List U):Bool:=us.any fun y=>eqF y x
theorem mO{m:List Addr}{H:Hp}{x:U}{v:V}(ix:Is K m H v x)(h:eC x=true):iM v=true:=by
 cases x with
 |non=>rw[ix.of_non];rfl
 |bl b=>rw[ix.of_bl];rfl
 |int i=>rw[ix.of_int];rfl
 |str i=>rw[ix.of_str];rfl
 |tup us=>cases h
 |ref l=>cases h
 |kl l=>cases h
theorem Dq{m:List Addr}{H:Hp}{x y:U}{v w:V}(ix:Is K m H v x)(iy:Is K m H w y)(hx:eC x=true)(hy:eC y=true):eqV v w=eqF x y:=by
 cases x<;>(first|cases hx|skip)<;>cases y<;>(first|cases hy|skip)
 all_goals
  (first|(have e1:=ix.of_int)|(have e1:=ix.of_bl)|(have e1:=ix.of_str)|(have e1:=ix.of_non))
  (first|(have e2:=iy.of_int)|(have e2:=iy.of_bl)|(have e2:=iy.of_str)|(have e2:=iy.of_non))
  subst e1 e2
  rfl
theorem j9{m:List Addr}{H:Hp}:∀{xs:List V} {us:List U},IsL K m H xs us->us.all eC=true->xs.all iM=true
 |xs,[],h,_=>by rw[h.of_nil];rfl
 |xs,u::us,h,k=>by
  obtain⟨x,r,rfl,i,t⟩:=h.of_cons
  rw[List.all_cons,Bool.and_eq_true]at k ⊢
  exact⟨mO i k.1,j9 t k.2⟩
theorem sh{m:List Addr}{H:Hp}{x:U}{v:V}(ix:Is K m H v x)(hx:eC x=true):∀{xs:List V} {us:List U},IsL K m H xs us->us.all eC=true->inV v xs=inU x us
 |xs,[],h,_=>by rw[h.of_nil];rfl
 |xs,u::us,h,k=>by
  obtain⟨y,r,rfl,i,t⟩:=h.of_cons
  rw[List.all_cons,Bool.and_eq_true]at k
  have ih:=sh ix hx t k.2
  unfold inV inU at ih ⊢
  rw[List.any_cons,List.any_cons,ih,Dq i ix k.1 hx]
theorem _root_.L2.DGet.kz{H:Hp}{a:Addr}{ob:Obj}{kvs:List (Key×V)}{k:Key}(e:H a=some (.frz ob (.dK kvs))):DGet H a (kV k) (iK kvs k):=.inl ⟨kvs,k,.inr ⟨ob,e⟩,rfl,rfl⟩
def fIn(neg:Bool):U->U->Sto->Option (U×Sto):=fun x y S=>match y with
 |.tup us=>if eC x=true/\us.all eC=true then some (.bl (if neg then !inU x us else inU x us),S)else none
 |.ref l=>match S[l]? with
  |some (.lst us)=>if eC x=true/\us.all eC=true then some (.bl (if neg then !inU x us else inU x us),S)else none
  |some (.dic kus)=>(gh x).bind fun k=>some (.bl (if neg then !(fq kus k).isSome else(fq kus k).isSome),S)
  |some (.fdc ep kus)=>(gh x).bind fun k=>some (.bl (if neg then !(fq kus k).isSome else(fq kus k).isSome),S)
  |_=>none
 |_=>none
theorem Rf.isSome{m:List Addr}{H:Hp}{v:Option V}{u:Option U}(h:Rf K m H v u):v.isSome=u.isSome:=by
 cases v<;>cases u<;>first|rfl|exact h.elim
theorem C9{ca cb:CE}{neg:Bool}(t2:TE->TE->TE)(h2:∀ta tb σ H Q,(ta σ H fun y H1=>tb σ H1 fun x H2=>∃a o,x=.ref a/\DGet H2 a y o/\Q (.bl (if neg then !o.isSome else o.isSome)) H2)->t2 ta tb σ H Q):∀σ H Q,tE K (cOp (fIn neg) ca cb) σ H Q->tOp (rIn K neg) (tE K ca) (tE K cb) σ H Q\/t2 (tE K ca) (tE K cb) σ H Q:=by
 rintro σ H Q ⟨m,ρ,S,u,S',sr,lr,hc,post⟩
 obtain⟨⟨x,S1⟩,h1,h⟩:=Option.bind_eq_some_iff.mp hc
 obtain⟨⟨y,S2⟩,h3,h4⟩:=Option.bind_eq_some_iff.mp h
 cases y with
 |tup us=>
  simp only[fIn]at h4
  split at h4<;>try cases h4
  rename_i hf
  refine .inl ⟨m,ρ,S,x,S1,sr,lr,h1,fun m1 v1 H1 e1 sr1 i1=>⟨m1,ρ,S1,.tup us,S',sr1,lr.mono e1,h3,fun m2 v2 H2 e2 sr2 i2=>?_⟩⟩
  obtain⟨a,xs,rfl,sa,la⟩:=i2.of_tup
  refine⟨a,xs,rfl,.inr sa,mO (i1.mono e2) hf.1,j9 la hf.2,?_⟩
  rw[sh (i1.mono e2) hf.1 la hf.2]
  exact post m2 _ H2 (e1.trans e2) sr2 .bl_
 |ref l=>
  simp only[fIn]at h4
  split at h4<;>try cases h4
  ·rename_i us hS
   split at h4<;>try cases h4
   rename_i hf
   refine .inl ⟨m,ρ,S,x,S1,sr,lr,h1,fun m1 v1 H1 e1 sr1 i1=>⟨m1,ρ,S1,.ref l,S',sr1,lr.mono e1,h3,fun m2 v2 H2 e2 sr2 i2=>?_⟩⟩
   obtain⟨a,ha,rfl⟩:=i2.of_ref
   obtain⟨a',ha',xs,hx,la⟩:=sr2.get hS
   rw[ha]at ha';cases ha'
   refine⟨a,xs,rfl,.inl (SqL.of hx),mO (i1.mono e2) hf.1,j9 la hf.2,?_⟩
   rw[sh (i1.mono e2) hf.1 la hf.2]
   exact post m2 _ H2 (e1.trans e2) sr2 .bl_
  ·rename_i kus hS
   obtain⟨k,hk,h5⟩:=Option.bind_eq_some_iff.mp h4
   cases h5
   refine .inr (h2 _ _ _ _ _ ⟨m,ρ,S,x,S1,sr,lr,h1,fun m1 v1 H1 e1 sr1 i1=>⟨m1,ρ,S1,.ref l,S',sr1,lr.mono e1,h3,fun m2 v2 H2 e2 sr2 i2=>?_⟩⟩)
   obtain⟨a,ha,rfl⟩:=i2.of_ref
   obtain⟨a',ha',kvs,hx,ip⟩:=sr2.get hS
   rw[ha]at ha';cases ha'
   have ek:=fH (i1.mono e2) hk
   subst ek
   refine⟨a,_,rfl,DGet.k hx,?_⟩
   rw[(IsP.val ip).isSome]
   exact post m2 _ H2 (e1.trans e2) sr2 .bl_
  ·rename_i ep kus hS
   obtain⟨k,hk,h5⟩:=Option.bind_eq_some_iff.mp h4
   cases h5
   refine .inr (h2 _ _ _ _ _ ⟨m,ρ,S,x,S1,sr,lr,h1,fun m1 v1 H1 e1 sr1 i1=>⟨m1,ρ,S1,.ref l,S',sr1,lr.mono e1,h3,fun m2 v2 H2 e2 sr2 i2=>?_⟩⟩)
   obtain⟨a,ha,rfl⟩:=i2.of_ref
   obtain⟨a',ha',ob,es,kvs,hx,hd,ip⟩:=sr2.get hS
   rw[ha]at ha';cases ha'
   have ek:=fH (i1.mono e2) hk
   subst ek
   refine⟨a,_,rfl,DGet.kz hx,?_⟩
   rw[(IsP.val ip).isSome]
   exact post m2 _ H2 (e1.trans e2) sr2 .bl_
 |_=>simp[fIn]at h4
variable{e a b c:Expr}{ca cb cc:CE}{pos:Pos}
theorem Fb(hu:X.A.units+1<cLine)(ha:QE X a ca)(hb:QE X b cb)(hm:behindInMarks .In b=false):QT X (.Compare a [.In] [b] pos) (aN (cOp (fIn false) ca cb)):=
 ((nk rk ha hb hm).or (yG (yS hu ha hb) hm)).imp (jB (C9 (neg:=false) E3 fun _ _ _ _ _ h=>h))
def fIx:U->U->Sto->Option (U×Sto):=fun x y S=>match x with
 |.tup us=>match y with
  |.int i=>(atI us i).bind fun u=>some (u,S)
  |_=>none
 |.ref l=>match S[l]? with
  |some (.lst us)=>(match y with
   |.int i=>(atI us i).bind fun u=>some (u,S)
   |_=>none)
  |some (.dic kus)=>(gh y).bind fun k=>(fq kus k).bind fun u=>some (u,S)
  |some (.fdc ep kus)=>(gh y).bind fun k=>(fq kus k).bind fun u=>some (u,S)
  |_=>none
 |.kl ns=>match y with
  |.int i=>(atI (ns.map U.int) i).bind fun u=>some (u,S)
  |_=>none
 |_=>none
theorem oA{K:PySem.W.Frag}{m:List Addr}{H:Hp}:∀ns:List Int,IsL K m H (ns.map V.int) (ns.map U.int)
 |[]=>.nil_
 |n::ns=>.cons_ .int_ (oA ns)
theorem tH{m:List Addr}{H:Hp}{xs:List V}{us:List U}{i:Int}{u:U}(l:IsL K m H xs us)(h:atI us i=some u):∃v,atI xs i=some v/\Is K m H v u:=by
 unfold atI at h ⊢
 rw[l.length]
 obtain⟨j,e1,e2⟩:=Option.bind_eq_some_iff.mp h
 rw[e1]
 obtain⟨v,e3,e4⟩:=l.getD e2
 exact⟨v,e3,e4⟩
theorem fY(hu:X.A.units+1<cLine)(ha:QE X a ca)(hb:QE X b cb)(hs:m9 b)(hs2:Aw b):QE X (.Subscript a b pos) (cOp fIx ca cb):=
 ((Bh (zV.or C3) ha hb hs).or (uz hu ha hb hs2)).imp fun σ H Q hz=>fU hz fun m ρ S u S' sr lr hc post=>by
 obtain⟨⟨x,S1⟩,h1,h⟩:=Option.bind_eq_some_iff.mp hc
 obtain⟨⟨y,S2⟩,h3,h4⟩:=Option.bind_eq_some_iff.mp h
 cases x with
 |tup us=>
  simp only[fIx]at h4
  split at h4<;>try cases h4
  rename_i i
  obtain⟨w,hw,h5⟩:=Option.bind_eq_some_iff.mp h4
  cases h5
  refine .inl ⟨m,ρ,S,_,S1,sr,lr,h1,fun m1 v1 H1 e1 sr1 i1=>⟨m1,ρ,S1,_,S',sr1,lr.mono e1,h3,fun m2 v2 H2 e2 sr2 i2=>.inr ?_⟩⟩
  obtain⟨a,xs,rfl,sa,la⟩:=(i1.mono e2).of_tup
  obtain⟨z,ez,iz⟩:=tH la hw
  exact⟨a,xs,i,z,rfl,i2.of_int,sa,ez,post m2 _ H2 (e1.trans e2) sr2 iz⟩
 |ref l=>
  simp only[fIx]at h4
  split at h4<;>try cases h4
  ·rename_i us hS
   split at h4<;>try cases h4
   rename_i i
   obtain⟨w,hw,h5⟩:=Option.bind_eq_some_iff.mp h4
   cases h5
   refine .inl ⟨m,ρ,S,_,S1,sr,lr,h1,fun m1 v1 H1 e1 sr1 i1=>⟨m1,ρ,S1,_,S',sr1,lr.mono e1,h3,fun m2 v2 H2 e2 sr2 i2=>.inl ?_⟩⟩
   obtain⟨a,ha,rfl⟩:=(i1.mono e2).of_ref
   obtain⟨a',ha',xs,hx,la⟩:=sr2.get hS
   rw[ha]at ha';cases ha'
   obtain⟨z,ez,iz⟩:=tH la hw
   exact⟨a,xs,i,z,rfl,i2.of_int,SqL.of hx,ez,post m2 _ H2 (e1.trans e2) sr2 iz⟩
  ·rename_i kus hS
   obtain⟨k,hk,h5⟩:=Option.bind_eq_some_iff.mp h4
   obtain⟨w,hw,h6⟩:=Option.bind_eq_some_iff.mp h5
   cases h6
   refine .inr ⟨m,ρ,S,_,S1,sr,lr,h1,fun m1 v1 H1 e1 sr1 i1=>⟨m1,ρ,S1,_,S',sr1,lr.mono e1,h3,fun m2 v2 H2 e2 sr2 i2=>?_⟩⟩
   obtain⟨a,ha,rfl⟩:=(i1.mono e2).of_ref
   obtain⟨a',ha',kvs,hx,ip⟩:=sr2.get hS
   rw[ha]at ha';cases ha'
   have ek:=fH i2 hk
   subst ek
   have rf:=IsP.val (k:=k) ip
   rw[hw]at rf
   cases hv:iK kvs k with
   |none=>rw[hv]at rf;exact rf.elim
   |some z=>
    rw[hv]at rf
    exact⟨a,z,rfl,by have:=DGet.k (k:=k) hx;rw[hv]at this;exact this,post m2 _ H2 (e1.trans e2) sr2 rf⟩
  ·rename_i ep kus hS
   obtain⟨k,hk,h5⟩:=Option.bind_eq_some_iff.mp h4
   obtain⟨w,hw,h6⟩:=Option.bind_eq_some_iff.mp h5
   cases h6
   refine .inr ⟨m,ρ,S,_,S1,sr,lr,h1,fun m1 v1 H1 e1 sr1 i1=>⟨m1,ρ,S1,_,S',sr1,lr.mono e1,h3,fun m2 v2 H2 e2 sr2 i2=>?_⟩⟩
   obtain⟨a,ha,rfl⟩:=(i1.mono e2).of_ref
   obtain⟨a',ha',ob,es,kvs,hx,hd,ip⟩:=sr2.get hS
   rw[ha]at ha';cases ha'
   have ek:=fH i2 hk
   subst ek
   have rf:=IsP.val (k:=k) ip
   rw[hw]at rf
   cases hv:iK kvs k with
   |none=>rw[hv]at rf;exact rf.elim
   |some z=>
    rw[hv]at rf
    exact⟨a,z,rfl,by have:=DGet.kz (k:=k) hx;rw[hv]at this;exact this,post m2 _ H2 (e1.trans e2) sr2 rf⟩
 |kl ns=>
  simp only[fIx]at h4
  split at h4<;>try cases h4
  rename_i i
  obtain⟨w,hw,h5⟩:=Option.bind_eq_some_iff.mp h4
  cases h5
  refine .inl ⟨m,ρ,S,_,S1,sr,lr,h1,fun m1 v1 H1 e1 sr1 i1=>⟨m1,ρ,S1,_,S',sr1,lr.mono e1,h3,fun m2 v2 H2 e2 sr2 i2=>.inl ?_⟩⟩
  obtain⟨a,rfl,ka⟩:=(i1.mono e2).of_kl
  obtain⟨z,ez,iz⟩:=tH (oA (K:=X.K) (m:=m2) (H:=H2) ns) hw
  exact⟨a,_,i,z,rfl,i2.of_int,ka.sq,ez,post m2 _ H2 (e1.trans e2) sr2 iz⟩
 |_=>simp[fIx]at h4
def hE:U->U->U->Sto->Option Sto:=fun o i v S=>match o with
 |.ref l=>match S[l]? with
  |some (.lst us)=>(match i with
   |.int k=>(ixN us.length k).bind fun j=>some (S.set l (.lst (us.set j v)))
   |_=>none)
  |some (.dic kus)=>(gh i).bind fun k=>if kus.length<LIM then some (S.set l (.dic (f6 kus k v)))else none
  |_=>none
 |_=>none
def sZ(co ci cv:CE):CS:=fun ρ S=>(cv ρ S).bind fun p=>(co ρ p.2).bind fun q=>(ci ρ q.2).bind fun r=>(hE q.1 r.1 p.1 r.2).bind fun S'=>some (.nx,ρ,S')
theorem uV{o i:Expr}{co ci cv:CE}{pos':Pos}(hu:X.A.units+1<cLine)(ho:QE X o co)(hi:QE X i ci)(hv:QE X e cv)
  (hs0:swapsWithSole [.Subscript o i pos'] e pos.line X.env=pure false:=by rfl) (hw:swappedStores [.Subscript o i pos'] e X.env=pure none:=by rfl)
  (h1:(assignEach [.Subscript o i pos'] X.env).map (·.2)=[assign (.Subscript o i pos') X.env]:=by rfl)
  (hs:swapsWith e (some (.Subscript o i pos')) pos.line X.env=pure false:=by rfl)
  (ha:∀v,assign (.Subscript o i pos') X.env v=(do
   let ov <-holding [v] (eval o X.env)
   let iv <-holding [v,ov] (eval i X.env)
   standAt pos'
   holding [v,ov,iv] (setItem ov iv v)
   release [v,ov,iv] []):=by intro _;rfl):QS X (.Assign [.Subscript o i pos'] e pos) (sZ co ci cv):=
 ((p9 hv (yM ho hi jE ha) hs0 hw h1).or (nq hu ho hi hv hs)).imp fun D σ H hz=>sE hz fun m ρ S o ρ' S' sr lr hc post=>by
 obtain⟨⟨v,S1⟩,h1,h⟩:=Option.bind_eq_some_iff.mp hc
 obtain⟨⟨ou,S2⟩,h2,h⟩:=Option.bind_eq_some_iff.mp h
 obtain⟨⟨iu,S3⟩,h3,h⟩:=Option.bind_eq_some_iff.mp h
 obtain⟨S4,h4,h⟩:=Option.bind_eq_some_iff.mp h
 cases h
 cases ou with
 |ref l=>
  simp only[hE]at h4
  split at h4<;>try cases h4
  ·rename_i us hS
   split at h4<;>try cases h4
   rename_i k
   obtain⟨j,hj,h5⟩:=Option.bind_eq_some_iff.mp h4
   cases h5
   refine .inl ⟨m,ρ,S,v,S1,sr,lr,h1,fun m1 v1 H1 e1 sr1 i1=>⟨m1,ρ,S1,_,S2,sr1,lr.mono e1,h2,fun m2 v2 H2 e2 sr2 i2=>⟨m2,ρ,S2,_,S3,sr2,lr.mono (e1.trans e2),h3,fun m3 v3 H3 e3 sr3 i3=>?_⟩⟩⟩
   obtain⟨a,ha,rfl⟩:=(i2.mono e3).of_ref
   obtain⟨a',ha',xs,hx,la⟩:=sr3.get hS
   rw[ha]at ha';cases ha'
   have e13:=(e1.trans e2).trans e3
   have ek:Ext X.K m3 H3 m3 (upd H3 a (.lst (xs.set j v1))):=.of (sr3.keep ha _)
   refine⟨a,xs,k,j,rfl,i3.of_int,hx,by rw[la.length];exact hj,post m3 σ _ (e13.trans ek) (sr3.put ha ⟨_,aH,((la.set (i1.mono (e2.trans e3)))).mono ek⟩) (lr.mono (e13.trans ek))⟩
  ·rename_i kus hS
   obtain⟨k,hk,h5⟩:=Option.bind_eq_some_iff.mp h4
   split at h5<;>try cases h5
   have hlen:kus.length<LIM:=by assumption
   refine .inr ⟨m,ρ,S,v,S1,sr,lr,h1,fun m1 v1 H1 e1 sr1 i1=>⟨m1,ρ,S1,_,S2,sr1,lr.mono e1,h2,fun m2 v2 H2 e2 sr2 i2=>⟨m2,ρ,S2,_,S3,sr2,lr.mono (e1.trans e2),h3,fun m3 v3 H3 e3 sr3 i3=>?_⟩⟩⟩
   obtain⟨a,ha,rfl⟩:=(i2.mono e3).of_ref
   obtain⟨a',ha',kvs,hx,ip⟩:=sr3.get hS
   rw[ha]at ha';cases ha'
   have ek:=fH i3 hk
   subst ek
   have e13:=(e1.trans e2).trans e3
   have ee:Ext X.K m3 H3 m3 (upd H3 a (.dK (mj kvs k v1))):=.of (sr3.keep ha _)
   exact⟨a,_,rfl,x6.k hx (CK (by rw[IsP.length ip];exact hlen)),post m3 σ _ (e13.trans ee) (sr3.put ha ⟨_,aH,(IsP.put ip (i1.mono (e2.trans e3))).mono ee⟩) (lr.mono (e13.trans ee))⟩
 |_=>simp[hE]at h4
end
section
variable{X:Cx}{K:PySem.W.Frag}{m:List Addr}{H:Hp}{c:Cl}{fs:List (Str×V)}{fus:List (Option U)}
open Classical in
def F2(c:Cl)(i:Nat)(x:U)(S:Sto):Option (U×Sto):=match x with
 |.ref l=>match S[l]? with
  |some (.ins c' fus)=>if c'=c then(fus[i]?).join.bind fun u=>some (u,S)else none
  |_=>none
 |_=>none
def Hn(c:Cl)(i:Nat)(ca:CE):CE:=fun ρ S=>(ca ρ S).bind fun p=>F2 c i p.1 p.2
open Classical in
def Ac(c:Cl)(i:Nat)(x v:U)(S:Sto):Option Sto:=match x with
 |.ref l=>match S[l]? with
  |some (.ins c' fus)=>if c'=c then some (S.set l (.ins c (fus.set i (some v))))else none
  |_=>none
 |_=>none
def F7(c:Cl)(i:Nat)(ca cv:CE):CS:=fun ρ S=>(cv ρ S).bind fun p=>(ca ρ p.2).bind fun q=>(Ac c i q.1 p.1 q.2).bind fun S'=>some (.nx,ρ,S')
variable{e:Expr}{ca cv:CE}{pos:Pos}{f:Str}{i:Nat}
open Classical in
def Ad(c:Cl)(f:Fn)(x:U)(S:Sto)(args:Sto->Option (List U×Sto)):Option (U×Sto):=match x with
 |.ref l=>match S[l]? with
  |some (.ins c' _)=>if c'=c then(args S).bind fun q=>f (.ref l::q.1) q.2 else none
  |_=>none
 |_=>none
def F8(c:Cl)(f:Fn)(ca:CE)(cr:CA):CE:=fun ρ S=>(ca ρ S).bind fun p=>Ad c f p.1 p.2 (cr ρ)
def F9:CE:=fun _ S=>some (.ref S.length,S++[.dic []])
def Dx(cd ck cx:CE):CE:=fun ρ S=>(cd ρ S).bind fun p=>match p.1 with
 |.ref l=>match p.2[l]? with
  |some (.dic _)=>(ck ρ p.2).bind fun q=>(cx ρ q.2).bind fun r=>match r.2[l]? with
   |some (.dic kus)=>(gh q.1).bind fun k=>some ((fq kus k).getD r.1,r.2)
   |_=>none
  |_=>none
 |_=>none
end
def jH(n:Nat)(caps:List Nat)(ρ:Rho):Rho:=List.replicate n none++caps.map fun i=>(ρ[i]?).getD none
open Classical in
def fh(ok:Sto->Prop)(g:CG)(ce:CE)(l:Nat):List U->Rho->Sto->Option Sto
 |[],_,S=>if ok S then some S else none
 |u::us,ρ,S=>if ok S then(g u ρ S).bind fun p=>(ce p.1 p.2).bind fun r=>match r.2[l]? with
  |some (.lst ys)=>if ys.length<LIM then fh ok g ce l us p.1 (r.2.set l (.lst (ys++[r.1])))else none
  |_=>none else none
def iQ(ci:CI)(g:CG)(ce:CE)(n:Nat)(caps:List Nat):CE:=fun ρ S=>(ci ρ S).bind fun p=>(fh p.2.1 g ce p.2.2.length p.1 (jH n caps ρ) (p.2.2++[.lst []])).bind fun S'=>some (.ref p.2.2.length,S')
section
variable{X:Cx}{K:PySem.W.Frag}
theorem rG{m:List Addr}{H:Hp}{ρ:Rho}{σ:L2.St}{n:Nat}{caps:List Nat}(lr:Lr K m H ρ σ):Lr K m H (jH n caps ρ) (OG.stC n caps σ):=by
 refine⟨by simp[jH,OG.stC],fun j u e=>?_⟩
 unfold jH at e
 unfold OG.stC
 by_cases c:j<n
 ·rw[List.getElem?_append_left (by simpa using c),List.getElem?_replicate]at e
  split at e<;>cases e
 ·rw[List.getElem?_append_right (by simp;omega),List.getElem?_map]at e ⊢
  simp only[List.length_replicate]at e ⊢
  cases q:caps[j-n]? with
  |none=>rw[q]at e;simp at e
  |some i=>
   rw[q]at e
   simp only[Option.map_some,Option.some.injEq]at e ⊢
   have e2:ρ[i]?=some (some u):=by
    cases z:ρ[i]? with
    |none=>rw[z]at e;simp at e
    |some y=>rw[z]at e;simp at e;rw[e]
   obtain⟨v,h1,h2⟩:=lr.at_ i u e2
   exact⟨v,by rw[h1];rfl,h2⟩
theorem lO{g:CG}{ce:CE}{n:Nat}{caps:List Nat}{J:It}{us:List U}{ok:Sto->Prop}{Q:VK}{m1:List Addr}{H1:Hp}{S1 S':Sto}{ρ:Rho}{σ:L2.St}{l:Addr}(sr1:Sr K m1 S1 H1)(lr:Lr K m1 H1 ρ σ)(ito:wV K J m1 H1 us ok)(hl:H1 l=none)(h2:fh ok g ce S1.length us (jH n caps ρ) (S1++[.lst []])=some S')
  (post:∀m2 H2,Ext K (m1++[l]) (upd H1 l (.lst [])) m2 H2->Sr K m2 S' H2->Q (.ref l) H2) :
  ∃W:Nat->Nat->L2.St->Hp->Prop,(∃m,W 0 m (OG.stC n caps σ) (upd H1 l (.lst [])))/\
 ∀i m σ' H2,W i m σ' H2->(J.stop i H2/\Q (.ref l) H2)\/(J.go i H2/\∃N:L2.St->Hp->Prop,(∀σ'' H',N σ'' H'->∃m',m'<m/\W (i+1) m' σ'' H')/\
  ∀x H3,J.yld i H2 x H3->tG K g x σ' H3 fun σ2 H4=>tE K ce σ2 H4 fun v H5=>∃ys,H5 l=some (.lst ys)/\ys.length<sizeLine/\N σ2 (upd H5 l (.lst (ys++[v])))):=by
 have ee:Ext K m1 H1 (m1++[l]) (upd H1 l (.lst [])):=.new (bj hl _)
 let W:Nat->Nat->L2.St->Hp->Prop:=fun i k σ2 H2=>k=us.length-i/\i<=us.length/\∃m2 ρ2 S2,Ext K (m1++[l]) (upd H1 l (.lst [])) m2 H2/\Sr K m2 S2 H2/\Lr K m2 H2 ρ2 σ2/\fh ok g ce S1.length (us.drop i) ρ2 S2=some S'
 refine⟨W,⟨us.length,by simp,Nat.zero_le _,m1++[l],jH n caps ρ,S1++[.lst []],.refl,sr1.new (o:=.lst []) hl ⟨[],aH,.nil_⟩,rG (lr.mono ee),by simpa using h2⟩,?_⟩
 rintro i k σ2 H2 ⟨rfl,hi,m2,ρ2,S2,e2,sr2,lr2,hl2⟩
 by_cases hlt:i<us.length
 ·have hu:=List.getElem?_eq_getElem hlt
  rw[ie hu]at hl2
  unfold fh at hl2
  split at hl2
  ·rename_i hok
   obtain⟨⟨ρ3,S3⟩,h3,hl2⟩:=Option.bind_eq_some_iff.mp hl2
   obtain⟨⟨u4,S4⟩,h4,hl2⟩:=Option.bind_eq_some_iff.mp hl2
   simp only at hl2
   split at hl2<;>try cases hl2
   rename_i ys hys
   split at hl2<;>try cases hl2
   rename_i hlen
   obtain⟨hgo,hy⟩:=(ito m2 S2 H2 i (ee.trans e2) sr2 hok).1 _ hu
   refine .inr ⟨hgo,W (i+1) (us.length-(i+1)),fun σ' H' w'=>⟨_,by omega,w'⟩,fun x H3 y=>?_⟩
   obtain⟨e3,sr3,ix⟩:=hy x H3 y
   refine⟨m2,ρ2,S2,_,ρ3,S3,sr3,lr2.mono e3,ix,h3,fun m4 σ4 H4 e4 sr4 lr4=>⟨m4,ρ3,S3,u4,S4,sr4,lr4,h4,fun m5 v5 H5 e5 sr5 i5=>?_⟩⟩
   obtain⟨a',ha',xs,hx,il⟩:=sr5.get hys
   have ha:m5[S1.length]?=some l:=(((e2.trans e3).trans e4).trans e5).get (bY sr1.len)
   rw[ha]at ha';cases ha'
   have eu:Ext K m5 H5 m5 (upd H5 l (.lst (xs++[v5]))):=.of (sr5.keep ha _)
   refine⟨xs,hx,CK (by rw[il.length];exact hlen),rfl,hlt,m5,ρ3,_,((((e2.trans e3).trans e4).trans e5).trans eu),sr5.put (o:=.lst (ys++[u4])) ha ⟨_,aH,(il.append (.cons_ i5 .nil_)).mono eu⟩,(lr4.mono (e5.trans eu)),hl2⟩
  ·cases hl2
 ·have e:i=us.length:=by omega
  subst e
  rw[List.drop_length]at hl2
  unfold fh at hl2
  split at hl2
  ·rename_i hok
   cases hl2
   exact .inl ⟨(ito m2 _ H2 _ (ee.trans e2) sr2 hok).2 (Nat.le_refl _),post m2 H2 e2 sr2⟩
  ·cases hl2
theorem wx{ci:CI}{g:CG}{ce:CE}{n:Nat}{caps:List Nat}:∀σ H Q,tE K (iQ ci g ce n caps) σ H Q->yZ (tI K ci) (tG K g) (tE K ce) n caps σ H Q:=by
 rintro σ H Q ⟨m,ρ,S,u,S',sr,lr,hc,post⟩
 obtain⟨⟨us,ok,S1⟩,h1,h2⟩:=Option.bind_eq_some_iff.mp hc
 obtain⟨S2,h2,h3⟩:=Option.bind_eq_some_iff.mp h2
 cases h3
 refine⟨m,ρ,S,us,ok,S1,sr,lr,h1,fun m1 H1 J e1 sr1 ito l hl=>?_⟩
 have ee:Ext K m1 H1 (m1++[l]) (upd H1 l (.lst [])):=.new (bj hl _)
 exact lO sr1 (lr.mono e1) ito hl h2 fun m2 H2 e2 sr2=>post m2 _ H2 ((e1.trans ee).trans e2) sr2 (.ref_ (e2.get (bY sr1.len)))
theorem xt{Nc capN tn:List Str}{scope:Scope}{cl:List (Str×Addr)}{n:Nat}{caps:List Nat}{tg iter elt:Expr}{pos:Pos}{ci:CI}{g:CG}{ce:CE}
  (hc:X.calm=true) (hi:QI X tg iter ci) (hg:∀s3 H3 fp,WG (cxC X Nc scope cl s3 H3 fp) tg (tG X.K g)) (he:∀s3 H3 fp,WE (cxC X Nc scope cl s3 H3 fp) elt (tE X.K ce))
  (hclos:closureFor scope X.env=pure cl) (hkind:scope.kind=.function) (hnl:∀x∈scope.names,x.2=.local->scope.names.lookup x.1=some .local) (hcell:∀x∈scope.names,x.2≠.cell)
  (hcl:oR X.env cl) (hhas:((relabel scope X.env).names.all fun p=>!(p.2 == .cell||p.2 == .free)||(cl.lookup p.1).isSome)=true)
  (hcap:Paired (Cap X scope cl) caps capN) (hN:Nc=tn++capN) (hn:tn.length=n)
  (hs:∀x,foldedSetIterable iter X.env x=pure x:=by intro _;rfl) :
  QE X (.ListComp elt [⟨tg,iter,[],0⟩] scope pos) (iQ ci g ce n caps):=(nv hc hi hg he hclos hkind hnl hcell hcl hhas hcap hN hn hs).imp wx
def ji:Fn
 |[.tup us],S=>some (.int us.length,S)
 |[.ref l],S=>match S[l]? with
  |some (.lst us)=>some (.int us.length,S)
  |some (.dic us)=>some (.int us.length,S)
  |_=>none
 |[.kl ns],S=>some (.int ns.length,S)
 |_,_=>none
abbrev Gq(K:PySem.W.Frag):List V->Hp->VK->Prop:=fun xs H Q=>(∃p ys,xs=[.ref p]/\(SqL K H p ys\/SqT K H p ys)/\Q (.int ys.length) H)\/∃a kvs,xs=[V.ref a]/\H a=some (.dK kvs)/\Q (.int kvs.length) H
theorem mH:bT X (.builtin "len") (Gq X.K):=lU.or sX
theorem IsL.one{m:List Addr}{H:Hp}{vs:List V}{u:U}(h:IsL K m H vs [u]):∃v,vs=[v]/\Is K m H v u:=by
 obtain⟨x,r,rfl,i,t⟩:=h.of_cons
 rw[t.of_nil];exact⟨x,rfl,i⟩
theorem IsL.two{m:List Addr}{H:Hp}{vs:List V}{u w:U}(h:IsL K m H vs [u,w]):∃v x,vs=[v,x]/\Is K m H v u/\Is K m H x w:=by
 obtain⟨x,r,rfl,i,t⟩:=h.of_cons
 obtain⟨y,rfl,j⟩:=t.one
 exact⟨x,y,rfl,i,j⟩
theorem mG:iJ K (Gq K) ji:=by
 intro m S H us vs u S' Q sr i hf post
 match us,hf with
 |[.tup ws],hf=>
  cases hf
  obtain⟨v,rfl,iv⟩:=i.one
  obtain⟨a,xs,rfl,sa,la⟩:=iv.of_tup
  exact .inl ⟨a,xs,rfl,.inr sa,by rw[la.length];exact post m _ H .refl sr .int_⟩
 |[.ref l],hf=>
  obtain⟨v,rfl,iv⟩:=i.one
  obtain⟨a,ha,rfl⟩:=iv.of_ref
  simp only[ji]at hf
  split at hf<;>try cases hf
  ·rename_i ws hS
   obtain⟨a',ha',xs,hx,la⟩:=sr.get hS
   rw[ha]at ha';cases ha'
   exact .inl ⟨a,xs,rfl,.inl (SqL.of hx),by rw[la.length];exact post m _ H .refl sr .int_⟩
  ·rename_i ws hS
   obtain⟨a',ha',xs,hx,la⟩:=sr.get hS
   rw[ha]at ha';cases ha'
   exact .inr ⟨a,xs,rfl,hx,by rw[IsP.length la];exact post m _ H .refl sr .int_⟩
 |[.kl ns],hf=>
  cases hf
  obtain⟨v,rfl,iv⟩:=i.one
  obtain⟨a,rfl,ka⟩:=iv.of_kl
  exact .inl ⟨a,_,rfl,.inl ka.sq,by rw[List.length_map];exact post m _ H .refl sr .int_⟩
def fK:Fn
 |[.tup us],S=>some (.ref S.length,S++[.lst us])
 |[.ref l],S=>match S[l]? with
  |some (.lst us)=>some (.ref S.length,S++[.lst us])
  |_=>none
 |_,_=>none
theorem nV:iJ K (fun xs H Q=>∃p ys,xs=[.ref p]/\(SqL K H p ys\/SqT K H p ys)/\∀l,H l=none->Q (.ref l) (upd H l (.lst ys))) fK:=by
 intro m S H us vs u S' Q sr i hf post
 match us,hf with
 |[.tup ws],hf=>
  cases hf
  obtain⟨v,rfl,iv⟩:=i.one
  obtain⟨a,xs,rfl,sa,la⟩:=iv.of_tup
  exact⟨a,xs,rfl,.inr sa,fun l hl=>bC sr la post hl⟩
 |[.ref l],hf=>
  obtain⟨v,rfl,iv⟩:=i.one
  obtain⟨a,ha,rfl⟩:=iv.of_ref
  simp only[fK]at hf
  split at hf<;>try cases hf
  rename_i ws hS
  obtain⟨a',ha',xs,hx,la⟩:=sr.get hS
  rw[ha]at ha';cases ha'
  exact⟨a,xs,rfl,.inl (SqL.of hx),fun l hl=>bC sr la post hl⟩
def du:Fn
 |[.tup us],S=>some (.tup us,S)
 |[.ref l],S=>match S[l]? with
  |some (.lst us)=>some (.tup us,S)
  |_=>none
 |_,_=>none
theorem jP:iJ K (fun xs H Q=>∃p ys,xs=[.ref p]/\((SqL K H p ys/\∀l,H l=none->Q (.ref l) (upd H l (.tup ys)))\/(SqT K H p ys/\Q (.ref p) H))) du:=by
 intro m S H us vs u S' Q sr i hf post
 match us,hf with
 |[.tup ws],hf=>
  cases hf
  obtain⟨v,rfl,iv⟩:=i.one
  obtain⟨a,xs,rfl,sa,la⟩:=iv.of_tup
  exact⟨a,xs,rfl,.inr ⟨sa,post m _ H .refl sr iv⟩⟩
 |[.ref l],hf=>
  obtain⟨v,rfl,iv⟩:=i.one
  obtain⟨a,ha,rfl⟩:=iv.of_ref
  simp only[du]at hf
  split at hf<;>try cases hf
  rename_i ws hS
  obtain⟨a',ha',xs,hx,la⟩:=sr.get hS
  rw[ha]at ha';cases ha'
  exact⟨a,xs,rfl,.inl ⟨SqL.of hx,fun l hl=>gc sr la post hl⟩⟩
def Dm:Fn
 |[.int i],S=>some (.int i,S)
 |[.bl b],S=>some (.int (if b then 1 else 0),S)
 |_,_=>none
theorem Co:iJ K (fun xs H Q=>(∃i,xs=[.int i]/\Q (.int i) H)\/∃k,xs=[.bl k]/\Q (.int (if k then 1 else 0)) H) Dm:=by
 intro m S H us vs u S' Q sr i hf post
 match us,hf with
 |[.int j],hf=>
  cases hf
  obtain⟨v,rfl,iv⟩:=i.one
  exact .inl ⟨j,by rw[iv.of_int],post m _ H .refl sr .int_⟩
 |[.bl j],hf=>
  cases hf
  obtain⟨v,rfl,iv⟩:=i.one
  exact .inr ⟨j,by rw[iv.of_bl],post m _ H .refl sr .int_⟩
def D3:Fn
 |[.int i,.int j],S=>some (.int (if j<i then j else i),S)
 |_,_=>none
theorem Ft:iJ K (fun xs H Q=>∃i j,xs=[.int i,.int j]/\Q (.int (if j<i then j else i)) H) D3:=by
 intro m S H us vs u S' Q sr i hf post
 match us,hf with
 |[.int j,.int k],hf=>
  cases hf
  obtain⟨v,w,rfl,iv,iw⟩:=i.two
  exact⟨j,k,by rw[iv.of_int,iw.of_int],post m _ H .refl sr .int_⟩
def D4:Fn
 |[.int i,.int j],S=>some (.int (if j>i then j else i),S)
 |_,_=>none
theorem Fu:iJ K (fun xs H Q=>∃i j,xs=[.int i,.int j]/\Q (.int (if j>i then j else i)) H) D4:=by
 intro m S H us vs u S' Q sr i hf post
 match us,hf with
 |[.int j,.int k],hf=>
  cases hf
  obtain⟨v,w,rfl,iv,iw⟩:=i.two
  exact⟨j,k,by rw[iv.of_int,iw.of_int],post m _ H .refl sr .int_⟩
def mL:List U->Option (List Int)
 |[]=>some []
 |.int i::r=>(mL r).map (i::·)
 |_=>none
def Av:List U->Option (List Bool)
 |[]=>some []
 |.bl i::r=>(Av r).map (i::·)
 |_=>none
theorem jZ:∀{us:List U} {ns:List Int},mL us=some ns->us=ns.map U.int
 |[],ns,h=>by cases h;rfl
 |u::r,ns,h=>by
  cases u<;>simp only[mL]at h<;>try cases h
  obtain⟨ms,e,h⟩:=Option.map_eq_some_iff.mp h
  subst h
  rw[jZ e];rfl
theorem gZ:∀(ns:List Int),mL (ns.map U.int)=some ns
 |[]=>rfl
 |n::r=>by simp[mL,gZ r]
theorem tw:∀{us:List U} {ns:List Bool},Av us=some ns->us=ns.map U.bl
 |[],ns,h=>by cases h;rfl
 |u::r,ns,h=>by
  cases u<;>simp only[Av]at h<;>try cases h
  obtain⟨ms,e,h⟩:=Option.map_eq_some_iff.mp h
  subst h
  rw[tw e];rfl
theorem oK:∀(ns:List Bool),Av (ns.map U.bl)=some ns
 |[]=>rfl
 |n::r=>by simp[Av,oK r]
theorem IsL.ints{m:List Addr}{H:Hp}:∀{xs:List V} {ns:List Int},IsL K m H xs (ns.map U.int)->xs=ns.map V.int
 |xs,[],h=>h.of_nil
 |xs,n::ns,h=>by
  obtain⟨x,r,rfl,i,t⟩:=h.of_cons
  rw[IsL.ints t,i.of_int];rfl
theorem IsL.bls{m:List Addr}{H:Hp}:∀{xs:List V} {ns:List Bool},IsL K m H xs (ns.map U.bl)->xs=ns.map V.bl
 |xs,[],h=>h.of_nil
 |xs,n::ns,h=>by
  obtain⟨x,r,rfl,i,t⟩:=h.of_cons
  rw[IsL.bls t,i.of_bl];rfl
theorem gk{m:List Addr}{H:Hp}:∀(ns:List Int),IsL K m H (ns.map V.int) (ns.map U.int)
 |[]=>.nil_
 |n::ns=>.cons_ .int_ (gk ns)
def Dp:Fn
 |[.ref l],S=>match S[l]? with
  |some (.lst us)=>(Av us).bind fun bs=>some (.bl (bs.all id),S)
  |_=>none
 |_,_=>none
theorem Fv:iJ K (fun xs H Q=>∃(p:Addr) (bs:List Bool),xs=[.ref p]/\SqL K H p (bs.map V.bl)/\Q (.bl (bs.all id)) H) Dp:=by
 intro m S H us vs u S' Q sr i hf post
 match us,hf with
 |[.ref l],hf=>
  obtain⟨v,rfl,iv⟩:=i.one
  obtain⟨a,ha,rfl⟩:=iv.of_ref
  simp only[Dp]at hf
  split at hf<;>try cases hf
  rename_i ws hS
  obtain⟨bs,hb,h⟩:=Option.bind_eq_some_iff.mp hf
  cases h
  obtain⟨a',ha',xs,hx,la⟩:=sr.get hS
  rw[ha]at ha';cases ha'
  rw[tw hb]at la
  rw[la.bls]at hx
  exact⟨a,bs,rfl,SqL.of hx,post m _ H .refl sr .bl_⟩
inductive Ty where
 |non|bool|int|str|tuple|list|dict
def Ty.nm:Ty->String
 |.non=>"NoneType"|.bool=>"bool"|.int=>"int"|.str=>"str"|.tuple=>"tuple"|.list=>"list"|.dict=>"dict"
def tyU:U->Sto->Option Ty
 |.non,_=>some .non|.bl _,_=>some .bool|.int _,_=>some .int|.str _,_=>some .str|.tup _,_=>some .tuple
 |.ref l,S=>match S[l]? with
  |some (.lst _)=>some .list
  |some (.dic _)=>some .dict
  |_=>none
 |.kl _,_=>none
def uK:Ty->Ty->Bool
 |.non,.non=>true|.bool,.bool=>true|.bool,.int=>true|.int,.int=>true|.str,.str=>true|.tuple,.tuple=>true|.list,.list=>true|.dict,.dict=>true
 |_,_=>false
theorem gU(a b:Ty)(hb:b≠.non):PySem.W.kitOne K (.type a.nm) (.type b.nm)=some (uK a b):=by
 cases b<;>first|exact absurd rfl hb|(cases a<;>rfl)
abbrev Hh(K:PySem.W.Frag):List V->Hp->VK->Prop:=fun xs H Q=>(∃(x:V) (T:String) (t:Value) (k:Bool),xs=[x,.ty T]/\oP K H x t/\PySem.W.kitOne K t (.type T)=some k/\Q (.bl k) H)\/
 ∃(a:Addr) (ys:List V) (T:String) (k:Bool),xs=[.ref a,.ty T]/\SqT K H a ys/\PySem.W.kitOne K (.type "tuple") (.type T)=some k/\Q (.bl k) H
theorem FC:bT X (.builtin "isinstance") (Hh X.K):=by
 refine mV.or ?_
 rintro pins s σ H xs us Q I r ⟨a,ys,T,k,rfl,sq,e,q⟩
 obtain⟨u,w',rfl,ru,rw'⟩:=qo r
 cases rw'
 cases ru
 obtain⟨its,rv,ht,hz⟩:=I.tuple sq
 obtain⟨o,h1,h2,_⟩:=ht
 exact PySem.W.kia_one PySem.W.kitx_tuple I.kIn ⟨o,h1,h2⟩ e (fun z=>nomatch z) fun tk=>⟨.bl k,H,I.tok tk,rfl,q⟩
def wD(T:Ty)(ca:CE):CE:=fun ρ S=>(ca ρ S).bind fun p=>(tyU p.1 p.2).bind fun t=>some (.bl (uK t T),p.2)
theorem uW{T:Ty}{e eT:Expr}{ca:CE}{p pos:Pos}(hT0:T≠.non)(he:QE X e ca)(hT:WE X eT (tC (.ty T.nm)))(hg:Gl X "isinstance")(hm:X.mg "isinstance"=none)
  (h1:starEach [e,eT] X.env=(false,eval e X.env)::starEach [eT] X.env:=by rfl) (h2:starEach [eT] X.env=(false,eval eT X.env)::starEach [] X.env:=by rfl) (hpl:(backTo pos (starEach [eT] X.env)).any (·.1)=false:=by rfl) :
  QE X (.Call (.Name "isinstance" p) [e,eT] [] pos) (wD T ca):=(gC FC hg hm OG.iD (cZ he (cZ hT gD h2) h1) (by decide) (by decide) h1 hpl).imp fun σ H Q hz=>fU hz fun m ρ S u S' sr lr hc post=>by
 obtain⟨⟨x,S1⟩,h1,h2⟩:=Option.bind_eq_some_iff.mp hc
 obtain⟨t,ht,h3⟩:=Option.bind_eq_some_iff.mp h2
 cases h3
 refine⟨m,ρ,S,x,_,sr,lr,h1,fun m1 v1 H1 e1 sr1 i1=>?_⟩
 have fin:=post m1 _ H1 e1 sr1 (Is.bl_ (b:=uK t T))
 cases x with
 |non=>cases ht;rw[i1.of_non];exact .inl ⟨_,_,_,_,rfl,.non,gU .non T hT0,fin⟩
 |bl b=>cases ht;rw[i1.of_bl];exact .inl ⟨_,_,_,_,rfl,.bl b,gU .bool T hT0,fin⟩
 |int i=>cases ht;rw[i1.of_int];exact .inl ⟨_,_,_,_,rfl,.int i,gU .int T hT0,fin⟩
 |str i=>cases ht;rw[i1.of_str];exact .inl ⟨_,_,_,_,rfl,.str i,gU .str T hT0,fin⟩
 |tup us=>
  cases ht
  obtain⟨a,xs,rfl,sa,la⟩:=i1.of_tup
  exact .inr ⟨a,xs,_,_,rfl,sa,gU .tuple T hT0,fin⟩
 |ref l=>
  obtain⟨a,ha,rfl⟩:=i1.of_ref
  simp only[tyU]at ht
  split at ht<;>try cases ht
  ·rename_i ws hS
   obtain⟨a',ha',xs,hx,la⟩:=sr1.get hS
   rw[ha]at ha';cases ha'
   exact .inl ⟨_,_,_,_,rfl,.lst hx,gU .list T hT0,fin⟩
  ·rename_i ws hS
   obtain⟨a',ha',xs,hx,la⟩:=sr1.get hS
   rw[ha]at ha';cases ha'
   exact .inl ⟨_,_,_,_,rfl,.dK hx,gU .dict T hT0,fin⟩
 |kl ns=>cases ht
def cBM(f:U->List U->Sto->Option (U×Sto))(co:CE)(cr:CA):CE:=fun ρ S=>(co ρ S).bind fun p=>match p.1 with
 |.ref l=>match p.2[l]? with
  |some (.lst _)=>(cr ρ p.2).bind fun q=>f p.1 q.1 q.2
  |_=>none
 |_=>none
def MtP(K:PySem.W.Frag)(r:V->List V->Hp->VK->Prop)(f:U->List U->Sto->Option (U×Sto)):Prop:=
 ∀m S H x v us vs u S' Q,Sr K m S H->Is K m H v x->IsL K m H vs us->f x us S=some (u,S')->fk K m H Q u S'->r v vs H Q
theorem oJ{r:V->List V->Hp->VK->Prop}{f:U->List U->Sto->Option (U×Sto)}{co:CE}{cr:CA}(hp:MtP K r f):∀σ H Q,tE K (cBM f co cr) σ H Q->tBM K "list" r (tE K co) (tA K cr) σ H Q:=by
 rintro σ H Q ⟨m,ρ,S,u,S',sr,lr,hc,post⟩
 obtain⟨⟨x,S1⟩,h1,h2⟩:=Option.bind_eq_some_iff.mp hc
 refine⟨m,ρ,S,x,S1,sr,lr,h1,fun m1 v1 H1 e1 sr1 i1=>?_⟩
 cases x with
 |ref l=>
  simp only at h2
  split at h2<;>try cases h2
  rename_i ws hS
  obtain⟨⟨us,S2⟩,h3,h4⟩:=Option.bind_eq_some_iff.mp h2
  obtain⟨a,ha,rfl⟩:=id i1.of_ref
  obtain⟨a',ha',xs,hx,la⟩:=sr1.get hS
  rw[ha]at ha';cases ha'
  exact⟨.inl ⟨rfl,xs,SqL.of hx⟩,m1,ρ,S1,us,S2,sr1,lr.mono e1,h3,fun m2 vs H2 e2 sr2 i2=>hp m2 S2 H2 _ _ us vs u S' Q sr2 (i1.mono e2) i2 h4 (post.mono (e1.trans e2))⟩
 |_=>simp at h2
def bE:U->List U->Sto->Option (U×Sto)
 |.ref l,[u],S=>match S[l]? with
  |some (.lst us)=>if us.length<LIM then some (.non,S.set l (.lst (us++[u])))else none
  |_=>none
 |_,_,_=>none
theorem vy:MtP K qN bE:=by
 intro m S H x v us vs u S' Q sr ix i hf post
 match x,us,hf with
 |.ref l,[w],hf=>
  simp only[bE]at hf
  split at hf<;>try cases hf
  rename_i ws hS
  split at hf<;>try cases hf
  rename_i hl
  obtain⟨a,ha,rfl⟩:=ix.of_ref
  obtain⟨a',ha',xs,hx,la⟩:=sr.get hS
  rw[ha]at ha';cases ha'
  obtain⟨y,rfl,iy⟩:=i.one
  have eu:Ext K m H m (upd H a (.lst (xs++[y]))):=.of (sr.keep ha _)
  exact⟨a,xs,y,rfl,rfl,hx,CK (by rw[la.length];exact hl),post m _ _ eu (sr.put ha ⟨_,aH,(la.append (.cons_ iy .nil_)).mono eu⟩) .non_⟩
variable{e:Expr}{es:List Expr}{co:CE}{cr:CA}{o:Expr}{apos cpos:Pos}
theorem dW (ho : QE X o co) (ha : QA X (e :: es) cr) (hbase : attributeBase o "append" X.env (eval o X.env) = eval o X.env := by rfl) (hfew : ((backTo cpos (starEach (e :: es) X.env)).all (fun x => !x.1) && (backToKw cpos (keywordEach [] X.env)).all (fun x => x.1.isSome)
   && decide ((e::es).length+([]:List Keyword).length+(if ([]:List Keyword).isEmpty then 0 else 1)<30))=true:=by rfl) (hline:(apos.endLine == cpos.line)=true:=by rfl) (hs:starEach (e::es) X.env=(false,eval e X.env)::starEach es X.env:=by rfl) (hplain:(backTo cpos (starEach es X.env)).any (·.1)=false:=by rfl) :
  QE X (.Call (.Attribute o "append" apos) (e::es) [] cpos) (cBM bE co cr):=(ny PySem.F.plainAttrs_list PySem.F.slot_list_append PySem.F.type_list_append gO ho ha.h hbase hfew hline hs hplain).imp (oJ vy)
end
def SI:Bool->Heap->Addr->Addr->Nat->Prop
 |true,h,it,a,i=>h.IsListIter it a i
 |false,h,it,a,i=>h.IsTupleIter it a i
def SA:Bool->Heap->Addr->Array Value->Prop
 |true,h,a,xs=>h.IsList a xs
 |false,h,a,xs=>h.IsTuple a xs
theorem SI.at_{b:Bool}{h h':Heap}{it a:Addr}{i:Nat}(x:SI b h it a i)(k:∀o,h.get? it=some o->h'.get? it=some o):SI b h' it a i:=by
 cases b with
 |true=>obtain⟨o,e,r⟩:=x;exact⟨o,k o e,r⟩
 |false=>obtain⟨o,e,r⟩:=x;exact⟨o,k o e,r⟩
theorem SA.at_{b:Bool}{h h':Heap}{a:Addr}{xs:Array Value}(x:SA b h a xs)(k:∀o,h.get? a=some o->h'.get? a=some o):SA b h' a xs:=by
 cases b with
 |true=>obtain⟨o,e,r⟩:=x;exact⟨o,k o e,r⟩
 |false=>obtain⟨o,e,r⟩:=x;exact⟨o,k o e,r⟩
theorem SI.obj{b:Bool}{h:Heap}{it a:Addr}{i:Nat}(x:SI b h it a i):∃o,h.get? it=some o/\∀v,o.data≠.cell v:=by
 cases b with
 |true=>obtain⟨o,e,c,d⟩:=x;exact⟨o,e,fun v z=>by rw[d]at z;cases z⟩
 |false=>obtain⟨o,e,c,d⟩:=x;exact⟨o,e,fun v z=>by rw[d]at z;cases z⟩
theorem SA.lt{b:Bool}{h:Heap}{a:Addr}{xs:Array Value}(x:SA b h a xs):a<h.objs.size:=by
 cases b with
 |true=>obtain⟨o,e,_⟩:=x;exact Heap.lt_size e
 |false=>obtain⟨o,e,_⟩:=x;exact Heap.lt_size e
section
variable{prog:Program}{w:World}{A:Around}{E:Value->Shared->Prop}{s:Shared}
theorem uI{I t:Addr}{j:Nat}{ys:Array Value}{y:Value}{Q:Value->Shared->Prop}(hI:s.heap.IsTupleIter I t j)(hT:s.heap.IsTuple t ys)(hy:ys[j]?=some y)
  (k:∀h',h'.IsTupleIter I t (j+1)->Heap.SameBut I s.heap h'->Q y { s with heap:=h' }):wpAny (model prog w) A (Builtin.SmallTypes.nextOf (.ref I)) Q E s:=by
 obtain⟨oi,gi,ci,di⟩:=id hI
 obtain⟨ot,gt,_,nt,dt⟩:=hT
 unfold Builtin.SmallTypes.nextOf
 refine wpAny_bind (wpAny_callSpecial?_slot (name:=Str.ofString "__next__") hI.typeIs PySem.F.slot_tuple_iterator_next (wpAny_call_entry PySem.F.slot_tuple_iterator_next hI.typeIs PySem.F.entry_tuple_iterator_next ?_ (PySem.F.args_tuple_iterator_next_1 _)))
 show wpAny _ _ (field (.ref I) 0 >>= _) _ _ s
 refine wpAny_bind (wpAny_field gi di (x:=.ref t) rfl ?_)
 show wpAny _ _ (ite ((Value.ref t == Value.none)=true) _ _) _ _ s
 rw[if_neg (by exact Bool.false_ne_true)]
 show wpAny _ _ (field (.ref I) 1 >>= _) _ _ s
 refine wpAny_bind (wpAny_field gi di (x:=.int j 0) rfl ?_)
 show wpAny _ _ (seqItems? (.ref t) >>= _) _ _ s
 refine wpAny_bind (wpAny_seqItems gt dt ?_)
 simp only[hy,Int.toNat_natCast]
 refine wpAny_bind (wpAny_setField gi di (by simp) (wpAny_pure ⟨y,rfl,wpAny_pure (k _ ⟨_,Heap.get?_update_self _ gi (Obj.isFreed_of_fields (Obj.data_mapFields di _)),(Obj.cls_mapFields ..).trans ci,?_⟩ (Heap.SameBut.update ..))⟩))
 rw[Obj.data_mapFields di];simp[rawInt]
theorem kJ{I t:Addr}{j:Nat}{ys:Array Value}{Q:Value->Shared->Prop}(hh:A.handled=none)(hI:s.heap.IsTupleIter I t j)(hT:s.heap.IsTuple t ys)(hy:ys[j]?=none)
  (k:∀h' e,Heap.ExtBut I s.heap h'->(∃o,h'.get? e=some o/\o.cls=.type "StopIteration")->E (.ref e) { s with heap:=h' }):wpAny (model prog w) A (Builtin.SmallTypes.nextOf (.ref I)) Q E s:=by
 obtain⟨oi,gi,ci,di⟩:=id hI
 obtain⟨ot,gt,_,nt,dt⟩:=hT
 unfold Builtin.SmallTypes.nextOf
 refine wpAny_bind (wpAny_callSpecial?_slot (name:=Str.ofString "__next__") hI.typeIs PySem.F.slot_tuple_iterator_next (wpAny_call_entry PySem.F.slot_tuple_iterator_next hI.typeIs PySem.F.entry_tuple_iterator_next ?_ (PySem.F.args_tuple_iterator_next_1 _)))
 show wpAny _ _ (field (.ref I) 0 >>= _) _ _ s
 refine wpAny_bind (wpAny_field gi di (x:=.ref t) rfl ?_)
 show wpAny _ _ (ite ((Value.ref t == Value.none)=true) _ _) _ _ s
 rw[if_neg (by exact Bool.false_ne_true)]
 show wpAny _ _ (field (.ref I) 1 >>= _) _ _ s
 refine wpAny_bind (wpAny_field gi di (x:=.int j 0) rfl ?_)
 show wpAny _ _ (seqItems? (.ref t) >>= _) _ _ s
 refine wpAny_bind (wpAny_seqItems gt dt ?_)
 simp only[hy,Int.toNat_natCast]
 refine wpAny_bind (wpAny_rule (wpAny_bind (wpAny_setField gi di (by simp) ?_)))
 show wpAny _ _ (newExc (.type "StopIteration") [] >>= _) _ _ _
 simp only[newExc,newTuple];refine wpAny_bind ?_
 refine wpAny_bind (wpAny_newObj_type ?_ (by(size_fits)))
 refine wpAny_bind (m:=firstArgMember _ _) (wpAny_of_eq (a:=Value.none) (by simp only[firstArgMember]<;>rfl) ?_)
 refine wpAny_newObj_type ?_ (by(size_fits))
 simp only[raiseNew]
 refine wpAny_bind (wpAny_handled ?_)
 rw[show A.in1.handled=none from hh]
 exact wpAny_bind (wpAny_pure (wpAny_throw (k _ _ (((Heap.SameBut.update ..).extBut.push _).push _) ⟨_,Heap.get?_push_size _ rfl,rfl⟩)))
theorem ft{b:Bool}{I t:Addr}{j:Nat}{ys:Array Value}{y:Value}{Q:Value->Shared->Prop}(hI:SI b s.heap I t j)(hT:SA b s.heap t ys)(hy:ys[j]?=some y)
  (k:∀h',SI b h' I t (j+1)->Heap.SameBut I s.heap h'->Q y { s with heap:=h' }):wpAny (model prog w) A (Builtin.SmallTypes.nextOf (.ref I)) Q E s:=by
 cases b with
 |true=>exact wpAny_nextOf_list_item hI hT hy k
 |false=>exact uI hI hT hy k
theorem c0{b:Bool}{I t:Addr}{j:Nat}{ys:Array Value}{Q:Value->Shared->Prop}(hh:A.handled=none)(hI:SI b s.heap I t j)(hT:SA b s.heap t ys)(hy:ys[j]?=none)
  (k:∀h' e,Heap.ExtBut I s.heap h'->(∃o,h'.get? e=some o/\o.cls=.type "StopIteration")->E (.ref e) { s with heap:=h' }):wpAny (model prog w) A (Builtin.SmallTypes.nextOf (.ref I)) Q E s:=by
 cases b with
 |true=>exact wpAny_nextOf_list_end hh hI hT hy k
 |false=>exact kJ hh hI hT hy k
structure ZA(z I O i j a c:Addr):Prop where
 Iz:I≠z
 Oz:O≠z
 iz:i≠z
 jz:j≠z
 IO:I≠O
 Ii:I≠i
 Ij:I≠j
 Oi:O≠i
 Oj:O≠j
 ij:i≠j
 az:a≠z
 aO:a≠O
 ai:a≠i
 aj:a≠j
 cz:c≠z
 cO:c≠O
 ci:c≠i
 cj:c≠j
structure ZSt(b d:Bool)(h:Heap)(z I O i j a c:Addr)(f:Value)(n:Nat):Prop where
 hz:IsZip h z I O f
 hI:IsPair h I (.ref i) (.ref j)
 hO:∃p q,IsPair h O p q
 h1:SI b h i a n
 h2:SI d h j c n
theorem ZSt.at_{b d:Bool}{h h':Heap}{z I O i j a c:Addr}{f:Value}{n:Nat}(x:ZSt b d h z I O i j a c f n)(k:∀e∈[z,I,O,i,j],∀o,h.get? e=some o->h'.get? e=some o):ZSt b d h' z I O i j a c f n:=by
 obtain⟨p,q,hO⟩:=x.hO
 exact⟨k z (by simp) _ x.hz,k I (by simp) _ x.hI,⟨p,q,k O (by simp) _ hO⟩,x.h1.at_ fun o e=>k i (by simp) o e,x.h2.at_ fun o e=>k j (by simp) o e⟩
theorem ua{b d:Bool}{z I O i j a c:Addr}{n:Nat}{xs ys:Array Value}{x y:Value}{Q:Value->Shared->Prop}(D:ZA z I O i j a c)(st:ZSt b d s.heap z I O i j a c .none n)(ha:SA b s.heap a xs)(hc:SA d s.heap c ys)(hx:xs[n]?=some x)(hy:ys[n]?=some y)
  (k:∀h',ZSt b d h' z I O i j a c (rawInt s.heap.objs.size) (n+1)->IsPair h' s.heap.objs.size x y->
   (∀e o,e≠z->e≠O->e≠i->e≠j->s.heap.get? e=some o->h'.get? e=some o)->Q (.ref s.heap.objs.size) { s with heap:=h' }) :
  wpAny (model prog w) A (Builtin.«zip.__next__» ⟨[.ref z],[]⟩) (fun fin s'=>∃v,fin=.done (.ret v)/\Q v s') E s:=by
 obtain⟨hz,hI,⟨p,q,hO⟩,h1,h2⟩:=st
 show wpAny _ _ (field (.ref z) 2 >>= _) _ _ _
 refine wpAny_bind (wpAny_field hz rfl (x:=.bool false) rfl ?_)
 show wpAny _ _ (field (.ref z) 3 >>= _) _ _ _
 refine wpAny_bind (wpAny_field hz rfl (x:=.ref I) rfl ?_)
 refine wpAny_bind (wpAny_seqItems hI rfl ?_)
 show wpAny _ _ (Builtin.SmallTypes.ownedTupleIsFree (.ref z) >>= _) _ _ _
 refine wpAny_bind ?_
 unfold Builtin.SmallTypes.ownedTupleIsFree
 refine wpAny_bind (wpAny_field hz rfl (x:=.none) rfl (wpAny_pure ?_))
 simp only[if_true]
 refine wpAny_bind (wpAny_rule (wpAny_bind (wpAny_field hz rfl (x:=.ref O) rfl (wpAny_bind (wpAny_setField_rec hz (by simp) fun g1 z1 s1=>wpAny_bind ?_)))))
 replace z1:IsZip g1 z I O .ellipsis:=z1
 simp only[List.zipIdx_nil,List.zipIdx_cons,List.forIn_nil,List.forIn_cons]
 refine wpAny_bind (wpAny_bind (wpAny_onRaise ?_))
 show wpAny _ _ (Builtin.SmallTypes.nextOf (.ref i) >>= _) _ _ _
 refine wpAny_bind (ft (b:=b) (h1.at_ fun o e=>s1.extBut _ _ D.iz e) (ha.at_ fun o e=>s1.extBut _ _ D.az e) hx fun g2 i2 s2=>wpAny_pure ?_)
 have O2:IsPair g2 O p q:=s2.extBut _ _ D.Oi (s1.extBut _ _ D.Oz hO)
 refine wpAny_bind (wpAny_seqItems O2 rfl (wpAny_bind (wpAny_updateSeq_pair O2 fun g3 O3 s3=>?_)))
 replace O3:IsPair g3 O x q:=O3
 refine wpAny_bind (wpAny_letGo (wpAny_pure (wpAny_bind (wpAny_bind (wpAny_onRaise ?_)))))
 show wpAny _ _ (Builtin.SmallTypes.nextOf (.ref j) >>= _) _ _ _
 have up3:∀e o,e≠z->e≠i->e≠O->s.heap.get? e=some o->g3.get? e=some o:=fun e o u1 u2 u3 q=>s3.extBut _ _ u3 (s2.extBut _ _ u2 (s1.extBut _ _ u1 q))
 refine wpAny_bind (ft (b:=d) (h2.at_ fun o e=>up3 _ _ D.jz D.ij.symm D.Oj.symm e) (hc.at_ fun o e=>up3 _ _ D.cz D.ci D.cO e) hy fun g4 j4 s4=>wpAny_pure ?_)
 have O4:IsPair g4 O x q:=s4.extBut _ _ D.Oj O3
 refine wpAny_bind (wpAny_seqItems O4 rfl (wpAny_bind (wpAny_updateSeq_pair O4 fun g5 O5 s5=>?_)))
 replace O5:IsPair g5 O x y:=O5
 refine wpAny_bind (wpAny_letGo (wpAny_pure (wpAny_pure (wpAny_bind (wpAny_seqItems O5 rfl (wpAny_bind (wpAny_newTuple ?_)))))))
 have sz:g5.objs.size=s.heap.objs.size:=by rw[s5.1,s4.1,s3.1,s2.1,s1.1]
 have z5:IsZip g5 z I O .ellipsis:=s5.extBut _ _ D.Oz.symm (s4.extBut _ _ D.jz.symm (s3.extBut _ _ D.Oz.symm (s2.extBut _ _ D.iz.symm z1)))
 have up5:∀e o,e≠z->e≠O->e≠i->e≠j->s.heap.get? e=some o->g5.get? e=some o:=fun e o u1 u2 u3 u4 q=>s5.extBut _ _ u2 (s4.extBut _ _ u4 (up3 e o u1 u3 u2 q))
 have i5:SI b g5 i a (n+1):=i2.at_ fun o e=>s5.extBut _ _ D.Oi.symm (s4.extBut _ _ D.ij (s3.extBut _ _ D.Oi.symm e))
 have j5:SI d g5 j c (n+1):=j4.at_ fun o e=>s5.extBut _ _ D.Oj.symm e
 have zlt:z<g5.objs.size:=Heap.lt_size z5
 show wpAny _ _ (Builtin.SmallTypes.ownedTupleHandOut (.ref z) (.ref g5.objs.size) >>= _) _ _ _
 refine wpAny_bind ?_
 unfold Builtin.SmallTypes.ownedTupleHandOut
 have z6:IsZip (g5.push { cls:=.type "tuple",data:=.seq #[x,y] }) z I O .ellipsis:=Heap.get?_push_of_some _ z5
 refine wpAny_bind (wpAny_setField_rec z6 (by simp) fun g7 z7 s7=>?_)
 replace z7:IsZip g7 z I O (rawInt g5.objs.size):=z7
 refine wpAny_setField_rec z7 (by simp) fun g8 z8 s8=>?_
 replace z8:IsZip g8 z I O (rawInt g5.objs.size):=z8
 have up8:∀e o,e≠z->g5.get? e=some o->g8.get? e=some o:=fun e o u1 q=>s8.extBut _ _ u1 (s7.extBut _ _ u1 (Heap.get?_push_of_some _ q))
 have T8:IsPair g8 g5.objs.size x y:=s8.extBut _ _ (Nat.ne_of_gt zlt) (s7.extBut _ _ (Nat.ne_of_gt zlt) (Heap.get?_push_size _ rfl))
 rw[sz]at z8 T8
 refine wpAny_pure ⟨_,rfl,?_⟩
 show Q (.ref g5.objs.size) _
 rw[sz]
 exact k g8 ⟨z8,up8 _ _ D.Iz (up5 _ _ D.Iz D.IO D.Ii D.Ij hI),⟨x,y,up8 _ _ D.Oz O5⟩,i5.at_ fun o e=>up8 _ _ D.iz e,j5.at_ fun o e=>up8 _ _ D.jz e⟩ T8 fun e o u1 u2 u3 u4 q=>up8 e o u1 (up5 e o u1 u2 u3 u4 q)
theorem ub{b d:Bool}{z I O i j a c:Addr}{n:Nat}{xs ys:Array Value}{Q:PySem.Fin->Shared->Prop}(hh:A.handled=none)(D:ZA z I O i j a c)(st:ZSt b d s.heap z I O i j a c .none n)(ha:SA b s.heap a xs)(hc:SA d s.heap c ys)(hn:xs[n]?=none\/ys[n]?=none)
  (k:∀h' e,(∀c o,c≠z->c≠O->c≠i->c≠j->s.heap.get? c=some o->h'.get? c=some o)->(∃o,h'.get? e=some o/\o.cls=.type "StopIteration")->E (.ref e) { s with heap:=h' }) :
  wpAny (model prog w) A (Builtin.«zip.__next__» ⟨[.ref z],[]⟩) Q E s:=by
 obtain⟨hz,hI,⟨p,q,hO⟩,h1,h2⟩:=st
 show wpAny _ _ (field (.ref z) 2 >>= _) _ _ _
 refine wpAny_bind (wpAny_field hz rfl (x:=.bool false) rfl ?_)
 show wpAny _ _ (field (.ref z) 3 >>= _) _ _ _
 refine wpAny_bind (wpAny_field hz rfl (x:=.ref I) rfl ?_)
 refine wpAny_bind (wpAny_seqItems hI rfl ?_)
 show wpAny _ _ (Builtin.SmallTypes.ownedTupleIsFree (.ref z) >>= _) _ _ _
 refine wpAny_bind ?_
 unfold Builtin.SmallTypes.ownedTupleIsFree
 refine wpAny_bind (wpAny_field hz rfl (x:=.none) rfl (wpAny_pure ?_))
 simp only[if_true]
 refine wpAny_bind (wpAny_rule (wpAny_bind (wpAny_field hz rfl (x:=.ref O) rfl (wpAny_bind (wpAny_setField_rec hz (by simp) fun g1 z1 s1=>wpAny_bind ?_)))))
 replace z1:IsZip g1 z I O .ellipsis:=z1
 simp only[List.zipIdx_nil,List.zipIdx_cons,List.forIn_nil,List.forIn_cons]
 refine wpAny_bind (wpAny_bind (wpAny_onRaise ?_))
 show wpAny _ _ (Builtin.SmallTypes.nextOf (.ref i) >>= _) _ _ _
 cases hx:xs[n]? with
 |none=>
  refine wpAny_bind (c0 (b:=b) hh (h1.at_ fun o e=>s1.extBut _ _ D.iz e) (ha.at_ fun o e=>s1.extBut _ _ D.az e) hx fun g2 e s2 he=>?_)
  obtain⟨oe,ge,ce⟩:=he
  have z2:IsZip g2 z I O .ellipsis:=s2 _ _ D.iz.symm z1
  have nez:e≠z:=fun v=>by subst v;rw[z2]at ge;cases ge;simp at ce
  exact wpAny_setField_rec z2 (by simp) fun g3 _ s3=>k g3 e (fun c o u1 _ u3 _ v=>s3.extBut _ _ u1 (s2 _ _ u3 (s1.extBut _ _ u1 v))) ⟨oe,s3.extBut _ _ nez ge,ce⟩
 |some x=>
  have hy:ys[n]?=none:=by rcases hn with v|v;rw[hx]at v;cases v;exact v
  refine wpAny_bind (ft (b:=b) (h1.at_ fun o e=>s1.extBut _ _ D.iz e) (ha.at_ fun o e=>s1.extBut _ _ D.az e) hx fun g2 i2 s2=>wpAny_pure ?_)
  have O2:IsPair g2 O p q:=s2.extBut _ _ D.Oi (s1.extBut _ _ D.Oz hO)
  refine wpAny_bind (wpAny_seqItems O2 rfl (wpAny_bind (wpAny_updateSeq_pair O2 fun g3 O3 s3=>?_)))
  refine wpAny_bind (wpAny_letGo (wpAny_pure (wpAny_bind (wpAny_bind (wpAny_onRaise ?_)))))
  show wpAny _ _ (Builtin.SmallTypes.nextOf (.ref j) >>= _) _ _ _
  have up3:∀e o,e≠z->e≠i->e≠O->s.heap.get? e=some o->g3.get? e=some o:=fun e o u1 u2 u3 q=>s3.extBut _ _ u3 (s2.extBut _ _ u2 (s1.extBut _ _ u1 q))
  refine wpAny_bind (c0 (b:=d) hh (h2.at_ fun o e=>up3 _ _ D.jz D.ij.symm D.Oj.symm e) (hc.at_ fun o e=>up3 _ _ D.cz D.ci D.cO e) hy fun g4 e s4 he=>?_)
  obtain⟨oe,ge,ce⟩:=he
  have z4:IsZip g4 z I O .ellipsis:=s4 _ _ D.jz.symm (s3.extBut _ _ D.Oz.symm (s2.extBut _ _ D.iz.symm z1))
  have nez:e≠z:=fun v=>by subst v;rw[z4]at ge;cases ge;simp at ce
  exact wpAny_setField_rec z4 (by simp) fun g5 _ s5=>k g5 e (fun c o u1 u2 u3 u4 v=>s5.extBut _ _ u1 (s4 _ _ u4 (up3 c o u1 u3 u2 v))) ⟨oe,s5.extBut _ _ nez ge,ce⟩
theorem ud{b d:Bool}{z I O i j a c:Addr}{n:Nat}{xs ys:Array Value}{x y:Value}{Q:Option Value->Shared->Prop}(D:ZA z I O i j a c)(st:ZSt b d s.heap z I O i j a c .none n)(ha:SA b s.heap a xs)(hc:SA d s.heap c ys)(hx:xs[n]?=some x)(hy:ys[n]?=some y)
  (k:∀h',ZSt b d h' z I O i j a c (rawInt s.heap.objs.size) (n+1)->IsPair h' s.heap.objs.size x y->
   (∀e o,e≠z->e≠O->e≠i->e≠j->s.heap.get? e=some o->h'.get? e=some o)->Q (some (.ref s.heap.objs.size)) { s with heap:=h' }):wpAny (model prog w) A (pyNext (.ref z)) Q E s:=by
 have ty:s.TypeIs (.ref z) "zip":=⟨_,st.hz,rfl⟩
 unfold pyNext
 exact wpAny_bind (wpAny_attempt (wpAny_callSpecial?_slot (name:=Str.ofString "__next__") ty PySem.F.slot_zip_next (wpAny_call_entry PySem.F.slot_zip_next ty PySem.F.entry_zip_next
   (ua D st ha hc hx hy fun h' a1 a2 a3=>wpAny_pure (k h' a1 a2 a3)) (PySem.F.args_zip_next_1 _))))
theorem yd{b d:Bool}{z I O i j a c:Addr}{n:Nat}{xs ys:Array Value}{Q:Option Value->Shared->Prop}(hh:A.handled=none)(D:ZA z I O i j a c)(st:ZSt b d s.heap z I O i j a c .none n)(ha:SA b s.heap a xs)(hc:SA d s.heap c ys)(hn:xs[n]?=none\/ys[n]?=none)
  (k:∀h',(∀c o,c≠z->c≠O->c≠i->c≠j->s.heap.get? c=some o->h'.get? c=some o)->Q none { s with heap:=h' }):wpAny (model prog w) A (pyNext (.ref z)) Q E s:=by
 have ty:s.TypeIs (.ref z) "zip":=⟨_,st.hz,rfl⟩
 unfold pyNext
 refine wpAny_bind (wpAny_attempt (wpAny_callSpecial?_slot (name:=Str.ofString "__next__") ty PySem.F.slot_zip_next (wpAny_call_entry PySem.F.slot_zip_next ty PySem.F.entry_zip_next
   (ub hh D st ha hc hn fun h' e hk he=>?_) (PySem.F.args_zip_next_1 _))))
 obtain⟨o,ho,co⟩:=he
 exact wpAny_bind (wpAny_isInstance (T:="StopIteration") (b:=true) ⟨o,ho,co⟩ isSubtype_stop (wpAny_pure (k _ hk)))
def itO(b:Bool)(a:Addr):Obj:={ cls:=.type (if b then "list_iterator" else "tuple_iterator"),data:=.fields #[.ref a,.int 0 0] }
abbrev zG2(b d:Bool)(h:Heap)(a c:Addr):Heap:=(h.push (itO b a)).push (itO d c)
abbrev zG4(b d:Bool)(h:Heap)(a c:Addr):Heap:=((zG2 b d h a c).push { cls:=.type "tuple",data:=.seq #[.ref h.objs.size,.ref (h.push (itO b a)).objs.size] }).push { cls:=.type "tuple",data:=.seq #[.none,.none] }
abbrev zG5(b d:Bool)(h:Heap)(a c:Addr):Heap:=(zG4 b d h a c).push { cls:=.type "zip",data:=.fields #[.none,.bool false,.bool false,.ref (zG2 b d h a c).objs.size,.ref ((zG2 b d h a c).push { cls:=.type "tuple",data:=.seq #[.ref h.objs.size,.ref (h.push (itO b a)).objs.size] }).objs.size] }
theorem yc (b d : Bool) (a c : Addr) (xs ys : Array Value) : Meets (Builtin.«zip.__new__» ⟨[.type "zip", .ref a, .ref c], []⟩) (fun _ R s => SA b s.heap a xs /\ SA d s.heap c ys /\
   R (.ok (.ret (.ref (zG4 b d s.heap a c).objs.size))) { s with heap:=zG5 b d s.heap a c }):=
 .of_wp fun prog w A R s q=>by
  obtain⟨hp,g,dr,tk,os⟩:=s
  obtain⟨p1,p2,q⟩:=q
  have sb:=sub_zip
  cases b<;>cases d
  ·have e1:Heap.IsTuple (Shared.heap ⟨hp,g,dr,tk,os⟩) a xs:=p1
   have e2:Heap.IsTuple (Shared.heap ⟨hp.push { cls:=.type "tuple_iterator",data:=.fields #[.ref a,.int 0 0] },g,dr,tk,os⟩) c ys:=SA.at_ (b:=false) p2 fun o e=>Heap.get?_push_of_some _ e
   wp_walk using wpAny_pyIter_tuple e1,wpAny_pyIter_tuple e2
   exact⟨_,rfl,q⟩
  ·have e1:Heap.IsTuple (Shared.heap ⟨hp,g,dr,tk,os⟩) a xs:=p1
   have e2:Heap.IsList (Shared.heap ⟨hp.push { cls:=.type "tuple_iterator",data:=.fields #[.ref a,.int 0 0] },g,dr,tk,os⟩) c ys:=SA.at_ (b:=true) p2 fun o e=>Heap.get?_push_of_some _ e
   wp_walk using wpAny_pyIter_tuple e1,wpAny_pyIter_list e2
   exact⟨_,rfl,q⟩
  ·have e1:Heap.IsList (Shared.heap ⟨hp,g,dr,tk,os⟩) a xs:=p1
   have e2:Heap.IsTuple (Shared.heap ⟨hp.push { cls:=.type "list_iterator",data:=.fields #[.ref a,.int 0 0] },g,dr,tk,os⟩) c ys:=SA.at_ (b:=false) p2 fun o e=>Heap.get?_push_of_some _ e
   wp_walk using wpAny_pyIter_list e1,wpAny_pyIter_tuple e2
   exact⟨_,rfl,q⟩
  ·have e1:Heap.IsList (Shared.heap ⟨hp,g,dr,tk,os⟩) a xs:=p1
   have e2:Heap.IsList (Shared.heap ⟨hp.push { cls:=.type "list_iterator",data:=.fields #[.ref a,.int 0 0] },g,dr,tk,os⟩) c ys:=SA.at_ (b:=true) p2 fun o e=>Heap.get?_push_of_some _ e
   wp_walk using wpAny_pyIter_list e1,wpAny_pyIter_list e2
   exact⟨_,rfl,q⟩
theorem xI{b:Bool}{a i:Addr}{h:Heap}(e:h.get? i=some (itO b a)):SI b h i a 0:=by
 cases b with
 |true=>exact⟨_,e,rfl,rfl⟩
 |false=>exact⟨_,e,rfl,rfl⟩
theorem uf{b d:Bool}{a c:Addr}{xs ys:Array Value}{Q:Value->Shared->Prop}(ha:SA b s.heap a xs)(hc:SA d s.heap c ys)
  (k:∀h' z I O i j,ZA z I O i j a c->ZSt b d h' z I O i j a c .none 0->(∀e∈[z,I,O,i,j],s.heap.objs.size<=e)->(∀e o,s.heap.get? e=some o->h'.get? e=some o)->Q (.ref z) { s with heap:=h' }) :
  wpAny (model prog w) A (call (.type "zip") [.ref a,.ref c]) Q E s:=by
 refine callType_new PySem.F.called_zip (by decide) (PySem.F.typeCall_zip_2 _ _) (PySem.F.newCall_zip_2 _ _) (fun obj=>PySem.F.args_object_init_3 obj _ _) PySem.F.entry_zip_new (yc b d a c xs ys) ⟨ha,hc,?_⟩
 have n1:(s.heap.push (itO b a)).objs.size=s.heap.objs.size+1:=Heap.size_push ..
 have n2:(zG2 b d s.heap a c).objs.size=s.heap.objs.size+2:=by rw[Heap.size_push,n1]
 have n3:((zG2 b d s.heap a c).push { cls:=.type "tuple",data:=.seq #[.ref s.heap.objs.size,.ref (s.heap.push (itO b a)).objs.size] }).objs.size=s.heap.objs.size+3:=by rw[Heap.size_push,n2]
 have n4:(zG4 b d s.heap a c).objs.size=s.heap.objs.size+4:=by rw[Heap.size_push,n3]
 have p5:(zG5 b d s.heap a c).get? (zG4 b d s.heap a c).objs.size=some _:=Heap.get?_push_size _ rfl
 have p4:(zG5 b d s.heap a c).get? ((zG2 b d s.heap a c).push { cls:=.type "tuple",data:=.seq #[.ref s.heap.objs.size,.ref (s.heap.push (itO b a)).objs.size] }).objs.size=some _:=Heap.get?_push_of_some _ (Heap.get?_push_size _ rfl)
 have p3:(zG5 b d s.heap a c).get? (zG2 b d s.heap a c).objs.size=some _:=Heap.get?_push_of_some _ (Heap.get?_push_of_some _ (Heap.get?_push_size _ rfl))
 have p2:(zG5 b d s.heap a c).get? (s.heap.push (itO b a)).objs.size=some _:=Heap.get?_push_of_some _ (Heap.get?_push_of_some _ (Heap.get?_push_of_some _ (Heap.get?_push_size _ rfl)))
 have p1:(zG5 b d s.heap a c).get? s.heap.objs.size=some _:=Heap.get?_push_of_some _ (Heap.get?_push_of_some _ (Heap.get?_push_of_some _ (Heap.get?_push_of_some _ (Heap.get?_push_size _ rfl))))
 have la:=ha.lt
 have lc:=hc.lt
 rw[n4,n2,n3]at p5
 rw[n2,n1]at p3
 rw[n3]at p4
 rw[n1]at p2
 show _/\_
 rw[n4]
 refine⟨⟨_,p5,rfl⟩,k _ (s.heap.objs.size+4) (s.heap.objs.size+2) (s.heap.objs.size+3) s.heap.objs.size (s.heap.objs.size+1) ⟨?_,?_,?_,?_,?_,?_,?_,?_,?_,?_,?_,?_,?_,?_,?_,?_,?_,?_⟩ ⟨p5,p3,⟨_,_,p4⟩,xI p1,xI p2⟩ (fun e he=>?_) fun e o x=>Heap.get?_push_of_some _ (Heap.get?_push_of_some _ (Heap.get?_push_of_some _ (Heap.get?_push_of_some _ (Heap.get?_push_of_some _ x))))⟩
 case refine_19=>
  simp only[List.mem_cons,List.not_mem_nil,or_false]at he
  rcases he with e1|e1|e1|e1|e1<;>rw[e1]<;>first|exact Nat.le_refl _|exact Nat.le_add_right _ _
 all_goals first|exact Nat.ne_of_lt (by omega)|exact Nat.ne_of_gt (by omega)|exact Nat.ne_of_lt (Nat.lt_of_lt_of_le la (by omega))|exact Nat.ne_of_lt (Nat.lt_of_lt_of_le lc (by omega))
end
def Sq(K:PySem.W.Frag):Bool->Hp->Addr->List V->Prop
 |true,H,a,xs=>SqL K H a xs
 |false,H,a,xs=>SqT K H a xs
section
variable{X:Cx}{pins:List (Addr×Obj)}{σ:L2.St}{H:Hp}{s:Shared}{h':Heap}
theorem _root_.L2.Inv.sq{b:Bool}{a:Addr}{xs:List V}(I:Inv X pins σ H s)(h:Sq X.K b H a xs):∃its:List Value,aV xs its/\SA b s.heap a its.toArray:=by
 cases b with
 |true=>obtain⟨its,r,p,_⟩:=I.list h;exact⟨its,r,p.isList⟩
 |false=>obtain⟨its,r,p,_⟩:=I.tuple h;exact⟨its,r,p⟩
end
theorem vj{P:Program}{w:World}{H:Hp}{h:Heap}{a:Addr}{x y:V}{u v:Value}(e:h.get? a=some { cls:=.type "tuple",data:=.seq #[u,v] })(rx:bu x u)(ry:bu y v):bt P w H h a (.tup [x,y]):=
 ⟨by show 2<=sizeLine;decide,[u,v],.cons rx (.cons ry .nil),⟨_,e,rfl,_,rfl⟩⟩
theorem wH:bootBuiltins "zip"=some (.type "zip"):=rfl
section
variable{X:Cx}{pos:Pos}
def uO:U->Sto->Option (List U×(Sto->Prop))
 |.tup us,_=>some (us,fun _=>True)
 |.ref l,S=>match S[l]? with
  |some (.lst us)=>some (us,fun S=>S[l]?=some (.lst us))
  |_=>none
 |_,_=>none
def ph(us ws:List U):List U:=(us.zip ws).map fun p=>.tup [p.1,p.2]
theorem xf{K:PySem.W.Frag}{m:List Addr}{S:Sto}{H:Hp}{u:U}{v:V}{us:List U}{ok:Sto->Prop}(sr:Sr K m S H)(iu:Is K m H v u)(h:uO u S=some (us,ok)) :
  ∃b a,v=.ref a/\(∃xs,Sq K b H a xs)/\∀m2 S2 H2,Ext K m H m2 H2->Sr K m2 S2 H2->ok S2->∃xs,Sq K b H2 a xs/\IsL K m2 H2 xs us:=by
 cases u with
 |tup ws=>
  cases h
  obtain⟨a,xs,rfl,sq,il⟩:=iu.of_tup
  exact⟨false,a,rfl,⟨xs,sq⟩,fun m2 S2 H2 e _ _=>⟨xs,e.keep.t _ _ sq,il.mono e⟩⟩
 |ref l=>
  simp only[uO]at h
  split at h<;>try cases h
  rename_i us hS
  obtain⟨a,ha,rfl⟩:=iu.of_ref
  obtain⟨a',ha',xs,hx,il⟩:=sr.get hS
  rw[ha]at ha';cases ha'
  refine⟨true,a,rfl,⟨xs,SqL.of hx⟩,fun m2 S2 H2 e sr2 hok=>?_⟩
  obtain⟨a',ha',xs,hx,il⟩:=sr2.get hok
  rw[e.get ha]at ha';cases ha'
  exact⟨xs,SqL.of hx,il⟩
 |_=>simp[uO]at h
end
section
variable{X:Cx}{pos:Pos}
def gN:List (CE×CE)->Rho->Sto->Option (List (Key×U)×Sto)
 |[],_,S=>some ([],S)
 |(ck,cv)::r,ρ,S=>(ck ρ S).bind fun p=>(cv ρ p.2).bind fun q=>(gh p.1).bind fun k=>(gN r ρ q.2).bind fun z=>some ((k,q.1)::z.1,z.2)
def CC(kus:List (Key×U))(au:List (Key×U)):List (Key×U):=kus.foldl (fun acc kv=>f6 acc kv.1 kv.2) au
def rB(kus:List (Key×U)):List (Key×U):=CC kus []
def Dw(prs:List (CE×CE)):CE:=fun ρ S=>(gN prs ρ (S++[.dic []])).bind fun q=>match q.2[S.length]? with
 |some (.dic [])=>some (.ref S.length,q.2.set S.length (.dic (rB q.1)))
 |_=>none
end
theorem eK:∀{ns:List Int} {vs:List Value},aV (ns.map V.int) vs->IntsAre vs ns
 |[],_,h=>by cases h;exact .nil
 |n::ns,_,.cons r t=>by
  obtain⟨k,rfl⟩:=r
  exact .cons n k (eK t)
section
variable{ρ:Rho}{S:Sto}{c1 c2:CS}{t ta tb:CT}{ca cb cc:CE}{cr:CA}{u x y:U}{us:List U}{i l:Nat}{f g:U->U->Sto->Option (U×Sto)}{b:Bool}
def Gv(S:Sto):Option (Option U)->Option (U×Sto)
 |some (some u)=>some (u,S)
 |_=>none
theorem yf:ah i ρ S=Gv S (ρ[i]?):=rfl
theorem pV:Gv S (some (some u))=some (u,S):=rfl
theorem x_c:cC u ρ S=some (u,S):=rfl
def FK(f:U->U->Sto->Option (U×Sto))(x:U)(q:U×Sto):=f x q.1 q.2
def GA(f:U->U->Sto->Option (U×Sto))(cb:CE)(ρ:Rho)(p:U×Sto):=(cb ρ p.2).bind (FK f p.1)
theorem Ep:cOp f ca cb ρ S=(ca ρ S).bind (GA f cb ρ):=rfl
theorem yj:GA f cb ρ (x,S)=(cb ρ S).bind (FK f x):=rfl
theorem yi:FK f x (y,S)=f x y S:=rfl
def CW:U×Sto->Option (Bool×Sto)
 |(.bl b,S)=>some (b,S)
 |_=>none
theorem nh:aN ca ρ S=(ca ρ S).bind CW:=by
 unfold aN;congr 1;funext p;obtain⟨u,S⟩:=p;cases u<;>rfl
theorem mr:CW (.bl b,S)=some (b,S):=rfl
def FW(tb:CT)(ρ:Rho)(p:Bool×Sto):=if p.1=true then tb ρ p.2 else some (false,p.2)
def kOr(tb:CT)(ρ:Rho)(p:Bool×Sto):=if p.1=true then some (true,p.2)else tb ρ p.2
def GB(p:Bool×Sto):Option (Bool×Sto):=some (!p.1,p.2)
theorem EZ:Au ta tb ρ S=(ta ρ S).bind (FW tb ρ):=rfl
theorem A9:FW tb ρ (true,S)=tb ρ S:=rfl
theorem A8:FW tb ρ (false,S)=some (false,S):=rfl
theorem GX:cOr ta tb ρ S=(ta ρ S).bind (kOr tb ρ):=rfl
theorem Eo:kOr tb ρ (true,S)=some (true,S):=rfl
theorem En:kOr tb ρ (false,S)=tb ρ S:=rfl
theorem AO:D5 ta ρ S=(ta ρ S).bind GB:=rfl
theorem AN:GB (b,S)=some (!b,S):=rfl
def zU(cb:CE)(ρ:Rho):U×Sto->Option (U×Sto)
 |(.bl true,S)=>cb ρ S
 |(.bl false,S)=>some (.bl false,S)
 |_=>none
def FJ(cb:CE)(ρ:Rho):U×Sto->Option (U×Sto)
 |(.bl false,S)=>cb ρ S
 |(.bl true,S)=>some (.bl true,S)
 |_=>none
def C1:U×Sto->Option (U×Sto)
 |(.bl b,S)=>some (.bl (!b),S)
 |_=>none
theorem A7:fO ca cb ρ S=(ca ρ S).bind (zU cb ρ):=by
 unfold fO;congr 1;funext p;obtain⟨u,S⟩:=p;cases u with
 |bl b=>cases b<;>rfl
 |_=>rfl
theorem yz:zU cb ρ (.bl true,S)=cb ρ S:=rfl
theorem yy:zU cb ρ (.bl false,S)=some (.bl false,S):=rfl
theorem Em:GL ca cb ρ S=(ca ρ S).bind (FJ cb ρ):=by
 unfold GL;congr 1;funext p;obtain⟨u,S⟩:=p;cases u with
 |bl b=>cases b<;>rfl
 |_=>rfl
theorem AL:FJ cb ρ (.bl false,S)=cb ρ S:=rfl
theorem AK:FJ cb ρ (.bl true,S)=some (.bl true,S):=rfl
theorem AM:wC ca ρ S=(ca ρ S).bind C1:=by
 unfold wC;congr 1;funext p;obtain⟨u,S⟩:=p;cases u<;>rfl
theorem yk:C1 (.bl b,S)=some (.bl (!b),S):=rfl
def rX(u:U)(q:List U×Sto):Option (List U×Sto):=some (u::q.1,q.2)
def xH(cr:CA)(ρ:Rho)(p:U×Sto):=(cr ρ p.2).bind (rX p.1)
theorem ym:ay ρ S=some ([],S):=rfl
theorem gB:ae ca cr ρ S=(ca ρ S).bind (xH cr ρ):=rfl
theorem mw:xH cr ρ (u,S)=(cr ρ S).bind (rX u):=rfl
theorem mv:rX u (us,S)=some (u::us,S):=rfl
def Gw(p:List U×Sto):Option (U×Sto):=some (.tup p.1,p.2)
def GC(p:List U×Sto):Option (U×Sto):=some (.ref p.2.length,p.2++[.lst p.1])
theorem Ec:dM cr ρ S=(cr ρ S).bind Gw:=rfl
theorem AD:Gw (us,S)=some (.tup us,S):=rfl
theorem Ew:iB cr ρ S=(cr ρ S).bind GC:=rfl
theorem AR:GC (us,S)=some (.ref S.length,S++[.lst us]):=rfl
def kCB(f:Fn)(p:List U×Sto):=f p.1 p.2
theorem DM{f:Fn}:cCB f cr ρ S=(cr ρ S).bind (kCB f):=rfl
theorem ui{f:Fn}:kCB f (us,S)=f us S:=rfl
def GD(T:Ty)(p:U×Sto):Option (U×Sto):=(tyU p.1 p.2).bind fun t=>some (.bl (uK t T),p.2)
theorem ED{T:Ty}:wD T ca ρ S=(ca ρ S).bind (GD T):=rfl
theorem AY{T:Ty}:GD T (u,S)=(tyU u S).bind fun t=>some (.bl (uK t T),S):=rfl
def CY(c2:CS):Out×Rho×Sto->Option (Out×Rho×Sto)
 |(.nx,ρ,S)=>c2 ρ S
 |(o,ρ,S)=>some (o,ρ,S)
theorem wW:d5 ρ S=some (.nx,ρ,S):=rfl
theorem pW:bH c1 c2 ρ S=(c1 ρ S).bind (CY c2):=by
 unfold bH;congr 1;funext p;obtain⟨o,ρ,S⟩:=p;cases o<;>rfl
theorem kA:CY c2 (.nx,ρ,S)=c2 ρ S:=rfl
theorem AI:CY c2 (.rt u,ρ,S)=some (.rt u,ρ,S):=rfl
theorem AH:CY c2 (.bk,ρ,S)=some (.bk,ρ,S):=rfl
theorem AG:CY c2 (.ct,ρ,S)=some (.ct,ρ,S):=rfl
def C2(ρ:Rho)(p:U×Sto):Option (Out×Rho×Sto):=some (.nx,ρ,p.2)
def Gz(ρ:Rho)(p:U×Sto):Option (Out×Rho×Sto):=some (.rt p.1,ρ,p.2)
theorem nj:dN ca ρ S=(ca ρ S).bind (C2 ρ):=rfl
theorem yv:C2 ρ (u,S)=some (.nx,ρ,S):=rfl
theorem yg:lW ca ρ S=(ca ρ S).bind (Gz ρ):=rfl
theorem AJ:Gz ρ (u,S)=some (.rt u,ρ,S):=rfl
def FN(c1 c2:CS)(ρ:Rho)(p:Bool×Sto):=if p.1=true then c1 ρ p.2 else c2 ρ p.2
theorem kC:mn t c1 c2 ρ S=(t ρ S).bind (FN c1 c2 ρ):=rfl
theorem iS:FN c1 c2 ρ (true,S)=c1 ρ S:=rfl
theorem ni:FN c1 c2 ρ (false,S)=c2 ρ S:=rfl
def kIf(ca cb:CE)(ρ:Rho)(p:Bool×Sto):=if p.1=true then ca ρ p.2 else cb ρ p.2
theorem GZ:cIf t ca cb ρ S=(t ρ S).bind (kIf ca cb ρ):=rfl
theorem EH:kIf ca cb ρ (true,S)=ca ρ S:=rfl
theorem EG:kIf ca cb ρ (false,S)=cb ρ S:=rfl
def Gx(i:Nat)(ρ:Rho)(p:U×Sto):Option (Out×Rho×Sto):=some (.nx,ρ.set i (some p.1),p.2)
theorem kr:b6 i ca ρ S=(ca ρ S).bind (Gx i ρ):=rfl
theorem iR:Gx i ρ (u,S)=some (.nx,ρ.set i (some u),S):=rfl
def zT(q:Rho×Sto):Option (Out×Rho×Sto):=some (.nx,q.1,q.2)
def GF(g:CG)(ρ:Rho)(p:U×Sto):=(g p.1 ρ p.2).bind zT
theorem EX{g:CG}:Dy ca g ρ S=(ca ρ S).bind (GF g ρ):=rfl
theorem A6{g:CG}:GF g ρ (u,S)=(g u ρ S).bind zT:=rfl
theorem A5:zT (ρ,S)=some (.nx,ρ,S):=rfl
theorem EJ:gNm i u ρ S=some (ρ.set i (some u),S):=rfl
theorem EI{is:List Nat}:gTp is (.tup us) ρ S=(dh is us ρ).bind fun ρ'=>some (ρ',S):=rfl
theorem Bb:dh [] [] ρ=some ρ:=rfl
theorem Ba{is:List Nat}:dh (i::is) (u::us) ρ=dh is us (ρ.set i (some u)):=rfl
def CZ(ρ:Rho)(S':Sto):Option (Out×Rho×Sto):=some (.nx,ρ,S')
def FH(o v:U)(ρ:Rho)(r:U×Sto):=(hE o r.1 v r.2).bind (CZ ρ)
def FI(ci:CE)(v:U)(ρ:Rho)(q:U×Sto):=(ci ρ q.2).bind (FH q.1 v ρ)
def kSI(co ci:CE)(ρ:Rho)(p:U×Sto):=(co ρ p.2).bind (FI ci p.1 ρ)
theorem GQ:sZ ca cb cc ρ S=(cc ρ S).bind (kSI ca cb ρ):=rfl
theorem Ei:kSI ca cb ρ (u,S)=(ca ρ S).bind (FI cb u ρ):=rfl
theorem Eh:FI cb y ρ (u,S)=(cb ρ S).bind (FH u y ρ):=rfl
theorem Eg:FH x y ρ (u,S)=(hE x u y S).bind (CZ ρ):=rfl
theorem Ef:CZ ρ S=some (.nx,ρ,S):=rfl
def kIx(y:U)(S:Sto):Option O->Option (U×Sto)
 | some (.lst us)=>(match y with
   |.int i=>(atI us i).bind fun u=>some (u,S)
   |_=>none)
 |some (.dic kus)=>(gh y).bind fun k=>(fq kus k).bind fun u=>some (u,S)
 |some (.fdc _ kus)=>(gh y).bind fun k=>(fq kus k).bind fun u=>some (u,S)
 |_=>none
theorem Ey{j:Int}:fIx (.tup us) (.int j) S=(atI us j).bind fun u=>some (u,S):=rfl
theorem Ez:fIx (.ref l) y S=kIx y S S[l]?:=by
 unfold fIx kIx;dsimp only<;>(generalize S[l]?=q;rcases q with _|o<;>first|rfl|(cases o<;>rfl))
theorem EA{j:Int}:kIx (.int j) S (some (.lst us))=(atI us j).bind fun u=>some (u,S):=rfl
theorem EC{kus:List (Key×U)}:kIx y S (some (.dic kus))=(gh y).bind fun k=>(fq kus k).bind fun u=>some (u,S):=rfl
def DX(l:Nat)(i v:U)(S:Sto):Option O->Option Sto
 | some (.lst us)=>(match i with
   |.int k=>(ixN us.length k).bind fun j=>some (S.set l (.lst (us.set j v)))
   |_=>none)
 |some (.dic kus)=>(gh i).bind fun k=>if kus.length<LIM then some (S.set l (.dic (f6 kus k v)))else none
 |_=>none
theorem Ee:hE (.ref l) x y S=DX l x y S S[l]?:=by
 unfold hE DX;dsimp only<;>(generalize S[l]?=q;rcases q with _|o<;>first|rfl|(cases o<;>rfl))
theorem AE{j:Int}:DX l (.int j) y S (some (.lst us))=(ixN us.length j).bind fun j=>some (S.set l (.lst (us.set j y))):=rfl
theorem AF{kus:List (Key×U)}:DX l x y S (some (.dic kus))=(gh x).bind fun k=>if kus.length<LIM then some (S.set l (.dic (f6 kus k y)))else none:=rfl
theorem at0{α:Type}{a:α}{r:List α}:atI (a::r) 0=some a:=by show atI _ ((0:Nat):Int)=_;exact dQ rfl
theorem at1{α:Type}{a b:α}{r:List α}:atI (a::b::r) 1=some b:=by show atI _ ((1:Nat):Int)=_;exact dQ rfl
theorem at2{α:Type}{a b c:α}{r:List α}:atI (a::b::c::r) 2=some c:=by show atI _ ((2:Nat):Int)=_;exact dQ rfl
theorem at3{α:Type}{a b c d:α}{r:List α}:atI (a::b::c::d::r) 3=some d:=by show atI _ ((3:Nat):Int)=_;exact dQ rfl
theorem ix0{n:Nat}:ixN (n+1) 0=some 0:=by simp[ixN]
theorem ix1{n:Nat}:ixN (n+1+1) 1=some 1:=by simp[ixN];omega
theorem ix2{n:Nat}:ixN (n+1+1+1) 2=some 2:=by simp[ixN];omega
def D0(S:Sto):Option O->Option (U×Sto)
 |some (.lst us)=>some (.int us.length,S)
 |some (.dic us)=>some (.int us.length,S)
 |_=>none
theorem AU:ji [.ref l] S=D0 S S[l]?:=by
 unfold ji D0;dsimp only<;>(generalize S[l]?=q;rcases q with _|o<;>first|rfl|(cases o<;>rfl))
theorem AV:D0 S (some (.lst us))=some (.int us.length,S):=rfl
theorem AW{kus:List (Key×U)}:D0 S (some (.dic kus))=some (.int kus.length,S):=rfl
theorem AS:ji [.tup us] S=some (.int us.length,S):=rfl
variable{j k:Int}
theorem yA:cS (.int j) (.int k) S=some (.int (j+k),S):=rfl
theorem Ed:xP (.int j) (.int k) S=some (.int (j-k),S):=rfl
theorem jv(h:x8 j k):gq (.int j) (.int k) S=some (.int (j*k),S):=by simp[gq,fI,h]
theorem A3(h:pQ j k):xQ (.int j) (.int k) S=some (.int (j / k),S):=by simp[xQ,fI,h]
theorem uh(h:0<k):pG (.int j) (.int k) S=some (.int (j % k),S):=by simp[pG,fI,h]
theorem Eu:fLt (.int j) (.int k) S=some (.bl (decide (j<k)),S):=rfl
theorem GY:fLe (.int j) (.int k) S=some (.bl (decide (j<=k)),S):=rfl
theorem G0:fGt (.int j) (.int k) S=some (.bl (decide (k<j)),S):=rfl
theorem G5:fGe (.int j) (.int k) S=some (.bl (decide (k<=j)),S):=rfl
theorem EO:fEq (.int j) (.int k) S=some (.bl (decide (j=k)),S):=rfl
theorem Es:fNe (.int j) (.int k) S=some (.bl (!decide (j=k)),S):=rfl
theorem EN{a c:Str}:fEq (.str a) (.str c) S=some (.bl (decide (a=c)),S):=rfl
theorem Er{a c:Str}:fNe (.str a) (.str c) S=some (.bl (!decide (a=c)),S):=rfl
theorem ER{a c:Bool}:fEq (.bl a) (.bl c) S=some (.bl (decide (a=c)),S):=rfl
theorem Et{a c:Bool}:fNe (.bl a) (.bl c) S=some (.bl (!decide (a=c)),S):=rfl
def kFn:Out×Rho×Sto->Option (U×Sto)
 |(.rt u,_,S)=>some (u,S)
 |(.nx,_,S)=>some (.non,S)
 |_=>none
theorem wX{n k:Nat}(h:us.length=k):fnU n k c1 us S=(c1 (kL n us) S).bind kFn:=by
 unfold fnU;rw[if_pos h];congr 1;funext p;obtain⟨o,ρ,S⟩:=p;cases o<;>rfl
theorem EL:kFn (.rt u,ρ,S)=some (u,S):=rfl
theorem EK:kFn (.nx,ρ,S)=some (.non,S):=rfl
end
section
variable{ρ:Rho}{S:Sto}{c1 c2:CS}{t ta tb:CT}{ca cb cc:CE}{cr:CA}{u x y:U}{us:List U}{i l:Nat}{b:Bool}{c:Cl}{fus:List (Option U)}{g:Fn}
open Classical in
def vW(c:Cl)(i:Nat)(S:Sto):Option O->Option (U×Sto)
 |some (.ins c' fus)=>if c'=c then(fus[i]?).join.bind fun u=>some (u,S)else none
 |_=>none
def FO(c:Cl)(i:Nat)(p:U×Sto):=F2 c i p.1 p.2
theorem EM:Hn c i ca ρ S=(ca ρ S).bind (FO c i):=rfl
theorem A1:FO c i (.ref l,S)=vW c i S S[l]?:=by
 unfold FO F2 vW;dsimp only<;>(generalize S[l]?=q;rcases q with _|o<;>first|rfl|(cases o<;>rfl))
theorem A0:vW c i S (some (.ins c fus))=((fus[i]?).join).bind fun u=>some (u,S):=by
 unfold vW;dsimp only;rw[if_pos rfl]
open Classical in
def DY(c:Cl)(i l:Nat)(v:U)(S:Sto):Option O->Option Sto
 |some (.ins c' fus)=>if c'=c then some (S.set l (.ins c (fus.set i (some v))))else none
 |_=>none
def DZ(c:Cl)(i:Nat)(v:U)(ρ:Rho)(q:U×Sto):=(Ac c i q.1 v q.2).bind (CZ ρ)
def Gy(c:Cl)(i:Nat)(ca:CE)(ρ:Rho)(p:U×Sto):=(ca ρ p.2).bind (DZ c i p.1 ρ)
theorem GR:F7 c i ca cb ρ S=(cb ρ S).bind (Gy c i ca ρ):=rfl
theorem El:Gy c i ca ρ (u,S)=(ca ρ S).bind (DZ c i u ρ):=rfl
theorem Ek:DZ c i u ρ (.ref l,S)=(DY c i l u S S[l]?).bind (CZ ρ):=by
 unfold DZ Ac DY;dsimp only<;>(generalize S[l]?=q;rcases q with _|o<;>first|rfl|(cases o<;>rfl))
theorem Ej:DY c i l u S (some (.ins c fus))=some (S.set l (.ins c (fus.set i (some u)))):=by
 unfold DY;dsimp only;rw[if_pos rfl]
def rW(g:Fn)(l:Nat)(q:List U×Sto):=g (.ref l::q.1) q.2
open Classical in
def oy(c:Cl)(g:Fn)(cr:CA)(ρ:Rho)(l:Nat)(S:Sto):Option O->Option (U×Sto)
 |some (.ins c' _)=>if c'=c then(cr ρ S).bind (rW g l)else none
 |_=>none
def zS(c:Cl)(g:Fn)(cr:CA)(ρ:Rho)(p:U×Sto):=Ad c g p.1 p.2 (cr ρ)
theorem AQ:F8 c g ca cr ρ S=(ca ρ S).bind (zS c g cr ρ):=rfl
theorem yp:zS c g cr ρ (.ref l,S)=oy c g cr ρ l S S[l]?:=by
 unfold zS Ad oy;dsimp only<;>(generalize S[l]?=q;rcases q with _|o<;>first|rfl|(cases o<;>rfl))
theorem yo:oy c g cr ρ l S (some (.ins c fus))=(cr ρ S).bind (rW g l):=by
 unfold oy;dsimp only;rw[if_pos rfl]
theorem yn:rW g l (us,S)=g (.ref l::us) S:=rfl
def FL(n:Nat):U×Sto->Option (U×Sto)
 |(.non,S)=>some (.ref n,S)
 |_=>none
theorem yq:FL i (.non,S)=some (.ref i,S):=rfl
def kIn(neg:Bool)(x:U)(S:Sto):Option O->Option (U×Sto)
 |some (.lst us)=>if eC x=true/\us.all eC=true then some (.bl (if neg then !inU x us else inU x us),S)else none
 |some (.dic kus)=>(gh x).bind fun k=>some (.bl (if neg then !(fq kus k).isSome else(fq kus k).isSome),S)
 |some (.fdc _ kus)=>(gh x).bind fun k=>some (.bl (if neg then !(fq kus k).isSome else(fq kus k).isSome),S)
 |_=>none
theorem EE{neg:Bool}:fIn neg x (.ref l) S=kIn neg x S S[l]?:=by
 unfold fIn kIn;dsimp only<;>(generalize S[l]?=q;rcases q with _|o<;>first|rfl|(cases o<;>rfl))
theorem EF{neg:Bool}{kus:List (Key×U)}:kIn neg x S (some (.dic kus))=(gh x).bind fun k=>some (.bl (if neg then !(fq kus k).isSome else(fq kus k).isSome),S):=rfl
theorem Ex{j:Int}:gh (.int j)=some (.inl j):=rfl
theorem AX{z:Str}:gh (.str z)=some (.inr z):=rfl
def FU(f:U->List U->Sto->Option (U×Sto))(x:U)(q:List U×Sto):=f x q.1 q.2
def FV(f:U->List U->Sto->Option (U×Sto))(cr:CA)(ρ:Rho)(x:U)(S:Sto):Option O->Option (U×Sto)
 |some (.lst _)=>(cr ρ S).bind (FU f x)
 |_=>none
def kBM(f:U->List U->Sto->Option (U×Sto))(cr:CA)(ρ:Rho):U×Sto->Option (U×Sto)
 |(.ref l,S)=>FV f cr ρ (.ref l) S S[l]?
 |_=>none
variable{fm:U->List U->Sto->Option (U×Sto)}
theorem DN:cBM fm ca cr ρ S=(ca ρ S).bind (kBM fm cr ρ):=by
 unfold cBM;congr 1;funext p;obtain⟨u,S⟩:=p
 cases u<;>try rfl
theorem um:kBM fm cr ρ (.ref l,S)=FV fm cr ρ (.ref l) S S[l]?:=rfl
theorem uk:FV fm cr ρ x S (some (.lst us))=(cr ρ S).bind (FU fm x):=rfl
theorem uj:FU fm x (us,S)=fm x us S:=rfl
def D1(l:Nat)(u:U)(S:Sto):Option O->Option (U×Sto)
 |some (.lst us)=>if us.length<LIM then some (.non,S.set l (.lst (us++[u])))else none
 |_=>none
theorem EY:bE (.ref l) [u] S=D1 l u S S[l]?:=by
 unfold bE D1;dsimp only<;>(generalize S[l]?=q;rcases q with _|o<;>first|rfl|(cases o<;>rfl))
theorem iT(h:us.length<LIM):D1 l u S (some (.lst us))=some (.non,S.set l (.lst (us++[u]))):=by
 unfold D1;dsimp only;rw[if_pos h]
def FP(ku xu:U)(S:Sto):Option O->Option (U×Sto)
 |some (.dic kus)=>(gh ku).bind fun k=>some ((fq kus k).getD xu,S)
 |_=>none
def FQ(l:Nat)(ku:U)(r:U×Sto):=FP ku r.1 r.2 r.2[l]?
def FR(l:Nat)(cx:CE)(ρ:Rho)(q:U×Sto):=(cx ρ q.2).bind (FQ l q.1)
def FT(l:Nat)(ck cx:CE)(ρ:Rho)(S:Sto):Option O->Option (U×Sto)
 |some (.dic _)=>(ck ρ S).bind (FR l cx ρ)
 |_=>none
def kDG(ck cx:CE)(ρ:Rho):U×Sto->Option (U×Sto)
 |(.ref l,S)=>FT l ck cx ρ S S[l]?
 |_=>none
theorem G6:Dx ca cb cc ρ S=(ca ρ S).bind (kDG cb cc ρ):=by
 unfold Dx;congr 1;funext p;obtain⟨u,S⟩:=p
 cases u<;>try rfl
theorem EW:kDG cb cc ρ (.ref l,S)=FT l cb cc ρ S S[l]?:=rfl
theorem EV{kus:List (Key×U)}:FT l cb cc ρ S (some (.dic kus))=(cb ρ S).bind (FR l cc ρ):=rfl
theorem EU:FR l cc ρ (u,S)=(cc ρ S).bind (FQ l u):=rfl
theorem ET:FQ l u (x,S)=FP u x S S[l]?:=rfl
theorem ES{kus:List (Key×U)}:FP u x S (some (.dic kus))=(gh u).bind fun k=>some ((fq kus k).getD x,S):=rfl
theorem A2:F9 ρ S=some (.ref S.length,S++[.dic []]):=rfl
def kP3(k:Key)(u:U)(z:List (Key×U)×Sto):Option (List (Key×U)×Sto):=some ((k,u)::z.1,z.2)
def kP2(r:List (CE×CE))(ρ:Rho)(x:U)(q:U×Sto):=(gh x).bind fun k=>(gN r ρ q.2).bind (kP3 k q.1)
def kP1(cv:CE)(r:List (CE×CE))(ρ:Rho)(p:U×Sto):=(cv ρ p.2).bind (kP2 r ρ p.1)
variable{pr:List (CE×CE)}
theorem GW:gN [] ρ S=some ([],S):=rfl
theorem x_p:gN ((ca,cb)::pr) ρ S=(ca ρ S).bind (kP1 cb pr ρ):=rfl
theorem GV:kP1 cb pr ρ (u,S)=(cb ρ S).bind (kP2 pr ρ u):=rfl
theorem GU:kP2 pr ρ x (u,S)=(gh x).bind fun k=>(gN pr ρ S).bind (kP3 k u):=rfl
theorem GS{k:Key}{z:List (Key×U)}:kP3 k u (z,S)=some ((k,u)::z,S):=rfl
def kD1(n:Nat)(kus:List (Key×U))(S:Sto):Option O->Option (U×Sto)
 |some (.dic [])=>some (.ref n,S.set n (.dic (rB kus)))
 |_=>none
def kD(n:Nat)(q:List (Key×U)×Sto):=kD1 n q.1 q.2 q.2[n]?
theorem A4:Dw pr ρ S=(gN pr ρ (S++[.dic []])).bind (kD S.length):=by
 unfold Dw;congr 1
theorem yx{z:List (Key×U)}:kD i (z,S)=kD1 i z S S[i]?:=rfl
theorem yw{z:List (Key×U)}:kD1 i z S (some (.dic []))=some (.ref i,S.set i (.dic (rB z))):=rfl
theorem Az:du [.tup us] S=some (.tup us,S):=rfl
def FG(S:Sto):Option O->Option (U×Sto)
 |some (.lst us)=>some (.tup us,S)
 |_=>none
theorem AA:du [.ref l] S=FG S S[l]?:=by
 unfold du FG;dsimp only<;>(generalize S[l]?=q;rcases q with _|o<;>first|rfl|(cases o<;>rfl))
theorem AB:FG S (some (.lst us))=some (.tup us,S):=rfl
theorem yr:fK [.tup us] S=some (.ref S.length,S++[.lst us]):=rfl
def kLs(S:Sto):Option O->Option (U×Sto)
 |some (.lst us)=>some (.ref S.length,S++[.lst us])
 |_=>none
theorem yt:fK [.ref l] S=kLs S S[l]?:=by
 unfold fK kLs;dsimp only<;>(generalize S[l]?=q;rcases q with _|o<;>first|rfl|(cases o<;>rfl))
theorem yu:kLs S (some (.lst us))=some (.ref S.length,S++[.lst us]):=rfl
theorem AZ:Dm [.bl b] S=some (.int (if b then 1 else 0),S):=rfl
theorem ga{X:Sto}{n:Nat}:(S++X)[S.length+n]?=X[n]?:=by rw[List.getElem?_append_right (Nat.le_add_right _ _),Nat.add_sub_cancel_left]
theorem ga0{X:Sto}:(S++X)[S.length]?=X[0]?:=ga (n:=0)
theorem gs{X:Sto}{n:Nat}{o:O}:(S++X).set (S.length+n) o=S++X.set n o:=by rw[List.set_append_right _ _ (Nat.le_add_right _ _),Nat.add_sub_cancel_left]
theorem gs0{X:Sto}{o:O}:(S++X).set S.length o=S++X.set 0 o:=gs (n:=0)
section
variable{ok:Sto->Prop}{gg:CG}{cbd:CS}{ρ0 ρ1:Rho}{S0 S1:Sto}
theorem bK(h:ok S):bX ok gg cbd [] ρ S=some (.nx,ρ,S):=by unfold bX;rw[if_pos h]
theorem cQ(h:ok S)(hg:gg u ρ S=some (ρ0,S0))(hb:cbd ρ0 S0=some (.nx,ρ1,S1)):bX ok gg cbd (u::us) ρ S=bX ok gg cbd us ρ1 S1:=by
 rw[bX];dsimp only;rw[if_pos h,hg,Option.bind_some];dsimp only;rw[hb,Option.bind_some]
theorem uC{n:Nat}(ht:t ρ S=some (true,S0))(hb:cbd ρ S0=some (.nx,ρ1,S1)):cI t cbd (n+1) ρ S=cI t cbd n ρ1 S1:=by
 rw[cI];dsimp only;rw[ht,Option.bind_some];dsimp only;rw[if_pos rfl,hb,Option.bind_some]
theorem qj{n:Nat}(ht:t ρ S=some (false,S0)):cI t cbd (n+1) ρ S=some (.nx,ρ,S0):=by
 rw[cI];dsimp only;rw[ht,Option.bind_some];dsimp only;rw[if_neg (by decide)]
theorem lP{ce:CE}{ys:List U}(h:ok S)(hg:gg u ρ S=some (ρ0,S0))(he:ce ρ0 S0=some (x,S1))(hl:S1[l]?=some (.lst ys))(hn:ys.length<LIM):fh ok gg ce l (u::us) ρ S=fh ok gg ce l us ρ0 (S1.set l (.lst (ys++[x]))):=by
 rw[fh,if_pos h,hg,Option.bind_some];dsimp only;rw[he,Option.bind_some];dsimp only;rw[hl];dsimp only;rw[if_pos hn]
theorem oG{ce:CE}(h:ok S):fh ok gg ce l [] ρ S=some S:=by rw[fh,if_pos h]
end
end
theorem GN{p:List Value->Prop}(h:p [])(us:List Value)(e:us.length=0):p us:=by rw[List.length_eq_zero_iff.mp e];exact h
theorem Ho{n:Nat}{p:List Value->Prop}(h:∀a us,us.length=n->p (a::us))(us:List Value)(e:us.length=n+1):p us:=by
 cases us with
 |nil=>cases e
 |cons a us=>exact h a us (Nat.succ.inj e)
theorem oB{X:Cx}{pins:List (Addr×Obj)}{σ:L2.St}{H:Hp}{s:Shared}{a:Addr}{o u:HO}(I:Inv X pins σ H s)(e:H a=some o)(nt:∀xs,o≠.tup xs)(no:∀x,o≠.own x)(nb:∀ps,o≠.tbl ps)
  (nf:∀ob u,X.H₀ a≠some (.frz ob u)) (new:bt X.prog X.w (upd H a u) s.heap a u):Inv X pins σ (upd H a u) s:=by
 have nn:∀b,H b=none->upd H a u b=none:=fun b q=>by rw[aJ (Ne.symm (bB e q))];exact q
 have ho:∀b x,H b=some (.own x)->upd H a u b=some (.own x):=fun b x q=>by
  rw[aJ];exact q
  intro z;subst z;rw[e]at q;cases q;exact no _ rfl
 have ht:∀b xs,H b=some (.tup xs)->upd H a u b=some (.tup xs):=fun b x q=>by
  rw[aJ];exact q
  intro z;subst z;rw[e]at q;cases q;exact nt _ rfl
 refine⟨I.ok,I.os,I.bare,⟨I.base.keep,I.base.slot,fun b ob q1 q2 q3=>nn _ (I.base.free b ob q1 q2 q3),I.base.there,fun b xs q=>ht _ _ (I.base.tups b xs q),fun b ob v q=>?_,fun b ps q=>?_⟩,I.loc,I.cell,nn _ I.free,fun x c q=>nn _ (I.freeC x c q),fun p hp=>?_,fun b v q=>?_,I.len⟩
 ·rw[aJ];exact I.base.frzs b ob v q
  intro z;subst z;exact nf _ _ q
 ·obtain⟨more,q'⟩:=I.base.tbls b ps q
  refine⟨more,?_⟩
  rw[aJ];exact q'
  intro z;subst z;rw[e]at q';cases q';exact nb _ rfl
 ·obtain⟨p1,p2,p3⟩:=I.pin p hp
  exact⟨p1,nn _ p2,p3⟩
 ·by_cases hb:b=a
  ·subst hb;rw[aH]at q;cases q;exact new
  ·rw[aJ hb]at q
   exact(I.hok b v q).stay (fun _ _ _ g=>g) (fun c g=>ho c b g) fun c xs g=>ht c xs g
def DG(X:Cx)(a:Addr):Prop:=∀ob u,X.H₀ a≠some (.frz ob u)
def kU:Key->U
 |.inl i=>.int i
 |.inr x=>.str x
theorem C8{K:PySem.W.Frag}{m:List Addr}{H:Hp}(k:Key):Is K m H (kV k) (kU k):=by
 cases k with
 |inl i=>exact .int_
 |inr x=>exact .str_
open Classical in
def uni{α:Type}(F:Nat->Option α):Option α:=if h:∃r,∀n,F n=some r then some h.choose else none
theorem Bj{α:Type}{F:Nat->Option α}{r:α}(h:∀n,F n=some r):uni F=some r:=by
 have hx:∃r,∀n,F n=some r:=⟨r,h⟩
 unfold uni
 rw[dif_pos hx]
 have:=hx.choose_spec 0
 rw[h 0]at this
 exact this.symm
theorem uH{α:Type}{F:Nat->Option α}{r:α}(h:uni F=some r)(n:Nat):F n=some r:=by
 unfold uni at h
 split at h
 ·rename_i hx
  cases h
  exact hx.choose_spec n
 ·cases h
end OP
namespace OG
open PySem PySem.Spec PyProof.Rows L2
def jC(wi:TI)(g:TG)(tt:TT)(te:TE)(n:Nat)(caps:List Nat):TE:=fun σ H Q=>wi σ H fun J H1=>∀l,H1 l=none->∃W:Nat->Nat->L2.St->Hp->Prop,(∃m,W 0 m (stC n caps σ) (upd H1 l (.lst [])))/\
 ∀i m σ' H2,W i m σ' H2->(J.stop i H2/\Q (.ref l) H2)\/(J.go i H2/\∃N:L2.St->Hp->Prop,(∀σ'' H',N σ'' H'->∃m',m'<m/\W (i+1) m' σ'' H')/\
  ∀x H3,J.yld i H2 x H3->g x σ' H3 fun σ2 H4=>tt σ2 H4 fun b H5=>match b with
   |true=>te σ2 H5 fun v H6=>∃ys,H6 l=some (.lst ys)/\ys.length<sizeLine/\N σ2 (upd H6 l (.lst (ys++[v])))
   |false=>N σ2 H5)
theorem iN{prog:Program}{w:World}{A:Around}{R:Result->Shared->Prop}{s:Shared}{elt target iter c:Expr}{scope:Scope}{pos:Pos}{it acc:Value}{env:Env}(I:Nat->Shared->Prop)
  (turn:∀n s,I n s->wpAny (model prog w) A (pyNext it) (fun r s₁=>match r with
   |none=>R (.ok .next) s₁
   |some v=>wpAny (model prog w) A (letOwnedTupleGo target it v) (fun _ s₁'=>wpAny (model prog w) A (assign target env v) (fun _ s₂=>wpAny (model prog w) A (PySem.isTrue c env (eval c env)) (fun b s₂'=>match b with
    |true=>wpAny (model prog w) A (eval elt env) (fun x s₃=>
     wpAny (model prog w) A (call (.builtin "list.append") [acc,x]) (fun _ s₄=>∃m,m<n/\I m s₄) (fun _ _=>False) s₃)
     (fun _ _=>False) s₂'
    |false=>∃m,m<n/\I m s₂') (fun _ _=>False) s₂) (fun _ _=>False) s₁') (fun _ _=>False) s₁) (fun _ _=>False) s)
  (n:Nat) (h:I n s) :
  codeAny (model prog w) A (.compLoop (.ListComp elt [⟨target,iter,[c],0⟩] scope pos) 0 it acc env) R s:=by
 refine codeAny_loop rfl I (fun n s hI=>?_) n h
 show wpAny _ _ ((compTurn (.ListComp elt [⟨target,iter,[c],0⟩] scope pos) 0 it acc env).onRaise (fun x=>do noteFrame x env;theTreesLotGoes x)) _ _ s
 refine wpAny_noted ?_
 rw[compTurn_list]
 refine wpAny_bind (wpAny_standAt (wpAny_bind (wpAny_mono (turn n s hI) (fun r s₁ h₁=>?_) fun _ _ h'=>h'.elim)))
 cases r with
 |none=>exact wpAny_pure h₁
 |some v=>
  refine wpAny_bind (wpAny_mono h₁ (fun _ s₁' h₁'=>?_) fun _ _ h'=>h'.elim)
  refine wpAny_bind (wpAny_mono h₁' (fun _ s₂ h₂=>?_) fun _ _ h'=>h'.elim)
  dsimp only
  simp only[List.forIn_cons,List.forIn_nil,if_true,bind_assoc,pure_bind]
  refine wpAny_bind (wpAny_mono h₂ (fun b s₂' h₂'=>?_) fun _ _ h'=>h'.elim)
  cases b with
  |true=>
   rw[if_pos rfl]
   exact wpAny_bind (wpAny_mono h₂' (fun x s₃ h₃=>wpAny_bind (wpAny_mono h₃
    (fun _ s₄ h₄=>wpAny_pure ⟨rfl,h₄⟩) fun _ _ h'=>h'.elim)) fun _ _ h'=>h'.elim)
  |false=>
   rw[if_neg Bool.false_ne_true]
   exact wpAny_pure ⟨rfl,h₂'⟩
theorem jq{X:Cx}{Nc capN tn:List Str}{scope:Scope}{cl:List (Str×Addr)}{n:Nat}{caps:List Nat}{tg iter elt:Expr}{pos:Pos}{wi:TI}{g:TG}{te:TE}{tt:TT}{c:Expr}
  (hc:X.calm=true) (hi:WI X tg iter wi) (hg:∀s3 H3 fp,WG (cxC X Nc scope cl s3 H3 fp) tg g) (he:∀s3 H3 fp,WE (cxC X Nc scope cl s3 H3 fp) elt te)
  (ht:∀s3 H3 fp,WT (cxC X Nc scope cl s3 H3 fp) c tt)
  (hclos:closureFor scope X.env=pure cl) (hkind:scope.kind=.function) (hnl:∀x∈scope.names,x.2=.local->scope.names.lookup x.1=some .local) (hcell:∀x∈scope.names,x.2≠.cell)
  (hcl:oR X.env cl) (hhas:((relabel scope X.env).names.all fun p=>!(p.2 == .cell||p.2 == .free)||(cl.lookup p.1).isSome)=true)
  (hcap:Paired (Cap X scope cl) caps capN) (hN:Nc=tn++capN) (hn:tn.length=n)
  {use:Option (Value->Sem Unit)} {pins:List (Addr×Obj)} {σ:L2.St} {H:Hp} {s:Shared} {Q:VK} {Qf:Value->Shared->Prop} (I:Inv X pins σ H s) (h:jC wi g tt te n caps σ H Q)
  (hend:∀(D C:Addr) (s6:Shared) (H5:Hp) (m:Str->Option Value),Inv X pins σ H5 s6->s6.heap.Ns C m->H5 C=none->C≠X.env.locals->X.s₀.heap.objs.size<=C->(∀x c,X.env.cells.lookup x=some c->c≠C)->(∀p∈X.pn++pins,p.1≠C)->Q (.ref D) H5->compPost (model X.prog X.w) X.A X.xe use Qf (.ref D) C (.ok .next) s6)
  (hs:∀x,foldedSetIterable iter X.env x=pure x) :
  wpAny (model X.prog X.w) X.A (comprehension (.ListComp elt [⟨tg,iter,[c],0⟩] scope pos) scope X.env (firstIterPos [⟨tg,iter,[c],0⟩] pos) (newList []) (firstAsync [⟨tg,iter,[c],0⟩]) (firstIter [⟨tg,iter,[c],0⟩] X.env) use) Qf X.xe s:=by
 refine wpAny_comprehension_free (use:=use) (g:=⟨tg,iter,[c],0⟩) (gs:=[]) rfl hs hclos hkind hnl (thn (hi.h pins s σ H _ I h) fun v s1 h1=>thn h1 fun itv s2 h2=>?_)
 obtain⟨it,fp,tnn,J,H2,rfl,I2,T,st2,f2,hW⟩:=h2
 have hD:=I2.fresh
 obtain⟨W,⟨m0,w0⟩,turn⟩:=hW _ hD
 refine wpAny_newObj_type (wpAny_newFunctionEnv hcell (by intro y hy;simp at hy) (fun h₁ hns₁ hsb₁=>?_) hkind)
 dsimp only at hns₁ hsb₁ ⊢
 have I3:Inv X pins σ (upd H2 s2.heap.objs.size (.lst [])) { s2 with heap:=s2.heap.push { cls:=.type "list",dict:=none,data:=.seq ([]:List Value).toArray },toks:=s2.toks }:=I2.lnew (its:=[]) .nil (Nat.zero_le _)
 generalize hs3:({ s2 with heap:=s2.heap.push { cls:=.type "list",dict:=none,data:=.seq ([]:List Value).toArray },toks:=s2.toks }:Shared)=s3 at I3
 have es3:s3.heap=s2.heap.push { cls:=.type "list",dict:=none,data:=.seq ([]:List Value).toArray }:=by rw[<-hs3]
 generalize hDD:s2.heap.objs.size=D at *
 have kept:∀b o,s3.heap.get? b=some o->h₁.get? b=some o:=fun b o e=>by
  have lt:=Heap.lt_size e
  rw[es3]at lt e
  exact hsb₁.extBut b o (Nat.ne_of_lt lt) (Heap.get?_push_of_some _ e)
 have old:∀b o,s2.heap.get? b=some o->s3.heap.get? b=some o:=fun b o e=>by rw[es3];exact Heap.get?_push_of_some _ e
 have ltD:∀b∈fp,b<D:=fun b hb=>by
  obtain⟨o,e,_⟩:=T.obj 0 _ st2 b hb
  rw[<-hDD];exact Heap.lt_size e
 have fo:∀b∈fp,b<s3.heap.objs.size:=fun b hb=>by
  obtain⟨o,e,_⟩:=T.obj 0 _ st2 b hb
  exact Heap.lt_size (old _ _ e)
 have f3:∀b∈fp,tX X pins (upd H2 D (.lst [])) b:=fun b hb=>by
  refine⟨?_,(f2 b hb).2⟩
  rw[aJ (Nat.ne_of_lt (ltD b hb))]
  exact(f2 b hb).1
 rw[<-es3]at hns₁ hsb₁ ⊢
 have Ic:=fun t'=>Inv.comp (h1:=h₁) (t':=t') (Nc:=Nc) (n:=n) I3 hc f3 fo hkind hcl hhas hcap tn hN hn hns₁ kept
 have stat:∀{H':Hp},(∀b∈fp,H' b=none)->∀b∈fp,tX (cxC X Nc scope cl s3 (upd H2 D (.lst [])) fp) [] H' b:=fun hn' b hb=>by
  refine⟨hn' b hb,Nat.ne_of_lt (fo b hb),fun z=>?_,.inl hb,fun x c e=>(f2 b hb).2.2.2.2.1 x c (hcl.look e),fun p hp=>(by simp at hp)⟩
  rcases List.mem_cons.mp (I3.stkSub b z)with q|q
  ·exact(f2 b hb).2.1 q
  ·exact(f2 b hb).2.2.1 q
 have loop:∀s4:Shared,(∃t',s4={ s3 with heap:=h₁,toks:=t' })->codeAny (model X.prog X.w) X.A (.compLoop (.ListComp elt [⟨tg,iter,[c],0⟩] scope pos) 0 (.ref it) (.ref D) (compEnvC scope cl s3.heap.objs.size X.env))
   (compPost (model X.prog X.w) X.A X.xe use Qf (.ref D) s3.heap.objs.size) s4:=by
  rintro s4 ⟨t',rfl⟩
  refine iN (fun n' s'=>∃i σ' H',Inv (cxC X Nc scope cl s3 (upd H2 D (.lst [])) fp) [] σ' H' s'/\tnn i s'.heap/\(∀b∈fp,H' b=none)/\W i n' σ' H') ?_ m0
   ⟨0,_,_,Ic t',T.keep 0 _ _ st2 fun b hb o e=>kept _ _ (old _ _ e),fun b hb=>(f3 b hb).1,w0⟩
  rintro n' s5 ⟨i,σ5,H5,I5,st5,fr5,w5⟩
  rcases turn i n' σ5 H5 w5 with⟨stop,qn⟩|⟨go,N,hN',step⟩
  ·refine thn (T.done (cxC X Nc scope cl s3 (upd H2 D (.lst [])) fp) rfl rfl rfl hc i [] s5 σ5 H5 (fun _ _=>False) I5 (stat fr5) st5 stop) fun r s6 ⟨hr,I6⟩=>?_
   subst hr
   obtain⟨m,hm,_⟩:=I6.loc
   have I7:Inv X pins σ H5 s6:=Inv.call' (ch:=fp) I3 I6.os I6.base I6.hok I6.bare fun b hb=>⟨(f2 b hb).2.2.2.1,(f2 b hb).2.1,(f2 b hb).2.2.2.2.1,(f2 b hb).2.2.2.2.2⟩
   exact hend D _ s6 H5 m I7 hm I6.free (Ne.symm (Nat.ne_of_lt I3.lt)) I3.sz (fun x c e=>by
     obtain⟨v',o,ho,_⟩:=I3.cell x c e
     exact Nat.ne_of_lt (Heap.lt_size ho)) (fun p hp=>Nat.ne_of_lt (Heap.lt_size (I3.pin p hp).1)) qn
  ·refine thn (T.item (cxC X Nc scope cl s3 (upd H2 D (.lst [])) fp) rfl rfl rfl hc i [] s5 σ5 H5 (fun _ _=>False) I5 (stat fr5) st5 go) fun r s6 ⟨u,hr,h6⟩=>?_
   subst hr
   refine thn h6 fun _ s7 hz=>?_
   obtain⟨x,H7,I7,r7,y7,st7,fr7⟩:=hz
   have I7':=I7.pinned (stat fr7) (T.obj _ _ st7)
   refine thn ((hg s3 (upd H2 D (.lst [])) fp).h _ s7 σ5 H7 x u _ I7' r7 (step x H7 y7)) fun _ s8 hz=>?_
   obtain⟨σ8,H8,I8,q8⟩:=hz
   have fin:∀{s10:Shared} {H10:Hp},Inv (cxC X Nc scope cl s3 (upd H2 D (.lst [])) fp) _ σ8 H10 s10->N σ8 H10->∃m',m'<n'/\∃i' σ' H',Inv (cxC X Nc scope cl s3 (upd H2 D (.lst [])) fp) [] σ' H' s10/\tnn i' s10.heap/\(∀b∈fp,H' b=none)/\W i' m' σ' H':=fun{s10 H10} I10 q10=>by
    obtain⟨m',hm,w10⟩:=hN' σ8 H10 q10
    refine⟨m',hm,i+1,σ8,H10,Inv.unpinned I10,T.keep _ _ _ st7 fun b hb o e=>(Inv.pin I10 (b,o) (List.mem_append_right _ (List.mem_append_right _ (cq hb e)))).1,fun b hb=>?_,w10⟩
    obtain⟨o,e,d⟩:=T.obj _ _ st7 b hb
    exact(Inv.pin I10 (b,o) (List.mem_append_right _ (List.mem_append_right _ (cq hb e)))).2.1
   refine thn ((ht s3 (upd H2 D (.lst [])) fp).h _ s8 σ8 H8 _ I8 q8) fun b9 s9' h9=>?_
   obtain⟨H9',I9',q9'⟩:=h9
   cases b9 with
   |false=>exact fin I9' q9'
   |true=>
    refine thn ((he s3 (upd H2 D (.lst [])) fp).h _ s9' σ8 H9' _ I9' q9') fun v9 s9 hz=>?_
    obtain⟨x9,H9,I9,r9,ys,hy,hlt,q9⟩:=hz
    exact thn (gO (X:=cxC X Nc scope cl s3 (upd H2 D (.lst [])) fp) _ s9 σ8 H9 (.ref D) [x9] (.ref D) [v9] (fun _ H'=>N σ8 H') I9 rfl (.cons r9 .nil) ⟨D,ys,x9,rfl,rfl,hy,hlt,q9⟩) fun _ s10 ⟨_,H10,I10,_,q10⟩=>fin I10 q10
 have e4:∀t',({ s2 with heap:=h₁,toks:=t' }:Shared)={ s3 with heap:=h₁,toks:=t' }:=fun t'=>by rw[<-hs3]
 refine codeAny_compStart_list (loop _ ⟨_,e4 _⟩) (T.self _ 0 _ _ _ (T.keep 0 _ _ st2 fun b hb o e=>kept _ _ (old _ _ e)) (loop _ ⟨_,e4 _⟩))
theorem oU{X:Cx}{Nc capN tn:List Str}{scope:Scope}{cl:List (Str×Addr)}{n:Nat}{caps:List Nat}{tg iter elt:Expr}{pos:Pos}{wi:TI}{g:TG}{te:TE}{tt:TT}{c:Expr}
  (hc:X.calm=true) (hi:WI X tg iter wi) (hg:∀s3 H3 fp,WG (cxC X Nc scope cl s3 H3 fp) tg g) (he:∀s3 H3 fp,WE (cxC X Nc scope cl s3 H3 fp) elt te)
  (ht:∀s3 H3 fp,WT (cxC X Nc scope cl s3 H3 fp) c tt)
  (hclos:closureFor scope X.env=pure cl) (hkind:scope.kind=.function) (hnl:∀x∈scope.names,x.2=.local->scope.names.lookup x.1=some .local) (hcell:∀x∈scope.names,x.2≠.cell)
  (hcl:oR X.env cl) (hhas:((relabel scope X.env).names.all fun p=>!(p.2 == .cell||p.2 == .free)||(cl.lookup p.1).isSome)=true)
  (hcap:Paired (Cap X scope cl) caps capN) (hN:Nc=tn++capN) (hn:tn.length=n)
  (hs:∀x,foldedSetIterable iter X.env x=pure x:=by intro _;rfl) :
  WE X (.ListComp elt [⟨tg,iter,[c],0⟩] scope pos) (jC wi g tt te n caps):=by
 constructor
 intro pins s σ H Q I h
 rw[eval_ListComp]
 refine jq hc hi hg he ht hclos hkind hnl hcell hcl hhas hcap hN hn I h (fun D C s6 H5 m I7 hm fr nl sz cn pn qn=>⟨m,hm,fun h' hs'=>?_⟩) hs
 exact⟨.ref D,H5,I7.turned (t':=s6.toks) (it:=C) (fun b o hb e=>hs'.extBut b o hb e) fr nl (.inr sz) cn pn,rfl,qn⟩
end OG
namespace OP
open PySem PySem.Spec PyProof.Rows L2 OG
open Classical in
def br(ok:Sto->Prop)(g:CG)(ct:CT)(ce:CE)(l:Nat):List U->Rho->Sto->Option Sto
 |[],_,S=>if ok S then some S else none
 |u::us,ρ,S=>if ok S then(g u ρ S).bind fun p=>(ct p.1 p.2).bind fun q=>if q.1=true then(ce p.1 q.2).bind fun r=>match r.2[l]? with
  |some (.lst ys)=>if ys.length<LIM then br ok g ct ce l us p.1 (r.2.set l (.lst (ys++[r.1])))else none
  |_=>none else br ok g ct ce l us p.1 q.2 else none
def bh(ci:CI)(g:CG)(ct:CT)(ce:CE)(n:Nat)(caps:List Nat):CE:=fun ρ S=>(ci ρ S).bind fun p=>(br p.2.1 g ct ce p.2.2.length p.1 (jH n caps ρ) (p.2.2++[.lst []])).bind fun S'=>some (.ref p.2.2.length,S')
section
variable{X:Cx}{K:PySem.W.Frag}
theorem mS{g:CG}{ct:CT}{ce:CE}{n:Nat}{caps:List Nat}{J:It}{us:List U}{ok:Sto->Prop}{Q:VK}{m1:List Addr}{H1:Hp}{S1 S':Sto}{ρ:Rho}{σ:L2.St}{l:Addr}(sr1:Sr K m1 S1 H1)(lr:Lr K m1 H1 ρ σ)(ito:wV K J m1 H1 us ok)(hl:H1 l=none)(h2:br ok g ct ce S1.length us (jH n caps ρ) (S1++[.lst []])=some S')
  (post:∀m2 H2,Ext K (m1++[l]) (upd H1 l (.lst [])) m2 H2->Sr K m2 S' H2->Q (.ref l) H2) :
  ∃W:Nat->Nat->L2.St->Hp->Prop,(∃m,W 0 m (OG.stC n caps σ) (upd H1 l (.lst [])))/\
 ∀i m σ' H2,W i m σ' H2->(J.stop i H2/\Q (.ref l) H2)\/(J.go i H2/\∃N:L2.St->Hp->Prop,(∀σ'' H',N σ'' H'->∃m',m'<m/\W (i+1) m' σ'' H')/\
  ∀x H3,J.yld i H2 x H3->tG K g x σ' H3 fun σ2 H4=>tT K ct σ2 H4 fun b H5=>match b with
   |true=>tE K ce σ2 H5 fun v H6=>∃ys,H6 l=some (.lst ys)/\ys.length<sizeLine/\N σ2 (upd H6 l (.lst (ys++[v])))
   |false=>N σ2 H5):=by
 have ee:Ext K m1 H1 (m1++[l]) (upd H1 l (.lst [])):=.new (bj hl _)
 let W:Nat->Nat->L2.St->Hp->Prop:=fun i k σ2 H2=>k=us.length-i/\i<=us.length/\∃m2 ρ2 S2,Ext K (m1++[l]) (upd H1 l (.lst [])) m2 H2/\Sr K m2 S2 H2/\Lr K m2 H2 ρ2 σ2/\br ok g ct ce S1.length (us.drop i) ρ2 S2=some S'
 refine⟨W,⟨us.length,by simp,Nat.zero_le _,m1++[l],jH n caps ρ,S1++[.lst []],.refl,sr1.new (o:=.lst []) hl ⟨[],aH,.nil_⟩,rG (lr.mono ee),by simpa using h2⟩,?_⟩
 rintro i k σ2 H2 ⟨rfl,hi,m2,ρ2,S2,e2,sr2,lr2,hl2⟩
 by_cases hlt:i<us.length
 ·have hu:=List.getElem?_eq_getElem hlt
  rw[ie hu]at hl2
  unfold br at hl2
  split at hl2
  ·rename_i hok
   obtain⟨⟨ρ3,S3⟩,h3,hl2⟩:=Option.bind_eq_some_iff.mp hl2
   obtain⟨⟨b4,S4⟩,h4,hl2⟩:=Option.bind_eq_some_iff.mp hl2
   obtain⟨hgo,hy⟩:=(ito m2 S2 H2 i (ee.trans e2) sr2 hok).1 _ hu
   refine .inr ⟨hgo,W (i+1) (us.length-(i+1)),fun σ' H' w'=>⟨_,by omega,w'⟩,fun x H3 y=>?_⟩
   obtain⟨e3,sr3,ix⟩:=hy x H3 y
   refine⟨m2,ρ2,S2,_,ρ3,S3,sr3,lr2.mono e3,ix,h3,fun m4 σ4 H4 e4 sr4 lr4=>⟨m4,ρ3,S3,b4,S4,sr4,lr4,h4,fun m4' H4' e4' sr4'=>?_⟩⟩
   cases b4 with
   |false=>
    rw[if_neg Bool.false_ne_true]at hl2
    exact⟨rfl,hlt,m4',ρ3,_,(((e2.trans e3).trans e4).trans e4'),sr4',lr4.mono e4',hl2⟩
   |true=>
    rw[if_pos rfl]at hl2
    obtain⟨⟨u5,S5⟩,h5,hl2⟩:=Option.bind_eq_some_iff.mp hl2
    simp only at hl2
    split at hl2<;>try cases hl2
    rename_i ys hys
    split at hl2<;>try cases hl2
    rename_i hlen
    refine⟨m4',ρ3,S4,u5,S5,sr4',lr4.mono e4',h5,fun m5 v5 H5 e5 sr5 i5=>?_⟩
    obtain⟨a',ha',xs,hx,il⟩:=sr5.get hys
    have ha:m5[S1.length]?=some l:=((((e2.trans e3).trans e4).trans e4').trans e5).get (bY sr1.len)
    rw[ha]at ha';cases ha'
    have eu:Ext K m5 H5 m5 (upd H5 l (.lst (xs++[v5]))):=.of (sr5.keep ha _)
    exact⟨xs,hx,CK (by rw[il.length];exact hlen),rfl,hlt,m5,ρ3,_,(((((e2.trans e3).trans e4).trans e4').trans e5).trans eu),sr5.put (o:=.lst (ys++[u5])) ha ⟨_,aH,(il.append (.cons_ i5 .nil_)).mono eu⟩,(lr4.mono ((e4'.trans e5).trans eu)),hl2⟩
  ·cases hl2
 ·have e:i=us.length:=by omega
  subst e
  rw[List.drop_length]at hl2
  unfold br at hl2
  split at hl2
  ·rename_i hok
   cases hl2
   exact .inl ⟨(ito m2 _ H2 _ (ee.trans e2) sr2 hok).2 (Nat.le_refl _),post m2 H2 e2 sr2⟩
  ·cases hl2
theorem jn{ci:CI}{g:CG}{ct:CT}{ce:CE}{n:Nat}{caps:List Nat}:∀σ H Q,tE K (bh ci g ct ce n caps) σ H Q->jC (tI K ci) (tG K g) (tT K ct) (tE K ce) n caps σ H Q:=by
 rintro σ H Q ⟨m,ρ,S,u,S',sr,lr,hc,post⟩
 obtain⟨⟨us,ok,S1⟩,h1,h2⟩:=Option.bind_eq_some_iff.mp hc
 obtain⟨S2,h2,h3⟩:=Option.bind_eq_some_iff.mp h2
 cases h3
 refine⟨m,ρ,S,us,ok,S1,sr,lr,h1,fun m1 H1 J e1 sr1 ito l hl=>?_⟩
 have ee:Ext K m1 H1 (m1++[l]) (upd H1 l (.lst [])):=.new (bj hl _)
 exact mS sr1 (lr.mono e1) ito hl h2 fun m2 H2 e2 sr2=>post m2 _ H2 ((e1.trans ee).trans e2) sr2 (.ref_ (e2.get (bY sr1.len)))
theorem jL{Nc capN tn:List Str}{scope:Scope}{cl:List (Str×Addr)}{n:Nat}{caps:List Nat}{tg iter elt:Expr}{pos:Pos}{ci:CI}{g:CG}{ct:CT}{ce:CE}{c:Expr}
  (hc:X.calm=true) (hi:QI X tg iter ci) (hg:∀s3 H3 fp,WG (cxC X Nc scope cl s3 H3 fp) tg (tG X.K g)) (ht:∀s3 H3 fp,WT (cxC X Nc scope cl s3 H3 fp) c (tT X.K ct)) (he:∀s3 H3 fp,WE (cxC X Nc scope cl s3 H3 fp) elt (tE X.K ce))
  (hclos:closureFor scope X.env=pure cl) (hkind:scope.kind=.function) (hnl:∀x∈scope.names,x.2=.local->scope.names.lookup x.1=some .local) (hcell:∀x∈scope.names,x.2≠.cell)
  (hcl:oR X.env cl) (hhas:((relabel scope X.env).names.all fun p=>!(p.2 == .cell||p.2 == .free)||(cl.lookup p.1).isSome)=true)
  (hcap:Paired (Cap X scope cl) caps capN) (hN:Nc=tn++capN) (hn:tn.length=n)
  (hs:∀x,foldedSetIterable iter X.env x=pure x:=by intro _;rfl) :
  QE X (.ListComp elt [⟨tg,iter,[c],0⟩] scope pos) (bh ci g ct ce n caps):=(oU hc hi hg he ht hclos hkind hnl hcell hcl hhas hcap hN hn hs).imp jn
end
end OP
namespace OP
open PySem PySem.Spec PyProof PyProof.Rows L2 OG
mutual
inductive RdV(K:PySem.W.Frag)(H:Hp):V->PyData->Prop
 |non:RdV K H .non .none
 |bl (b:Bool):RdV K H (.bl b) (.bool b)
 |int (i:Int):RdV K H (.int i) (.int i)
 |str (x:Str):RdV K H (.str x) (.str x)
 |lst {a:Addr} {xs:List V} {ds:List PyData}:SqL K H a xs->tP K H xs ds->RdV K H (.ref a) (.list ds)
 |tup {a:Addr} {xs:List V} {ds:List PyData}:SqT K H a xs->tP K H xs ds->RdV K H (.ref a) (.tuple ds)
inductive tP(K:PySem.W.Frag)(H:Hp):List V->List PyData->Prop
 |nil:tP K H [] []
 |cons {x:V} {xs:List V} {d:PyData} {ds:List PyData}:RdV K H x d->tP K H xs ds->tP K H (x::xs) (d::ds)
end
mutual
inductive Dt(S:Sto):U->PyData->Prop
 |non:Dt S .non .none
 |bl (b:Bool):Dt S (.bl b) (.bool b)
 |int (i:Int):Dt S (.int i) (.int i)
 |str (x:Str):Dt S (.str x) (.str x)
 |lst {l:Nat} {us:List U} {ds:List PyData}:S[l]?=some (.lst us)->DtL S us ds->Dt S (.ref l) (.list ds)
 |tup {us:List U} {ds:List PyData}:DtL S us ds->Dt S (.tup us) (.tuple ds)
inductive DtL(S:Sto):List U->List PyData->Prop
 |nil:DtL S [] []
 |cons {x:U} {xs:List U} {d:PyData} {ds:List PyData}:Dt S x d->DtL S xs ds->DtL S (x::xs) (d::ds)
end
section
variable{X:Cx}{K:PySem.W.Frag}{pins:List (Addr×Obj)}{σ:L2.St}{H:Hp}{s:Shared}
mutual
theorem RdV.reads(I:Inv X pins σ H s):∀{x:V} {d:PyData} {v:Value},RdV X.K H x d->bu x v->∃as,Reads s.heap v d as
 |_,_,_,.non,r=>by cases r;exact⟨_,.none⟩
 |_,_,_,.bl b,r=>by cases r;exact⟨_,.bool b⟩
 |_,_,_,.int i,r=>by obtain⟨t,rfl⟩:=r;exact⟨_,.int i t⟩
 |_,_,_,.str i,r=>by obtain⟨t,rfl⟩:=r;exact⟨_,.str i t⟩
 |_,_,_,.lst (a:=a) h t,r=>by
  cases r
  obtain⟨its,rv,pl,_⟩:=I.list h
  obtain⟨as,k⟩:=tP.reads I t rv
  obtain⟨o,h1,h2,n,h3⟩:=pl.isList
  exact⟨_,.list h1 h2 h3 (by simpa using k)⟩
 |_,_,_,.tup (a:=a) h t,r=>by
  cases r
  obtain⟨its,rv,pl,_⟩:=I.tuple h
  obtain⟨as,k⟩:=tP.reads I t rv
  obtain⟨o,h1,h2,n,h3⟩:=pl
  exact⟨_,.tuple h1 h2 h3 (by simpa using k)⟩
theorem tP.reads(I:Inv X pins σ H s):∀{xs:List V} {ds:List PyData} {vs:List Value},tP X.K H xs ds->aV xs vs->∃as,ReadsAll s.heap vs ds as
 |_,_,_,.nil,r=>by cases r;exact⟨_,.nil⟩
 |_,_,_,.cons h t,.cons r rs=>by
  obtain⟨as,a⟩:=RdV.reads I h r
  obtain⟨bs,b⟩:=tP.reads I t rs
  exact⟨_,.cons a b⟩
end
mutual
theorem Dt.rd{m:List Addr}{S:Sto}(sr:Sr K m S H):∀{u:U} {d:PyData} {v:V},Dt S u d->Is K m H v u->RdV K H v d
 |_,_,_,.non,i=>by rw[i.of_non];exact .non
 |_,_,_,.bl b,i=>by rw[i.of_bl];exact .bl b
 |_,_,_,.int b,i=>by rw[i.of_int];exact .int b
 |_,_,_,.str b,i=>by rw[i.of_str];exact .str b
 |_,_,_,.lst h t,i=>by
  obtain⟨a,ha,rfl⟩:=i.of_ref
  obtain⟨a',ha',xs,hx,il⟩:=sr.get h
  rw[ha]at ha';cases ha'
  exact .lst (SqL.of hx) (DtL.rd sr t il)
 |_,_,_,.tup t,i=>by
  obtain⟨a,xs,rfl,sa,la⟩:=i.of_tup
  exact .tup sa (DtL.rd sr t la)
theorem DtL.rd{m:List Addr}{S:Sto}(sr:Sr K m S H):∀{us:List U} {ds:List PyData} {vs:List V},DtL S us ds->IsL K m H vs us->tP K H vs ds
 |_,_,_,.nil,i=>by rw[i.of_nil];exact .nil
 |_,_,_,.cons h t,i=>by
  obtain⟨x,r,rfl,i1,i2⟩:=i.of_cons
  exact .cons (Dt.rd sr h i1) (DtL.rd sr t i2)
end
mutual
theorem Dt.uniq{S:Sto}:∀{u:U} {d e:PyData},Dt S u d->Dt S u e->d=e
 |_,_,_,.non,.non=>rfl
 |_,_,_,.bl _,.bl _=>rfl
 |_,_,_,.int _,.int _=>rfl
 |_,_,_,.str _,.str _=>rfl
 |_,_,_,.lst h t,.lst h' t'=>by
  rw[h]at h';cases h'
  rw[DtL.uniq t t']
 |_,_,_,.tup t,.tup t'=>by rw[DtL.uniq t t']
theorem DtL.uniq{S:Sto}:∀{us:List U} {ds es:List PyData},DtL S us ds->DtL S us es->ds=es
 |_,_,_,.nil,.nil=>rfl
 |_,_,_,.cons h t,.cons h' t'=>by rw[Dt.uniq h h',DtL.uniq t t']
end
def wU(d:PyData):Prop:=d.canLay0=true/\d.depth<=60
def E8(K:PySem.W.Frag)(neg:Bool):R2:=fun x y H Q=>(∃dx dy,RdV K H x dx/\RdV K H y dy/\wU dx/\wU dy/\Q (.bl (if neg then !dx.eqv dy else dx.eqv dy)) H)\/
 ∃a b xs ys,x=.ref a/\y=.ref b/\SqL K H a xs/\SqL K H b ys/\xs.length≠ys.length/\Q (.bl neg) H
theorem xC(hu:X.A.units+64<cLine):OpR X (compareOp .Eq) (E8 X.K false):=by
 rintro pins s σ H x y v u Q I rx ry (⟨dx,dy,hx,hy,lx,ly,q⟩|⟨a,b,xs,ys,rfl,rfl,ha,hb,ne,q⟩)
 ·obtain⟨as,hx⟩:=hx.reads I rx
  obtain⟨bs,hy⟩:=hy.reads I ry
  exact SeqAt.compareEq_reads hx hy lx.1 ly.1 (by have:=lx.2;omega) ⟨.bl _,H,I,rfl,q⟩
 ·cases rx
  cases ry
  obtain⟨i1,r1,p1,_⟩:=I.list ha
  obtain⟨i2,r2,p2,_⟩:=I.list hb
  have l1:=r1.length
  have l2:=r2.length
  exact SeqAt.RcAt.lists_lengths p1.isList p2.isList (by simp;omega) (by omega) X.prog X.w X.xe _ ⟨.bl false,H,I,rfl,q⟩
theorem xB(hu:X.A.units+64<cLine):OpR X (compareOp .NotEq) (E8 X.K true):=by
 rintro pins s σ H x y v u Q I rx ry (⟨dx,dy,hx,hy,lx,ly,q⟩|⟨a,b,xs,ys,rfl,rfl,ha,hb,ne,q⟩)
 ·obtain⟨as,hx⟩:=hx.reads I rx
  obtain⟨bs,hy⟩:=hy.reads I ry
  exact SeqAt.compareNe_reads hx hy lx.1 ly.1 (by have:=lx.2;omega) ⟨.bl _,H,I,rfl,q⟩
 ·cases rx
  cases ry
  obtain⟨i1,r1,p1,_⟩:=I.list ha
  obtain⟨i2,r2,p2,_⟩:=I.list hb
  have l1:=r1.length
  have l2:=r2.length
  exact SeqAt.RcNeAt.lists_lengths p1.isList p2.isList (by simp;omega) (by omega) X.prog X.w X.xe _ ⟨.bl true,H,I,rfl,q⟩
def t7(x y:U)(S:Sto)(b:Bool):Prop:=(∃dx dy,Dt S x dx/\Dt S y dy/\wU dx/\wU dy/\b=dx.eqv dy)\/∃l l' us vs,x=.ref l/\y=.ref l'/\S[l]?=some (.lst us)/\S[l']?=some (.lst vs)/\us.length≠vs.length/\b=false
theorem DtL.length{S:Sto}:∀{us:List U} {ds:List PyData},DtL S us ds->us.length=ds.length
 |_,_,.nil=>rfl
 |_,_,.cons _ t=>by rw[List.length_cons,List.length_cons,DtL.length t]
theorem t7.mix{l l':Nat}{us vs:List U}{S:Sto}{dx dy:PyData}(h1:Dt S (.ref l) dx)(h2:Dt S (.ref l') dy)(k1:S[l]?=some (.lst us))(k2:S[l']?=some (.lst vs))(ne:us.length≠vs.length):dx.eqv dy=false:=by
 cases h1 with
 |lst a1 t1=>
  cases h2 with
  |lst a2 t2=>
   rw[k1]at a1;cases a1
   rw[k2]at a2;cases a2
   show PyData.eqvAll _ _=false
   exact SeqAt.eqvAll_other_length (by rw[<-t1.length,<-t2.length];exact ne)
theorem t7.uniq{x y:U}{S:Sto}{b c:Bool}(h:t7 x y S b)(k:t7 x y S c):b=c:=by
 rcases h with⟨dx,dy,h1,h2,_,_,rfl⟩|⟨l,l',us,vs,rfl,rfl,h1,h2,ne,rfl⟩
 ·rcases k with⟨ex,ey,k1,k2,_,_,rfl⟩|⟨l,l',us,vs,rfl,rfl,k1,k2,ne,rfl⟩
  ·rw[h1.uniq k1,h2.uniq k2]
  ·exact t7.mix h1 h2 k1 k2 ne
 ·rcases k with⟨ex,ey,k1,k2,_,_,rfl⟩|⟨_,_,_,_,_,_,_,_,_,rfl⟩
  ·exact(t7.mix k1 k2 h1 h2 ne).symm
  ·rfl
open Classical in
def lI(neg:Bool):U->U->Sto->Option (U×Sto):=fun x y S=>if h:∃b,t7 x y S b then some (.bl (if neg then !h.choose else h.choose),S)else none
theorem kg{x y:U}{S:Sto}{b:Bool}(neg:Bool)(h:t7 x y S b):lI neg x y S=some (.bl (if neg then !b else b),S):=by
 unfold lI
 rw[dif_pos ⟨b,h⟩]
 have e:(⟨b,h⟩:∃b,t7 x y S b).choose=b:=(Exists.choose_spec (⟨b,h⟩:∃b,t7 x y S b)).uniq h
 rw[e]
theorem vx{neg:Bool}:OpP K (E8 K neg) (lI neg):=by
 intro m S H x y v w u S' Q sr ix iy hf post
 unfold lI at hf
 split at hf<;>try cases hf
 rename_i h
 have hb:=h.choose_spec
 generalize h.choose=b at hb post
 rcases hb with⟨dx,dy,h1,h2,l1,l2,rfl⟩|⟨l,l',us,vs,rfl,rfl,h1,h2,ne,rfl⟩
 ·exact .inl ⟨dx,dy,h1.rd sr ix,h2.rd sr iy,l1,l2,post m _ H .refl sr .bl_⟩
 ·obtain⟨a,ha,rfl⟩:=ix.of_ref
  obtain⟨a',ha',xs,hx,la⟩:=sr.get h1
  rw[ha]at ha';cases ha'
  obtain⟨c,hc,rfl⟩:=iy.of_ref
  obtain⟨c',hc',ys,hy,lc⟩:=sr.get h2
  rw[hc]at hc';cases hc'
  refine .inr ⟨a,c,xs,ys,rfl,rfl,SqL.of hx,SqL.of hy,by rw[la.length,lc.length];exact ne,?_⟩
  have e:(if neg=true then !false else false)=neg:=by cases neg<;>rfl
  have:=post m _ H .refl sr (Is.bl_ (b:=if neg=true then !false else false))
  rw[e]at this
  exact this
def pJ(us:List U)(lo hi:Option Int):List U:=(us.drop (HT.sIx us.length 0 lo)).take (HT.sIx us.length us.length hi-HT.sIx us.length 0 lo)
theorem oF{m:List Addr}{xs:List V}{us:List U}{lo hi:Option Int}(i:IsL K m H xs us):IsL K m H (xU xs lo hi) (pJ us lo hi):=by
 unfold xU pJ
 rw[i.length]
 exact(i.drop _).take _
def fSl(x:U)(lo hi:Option Int)(S:Sto):Option (U×Sto):=match x with
 |.tup us=>if HT.sIx us.length 0 lo=0/\HT.sIx us.length us.length hi=us.length then none else some (.tup (pJ us lo hi),S)
 |.ref l=>match S[l]? with
  |some (.lst us)=>some (.ref S.length,S++[.lst (pJ us lo hi)])
  |_=>none
 |_=>none
def iO:Option CE->Rho->Sto->Option (Option Int×Sto)
 |none,_,S=>some (none,S)
 |some c,ρ,S=>(c ρ S).bind fun p=>match p.1 with
  |.int i=>some (some i,p.2)
  |_=>none
def cSl(ca:CE)(cl ch:Option CE):CE:=fun ρ S=>(ca ρ S).bind fun p=>(iO cl ρ p.2).bind fun q=>(iO ch ρ q.2).bind fun r=>fSl p.1 q.1 r.1 r.2
def Gb(K:PySem.W.Frag)(m:List Addr)(H:Hp)(Q:Option Int->Hp->Prop)(o:Option Int)(S':Sto):Prop:=∀m' H',Ext K m H m' H'->Sr K m' S' H'->Q o H'
def tO(K:PySem.W.Frag)(c:Option CE):TO:=fun σ H Q=>∃m ρ S o S',Sr K m S H/\Lr K m H ρ σ/\iO c ρ S=some (o,S')/\Gb K m H Q o S'
abbrev QO(X:Cx)(e:Option Expr)(c:Option CE):Prop:=WO X e (tO X.K c)
theorem gM:QO X none none:=⟨fun pins s σ H Q I hz=>fU hz fun m ρ S o S' sr lr hc post=>uw.h pins s σ H Q I (by cases hc;exact post m H .refl sr)⟩
theorem gK{e:Expr}{ca:CE}(h:QE X e ca):QO X (some e) (some ca):=⟨fun pins s σ H Q I hz=>fU hz fun m ρ S o S' sr lr hc post=>(uv h).h pins s σ H Q I (by
 obtain⟨⟨x,S1⟩,h1,h2⟩:=Option.bind_eq_some_iff.mp hc
 refine⟨m,ρ,S,x,S1,sr,lr,h1,fun m1 v1 H1 e1 sr1 i1=>?_⟩
 cases x<;>simp at h2
 obtain⟨rfl,rfl⟩:=h2
 exact⟨_,i1.of_int,post m1 H1 e1 sr1⟩)⟩
theorem DT{e:Expr}{lo hi:Option Expr}{ca:CE}{cl ch:Option CE}{pos p2:Pos}(ha:QE X e ca)(hl:QO X lo cl)(hh:QO X hi ch):QE X (.Subscript e (.Slice lo hi none p2) pos) (cSl ca cl ch):=(kF (qy.or xc) ha hl hh).imp fun σ H Q hz=>fU hz fun m ρ S u S' sr lr hc post=>by
 obtain⟨⟨x,S1⟩,h1,ha⟩:=Option.bind_eq_some_iff.mp hc
 obtain⟨⟨l,S2⟩,h2,hb⟩:=Option.bind_eq_some_iff.mp ha
 obtain⟨⟨k,S3⟩,h3,h⟩:=Option.bind_eq_some_iff.mp hb
 clear ha hb hc
 refine⟨m,ρ,S,x,S1,sr,lr,h1,fun m1 v1 H1 e1 sr1 i1=>⟨m1,ρ,S1,l,S2,sr1,lr.mono e1,h2,fun m2 H2 e2 sr2=>⟨m2,ρ,S2,k,S3,sr2,lr.mono (e1.trans e2),h3,fun m3 H3 e3 sr3=>?_⟩⟩⟩
 have i3:=i1.mono (e2.trans e3)
 have e03:=(e1.trans e2).trans e3
 cases x with
 |tup us=>
  simp only[fSl]at h
  split at h<;>try cases h
  rename_i hw
  obtain⟨a,xs,rfl,sa,la⟩:=i3.of_tup
  exact .inr ⟨a,xs,rfl,sa,by rw[la.length];exact hw,fun p hp=>gc sr3 (oF la) (post.mono e03) hp⟩
 |ref r=>
  simp only[fSl]at h
  split at h<;>try cases h
  rename_i us hS
  obtain⟨a,ha,rfl⟩:=i3.of_ref
  obtain⟨a',ha',xs,hx,la⟩:=sr3.get hS
  rw[ha]at ha';cases ha'
  exact .inl ⟨a,xs,rfl,SqL.of hx,fun p hp=>bC sr3 (oF la) (post.mono e03) hp⟩
 |_=>simp[fSl]at h
end
section
variable{X:Cx}{K:PySem.W.Frag}
instance {us:List U}:Decidable (us≠[]):=match us with
 |[]=>.isFalse fun h=>h rfl
 |_::_=>.isTrue fun h=>by cases h
end
end OP
namespace OG
open PySem PySem.Spec PyProof.Rows L2
theorem Cv{C a:Addr}{m:Str->Option Value}{h h':Heap}(n:h.Ns C m)(s:Heap.SameBut a h h')(ne:C≠a):h'.Ns C m:=by
 obtain⟨o,es,ep,e,r⟩:=n
 exact⟨o,es,ep,(s.2 C ne).trans e,r⟩
theorem kE{X:Cx}{Nc capN tn:List Str}{scope:Scope}{cl:List (Str×Addr)}{n:Nat}{caps:List Nat}{tg iter elt:Expr}{pos:Pos}{wi:TI}{g:TG}{te:TE}{tt:TT}{c:Expr}
  (hc:X.calm=true) (hi:WI X tg iter wi) (hg:∀s3 H3 fp,WG (cxC X Nc scope cl s3 H3 fp) tg g) (he:∀s3 H3 fp,WE (cxC X Nc scope cl s3 H3 fp) elt te)
  (ht:∀s3 H3 fp,WT (cxC X Nc scope cl s3 H3 fp) c tt)
  (hclos:closureFor scope X.env=pure cl) (hkind:scope.kind=.function) (hnl:∀x∈scope.names,x.2=.local->scope.names.lookup x.1=some .local) (hcell:∀x∈scope.names,x.2≠.cell)
  (hcl:oR X.env cl) (hhas:((relabel scope X.env).names.all fun p=>!(p.2 == .cell||p.2 == .free)||(cl.lookup p.1).isSome)=true)
  (hcap:Paired (Cap X scope cl) caps capN) (hN:Nc=tn++capN) (hn:tn.length=n)
  {i₀:Nat} {x₀:Str} {pos₀ pos':Pos} (hN0:X.N.Nodup) (hi0:X.N[i₀]?=some x₀) (hx0:X.env.scope.names.lookup x₀=some .local)
  (hsw:swapsWith (.ListComp elt [⟨tg,iter,[c],0⟩] scope pos) (some (.Name x₀ pos')) pos₀.line X.env=pure true)
  (hs:∀x,foldedSetIterable iter X.env x=pure x:=by intro _;rfl) :
  WS X (.Assign [.Name x₀ pos'] (.ListComp elt [⟨tg,iter,[c],0⟩] scope pos) pos₀) (fun D σ H=>jC wi g tt te n caps σ H fun v H'=>D.nx (σ.set i₀ (some v)) H'):=by
 constructor
 intro pins s σ H Dn I h
 rw[exec_Assign_arm]
 refine wpAny_bind (wpAny_standAt ?_)
 have hsw':swapsWithSole [.Name x₀ pos'] (.ListComp elt [⟨tg,iter,[c],0⟩] scope pos) pos₀.line X.env=pure true:=hsw
 rw[hsw']
 refine wpAny_bind (wpAny_pure ?_)
 rw[if_pos rfl,arm_evalThenUse_ListComp]
 refine wpAny_bind (wpAny_bind (jq (Qf:=fun _ s'=>wpAny (model X.prog X.w) X.A (pure ()) (fun _ s'=>wpAny (model X.prog X.w) X.A (pure Flow.next) (SP X pins Dn) X.xe s') X.xe s') hc hi hg he ht hclos hkind hnl hcell hcl hhas hcap hN hn I h (fun D C s6 H5 m I7 hm fr nl sz cn pn qn=>?_) hs))
 show wpAny _ _ (assign (.Name x₀ pos') X.env (.ref D)) _ _ s6
 rw[arm_assign_Name]
 refine wpAny_bind (wpAny_standAt (wpAny_bindName (kK (v:=.ref D) I7 hN0 hi0 (.inl hx0) rfl (fun s7 I7' hsb=>?_) (.inr hx0))))
 obtain⟨a7,hsb,ha7⟩:=hsb
 have cNe:C≠a7:=by
  rcases ha7 with z|z
  ·rw[z];exact nl
  ·exact Ne.symm (cn _ _ z)
 refine⟨m,Cv hm hsb cNe,fun h' hs'=>wpAny_pure (wpAny_pure ⟨_,H5,?_,qn⟩)⟩
 exact I7'.turned (t':=s7.toks) (it:=C) (fun b o hb e=>hs'.extBut b o hb e) fr nl (.inr sz) cn pn
end OG
namespace OP
open PySem PySem.Spec PyProof.Rows L2 OG
section
variable{X:Cx}{K:PySem.W.Frag}
theorem kW{i₀:Nat}{x₀:Str}{pos₀ pos':Pos}{Nc capN tn:List Str}{scope:Scope}{cl:List (Str×Addr)}{n:Nat}{caps:List Nat}{tg iter elt:Expr}{pos:Pos}{ci:CI}{g:CG}{ct:CT}{ce:CE}{c:Expr}
  (hc:X.calm=true) (hi:QI X tg iter ci) (hg:∀s3 H3 fp,WG (cxC X Nc scope cl s3 H3 fp) tg (tG X.K g)) (ht:∀s3 H3 fp,WT (cxC X Nc scope cl s3 H3 fp) c (tT X.K ct)) (he:∀s3 H3 fp,WE (cxC X Nc scope cl s3 H3 fp) elt (tE X.K ce))
  (hclos:closureFor scope X.env=pure cl) (hkind:scope.kind=.function) (hnl:∀x∈scope.names,x.2=.local->scope.names.lookup x.1=some .local) (hcell:∀x∈scope.names,x.2≠.cell)
  (hcl:oR X.env cl) (hhas:((relabel scope X.env).names.all fun p=>!(p.2 == .cell||p.2 == .free)||(cl.lookup p.1).isSome)=true)
  (hcap:Paired (Cap X scope cl) caps capN) (hN:Nc=tn++capN) (hn:tn.length=n)
  (hN0:X.N.Nodup) (hi0:X.N[i₀]?=some x₀) (hx0:X.env.scope.names.lookup x₀=some .local)
  (hsw:swapsWith (.ListComp elt [⟨tg,iter,[c],0⟩] scope pos) (some (.Name x₀ pos')) pos₀.line X.env=pure true)
  (hs:∀x,foldedSetIterable iter X.env x=pure x:=by intro _;rfl) :
  QS X (.Assign [.Name x₀ pos'] (.ListComp elt [⟨tg,iter,[c],0⟩] scope pos) pos₀) (b6 i₀ (bh ci g ct ce n caps)):=(kE hc hi hg he ht hclos hkind hnl hcell hcl hhas hcap hN hn hN0 hi0 hx0 hsw hs).imp fun D σ H hz=>sE hz fun m ρ S o ρ' S' sr lr hc post=>by
 obtain⟨⟨u,S1⟩,h1,h2⟩:=Option.bind_eq_some_iff.mp hc
 cases h2
 exact jn _ _ _ ⟨m,ρ,S,u,_,sr,lr,h1,fun m1 v1 H1 e1 sr1 i1=>post m1 _ H1 e1 sr1 ((lr.mono e1).set i₀ i1)⟩
end
end OP
namespace OP
open PySem PySem.Spec PyProof PyProof.Rows L2 OG
section
variable{X:Cx}{K:PySem.W.Frag}
def tj(ca:CE):CE:=fun ρ S=>(ca ρ S).bind fun p=>match p.1 with
 |.int i=>some (.int (-i),p.2)
 |_=>none
theorem wY:UnR X (unaryOp .USub) (fun x H Q=>∃i,x=.int i/\Q (.int (-i)) H):=by
 rintro pins s σ H x v Q I rx ⟨i,rfl,q⟩
 obtain⟨t,rfl⟩:=rx
 exact PyProof.Rows.neg_int ⟨.int (-i),H,I.tok _,⟨_,rfl⟩,q⟩
theorem qP{a:Expr}{ca:CE}{pos:Pos}(ha:QE X a ca):QE X (.UnaryOp .USub a pos) (tj ca):=(Bf wY ha).imp fun σ H Q hz=>fU hz fun m ρ S u S' sr lr hc post=>by
 obtain⟨⟨x,S1⟩,h1,h2⟩:=Option.bind_eq_some_iff.mp hc
 refine⟨m,ρ,S,x,S1,sr,lr,h1,fun m1 v1 H1 e1 sr1 i1=>?_⟩
 cases x<;>simp at h2
 obtain⟨rfl,rfl⟩:=h2
 exact⟨_,i1.of_int,post m1 _ H1 e1 sr1 .int_⟩
def c8:U->List U->Sto->Option (U×Sto)
 |.ref l,[.ref b],S=>match S[l]?,S[b]? with
  |some (.lst us),some (.lst vs)=>if us.length+vs.length<=LIM then some (.non,S.set l (.lst (us++vs)))else none
  |_,_=>none
 |_,_,_=>none
theorem vw:MtP K qM c8:=by
 intro m S H x v us vs u S' Q sr ix i hf post
 match x,us,hf with
 |.ref l,[.ref b],hf=>
  simp only[c8]at hf
  split at hf<;>try cases hf
  rename_i xs0 ys0 hS hB
  split at hf<;>try cases hf
  rename_i hl
  obtain⟨a,ha,rfl⟩:=ix.of_ref
  obtain⟨a',ha',xs,hx,la⟩:=sr.get hS
  rw[ha]at ha';cases ha'
  obtain⟨y,rfl,iy⟩:=i.one
  obtain⟨c,hc,rfl⟩:=iy.of_ref
  obtain⟨c',hc',ys,hy,lb⟩:=sr.get hB
  rw[hc]at hc';cases hc'
  have eu:Ext K m H m (upd H a (.lst (xs++ys))):=.of (sr.keep ha _)
  exact⟨a,c,xs,ys,rfl,rfl,hx,hy,lim (by rw[la.length,lb.length];exact hl),post m _ _ eu (sr.put ha ⟨_,aH,(la.append lb).mono eu⟩) .non_⟩
def jg:U->List U->Sto->Option (U×Sto)
 |.ref l,[.int i],S=>match S[l]? with
  |some (.lst us)=>if 0<=i/\i<us.length/\us.length<=LIM then(us[i.toNat]?).bind fun u=>some (u,S.set l (.lst (us.eraseIdx i.toNat)))else none
  |_=>none
 |_,_,_=>none
theorem zH:MtP K xm jg:=by
 intro m S H x v us vs u S' Q sr ix i hf post
 match x,us,hf with
 |.ref l,[.int k],hf=>
  simp only[jg]at hf
  split at hf<;>try cases hf
  rename_i ws hS
  split at hf<;>try cases hf
  rename_i hk
  obtain⟨w,hw,h⟩:=Option.bind_eq_some_iff.mp hf
  cases h
  obtain⟨a,ha,rfl⟩:=ix.of_ref
  obtain⟨a',ha',xs,hx,la⟩:=sr.get hS
  rw[ha]at ha';cases ha'
  obtain⟨y,hy,iy⟩:=la.getD hw
  obtain⟨z,rfl,iz⟩:=i.one
  have eu:Ext K m H m (upd H a (.lst (xs.eraseIdx k.toNat))):=.of (sr.keep ha _)
  have hL:ws.length<=100000:=hk.2.2
  exact⟨a,xs,k,k.toNat,y,rfl,by rw[iz.of_int],hx,by omega,by omega,seqIndex_of hk.1 (by rw[la.length];exact hk.2.1),hy,post m _ _ eu (sr.put ha ⟨_,aH,(la.erase _).mono eu⟩) (iy.mono eu)⟩
variable{e:Expr}{es:List Expr}{co:CE}{cr:CA}{o:Expr}{apos cpos:Pos}
theorem fZ (ho : QE X o co) (ha : QA X (e :: es) cr) (hbase : attributeBase o "extend" X.env (eval o X.env) = eval o X.env := by rfl) (hfew : ((backTo cpos (starEach (e :: es) X.env)).all (fun x => !x.1) && (backToKw cpos (keywordEach [] X.env)).all (fun x => x.1.isSome)
   && decide ((e::es).length+([]:List Keyword).length+(if ([]:List Keyword).isEmpty then 0 else 1)<30))=true:=by rfl) (hline:(apos.endLine == cpos.line)=true:=by rfl) (hs:starEach (e::es) X.env=(false,eval e X.env)::starEach es X.env:=by rfl) (hplain:(backTo cpos (starEach es X.env)).any (·.1)=false:=by rfl) :
  QE X (.Call (.Attribute o "extend" apos) (e::es) [] cpos) (cBM c8 co cr):=(ny PySem.F.plainAttrs_list PySem.F.slot_list_extend PySem.F.type_list_extend rA ho ha.h hbase hfew hline hs hplain).imp (oJ vw)
theorem zi (ho : QE X o co) (ha : QA X (e :: es) cr) (hbase : attributeBase o "pop" X.env (eval o X.env) = eval o X.env := by rfl) (hfew : ((backTo cpos (starEach (e :: es) X.env)).all (fun x => !x.1) && (backToKw cpos (keywordEach [] X.env)).all (fun x => x.1.isSome)
   && decide ((e::es).length+([]:List Keyword).length+(if ([]:List Keyword).isEmpty then 0 else 1)<30))=true:=by rfl) (hline:(apos.endLine == cpos.line)=true:=by rfl) (hs:starEach (e::es) X.env=(false,eval e X.env)::starEach es X.env:=by rfl) (hplain:(backTo cpos (starEach es X.env)).any (·.1)=false:=by rfl) :
  QE X (.Call (.Attribute o "pop" apos) (e::es) [] cpos) (cBM jg co cr):=(ny PySem.F.plainAttrs_list PySem.F.slot_list_pop PySem.F.type_list_pop vF ho ha.h hbase hfew hline hs hplain).imp (oJ zH)
def fN(cr:CA):CE:=fun ρ S=>(cr ρ S).bind fun p=>match p.1 with
 |[.int j]=>if 0<=j/\j<=1000 then some (.ref p.2.length,p.2++[.lst (aY 0 j.toNat)])else none
 |_=>none
theorem jc:∀(n:Nat) (a:Int) (vs:List Value),vs.length=n->(∀(j:Nat) (v:Value),vs[j]?=some v->∃t,v=Value.int (a+(j:Int)) t)->aV ((List.range n).map fun i:Nat=>V.int (a+(i:Nat))) vs
 |0,a,vs,hl,h=>by
  rw[List.length_eq_zero_iff.mp hl];exact .nil
 |n+1,a,[],hl,h=>by simp at hl
 |n+1,a,v::vs,hl,h=>by
  rw[List.range_succ_eq_map,List.map_cons,List.map_map]
  refine .cons ?_ ?_
  ·obtain⟨t,e⟩:=h 0 v rfl
   exact⟨t,by simpa using e⟩
  ·have:=jc n (a+1) vs (by simpa using hl) fun j x hx=>by
    obtain⟨t,e⟩:=h (j+1) x (by simpa using hx)
    exact⟨t,by rw[e];congr 1;omega⟩
   have e:(List.range n).map (fun i:Nat=>V.int (a+1+(i:Nat)))=(List.range n).map ((fun i:Nat=>V.int (a+(i:Nat))) ∘ Nat.succ):=List.map_congr_left fun i _=>by
    simp only[Function.comp];congr 1;omega
   rw[<-e];exact this
theorem kH{a:Expr}{ta:TA}{p1 p2 pos1 pos2:Pos}(hc:X.calm=true)(hgl:Gl X "list")(hml:X.mg "list"=none)(hg:Gl X "range")(hm:X.mg "range"=none)(ha:WA X [a] ta)(hs:starEach [a] X.env=[(false,eval a X.env)])
  (hs1:starEach [Expr.Call (.Name "range" p2) [a] [] pos2] X.env=[(false,eval (.Call (.Name "range" p2) [a] [] pos2) X.env)]) :
  WE X (.Call (.Name "list" p1) [.Call (.Name "range" p2) [a] [] pos2] [] pos1) (fun σ H Q=>ta σ H fun vs H1=>∃j:Int,vs=[.int j]/\0<=j/\j<=1000/\∀p,H1 p=none->Q (.ref p) (upd H1 p (.lst ((List.range j.toNat).map fun i:Nat=>V.int (0+(i:Nat)))))):=by
 constructor
 intro pins s σ H Q I h
 refine wpAny_Call_Name_kw (fR I hgl hml OG.cE ?_ (by decide) (by decide))
 refine PyProof.Rows.callWith_type1 ?_ hs1 rfl
 rw[hs1]
 show wpAny _ _ (spliced [(false,eval (.Call (.Name "range" p2) [a] [] pos2) X.env)]) _ _ s
 refine Calls.spliced_cons ?_
 refine Call_ (fR I hg hm boot_range (PyProof.Rows.callWith_type1 (thn (ha.h pos2 pins s σ H _ I h) fun us s1 ⟨vs,H1,I1,r1,q1⟩=>?_) hs rfl))
 obtain⟨j,e,j0,j1,q⟩:=q1
 subst e
 cases r1 with
 |cons r rr=>
  cases rr
  obtain⟨t,rfl⟩:=r
  refine call_range_1 ?_
  refine Calls.spliced_nil ?_
  have hsz:Builtin.Range.rangeSize 0 j 1=((j.toNat:Nat):Int):=by
   unfold Builtin.Range.rangeSize
   simp
   omega
  refine call_list_range (n:=j.toNat) (I1.ok.hd hc) (Heap.get?_push_size _ rfl) ?_ hsz (by omega) fun h' tk acc c' hk hg' hi=>?_
  ·unfold Builtin.Range.small
   rw[hsz]
   unfold Builtin.Range.rangeFitsLong
   simp
   omega
  ·have hv:aV ((List.range j.toNat).map fun i:Nat=>V.int (0+(i:Nat))) acc.toList:=jc j.toNat 0 acc.toList (by simpa using hi.1) fun k v hv=>by
    obtain⟨t,e⟩:=hi.2 k v (by simpa using hv)
    exact⟨t,by rw[e];congr 1;omega⟩
   refine⟨.ref _,_,I1.laid (t':=tk) (o:=.lst ((List.range j.toNat).map fun i:Nat=>V.int (0+(i:Nat)))) (fun b ob q=>hk b ob (Heap.get?_push_of_some _ q)) (by rw[Heap.size_push];omega) ?_,rfl,q _ (I1.hok.fresh (by rw[Heap.size_push];omega))⟩
   exact⟨by rw[List.length_map,List.length_range];exact Nat.le_trans (by omega) (show 1000<=sizeLine by decide),_,_,hv,by simpa using hg'⟩
theorem sd{m:List Addr}{H:Hp}(n:Nat):IsL K m H ((List.range n).map fun i:Nat=>V.int (0+(i:Nat))) (aY 0 n):=by
 unfold aY
 generalize List.range n=l
 induction l with
 |nil=>exact .nil_
 |cons a r ih=>exact .cons_ .int_ ih
theorem mE{a:Expr}{cr:CA}{p1 p2 pos1 pos2:Pos}(hc:X.calm=true)(hgl:Gl X "list")(hml:X.mg "list"=none)(hg:Gl X "range")(hm:X.mg "range"=none)(ha:QA X [a] cr)(hs:starEach [a] X.env=[(false,eval a X.env)])
  (hs1:starEach [Expr.Call (.Name "range" p2) [a] [] pos2] X.env=[(false,eval (.Call (.Name "range" p2) [a] [] pos2) X.env)]) :
  QE X (.Call (.Name "list" p1) [.Call (.Name "range" p2) [a] [] pos2] [] pos1) (fN cr):=(kH hc hgl hml hg hm ha.h hs hs1).imp fun σ H Q hz=>fU hz fun m ρ S u S' sr lr hc post=>by
 obtain⟨⟨ws,S1⟩,h1,h2⟩:=Option.bind_eq_some_iff.mp hc
 simp only at h2
 split at h2<;>try cases h2
 rename_i j
 split at h2<;>try cases h2
 rename_i hj
 refine⟨m,ρ,S,_,S1,sr,lr,h1,fun m1 v1 H1 e1 sr1 i1=>?_⟩
 obtain⟨x,rfl,ix⟩:=i1.one
 rw[ix.of_int]
 exact⟨j,rfl,hj.1,hj.2,fun p hp=>bC sr1 (sd _) (post.mono e1) hp⟩
end
section
variable{X:Cx}{K:PySem.W.Frag}
variable{Nc capN tn:List Str}{scope:Scope}{cl:List (Str×Addr)}{n:Nat}{caps:List Nat}{tg iter elt c:Expr}{pos:Pos}{ci:CE}{g:CG}{ct:CT}{ce:CE}
def yY:List U->Option (List Key)
 |[]=>some []
 |u::r=>(gh u).bind fun k=>(yY r).map (k::·)
theorem my{m:List Addr}{H:Hp}:∀{us:List U} {xs:List V} {ks:List Key},IsL K m H xs us->yY us=some ks->xs=ks.map kV
 |[],xs,ks,i,h=>by cases h;exact i.of_nil
 |u::r,xs,ks,i,h=>by
  obtain⟨x,t,rfl,ix,it⟩:=i.of_cons
  obtain⟨k,hk,h⟩:=Option.bind_eq_some_iff.mp h
  obtain⟨ks',h',rfl⟩:=Option.map_eq_some_iff.mp h
  rw[fH ix hk,my it h'];rfl
def tp:CE:=fun _ S=>some (.ref S.length,S++[.dit []])
theorem qR{pos:Pos}:QE X (.Dict [] [] pos) tp:=qf.imp fun σ H Q hz=>fU hz fun m ρ S u S' sr lr hc post=>by
 cases hc
 exact fun p hp=>post (m++[p]) _ _ (.new (bj hp _)) (sr.new hp ⟨[],aH,.nil_⟩) (.ref_ (bY sr.len))
def eE(co:CE)(cr:CA)(cv:CE):CS:=fun ρ S=>(cv ρ S).bind fun p=>(co ρ p.2).bind fun q=>(cr ρ q.2).bind fun r=>match q.1 with
 |.ref l=>match r.2[l]? with
  |some (.dit kus)=>(yY r.1).bind fun k=>if kus.length<LIM/\r.1.length<=LIM then some (.nx,ρ,r.2.set l (.dit (f6 kus k p.1)))else none
  |_=>none
 |_=>none
theorem kS{o:Expr}{es:List Expr}{e:Expr}{co cv:CE}{cr:CA}{k2:Nat}{p2 pos pos':Pos}(hu:X.A.units+1<cLine)(ho:QE X o co)(hi:QA X es cr)(hv:QE X e cv)
  (hs:swapsWith e (some (.Subscript o (.Tuple es k2 p2) pos')) pos.line X.env=pure false:=by rfl):QS X (.Assign [.Subscript o (.Tuple es k2 p2) pos'] e pos) (eE co cr cv):=
 (nq hu ho (qe hi.h) hv hs).imp fun D σ H hz=>sE hz fun m ρ S oo ρ' S' sr lr hc post=>by
 obtain⟨⟨v,S1⟩,h1,ha⟩:=Option.bind_eq_some_iff.mp hc
 obtain⟨⟨ou,S2⟩,h2,hb⟩:=Option.bind_eq_some_iff.mp ha
 obtain⟨⟨ius,S3⟩,h3,h⟩:=Option.bind_eq_some_iff.mp hb
 clear ha hb hc
 cases ou with
 |ref l=>
  simp only at h
  split at h<;>try cases h
  rename_i kus hS
  obtain⟨k,hk,h4⟩:=Option.bind_eq_some_iff.mp h
  split at h4<;>try cases h4
  rename_i hlen
  refine⟨m,ρ,S,v,S1,sr,lr,h1,fun m1 v1 H1 e1 sr1 i1=>⟨m1,ρ,S1,_,S2,sr1,lr.mono e1,h2,fun m2 v2 H2 e2 sr2 i2=>⟨m2,ρ,S2,ius,S3,sr2,lr.mono (e1.trans e2),h3,fun m3 vs H3 e3 sr3 i3=>?_⟩⟩⟩
  refine⟨lim (by rw[i3.length];exact hlen.2),fun p hp=>?_⟩
  obtain⟨a,ha,rfl⟩:=(i2.mono e3).of_ref
  obtain⟨a',ha',kvs,hx,ip⟩:=sr3.get hS
  rw[ha]at ha';cases ha'
  have hvs:=my i3 hk
  subst hvs
  have s3:pN H3 (upd H3 p (.tup (k.map kV))):=eR hp _
  have en:Ext X.K m3 H3 m3 (upd H3 p (.tup (k.map kV))):=.of (bj hp _)
  have srn:=sr3.same s3
  have hxn:(upd H3 p (.tup (k.map kV))) a=some (.dT kvs):=s3 _ _ hx
  have e13:=((e1.trans e2).trans e3).trans en
  have ee:Ext X.K m3 (upd H3 p (.tup (k.map kV))) m3 (upd (upd H3 p (.tup (k.map kV))) a (.dT (mj kvs k v1))):=.of (srn.keep ha _)
  exact⟨a,_,rfl,x6.t hxn aH (CK (by rw[IsP.length ip];exact hlen.1)),post m3 σ _ (e13.trans ee) (srn.put ha ⟨_,aH,(IsP.put (ip.mono en) (i1.mono ((e2.trans e3).trans en))).mono ee⟩) (lr.mono (e13.trans ee))⟩
 |_=>cases h
end
end OP
namespace OP
open PySem PySem.Spec PyProof PyProof.Rows L2 OG PySem.W
section
variable{cmp:Nat->Nat->(Bool->Shared->Prop)->Shared->Prop}{s:Shared}{n:Nat}{lt:Nat->Nat->Bool}
structure tZ(n:Nat)(lt:Nat->Nat->Bool):Prop where
 tr:∀{i j k},i<n->j<n->k<n->lt i j=true->lt j k=true->lt i k=true
 tot:∀{i j},i<n->j<n->i≠j->lt i j=false->lt j i=true
 asym:∀{i j},i<n->j<n->lt i j=true->lt j i=false
def Ax(cmp:Nat->Nat->(Bool->Shared->Prop)->Shared->Prop)(n:Nat)(lt:Nat->Nat->Bool)(s:Shared):Prop:=∀i j C,i<n->j<n->C (lt i j) s->cmp i j C s
structure Pm(n:Nat)(p:Array Nat):Prop where
 sz:p.size=n
 bd:∀i,i<n->p.getD i 0<n
 ne:∀i j,i<j->j<n->p.getD i 0≠p.getD j 0
def Asc(lt:Nat->Nat->Bool)(p:Array Nat)(k:Nat):Prop:=∀i j,i<j->j<k->lt (p.getD i 0) (p.getD j 0)=true
def Dsc(lt:Nat->Nat->Bool)(p:Array Nat)(k:Nat):Prop:=∀i j,i<j->j<k->lt (p.getD j 0) (p.getD i 0)=true
variable{p:Array Nat}
theorem Pm.ne'(P:Pm n p){i j:Nat}(hi:i<n)(hj:j<n)(h:i≠j):p.getD i 0≠p.getD j 0:=by
 rcases Nat.lt_or_gt_of_ne h with z|z
 ·exact P.ne i j z hj
 ·exact Ne.symm (P.ne j i z hi)
theorem Asc.snoc(O:tZ n lt)(P:Pm n p){m:Nat}(h1:1<=m)(hm:m<n)(h:Asc lt p m)(h2:lt (p.getD (m-1) 0) (p.getD m 0)=true):Asc lt p (m+1):=fun i j hij hj=>by
 by_cases e:j=m
 ·subst e
  by_cases e2:i=j-1
  ·subst e2;exact h2
  ·exact O.tr (P.bd _ (by omega)) (P.bd _ (by omega)) (P.bd _ (by omega)) (h i (j-1) (by omega) (by omega)) h2
 ·exact h i j hij (by omega)
theorem Dsc.snoc(O:tZ n lt)(P:Pm n p){m:Nat}(h1:1<=m)(hm:m<n)(h:Dsc lt p m)(h2:lt (p.getD m 0) (p.getD (m-1) 0)=true):Dsc lt p (m+1):=fun i j hij hj=>by
 by_cases e:j=m
 ·subst e
  by_cases e2:i=j-1
  ·subst e2;exact h2
  ·exact O.tr (P.bd _ (by omega)) (P.bd _ (by omega)) (P.bd _ (by omega)) h2 (h i (j-1) (by omega) (by omega))
 ·exact h i j hij (by omega)
theorem tK(O:tZ n lt)(A:Ax cmp n lt s)(P:Pm n p):∀(f m:Nat) {Q:Nat->Shared->Prop},1<=m->m+f<=n->Asc lt p m->(∀m',m<=m'->m'<=m+f->Asc lt p m'->(m'=m+f\/lt (p.getD m' 0) (p.getD (m'-1) 0)=true)->Q m' s)->(kas_asc p f m).kasWp cmp Q s
 |0,m,Q,h1,h2,h3,q=>q m (Nat.le_refl _) (by omega) h3 (.inl rfl)
 |f+1,m,Q,h1,h2,h3,q=>by
  refine A _ _ _ (P.bd _ (by omega)) (P.bd _ (by omega)) ?_
  cases hc:lt (p.getD m 0) (p.getD (m-1) 0)with
  |true=>exact q m (Nat.le_refl _) (by omega) h3 (.inr hc)
  |false=>
   have h4:=h3.snoc O P h1 (by omega) (O.tot (P.bd _ (by omega)) (P.bd _ (by omega)) (P.ne' (by omega) (by omega) (by omega)) hc)
   exact tK O A P f (m+1) (by omega) (by omega) h4 fun m' a b c d=>q m' (by omega) (by omega) c (by rcases d with d|d;exact .inl (by omega);exact .inr d)
theorem sJ(O:tZ n lt)(A:Ax cmp n lt s)(P:Pm n p):∀(f m:Nat) {Q:Array Nat×Nat×Nat->Shared->Prop},1<=m->m+f<=n->Dsc lt p m->(∀m',m<=m'->m'<=m+f->Dsc lt p m'->Q (p,m',0) s)->(kas_desc f p m 0).kasWp cmp Q s
 |0,m,Q,h1,h2,h3,q=>q m (Nat.le_refl _) (by omega) h3
 |f+1,m,Q,h1,h2,h3,q=>by
  refine A _ _ _ (P.bd _ (by omega)) (P.bd _ (by omega)) ?_
  cases hc:lt (p.getD m 0) (p.getD (m-1) 0)with
  |true=>exact sJ O A P f (m+1) (by omega) (by omega) (h3.snoc O P h1 (by omega) hc) fun m' a b c=>q m' (by omega) (by omega) c
  |false=>
   refine A _ _ _ (P.bd _ (by omega)) (P.bd _ (by omega)) ?_
   rw[O.tot (P.bd _ (by omega)) (P.bd _ (by omega)) (P.ne' (by omega) (by omega) (by omega)) hc]
   exact q m (Nat.le_refl _) (by omega) h3
theorem g9{p q:Array Nat}{i j:Nat}(h:p[i]?=q[j]?):p.getD i 0=q.getD j 0:=by
 rw[Array.getD_eq_getD_getElem?,Array.getD_eq_getD_getElem?,h]
theorem gI{m k:Nat}(hm:m<=p.size):(kas_rev p 0 m).getD k 0=if k<m then p.getD (m-1-k) 0 else p.getD k 0:=by
 unfold kas_rev
 have h:=getElem?_mirror_all (i:=0) hm k
 split
 ·rename_i c
  rw[if_pos ⟨Nat.zero_le _,c⟩]at h
  exact g9 (by rw[h];congr 1;omega)
 ·rename_i c
  rw[if_neg (by omega)]at h
  exact g9 h
theorem Pm.rev(P:Pm n p){m:Nat}(hm:m<=n):Pm n (kas_rev p 0 m) where
 sz:=by rw[kas_rev_size];exact P.sz
 bd:=fun i hi=>by
  rw[gI (by rw[P.sz];exact hm)]
  split<;>exact P.bd _ (by omega)
 ne:=fun i j hij hj=>by
  rw[gI (by rw[P.sz];exact hm),gI (by rw[P.sz];exact hm)]
  split<;>split<;>exact P.ne' (by omega) (by omega) (by omega)
theorem Dsc.rev{m:Nat}(P:Pm n p)(hm:m<=n)(h:Dsc lt p m):Asc lt (kas_rev p 0 m) m:=fun i j hij hj=>by
 rw[gI (by rw[P.sz];exact hm),gI (by rw[P.sz];exact hm),if_pos (by omega),if_pos hj]
 exact h _ _ (by omega) (by omega)
theorem wt(O:tZ n lt)(A:Ax cmp n lt s)(P:Pm n p){Q:Nat×Array Nat->Shared->Prop}(h1:1<=n)(q:∀m p',1<=m->m<=n->Pm n p'->Asc lt p' m->Q (m,p') s):(kas_count n p).kasWp cmp Q s:=by
 unfold kas_count
 rw[KasT.kasWp_bind]
 refine tK O A P (n-1) 1 (Nat.le_refl _) (by omega) (fun i j a b=>by omega) fun m a b c d=>?_
 by_cases e:m=n
 ·rw[if_pos (by rw[e];exact beq_self_eq_true n)]
  exact q m p a (by omega) P c
 rw[if_neg (by simpa using e)]
 have d':lt (p.getD m 0) (p.getD (m-1) 0)=true:=by
  rcases d with d|d
  ·omega
  ·exact d
 by_cases g:m>1
 ·rw[if_pos g]
  refine A _ _ _ (P.bd _ (by omega)) (P.bd _ (by omega)) ?_
  rw[c 0 (m-1) (by omega) (by omega)]
  exact q m p a (by omega) P c
 ·rw[if_neg g]
  have m1:m=1:=by omega
  subst m1
  unfold kas_descPart
  rw[KasT.kasWp_bind]
  have d2:Dsc lt p 2:=fun i j a b=>by
   have e1:i=0:=by omega
   have e2:j=1:=by omega
   subst e1;subst e2;exact d'
  refine sJ O A P (n-(1+1)) (1+1) (by omega) (by omega) d2 fun m' a' b' c'=>?_
  rw[if_neg (by simp)]
  unfold kas_tail3
  rw[KasT.kasWp_bind]
  have hm':m'<=n:=by omega
  exact tK O A (P.rev hm') (n-m') m' (by omega) (by omega) (c'.rev P hm') fun m2 a2 b2 c2 _=>q m2 _ (by omega) (by omega) (P.rev hm') c2
theorem jO(O:tZ n lt)(A:Ax cmp n lt s)(P:Pm n p){k:Nat}(hk:k<n)(hs:Asc lt p k):∀(f l r:Nat) {Q:Nat->Shared->Prop},l<=r->r<=k->r-l<=f->(∀i,i<l->lt (p.getD i 0) (p.getD k 0)=true)->(∀i,r<=i->i<k->lt (p.getD k 0) (p.getD i 0)=true)->
  (∀l',l'<=k->(∀i,i<l'->lt (p.getD i 0) (p.getD k 0)=true)->(∀i,l'<=i->i<k->lt (p.getD k 0) (p.getD i 0)=true)->Q l' s)->(kas_place p k f l r).kasWp cmp Q s
 |0,l,r,Q,h1,h2,h3,h4,h5,q=>q l (by omega) h4 fun i a b=>h5 i (by omega) b
 |f+1,l,r,Q,h1,h2,h3,h4,h5,q=>by
  unfold kas_place
  by_cases e:l≥r
  ·rw[if_pos e]
   exact q l (by omega) h4 fun i a b=>h5 i (by omega) b
  ·rw[if_neg e]
   have hM:(l+r) / 2<k:=by omega
   refine A _ _ _ (P.bd _ hk) (P.bd _ (by omega)) ?_
   cases hc:lt (p.getD k 0) (p.getD ((l+r) / 2) 0)with
   |true=>
    refine jO O A P hk hs f l ((l+r) / 2) (by omega) (by omega) (by omega) h4 (fun i a b=>?_) q
    by_cases e2:i=(l+r) / 2
    ·subst e2;exact hc
    ·exact O.tr (P.bd _ hk) (P.bd _ (by omega)) (P.bd _ (by omega)) hc (hs _ i (by omega) b)
   |false=>
    have hc':=O.tot (P.bd _ hk) (P.bd _ (show(l+r) / 2<n by omega)) (P.ne' hk (by omega) (by omega)) hc
    refine jO O A P hk hs f ((l+r) / 2+1) r (by omega) (by omega) (by omega) (fun i a=>?_) h5 q
    by_cases e2:i=(l+r) / 2
    ·subst e2;exact hc'
    ·exact O.tr (P.bd _ (by omega)) (P.bd _ (by omega)) (P.bd _ hk) (hs i ((l+r) / 2) (by omega) hM) hc'
theorem iC{k l i:Nat}(hk:k<p.size)(hl:l<=k):(bubble p k (k-l)).getD i 0=if i=l then p.getD k 0 else if l<i/\i<=k then p.getD (i-1) 0 else p.getD i 0:=by
 have h:=getElem?_bubble hk (k-l) (by omega) i
 rw[show k-(k-l)=l by omega]at h
 by_cases c:i=l
 ·rw[if_pos c]at h ⊢;exact g9 h
 ·rw[if_neg c]at h ⊢
  by_cases d:l<i/\i<=k
  ·rw[if_pos d]at h ⊢;exact g9 h
  ·rw[if_neg d]at h ⊢;exact g9 h
theorem Pm.bub(P:Pm n p){k l:Nat}(hk:k<n)(hl:l<=k):Pm n (bubble p k (k-l)) where
 sz:=by rw[bubble_size];exact P.sz
 bd:=fun i hi=>by
  rw[iC (by rw[P.sz];exact hk) hl]
  repeat' split
  all_goals exact P.bd _ (by omega)
 ne:=fun i j hij hj=>by
  rw[iC (by rw[P.sz];exact hk) hl,iC (by rw[P.sz];exact hk) hl]
  repeat' split
  all_goals first|(exfalso;omega)|exact P.ne' (by omega) (by omega) (by omega)
theorem Asc.bub(P:Pm n p){k l:Nat}(hk:k<n)(hl:l<=k)(h:Asc lt p k)(h1:∀i,i<l->lt (p.getD i 0) (p.getD k 0)=true)(h2:∀i,l<=i->i<k->lt (p.getD k 0) (p.getD i 0)=true):Asc lt (bubble p k (k-l)) (k+1):=fun i j hij hj=>by
 rw[iC (by rw[P.sz];exact hk) hl,iC (by rw[P.sz];exact hk) hl]
 repeat' split
 all_goals first|(exfalso;omega)|exact h1 _ (by omega)|exact h2 _ (by omega) (by omega)|exact h _ _ (by omega) (by omega)
theorem xX(O:tZ n lt)(A:Ax cmp n lt s):∀(f:Nat) (p:Array Nat) (k:Nat) {Q:Array Nat->Shared->Prop},Pm n p->k+f=n->Asc lt p k->(∀p',Pm n p'->Asc lt p' n->Q p' s)->(kas_bin f p k).kasWp cmp Q s
 |0,p,k,Q,P,h1,h2,q=>q p P (by rw[<-h1];exact h2)
 |f+1,p,k,Q,P,h1,h2,q=>by
  unfold kas_bin
  rw[KasT.kasWp_bind]
  refine jO O A P (k:=k) (by omega) h2 k 0 k (Nat.zero_le _) (Nat.le_refl _) (by omega) (fun i a=>by omega) (fun i a b=>by omega) fun l a b c=>?_
  exact xX O A f _ (k+1) (P.bub (by omega) a) (by omega) (h2.bub P (by omega) a b c) q
theorem jN:Pm n (List.toArray (List.range n)):=by
 have g:∀i,i<n->(List.toArray (List.range n)).getD i 0=i:=fun i hi=>by simp[Array.getD,hi]
 exact⟨by simp,fun i hi=>by rw[g i hi];exact hi,fun i j hij hj=>by rw[g i (by omega),g j hj];omega⟩
theorem y0(O:tZ n lt)(A:Ax cmp n lt s){Q:Array Nat->Shared->Prop}(h1:1<=n)(q:∀p',Pm n p'->Asc lt p' n->Q p' s):(kas_sort n).kasWp cmp Q s:=by
 unfold kas_sort
 rw[KasT.kasWp_bind]
 refine wt O A jN h1 fun m p' a b P c=>?_
 by_cases e:m<n
 ·rw[if_pos e]
  rw[show max m 1=m by omega]
  exact xX O A _ _ _ P (by omega) c q
 ·rw[if_neg e]
  exact q p' P (by rw[show n=m by omega];exact c)
end
end OP
namespace OP
open PySem PySem.Spec PyProof PyProof.Rows L2 OG
section
variable{prog:Program}{w:World}{A:Around}{E:Value->Shared->Prop}{s:Shared}{d it:Addr}{o:Obj}{es:Array DictEntry}{ep i:Nat}
theorem nK{Q:Value->Shared->Prop}(hd:(d == sysModules)=false)(ho:s.heap.get? d=some o)(hc:o.ExactDict)(he:o.data=.dict es ep)
  (q:Q (.ref s.heap.objs.size) { s with heap:=s.heap.push { cls:=.type "dict_keyiterator",data:=.fields #[.ref d,.int 0 0,.int es.size 0,.int ep 0] } }):wpAny (model prog w) A (pyIter (.ref d)) Q E s:=by
 have T:s.TypeIs (.ref d) "dict":=⟨o,ho,hc.1⟩
 refine wpAny_pyIter_slot T F.slot_dict_iter (wpAny_call_entry F.slot_dict_iter T F.entry_dict_iter ?_ (F.args_dict_iter_1 _))
 unfold Builtin.«dict.__iter__»;refine wpAny_bind ?_
 unfold Builtin.Dict.dictSlotNone;refine wpAny_bind (wpAny_notOrdered_dict T ?_)
 refine wpAny_pure (show wpAny _ _ (Builtin.Dict.showsAll d >>= _) _ _ s from ?_)
 unfold Builtin.Dict.showsAll;rw[if_neg (by rw[hd];exact Bool.false_ne_true)]
 refine wpAny_bind (wpAny_pure (wpAny_bind (wpAny_dictEntries ho he (wpAny_bind (wpAny_dictEpoch ho he ?_)))))
 refine wpAny_bind (wpAny_newObj_type (wpAny_pure ⟨_,rfl,"dict_keyiterator",_,⟨_,Heap.get?_push_size _ rfl,rfl⟩,F.slot_dict_keyiterator_next.lookup,q⟩))
theorem nL{Q:Option Value->Shared->Prop}(hit:s.heap.IsKeyIter it d i es.size ep)(ho:s.heap.get? d=some o)(he:o.data=.dict es ep)(hi:i<es.size)
  (q:∀h',h'.IsKeyIter it d (i+1) es.size ep->Heap.SameBut it s.heap h'->Q (some es[i].key) { s with heap:=h' }):wpAny (model prog w) A (pyNext (.ref it)) Q E s:=by
 obtain⟨io,hio,ic,id'⟩:=id hit
 unfold pyNext;refine wpAny_bind (wpAny_attempt (wpAny_callSpecial?_slot (name:=Str.ofString "__next__") hit.typeIs F.slot_dict_keyiterator_next (wpAny_call_entry F.slot_dict_keyiterator_next hit.typeIs F.entry_dict_keyiterator_next ?_ (F.args_dict_keyiterator_next_1 _))))
 refine wpAny_bind (wpAny_pure (wpAny_bind (wpAny_bind ?_)))
 first|refine wpAny_bind (wpAny_typeNameOfWhole_keyiter hit.typeIs (wpAny_pure (wpAny_bind (wpAny_fieldsOf hio id' ?_))))|refine wpAny_bind (wpAny_typeNameOf_keyiter hit.typeIs (wpAny_pure (wpAny_bind (wpAny_fieldsOf hio id' ?_))))
 simp only[show Builtin.Dict_items.ownsTuple "dict_keyiterator"=false by decide,Bool.false_eq_true,if_false]
 refine(show wpAny _ _ (if (Value.ref d == Value.none)=true then _ else _) _ _ s from ?_)
 rw[if_neg (show ¬((Value.ref d == Value.none)=true)from Bool.false_ne_true)];refine wpAny_bind (wpAny_pure (wpAny_bind (wpAny_dictEntries ho he ?_)))
 rw[if_neg (by simp)];refine wpAny_bind (wpAny_pure (wpAny_bind (wpAny_dictEpoch ho he ?_)))
 rw[if_neg (by simp)];refine wpAny_pure ?_
 simp only[show ¬((i:Int)<0)by omega,if_false,Int.toNat_natCast,Array.getElem?_eq_getElem hi];refine wpAny_bind ?_
 first|refine wpAny_bind (wpAny_typeNameOfWhole_keyiter hit.typeIs (wpAny_pure (wpAny_bind (wpAny_isOneOf_keyiter hit.typeIs ?_))))|refine wpAny_bind (wpAny_typeNameOf_keyiter hit.typeIs (wpAny_pure (wpAny_bind (wpAny_isOneOf_keyiter hit.typeIs ?_))))
 refine(show wpAny _ _ (setField (.ref it) 1 (rawInt ((i:Int)+1)) >>= _) _ _ s from wpAny_bind (wpAny_setField hio id' (by simp) ?_))
 have hit2:(s.heap.update it (Obj.mapFields (·.setIfInBounds 1 (rawInt ((i:Int)+1))))).IsKeyIter it d (i+1) es.size ep:=⟨_,Heap.get?_update_self _ hio (Obj.isFreed_of_fields (Obj.data_mapFields id' _)),(Obj.cls_mapFields ..).trans ic,by rw[Obj.data_mapFields id'];simp[rawInt]⟩
 refine wpAny_bind (wpAny_holding (wpAny_bind (wpAny_isOneOf_keyiter (s:={ s with heap:=s.heap.update it (Obj.mapFields (·.setIfInBounds 1 (rawInt ((i:Int)+1)))) }) hit2.typeIs ?_)))
 exact(show wpAny _ _ (pure es[i].key) _ _ _ from wpAny_pure (wpAny_pure ⟨_,rfl,wpAny_pure (q _ hit2 (Heap.SameBut.update ..))⟩))
theorem qL{Q:Option Value->Shared->Prop}(hh:A.handled=none)(hit:s.heap.IsKeyIter it d i es.size ep)(ho:s.heap.get? d=some o)(he:o.data=.dict es ep)(hi:es.size<=i)
  (q:∀h',Heap.ExtBut it s.heap h'->Q none { s with heap:=h' }):wpAny (model prog w) A (pyNext (.ref it)) Q E s:=by
 obtain⟨io,hio,ic,id'⟩:=id hit
 unfold pyNext;refine wpAny_bind (wpAny_attempt (wpAny_callSpecial?_slot (name:=Str.ofString "__next__") hit.typeIs F.slot_dict_keyiterator_next (wpAny_call_entry F.slot_dict_keyiterator_next hit.typeIs F.entry_dict_keyiterator_next ?_ (F.args_dict_keyiterator_next_1 _))))
 refine wpAny_bind (wpAny_pure (wpAny_bind (wpAny_bind ?_)))
 first|refine wpAny_bind (wpAny_typeNameOfWhole_keyiter hit.typeIs (wpAny_pure (wpAny_bind (wpAny_fieldsOf hio id' ?_))))|refine wpAny_bind (wpAny_typeNameOf_keyiter hit.typeIs (wpAny_pure (wpAny_bind (wpAny_fieldsOf hio id' ?_))))
 simp only[show Builtin.Dict_items.ownsTuple "dict_keyiterator"=false by decide,Bool.false_eq_true,if_false]
 refine(show wpAny _ _ (if (Value.ref d == Value.none)=true then _ else _) _ _ s from ?_)
 rw[if_neg (show ¬((Value.ref d == Value.none)=true)from Bool.false_ne_true)];refine wpAny_bind (wpAny_pure (wpAny_bind (wpAny_dictEntries ho he ?_)))
 rw[if_neg (by simp)];refine wpAny_bind (wpAny_pure (wpAny_bind (wpAny_dictEpoch ho he ?_)))
 rw[if_neg (by simp)];refine wpAny_pure ?_
 simp only[show ¬((i:Int)<0)by omega,if_false,Int.toNat_natCast,Array.getElem?_eq_none hi];refine wpAny_bind ?_
 first|refine wpAny_bind (wpAny_typeNameOfWhole_keyiter hit.typeIs (wpAny_pure ?_));skip|refine wpAny_bind (wpAny_typeNameOf_keyiter hit.typeIs (wpAny_pure ?_));skip
 refine(show wpAny _ _ (setField (.ref it) 0 .none >>= _) _ _ s from wpAny_bind (wpAny_setField hio id' (by simp) ?_))
 refine(show wpAny _ _ (newExc (.type "StopIteration") [] >>= _) _ _ _ from wpAny_bind ?_)
 simp only[newExc,newTuple];refine wpAny_bind (wpAny_newObj_type ?_ (by size_fits));refine wpAny_bind (m:=firstArgMember _ _) (wpAny_of_eq (a:=Value.none) (by first|rfl|(simp only[firstArgMember];rfl)) (wpAny_newObj_type ?_ (by size_fits)))
 simp only[raiseNew];refine wpAny_bind (wpAny_handled ?_);rw[show A.in1.handled=none from hh]
 refine wpAny_bind (wpAny_pure (wpAny_throw ?_));refine wpAny_bind (wpAny_isInstance (T:="StopIteration") (b:=true) ⟨_,Heap.get?_push_size _ rfl,rfl⟩ isSubtype_stop ?_);exact wpAny_pure (q _ (((Heap.SameBut.update ..).extBut.push _).push _))
end
def FzT(H:Hp)(a:Addr)(ep:Nat)(ks:List (List Key)):Prop:=∃ob es kvs,H a=some (.frz ob (.dT kvs))/\ob.data=.dict es ep/\kvs.map (·.1)=ks
def Itt(a:Addr)(ep:Nat)(ks:List (List Key)):It:=
 ⟨fun i H=>i<ks.length/\FzT H a ep ks,fun i H x H'=>H'=H/\∃k p,ks[i]?=some k/\x=.ref p/\H p=some (.tup (k.map kV)),fun i H=>ks.length<=i/\FzT H a ep ks⟩
theorem sv{P:Program}{w:World}{H:Hp}{h:Heap}{a:Addr}{ob:Obj}{kvs:List (List Key×V)}{es:Array DictEntry}{ep:Nat}(ok:HOk P w H h)(e:H a=some (.frz ob (.dT kvs)))(d:ob.data=.dict es ep) :
  h.get? a=some ob/\es.size=kvs.length/\∀(i:Nat) (hi:i<es.size),∃k p,(kvs.map (·.1))[i]?=some k/\es[i].key=.ref p/\H p=some (.tup (k.map kV)):=by
 obtain⟨e1,_,_,xs,r,o,es',ep',e2,e3,e4,e5,_⟩:=(show bt P w H h a (.frz ob (.dT kvs))from ok a _ e)
 rw[e1]at e2;cases e2
 rw[d]at e4;cases e4
 have hl:kvs.length=xs.length:=Paired.length r
 have hs:es.size=xs.length:=size_of_entries e5
 refine⟨e1,by omega,fun i hi=>?_⟩
 have key:∀{l:List (List Key×V)} {m:List (List Key×Addr×Value)} {i:Nat} {x:List Key×Addr×Value},Paired (fun(p:List Key×V) (q:List Key×Addr×Value)=>p.1=q.1/\H q.2.1=some (.tup (p.1.map kV))/\bu p.2 q.2.2) l m->m[i]?=some x->∃k,(l.map (·.1))[i]?=some k/\H x.2.1=some (.tup (k.map kV)):=by
  intro l m i x q
  induction q generalizing i with
  |nil=>intro z;simp at z
  |@cons p q ps qs hq t ih=>
   intro z
   cases i with
   |zero=>simp at z;subst z;exact⟨p.1,by simp,hq.2.1⟩
   |succ i=>obtain⟨k,k1,k2⟩:=ih (by simpa using z);exact⟨k,by simpa using k1,k2⟩
 have hx:xs[i]?=some xs[i]:=List.getElem?_eq_getElem (by omega)
 obtain⟨k,k1,k2⟩:=key r hx
 refine⟨k,(xs[i]).2.1,k1,?_,k2⟩
 have h1:=entry_at e5 i
 rw[hx,Array.getElem?_eq_getElem hi]at h1
 have h2:=Option.some.inj h1
 rw[h2];rfl
theorem oX{P:Program}{w:World}{K:PySem.W.Frag}{tg:Expr}(a it:Addr){ks:List (List Key)}{ep:Nat} :
  DD P w K tg (Itt a ep ks) [it] it (fun n h=>h.IsKeyIter it a n ks.length ep) where
 mem:=by simp
 obj:=fun n h st c hc=>by
  simp only[List.mem_cons,List.not_mem_nil,or_false]at hc
  subst hc
  obtain⟨o,e,_,q⟩:=st
  exact⟨o,e,fun v z=>by rw[q]at z;cases z⟩
 keep:=fun n h h' st kp=>Heap.IsKeyIter.at st fun o q=>kp it (by simp) o q
 item:=by
  intro X hP hw hK hc n pins s σ H E Iv hf st hg
  subst hP hw hK
  obtain⟨hi,ob,es,kvs,hq,d,ek⟩:=hg
  obtain⟨g1,g2,g3⟩:=sv Iv.hok hq d
  have hl:ks.length=es.size:=by rw[<-ek,List.length_map,g2]
  have hi':n<es.size:=by omega
  obtain⟨k,p,k1,k2,k3⟩:=g3 n hi'
  obtain⟨f0,f1,f2,f3⟩:=hf it (by simp)
  refine nL (by rw[<-hl];exact st) g1 d hi' fun h1 st1 sb=>⟨_,rfl,?_⟩
  have I1:Inv X pins σ H { s with heap:=h1 }:=Iv.turned (t':=s.toks) (fun b o hb e=>(sb.2 b hb).trans e) f0 f1 f3.1 f3.2.1 f3.2.2
  have st2:h1.IsKeyIter it a (n+1) ks.length ep:=by rw[hl];exact st1
  obtain⟨o,e,c,q⟩:=id st2
  exact wg (s:={ s with heap:=h1 }) e c q (by decide) ⟨.ref p,H,I1,by rw[k2];rfl,⟨rfl,k,p,by rw[<-ek];exact k1,rfl,k3⟩,st2,fun b hb=>(hf b hb).1⟩
 done:=by
  intro X hP hw hK hc n pins s σ H E Iv hf st hg
  subst hP hw hK
  obtain⟨hi,ob,es,kvs,hq,d,ek⟩:=hg
  obtain⟨g1,g2,g3⟩:=sv Iv.hok hq d
  have hl:ks.length=es.size:=by rw[<-ek,List.length_map,g2]
  obtain⟨f0,f1,f2,f3⟩:=hf it (by simp)
  exact qL (Iv.ok.hd hc) (by rw[<-hl];exact st) g1 d (by omega) fun h1 eb=>⟨rfl,Iv.turned (t':=s.toks) (fun b o hb e=>eb b o hb e) f0 f1 f3.1 f3.2.1 f3.2.2⟩
 self:=fun _ _ _ _ _ st h=>wpAny_pyIter_keyiter st h
def xN(X:Cx)(tl:TE):TI:=fun σ H R=>tl σ H fun x H1=>∃a kvs,x=.ref a/\H1 a=some (.dT kvs)/\∀ob es ep,DG X a->ob.data=.dict es ep->R (Itt a ep (kvs.map (·.1))) (upd H1 a (.frz ob (.dT kvs)))
theorem uB{X:Cx}{tg l:Expr}{tl:TE}(hl:WE X l tl):WI X tg l (xN X tl):=by
 constructor
 intro pins s σ H R I h
 refine thn (hl.h pins s σ H _ I h) fun v s1 hz=>?_
 obtain⟨x,H1,I1,r1,q1⟩:=hz
 obtain⟨a,kvs,rfl,hq,q⟩:=q1
 have hq0:=hq
 cases r1
 obtain⟨hz,hs,xs,rv,ob,es,ep,e1,e2,e3,e4,e5⟩:=(show bt X.prog X.w H1 s1.heap a (.dT kvs)from I1.hok a _ hq)
 have hl:kvs.length=es.size:=by rw[size_of_entries e4];exact Paired.length rv
 have nf:DG X a:=fun ob' u' z=>by have:=I1.base.frzs a ob' u' z;rw[hq]at this;cases this
 have mono:∀{l:List (List Key×V)} {m:List (List Key×Addr×Value)} (fz:HO),Paired (fun(p:List Key×V) (q:List Key×Addr×Value)=>p.1=q.1/\H1 q.2.1=some (.tup (p.1.map kV))/\bu p.2 q.2.2) l m->Paired (fun(p:List Key×V) (q:List Key×Addr×Value)=>p.1=q.1/\(upd H1 a fz) q.2.1=some (.tup (p.1.map kV))/\bu p.2 q.2.2) l m:=by
  intro l m fz z
  induction z with
  |nil=>exact .nil
  |cons hq t ih=>exact .cons ⟨hq.1,by rw[aJ (fun e=>by rw[e,hq0]at hq;cases hq.2.1)];exact hq.2.1,hq.2.2⟩ ih
 have rv2:=mono (.frz ob (.dT kvs)) rv
 have I2:Inv X pins σ (upd H1 a (.frz ob (.dT kvs))) s1:=oB I1 hq (by simp) (by simp) (by simp) nf ⟨e1,hz,hs,xs,rv2,ob,es,ep,e1,e2,e3,e4,e5⟩
 refine nK hs e1 e2 e3 ?_
 refine⟨s1.heap.objs.size,[s1.heap.objs.size],_,_,_,rfl,I2.kept (t':=s1.toks) fun b o g=>Heap.get?_push_of_some _ g,oX a _,⟨_,Heap.get?_push_size _ rfl,rfl,by rw[List.length_map,hl];rfl⟩,fun b hb=>?_,q ob es ep nf e3⟩
 simp only[List.mem_cons,List.not_mem_nil,or_false]at hb
 subst hb
 exact I2.fpOk (Nat.le_refl _) (I2.hok.fresh (Nat.le_refl _))
theorem sf{X:Cx}{pins:List (Addr×Obj)}{σ:L2.St}{H:Hp}{s:Shared}{a:Addr}{ob:Obj}{kvs:List (List Key×V)}(I:Inv X pins σ H s)(nf:DG X a)(e:H a=some (.frz ob (.dT kvs))):Inv X pins σ (upd H a (.dT kvs)) s:=by
 obtain⟨_,hz,hs,xs,rv,rest⟩:=(show bt X.prog X.w H s.heap a (.frz ob (.dT kvs))from I.hok a _ e)
 have mono:∀{l:List (List Key×V)} {m:List (List Key×Addr×Value)} (fz:HO),Paired (fun(p:List Key×V) (q:List Key×Addr×Value)=>p.1=q.1/\H q.2.1=some (.tup (p.1.map kV))/\bu p.2 q.2.2) l m->Paired (fun(p:List Key×V) (q:List Key×Addr×Value)=>p.1=q.1/\(upd H a fz) q.2.1=some (.tup (p.1.map kV))/\bu p.2 q.2.2) l m:=by
  intro l m fz z
  induction z with
  |nil=>exact .nil
  |cons hq t ih=>exact .cons ⟨hq.1,by rw[aJ (fun q=>by rw[q,e]at hq;cases hq.2.1)];exact hq.2.1,hq.2.2⟩ ih
 exact oB I e (by simp) (by simp) (by simp) nf ⟨hz,hs,xs,mono _ rv,rest⟩
theorem oz{K:PySem.W.Frag}{m:List Addr}{H:Hp}:∀ks:List Key,IsL K m H (ks.map kV) (ks.map kU)
 |[]=>.nil_
 |k::r=>.cons_ (C8 k) (oz r)
theorem vZ{K:PySem.W.Frag}{m:List Addr}{H:Hp}{a:Addr}{l ep:Nat}{kus:List (List Key×U)}(ha:m[l]?=some a):wV K (Itt a ep (kus.map (·.1))) m H (kus.map fun q=>.tup (q.1.map kU)) (fun S'=>S'[l]?=some (.fdt ep kus)):=by
 intro m2 S2 H2 i e sr hok
 obtain⟨a',ha',ob,es,kvs,hx,hd,ip⟩:=sr.get hok
 have ha2:=e.get ha
 rw[ha2]at ha';cases ha'
 have hz:FzT H2 a ep (kus.map (·.1)):=⟨ob,es,kvs,hx,hd,ip.1⟩
 refine⟨fun u hu=>?_,fun hu=>⟨by simpa using hu,hz⟩⟩
 have hi:i<kus.length:=by have:=(List.getElem?_eq_some_iff.mp hu).1;simpa using this
 refine⟨⟨by simpa using hi,hz⟩,?_⟩
 rintro x H3 ⟨rfl,k,p,hk,rfl,hp⟩
 refine⟨.refl,sr,?_⟩
 rw[List.getElem?_map]at hk hu
 rw[List.getElem?_eq_getElem hi]at hk hu
 cases hk;cases hu
 exact .tup_ (.inl (.inl hp)) (oz _)
end OP
namespace OP
open PySem PySem.Spec PyProof PyProof.Rows L2 OG PySem.W
theorem jX{prog:Program}{w:World}{A:Around}{E:Value->Shared->Prop}{s:Shared}{a:Addr}{vs:List Value}{n:Nat}{P:PySem.Fin->Shared->Prop}
  (g:s.heap.get? a=some (seqObj "list" vs.toArray n)) (h2:2<=vs.length) (h64:vs.length<64)
  (ask:∀h':Heap,(∀b o,b≠a->s.heap.get? b=some o->h'.get? b=some o)->wpAny (model prog w) A (keyKind' vs.toArray) (fun κ s'=>s'={ s with heap:=h' }/\KasT.kasWp (kas_ask prog w A κ vs) (kas_sort vs.length)
   (fun p s''=>s''={ s with heap:=h' }/\P (Fin.done (Flow.ret Value.none)) { s with heap:=sortedHeap s.heap a vs (p.toList.map fun i=>vs.getD i Value.none).toArray }) { s with heap:=h' }) E { s with heap:=h' }) :
  wpAny (model prog w) A (Builtin.«list.sort» { pos:=[Value.ref a] }) P E s:=by
 rw[list_sort_plain]
 have hS:vs.toArray.size=vs.length:=by simp
 have hz:vs.length<=sizeLine:=by unfold sizeLine;omega
 have lt:=Heap.lt_size g
 refine wpAny_bind (listItems_at g rfl (wpAny_bind (listUpdate_at g rfl ?_ (by rw[hS];exact hz) (by simp))))
 obtain⟨e1,g1⟩:∃e1,(s.heap.update a (Obj.mapSeq fun _=>#[])).get? a=some (seqObj "list" #[] e1):=⟨_,get?_update_seq g fun _=>#[]⟩
 refine wpAny_bind (seqEpoch_at g1 rfl (wpAny_bind (wpAny_newTuple (wpAny_bind (wpAny_newList (wpAny_holding ?_) (by simp))) (by simpa using hz))))
 have hu:(s.heap.update a (Obj.mapSeq fun _=>#[])).objs.size=s.heap.objs.size:=Heap.size_update ..
 have g2:(((s.heap.update a (Obj.mapSeq fun _=>#[])).push (seqObj "tuple" vs.toArray 0)).push (seqObj "list" #[] 0)).get? a=some (seqObj "list" #[] e1):=
  Heap.get?_push_of_some _ (Heap.get?_push_of_some _ g1)
 have n2:¬vs.toArray.size<2:=by rw[hS];omega
 dsimp only
 rw[if_neg n2]
 have hk:∀b o,b≠a->s.heap.get? b=some o->(((s.heap.update a (Obj.mapSeq fun _=>#[])).push (seqObj "tuple" vs.toArray 0)).push (seqObj "list" #[] 0)).get? b=some o:=fun b o hb ho=>by
  refine Heap.get?_push_of_some _ (Heap.get?_push_of_some _ ?_)
  rw[Heap.get?_update_ne _ _ _ _ hb];exact ho
 refine wpAny_bind (wpAny_mono (ask _ hk) (fun κ s' hs'=>?_) fun _ _ h'=>h')
 obtain⟨rfl,hrun⟩:=hs'
 rw[if_neg n2]
 refine wpAny_bind (wpAny_mono (kat_run (ks:=vs) (Q:=fun st' s'=>∃p:Array Nat,p.size=vs.length/\arrOf st'=Array.map (kas_item (vs.toArray.zip vs.toArray)) p/\failedOf st'=none/\s'=_/\P (Fin.done (Flow.ret Value.none)) { s with heap:=sortedHeap s.heap a vs (p.toList.map fun i=>vs.getD i Value.none).toArray }) rfl h2 h64 (fun p st' s' hp harr hfail hG=>⟨p,hp,harr,hfail,hG⟩) hrun) (fun r s' hr=>?_) fun _ _ h'=>h')
 obtain⟨u,st'⟩:=r
 obtain⟨p,hp,harr,hfail,rfl,hP⟩:=hr
 have hout:Array.map (fun x=>x.snd) (arrOf st')=(p.toList.map fun i=>vs.getD i Value.none).toArray:=kat_snds rfl harr
 refine wpAny_bind (seqEpoch_at g2 rfl (wpAny_bind (listUpdate_at g2 rfl ?_ (by simp) ?_)))
 ·dsimp only at hfail ⊢
  rw[hfail]
  simp only[bne_self_eq_false,Bool.false_eq_true,if_false]
  have hP':=hP
  rw[<-hout]at hP'
  exact wpAny_pure hP'
 ·dsimp only
  rw[hout]
  simp
  unfold sizeLine
  omega
def aR(h:Heap)(v:Value)(p:Int×Int):Prop:=∃b o t1 t2 e,v=Value.ref b/\h.get? b=some o/\o.cls=Value.type "tuple"/\o.data=Data.seq #[Value.int p.1 t1,Value.int p.2 t2] e
def ltP(p q:Int×Int):Bool:=decide (p.1<q.1\/p.1=q.1/\p.2<q.2)
section
variable{prog:Program}{w:World}{A:Around}{E:Value->Shared->Prop}{s:Shared}
theorem fF{b:Bool}{x y:Int}{t u:Tok}{Q:Bool->Shared->Prop}(h:Q (decide (x<y)) s):wpAny (model prog w) A (oneLt' b (Value.int x t) (Value.int y u)) Q E s:=by
 cases b with
 |true=>exact oneLt_int h
 |false=>
  rw[oneLt'_eq]
  dsimp only
  rw[if_neg Bool.false_ne_true]
  exact wpAny_bind (wpAny_lt_int (wpAny_truthy_bool h))
theorem zF{v v':Value}{p p':Int×Int}{C:Bool->Shared->Prop}(h:aR s.heap v p)(h':aR s.heap v' p')(c:C (ltP p p') s):wpAny (model prog w) A (keyLt' (tuples' true) v v') C E s:=by
 obtain⟨b,o,t1,t2,e,rfl,g,_,d⟩:=h
 obtain⟨b',o',t1',t2',e',rfl,g',_,d'⟩:=h'
 refine kat_lt g d g' d' (kat_cons (wpAny_eqBool_int ?_))
 by_cases e1:p.1=p'.1
 ·rw[e1,beq_self_eq_true]
  refine kat_yes (kat_cons (wpAny_eqBool_int ?_))
  by_cases e2:p.2=p'.2
  ·rw[e2,beq_self_eq_true]
   refine kat_yes (kat_nil ?_)
   have:ltP p p'=false:=by simp[ltP,e1,e2]
   rw[this]at c
   exact c
  ·rw[beq_eq_false_iff_ne.mpr e2]
   refine kat_no (fF ?_)
   have:ltP p p'=decide (p.2<p'.2):=by simp[ltP,e1]
   rw[this]at c
   exact c
 ·rw[beq_eq_false_iff_ne.mpr e1]
  refine kat_no (fF ?_)
  have:ltP p p'=decide (p.1<p'.1):=by simp[ltP,e1]
  rw[this]at c
  exact c
def bV(h:Heap):List Value->List (Int×Int)->Prop
 |[],[]=>True
 |v::vs,p::ps=>aR h v p/\bV h vs ps
 |_,_=>False
theorem cV{h:Heap}:∀{vs:List Value} {ps:List (Int×Int)},bV h vs ps->vs.length=ps.length
 |[],[],_=>rfl
 |_::_,_::_,k=>by rw[List.length_cons,List.length_cons,cV k.2]
 |[],_::_,k=>k.elim
 |_::_,[],k=>k.elim
theorem eX{h:Heap}:∀{vs:List Value} {ps:List (Int×Int)} {i:Nat},bV h vs ps->i<ps.length->aR h (vs.getD i Value.none) (ps.getD i (0,0))
 |[],[],_,_,k=>absurd k (Nat.not_lt_zero _)
 |_::_,_::_,0,k,_=>k.1
 |_::vs,_::ps,i+1,k,l=>by
  show aR h (vs.getD i Value.none) (ps.getD i (0,0))
  exact eX k.2 (by rw[List.length_cons]at l;omega)
 |[],_::_,_,k,_=>k.elim
 |_::_,[],_,k,_=>k.elim
theorem rj{h h':Heap}{v:Value}{p:Int×Int}{a:Addr}(k:aR h v p)(hv:v≠.ref a)(m:∀b o,b≠a->h.get? b=some o->h'.get? b=some o):aR h' v p:=by
 obtain⟨b,o,t1,t2,e,rfl,g,c,d⟩:=k
 exact⟨b,o,t1,t2,e,rfl,m b o (fun e=>hv (by rw[e])) g,c,d⟩
theorem fC{h h':Heap}{a:Addr}(m:∀b o,b≠a->h.get? b=some o->h'.get? b=some o):∀{vs:List Value} {ps:List (Int×Int)},bV h vs ps->(∀v∈vs,v≠.ref a)->bV h' vs ps
 |[],[],_,_=>trivial
 |v::vs,_::_,k,hv=>⟨rj k.1 (hv v List.mem_cons_self) m,fC m k.2 fun x hx=>hv x (List.mem_cons_of_mem _ hx)⟩
 |[],_::_,k,_=>k.elim
 |_::_,[],k,_=>k.elim
theorem iZ{h:Heap}:∀{vs:List Value} {ps:List (Int×Int)},bV h vs ps->∃fs,KatTups h vs fs/\fs.length=vs.length/\∀f∈fs,∃i t,f=Value.int i t
 |[],[],_=>⟨[],trivial,rfl,fun f hf=>by cases hf⟩
 |v::vs,p::ps,k=>by
  obtain⟨fs,h1,h2,h3⟩:=iZ k.2
  obtain⟨b,o,t1,t2,e,hv,g,c,d⟩:=k.1
  refine⟨Value.int p.1 t1::fs,⟨⟨b,o,_,e,hv,g,c,d,rfl⟩,h1⟩,by rw[List.length_cons,List.length_cons,h2],fun f hf=>?_⟩
  rcases List.mem_cons.mp hf with z|z
  ·exact⟨_,_,z⟩
  ·exact h3 f z
 |[],_::_,k=>k.elim
 |_::_,[],k=>k.elim
theorem pf{vs:List Value}{ps:List (Int×Int)}{Q:SortKind->Shared->Prop}(h:bV s.heap vs ps)(hn:0<vs.length)(q:Q (tuples' true) s):wpAny (model prog w) A (keyKind' vs.toArray) Q E s:=by
 obtain⟨fs,h1,h2,h3⟩:=iZ h
 refine kat_kind (T:=Value.type "int") h1 (by omega) (fun v hv A Q E s' _ q=>?_) (by decide +kernel) (by exact q)
 obtain⟨i,t,rfl⟩:=h3 v hv
 exact wpAny_typeOf (typeIs_int s' i t) q
end
theorem CH{ps:List (Int×Int)}(nd:ps.Nodup):tZ ps.length fun i j=>ltP (ps.getD i (0,0)) (ps.getD j (0,0)) where
 tr:=fun{i j k} hi hj hk h1 h2=>by simp only[ltP,decide_eq_true_eq]at *;omega
 asym:=fun{i j} hi hj h=>by simp only[ltP,decide_eq_true_eq,decide_eq_false_iff_not]at *;omega
 tot:=fun{i j} hi hj hne h=>by
  simp only[ltP,decide_eq_true_eq,decide_eq_false_iff_not]at *
  have hd:ps.getD i (0,0)≠ps.getD j (0,0):=by
   rw[List.getD_eq_getElem?_getD,List.getD_eq_getElem?_getD,List.getElem?_eq_getElem hi,List.getElem?_eq_getElem hj]
   simp only[Option.getD_some]
   exact fun e=>hne ((List.getElem_inj nd).mp e)
  have:¬((ps.getD i (0,0)).1=(ps.getD j (0,0)).1/\(ps.getD i (0,0)).2=(ps.getD j (0,0)).2):=fun e=>hd (Prod.ext e.1 e.2)
  omega
theorem dH{prog:Program}{w:World}{A:Around}{E:Value->Shared->Prop}{s:Shared}{a:Addr}{vs:List Value}{n:Nat}{P:PySem.Fin->Shared->Prop}
  (g:s.heap.get? a=some (seqObj "list" vs.toArray n)) (h2:vs.length<2) (hP:P (Fin.done (Flow.ret Value.none)) { s with heap:=sortedHeap s.heap a vs vs.toArray }) :
  wpAny (model prog w) A (Builtin.«list.sort» { pos:=[Value.ref a] }) P E s:=by
 rw[list_sort_plain]
 have hS:vs.toArray.size=vs.length:=by simp
 have hz:vs.length<=sizeLine:=by unfold sizeLine;omega
 refine wpAny_bind (listItems_at g rfl (wpAny_bind (listUpdate_at g rfl ?_ (by rw[hS];exact hz) (by simp))))
 obtain⟨e1,g1⟩:∃e1,(s.heap.update a (Obj.mapSeq fun _=>#[])).get? a=some (seqObj "list" #[] e1):=⟨_,get?_update_seq g fun _=>#[]⟩
 refine wpAny_bind (seqEpoch_at g1 rfl (wpAny_bind (wpAny_newTuple (wpAny_bind (wpAny_newList (wpAny_holding ?_) (by simp))) (by simpa using hz))))
 have g2:(((s.heap.update a (Obj.mapSeq fun _=>#[])).push (seqObj "tuple" vs.toArray 0)).push (seqObj "list" #[] 0)).get? a=some (seqObj "list" #[] e1):=
  Heap.get?_push_of_some _ (Heap.get?_push_of_some _ g1)
 have n2:vs.toArray.size<2:=by rw[hS];omega
 dsimp only
 rw[if_pos n2]
 refine wpAny_bind (wpAny_pure ?_)
 rw[if_pos n2]
 refine wpAny_bind (wpAny_pure ?_)
 have hout:Array.map (fun x=>x.snd) (arrOf (SortSt.mk' general' (vs.toArray.zip vs.toArray) #[] 7 none))=vs.toArray:=by
  show Array.map (fun x=>x.snd) (vs.toArray.zip vs.toArray)=vs.toArray
  simp[List.map_snd_zip]
 refine wpAny_bind (seqEpoch_at g2 rfl (wpAny_bind (listUpdate_at g2 rfl ?_ (by simp) ?_)))
 ·have hfail:failedOf (SortSt.mk' general' (vs.toArray.zip vs.toArray) #[] 7 none)=none:=rfl
  dsimp only at hfail ⊢
  simp only[hfail,bne_self_eq_false,Bool.false_eq_true,if_false]
  have hP':=hP
  rw[<-hout]at hP'
  exact wpAny_pure hP'
 ·dsimp only
  rw[hout]
  rw[hS]
  omega
def Ea(ps:List (Int×Int))(q:Array Nat):Prop:=Pm ps.length q/\Asc (fun i j=>ltP (ps.getD i (0,0)) (ps.getD j (0,0))) q ps.length
theorem i7{h:Heap}:∀{vs:List Value} {ps:List (Int×Int)},bV h vs ps->∀v∈vs,∀a,h.objs.size<=a->v≠.ref a
 |[],[],_,v,hv,_,_=>by cases hv
 |_::_,_::_,k,v,hv,a,ha=>by
  rcases List.mem_cons.mp hv with z|z
  ·obtain⟨b,o,t1,t2,e,e1,g,_⟩:=k.1
   rw[z,e1]
   intro e2
   cases e2
   exact absurd (Heap.lt_size g) (Nat.not_lt.mpr ha)
  ·exact i7 k.2 v z a ha
 |[],_::_,k,_,_,_,_=>k.elim
 |_::_,[],k,_,_,_,_=>k.elim
def PrL(K:PySem.W.Frag)(H:Hp):List V->List (Int×Int)->Prop
 |[],[]=>True
 |x::xs,p::ps=>(∃a,x=.ref a/\SqT K H a [.int p.1,.int p.2])/\PrL K H xs ps
 |_,_=>False
theorem jM{K:PySem.W.Frag}{H:Hp}:∀{ys:List V} {ps:List (Int×Int)},PrL K H ys ps->ys.length=ps.length
 |[],[],_=>rfl
 |_::_,_::_,k=>by rw[List.length_cons,List.length_cons,jM k.2]
 |[],_::_,k=>k.elim
 |_::_,[],k=>k.elim
theorem qX{X:Cx}{pins:List (Addr×Obj)}{σ:L2.St}{H:Hp}{s:Shared}(I:Inv X pins σ H s):∀{ys:List V} {ps:List (Int×Int)} {vs:List Value},PrL X.K H ys ps->aV ys vs->bV s.heap vs ps
 |[],[],_,_,r=>by cases r;trivial
 |_::_,p::ps,_,k,r=>by
  cases r with
  |cons r1 r2=>
   refine⟨?_,qX I k.2 r2⟩
   obtain⟨a,rfl,hs⟩:=k.1
   obtain⟨its,rv,⟨o,g,c,n,d⟩,_⟩:=I.tuple hs
   cases r1
   cases rv with
   |cons u1 u2=>cases u2 with
    |cons u3 u4=>
     cases u4
     obtain⟨t1,rfl⟩:=u1
     obtain⟨t2,rfl⟩:=u3
     exact⟨a,o,t1,t2,n,rfl,g,c,d⟩
 |[],_::_,_,k,_=>k.elim
 |_::_,[],_,k,_=>k.elim
theorem uE{ys:List V}{vs:List Value}(r:aV ys vs){i:Nat}(hi:i<ys.length):bu (ys.getD i .non) (vs.getD i Value.none):=by
 induction r generalizing i with
 |nil=>simp at hi
 |cons r1 r2 ih=>
  cases i with
  |zero=>exact r1
  |succ i=>exact ih (by simpa using hi)
theorem fW{ys:List V}{vs:List Value}(r:aV ys vs):∀(is:List Nat),(∀i∈is,i<ys.length)->aV (is.map fun i=>ys.getD i .non) (is.map fun i=>vs.getD i Value.none)
 |[],_=>.nil
 |i::is,h=>.cons (uE r (h i List.mem_cons_self)) (fW r is fun j hj=>h j (List.mem_cons_of_mem _ hj))
theorem dq{n:Nat}{q:Array Nat}(P:Pm n q):∀i∈q.toList,i<n:=fun i hi=>by
 obtain⟨j,hj,e⟩:=List.mem_iff_getElem.mp hi
 have hj':j<q.size:=by simpa using hj
 have:=P.bd j (by rw[<-P.sz];exact hj')
 rw[Array.getD_eq_getD_getElem?,Array.getElem?_eq_getElem hj']at this
 rw[Array.getElem_toList]at e
 rw[<-e];exact this
theorem tW{X:Cx}{pins:List (Addr×Obj)}{σ:List (Option V)}{H H':Hp}{s:Shared}{h':Heap}{t':Nat}(I:Inv X pins σ H s)(k:∀b u,s.heap.get? b=some u->h'.get? b=some u)
  (same:∀b,b<s.heap.objs.size->H' b=H b) (new:∀b u,s.heap.objs.size<=b->H' b=some u->bt X.prog X.w H' h' b u):Inv X pins σ H' { s with heap:=h',toks:=t' }:=by
 have up:∀b u,H b=some u->H' b=some u:=fun b u e=>by
  rw[same b (Nat.lt_of_not_le fun z=>by rw[I.hok.fresh z]at e;cases e)];exact e
 refine I.un ⟨fun b u q _ _ _=>k b u q,fun b u q _ _ _=>⟨u.slots,k b u q⟩,fun b u q n _=>?_,fun b u q _=>⟨u,k b u q⟩,fun b xs q=>up b _ q,fun b u xs q=>up b _ q,fun b ps q=>⟨#[],by rw[up b _ q];simp⟩⟩ fun b u e=>?_
 ·rw[same b (Heap.lt_size q)];exact n
 ·by_cases hb:b<s.heap.objs.size
  ·rw[same b hb]at e
   exact(I.hok b u e).stay (fun c v _ q=>k c v q) (fun c q=>up c _ q) fun c xs q=>up c _ q
  ·exact new b u (Nat.le_of_not_lt hb) e
theorem jx:∀as:List Addr,aV (as.map V.ref) (as.map Value.ref)
 |[]=>.nil
 |a::r=>.cons rfl (jx r)
theorem jW{p:Int×Int}:ltP p p=false:=by simp[ltP]
theorem vL{p q:Int×Int}(h:ltP p q=true)(k:ltP q p=true):False:=by simp only[ltP,decide_eq_true_eq]at h k;omega
theorem oN:∀{L M:List (Int×Int)},L.Pairwise (fun a b=>ltP a b=true)->M.Pairwise (fun a b=>ltP a b=true)->(∀x,x∈L↔x∈M)->L=M
 |[],[],_,_,_=>rfl
 |[],m::M,_,_,h=>by have:=(h m).mpr List.mem_cons_self;cases this
 |l::L,[],_,_,h=>by have:=(h l).mp List.mem_cons_self;cases this
 |l::L,m::M,h1,h2,h=>by
  obtain⟨a1,b1⟩:=List.pairwise_cons.mp h1
  obtain⟨a2,b2⟩:=List.pairwise_cons.mp h2
  have e:l=m:=by
   rcases List.mem_cons.mp ((h l).mp List.mem_cons_self)with z|z
   ·exact z
   ·rcases List.mem_cons.mp ((h m).mpr List.mem_cons_self)with y|y
    ·exact y.symm
    ·exact(vL (a2 l z) (a1 m y)).elim
  subst e
  congr 1
  refine oN b1 b2 fun x=>⟨fun hx=>?_,fun hx=>?_⟩
  ·rcases List.mem_cons.mp ((h x).mp (List.mem_cons_of_mem _ hx))with z|z
   ·subst z;have:=a1 x hx;rw[jW]at this;cases this
   ·exact z
  ·rcases List.mem_cons.mp ((h x).mpr (List.mem_cons_of_mem _ hx))with z|z
   ·subst z;have:=a2 x hx;rw[jW]at this;cases this
   ·exact z
open Classical in
def dz(ps:List (Int×Int)):List (Int×Int):=if h:∃L:List (Int×Int),L.Pairwise (fun a b=>ltP a b=true)/\∀x,x∈L↔x∈ps then h.choose else[]
theorem eN{L ps:List (Int×Int)}(h1:L.Pairwise (fun a b=>ltP a b=true))(h2:∀x,x∈L↔x∈ps):dz ps=L:=by
 have h:∃L:List (Int×Int),L.Pairwise (fun a b=>ltP a b=true)/\∀x,x∈L↔x∈ps:=⟨L,h1,h2⟩
 unfold dz
 rw[dif_pos h]
 obtain⟨k1,k2⟩:=h.choose_spec
 exact oN k1 h1 fun x=>(k2 x).trans (h2 x).symm
theorem tL{ps:List (Int×Int)}{q:Array Nat}(h:Ea ps q):dz ps=q.toList.map fun i=>ps.getD i (0,0):=by
 obtain⟨P,A⟩:=h
 have hl:q.toList.length=ps.length:=by rw[Array.length_toList,P.sz]
 have gd:∀i (hi:i<q.toList.length),q.getD i 0=q.toList[i]:=fun i hi=>by
  have hi':i<q.size:=by simpa using hi
  rw[Array.getD_eq_getD_getElem?,Array.getElem?_eq_getElem hi',Array.getElem_toList];rfl
 have h1:(q.toList.map fun i=>ps.getD i (0,0)).Pairwise (fun a b=>ltP a b=true):=by
  rw[List.pairwise_iff_getElem]
  intro i j hi hj hij
  rw[List.length_map]at hi hj
  rw[List.getElem_map,List.getElem_map,<-gd i hi,<-gd j hj]
  exact A i j hij (by omega)
 have nd:(q.toList.map fun i=>ps.getD i (0,0)).Nodup:=h1.imp fun{a b} h e=>by subst e;rw[jW]at h;cases h
 have sub:∀x∈q.toList.map fun i=>ps.getD i (0,0),x∈ps:=fun x hx=>by
  obtain⟨i,hi,rfl⟩:=List.mem_map.mp hx
  have:=dq P i hi
  rw[List.getD_eq_getElem?_getD,List.getElem?_eq_getElem this]
  exact List.getElem_mem this
 refine eN h1 fun x=>⟨sub x,fun hx=>?_⟩
 refine Classical.byContradiction fun hn=>?_
 have:=List.Nodup.length_le_of_subset (List.nodup_cons.mpr ⟨hn,nd⟩) (l₂:=ps) fun y hy=>by
  rcases List.mem_cons.mp hy with z|z
  ·rw[z];exact hx
  ·exact sub y z
 rw[List.length_cons,List.length_map,hl]at this
 omega
def pP(p:Int×Int):U:=.tup [.int p.1,.int p.2]
def i8:List U->Option (List (Int×Int))
 |[]=>some []
 |.tup [.int a,.int b]::r=>(i8 r).map ((a,b)::·)
 |_=>none
theorem fD:∀ps:List (Int×Int),i8 (ps.map pP)=some ps
 |[]=>rfl
 |p::ps=>by rw[List.map_cons,pP,i8,fD ps];rfl
theorem k8:∀{us:List U} {ps:List (Int×Int)},i8 us=some ps->us=ps.map pP
 |[],ps,h=>by cases h;rfl
 |u::us,ps,h=>by
  unfold i8 at h
  split at h
  ·rename_i e;cases e
  ·rename_i e
   injection e with e1 e2
   subst e1;subst e2
   obtain⟨qs,e,h⟩:=Option.map_eq_some_iff.mp h
   subst h
   rw[List.map_cons,<-k8 e];rfl
  ·cases h
section
variable{K:PySem.W.Frag}{m:List Addr}{H:Hp}
theorem xy:∀{ys:List V} {ps:List (Int×Int)},IsL K m H ys (ps.map pP)->PrL K H ys ps
 |ys,[],h=>by rw[h.of_nil];trivial
 |ys,p::ps,h=>by
  obtain⟨y,r,rfl,i,t⟩:=h.of_cons
  obtain⟨a,xs,rfl,hs,il⟩:=i.of_tup
  have e:xs=[p.1,p.2].map V.int:=IsL.ints (ns:=[p.1,p.2]) il
  subst e
  exact⟨⟨a,rfl,hs⟩,xy t⟩
theorem qV:∀{ys:List V} {ps:List (Int×Int)} {i:Nat},PrL K H ys ps->i<ps.length->Is K m H (ys.getD i .non) (pP (ps.getD i (0,0)))
 |[],[],i,_,h=>by simp at h
 |y::ys,p::ps,0,k,_=>by
  obtain⟨a,e,hs⟩:=k.1
  show Is K m H y (pP p)
  rw[e]
  exact .tup_ hs (gk [p.1,p.2])
 |y::ys,p::ps,i+1,k,h=>by
  show Is K m H (ys.getD i .non) (pP (ps.getD i (0,0)))
  exact qV k.2 (by simpa using h)
 |[],_::_,_,k,_=>k.elim
 |_::_,[],_,k,_=>k.elim
theorem qU{ys:List V}{ps:List (Int×Int)}(k:PrL K H ys ps):∀is:List Nat,(∀i∈is,i<ps.length)->IsL K m H (is.map fun i=>ys.getD i .non) (is.map fun i=>pP (ps.getD i (0,0)))
 |[],_=>.nil_
 |i::is,h=>.cons_ (qV k (h i List.mem_cons_self)) (qU k is fun j hj=>h j (List.mem_cons_of_mem _ hj))
end
section
variable{X:Cx}{K:PySem.W.Frag}
def xn:V->List V->Hp->VK->Prop:=fun x vs H Q=>∃(l:Addr) (ns:List Int) (z:Int) (j:Nat),x=.ref l/\vs=[.int z]/\H l=some (.lst (ns.map V.int))/\ns[j]?=some z/\(∀m,m<j->ns[m]?≠some z)/\j<1000000/\Q (.int (j:Nat)) H
def se(z:Int):Value->Bool
 |.int i _=>i == z
 |_=>false
theorem kI{ns:List Int}{its:List Value}(r:aV (ns.map V.int) its){i:Nat}{v:Value}(h:its[i]?=some v):∃n t,ns[i]?=some n/\v=Value.int n t:=by
 have hi:i<its.length:=(List.getElem?_eq_some_iff.mp h).1
 have hl:=r.length
 rw[List.length_map]at hl
 have hn:i<ns.length:=by omega
 obtain⟨u,e1,e2⟩:=r.get (i:=i) (x:=.int ns[i]) (by rw[List.getElem?_map,List.getElem?_eq_getElem hn];rfl)
 rw[h]at e1;cases e1
 obtain⟨t,e⟩:=e2
 exact⟨_,t,List.getElem?_eq_getElem hn,e⟩
theorem vG:MtM X "list.index" xn:=by
 intro pins s σ H x vs v us Q I rx rv h
 obtain⟨l,ns,z,j,rfl,rfl,hH,hj,hm,hb,q⟩:=h
 cases rx
 obtain⟨u,rfl,ru⟩:=rv.one
 obtain⟨tz,rfl⟩:=ru
 obtain⟨_,its,n,r,hl,e⟩:=I.lstM hH
 have hlen:=r.length
 rw[List.length_map]at hlen
 have hj':j<its.toArray.size:=by have:=(List.getElem?_eq_some_iff.mp hj).1;simp;omega
 have at_:∀(m:Nat) (hm:m<its.toArray.size),∃k t,ns[m]?=some k/\its.toArray[m]=Value.int k t:=fun m hm=>by
  have hm':m<its.length:=by simpa using hm
  obtain⟨k,t,e1,e2⟩:=kI r (List.getElem?_eq_getElem hm')
  exact⟨k,t,e1,by simpa using e2⟩
 refine call_meets PySem.F.slot_list_index ⟨_,e,rfl⟩ PySem.F.entry_list_index (PySem.F.args_list_index_2 _ _) (PySem.MeetsSeq.list_index l its.toArray n (Value.int z tz) (se z) (fun y hy=>?_) j hj' (by omega) ?_ fun m hm1 hm2=>?_) ⟨e,?_⟩
 ·obtain⟨m,hm1,rfl⟩:=Array.mem_iff_getElem.mp hy
  obtain⟨k,t,_,e2⟩:=at_ m hm1
  rw[e2]
  exact PySem.MeetsSeq.EqGives.int _ _ _ _
 ·obtain⟨k,t,e1,e2⟩:=at_ j hj'
  rw[e2]
  rw[hj]at e1;cases e1
  simp[se]
 ·obtain⟨k,t,e1,e2⟩:=at_ m hm1
  rw[e2]
  simp only[se,beq_eq_false_iff_ne]
  intro e3
  exact hm m hm2 (by rw[e1,e3])
 ·exact⟨.int (j:Nat),_,I.kept (fun b o g=>g),⟨_,rfl⟩,q⟩
theorem xM:∀{ns:List Int} {z:Int} {k:Nat} (h:k<ns.length),ns[k]=z->ns.idxOf z<=k
 |[],_,_,h,_=>absurd h (Nat.not_lt_zero _)
 |n::ns,z,0,_,e=>by
  have:n=z:=e
  subst this
  simp
 |n::ns,z,k+1,h,e=>by
  rw[List.idxOf_cons]
  have:=xM (ns:=ns) (z:=z) (k:=k) (by simpa using h) (by simpa using e)
  cases (n == z)<;>simp<;>omega
def aQ:U->List U->Sto->Option (U×Sto)
 |.ref l,[.int z],S=>match S[l]? with
  |some (.lst us)=>(mL us).bind fun ns=>if z∈ns/\ns.length<=LIM then some (.int (ns.idxOf z:Nat),S)else none
  |_=>none
 |_,_,_=>none
theorem zI:MtP K xn aQ:=by
 intro m S H x v us vs u S' Q sr ix i hf post
 match x,us,hf with
 |.ref l,[.int z],hf=>
  simp only[aQ]at hf
  split at hf<;>try cases hf
  rename_i ws hS
  obtain⟨ns,hn,h⟩:=Option.bind_eq_some_iff.mp hf
  split at h<;>try cases h
  have hk:z∈ns/\ns.length<=LIM:=by assumption
  obtain⟨a,ha,rfl⟩:=ix.of_ref
  obtain⟨a',ha',xs,hx,la⟩:=sr.get hS
  rw[ha]at ha';cases ha'
  obtain⟨y,rfl,iy⟩:=i.one
  rw[jZ hn]at la
  rw[la.ints]at hx
  have hlt:ns.idxOf z<ns.length:=List.idxOf_lt_length_of_mem hk.1
  have hL:ns.length<=100000:=hk.2
  refine⟨a,ns,z,ns.idxOf z,rfl,by rw[iy.of_int],hx,?_,fun k hk e=>?_,by omega,post m _ _ .refl sr .int_⟩
  ·rw[List.getElem?_eq_getElem hlt,List.getElem_idxOf]
  ·obtain⟨h1,h2⟩:=List.getElem?_eq_some_iff.mp e
   exact absurd (xM h1 h2) (Nat.not_le.mpr hk)
variable{e:Expr}{es:List Expr}{co:CE}{cr:CA}{o:Expr}{apos cpos:Pos}
theorem fB (ho : QE X o co) (ha : QA X (e :: es) cr) (hbase : attributeBase o "index" X.env (eval o X.env) = eval o X.env := by rfl) (hfew : ((backTo cpos (starEach (e :: es) X.env)).all (fun x => !x.1) && (backToKw cpos (keywordEach [] X.env)).all (fun x => x.1.isSome)
   && decide ((e::es).length+([]:List Keyword).length+(if ([]:List Keyword).isEmpty then 0 else 1)<30))=true:=by rfl) (hline:(apos.endLine == cpos.line)=true:=by rfl) (hs:starEach (e::es) X.env=(false,eval e X.env)::starEach es X.env:=by rfl) (hplain:(backTo cpos (starEach es X.env)).any (·.1)=false:=by rfl) :
  QE X (.Call (.Attribute o "index" apos) (e::es) [] cpos) (cBM aQ co cr):=(ny PySem.F.plainAttrs_list PySem.F.slot_list_index PySem.F.type_list_index vG ho ha.h hbase hfew hline hs hplain).imp (oJ zI)
end
section
variable{X:Cx}{K:PySem.W.Frag}
theorem zR{pins:List (Addr×Obj)}{σ:L2.St}{H:Hp}{s:Shared}{b:Addr}{ks:List Key}(I:Inv X pins σ H s)(sq:SqT X.K H b (ks.map kV)):(tupleKind (ba X.prog X.w)).is s.heap ks b:=by
 obtain⟨its,r,⟨o,h1,h2,n,h3⟩,_⟩:=I.tuple sq
 exact⟨o,its.toArray,n,h1,h2,h3,by simpa using gX r⟩
def Bq(K:PySem.W.Frag)(td ty:TE):TE:=fun σ H Q=>td σ H fun x H1=>ty σ H1 fun y H2=>∃(a b:Addr) (kvs:List (List Key×V)) (k:List Key) (v:V),x=.ref a/\y=.ref b/\Rd H2 a (.dT kvs)/\SqT K H2 b (k.map kV)/\iK kvs k=some v/\Q v H2
theorem qg{o i:Expr}{td ty:TE}{pos:Pos}(hu:X.A.units+1<cLine)(ho:WE X o td)(hi:WE X i ty)(hs:Aw i):WE X (.Subscript o i pos) (Bq X.K td ty):=by
 constructor
 intro pins s σ H Q I h
 refine qu PySem.F.slot_dict_getitem.lookup hs (thn (ho.h pins s σ H _ I h) fun u s1 hz=>?_)
 obtain⟨x,H1,I1,rx,q1⟩:=hz
 refine thn (hi.h pins s1 σ H1 _ I1 q1) fun iv s2 hz=>?_
 obtain⟨y,H2,I2,ry,a,b,kvs,k,v,ex,ey,e,sq,l,q2⟩:=hz
 subst ex
 subst ey
 cases (show u=Value.ref a from rx)
 cases (show iv=Value.ref b from ry)
 obtain⟨z,hd,xs,rel,dd⟩:=pI I2.hok e
 refine⟨dd.typeIs,?_⟩
 obtain⟨w',hw,rw'⟩:=pR.some_of (v:=v) (o:=(atKey xs k).map (·.2)) (by rw[<-l];exact rel.val k)
 obtain⟨p,hp,hp2⟩:=Option.map_eq_some_iff.mp hw
 refine wpAny_getItem_heap (tupleKind_room_in1 hu) (zR I2 sq) dd hp ?_
 rw[hp2]
 exact⟨v,H2,I2.tok _,rw',q2⟩
def Ae:U->U->Sto->Option (U×Sto):=fun x y S=>match x with
 |.ref l=>match y with
  |.tup us=>(yY us).bind fun ks=>match S[l]? with
   |some (.dit kus)=>(fq kus ks).bind fun u=>some (u,S)
   |some (.fdt _ kus)=>(fq kus ks).bind fun u=>some (u,S)
   |_=>none
  |_=>none
 |_=>none
theorem Fe{a b:Expr}{ca cb:CE}{pos:Pos}(hu:X.A.units+1<cLine)(ha:QE X a ca)(hb:QE X b cb)(hs:Aw b):QE X (.Subscript a b pos) (cOp Ae ca cb):=
 (qg hu ha hb hs).imp fun σ H Q hz=>fU hz fun m ρ S u S' sr lr hc post=>by
 obtain⟨⟨x,S1⟩,h1,h⟩:=Option.bind_eq_some_iff.mp hc
 obtain⟨⟨y,S2⟩,h3,h4⟩:=Option.bind_eq_some_iff.mp h
 refine⟨m,ρ,S,_,S1,sr,lr,h1,fun m1 v1 H1 e1 sr1 i1=>⟨m1,ρ,S1,_,S2,sr1,lr.mono e1,h3,fun m2 v2 H2 e2 sr2 i2=>?_⟩⟩
 cases x with
 |ref l=>
  cases y with
  |tup us=>
   simp only[Ae]at h4
   obtain⟨ks,hk,h5⟩:=Option.bind_eq_some_iff.mp h4
   obtain⟨a,ha,rfl⟩:=(i1.mono e2).of_ref
   obtain⟨b,xs,rfl,sb,lb⟩:=i2.of_tup
   have hx:=my lb hk
   subst hx
   split at h5<;>try cases h5
   ·rename_i kus hS
    obtain⟨w,hw,h6⟩:=Option.bind_eq_some_iff.mp h5
    cases h6
    obtain⟨a',ha',kvs,hx,ip⟩:=sr2.get hS
    rw[ha]at ha';cases ha'
    have rf:=IsP.val (k:=ks) ip
    rw[hw]at rf
    cases hv:iK kvs ks with
    |none=>rw[hv]at rf;exact rf.elim
    |some z=>
     rw[hv]at rf
     exact⟨a,b,kvs,ks,z,rfl,rfl,.inl hx,sb,hv,post m2 _ H2 (e1.trans e2) sr2 rf⟩
   ·rename_i ep kus hS
    obtain⟨w,hw,h6⟩:=Option.bind_eq_some_iff.mp h5
    cases h6
    obtain⟨a',ha',ob,es,kvs,hx,hd,ip⟩:=sr2.get hS
    rw[ha]at ha';cases ha'
    have rf:=IsP.val (k:=ks) ip
    rw[hw]at rf
    cases hv:iK kvs ks with
    |none=>rw[hv]at rf;exact rf.elim
    |some z=>
     rw[hv]at rf
     exact⟨a,b,kvs,ks,z,rfl,rfl,.inr ⟨ob,hx⟩,sb,hv,post m2 _ H2 (e1.trans e2) sr2 rf⟩
  |_=>cases h4
 |_=>cases h4
theorem uD{e:Expr}{t:TE}(h:WE X e t):WE X e (fun σ H Q=>t σ H fun v H'=>∃a ob kvs,DG X a/\H' a=some (.frz ob (.dT kvs))/\Q v (upd H' a (.dT kvs))):=by
 constructor
 intro pins s σ H Q I k
 refine thn (h.h pins s σ H _ I k) fun u s1 hz=>?_
 obtain⟨v,H1,I1,r1,a,ob,kvs,nf,e,q⟩:=hz
 exact⟨v,_,sf I1 nf e,r1,q⟩
def sY(ce:CE)(f:(Sto->Prop)->Nat->List U->Rho->Sto->Option Sto)(n:Nat)(caps:List Nat):CE:=fun ρ S=>(ce ρ S).bind fun p=>match p.1 with
 |.ref l=>match p.2[l]? with
  |some (.dit kus)=>uni fun ep=>(f (fun S'=>S'[l]?=some (.fdt ep kus)) p.2.length (kus.map fun q=>.tup (q.1.map kU)) (jH n caps ρ) (p.2.set l (.fdt ep kus)++[.lst []])).bind fun S'=>match S'[l]? with
   |some (.fdt _ kus')=>some (.ref p.2.length,S'.set l (.dit kus'))
   |_=>none
  |_=>none
 |_=>none
def oI(ce:CE)(g:CG)(el:CE)(n:Nat)(caps:List Nat):CE:=sY ce (fun ok l=>fh ok g el l) n caps
theorem qk{ce:CE}{f:(Sto->Prop)->Nat->List U->Rho->Sto->Option Sto}{n:Nat}{caps:List Nat}{G:It->Hp->L2.St->VK->Prop}
  (core:∀{J:It} {us:List U} {ok:Sto->Prop} {Q:VK} {m1:List Addr} {H1:Hp} {S1 S':Sto} {ρ:Rho} {σ:L2.St},Sr X.K m1 S1 H1->Lr X.K m1 H1 ρ σ->wV X.K J m1 H1 us ok->f ok S1.length us (jH n caps ρ) (S1++[.lst []])=some S'->
   (∀l,H1 l=none->∀m2 H2,Ext X.K (m1++[l]) (upd H1 l (.lst [])) m2 H2->Sr X.K m2 S' H2->Q (.ref l) H2)->G J H1 σ Q) :
  ∀σ H Q,tE X.K (sY ce f n caps) σ H Q->xN X (tE X.K ce) σ H fun J H1=>G J H1 σ fun v H'=>∃a ob kvs,DG X a/\H' a=some (.frz ob (.dT kvs))/\Q v (upd H' a (.dT kvs)):=by
 intro σ H Q hz
 refine fU hz fun m ρ S u S' sr lr hc post=>?_
 obtain⟨⟨x,S1⟩,h1,h⟩:=Option.bind_eq_some_iff.mp hc
 refine⟨m,ρ,S,x,S1,sr,lr,h1,fun m1 v1 H1 e1 sr1 i1=>?_⟩
 cases x with
 |ref l=>
  simp only at h
  split at h<;>try cases h
  rename_i kus hS
  obtain⟨a,ha,rfl⟩:=i1.of_ref
  obtain⟨a',ha',kvs,hx,ip⟩:=sr1.get hS
  rw[ha]at ha';cases ha'
  refine⟨a,kvs,rfl,hx,fun ob es ep nf hd=>?_⟩
  obtain⟨S2,h2,h3⟩:=Option.bind_eq_some_iff.mp (uH h ep)
  try simp only at h3
  split at h3<;>try cases h3
  rename_i ep' kus' hS2
  have ee:Ext X.K m1 H1 m1 (upd H1 a (.frz ob (.dT kvs))):=.of (sr1.keep ha _)
  have sr2:Sr X.K m1 (S1.set l (.fdt ep kus)) (upd H1 a (.frz ob (.dT kvs))):=sr1.put ha ⟨ob,es,kvs,aH,hd,ip.mono ee⟩
  rw[ip.1]
  have hln:(S1.set l (.fdt ep kus)).length=S1.length:=by simp
  refine core sr2 (lr.mono (e1.trans ee)) (vZ ha) (by rw[hln];exact h2) fun p hp m3 H3 e3 sr3=>?_
  have en:Ext X.K m1 (upd H1 a (.frz ob (.dT kvs))) (m1++[p]) (upd (upd H1 a (.frz ob (.dT kvs))) p (.lst [])):=.new (bj hp _)
  have e03:=en.trans e3
  obtain⟨a3,ha3,ob3,es3,kvs3,hx3,hd3,ip3⟩:=sr3.get hS2
  rw[e03.get ha]at ha3;cases ha3
  have e4:Ext X.K m3 H3 m3 (upd H3 a (.dT kvs3)):=.of (sr3.keep (e03.get ha) _)
  refine⟨a,ob3,kvs3,nf,hx3,post m3 _ _ (((e1.trans ee).trans e03).trans e4) (sr3.put (e03.get ha) ⟨kvs3,aH,ip3.mono e4⟩) ?_⟩
  have lg:(m1++[p])[S1.length]?=some p:=bY sr1.len
  exact .ref_ (e3.get lg)
 |_=>cases h
variable{Nc capN tn:List Str}{scope:Scope}{cl:List (Str×Addr)}{n:Nat}{caps:List Nat}{tg iter elt c:Expr}{pos:Pos}{ci:CE}{g:CG}{ct:CT}{ce:CE}
theorem zk(hc:X.calm=true)(hi:QE X iter ci)(hg:∀s3 H3 fp,WG (cxC X Nc scope cl s3 H3 fp) tg (tG X.K g))(he:∀s3 H3 fp,WE (cxC X Nc scope cl s3 H3 fp) elt (tE X.K ce))
  (hclos:closureFor scope X.env=pure cl) (hkind:scope.kind=.function) (hnl:∀x∈scope.names,x.2=.local->scope.names.lookup x.1=some .local) (hcell:∀x∈scope.names,x.2≠.cell)
  (hcl:oR X.env cl) (hhas:((relabel scope X.env).names.all fun p=>!(p.2 == .cell||p.2 == .free)||(cl.lookup p.1).isSome)=true)
  (hcap:Paired (Cap X scope cl) caps capN) (hN:Nc=tn++capN) (hn:tn.length=n)
  (hs:∀x,foldedSetIterable iter X.env x=pure x:=by intro _;rfl) :
  QE X (.ListComp elt [⟨tg,iter,[],0⟩] scope pos) (oI ci g ce n caps):=
 (uD (nv hc (uB hi) hg he hclos hkind hnl hcell hcl hhas hcap hN hn hs)).imp (qk (G:=fun J H1 σ Q=>∀l,H1 l=none->∃W:Nat->Nat->L2.St->Hp->Prop,(∃m,W 0 m (OG.stC n caps σ) (upd H1 l (.lst [])))/\
  ∀i m σ' H2,W i m σ' H2->(J.stop i H2/\Q (.ref l) H2)\/(J.go i H2/\∃N:L2.St->Hp->Prop,(∀σ'' H',N σ'' H'->∃m',m'<m/\W (i+1) m' σ'' H')/\
  ∀x H3,J.yld i H2 x H3->tG X.K g x σ' H3 fun σ2 H4=>tE X.K ce σ2 H4 fun v H5=>∃ys,H5 l=some (.lst ys)/\ys.length<sizeLine/\N σ2 (upd H5 l (.lst (ys++[v]))))) fun sr lr ito h2 post l hl=>lO sr lr ito hl h2 (post l hl))
end
theorem o8(n:Nat):(List.range n).map (fun k=>n-1-k)=(List.range n).reverse:=by
 refine List.ext_getElem (by simp) fun i h1 h2=>?_
 simp at h1
 simp[List.getElem_reverse]
theorem rb(its:List Value):slicePick its.toArray none none (some (-1))=its.reverse.toArray:=by
 have hr:sliceRange ((its.length:Int)-1) (-1) (-1)=(List.range its.length).reverse:=by
  rw[<-o8]
  unfold sliceRange
  have h0:¬((-1:Int)>0):=by decide
  simp only[h0,if_false]
  have hc:(if (its.length:Int)-1 > -1 then((its.length:Int)-1 - -1 - -1-1) / - -1 else 0).toNat=its.length:=by
   by_cases h:(its.length:Int)-1 > -1
   ·rw[if_pos h]
    have:((its.length:Int)-1 - -1 - -1-1) / - -1=its.length:=by
     rw[Int.neg_neg,Int.ediv_one];omega
    rw[this];exact Int.toNat_natCast _
   ·rw[if_neg h];simp;omega
  rw[hc]
  refine List.map_congr_left fun k hk=>?_
  have:=List.mem_range.mp hk
  omega
 unfold slicePick sliceBounds
 have h0:¬((-1:Int)>0):=by decide
 simp only[Option.getD_some,h0,if_false,List.size_toArray,hr]
 rw[List.filterMap_reverse]
 have:=pick_run its.toArray 0 its.length
 simp only[Nat.zero_add,List.map_id',List.drop_zero]at this
 rw[this,List.take_of_length_le (by simp)]
theorem vb(its:List Value):slicePick its.toArray none none (some 1)=its.toArray:=by
 unfold slicePick sliceBounds
 have h0:(1:Int)>0:=by decide
 simp only[Option.getD_some,h0,if_true,List.size_toArray]
 have:=sliceRange_one 0 its.length
 simp only[Nat.sub_zero]at this
 rw[show((0:Int))=((0:Nat):Int)from rfl,this]
 have:=pick_run its.toArray 0 its.length
 rw[this,List.drop_zero,List.take_of_length_le (by simp)]
theorem nz:∀{xs:List V} {us:List Value},aV xs us->aV xs.reverse us.reverse
 |[],us,r=>by cases r;exact .nil
 |x::xs,us,r=>by
  cases r with
  |cons r1 r2=>
   rw[List.reverse_cons,List.reverse_cons]
   exact aV.append (nz r2) (.cons r1 .nil)
section
variable{X:Cx}{K:PySem.W.Frag}
def G8(K:PySem.W.Frag)(te ts:TE):TE:=fun σ H Q=>te σ H fun x H1=>ts σ H1 fun y H2=>∃(a:Addr) (xs:List V) (b:Bool),x=.ref a/\SqL K H2 a xs/\y=.int (if b then 1 else -1)/\∀p,H2 p=none->Q (.ref p) (upd H2 p (.lst (if b then xs else xs.reverse)))
theorem yN{e st:Expr}{te ts:TE}{pos p2:Pos}(he:WE X e te)(hst:WE X st ts):WE X (.Subscript e (.Slice none none (some st) p2) pos) (G8 X.K te ts):=by
 constructor
 intro pins s σ H Q I h
 refine Subscript_ (thn (he.h pins s σ H _ I h) fun v s1 hz=>?_)
 obtain⟨x,H1,I1,r1,q1⟩:=hz
 refine wpAny_Slice ?_
 rw[evalPart_none]
 refine wpAny_pure (wpAny_pure ?_)
 show wpAny _ _ (eval st X.env) _ _ s1
 refine thn (hst.h pins s1 σ H1 _ I1 q1) fun vs s3 hz=>?_
 obtain⟨y,H3,I3,ry,a,xs,b,rfl,hx,rfl,q⟩:=hz
 cases r1
 obtain⟨t,rfl⟩:=(show ∃t,vs=Value.int (if b then 1 else -1) t from ry)
 have I4:Inv X pins σ H3 { s3 with heap:=s3.heap.push { cls:=.type "slice",data:=.fields #[.none,.none,.int (if b then 1 else -1) t] } }:=I3.kept (t':=s3.toks) fun b ob q=>Heap.get?_push_of_some _ q
 obtain⟨its,r,ht,hz⟩:=I4.list hx
 have hlen:=r.length
 show wpAny (model X.prog X.w) X.A (subscriptTail e (.Slice none none (some st) p2) (.ref a) (.ref s3.heap.objs.size)) (EP X pins σ Q) X.xe { s3 with heap:=s3.heap.push { cls:=.type "slice",data:=.fields #[.none,.none,.int (if b then 1 else -1) t] } }
 refine tail_any (ops:=[.ref a,.ref s3.heap.objs.size]) ht.isList.typeIs slot_list_getitem.lookup ?_ (by with_unfolding_all rfl)
 refine wpAny_getItem_list_slice ht.isList (Heap.IsSliceOf.new ..) .none .none (.int _ t) (by cases b<;>simp) ?_ (by rw[List.size_toArray]<;>omega)
 have hp:slicePick its.toArray none none (some (if b then 1 else -1))=(if b then its else its.reverse).toArray:=by
  cases b
  ·exact rb its
  ·exact vb its
 rw[hp]
 refine⟨.ref _,_,I4.laid (t':=s3.toks) (o:=.lst (if b then xs else xs.reverse)) (fun b ob q=>Heap.get?_push_of_some _ q) (Nat.le_refl _) ?_,rfl,q _ (I4.hok.fresh (Nat.le_refl _))⟩
 cases b
 ·exact⟨by simpa using hz,_,0,nz r,Heap.get?_push_size _ rfl⟩
 ·exact⟨hz,_,0,r,Heap.get?_push_size _ rfl⟩
def Aq(x y:U)(S:Sto):Option (U×Sto):=match x with
 |.ref l=>match y with
  |.int i=>match S[l]? with
   |some (.lst us)=>if i=1 then some (.ref S.length,S++[.lst us])else if i=-1 then some (.ref S.length,S++[.lst us.reverse])else none
   |_=>none
  |_=>none
 |_=>none
theorem Fd{e st:Expr}{ca cs:CE}{pos p2:Pos}(ha:QE X e ca)(hs:QE X st cs):QE X (.Subscript e (.Slice none none (some st) p2) pos) (cOp Aq ca cs):=
 (yN ha hs).imp fun σ H Q hz=>fU hz fun m ρ S u S' sr lr hc post=>by
 obtain⟨⟨x,S1⟩,h1,h⟩:=Option.bind_eq_some_iff.mp hc
 obtain⟨⟨y,S2⟩,h3,h4⟩:=Option.bind_eq_some_iff.mp h
 refine⟨m,ρ,S,_,S1,sr,lr,h1,fun m1 v1 H1 e1 sr1 i1=>⟨m1,ρ,S1,_,S2,sr1,lr.mono e1,h3,fun m2 v2 H2 e2 sr2 i2=>?_⟩⟩
 cases x with
 |ref l=>
  cases y with
  |int i=>
   simp only[Aq]at h4
   split at h4<;>try cases h4
   rename_i us hS
   obtain⟨a,ha,rfl⟩:=(i1.mono e2).of_ref
   obtain⟨a',ha',xs,hx,la⟩:=sr2.get hS
   rw[ha]at ha';cases ha'
   split at h4
   ·rename_i hi
    subst hi
    cases h4
    refine⟨a,xs,true,rfl,SqL.of hx,i2.of_int,fun p hp=>?_⟩
    have en:Ext X.K m2 H2 (m2++[p]) (upd H2 p (.lst xs)):=.new (bj hp _)
    exact post (m2++[p]) _ _ ((e1.trans e2).trans en) (sr2.new hp ⟨xs,aH,la.mono en⟩) (.ref_ (bY sr2.len))
   ·split at h4<;>try cases h4
    rename_i hi
    subst hi
    refine⟨a,xs,false,rfl,SqL.of hx,i2.of_int,fun p hp=>?_⟩
    have en:Ext X.K m2 H2 (m2++[p]) (upd H2 p (.lst xs.reverse)):=.new (bj hp _)
    exact post (m2++[p]) _ _ ((e1.trans e2).trans en) (sr2.new hp ⟨xs.reverse,aH,la.rev.mono en⟩) (.ref_ (bY sr2.len))
  |_=>cases h4
 |_=>cases h4
end
def ltR:List Int->List Int->Bool
 |[],[]=>false
 |[],_::_=>true
 |_::_,[]=>false
 |a::r,b::t=>if a=b then ltR r t else decide (a<b)
theorem gR:∀r:List Int,ltR r r=false
 |[]=>rfl
 |a::r=>by rw[ltR,if_pos rfl];exact gR r
theorem jV:∀{r t:List Int},ltR r t=true->ltR t r=false
 |[],[],h=>by cases h
 |[],_::_,_=>rfl
 |_::_,[],h=>by cases h
 |a::r,b::t,h=>by
  rw[ltR]at h ⊢
  by_cases e:a=b
  ·rw[if_pos e]at h;rw[if_pos e.symm];exact jV h
  ·rw[if_neg e,decide_eq_true_eq]at h;rw[if_neg (Ne.symm e),decide_eq_false_iff_not];omega
theorem rF:∀{r t:List Int},r≠t->ltR r t=false->ltR t r=true
 |[],[],n,_=>absurd rfl n
 |[],_::_,_,h=>by cases h
 |_::_,[],_,_=>rfl
 |a::r,b::t,n,h=>by
  rw[ltR]at h ⊢
  by_cases e:a=b
  ·subst e
   rw[if_pos rfl]at h ⊢
   exact rF (fun z=>n (by rw[z])) h
  ·rw[if_neg e,decide_eq_false_iff_not]at h;rw[if_neg (Ne.symm e),decide_eq_true_eq];omega
theorem lA:∀{r t u:List Int},ltR r t=true->ltR t u=true->ltR r u=true
 |[],[],_,h,_=>by cases h
 |_::_,[],_,h,_=>by cases h
 |_,_::_,[],_,k=>by cases k
 |[],_::_,_::_,_,_=>rfl
 |a::r,b::t,c::u,h,k=>by
  rw[ltR]at h k ⊢
  by_cases e:a=b
  ·subst e
   rw[if_pos rfl]at h
   by_cases e2:a=c
   ·rw[if_pos e2]at k ⊢;exact lA h k
   ·rw[if_neg e2]at k ⊢;exact k
  ·rw[if_neg e,decide_eq_true_eq]at h
   by_cases e2:b=c
   ·subst e2;rw[if_neg e,decide_eq_true_eq];exact h
   ·rw[if_neg e2,decide_eq_true_eq]at k
    have:a≠c:=by omega
    rw[if_neg this,decide_eq_true_eq];omega
def m8(h:Heap)(v:Value)(ns:List Int):Prop:=∃b o its e,v=Value.ref b/\h.get? b=some o/\o.cls=Value.type "tuple"/\o.data=Data.seq its e/\aV (ns.map V.int) its.toList
section
variable{prog:Program}{w:World}{A:Around}{E:Value->Shared->Prop}{s:Shared}
theorem xF{C:Bool->Shared->Prop}{fin:Bool}:∀{ns ms:List Int} {vs us:List Value} {i:Nat},aV (ns.map V.int) vs->aV (ms.map V.int) us->fin=decide (ns.length<ms.length)->C (ltR ns ms) s->KatLex prog w A true fin C (vs.zip us) i s
 |[],ms,vs,us,i,r1,r2,e,c=>by
  cases r1
  rw[List.zip_nil_left]
  refine kat_nil ?_
  cases ms with
  |nil=>subst e;exact c
  |cons m ms=>subst e;exact c
 |n::ns,[],vs,us,i,r1,r2,e,c=>by
  cases r2
  rw[List.zip_nil_right]
  refine kat_nil ?_
  subst e;exact c
 |n::ns,m::ms,vs,us,i,r1,r2,e,c=>by
  cases r1 with
  |cons u1 t1=>
   cases r2 with
   |cons u2 t2=>
    obtain⟨k1,rfl⟩:=u1
    obtain⟨k2,rfl⟩:=u2
    rw[List.zip_cons_cons]
    refine kat_cons (wpAny_eqBool_int ?_)
    by_cases en:n=m
    ·subst en
     rw[beq_self_eq_true]
     rw[ltR,if_pos rfl]at c
     exact kat_yes (xF t1 t2 (by rw[e];simp) c)
    ·rw[beq_eq_false_iff_ne.mpr en]
     rw[ltR,if_neg en]at c
     exact kat_no (fF c)
theorem BE{v v':Value}{ns ms:List Int}{C:Bool->Shared->Prop}(h:m8 s.heap v ns)(h':m8 s.heap v' ms)(c:C (ltR ns ms) s):wpAny (model prog w) A (keyLt' (tuples' true) v v') C E s:=by
 obtain⟨b,o,its,e,rfl,g,_,d,r⟩:=h
 obtain⟨b',o',its',e',rfl,g',_,d',r'⟩:=h'
 refine kat_lt g d g' d' (xF r r' ?_ c)
 have l1:its.size=ns.length:=by have:=r.length;rw[List.length_map]at this;rw[this];exact Array.length_toList.symm
 have l2:its'.size=ms.length:=by have:=r'.length;rw[List.length_map]at this;rw[this];exact Array.length_toList.symm
 rw[l1,l2]
def cL(h:Heap):List Value->List (List Int)->Prop
 |[],[]=>True
 |v::vs,p::ps=>m8 h v p/\cL h vs ps
 |_,_=>False
theorem jF{h:Heap}:∀{vs:List Value} {ps:List (List Int)},cL h vs ps->vs.length=ps.length
 |[],[],_=>rfl
 |_::_,_::_,k=>by rw[List.length_cons,List.length_cons,jF k.2]
 |[],_::_,k=>k.elim
 |_::_,[],k=>k.elim
theorem jG{h:Heap}:∀{vs:List Value} {ps:List (List Int)} {i:Nat},cL h vs ps->i<ps.length->m8 h (vs.getD i Value.none) (ps.getD i [])
 |[],[],_,_,k=>absurd k (Nat.not_lt_zero _)
 |_::_,_::_,0,k,_=>k.1
 |_::vs,_::ps,i+1,k,l=>by
  show m8 h (vs.getD i Value.none) (ps.getD i [])
  exact jG k.2 (by rw[List.length_cons]at l;omega)
 |[],_::_,_,k,_=>k.elim
 |_::_,[],_,k,_=>k.elim
theorem eS{h h':Heap}{a:Addr}(m:∀b o,b≠a->h.get? b=some o->h'.get? b=some o):∀{vs:List Value} {ps:List (List Int)},cL h vs ps->(∀v∈vs,v≠.ref a)->cL h' vs ps
 |[],[],_,_=>trivial
 |v::vs,_::_,k,hv=>by
  refine⟨?_,eS m k.2 fun x hx=>hv x (List.mem_cons_of_mem _ hx)⟩
  obtain⟨b,o,its,e,rfl,g,c,d⟩:=k.1
  exact⟨b,o,its,e,rfl,m b o (fun e=>hv _ List.mem_cons_self (by rw[e])) g,c,d⟩
 |[],_::_,k,_=>k.elim
 |_::_,[],k,_=>k.elim
theorem kO{h:Heap}:∀{vs:List Value} {ps:List (List Int)},cL h vs ps->(∀p∈ps,p≠[])->∃fs,KatTups h vs fs/\fs.length=vs.length/\∀f∈fs,∃i t,f=Value.int i t
 |[],[],_,_=>⟨[],trivial,rfl,fun f hf=>by cases hf⟩
 |v::vs,p::ps,k,ne=>by
  obtain⟨fs,h1,h2,h3⟩:=kO k.2 fun q hq=>ne q (List.mem_cons_of_mem _ hq)
  obtain⟨b,o,its,e,hv,g,c,d,r⟩:=k.1
  cases p with
  |nil=>exact absurd rfl (ne [] List.mem_cons_self)
  |cons n ns=>
   obtain⟨x,t,hx⟩:∃x t,its.toList=x::t:=by
    cases hl:its.toList with
    |nil=>rw[hl]at r;have:=r.length;simp at this
    |cons x t=>exact⟨x,t,rfl⟩
   have hi:∃i t',x=Value.int i t':=by
    rw[hx]at r
    cases r with
    |cons u1 t1=>obtain⟨k1,rfl⟩:=u1;exact⟨_,_,rfl⟩
   refine⟨x::fs,⟨⟨b,o,its,e,hv,g,c,d,?_⟩,h1⟩,by rw[List.length_cons,List.length_cons,h2],fun f hf=>?_⟩
   ·rw[<-Array.getElem?_toList,hx];rfl
   ·rcases List.mem_cons.mp hf with z|z
    ·rw[z];exact hi
    ·exact h3 f z
 |[],_::_,k,_=>k.elim
 |_::_,[],k,_=>k.elim
theorem qK{vs:List Value}{ps:List (List Int)}{Q:SortKind->Shared->Prop}(h:cL s.heap vs ps)(ne:∀p∈ps,p≠[])(hn:0<vs.length)(q:Q (tuples' true) s):wpAny (model prog w) A (keyKind' vs.toArray) Q E s:=by
 obtain⟨fs,h1,h2,h3⟩:=kO h ne
 refine kat_kind (T:=Value.type "int") h1 (by omega) (fun v hv A Q E s' _ q=>?_) (by decide +kernel) (by exact q)
 obtain⟨i,t,rfl⟩:=h3 v hv
 exact wpAny_typeOf (typeIs_int s' i t) q
theorem eU{h:Heap}:∀{vs:List Value} {ps:List (List Int)},cL h vs ps->∀v∈vs,∀a,h.objs.size<=a->v≠.ref a
 |[],[],_,v,hv,_,_=>by cases hv
 |_::_,_::_,k,v,hv,a,ha=>by
  rcases List.mem_cons.mp hv with z|z
  ·obtain⟨b,o,its,e,e1,g,_⟩:=k.1
   rw[z,e1]
   intro e2
   cases e2
   exact absurd (Heap.lt_size g) (Nat.not_lt.mpr ha)
  ·exact eU k.2 v z a ha
 |[],_::_,k,_,_,_,_=>k.elim
 |_::_,[],k,_,_,_,_=>k.elim
end
theorem CF{ps:List (List Int)}(nd:ps.Nodup):tZ ps.length fun i j=>ltR (ps.getD i []) (ps.getD j []) where
 tr:=fun{i j k} hi hj hk h1 h2=>lA h1 h2
 asym:=fun{i j} hi hj h=>jV h
 tot:=fun{i j} hi hj hne h=>by
  refine rF (fun e=>hne ?_) h
  rw[List.getD_eq_getElem?_getD,List.getD_eq_getElem?_getD,List.getElem?_eq_getElem hi,List.getElem?_eq_getElem hj]at e
  simp only[Option.getD_some]at e
  exact(List.getElem_inj nd).mp e
def DL(ps:List (List Int))(q:Array Nat):Prop:=Pm ps.length q/\Asc (fun i j=>ltR (ps.getD i []) (ps.getD j [])) q ps.length
theorem ej{prog:Program}{w:World}{A:Around}{E:Value->Shared->Prop}{s:Shared}{a:Addr}{vs:List Value}{ps:List (List Int)}{n:Nat}{P:PySem.Fin->Shared->Prop}
  (g:s.heap.get? a=some (seqObj "list" vs.toArray n)) (hp:cL s.heap vs ps) (hv:∀v∈vs,v≠.ref a) (ne:∀p∈ps,p≠[]) (nd:ps.Nodup) (h64:ps.length<64)
  (k:∀q:Array Nat,DL ps q->P (Fin.done (Flow.ret Value.none)) { s with heap:=sortedHeap s.heap a vs (q.toList.map fun i=>vs.getD i Value.none).toArray }) :
  wpAny (model prog w) A (Builtin.«list.sort» { pos:=[Value.ref a] }) P E s:=by
 have hl:=jF hp
 by_cases h2:vs.length<2
 ·have hr:((List.range ps.length).toArray.toList.map fun i=>vs.getD i Value.none)=vs:=by
   rw[<-hl]
   refine List.ext_getElem? fun i=>?_
   by_cases hi:i<vs.length
   ·simp[List.getElem?_range hi,List.getElem?_eq_getElem hi]
   ·simp[List.getElem?_eq_none (Nat.le_of_not_lt hi),hi]
  have:=k (List.range ps.length).toArray ⟨jN,fun i j hij hj=>by omega⟩
  rw[hr]at this
  exact dH g h2 this
 ·refine jX g (by omega) (by omega) fun h' m=>?_
  have hp':cL ({ s with heap:=h' }:Shared).heap vs ps:=eS m hp hv
  refine qK hp' ne (by omega) ⟨rfl,?_⟩
  have hl':vs.length=ps.length:=hl
  rw[hl']
  refine y0 (CF nd) (fun i j C hi hj c=>?_) (by omega) fun q P1 P2=>⟨rfl,k q ⟨P1,P2⟩⟩
  exact BE (jG hp' hi) (jG hp' hj) c
theorem mz{prog:Program}{w:World}{A:Around}{E:Value->Shared->Prop}{s:Shared}{l:Addr}{vs:List Value}{ps:List (List Int)}{Q:Value->Shared->Prop}
  (hL:s.heap.IsList l vs.toArray) (hp:cL s.heap vs ps) (ne:∀p∈ps,p≠[]) (nd:ps.Nodup) (h64:ps.length<64)
  (k:∀q:Array Nat,DL ps q->Q (Value.ref (s.heap.objs.size+1)) { s with heap:=sortedAll s.heap vs (q.toList.map fun i=>vs.getD i Value.none).toArray }) :
  wpAny (model prog w) A (call (Value.builtin "sorted") [Value.ref l]) Q E s:=by
 have hl:=jF hp
 have hz:vs.length<=sizeLine:=by unfold sizeLine;omega
 refine Calls.call_function_entry kind_sorted plain_sorted entry_sorted (args_sorted1 _) ?_
 unfold Builtin.«sorted»
 refine wpAny_bind (m:=checkCount "sorted" 1 1 _) (wpAny_pure (wpAny_bind (collect_list hL (wpAny_bind (wpAny_newList ?_ hz)) hz)))
 have hsz:((s.heap.push (seqObj "list" #[] 0)).update s.heap.objs.size (Obj.mapSeq fun x=>x++vs.toArray)).objs.size=s.heap.objs.size+1:=by
  rw[Heap.size_update,size_push']
 have gL:(((s.heap.push (seqObj "list" #[] 0)).update s.heap.objs.size (Obj.mapSeq fun x=>x++vs.toArray)).push (seqObj "list" vs.toArray 0)).get? (s.heap.objs.size+1)=some (seqObj "list" vs.toArray 0):=by
  rw[<-hsz];exact Heap.get?_push_size _ rfl
 have old:∀b o,s.heap.get? b=some o->(((s.heap.push (seqObj "list" #[] 0)).update s.heap.objs.size (Obj.mapSeq fun x=>x++vs.toArray)).push (seqObj "list" vs.toArray 0)).get? b=some o:=fun b o g=>by
  refine Heap.get?_push_of_some _ ?_
  rw[Heap.get?_update_ne _ _ _ _ (Nat.ne_of_lt (Heap.lt_size g))]
  exact Heap.get?_push_of_some _ g
 show wpAny _ _ _ _ _ { s with heap:=((s.heap.push (seqObj "list" #[] 0)).update s.heap.objs.size (Obj.mapSeq fun x=>x++vs.toArray)).push (seqObj "list" vs.toArray 0) }
 rw[show Value.ref ((s.heap.push (seqObj "list" #[] 0)).update s.heap.objs.size (Obj.mapSeq fun x=>x++vs.toArray)).objs.size=Value.ref (s.heap.objs.size+1)from by rw[hsz]]
 refine wpAny_bind (wpAny_holding (wpAny_call_entry slot_list_sort ⟨_,gL,rfl⟩ entry_list_sort (ej (n:=0) gL (eS (a:=s.heap.objs.size+1) (fun b o _ g=>old b o g) hp fun v hv=>eU hp v hv _ (by omega)) (fun v hv=>eU hp v hv _ (by omega)) ne nd h64 fun q hq=>⟨_,rfl,?_⟩) (args_list_sort _)))
 exact wpAny_pure ⟨_,rfl,k q hq⟩
def RwL(K:PySem.W.Frag)(H:Hp):List V->List (List Int)->Prop
 |[],[]=>True
 |x::xs,p::ps=>(∃a,x=.ref a/\SqT K H a (p.map V.int))/\RwL K H xs ps
 |_,_=>False
theorem qF{K:PySem.W.Frag}{H:Hp}:∀{ys:List V} {ps:List (List Int)},RwL K H ys ps->ys.length=ps.length
 |[],[],_=>rfl
 |_::_,_::_,k=>by rw[List.length_cons,List.length_cons,qF k.2]
 |[],_::_,k=>k.elim
 |_::_,[],k=>k.elim
theorem xi{X:Cx}{pins:List (Addr×Obj)}{σ:L2.St}{H:Hp}{s:Shared}(I:Inv X pins σ H s):∀{ys:List V} {ps:List (List Int)} {vs:List Value},RwL X.K H ys ps->aV ys vs->cL s.heap vs ps
 |[],[],_,_,r=>by cases r;trivial
 |_::_,p::ps,_,k,r=>by
  cases r with
  |cons r1 r2=>
   refine⟨?_,xi I k.2 r2⟩
   obtain⟨a,rfl,hs⟩:=k.1
   obtain⟨its,rv,⟨o,g,c,n,d⟩,_⟩:=I.tuple hs
   cases r1
   exact⟨a,o,_,n,rfl,g,c,d,by simpa using rv⟩
 |[],_::_,_,k,_=>k.elim
 |_::_,[],_,k,_=>k.elim
def jJ(K:PySem.W.Frag):List V->Hp->VK->Prop:=fun xs H Q=>∃(p:Addr) (ys:List V) (ps:List (List Int)),xs=[.ref p]/\SqL K H p ys/\RwL K H ys ps/\(∀p∈ps,p≠[])/\ps.Nodup/\ps.length<64/\
 ∀(l:Addr) (q:Array Nat),H l=none->DL ps q->Q (.ref l) (upd H l (.lst (q.toList.map fun i=>ys.getD i .non)))
theorem rz{X:Cx}:bT X (.builtin "sorted") (jJ X.K):=by
 rintro pins s σ H xs us Q I r ⟨p,ys,ps,rfl,hL,hp,ne,nd,h64,q⟩
 obtain⟨u,rfl,ru⟩:=gE r
 cases ru
 obtain⟨its,rv,pl,hz⟩:=I.list hL
 have hlen:=qF hp
 refine mz pl.isList (xi I hp rv) ne nd h64 fun qa a1=>?_
 obtain⟨e,ge⟩:=sortedAll_at s.heap its (qa.toList.map fun i=>its.getD i Value.none).toArray
 have hf:=I.hok.fresh (Nat.le_succ s.heap.objs.size)
 have hq:qa.toList.length=ps.length:=by rw[Array.length_toList,a1.1.sz]
 refine⟨.ref (s.heap.objs.size+1),_,I.laid (o:=.lst (qa.toList.map fun i=>ys.getD i .non)) (t':=s.toks) (fun b o e=>sortedAll_old e) (Nat.le_succ _) ⟨by rw[List.length_map,hq];unfold sizeLine;omega,_,e,fW rv qa.toList (by rw[hlen];exact dq a1.1),ge⟩,rfl,q _ qa hf a1⟩
theorem zh{prog:Program}{w:World}{d:Addr}{o:Obj}{es:Array DictEntry}{ep:Nat}(hd:(d == sysModules)=false)(hc:o.ExactDict)(he:o.data=.dict es ep) :
  KdlSrc prog w "dict" d d es.size (fun i v=>∃h:i<es.size,v=es[i].key) (fun h=>h.get? d=some o) where
 type:=fun s g=>⟨o,g,hc.1⟩
 there:=fun h g=>⟨Heap.lt_size g,Heap.lt_size g⟩
 keep:=fun h h' g m=>m d (.inl rfl) o g
 notList:=by decide
 notTuple:=by decide
 hint:=fun A E s Q g q=>kdl_hint_dict ⟨o,g,hc.1⟩ q
 iter:=fun A s hh g=>by
  refine⟨_,fun i h=>h.IsKeyIter s.heap.objs.size d i es.size ep/\h.get? d=some o,fun E Q q=>nK hd g hc he q,?_,⟨⟨_,Heap.get?_push_size _ rfl,rfl,rfl⟩,Heap.get?_push_of_some _ g⟩⟩
  refine⟨fun b hb=>by simp at hb;simp[hb],fun i h h' st m=>?_,fun i s' Q E hi st k=>?_,fun s' Q E st k=>?_,fun i s' Q E st q=>?_⟩
  ·obtain⟨⟨o1,g1,c1,d1⟩,g2⟩:=st
   exact⟨⟨o1,m _ (by simp) o1 g1,c1,d1⟩,m _ (by simp) o g2⟩
  ·refine nL st.1 st.2 he hi fun h' it' sb=>k _ h' _ ⟨hi,rfl⟩ ⟨it',?_⟩ fun b o' hb g'=>?_
   ·have:d≠s.heap.objs.size:=Nat.ne_of_lt (Heap.lt_size g)
    rw[sb.2 d this];exact st.2
   ·rw[sb.2 b (by simpa using hb)];exact g'
  ·exact qL hh st.1 st.2 he (Nat.le_refl _) fun h' eb=>k h' _ fun b o' hb g'=>eb b o' (by simpa using hb) g'
  ·exact wpAny_pyIter_keyiter st.1 q
def jI:List V->Hp->VK->Prop:=fun xs H Q=>∃(d:Addr) (kvs:List (List Key×V)) (ps:List (List Int)),xs=[.ref d]/\H d=some (.dT kvs)/\kvs.map (·.1)=ps.map (fun p=>p.map Sum.inl)/\(∀p∈ps,p≠[])/\ps.Nodup/\ps.length<64/\
 ∀(as:List Addr) (l:Addr) (q:Array Nat),H l=none->as.length=ps.length->(∀(i:Nat) (a:Addr) (p:List Int),as[i]?=some a->ps[i]?=some p->H a=some (.tup (p.map V.int)))->DL ps q->
  Q (.ref l) (upd H l (.lst (q.toList.map fun i=>.ref (as.getD i 0))))
theorem CO{H:Hp}:∀{kvs:List (List Key×V)} {xs:List (List Key×Addr×Value)} {ps:List (List Int)},KT H kvs xs->kvs.map (·.1)=ps.map (fun p=>p.map Sum.inl)->∀(i:Nat) (a:Addr) (p:List Int),(xs.map fun x=>x.2.1)[i]?=some a->ps[i]?=some p->H a=some (.tup (p.map V.int))
 |_,_,ps,.nil,_,i,a,p,h,_=>by simp at h
 |(k,v)::kvs,(k',b,u)::xs,[],.cons r t,e,i,a,p,_,hp=>by simp at hp
 |(k,v)::kvs,(k',b,u)::xs,p0::ps,.cons r t,e,i,a,p,h,hp=>by
  simp only[List.map_cons,List.cons.injEq]at e
  obtain⟨e1,e2⟩:=e
  cases i with
  |zero=>
   simp at h hp
   subst h;subst hp
   obtain⟨r1,r2,r3⟩:=r
   dsimp only at r1 r2
   rw[r2,e1,List.map_map];rfl
  |succ i=>
   simp only[List.map_cons,List.getElem?_cons_succ]at h hp
   exact CO t e2 i a p h hp
theorem qJ{h:Heap}:∀{as:List Addr} {ps:List (List Int)},as.length=ps.length->(∀(i:Nat) (a:Addr) (p:List Int),as[i]?=some a->ps[i]?=some p->m8 h (.ref a) p)->cL h (as.map Value.ref) ps
 |[],[],_,_=>trivial
 |a::as,p::ps,l,k=>⟨k 0 a p rfl rfl,qJ (by simpa using l) fun i a p h1 h2=>k (i+1) a p (by simpa using h1) (by simpa using h2)⟩
 |[],_::_,l,_=>by simp at l
 |_::_,[],l,_=>by simp at l
theorem rp{X:Cx}(hc:X.calm=true):bT X (.builtin "sorted") jI:=by
 rintro pins s σ H xs us Q I r ⟨d,kvs,ps,rfl,hD,hk,ne,nd,h64,q⟩
 obtain⟨u,rfl,ru⟩:=gE r
 cases ru
 obtain⟨z,hd,ks,rel,o,es,ep,h1,h2,h3,h4,h5⟩:=pI I.hok (.inl hD)
 have lkv:kvs.length=ps.length:=by have:=congrArg List.length hk;simpa using this
 have lks:ks.length=ps.length:=by rw[<-Paired.length rel];exact lkv
 have les:es.size=ps.length:=by rw[<-lks,<-Array.length_toList,h4,List.length_map]
 obtain⟨as,has⟩:∃as,as=ks.map fun x=>x.2.1:=⟨_,rfl⟩
 have las:as.length=ps.length:=by rw[has,List.length_map,lks]
 have hH:∀(i:Nat) (a:Addr) (p:List Int),as[i]?=some a->ps[i]?=some p->H a=some (.tup (p.map V.int)):=by rw[has];exact CO rel hk
 refine Calls.call_function_entry kind_sorted plain_sorted entry_sorted (args_sorted1 _) ?_
 unfold Builtin.«sorted»
 refine wpAny_bind (m:=checkCount "sorted" 1 1 _) (wpAny_pure (wpAny_bind (kdu_collect (zh hd h2 h3) (show X.A.in1.handled=none from I.ok.hd hc) h1 (by rw[les];unfold sizeLine;omega) fun h' tk acc up hac=>?_)))
 have hacc:acc.toList=as.map Value.ref:=by
  refine List.ext_getElem? fun i=>?_
  by_cases hi:i<es.size
  ·have hi':i<acc.size:=by rw[hac.1];exact hi
   obtain⟨_,e2⟩:=hac.2 i acc[i] (Array.getElem?_eq_getElem hi')
   have e3:acc.toList[i]?=some acc[i]:=by rw[Array.getElem?_toList,Array.getElem?_eq_getElem hi']
   have hk2:i<ks.length:=by rw[lks,<-les];exact hi
   have e4:es.toList[i]?=some (entryOfKey (tupleKind (ba X.prog X.w)) ks[i]):=by rw[h4,List.getElem?_map,List.getElem?_eq_getElem hk2];rfl
   rw[Array.getElem?_toList,Array.getElem?_eq_getElem hi]at e4
   rw[e3,e2,Option.some.inj e4,has,List.map_map,List.getElem?_map,List.getElem?_eq_getElem hk2]
   rfl
  ·rw[List.getElem?_eq_none (by rw[Array.length_toList,hac.1];omega),List.getElem?_eq_none (by rw[List.length_map,las,<-les];omega)]
 have hrow:∀(i:Nat) (a:Addr) (p:List Int),as[i]?=some a->ps[i]?=some p->m8 h' (.ref a) p:=fun i a p ha hp=>by
  obtain⟨_,its,r,o1,g1,c1,n1,d1⟩:=(show bt X.prog X.w H s.heap a (.tup (p.map V.int))from I.hok a _ (hH i a p ha hp))
  exact⟨a,o1,_,n1,rfl,up a o1 g1,c1,d1,by simpa using r⟩
 have hrows:cL h' (as.map Value.ref) ps:=qJ las hrow
 rw[hacc]
 refine wpAny_bind (wpAny_newList ?_ (by rw[List.length_map,las];unfold sizeLine;omega))
 have gL:(h'.push { cls:=.type "list",data:=.seq (as.map Value.ref).toArray }).get? h'.objs.size=some (seqObj "list" (as.map Value.ref).toArray 0):=Heap.get?_push_size _ rfl
 have hv':∀v∈as.map Value.ref,v≠.ref h'.objs.size:=fun v hv=>eU hrows v hv _ (Nat.le_refl _)
 refine wpAny_bind (wpAny_holding (wpAny_call_entry slot_list_sort ⟨_,gL,rfl⟩ entry_list_sort (ej (s:={ s with heap:=h'.push { cls:=.type "list",data:=.seq (as.map Value.ref).toArray },toks:=tk }) gL (eS (a:=h'.objs.size) (fun b o _ g=>Heap.get?_push_of_some _ g) hrows hv') hv' ne nd h64 fun qa a1=>⟨_,rfl,?_⟩) (args_list_sort _)))
 obtain⟨e,ge⟩:=sortedHeap_at (out:=(qa.toList.map fun i=>(as.map Value.ref).getD i Value.none).toArray) gL
 have I2:Inv X pins σ H { s with heap:=h',toks:=tk }:=I.kept (t':=tk) up
 have old:∀b o,h'.get? b=some o->(sortedHeap (h'.push { cls:=.type "list",data:=.seq (as.map Value.ref).toArray }) h'.objs.size (as.map Value.ref) (qa.toList.map fun i=>(as.map Value.ref).getD i Value.none).toArray).get? b=some o:=fun b o g1=>by
  have lt1:=Heap.lt_size g1
  rw[sortedHeap_old (Nat.ne_of_lt lt1) (by rw[Heap.size_push];exact Nat.lt_succ_of_lt lt1)]
  exact Heap.get?_push_of_some _ g1
 have hq:qa.toList.length=ps.length:=by rw[Array.length_toList,a1.1.sz]
 have rv:=jx as
 have gd:∀i,i<as.length->(as.map V.ref).getD i .non=.ref (as.getD i 0):=fun i hi=>by
  simp[List.getD_eq_getElem?_getD,List.getElem?_eq_getElem hi]
 have el:(qa.toList.map fun i=>(as.map V.ref).getD i .non)=qa.toList.map fun i=>V.ref (as.getD i 0):=List.map_congr_left fun i hi=>gd i (by rw[las];exact dq a1.1 i hi)
 refine wpAny_pure ⟨_,rfl,.ref h'.objs.size,_,Inv.laid (s:={ s with heap:=h',toks:=tk }) (o:=.lst (qa.toList.map fun i=>.ref (as.getD i 0))) (t':=tk) I2 old (Nat.le_refl _) ⟨by rw[List.length_map,hq];unfold sizeLine;omega,_,e,?_,ge⟩,rfl,q as _ qa (I2.hok.fresh (Nat.le_refl _)) las hH a1⟩
 rw[<-el]
 exact fW rv qa.toList (by rw[List.length_map,las];exact dq a1.1)
open Classical in
def dZ(ps:List (List Int)):List (List Int):=if h:∃L:List (List Int),L.Pairwise (fun a b=>ltR a b=true)/\∀x,x∈L↔x∈ps then h.choose else[]
theorem me:∀{L M:List (List Int)},L.Pairwise (fun a b=>ltR a b=true)->M.Pairwise (fun a b=>ltR a b=true)->(∀x,x∈L↔x∈M)->L=M
 |[],[],_,_,_=>rfl
 |[],m::M,_,_,h=>by have:=(h m).mpr List.mem_cons_self;cases this
 |l::L,[],_,_,h=>by have:=(h l).mp List.mem_cons_self;cases this
 |l::L,m::M,h1,h2,h=>by
  obtain⟨a1,b1⟩:=List.pairwise_cons.mp h1
  obtain⟨a2,b2⟩:=List.pairwise_cons.mp h2
  have e:l=m:=by
   rcases List.mem_cons.mp ((h l).mp List.mem_cons_self)with z|z
   ·exact z
   ·rcases List.mem_cons.mp ((h m).mpr List.mem_cons_self)with y|y
    ·exact y.symm
    ·have p1:=a2 l z
     rw[jV (a1 m y)]at p1;cases p1
  subst e
  congr 1
  refine me b1 b2 fun x=>⟨fun hx=>?_,fun hx=>?_⟩
  ·rcases List.mem_cons.mp ((h x).mp (List.mem_cons_of_mem _ hx))with z|z
   ·subst z;have:=a1 x hx;rw[gR]at this;cases this
   ·exact z
  ·rcases List.mem_cons.mp ((h x).mpr (List.mem_cons_of_mem _ hx))with z|z
   ·subst z;have:=a2 x hx;rw[gR]at this;cases this
   ·exact z
theorem uM{L ps:List (List Int)}(h1:L.Pairwise (fun a b=>ltR a b=true))(h2:∀x,x∈L↔x∈ps):dZ ps=L:=by
 have h:∃L:List (List Int),L.Pairwise (fun a b=>ltR a b=true)/\∀x,x∈L↔x∈ps:=⟨L,h1,h2⟩
 unfold dZ
 rw[dif_pos h]
 obtain⟨k1,k2⟩:=h.choose_spec
 exact me k1 h1 fun x=>(k2 x).trans (h2 x).symm
theorem mf{ps:List (List Int)}{q:Array Nat}(h:DL ps q):dZ ps=q.toList.map fun i=>ps.getD i []:=by
 obtain⟨P,A⟩:=h
 have hl:q.toList.length=ps.length:=by rw[Array.length_toList,P.sz]
 have gd:∀i (hi:i<q.toList.length),q.getD i 0=q.toList[i]:=fun i hi=>by
  have hi':i<q.size:=by simpa using hi
  rw[Array.getD_eq_getD_getElem?,Array.getElem?_eq_getElem hi',Array.getElem_toList];rfl
 have h1:(q.toList.map fun i=>ps.getD i []).Pairwise (fun a b=>ltR a b=true):=by
  rw[List.pairwise_iff_getElem]
  intro i j hi hj hij
  rw[List.length_map]at hi hj
  rw[List.getElem_map,List.getElem_map,<-gd i hi,<-gd j hj]
  exact A i j hij (by omega)
 have nd:(q.toList.map fun i=>ps.getD i []).Nodup:=h1.imp fun{a b} h e=>by subst e;rw[gR]at h;cases h
 have sub:∀x∈q.toList.map fun i=>ps.getD i [],x∈ps:=fun x hx=>by
  obtain⟨i,hi,rfl⟩:=List.mem_map.mp hx
  have:=dq P i hi
  rw[List.getD_eq_getElem?_getD,List.getElem?_eq_getElem this]
  exact List.getElem_mem this
 refine uM h1 fun x=>⟨sub x,fun hx=>?_⟩
 refine Classical.byContradiction fun hn=>?_
 have:=List.Nodup.length_le_of_subset (List.nodup_cons.mpr ⟨hn,nd⟩) (l₂:=ps) fun y hy=>by
  rcases List.mem_cons.mp hy with z|z
  ·rw[z];exact hx
  ·exact sub y z
 rw[List.length_cons,List.length_map,hl]at this
 omega
def rwU(p:List Int):U:=.tup (p.map U.int)
def o6:List U->Option (List (List Int))
 |[]=>some []
 |.tup us::r=>(mL us).bind fun p=>(o6 r).map (p::·)
 |_=>none
theorem kR:∀ps:List (List Int),o6 (ps.map rwU)=some ps
 |[]=>rfl
 |p::ps=>by rw[List.map_cons,rwU,o6,gZ,Option.bind_some,kR ps];rfl
theorem nI:∀{us:List U} {ps:List (List Int)},o6 us=some ps->us=ps.map rwU
 |[],ps,h=>by cases h;rfl
 |u::us,ps,h=>by
  cases u with
  |tup ws=>
   rw[o6]at h
   obtain⟨p,e1,h⟩:=Option.bind_eq_some_iff.mp h
   obtain⟨qs,e2,h⟩:=Option.map_eq_some_iff.mp h
   subst h
   rw[List.map_cons,<-nI e2,jZ e1];rfl
  |_=>cases h
def v7:List Key->Option (List Int)
 |[]=>some []
 |.inl i::r=>(v7 r).map (i::·)
 |_=>none
theorem oC:∀{ks:List Key} {ns:List Int},v7 ks=some ns->ks=ns.map Sum.inl
 |[],ns,h=>by cases h;rfl
 |.inl i::r,ns,h=>by
  rw[v7]at h
  obtain⟨qs,e2,h⟩:=Option.map_eq_some_iff.mp h
  subst h
  rw[List.map_cons,<-oC e2]
 |.inr x::r,ns,h=>by cases h
def o7:List (List Key×U)->Option (List (List Int))
 |[]=>some []
 |(ks,_)::r=>(v7 ks).bind fun p=>(o7 r).map (p::·)
theorem nJ:∀{kus:List (List Key×U)} {ps:List (List Int)},o7 kus=some ps->kus.map (·.1)=ps.map fun p=>p.map Sum.inl
 |[],ps,h=>by cases h;rfl
 |(ks,u)::us,ps,h=>by
  rw[o7]at h
  obtain⟨p,e1,h⟩:=Option.bind_eq_some_iff.mp h
  obtain⟨qs,e2,h⟩:=Option.map_eq_some_iff.mp h
  subst h
  rw[List.map_cons,List.map_cons,<-nJ e2,oC e1]
open Classical in
def bL:Fn
 |[.ref l],S=>match S[l]? with
  |some (.lst us)=>(o6 us).bind fun ps=>if (∀p∈ps,p≠[])/\ps.Nodup/\ps.length<64 then some (.ref S.length,S++[.lst ((dZ ps).map rwU)])else none
  |some (.dit kus)=>(o7 kus).bind fun ps=>if (∀p∈ps,p≠[])/\ps.Nodup/\ps.length<64 then some (.ref S.length,S++[.lst ((dZ ps).map rwU)])else none
  |_=>none
 |_,_=>none
section
variable{K:PySem.W.Frag}{m:List Addr}{H:Hp}
theorem xh:∀{ys:List V} {ps:List (List Int)},IsL K m H ys (ps.map rwU)->RwL K H ys ps
 |ys,[],h=>by rw[h.of_nil];trivial
 |ys,p::ps,h=>by
  obtain⟨y,r,rfl,i,t⟩:=h.of_cons
  obtain⟨a,xs,rfl,hs,il⟩:=i.of_tup
  have e:xs=p.map V.int:=IsL.ints il
  subst e
  exact⟨⟨a,rfl,hs⟩,xh t⟩
theorem qG:∀{ys:List V} {ps:List (List Int)} {i:Nat},RwL K H ys ps->i<ps.length->Is K m H (ys.getD i .non) (rwU (ps.getD i []))
 |[],[],i,_,h=>by simp at h
 |y::ys,p::ps,0,k,_=>by
  obtain⟨a,e,hs⟩:=k.1
  show Is K m H y (rwU p)
  rw[e]
  exact .tup_ hs (gk p)
 |y::ys,p::ps,i+1,k,h=>by
  show Is K m H (ys.getD i .non) (rwU (ps.getD i []))
  exact qG k.2 (by simpa using h)
 |[],_::_,_,k,_=>k.elim
 |_::_,[],_,k,_=>k.elim
theorem qE{ys:List V}{ps:List (List Int)}(k:RwL K H ys ps):∀is:List Nat,(∀i∈is,i<ps.length)->IsL K m H (is.map fun i=>ys.getD i .non) (is.map fun i=>rwU (ps.getD i []))
 |[],_=>.nil_
 |i::is,h=>.cons_ (qG k (h i List.mem_cons_self)) (qE k is fun j hj=>h j (List.mem_cons_of_mem _ hj))
theorem tM{as:List Addr}{ps:List (List Int)}(la:as.length=ps.length)(hH:∀(i:Nat) (a:Addr) (p:List Int),as[i]?=some a->ps[i]?=some p->H a=some (.tup (p.map V.int))):∀is:List Nat,(∀i∈is,i<ps.length)->IsL K m H (is.map fun i=>V.ref (as.getD i 0)) (is.map fun i=>rwU (ps.getD i []))
 |[],_=>.nil_
 |i::is,h=>by
  have hi:=h i List.mem_cons_self
  have hi':i<as.length:=by rw[la];exact hi
  refine .cons_ ?_ (tM la hH is fun j hj=>h j (List.mem_cons_of_mem _ hj))
  have e1:as.getD i 0=as[i]:=by rw[List.getD_eq_getElem?_getD,List.getElem?_eq_getElem hi'];rfl
  have e2:ps.getD i []=ps[i]:=by rw[List.getD_eq_getElem?_getD,List.getElem?_eq_getElem hi];rfl
  show Is K m H (V.ref (as.getD i 0)) (rwU (ps.getD i []))
  rw[e1,e2]
  exact .tup_ (SqT.of (hH i _ _ (List.getElem?_eq_getElem hi') (List.getElem?_eq_getElem hi))) (gk _)
end
theorem i9{X:Cx}(hc:X.calm=true):bT X (.builtin "sorted") (fun xs H Q=>jJ X.K xs H Q\/jI xs H Q):=rz.or (rp hc)
theorem lq{K:PySem.W.Frag}:iJ K (fun xs H Q=>jJ K xs H Q\/jI xs H Q) bL:=by
 intro m S H us vs u S' Q sr i hf post
 match us,hf with
 |[.ref l],hf=>
  obtain⟨v,rfl,iv⟩:=i.one
  obtain⟨a,ha,rfl⟩:=iv.of_ref
  simp only[bL]at hf
  split at hf<;>try cases hf
  ·rename_i ws hS
   obtain⟨ps,hn,h⟩:=Option.bind_eq_some_iff.mp hf
   split at h<;>try cases h
   have hc:(∀p∈ps,p≠[])/\ps.Nodup/\ps.length<64:=by assumption
   obtain⟨a',ha',xs,hx,la⟩:=sr.get hS
   rw[ha]at ha';cases ha'
   rw[nI hn]at la
   have pr:=xh la
   refine .inl ⟨a,xs,ps,rfl,SqL.of hx,pr,hc.1,hc.2.1,hc.2.2,fun p q hp aq=>?_⟩
   have il:=qE (m:=m) pr q.toList (dq aq.1)
   have e:(q.toList.map fun i=>rwU (ps.getD i []))=(dZ ps).map rwU:=by rw[mf aq,List.map_map];rfl
   rw[e]at il
   exact bC sr il post hp
  ·rename_i ws hS
   obtain⟨ps,hn,h⟩:=Option.bind_eq_some_iff.mp hf
   split at h<;>try cases h
   have hc:(∀p∈ps,p≠[])/\ps.Nodup/\ps.length<64:=by assumption
   obtain⟨a',ha',kvs,hx,ip⟩:=sr.get hS
   rw[ha]at ha';cases ha'
   refine .inr ⟨a,kvs,ps,rfl,hx,ip.1.trans (nJ hn),hc.1,hc.2.1,hc.2.2,fun as p q hp las hH aq=>?_⟩
   have il:=tM (m:=m) (K:=K) las hH q.toList (dq aq.1)
   have e:(q.toList.map fun i=>rwU (ps.getD i []))=(dZ ps).map rwU:=by rw[mf aq,List.map_map];rfl
   rw[e]at il
   exact bC sr il post hp
def nD(K:PySem.W.Frag):Sp:=fun vs H Q _=>∃(a:Addr) (ns:List Int),vs=[.ref a]/\KL K H a ns/\ns.length<=63/\∀H',Q (.bl true) H'
theorem FF{K:PySem.W.Frag}{H:Hp}{a:Addr}{ns:List Int}(hO:D7 H)(h:SqL K H a (ns.map V.int)):KL K H a ns:=by
 rcases h with(h|h)|h
 ·rcases hO a with e|⟨o,xs,e⟩
  ·rw[e]at h;cases h
  ·rw[e]at h;cases h
 ·exact .inl h
 ·exact .inr h
theorem vS{K:PySem.W.Frag}{H:Hp}{a:Addr}{ns:List Int}{c:CS}{r:Rho}{σ:L2.St}{Q:VK}{nx bk ct:L2.St->Hp->Prop}(h:KL K H a ns)
  (ok:∃ρ' S',c (some (.kl ns)::r) []=some (.rt (.bl true),ρ',S')) (q:∀H',Q (.bl true) H')
  (hr:r=List.replicate r.length none:=by rfl) (hl:σ.length=r.length:=by rfl):tS K c { nx:=nx,rt:=Q,bk:=bk,ct:=ct } (some (.ref a)::σ) H:=by
 obtain⟨ρ',S',e⟩:=ok
 refine⟨[],_,_,_,ρ',S',⟨rfl,List.nodup_nil,fun l ad o e1 e2=>by simp at e1⟩,⟨by simp[hl],fun i u e1=>?_⟩,e,fun m' v H' _ _ iv=>by rw[iv.of_bl];exact q H'⟩
 cases i with
 |zero=>
  simp at e1
  subst e1
  exact⟨.ref a,rfl,.kl_ h⟩
 |succ i=>
  simp only[List.getElem?_cons_succ]at e1
  rw[hr,List.getElem?_replicate]at e1
  split at e1<;>cases e1
theorem EB{ns:List Int}{i:Int}{S:Sto}:fIx (.kl ns) (.int i) S=(atI (ns.map U.int) i).bind fun u=>some (u,S):=rfl
theorem pY{ns:List Int}{S:Sto}:ji [.kl ns] S=some (.int ns.length,S):=rfl
section
variable{M:Model}{A:Around}{E:Value->Shared->Prop}{σ:Type}
theorem bx{β:Type}{f:Nat->β->StateT σ Sem (ForInStep β)}{Q:β->σ->Shared->Prop}{s:Shared}(I:Nat->β->σ->Prop)
  (step:∀x k b st,I (k+1) b st->kasC M A E (f x b) (fun r st' s'=>match r with|.done b'=>Q b' st' s'|.yield b'=>I k b' st'/\s'=s) st s)
  (fin:∀b st,I 0 b st->Q b st s):∀(l:List Nat) (b:β) (st:σ),I l.length b st->kasC M A E (forIn l b f) Q st s
 |[],b,st,h=>kasC_nil (fin b st h)
 |x::l,b,st,h=>by
  refine kasC_cons ?_
  have:=step x l.length b st h
  unfold kasC at this ⊢
  refine wpAny_mono this (fun r s' h'=>?_) fun _ _ e=>e
  obtain⟨r,st'⟩:=r
  cases r with
  |done b'=>exact h'
  |yield b'=>
   obtain⟨h1,rfl⟩:=h'
   exact bx I step fin l b' st' h1
end
def zZ:Bool->Keyed->Array Keyed->Nat->Nat->Nat->StateT SortSt Sem (Option Nat):=sortPriv% PySem.Builtin.gallop
section
variable{prog:Program}{w:World}{A:Around}{E:Value->Shared->Prop}{s:Shared}{κ:SortKind}{LT:Keyed->Keyed->Bool}{X:Keyed->Prop}
def oQ(prog:Program)(w:World)(A:Around)(E:Value->Shared->Prop)(s:Shared)(κ:SortKind)(LT:Keyed->Keyed->Bool)(X:Keyed->Prop):Prop:=
 ∀x y st (Q:Option Bool->SortSt->Shared->Prop),X x->X y->Rows.kindOf st=κ->Q (some (LT x y)) st s->kasC (model prog w) A E (lt' x y) Q st s
def bey(LT:Keyed->Keyed->Bool)(left:Bool)(key x:Keyed):Bool:=if left then LT x key else !LT key x
theorem aM{arr:Array Keyed}{i:Nat}{x:Keyed}{st:SortSt}{Q:Keyed->SortSt->Shared->Prop}(h:arr[i]?=some x)(q:Q x st s):kasC (model prog w) A E (elem' arr i) Q st s:=by
 rw[elem'_eq,h]
 exact kasC_pure q
theorem Dz(hl:oQ prog w A E s κ LT X){left:Bool}{key x:Keyed}{arr:Array Keyed}{i:Nat}{st:SortSt}{Q:Option Bool->SortSt->Shared->Prop}(hx:arr[i]?=some x)(x1:X x)(x2:X key)(hk:Rows.kindOf st=κ)(q:Q (some (bey LT left key x)) st s) :
  kasC (model prog w) A E (elem' arr i >>= fun x=>if left=true then lt' x key else lt' key x >>= fun r=>pure (Option.map (fun x=>!x) r)) Q st s:=by
 refine kasC_bind (aM hx ?_)
 cases left with
 |true=>exact hl x key st Q x1 x2 hk q
 |false=>exact kasC_bind (hl key x st _ x2 x1 hk (kasC_pure q))
theorem aT{α:Type}{m:StateT SortSt Sem α}{Q Q':α->SortSt->Shared->Prop}{st:SortSt}(h:kasC (model prog w) A E m Q' st s)(hq:∀a st' s',Q' a st' s'->Q a st' s'):kasC (model prog w) A E m Q st s:=by
 unfold kasC at h ⊢
 exact wpAny_mono h (fun r s' h'=>hq _ _ _ h') fun _ _ e=>e
theorem oM{f:Nat->Option (Option Nat)×Nat×Nat->StateT SortSt Sem (ForInStep (Option (Option Nat)×Nat×Nat))}{B:Nat->Bool}{n:Nat}{st:SortSt}
  (hd:∀x lo hi,lo≥hi->∀R:_->SortSt->Shared->Prop,R (.done (none,lo,hi)) st s->kasC (model prog w) A E (f x (none,lo,hi)) R st s)
  (hf:∀x lo hi,lo<hi->hi<=n->∀R:_->SortSt->Shared->Prop,R (if B (lo+(hi-lo) / 2)=true then .yield (none,lo+(hi-lo) / 2+1,hi)else .yield (none,lo,lo+(hi-lo) / 2)) st s->kasC (model prog w) A E (f x (none,lo,hi)) R st s)
  (up:∀k,k<n->B k=true->∀i,i<k+1->B i=true) (dn:∀k,k<n->B k=false->∀i,k<=i->i<n->B i=false)
  {l:List Nat} {lo hi:Nat} (hl:hi-lo<=l.length) (h1:lo<=hi) (h2:hi<=n) (h3:∀i,i<lo->B i=true) (h4:∀i,hi<=i->i<n->B i=false) {Q:_->SortSt->Shared->Prop}
  (q:∀k,k<=n->(∀i,i<k->B i=true)->(∀i,k<=i->i<n->B i=false)->Q (none,k,k) st s):kasC (model prog w) A E (forIn l (none,lo,hi) f) Q st s:=by
 refine bx (fun k b st'=>st'=st/\∃lo hi,b=(none,lo,hi)/\hi-lo<=k/\lo<=hi/\hi<=n/\(∀i,i<lo->B i=true)/\∀i,hi<=i->i<n->B i=false) (fun x k b st' h=>?_) (fun b st' h=>?_) l _ _ ⟨rfl,lo,hi,rfl,hl,h1,h2,h3,h4⟩
 ·obtain⟨rfl,lo,hi,rfl,a1,a2,a3,a4,a5⟩:=h
  by_cases e:lo≥hi
  ·have:lo=hi:=by omega
   subst this
   exact hd x lo lo e _ (q lo a3 a4 a5)
  ·refine hf x lo hi (by omega) a3 _ ?_
   cases hB:B (lo+(hi-lo) / 2)with
   |true=>rw[if_pos rfl];exact⟨⟨rfl,_,_,rfl,by omega,by omega,a3,up _ (by omega) hB,a5⟩,rfl⟩
   |false=>rw[if_neg (by decide)];exact⟨⟨rfl,_,_,rfl,by omega,by omega,by omega,a4,dn _ (by omega) hB⟩,rfl⟩
 ·obtain⟨rfl,lo,hi,rfl,a1,a2,a3,a4,a5⟩:=h
  have:lo=hi:=by omega
  subst this
  exact q lo a3 a4 a5
theorem jd(hl:oQ prog w A E s κ LT X){left:Bool}{key:Keyed}{arr:Array Keyed}{base n hint:Nat}{g:Nat->Keyed}{st:SortSt}{Q:Option Nat->SortSt->Shared->Prop}(hk:Rows.kindOf st=κ)(xk:X key)(hg:∀i,i<n->arr[base+i]?=some (g i)/\X (g i))(hh:hint<n)(mono:∀i j,i<=j->j<n->bey LT left key (g j)=true->bey LT left key (g i)=true)
  (q:∀k,k<=n->(∀i,i<k->bey LT left key (g i)=true)->(∀i,k<=i->i<n->bey LT left key (g i)=false)->Q (some k) st s):kasC (model prog w) A E (zZ left key arr base n hint) Q st s:=by
 have ask:∀i,i<n->∀(Q:Option Bool->SortSt->Shared->Prop),Q (some (bey LT left key (g i))) st s->kasC (model prog w) A E (elem' arr (base+i) >>= fun x=>if left=true then lt' x key else lt' key x >>= fun r=>pure (Option.map (fun x=>!x) r)) Q st s:=fun i hi Q h=>Dz hl (hg i hi).1 (hg i hi).2 xk hk h
 have lo_:∀k,k<n->bey LT left key (g k)=true->∀i,i<k+1->bey LT left key (g i)=true:=fun k hk h i hi=>mono i k (by omega) hk h
 have hi_:∀k,k<n->bey LT left key (g k)=false->∀i,k<=i->i<n->bey LT left key (g i)=false:=fun k hk h i hi hn=>by
  cases hb:bey LT left key (g i)with
  |false=>rfl
  |true=>rw[mono k i hi hn hb]at h;cases h
 refine kasC_bind (ask hint hh _ ?_)
 cases hB:bey LT left key (g hint)with
 |true=>
  dsimp only
  rw[if_pos rfl]
  refine kasC_bind (kasC_range (aT (Q':=fun b st' s'=>st'=st/\s'=s/\∃la o,b=(none,la,o)/\hint+la<n/\bey LT left key (g (hint+la))=true/\la<o/\(n-hint<=o\/(hint+o<n/\bey LT left key (g (hint+o))=false))) ?_ ?_))
  ·refine bx (fun k b st'=>st'=st/\∃la o,b=(none,la,o)/\hint+la<n/\bey LT left key (g (hint+la))=true/\la<o/\n+1<=o+k) (fun x k b st' h=>?_) (fun b st' h=>?_) _ _ _ ⟨rfl,0,1,rfl,hh,hB,by omega,by rw[List.length_range'];omega⟩
   ·obtain⟨rfl,la,o,rfl,a1,a2,a3,a4⟩:=h
    dsimp only
    by_cases e:o≥n-hint
    ·rw[if_pos e]
     exact kasC_pure ⟨rfl,rfl,la,o,rfl,a1,a2,a3,.inl e⟩
    ·rw[if_neg e]
     refine kasC_bind (ask (hint+o) (by omega) _ ?_)
     cases hC:bey LT left key (g (hint+o))with
     |true=>exact kasC_pure ⟨⟨rfl,o,2*o+1,rfl,by omega,hC,by omega,by omega⟩,rfl⟩
     |false=>exact kasC_pure ⟨rfl,rfl,la,o,rfl,a1,a2,a3,.inr ⟨by omega,hC⟩⟩
   ·obtain⟨rfl,la,o,rfl,a1,a2,a3,a4⟩:=h
    exact⟨rfl,rfl,la,o,rfl,a1,a2,a3,.inl (by omega)⟩
  ·rintro b st' s' ⟨rfl,rfl,la,o,rfl,a1,a2,a3,a4⟩
   dsimp only
   refine kasC_bind (kasC_range (oM (B:=fun i=>bey LT left key (g i)) (n:=n) (fun x lo hi h R hR=>?_) (fun x lo hi h1 h2 R hR=>?_) lo_ hi_ (by rw[List.length_range'];omega) (by omega) (by omega) (lo_ _ a1 a2) (fun i h1 h2=>?_) fun k k1 k2 k3=>?_))
   ·dsimp only
    rw[if_pos h]
    exact kasC_pure hR
   ·dsimp only
    rw[if_neg (by omega)]
    refine kasC_bind (ask _ (by omega) _ ?_)
    dsimp only at hR ⊢
    cases hC:bey LT left key (g (lo+(hi-lo) / 2))with
    |true=>rw[hC]at hR;exact kasC_pure hR
    |false=>rw[hC]at hR;exact kasC_pure hR
   ·rcases a4 with a4|⟨a4,a5⟩
    ·omega
    ·exact hi_ _ a4 a5 i (by omega) h2
   ·exact kasC_pure (q k k1 k2 k3)
 |false=>
  dsimp only
  rw[if_neg (by decide)]
  refine kasC_bind (kasC_range (aT (Q':=fun b st' s'=>st'=st/\s'=s/\∃la o,b=(none,la,o)/\la<=hint/\bey LT left key (g (hint-la))=false/\la<o/\(hint+1<=o\/(o<=hint/\bey LT left key (g (hint-o))=true))) ?_ ?_))
  ·refine bx (fun k b st'=>st'=st/\∃la o,b=(none,la,o)/\la<=hint/\bey LT left key (g (hint-la))=false/\la<o/\n+1<=o+k) (fun x k b st' h=>?_) (fun b st' h=>?_) _ _ _ ⟨rfl,0,1,rfl,by omega,hB,by omega,by rw[List.length_range'];omega⟩
   ·obtain⟨rfl,la,o,rfl,a1,a2,a3,a4⟩:=h
    dsimp only
    by_cases e:o≥hint+1
    ·rw[if_pos e]
     exact kasC_pure ⟨rfl,rfl,la,o,rfl,a1,a2,a3,.inl e⟩
    ·rw[if_neg e]
     refine kasC_bind (ask (hint-o) (by omega) _ ?_)
     cases hC:bey LT left key (g (hint-o))with
     |true=>exact kasC_pure ⟨rfl,rfl,la,o,rfl,a1,a2,a3,.inr ⟨by omega,hC⟩⟩
     |false=>exact kasC_pure ⟨⟨rfl,o,2*o+1,rfl,by omega,hC,by omega,by omega⟩,rfl⟩
   ·obtain⟨rfl,la,o,rfl,a1,a2,a3,a4⟩:=h
    exact⟨rfl,rfl,la,o,rfl,a1,a2,a3,.inl (by omega)⟩
  ·rintro b st' s' ⟨rfl,rfl,la,o,rfl,a1,a2,a3,a4⟩
   dsimp only
   refine kasC_bind (kasC_range (oM (B:=fun i=>bey LT left key (g i)) (n:=n) (fun x lo hi h R hR=>?_) (fun x lo hi h1 h2 R hR=>?_) lo_ hi_ (by rw[List.length_range'];omega) (by omega) (by omega) (fun i h1=>?_) (fun i h1 h2=>hi_ _ (by omega) a2 i (by omega) h2) fun k k1 k2 k3=>?_))
   ·dsimp only
    rw[if_pos h]
    exact kasC_pure hR
   ·dsimp only
    rw[if_neg (by omega)]
    refine kasC_bind (ask _ (by omega) _ ?_)
    dsimp only at hR ⊢
    cases hC:bey LT left key (g (lo+(hi-lo) / 2))with
    |true=>rw[hC]at hR;exact kasC_pure hR
    |false=>rw[hC]at hR;exact kasC_pure hR
   ·rcases a4 with a4|⟨a4,a5⟩
    ·omega
    ·exact lo_ _ (by omega) a5 i (by omega)
   ·exact kasC_pure (q k k1 k2 k3)
end
section
variable{α:Type}{LT:α->α->Bool}{a b o:List α}{i j k:Nat}
def bO(LT:α->α->Bool)(l:List α):Prop:=l.Pairwise fun x y=>LT x y=true
structure MgI(LT:α->α->Bool)(a b o:List α)(i j:Nat):Prop where
 pm:(o++(a.drop i++b.drop j)).Perm (a++b)
 as:bO LT o
 lo:∀x∈o,∀y∈a.drop i++b.drop j,LT x y=true
theorem MgI.start:MgI LT a b [] 0 0:=⟨.refl _,List.Pairwise.nil,fun _ h=>by cases h⟩
theorem xY{l:List α}(h:bO LT l)(i k:Nat):bO LT ((l.drop i).take k)/\∀x∈(l.drop i).take k,∀y∈l.drop (i+k),LT x y=true:=by
 have h1:bO LT (l.drop i):=List.Pairwise.sublist (List.drop_sublist _ _) h
 rw[<-List.take_append_drop k (l.drop i)]at h1
 obtain⟨h2,h3,h4⟩:=List.pairwise_append.mp h1
 refine⟨h2,fun x hx y hy=>h4 x hx y ?_⟩
 rw[List.drop_drop]
 exact hy
theorem MgI.takeA(M:MgI LT a b o i j)(ha:bO LT a)(h:∀x∈(a.drop i).take k,∀y∈b.drop j,LT x y=true):MgI LT a b (o++(a.drop i).take k) (i+k) j:=by
 obtain⟨t1,t2⟩:=xY ha i k
 have e:(a.drop i).take k++a.drop (i+k)=a.drop i:=by rw[<-List.drop_drop];exact List.take_append_drop _ _
 refine⟨?_,List.pairwise_append.mpr ⟨M.as,t1,fun x hx y hy=>M.lo x hx y (List.mem_append_left _ (List.mem_of_mem_take hy))⟩,fun x hx y hy=>?_⟩
 ·have:=M.pm
  rw[<-e]at this
  simpa only[List.append_assoc] using this
 ·rcases List.mem_append.mp hx with hx|hx
  ·refine M.lo x hx y ?_
   rcases List.mem_append.mp hy with hy|hy
   ·rw[<-e];exact List.mem_append_left _ (List.mem_append_right _ hy)
   ·exact List.mem_append_right _ hy
  ·rcases List.mem_append.mp hy with hy|hy
   ·exact t2 x hx y hy
   ·exact h x hx y hy
theorem MgI.takeB(M:MgI LT a b o i j)(hb:bO LT b)(h:∀x∈(b.drop j).take k,∀y∈a.drop i,LT x y=true):MgI LT a b (o++(b.drop j).take k) i (j+k):=by
 obtain⟨t1,t2⟩:=xY hb j k
 have e:(b.drop j).take k++b.drop (j+k)=b.drop j:=by rw[<-List.drop_drop];exact List.take_append_drop _ _
 refine⟨?_,List.pairwise_append.mpr ⟨M.as,t1,fun x hx y hy=>M.lo x hx y (List.mem_append_right _ (List.mem_of_mem_take hy))⟩,fun x hx y hy=>?_⟩
 ·refine List.Perm.trans ?_ M.pm
  rw[List.append_assoc]
  refine List.Perm.append_left o ?_
  refine List.Perm.trans ?_ (List.Perm.append_left _ (List.Perm.of_eq e))
  rw[<-List.append_assoc,<-List.append_assoc]
  exact List.Perm.append_right _ List.perm_append_comm
 ·rcases List.mem_append.mp hx with hx|hx
  ·refine M.lo x hx y ?_
   rcases List.mem_append.mp hy with hy|hy
   ·exact List.mem_append_left _ hy
   ·rw[<-e];exact List.mem_append_right _ (List.mem_append_right _ hy)
  ·rcases List.mem_append.mp hy with hy|hy
   ·exact h x hx y hy
   ·exact t2 x hx y hy
theorem MgI.done(M:MgI LT a b o i j)(ha:bO LT a)(hb:bO LT b)(h:∀x∈a.drop i,∀y∈b.drop j,LT x y=true):(o++(a.drop i++b.drop j)).Perm (a++b)/\bO LT (o++(a.drop i++b.drop j)):=
 ⟨M.pm,List.pairwise_append.mpr ⟨M.as,List.pairwise_append.mpr ⟨List.Pairwise.sublist (List.drop_sublist _ _) ha,List.Pairwise.sublist (List.drop_sublist _ _) hb,h⟩,M.lo⟩⟩
theorem MgI.last(M:MgI LT a b o i j)(ha:bO LT a)(hb:bO LT b)(h:∀x∈b.drop j,∀y∈a.drop i,LT x y=true):(o++(b.drop j++a.drop i)).Perm (a++b)/\bO LT (o++(b.drop j++a.drop i)):=
 ⟨(List.Perm.append_left o List.perm_append_comm).trans M.pm,List.pairwise_append.mpr ⟨M.as,List.pairwise_append.mpr ⟨List.Pairwise.sublist (List.drop_sublist _ _) hb,List.Pairwise.sublist (List.drop_sublist _ _) ha,h⟩,fun x hx y hy=>M.lo x hx y (List.mem_append.mpr (List.mem_append.mp hy).symm)⟩⟩
end
def vJ:Array Keyed->Array Keyed->StateT SortSt Sem (Array Keyed):=sortPriv% PySem.Builtin.mergeLo
def vK:Array Keyed->Array Keyed->StateT SortSt Sem (Array Keyed):=sortPriv% PySem.Builtin.mergeHi
section
variable{prog:Program}{w:World}{A:Around}{E:Value->Shared->Prop}{s:Shared}{κ:SortKind}{LT:Keyed->Keyed->Bool}{X:Keyed->Prop}
def Gl(st st':SortSt):Prop:=∃g,st'=SortSt.mk' (Rows.kindOf st) (arrOf st) (pendingOf st) g (failedOf st)
theorem Gl.refl{st:SortSt}:Gl st st:=⟨gallopOf st,rfl⟩
theorem Gl.kind{st st':SortSt}(h:Gl st st'):Rows.kindOf st'=Rows.kindOf st:=by obtain⟨g,rfl⟩:=h;rfl
theorem Gl.trans{st st' st2:SortSt}(h:Gl st st')(h2:Gl st' st2):Gl st st2:=by obtain⟨g,rfl⟩:=h;obtain⟨g2,rfl⟩:=h2;exact⟨g2,rfl⟩
theorem aL{l:Array Keyed}{i:Nat}(h:i<l.size):l[i]?=some (kas_item l i):=by
 unfold kas_item;simp[Array.getD,h]
theorem dI{l:Array Keyed}{i:Nat}(h:i<l.size):l.toList.drop i=kas_item l i::l.toList.drop (i+1):=by
 rw[List.drop_eq_getElem_cons (by simpa using h)]
 congr 1
 have:=aL h
 simpa [h] using this
theorem aD{l:Array Keyed}{i:Nat}(h:i<l.size):kas_item l i∈l.toList:=List.mem_of_mem_drop (i:=i) (by rw[dI h];exact List.mem_cons_self)
theorem vY{l:Array Keyed}{i:Nat}{x:Keyed}(h:x∈l.toList.drop i):∃t,i+t<l.size/\x=kas_item l (i+t):=by
 obtain⟨t,ht,e⟩:=List.getElem_of_mem h
 rw[List.length_drop]at ht
 have hz:i+t<l.size:=by simp at ht;omega
 refine⟨t,hz,?_⟩
 rw[<-e,List.getElem_drop]
 have:=aL hz
 simpa [hz] using this
theorem jY{l:Array Keyed}{i k:Nat}{x:Keyed}(h:x∈(l.toList.drop i).take k):∃t,t<k/\i+t<l.size/\x=kas_item l (i+t):=by
 obtain⟨t,ht,e⟩:=List.getElem_of_mem h
 rw[List.length_take,List.length_drop]at ht
 have hz:i+t<l.size:=by simp at ht;omega
 refine⟨t,by omega,hz,?_⟩
 rw[<-e,List.getElem_take,List.getElem_drop]
 have:=aL hz
 simpa [hz] using this
theorem fS{l:Array Keyed}{i j:Nat}(h:bO LT l.toList)(hij:i<j)(hj:j<l.size):LT (kas_item l i) (kas_item l j)=true:=by
 have hi:i<l.size:=by omega
 have:=List.pairwise_iff_getElem.mp h i j (by simpa using hi) (by simpa using hj) hij
 have e1:=aL hi
 have e2:=aL hj
 simp only[hi,hj,getElem?_pos,Option.some.injEq]at e1 e2
 rw[<-e1,<-e2]
 simpa using this
theorem kh{l:Array Keyed}{i k:Nat}:(l.extract i (i+k)).toList=(l.toList.drop i).take k:=by
 simp
theorem gv{l:Array Keyed}{i:Nat}:(l.extract i l.size).toList=l.toList.drop i:=by
 simp only[Array.toList_extract]
 rw[List.extract_eq_take_drop,List.take_of_length_le (by simp)]
structure Two(LT:Keyed->Keyed->Bool)(X:Keyed->Prop)(a b:Array Keyed):Prop where
 aa:bO LT a.toList
 ab:bO LT b.toList
 xa:∀x∈a.toList,X x
 xb:∀x∈b.toList,X x
 tr:∀{x y z},X x->X y->X z->LT x y=true->LT y z=true->LT x z=true
 tot:∀x∈a.toList,∀y∈b.toList,LT y x=false->LT x y=true
 asym:∀x∈a.toList,∀y∈b.toList,LT x y=true->LT y x=false
 na:0<a.size
 nb:0<b.size
 fst:LT (kas_item b 0) (kas_item a 0)=true
 lst:LT (kas_item b (b.size-1)) (kas_item a (a.size-1))=true
variable{a b out:Array Keyed}{i j k:Nat}
theorem Two.leA(T:Two LT X a b){x:Keyed}(hx:X x)(hi:i<a.size)(h:LT x (kas_item a i)=true):∀y∈a.toList.drop i,LT x y=true:=fun y hy=>by
 obtain⟨t,ht,rfl⟩:=vY hy
 by_cases e:t=0
 ·subst e;exact h
 ·exact T.tr hx (T.xa _ (aD hi)) (T.xa _ (aD ht)) h (fS T.aa (by omega) ht)
theorem Two.leB(T:Two LT X a b){x:Keyed}(hx:X x)(hj:j<b.size)(h:LT x (kas_item b j)=true):∀y∈b.toList.drop j,LT x y=true:=fun y hy=>by
 obtain⟨t,ht,rfl⟩:=vY hy
 by_cases e:t=0
 ·subst e;exact h
 ·exact T.tr hx (T.xb _ (aD hj)) (T.xb _ (aD ht)) h (fS T.ab (by omega) ht)
theorem Two.bl(T:Two LT X a b):∀y∈b.toList,LT y (kas_item a (a.size-1))=true:=fun y hy=>by
 obtain⟨t,ht,rfl⟩:=vY (i:=0) hy
 rw[Nat.zero_add]at ht ⊢
 have na:=T.na
 have nb:=T.nb
 by_cases e:t=b.size-1
 ·subst e;exact T.lst
 ·exact T.tr (T.xb _ (aD ht)) (T.xb _ (aD (by omega))) (T.xa _ (aD (by omega))) (fS T.ab (by omega) (by omega)) T.lst
def mi(LT:Keyed->Keyed->Bool)(a b r:Array Keyed):Prop:=r.toList.Perm (a.toList++b.toList)/\bO LT r.toList
theorem Two.pushB(T:Two LT X a b)(M:MgI LT a.toList b.toList out.toList i j)(hi:i<a.size)(hj:j<b.size)(h:LT (kas_item b j) (kas_item a i)=true):MgI LT a.toList b.toList (out.push (kas_item b j)).toList i (j+1):=by
 have:=M.takeB (k:=1) T.ab (fun x hx=>by
  rw[dI hj,List.take_succ_cons,List.take_zero,List.mem_singleton]at hx
  subst hx
  exact T.leA (T.xb _ (aD hj)) hi h)
 rw[dI hj,List.take_succ_cons,List.take_zero]at this
 rw[Array.toList_push]
 exact this
theorem Two.pushA(T:Two LT X a b)(M:MgI LT a.toList b.toList out.toList i j)(hi:i<a.size)(hj:j<b.size)(h:LT (kas_item a i) (kas_item b j)=true):MgI LT a.toList b.toList (out.push (kas_item a i)).toList (i+1) j:=by
 have:=M.takeA (k:=1) T.aa (fun x hx=>by
  rw[dI hi,List.take_succ_cons,List.take_zero,List.mem_singleton]at hx
  subst hx
  exact T.leB (T.xa _ (aD hi)) hj h)
 rw[dI hi,List.take_succ_cons,List.take_zero]at this
 rw[Array.toList_push]
 exact this
theorem Two.takA(T:Two LT X a b)(M:MgI LT a.toList b.toList out.toList i j)(hj:j<b.size)(h:∀t,t<k->i+t<a.size->LT (kas_item b j) (kas_item a (i+t))=false):MgI LT a.toList b.toList (out++a.extract i (i+k)).toList (i+k) j:=by
 rw[Array.toList_append,kh]
 refine M.takeA T.aa fun x hx=>?_
 obtain⟨t,h1,h2,rfl⟩:=jY hx
 exact T.leB (T.xa _ (aD h2)) hj (T.tot _ (aD h2) _ (aD hj) (h t h1 h2))
theorem Two.takB(T:Two LT X a b)(M:MgI LT a.toList b.toList out.toList i j)(hi:i<a.size)(h:∀t,t<k->j+t<b.size->LT (kas_item b (j+t)) (kas_item a i)=true):MgI LT a.toList b.toList (out++b.extract j (j+k)).toList i (j+k):=by
 rw[Array.toList_append,kh]
 refine M.takeB T.ab fun x hx=>?_
 obtain⟨t,h1,h2,rfl⟩:=jY hx
 exact T.leA (T.xb _ (aD h2)) hi (h t h1 h2)
theorem Two.fin(T:Two LT X a b)(M:MgI LT a.toList b.toList out.toList i j)(hj:j=b.size):mi LT a b (out++a.extract i a.size++b.extract j b.size):=by
 have:=M.done T.aa T.ab (fun x _ y hy=>by rw[hj,List.drop_of_length_le (by simp)]at hy;cases hy)
 unfold mi
 rw[Array.toList_append,Array.toList_append,gv,gv,List.append_assoc]
 exact this
theorem Two.finL(T:Two LT X a b)(M:MgI LT a.toList b.toList out.toList i j)(hi:i+1=a.size):mi LT a b (out++b.extract j b.size++a.extract i a.size):=by
 have:=M.last T.aa T.ab (fun x hx y hy=>by
  rw[dI (by omega),List.drop_of_length_le (by simp;omega),List.mem_singleton]at hy
  subst hy
  have:=T.bl x (List.mem_of_mem_drop hx)
  rw[show a.size-1=i by omega]at this
  exact this)
 unfold mi
 rw[Array.toList_append,Array.toList_append,gv,gv,List.append_assoc]
 exact this
end
section
variable{prog:Program}{w:World}{A:Around}{E:Value->Shared->Prop}{s:Shared}{κ:SortKind}{LT:Keyed->Keyed->Bool}{X:Keyed->Prop}{a b:Array Keyed}
theorem Two.monoF(T:Two LT X a b){key:Keyed}{i0:Nat}(xk:X key):∀i j,i<=j->j<a.size-i0->bey LT false key (kas_item a (i0+j))=true->bey LT false key (kas_item a (i0+i))=true:=fun i j hij hj h=>by
 by_cases e:i=j
 ·subst e;exact h
 ·unfold bey at h ⊢
  simp only[Bool.false_eq_true,if_false,Bool.not_eq_true']at h ⊢
  cases hc:LT key (kas_item a (i0+i))with
  |false=>rfl
  |true=>rw[T.tr xk (T.xa _ (aD (by omega))) (T.xa _ (aD (by omega))) hc (fS T.aa (show i0+i<i0+j by omega) (by omega))]at h;cases h
theorem Two.monoT(T:Two LT X a b){key:Keyed}{i0:Nat}(xk:X key):∀i j,i<=j->j<b.size-i0->bey LT true key (kas_item b (i0+j))=true->bey LT true key (kas_item b (i0+i))=true:=fun i j hij hj h=>by
 by_cases e:i=j
 ·subst e;exact h
 ·exact T.tr (T.xb _ (aD (by omega))) (T.xb _ (aD (by omega))) xk (fS T.ab (show i0+i<i0+j by omega) (by omega)) h
theorem Cz(hl:oQ prog w A E s κ LT X)(T:Two LT X a b){st:SortSt}{Q:Array Keyed->SortSt->Shared->Prop}(hk:Rows.kindOf st=κ)(q:∀r st',Gl st st'->mi LT a b r->Q r st' s):kasC (model prog w) A E (vJ a b) Q st s:=by
  have na:=T.na
  have nb:=T.nb
  refine kasC_bind (kasC_lift (wpAny_rule ?_))
  refine kasC_bind (aM (aL nb) ?_)
  dsimp only
  have M0:MgI LT a.toList b.toList (#[kas_item b 0]:Array Keyed).toList 0 1:=T.pushB (out:=#[]) MgI.start na nb T.fst
  by_cases e1:(1 == b.size)=true
  · rw[if_pos e1]
    exact kasC_pure (q _ _ Gl.refl (T.fin M0 (eq_of_beq e1)))
  rw[if_neg e1]
  by_cases e2:(0+1 == a.size)=true
  · rw[if_pos e2]
    exact kasC_pure (q _ _ Gl.refl (T.finL M0 (eq_of_beq e2)))
  rw[if_neg e2]
  have b1:1<b.size:=by have:¬1=b.size:=fun z=>e1 (by rw[<-z];rfl);omega
  have a1:0+1<a.size:=by have:¬0+1=a.size:=fun z=>e2 (by rw[<-z];rfl);omega
  refine kasC_bind (kasC_get ?_)
  refine kasC_bind (kasC_range (aT (Q':=fun c st' s'=>s'=s/\Gl st st'/\∃r rest,c=(some r,rest)/\mi LT a b r) ?_ ?_))
  · refine bx (fun k c st'=>Gl st st'/\∃out i j mg,c=(none,out,i,j,mg)/\MgI LT a.toList b.toList out.toList i j/\i+1<a.size/\j<b.size/\(a.size-i)+(b.size-j)+1<=k) (fun x k c st' h=>?_) (fun c st' h=>?_) _ _ _ ⟨Gl.refl,_,_,_,_,rfl,M0,a1,b1,by rw[List.length_range'];omega⟩
    · obtain⟨gl,out,i,j,mg,rfl,M,hi,hj,hr⟩:=h
      refine kasC_bind (kasC_range (aT (Q':=fun c st2 s2=>s2=s/\st2=st'/\((∃r rest,c=(some r,rest)/\mi LT a b r)\/∃out' i' j' ac bc,c=(none,out',i',j',ac,bc)/\MgI LT a.toList b.toList out'.toList i' j'/\i'+1<a.size/\j'<b.size/\(a.size-i')+(b.size-j')+1<=(a.size-i)+(b.size-j))) ?_ ?_))
      · refine bx (fun k c st2=>st2=st'/\∃out' i' j' ac bc,c=(none,out',i',j',ac,bc)/\MgI LT a.toList b.toList out'.toList i' j'/\i'+1<a.size/\j'<b.size/\(a.size-i')+(b.size-j')<=(a.size-i)+(b.size-j)/\(a.size-i')+(b.size-j')<=k) (fun x k c st2 h=>?_) (fun c st2 h=>?_) _ _ _ ⟨rfl,_,_,_,_,_,rfl,M,hi,hj,Nat.le_refl _,by rw[List.length_range'];omega⟩
        · obtain⟨rfl,out',i',j',ac,bc,rfl,M',hi',hj',r1,r2⟩:=h
          refine kasC_bind (aM (aL hj') (kasC_bind (aM (aL (show i'<a.size by omega)) (kasC_bind (hl _ _ _ _ (T.xb _ (aD hj')) (T.xa _ (aD (show i'<a.size by omega))) (gl.kind.trans hk) ?_)))))
          cases hc:LT (kas_item b j') (kas_item a i')with
          | true=>
            have M2:=T.pushB M' (by omega) hj' hc
            refine kasC_bind (aM (aL hj') ?_)
            dsimp only
            by_cases e3:(j'+1 == b.size)=true
            · rw[if_pos e3]
              exact kasC_pure ⟨rfl,rfl,.inl ⟨_,_,rfl,T.fin M2 (eq_of_beq e3)⟩⟩
            rw[if_neg e3]
            have j3:j'+1<b.size:=by have:¬j'+1=b.size:=fun z=>e3 (by rw[<-z];exact beq_self_eq_true _);omega
            split
            · exact kasC_pure ⟨rfl,rfl,.inr ⟨_,_,_,_,_,rfl,M2,hi',j3,by omega⟩⟩
            · exact kasC_pure ⟨⟨rfl,_,_,_,_,_,rfl,M2,hi',j3,by omega,by omega⟩,rfl⟩
          | false=>
            have M2:=T.pushA M' (by omega) hj' (T.tot _ (aD (by omega)) _ (aD hj') hc)
            refine kasC_bind (aM (aL (show i'<a.size by omega)) ?_)
            dsimp only
            by_cases e3:(i'+1+1 == a.size)=true
            · rw[if_pos e3]
              exact kasC_pure ⟨rfl,rfl,.inl ⟨_,_,rfl,T.finL M2 (eq_of_beq e3)⟩⟩
            rw[if_neg e3]
            have i3:i'+1+1<a.size:=by have:¬i'+1+1=a.size:=fun z=>e3 (by rw[<-z];exact beq_self_eq_true _);omega
            split
            · exact kasC_pure ⟨rfl,rfl,.inr ⟨_,_,_,_,_,rfl,M2,i3,hj',by omega⟩⟩
            · exact kasC_pure ⟨⟨rfl,_,_,_,_,_,rfl,M2,i3,hj',by omega,by omega⟩,rfl⟩
        · obtain⟨rfl,out',i',j',ac,bc,rfl,M',hi',hj',r1,r2⟩:=h
          omega
      · rintro c st2 s2 ⟨rfl,rfl,⟨r,rest,rfl,fr⟩|⟨out',i',j',ac,bc,rfl,M',hi',hj',hr'⟩⟩
        · exact kasC_pure ⟨rfl,gl,_,_,rfl,fr⟩
        dsimp only
        refine kasC_bind (kasC_lift (wpAny_rule ?_))
        refine kasC_bind (kasC_range (aT (Q':=fun c st3 s3=>s3=s2/\Gl st st3/\((∃r rest,c=(some r,rest)/\mi LT a b r)\/∃out' i' j' mg ac bc,c=(none,out',i',j',mg,ac,bc)/\MgI LT a.toList b.toList out'.toList i' j'/\i'+1<a.size/\j'<b.size/\(a.size-i')+(b.size-j')+1<=(a.size-i)+(b.size-j))) ?_ ?_))
        · refine bx (fun k c st3=>Gl st st3/\∃out' i' j' mg ac bc,c=(none,out',i',j',mg,ac,bc)/\MgI LT a.toList b.toList out'.toList i' j'/\i'+1<a.size/\j'<b.size/\(a.size-i')+(b.size-j')+1<=(a.size-i)+(b.size-j)/\(a.size-i')+(b.size-j')<=k) (fun x k c st3 h=>?_) (fun c st3 h=>?_) _ _ _ ⟨gl,_,_,_,_,_,_,rfl,M',hi',hj',hr',by rw[List.length_range'];omega⟩
          · clear M' hi' hj' hr' M hi hj out' i' j' ac bc out
            obtain⟨gl3,out,i',j',mg',ac,bc,rfl,M,hi,hj,r1,r2⟩:=h
            dsimp only
            by_cases eg:mg'>1
            all_goals first|rw[if_pos eg]|rw[if_neg eg]
            all_goals
              refine kasC_bind (kasC_modify ?_)
              refine kasC_bind (aM (aL hj) ?_)
              refine kasC_bind (jd hl (g:=fun t=>kas_item a (i'+t)) (gl3.kind.trans hk) (T.xb _ (aD hj)) (fun t ht=>⟨aL (by omega),T.xa _ (aD (by omega))⟩) (by omega) (T.monoF (T.xb _ (aD hj))) (fun kk k1 k2 k3=>?_))
              have ik:i'+kk<a.size:=by
                by_cases z:i'+kk<a.size
                · exact z
                · have z1:=k2 (a.size-1-i') (by omega)
                  rw[show i'+(a.size-1-i')=a.size-1 by omega]at z1
                  unfold bey at z1
                  rw[T.bl _ (aD hj)]at z1
                  cases z1
              have hb1:LT (kas_item b j') (kas_item a (i'+kk))=true:=by
                have z1:=k3 kk (Nat.le_refl _) (by omega)
                unfold bey at z1
                simpa using z1
              have M1:=T.takA (k:=kk) M hj (fun t h1 h2=>by
                have z1:=k2 t h1
                unfold bey at z1
                simpa using z1)
              dsimp only
              rcases Nat.eq_zero_or_pos kk with ek|ek
              all_goals first
                | (rw [if_pos ek]
                   by_cases e3:(i'+kk+1 == a.size)=true
                   · rw[if_pos e3]
                     exact kasC_pure ⟨rfl,gl3.trans ⟨_,rfl⟩,.inl ⟨_,_,rfl,T.finL M1 (eq_of_beq e3)⟩⟩
                   rw[if_neg e3,if_neg (show ¬(i'+kk == a.size)=true from fun z=>by have:=eq_of_beq z;omega)]
                   have c1:i'+kk+1<a.size:=by have:¬i'+kk+1=a.size:=fun z=>e3 (by rw[<-z];exact beq_self_eq_true _);omega
                   have le1:i'<=i'+kk:=by omega
                   clear M ik hi k1 k2 k3 ek e3
                   generalize out++a.extract i' (i'+kk)=o1 at M1 ⊢
                   generalize i'+kk=i1 at hb1 M1 c1 le1 ⊢)
                | (subst ek
                   rw[if_neg (by decide)]
                   have c1:=hi
                   have le1:i'<=i':=Nat.le_refl _
                   replace M1:=M
                   replace hb1:LT (kas_item b j') (kas_item a i')=true:=hb1
                   clear M ik hi k1 k2 k3
                   generalize out=o1 at M1 ⊢
                   generalize hi1:i'=i1 at hb1 M1 c1 ⊢
                   have le1:i'<=i1:=by omega)
              all_goals
                refine kasC_bind (aM (aL hj) ?_)
                have M2:=T.pushB M1 (by omega) hj hb1
                by_cases e4:(j'+1 == b.size)=true
                · rw[if_pos e4]
                  exact kasC_pure ⟨rfl,gl3.trans ⟨_,rfl⟩,.inl ⟨_,_,rfl,T.fin M2 (eq_of_beq e4)⟩⟩
                rw[if_neg e4]
                have j3:j'+1<b.size:=by have:¬j'+1=b.size:=fun z=>e4 (by rw[<-z];exact beq_self_eq_true _);omega
                refine kasC_bind (aM (aL (show i1<a.size by omega)) ?_)
                refine kasC_bind (jd hl (g:=fun t=>kas_item b (j'+1+t)) (gl3.kind.trans hk) (T.xa _ (aD (show i1<a.size by omega))) (fun t ht=>⟨aL (by omega),T.xb _ (aD (by omega))⟩) (by omega) (T.monoT (T.xa _ (aD (by omega)))) (fun kb k1 k2 k3=>?_))
                have M3:=T.takB (k:=kb) M2 (show i1<a.size by omega) (fun t h1 h2=>k2 t h1)
                dsimp only
                rcases Nat.eq_zero_or_pos kb with ek|ek
                all_goals first
                  | (rw [if_pos ek]
                     by_cases e5:(j'+1+kb == b.size)=true
                     · rw[if_pos e5]
                       exact kasC_pure ⟨rfl,gl3.trans ⟨_,rfl⟩,.inl ⟨_,_,rfl,T.fin M3 (eq_of_beq e5)⟩⟩
                     rw[if_neg e5]
                     have c5:j'+1+kb<b.size:=by have:¬j'+1+kb=b.size:=fun z=>e5 (by rw[<-z];exact beq_self_eq_true _);omega
                     have hb3:LT (kas_item b (j'+1+kb)) (kas_item a i1)=false:=k3 kb (Nat.le_refl _) (by omega)
                     have le2:j'+1<=j'+1+kb:=by omega
                     clear k1 k2 k3 ek e5
                     generalize o1.push (kas_item b j')++b.extract (j'+1) (j'+1+kb)=o3 at M3 ⊢
                     generalize j'+1+kb=j1 at M3 c5 hb3 le2 ⊢)
                  | (subst ek
                     rw[if_neg (by decide)]
                     have hb3:LT (kas_item b (j'+1)) (kas_item a i1)=false:=k3 0 (Nat.le_refl _) (by omega)
                     replace M3:=M2
                     have c5:=j3
                     clear k1 k2 k3
                     generalize o1.push (kas_item b j')=o3 at M3 ⊢
                     have le2:j'+1<=j'+1:=Nat.le_refl _
                     generalize hj1:j'+1=j1 at M3 c5 hb3 ⊢
                     have le2:j'+1<=j1:=by omega)
                all_goals
                  refine kasC_bind (aM (aL (show i1<a.size by omega)) ?_)
                  have M4:=T.pushA M3 (by omega) c5 (T.tot _ (aD (by omega)) _ (aD c5) hb3)
                  by_cases e6:(i1+1+1 == a.size)=true
                  · rw[if_pos e6]
                    exact kasC_pure ⟨rfl,gl3.trans ⟨_,rfl⟩,.inl ⟨_,_,rfl,T.finL M4 (eq_of_beq e6)⟩⟩
                  rw[if_neg e6]
                  have i3:i1+1+1<a.size:=by have:¬i1+1+1=a.size:=fun z=>e6 (by rw[<-z];exact beq_self_eq_true _);omega
                  split
                  · exact kasC_pure ⟨rfl,gl3.trans ⟨_,rfl⟩,.inr ⟨_,i1+1,j1,_,_,_,rfl,M4,i3,c5,by omega⟩⟩
                  · exact kasC_pure ⟨⟨gl3.trans ⟨_,rfl⟩,_,i1+1,j1,_,_,_,rfl,M4,i3,c5,by omega,by omega⟩,rfl⟩
          · obtain⟨gl3,out',i',j',mg',ac,bc,rfl,M',hi',hj',r1,r2⟩:=h
            omega
        · rintro c st3 s3 ⟨rfl,gl3,⟨r,rest,rfl,fr⟩|⟨out',i',j',mg',ac,bc,rfl,M',hi',hj',hr'⟩⟩
          · exact kasC_pure ⟨rfl,gl3,_,_,rfl,fr⟩
          · exact kasC_bind (kasC_modify (kasC_pure ⟨⟨gl3.trans ⟨_,rfl⟩,out',i',j',_,rfl,M',hi',hj',by omega⟩,rfl⟩))
    · obtain⟨gl,out,i,j,mg,rfl,M,hi,hj,hr⟩:=h
      omega
  · rintro c st' s' ⟨rfl,gl,r,rest,rfl,fr⟩
    exact kasC_pure (q _ _ gl fr)
end
section
variable{α:Type}{LT:α->α->Bool}{a b t:List α}{i j p:Nat}
structure MgH(LT:α->α->Bool)(a b t:List α)(i j:Nat):Prop where
 pm:(a.take i++(b.take j++t)).Perm (a++b)
 as:bO LT t
 hi:∀x∈a.take i++b.take j,∀y∈t,LT x y=true
theorem MgH.start:MgH LT a b [] a.length b.length:=⟨by rw[List.take_length,List.take_length,List.append_nil],List.Pairwise.nil,fun _ _ _ h=>by cases h⟩
theorem fX{l:List α}(h:p<=i):l.take p++(l.take i).drop p=l.take i:=by
 have:=List.take_append_drop p (l.take i)
 rwa[List.take_take,Nat.min_eq_left h]at this
theorem mY{l:List α}(hl:bO LT l)(h:p<=i):bO LT ((l.take i).drop p)/\∀x∈l.take p,∀y∈(l.take i).drop p,LT x y=true:=by
 have h1:bO LT (l.take i):=List.Pairwise.sublist (List.take_sublist _ _) hl
 rw[<-fX h]at h1
 obtain⟨_,h3,h4⟩:=List.pairwise_append.mp h1
 exact⟨h3,h4⟩
theorem MgH.takeA(M:MgH LT a b t i j)(ha:bO LT a)(hp:p<=i)(h:∀x∈b.take j,∀y∈(a.take i).drop p,LT x y=true):MgH LT a b ((a.take i).drop p++t) p j:=by
 obtain⟨t1,t2⟩:=mY ha hp
 have e:=fX (l:=a) hp
 refine⟨?_,List.pairwise_append.mpr ⟨t1,M.as,fun x hx y hy=>M.hi x (List.mem_append_left _ (List.mem_of_mem_drop hx)) y hy⟩,fun x hx y hy=>?_⟩
 ·refine List.Perm.trans ?_ M.pm
  refine List.Perm.trans ?_ (List.Perm.append_right _ (List.Perm.of_eq e))
  rw[List.append_assoc]
  refine List.Perm.append_left _ ?_
  rw[<-List.append_assoc,<-List.append_assoc]
  exact List.Perm.append_right _ List.perm_append_comm
 ·rcases List.mem_append.mp hx with hx|hx<;>rcases List.mem_append.mp hy with hy|hy
  ·exact t2 x hx y hy
  ·exact M.hi x (List.mem_append_left _ (by rw[<-e];exact List.mem_append_left _ hx)) y hy
  ·exact h x hx y hy
  ·exact M.hi x (List.mem_append_right _ hx) y hy
theorem MgH.takeB(M:MgH LT a b t i j)(hb:bO LT b)(hp:p<=j)(h:∀x∈a.take i,∀y∈(b.take j).drop p,LT x y=true):MgH LT a b ((b.take j).drop p++t) i p:=by
 obtain⟨t1,t2⟩:=mY hb hp
 have e:=fX (l:=b) hp
 refine⟨?_,List.pairwise_append.mpr ⟨t1,M.as,fun x hx y hy=>M.hi x (List.mem_append_right _ (List.mem_of_mem_drop hx)) y hy⟩,fun x hx y hy=>?_⟩
 ·have:=M.pm
  rw[<-e]at this
  simpa only[List.append_assoc] using this
 ·rcases List.mem_append.mp hx with hx|hx<;>rcases List.mem_append.mp hy with hy|hy
  ·exact h x hx y hy
  ·exact M.hi x (List.mem_append_left _ hx) y hy
  ·exact t2 x hx y hy
  ·exact M.hi x (List.mem_append_right _ (by rw[<-e];exact List.mem_append_left _ hx)) y hy
theorem MgH.done(M:MgH LT a b t i j)(ha:bO LT a)(hb:bO LT b)(h:∀x∈a.take i,∀y∈b.take j,LT x y=true):(a.take i++b.take j++t).Perm (a++b)/\bO LT (a.take i++b.take j++t):=
 ⟨by rw[List.append_assoc];exact M.pm,List.pairwise_append.mpr ⟨List.pairwise_append.mpr ⟨List.Pairwise.sublist (List.take_sublist _ _) ha,List.Pairwise.sublist (List.take_sublist _ _) hb,h⟩,M.as,M.hi⟩⟩
theorem MgH.last(M:MgH LT a b t i j)(ha:bO LT a)(hb:bO LT b)(h:∀x∈b.take j,∀y∈a.take i,LT x y=true):(b.take j++a.take i++t).Perm (a++b)/\bO LT (b.take j++a.take i++t):=
 ⟨(List.Perm.append_right t List.perm_append_comm).trans (by rw[List.append_assoc];exact M.pm),List.pairwise_append.mpr ⟨List.pairwise_append.mpr ⟨List.Pairwise.sublist (List.take_sublist _ _) hb,List.Pairwise.sublist (List.take_sublist _ _) ha,h⟩,M.as,fun x hx y hy=>M.hi x (List.mem_append.mpr (List.mem_append.mp hx).symm) y hy⟩⟩
end
section
variable{LT:Keyed->Keyed->Bool}{X:Keyed->Prop}{a b out:Array Keyed}{i j p:Nat}
theorem j6{l:Array Keyed}{x:Keyed}(h:x∈l.toList.take i):∃t,t<i/\t<l.size/\x=kas_item l t:=by
 obtain⟨t,h1,h2,e⟩:=jY (i:=0) (k:=i) h
 exact⟨t,h1,by omega,by rw[e,Nat.zero_add]⟩
theorem si{l:Array Keyed}{x:Keyed}(h:x∈(l.toList.take i).drop p):∃t,p<=t/\t<i/\t<l.size/\x=kas_item l t:=by
 rw[List.drop_take]at h
 obtain⟨t,h1,h2,e⟩:=jY h
 exact⟨p+t,by omega,by omega,h2,e⟩
theorem Dc{l:Array Keyed}(h:i<l.size):(l.toList.take (i+1)).drop i=[kas_item l i]:=by
 rw[List.drop_take,dI h,show i+1-i=1 by omega];rfl
theorem fT{l:Array Keyed}:(l.extract p i).toList=(l.toList.take i).drop p:=by
 rw[List.drop_take];simp
theorem Two.af(T:Two LT X a b):∀y∈a.toList,LT (kas_item b 0) y=true:=fun y hy=>T.leA (T.xb _ (aD T.nb)) T.na T.fst y hy
theorem Two.cutA(T:Two LT X a b)(M:MgH LT a.toList b.toList out.toList.reverse i j)(hp:p<=i)(hj:0<j)(hz:j<=b.size)(h:∀t,p<=t->t<i->t<a.size->LT (kas_item b (j-1)) (kas_item a t)=true):MgH LT a.toList b.toList (out++(a.extract p i).reverse).toList.reverse p j:=by
 rw[Array.toList_append,List.reverse_append,Array.toList_reverse,List.reverse_reverse,fT]
 refine M.takeA T.aa hp fun x hx y hy=>?_
 obtain⟨t,h1,h2,h3,rfl⟩:=si hy
 obtain⟨u,g1,g2,rfl⟩:=j6 hx
 have h0:=h t h1 h2 h3
 by_cases e:u=j-1
 ·subst e;exact h0
 ·exact T.tr (T.xb _ (aD g2)) (T.xb _ (aD (by omega))) (T.xa _ (aD h3)) (fS T.ab (by omega) (by omega)) h0
theorem Two.cutB(T:Two LT X a b)(M:MgH LT a.toList b.toList out.toList.reverse i j)(hp:p<=j)(hi:0<i)(hz:i<=a.size)(h:∀t,p<=t->t<j->t<b.size->LT (kas_item b t) (kas_item a (i-1))=false):MgH LT a.toList b.toList (out++(b.extract p j).reverse).toList.reverse i p:=by
 rw[Array.toList_append,List.reverse_append,Array.toList_reverse,List.reverse_reverse,fT]
 refine M.takeB T.ab hp fun x hx y hy=>?_
 obtain⟨t,h1,h2,h3,rfl⟩:=si hy
 obtain⟨u,g1,g2,rfl⟩:=j6 hx
 have h0:=T.tot _ (aD (show i-1<a.size by omega)) _ (aD h3) (h t h1 h2 h3)
 by_cases e:u=i-1
 ·subst e;exact h0
 ·exact T.tr (T.xa _ (aD g2)) (T.xa _ (aD (by omega))) (T.xb _ (aD h3)) (fS T.aa (by omega) (by omega)) h0
theorem sD{l:Array Keyed}(h:i<l.size):(out++(l.extract i (i+1)).reverse).toList.reverse=(out.push (kas_item l i)).toList.reverse:=by
 rw[Array.toList_append,Array.toList_reverse,fT,Dc h,Array.toList_push];rfl
theorem Two.hpA(T:Two LT X a b)(M:MgH LT a.toList b.toList out.toList.reverse (i+1) j)(hi:i<a.size)(hj:0<j)(hz:j<=b.size)(h:LT (kas_item b (j-1)) (kas_item a i)=true):MgH LT a.toList b.toList (out.push (kas_item a i)).toList.reverse i j:=by
 rw[<-sD hi]
 exact T.cutA M (by omega) hj hz fun t h1 h2 h3=>by rw[show t=i by omega];exact h
theorem Two.hpB(T:Two LT X a b)(M:MgH LT a.toList b.toList out.toList.reverse i (j+1))(hj:j<b.size)(hi:0<i)(hz:i<=a.size)(h:LT (kas_item b j) (kas_item a (i-1))=false):MgH LT a.toList b.toList (out.push (kas_item b j)).toList.reverse i j:=by
 rw[<-sD hj]
 exact T.cutB M (by omega) hi hz fun t h1 h2 h3=>by rw[show t=j by omega];exact h
theorem Two.hfin(T:Two LT X a b)(M:MgH LT a.toList b.toList out.toList.reverse i j)(hi:i=0):mi LT a b (a.extract 0 i++b.extract 0 j++out.reverse):=by
 have:=M.done T.aa T.ab (fun x hx=>by rw[hi]at hx;cases hx)
 unfold mi
 rw[Array.toList_append,Array.toList_append,fT,fT,Array.toList_reverse,List.drop_zero,List.drop_zero]
 exact this
theorem Two.hfst(T:Two LT X a b)(M:MgH LT a.toList b.toList out.toList.reverse i j)(hj:j=1):mi LT a b (b.extract 0 j++a.extract 0 i++out.reverse):=by
 have:=M.last T.aa T.ab (fun x hx y hy=>by
  obtain⟨t,h1,h2,rfl⟩:=j6 hx
  rw[show t=0 by omega]
  exact T.af y (List.mem_of_mem_take hy))
 unfold mi
 rw[Array.toList_append,Array.toList_append,fT,fT,Array.toList_reverse,List.drop_zero,List.drop_zero]
 exact this
end
section
variable{prog:Program}{w:World}{A:Around}{E:Value->Shared->Prop}{s:Shared}{κ:SortKind}{LT:Keyed->Keyed->Bool}{X:Keyed->Prop}{a b out:Array Keyed}{i j:Nat}
theorem Two.hA(T:Two LT X a b)(M:MgH LT a.toList b.toList out.toList.reverse i j)(hi:0<i)(hz:i<=a.size)(hj:0<j)(hz':j<=b.size)(h:LT (kas_item b (j-1)) (kas_item a (i-1))=true):MgH LT a.toList b.toList (out.push (kas_item a (i-1))).toList.reverse (i-1) j:=by
 obtain⟨k,rfl⟩:∃k,i=k+1:=⟨i-1,by omega⟩
 exact T.hpA M (by omega) hj hz' h
theorem Two.hB(T:Two LT X a b)(M:MgH LT a.toList b.toList out.toList.reverse i j)(hj:0<j)(hz':j<=b.size)(hi:0<i)(hz:i<=a.size)(h:LT (kas_item b (j-1)) (kas_item a (i-1))=false):MgH LT a.toList b.toList (out.push (kas_item b (j-1))).toList.reverse i (j-1):=by
 obtain⟨k,rfl⟩:∃k,j=k+1:=⟨j-1,by omega⟩
 exact T.hpB M (by omega) hi hz h
theorem dP{x y:Nat}(h:¬(x == y)=true):x≠y:=fun z=>h (by rw[z];exact beq_self_eq_true _)
theorem CB(hl:oQ prog w A E s κ LT X)(T:Two LT X a b){st:SortSt}{Q:Array Keyed->SortSt->Shared->Prop}(hk:Rows.kindOf st=κ)(q:∀r st',Gl st st'->mi LT a b r->Q r st' s):kasC (model prog w) A E (vK a b) Q st s:=by
  have na:=T.na
  have nb:=T.nb
  refine kasC_bind (kasC_lift (wpAny_rule ?_))
  refine kasC_bind (aM (aL (show a.size-1<a.size by omega)) ?_)
  dsimp only
  have M0:MgH LT a.toList b.toList (#[kas_item a (a.size-1)]:Array Keyed).toList.reverse (a.size-1) b.size:=by
    have S:MgH LT a.toList b.toList (#[]:Array Keyed).toList.reverse a.size b.size:=by
      have:=MgH.start (LT:=LT) (a:=a.toList) (b:=b.toList)
      rw[Array.length_toList,Array.length_toList]at this
      exact this
    exact T.hA S na (Nat.le_refl _) nb (Nat.le_refl _) T.lst
  by_cases e1:(a.size-1 == 0)=true
  · rw[if_pos e1]
    exact kasC_pure (q _ _ Gl.refl (T.hfin M0 (eq_of_beq e1)))
  rw[if_neg e1]
  by_cases e2:(b.size == 1)=true
  · rw[if_pos e2]
    exact kasC_pure (q _ _ Gl.refl (T.hfst M0 (eq_of_beq e2)))
  rw[if_neg e2]
  have a1:=dP e1
  have b1:=dP e2
  refine kasC_bind (kasC_get ?_)
  refine kasC_bind (kasC_range (aT (Q':=fun c st' s'=>s'=s/\Gl st st'/\∃r rest,c=(some r,rest)/\mi LT a b r) ?_ ?_))
  · refine bx (fun k c st'=>Gl st st'/\∃i j out mg,c=(none,i,j,out,mg)/\MgH LT a.toList b.toList out.toList.reverse i j/\0<i/\i<=a.size/\1<j/\j<=b.size/\i+j+1<=k) (fun x k c st' h=>?_) (fun c st' h=>?_) _ _ _ ⟨Gl.refl,_,_,_,_,rfl,M0,by omega,by omega,by omega,by omega,by rw[List.length_range'];omega⟩
    · obtain⟨gl,i,j,out,mg,rfl,M,hi,hia,hj,hjb,hr⟩:=h
      refine kasC_bind (kasC_range (aT (Q':=fun c st2 s2=>s2=s/\st2=st'/\((∃r rest,c=(some r,rest)/\mi LT a b r)\/∃i' j' out' ac bc,c=(none,i',j',out',ac,bc)/\MgH LT a.toList b.toList out'.toList.reverse i' j'/\0<i'/\i'<=a.size/\1<j'/\j'<=b.size/\i'+j'+1<=i+j)) ?_ ?_))
      · refine bx (fun k c st2=>st2=st'/\∃i' j' out' ac bc,c=(none,i',j',out',ac,bc)/\MgH LT a.toList b.toList out'.toList.reverse i' j'/\0<i'/\i'<=a.size/\1<j'/\j'<=b.size/\i'+j'<=i+j/\i'+j'<=k) (fun x k c st2 h=>?_) (fun c st2 h=>?_) _ _ _ ⟨rfl,i,j,out,_,_,rfl,M,hi,hia,hj,hjb,Nat.le_refl _,by rw[List.length_range'];omega⟩
        · obtain⟨rfl,i',j',out',ac,bc,rfl,M',hi',hia',hj',hjb',r1,r2⟩:=h
          refine kasC_bind (aM (aL (show j'-1<b.size by omega)) (kasC_bind (aM (aL (show i'-1<a.size by omega)) (kasC_bind (hl _ _ _ _ (T.xb _ (aD (show j'-1<b.size by omega))) (T.xa _ (aD (show i'-1<a.size by omega))) (gl.kind.trans hk) ?_)))))
          cases hc:LT (kas_item b (j'-1)) (kas_item a (i'-1))with
          | true=>
            have M2:=T.hA M' hi' hia' (by omega) hjb' hc
            refine kasC_bind (aM (aL (show i'-1<a.size by omega)) ?_)
            dsimp only
            by_cases e3:(i'-1 == 0)=true
            · rw[if_pos e3]
              exact kasC_pure ⟨rfl,rfl,.inl ⟨_,_,rfl,T.hfin M2 (eq_of_beq e3)⟩⟩
            rw[if_neg e3]
            have i3:=dP e3
            split
            · exact kasC_pure ⟨rfl,rfl,.inr ⟨i'-1,j',_,_,_,rfl,M2,by omega,by omega,hj',hjb',by omega⟩⟩
            · exact kasC_pure ⟨⟨rfl,i'-1,j',_,_,_,rfl,M2,by omega,by omega,hj',hjb',by omega,by omega⟩,rfl⟩
          | false=>
            have M2:=T.hB M' (by omega) hjb' hi' hia' hc
            refine kasC_bind (aM (aL (show j'-1<b.size by omega)) ?_)
            dsimp only
            by_cases e3:(j'-1 == 1)=true
            · rw[if_pos e3]
              exact kasC_pure ⟨rfl,rfl,.inl ⟨_,_,rfl,T.hfst M2 (eq_of_beq e3)⟩⟩
            rw[if_neg e3]
            have j3:=dP e3
            split
            · exact kasC_pure ⟨rfl,rfl,.inr ⟨i',j'-1,_,_,_,rfl,M2,hi',hia',by omega,by omega,by omega⟩⟩
            · exact kasC_pure ⟨⟨rfl,i',j'-1,_,_,_,rfl,M2,hi',hia',by omega,by omega,by omega,by omega⟩,rfl⟩
        · obtain⟨rfl,i',j',out',ac,bc,rfl,M',hi',hia',hj',hjb',r1,r2⟩:=h
          omega
      · rintro c st2 s2 ⟨rfl,rfl,⟨r,rest,rfl,fr⟩|⟨i',j',out',ac,bc,rfl,M',hi',hia',hj',hjb',hr'⟩⟩
        · exact kasC_pure ⟨rfl,gl,_,_,rfl,fr⟩
        dsimp only
        refine kasC_bind (kasC_lift (wpAny_rule ?_))
        refine kasC_bind (kasC_range (aT (Q':=fun c st3 s3=>s3=s2/\Gl st st3/\((∃r rest,c=(some r,rest)/\mi LT a b r)\/∃i' j' out' mg ac bc,c=(none,i',j',out',mg,ac,bc)/\MgH LT a.toList b.toList out'.toList.reverse i' j'/\0<i'/\i'<=a.size/\1<j'/\j'<=b.size/\i'+j'+1<=i+j)) ?_ ?_))
        · refine bx (fun k c st3=>Gl st st3/\∃i' j' out' mg ac bc,c=(none,i',j',out',mg,ac,bc)/\MgH LT a.toList b.toList out'.toList.reverse i' j'/\0<i'/\i'<=a.size/\1<j'/\j'<=b.size/\i'+j'+1<=i+j/\i'+j'<=k) (fun x k c st3 h=>?_) (fun c st3 h=>?_) _ _ _ ⟨gl,i',j',out',_,_,_,rfl,M',hi',hia',hj',hjb',hr',by rw[List.length_range'];omega⟩
          · clear M' hi' hia' hj' hjb' hr' M hi hia hj hjb out' i' j' ac bc out
            obtain⟨gl3,i',j',out,mg',ac,bc,rfl,M,hi,hia,hj,hjb,r1,r2⟩:=h
            dsimp only
            by_cases eg:mg'>1
            all_goals first|rw[if_pos eg]|rw[if_neg eg]
            all_goals
              refine kasC_bind (kasC_modify ?_)
              refine kasC_bind (aM (aL (show j'-1<b.size by omega)) ?_)
              refine kasC_bind (jd hl (g:=fun t=>kas_item a (0+t)) (gl3.kind.trans hk) (T.xb _ (aD (show j'-1<b.size by omega))) (fun t ht=>⟨aL (by omega),T.xa _ (aD (by omega))⟩) (by omega) (fun x y h1 h2=>T.monoF (T.xb _ (aD (show j'-1<b.size by omega))) x y h1 (by omega)) (fun kk k1 k2 k3=>?_))
              have M1:=T.cutA (p:=kk) M k1 (by omega) hjb (fun t h1 h2 h3=>by
                have z1:=k3 t h1 h2
                unfold bey at z1
                simpa using z1)
              have fb:0<kk->LT (kas_item b (j'-1)) (kas_item a (kk-1))=false:=fun z=>by
                have z1:=k2 (kk-1) (by omega)
                unfold bey at z1
                simpa using z1
              dsimp only
              by_cases ek:i'-kk>0
              all_goals first
                | (rw [if_pos ek]
                   by_cases e3:(kk == 0)=true
                   · rw[if_pos e3]
                     exact kasC_pure ⟨rfl,gl3.trans ⟨_,rfl⟩,.inl ⟨_,_,rfl,T.hfin M1 (eq_of_beq e3)⟩⟩
                   rw[if_neg e3]
                   have c1:0<kk:=Nat.pos_of_ne_zero (dP e3)
                   have hb1:=fb c1
                   have le1:kk<=i':=k1
                   clear M fb k1 k2 k3 ek e3
                   generalize out++(a.extract kk i').reverse=o1 at M1 ⊢
                   generalize kk=i1 at hb1 M1 c1 le1 ⊢)
                | (rw [if_neg ek]
                   have ekk:kk=i':=by omega
                   have hb1:=fb (by omega)
                   rw[ekk]at hb1
                   have c1:=hi
                   replace M1:=M
                   clear M fb k1 k2 k3 hi
                   generalize out=o1 at M1 ⊢
                   generalize hi1:i'=i1 at hb1 M1 c1 ⊢
                   have le1:i1<=i':=by omega)
              all_goals
                refine kasC_bind (aM (aL (show j'-1<b.size by omega)) ?_)
                have M2:=T.hB M1 (by omega) hjb c1 (by omega) hb1
                by_cases e4:(j'-1 == 1)=true
                · rw[if_pos e4]
                  exact kasC_pure ⟨rfl,gl3.trans ⟨_,rfl⟩,.inl ⟨_,_,rfl,T.hfst M2 (eq_of_beq e4)⟩⟩
                rw[if_neg e4]
                have j3:=dP e4
                refine kasC_bind (aM (aL (show i1-1<a.size by omega)) ?_)
                refine kasC_bind (jd hl (g:=fun t=>kas_item b (0+t)) (gl3.kind.trans hk) (T.xa _ (aD (show i1-1<a.size by omega))) (fun t ht=>⟨aL (by omega),T.xb _ (aD (by omega))⟩) (by omega) (fun x y h1 h2=>T.monoT (T.xa _ (aD (show i1-1<a.size by omega))) x y h1 (by omega)) (fun kb k1 k2 k3=>?_))
                have M3:=T.cutB (p:=kb) M2 k1 c1 (by omega) (fun t h1 h2 h3=>by
                  have z1:=k3 t h1 h2
                  unfold bey at z1
                  simpa using z1)
                have kb0:0<kb:=by
                  by_cases z:0<kb
                  · exact z
                  · have z1:=k3 0 (by omega) (by omega)
                    unfold bey at z1
                    rw[if_pos rfl]at z1
                    have z2:=T.af _ (aD (show i1-1<a.size by omega))
                    simp only[Nat.zero_add]at z1
                    rw[z2]at z1
                    cases z1
                have hb3:LT (kas_item b (kb-1)) (kas_item a (i1-1))=true:=by
                  have z1:=k2 (kb-1) (by omega)
                  unfold bey at z1
                  simpa using z1
                dsimp only
                by_cases ek:j'-1-kb>0
                all_goals first
                  | (rw [if_pos ek]
                     by_cases e5:(kb == 1)=true
                     · rw[if_pos e5]
                       exact kasC_pure ⟨rfl,gl3.trans ⟨_,rfl⟩,.inl ⟨_,_,rfl,T.hfst M3 (eq_of_beq e5)⟩⟩
                     rw[if_neg e5,if_neg (show ¬(kb == 0)=true from fun z=>by have:=eq_of_beq z;omega)]
                     have c5:1<kb:=by have:=dP e5;omega
                     have le2:kb<=j'-1:=k1
                     clear k1 k2 k3 ek e5 kb0
                     generalize o1.push (kas_item b (j'-1))++(b.extract kb (j'-1)).reverse=o3 at M3 ⊢
                     generalize kb=j1 at M3 c5 hb3 le2 ⊢)
                  | (rw [if_neg ek]
                     have ekk:kb=j'-1:=by omega
                     rw[ekk]at hb3
                     replace M3:=M2
                     have c5:1<j'-1:=by omega
                     clear k1 k2 k3 kb0
                     generalize o1.push (kas_item b (j'-1))=o3 at M3 ⊢
                     generalize hj1:j'-1=j1 at M3 c5 hb3 ⊢
                     have le2:j1<=j'-1:=by omega)
                all_goals
                  refine kasC_bind (aM (aL (show i1-1<a.size by omega)) ?_)
                  have M4:=T.hA M3 c1 (by omega) (by omega) (by omega) hb3
                  by_cases e6:(i1-1 == 0)=true
                  · rw[if_pos e6]
                    exact kasC_pure ⟨rfl,gl3.trans ⟨_,rfl⟩,.inl ⟨_,_,rfl,T.hfin M4 (eq_of_beq e6)⟩⟩
                  rw[if_neg e6]
                  have i3:=dP e6
                  split
                  · exact kasC_pure ⟨rfl,gl3.trans ⟨_,rfl⟩,.inr ⟨i1-1,j1,_,_,_,_,rfl,M4,by omega,by omega,c5,by omega,by omega⟩⟩
                  · exact kasC_pure ⟨⟨gl3.trans ⟨_,rfl⟩,i1-1,j1,_,_,_,_,rfl,M4,by omega,by omega,c5,by omega,by omega,by omega⟩,rfl⟩
          · obtain⟨gl3,i',j',out',mg',ac,bc,rfl,M',hi',hia',hj',hjb',r1,r2⟩:=h
            omega
        · rintro c st3 s3 ⟨rfl,gl3,⟨r,rest,rfl,fr⟩|⟨i',j',out',mg',ac,bc,rfl,M',hi',hia',hj',hjb',hr'⟩⟩
          · exact kasC_pure ⟨rfl,gl3,_,_,rfl,fr⟩
          · exact kasC_bind (kasC_modify (kasC_pure ⟨⟨gl3.trans ⟨_,rfl⟩,i',j',out',_,rfl,M',hi',hia',hj',hjb',by omega⟩,rfl⟩))
    · obtain⟨gl,i,j,out,mg,rfl,M,hi,hia,hj,hjb,hr⟩:=h
      omega
  · rintro c st' s' ⟨rfl,gl,r,rest,rfl,fr⟩
    exact kasC_pure (q _ _ gl fr)
end
section
variable{prog:Program}{w:World}{A:Around}{E:Value->Shared->Prop}{s:Shared}{κ:SortKind}{LT:Keyed->Keyed->Bool}{X:Keyed->Prop}
theorem p6{sa:Nat}{S:List Keyed}:∀(m:List Keyed) (j:Nat) (P M0:List Keyed) (arr:Array Keyed),arr.toList=P++(M0++S)->P.length=sa+j->M0.length=m.length->((m.zipIdx j).foldl (fun a p=>a.setIfInBounds (sa+p.2) p.1) arr).toList=P++(m++S)
 |[],j,P,M0,arr,h,_,h2=>by
  have:M0=[]:=List.eq_nil_of_length_eq_zero h2
  subst this
  exact h
 |x::m,j,P,M0,arr,h,h1,h2=>by
  cases M0 with
  |nil=>cases h2
  |cons y M0=>
   rw[List.zipIdx_cons,List.foldl_cons]
   have e:(arr.setIfInBounds (sa+j) x).toList=(P++[x])++(M0++S):=by
    rw[Array.toList_setIfInBounds,h,<-h1,List.set_append_right _ _ (Nat.le_refl _),Nat.sub_self]
    simp
   rw[p6 m (j+1) (P++[x]) M0 _ e (by rw[List.length_append,List.length_singleton];omega) (by simpa using h2)]
   simp
theorem gj{P R S:List Keyed}{arr:Array Keyed}(h:arr.toList=P++(R++S)){i:Nat}(hi:i<R.length):P.length+i<arr.size/\arr[P.length+i]?=some (kas_item R.toArray i):=by
 have hz:arr.size=P.length+(R.length+S.length):=by rw[<-Array.length_toList,h,List.length_append,List.length_append]
 refine⟨by omega,?_⟩
 rw[<-Array.getElem?_toList,h,List.getElem?_append_right (by omega),Nat.add_sub_cancel_left,List.getElem?_append_left hi]
 have:=aL (l:=R.toArray) (i:=i) (by simpa using hi)
 simpa using this
end
section
variable{prog:Program}{w:World}{A:Around}{E:Value->Shared->Prop}{s:Shared}{κ:SortKind}{LT:Keyed->Keyed->Bool}{X:Keyed->Prop}
theorem vU{st st':SortSt}{Q:PUnit->SortSt->Shared->Prop}(h:Q ⟨⟩ st' s):kasC (model prog w) A E (set st':StateT SortSt Sem PUnit) Q st s:=by
 unfold kasC;rw[StateT.run_set];exact wpAny_pure h
structure Nb(LT:Keyed->Keyed->Bool)(X:Keyed->Prop)(R1 R2:List Keyed):Prop where
 n1:0<R1.length
 n2:0<R2.length
 a1:bO LT R1
 a2:bO LT R2
 x1:∀x∈R1,X x
 x2:∀x∈R2,X x
 tr:∀{x y z},X x->X y->X z->LT x y=true->LT y z=true->LT x z=true
 asym:∀x∈R1,∀y∈R2,LT x y=true->LT y x=false
 tot:∀x∈R1,∀y∈R2,LT y x=false->LT x y=true
variable{R1 R2 P S:List Keyed}{k m:Nat}
theorem im{l:List Keyed}{i:Nat}(h:i<l.length):kas_item l.toArray i∈l:=by
 have:=aD (l:=l.toArray) (i:=i) (by simpa using h)
 simpa using this
theorem ia{l:List Keyed}{i j:Nat}(ha:bO LT l)(h:i<j)(hj:j<l.length):LT (kas_item l.toArray i) (kas_item l.toArray j)=true:=fS (l:=l.toArray) (by simpa using ha) h (by simpa using hj)
theorem io{l:List Keyed}{x:Keyed}(h:x∈l.drop k):∃t,k<=t/\t<l.length/\x=kas_item l.toArray t:=by
 obtain⟨t,h1,h2⟩:=vY (l:=l.toArray) (i:=k) (by simpa using h)
 exact⟨k+t,by omega,by simpa using h1,h2⟩
theorem ip{l:List Keyed}{x:Keyed}(h:x∈l.take k):∃t,t<k/\t<l.length/\x=kas_item l.toArray t:=by
 obtain⟨t,h1,h2,h3⟩:=j6 (l:=l.toArray) (i:=k) (by simpa using h)
 exact⟨t,h1,by simpa using h2,h3⟩
theorem Nb.asc(N:Nb LT X R1 R2)(hk:k<=R1.length)(hm:m<=R2.length)(h1:∀t,t<k->LT (kas_item R1.toArray t) (kas_item R2.toArray 0)=true)(h2:∀t,m<=t->t<R2.length->LT (kas_item R1.toArray (R1.length-1)) (kas_item R2.toArray t)=true){r:List Keyed}(hp:r.Perm (R1.drop k++R2.take m))(hr:bO LT r):(R1.take k++(r++R2.drop m)).Perm (R1++R2)/\bO LT (R1.take k++(r++R2.drop m)):=by
 have n1:=N.n1
 have n2:=N.n2
 constructor
 ·refine(List.Perm.append_left _ (List.Perm.append_right _ hp)).trans (List.Perm.of_eq ?_)
  rw[List.append_assoc,List.take_append_drop,<-List.append_assoc,List.take_append_drop]
 ·have lo:∀t,t<k->∀u,u<R2.length->LT (kas_item R1.toArray t) (kas_item R2.toArray u)=true:=fun t ht u hu=>by
   by_cases e:u=0
   ·subst e;exact h1 t ht
   ·exact N.tr (N.x1 _ (im (by omega))) (N.x2 _ (im n2)) (N.x2 _ (im hu)) (h1 t ht) (ia N.a2 (by omega) hu)
  have hi:∀t,t<R1.length->∀u,m<=u->u<R2.length->LT (kas_item R1.toArray t) (kas_item R2.toArray u)=true:=fun t ht u hu hl=>by
   by_cases e:t=R1.length-1
   ·subst e;exact h2 u hu hl
   ·exact N.tr (N.x1 _ (im ht)) (N.x1 _ (im (by omega))) (N.x2 _ (im hl)) (ia N.a1 (by omega) (by omega)) (h2 u hu hl)
  refine List.pairwise_append.mpr ⟨List.Pairwise.sublist (List.take_sublist _ _) N.a1,List.pairwise_append.mpr ⟨hr,List.Pairwise.sublist (List.drop_sublist _ _) N.a2,fun x hx y hy=>?_⟩,fun x hx y hy=>?_⟩
  ·obtain⟨u,u1,u2,rfl⟩:=io hy
   rcases List.mem_append.mp (hp.mem_iff.mp hx)with hx|hx
   ·obtain⟨t,t1,t2,rfl⟩:=io hx
    exact hi t t2 u u1 u2
   ·obtain⟨t,t1,t2,rfl⟩:=ip hx
    exact ia N.a2 (by omega) u2
  ·obtain⟨t,t1,t2,rfl⟩:=ip hx
   rcases List.mem_append.mp hy with hy|hy
   ·rcases List.mem_append.mp (hp.mem_iff.mp hy)with hy|hy
    ·obtain⟨u,u1,u2,rfl⟩:=io hy
     exact ia N.a1 (by omega) u2
    ·obtain⟨u,u1,u2,rfl⟩:=ip hy
     exact lo t t1 u u2
   ·obtain⟨u,u1,u2,rfl⟩:=io hy
    exact lo t t1 u u2
theorem Nb.mF(N:Nb LT X R1 R2){key:Keyed}(xk:X key):∀i j,i<=j->j<R1.length->bey LT false key (kas_item R1.toArray j)=true->bey LT false key (kas_item R1.toArray i)=true:=fun i j hij hj h=>by
 by_cases e:i=j
 ·subst e;exact h
 ·unfold bey at h ⊢
  simp only[Bool.false_eq_true,if_false,Bool.not_eq_true']at h ⊢
  cases hc:LT key (kas_item R1.toArray i)with
  |false=>rfl
  |true=>rw[N.tr xk (N.x1 _ (im (by omega))) (N.x1 _ (im hj)) hc (ia N.a1 (by omega) hj)]at h;cases h
theorem Nb.mT(N:Nb LT X R1 R2){key:Keyed}(xk:X key):∀i j,i<=j->j<R2.length->bey LT true key (kas_item R2.toArray j)=true->bey LT true key (kas_item R2.toArray i)=true:=fun i j hij hj h=>by
 by_cases e:i=j
 ·subst e;exact h
 ·exact N.tr (N.x2 _ (im (by omega))) (N.x2 _ (im hj)) xk (ia N.a2 (by omega) hj) h
theorem lE{l:List Keyed}{t:Nat}:kas_item (l.drop k).toArray t=kas_item l.toArray (k+t):=by
 unfold kas_item;simp[Array.getD_eq_getD_getElem?]
theorem bz{l:List Keyed}{t:Nat}(h:t<k):kas_item (l.take k).toArray t=kas_item l.toArray t:=by
 unfold kas_item;simp[Array.getD_eq_getD_getElem?,List.getElem?_take,h]
theorem Nb.two(N:Nb LT X R1 R2)(hk:k<R1.length)(h0:0<m)(hm:m<=R2.length)(h1:LT (kas_item R2.toArray 0) (kas_item R1.toArray k)=true)(h2:LT (kas_item R2.toArray (m-1)) (kas_item R1.toArray (R1.length-1))=true):Two LT X (R1.drop k).toArray (R2.take m).toArray where
 aa:=List.Pairwise.sublist (List.drop_sublist _ _) N.a1
 ab:=List.Pairwise.sublist (List.take_sublist _ _) N.a2
 xa:=fun x hx=>N.x1 x (List.mem_of_mem_drop hx)
 xb:=fun x hx=>N.x2 x (List.mem_of_mem_take hx)
 tr:=N.tr
 tot:=fun x hx y hy=>N.tot x (List.mem_of_mem_drop hx) y (List.mem_of_mem_take hy)
 asym:=fun x hx y hy=>N.asym x (List.mem_of_mem_drop hx) y (List.mem_of_mem_take hy)
 na:=by simp;omega
 nb:=by have:=N.n2;simp;omega
 fst:=by rw[lE,bz h0];exact h1
 lst:=by
  have e1:(R1.drop k).toArray.size-1=R1.length-1-k:=by simp;omega
  have e2:(R2.take m).toArray.size-1=m-1:=by simp;omega
  rw[e1,e2,lE,bz (by omega),show k+(R1.length-1-k)=R1.length-1 by omega]
  exact h2
theorem Ha{arr:Array Keyed}(h:arr.toList=P++(R1++(R2++S))):arr.extract (P.length+k) (P.length+R1.length)=(R1.drop k).toArray:=by
 apply Array.toList_inj.mp
 rw[fT,h,<-List.append_assoc,<-List.length_append,List.take_left,List.drop_append]
 simp
theorem G9{arr:Array Keyed}(h:arr.toList=P++(R1++(R2++S)))(hm:m<=R2.length):arr.extract (P.length+R1.length) (P.length+R1.length+m)=(R2.take m).toArray:=by
 apply Array.toList_inj.mp
 rw[kh,h,<-List.append_assoc,<-List.length_append,List.drop_left,List.take_append_of_le_length hm]
theorem CD(hl:oQ prog w A E s κ LT X)(N:Nb LT X R1 R2){st:SortSt}{i pw pw2:Nat}{Q:Bool->SortSt->Shared->Prop}(hk:Rows.kindOf st=κ)(hf:failedOf st=none)(ha:(arrOf st).toList=P++(R1++(R2++S)))(h1:(pendingOf st)[i]?=some (P.length,R1.length,pw))(h2:(pendingOf st)[i+1]?=some (P.length+R1.length,R2.length,pw2))
  (q:∀R arr' g,arr'.toList=P++(R++S)->R.Perm (R1++R2)->bO LT R->Q true (SortSt.mk' κ arr' (((pendingOf st).setIfInBounds i (P.length,R1.length+R2.length,pw)).eraseIdxIfInBounds (i+1)) g none) s):kasC (model prog w) A E (mergeAt' i) Q st s:=by
 have n1:=N.n1
 have n2:=N.n2
 have ha2:(arrOf st).toList=(P++R1)++(R2++S):=by rw[ha,List.append_assoc]
 have g1:∀t,t<R1.length->(arrOf st)[P.length+t]?=some (kas_item R1.toArray t)/\X (kas_item R1.toArray t):=fun t ht=>⟨(gj ha ht).2,N.x1 _ (im ht)⟩
 have g2:∀t,t<R2.length->(arrOf st)[P.length+R1.length+t]?=some (kas_item R2.toArray t)/\X (kas_item R2.toArray t):=fun t ht=>⟨by have:=(gj ha2 ht).2;rwa[List.length_append]at this,N.x2 _ (im ht)⟩
 have stay:bO LT (R1++R2)->Q true (SortSt.mk' (Rows.kindOf st) (arrOf st) (((pendingOf st).setIfInBounds i (P.length,R1.length+R2.length,pw)).eraseIdxIfInBounds (i+1)) (gallopOf st) (failedOf st)) s:=fun h=>by
  rw[hk,hf]
  exact q (R1++R2) (arrOf st) (gallopOf st) (by rw[ha,List.append_assoc]) (.refl _) h
 refine kasC_bind (kasC_get ?_)
 dsimp only
 rw[h1,h2]
 dsimp only
 refine kasC_bind (vU ?_)
 refine kasC_bind (aM (g2 0 n2).1 ?_)
 refine kasC_bind (jd hl (g:=fun t=>kas_item R1.toArray t) hk (N.x2 _ (im n2)) g1 n1 (N.mF (N.x2 _ (im n2))) (fun kk k1 k2 k3=>?_))
 have lo:∀t,t<kk->LT (kas_item R1.toArray t) (kas_item R2.toArray 0)=true:=fun t ht=>by
  have z:=k2 t ht
  unfold bey at z
  exact N.tot _ (im (by omega)) _ (im n2) (by simpa using z)
 dsimp only
 by_cases e1:(R1.length-kk == 0)=true
 ·rw[if_pos e1]
  have z:=eq_of_beq e1
  have ek:kk=R1.length:=by omega
  subst ek
  have h:=(N.asc (k:=R1.length) (m:=R2.length) (Nat.le_refl _) (Nat.le_refl _) lo (fun t a b=>by omega) (r:=R2) (by simp) N.a2).2
  refine kasC_pure (stay ?_)
  simpa using h
 rw[if_neg e1]
 have ek:kk<R1.length:=by have:=dP e1;omega
 refine kasC_bind (aM (x:=kas_item R1.toArray (R1.length-1)) (by rw[show P.length+kk+(R1.length-kk)-1=P.length+(R1.length-1)by omega];exact(g1 _ (by omega)).1) ?_)
 have l1:R1.length-1<R1.length:=by omega
 refine kasC_bind (jd hl (g:=fun t=>kas_item R2.toArray t) hk (N.x1 _ (im l1)) g2 (by omega) (N.mT (N.x1 _ (im l1))) (fun kb c1 c2 c3=>?_))
 have hi:∀t,kb<=t->t<R2.length->LT (kas_item R1.toArray (R1.length-1)) (kas_item R2.toArray t)=true:=fun t a b=>N.tot _ (im l1) _ (im b) (c3 t a b)
 dsimp only
 by_cases e2:(kb == 0)=true
 ·rw[if_pos e2]
  have z:=eq_of_beq e2
  subst z
  have h:=(N.asc (k:=0) (m:=0) (Nat.zero_le _) (Nat.zero_le _) (fun t a=>by omega) hi (r:=R1) (by simp) N.a1).2
  refine kasC_pure (stay ?_)
  simpa using h
 rw[if_neg e2]
 have kb0:0<kb:=Nat.pos_of_ne_zero (dP e2)
 have T:=N.two (k:=kk) (m:=kb) ek kb0 c1 (by have z:=k3 kk (Nat.le_refl _) ek;unfold bey at z;simpa using z) (c2 (kb-1) (by omega))
 have fin:∀r g,mi LT (R1.drop kk).toArray (R2.take kb).toArray r->Q (failedOf st).isNone (SortSt.mk' (Rows.kindOf st) ((r.toList.zipIdx).foldl (fun a p=>a.setIfInBounds (P.length+kk+p.2) p.1) (arrOf st)) (((pendingOf st).setIfInBounds i (P.length,R1.length+R2.length,pw)).eraseIdxIfInBounds (i+1)) g (failedOf st)) s:=fun r g fr=>by
  obtain⟨z1,z2⟩:=N.asc k1 c1 lo hi fr.1 fr.2
  rw[hk,hf]
  refine q (R1.take kk++(r.toList++R2.drop kb)) _ g ?_ z1 z2
  have:=p6 (sa:=P.length+kk) (S:=R2.drop kb++S) r.toList 0 (P++R1.take kk) (R1.drop kk++R2.take kb) (arrOf st) (by
   rw[ha]
   simp only[List.append_assoc]
   rw[<-List.append_assoc (R1.take kk),List.take_append_drop,<-List.append_assoc (R2.take kb),List.take_append_drop]) (by rw[List.length_append,List.length_take];omega) (by rw[fr.1.length_eq])
  rw[this]
  simp
 have s1:=Ha (k:=kk) ha
 have s2:=G9 (m:=kb) ha c1
 rw[<-s1,<-s2]at T fin
 by_cases e3:R1.length-kk<=kb
 ·rw[if_pos e3]
  refine kasC_bind (Cz hl T hk (fun r st' gl fr=>?_))
  obtain⟨g,rfl⟩:=gl
  exact kasC_bind (kasC_modify (kasC_bind (kasC_get (kasC_pure (fin r g fr)))))
 ·rw[if_neg e3]
  refine kasC_bind (CB hl T hk (fun r st' gl fr=>?_))
  obtain⟨g,rfl⟩:=gl
  exact kasC_bind (kasC_modify (kasC_bind (kasC_get (kasC_pure (fin r g fr)))))
end
section
variable{prog:Program}{w:World}{A:Around}{E:Value->Shared->Prop}{s:Shared}{κ:SortKind}{LT:Keyed->Keyed->Bool}{X:Keyed->Prop}{P W:List Keyed}
structure Od(LT:Keyed->Keyed->Bool)(X:Keyed->Prop)(W:List Keyed):Prop where
 xx:∀x∈W,X x
 tr:∀{x y z},X x->X y->X z->LT x y=true->LT y z=true->LT x z=true
 asym:∀{x y},X x->X y->LT x y=true->LT y x=false
 pw:W.Pairwise fun x y=>LT x y=true\/LT y x=true
theorem Od.perm{W':List Keyed}(O:Od LT X W)(h:W'.Perm W):Od LT X W':=⟨fun x hx=>O.xx x (h.mem_iff.mp hx),O.tr,O.asym,(h.pairwise_iff fun{x y} h=>h.symm).mpr O.pw⟩
theorem Od.tot(O:Od LT X W){i j:Nat}(hi:i<W.length)(hj:j<W.length)(hn:i≠j)(h:LT (kas_item W.toArray i) (kas_item W.toArray j)=false):LT (kas_item W.toArray j) (kas_item W.toArray i)=true:=by
 have e:∀{t:Nat} (ht:t<W.length),W[t]=kas_item W.toArray t:=fun{t} ht=>by
  have:=aL (l:=W.toArray) (i:=t) (by simpa using ht)
  simpa [ht] using this
 have key:LT (kas_item W.toArray i) (kas_item W.toArray j)=true\/LT (kas_item W.toArray j) (kas_item W.toArray i)=true:=by
  rcases Nat.lt_or_gt_of_ne hn with z|z
  ·have:=List.pairwise_iff_getElem.mp O.pw i j hi hj z
   rwa[e hi,e hj]at this
  ·have:=List.pairwise_iff_getElem.mp O.pw j i hj hi z
   rw[e hi,e hj]at this
   exact this.symm
 rcases key with k|k
 ·rw[h]at k;cases k
 ·exact k
def DI(LT:Keyed->Keyed->Bool)(l:List Keyed):Prop:=l.Pairwise fun x y=>LT y x=true
theorem n8(hl:oQ prog w A E s κ LT X)(O:Od LT X W){st:SortSt}{i j:Nat}{Q:Option Bool->SortSt->Shared->Prop}(hk:Rows.kindOf st=κ)(ha:(arrOf st).toList=P++W)(hi:i<W.length)(hj:j<W.length)(q:Q (some (LT (kas_item W.toArray i) (kas_item W.toArray j))) st s):kasC (model prog w) A E (ltAt' (P.length+i) (P.length+j)) Q st s:=by
 have h':(arrOf st).toList=P++(W++[]):=by rw[ha,List.append_nil]
 rw[ltAt'_eq]
 refine kasC_bind (kasC_get ?_)
 refine kasC_bind (aM (gj h' hi).2 ?_)
 refine kasC_bind (aM (gj h' hj).2 ?_)
 exact hl _ _ _ _ (O.xx _ (im hi)) (O.xx _ (im hj)) hk q
theorem eL{n:Nat}(h:n<W.length):W.take (n+1)=W.take n++[kas_item W.toArray n]:=by
 rw[List.take_add_one]
 have:=aL (l:=W.toArray) (i:=n) (by simpa using h)
 simp only[List.getElem?_toArray]at this
 rw[this]
 rfl
theorem Od.asc(O:Od LT X W){n:Nat}(h1:1<=n)(hn:n<W.length)(ha:bO LT (W.take n))(h:LT (kas_item W.toArray (n-1)) (kas_item W.toArray n)=true):bO LT (W.take (n+1)):=by
 rw[eL hn]
 refine List.pairwise_append.mpr ⟨ha,List.pairwise_singleton _ _,fun x hx y hy=>?_⟩
 rw[List.mem_singleton.mp hy]
 obtain⟨t,t1,t2,rfl⟩:=ip hx
 by_cases e:t=n-1
 ·subst e;exact h
 ·refine O.tr (O.xx _ (im t2)) (O.xx _ (im (show n-1<W.length by omega))) (O.xx _ (im hn)) ?_ h
  have:=ia (l:=W.take n) ha (i:=t) (j:=n-1) (by omega) (by rw[List.length_take];omega)
  rwa[bz t1,bz (by omega)]at this
theorem Od.dsc(O:Od LT X W){n:Nat}(h1:1<=n)(hn:n<W.length)(ha:DI LT (W.take n))(h:LT (kas_item W.toArray n) (kas_item W.toArray (n-1))=true):DI LT (W.take (n+1)):=by
 rw[eL hn]
 refine List.pairwise_append.mpr ⟨ha,List.pairwise_singleton _ _,fun x hx y hy=>?_⟩
 rw[List.mem_singleton.mp hy]
 obtain⟨t,t1,t2,rfl⟩:=ip hx
 by_cases e:t=n-1
 ·subst e;exact h
 ·refine O.tr (O.xx _ (im hn)) (O.xx _ (im (show n-1<W.length by omega))) (O.xx _ (im t2)) h ?_
  have:=ia (LT:=fun x y=>LT y x) (l:=W.take n) ha (i:=t) (j:=n-1) (by omega) (by rw[List.length_take];omega)
  rwa[bz t1,bz (by omega)]at this
end
section
variable{prog:Program}{w:World}{A:Around}{E:Value->Shared->Prop}{s:Shared}{κ:SortKind}{LT:Keyed->Keyed->Bool}{X:Keyed->Prop}{P W:List Keyed}
theorem lt1(hl:oQ prog w A E s κ LT X)(O:Od LT X W){st:SortSt}{n:Nat}{Q:Option Bool->SortSt->Shared->Prop}(hk:Rows.kindOf st=κ)(ha:(arrOf st).toList=P++W)(h1:1<=n)(hn:n<W.length)(q:Q (some (LT (kas_item W.toArray n) (kas_item W.toArray (n-1)))) st s):kasC (model prog w) A E (ltAt' (P.length+n) (P.length+n-1)) Q st s:=by
 rw[show P.length+n-1=P.length+(n-1)by omega]
 exact n8 hl O hk ha hn (by omega) q
theorem lt2(hl:oQ prog w A E s κ LT X)(O:Od LT X W){st:SortSt}{n:Nat}{Q:Option Bool->SortSt->Shared->Prop}(hk:Rows.kindOf st=κ)(ha:(arrOf st).toList=P++W)(h1:1<=n)(hn:n<W.length)(q:Q (some (LT (kas_item W.toArray (n-1)) (kas_item W.toArray n))) st s):kasC (model prog w) A E (ltAt' (P.length+n-1) (P.length+n)) Q st s:=by
 rw[show P.length+n-1=P.length+(n-1)by omega]
 exact n8 hl O hk ha (by omega) hn q
theorem oO(O:Od LT X W){st:SortSt}{f:Nat->Option (Option Nat)×Nat->StateT SortSt Sem (ForInStep (Option (Option Nat)×Nat))}
  (hf:∀x n,1<=n->n<W.length->∀R:_->SortSt->Shared->Prop,R (if LT (kas_item W.toArray n) (kas_item W.toArray (n-1))=true then .done (none,n)else .yield (none,n+1)) st s->kasC (model prog w) A E (f x (none,n)) R st s)
  {l:List Nat} {n:Nat} (hl:l.length+n=W.length) (h1:1<=n) (ha:bO LT (W.take n)) {Q:_->SortSt->Shared->Prop}
  (q:∀m,n<=m->m<=W.length->bO LT (W.take m)->(m=W.length\/LT (kas_item W.toArray m) (kas_item W.toArray (m-1))=true)->Q (none,m) st s):kasC (model prog w) A E (forIn l (none,n) f) Q st s:=by
 refine bx (fun k b st'=>st'=st/\∃m,b=(none,m)/\n<=m/\k+m=W.length/\bO LT (W.take m)) (fun x k b st' h=>?_) (fun b st' h=>?_) l _ _ ⟨rfl,n,rfl,Nat.le_refl _,hl,ha⟩
 ·obtain⟨rfl,m,rfl,a1,a2,a3⟩:=h
  refine hf x m (by omega) (by omega) _ ?_
  cases hc:LT (kas_item W.toArray m) (kas_item W.toArray (m-1))with
  |true=>rw[if_pos rfl];exact q m a1 (by omega) a3 (.inr hc)
  |false=>
   rw[if_neg (by decide)]
   exact⟨⟨rfl,m+1,rfl,by omega,by omega,O.asc (by omega) (by omega) a3 (O.tot (by omega) (by omega) (by omega) hc)⟩,rfl⟩
 ·obtain⟨rfl,m,rfl,a1,a2,a3⟩:=h
  exact q m a1 (by omega) a3 (.inl (by omega))
theorem uP{arr:Array Keyed}{n:Nat}(ha:arr.toList=P++W)(hn:n<=W.length):(mirror arr P.length (P.length+n) ((P.length+n-P.length) / 2)).toList=P++((W.take n).reverse++W.drop n):=by
 have hz:arr.size=P.length+W.length:=by rw[<-Array.length_toList,ha,List.length_append]
 refine List.ext_getElem? fun k=>?_
 have h:=getElem?_mirror_all (xs:=arr) (i:=P.length) (j:=P.length+n) (by omega) k
 rw[Array.getElem?_toList,h]
 by_cases c1:k<P.length
 ·rw[if_neg (by omega),<-Array.getElem?_toList,ha,List.getElem?_append_left c1,List.getElem?_append_left c1]
 ·by_cases c2:k<P.length+n
  ·have lt:((W.take n).reverse).length=n:=by simp;omega
   rw[if_pos (by omega),<-Array.getElem?_toList,ha,List.getElem?_append_right (by omega),List.getElem?_append_right (by omega),List.getElem?_append_left (by omega),List.getElem?_reverse (by rw[List.length_take];omega),List.getElem?_take,List.length_take,if_pos (by omega)]
   congr 1
   omega
  ·have lt:((W.take n).reverse).length=n:=by simp;omega
   rw[if_neg (by omega),<-Array.getElem?_toList,ha,List.getElem?_append_right (by omega),List.getElem?_append_right (by omega),List.getElem?_append_right (by omega),List.getElem?_drop,lt]
   congr 1
   omega
end
section
variable{prog:Program}{w:World}{A:Around}{E:Value->Shared->Prop}{s:Shared}{κ:SortKind}{LT:Keyed->Keyed->Bool}{X:Keyed->Prop}{P W:List Keyed}
theorem Dv(hl:oQ prog w A E s κ LT X)(O:Od LT X W){st:SortSt}{Q:Option Nat->SortSt->Shared->Prop}(hk:Rows.kindOf st=κ)(ha:(arrOf st).toList=P++W)(h1:1<=W.length)
  (q:∀n W' arr,1<=n->n<=W.length->arr.toList=P++W'->W'.Perm W->bO LT (W'.take n)->Q (some n) (setArr st arr) s):kasC (model prog w) A E (countRun' P.length W.length) Q st s:=by
 have one:bO LT (W.take 1):=by rw[eL (by omega)];exact List.pairwise_singleton _ _
 refine kasC_bind (kasC_range (oO O (fun x n a1 a2 R hR=>?_) (by rw[List.length_range'];omega) (Nat.le_refl 1) one fun m m1 m2 m3 m4=>?_))
 ·refine kasC_bind (lt1 hl O hk ha a1 a2 ?_)
  dsimp only
  cases hc:LT (kas_item W.toArray n) (kas_item W.toArray (n-1))with
  |true=>rw[hc]at hR;exact kasC_pure hR
  |false=>rw[hc]at hR;exact kasC_pure hR
 dsimp only
 by_cases e1:(m == W.length)=true
 ·rw[if_pos e1]
  exact kasC_pure (q m W (arrOf st) m1 m2 ha (.refl _) m3)
 rw[if_neg e1]
 have e1':=dP e1
 have d1:LT (kas_item W.toArray m) (kas_item W.toArray (m-1))=true:=by
  rcases m4 with z|z
  ·omega
  ·exact z
 by_cases e2:m>1
 ·rw[if_pos e2]
  refine kasC_bind ?_
  have r0:LT (kas_item W.toArray 0) (kas_item W.toArray (m-1))=true:=by
   have:=ia (l:=W.take m) m3 (i:=0) (j:=m-1) (by omega) (by rw[List.length_take];omega)
   rwa[bz (by omega),bz (by omega)]at this
  have:=n8 (A:=A) (E:=E) (P:=P) (i:=0) (j:=m-1) (Q:=fun a st' s'=>a=some true/\st'=st/\s'=s) hl O hk ha (by omega) (by omega) ⟨by rw[r0],rfl,rfl⟩
  rw[Nat.add_zero,show P.length+(m-1)=P.length+m-1 by omega]at this
  refine aT this ?_
  rintro a st' s' ⟨rfl,rfl,rfl⟩
  dsimp only
  rw[if_pos rfl]
  exact kasC_pure (q m W (arrOf st') m1 m2 ha (.refl _) m3)
 rw[if_neg e2]
 have em:m=1:=by omega
 subst em
 have d2:DI LT (W.take (1+1)):=O.dsc (Nat.le_refl 1) (by omega) (by rw[eL (by omega)];exact List.pairwise_singleton _ _) d1
 refine kasC_bind (kasC_lift (wpAny_rule ?_))
 refine kasC_bind (kasC_range (aT (Q':=fun b st' s'=>st'=st/\s'=s/\∃n,b=(none,n,0)/\2<=n/\n<=W.length/\DI LT (W.take n)) (bx (fun k b st'=>st'=st/\∃n,b=(none,n,0)/\2<=n/\k+n=W.length/\DI LT (W.take n)) (fun x k b st' h=>?_) (fun b st' h=>?_) _ _ _ ⟨rfl,2,rfl,Nat.le_refl _,by rw[List.length_range'];omega,d2⟩) ?_))
 ·obtain⟨rfl,n,rfl,a1,a2,a3⟩:=h
  dsimp only
  refine kasC_bind (lt1 hl O hk ha (show 1<=n by omega) (show n<W.length by omega) ?_)
  dsimp only
  cases hc:LT (kas_item W.toArray n) (kas_item W.toArray (n-1))with
  |true=>
   rw[if_pos rfl,if_neg (by omega)]
   exact kasC_pure ⟨⟨rfl,n+1,rfl,by omega,by omega,O.dsc (by omega) (by omega) a3 hc⟩,rfl⟩
  |false=>
   rw[if_neg (by decide)]
   refine kasC_bind (lt2 hl O hk ha (show 1<=n by omega) (show n<W.length by omega) ?_)
   rw[O.tot (by omega) (by omega) (by omega) hc]
   exact kasC_pure ⟨rfl,rfl,n,rfl,a1,by omega,a3⟩
 ·obtain⟨rfl,n,rfl,a1,a2,a3⟩:=h
  exact⟨rfl,rfl,n,rfl,a1,by omega,a3⟩
 ·rintro b st' s' ⟨rfl,rfl,n,rfl,a1,a2,a3⟩
  dsimp only
  rw[if_neg (by omega)]
  refine kasC_bind (kasC_modify ?_)
  have hp:((W.take n).reverse++W.drop n).Perm W:=by
   refine(List.Perm.append_right _ (List.reverse_perm _)).trans ?_
   rw[List.take_append_drop]
  have ln:((W.take n).reverse++W.drop n).length=W.length:=hp.length_eq
  have tk:((W.take n).reverse++W.drop n).take n=(W.take n).reverse:=by
   rw[List.take_append_of_le_length (by simp;omega),List.take_of_length_le (by simp;omega)]
  have a0:bO LT (((W.take n).reverse++W.drop n).take n):=by rw[tk];exact List.pairwise_reverse.mpr a3
  have hr:=uP (n:=n) ha a2
  refine kasC_bind (kasC_range (oO (O.perm hp) (fun x n a1 a2 R hR=>?_) (n:=n) (by rw[List.length_range',ln];omega) (by omega) a0 fun m m1 m2 m3 m4=>?_))
  ·refine kasC_bind (lt1 hl (O.perm hp) hk hr a1 a2 ?_)
   dsimp only
   cases hc:LT (kas_item ((W.take _).reverse++W.drop _).toArray n) (kas_item ((W.take _).reverse++W.drop _).toArray (n-1))with
   |true=>rw[hc]at hR;exact kasC_pure hR
   |false=>rw[hc]at hR;exact kasC_pure hR
  ·exact kasC_pure (q m _ _ (by omega) (by rw[<-ln];exact m2) hr hp m3)
end
section
variable{M:Model}{A:Around}{E:Value->Shared->Prop}{σ:Type}
theorem oE{β:Type}{f:Nat->β->StateT σ Sem (ForInStep β)}{Q:β->σ->Shared->Prop}{s:Shared}{e:Nat}(I:Nat->β->σ->Prop)
  (step:∀x b st,x<e->I x b st->kasC M A E (f x b) (fun r st' s'=>match r with|.done b'=>Q b' st' s'|.yield b'=>I (x+1) b' st'/\s'=s) st s)
  (fin:∀b st,I e b st->Q b st s):∀(n a:Nat) (b:β) (st:σ),a+n=e->I a b st->kasC M A E (forIn (List.range' a n) b f) Q st s
 |0,a,b,st,ha,h=>by
  have:a=e:=by omega
  subst this
  exact kasC_nil (fin b st h)
 |n+1,a,b,st,ha,h=>by
  rw[List.range'_succ]
  refine kasC_cons ?_
  have:=step a b st (by omega) h
  unfold kasC at this ⊢
  refine wpAny_mono this (fun r s' h'=>?_) fun _ _ e=>e
  obtain⟨r,st'⟩:=r
  cases r with
  |done b'=>exact h'
  |yield b'=>
   obtain⟨h1,rfl⟩:=h'
   exact oE I step fin n (a+1) b' st' (by omega) h1
end
section
variable{prog:Program}{w:World}{A:Around}{E:Value->Shared->Prop}{s:Shared}{κ:SortKind}{LT:Keyed->Keyed->Bool}{X:Keyed->Prop}{P W:List Keyed}
def xK(W:List Keyed)(k l:Nat):List Keyed:=W.take l++(kas_item W.toArray k::((W.take k).drop l++W.drop (k+1)))
theorem v8{k l:Nat}(hk:k<W.length)(hl:l<=k):(xK W k l).Perm W:=by
 have e:W=W.take l++((W.take k).drop l++(kas_item W.toArray k::W.drop (k+1))):=by
  have h1:=fX (l:=W) hl
  have h2:=dI (l:=W.toArray) (i:=k) (by simpa using hk)
  rw[<-List.append_assoc,h1]
  simp only at h2
  rw[<-h2,List.take_append_drop]
 refine List.Perm.trans ?_ (List.Perm.of_eq e.symm)
 exact List.Perm.append_left _ List.perm_middle.symm
theorem zX(O:Od LT X W){k l:Nat}(hk:k<W.length)(hl:l<=k)(ha:bO LT (W.take k))(h1:∀t,t<l->LT (kas_item W.toArray t) (kas_item W.toArray k)=true)(h2:∀t,l<=t->t<k->LT (kas_item W.toArray k) (kas_item W.toArray t)=true):bO LT ((xK W k l).take (k+1)):=by
 have e:(xK W k l).take (k+1)=W.take l++(kas_item W.toArray k::(W.take k).drop l):=by
  have z:xK W k l=(W.take l++(kas_item W.toArray k::(W.take k).drop l))++W.drop (k+1):=by unfold xK;simp
  rw[z]
  exact List.take_left' (by simp;omega)
 rw[e]
 obtain⟨c1,c2⟩:=mY ha (i:=k) hl
 rw[List.take_take,Nat.min_self]at c1
 simp only[List.take_take,Nat.min_self,Nat.min_eq_left hl]at c2
 refine List.pairwise_append.mpr ⟨?_,List.pairwise_cons.mpr ⟨fun y hy=>?_,c1⟩,fun x hx y hy=>?_⟩
 ·have:=List.Pairwise.sublist (List.take_sublist l _) ha
  rwa[List.take_take,Nat.min_eq_left hl]at this
 ·obtain⟨t,t1,t2,t3,rfl⟩:=si (l:=W.toArray) hy
  exact h2 t t1 t2
 ·rcases List.mem_cons.mp hy with rfl|hy
  ·obtain⟨t,t1,t2,rfl⟩:=ip hx
   exact h1 t t1
  ·exact c2 x hx y hy
theorem wF{arr:Array Keyed}{k l:Nat}(ha:arr.toList=P++W)(hk:k<W.length)(hl:l<=k):(bubble arr (P.length+k) (P.length+k-(P.length+l))).toList=P++xK W k l:=by
 have hz:arr.size=P.length+W.length:=by rw[<-Array.length_toList,ha,List.length_append]
 have gW:∀t,arr[P.length+t]?=W[t]?:=fun t=>by rw[<-Array.getElem?_toList,ha,List.getElem?_append_right (by omega),Nat.add_sub_cancel_left]
 have ik:W[k]?=some (kas_item W.toArray k):=by
  have:=aL (l:=W.toArray) (i:=k) (by simpa using hk)
  simpa using this
 refine List.ext_getElem? fun t=>?_
 have h:=getElem?_bubble (xs:=arr) (src:=P.length+k) (by omega) (P.length+k-(P.length+l)) (by omega) t
 rw[Array.getElem?_toList,h,show P.length+k-(P.length+k-(P.length+l))=P.length+l by omega]
 by_cases c1:t<P.length
 ·rw[if_neg (by omega),if_neg (by omega),<-Array.getElem?_toList,ha,List.getElem?_append_left c1,List.getElem?_append_left c1]
 obtain⟨u,rfl⟩:∃u,t=P.length+u:=⟨t-P.length,by omega⟩
 rw[List.getElem?_append_right (by omega),Nat.add_sub_cancel_left]
 unfold xK
 have lt:(W.take l).length=l:=by rw[List.length_take];omega
 by_cases c2:u=l
 ·subst c2
  rw[if_pos rfl,gW,ik,List.getElem?_append_right (by omega),lt,Nat.sub_self]
  rfl
 rw[if_neg (by omega)]
 by_cases c3:u<l
 ·rw[if_neg (by omega),gW,List.getElem?_append_left (by omega),List.getElem?_take,if_pos c3]
 obtain⟨v,rfl⟩:∃v,u=l+(v+1):=⟨u-l-1,by omega⟩
 rw[List.getElem?_append_right (by omega),lt,Nat.add_sub_cancel_left,List.getElem?_cons_succ]
 have ld:((W.take k).drop l).length=k-l:=by rw[List.length_drop,List.length_take];omega
 by_cases c4:l+(v+1)<=k
 ·rw[if_pos (by omega),show P.length+(l+(v+1))-1=P.length+(l+v)by omega,gW,List.getElem?_append_left (by omega),List.getElem?_drop,List.getElem?_take,if_pos (by omega)]
 ·rw[if_neg (by omega),gW,List.getElem?_append_right (by omega),ld,List.getElem?_drop]
  congr 1
  omega
theorem wG(hl:oQ prog w A E s κ LT X)(O:Od LT X W){st:SortSt}{n ok:Nat}{Q:Bool->SortSt->Shared->Prop}(hk:Rows.kindOf st=κ)(ha:(arrOf st).toList=P++W)(h1:1<=ok)(hn:ok<=n)(hw:n<=W.length)(h2:bO LT (W.take ok))
  (q:∀W' arr,arr.toList=P++W'->W'.Perm W->bO LT (W'.take n)->Q true (setArr st arr) s):kasC (model prog w) A E (binarySort' P.length n ok) Q st s:=by
 refine kasC_bind (kasC_range (oE (e:=n) (fun x b st'=>b=(none,())/\∃W' arr,st'=setArr st arr/\arr.toList=P++W'/\W'.Perm W/\bO LT (W'.take x)) (fun x b st' hx h=>?_) (fun b st' h=>?_) _ _ _ _ (by omega) ⟨rfl,W,arrOf st,rfl,ha,.refl _,by rw[show max ok 1=ok by omega];exact h2⟩))
 ·obtain⟨rfl,W',arr,rfl,b1,b2,b3⟩:=h
  dsimp only
  have O':=O.perm b2
  have xl:x<W'.length:=by rw[b2.length_eq];omega
  have as:∀i j,i<j->j<x->LT (kas_item W'.toArray i) (kas_item W'.toArray j)=true:=fun i j hij hj=>by
   have:=ia (l:=W'.take x) b3 (i:=i) (j:=j) hij (by rw[List.length_take];omega)
   rwa[bz (by omega),bz hj]at this
  refine kasC_bind (kasC_range (aT (Q':=fun c st' s'=>st'=setArr st arr/\s'=s/\∃l r,c=(none,l,r)/\l<=x/\(∀t,t<l->LT (kas_item W'.toArray t) (kas_item W'.toArray x)=true)/\∀t,l<=t->t<x->LT (kas_item W'.toArray x) (kas_item W'.toArray t)=true)
   (bx (fun k c st'=>st'=setArr st arr/\∃l r,c=(none,l,r)/\l<=r/\r<=x/\r-l<=k/\(∀t,t<l->LT (kas_item W'.toArray t) (kas_item W'.toArray x)=true)/\∀t,r<=t->t<x->LT (kas_item W'.toArray x) (kas_item W'.toArray t)=true) (fun y k c st' h=>?_) (fun c st' h=>?_) _ _ _ ⟨rfl,0,x,rfl,Nat.zero_le _,Nat.le_refl _,by rw[List.length_range'];omega,fun t ht=>by omega,fun t a b=>by omega⟩) ?_))
  ·obtain⟨rfl,l,r,rfl,c1,c2,c3,c4,c5⟩:=h
   dsimp only
   by_cases e:l≥r
   ·rw[if_pos e]
    exact kasC_pure ⟨rfl,rfl,l,r,rfl,by omega,c4,fun t a b=>c5 t (by omega) b⟩
   rw[if_neg e]
   have ml:(l+r) / 2<x:=by omega
   refine kasC_bind (n8 hl O' hk b1 xl (show(l+r) / 2<W'.length by omega) ?_)
   dsimp only
   cases hc:LT (kas_item W'.toArray x) (kas_item W'.toArray ((l+r) / 2))with
   |true=>
    refine kasC_pure ⟨⟨rfl,l,(l+r) / 2,rfl,by omega,by omega,by omega,c4,fun t a b=>?_⟩,rfl⟩
    by_cases e2:t=(l+r) / 2
    ·subst e2;exact hc
    ·exact O'.tr (O'.xx _ (im xl)) (O'.xx _ (im (by omega))) (O'.xx _ (im (by omega))) hc (as _ t (by omega) b)
   |false=>
    have hc':=O'.tot xl (show(l+r) / 2<W'.length by omega) (by omega) hc
    refine kasC_pure ⟨⟨rfl,(l+r) / 2+1,r,rfl,by omega,by omega,by omega,fun t a=>?_,c5⟩,rfl⟩
    by_cases e2:t=(l+r) / 2
    ·subst e2;exact hc'
    ·exact O'.tr (O'.xx _ (im (by omega))) (O'.xx _ (im (by omega))) (O'.xx _ (im xl)) (as t _ (by omega) ml) hc'
  ·obtain⟨rfl,l,r,rfl,c1,c2,c3,c4,c5⟩:=h
   exact⟨rfl,rfl,l,r,rfl,by omega,c4,fun t a b=>c5 t (by omega) b⟩
  ·rintro c st' s' ⟨rfl,rfl,l,r,rfl,c1,c2,c3⟩
   refine kasC_bind (kasC_modify (kasC_pure ⟨⟨rfl,xK W' x l,_,rfl,wF b1 xl c1,(v8 xl c1).trans b2,zX O' xl c1 b3 c2 c3⟩,rfl⟩))
 ·obtain⟨rfl,W',arr,rfl,b1,b2,b3⟩:=h
  exact kasC_pure (q W' arr b1 b2 b3)
end
section
variable{prog:Program}{w:World}{A:Around}{E:Value->Shared->Prop}{s:Shared}{κ:SortKind}{LT:Keyed->Keyed->Bool}{X:Keyed->Prop}{W:List Keyed}
abbrev Rn:=List (List Keyed×Nat)
def cH:Nat->Rn->List (Nat×Nat×Nat)
 |_,[]=>[]
 |o,r::Rs=>(o,r.1.length,r.2)::cH (o+r.1.length) Rs
def flR(Rs:Rn):List Keyed:=Rs.flatMap (·.1)
theorem gf:∀(Rs:Rn) (o:Nat),(cH o Rs).length=Rs.length
 |[],_=>rfl
 |r::Rs,o=>by rw[cH,List.length_cons,List.length_cons,gf Rs]
theorem c7:∀(Rs Ss:Rn) (o:Nat),cH o (Rs++Ss)=cH o Rs++cH (o+(flR Rs).length) Ss
 |[],Ss,o=>rfl
 |r::Rs,Ss,o=>by
  rw[List.cons_append,cH,cH,List.cons_append,c7 Rs Ss]
  unfold flR
  rw[List.flatMap_cons,List.length_append,Nat.add_assoc]
theorem fJ(Rs Ss:Rn):flR (Rs++Ss)=flR Rs++flR Ss:=List.flatMap_append
structure RI(LT:Keyed->Keyed->Bool)(l0:List Keyed)(κ:SortKind)(Rs:Rn)(W:List Keyed)(st:SortSt):Prop where
 kd:Rows.kindOf st=κ
 fl:failedOf st=none
 ar:(arrOf st).toList=flR Rs++W
 pe:(pendingOf st).toList=cH 0 Rs
 pm:(flR Rs++W).Perm l0
 as:∀r∈Rs,bO LT r.1/\0<r.1.length
theorem Od.nb{l0 R1 R2 B C:List Keyed}(O:Od LT X l0)(h:(B++(R1++(R2++C))).Perm l0)(n1:0<R1.length)(n2:0<R2.length)(a1:bO LT R1)(a2:bO LT R2):Nb LT X R1 R2:=by
 have O':=O.perm h
 have m1:∀x∈R1,x∈B++(R1++(R2++C)):=fun x hx=>List.mem_append_right _ (List.mem_append_left _ hx)
 have m2:∀x∈R2,x∈B++(R1++(R2++C)):=fun x hx=>List.mem_append_right _ (List.mem_append_right _ (List.mem_append_left _ hx))
 have pw:=(List.pairwise_append.mp (List.pairwise_append.mp O'.pw).2.1).2.2
 refine⟨n1,n2,a1,a2,fun x hx=>O'.xx x (m1 x hx),fun x hx=>O'.xx x (m2 x hx),O.tr,fun x hx y hy h=>O.asym (O'.xx x (m1 x hx)) (O'.xx y (m2 y hy)) h,fun x hx y hy h=>?_⟩
 rcases pw x hx y (List.mem_append_left _ hy)with z|z
 ·exact z
 ·rw[h]at z;cases z
theorem zg(hl:oQ prog w A E s κ LT X){l0:List Keyed}(O:Od LT X l0){Rs Ss:Rn}{r1 r2:List Keyed×Nat}{st:SortSt}{Q:Bool->SortSt->Shared->Prop}(I:RI LT l0 κ (Rs++r1::r2::Ss) W st)
  (q:∀R st',RI LT l0 κ (Rs++(R,r1.2)::Ss) W st'->Q true st' s):kasC (model prog w) A E (mergeAt' Rs.length) Q st s:=by
 have e0:flR (Rs++r1::r2::Ss)++W=flR Rs++(r1.1++(r2.1++(flR Ss++W))):=by
  rw[fJ]
  unfold flR
  rw[List.flatMap_cons,List.flatMap_cons]
  simp only[List.append_assoc]
 have pe:=I.pe
 rw[c7,cH,cH,Nat.zero_add]at pe
 have lp:(cH 0 Rs).length=Rs.length:=gf _ _
 obtain⟨a1,n1⟩:=I.as r1 (by simp)
 obtain⟨a2,n2⟩:=I.as r2 (by simp)
 refine CD hl (O.nb (B:=flR Rs) (C:=flR Ss++W) (by rw[<-e0];exact I.pm) n1 n2 a1 a2) (P:=flR Rs) (S:=flR Ss++W) I.kd I.fl (by rw[I.ar,e0]) (pw:=r1.2) (pw2:=r2.2) (by rw[<-Array.getElem?_toList,pe,<-lp,List.getElem?_append_right (Nat.le_refl _),Nat.sub_self];rfl) (by rw[<-Array.getElem?_toList,pe,<-lp,List.getElem?_append_right (by omega),Nat.add_sub_cancel_left];rfl) fun R arr g h1 h2 h3=>?_
 have e1:flR (Rs++(R,r1.2)::Ss)++W=flR Rs++(R++(flR Ss++W)):=by
  rw[fJ]
  unfold flR
  rw[List.flatMap_cons]
  simp only[List.append_assoc]
 refine q R _ ⟨rfl,rfl,by rw[e1];exact h1,?_,?_,fun r hr=>?_⟩
 ·show(((pendingOf st).setIfInBounds Rs.length _).eraseIdxIfInBounds (Rs.length+1)).toList=_
  rw[Array.toList_eraseIdxIfInBounds,Array.toList_setIfInBounds,pe,c7,cH,Nat.zero_add]
  have lR:=h2.length_eq
  rw[List.length_append]at lR
  conv=>lhs;rw[<-lp]
  rw[List.set_append_right _ _ (Nat.le_refl _),Nat.sub_self,List.eraseIdx_append_of_length_le (by omega),Nat.add_sub_cancel_left]
  simp only[List.set_cons_zero,List.eraseIdx_cons_succ,List.eraseIdx_cons_zero,lR,Nat.add_assoc]
 ·rw[e1]
  refine List.Perm.trans ?_ I.pm
  rw[e0]
  refine List.Perm.append_left _ ?_
  rw[<-List.append_assoc r1.1]
  exact List.Perm.append_right _ h2
 ·rcases List.mem_append.mp hr with hr|hr
  ·exact I.as r (List.mem_append_left _ hr)
  ·rcases List.mem_cons.mp hr with rfl|hr
   ·exact⟨h3,by rw[h2.length_eq,List.length_append];omega⟩
   ·exact I.as r (List.mem_append_right _ (List.mem_cons_of_mem _ (List.mem_cons_of_mem _ hr)))
end
section
variable{prog:Program}{w:World}{A:Around}{E:Value->Shared->Prop}{s:Shared}{κ:SortKind}{LT:Keyed->Keyed->Bool}{X:Keyed->Prop}
theorem RI.size{l0 W:List Keyed}{Rs:Rn}{st:SortSt}(I:RI LT l0 κ Rs W st):(pendingOf st).size=Rs.length:=by
 rw[<-Array.length_toList,I.pe,gf]
theorem RI.few{l0 W:List Keyed}{Rs:Rn}{st:SortSt}(I:RI LT l0 κ Rs W st):Rs.length<=(flR Rs).length:=by
 have as:=I.as
 clear I
 induction Rs with
 |nil=>exact Nat.zero_le _
 |cons r Rs ih=>
  have h1:=(as r List.mem_cons_self).2
  have h2:=ih fun x hx=>as x (List.mem_cons_of_mem _ hx)
  unfold flR at h2 ⊢
  rw[List.flatMap_cons,List.length_append,List.length_cons]
  omega
theorem xj(hl:oQ prog w A E s κ LT X){l0 W:List Keyed}(O:Od LT X l0){Rs:Rn}{st:SortSt}{i:Nat}{Q:Bool->SortSt->Shared->Prop}(I:RI LT l0 κ Rs W st)(hi:i+1<Rs.length)
  (q:∀Rs' st',RI LT l0 κ Rs' W st'->Rs'.length+1=Rs.length->Q true st' s):kasC (model prog w) A E (mergeAt' i) Q st s:=by
 obtain⟨As,r1,r2,Bs,e,hA⟩:∃As r1 r2 Bs,Rs=As++r1::r2::Bs/\As.length=i:=by
  refine⟨Rs.take i,Rs[i],Rs[i+1],Rs.drop (i+2),?_,by rw[List.length_take];omega⟩
  conv=>lhs;rw[<-List.take_append_drop i Rs]
  rw[List.drop_eq_getElem_cons (by omega),List.drop_eq_getElem_cons hi]
 subst e
 rw[<-hA]
 refine zg hl O I fun R st' I'=>q _ st' I' ?_
 simp only[List.length_append,List.length_cons]
 omega
theorem nZ{α:Type}(f:α->α)(x:α):∀l:List α,(l++[x]).modify l.length f=l++[f x]
 |[]=>rfl
 |a::l=>by
  have:=nZ f x l
  rw[List.cons_append,List.length_cons,List.modify_succ_cons,this];rfl
theorem RI.arr{l0 W W':List Keyed}{Rs:Rn}{st:SortSt}{arr:Array Keyed}(I:RI LT l0 κ Rs W st)(h1:arr.toList=flR Rs++W')(h2:W'.Perm W):RI LT l0 κ Rs W' (setArr st arr):=⟨I.kd,I.fl,h1,I.pe,(List.Perm.append_left _ h2).trans I.pm,I.as⟩
theorem RI.push{l0 W:List Keyed}{Rs:Rn}{st:SortSt}{n lo:Nat}(I:RI LT l0 κ Rs W st)(hlo:lo=(flR Rs).length)(h1:1<=n)(hn:n<=W.length)(ha:bO LT (W.take n)):RI LT l0 κ (Rs++[(W.take n,0)]) (W.drop n) (setPending st ((pendingOf st).push (lo,n,0))):=by
 have e:flR (Rs++[(W.take n,0)])++W.drop n=flR Rs++W:=by
  rw[fJ,List.append_assoc]
  simp[flR]
 refine⟨I.kd,I.fl,by rw[e];exact I.ar,?_,by rw[e];exact I.pm,fun r hr=>?_⟩
 ·show((pendingOf st).push (lo,n,0)).toList=_
  rw[Array.toList_push,I.pe,c7,cH,cH,hlo,Nat.zero_add,List.length_take,Nat.min_eq_left hn]
 ·rcases List.mem_append.mp hr with hr|hr
  ·exact I.as r hr
  ·rw[List.mem_singleton.mp hr]
   exact⟨ha,by rw[List.length_take];omega⟩
theorem RI.pow{l0 W:List Keyed}{Rs:Rn}{r:List Keyed×Nat}{st:SortSt}{pw:Nat}(I:RI LT l0 κ (Rs++[r]) W st):RI LT l0 κ (Rs++[(r.1,pw)]) W (setPending st ((pendingOf st).modify ((pendingOf st).size-1) fun x=>(x.1,x.2.1,pw))):=by
 have e:flR (Rs++[(r.1,pw)])=flR (Rs++[r]):=by rw[fJ,fJ];simp[flR]
 refine⟨I.kd,I.fl,by rw[e];exact I.ar,?_,by rw[e];exact I.pm,fun x hx=>?_⟩
 ·show((pendingOf st).modify ((pendingOf st).size-1) fun x=>(x.1,x.2.1,pw)).toList=_
  have sz:=I.size
  rw[List.length_append,List.length_singleton]at sz
  have lp:(cH 0 Rs).length=Rs.length:=gf _ _
  rw[Array.toList_modify,I.pe,sz,Nat.add_sub_cancel,c7,c7,cH,cH,cH,cH,<-lp]
  rw[nZ]
 ·rcases List.mem_append.mp hx with hx|hx
  ·exact I.as x (List.mem_append_left _ hx)
  ·rw[List.mem_singleton.mp hx]
   exact I.as r (List.mem_append_right _ List.mem_cons_self)
theorem xD{α:Type}(l:List α):l=[]\/∃a b,l=a++[b]:=by
 rcases List.eq_nil_or_concat l with h|⟨a,b,h⟩
 ·exact .inl h
 ·rw[List.concat_eq_append]at h;exact .inr ⟨a,b,h⟩
theorem RI.back0{l0 W:List Keyed}{st:SortSt}(I:RI LT l0 κ [] W st):(pendingOf st).back?=none:=by
 have:=I.pe
 rw[<-Array.getLast?_toList,this];rfl
theorem RI.back{l0 W:List Keyed}{Rs:Rn}{r:List Keyed×Nat}{st:SortSt}(I:RI LT l0 κ (Rs++[r]) W st):∃s1 n1 p1,(pendingOf st).back?=some (s1,n1,p1):=by
 have:=I.pe
 rw[c7,cH,cH]at this
 exact⟨_,_,_,by rw[<-Array.getLast?_toList,this,List.getLast?_concat]⟩
theorem RI.len{l0 W:List Keyed}{Rs:Rn}{st:SortSt}(I:RI LT l0 κ Rs W st):(flR Rs).length+W.length=l0.length:=by
 rw[<-List.length_append];exact I.pm.length_eq
theorem xw{Rs:Rn}{W:List Keyed}{m:Nat}(h:m<=W.length):(flR (Rs++[(W.take m,0)])).length=(flR Rs).length+m:=by
 rw[fJ,List.length_append]
 congr 1
 simp[flR]
 omega
theorem zb (hl : oQ prog w A E s κ LT X) {l0 : List Keyed} (O : Od LT X l0) {st : SortSt} {Q : Unit -> SortSt -> Shared -> Prop} (hk : Rows.kindOf st = κ) (hf : failedOf st = none) (ha : (arrOf st).toList = l0) (hp : pendingOf st = #[]) (n0 : 0 < l0.length)
    (q:∀st' R,failedOf st'=none->(arrOf st').toList=R->R.Perm l0->bO LT R->Q () st' s):kasC (model prog w) A E sortRuns' Q st s:=by
  have hz:(arrOf st).size=l0.length:=by rw[<-Array.length_toList,ha]
  rw[sortRuns'_eq]
  refine kasC_bind (kasC_get ?_)
  dsimp only
  rw[hz]
  refine kasC_bind (kasC_range (aT (Q':=fun c st' s'=>s'=s/\∃Rs,RI LT l0 κ Rs [] st'/\∃lo,c=(none,lo)) (bx (fun k c st'=>∃Rs W,RI LT l0 κ Rs W st'/\W.length<=k/\c=(none,(flR Rs).length)) (fun x k c st' h=>?_) (fun c st' h=>?_) _ _ _ ⟨[],l0,⟨hk,hf,by rw[ha];rfl,by rw[hp];rfl,.refl _,fun r hr=>by cases hr⟩,by rw[List.length_range'];omega,rfl⟩) ?_))
  · obtain⟨Rs,W,I,hw,rfl⟩:=h
    have hs:(flR Rs).length+W.length=l0.length:=by rw[<-List.length_append];exact I.pm.length_eq
    dsimp only
    by_cases e:(flR Rs).length≥l0.length
    · rw[if_pos e]
      have:W=[]:=List.eq_nil_of_length_eq_zero (by omega)
      subst this
      exact kasC_pure ⟨rfl,Rs,I,_,rfl⟩
    rw[if_neg e]
    have OW:Od LT X W:=by
      have:=O.perm I.pm
      exact⟨fun x hx=>this.xx x (List.mem_append_right _ hx),this.tr,this.asym,(List.pairwise_append.mp this.pw).2.1⟩
    rw[show l0.length-(flR Rs).length=W.length by omega]
    refine kasC_bind (Dv hl OW I.kd I.ar (by omega) (fun n W1 arr1 b1 b2 b3 b4 b5=>?_))
    dsimp only
    by_cases em:n<minRun' l0.length l0.length 0
    all_goals first|rw[if_pos em]|rw[if_neg em]
    all_goals first
      | (refine kasC_bind (kasC_lift (wpAny_rule ?_))
         refine kasC_bind (wG (st:=setArr st' arr1) hl (OW.perm b4) I.kd b3 b1 (show n<=min W.length (minRun' l0.length l0.length 0)by omega) (by rw[b4.length_eq];omega) b5 (fun W2 arr2 c1 c2 c3=>?_))
         rw[if_neg (by decide)]
         have I1:RI LT l0 κ Rs W2 (setArr st' arr2):=I.arr c1 (c2.trans b4)
         have l2:W2.length=W.length:=(c2.trans b4).length_eq
         have n1:1<=min W.length (minRun' l0.length l0.length 0):=by omega
         have n2:min W.length (minRun' l0.length l0.length 0)<=W2.length:=by omega
         change kasC _ _ _ _ _ (setArr st' arr2) _
         generalize min W.length (minRun' l0.length l0.length 0)=m at c3 n1 n2 ⊢)
      | (have I1 : RI LT l0 κ Rs W1 (setArr st' arr1) := I.arr b3 b4
         have l2:W1.length=W.length:=b4.length_eq
         have c3:=b5
         have n1:=b1
         have n2:n<=W1.length:=by omega
         generalize W1=W2 at I1 l2 c3 n2
         generalize n=m at c3 n1 n2 ⊢
         generalize arr1=arr2 at I1 ⊢)
    all_goals
      generalize setArr st' arr2=st1 at I1 ⊢
      refine kasC_bind (kasC_get ?_)
      rcases xD Rs with rfl|⟨Rs0,r,rfl⟩
      · rw[I1.back0]
        exact kasC_bind (kasC_modify (kasC_pure ⟨⟨_,_,I1.push rfl n1 n2 c3,by rw[List.length_drop];omega,by rw[xw n2]⟩,rfl⟩))
      obtain⟨s1,p1,p2,hb⟩:=I1.back
      rw[hb]
      dsimp only
      refine kasC_bind (kasC_range (aT (Q':=fun c st2 s2=>s2=s/\c=(none,())/\∃Rs',RI LT l0 κ Rs' W2 st2/\0<Rs'.length) (bx (fun k c st2=>c=(none,())/\∃Rs',RI LT l0 κ Rs' W2 st2/\0<Rs'.length) (fun x k c st2 h=>?_) (fun c st2 h=>?_) _ _ _ ⟨rfl,_,I1,by simp⟩) ?_))
      · obtain⟨rfl,Rs',I2,hr⟩:=h
        refine kasC_bind (kasC_get ?_)
        rw[I2.size]
        by_cases e9:Rs'.length>1
        · rw[if_pos e9]
          cases hq:(pendingOf st2)[Rs'.length-2]? with
          |none=>exact kasC_pure ⟨rfl,rfl,Rs',I2,hr⟩
          | some o=>
            obtain⟨o1,o2,o3⟩:=o
            dsimp only
            split
            · exact kasC_pure ⟨rfl,rfl,Rs',I2,hr⟩
            · refine kasC_bind (xj hl O I2 (by omega) fun Rs2 st3 I3 h3=>?_)
              exact kasC_pure ⟨⟨rfl,Rs2,I3,by omega⟩,rfl⟩
        · rw[if_neg e9]
          exact kasC_pure ⟨rfl,rfl,Rs',I2,hr⟩
      · obtain⟨rfl,Rs',I2,hr⟩:=h
        exact⟨rfl,rfl,Rs',I2,hr⟩
      · rintro c st2 s2 ⟨rfl,rfl,Rs',I2,hr⟩
        rcases xD Rs' with rfl|⟨Rs1,r',rfl⟩
        · cases hr
        dsimp only
        refine kasC_bind (kasC_modify ?_)
        have I3:=I2.pow (pw:=power' l0.length (2*s1+p1) (2*s1+p1+p1+m) l0.length)
        have z1:=I1.len
        have z3:=I3.len
        have I4:=I3.push (lo:=(flR (Rs0++[r])).length) (by omega) n1 n2 c3
        exact kasC_bind (kasC_modify (kasC_pure ⟨⟨_,_,I4,by rw[List.length_drop];omega,by rw[xw n2];congr 1;omega⟩,rfl⟩))
  · obtain⟨Rs,W,I,hw,rfl⟩:=h
    have:W=[]:=List.eq_nil_of_length_eq_zero (by omega)
    subst this
    exact⟨rfl,Rs,I,_,rfl⟩
  · rintro c st' s' ⟨rfl,Rs,I,lo,rfl⟩
    dsimp only
    have fw:=I.few
    have fz:(flR Rs).length=l0.length:=by have:=I.pm.length_eq;rwa[List.append_nil]at this
    refine kasC_bind (kasC_range (aT (Q':=fun c st' s2=>s2=s'/\c=(none,())/\∃Rs,RI LT l0 κ Rs [] st'/\Rs.length<=1) (bx (fun k c st'=>c=(none,())/\∃Rs,RI LT l0 κ Rs [] st'/\Rs.length<=k+1) (fun x k c st' h=>?_) (fun c st' h=>?_) _ _ _ ⟨rfl,Rs,I,by rw[List.length_range'];omega⟩) ?_))
    · obtain⟨rfl,Rs,I,hr⟩:=h
      refine kasC_bind (kasC_get ?_)
      rw[I.size]
      by_cases e:Rs.length<=1
      · rw[if_pos e]
        exact kasC_pure ⟨rfl,rfl,Rs,I,e⟩
      rw[if_neg e]
      have hi:∀(c:Prop) [Decidable c],(if c then Rs.length-2-1 else Rs.length-2)+1<Rs.length:=fun c _=>by split<;>omega
      refine kasC_bind (xj hl O I (hi _) fun Rs' st2 I' h'=>?_)
      exact kasC_pure ⟨⟨rfl,Rs',I',by omega⟩,rfl⟩
    · obtain⟨rfl,Rs,I,hr⟩:=h
      exact⟨rfl,rfl,Rs,I,by omega⟩
    · rintro c st' s2 ⟨rfl,rfl,Rs,I,hr⟩
      refine kasC_pure ?_
      cases Rs with
      |nil=>have:=I.pm.length_eq;simp[flR]at this;omega
      | cons r Rs=>
        have:Rs=[]:=List.eq_nil_of_length_eq_zero (by rw[List.length_cons]at hr;omega)
        subst this
        have e:flR [r]++[]=r.1:=by simp[flR]
        have pm:=I.pm
        have ar:=I.ar
        rw[e]at pm ar
        exact q _ r.1 I.fl ar pm (I.as r List.mem_cons_self).1
end
theorem vd{α β:Type}(g:α->β){l:List α}:∀{R M:List β},R.Perm M->M=l.map g->∃q:List α,q.Perm l/\R=q.map g:=fun{R M} h=>by
 induction h generalizing l with
 |nil=>
  intro e
  cases l with
  |nil=>exact⟨[],.refl _,rfl⟩
  |cons a l=>cases e
 |cons x _ ih=>
  intro e
  cases l with
  |nil=>cases e
  |cons a l=>
   injection e with e1 e2
   obtain⟨q,h1,h2⟩:=ih e2
   exact⟨a::q,h1.cons a,by rw[List.map_cons,<-h2,e1]⟩
 |swap x y t=>
  intro e
  cases l with
  |nil=>cases e
  |cons a l=>cases l with
   |nil=>cases e
   |cons b l=>
    injection e with e1 e2
    injection e2 with e2 e3
    exact⟨b::a::l,.swap _ _ _,by rw[List.map_cons,List.map_cons,e1,e2,e3]⟩
 |trans _ _ ih1 ih2=>
  intro e
  obtain⟨q,h1,h2⟩:=ih2 e
  obtain⟨q',h3,h4⟩:=ih1 h2
  exact⟨q',h3.trans h1,h4⟩
theorem Fi{n:Nat}{q:List Nat}(h:q.Perm (List.range n)):Pm n q.toArray:=by
 have hl:q.length=n:=by rw[h.length_eq,List.length_range]
 have gd:∀i (hi:i<n),q.toArray.getD i 0=q[i]'(by omega):=fun i hi=>by simp[Array.getD,hl,hi]
 refine⟨by simpa using hl,fun i hi=>?_,fun i j hij hj=>?_⟩
 ·rw[gd i hi]
  exact List.mem_range.mp (h.mem_iff.mp (List.getElem_mem _))
 ·rw[gd i (by omega),gd j hj]
  exact fun e=>by have:=(List.getElem_inj (h.nodup_iff.mpr List.nodup_range)).mp e;omega
theorem iL{prog:Program}{w:World}{A:Around}{E:Value->Shared->Prop}{s:Shared}{a:Addr}{vs:List Value}{n:Nat}{P:PySem.Fin->Shared->Prop}
  (g:s.heap.get? a=some (seqObj "list" vs.toArray n)) (h2:2<=vs.length) (hz:vs.length<=sizeLine)
  (ask:∀h':Heap,(∀b o,b≠a->s.heap.get? b=some o->h'.get? b=some o)->wpAny (model prog w) A (keyKind' vs.toArray) (fun κ s'=>s'={ s with heap:=h' }/\kasC (model prog w) A E sortRuns'
   (fun _ st s''=>s''={ s with heap:=h' }/\failedOf st=none/\(arrOf st).size=vs.length/\P (Fin.done (Flow.ret Value.none)) { s with heap:=sortedHeap s.heap a vs (Array.map (fun x=>x.snd) (arrOf st)) }) (SortSt.mk' κ (vs.toArray.zip vs.toArray) #[] 7 none) { s with heap:=h' }) E { s with heap:=h' }) :
  wpAny (model prog w) A (Builtin.«list.sort» { pos:=[Value.ref a] }) P E s:=by
 rw[list_sort_plain]
 have hS:vs.toArray.size=vs.length:=by simp
 refine wpAny_bind (listItems_at g rfl (wpAny_bind (listUpdate_at g rfl ?_ (by rw[hS];exact hz) (by simp))))
 obtain⟨e1,g1⟩:∃e1,(s.heap.update a (Obj.mapSeq fun _=>#[])).get? a=some (seqObj "list" #[] e1):=⟨_,get?_update_seq g fun _=>#[]⟩
 refine wpAny_bind (seqEpoch_at g1 rfl (wpAny_bind (wpAny_newTuple (wpAny_bind (wpAny_newList (wpAny_holding ?_) (by simp))) (by simpa using hz))))
 have g2:(((s.heap.update a (Obj.mapSeq fun _=>#[])).push (seqObj "tuple" vs.toArray 0)).push (seqObj "list" #[] 0)).get? a=some (seqObj "list" #[] e1):=
  Heap.get?_push_of_some _ (Heap.get?_push_of_some _ g1)
 have n2:¬vs.toArray.size<2:=by rw[hS];omega
 dsimp only
 rw[if_neg n2]
 have hk:∀b o,b≠a->s.heap.get? b=some o->(((s.heap.update a (Obj.mapSeq fun _=>#[])).push (seqObj "tuple" vs.toArray 0)).push (seqObj "list" #[] 0)).get? b=some o:=fun b o hb ho=>by
  refine Heap.get?_push_of_some _ (Heap.get?_push_of_some _ ?_)
  rw[Heap.get?_update_ne _ _ _ _ hb];exact ho
 refine wpAny_bind (wpAny_mono (ask _ hk) (fun κ s' hs'=>?_) fun _ _ h'=>h')
 obtain⟨rfl,hrun⟩:=hs'
 rw[if_neg n2]
 refine wpAny_bind (wpAny_mono hrun (fun r s' hr=>?_) fun _ _ h'=>h')
 obtain⟨u,st'⟩:=r
 obtain⟨rfl,hfail,hsz,hP⟩:=hr
 refine wpAny_bind (seqEpoch_at g2 rfl (wpAny_bind (listUpdate_at g2 rfl ?_ (by simp) ?_)))
 ·dsimp only at hfail ⊢
  rw[hfail]
  simp only[bne_self_eq_false,Bool.false_eq_true,if_false]
  exact wpAny_pure hP
 ·dsimp only
  rw[Array.size_map]
  dsimp only at hsz
  omega
theorem fV{prog:Program}{w:World}{A:Around}{E:Value->Shared->Prop}{s:Shared}{a:Addr}{vs:List Value}{ps:List (Int×Int)}{n:Nat}{P:PySem.Fin->Shared->Prop}
  (g:s.heap.get? a=some (seqObj "list" vs.toArray n)) (hp:bV s.heap vs ps) (hv:∀v∈vs,v≠.ref a) (nd:ps.Nodup) (hz:ps.length<=sizeLine)
  (k:∀q:Array Nat,Ea ps q->P (Fin.done (Flow.ret Value.none)) { s with heap:=sortedHeap s.heap a vs (q.toList.map fun i=>vs.getD i Value.none).toArray }) :
  wpAny (model prog w) A (Builtin.«list.sort» { pos:=[Value.ref a] }) P E s:=by
 have hl:=cV hp
 by_cases h2:vs.length<2
 ·have hr:((List.range ps.length).toArray.toList.map fun i=>vs.getD i Value.none)=vs:=by
   rw[<-hl]
   refine List.ext_getElem? fun i=>?_
   by_cases hi:i<vs.length
   ·simp[List.getElem?_range hi,List.getElem?_eq_getElem hi]
   ·simp[List.getElem?_eq_none (Nat.le_of_not_lt hi),hi]
  have:=k (List.range ps.length).toArray ⟨jN,fun i j hij hj=>by omega⟩
  rw[hr]at this
  exact dH g h2 this
 ·refine iL g (by omega) (by omega) fun h' m=>?_
  have hp':bV ({ s with heap:=h' }:Shared).heap vs ps:=fC m hp hv
  refine pf hp' (by omega) ⟨rfl,?_⟩
  obtain⟨f,hf⟩:∃f:Keyed->Int×Int,∀x p,aR h' x.1 p->f x=p:=by
   classical
   refine⟨fun x=>if h:∃p,aR h' x.1 p then h.choose else(0,0),fun x p hp=>?_⟩
   have h:∃p,aR h' x.1 p:=⟨p,hp⟩
   dsimp only
   rw[dif_pos h]
   obtain⟨b,o,t1,t2,e,hx,g1,_,d1⟩:=h.choose_spec
   obtain⟨b',o',t1',t2',e',hx',g1',_,d1'⟩:=hp
   rw[hx]at hx';cases hx'
   rw[g1]at g1';cases g1'
   rw[d1]at d1'
   injection d1' with d2 _
   have d3:=congrArg Array.toList d2
   simp only[List.cons.injEq,Value.int.injEq]at d3
   exact Prod.ext d3.1.1 d3.2.1.1
  obtain⟨it,hit⟩:∃it:Nat->Keyed,it=kas_item (vs.toArray.zip vs.toArray):=⟨_,rfl⟩
  have it1:∀i,i<ps.length->it i=(vs.getD i Value.none,vs.getD i Value.none):=fun i hi=>by
   rw[hit];exact kat_item rfl i
  have fi:∀i,i<ps.length->aR h' (it i).1 (f (it i))/\f (it i)=ps.getD i (0,0):=fun i hi=>by
   have h1:=eX hp' hi
   have h2:f (it i)=ps.getD i (0,0):=hf _ _ (by rw[it1 i hi];exact h1)
   exact⟨by rw[h2,it1 i hi];exact h1,h2⟩
  have l0:(vs.toArray.zip vs.toArray).toList=(List.range ps.length).map it:=by
   have e:=kas_range (vs.toArray.zip vs.toArray)
   rw[show(vs.toArray.zip vs.toArray).size=ps.length by simp[hl]]at e
   rw[<-hit]at e
   rw[<-e];simp
  have LO:=CH nd
  have lev:oQ prog w A E { s with heap:=h' } (tuples' true) (fun x y=>ltP (f x) (f y)) (fun x=>aR h' x.1 (f x)):=fun x y st Q hx hy hk hq=>by
   rw[lt'_eq]
   refine kasC_bind (kasC_get ?_)
   rw[hk]
   exact kasC_bind (kasC_lift (wpAny_attempt (zF (s:={ s with heap:=h' }) hx hy (kasC_pure hq))))
  have od:Od (fun x y=>ltP (f x) (f y)) (fun x=>aR h' x.1 (f x)) ((List.range ps.length).map it):=by
   refine⟨fun x hx=>?_,fun{x y z} _ _ _ h1 h2=>?_,fun{x y} _ _ h=>?_,?_⟩
   ·obtain⟨i,hi,rfl⟩:=List.mem_map.mp hx
    exact(fi i (List.mem_range.mp hi)).1
   ·simp only[ltP,decide_eq_true_eq]at *;omega
   ·simp only[ltP,decide_eq_true_eq,decide_eq_false_iff_not]at *;omega
   ·refine List.pairwise_map.mpr (List.Pairwise.imp_of_mem (fun{i j} hi hj hn=>?_) List.nodup_range)
    have hi:=List.mem_range.mp hi
    have hj:=List.mem_range.mp hj
    rw[(fi i hi).2,(fi j hj).2]
    cases hc:ltP (ps.getD i (0,0)) (ps.getD j (0,0))with
    |true=>exact .inl rfl
    |false=>exact .inr (LO.tot hi hj hn hc)
  refine zb lev od rfl rfl l0 rfl (by rw[List.length_map,List.length_range];omega) fun st R h3 h4 h5 h6=>?_
  obtain⟨q,q1,q2⟩:=vd it h5 rfl
  have ql:q.length=ps.length:=by rw[q1.length_eq,List.length_range]
  have qb:∀i∈q,i<ps.length:=fun i hi=>List.mem_range.mp (q1.mem_iff.mp hi)
  have ha:Array.map (fun x=>x.snd) (arrOf st)=(q.toArray.toList.map fun i=>vs.getD i Value.none).toArray:=by
   apply Array.toList_inj.mp
   rw[Array.toList_map,h4,q2,List.map_map]
   exact List.map_congr_left fun i hi=>by show(it i).2=_;rw[it1 i (qb i hi)]
  refine⟨rfl,h3,by rw[<-Array.length_toList,h4,q2,List.length_map,ql,hl],?_⟩
  rw[ha]
  refine k q.toArray ⟨Fi q1,fun i j hij hj=>?_⟩
  have gd:∀i (hi:i<ps.length),q.toArray.getD i 0=q[i]'(by omega):=fun i hi=>by simp[Array.getD,ql,hi]
  unfold bO at h6
  rw[q2,List.pairwise_map,List.pairwise_iff_getElem]at h6
  have:=h6 i j (by omega) (by omega) hij
  dsimp only at this
  rw[(fi _ (qb _ (List.getElem_mem _))).2,(fi _ (qb _ (List.getElem_mem _))).2]at this
  dsimp only
  rw[gd i (by omega),gd j hj]
  exact this
def Rs(xs:List Nat):Prop:=xs.Pairwise (· < ·)
theorem Rs.lt{xs:Array Nat}(h:Rs xs.toList){i k d:Nat}(hik:i<k)(hk:k<xs.size):xs.getD i d<xs.getD k d:=by
 have:=List.pairwise_iff_getElem.mp h i k (by simp;omega) (by simpa using hk) hik
 simpa [Array.getD,hk,show i<xs.size by omega] using this
theorem km{xs:Array Nat}{j:Nat}(h:Rs xs.toList):∀(f lo hi:Nat),hi-lo<=f->lo<=hi->hi<=xs.size->(∀i,i<lo->xs.getD i j<j)->(∀i,hi<=i->i<xs.size->j<=xs.getD i j)->
  ∃p,SetTable.below.go xs j f lo hi=p/\p<=xs.size/\(∀i,i<p->xs.getD i j<j)/\∀i,p<=i->i<xs.size->j<=xs.getD i j
 |0,lo,hi,h1,h2,h3,h4,h5=>⟨lo,rfl,by omega,h4,fun i hi'=>h5 i (by omega)⟩
 |f+1,lo,hi,h1,h2,h3,h4,h5=>by
  unfold SetTable.below.go
  by_cases c:lo<hi
  ·rw[if_pos c]
   dsimp only
   by_cases d:xs.getD ((lo+hi) / 2) j<j
   ·rw[if_pos d]
    refine km h f _ hi (by omega) (by omega) h3 (fun i hi'=>?_) h5
    by_cases e:i=(lo+hi) / 2
    ·rw[e];exact d
    ·exact Nat.lt_trans (h.lt (by omega) (by omega)) d
   ·rw[if_neg d]
    refine km h f lo _ (by omega) (by omega) (by omega) h4 fun i hi' hs=>?_
    by_cases e:i=(lo+hi) / 2
    ·rw[e];omega
    ·have:=h.lt (xs:=xs) (d:=j) (show(lo+hi) / 2<i by omega) hs
     omega
  ·rw[if_neg c]
   exact⟨lo,rfl,by omega,h4,fun i hi'=>h5 i (by omega)⟩
theorem gA{xs:Array Nat}(h:Rs xs.toList)(j:Nat):∃p,SetTable.below xs j=p/\p<=xs.size/\(∀i,i<p->xs.getD i j<j)/\∀i,p<=i->i<xs.size->j<=xs.getD i j:=by
 unfold SetTable.below
 exact km h _ 0 _ (by omega) (by omega) (by omega) (fun i hi=>by omega) fun i hi hs=>by omega
theorem tD{xs:Array Nat}(h:Rs xs.toList){j:Nat}:(xs[SetTable.below xs j]?=some j)↔j∈xs.toList:=by
 obtain⟨p,e,h1,h2,h3⟩:=gA h j
 rw[e]
 constructor
 ·intro g
  exact List.mem_of_getElem? (by rw[Array.getElem?_toList];exact g)
 ·intro hm
  obtain⟨i,hi⟩:=List.getElem?_of_mem hm
  have hs:i<xs.size:=by have:=(List.getElem?_eq_some_iff.mp hi).1;simpa using this
  have gi:xs.getD i j=j:=by
   rw[Array.getElem?_toList]at hi
   simp[Array.getD,hs]
   rw[Array.getElem?_eq_getElem hs]at hi
   injection hi
  have ip:p<=i:=Nat.le_of_not_lt fun z=>by have:=h2 i z;omega
  have:p=i:=by
   rcases Nat.lt_or_ge p i with c|c
   ·have:=h.lt (d:=j) c hs
    have:=h3 p (Nat.le_refl _) (by omega)
    omega
   ·omega
  rw[this,<-Array.getElem?_toList]
  exact hi
theorem qx{t:SetTable}(h:Rs t.place.toList)(hd:t.dummies=#[])(j:Nat):(j∉t.place.toList/\t.slot j=.empty)\/∃p,t.place[p]?=some j/\t.slot j=.live p:=by
 unfold SetTable.slot
 dsimp only
 by_cases c:t.place[SetTable.below t.place j]?=some j
 ·rw[if_pos (by rw[c];exact beq_self_eq_true _)]
  exact .inr ⟨_,c,rfl⟩
 ·refine .inl ⟨fun z=>c ((tD h).mpr z),?_⟩
  rw[if_neg (by simpa using c)]
  have:SetTable.has t.dummies j=false:=by rw[hd];rfl
  rw[this]
  rfl
theorem BO{t:SetTable}(h:Rs t.place.toList)(hd:t.dummies=#[]){j:Nat}(hj:j∉t.place.toList):∃p,t.put j=({ t with place:=SetTable.insertAt t.place p j },p)/\p<=t.place.size/\Rs (SetTable.insertAt t.place p j).toList:=by
 obtain⟨p,e,h1,h2,h3⟩:=gA h j
 refine⟨p,?_,h1,?_⟩
 ·unfold SetTable.put
  have:SetTable.has t.dummies j=false:=by rw[hd];rfl
  dsimp only
  rw[e,this]
  rfl
 ·rw[SetTable.toList_insertAt]
  have lt:∀a∈t.place.toList.take p,a<j:=fun a ha=>by
   obtain⟨i,hi⟩:=List.getElem?_of_mem ha
   obtain⟨hl,hg⟩:=List.getElem?_eq_some_iff.mp hi
   rw[List.length_take]at hl
   have:=h2 i (by omega)
   rw[List.getElem_take]at hg
   have hs:i<t.place.size:=by omega
   simp[Array.getD,hs]at this
   rw[<-hg]
   simpa using this
  have gt:∀a∈t.place.toList.drop p,j<a:=fun a ha=>by
   have hm:=List.mem_of_mem_drop ha
   obtain⟨i,hi⟩:=List.getElem?_of_mem ha
   obtain⟨hl,hg⟩:=List.getElem?_eq_some_iff.mp hi
   rw[List.length_drop]at hl
   have hs:p+i<t.place.size:=by simp at hl;omega
   have:=h3 (p+i) (by omega) hs
   rw[List.getElem_drop]at hg
   simp[Array.getD,hs]at this
   have e2:t.place[p+i]=a:=by rw[<-hg];simp
   rw[e2]at this
   rcases Nat.lt_or_ge j a with c|c
   ·exact c
   ·exact absurd hm (by rw[show a=j by omega];exact hj)
  refine List.pairwise_append.mpr ⟨List.Pairwise.sublist (List.take_sublist _ _) h,List.pairwise_cons.mpr ⟨gt,List.Pairwise.sublist (List.drop_sublist _ _) h⟩,fun a ha b hb=>?_⟩
  rcases List.mem_cons.mp hb with rfl|hb
  ·exact lt a ha
  ·exact Nat.lt_trans (lt a ha) (gt b hb)
abbrev tb(m:Nat):SetTable:={ SetTable.fresh 0 0 true with mask:=m }
def adv(m:Nat):SetTable.Probe->SetTable.Probe:=SetTable.advance (tb m)
def pth(m:Nat)(h:Int):Nat->SetTable.Probe
 |0=>SetTable.probeStart (tb m) h
 |k+1=>adv m (pth m h k)
theorem kZ(m:Nat)(h:Int):∀k,(pth m h k).dummy=none
 |0=>rfl
 |k+1=>by
  have:=kZ m h k
  show(adv m (pth m h k)).dummy=none
  unfold adv SetTable.advance
  split
  ·exact this
  ·exact this
def Run(m:Nat)(p:SetTable.Probe)(i u:Nat):Prop:=p.j=i/\p.more=SetTable.runEnd m i-i/\p.i=i/\p.perturb=u
theorem qT(m:Nat)(h:Int):Run m (pth m h 0) (SetTable.bits h % (m+1)) (SetTable.bits h):=⟨rfl,rfl,rfl,rfl⟩
theorem nH{m:Nat}{h:Int}{k i u:Nat}(r:Run m (pth m h k) i u):∀d,d<=SetTable.runEnd m i-i->(pth m h (k+d)).j=i+d/\(pth m h (k+d)).more=SetTable.runEnd m i-i-d/\(pth m h (k+d)).i=i/\(pth m h (k+d)).perturb=u
 |0,_=>⟨r.1,r.2.1,r.2.2.1,r.2.2.2⟩
 |d+1,hd=>by
  obtain⟨h1,h2,h3,h4⟩:=nH r d (by omega)
  show(adv m (pth m h (k+d))).j=_/\(adv m (pth m h (k+d))).more=_/\(adv m (pth m h (k+d))).i=_/\(adv m (pth m h (k+d))).perturb=_
  unfold adv SetTable.advance
  rw[if_pos (by omega)]
  dsimp only
  exact⟨by omega,by omega,h3,h4⟩
theorem nG{m:Nat}{h:Int}{k i u:Nat}(r:Run m (pth m h k) i u):Run m (pth m h (k+(SetTable.runEnd m i-i)+1)) (SetTable.leap m i u).1 (SetTable.leap m i u).2:=by
 obtain⟨h1,h2,h3,h4⟩:=nH r _ (Nat.le_refl _)
 show Run m (adv m (pth m h (k+(SetTable.runEnd m i-i)))) _ _
 unfold adv SetTable.advance
 rw[if_neg (by omega),h3,h4]
 exact⟨rfl,rfl,rfl,rfl⟩
def lps(m:Nat):Nat->Nat×Nat->Nat×Nat
 |0,x=>x
 |k+1,x=>lps m k (SetTable.leap m x.1 x.2)
theorem qI(m i:Nat):SetTable.runEnd m i-i<=9:=by unfold SetTable.runEnd;split<;>omega
theorem qH{m:Nat}{h:Int}:∀(t k:Nat) (x:Nat×Nat),Run m (pth m h k) x.1 x.2->∃k',k<=k'/\k'<=k+10*t/\Run m (pth m h k') (lps m t x).1 (lps m t x).2
 |0,k,x,r=>⟨k,by omega,by omega,r⟩
 |t+1,k,x,r=>by
  have:=qI m x.1
  obtain⟨k',h1,h2,h3⟩:=qH t _ (SetTable.leap m x.1 x.2) (nG r)
  exact⟨k',by omega,by omega,h3⟩
theorem rJ(m:Nat):∀(a b:Nat) (x:Nat×Nat),lps m (a+b) x=lps m b (lps m a x)
 |0,b,x=>by rw[Nat.zero_add];rfl
 |a+1,b,x=>by rw[Nat.succ_add];exact rJ m a b _
theorem tx(h:Int):SetTable.bits h<2^64:=by unfold SetTable.bits;omega
theorem rO{m i u:Nat}:(SetTable.leap m i u).1<m+1:=Nat.mod_lt _ (by omega)
theorem xE{m:Nat}:∀(t:Nat) (x:Nat×Nat),x.1<m+1->(lps m t x).1<m+1
 |0,x,h=>h
 |t+1,x,h=>xE t _ rO
theorem CJ{m:Nat}:∀(t:Nat) (x:Nat×Nat) (b:Nat),x.2<2^(5*t+b)->(lps m t x).2<2^b
 |0,x,b,h=>by rw[Nat.mul_zero,Nat.zero_add]at h;exact h
 |t+1,x,b,h=>CJ t _ b (by
  show x.2 / 32<_
  rw[show 5*(t+1)+b=5*t+b+5 by omega,Nat.pow_add]at h
  exact Nat.div_lt_of_lt_mul (by rw[Nat.mul_comm];exact h))
def orb(m:Nat):Nat->Nat->Nat
 |0,i=>i
 |k+1,i=>orb m k ((5*i+1) % (m+1))
def E4(m:Nat):Nat->Nat->Nat->Nat
 |0,_,a=>a
 |k+1,i,a=>E4 m k ((5*i+1) % (m+1)) (a ||| (1 <<< i))
theorem qC{m:Nat}:∀(k i a e:Nat),(E4 m k i a).testBit e=true->a.testBit e=true\/∃t,t<k/\orb m t i=e
 |0,i,a,e,h=>.inl h
 |k+1,i,a,e,h=>by
  rcases qC k _ _ e h with h1|⟨t,h1,h2⟩
  ·rw[Nat.testBit_or,Bool.or_eq_true]at h1
   rcases h1 with h1|h1
   ·exact .inl h1
   ·refine .inr ⟨0,by omega,?_⟩
    rw[Nat.one_shiftLeft,Nat.testBit_two_pow]at h1
    exact of_decide_eq_true h1
  ·exact .inr ⟨t+1,by omega,h2⟩
structure mh(m:Nat):Prop where
 all:E4 m (m+1) 0 0=2^(m+1)-1
 back:orb m (m+1) 0=0
theorem jR{m:Nat}:∀(a b i:Nat),orb m (a+b) i=orb m b (orb m a i)
 |0,b,i=>by rw[Nat.zero_add];rfl
 |a+1,b,i=>by rw[Nat.succ_add];exact jR a b _
theorem mh.at_{m:Nat}(F:mh m){e:Nat}(h:e<m+1):∃t,t<m+1/\orb m t 0=e:=by
 rcases qC (m:=m) (m+1) 0 0 e (by rw[F.all,Nat.testBit_two_pow_sub_one];exact decide_eq_true h)with h1|h1
 ·simp at h1
 ·exact h1
theorem mh.go{m:Nat}(F:mh m){i e:Nat}(hi:i<m+1)(he:e<m+1):∃t,t<m+1/\orb m t i=e:=by
 obtain⟨a,ha,ea⟩:=F.at_ hi
 obtain⟨b,hb,eb⟩:=F.at_ he
 rcases Nat.lt_or_ge b a with c|c
 ·refine⟨m+1-a+b,by omega,?_⟩
  rw[<-ea,<-jR,show a+(m+1-a+b)=m+1+b by omega,jR,F.back]
  exact eb
 ·refine⟨b-a,by omega,?_⟩
  rw[<-ea,<-jR,show a+(b-a)=b by omega]
  exact eb
theorem rH{m:Nat}:∀(t:Nat) (i:Nat),lps m t (i,0)=(orb m t i,0)
 |0,i=>rfl
 |t+1,i=>by
  show lps m t (SetTable.leap m i 0)=_
  have:SetTable.leap m i 0=((5*i+1) % (m+1),0):=by unfold SetTable.leap;simp[Nat.mul_comm]
  rw[this]
  exact rH t _
theorem Du{m:Nat}(F:mh m){i u e:Nat}(hi:i<m+1)(hu:u<2^64)(he:e<m+1):∃t,t<m+14/\(lps m t (i,u)).1=e:=by
 have h0:(lps m 13 (i,u)).2=0:=by
  have:=CJ (m:=m) 13 (i,u) 0 (Nat.lt_of_lt_of_le hu (by decide))
  omega
 obtain⟨t,ht,e2⟩:=F.go (xE 13 (i,u) hi) he
 refine⟨13+t,by omega,?_⟩
 rw[rJ,show lps m 13 (i,u)=((lps m 13 (i,u)).1,0)from Prod.ext rfl h0,rH]
 exact e2
theorem Dh:mh 7:=⟨by decide +kernel,by decide +kernel⟩
theorem Di:mh 31:=⟨by decide +kernel,by decide +kernel⟩
theorem z9:mh 127:=⟨by decide +kernel,by decide +kernel⟩
theorem z0:mh 511:=⟨by decide +kernel,by decide +kernel⟩
theorem wj:mh 2047:=⟨by decide +kernel,by decide +kernel⟩
def Rch(m:Nat)(P:Nat->Prop)(h:Int)(j:Nat):Prop:=∃k,(pth m h k).j=j/\∀k',k'<k->P (pth m h k').j
theorem Rch.mono{m:Nat}{P P':Nat->Prop}{h:Int}{j:Nat}(r:Rch m P h j)(s:∀x,P x->P' x):Rch m P' h j:=let ⟨k,a,b⟩:=r;⟨k,a,fun k' h=>s _ (b k' h)⟩
theorem FE{P:Nat->Prop}:∀{k:Nat},P k->∃N,N<=k/\P N/\∀i,i<N->¬P i:=fun{k}=>by
 induction k using Nat.strongRecOn with
 |ind k ih=>
  intro h
  by_cases c:∃i,i<k/\P i
  ·obtain⟨i,hi,pi⟩:=c
   obtain⟨N,h1,h2,h3⟩:=ih i hi pi
   exact⟨N,by omega,h2,h3⟩
  ·exact⟨k,Nat.le_refl _,h,fun i hi pi=>c ⟨i,hi,pi⟩⟩
theorem pF{m:Nat}(F:mh m)(h:Int){P:Nat->Prop}{e:Nat}(he:e<m+1)(hp:¬P e):∃N,N<10*(m+15)/\¬P (pth m h N).j/\∀k,k<N->P (pth m h k).j:=by
 obtain⟨t,ht,e1⟩:=Du F (i:=SetTable.bits h % (m+1)) (u:=SetTable.bits h) (Nat.mod_lt _ (by omega)) (tx h) he
 obtain⟨k,_,hk,r⟩:=qH t 0 (SetTable.bits h % (m+1),SetTable.bits h) (qT m h)
 rw[e1]at r
 obtain⟨N,h1,h2,h3⟩:=FE (P:=fun k=>¬P (pth m h k).j) (k:=k) (by rw[r.1];exact hp)
 exact⟨N,by omega,h2,fun k hk=>Classical.not_not.mp (h3 k hk)⟩
theorem gap{m:Nat}{pl:List Nat}(nd:pl.Nodup)(hl:pl.length<=m):∃e,e<m+1/\e∉pl:=by
 by_cases c:∃e,e<m+1/\e∉pl
 ·exact c
 ·have:=List.Nodup.length_le_of_subset (List.nodup_range (n:=m+1)) (l₂:=pl) fun b hb=>Classical.not_not.mp fun z=>c ⟨b,List.mem_range.mp hb,z⟩
  rw[List.length_range]at this
  omega
theorem Rs.nd{xs:List Nat}(h:Rs xs):xs.Nodup:=h.imp fun h=>Nat.ne_of_lt h
theorem Rs.at1{xs:Array Nat}(h:Rs xs.toList){i i' j:Nat}(h1:xs[i]?=some j)(h2:xs[i']?=some j):i=i':=by
 rw[<-Array.getElem?_toList]at h1 h2
 obtain⟨l1,e1⟩:=List.getElem?_eq_some_iff.mp h1
 obtain⟨l2,e2⟩:=List.getElem?_eq_some_iff.mp h2
 exact(List.getElem_inj h.nd).mp (e1.trans e2.symm)
theorem nO{t:SetTable}{h:Int}(hs:Rs t.place.toList)(hd:t.dummies=#[]){ha:Nat->Int}{N:Nat}(hN:(pth t.mask h N).j∉t.place.toList):∀(f k:Nat),k<=N->N-k<f->(∀k',k<=k'->k'<N->(pth t.mask h k').j∈t.place.toList)->
  (∃k1 i,k<=k1/\k1<N/\(∀k',k<=k'->k'<k1->∀i,t.place[i]?=some (pth t.mask h k').j->ha i≠h)/\t.place[i]?=some (pth t.mask h k1).j/\ha i=h/\SetTable.probe.go t ha h f (pth t.mask h k)=some (.candidate (pth t.mask h k1).j i (pth t.mask h (k1+1))))\/
  ((∀k',k<=k'->k'<N->∀i,t.place[i]?=some (pth t.mask h k').j->ha i≠h)/\SetTable.probe.go t ha h f (pth t.mask h k)=some (.empty (pth t.mask h N).j none))
 |0,k,_,hf,_=>by omega
 |f+1,k,hk,hf,hl=>by
  unfold SetTable.probe.go
  rcases qx hs hd (pth t.mask h k).j with⟨h1,h2⟩|⟨p,h1,h2⟩
  ·have:k=N:=by
    rcases Nat.lt_or_ge k N with c|c
    ·exact absurd (hl k (Nat.le_refl _) c) h1
    ·omega
   subst this
   rw[h2]
   refine .inr ⟨fun k' a b=>by omega,?_⟩
   dsimp only
   rw[kZ]
  ·have ne:k≠N:=fun e=>hN (by rw[<-e];exact List.mem_of_getElem? (by rw[Array.getElem?_toList];exact h1))
   rw[h2]
   dsimp only
   by_cases c:ha p=h
   ·rw[if_pos (by rw[c];exact beq_self_eq_true _)]
    exact .inl ⟨k,p,Nat.le_refl _,by omega,fun k' a b=>by omega,h1,c,rfl⟩
   ·rw[if_neg (by simpa using c)]
    have no:∀i,t.place[i]?=some (pth t.mask h k).j->ha i≠h:=fun i hi=>by rw[hs.at1 hi h1];exact c
    have nx:t.advance (pth t.mask h k)=pth t.mask h (k+1):=rfl
    rw[nx]
    rcases nO hs hd hN (ha:=ha) f (k+1) (by omega) (by omega) fun k' a b=>hl k' (by omega) b with⟨k1,i,a1,a2,a3,a4⟩|⟨a1,a2⟩
    ·refine .inl ⟨k1,i,by omega,a2,fun k' b1 b2=>?_,a4⟩
     rcases Nat.lt_or_ge k k' with c1|c1
     ·exact a3 k' (by omega) b2
     ·rw[show k'=k by omega];exact no
    ·refine .inr ⟨fun k' b1 b2=>?_,a2⟩
     rcases Nat.lt_or_ge k k' with c1|c1
     ·exact a1 k' (by omega) b2
     ·rw[show k'=k by omega];exact no
structure Tab(t:SetTable)(es:List (Int×Value)):Prop where
 dm:t.dummies=#[]
 rs:Rs t.place.toList
 fl:mh t.mask
 sz:t.place.size=es.length
 rc:∀(i j:Nat) (e:Int×Value),t.place[i]?=some j->es[i]?=some e->Rch t.mask (·∈t.place.toList) e.1 j
theorem Tab.put{t:SetTable}{es:Array (Int×Value)}(T:Tab t es.toList){h:Int}{x:Value}{N:Nat}(h1:(pth t.mask h N).j∉t.place.toList)(h2:∀k,k<N->(pth t.mask h k).j∈t.place.toList) :
  ∃p,t.put (pth t.mask h N).j=({ t with place:=SetTable.insertAt t.place p (pth t.mask h N).j },p)/\(SetTable.insertAt es p (h,x)).toList.Perm (es.toList++[(h,x)])/\Tab { t with place:=SetTable.insertAt t.place p (pth t.mask h N).j } (SetTable.insertAt es p (h,x)).toList:=by
 obtain⟨p,e,hp,rs⟩:=BO T.rs T.dm h1
 have sz:=T.sz
 have hl:(SetTable.insertAt t.place p (pth t.mask h N).j).toList=t.place.toList.take p++(pth t.mask h N).j::t.place.toList.drop p:=SetTable.toList_insertAt ..
 have hl2:(SetTable.insertAt es p (h,x)).toList=es.toList.take p++(h,x)::es.toList.drop p:=SetTable.toList_insertAt ..
 have sub:∀y,y∈t.place.toList->y∈(SetTable.insertAt t.place p (pth t.mask h N).j).toList:=fun y hy=>by
  rw[hl,<-List.take_append_drop p t.place.toList]at *
  rcases List.mem_append.mp hy with z|z
  ·exact List.mem_append_left _ (by simpa using z)
  ·exact List.mem_append_right _ (List.mem_cons_of_mem _ (by simpa using z))
 refine⟨p,e,(SetTable.insertAt_perm es p (h,x)).trans (by rw[Array.toList_push]),T.dm,rs,T.fl,?_,fun i j e' gi ge=>?_⟩
 ·rw[hl2]
  show(SetTable.insertAt t.place p (pth t.mask h N).j).size=_
  have sz':t.place.size=es.size:=by simpa using sz
  rw[<-Array.length_toList,hl]
  simp only[List.length_append,List.length_cons,List.length_take,List.length_drop,Array.length_toList,sz']
 ·change (SetTable.insertAt t.place p (pth t.mask h N).j)[i]?=some j at gi
  show Rch t.mask (·∈(SetTable.insertAt t.place p (pth t.mask h N).j).toList) e'.1 j
  rw[<-Array.getElem?_toList,hl]at gi
  rw[hl2]at ge
  have lt1:(t.place.toList.take p).length=p:=by rw[List.length_take,Array.length_toList];omega
  have lt2:(es.toList.take p).length=p:=by rw[List.length_take,<-sz];omega
  rcases Nat.lt_trichotomy i p with c|c|c
  ·rw[List.getElem?_append_left (by omega),List.getElem?_take_of_lt c]at gi ge
   exact(T.rc i j e' (by rw[<-Array.getElem?_toList];exact gi) ge).mono sub
  ·subst c
   rw[List.getElem?_append_right (by omega),lt1,Nat.sub_self,List.getElem?_cons_zero]at gi
   rw[List.getElem?_append_right (by omega),lt2,Nat.sub_self,List.getElem?_cons_zero]at ge
   cases gi
   cases ge
   exact⟨N,rfl,fun k hk=>sub _ (h2 k hk)⟩
  ·obtain⟨d,rfl⟩:∃d,i=p+(d+1):=⟨i-p-1,by omega⟩
   rw[List.getElem?_append_right (by omega),lt1,show p+(d+1)-p=d+1 by omega,List.getElem?_cons_succ,List.getElem?_drop]at gi
   rw[List.getElem?_append_right (by omega),lt2,show p+(d+1)-p=d+1 by omega,List.getElem?_cons_succ,List.getElem?_drop]at ge
   exact(T.rc (p+d) j e' (by rw[<-Array.getElem?_toList];exact gi) ge).mono sub
abbrev Own(ow:Array (Option Nat))(j:Nat):Prop:=∃i,ow[j]?=some (some i)
structure pS(m:Nat)(hs:List Int)(ow:Array (Option Nat)):Prop where
 sz:ow.size=m+1
 ix:∀j i:Nat,ow[j]?=some (some i)->i<hs.length/\Rch m (Own ow) (hs.getD i 0) j
 al:∀i:Nat,i<hs.length->∃j:Nat,ow[j]?=some (some i)
 inj:∀j j' i:Nat,ow[j]?=some (some i)->ow[j']?=some (some i)->j=j'
theorem sx{m:Nat}{h:Int}{ow:Array (Option Nat)}(hz:ow.size=m+1):∀(f t k i u:Nat),Run m (pth m h k) i u->i<m+1->t<f->¬Own ow (lps m t (i,u)).1->(lps m t (i,u)).1<m+1->
  ∃N,k<=N/\SetTable.layClean.free m ow f i u=some (pth m h N).j/\ow[(pth m h N).j]?=some none/\∀k',k<=k'->k'<N->Own ow (pth m h k').j
 |0,t,k,i,u,_,_,ht,_,_=>by omega
 |f+1,t,k,i,u,r,hi,ht,hf,hl=>by
  unfold SetTable.layClean.free
  have re:SetTable.runEnd m i<=m/\i<=SetTable.runEnd m i:=by unfold SetTable.runEnd;split<;>omega
  have val:∀d,d<SetTable.runEnd m i+1-i->((ow.getD (i+d) (some 0)).isNone=true↔ow[i+d]?=some none)/\((ow.getD (i+d) (some 0)).isNone=false↔Own ow (i+d)):=fun d hd=>by
   have hlt:i+d<ow.size:=by omega
   have e:ow.getD (i+d) (some 0)=ow[i+d]:=by simp[Array.getD,hlt]
   rw[e,Array.getElem?_eq_getElem hlt]
   unfold Own
   rw[Array.getElem?_eq_getElem hlt]
   cases ow[i+d]<;>simp
  cases hq:(List.range (SetTable.runEnd m i+1-i)).find? fun k=>(ow.getD (i+k) (some 0)).isNone with
  |some d=>
   rw[List.find?_range_eq_some]at hq
   obtain⟨q1,q2,q3⟩:=hq
   have q2:=List.mem_range.mp q2
   have rin:=fun d' (h':d'<=d)=>(nH r d' (by omega)).1
   refine⟨k+d,by omega,by dsimp only;rw[rin d (Nat.le_refl _)],by rw[rin d (Nat.le_refl _)];exact(val d q2).1.mp q1,fun k' a b=>?_⟩
   obtain⟨d',rfl⟩:∃d',k'=k+d':=⟨k'-k,by omega⟩
   rw[rin d' (by omega)]
   exact(val d' (by omega)).2.mp (by simpa using q3 d' (by omega))
  |none=>
   have all:∀d,d<SetTable.runEnd m i+1-i->Own ow (i+d):=fun d hd=>(val d hd).2.mp (Bool.eq_false_iff.mpr (List.find?_eq_none.mp hq d (List.mem_range.mpr hd)))
   cases t with
   |zero=>exact absurd (all 0 (by omega)) hf
   |succ t=>
    obtain⟨N,n1,n2,n3,n4⟩:=sx hz f t _ _ _ (nG r) rO (by omega) hf hl
    refine⟨N,by omega,n2,n3,fun k' a b=>?_⟩
    rcases Nat.lt_or_ge k' (k+(SetTable.runEnd m i-i)+1)with c|c
    ·obtain⟨d',rfl⟩:∃d',k'=k+d':=⟨k'-k,by omega⟩
     rw[(nH r d' (by omega)).1]
     exact all d' (by omega)
    ·exact n4 k' c b
theorem pS.gap{m:Nat}{hs:List Int}{ow:Array (Option Nat)}(L:pS m hs ow)(hl:hs.length<=m):∃e,e<m+1/\¬Own ow e:=by
 by_cases c:∃e,e<m+1/\¬Own ow e
 ·exact c
 ·have own:∀e,e<m+1->Own ow e:=fun e he=>Classical.not_not.mp fun z=>c ⟨e,he,z⟩
  have hf:∀e,∃i,e<m+1->ow[e]?=some (some i):=fun e=>by
   by_cases he:e<m+1
   ·obtain⟨i,hi⟩:=own e he
    exact⟨i,fun _=>hi⟩
   ·exact⟨0,fun z=>absurd z he⟩
  have hg:=fun e=>(hf e).choose_spec
  have nd:((List.range (m+1)).map fun e=>(hf e).choose).Nodup:=by
   refine List.pairwise_map.mpr (List.Pairwise.imp_of_mem (fun{a b} ha hb hne e=>hne ?_) List.nodup_range)
   have ga:=hg a (List.mem_range.mp ha)
   have gb:=hg b (List.mem_range.mp hb)
   rw[e]at ga
   exact L.inj _ _ _ ga gb
  have:=List.Nodup.length_le_of_subset nd (l₂:=List.range hs.length) fun i hi=>by
   obtain⟨e,he,rfl⟩:=List.mem_map.mp hi
   exact List.mem_range.mpr (L.ix e _ (hg e (List.mem_range.mp he))).1
  rw[List.length_map,List.length_range,List.length_range]at this
  omega
theorem fE{ow:Array (Option Nat)}{j k x:Nat}(h:ow[j]?=some none)(i:Nat):(ow.setIfInBounds j (some k))[x]?=some (some i)↔(x=j/\i=k)\/ow[x]?=some (some i):=by
 have hj:j<ow.size:=(Array.getElem?_eq_some_iff.mp h).1
 rw[Array.getElem?_setIfInBounds]
 by_cases c:j=x
 ·subst c
  rw[if_pos rfl,if_pos hj,h]
  constructor
  ·intro e
   injection e with e
   injection e with e
   exact .inl ⟨rfl,e.symm⟩
  ·rintro(⟨_,rfl⟩|e)
   ·rfl
   ·injection e with e;cases e
 ·rw[if_neg c]
  constructor
  ·exact .inr
  ·rintro(⟨e,_⟩|e)
   ·exact absurd e.symm c
   ·exact e
theorem pS.add{m:Nat}{hs:List Int}{ow:Array (Option Nat)}(F:mh m)(L:pS m hs ow)(hl:hs.length<=m)(h:Int) :
  ∃j,SetTable.layClean.free m ow (SetTable.turns m) (SetTable.bits h % (m+1)) (SetTable.bits h)=some j/\pS m (hs++[h]) (ow.setIfInBounds j (some hs.length)):=by
 obtain⟨e,he,ho⟩:=L.gap hl
 obtain⟨t,ht,e1⟩:=Du F (i:=SetTable.bits h % (m+1)) (u:=SetTable.bits h) (Nat.mod_lt _ (by omega)) (tx h) he
 obtain⟨N,_,n1,n2,n3⟩:=sx (h:=h) L.sz (SetTable.turns m) t 0 _ _ (qT m h) (Nat.mod_lt _ (by omega)) (by unfold SetTable.turns;omega) (by rw[e1];exact ho) (by rw[e1];exact he)
 refine⟨_,n1,?_⟩
 have up:∀x,Own ow x->Own (ow.setIfInBounds (pth m h N).j (some hs.length)) x:=fun x ⟨i,hi⟩=>⟨i,(fE n2 i).mpr (.inr hi)⟩
 refine⟨by rw[Array.size_setIfInBounds];exact L.sz,fun j i g=>?_,fun i hi=>?_,fun j j' i g g'=>?_⟩
 ·rw[List.length_append,List.length_singleton]
  rcases(fE n2 i).mp g with⟨rfl,rfl⟩|g
  ·refine⟨by omega,N,?_,?_⟩
   ·rw[List.getD_eq_getElem?_getD,List.getElem?_append_right (Nat.le_refl _),Nat.sub_self];rfl
   ·rw[List.getD_eq_getElem?_getD,List.getElem?_append_right (Nat.le_refl _),Nat.sub_self]
    exact fun k hk=>up _ (n3 k (Nat.zero_le _) hk)
  ·obtain⟨a,b⟩:=L.ix j i g
   refine⟨by omega,?_⟩
   rw[List.getD_eq_getElem?_getD,List.getElem?_append_left a,<-List.getD_eq_getElem?_getD]
   exact b.mono up
 ·rw[List.length_append,List.length_singleton]at hi
  by_cases c:i=hs.length
  ·exact⟨_,(fE n2 i).mpr (.inl ⟨rfl,c⟩)⟩
  ·obtain⟨j,hj⟩:=L.al i (by omega)
   exact⟨j,(fE n2 i).mpr (.inr hj)⟩
 ·rcases(fE n2 i).mp g with⟨e1,e2⟩|g<;>rcases(fE n2 i).mp g' with⟨e3,e4⟩|g'
  ·rw[e1,e3]
  ·exact absurd (L.ix _ _ g').1 (by omega)
  ·exact absurd (L.ix _ _ g).1 (by omega)
  ·exact L.inj _ _ _ g g'
theorem pS.nil(m:Nat):pS m [] (Array.replicate (m+1) none):=by
 have no:∀j i:Nat,(Array.replicate (m+1) (none:Option Nat))[j]?≠some (some i):=fun j i=>by
  rw[Array.getElem?_replicate]
  split
  ·exact fun e=>by injection e with e;cases e
  ·exact fun e=>by cases e
 exact⟨by simp,fun j i g=>absurd g (no j i),fun i hi=>by simp at hi,fun j j' i g=>absurd g (no j i)⟩
theorem oh{m:Nat}(F:mh m):∀(hs done:List Int) (ow:Array (Option Nat)),pS m done ow->done.length+hs.length<=m->
  ∃ow',hs.foldl (fun acc h=>do
   let (owner,k) <-acc
   let j <-SetTable.layClean.free m owner (SetTable.turns m) (SetTable.bits h % (m+1)) (SetTable.bits h)
   pure (owner.setIfInBounds j (some k),k+1)) (some (ow,done.length))=some (ow',done.length+hs.length)/\pS m (done++hs) ow'
 |[],done,ow,L,_=>⟨ow,rfl,by rw[List.append_nil];exact L⟩
 |h::hs,done,ow,L,hl=>by
  rw[List.length_cons]at hl
  obtain⟨j,e,L'⟩:=L.add F (by omega) h
  obtain⟨ow',e',L''⟩:=oh F hs (done++[h]) _ L' (by rw[List.length_append,List.length_singleton];omega)
  refine⟨ow',?_,by rw[List.append_assoc]at L'';exact L''⟩
  rw[List.foldl_cons]
  have:(do
   let (owner,k) <-some (ow,done.length)
   let j <-SetTable.layClean.free m owner (SetTable.turns m) (SetTable.bits h % (m+1)) (SetTable.bits h)
   pure (owner.setIfInBounds j (some k),k+1):Option (Array (Option Nat)×Nat))=some (ow.setIfInBounds j (some done.length),(done++[h]).length):=by
   rw[List.length_append,List.length_singleton]
   show(SetTable.layClean.free m ow (SetTable.turns m) (SetTable.bits h % (m+1)) (SetTable.bits h)).bind _=_
   rw[e]
   rfl
  rw[this,e',List.length_append,List.length_singleton,List.length_cons]
  congr 2
  omega
theorem wz{m:Nat}(F:mh m){hs:Array Int}(hl:hs.size<=m):∃ow,SetTable.layClean m hs=some ow/\pS m hs.toList ow:=by
 obtain⟨ow,e,L⟩:=oh F hs.toList [] _ (pS.nil m) (by simpa using hl)
 refine⟨ow,?_,L⟩
 unfold SetTable.layClean
 rw[<-Array.foldl_toList]
 rw[List.length_nil]at e
 rw[e]
 rfl
def eB(m:Nat)(ow:Array (Option Nat)):List (Nat×Nat):=(List.range (m+1)).filterMap fun j=>(ow.getD j none).map (j,·)
theorem dX{m:Nat}{ow:Array (Option Nat)}{j:Nat}{q:Nat×Nat}:(ow.getD j none).map (j,·)=some q↔q.1=j/\ow[j]?=some (some q.2):=by
 have e:ow.getD j none=(ow[j]?).getD none:=by rw[Array.getD_eq_getD_getElem?]
 rw[e]
 obtain⟨a,b⟩:=q
 cases h:ow[j]? with
 |none=>simp
 |some x=>
  cases x with
  |none=>simp
  |some y=>
   simp only[Option.getD_some,Option.map_some,Option.some.injEq,Prod.mk.injEq]
   exact⟨fun⟨h1,h2⟩=>⟨h1.symm,h2⟩,fun⟨h1,h2⟩=>⟨h1.symm,h2⟩⟩
theorem fg{m:Nat}{ow:Array (Option Nat)}{q:Nat×Nat}(hz:ow.size=m+1):q∈eB m ow↔ow[q.1]?=some (some q.2):=by
 unfold eB
 rw[List.mem_filterMap]
 constructor
 ·rintro⟨j,hj,e⟩
  obtain⟨rfl,e2⟩:=(dX (m:=m)).mp e
  exact e2
 ·intro h
  refine⟨q.1,List.mem_range.mpr ?_,(dX (m:=m)).mpr ⟨rfl,h⟩⟩
  have:=(Array.getElem?_eq_some_iff.mp h).1
  omega
theorem vP{m:Nat}{ow:Array (Option Nat)}:Rs ((eB m ow).map (·.1)):=by
 unfold eB Rs
 refine List.pairwise_map.mpr (List.pairwise_filterMap.mpr (List.Pairwise.imp (fun{a b} hab q hq q' hq'=>?_) List.pairwise_lt_range))
 rw[((dX (m:=m)).mp hq).1,((dX (m:=m)).mp hq').1]
 exact hab
theorem pC{m:Nat}{hs:List Int}{ow:Array (Option Nat)}(L:pS m hs ow):((eB m ow).map (·.2)).Perm (List.range hs.length):=by
 have nd:((eB m ow).map (·.2)).Nodup:=by
  unfold eB
  refine List.pairwise_map.mpr (List.pairwise_filterMap.mpr (List.Pairwise.imp (fun{a b} hab q hq q' hq' e=>?_) List.pairwise_lt_range))
  obtain⟨e1,g1⟩:=(dX (m:=m)).mp hq
  obtain⟨e2,g2⟩:=(dX (m:=m)).mp hq'
  rw[e]at g1
  have:=L.inj _ _ _ g1 g2
  omega
 refine(List.perm_ext_iff_of_nodup nd List.nodup_range).mpr fun i=>?_
 rw[List.mem_map,List.mem_range]
 constructor
 ·rintro⟨q,hq,rfl⟩
  exact(L.ix _ _ ((fg L.sz).mp hq)).1
 ·intro h
  obtain⟨j,hj⟩:=L.al i h
  exact⟨(j,i),(fg L.sz).mpr hj,rfl⟩
theorem wm{α:Type}(es:List α):(List.range es.length).filterMap (fun i=>es[i]?)=es:=by
 refine List.ext_getElem? fun i=>?_
 have:∀(n:Nat),n<=es.length->(List.range n).filterMap (fun i=>es[i]?)=es.take n:=fun n=>by
  induction n with
  |zero=>intro _;simp
  |succ n ih=>
   intro h
   rw[List.range_succ,List.filterMap_append,ih (by omega),List.take_succ,List.filterMap_cons,List.getElem?_eq_getElem (by omega)]
   simp
 rw[this _ (Nat.le_refl _),List.take_length]
theorem xO{α:Type}{es:List α}:∀{is:List Nat},(∀i∈is,i<es.length)->∀k:Nat,(is.filterMap fun i=>es[i]?)[k]?=(is[k]?).bind fun i=>es[i]?
 |[],_,k=>by simp
 |i::is,h,k=>by
  rw[List.filterMap_cons,List.getElem?_eq_getElem (h i List.mem_cons_self)]
  dsimp only
  cases k with
  |zero=>simp[List.getElem?_eq_getElem (h i List.mem_cons_self)]
  |succ k=>
   rw[List.getElem?_cons_succ,List.getElem?_cons_succ]
   exact xO (fun j hj=>h j (List.mem_cons_of_mem _ hj)) k
theorem Tab.relay{t:SetTable}{es:Array (Int×Value)}{m wanted:Nat}(hm:SetTable.sizeAbove wanted-1=m)(F:mh m)(hl:es.size<=m) :
  ∃t' order,t.relaid (es.map (·.1)) wanted=some (t',order)/\t'.mask=m/\t'.led=t.led/\t'.plain=t.plain/\(order.filterMap (es[·]?)).toList.Perm es.toList/\Tab t' (order.filterMap (es[·]?)).toList:=by
 obtain⟨ow,e,L⟩:=wz F (hs:=es.map (·.1)) (by rw[Array.size_map];exact hl)
 have lh:((es.map (·.1)).toList).length=es.toList.length:=by simp
 have P:=pC L
 rw[lh]at P
 have ol:((((eB m ow).map (·.2)).toArray).filterMap (es[·]?)).toList=((eB m ow).map (·.2)).filterMap fun i=>es.toList[i]?:=by
  rw[Array.toList_filterMap]
  congr 1
  funext i
  rw[Array.getElem?_toList]
 have hP:((((eB m ow).map (·.2)).toArray).filterMap (es[·]?)).toList.Perm es.toList:=by
  rw[ol]
  have:=P.filterMap fun i=>es.toList[i]?
  rw[wm]at this
  exact this
 refine⟨{ mask:=m,place:=((eB m ow).map (·.1)).toArray,dummies:=#[],finger:=t.finger,led:=t.led,moves:=t.movedTo m,plain:=t.plain },((eB m ow).map (·.2)).toArray,?_,rfl,rfl,rfl,hP,rfl,vP,F,?_,fun i j e' gi ge=>?_⟩
 ·unfold SetTable.relaid SetTable.laid
  rw[hm,e]
  rfl
 ·rw[hP.length_eq]
  show(((eB m ow).map (·.1)).toArray).size=_
  rw[List.size_toArray,List.length_map]
  have:=P.length_eq
  rw[List.length_map,List.length_range]at this
  exact this
 ·change (((eB m ow).map (·.1)).toArray)[i]?=some j at gi
  show Rch m (·∈((eB m ow).map (·.1))) e'.1 j
  rw[List.getElem?_toArray,List.getElem?_map]at gi
  obtain⟨q,hq,rfl⟩:=Option.map_eq_some_iff.mp gi
  rw[ol,xO (fun k hk=>List.mem_range.mp (P.mem_iff.mp hk)),List.getElem?_map,hq]at ge
  have ge:es.toList[q.2]?=some e':=ge
  have own:=(fg L.sz).mp (List.mem_of_getElem? hq)
  obtain⟨_,r⟩:=L.ix _ _ own
  have eh:((es.map (·.1)).toList).getD q.2 0=e'.1:=by
   rw[List.getD_eq_getElem?_getD,Array.toList_map,List.getElem?_map,ge]
   rfl
  rw[eh]at r
  exact r.mono fun x ⟨y,hy⟩=>List.mem_map.mpr ⟨(x,y),(fg L.sz).mpr hy,rfl⟩
def Lv(m n:Nat):Prop:=(m=7/\n<5)\/(m=31/\n<19)\/(m=127/\n<77)\/(m=511/\n<307)\/(m=2047/\n<1229)
theorem Lv.full{m n:Nat}(h:Lv m n):mh m:=by
 rcases h with⟨rfl,_⟩|⟨rfl,_⟩|⟨rfl,_⟩|⟨rfl,_⟩|⟨rfl,_⟩
 ·exact Dh
 ·exact Di
 ·exact z9
 ·exact z0
 ·exact wj
theorem Lv.odd{m n:Nat}(h:Lv m n):(m % 2 == 0)=false:=by
 rcases h with⟨rfl,_⟩|⟨rfl,_⟩|⟨rfl,_⟩|⟨rfl,_⟩|⟨rfl,_⟩<;>rfl
theorem Lv.le{m n:Nat}(h:Lv m n):n+1<=m/\m<=2047:=by unfold Lv at h;omega
theorem Lv.next{m n:Nat}(h:Lv m n)(hn:n<1228):(¬(n+1)*5≥m*3/\Lv m (n+1))\/((n+1)*5≥m*3/\∃m',SetTable.sizeAbove (SetTable.grown (n+1))-1=m'/\Lv m' (n+1)/\SetTable.sizeAbove (SetTable.grown (n+1))<=2048):=by
 have s20:SetTable.sizeAbove (SetTable.grown 5)=32:=by decide +kernel
 have s76:SetTable.sizeAbove (SetTable.grown 19)=128:=by decide +kernel
 have s308:SetTable.sizeAbove (SetTable.grown 77)=512:=by decide +kernel
 have s1228:SetTable.sizeAbove (SetTable.grown 307)=2048:=by decide +kernel
 unfold Lv at h ⊢
 by_cases c:(n+1)*5≥m*3
 ·refine .inr ⟨c,?_⟩
  rcases h with⟨rfl,h⟩|⟨rfl,h⟩|⟨rfl,h⟩|⟨rfl,h⟩|⟨rfl,h⟩
  ·obtain rfl:n=4:=by omega
   exact⟨31,by rw[s20],by omega,by rw[s20];omega⟩
  ·obtain rfl:n=18:=by omega
   exact⟨127,by rw[s76],by omega,by rw[s76];omega⟩
  ·obtain rfl:n=76:=by omega
   exact⟨511,by rw[s308],by omega,by rw[s308];omega⟩
  ·obtain rfl:n=306:=by omega
   exact⟨2047,by rw[s1228],by omega,by rw[s1228];omega⟩
  ·omega
 ·exact .inl ⟨c,by omega⟩
def kP(p:Int×Int):List Key:=[.inl p.1,.inl p.2]
theorem C0{p q:Int×Int}(h:kP p=kP q):p=q:=by
 injection h with h1 h2
 injection h2 with h3 _
 injection h1 with h1
 injection h3 with h3
 exact Prod.ext h1 h3
def hP(prog:Program)(w:World)(p:Int×Int):Int:=tupleKeyHash (ba prog w) (kP p)
theorem eZ{prog:Program}{w:World}{h:Heap}{v:Value}{p:Int×Int}(k:aR h v p):∃b,v=.ref b/\IsTupleKey (ba prog w) h (kP p) b:=by
 obtain⟨b,o,t1,t2,e,rfl,g,c,d⟩:=k
 exact⟨b,rfl,o,_,e,g,c,d,.cons (by simp[ba,lD,Value.isInt]) (.cons (by simp[ba,lD,Value.isInt]) .nil)⟩
def Els(prog:Program)(w:World)(h:Heap):List (Int×Value)->List (Int×Int)->Prop
 |[],[]=>True
 |e::es,p::ps=>(e.1=hP prog w p/\aR h e.2 p)/\Els prog w h es ps
 |_,_=>False
section
variable{prog:Program}{w:World}{h h':Heap}
theorem Els.len:∀{es:List (Int×Value)} {ps:List (Int×Int)},Els prog w h es ps->es.length=ps.length
 |[],[],_=>rfl
 |_::_,_::_,k=>by rw[List.length_cons,List.length_cons,k.2.len]
 |[],_::_,k=>k.elim
 |_::_,[],k=>k.elim
theorem Els.at_:∀{es:List (Int×Value)} {ps:List (Int×Int)} {i:Nat} {e:Int×Value},Els prog w h es ps->es[i]?=some e->∃p,ps[i]?=some p/\e.1=hP prog w p/\aR h e.2 p
 |_::_,p::_,0,_,k,g=>by simp at g;subst g;exact⟨p,rfl,k.1⟩
 |_::_,_::_,i+1,e,k,g=>by simpa using k.2.at_ (i:=i) (by simpa using g)
 |[],[],_,_,_,g=>by simp at g
 |[],_::_,_,_,k,_=>k.elim
 |_::_,[],_,_,k,_=>k.elim
theorem Els.app:∀{es fs:List (Int×Value)} {ps qs:List (Int×Int)},Els prog w h es ps->Els prog w h fs qs->Els prog w h (es++fs) (ps++qs)
 |[],_,[],_,_,k2=>k2
 |_::_,_,_::_,_,k,k2=>⟨k.1,k.2.app k2⟩
 |[],_,_::_,_,k,_=>k.elim
 |_::_,_,[],_,k,_=>k.elim
theorem Els.perm{es es':List (Int×Value)}(P:es'.Perm es):∀{ps:List (Int×Int)},Els prog w h es ps->∃ps',ps'.Perm ps/\Els prog w h es' ps':=by
 induction P with
 |nil=>exact fun{ps} k=>⟨ps,.refl _,k⟩
 |cons x _ ih=>
  intro ps k
  cases ps with
  |nil=>exact k.elim
  |cons p ps=>
   obtain⟨qs,h1,h2⟩:=ih k.2
   exact⟨p::qs,h1.cons p,k.1,h2⟩
 |swap x y l=>
  intro ps k
  match ps,k with
  |[],k=>exact k.elim
  |[p],k=>exact k.2.elim
  |p::q::ps,k=>exact⟨q::p::ps,.swap _ _ _,k.2.1,k.1,k.2.2⟩
 |trans _ _ ih1 ih2=>
  intro ps k
  obtain⟨qs,h1,h2⟩:=ih2 k
  obtain⟨rs,h3,h4⟩:=ih1 h2
  exact⟨rs,h3.trans h1,h4⟩
theorem Els.mono{a:Addr}(m:∀b o,b≠a->h.get? b=some o->h'.get? b=some o):∀{es:List (Int×Value)} {ps:List (Int×Int)},Els prog w h es ps->(∀e∈es,e.2≠.ref a)->Els prog w h' es ps
 |[],[],_,_=>trivial
 |e::es,p::ps,k,na=>by
  obtain⟨k1,b,o,t1,t2,n,e1,g,c,d⟩:=k.1
  refine⟨⟨k1,b,o,t1,t2,n,e1,m b o (fun z=>na e List.mem_cons_self (by rw[e1,z])) g,c,d⟩,k.2.mono m fun x hx=>na x (List.mem_cons_of_mem _ hx)⟩
 |[],_::_,k,_=>k.elim
 |_::_,[],k,_=>k.elim
theorem Els.keep:∀{es:List (Int×Value)} {ps:List (Int×Int)},Els prog w h es ps->(∀b o,(∃e∈es,e.2=.ref b)->h.get? b=some o->h'.get? b=some o)->Els prog w h' es ps
 |[],[],_,_=>trivial
 |e::es,p::ps,k,m=>by
  obtain⟨k1,b,o,t1,t2,n,e1,g,c,d⟩:=k.1
  exact⟨⟨k1,b,o,t1,t2,n,e1,m b o ⟨e,List.mem_cons_self,e1⟩ g,c,d⟩,k.2.keep fun b o ⟨x,hx,ex⟩=>m b o ⟨x,List.mem_cons_of_mem _ hx,ex⟩⟩
 |[],_::_,k,_=>k.elim
 |_::_,[],k,_=>k.elim
end
structure eG(prog:Program)(w:World)(h:Heap)(a:Addr)(es:Array (Int×Value))(ep:Nat)(t:SetTable)(ps:List (Int×Int)):Prop where
 ob:∃o,h.get? a=some o/\o.ExactSet/\o.data=.set es ep t
 tab:Tab t es.toList
 el:Els prog w h es.toList ps
 nd:ps.Nodup
 pl:t.plain=true
 ld:t.led=!w.params.followText "set-order"
 lv:Lv t.mask es.size
theorem nQ{t:SetTable}{h:Int}(hs:Rs t.place.toList)(hd:t.dummies=#[]){ha:Nat->Int}{N k:Nat}(hN:(pth t.mask h N).j∉t.place.toList)(hl:∀k,k<N->(pth t.mask h k).j∈t.place.toList)(hk:k<=N)(hn:N<10*(t.mask+15)){p:SetTable.Probe}(hp:p=pth t.mask h k){r:Option SetTable.Met}(e:t.probe ha h p=r) :
  (∃k1 i,k<=k1/\k1<N/\(∀k',k<=k'->k'<k1->∀i,t.place[i]?=some (pth t.mask h k').j->ha i≠h)/\t.place[i]?=some (pth t.mask h k1).j/\ha i=h/\r=some (.candidate (pth t.mask h k1).j i (pth t.mask h (k1+1))))\/
  ((∀k',k<=k'->k'<N->∀i,t.place[i]?=some (pth t.mask h k').j->ha i≠h)/\r=some (.empty (pth t.mask h N).j none)):=by
 subst hp
 rw[<-e]
 exact nO hs hd hN _ k hk (by unfold SetTable.turns;omega) fun k' _ b=>hl k' b
section
variable{prog:Program}{w:World}{A:Around}{E:Value->Shared->Prop}{s:Shared}
theorem eG.fits{a:Addr}{es:Array (Int×Value)}{ep:Nat}{t:SetTable}{ps:List (Int×Int)}(S:eG prog w s.heap a es ep t ps):t.fits es.size=true:=by
 have h1:=S.lv.le
 have h2:=S.tab.sz
 have h3:=S.tab.dm
 unfold SetTable.fits SetTable.fill
 rw[h3]
 simp only[Array.length_toList]at h2
 simp[h2]
 omega
theorem sT{x:Addr}{p:Int×Int}(hx:aR s.heap (.ref x) p){Q:Bool->Shared->Prop}(q:Q false s):wpAny (model prog w) A (ofAClassStatement 8 (.ref x)) Q E s:=by
 obtain⟨b,o,t1,t2,e,e0,g,c,d⟩:=hx
 cases e0
 unfold ofAClassStatement
 refine wpAny_bind (wpAny_typeOf (T:="tuple") ⟨o,g,c⟩ ?_)
 dsimp only
 rw[if_pos (beq_self_eq_true _)]
 refine wpAny_bind (wpAny_pure ?_)
 simp only[Bool.not_true,Bool.false_eq_true,if_false]
 refine wpAny_bind (wpAny_seqItems g d ?_)
 dsimp only
 refine wpAny_bind ?_
 rw[<-Array.forIn_toList]
 refine wpAny_forIn_list _ (fun rest r s'=>r.1=none/\s'=s/\∀v∈rest,∃i t,v=Value.int i t) _ (fun v rest r s' hz=>?_) (fun r s' hz=>?_) _ _ ⟨rfl,rfl,fun v hv=>?_⟩
 ·obtain⟨_,rfl,hv⟩:=hz
  obtain⟨i,t,rfl⟩:=hv v List.mem_cons_self
  have e:ofAClassStatement 7 (Value.int i t)=pure false:=by unfold ofAClassStatement;rfl
  rw[e]
  exact wpAny_bind (wpAny_pure (wpAny_pure ⟨rfl,rfl,fun y hy=>hv y (List.mem_cons_of_mem _ hy)⟩))
 ·obtain⟨e,rfl,_⟩:=hz
  try dsimp only
  rw[e]
  exact wpAny_pure q
 ·simp at hv
  rcases hv with rfl|rfl
  ·exact⟨_,_,rfl⟩
  ·exact⟨_,_,rfl⟩
theorem sS{x:Addr}{p:Int×Int}(hx:aR s.heap (.ref x) p){ys:List Value}(hy:∀y∈ys,∃q,aR s.heap y q){Q:Bool->Shared->Prop}(q:Q false s):wpAny (model prog w) A (searchCouldBeSeen (.ref x) ys) Q E s:=by
 unfold searchCouldBeSeen
 refine wpAny_bind ?_
 refine wpAny_forIn_list _ (fun rest r s'=>r.1=none/\s'=s/\∀v∈rest,∃q,aR s.heap v q) _ (fun v rest r s' hz=>?_) (fun r s' hz=>?_) _ _ ⟨rfl,rfl,hy⟩
 ·obtain⟨_,rfl,hv⟩:=hz
  obtain⟨p',k⟩:=hv v List.mem_cons_self
  obtain⟨b,rfl,kk⟩:=eZ (prog:=prog) (w:=w) k
  obtain⟨x',ex,kx⟩:=eZ (prog:=prog) (w:=w) hx
  cases ex
  have nx:∀y∈rest,∃q,aR s'.heap y q:=fun y hy=>hv y (List.mem_cons_of_mem _ hy)
  dsimp only
  refine wpAny_ite_split (fun _=>wpAny_pure ⟨rfl,rfl,nx⟩) fun _=>?_
  refine wpAny_bind (wpAny_eqIsQuiet_tuple kx ?_)
  simp only[Bool.not_true,Bool.false_eq_true,if_false]
  refine wpAny_bind (wpAny_eqIsQuiet_tuple kk ?_)
  simp only[Bool.not_true,Bool.false_eq_true,if_false]
  refine wpAny_bind (sT hx ?_)
  simp only[Bool.false_eq_true,if_false]
  refine wpAny_bind (sT k ?_)
  simp only[Bool.false_eq_true,if_false]
  exact wpAny_pure ⟨rfl,rfl,nx⟩
 ·obtain⟨e,rfl,_⟩:=hz
  dsimp only
  rw[e]
  exact wpAny_pure q
theorem gF{a x:Addr}{es:Array (Int×Value)}{ep:Nat}{t:SetTable}{ps:List (Int×Int)}{p:Int×Int}(S:eG prog w s.heap a es ep t ps)(hu:A.units<cLine)(hx:aR s.heap (.ref x) p){N:Nat}(h1:(pth t.mask (hP prog w p) N).j∉t.place.toList)(h2:∀k,k<N->(pth t.mask (hP prog w p) k).j∈t.place.toList)(hN:N<10*(t.mask+15)){Q:SetFound->Shared->Prop}
  (q1:p∈ps->Q (.there none) s) (q2:p∉ps->Q (.free (pth t.mask (hP prog w p) N).j false) s) :
  ∀(f k:Nat) (stand:Option SetTable.Probe),k<=N->N-k<f->stand.getD (t.probeStart (hP prog w p))=pth t.mask (hP prog w p) k->(∀k',k'<k->∀i:Nat,t.place[i]?=some (pth t.mask (hP prog w p) k').j->ps[i]?≠some p)->wpAny (model prog w) A (setSearchFrom a (.ref x) (hP prog w p) true f stand) Q E s
 |0,k,stand,hk,hf,_,_=>by omega
 |f+1,k,stand,hk,hf,hst,no=>by
  obtain⟨o,ho,hex,hd⟩:=S.ob
  unfold setSearchFrom
  refine wpAny_bind (wpAny_setState_of ho hd S.fits ?_)
  dsimp only
  have hg:t.gaveWay=false:=S.lv.odd
  rw[hg]
  simp only[Bool.false_eq_true,if_false]
  have ls:=S.el.len
  have sz:=S.tab.sz
  split
  ·rename_i met heq
   rcases nQ S.tab.rs S.tab.dm h1 h2 hk hN hst heq with⟨k1,i,b1,b2,b3,b4,b5,er⟩|⟨b3,er⟩
   ·injection er with er
    subst er
    have hi:i<es.size:=by
     have:=(Array.getElem?_eq_some_iff.mp b4).1
     simp only[Array.length_toList]at sz
     omega
    obtain⟨⟨hy,y⟩,ei⟩:∃z,es[i]?=some z:=⟨es[i],Array.getElem?_eq_getElem hi⟩
    have eh:hy=hP prog w p:=by
     have b5:(es[i]?.map (·.1)).getD 0=hP prog w p:=b5
     rw[ei]at b5
     exact b5
    obtain⟨p',g1,g2,g3⟩:=S.el.at_ (by rw[Array.getElem?_toList];exact ei)
    obtain⟨b,rfl,ky⟩:=eZ (prog:=prog) (w:=w) g3
    obtain⟨x',ex,kx⟩:=eZ (prog:=prog) (w:=w) hx
    cases ex
    dsimp only
    have no2:p'≠p->∀k',k'<k1+1->∀i:Nat,t.place[i]?=some (pth t.mask (hP prog w p) k').j->ps[i]?≠some p:=fun ne k' hk' i' hi' hp'=>by
     rcases Nat.lt_or_ge k' k with c|c
     ·exact no k' c i' hi' hp'
     ·rcases Nat.lt_or_ge k' k1 with c1|c1
      ·refine b3 k' c c1 i' hi' ?_
       have hi2:i'<es.size:=by
        have:=(List.getElem?_eq_some_iff.mp hp').1
        simp only[Array.length_toList]at ls
        omega
       obtain⟨q,hq1,hq2,_⟩:=S.el.at_ (i:=i') (by rw[Array.getElem?_toList];exact Array.getElem?_eq_getElem hi2)
       rw[hp']at hq1
       cases hq1
       show(es[i']?.map (·.1)).getD 0=_
       rw[Array.getElem?_eq_getElem hi2]
       exact hq2
      ·rw[show k'=k1 by omega]at hi'
       rw[S.tab.rs.at1 hi' b4,g1]at hp'
       injection hp' with hp'
       exact ne hp'
    have hsm:t.sameMemory t.moves t.mask=some true:=by unfold SetTable.sameMemory;rw[if_pos (beq_self_eq_true _)]
    have hsl:t.slot (pth t.mask (hP prog w p) k1).j=.live i:=by
     rcases qx S.tab.rs S.tab.dm (pth t.mask (hP prog w p) k1).j with⟨c1,_⟩|⟨i',c1,c2⟩
     ·exact absurd (List.mem_of_getElem? (by rw[Array.getElem?_toList];exact b4)) c1
     ·rw[c2,S.tab.rs.at1 c1 b4]
    refine wpAny_ite_split (fun _=>wpAny_bind (sS hx (fun y hy=>?_) ?_)) fun _=>?_
    ·obtain⟨e,he,rfl⟩:=List.mem_map.mp hy
     have he':e∈es.toList:=by simp at he;simpa using he.1
     obtain⟨i',hi'⟩:=List.getElem?_of_mem he'
     obtain⟨q,_,_,hq⟩:=S.el.at_ hi'
     exact⟨q,hq⟩
    all_goals
     (try simp only[Bool.false_eq_true,if_false])
     rw[ei]
     dsimp only
     refine wpAny_bind (wpAny_holding (wpAny_eqBool_tuple hu ky kx ?_))
     refine wpAny_bind (wpAny_setState_of ho hd S.fits ?_)
     dsimp only
     by_cases c:p'=p
     ·subst c
      rw[if_pos (by simp)]
      exact wpAny_pure (q1 (List.mem_of_getElem? g1))
     ·have dc:decide (kP p'=kP p)=false:=decide_eq_false fun z=>c (C0 z)
      rw[dc,hsm]
      simp only[Bool.and_false,Bool.false_eq_true,if_false,if_true]
      rw[hsl]
      dsimp only
      rw[ei]
      dsimp only
      refine wpAny_bind (wpAny_isSame_ref_self ?_)
      refine wpAny_bind (wpAny_pure ?_)
      simp only[if_true]
      exact gF S hu hx h1 h2 hN q1 q2 f (k1+1) _ (by omega) (by omega) rfl (no2 c)
   ·injection er with er
    subst er
    dsimp only
    refine wpAny_pure (q2 fun hm=>?_)
    obtain⟨i0,hi0⟩:=List.getElem?_of_mem hm
    have li:=(List.getElem?_eq_some_iff.mp hi0).1
    simp only[Array.length_toList]at ls sz
    have hie:i0<es.size:=by omega
    have hip:i0<t.place.size:=by omega
    obtain⟨q,hq1,hq2,_⟩:=S.el.at_ (i:=i0) (by rw[Array.getElem?_toList];exact Array.getElem?_eq_getElem hie)
    rw[hi0]at hq1
    cases hq1
    obtain⟨k0,r1,r2⟩:=S.tab.rc i0 _ _ (Array.getElem?_eq_getElem hip) (by rw[Array.getElem?_toList];exact Array.getElem?_eq_getElem hie)
    rw[hq2]at r1 r2
    have k0N:k0<N:=by
     rcases Nat.lt_trichotomy k0 N with c|c|c
     ·exact c
     ·exact absurd (by rw[<-c,r1];simp) h1
     ·exact absurd (r2 N c) h1
    have gp:t.place[i0]?=some (pth t.mask (hP prog w p) k0).j:=by rw[r1];exact Array.getElem?_eq_getElem hip
    rcases Nat.lt_or_ge k0 k with c|c
    ·exact no k0 c i0 gp hi0
    ·refine b3 k0 c k0N i0 gp ?_
     show(es[i0]?.map (·.1)).getD 0=_
     rw[Array.getElem?_eq_getElem hie]
     exact hq2
  ·rename_i heq
   rcases nQ S.tab.rs S.tab.dm h1 h2 hk hN hst rfl with⟨k1,i,b1,b2,b3,b4,b5,er⟩|⟨b3,er⟩
   ·exact absurd er (heq _)
   ·exact absurd er (heq _)
end
section
variable{prog:Program}{w:World}{A:Around}{E:Value->Shared->Prop}{s:Shared}
theorem we{x:Addr}{p:Int×Int}(hx:aR s.heap (.ref x) p){Q:Bool->Shared->Prop}(q:Q true s):wpAny (model prog w) A (hashByValue 8 (.ref x)) Q E s:=by
 obtain⟨b,o,t1,t2,e,e0,g,c,d⟩:=hx
 cases e0
 unfold hashByValue
 refine wpAny_bind (wpAny_specialOf (T:="tuple") ⟨o,g,c⟩ PySem.F.slot_tuple_hash.lookup ?_)
 dsimp only
 refine wpAny_bind (wpAny_seqItems g d ?_)
 simp only[Option.getD_some]
 refine wpAny_bind ?_
 rw[<-Array.forIn_toList]
 refine wpAny_forIn_list _ (fun rest r s'=>r.1=none/\s'=s/\∀v∈rest,∃i t,v=Value.int i t) _ (fun v rest r s' hz=>?_) (fun r s' hz=>?_) _ _ ⟨rfl,rfl,fun v hv=>?_⟩
 ·obtain⟨_,rfl,hv⟩:=hz
  obtain⟨i,t,rfl⟩:=hv v List.mem_cons_self
  have e:hashByValue 7 (Value.int i t)=pure true:=by unfold hashByValue;rfl
  rw[e]
  exact wpAny_bind (wpAny_pure (wpAny_pure ⟨rfl,rfl,fun y hy=>hv y (List.mem_cons_of_mem _ hy)⟩))
 ·obtain⟨e,rfl,_⟩:=hz
  try dsimp only
  rw[e]
  exact wpAny_pure q
 ·simp at hv
  rcases hv with rfl|rfl
  ·exact⟨_,_,rfl⟩
  ·exact⟨_,_,rfl⟩
theorem sH{h:Heap}{a:Addr}{o:Obj}(g:h.get? a=some o)(c:o.cls=.type "set"):∀{es:List (Int×Value)} {ps:List (Int×Int)},Els prog w h es ps->∀e∈es,e.2≠.ref a
 |[],[],_,e,he=>by cases he
 |e0::es,p::ps,k,e,he=>by
  rcases List.mem_cons.mp he with rfl|he
  ·obtain⟨_,b,o',t1,t2,n,e1,g',c',d'⟩:=k.1
   rw[e1]
   intro z
   injection z with z
   subst z
   rw[g]at g'
   cases g'
   rw[c]at c'
   exact absurd c' (by decide)
  ·exact sH g c k.2 e he
 |[],_::_,k,_,_=>k.elim
 |_::_,[],k,_,_=>k.elim
theorem nC{h:Heap}{a:Addr}{o:Obj}{es es':Array (Int×Value)}{ep:Nat}{t t':SetTable}{ps:List (Int×Int)}(ho:h.get? a=some o)(hex:o.ExactSet)(hd:o.data=.set es ep t)(T:Tab t' es'.toList)(el:Els prog w h es'.toList ps)(nd:ps.Nodup)(pl:t'.plain=true)(ld:t'.led=!w.params.followText "set-order")(lv:Lv t'.mask es'.size) :
  eG prog w (h.update a (Obj.putSet es' t')) a es' (ep+1) t' ps/\∀b o,b≠a->h.get? b=some o->(h.update a (Obj.putSet es' t')).get? b=some o:=by
 have keep:∀b o,b≠a->h.get? b=some o->(h.update a (Obj.putSet es' t')).get? b=some o:=fun b o hb g=>by
  rw[(Heap.SameBut.update h a (Obj.putSet es' t')).2 b hb];exact g
 have g:=Heap.get?_update_self (Obj.putSet es' t') ho (by rw[putSet_of es' t' hd];rfl)
 rw[putSet_of es' t' hd]at g
 exact⟨⟨⟨_,g,⟨hex.1,hex.2.1,hex.2.2⟩,rfl⟩,T,el.mono keep (sH ho hex.1 el),nd,pl,ld,lv⟩,keep⟩
theorem uQ{a:Addr}{es:Array (Int×Value)}{ep:Nat}{t:SetTable}{ps:List (Int×Int)}{m wanted:Nat}{o:Obj}(ho:s.heap.get? a=some o)(hex:o.ExactSet)(hd:o.data=.set es ep t)(hf:t.fits es.size=true)(el:Els prog w s.heap es.toList ps)(nd:ps.Nodup)(pl:t.plain=true)(ld:t.led=!w.params.followText "set-order")
  (hm:SetTable.sizeAbove wanted-1=m) (lv:Lv m es.size) (hs:SetTable.sizeAbove wanted<=2048) {Q:Unit->Shared->Prop}
  (q:∀h' es' ep' t' ps',(∀b o,b≠a->s.heap.get? b=some o->h'.get? b=some o)->eG prog w h' a es' ep' t' ps'->ps'.Perm ps->es'.toList.Perm es.toList->Q () { s with heap:=h' }):wpAny (model prog w) A (setRelay a wanted) Q E s:=by
 have hl:=lv.le
 obtain⟨t',order,e,m1,m2,m3,P,T⟩:=Tab.relay (t:=t) (es:=es) hm lv.full (by omega)
 have sz:(order.filterMap (es[·]?)).size=es.size:=by rw[<-Array.length_toList,P.length_eq,Array.length_toList]
 obtain⟨ps',pp,el'⟩:=el.perm P
 unfold setRelay
 refine wpAny_bind (wpAny_setState_of ho hd hf ?_)
 dsimp only
 rw[if_neg (by unfold sizeLine;omega),e]
 refine wpAny_bind ?_
 refine wpAny_ite_split (fun c=>absurd sz (by simpa using c)) fun _=>wpAny_pure ?_
 dsimp only
 obtain⟨S,keep⟩:=nC (prog:=prog) (w:=w) (t':=t') ho hex hd T el' (pp.nodup_iff.mpr nd) (by rw[m3];exact pl) (by rw[m2];exact ld) (by rw[m1,sz];exact lv)
 exact wpAny_storeSet_of ho hd (q _ _ _ _ _ keep S pp P) (by rw[sz];unfold sizeLine;omega)
theorem y9{a x:Addr}{es:Array (Int×Value)}{ep:Nat}{t:SetTable}{ps:List (Int×Int)}{p:Int×Int}(S:eG prog w s.heap a es ep t ps)(hu:A.units<cLine)(hx:aR s.heap (.ref x) p)(hn:es.size<1228){Q:Bool->Shared->Prop}
  (q:∀h' tk es' ep' t' ps' b,(∀b o,b≠a->s.heap.get? b=some o->h'.get? b=some o)->eG prog w h' a es' ep' t' ps'->(∀y,y∈ps'↔y∈ps\/y=p)->es'.size<=es.size+1->(∀e∈es'.toList,e∈es.toList\/e.2=.ref x)->s.toks<=tk->Q b { s with heap:=h',toks:=tk }) :
  wpAny (model prog w) A (setAdd a (.ref x)) Q E s:=by
 obtain⟨x',ex,kx⟩:=eZ (prog:=prog) (w:=w) hx
 cases ex
 obtain⟨o,ho,hex,hd⟩:=S.ob
 have hl:=S.lv.le
 have sz:=S.tab.sz
 have ls:=S.el.len
 simp only[Array.length_toList]at sz ls
 unfold setAdd
 refine wpAny_holding (wpAny_bind (wpAny_pyHash_tuple hu kx ?_))
 obtain⟨e0,he0,hne⟩:=gap (m:=t.mask) S.tab.rs.nd (by rw[Array.length_toList,sz];omega)
 obtain⟨N,n1,n2,n3⟩:=pF S.tab.fl (hP prog w p) (P:=(·∈t.place.toList)) he0 hne
 show wpAny _ _ (setAddHashed a (.ref x) (hP prog w p)) _ _ _
 unfold setAddHashed setAddHashedIn
 refine wpAny_holding (wpAny_bind (wpAny_setState_of ho hd S.fits ?_))
 dsimp only
 have bs:byScan (.ref x) es=false:=rfl
 rw[bs]
 simp only[Bool.false_eq_true,if_false]
 unfold setSearch
 refine wpAny_bind (gF (s:={ s with toks:=s.toks+((kP p).length+1) }) S hu hx n2 n3 n1 (fun hm=>?_) (fun hm=>?_) 100000 0 none (Nat.zero_le _) (by omega) rfl fun k' hk'=>by omega)
 ·dsimp only
  refine wpAny_pure (q s.heap _ es ep t ps _ (fun _ _ _ g=>g) S (fun y=>⟨.inl,fun h=>h.elim id fun e=>e▸hm⟩) (Nat.le_succ _) (fun e he=>.inl he) (Nat.le_add_right _ _))
 ·dsimp only
  refine wpAny_bind (wpAny_setState_of ho hd S.fits ?_)
  obtain⟨pp,e1,P,T⟩:=S.tab.put (h:=hP prog w p) (x:=.ref x) n2 n3
  have e1':t.put (pth t.mask (hP prog w p) N).j=_:=e1
  dsimp only
  rw[e1']
  dsimp only
  rw[if_pos S.pl]
  refine wpAny_bind (we (s:={ s with toks:=s.toks+((kP p).length+1) }) hx ?_)
  simp only[if_true]
  have sz1:(SetTable.insertAt es pp (hP prog w p,Value.ref x)).size=es.size+1:=by have:=P.length_eq;simpa using this
  obtain⟨ps1,pp1,el1⟩:=(S.el.app (fs:=[(hP prog w p,.ref x)]) (qs:=[p]) ⟨⟨rfl,hx⟩,trivial⟩).perm P
  have nd1:ps1.Nodup:=pp1.nodup_iff.mpr (by
   rw[List.nodup_append]
   exact⟨S.nd,by simp,fun y hy z hz e=>hm (by rw[List.mem_singleton.mp hz]at e;rw[<-e];exact hy)⟩)
  have mem1:∀y,y∈ps1↔y∈ps\/y=p:=fun y=>by rw[pp1.mem_iff,List.mem_append,List.mem_singleton]
  have from1:∀e∈(SetTable.insertAt es pp (hP prog w p,Value.ref x)).toList,e∈es.toList\/e.2=.ref x:=fun e he=>by
   rcases List.mem_append.mp (P.mem_iff.mp he)with h|h
   ·exact .inl h
   ·rw[List.mem_singleton.mp h];exact .inr rfl
  have keep1:∀b o,b≠a->s.heap.get? b=some o->(s.heap.update a (Obj.putSet (SetTable.insertAt es pp (hP prog w p,Value.ref x)) { t with place:=SetTable.insertAt t.place pp (pth t.mask (hP prog w p) N).j })).get? b=some o:=fun b o hb g=>by
   rw[(Heap.SameBut.update s.heap a _).2 b hb];exact g
  refine wpAny_bind (wpAny_storeSet_of (s:={ s with toks:=s.toks+((kP p).length+1) }) ho hd ?_ (by rw[sz1];unfold sizeLine;omega))
  have tsz:(SetTable.insertAt t.place pp (pth t.mask (hP prog w p) N).j).size=es.size+1:=by
   have:=T.sz
   change (SetTable.insertAt t.place pp (pth t.mask (hP prog w p) N).j).size=_ at this
   rw[this,Array.length_toList,sz1]
  have tf:({ t with place:=SetTable.insertAt t.place pp (pth t.mask (hP prog w p) N).j }:SetTable).tooFull=decide ((es.size+1)*5≥t.mask*3):=by
   unfold SetTable.tooFull SetTable.fill
   dsimp only
   rw[tsz,S.tab.dm]
   rfl
  rw[tf]
  rcases S.lv.next hn with⟨c1,lv⟩|⟨c1,m',hm',lv,hs⟩
  ·rw[decide_eq_false c1]
   simp only[Bool.not_false,Bool.and_false,Bool.false_eq_true,if_false]
   obtain⟨S',keep⟩:=nC (prog:=prog) (w:=w) ho hex hd T el1 nd1 S.pl S.ld (by rw[sz1];exact lv)
   exact wpAny_pure (q _ _ _ _ _ _ _ keep S' mem1 (by rw[sz1];exact Nat.le_refl _) from1 (Nat.le_add_right _ _))
  ·rw[decide_eq_true c1]
   simp only[Bool.not_false,Bool.and_true,if_true]
   have g:=Heap.get?_update_self (Obj.putSet (SetTable.insertAt es pp (hP prog w p,Value.ref x)) { t with place:=SetTable.insertAt t.place pp (pth t.mask (hP prog w p) N).j }) ho (by rw[putSet_of _ _ hd];rfl)
   rw[putSet_of _ _ hd]at g
   have el2:=el1.mono keep1 (sH ho hex.1 el1)
   refine wpAny_bind (uQ (prog:=prog) (w:=w) (s:={ s with heap:=s.heap.update a (Obj.putSet (SetTable.insertAt es pp (hP prog w p,Value.ref x)) { t with place:=SetTable.insertAt t.place pp (pth t.mask (hP prog w p) N).j }),toks:=s.toks+((kP p).length+1) }) g ⟨hex.1,hex.2.1,hex.2.2⟩ rfl ?_ el2 nd1 S.pl S.ld hm' (by rw[sz1];exact lv) hs fun h' es' ep' t' ps' keep2 S' pe es''=>?_)
   ·unfold SetTable.fits SetTable.fill
    dsimp only
    rw[tsz,S.tab.dm,sz1]
    simp
    omega
   ·exact wpAny_pure (q _ _ _ _ _ _ _ (fun b o hb g'=>keep2 b o hb (keep1 b o hb g')) S' (fun y=>by rw[pe.mem_iff];exact mem1 y) (by rw[<-Array.length_toList,es''.length_eq,Array.length_toList,sz1];exact Nat.le_refl _) (fun e he=>from1 e (es''.mem_iff.mp he)) (Nat.le_add_right _ _))
end
abbrev dJ(w:World):Obj:={ cls:=.type "set",dict:=none,data:=.set #[] 0 (.fresh 0 0 (!w.params.followText "set-order")) }
section
variable{prog:Program}{w:World}{A:Around}{E:Value->Shared->Prop}{s:Shared}
theorem y8(a:Value){Q1:Value->Shared->Prop}(q:Q1 (.ref s.heap.objs.size) { s with heap:=s.heap.push (dJ w) }) :
  codeAny (model prog w) A (.call (.builtin "set.__new__") ⟨[.type "set",a],[]⟩) (wants Q1 E) s:=by
 refine codeAny_of_tree ?_
 change wpAny _ A.in1 ((checkBuiltinCall "set.__new__" ⟨[.type "set",a],[]⟩) >>= fun _=>again (.builtin "set.__new__" ⟨[.type "set",a],[]⟩)) _ _ s
 rw[PySem.F.newCall_set_1 a]
 refine wpAny_bind (wpAny_pure (wpAny_pure ⟨plainId_quiet PySem.F.plain_set_new _,codeAny_builtin PySem.F.entry_set_new ?_⟩))
 rw[Around.under_plainId PySem.F.plain_set_new _]
 unfold Builtin.«set.__new__» Builtin.Frozenset.newClass
 have hs:=sub_set_self
 obtain⟨hp,g,d,tk,os⟩:=s
 dsimp only
 wp_walk
 refine wpAny_askSetting (wpAny_pure ?_)
 dsimp only
 unfold newObj
 exact wpAny_bind (wpAny_alloc (wpAny_pure (wpAny_pure q)))
theorem mU{l:Value}{Q:Value->Shared->Prop}
  (hi:wpAny (model prog w) A.in1.in1 (Builtin.«set.__init__» ⟨[.ref s.heap.objs.size,l],[]⟩)
   (fun fin s'=>match fin with
    |.done f=>wants (fun r s2=>r=.none/\Q (.ref s.heap.objs.size) s2) E (.ok f) s'
    |.again c'=>c'.quiet=true/\codeAny (model prog w) A.in1 c' (wants (fun r s2=>r=.none/\Q (.ref s.heap.objs.size) s2) E) s')
   (fun e s'=>wants (fun r s2=>r=.none/\Q (.ref s.heap.objs.size) s2) E (.error e) s') { s with heap:=s.heap.push (dJ w) }) :
  wpAny (model prog w) A (call (.type "set") [l]) Q E s:=by
 have f:=PySem.F.called_set
 obtain⟨c,tl,m0⟩:=f.mro
 have m1:=f.made
 have m2:=f.sub
 have m3:=f.notType
 have m4:=f.canCreate
 have m5:=PySem.F.typeCall_set_1 l
 refine wpAny_call (codeAny_of_tree (wpAny_pure ⟨Code.quiet_builtin _ (by decide +kernel),codeAny_builtin PySem.F.entry_type_call ?_⟩))
 rw[Around.under_plain (weight_type_call_type "set" [l] []) rfl]
 repeat (any_goals (first|assumption|wp_step))
 refine codeAny_mono (y8 l (E:=E) (Q1:=fun v s1=>v=.ref s.heap.objs.size/\s1={ s with heap:=s.heap.push (dJ w) }) ⟨rfl,rfl⟩) fun r s1 hr=>?_
 rcases r with e|fl
 ·exact hr
 ·cases fl with
  |ret v=>
   obtain⟨rfl,rfl⟩:=hr
   have hT:Shared.TypeIs { s with heap:=s.heap.push (dJ w) } (.ref s.heap.objs.size) "set":=⟨_,Heap.get?_push_size _ rfl,rfl⟩
   have m6:=f.init.lookup
   have m7:=f.init.bind (.ref s.heap.objs.size)
   repeat (any_goals (first|assumption|wp_step))
   refine codeAny_mono (codeAny_call_builtin f.init.plain PySem.F.entry_set_init (check_set_init_1 hT hi)) fun r2 s2 hr2=>?_
   rcases r2 with e|fl2
   ·exact hr2
   ·cases fl2 with
    |ret r=>
     obtain⟨rfl,hq⟩:=hr2
     repeat (any_goals (first|assumption|wp_step))
    |_=>exact hr2.elim
  |_=>exact hr.elim
theorem uG{R:Result->Shared->Prop}{I Sa:Addr}{fp wr:List Addr}{G:Array GenState->Array GenState->Prop}{n:Nat}{P:Nat->Value->Prop}{St:Nat->Shared->Prop}(W:WalksS prog w A.in1 I fp wr G n P St)(hSf:Sa∉fp)(hu:A.in1.units<cLine){h0:Heap}(hwr:∀b∈wr,h0.objs.size<=b)(hSa:h0.objs.size<=Sa)
  (val:Nat->Int×Int) (hval:∀i v,P i v->aR h0 v (val i)) (hb:n<=1200) :
  ∀(k i:Nat) (s:Shared),n-i=k->i<=n->St i s->(∀b o,h0.get? b=some o->s.heap.get? b=some o)->
   (∃es ep t ps,eG prog w s.heap Sa es ep t ps/\(∀e∈es.toList,∃j,P j e.2)/\es.size<=i/\∀y,y∈ps↔∃j,j<i/\val j=y)->
   (∀s',Moved (Sa::wr) G s s'->(∃es ep t ps,eG prog w s'.heap Sa es ep t ps/\(∀e∈es.toList,∃j,P j e.2)/\es.size<=n/\∀y,y∈ps↔∃j,j<n/\val j=y)->R (.ok (.ret .none)) s')->
   codeAny (model prog w) A (.builtin "set.update.loop" ⟨[.ref Sa,.ref I],[]⟩) R s:=by
 have sub:∀b∈wr,b∈Sa::wr:=fun b hb=>List.mem_cons_of_mem _ hb
 have hSw:Sa∉wr:=fun h=>hSf (W.sub _ h)
 have moveS:∀{s s':Shared} {es ep t ps},Moved wr G s s'->(∀e∈es.toList,∃j,P j e.2)->eG prog w s.heap Sa es ep t ps->eG prog w s'.heap Sa es ep t ps:=fun{s s' es ep t ps} hm old S=>by
  obtain⟨⟨o,g,ex,d⟩,r1,r2,r3,r4,r5,r6⟩:=S
  refine⟨⟨o,hm.heap _ _ hSw g,ex,d⟩,r1,r2.keep fun b o hb=>hm.heap b o fun z=>?_,r3,r4,r5,r6⟩
  obtain⟨e,he,e2⟩:=hb
  obtain⟨j,pj⟩:=old e he
  obtain⟨b',o',_,_,_,e3,g',_⟩:=hval j _ pj
  rw[e2]at e3
  injection e3 with e3
  exact absurd (Heap.lt_size g') (by rw[<-e3];exact Nat.not_lt.mpr (hwr b z))
 intro k
 induction k with
 |zero=>
  intro i s hk hi hst old hS hR
  obtain rfl:i=n:=by omega
  refine codeAny_builtin PyProof.Rows.F.entry_set_update_loop ?_
  rw[Around.under_plainId PyProof.Rows.F.plain_set_update_loop _]
  change wpAny _ A.in1 (pyNext (.ref I) >>= _) _ _ s
  refine wpAny_bind (W.done s _ _ hst fun s' hm=>wpAny_pure (hR s' (hm.mono sub) ?_))
  obtain⟨es,ep,t,ps,S,oe,r⟩:=hS
  exact⟨es,ep,t,ps,moveS hm oe S,oe,r⟩
 |succ k ih=>
  intro i s hk hi hst old hS hR
  refine codeAny_builtin PyProof.Rows.F.entry_set_update_loop ?_
  rw[Around.under_plainId PyProof.Rows.F.plain_set_update_loop _]
  change wpAny _ A.in1 (pyNext (.ref I) >>= _) _ _ s
  refine wpAny_bind (W.item i s _ _ (by omega) hst fun v s' hP hst' hm=>?_)
  obtain⟨es,ep,t,ps,S,oe,sz,mem⟩:=hS
  have S1:=moveS hm oe S
  have old1:∀b o,h0.get? b=some o->s'.heap.get? b=some o:=fun b o g=>hm.heap b o (fun z=>absurd (Heap.lt_size g) (Nat.not_lt.mpr (hwr b z))) (old b o g)
  obtain⟨b,o,t1,t2,e,rfl,g,c,d⟩:=hval i v hP
  have hx:aR s'.heap (.ref b) (val i):=⟨b,o,t1,t2,e,rfl,old1 b o g,c,d⟩
  change wpAny _ A.in1 (holding [Value.ref b] (setAdd Sa (.ref b)) >>= _) _ _ s'
  refine wpAny_bind (wpAny_holding (y9 S1 hu hx (by omega) fun h' tk es' ep' t' ps' bb keep S2 mem2 sz2 oe2 htk=>?_))
  refine wpAny_pure ⟨plainId_quiet PyProof.Rows.F.plain_set_update_loop _,ih (i+1) _ (by omega) (by omega) (W.frame _ s' _ _ hst' htk fun b hb o g=>keep b o (fun z=>hSf (z▸hb)) g) (fun b o g=>keep b o (fun z=>absurd (Heap.lt_size g) (by rw[z];exact Nat.not_lt.mpr hSa)) (old1 b o g)) ⟨es',ep',t',ps',S2,fun e he=>(oe2 e he).elim (oe e) fun z=>⟨i,by rw[z];exact hP⟩,by omega,fun y=>?_⟩ fun s'' hm'' hS''=>?_⟩
  ·rw[mem2,mem]
   constructor
   ·rintro(⟨j,hj,e⟩|e)
    ·exact⟨j,by omega,e⟩
    ·exact⟨i,by omega,e.symm⟩
   ·rintro⟨j,hj,e⟩
    rcases Nat.lt_or_ge j i with c|c
    ·exact .inl ⟨j,c,e⟩
    ·exact .inr (by rw[<-e,show j=i by omega])
  ·exact hR s'' (Moved.trans W.gtrans ((hm.mono sub).then_heap htk fun b o hb g=>keep b o (fun z=>hb (by rw[z];exact List.mem_cons_self)) g) hm'') hS''
end
section
variable{prog:Program}{w:World}{A:Around}{E:Value->Shared->Prop}{s:Shared}
theorem wk{h:Heap}{a:Addr}(g:h.get? a=some (dJ w)):eG prog w h a #[] 0 (.fresh 0 0 (!w.params.followText "set-order")) []:=
 ⟨⟨_,g,⟨rfl,rfl,rfl⟩,rfl⟩,⟨rfl,List.Pairwise.nil,Dh,rfl,fun i j e g=>by simp[SetTable.fresh]at g⟩,trivial,List.nodup_nil,rfl,rfl,.inl ⟨rfl,by decide⟩⟩
theorem jE{l:Addr}{vs:List Value}{ps0:List (Int×Int)}{Q:Value->Shared->Prop}(hh:A.handled=none)(hu:A.units+64<cLine)(hl:s.heap.IsList l vs.toArray)(hp:bV s.heap vs ps0)(hn:vs.length<=1200)
  (q:∀h' tk es ep t ps,eG prog w h' s.heap.objs.size es ep t ps->(∀e∈es.toList,∃j:Nat,vs[j]?=some e.2)->es.size<=1200->(∀y,y∈ps↔y∈ps0)->(∀b o,s.heap.get? b=some o->h'.get? b=some o)->Q (.ref s.heap.objs.size) { s with heap:=h',toks:=tk }) :
  wpAny (model prog w) A (call (.type "set") [.ref l]) Q E s:=by
 refine mU ?_
 have gS:(s.heap.push (dJ w)).get? s.heap.objs.size=some (dJ w):=Heap.get?_push_size _ rfl
 have hl1:(s.heap.push (dJ w)).IsList l vs.toArray:=hl.push _
 obtain⟨ol,gl,cl,nl,dl⟩:=hl
 obtain⟨ocl,odi,oda,osl⟩:=ol
 dsimp only at cl dl
 subst cl
 subst dl
 have gl':(s.heap.push (dJ w)).get? l=some { cls:=.type "list",dict:=odi,data:=.seq vs.toArray nl,slots:=osl }:=Heap.get?_push_of_some _ gl
 have x1:=PySem.F.sub_list_set
 have x2:=PySem.F.sub_list_frozenset
 have x3:(Value.type "list" == Value.type "dict")=false:=by decide
 have lS:l<s.heap.objs.size:=Heap.lt_size gl
 unfold Builtin.«set.__init__» noKeywords Builtin.Frozenset.updateFrom
 generalize hq:pyIter=PI
 wp_walk
 subst hq
 refine wpAny_pyIter_list hl1 (wpAny_bind (wpAny_runValue ?_))
 have sz1:(s.heap.push (dJ w)).objs.size=s.heap.objs.size+1:=Heap.size_push ..
 have W:=(Walks.list (prog:=prog) (w:=w) (A:=A.in1.in1.in1) hh (s.heap.push (dJ w)).objs.size l (by rw[sz1];exact Nat.ne_of_lt (Nat.lt_succ_of_lt lS)) vs.toArray).toS
 have hv:∀(i:Nat) (v:Value),vs.toArray[i]?=some v->aR s.heap v (ps0.getD i (0,0)):=fun i v g=>by
  rw[List.getElem?_toArray]at g
  have:=(List.getElem?_eq_some_iff.mp g).1
  have hpg:=eX hp (i:=i) (by rw[<-cV hp];exact this)
  rw[List.getD_eq_getElem?_getD,g]at hpg
  exact hpg
 refine uG W (Sa:=s.heap.objs.size) (by rw[sz1];simp;exact Nat.ne_of_gt lS) (by show A.units+1+1+1<cLine;omega) (h0:=s.heap) (fun b hb=>by rw[sz1]at hb;simp at hb;rw[hb];exact Nat.le_succ _) (Nat.le_refl _) (fun i=>ps0.getD i (0,0)) hv (by simpa using hn) (vs.toArray.size-0) 0 _ (by omega) (Nat.zero_le _) ⟨⟨_,Heap.get?_push_size _ rfl,rfl,rfl⟩,hl1.push _⟩ (fun b o g=>Heap.get?_push_of_some _ (Heap.get?_push_of_some _ g)) ⟨#[],0,_,[],wk (Heap.get?_push_of_some _ gS),fun e he=>by simp at he,Nat.le_refl _,fun y=>Iff.intro (fun z=>by simp at z) (fun z=>by obtain⟨j,hj,_⟩:=z;omega)⟩ fun s' hm hS=>?_
 obtain⟨es,ep,t,ps,S,oe,sz,mem⟩:=hS
 obtain⟨h',g',d',tk',os'⟩:=s'
 have eg:g'=s.gens:=hm.gens
 have ed:d'=s.drawn:=hm.drawn
 have eo:os'=s.os:=hm.os
 subst eg
 subst ed
 subst eo
 refine wpAny_pure (wpAny_pure ⟨rfl,?_⟩)
 refine q h' tk' es ep t ps S (fun e he=>by obtain⟨j,hj⟩:=oe e he;exact⟨j,by rw[List.getElem?_toArray]at hj;exact hj⟩) (by simp at sz;omega) (fun y=>?_) fun b o g=>?_
 ·rw[mem]
  have e:=cV hp
  constructor
  ·rintro⟨j,hj,rfl⟩
   have hj':j<ps0.length:=by simp at hj;omega
   rw[List.getD_eq_getElem?_getD,List.getElem?_eq_getElem hj']
   exact List.getElem_mem hj'
  ·intro hy
   obtain⟨j,hj,rfl⟩:=List.getElem_of_mem hy
   refine⟨j,by simp;omega,?_⟩
   rw[List.getD_eq_getElem?_getD,List.getElem?_eq_getElem hj]
   rfl
 ·have lt:=Heap.lt_size g
  refine hm.heap b o ?_ (Heap.get?_push_of_some _ (Heap.get?_push_of_some _ g))
  rw[sz1]
  simp
  exact⟨Nat.ne_of_lt lt,Nat.ne_of_lt (Nat.lt_succ_of_lt lt)⟩
end
theorem fu:Slot "set_iterator" "__next__" "set_iterator.__next__":=.of (owner:="set_iterator") (n:="__next__") (by rw[typeLookup_type,builtinLookup_eq_fast];kernel_rfl) (by decide +kernel) (by decide +kernel) (by decide +kernel) (by first|exact .inl (by decide +kernel)|exact .inr (by decide +kernel)) (by rw[isSubtype_type];kernel_rfl)
theorem sG:entryFor table "set_iterator.__next__"=some Builtin.«set_iterator.__next__»:=entryFor_of_tree (by kernel_rfl)
theorem wo:entryFor table "set.__iter__"=some Builtin.«frozenset.__iter__»:=entryFor_alias (id':="frozenset.__iter__") (by kernel_rfl) rfl (by decide +kernel) (by kernel_rfl)
theorem qz:Slot "set_iterator" "__iter__" "set_iterator.__iter__":=.of (owner:="set_iterator") (n:="__iter__") (by rw[typeLookup_type,builtinLookup_eq_fast];kernel_rfl) (by decide +kernel) (by decide +kernel) (by decide +kernel) (by first|exact .inl (by decide +kernel)|exact .inr (by decide +kernel)) (by rw[isSubtype_type];kernel_rfl)
theorem Ag:entryFor table "set_iterator.__iter__"=some Builtin.«dict_keyiterator.__iter__»:=entryFor_alias (id':="dict_keyiterator.__iter__") (by kernel_rfl) rfl (by decide +kernel) (by kernel_rfl)
theorem tN(a:Value):argsOk "set_iterator.__next__" ⟨[a],[]⟩:=by
 unfold argsOk
 rw[signature?_of (id:="set_iterator.__next__") (n:="__txen__".toList) (o:="rotareti_tes".toList) (rows:=Manifest.sig_set_iterator) (by kernel_rfl) (by kernel_rfl)]
 kernel_rfl
theorem Ao(a:Value):argsOk "set_iterator.__iter__" ⟨[a],[]⟩:=by
 unfold argsOk
 rw[signature?_of (id:="set_iterator.__iter__") (n:="__reti__".toList) (o:="rotareti_tes".toList) (rows:=Manifest.sig_set_iterator) (by kernel_rfl) (by kernel_rfl)]
 kernel_rfl
theorem sF{α:Type}:∀{l:List α} {k:Nat} (h:k<l.length),(l[k]::l.eraseIdx k).Perm l
 |x::r,0,_=>List.Perm.refl _
 |x::r,k+1,h=>(List.Perm.swap x _ _).trans ((sF (l:=r) (k:=k) (by simpa using h)).cons x)
theorem q0{α:Type}{nx:Nat->Nat}:∀(f k:Nat) (l:List α) (out:Array α),f=l.length->(pickOrder.go nx f k l out).toList.Perm (out.toList++l)
 |0,k,l,out,h=>by
  rw[List.eq_nil_of_length_eq_zero h.symm,List.append_nil]
  exact .refl _
 |f+1,k,l,out,h=>by
  unfold pickOrder.go
  have hlt:nx k % l.length<l.length:=Nat.mod_lt _ (by omega)
  rw[List.getElem?_eq_getElem hlt]
  dsimp only
  refine(q0 f (k+1) _ _ (by rw[List.length_eraseIdx,if_pos hlt];omega)).trans ?_
  rw[Array.toList_push,List.append_assoc]
  exact List.Perm.append_left _ (sF hlt)
theorem qZ{α:Type}{nx:Nat->Nat}(xs:Array α):(pickOrder nx xs).toList.Perm xs.toList:=by
 unfold pickOrder
 have:=q0 (nx:=nx) xs.size 0 xs.toList #[] (by simp)
 simpa using this
def vA(w:World)(a:Addr)(ep:Nat)(es:Array (Int×Value)):Array (Int×Value):=if w.params.followText "set-order" then pickOrder (w.params.setOrder a ep) es else es
theorem fc{w:World}{a:Addr}{ep:Nat}{es:Array (Int×Value)}:(vA w a ep es).toList.Perm es.toList:=by
 unfold vA
 split
 ·exact qZ es
 ·exact .refl _
theorem js{xs:Array Nat}(h:Rs xs.toList):SetTable.below xs 0=0:=by
 obtain⟨p,e,h1,h2,h3⟩:=gA h 0
 rw[e]
 cases p with
 |zero=>rfl
 |succ p=>have:=h2 0 (by omega);omega
theorem pK{xs:Array Nat}(h:Rs xs.toList){i j:Nat}(g:xs[i]?=some j):SetTable.below xs (j+1)=i+1:=by
 obtain⟨p,e,h1,h2,h3⟩:=gA h (j+1)
 have hi:i<xs.size:=(Array.getElem?_eq_some_iff.mp g).1
 have gi:∀d,xs.getD i d=j:=fun d=>by simp[Array.getD,hi];rw[Array.getElem?_eq_getElem hi]at g;injection g
 rw[e]
 rcases Nat.lt_trichotomy p (i+1)with c|c|c
 ·have:=h3 i (by omega) hi
  rw[gi]at this
  omega
 ·exact c
 ·have a1:=h2 (i+1) c
  have a2:=h.lt (d:=j+1) (show i<i+1 by omega) (show i+1<xs.size by omega)
  rw[gi]at a2
  omega
structure wQ(w:World)(o:Obj)(es:Array (Int×Value))(ep:Nat)(t:SetTable):Prop where
 ex:o.ExactSet
 dt:o.data=.set es ep t
 tab:Tab t es.toList
 pl:t.plain=true
 ld:t.led=!w.params.followText "set-order"
 lv:Lv t.mask es.size
theorem eG.so{prog:Program}{w:World}{h:Heap}{a:Addr}{es:Array (Int×Value)}{ep:Nat}{t:SetTable}{ps:List (Int×Int)}(S:eG prog w h a es ep t ps):∃o,h.get? a=some o/\wQ w o es ep t:=let ⟨o,g,ex,d⟩:=S.ob;⟨o,g,ex,d,S.tab,S.pl,S.ld,S.lv⟩
theorem wQ.fits{w:World}{o:Obj}{es:Array (Int×Value)}{ep:Nat}{t:SetTable}(S:wQ w o es ep t):t.fits es.size=true:=by
 have h1:=S.lv.le
 have h2:=S.tab.sz
 have h3:=S.tab.dm
 unfold SetTable.fits SetTable.fill
 rw[h3]
 simp only[Array.length_toList]at h2
 simp[h2]
 omega
section
variable{prog:Program}{w:World}{A:Around}{E:Value->Shared->Prop}{s:Shared}{a:Addr}{es:Array (Int×Value)}{ep:Nat}{t:SetTable}{ps:List (Int×Int)}{o:Obj}
theorem mW{Q:Bool->Shared->Prop}(q:Q (w.params.followText "set-order") s):wpAny (model prog w) A setsByText Q E s:=by
 unfold setsByText
 exact wpAny_bind (wpAny_askSetting (wpAny_pure q))
def SIt(w:World)(h:Heap)(it a:Addr)(i n ep:Nat)(t:SetTable):Prop:=∃o sl,h.get? it=some o/\o.cls=.type "set_iterator"/\o.data=.fields #[rawInt (sl:Nat),rawInt (i:Nat),.ref a,rawInt (n:Nat),rawInt (ep:Nat)]/\(w.params.followText "set-order"=false->SetTable.below t.place sl=i)
theorem SIt.ty{it:Addr}{i n:Nat}(h:SIt w s.heap it a i n ep t):s.TypeIs (.ref it) "set_iterator":=let ⟨o,_,g,c,_⟩:=h;⟨o,g,c⟩
theorem y3(ho:s.heap.get? a=some o)(S:wQ w o es ep t){Q:Value->Shared->Prop}(q:∀o,SIt w (s.heap.push o) s.heap.objs.size a 0 es.size ep t->o={ cls:=.type "set_iterator",data:=.fields #[rawInt 0,rawInt 0,.ref a,rawInt (es.size:Nat),rawInt (ep:Nat)] }->Q (.ref s.heap.objs.size) { s with heap:=s.heap.push o }):wpAny (model prog w) A (pyIter (.ref a)) Q E s:=by
 have hd:=S.dt
 have hex:=S.ex
 have T:s.TypeIs (.ref a) "set":=⟨o,ho,hex.1⟩
 refine wpAny_pyIter_slot T PySem.F.slot_set_iter (wpAny_call_entry PySem.F.slot_set_iter T wo ?_ (PySem.F.args_set_iter_1 _))
 unfold Builtin.«frozenset.__iter__» Builtin.Frozenset.slot0 slotArgs
 refine wpAny_bind (wpAny_bind (wpAny_pure (wpAny_pure ?_)))
 unfold Builtin.Frozenset.sizeOf
 refine wpAny_bind (wpAny_bind (wpAny_setEntries_of ho hd S.fits (wpAny_pure ?_)))
 unfold setDrawn
 refine wpAny_bind (wpAny_bind (wpAny_setState_of ho hd S.fits (wpAny_bind (mW (wpAny_pure ?_)))))
 refine wpAny_ite_split (fun c=>?_) fun _=>?_
 ·have c':(!w.params.followText "set-order"&&(!t.plain&&decide (es.size>1)))=true:=c
  rw[S.pl]at c'
  simp at c'
 refine wpAny_bind (wpAny_pure (wpAny_bind (wpAny_setEpoch_of ho hd S.fits ?_)))
 refine wpAny_bind (wpAny_newObj_type (wpAny_pure ⟨_,rfl,"set_iterator",_,⟨_,Heap.get?_push_size _ rfl,rfl⟩,fu.lookup,q _ ⟨_,0,Heap.get?_push_size _ rfl,rfl,rfl,fun _=>js S.tab.rs⟩ rfl⟩))
theorem SIt.at_{h h':Heap}{it:Addr}{i n:Nat}(x:SIt w h it a i n ep t)(e:∀o,h.get? it=some o->h'.get? it=some o):SIt w h' it a i n ep t:=let ⟨o,sl,g,r⟩:=x;⟨o,sl,e o g,r⟩
theorem nE{it:Addr}{i sl:Nat}(ho:s.heap.get? a=some o)(S:wQ w o es ep t)(hsl:w.params.followText "set-order"=false->SetTable.below t.place sl=i){Q:Option (Value×Nat)->Shared->Prop}
  (q1:∀e,(vA w a ep es)[i]?=some e->∀sl',(w.params.followText "set-order"=false->SetTable.below t.place sl'=i+1)->Q (some (e.2,sl')) s) (q2:(vA w a ep es)[i]?=none->Q none s):wpAny (model prog w) A (setNext a sl i ep) Q E s:=by
 have hd:=S.dt
 have hex:=S.ex
 unfold setNext
 refine wpAny_bind (wpAny_setState_of ho hd S.fits ?_)
 dsimp only
 refine wpAny_bind (mW ?_)
 unfold vA at q1 q2
 cases hb:w.params.followText "set-order" with
 |true=>
  rw[hb]at q1 q2
  simp only[if_true]at q1 q2 ⊢
  rw[if_neg (by simp)]
  unfold setWalk
  refine wpAny_bind (wpAny_bind (wpAny_setState_of ho hd S.fits ?_))
  dsimp only
  refine wpAny_bind (mW ?_)
  rw[hb]
  simp only[if_true]
  refine wpAny_bind (wpAny_askSetting (wpAny_pure (wpAny_pure ?_)))
  show Q ((pickOrder (w.params.setOrder a ep) es)[i]?.map fun e=>(e.2,sl)) s
  cases hg:(pickOrder (w.params.setOrder a ep) es)[i]? with
  |none=>exact q2 hg
  |some e=>exact q1 e hg sl (fun z=>by cases z)
 |false=>
  rw[hb]at q1 q2
  simp only[Bool.false_eq_true,if_false]at q1 q2 ⊢
  refine wpAny_ite_split (fun c=>?_) fun _=>?_
  ·have c':(!t.plain&&decide (es.size>1))=true:=c
   rw[S.pl]at c'
   simp at c'
  refine wpAny_bind ?_
  have hl:t.led=true:=by rw[S.ld,hb];rfl
  show wpAny _ _ (if (!t.led&&!es.isEmpty)=true then unsupported "set:maker-not-led" else pure ()) _ _ _
  rw[hl]
  simp only[Bool.not_true,Bool.false_and,Bool.false_eq_true,if_false]
  refine wpAny_pure (wpAny_pure ?_)
  rw[hsl hb]
  have sz:=S.tab.sz
  simp only[Array.length_toList]at sz
  by_cases c:i<es.size
  ·have c2:i<t.place.size:=by omega
   rw[Array.getElem?_eq_getElem c,Array.getElem?_eq_getElem c2]
   exact q1 _ (Array.getElem?_eq_getElem c) _ fun _=>pK S.tab.rs (Array.getElem?_eq_getElem c2)
  ·have h0:es[i]?=none:=Array.getElem?_eq_none (by omega)
   rw[h0]
   exact q2 h0
theorem y4{it:Addr}{i:Nat}(ho:s.heap.get? a=some o)(S:wQ w o es ep t)(I:SIt w s.heap it a i es.size ep t)(hi:i<es.size){Q:Option Value->Shared->Prop}
  (q:∀e h',(vA w a ep es)[i]?=some e->SIt w h' it a (i+1) es.size ep t->Heap.SameBut it s.heap h'->Q (some e.2) { s with heap:=h' }):wpAny (model prog w) A (pyNext (.ref it)) Q E s:=by
 have T:=I.ty
 obtain⟨io,sl,hio,ic,id',hsl⟩:=I
 have hd:=S.dt
 have hex:=S.ex
 unfold pyNext
 refine wpAny_bind (wpAny_attempt (wpAny_callSpecial?_slot (name:=Str.ofString "__next__") T fu (wpAny_call_entry fu T sG ?_ (tN _))))
 unfold Builtin.«set_iterator.__next__» slotArgs
 refine wpAny_bind (wpAny_pure (wpAny_bind (wpAny_fieldsOf hio id' ?_)))
 show wpAny _ _ (setEntries a >>= _) _ _ s
 refine wpAny_bind (wpAny_setEntries_of ho hd S.fits ?_)
 rw[if_neg (by simp)]
 show wpAny _ _ (setNext a (sl:Int).toNat (i:Int).toNat (ep:Int).toNat >>= _) _ _ s
 simp only[Int.toNat_natCast]
 refine wpAny_bind (nE (it:=it) ho S hsl (fun e he sl' hsl'=>?_) fun hn=>?_)
 ·dsimp only
  refine wpAny_bind (wpAny_setField hio id' (by simp) ?_)
  have g1:=Heap.get?_update_self (Obj.mapFields (·.setIfInBounds 0 (rawInt (sl':Nat)))) hio (Obj.isFreed_of_fields (Obj.data_mapFields id' _))
  have d1:=Obj.data_mapFields id' (·.setIfInBounds 0 (rawInt (sl':Nat)))
  refine wpAny_bind (wpAny_setField (s:={ s with heap:=s.heap.update it (Obj.mapFields (·.setIfInBounds 0 (rawInt (sl':Nat)))) }) g1 d1 (by simp) ?_)
  have g2:=Heap.get?_update_self (Obj.mapFields (·.setIfInBounds 1 (rawInt ((i:Int)+1)))) g1 (Obj.isFreed_of_fields (Obj.data_mapFields d1 _))
  have d2:=Obj.data_mapFields d1 (·.setIfInBounds 1 (rawInt ((i:Int)+1)))
  have I2:SIt w ((s.heap.update it (Obj.mapFields (·.setIfInBounds 0 (rawInt (sl':Nat))))).update it (Obj.mapFields (·.setIfInBounds 1 (rawInt ((i:Int)+1))))) it a (i+1) es.size ep t:=by
   refine⟨_,sl',g2,((Obj.cls_mapFields ..).trans (Obj.cls_mapFields ..)).trans ic,?_,hsl'⟩
   rw[d2]
   simp
  exact wpAny_pure ⟨_,rfl,wpAny_pure (q e _ he I2 ((Heap.SameBut.update ..).trans (Heap.SameBut.update ..)))⟩
 ·have:=(fc (w:=w) (a:=a) (ep:=ep) (es:=es)).length_eq
  simp only[Array.length_toList]at this
  have:=Array.getElem?_eq_none_iff.mp hn
  omega
theorem Bz{it:Addr}(hh:A.handled=none)(ho:s.heap.get? a=some o)(S:wQ w o es ep t)(I:SIt w s.heap it a es.size es.size ep t){Q:Option Value->Shared->Prop}
  (q:∀h',Heap.ExtBut it s.heap h'->Q none { s with heap:=h' }):wpAny (model prog w) A (pyNext (.ref it)) Q E s:=by
 have T:=I.ty
 obtain⟨io,sl,hio,ic,id',hsl⟩:=I
 have hd:=S.dt
 have hex:=S.ex
 unfold pyNext
 refine wpAny_bind (wpAny_attempt (wpAny_callSpecial?_slot (name:=Str.ofString "__next__") T fu (wpAny_call_entry fu T sG ?_ (tN _))))
 unfold Builtin.«set_iterator.__next__» slotArgs
 refine wpAny_bind (wpAny_pure (wpAny_bind (wpAny_fieldsOf hio id' ?_)))
 show wpAny _ _ (setEntries a >>= _) _ _ s
 refine wpAny_bind (wpAny_setEntries_of ho hd S.fits ?_)
 rw[if_neg (by simp)]
 show wpAny _ _ (setNext a (sl:Int).toNat (es.size:Int).toNat (ep:Int).toNat >>= _) _ _ s
 simp only[Int.toNat_natCast]
 refine wpAny_bind (nE (it:=it) ho S hsl (fun e he sl' hsl'=>?_) fun hn=>?_)
 ·have:=(fc (w:=w) (a:=a) (ep:=ep) (es:=es)).length_eq
  simp only[Array.length_toList]at this
  have:=(Array.getElem?_eq_some_iff.mp he).1
  omega
 ·dsimp only
  refine wpAny_bind (wpAny_setField hio id' (by simp) (wpAny_bind ?_))
  unfold newExc newTuple
  refine wpAny_bind (wpAny_newObj_type ?_ (by size_fits))
  refine wpAny_bind (m:=firstArgMember _ _) (wpAny_of_eq (a:=Value.none) (by first|rfl|(simp only[firstArgMember];rfl)) (wpAny_newObj_type ?_ (by size_fits)))
  unfold raiseNew
  refine wpAny_bind (wpAny_handled ?_)
  rw[show A.in1.handled=none from hh]
  refine wpAny_bind (wpAny_pure (wpAny_throw ?_))
  refine wpAny_bind (wpAny_isInstance (T:="StopIteration") (b:=true) ⟨_,Heap.get?_push_size _ rfl,rfl⟩ isSubtype_stop ?_)
  exact wpAny_pure (q _ (((Heap.SameBut.update ..).extBut.push _).push _))
theorem y2{it:Addr}{i n:Nat}{Q:Value->Shared->Prop}(I:SIt w s.heap it a i n ep t)(q:Q (.ref it) s):wpAny (model prog w) A (pyIter (.ref it)) Q E s:=by
 refine wpAny_pyIter_slot I.ty qz (wpAny_call_entry qz I.ty Ag ?_ (Ao _))
 show wpAny _ _ (ret (Value.ref it)) _ _ s
 exact wpAny_pure ⟨_,rfl,"set_iterator",_,I.ty,fu.lookup,q⟩
theorem wb(T:s.TypeIs (.ref a) "set"){Q:Bool->Shared->Prop}(q:Q false s):wpAny (model prog w) A (Builtin.List.listLengthHint (.ref a)) Q E s:=by
 unfold Builtin.List.listLengthHint
 refine wpAny_bind (wpAny_specialOf T PySem.F.slot_set_len.lookup ?_)
 generalize hid:("set.__len__":String)=id0
 wp_delta
 rw[show splitId id0=some ("set","__len__")by subst hid;decide +kernel]
 subst hid
 refine wpAny_bind (wpAny_isInstance (T:="set") (b:=true) T sub_set_self ?_)
 refine wpAny_ite_split (fun c=>absurd c (by decide)) fun _=>wpAny_ite_split (fun _=>wpAny_bind (wpAny_typeOf T (wpAny_pure q))) fun c=>absurd (by decide +kernel) c
theorem y6(S:wQ w o es ep t):KdlSrc prog w "set" a a es.size (fun i v=>∃e,(vA w a ep es)[i]?=some e/\v=e.2) (fun h=>h.get? a=some o) where
 type:=fun s g=>⟨o,g,S.ex.1⟩
 there:=fun h g=>⟨Heap.lt_size g,Heap.lt_size g⟩
 keep:=fun h h' g m=>m a (.inl rfl) o g
 notList:=by decide
 notTuple:=by decide
 hint:=fun A E s Q g q=>wb ⟨o,g,S.ex.1⟩ q
 iter:=fun A s hh g=>by
  refine⟨{ cls:=.type "set_iterator",data:=.fields #[rawInt 0,rawInt 0,.ref a,rawInt (es.size:Nat),rawInt (ep:Nat)] },fun i h=>SIt w h s.heap.objs.size a i es.size ep t/\h.get? a=some o,fun E Q q=>y3 g S fun o' _ e=>by rw[e];exact q,?_,⟨⟨_,0,Heap.get?_push_size _ rfl,rfl,rfl,fun _=>js S.tab.rs⟩,Heap.get?_push_of_some _ g⟩⟩
  have ne:a≠s.heap.objs.size:=Nat.ne_of_lt (Heap.lt_size g)
  refine⟨fun b hb=>by simp at hb;simp[hb],fun i h h' st m=>⟨st.1.at_ fun o1 g1=>m _ (by simp) o1 g1,m _ (by simp) o st.2⟩,fun i s' Q E hi st k=>?_,fun s' Q E st k=>?_,fun i s' Q E st q=>y2 st.1 q⟩
  ·refine y4 st.2 S st.1 hi fun e h' he I' sb=>k _ h' _ ⟨e,he,rfl⟩ ⟨I',?_⟩ fun b o' hb g'=>?_
   ·rw[sb.2 a ne];exact st.2
   ·rw[sb.2 b (by simpa using hb)];exact g'
  ·exact Bz hh st.2 S st.1 fun h' eb=>k h' _ fun b o' hb g'=>eb b o' (by simpa using hb) g'
end
theorem wI:bootBuiltins "set"=some (.type "set"):=rfl
theorem vk{h:Heap}{v:Value}{p q:Int×Int}(hp:aR h v p)(hq:aR h v q):p=q:=by
 obtain⟨b,o,t1,t2,e,hx,g1,_,d1⟩:=hp
 obtain⟨b',o',t1',t2',e',hx',g1',_,d1'⟩:=hq
 rw[hx]at hx'
 cases hx'
 rw[g1]at g1'
 cases g1'
 rw[d1]at d1'
 injection d1' with d2 _
 have d3:=congrArg Array.toList d2
 simp only[List.cons.injEq,Value.int.injEq]at d3
 exact Prod.ext d3.1.1 d3.2.1.1
theorem eY:∀{ys:List V} {vs:List Value} {j:Nat} {y:V} {v:Value},aV ys vs->ys[j]?=some y->vs[j]?=some v->bu y v
 |_,_,0,y,v,.cons r _,h1,h2=>by simp at h1 h2;subst h1;subst h2;exact r
 |_,_,j+1,y,v,.cons _ t,h1,h2=>eY t (by simpa using h1) (by simpa using h2)
 |_,_,j,y,v,.nil,h1,_=>by simp at h1
def BA(w:World)(a:Addr)(es:Array (Int×Value))(ep:Nat)(t:SetTable):HO:=.ext fun h=>∃o,h.get? a=some o/\wQ w o es ep t
section
variable{K:PySem.W.Frag}{H:Hp}
theorem zu{ys:List V}{ps:List (Int×Int)}{k:Nat}{v:V}:PrL K H ys ps->ys[k]?=some v->∃p a,ps[k]?=some p/\v=.ref a/\SqT K H a [.int p.1,.int p.2]:=fun h g=>by
 induction ys generalizing ps k with
 |nil=>simp at g
 |cons y ys ih=>
  cases ps with
  |nil=>exact h.elim
  |cons p ps=>
   cases k with
   |zero=>
    simp at g
    subst g
    obtain⟨a,e,sq⟩:=h.1
    exact⟨p,a,rfl,e,sq⟩
   |succ k=>simpa using ih h.2 (by simpa using g)
theorem qW{prog:Program}{w:World}{h:Heap}:∀{es:List (Int×Value)} {ps:List (Int×Int)},Els prog w h es ps->(∀e∈es,∃p a,e.2=.ref a/\SqT K H a [.int p.1,.int p.2]/\aR h e.2 p)->∃zs,aV zs (es.map (·.2))/\PrL K H zs ps
 |[],[],_,_=>⟨[],.nil,trivial⟩
 |e::es,p::ps,k,m=>by
  obtain⟨zs,h1,h2⟩:=qW k.2 fun x hx=>m x (List.mem_cons_of_mem _ hx)
  obtain⟨q,a,e1,sq,pa⟩:=m e List.mem_cons_self
  have:=vk k.1.2 pa
  subst this
  exact⟨.ref a::zs,.cons e1 h1,⟨a,rfl,sq⟩,h2⟩
 |[],_::_,k,_=>k.elim
 |_::_,[],k,_=>k.elim
theorem nR{H':Hp}(sm:pN H H'):∀{zs:List V} {ps:List (Int×Int)},PrL K H zs ps->PrL K H' zs ps
 |[],[],_=>trivial
 |_::_,_::_,k=>by
  obtain⟨a,e,sq⟩:=k.1
  refine⟨⟨a,e,?_⟩,nR sm k.2⟩
  rcases sq with sq|sq
  ·rcases sq with sq|⟨o,sq⟩
   ·exact .inl (.inl (sm _ _ sq))
   ·exact .inl (.inr ⟨o,sm _ _ sq⟩)
  ·exact .inr sq
 |[],_::_,k=>k.elim
 |_::_,[],k=>k.elim
theorem u7{vs vs':List Value}(P:vs'.Perm vs):∀{zs:List V} {ps:List (Int×Int)},aV zs vs->PrL K H zs ps->∃zs' ps',aV zs' vs'/\PrL K H zs' ps'/\ps'.Perm ps:=by
 induction P with
 |nil=>exact fun{zs ps} a b=>⟨zs,ps,a,b,.refl _⟩
 |cons x _ ih=>
  intro zs ps a b
  cases a with
  |cons r a=>
   cases ps with
   |nil=>exact b.elim
   |cons p ps=>
    obtain⟨zs',ps',h1,h2,h3⟩:=ih a b.2
    exact⟨_::zs',p::ps',.cons r h1,⟨b.1,h2⟩,h3.cons p⟩
 |swap x y l=>
  intro zs ps a b
  cases a with
  |cons r1 a=>
   cases a with
   |cons r2 a=>
    match ps,b with
    |[],b=>exact b.elim
    |[p],b=>exact b.2.elim
    |p::q::ps,b=>exact⟨_::_::_,q::p::ps,.cons r2 (.cons r1 a),⟨b.2.1,b.1,b.2.2⟩,.swap _ _ _⟩
 |trans _ _ ih1 ih2=>
  intro zs ps a b
  obtain⟨zs',ps',h1,h2,h3⟩:=ih2 a b
  obtain⟨zs'',ps'',h4,h5,h6⟩:=ih1 h1 h2
  exact⟨zs'',ps'',h4,h5,h6.trans h3⟩
end
def He(K:PySem.W.Frag)(w:World):List V->Hp->VK->Prop:=fun xs H Q=>∃(p:Addr) (ys:List V) (ps0:List (Int×Int)),xs=[.ref p]/\SqL K H p ys/\PrL K H ys ps0/\ps0.length<=1200/\
 ∀(l:Addr) (es:Array (Int×Value)) (ep:Nat) (t:SetTable) (zs:List V) (ps:List (Int×Int)),H l=none->aV zs (es.toList.map (·.2))->PrL K H zs ps->ps.Nodup->(∀y,y∈ps↔y∈ps0)->ps.length<=1200->Q (.ref l) (upd H l (BA w l es ep t))
theorem FA{X:Cx}(hc:X.calm=true)(hu:X.A.units+64<cLine):bT X (.type "set") (He X.K X.w):=by
 rintro pins s σ H xs us Q I r ⟨p,ys,ps0,rfl,hL,hp,hn,q⟩
 obtain⟨u,rfl,ru⟩:=gE r
 cases ru
 obtain⟨its,rv,pl,hz⟩:=I.list hL
 have hlen:=jM hp
 have hpa:=qX I hp rv
 have li:its.length=ps0.length:=cV hpa
 refine jE (show X.A.handled=none from I.ok.hd hc) hu pl.isList hpa (by omega) fun h' tk es ep t ps S oe sz mem old=>?_
 obtain⟨zs,vz,pz⟩:=qW (K:=X.K) (H:=H) S.el fun e he=>by
  obtain⟨j,hj⟩:=oe e he
  have hjl:=(List.getElem?_eq_some_iff.mp hj).1
  obtain⟨v,hv⟩:∃v,ys[j]?=some v:=⟨ys[j]'(by omega),List.getElem?_eq_getElem _⟩
  obtain⟨p',a,g1,e1,sq⟩:=zu hp hv
  have rel:=eY rv hv hj
  subst e1
  have e2:e.2=.ref a:=rel
  refine⟨p',a,e2,sq,?_⟩
  have pg:=eX hpa (i:=j) (by omega)
  rw[List.getD_eq_getElem?_getD,hj,List.getD_eq_getElem?_getD,g1]at pg
  obtain⟨b,o,t1,t2,n,x1,x2,x3⟩:=pg
  exact⟨b,o,t1,t2,n,x1,old b o x2,x3⟩
 obtain⟨o,go,so⟩:=S.so
 have hf:=I.hok.fresh (Nat.le_refl s.heap.objs.size)
 have lp:ps.length<=1200:=by have:=S.el.len;simp only[Array.length_toList]at this;omega
 exact⟨.ref s.heap.objs.size,_,I.laid (o:=BA X.w s.heap.objs.size es ep t) (t':=tk) old (Nat.le_refl _) ⟨⟨o,go,so⟩,⟨o,go⟩,fun h1 h2 ⟨o,g,so⟩ m=>⟨o,m o g,so⟩⟩,rfl,q _ es ep t zs ps hf vz pz S.nd mem lp⟩
def uS(K:PySem.W.Frag)(w:World):List V->Hp->VK->Prop:=fun xs H Q=>∃(v:Addr) (es:Array (Int×Value)) (ep:Nat) (t:SetTable) (zs:List V) (ps:List (Int×Int)),xs=[.ref v]/\H v=some (BA w v es ep t)/\aV zs (es.toList.map (·.2))/\PrL K H zs ps/\ps.Nodup/\ps.length<=1200/\
 ∀(l:Addr) (zs':List V) (ps':List (Int×Int)) (q:Array Nat),H l=none->PrL K H zs' ps'->ps'.Perm ps->Ea ps' q->Q (.ref l) (upd H l (.lst (q.toList.map fun i=>zs'.getD i .non)))
theorem rq{X:Cx}(hc:X.calm=true):bT X (.builtin "sorted") (uS X.K X.w):=by
 rintro pins s σ H xs us Q I r ⟨v,es,ep,t,zs,ps,rfl,hV,vz,pz,nd,hn,q⟩
 obtain⟨u,rfl,ru⟩:=gE r
 cases ru
 obtain⟨⟨o,go,so⟩,_,_⟩:bt X.prog X.w H s.heap v (BA X.w v es ep t):=I.hok v _ hV
 have lz:=jM pz
 have le:es.size=ps.length:=by have:=vz.length;simp at this;omega
 refine Calls.call_function_entry kind_sorted plain_sorted entry_sorted (args_sorted1 _) ?_
 unfold Builtin.«sorted»
 refine wpAny_bind (m:=checkCount "sorted" 1 1 _) (wpAny_pure (wpAny_bind (kdu_collect (y6 (prog:=X.prog) (a:=v) so) (show X.A.in1.handled=none from I.ok.hd hc) go (by rw[le];unfold sizeLine;omega) fun h1 tk acc up hacc=>?_)))
 have ea:acc.toList=(vA X.w v ep es).toList.map (·.2):=by
  refine List.ext_getElem? fun i=>?_
  rw[Array.getElem?_toList,List.getElem?_map,Array.getElem?_toList]
  have so1:(vA X.w v ep es).size=es.size:=by have:=(fc (w:=X.w) (a:=v) (ep:=ep) (es:=es)).length_eq;simpa using this
  by_cases c:i<es.size
  ·have c1:i<acc.size:=by rw[hacc.1];exact c
   obtain⟨e,he,ev⟩:=hacc.2 i _ (Array.getElem?_eq_getElem c1)
   rw[he,Array.getElem?_eq_getElem c1,ev]
   rfl
  ·rw[Array.getElem?_eq_none (by rw[hacc.1];omega),Array.getElem?_eq_none (by omega)]
   rfl
 obtain⟨zs',ps',vz',pz',pp⟩:=u7 (K:=X.K) (H:=H) (vs':=acc.toList) (by rw[ea];exact(fc (w:=X.w) (a:=v) (ep:=ep) (es:=es)).map _) vz pz
 have lp:ps'.length=ps.length:=pp.length_eq
 have I1:Inv X pins σ H { s with heap:=h1,toks:=tk }:=I.kept (t':=tk) up
 have hpairs:=qX I1 pz' vz'
 have la:acc.toList.length=ps'.length:=cV hpairs
 refine wpAny_bind (wpAny_newList ?_ (by rw[la,lp];unfold sizeLine;omega))
 have gL:(h1.push { cls:=.type "list",data:=.seq acc.toList.toArray }).get? h1.objs.size=some (seqObj "list" acc.toList.toArray 0):=Heap.get?_push_size _ rfl
 have hv':∀v∈acc.toList,v≠.ref h1.objs.size:=fun v hv=>i7 hpairs v hv _ (Nat.le_refl _)
 refine wpAny_bind (wpAny_holding (wpAny_call_entry slot_list_sort ⟨_,gL,rfl⟩ entry_list_sort (fV (s:={ s with heap:=h1.push { cls:=.type "list",data:=.seq acc.toList.toArray },toks:=tk }) gL (fC (a:=h1.objs.size) (fun b o _ g=>Heap.get?_push_of_some _ g) hpairs hv') hv' (pp.nodup_iff.mpr nd) (by rw[lp];unfold sizeLine;omega) fun qa a1=>⟨_,rfl,?_⟩) (args_list_sort _)))
 obtain⟨e,ge⟩:=sortedHeap_at (out:=(qa.toList.map fun i=>acc.toList.getD i Value.none).toArray) gL
 have old:∀b o,h1.get? b=some o->(sortedHeap (h1.push { cls:=.type "list",data:=.seq acc.toList.toArray }) h1.objs.size acc.toList (qa.toList.map fun i=>acc.toList.getD i Value.none).toArray).get? b=some o:=fun b o g1=>by
  have lt1:=Heap.lt_size g1
  rw[sortedHeap_old (Nat.ne_of_lt lt1) (by rw[Heap.size_push];exact Nat.lt_succ_of_lt lt1)]
  exact Heap.get?_push_of_some _ g1
 have hf:=I1.hok.fresh (Nat.le_refl h1.objs.size)
 have hq:qa.toList.length=ps'.length:=by rw[Array.length_toList,a1.1.sz]
 have lz':=jM pz'
 exact wpAny_pure ⟨_,rfl,.ref h1.objs.size,_,I1.laid (o:=.lst (qa.toList.map fun i=>zs'.getD i .non)) (t':=tk) old (Nat.le_refl _) ⟨by rw[List.length_map,hq,lp];unfold sizeLine;omega,_,e,fW vz' qa.toList (by rw[lz'];exact dq a1.1),ge⟩,rfl,q _ zs' ps' qa hf pz' pp a1⟩
open Classical in
def da(ce:CE):CE:=fun ρ S=>(ce ρ S).bind fun p=>match p.1 with
 |.ref l=>match p.2[l]? with
  |some (.lst us)=>(i8 us).bind fun ps=>if ps.length<=1200 then some (.ref p.2.length,p.2++[.lst ((dz ps).map pP)])else none
  |_=>none
 |_=>none
theorem wM{ps' ps ps0:List (Int×Int)}{q:Array Nat}(h:Ea ps' q)(p1:ps'.Perm ps)(m:∀y,y∈ps↔y∈ps0):dz ps0=q.toList.map fun i=>ps'.getD i (0,0):=by
 have e:=tL h
 have:∃L:List (Int×Int),L.Pairwise (fun a b=>ltP a b=true)/\∀x,x∈L↔x∈ps':=by
  refine⟨q.toList.map fun i=>ps'.getD i (0,0),?_,fun x=>?_⟩
  ·refine List.pairwise_map.mpr (List.pairwise_iff_getElem.mpr fun i j hi hj hij=>?_)
   have hq:=h.1.sz
   have:=h.2 i j hij (by simp at hj;omega)
   simpa [Array.getD,show i<q.size by simpa using hi,show j<q.size by simpa using hj] using this
  ·constructor
   ·intro hx
    obtain⟨i,hi,rfl⟩:=List.mem_map.mp hx
    have hl:=dq h.1 i hi
    rw[List.getD_eq_getElem?_getD,List.getElem?_eq_getElem hl]
    exact List.getElem_mem hl
   ·intro hx
    obtain⟨i,hi,rfl⟩:=List.getElem_of_mem hx
    have hp:q.toList.Perm (List.range ps'.length):=by
     refine(List.perm_ext_iff_of_nodup ?_ List.nodup_range).mpr fun a=>⟨fun ha=>List.mem_range.mpr (dq h.1 a ha),fun ha=>?_⟩
     ·refine List.pairwise_iff_getElem.mpr fun a b ha hb hab=>?_
      have hq:=h.1.sz
      have:=h.1.ne' (i:=a) (j:=b) (by simp at ha;omega) (by simp at hb;omega) (by omega)
      simpa [Array.getD,show a<q.size by simpa using ha,show b<q.size by simpa using hb] using this
     ·have nd:q.toList.Nodup:=by
       refine List.pairwise_iff_getElem.mpr fun a b ha hb hab=>?_
       have hq:=h.1.sz
       have:=h.1.ne' (i:=a) (j:=b) (by simp at ha;omega) (by simp at hb;omega) (by omega)
       simpa [Array.getD,show a<q.size by simpa using ha,show b<q.size by simpa using hb] using this
      refine Classical.byContradiction fun no=>?_
      have:=List.Nodup.length_le_of_subset (List.nodup_cons.mpr ⟨no,nd⟩) (l₂:=List.range ps'.length) fun b hb=>by
       rcases List.mem_cons.mp hb with rfl|hb
       ·exact ha
       ·exact List.mem_range.mpr (dq h.1 b hb)
      rw[List.length_cons,List.length_range,Array.length_toList,h.1.sz]at this
      omega
    refine List.mem_map.mpr ⟨i,hp.mem_iff.mpr (List.mem_range.mpr hi),?_⟩
    rw[List.getD_eq_getElem?_getD,List.getElem?_eq_getElem hi]
    rfl
 obtain⟨L,l1,l2⟩:=this
 have e1:=eN l1 l2
 have e2:dz ps0=L:=eN l1 fun x=>(l2 x).trans ((p1.mem_iff).trans (m x))
 rw[e2,<-e1,e]
theorem kX{X:Cx}{o:Expr}{co:CE}{p1 p2 cpos pos:Pos}(hcm:X.calm=true)(hu:X.A.units+64<cLine)(hg:L2.Gl X "sorted")(hm:X.mg "sorted"=none)(hg2:L2.Gl X "set")(hm2:X.mg "set"=none)(ho:QE X o co)
  (he1:starEach [o] X.env=(false,eval o X.env)::starEach [] X.env:=by rfl) (hpl1:(backTo cpos (starEach [] X.env)).any (·.1)=false:=by rfl)
  (he:starEach [.Call (.Name "set" p2) [o] [] cpos] X.env=(false,eval (.Call (.Name "set" p2) [o] [] cpos) X.env)::starEach [] X.env:=by rfl) (hpl:(backTo pos (starEach [] X.env)).any (·.1)=false:=by rfl) :
  QE X (.Call (.Name "sorted" p1) [.Call (.Name "set" p2) [o] [] cpos] [] pos) (da co):=
 (gC (rq hcm) hg hm OG.eF (cZ (iU (FA hcm hu) hg2 hm2 wI (cZ ho gD he1) (by decide) (by decide) he1 hpl1) gD he) (by decide) (by decide) he hpl).imp fun σ H Q hz=>fU hz fun m ρ S u S' sr lr hc post=>by
  obtain⟨⟨x,S1⟩,h1,h⟩:=Option.bind_eq_some_iff.mp hc
  refine⟨m,ρ,S,x,S1,sr,lr,h1,fun m1 v1 H1 e1 sr1 i1=>?_⟩
  cases x with
  |ref l=>
   simp only at h
   split at h<;>try cases h
   rename_i us hS
   obtain⟨ps,hn,h⟩:=Option.bind_eq_some_iff.mp h
   split at h<;>try cases h
   have hcc:ps.length<=1200:=by assumption
   obtain⟨a,ha,rfl⟩:=i1.of_ref
   obtain⟨a',ha',xs,hx,la⟩:=sr1.get hS
   rw[ha]at ha';cases ha'
   rw[k8 hn]at la
   have pr:=xy la
   refine⟨a,xs,ps,rfl,SqL.of hx,pr,hcc,fun lS es ep t zs qs hl vz pz nd mem hq=>?_⟩
   have sm:pN H1 (upd H1 lS (BA X.w lS es ep t)):=eR hl _
   refine⟨lS,es,ep,t,zs,qs,rfl,aH,vz,nR sm pz,nd,hq,fun l zs' ps' q hl2 pz' pp aq=>?_⟩
   have il:=qU (m:=m1) pz' q.toList (dq aq.1)
   have e:(q.toList.map fun i=>pP (ps'.getD i (0,0)))=(dz ps).map pP:=by rw[wM aq pp mem,List.map_map];rfl
   rw[e]at il
   exact bC (sr1.same sm) il (post.mono (e1.trans (.of (bP sm)))) hl2
  |_=>cases h
abbrev Eb(I O p:Addr)(fl:Bool):Obj:={ cls:=.type "zip",dict:=none,data:=.fields #[rawInt (p:Nat),.bool fl,.bool false,.ref I,.ref O],slots:=#[] }
structure ZM(b d:Bool)(h:Heap)(z I O i j a c p:Addr)(fl:Bool)(n:Nat):Prop where
 hz:h.get? z=some (Eb I O p fl)
 hI:IsPair h I (.ref i) (.ref j)
 hO:∃p q,IsPair h O p q
 h1:SI b h i a n
 h2:SI d h j c n
 hp:∃o,h.get? p=some o
 pz:p≠z/\p≠i/\p≠j
section
variable{prog:Program}{w:World}{A:Around}{E:Value->Shared->Prop}{s:Shared}{b d:Bool}{z I O i j a c p:Addr}{fl:Bool}{n:Nat}{xs ys:Array Value}{x y:Value}
theorem wO{a:Addr}{Q:Option Obj->Shared->Prop}(h:Q (s.heap.get? a) s):wpAny (model prog w) A (loadIfAlive a) Q E s:=by
 have k:wpAny (model prog w) A (pure (s.heap.get? a)) Q E s:=wpAny_pure h
 unfold wpAny loadIfAlive at *
 simp only[Sem.wp_loadIfAlive]
 exact k
theorem sy(hz:s.heap.get? z=some (Eb I O p fl))(hp:∃o,s.heap.get? p=some o){Q:Bool->Shared->Prop}(k:∀h',h'.get? z=some (Eb I O p true)->Heap.SameBut z s.heap h'->Q false { s with heap:=h' }):wpAny (model prog w) A (Builtin.SmallTypes.ownedTupleIsFree (.ref z)) Q E s:=by
 obtain⟨o,ho⟩:=hp
 unfold Builtin.SmallTypes.ownedTupleIsFree
 refine wpAny_bind (wpAny_field hz rfl (x:=rawInt (p:Nat)) rfl ?_)
 show wpAny _ _ (loadIfAlive ((p:Int).toNat) >>= _) _ _ _
 rw[Int.toNat_natCast]
 refine wpAny_bind (wO ?_)
 rw[ho]
 simp only[Option.isNone_some,Bool.false_eq_true,if_false]
 refine wpAny_bind (wpAny_field hz rfl (x:=.bool fl) rfl ?_)
 cases fl with
 |false=>
  rw[if_pos (by decide)]
  exact wpAny_bind (wpAny_setField_rec hz (by simp) fun h' z1 s1=>wpAny_pure (k h' z1 s1))
 |true=>
  rw[if_neg (by decide)]
  have e:s={ s with heap:=s.heap }:=by cases s;rfl
  rw[e]
  exact wpAny_pure (k s.heap hz (Heap.SameBut.refl _ _))
theorem ue(D:ZA z I O i j a c)(st:ZM b d s.heap z I O i j a c p fl n)(ha:SA b s.heap a xs)(hc:SA d s.heap c ys)(hx:xs[n]?=some x)(hy:ys[n]?=some y){Q:Value->Shared->Prop}
  (k:∀h',ZM b d h' z I O i j a c p true (n+1)->IsPair h' s.heap.objs.size x y->
   (∀e o,e≠z->e≠i->e≠j->s.heap.get? e=some o->h'.get? e=some o)->Q (.ref s.heap.objs.size) { s with heap:=h' }) :
  wpAny (model prog w) A (Builtin.«zip.__next__» ⟨[.ref z],[]⟩) (fun fin s'=>∃v,fin=.done (.ret v)/\Q v s') E s:=by
 obtain⟨hz,hI,hO,h1,h2,hp,pz,pi,pj⟩:=st
 show wpAny _ _ (field (.ref z) 2 >>= _) _ _ _
 refine wpAny_bind (wpAny_field hz rfl (x:=.bool false) rfl ?_)
 show wpAny _ _ (field (.ref z) 3 >>= _) _ _ _
 refine wpAny_bind (wpAny_field hz rfl (x:=.ref I) rfl ?_)
 refine wpAny_bind (wpAny_seqItems hI rfl ?_)
 show wpAny _ _ (Builtin.SmallTypes.ownedTupleIsFree (.ref z) >>= _) _ _ _
 refine wpAny_bind (sy hz hp fun g1 z1 s1=>?_)
 simp only[Bool.false_eq_true,if_false]
 refine wpAny_bind ?_
 rw[<-Array.forIn_toList]
 simp only[List.forIn_cons,List.forIn_nil]
 refine wpAny_bind (wpAny_bind (wpAny_holding ?_))
 show wpAny _ _ (Builtin.SmallTypes.nextOf (.ref i) >>= _) _ _ _
 refine wpAny_bind (ft (b:=b) (h1.at_ fun o e=>s1.extBut _ _ D.iz e) (ha.at_ fun o e=>s1.extBut _ _ D.az e) hx fun g2 i2 s2=>wpAny_pure (wpAny_pure ?_))
 have up2:∀e o,e≠z->e≠i->s.heap.get? e=some o->g2.get? e=some o:=fun e o u1 u2 q=>s2.extBut _ _ u2 (s1.extBut _ _ u1 q)
 refine wpAny_bind (wpAny_bind (wpAny_holding ?_))
 show wpAny _ _ (Builtin.SmallTypes.nextOf (.ref j) >>= _) _ _ _
 refine wpAny_bind (ft (b:=d) (h2.at_ fun o e=>up2 _ _ D.jz D.ij.symm e) (hc.at_ fun o e=>up2 _ _ D.cz D.ci e) hy fun g3 j3 s3=>wpAny_pure (wpAny_pure (wpAny_pure ?_)))
 have up3:∀e o,e≠z->e≠i->e≠j->s.heap.get? e=some o->g3.get? e=some o:=fun e o u1 u2 u3 q=>s3.extBut _ _ u3 (up2 e o u1 u2 q)
 have sz:g3.objs.size=s.heap.objs.size:=by rw[s3.1,s2.1,s1.1]
 dsimp only
 refine wpAny_bind (wpAny_newTuple (wpAny_pure ⟨_,rfl,?_⟩) (show 2<=sizeLine by decide))
 have T:IsPair (g3.push { cls:=.type "tuple",data:=.seq #[x,y] }) g3.objs.size x y:=Heap.get?_push_size _ rfl
 rw[sz]at T
 show Q (.ref g3.objs.size) _
 rw[sz]
 obtain⟨o,ho⟩:=hp
 refine k _ ⟨Heap.get?_push_of_some _ (s3.extBut _ _ D.jz.symm (s2.extBut _ _ D.iz.symm z1)),Heap.get?_push_of_some _ (up3 _ _ D.Iz D.Ii D.Ij hI),let ⟨u,v,q⟩:=hO;⟨u,v,Heap.get?_push_of_some _ (up3 _ _ D.Oz D.Oi D.Oj q)⟩,i2.at_ fun o e=>Heap.get?_push_of_some _ (s3.extBut _ _ D.ij e),j3.at_ fun o e=>Heap.get?_push_of_some _ e,⟨o,Heap.get?_push_of_some _ (up3 _ _ pz pi pj ho)⟩,pz,pi,pj⟩ T fun e o u1 u2 u3 q=>Heap.get?_push_of_some _ (up3 e o u1 u2 u3 q)
theorem uc(hh:A.handled=none)(D:ZA z I O i j a c)(st:ZM b d s.heap z I O i j a c p fl n)(ha:SA b s.heap a xs)(hc:SA d s.heap c ys)(hn:xs[n]?=none\/ys[n]?=none){Q:PySem.Fin->Shared->Prop}
  (k:∀h' e,(∀c o,c≠z->c≠i->c≠j->s.heap.get? c=some o->h'.get? c=some o)->(∃o,h'.get? e=some o/\o.cls=.type "StopIteration")->E (.ref e) { s with heap:=h' }) :
  wpAny (model prog w) A (Builtin.«zip.__next__» ⟨[.ref z],[]⟩) Q E s:=by
 obtain⟨hz,hI,hO,h1,h2,hp,pz,pi,pj⟩:=st
 show wpAny _ _ (field (.ref z) 2 >>= _) _ _ _
 refine wpAny_bind (wpAny_field hz rfl (x:=.bool false) rfl ?_)
 show wpAny _ _ (field (.ref z) 3 >>= _) _ _ _
 refine wpAny_bind (wpAny_field hz rfl (x:=.ref I) rfl ?_)
 refine wpAny_bind (wpAny_seqItems hI rfl ?_)
 show wpAny _ _ (Builtin.SmallTypes.ownedTupleIsFree (.ref z) >>= _) _ _ _
 refine wpAny_bind (sy hz hp fun g1 z1 s1=>?_)
 simp only[Bool.false_eq_true,if_false]
 refine wpAny_bind ?_
 rw[<-Array.forIn_toList]
 simp only[List.forIn_cons,List.forIn_nil]
 refine wpAny_bind (wpAny_bind (wpAny_holding ?_))
 show wpAny _ _ (Builtin.SmallTypes.nextOf (.ref i) >>= _) _ _ _
 cases hx:xs[n]? with
 |none=>
  refine wpAny_bind (c0 (b:=b) hh (h1.at_ fun o e=>s1.extBut _ _ D.iz e) (ha.at_ fun o e=>s1.extBut _ _ D.az e) hx fun g2 e s2 he=>?_)
  exact k g2 e (fun c o u1 u2 _ q=>s2 _ _ u2 (s1.extBut _ _ u1 q)) he
 |some x=>
  have hy:ys[n]?=none:=by rcases hn with v|v;rw[hx]at v;cases v;exact v
  refine wpAny_bind (ft (b:=b) (h1.at_ fun o e=>s1.extBut _ _ D.iz e) (ha.at_ fun o e=>s1.extBut _ _ D.az e) hx fun g2 i2 s2=>wpAny_pure (wpAny_pure ?_))
  have up2:∀e o,e≠z->e≠i->s.heap.get? e=some o->g2.get? e=some o:=fun e o u1 u2 q=>s2.extBut _ _ u2 (s1.extBut _ _ u1 q)
  refine wpAny_bind (wpAny_bind (wpAny_holding ?_))
  show wpAny _ _ (Builtin.SmallTypes.nextOf (.ref j) >>= _) _ _ _
  refine wpAny_bind (c0 (b:=d) hh (h2.at_ fun o e=>up2 _ _ D.jz D.ij.symm e) (hc.at_ fun o e=>up2 _ _ D.cz D.ci e) hy fun g3 e s3 he=>?_)
  exact k g3 e (fun c o u1 u2 u3 q=>s3 _ _ u3 (up2 c o u1 u2 q)) he
def ZW(b d:Bool)(h:Heap)(z I O i j a c:Addr)(n:Nat):Prop:=(n=0/\ZSt b d h z I O i j a c .none 0)\/∃p fl,ZM b d h z I O i j a c p fl n
theorem ZW.ty{s:Shared}(st:ZW b d s.heap z I O i j a c n):s.TypeIs (.ref z) "zip":=by
 rcases st with⟨_,st⟩|⟨p,fl,st⟩
 ·exact⟨_,st.hz,rfl⟩
 ·exact⟨_,st.hz,rfl⟩
theorem ya(D:ZA z I O i j a c)(hlt:z<s.heap.objs.size/\i<s.heap.objs.size/\j<s.heap.objs.size)(st:ZW b d s.heap z I O i j a c n)(ha:SA b s.heap a xs)(hc:SA d s.heap c ys)(hx:xs[n]?=some x)(hy:ys[n]?=some y){Q:Option Value->Shared->Prop}
  (k:∀h',ZW b d h' z I O i j a c (n+1)->IsPair h' s.heap.objs.size x y->
   (∀e o,e≠z->e≠O->e≠i->e≠j->s.heap.get? e=some o->h'.get? e=some o)->Q (some (.ref s.heap.objs.size)) { s with heap:=h' }):wpAny (model prog w) A (pyNext (.ref z)) Q E s:=by
 have ty:=st.ty
 rcases st with⟨rfl,st⟩|⟨p,fl,st⟩
 ·refine ud D st ha hc hx hy fun h' st' T up=>k h' (.inr ⟨s.heap.objs.size,false,st'.hz,st'.hI,st'.hO,st'.h1,st'.h2,⟨_,T⟩,Nat.ne_of_gt hlt.1,Nat.ne_of_gt hlt.2.1,Nat.ne_of_gt hlt.2.2⟩) T up
 ·unfold pyNext
  exact wpAny_bind (wpAny_attempt (wpAny_callSpecial?_slot (name:=Str.ofString "__next__") ty PySem.F.slot_zip_next (wpAny_call_entry PySem.F.slot_zip_next ty PySem.F.entry_zip_next
   (ue D st ha hc hx hy fun h' a1 a2 a3=>wpAny_pure (k h' (.inr ⟨p,true,a1⟩) a2 fun e o u1 _ u3 u4 q=>a3 e o u1 u3 u4 q)) (PySem.F.args_zip_next_1 _))))
theorem Ay(hh:A.handled=none)(D:ZA z I O i j a c)(st:ZW b d s.heap z I O i j a c n)(ha:SA b s.heap a xs)(hc:SA d s.heap c ys)(hn:xs[n]?=none\/ys[n]?=none){Q:Option Value->Shared->Prop}
  (k:∀h',(∀c o,c≠z->c≠O->c≠i->c≠j->s.heap.get? c=some o->h'.get? c=some o)->Q none { s with heap:=h' }):wpAny (model prog w) A (pyNext (.ref z)) Q E s:=by
 have ty:=st.ty
 rcases st with⟨rfl,st⟩|⟨p,fl,st⟩
 ·exact yd hh D st ha hc hn k
 ·unfold pyNext
  refine wpAny_bind (wpAny_attempt (wpAny_callSpecial?_slot (name:=Str.ofString "__next__") ty PySem.F.slot_zip_next (wpAny_call_entry PySem.F.slot_zip_next ty PySem.F.entry_zip_next
   (uc (show A.in1.handled=none from hh) D st ha hc hn fun h' e up he=>?_) (PySem.F.args_zip_next_1 _))))
  obtain⟨o,ge,ce⟩:=he
  exact wpAny_bind (wpAny_isInstance (T:="StopIteration") (b:=true) ⟨o,ge,ce⟩ isSubtype_stop (wpAny_pure (k h' fun c o u1 _ u3 u4 q=>up c o u1 u3 u4 q)))
end
abbrev lsO(acc:Array Value)(c:Nat):Obj:={ cls:=.type "list",dict:=none,data:=.seq acc c,slots:=#[] }
structure Zd(h0 h:Heap)(xs ys:Array Value)(as:List Addr):Prop where
 pr:∀(k:Nat) (p:Addr),as[k]?=some p->∃x y,IsPair h p x y/\xs[k]?=some x/\ys[k]?=some y
 up:as.Pairwise (· < ·)
 lt:∀p∈as,h0.objs.size<=p
section
variable{prog:Program}{w:World}{A:Around}{E:Value->Shared->Prop}{s:Shared}{b d:Bool}{z I O i j a c S:Addr}{n:Nat}{xs ys:Array Value}
theorem Zd.snoc{h0 h h':Heap}{as:List Addr}{x y:Value}(Z:Zd h0 h xs ys as)(keep:∀p∈as,∀o,h.get? p=some o->h'.get? p=some o)(le:h0.objs.size<=h.objs.size)(T:IsPair h' h.objs.size x y)(hx:xs[as.length]?=some x)(hy:ys[as.length]?=some y):Zd h0 h' xs ys (as++[h.objs.size]):=by
 refine⟨fun k p g=>?_,?_,fun p hp=>?_⟩
 ·rcases Nat.lt_or_ge k as.length with l|l
  ·rw[List.getElem?_append_left l]at g
   obtain⟨u,v,t,e⟩:=Z.pr k p g
   exact⟨u,v,keep p (List.mem_of_getElem? g) _ t,e⟩
  ·rw[List.getElem?_append_right l]at g
   have:k-as.length=0:=by
    rcases Nat.eq_zero_or_pos (k-as.length)with z|z
    ·exact z
    ·rw[List.getElem?_eq_none (by simp;omega)]at g;cases g
   rw[this]at g
   cases g
   obtain rfl:k=as.length:=by omega
   exact⟨x,y,T,hx,hy⟩
 ·refine List.pairwise_append.mpr ⟨Z.up,List.pairwise_singleton _ _,fun p hp q hq=>?_⟩
  rw[List.mem_singleton.mp hq]
  obtain⟨k,g⟩:=List.getElem?_of_mem hp
  obtain⟨_,_,t,_⟩:=Z.pr k p g
  exact Heap.lt_size t
 ·rcases List.mem_append.mp hp with l|l
  ·exact Z.lt p l
  ·rw[List.mem_singleton.mp l];exact le
theorem ZW.keep{h h':Heap}(st:ZW b d h z I O i j a c n)(m:∀e o,e≠S->h.get? e=some o->h'.get? e=some o)(ex:∃o,h'.get? S=some o)(ns:∀e∈[z,I,O,i,j],e≠S):ZW b d h' z I O i j a c n:=by
 have k:∀e∈[z,I,O,i,j],∀o,h.get? e=some o->h'.get? e=some o:=fun e he o=>m e o (ns e he)
 rcases st with⟨e,st⟩|⟨p,fl,st⟩
 ·exact .inl ⟨e,st.at_ k⟩
 ·refine .inr ⟨p,fl,k z (by simp) _ st.hz,k I (by simp) _ st.hI,let ⟨u,v,q⟩:=st.hO;⟨u,v,k O (by simp) _ q⟩,st.h1.at_ fun o e=>k i (by simp) o e,st.h2.at_ fun o e=>k j (by simp) o e,?_,st.pz⟩
  obtain⟨o,ho⟩:=st.hp
  by_cases c:p=S
  ·rw[c];exact ex
  ·exact⟨o,m p o c ho⟩
theorem yb{R:Result->Shared->Prop}{h0:Heap}(hh:A.handled=none)(D:ZA z I O i j a c)(res:Value)(ge:∀e∈[z,I,O,i,j,S],h0.objs.size<=e)(nS:∀e∈[z,I,O,i,j,a,c],e≠S)(hz:xs.size<=9000) :
  ∀(k n:Nat) (s:Shared) (as:List Addr) (cc:Nat),min xs.size ys.size-n=k->n<=min xs.size ys.size->as.length=n->ZW b d s.heap z I O i j a c n->SA b s.heap a xs->SA d s.heap c ys->s.heap.get? S=some (lsO (as.map Value.ref).toArray cc)->Zd h0 s.heap xs ys as->(∀p∈as,p∉[z,O,i,j,S])->(∀e∈[z,I,O,i,j],e<s.heap.objs.size)->(∀e o,h0.get? e=some o->s.heap.get? e=some o)->
  (∀h' as' cc',as'.length=min xs.size ys.size->h'.get? S=some (lsO (as'.map Value.ref).toArray cc')->Zd h0 h' xs ys as'->S∉as'->(∀e o,h0.get? e=some o->h'.get? e=some o)->R (.ok (.ret res)) { s with heap:=h' })->
  codeAny (model prog w) A (.builtin "list.extend.loop" ⟨[.ref S,.ref z,res],[]⟩) R s:=by
 intro k
 induction k with
 |zero=>
  intro n s as cc hk hn la st ha hc hS Z na lt old hR
  have hm:n=min xs.size ys.size:=by omega
  refine codeAny_builtin PySem.F.entry_extend_loop ?_
  rw[Around.under_plainId PySem.F.plain_extend_loop _]
  change wpAny _ A.in1 (pyNext (.ref z) >>= _) _ _ s
  have hend:xs[n]?=none\/ys[n]?=none:=by
   rcases Nat.le_total xs.size ys.size with l|l
   ·exact .inl (Array.getElem?_eq_none (by rw[Nat.min_eq_left l]at hm;omega))
   ·exact .inr (Array.getElem?_eq_none (by rw[Nat.min_eq_right l]at hm;omega))
  refine wpAny_bind (Ay (show A.in1.handled=none from hh) D st ha hc hend fun h' up=>wpAny_pure ?_)
  have up':∀e o,e∉[z,O,i,j]->s.heap.get? e=some o->h'.get? e=some o:=fun e o ne g=>by
   simp only[List.mem_cons,List.not_mem_nil,or_false,not_or]at ne
   exact up e o ne.1 ne.2.1 ne.2.2.1 ne.2.2.2 g
  refine hR h' as cc (by rw[la,hm]) (up' S _ (fun z'=>nS S (by simp at z' ⊢;rcases z' with r|r|r|r<;>simp[r]) rfl) hS) ⟨fun q p g=>?_,Z.up,Z.lt⟩ (fun z'=>na S z' (by simp)) fun e o g=>up' e o (fun z'=>?_) (old e o g)
  ·obtain⟨x,y,t,r⟩:=Z.pr q p g
   exact⟨x,y,up' p _ (fun z'=>na p (List.mem_of_getElem? g) (by simp at z' ⊢;rcases z' with r|r|r|r<;>simp[r])) t,r⟩
  ·have:=ge e (by simp at z' ⊢;rcases z' with r|r|r|r<;>simp[r])
   exact absurd (Heap.lt_size g) (Nat.not_lt.mpr this)
 |succ k ih=>
  intro n s as cc hk hn la st ha hc hS Z na lt old hR
  have l1:n<xs.size:=by omega
  have l2:n<ys.size:=by omega
  refine codeAny_builtin PySem.F.entry_extend_loop ?_
  rw[Around.under_plainId PySem.F.plain_extend_loop _]
  change wpAny _ A.in1 (pyNext (.ref z) >>= _) _ _ s
  refine wpAny_bind (ya D ⟨lt z (by simp),lt i (by simp),lt j (by simp)⟩ st ha hc (Array.getElem?_eq_getElem l1) (Array.getElem?_eq_getElem l2) fun h' st' T up=>?_)
  have up':∀e o,e∉[z,O,i,j]->s.heap.get? e=some o->h'.get? e=some o:=fun e o ne g=>by
   simp only[List.mem_cons,List.not_mem_nil,or_false,not_or]at ne
   exact up e o ne.1 ne.2.1 ne.2.2.1 ne.2.2.2 g
  have m4:∀{e:Addr},e∈[z,O,i,j]->e∈[z,O,i,j,S]:=fun{e} z'=>by simp at z' ⊢;rcases z' with r|r|r|r<;>simp[r]
  have m5:∀{e:Addr},e∈[z,O,i,j]->e∈[z,I,O,i,j]:=fun{e} z'=>by simp at z' ⊢;rcases z' with r|r|r|r<;>simp[r]
  have m6:∀{e:Addr},e∈[z,I,O,i,j]->e∈[z,I,O,i,j,S]:=fun{e} z'=>by simp at z' ⊢;rcases z' with r|r|r|r|r<;>simp[r]
  have m7:∀{e:Addr},e∈[z,I,O,i,j]->e∈[z,I,O,i,j,a,c]:=fun{e} z'=>by simp at z' ⊢;rcases z' with r|r|r|r|r<;>simp[r]
  have le0:h0.objs.size<=s.heap.objs.size:=Nat.le_of_lt (Nat.lt_of_le_of_lt (ge z (by simp)) (lt z (by simp)))
  have hS':h'.get? S=some (lsO (as.map Value.ref).toArray cc):=up' S _ (fun z'=>nS S (m7 (m5 z')) rfl) hS
  have nTS:s.heap.objs.size≠S:=Nat.ne_of_gt (Heap.lt_size hS)
  have Z1:=Z.snoc (fun p hp o g=>up' p o (fun z'=>na p hp (m4 z')) g) le0 T (by rw[la];exact Array.getElem?_eq_getElem l1) (by rw[la];exact Array.getElem?_eq_getElem l2)
  change wpAny _ A.in1 (updateSeq S (·.push (Value.ref s.heap.objs.size)) >>= _) _ _ _
  refine wpAny_bind (wpAny_updateSeq hS' rfl ?_ (by simp;unfold sizeLine;omega) (by simp;unfold sizeLine;omega))
  have oth:∀e o,e≠S->h'.get? e=some o->(h'.update S (Obj.mapSeq (·.push (Value.ref s.heap.objs.size)))).get? e=some o:=fun e o ne g=>(Heap.get?_update_other _ _ (Ne.symm ne)).trans g
  obtain⟨cc',gS3⟩:∃cc',(h'.update S (Obj.mapSeq (·.push (Value.ref s.heap.objs.size)))).get? S=some (lsO ((as++[s.heap.objs.size]).map Value.ref).toArray cc'):=by
   have e:((as++[s.heap.objs.size]).map Value.ref).toArray=(as.map Value.ref).toArray.push (Value.ref s.heap.objs.size):=by rw[List.map_append,List.map_singleton,<-List.push_toArray]
   rw[e]
   exact⟨_,get?_update_seq hS' (·.push (Value.ref s.heap.objs.size))⟩
  have keepS:∀p∈as++[s.heap.objs.size],p≠S:=fun p hp=>by
   rcases List.mem_append.mp hp with l|l
   ·exact fun e=>na p l (by simp[e])
   ·rw[List.mem_singleton.mp l];exact nTS
  refine wpAny_pure ⟨plainId_quiet PySem.F.plain_extend_loop _,ih (n+1) _ (as++[s.heap.objs.size]) cc' (by omega) (by omega) (by rw[List.length_append,la];rfl) (st'.keep (S:=S) oth ⟨_,gS3⟩ fun e he=>nS e (m7 he)) (ha.at_ fun o g=>oth a o (nS a (by simp)) (up a o D.az D.aO D.ai D.aj g)) (hc.at_ fun o g=>oth c o (nS c (by simp)) (up c o D.cz D.cO D.ci D.cj g)) gS3 ⟨fun q p g=>?_,Z1.up,Z1.lt⟩ (fun p hp=>?_) (fun e he=>?_) (fun e o g=>oth e o ?_ (up' e o (fun z'=>absurd (Heap.lt_size g) (Nat.not_lt.mpr (ge e (m6 (m5 z'))))) (old e o g))) hR⟩
  ·obtain⟨x,y,t,r⟩:=Z1.pr q p g
   exact⟨x,y,oth p _ (keepS p (List.mem_of_getElem? g)) t,r⟩
  ·rcases List.mem_append.mp hp with l|l
   ·exact na p l
   ·rw[List.mem_singleton.mp l]
    intro z'
    have:s.heap.objs.size∈[z,I,O,i,j]\/s.heap.objs.size=S:=by simp at z' ⊢;rcases z' with r|r|r|r|r<;>simp[r]
    rcases this with r|r
    ·exact Nat.lt_irrefl _ (lt _ r)
    ·exact nTS r
  ·rw[Heap.size_update]
   have T':s.heap.objs.size<h'.objs.size:=Heap.lt_size T
   exact Nat.lt_trans (lt e he) T'
  ·exact fun z'=>absurd (Heap.lt_size g) (Nat.not_lt.mpr (ge e (by simp[z'])))
end
theorem pT:typeLookup (.type "zip") "__len__"=pure none:=by rw[typeLookup_type,builtinLookup_eq_fast];kernel_rfl
theorem oS:typeLookup (.type "zip") "__length_hint__"=pure none:=by rw[typeLookup_type,builtinLookup_eq_fast];kernel_rfl
section
variable{prog:Program}{w:World}{A:Around}{E:Value->Shared->Prop}{s:Shared}{b d:Bool}{z I O i j a c S:Addr}{n:Nat}{xs ys:Array Value}
theorem Af{R:Result->Shared->Prop}{h0:Heap}(hh:A.handled=none)(D:ZA z I O i j a c)(res:Value)(ge:∀e∈[z,I,O,i,j,S],h0.objs.size<=e)(nS:∀e∈[z,I,O,i,j,a,c],e≠S)(hz:xs.size<=9000){cc:Nat}
  (st:ZSt b d s.heap z I O i j a c .none 0) (ha:SA b s.heap a xs) (hc:SA d s.heap c ys) (hS:s.heap.get? S=some (lsO #[] cc)) (lt:∀e∈[z,I,O,i,j],e<s.heap.objs.size) (old:∀e o,h0.get? e=some o->s.heap.get? e=some o)
  (hR:∀h' as' cc',as'.length=min xs.size ys.size->h'.get? S=some (lsO (as'.map Value.ref).toArray cc')->Zd h0 h' xs ys as'->S∉as'->(∀e o,h0.get? e=some o->h'.get? e=some o)->R (.ok (.ret res)) { s with heap:=h' }) :
  wpAny (model prog w) A.in1 (Builtin.List.listExtendWith (.ref S) (.ref z) res)
   (fun fin s'=>match fin with|.done f=>R (.ok f) s'|.again c'=>c'.quiet=true/\codeAny (model prog w) A c' R s') (fun e s'=>R (.error e) s') s:=by
 have T:s.TypeIs (.ref z) "zip":=⟨_,st.hz,rfl⟩
 unfold Builtin.List.listExtendWith
 refine wpAny_bind (wpAny_typeOf T ?_)
 have x1:Builtin.List.listSameRef (.ref S) (.ref z)=false:=by simp[Builtin.List.listSameRef];exact fun e=>nS z (by simp) e.symm
 have x2:(Value.type "zip" == Value.type "list")=false:=by decide
 have x3:(Value.type "zip" == Value.type "tuple")=false:=by decide
 simp only[x1,x2,x3,Bool.or_false,Bool.false_eq_true,if_false]
 refine wpAny_bind (wpAny_pyIter_zip st.hz ?_)
 refine wpAny_bind (wpAny_holding ?_)
 unfold Builtin.List.listLengthHint
 refine wpAny_bind (wpAny_specialOf T pT ?_)
 change wpAny _ A.in1 (specialOf (Value.ref z) (Str.ofString "__length_hint__") >>= _) _ _ _
 refine wpAny_bind (wpAny_specialOf T oS (wpAny_pure ?_))
 rw[Bool.true_or,if_pos rfl]
 refine wpAny_bind (wpAny_rule (wpAny_bind ?_))
 change wpAny _ A.in1 (updateSeq S (·.push Value.none) >>= fun _=>updateSeq S (·.pop)) _ _ _
 refine wpAny_bind (wpAny_updateSeq hS rfl ?_)
 have g1:=get?_update_seq hS (·.push Value.none)
 refine wpAny_updateSeq (hz:=by seq_fits) g1 rfl ?_
 have g2:=get?_update_seq g1 (·.pop)
 have oth:∀e o,e≠S->s.heap.get? e=some o->((s.heap.update S (Obj.mapSeq (·.push Value.none))).update S (Obj.mapSeq (·.pop))).get? e=some o:=fun e o ne g=>(Heap.get?_update_other _ _ (Ne.symm ne)).trans ((Heap.get?_update_other _ _ (Ne.symm ne)).trans g)
 have m7:∀{e:Addr},e∈[z,I,O,i,j]->e∈[z,I,O,i,j,a,c]:=fun{e} z'=>by simp at z' ⊢;rcases z' with r|r|r|r|r<;>simp[r]
 refine wpAny_pure ⟨plainId_quiet PySem.F.plain_extend_loop _,yb hh D res ge nS hz (min xs.size ys.size-0) 0 _ [] _ (by omega) (Nat.zero_le _) rfl (.inl ⟨rfl,st.at_ fun e he o g=>oth e o (nS e (m7 he)) g⟩) (ha.at_ fun o g=>oth a o (nS a (by simp)) g) (hc.at_ fun o g=>oth c o (nS c (by simp)) g) g2 ⟨fun k p g=>by simp at g,.nil,fun p hp=>by cases hp⟩ (fun p hp=>by cases hp) (fun e he=>?_) (fun e o g=>oth e o (fun z'=>absurd (Heap.lt_size g) (Nat.not_lt.mpr (ge e (by simp[z'])))) (old e o g)) hR⟩
 rw[Heap.size_update,Heap.size_update]
 exact lt e he
theorem wa{R:Result->Shared->Prop}{h0:Heap}(hh:A.handled=none)(D:ZA z I O i j a c)(ge:∀e∈[z,I,O,i,j,S],h0.objs.size<=e)(nS:∀e∈[z,I,O,i,j,a,c],e≠S)(hz:xs.size<=9000)
  (st:ZSt b d s.heap z I O i j a c .none 0) (ha:SA b s.heap a xs) (hc:SA d s.heap c ys) (hS:s.heap.get? S=some (lsO #[] 0)) (lt:∀e∈[z,I,O,i,j],e<s.heap.objs.size) (old:∀e o,h0.get? e=some o->s.heap.get? e=some o)
  (hR:∀h' as' cc',as'.length=min xs.size ys.size->h'.get? S=some (lsO (as'.map Value.ref).toArray cc')->Zd h0 h' xs ys as'->S∉as'->(∀e o,h0.get? e=some o->h'.get? e=some o)->R (.ok (.ret .none)) { s with heap:=h' }) :
  wpAny (model prog w) A.in1 (Builtin.«list.__init__» ⟨[.ref S,.ref z],[]⟩)
   (fun fin s'=>match fin with|.done f=>R (.ok f) s'|.again c'=>c'.quiet=true/\codeAny (model prog w) A c' R s') (fun e s'=>R (.error e) s') s:=by
 change wpAny _ A.in1 (Builtin.List.listItems (.ref S) >>= fun old=>Builtin.List.listUpdate (.ref S) (fun _=>#[]) >>= fun _=>letGo old.toList.reverse >>= fun _=>Builtin.List.listExtendWith (.ref S) (.ref z) .none) _ _ s
 refine wpAny_bind ?_
 unfold Builtin.List.listItems
 refine wpAny_bind (wpAny_seqItems hS rfl (wpAny_pure ?_))
 change wpAny _ A.in1 (updateSeq S (fun _=>#[]) >>= _) _ _ s
 refine wpAny_bind (wpAny_updateSeq hS rfl (wpAny_bind (wpAny_letGo ?_)))
 have g1:=get?_update_seq hS (fun _=>(#[]:Array Value))
 have oth:∀e o,e≠S->s.heap.get? e=some o->(s.heap.update S (Obj.mapSeq (fun _=>(#[]:Array Value)))).get? e=some o:=fun e o ne g=>(Heap.get?_update_other _ _ (Ne.symm ne)).trans g
 have m7:∀{e:Addr},e∈[z,I,O,i,j]->e∈[z,I,O,i,j,a,c]:=fun{e} z'=>by simp at z' ⊢;rcases z' with r|r|r|r|r<;>simp[r]
 refine Af hh D .none ge nS hz (st.at_ fun e he o g=>oth e o (nS e (m7 he)) g) (ha.at_ fun o g=>oth a o (nS a (by simp)) g) (hc.at_ fun o g=>oth c o (nS c (by simp)) g) g1 (fun e he=>?_) (fun e o g=>oth e o (fun z'=>absurd (Heap.lt_size g) (Nat.not_lt.mpr (ge e (by simp[z'])))) (old e o g)) hR
 rw[Heap.size_update]
 exact lt e he
theorem vQ{Q:Value->Shared->Prop}{h0:Heap}(hh:A.handled=none)(D:ZA z I O i j a c)(ge:∀e∈[z,I,O,i,j],h0.objs.size<=e)(hz:xs.size<=9000)
  (st:ZSt b d s.heap z I O i j a c .none 0) (ha:SA b s.heap a xs) (hc:SA d s.heap c ys) (old:∀e o,h0.get? e=some o->s.heap.get? e=some o)
  (q:∀h' as cc,as.length=min xs.size ys.size->h'.get? s.heap.objs.size=some (lsO (as.map Value.ref).toArray cc)->Zd h0 h' xs ys as->s.heap.objs.size∉as->(∀e o,h0.get? e=some o->h'.get? e=some o)->Q (.ref s.heap.objs.size) { s with heap:=h' }) :
  wpAny (model prog w) A (call (.type "list") [.ref z]) Q E s:=by
 have lt:∀e∈[z,I,O,i,j],e<s.heap.objs.size:=fun e he=>by
  obtain⟨hz,hI,⟨p,q,hO⟩,h1',h2'⟩:=st
  simp only[List.mem_cons,List.not_mem_nil,or_false]at he
  rcases he with rfl|rfl|rfl|rfl|rfl
  ·exact Heap.lt_size hz
  ·exact Heap.lt_size hI
  ·exact Heap.lt_size hO
  ·obtain⟨o,e,_⟩:=h1'.obj;exact Heap.lt_size e
  ·obtain⟨o,e,_⟩:=h2'.obj;exact Heap.lt_size e
 refine callType_codes (Q₁:=fun v s1=>v=.ref s.heap.objs.size/\s1={ s with heap:=s.heap.push (lsO #[] 0) }) PySem.F.called_list (PySem.F.typeCall_list_1 _) PySem.F.entry_list_init (code_list_new _ ⟨rfl,rfl⟩) fun v s1 hv=>?_
 obtain⟨rfl,rfl⟩:=hv
 have gS:(s.heap.push (lsO #[] 0)).get? s.heap.objs.size=some (lsO #[] 0):=Heap.get?_push_size _ rfl
 have zle:h0.objs.size<=s.heap.objs.size:=Nat.le_of_lt (Nat.lt_of_le_of_lt (ge z (by simp)) (lt z (by simp)))
 refine⟨⟨_,gS,rfl⟩,PySem.F.args_list_init_2 _ _,wa (s:={ s with heap:=s.heap.push (lsO #[] 0) }) hh D (fun e he=>?_) (fun e he=>?_) hz (st.at_ fun e he o g=>Heap.get?_push_of_some _ g) (ha.at_ fun o g=>Heap.get?_push_of_some _ g) (hc.at_ fun o g=>Heap.get?_push_of_some _ g) gS (fun e he=>?_) (fun e o g=>Heap.get?_push_of_some _ (old e o g)) fun h' as cc la gl Z ns od=>⟨rfl,q h' as cc la gl Z ns od⟩⟩
 ·have:e∈[z,I,O,i,j]\/e=s.heap.objs.size:=by simp at he ⊢;rcases he with r|r|r|r|r|r<;>simp[r]
  rcases this with r|r
  ·exact ge e r
  ·rw[r];exact zle
 ·have:e∈[z,I,O,i,j]\/e=a\/e=c:=by simp at he ⊢;rcases he with r|r|r|r|r|r|r<;>simp[r]
  rcases this with r|r|r
  ·exact Nat.ne_of_lt (lt e r)
  ·rw[r];exact Nat.ne_of_lt ha.lt
  ·rw[r];exact Nat.ne_of_lt hc.lt
 ·rw[Heap.size_push]
  exact Nat.lt_succ_of_lt (lt e he)
end
def vR(H:Hp)(zs:List (Addr×(V×V))):Hp:=fun b=>match zs.find? (fun z=>decide (z.1=b))with
 |some z=>some (.tup [z.2.1,z.2.2])
 |none=>H b
theorem zQ{H:Hp}{zs:List (Addr×(V×V))}{z:Addr×(V×V)}(nd:(zs.map (·.1)).Nodup)(h:z∈zs):vR H zs z.1=some (.tup [z.2.1,z.2.2]):=by
 unfold vR
 have hf:zs.find? (fun y=>decide (y.1=z.1))=some z:=by
  induction zs with
  |nil=>cases h
  |cons y r ih=>
   rw[List.map_cons,List.nodup_cons]at nd
   rw[List.find?_cons]
   rcases List.mem_cons.mp h with e|hm
   ·subst e;simp
   ·have:y.1≠z.1:=fun e=>nd.1 (List.mem_map.mpr ⟨z,hm,e.symm⟩)
    rw[decide_eq_false this]
    exact ih nd.2 hm
 rw[hf]
theorem rP{H:Hp}{zs:List (Addr×(V×V))}{b:Addr}{u:HO}(h:vR H zs b=some u):(∃z∈zs,z.1=b/\u=.tup [z.2.1,z.2.2])\/((∀z∈zs,z.1≠b)/\H b=some u):=by
 unfold vR at h
 split at h
 ·rename_i z hz
  have h1:=List.mem_of_find?_eq_some hz
  have h2:=List.find?_some hz
  injection h with h
  exact .inl ⟨z,h1,of_decide_eq_true h2,h.symm⟩
 ·rename_i hz
  exact .inr ⟨fun z hm e=>by have:=List.find?_eq_none.mp hz z hm;simp[e]at this,h⟩
theorem mK{H:Hp}{zs:List (Addr×(V×V))}{b:Addr}(h:∀z∈zs,z.1≠b):vR H zs b=H b:=by
 unfold vR
 rw[List.find?_eq_none.mpr fun z hz=>by simpa using h z hz]
def tLZ(K:PySem.W.Frag)(ta:TA):TE:=fun σ H Q=>ta σ H fun vs H2=>∃(b d:Bool) (a c:Addr) (xs ys:List V),vs=[.ref a,.ref c]/\Sq K b H2 a xs/\Sq K d H2 c ys/\xs.length<=9000/\
 ∀(as:List Addr) (l:Addr) (H3:Hp),pN H2 H3->H3 l=none->as.length=min xs.length ys.length->(∀(k:Nat) (p:Addr),as[k]?=some p->∃x y,xs[k]?=some x/\ys[k]?=some y/\H3 p=some (.tup [x,y]))->Q (.ref l) (upd H3 l (.lst (as.map V.ref)))
section
variable{X:Cx}{pos pos2:Pos}
theorem mx{p p2:Pos}{a c:Expr}{ta:TA}(hcm:X.calm=true)(hgL:L2.Gl X "list")(hmL:X.mg "list"=none)(hg:L2.Gl X "zip")(hm:X.mg "zip"=none)(ha:WA X [a,c] ta)
  (hs:starEach [a,c] X.env=(false,eval a X.env)::starEach [c] X.env:=by rfl) (hpl:(backTo pos2 (starEach [c] X.env)).any (·.1)=false:=by rfl)
  (he:starEach [.Call (.Name "zip" p2) [a,c] [] pos2] X.env=(false,eval (.Call (.Name "zip" p2) [a,c] [] pos2) X.env)::starEach [] X.env:=by rfl) (hpl2:(backTo pos (starEach [] X.env)).any (·.1)=false:=by rfl) :
  WE X (.Call (.Name "list" p) [.Call (.Name "zip" p2) [a,c] [] pos2] [] pos) (tLZ X.K ta):=by
 constructor
 intro pins s σ H Q I h
 refine wpAny_Call_Name_kw (fR I hgL hmL OG.cE ?_)
 refine PyProof.Rows.callWith_type1 ?_ he hpl2
 rw[he]
 show wpAny _ _ (spliced ((false,eval _ X.env)::backTo pos (starEach [] X.env))) _ _ s
 refine Calls.spliced_cons ?_
 refine wpAny_Call_Name_kw (fR I hg hm OP.wH ?_)
 refine PyProof.Rows.callWith_type1 (thn (ha.h pos2 pins s σ H _ I h) fun us s1 hz=>?_) hs hpl
 obtain⟨vs,H1,I1,r1,q1⟩:=hz
 obtain⟨b,d,aa,cc,xs,ys,rfl,qa,qc,hxl,q⟩:=q1
 obtain⟨u,v,rfl,ru,rv⟩:=qo r1
 cases ru
 cases rv
 obtain⟨ia,ra,sa⟩:=I1.sq qa
 obtain⟨ic,rc,sc⟩:=I1.sq qc
 have la:=ra.length
 have lc:=rc.length
 refine uf sa sc fun h1 z II O i j D st hi up=>?_
 refine Calls.spliced_nil ?_
 refine vQ (s:={ s1 with heap:=h1 }) (h0:=s1.heap) (I1.ok.hd hcm) D hi (by simp;omega) st (sa.at_ fun o g=>up _ _ g) (sc.at_ fun o g=>up _ _ g) up fun h' as c' las gl Z ns old=>?_
 have las':as.length=min xs.length ys.length:=by rw[las];simp;omega
 have vp:∀(k:Nat) (p:Addr),as[k]?=some p->∃x y x' y',xs[k]?=some x/\ys[k]?=some y/\bu x x'/\bu y y'/\IsPair h' p x' y':=fun k p g=>by
  obtain⟨x',y',T,e1,e2⟩:=Z.pr k p g
  have lk:k<as.length:=(List.getElem?_eq_some_iff.mp g).1
  obtain⟨x,hx⟩:∃x,xs[k]?=some x:=⟨xs[k]'(by omega),List.getElem?_eq_getElem _⟩
  obtain⟨y,hy⟩:∃y,ys[k]?=some y:=⟨ys[k]'(by omega),List.getElem?_eq_getElem _⟩
  exact⟨x,y,x',y',hx,hy,eY ra hx (by simpa using e1),eY rc hy (by simpa using e2),T⟩
 obtain⟨zs,hzs⟩:∃zs,zs=as.zip (xs.zip ys):=⟨_,rfl⟩
 have lxy:(xs.zip ys).length=as.length:=by rw[List.length_zip,las']
 have z1:zs.map (·.1)=as:=by rw[hzs];exact List.map_fst_zip (by omega)
 have zat:∀(k:Nat) (p:Addr) (x y:V),as[k]?=some p->xs[k]?=some x->ys[k]?=some y->(p,(x,y))∈zs:=fun k p x y g gx gy=>by
  refine List.mem_of_getElem? (i:=k) ?_
  rw[hzs,List.getElem?_zip_eq_some,List.getElem?_zip_eq_some]
  exact⟨g,gx,gy⟩
 have zin:∀z∈zs,∃k:Nat,as[k]?=some z.1/\xs[k]?=some z.2.1/\ys[k]?=some z.2.2:=fun z hz=>by
  obtain⟨k,g⟩:=List.getElem?_of_mem hz
  rw[hzs,List.getElem?_zip_eq_some,List.getElem?_zip_eq_some]at g
  exact⟨k,g⟩
 have nda:as.Nodup:=Z.up.imp fun h=>Nat.ne_of_lt h
 have ndz:(zs.map (·.1)).Nodup:=by rw[z1];exact nda
 have nob:∀b,b<s1.heap.objs.size->∀z∈zs,z.1≠b:=fun b hb z hz e=>by
  have hm:z.1∈as:=by rw[<-z1];exact List.mem_map.mpr ⟨z,hz,rfl⟩
  have:=Z.lt _ hm
  rw[e]at this
  exact absurd hb (Nat.not_lt.mpr this)
 have lge:s1.heap.objs.size<=h1.objs.size:=Nat.le_of_lt (Nat.lt_of_le_of_lt (hi z (by simp)) (Heap.lt_size st.hz))
 have nl:∀z∈zs,z.1≠h1.objs.size:=fun z hz e=>ns (by show h1.objs.size∈as;rw[<-e,<-z1];exact List.mem_map.mpr ⟨z,hz,rfl⟩)
 have sm:pN H1 (vR H1 zs):=fun b o hb=>by
  rw[mK (nob b (Nat.lt_of_not_le fun z'=>by rw[I1.hok.fresh z']at hb;cases hb))]
  exact hb
 have hl0:vR H1 zs h1.objs.size=none:=by rw[mK nl];exact I1.hok.fresh lge
 have I3:Inv X pins σ (upd (vR H1 zs) h1.objs.size (.lst (as.map V.ref))) { s1 with heap:=h',toks:=s1.toks }:=tW I1 old (fun b hb=>by
   rw[aJ (Nat.ne_of_lt (Nat.lt_of_lt_of_le hb lge)),mK (nob b hb)]) fun b u hb hu=>by
  by_cases c1:b=h1.objs.size
  ·subst c1
   rw[aH]at hu
   cases hu
   exact⟨by rw[List.length_map,las'];unfold sizeLine;omega,as.map Value.ref,c',jx as,gl⟩
  ·rw[aJ c1]at hu
   rcases rP hu with⟨z',hz',e1,e2⟩|⟨_,e2⟩
   ·subst e1
    subst e2
    obtain⟨k,k1,k2,k3⟩:=zin z' hz'
    obtain⟨x,y,x',y',w1,w2,w3,w4,w5⟩:=vp k _ k1
    rw[k2]at w1
    rw[k3]at w2
    cases w1
    cases w2
    exact vj w5 w3 w4
   ·rw[I1.hok.fresh hb]at e2
    cases e2
 refine⟨.ref h1.objs.size,_,I3,rfl,q as h1.objs.size _ sm hl0 las' fun k p g=>?_⟩
 obtain⟨x,y,x',y',w1,w2,_⟩:=vp k p g
 exact⟨x,y,w1,w2,zQ ndz (zat k p x y g w1 w2)⟩
def fj(ca cb:CE):CE:=fun ρ S=>(ca ρ S).bind fun p=>(cb ρ p.2).bind fun q=>(uO p.1 q.2).bind fun x=>(uO q.1 q.2).bind fun y=>if x.1.length<=9000 then some (.ref q.2.length,q.2++[.lst (ph x.1 y.1)])else none
theorem qB{u:U}{S:Sto}{us:List U}{ok:Sto->Prop}(h:uO u S=some (us,ok)):ok S:=by
 cases u with
 |tup ws=>cases h;trivial
 |ref l=>
  simp only[uO]at h
  split at h<;>try cases h
  assumption
 |_=>simp[uO]at h
theorem xJ{K:PySem.W.Frag}{m:List Addr}{H:Hp}:∀{as:List Addr} {us:List U},as.length=us.length->(∀(k:Nat) (p:Addr) (u:U),as[k]?=some p->us[k]?=some u->Is K m H (.ref p) u)->IsL K m H (as.map V.ref) us
 |[],[],_,_=>.nil_
 |a::as,u::us,hl,h=>.cons_ (h 0 a u rfl rfl) (xJ (by simpa using hl) fun k p u g1 g2=>h (k+1) p u (by simpa using g1) (by simpa using g2))
 |[],_::_,hl,_=>by simp at hl
 |_::_,[],hl,_=>by simp at hl
theorem qQ{p p2:Pos}{a c:Expr}{ca cc:CE}(hcm:X.calm=true)(hgL:L2.Gl X "list")(hmL:X.mg "list"=none)(hg:L2.Gl X "zip")(hm:X.mg "zip"=none)(ha:QE X a ca)(hc:QE X c cc)
  (hs:starEach [a,c] X.env=(false,eval a X.env)::starEach [c] X.env:=by rfl) (hs2:starEach [c] X.env=(false,eval c X.env)::starEach [] X.env:=by rfl) (hpl:(backTo pos2 (starEach [c] X.env)).any (·.1)=false:=by rfl)
  (he:starEach [.Call (.Name "zip" p2) [a,c] [] pos2] X.env=(false,eval (.Call (.Name "zip" p2) [a,c] [] pos2) X.env)::starEach [] X.env:=by rfl) (hpl2:(backTo pos (starEach [] X.env)).any (·.1)=false:=by rfl) :
  QE X (.Call (.Name "list" p) [.Call (.Name "zip" p2) [a,c] [] pos2] [] pos) (fj ca cc):=
 (mx hcm hgL hmL hg hm (cZ ha (cZ hc gD hs2) hs) hs hpl he hpl2).imp fun σ H Q hz=>fU hz fun m ρ S u S' sr lr h post=>by
  obtain⟨⟨x,S1⟩,h1,h⟩:=Option.bind_eq_some_iff.mp h
  obtain⟨⟨y,S2⟩,h2,h⟩:=Option.bind_eq_some_iff.mp h
  obtain⟨⟨us,ok1⟩,h3,h⟩:=Option.bind_eq_some_iff.mp h
  obtain⟨⟨ws,ok2⟩,h4,h⟩:=Option.bind_eq_some_iff.mp h
  split at h<;>try cases h
  have hl:us.length<=9000:=by assumption
  refine⟨m,ρ,S,x,S1,sr,lr,h1,fun m1 v1 H1 e1 sr1 i1=>⟨m1,ρ,S1,y,_,sr1,lr.mono e1,h2,fun m2 v2 H2 e2 sr2 i2=>?_⟩⟩
  obtain⟨b,aa,rfl,q1,k1⟩:=xf sr2 (i1.mono e2) h3
  obtain⟨d,bb,rfl,q2,k2⟩:=xf sr2 i2 h4
  obtain⟨vs,sq1,l1⟩:=k1 m2 S2 H2 (.of (bP (pN.refl _))) sr2 (qB h3)
  obtain⟨wv,sq2,l2⟩:=k2 m2 S2 H2 (.of (bP (pN.refl _))) sr2 (qB h4)
  have n1:=l1.length
  have n2:=l2.length
  refine⟨b,d,aa,bb,vs,wv,rfl,sq1,sq2,by omega,fun as l H3 sm hl0 las hp=>?_⟩
  have ee:Ext X.K m2 H2 m2 H3:=.of (bP sm)
  have il:IsL X.K m2 H3 (as.map V.ref) (ph us ws):=xJ (by simp[ph];omega) fun k p u g1 g2=>by
   simp only[ph,List.getElem?_map,Option.map_eq_some_iff]at g2
   obtain⟨⟨u1,u2⟩,hz,rfl⟩:=g2
   obtain⟨gu,gw⟩:=List.getElem?_zip_eq_some.mp hz
   obtain⟨vp,ep,ip⟩:=l1.getD gu
   obtain⟨vq,eq,iq⟩:=l2.getD gw
   obtain⟨x',y',w1,w2,w3⟩:=hp k p g1
   rw[ep]at w1;cases w1
   rw[eq]at w2;cases w2
   exact .tup_ (SqT.of w3) (.cons_ (ip.mono ee) (.cons_ (iq.mono ee) .nil_))
  exact bC (sr2.same sm) il (post.mono (e1.trans (e2.trans ee))) hl0
end
end OP
namespace OP
open PySem PySem.Spec PyProof PyProof.Rows L2 OG PySem.W HT
section
variable{prog:Program}{w:World}{A:Around}{E:Value->Shared->Prop}{s:Shared}
theorem j8{t sl:Addr}{items:Array Value}{vl vu:Value}{lo hi:Option Int}{Q:Value->Shared->Prop}(ht:IsTup s.heap t items)(hs:s.heap.IsSliceOf sl vl vu .none)(pl:IsPart vl lo)(pu:IsPart vu hi)
  (hw:sIx items.size 0 lo=0/\sIx items.size items.size hi=items.size) (h:Q (.ref t) s):wpAny (model prog w) A (getItem (.ref t) (.ref sl)) Q E s:=by
 obtain⟨os,hos,hcs,hds⟩:=id hs
 have hT:s.TypeIs (.ref sl) "slice":=⟨os,hos,hcs⟩
 unfold getItem
 try with_reducible refine wpAny_holding ?_
 first|refine wpAny_bind (wpAny_pure ?_)|skip
 refine wpAny_bind (wpAny_sequenceKey ht.typeIs (by decide) ?_)
 refine wpAny_bind (wpAny_callSpecial?_slot (name:=Str.ofString "__getitem__") ht.typeIs PyProof.Rows.slot_tuple_getitem (wpAny_call_entry PyProof.Rows.slot_tuple_getitem ht.typeIs entry_tuple_getitem ?_ (args_tuple_getitem _ _)))
 show wpAny _ _ (Builtin.Tuple.tupleItemsOf (.ref t) >>= _) _ _ s
 refine wpAny_bind (tupleItemsOf_ ht (wpAny_bind (wpAny_typeOf hT ?_)))
 rw[if_pos (by decide)]
 refine wpAny_bind (dg hs pl pu ?_)
 rw[hw.1,hw.2,Nat.sub_zero]
 dsimp only
 rw[if_pos (by simp)]
 unfold Builtin.Tuple.tupleIsExact
 refine wpAny_bind (wpAny_bind (wpAny_typeOf ht.typeIs (wpAny_pure ?_)))
 rw[if_pos (by decide)]
 exact wpAny_bind (wpAny_rule (wpAny_pure ⟨_,rfl,wpAny_pure h⟩))
end
section
variable{X:Cx}
def Hb(K:PySem.W.Frag):V->Option Int->Option Int->Hp->VK->Prop:=fun x lo hi H Q=>∃a xs,x=.ref a/\SqT K H a xs/\(sIx xs.length 0 lo=0/\sIx xs.length xs.length hi=xs.length)/\Q (.ref a) H
theorem y1:SlR X (Hb X.K):=by
 intro pins s σ H x v vl vu lo hi sl Q I rx hs pl pu h
 obtain⟨a,xs,rfl,hx,hw,q⟩:=h
 cases rx
 obtain⟨its,r,ht,hz⟩:=I.tuple hx
 have hlen:its.toArray.size=xs.length:=by rw[List.size_toArray];exact r.length.symm
 exact⟨"tuple",_,PyProof.Rows.slot_tuple_getitem.lookup,ht.typeIs,j8 ht hs pl pu (by rw[hlen];exact hw) ⟨.ref a,H,I,rfl,q⟩⟩
def Dk(x:U)(lo hi:Option Int)(S:Sto):Option (U×Sto):=match x with
 |.tup us=>some (.tup (pJ us lo hi),S)
 |.ref l=>match S[l]? with
  |some (.lst us)=>some (.ref S.length,S++[.lst (pJ us lo hi)])
  |_=>none
 |_=>none
def Ar(ca:CE)(cl ch:Option CE):CE:=fun ρ S=>(ca ρ S).bind fun p=>(iO cl ρ p.2).bind fun q=>(iO ch ρ q.2).bind fun r=>Dk p.1 q.1 r.1 r.2
theorem Fc{e:Expr}{lo hi:Option Expr}{ca:CE}{cl ch:Option CE}{pos p2:Pos}(ha:QE X e ca)(hl:QO X lo cl)(hh:QO X hi ch):QE X (.Subscript e (.Slice lo hi none p2) pos) (Ar ca cl ch):=(kF (qy.or (xc.or y1)) ha hl hh).imp fun σ H Q hz=>fU hz fun m ρ S u S' sr lr hc post=>by
 obtain⟨⟨x,S1⟩,h1,ha⟩:=Option.bind_eq_some_iff.mp hc
 obtain⟨⟨l,S2⟩,h2,hb⟩:=Option.bind_eq_some_iff.mp ha
 obtain⟨⟨k,S3⟩,h3,h⟩:=Option.bind_eq_some_iff.mp hb
 clear ha hb hc
 refine⟨m,ρ,S,x,S1,sr,lr,h1,fun m1 v1 H1 e1 sr1 i1=>⟨m1,ρ,S1,l,S2,sr1,lr.mono e1,h2,fun m2 H2 e2 sr2=>⟨m2,ρ,S2,k,S3,sr2,lr.mono (e1.trans e2),h3,fun m3 H3 e3 sr3=>?_⟩⟩⟩
 have i3:=i1.mono (e2.trans e3)
 have e03:=(e1.trans e2).trans e3
 cases x with
 |tup us=>
  simp only[Dk]at h
  cases h
  obtain⟨a,xs,rfl,sa,la⟩:=i3.of_tup
  by_cases hw:sIx us.length 0 l=0/\sIx us.length us.length k=us.length
  ·have e:pJ us l k=us:=by
    unfold pJ
    rw[hw.1,hw.2,List.drop_zero,Nat.sub_zero,List.take_length]
   rw[e]at post
   exact .inr (.inr ⟨a,xs,rfl,sa,by rw[la.length];exact hw,post m3 _ H3 e03 sr3 (.tup_ sa la)⟩)
  ·exact .inr (.inl ⟨a,xs,rfl,sa,by rw[la.length];exact hw,fun p hp=>gc sr3 (oF la) (post.mono e03) hp⟩)
 |ref r=>
  simp only[Dk]at h
  split at h<;>try cases h
  rename_i us hS
  obtain⟨a,ha,rfl⟩:=i3.of_ref
  obtain⟨a',ha',xs,hx,la⟩:=sr3.get hS
  rw[ha]at ha';cases ha'
  exact .inl ⟨a,xs,rfl,SqL.of hx,fun p hp=>bC sr3 (oF la) (post.mono e03) hp⟩
 |_=>simp[Dk]at h
end
end OP
namespace OP
open PySem PySem.Spec PyProof.Rows L2 OG
section
variable{P:Program}{w:World}{K:PySem.W.Frag}{h base:Heap}{mg:Str->Option Value}{x q:Str}{st:Stmt}{f C:Addr}{oc:Value}{od an:Option Addr}{osl:Array (Option Value)}{kV doc pm cdv ct:Value}{ps N:List Str}{k:Nat}{c:CS}{cl:Cl}
def Hs(K:PySem.W.Frag)(x q:Str)(st:Stmt)(f:Addr):Prop:=∃fd,Fun K x q st f fd
abbrev fAt(x q:Str)(st:Stmt)(oc:Value)(od an:Option Addr)(osl:Array (Option Value))(kV doc pm cdv ct:Value):Obj:=⟨oc,od,.func (PySem.W.fnOf x q (eD st) (cB st) (aE st) .none kV doc pm an cdv ct),osl⟩
def DK(K:PySem.W.Frag)(x:Str)(st:Stmt):Prop:=∃f,PySem.W.nsIn K mainGlobals x=some (some (.ref f))/\Hs K x x st f
theorem Hk(a:PySem.W.nsIn K mainGlobals x=some (some (.ref f)))(l:K.lookup f=some (fAt x x st oc od an osl kV doc pm cdv ct))(c:PySem.W.codeIn K cdv x=true)(k:PySem.W.keepIn K (.ref f)=true):DK K x st:=⟨f,a,_,Dg l c k⟩
def DJ(K:PySem.W.Frag):List (Str×Stmt)->Prop
 |[]=>True
 |(x,st)::r=>DK K x st/\DJ K r
def D8(K:PySem.W.Frag):List Str->Prop
 |[]=>True
 |x::r=>PySem.W.nsIn K mainGlobals x=some none/\D8 K r
abbrev Bd(x q:Str)(st:Stmt)(ps:List Str):Prop:=∀us:List Value,us.length=ps.length->∀(kV doc pm:Value) (an:Option Addr) (cdv ct:Value),bindArgs (PySem.W.fnOf x q (eD st) (cB st) (aE st) .none kV doc pm an cdv ct) ⟨us,[]⟩=pure (ps.zip us)
theorem DK.df(d:DK K x st)(X:K.In h)(G:h.Ns mainGlobals mg)(b:Bd x x st ps:=by first|exact GN fun _ _ _ _ _ _=>rfl|(repeat (first|exact GN fun _ _ _ _ _ _=>rfl|refine Ho fun _=>?_))):Def K mg x st ps:=by
 obtain⟨f,a,fd,F⟩:=d
 exact⟨f,fd,F,F.binds fun kV doc pm an cdv ct us hl=>b us hl kV doc pm an cdv ct,PySem.W.mg_of X G a⟩
def GO:List Str:=["len","isinstance","int","bool","str","tuple","list","range","min","sum","all","zip","sorted","dict","enumerate","any","max","set"]
theorem D8.blt(z:D8 K GO)(X:K.In h)(G:h.Ns mainGlobals mg):Blt mg:=by
 obtain⟨a,b,c,d,e,f,g,i,j,k,l,m,n,o,p,q,r,s,-⟩:=z
 constructor<;>(refine PySem.W.mg_none_of X G ?_;assumption)
theorem CN{sp:Sp}{fa:Addr}(d:DK K "law" st)(X:K.In h)(G:h.Ns mainGlobals mg)(hfa:mg "law"=some (.ref fa))(ok:∀fd,Fun K "law" "law" st fa fd->∀base:Heap,mq P w K mg base CX0 k fa fd ["script"] sp)
  (b:∀(kV doc pm:Value) (an:Option Addr) (cdv ct v:Value),bindArgs (PySem.W.fnOf "law" "law" (eD st) (cB st) (aE st) .none kV doc pm an cdv ct) ⟨[v],[]⟩=pure [(("script":Str),v)]:=by intros;rfl) :
  ∃fd:FuncData,(∀(s:Shared) (v:Value),BindsTo s fd ⟨[v],[]⟩ [("script",v)])/\∀base:Heap,K.In base->base.Ns mainGlobals mg->mq P w K mg base CX0 k fa fd ["script"] sp:=by
 obtain⟨f,a,fd,F⟩:=d
 cases hfa.symm.trans (PySem.W.mg_of X G a)
 refine⟨fd,fun s v=>?_,fun base _ _=>ok fd F base⟩
 obtain⟨oc,od,kV,doc,pm,an,cdv,ct,osl,rfl,lk,hcd⟩:=F.ex
 exact .of_eq (b kV doc pm an cdv ct v)
end
end OP
local macro_rules
 | `(tactic| rwa $s:rwRuleSeq) => do
  let ts : Array (Lean.TSyntax `term) := s.raw[1].getSepArgs.map fun r => ⟨r[1]⟩
  let us : Array (Lean.TSyntax `term) := (("yf pV x_c Ep yj yi nh mr EZ A9 A8 GX Eo En AO AN A7 yz yy Em AL AK AM yk ym gB mw mv Ec AD Ew AR DM ui ED AY wW pW kA AI AH AG nj yv yg AJ kC iS ni GZ EH EG kr iR EX A6 A5 EJ EI Bb Ba GQ Ei Eh Eg Ef Ey Ez EA EC Ee AE AF AU AV AW AS yA Ed Eu GY G0 G5 EO Es EN Er ER Et EL EK at0 at1 at2 at3 ix0 ix1 ix2 Option.bind_some List.getElem?_cons_zero List.getElem?_cons_succ List.set_cons_zero List.set_cons_succ List.length_cons List.length_nil List.map_cons List.map_nil decide_true decide_false Bool.not_true Bool.not_false EM A1 A0 GR El Ek Ej AQ yp yo yn yq EE EF Ex AX DN um uk uj EY G6 EW EV EU ET ES A2 GW x_p GV GU GS A4 yx yw Az AA AB yr yt yu AZ ga ga0 gs gs0 Option.join_some Nat.add_zero List.cons_append List.nil_append List.append_assoc" : String).splitOn " ").toArray.map fun x => ⟨(Lean.mkIdent ((x.splitOn ".").foldl Lean.Name.str Lean.Name.anonymous)).raw⟩
  let vs:=ts++us
  `(tactic| simp only [$[$vs:term],*])
namespace OQ
open PySem PySem.Spec PyProof.Rows L2 OG OP
theorem l9{m:Int}(h0:0<=m)(h:m<2^60):m.natAbs.log2<9000:=rL h0 h
theorem og{κ α:Type}[DecidableEq κ](ps:List (κ×α))(b:κ)(v:α):(f6 ps b v).length<=ps.length+1:=by
 unfold f6;split<;>simp
theorem rE{α:Type}{l:List α}{k:Nat}{x:α}(h:l[k]?=some x):k<l.length:=(List.getElem?_eq_some_iff.mp h).1
theorem ax{α:Type}{l r:List α}{k:Nat}{x:α}(h:l[k]?=some x):(l++r)[k]?=some x:=by rw[List.getElem?_append_left (rE h)];exact h
theorem Dj{ls:List Nat}{S0 S':Sto}(len:S0.length<=S'.length)(old:∀l,l<S0.length->S'[l]?=S0[l]?):∃G,S'=S0++G:=by
 refine⟨S'.drop S0.length,List.ext_getElem? fun l=>?_⟩
 by_cases c:l<S0.length
 ·rw[old l c,List.getElem?_append_left c]
 ·rw[List.getElem?_append_right (by omega),List.getElem?_drop];congr 1;omega
theorem inI(b:Int):∀l:List Int,inU (.int b) (l.map U.int)=decide (b∈l)
 |[]=>by simp[inU]
 |x::r=>by
  have ih:=inI b r
  unfold inU at ih ⊢
  rw[List.map_cons,List.any_cons,ih,show eqF (.int x) (.int b)=(x == b)from rfl]
  by_cases e:x=b
  ·subst e;simp
  ·have:(x == b)=false:=by simpa using e
   rw[this];simp[Ne.symm e]
theorem F1(l:List Int):(l.map U.int).all eC=true:=by
 induction l with
 |nil=>rfl
 |cons x r ih=>rw[List.map_cons,List.all_cons,ih];rfl
theorem jm{ok:Sto->Prop}{g:CG}{ct:CT}{ce:CE}{l:Nat}{ρ:Rho}{S:Sto}(h:ok S):br ok g ct ce l [] ρ S=some S:=by rw[br,if_pos h]
theorem lT{ok:Sto->Prop}{g:CG}{ct:CT}{ce:CE}{l:Nat}{ρ ρ0:Rho}{S S0 S1:Sto}{u:U}{us:List U}(h:ok S)(hg:g u ρ S=some (ρ0,S0))(ht:ct ρ0 S0=some (false,S1)):br ok g ct ce l (u::us) ρ S=br ok g ct ce l us ρ0 S1:=by
 rw[br,if_pos h,hg,Option.bind_some,ht,Option.bind_some,if_neg Bool.false_ne_true]
theorem jj{ok:Sto->Prop}{g:CG}{ct:CT}{ce:CE}{l:Nat}{ρ ρ0:Rho}{S S0 S1 S2:Sto}{u x:U}{us ys:List U}(h:ok S)(hg:g u ρ S=some (ρ0,S0))(ht:ct ρ0 S0=some (true,S1))(he:ce ρ0 S1=some (x,S2))(hl:S2[l]?=some (.lst ys))(hn:ys.length<LIM) :
  br ok g ct ce l (u::us) ρ S=br ok g ct ce l us ρ0 (S2.set l (.lst (ys++[x]))):=by
 rw[br,if_pos h,hg,Option.bind_some,ht,Option.bind_some,if_pos rfl,he,Option.bind_some]
 simp only[hl,hn,if_true]
def Lay(k:Nat)(S:Sto)(u:U):Prop:=∃d,Dt S u d/\d.canLay0=true/\d.depth<=k
def dB(k:Nat)(S:Sto)(u v:U):Prop:=∃d,Dt S u d/\Dt S v d/\d.canLay0=true/\d.depth<=k
def dw(k:Nat)(S:Sto)(us vs:List U):Prop:=∃ds,DtL S us ds/\DtL S vs ds/\PyData.canLayAll0 ds=true/\PyData.depthAll ds<=k
section
variable{k j:Nat}{S:Sto}{u v:U}{us vs:List U}
theorem Lay.int{i:Int}:Lay k S (.int i):=⟨_,.int i,rfl,Nat.zero_le _⟩
theorem dB.refl(h:Lay k S u):dB k S u u:=by obtain⟨d,a,b,c⟩:=h;exact⟨d,a,a,b,c⟩
theorem dw.nil:dw k S [] []:=⟨[],.nil,.nil,rfl,Nat.zero_le _⟩
theorem dw.cons(h:dB k S u v)(t:dw k S us vs):dw k S (u::us) (v::vs):=by
 obtain⟨d,a,b,c,e⟩:=h
 obtain⟨ds,a',b',c',e'⟩:=t
 refine⟨d::ds,.cons a a',.cons b b',by unfold PyData.canLayAll0;rw[c,c'];rfl,?_⟩
 unfold PyData.depthAll
 exact Nat.max_le.mpr ⟨e,e'⟩
theorem dw.all:∀{us:List U},(∀u∈us,Lay k S u)->dw k S us us
 |[],_=>.nil
 |u::us,h=>.cons (.refl (h u List.mem_cons_self)) (dw.all fun x hx=>h x (List.mem_cons_of_mem _ hx))
theorem dB.tup(h:dw k S us vs):dB (k+1) S (.tup us) (.tup vs):=by
 obtain⟨ds,a,b,c,e⟩:=h
 refine⟨.tuple ds,.tup a,.tup b,by unfold PyData.canLay0;exact c,?_⟩
 unfold PyData.depth
 omega
theorem dB.lst{l l':Nat}(h1:S[l]?=some (.lst us))(h2:S[l']?=some (.lst vs))(h:dw k S us vs):dB (k+1) S (.ref l) (.ref l'):=by
 obtain⟨ds,a,b,c,e⟩:=h
 refine⟨.list ds,.lst h1 a,.lst h2 b,by unfold PyData.canLay0;exact c,?_⟩
 unfold PyData.depth
 omega
theorem Lay.tup(h:∀u∈us,Lay k S u):Lay (k+1) S (.tup us):=by
 obtain⟨d,a,_,b,c⟩:=dB.tup (dw.all h)
 exact⟨d,a,b,c⟩
theorem dB.eq(h:dB k S u v)(hk:k<=60):lI false u v S=some (.bl true,S):=by
 obtain⟨d,a,b,c,e⟩:=h
 exact kg false (.inl ⟨d,d,a,b,⟨c,Nat.le_trans e hk⟩,⟨c,Nat.le_trans e hk⟩,(SeqAt.eqv_refl d c).symm⟩)
theorem dB.ne(h:dB k S u v)(hk:k<=60):lI true u v S=some (.bl false,S):=by
 obtain⟨d,a,b,c,e⟩:=h
 exact kg true (.inl ⟨d,d,a,b,⟨c,Nat.le_trans e hk⟩,⟨c,Nat.le_trans e hk⟩,(SeqAt.eqv_refl d c).symm⟩)
end
section
variable{S:Sto}{l l':Nat}{us:List U}{u:U}{i:Int}
def ox(l:Nat)(i:Int)(S:Sto):Option O->Option (U×Sto)
 |some (.lst us)=>if 0<=i/\i<us.length/\us.length<=LIM then(us[i.toNat]?).bind fun u=>some (u,S.set l (.lst (us.eraseIdx i.toNat)))else none
 |_=>none
theorem yh:jg (.ref l) [.int i] S=ox l i S S[l]?:=by
 unfold jg ox;rfl
theorem ug(h0:0<=i)(h1:i<us.length)(hL:us.length<=LIM)(hu:us[i.toNat]?=some u):ox l i S (some (.lst us))=some (u,S.set l (.lst (us.eraseIdx i.toNat))):=by
 simp only[ox]
 rw[if_pos ⟨h0,h1,hL⟩,hu,Option.bind_some]
def kNg:U×Sto->Option (U×Sto)
 |(.int i,S)=>some (.int (-i),S)
 |_=>none
theorem pX{ca:CE}{ρ:Rho}:tj ca ρ S=(ca ρ S).bind kNg:=by
 unfold tj
 congr 1
 funext p
 obtain⟨x,S⟩:=p
 cases x<;>rfl
theorem kB:kNg (.int i,S)=some (.int (-i),S):=rfl
theorem Am{vs:List U}:atI (vs++[u]) (-1)=some u:=by
 unfold atI ixN
 rw[if_neg (by omega),if_pos (by rw[List.length_append,List.length_singleton];omega)]
 simp only[Option.bind_some]
 have e:((-1:Int)+((vs++[u]).length:Int)).toNat=vs.length:=by rw[List.length_append,List.length_singleton];omega
 rw[e]
 simp
theorem Cw(neg:Bool)(h:S[l]?=some (.lst us))(h':S[l']?=some (.lst [])):lI neg (.ref l) (.ref l') S=some (.bl (if neg then !decide (us=[])else decide (us=[])),S):=by
 by_cases e:us=[]
 ·subst e
  have k:=(dB.lst (k:=0) h h' .nil)
  obtain⟨d,a,b,c,e⟩:=k
  rw[decide_eq_true rfl]
  exact kg neg (.inl ⟨d,d,a,b,⟨c,Nat.le_trans e (by omega)⟩,⟨c,Nat.le_trans e (by omega)⟩,(SeqAt.eqv_refl d c).symm⟩)
 ·rw[decide_eq_false e]
  exact kg neg (.inr ⟨l,l',us,[],rfl,rfl,h,h',by simpa using e,rfl⟩)
end
theorem rC{α β:Type}(f:α->β)(l:List α)(k:Nat):(l.eraseIdx k).map f=(l.map f).eraseIdx k:=by
 rw[List.eraseIdx_eq_take_drop_succ,List.eraseIdx_eq_take_drop_succ,List.map_append,List.map_take,List.map_drop]
theorem gJ(n:Nat):aY 0 n=((List.range n).map fun i:Nat=>(i:Int)).map U.int:=by
 unfold aY
 rw[List.map_map]
 refine List.map_congr_left fun i _=>?_
 simp
inductive Ev where
 |beg (a:Int)|look (a b x:Int)|put (a b x:Int)|fin (d:Bool) (a:Int)
structure Att where
 en:Option Bool
 lk:List (Int×Int)
 nd:List (Int×Int)
 ps:List (Int×Int)
 bf:List Int
abbrev St:=List (Int×Att)
theorem cW{α:Type}{ok:Sto->Prop}{gg:CG}{ct:CT}{ce:CE}{S:Sto}{f:α->U}{p:α->Bool}{v:α->U}{Rel:Rho->Prop}(hok:∀ys G,ok (S++(.lst ys::G))) :
  ∀(xs:List α) (ys:List U) (G:Sto) (ρ:Rho),Rel ρ->ys.length+xs.length<=9999->
  (∀x∈xs,∀ys G ρ,Rel ρ->∃ρ0 G1,Rel ρ0/\gg (f x) ρ (S++(.lst ys::G))=some (ρ0,S++(.lst ys::G))/\ct ρ0 (S++(.lst ys::G))=some (p x,S++(.lst ys::(G++G1)))/\
   (p x=true->∃G2,ce ρ0 (S++(.lst ys::(G++G1)))=some (v x,S++(.lst ys::(G++G1++G2)))))->
  ∃G',br ok gg ct ce S.length (xs.map f) ρ (S++(.lst ys::G))=some (S++(.lst (ys++(xs.filter p).map v)::(G++G')))
 |[],ys,G,ρ,_,_,_=>⟨[],by simp only[List.map_nil,List.filter_nil,List.append_nil];exact jm (hok ys G)⟩
 |x::xs,ys,G,ρ,hr,hl,hb=>by
  rw[List.length_cons]at hl
  obtain⟨ρ0,G1,r0,h1,h2,h3⟩:=hb x List.mem_cons_self ys G ρ hr
  have hb':=fun x (hx:x∈xs)=>hb x (List.mem_cons_of_mem _ hx)
  cases hp:p x with
  |false=>
   rw[hp]at h2
   obtain⟨G',h⟩:=cW hok xs ys (G++G1) ρ0 r0 (by omega) hb'
   refine⟨G1++G',?_⟩
   rw[List.map_cons,List.filter_cons_of_neg (by simp[hp])]
   refine(lT (hok ys G) h1 h2).trans ?_
   rw[h,List.append_assoc]
  |true=>
   rw[hp]at h2
   obtain⟨G2,h4⟩:=h3 hp
   obtain⟨G',h⟩:=cW hok xs (ys++[v x]) (G++G1++G2) ρ0 r0 (by simp;omega) hb'
   refine⟨G1++(G2++G'),?_⟩
   rw[List.map_cons,List.filter_cons_of_pos hp]
   refine(jj (hok ys G) h1 h2 h4 (by rw[ga0];rfl) (by unfold LIM;omega)).trans ?_
   rw[gs0]
   simp only[List.set_cons_zero]
   rw[h]
   simp only[List.map_cons,List.append_assoc,List.cons_append,List.nil_append]
theorem ki{α:Type}{ok:Sto->Prop}{gg:CG}{ce:CE}{S:Sto}{f:α->U}{v:α->U}{Rel:Rho->Prop}(hok:∀ys G,ok (S++(.lst ys::G))) :
  ∀(xs:List α) (ys:List U) (G:Sto) (ρ:Rho),Rel ρ->ys.length+xs.length<=9999->
  (∀x∈xs,∀ys G ρ,Rel ρ->∃ρ0 G1,Rel ρ0/\gg (f x) ρ (S++(.lst ys::G))=some (ρ0,S++(.lst ys::G))/\ce ρ0 (S++(.lst ys::G))=some (v x,S++(.lst ys::(G++G1))))->
  ∃G',fh ok gg ce S.length (xs.map f) ρ (S++(.lst ys::G))=some (S++(.lst (ys++xs.map v)::(G++G')))
 |[],ys,G,ρ,_,_,_=>⟨[],by simp only[List.map_nil,List.append_nil];exact oG (hok ys G)⟩
 |x::xs,ys,G,ρ,hr,hl,hb=>by
  rw[List.length_cons]at hl
  obtain⟨ρ0,G1,r0,h1,h2⟩:=hb x List.mem_cons_self ys G ρ hr
  obtain⟨G',h⟩:=ki hok xs (ys++[v x]) (G++G1) ρ0 r0 (by simp;omega) (fun x hx=>hb x (List.mem_cons_of_mem _ hx))
  refine⟨G1++G',?_⟩
  rw[List.map_cons]
  refine(lP (hok ys G) h1 h2 (by rw[ga0];rfl) (by unfold LIM;omega)).trans ?_
  rw[gs0]
  simp only[List.set_cons_zero]
  rw[h]
  simp only[List.map_cons,List.append_assoc,List.cons_append,List.nil_append]
section
variable{c:Cl}{n w:Int}{S G:Sto}{st:St}{a:Int}{t:Att}{x:List Int}
theorem uN{Z:Sto}{r:Nat}{o o':O}(h:Z[r]?=some o):(Z.set r o').set r o=Z:=by
 rw[List.set_set]
 refine List.ext_getElem? fun i=>?_
 rw[List.getElem?_set]
 split
 ·subst i
  obtain⟨h1,h2⟩:=List.getElem?_eq_some_iff.mp h
  simp[h1,h2]
 ·rfl
end
def b8:CS:=
 (bH (b6 3 (cOp pG (cOp cS (cOp cS (cOp cS (cOp gq (ah 3) (ah 3)) (cOp gq (cC (.int 50021)) (ah 3))) (cOp gq (cC (.int 19)) (ah 5))) (cC (.int 7))) (cC (.int 2147483563))))
  (b6 4 (cOp cS (cOp gq (ah 4) (cC (.int 2147483563))) (ah 3))))
def bI:CS:=
 (bH (b6 2 (cOp cS (cOp gq (cC (.int 5)) (ah 1)) (cC (.int 3))))
  (bH (mn (aN (cOp fLt (ah 1) (cCB ji (ae (ah 0) ay)))) (b6 2 (cOp fIx (ah 0) (ah 1))) d5)
  (bH (mn (aN (cOp fEq (cOp pG (ah 2) (cC (.int 2))) (cC (.int 0)))) (lW (iB (ae (cOp xQ (ah 2) (cC (.int 2))) ay))) d5)
  (bH (b6 3 (cOp pG (cOp cS (cOp cS (cOp gq (ah 2) (cC (.int 30011))) (cOp gq (cC (.int 977)) (ah 1))) (cC (.int 41))) (cC (.int 2147483563))))
  (bH (b6 4 (cC (.int 0)))
  (bH (iP (bo (ae (cC (.int 60)) ay)) (gNm 5) (b8 ))
  (lW (iB (ae (ah 4) ay)))))))))
theorem mP{a0 a1:U}{S:Sto}:fnU 6 2 (bI ) [a0,a1] S=((bI ) [some a0,some a1,none,none,none,none] S).bind kFn:=wX rfl
def cX:CS:=
 (bH (b6 2 (cOp pG (cOp fIx (ah 0) (cC (.int 0))) (ah 1)))
  (bH (sZ (ah 0) (cC (.int 0)) (cOp xQ (cOp fIx (ah 0) (cC (.int 0))) (ah 1)))
  (lW (ah 2))))
theorem pH{a0 a1:U}{S:Sto}:fnU 3 2 (cX ) [a0,a1] S=((cX ) [some a0,some a1,none] S).bind kFn:=wX rfl
def bQ:CS:=
 (lW (fO (wD .int (ah 0)) (wC (wD .bool (ah 0)))))
theorem lJ{a0:U}{S:Sto}:fnU 1 1 (bQ ) [a0] S=((bQ ) [some a0] S).bind kFn:=wX rfl
def cT(av:Fn)(fuel:Nat):CS:=
 (bH (b6 4 (cCB av (ae (ah 0) (ae (cCB ji (ae (ah 2) ay)) ay))))
  (dN (cBM bE (ah 3) (ae (cBM jg (ah 2) (ae (ah 4) ay)) ay))))
def bS(av:Fn)(fuel:Nat):CS:=
 (bH (b6 2 (fN (ae (ah 1) ay)))
  (bH (b6 3 (iB ay))
  (bH (cI (aN (cOp (lI true) (ah 2) (iB ay))) (cT av fuel) fuel)
  (lW (ah 3)))))
theorem lM{av:Fn}{fuel:Nat}{a0 a1:U}{S:Sto}:fnU 5 2 (bS av fuel) [a0,a1] S=((bS av fuel) [some a0,some a1,none,none,none] S).bind kFn:=wX rfl
def cg(av aG:Fn):CS:=
 (bH (b6 6 (bh (iTp (ah 3)) (gNm 0) (aN (cOp fLt (cCB av (ae (ah 1) (ae (cC (.int 5)) ay))) (cC (.int 2)))) (ah 0) 1 [0]))
  (dN (cBM bE (ah 4) (ae (cCB du (ae (cOp Aq (ah 6) (cOp xP (cC (.int 1)) (cOp gq (cC (.int 2)) (cCB Dm (ae (cOp fEq (cCB av (ae (ah 0) (ae (cC (.int 7)) ay))) (cC (.int 0))) ay))))) ay)) ay))))
def cf(av aG:Fn):CS:=
 (bH (b6 9 (cCB av (ae (ah 0) (ae (ah 2) ay))))
  (bH (b6 5 (cCB av (ae (ah 0) (ae (cCB ji (ae (ah 4) ay)) ay))))
  (bH (b6 6 (cOp cS (iB (ae (tj (cC (.int 1))) ay)) (bh (iTp (cOp fIx (ah 4) (ah 5))) (gNm 0) (aN (cOp fNe (ah 0) (ah 1))) (ah 0) 1 [9])))
  (bH (b6 10 (cOp cS (iB (ae (tj (cC (.int 1))) ay)) (bh (iTp (cSl (ah 6) (some (cC (.int 1))) none)) (gNm 0) (aN (cOp fLt (cBM aQ (ah 2) (ae (ah 0) ay)) (cBM aQ (ah 2) (ae (ah 1) ay)))) (ah 0) 1 [9,3])))
  (eE (ah 7) (ae (ah 9) (ae (ah 5) ay)) (cOp fIx (iB (ae (cOp fIx (ah 10) (tj (cC (.int 1)))) (ae (cOp fIx (ah 6) (cCB av (ae (ah 0) (ae (cCB ji (ae (ah 6) ay)) ay)))) ay))) (cCB Dm (ae (cOp fEq (cCB av (ae (ah 0) (ae (cC (.int 5)) ay))) (cC (.int 0))) ay))))))))
def bF(av aG:Fn):CS:=
 (bH (b6 9 (cCB av (ae (ah 0) (ae (ah 2) ay))))
  (bH (b6 12 (cCB av (ae (ah 0) (ae (ah 2) ay))))
  (mn (Au (aN (cOp fNe (ah 9) (ah 12))) (cOr (aN (cOp fLt (cBM aQ (ah 3) (ae (ah 9) ay)) (cBM aQ (ah 3) (ae (ah 12) ay)))) (aN (cOp fEq (cCB av (ae (ah 0) (ae (cC (.int 6)) ay))) (cC (.int 0)))))) (eE (ah 11) (ae (ah 9) (ae (ah 12) ay)) (cC (.bl true))) d5)))
def cD(av aG:Fn):CS:=
 (bH (b6 2 (cOp cS (cC (.int 1)) (cCB av (ae (ah 0) (ae (ah 1) ay)))))
  (bH (b6 3 (cCB aG (ae (ah 0) (ae (ah 2) ay))))
  (bH (b6 4 (iB ay))
  (bH (iP (bo (ae (cOp cS (cC (.int 1)) (cCB av (ae (ah 0) (ae (cOp fIx (iB (ae (cC (.int 3)) (ae (cC (.int 3)) (ae (cC (.int 6)) ay)))) (cCB av (ae (ah 0) (ae (cC (.int 3)) ay)))) ay)))) ay)) (gNm 5) (cg av aG))
  (bH (b6 7 tp)
  (bH (iP (bo (ae (cCB av (ae (ah 0) (ae (cOp cS (cOp gq (cC (.int 2)) (ah 2)) (cC (.int 1))) ay))) ay)) (gNm 8) (cf av aG))
  (bH (b6 11 tp)
  (bH (iP (bo (ae (cCB av (ae (ah 0) (ae (cOp cS (ah 2) (cC (.int 1))) ay))) ay)) (gNm 8) (bF av aG))
  (lW (dM (ae (ah 2) (ae (cCB du (ae (cCB bL (ae (ah 11) ay)) ay)) (ae (cCB du (ae (ah 4) ay)) (ae (cCB du (ae (cCB bL (ae (oI (ah 7) (gNm 0) (cOp cS (ah 0) (dM (ae (cOp Ae (ah 1) (ah 0)) ay))) 1 [7]) ay)) ay)) ay))))))))))))))
theorem mQ{av aG:Fn}{a0 a1:U}{S:Sto}:fnU 13 2 (cD av aG) [a0,a1] S=((cD av aG) [some a0,some a1,none,none,none,none,none,none,none,none,none,none,none] S).bind kFn:=wX rfl
theorem hJ{α:Type}:∀{l:List α} {i:Nat} (h:i<l.length),(l[i]::l.eraseIdx i).Perm l
 |[],_,h=>absurd h (Nat.not_lt_zero _)
 |a::l,0,_=>List.Perm.refl _
 |a::l,i+1,h=>(List.Perm.swap a _ _).trans (List.Perm.cons a (hJ (l:=l) (i:=i) (by simpa using h)))
structure Wl(lw:Nat)(T T':Sto):Prop where
 len:T.length<=T'.length
 keep:∀j,j<T.length->j≠lw->T'[j]?=T[j]?
 well:∃z,T'[lw]?=some (.lst [.int z])
section
variable{lw j:Nat}{T T1 T2 S:Sto}{o:O}{m:Int}
theorem Wl.get(w:Wl lw T T1)(h:T[j]?=some o)(n:j≠lw):T1[j]?=some o:=by rw[w.keep j (List.getElem?_eq_some_iff.mp h).1 n];exact h
theorem Wl.trans(a:Wl lw T T1)(b:Wl lw T1 T2):Wl lw T T2:=⟨Nat.le_trans a.len b.len,fun j hj n=>by rw[b.keep j (Nat.lt_of_lt_of_le hj a.len) n,a.keep j hj n],b.well⟩
theorem Wl.refl(h:∃z,T[lw]?=some (.lst [.int z])):Wl lw T T:=⟨Nat.le_refl _,fun _ _ _=>rfl,h⟩
theorem Wl.app(h:∃z,T[lw]?=some (.lst [.int z]))(X:Sto):Wl lw T (T++X):=⟨by simp,fun j hj _=>List.getElem?_append_left hj,by obtain⟨z,h⟩:=h;exact⟨z,ax h⟩⟩
def cF:Fn:=fnU 3 2 cX
theorem bW(h:∃z,T[lw]?=some (.lst [.int z]))(hm:0<m)(hb:m<2^60):∃d T1,cF [.ref lw,.int m] T=some (.int d,T1)/\Wl lw T T1/\T1.length=T.length/\0<=d/\d<m:=by
 obtain⟨z,h⟩:=h
 have hl:=(List.getElem?_eq_some_iff.mp h).1
 refine⟨z % m,T.set lw (.lst [.int (z / m)]),?_,⟨by simp,fun j hj n=>List.getElem?_set_ne n.symm,⟨_,by rw[List.getElem?_set,if_pos rfl,if_pos hl]⟩⟩,by simp,Int.emod_nonneg _ (by omega),Int.emod_lt_of_pos _ hm⟩
 unfold cF
 rw[pH]
 have dv:∀(j:Int) (S:Sto),xQ (.int j) (.int m) S=some (.int (j / m),S):=fun j S=>A3 ⟨hm,l9 (by omega) hb⟩
 have md:∀(j:Int) (S:Sto),pG (.int j) (.int m) S=some (.int (j % m),S):=fun j S=>uh hm
 rwa[cX,h,dv,md]
def tR:Fn:=fnU 6 2 bI
theorem kG{r0 r1 r2:Option U}:∀(ts:List Int) (a f:Int) (r5:Option U),0<=a->a<2147483563->∃a' f' r5',bX (fun _=>True) (gNm 5) b8 (ts.map U.int) [r0,r1,r2,some (.int a),some (.int f),r5] S=some (.nx,[r0,r1,r2,some (.int a'),some (.int f'),r5'],S)
 |[],a,f,r5,_,_=>⟨a,f,r5,bK trivial⟩
 |t::ts,a,f,r5,h0,h1=>by
  obtain⟨a',f',r5',ih⟩:=kG (r0:=r0) (r1:=r1) (r2:=r2) ts ((a*a+50021*a+19*t+7) % 2147483563) (f*2147483563+(a*a+50021*a+19*t+7) % 2147483563) (some (.int t)) (Int.emod_nonneg _ (by decide)) (Int.emod_lt_of_pos _ (by decide))
  refine⟨a',f',r5',(cQ trivial rfl ?_).trans ih⟩
  have m1:gq (.int a) (.int a) S=some (.int (a*a),S):=jv (.inl ⟨by omega,by omega⟩)
  have m2:gq (.int 50021) (.int a) S=some (.int (50021*a),S):=jv (.inl (by decide))
  have m3:gq (.int 19) (.int t) S=some (.int (19*t),S):=jv (.inl (by decide))
  have m4:gq (.int f) (.int 2147483563) S=some (.int (f*2147483563),S):=jv (.inr (by decide))
  have m5:∀j:Int,pG (.int j) (.int 2147483563) S=some (.int (j % 2147483563),S):=fun j=>uh (by decide)
  rwa[b8,m1,m2,m3,m4,m5]
theorem yT(ns:List Int){k:Int}(k0:0<=k):∃z,tR [.kl ns,.int k] S=some (.ref S.length,S++[.lst [.int z]]):=by
 unfold tR
 rw[mP]
 have m1:gq (.int 5) (.int k) S=some (.int (5*k),S):=jv (.inl (by decide))
 have m2:∀j:Int,pG (.int j) (.int 2) S=some (.int (j % 2),S):=fun j=>uh (by decide)
 have m3:∀j:Int,xQ (.int j) (.int 2) S=some (.int (j / 2),S):=fun j=>A3 ⟨by decide,by decide +kernel⟩
 have m4:∀j:Int,gq (.int j) (.int 30011) S=some (.int (j*30011),S):=fun j=>jv (.inr (by decide))
 have m5:gq (.int 977) (.int k) S=some (.int (977*k),S):=jv (.inl (by decide))
 have m6:∀j:Int,pG (.int j) (.int 2147483563) S=some (.int (j % 2147483563),S):=fun j=>uh (by decide)
 have r60:bo (ae (cC (.int 60)) ay)=fun ρ S=>some (aY 0 60,fun _=>True,S):=rfl
 have er:aY 0 60=((List.range 60).map fun i:Nat=>(i:Int)).map U.int:=by rw[gJ,List.map_map]
 have key:∀num:Int,∃z,((bH (mn (aN (cOp fEq (cOp pG (ah 2) (cC (.int 2))) (cC (.int 0)))) (lW (iB (ae (cOp xQ (ah 2) (cC (.int 2))) ay))) d5)
  (bH (b6 3 (cOp pG (cOp cS (cOp cS (cOp gq (ah 2) (cC (.int 30011))) (cOp gq (cC (.int 977)) (ah 1))) (cC (.int 41))) (cC (.int 2147483563))))
  (bH (b6 4 (cC (.int 0)))
  (bH (iP (bo (ae (cC (.int 60)) ay)) (gNm 5) b8)
  (lW (iB (ae (ah 4) ay))))))) [some (.kl ns),some (.int k),some (.int num),none,none,none] S).bind kFn=some (.ref S.length,S++[.lst [.int z]]):=fun num=>by
  by_cases e:num % 2=0
  ·refine⟨num / 2,?_⟩
   have e':decide (num % 2=0)=true:=decide_eq_true e
   rwa[m2,m3,e']
  ·have e':decide (num % 2=0)=false:=decide_eq_false e
   obtain⟨a',f',r5',h⟩:=kG (S:=S) (r0:=some (.kl ns)) (r1:=some (.int k)) (r2:=some (.int num)) ((List.range 60).map fun i:Nat=>(i:Int)) ((num*30011+977*k+41) % 2147483563) 0 none (Int.emod_nonneg _ (by decide)) (Int.emod_lt_of_pos _ (by decide))
   rw[<-er]at h
   refine⟨f',?_⟩
   rwa[m2,e',m4,m5,m6,iP,r60,h]
 by_cases hk:k<(ns.length:Int)
 ·have hk':decide (k<(ns.length:Int))=true:=decide_eq_true hk
  have hi:k.toNat<ns.length:=by omega
  have ha:atI (ns.map U.int) k=some (.int ns[k.toNat]):=by
   have:=dQ (xs:=ns.map U.int) (j:=k.toNat) (v:=.int ns[k.toNat]) (by rw[List.getElem?_map,List.getElem?_eq_getElem hi];rfl)
   rw[show((k.toNat:Nat):Int)=k from by omega]at this
   exact this
  obtain⟨z,h⟩:=key ns[k.toNat]
  refine⟨z,?_⟩
  rw[<-h]
  simp only[bI,m1,pY,EB,hk',ha,pW,kA,kr,iR,Ep,yj,yi,yf,pV,x_c,yA,kC,iS,ni,nh,mr,Eu,DM,ui,gB,mw,mv,ym,Option.bind_some,List.getElem?_cons_zero,List.getElem?_cons_succ,List.set_cons_zero,List.set_cons_succ,Option.join_some]
 ·have hk':decide (k<(ns.length:Int))=false:=decide_eq_false hk
  obtain⟨z,h⟩:=key (5*k+3)
  refine⟨z,?_⟩
  rw[<-h]
  simp only[bI,m1,pY,hk',pW,kA,kr,iR,Ep,yj,yi,yf,pV,x_c,yA,kC,iS,ni,nh,mr,Eu,DM,ui,gB,mw,mv,ym,wW,Option.bind_some,List.getElem?_cons_zero,List.getElem?_cons_succ,List.set_cons_zero,List.set_cons_succ,Option.join_some]
def cU:Fn:=fnU 5 2 (bS cF 100)
theorem ja{r1:Option U}{jl jf:Nat}(n1:jl≠lw)(n2:jf≠lw)(n3:jl≠jf):∀(fuel:Nat) (left found:List Int) (T:Sto) (r4:Option U),left.length<fuel->T[jl]?=some (.lst (left.map U.int))->T[jf]?=some (.lst (found.map U.int))->(∃z,T[lw]?=some (.lst [.int z]))->left.length+found.length<=900->
  ∃(os:List Int) (T':Sto) (r4':Option U),cI (aN (cOp (lI true) (ah 2) (iB ay))) (cT cF 100) fuel [some (.ref lw),r1,some (.ref jl),some (.ref jf),r4] T=some (.nx,[some (.ref lw),r1,some (.ref jl),some (.ref jf),r4'],T')
   /\T'[jf]?=some (.lst (os.map U.int))/\os.Perm (found++left)/\T.length<=T'.length/\(∀j,j<T.length->j≠lw->j≠jl->j≠jf->T'[j]?=T[j]?)/\∃z,T'[lw]?=some (.lst [.int z])
 |0,left,found,T,r4,hf,_,_,_,_=>absurd hf (by omega)
 |fuel+1,left,found,T,r4,hf,h1,h2,h3,hl=>by
  have q:=Cw true (S:=T++[.lst []]) (l:=jl) (l':=T.length) (us:=left.map U.int) (ax h1) (by rw[ga0];rfl)
  have ww:∃z,(T++[O.lst []])[lw]?=some (.lst [.int z]):=by obtain⟨z,h⟩:=h3;exact⟨z,ax h⟩
  by_cases e:left=[]
  ·subst e
   have q':lI true (.ref jl) (.ref T.length) (T++[.lst []])=some (.bl false,T++[.lst []]):=by rw[q];rfl
   refine⟨found,T++[.lst []],r4,qj ?_,ax h2,by rw[List.append_nil],by simp,fun j hj _ _ _=>List.getElem?_append_left hj,ww⟩
   rwa[q']
  ·have q':lI true (.ref jl) (.ref T.length) (T++[.lst []])=some (.bl true,T++[.lst []]):=by rw[q];simp[e]
   have lp:=List.length_pos_iff.mpr e
   obtain⟨d,T2,e2,w2,l2,d0,d1⟩:=bW (T:=T++[.lst []]) (lw:=lw) (m:=left.length) ww (by omega) (by omega)
   have hin:d.toNat<left.length:=by omega
   obtain⟨z,hz⟩:∃z,left[d.toNat]?=some z:=⟨_,List.getElem?_eq_getElem hin⟩
   have hz':(left.map U.int)[d.toNat]?=some (.int z):=by rw[List.getElem?_map,hz];rfl
   have hL1:(left.map U.int).length<=LIM:=by unfold LIM;rw[List.length_map];omega
   have hL2:(found.map U.int).length<LIM:=by unfold LIM;rw[List.length_map];omega
   have k1:((left.map U.int).length:Int)=left.length:=by rw[List.length_map]
   have g1:T2[jl]?=some (.lst (left.map U.int)):=w2.get (ax h1) n1
   have g2:T2[jf]?=some (.lst (found.map U.int)):=w2.get (ax h2) n2
   have g0:(T++[O.lst []])[jl]?=some (.lst (left.map U.int)):=ax h1
   have lj:jl<T2.length:=(List.getElem?_eq_some_iff.mp g1).1
   have lf:jf<T2.length:=(List.getElem?_eq_some_iff.mp g2).1
   have em:(left.map U.int).eraseIdx d.toNat=(left.eraseIdx d.toNat).map U.int:=(rC ..).symm
   have g3:(T2.set jl (.lst ((left.eraseIdx d.toNat).map U.int)))[jf]?=some (.lst (found.map U.int)):=by rw[List.getElem?_set_ne n3];exact g2
   have ef:found.map U.int++[.int z]=(found++[z]).map U.int:=by rw[List.map_append];rfl
   obtain⟨T4,hT4⟩:∃T4,T4=(T2.set jl (.lst ((left.eraseIdx d.toNat).map U.int))).set jf (.lst ((found++[z]).map U.int)):=⟨_,rfl⟩
   obtain⟨zz,hzz⟩:=w2.well
   obtain⟨os,T',r4',ih,k2,k3,k4,k5,k6⟩:=ja (r1:=r1) n1 n2 n3 fuel (left.eraseIdx d.toNat) (found++[z]) T4 (some (.int d)) (by rw[List.length_eraseIdx,if_pos hin];omega)
    (by rw[hT4,List.getElem?_set_ne n3.symm,List.getElem?_set,if_pos rfl,if_pos lj])
    (by rw[hT4,List.getElem?_set,if_pos rfl,if_pos (by rw[List.length_set];exact lf)])
    ⟨zz,by rw[hT4,List.getElem?_set_ne n2,List.getElem?_set_ne n1];exact hzz⟩
    (by rw[List.length_eraseIdx,if_pos hin,List.length_append,List.length_singleton];omega)
   have l4:T4.length=T.length+1:=by rw[hT4,List.length_set,List.length_set,l2,List.length_append];rfl
   refine⟨os,T',r4',(uC (S0:=T++[.lst []]) ?_ ?_).trans ih,k2,?_,by omega,fun j hj a1 a2 a3=>?_,k6⟩
   ·rwa[q']
   ·rw[hT4]
    rwa[cT,g0,List.length_map,e2,g1,g2,g3,yh,ug d0 (by rw[k1];exact d1) hL1 hz',em,iT hL2,ef]
   ·refine k3.trans ?_
    rw[List.append_assoc]
    refine List.Perm.append_left found ?_
    have hz2:left[d.toNat]=z:=by rw[List.getElem?_eq_getElem hin]at hz;exact Option.some.inj hz
    have:=hJ hin
    rw[hz2]at this
    exact this
   ·rw[k5 j (by omega) a1 a2 a3,hT4,List.getElem?_set_ne (Ne.symm a3),List.getElem?_set_ne (Ne.symm a2),w2.keep j (by simp;omega) a1,List.getElem?_append_left hj]
theorem vI{many:Int}(h:∃z,T[lw]?=some (.lst [.int z]))(m0:0<=many)(m1:many<=90):∃(os:List Int) (T':Sto) (l:Nat),cU [.ref lw,.int many] T=some (.ref l,T')/\T'[l]?=some (.lst (os.map U.int))/\T.length<=l/\Wl lw T T'/\os.length=many.toNat/\os.Nodup/\∀a,a∈os↔0<=a/\a<many:=by
 have hl:lw<T.length:=by obtain⟨z,h⟩:=h;exact(List.getElem?_eq_some_iff.mp h).1
 obtain⟨rs,hrs⟩:∃rs,rs=(List.range many.toNat).map fun i:Nat=>(i:Int):=⟨_,rfl⟩
 have er:aY 0 many.toNat=rs.map U.int:=by rw[hrs,gJ,List.map_map]
 have lr:rs.length=many.toNat:=by rw[hrs];simp
 obtain⟨os,T',r4',e,k2,k3,k4,k5,k6⟩:=ja (lw:=lw) (r1:=some (.int many)) (jl:=T.length) (jf:=T.length+1) (by omega) (by omega) (by omega) 100 rs [] (T++[.lst (rs.map U.int),.lst []]) none (by omega) (by rw[ga0];rfl) (by rw[ga];rfl) (by obtain⟨z,h⟩:=h;exact⟨z,ax h⟩) (by simp;omega)
 rw[List.nil_append]at k3
 have nd:rs.Nodup:=by
  rw[hrs]
  exact List.Pairwise.map _ (fun a b h e=>h (by omega)) List.nodup_range
 refine⟨os,T',T.length+1,?_,k2,by omega,⟨by simp at k4;omega,fun j hj n=>?_,k6⟩,by rw[k3.length_eq,lr],k3.nodup_iff.mpr nd,fun a=>?_⟩
 ·unfold cU
  rw[lM]
  have hc:0<=many/\many<=1000:=⟨m0,by omega⟩
  have ln:(T++[O.lst (rs.map U.int)]).length=T.length+1:=by rw[List.length_append];rfl
  rwa[bS,fN,hc,and_self,if_true,er,ln,e]
 ·rw[k5 j (by simp;omega) n (by omega) (by omega),List.getElem?_append_left hj]
 ·rw[k3.mem_iff,hrs,List.mem_map]
  constructor
  ·rintro⟨i,hi,rfl⟩
   have:=List.mem_range.mp hi
   omega
  ·rintro⟨a0,a1⟩
   exact⟨a.toNat,List.mem_range.mpr (by omega),by omega⟩
end
def inR(row:List Int)(b:Int):Bool:=decide (b∈row)
theorem flI{b:Int}{l:List Int}:eC (.int b)=true/\(l.map U.int).all eC=true:=⟨rfl,F1 l⟩
theorem FY{b:Int}{row:List Int}{S:Sto}:fIn false (.int b) (.tup (row.map U.int)) S=some (.bl (inR row b),S):=by
 unfold fIn
 dsimp only
 rw[if_pos flI,if_neg Bool.false_ne_true,inI];rfl
section
variable{S:Sto}{jo:Nat}{os row:List Int}{a:Int}
theorem dY(h:S[jo]?=some (.lst (os.map U.int)))(ha:a∈os)(hl:os.length<=900):aQ (.ref jo) [.int a] S=some (.int (os.idxOf a:Nat),S):=by
 have hL:os.length<=LIM:=by unfold LIM;omega
 simp only[aQ,h,gZ,Option.bind_some,ha,hL,and_self,if_true]
def aW(many:Int)(tm:U)(wr lk:List (List Int)):U:=.tup [.int many,tm,.tup (wr.map rwU),.tup (lk.map rwU)]
variable{many:Int}{wr lk:List (List Int)}{tm:U}
theorem tF{b:Int}(b0:0<=b)(b1:b<wr.length):atI (wr.map rwU) b=some (.tup ((wr.getD b.toNat []).map U.int)):=by
 have hi:b.toNat<wr.length:=by omega
 have:=dQ (xs:=wr.map rwU) (j:=b.toNat) (v:=rwU wr[b.toNat]) (by rw[List.getElem?_map,List.getElem?_eq_getElem hi];rfl)
 rw[show((b.toNat:Nat):Int)=b from by omega]at this
 rw[this,List.getD_eq_getElem?_getD,List.getElem?_eq_getElem hi];rfl
theorem xW{l k:Nat}{us vs:List U}(h1:S[l]?=some (.lst us))(h2:S[k]?=some (.lst vs))(hz:us.length+vs.length<=LIM):cS (.ref l) (.ref k) S=some (.ref S.length,S++[.lst (us++vs)]):=by
 simp only[cS,ke,h1,h2,hz,if_true]
theorem DB(e:List Int):atI ((-1::e).map U.int) (-1)=some (.int (e.getLast?.getD (-1))):=by
 rcases List.eq_nil_or_concat e with rfl|⟨r,x,rfl⟩
 ·rfl
 ·rw[List.concat_eq_append,<-List.cons_append,List.map_append,List.getLast?_append]
  exact Am
end
section
variable{c cA:Cl}{n w:Int}{S G C:Sto}{st:St}{a:Int}{t:Att}{x:List Int}{every:Bool}{L:Nat}
theorem lN{α:Type}{ok:Sto->Prop}{gg:CG}{ce:CE}{S:Sto}{f:α->U}{v:α->U}{Rel:Rho->Prop}(hok:∀ys G,ok (S++(.lst ys::G))) :
  ∀(xs:List α) (ys:List U) (G:Sto) (ρ:Rho),Rel ρ->ys.length+xs.length<=9999->
  (∀x∈xs,∀ys G ρ,Rel ρ->∃ρ0,Rel ρ0/\gg (f x) ρ (S++(.lst ys::G))=some (ρ0,S++(.lst ys::G))/\ce ρ0 (S++(.lst ys::G))=some (v x,S++(.lst ys::G)))->
  fh ok gg ce S.length (xs.map f) ρ (S++(.lst ys::G))=some (S++(.lst (ys++xs.map v)::G))
 |[],ys,G,ρ,_,_,_=>by simp only[List.map_nil,List.append_nil];exact oG (hok ys G)
 |x::xs,ys,G,ρ,hr,hl,hb=>by
  rw[List.length_cons]at hl
  obtain⟨ρ0,r0,h1,h2⟩:=hb x List.mem_cons_self ys G ρ hr
  have h:=lN hok xs (ys++[v x]) G ρ0 r0 (by simp;omega) (fun x hx=>hb x (List.mem_cons_of_mem _ hx))
  rw[List.map_cons]
  refine(lP (hok ys G) h1 h2 (by rw[ga0];rfl) (by unfold LIM;omega)).trans ?_
  rw[gs0]
  simp only[List.set_cons_zero]
  rw[h]
  simp only[List.map_cons,List.append_assoc,List.cons_append,List.nil_append]
end
structure Fw(lw jw:Nat)(T T':Sto):Prop where
 len:T.length<=T'.length
 keep:∀j,j<T.length->j≠lw->j≠jw->T'[j]?=T[j]?
 well:∃z,T'[lw]?=some (.lst [.int z])
section
variable{lw jw jh j:Nat}{T T1 T2 S:Sto}{o:O}{m:Int}
theorem Fw.of(w:Wl lw T T1):Fw lw jw T T1:=⟨w.len,fun j h n _=>w.keep j h n,w.well⟩
theorem Fw.trans(a:Fw lw jw T T1)(b:Fw lw jw T1 T2):Fw lw jw T T2:=⟨Nat.le_trans a.len b.len,fun j hj n n'=>by rw[b.keep j (Nat.lt_of_lt_of_le hj a.len) n n',a.keep j hj n n'],b.well⟩
theorem Fw.get(w:Fw lw jw T T1)(h:T[j]?=some o)(n:j≠lw)(n':j≠jw):T1[j]?=some o:=by rw[w.keep j (List.getElem?_eq_some_iff.mp h).1 n n'];exact h
theorem Fw.set(h:∃z,T[lw]?=some (.lst [.int z]))(n:jw≠lw)(o:O):Fw lw jw T (T.set jw o):=⟨by simp,fun j _ _ n'=>List.getElem?_set_ne n'.symm,by obtain⟨z,h⟩:=h;exact⟨z,by rw[List.getElem?_set_ne n];exact h⟩⟩
def BF:CT:=aN (cOp fLt (cCB cF (ae (ah 1) (ae (cC (.int 5)) ay))) (cC (.int 2)))
theorem gH{us:List U}{n:Nat}(n1:n≠lw)(n2:jh≠lw)(n3:jh≠n):∀(as ys:List Int) (Y:Sto) (r0:Option U),Y[jh]?=some (.lst us)->Y[n]?=some (.lst (ys.map U.int))->(∃z,Y[lw]?=some (.lst [.int z]))->ys.length+as.length<=900->
  ∃(ys':List Int) (Y':Sto),br (fun S=>S[jh]?=some (.lst us)) (gNm 0) BF (ah 0) n (as.map U.int) [r0,some (.ref lw)] Y=some Y'/\Y'[n]?=some (.lst (ys'.map U.int))/\Fw lw n Y Y'/\(∃q,ys'=ys++q/\q.Sublist as)/\ys'.length<=ys.length+as.length
 |[],ys,Y,r0,h1,h2,h3,_=>⟨ys,Y,jm h1,h2,.of (.refl h3),⟨[],(List.append_nil _).symm,.slnil⟩,by simp⟩
 |a::as,ys,Y,r0,h1,h2,h3,hl=>by
  rw[List.length_cons]at hl
  obtain⟨d,Y1,e1,w1,l1,d0,d1⟩:=bW (m:=5) h3 (by omega) (by omega)
  have g1:Y1[jh]?=some (.lst us):=w1.get h1 n2
  have g2:Y1[n]?=some (.lst (ys.map U.int)):=w1.get h2 n1
  by_cases hd:d<2
  ·have hd':decide (d<2)=true:=decide_eq_true hd
   have lt:n<Y1.length:=(List.getElem?_eq_some_iff.mp g2).1
   have ey:ys.map U.int++[.int a]=(ys++[a]).map U.int:=by rw[List.map_append];rfl
   obtain⟨ys',Y',e,k1,k2,k3,k4⟩:=gH (us:=us) n1 n2 n3 as (ys++[a]) (Y1.set n (.lst ((ys++[a]).map U.int))) (some (.int a)) (by rw[List.getElem?_set_ne n3.symm];exact g1) (by rw[List.getElem?_set,if_pos rfl,if_pos lt]) (by obtain⟨z,h⟩:=w1.well;exact⟨z,by rw[List.getElem?_set_ne n1];exact h⟩) (by simp;omega)
   obtain⟨q,k5,k6⟩:=k3
   refine⟨ys',Y',?_,k1,((Fw.of w1).trans (.set w1.well n1 _)).trans k2,⟨a::q,by rw[k5,List.append_assoc];rfl,k6.cons₂ a⟩,by simp at k4 ⊢;omega⟩
   ·refine(jj (S0:=Y) (ρ0:=[some (.int a),some (.ref lw)]) (S1:=Y1) (S2:=Y1) (x:=.int a) (ys:=ys.map U.int) h1 rfl ?_ rfl g2 (by unfold LIM;rw[List.length_map];omega)).trans ?_
    ·rwa[BF,e1,hd']
    ·rw[ey];exact e
  ·have hd':decide (d<2)=false:=decide_eq_false hd
   obtain⟨ys',Y',e,k1,k2,k3,k4⟩:=gH (us:=us) n1 n2 n3 as ys Y1 (some (.int a)) g1 g2 w1.well (by omega)
   obtain⟨q,k5,k6⟩:=k3
   refine⟨ys',Y',?_,k1,(Fw.of w1).trans k2,⟨q,k5,k6.cons a⟩,by simp;omega⟩
   ·refine(lT (S0:=Y) (ρ0:=[some (.int a),some (.ref lw)]) (S1:=Y1) h1 rfl ?_).trans e
    rwa[BF,e1,hd']
abbrev rT(lw:Nat)(most many:Int)(jh jw:Nat)(r5 r6 r7 r8 r9 r10 r11 r12:Option U):Rho:=[some (.ref lw),some (.int most),some (.int many),some (.ref jh),some (.ref jw),r5,r6,r7,r8,r9,r10,r11,r12]
variable{most many:Int}{os:List Int}{r5 r6 r7 r8 r9 r10 r11 r12:Option U}
theorem Bx{n:Nat}{ys:List Int}(h:S[n]?=some (.lst (ys.map U.int)))(b:Bool):∃zs:List Int,Aq (.ref n) (.int (1-2*(if b then 1 else 0))) S=some (.ref S.length,S++[.lst (zs.map U.int)])/\(∀z,z∈zs->z∈ys)/\zs.length=ys.length/\(ys.Nodup->zs.Nodup):=by
 cases b with
 |true=>
  refine⟨ys.reverse,?_,fun z hz=>List.mem_reverse.mp hz,List.length_reverse,fun hn=>List.pairwise_reverse.mpr (hn.imp fun hne=>Ne.symm hne)⟩
  have e:(1-2*(if true then 1 else 0):Int)=-1:=rfl
  have n1:¬((-1:Int)=1):=by decide
  rw[e]
  simp only[Aq,h,n1,if_false,if_true,List.map_reverse]
 |false=>
  refine⟨ys,?_,fun z hz=>hz,rfl,id⟩
  have e:(1-2*(if false then 1 else 0):Int)=1:=rfl
  rw[e]
  simp only[Aq,h,if_true]
theorem yB{Y:Sto}{wr:List (List Int)}(n1:jw≠lw)(n2:jh≠lw)(n3:jh≠jw)(hh:Y[jh]?=some (.lst (os.map U.int)))(hw:Y[jw]?=some (.lst (wr.map rwU)))(wl:∃z,Y[lw]?=some (.lst [.int z]))(ho:os.length<=90)(on:os.Nodup)(hl:wr.length<=90) :
  ∃(zs:List Int) (Y':Sto) (r6':Option U),cg cF cU (rT lw most many jh jw r5 r6 r7 r8 r9 r10 r11 r12) Y=some (.nx,rT lw most many jh jw r5 r6' r7 r8 r9 r10 r11 r12,Y')/\Y'[jw]?=some (.lst ((wr++[zs]).map rwU))/\Fw lw jw Y Y'/\(∀z∈zs,z∈os)/\zs.length<=90/\zs.Nodup:=by
 have lj:jw<Y.length:=(List.getElem?_eq_some_iff.mp hw).1
 have lh:jh<Y.length:=(List.getElem?_eq_some_iff.mp hh).1
 have ll:lw<Y.length:=by obtain⟨z,h⟩:=wl;exact(List.getElem?_eq_some_iff.mp h).1
 obtain⟨ys,Y1,e1,k1,k2,k3,k4⟩:=gH (lw:=lw) (jh:=jh) (n:=Y.length) (us:=os.map U.int) (by omega) n2 (by omega) os [] (Y++[.lst []]) none (ax hh) (by rw[ga0];rfl) (by obtain⟨z,h⟩:=wl;exact⟨z,ax h⟩) (by simp;omega)
 have hc:bh (iTp (ah 3)) (gNm 0) BF (ah 0) 1 [0] (rT lw most many jh jw r5 r6 r7 r8 r9 r10 r11 r12) Y=some (.ref Y.length,Y1):=by
  have hv:ah 3 (rT lw most many jh jw r5 r6 r7 r8 r9 r10 r11 r12) Y=some (.ref jh,Y):=rfl
  unfold bh iTp
  rw[hv,Option.bind_some]
  simp only[hh,Option.bind_some,jH,rT,List.replicate,List.map_cons,List.map_nil,List.getElem?_cons_zero,Option.getD_some,List.cons_append,List.nil_append,e1]
 have l1:=k2.len
 rw[List.length_append]at l1
 have w1:Y1[jw]?=some (.lst (wr.map rwU)):=k2.get (ax hw) n1 (by omega)
 obtain⟨d,Y2,e2,q2,l2,d0,d1⟩:=bW (m:=7) k2.well (by omega) (by omega)
 have g2:Y2[Y.length]?=some (.lst (ys.map U.int)):=q2.get k1 (by omega)
 obtain⟨qs,k5,k6⟩:=k3
 rw[List.nil_append]at k5
 subst k5
 obtain⟨zs,e3,z1,z2,z3⟩:=Bx g2 (decide (d=0))
 have w2:(Y2++[O.lst (zs.map U.int)])[jw]?=some (.lst (wr.map rwU)):=ax (q2.get w1 n1)
 have lj2:jw<(Y2++[O.lst (zs.map U.int)]).length:=(List.getElem?_eq_some_iff.mp w2).1
 have gn:(Y2++[O.lst (zs.map U.int)])[Y2.length]?=some (.lst (zs.map U.int)):=by rw[ga0];rfl
 have wl2:∃z,(Y2++[O.lst (zs.map U.int)])[lw]?=some (.lst [.int z]):=by obtain⟨z,h⟩:=q2.well;exact⟨z,ax h⟩
 have m2:∀k:Int,gq (.int 2) (.int k) Y2=some (.int (2*k),Y2):=fun k=>jv (.inl (by decide))
 have hA:(wr.map rwU).length<LIM:=by unfold LIM;rw[List.length_map];omega
 have em:wr.map rwU++[.tup (zs.map U.int)]=(wr++[zs]).map rwU:=by rw[List.map_append];rfl
 have yl:ys.length<=90:=by simp at k4;omega
 refine⟨zs,(Y2++[O.lst (zs.map U.int)]).set jw (.lst ((wr++[zs]).map rwU)),some (.ref Y.length),?_,by rw[List.getElem?_set,if_pos rfl,if_pos lj2],?_,fun z hz=>k6.subset (z1 z hz),by omega,z3 (k6.nodup on)⟩
 ·unfold cg
  rw[pW,kr]
  show((bh (iTp (ah 3)) (gNm 0) BF (ah 0) 1 [0] (rT lw most many jh jw r5 r6 r7 r8 r9 r10 r11 r12) Y).bind _).bind _=_
  rw[hc,Option.bind_some,iR,Option.bind_some,kA]
  rwa[rT,w1,e2,m2,e3,gn,w2,iT hA,em]
 ·refine Fw.trans ?_ (.set wl2 n1 _)
  refine Fw.trans ?_ (.of (.app q2.well _))
  refine Fw.trans ?_ (.of q2)
  exact⟨by omega,fun j hj a1 a2=>by rw[k2.keep j (by simp;omega) a1 (by omega),List.getElem?_append_left hj],k2.well⟩
theorem pZ(n1:jw≠lw)(n2:jh≠lw)(n3:jh≠jw)(ho:os.length<=90)(on:os.Nodup):∀(us:List U) (wr:List (List Int)) (Y:Sto) (r5 r6:Option U),Y[jh]?=some (.lst (os.map U.int))->Y[jw]?=some (.lst (wr.map rwU))->(∃z,Y[lw]?=some (.lst [.int z]))->wr.length+us.length<=90->(∀r∈wr,(∀z∈r,z∈os)/\r.length<=90/\r.Nodup)->
  ∃(wr':List (List Int)) (Y':Sto) (r5' r6':Option U),bX (fun _=>True) (gNm 5) (cg cF cU) us (rT lw most many jh jw r5 r6 r7 r8 r9 r10 r11 r12) Y=some (.nx,rT lw most many jh jw r5' r6' r7 r8 r9 r10 r11 r12,Y')/\Y'[jw]?=some (.lst (wr'.map rwU))/\Fw lw jw Y Y'/\(∀r∈wr',(∀z∈r,z∈os)/\r.length<=90/\r.Nodup)/\wr'.length=wr.length+us.length
 |[],wr,Y,r5,r6,h1,h2,h3,_,h5=>⟨wr,Y,r5,r6,bK trivial,h2,.of (.refl h3),h5,rfl⟩
 |u::us,wr,Y,r5,r6,h1,h2,h3,h4,h5=>by
  rw[List.length_cons]at h4
  obtain⟨zs,Y1,r6',e,k1,k2,k3,k4,k5⟩:=yB (most:=most) (many:=many) (r5:=some u) (r6:=r6) (r7:=r7) (r8:=r8) (r9:=r9) (r10:=r10) (r11:=r11) (r12:=r12) n1 n2 n3 h1 h2 h3 ho on (by omega)
  obtain⟨wr',Y',r5'',r6'',ih,i1,i2,i3,i4⟩:=pZ n1 n2 n3 ho on us (wr++[zs]) Y1 (some u) r6' (k2.get h1 n2 n3) k1 k2.well (by simp;omega) (fun r hr=>by
   rcases List.mem_append.mp hr with h|h
   ·exact h5 r h
   ·rw[List.mem_singleton.mp h];exact⟨k3,k4,k5⟩)
  exact⟨wr',Y',r5'',r6'',(cQ trivial rfl e).trans ih,i1,k2.trans i2,i3,by rw[i4];simp;omega⟩
end
section
variable{lw jw jh jk jr je:Nat}{Y S:Sto}{most many a b:Int}{os rf ef:List Int}{wr:List (List Int)}{r5 r6 r7 r8 r9 r10 r11 r12:Option U}
theorem By{us:List U}{l:Nat}(hl:S[l]?=some (.lst us))(h:1<=us.length):fSl (.ref l) (some 1) none S=some (.ref S.length,S++[.lst (us.drop 1)]):=by
 have e:HT.sIx us.length 0 (some (1:Int))=1:=by
  have:=HT.sIx_nat (n:=us.length) (d:=0) (k:=1)
  rw[show((1:Nat):Int)=1 from rfl]at this
  rw[this];omega
 simp only[fSl,hl,HT.sIx_none,e,pJ]
 rw[List.take_of_length_le (by simp)]
def E6:CE:=cOp cS (iB (ae (tj (cC (.int 1))) ay)) (bh (iTp (cOp fIx (ah 4) (ah 5))) (gNm 0) (aN (cOp fNe (ah 0) (ah 1))) (ah 0) 1 [9])
def F3:CE:=cOp cS (iB (ae (tj (cC (.int 1))) ay)) (bh (iTp (cSl (ah 6) (some (cC (.int 1))) none)) (gNm 0) (aN (cOp fLt (cBM aQ (ah 2) (ae (ah 0) ay)) (cBM aQ (ah 2) (ae (ah 1) ay)))) (ah 0) 1 [9,3])
def DO:CE:=cOp fIx (iB (ae (cOp fIx (ah 10) (tj (cC (.int 1)))) (ae (cOp fIx (ah 6) (cCB cF (ae (ah 0) (ae (cCB ji (ae (ah 6) ay)) ay)))) ay))) (cCB Dm (ae (cOp fEq (cCB cF (ae (ah 0) (ae (cC (.int 5)) ay))) (cC (.int 0))) ay))
theorem Aj{G:Sto}{vs:List Int}(hl:vs.length<=900):cS (.ref Y.length) (.ref (Y.length+1)) (Y++(.lst [.int (-1)]::.lst (vs.map U.int)::G))=some (.ref (Y.length+(2+G.length)),Y++(.lst [.int (-1)]::.lst (vs.map U.int)::(G++[.lst ((-1::vs).map U.int)]))):=by
 rw[xW (us:=[.int (-1)]) (vs:=vs.map U.int) (by rw[ga0];rfl) (by rw[ga];rfl) (by unfold LIM;simp;omega)]
 have ln:(Y++(O.lst [.int (-1)]::.lst (vs.map U.int)::G)).length=Y.length+(2+G.length):=by simp;omega
 rw[ln,List.append_assoc];rfl
theorem zc(hw:Y[jw]?=some (.lst (wr.map rwU)))(b0:0<=b)(b1:b<wr.length)(hl:(wr.getD b.toNat []).length<=900) :
  ∃G n,E6 (rT lw most many jh jw (some (.int b)) r6 r7 r8 (some (.int a)) r10 r11 r12) Y=some (.ref (Y.length+n),Y++G)/\G[n]?=some (.lst ((-1::(wr.getD b.toNat []).filter (fun c=>!decide (c=a))).map U.int)):=by
 obtain⟨row,hrow⟩:∃row,row=wr.getD b.toNat []:=⟨_,rfl⟩
 have ar:=tF (wr:=wr) b0 b1
 rw[<-hrow]at ar hl ⊢
 obtain⟨G,e⟩:=cW (S:=Y++[.lst [.int (-1)]]) (ok:=fun _=>True) (gg:=gNm 0) (ct:=aN (cOp fNe (ah 0) (ah 1))) (ce:=ah 0) (f:=U.int) (p:=fun c=>!decide (c=a)) (v:=U.int) (Rel:=fun ρ=>∃r0,ρ=[r0,some (.int a)]) (fun _ _=>trivial) row [] [] [none,some (.int a)] ⟨_,rfl⟩ (by simp;omega) (fun c hc ys G ρ hρ=>by
  obtain⟨r0,rfl⟩:=hρ
  refine⟨[some (.int c),some (.int a)],[],⟨_,rfl⟩,rfl,?_,fun _=>⟨[],?_⟩⟩
  ·rwa[List.append_nil]
  ·rwa[List.append_nil])
 simp only[List.nil_append]at e
 have ln:(Y++[O.lst [.int (-1)]]).length=Y.length+1:=by rw[List.length_append];rfl
 rw[ln]at e
 simp only[List.append_assoc,List.cons_append,List.nil_append]at e
 obtain⟨vs,hvs⟩:∃vs,vs=row.filter (fun c=>!decide (c=a)):=⟨_,rfl⟩
 rw[<-hvs]at e ⊢
 have hv:vs.length<=900:=by rw[hvs];exact Nat.le_trans (List.length_filter_le ..) hl
 have hw1:(Y++[O.lst [.int (-1)]])[jw]?=some (.lst (wr.map rwU)):=ax hw
 have hi:cOp fIx (ah 4) (ah 5) (rT lw most many jh jw (some (.int b)) r6 r7 r8 (some (.int a)) r10 r11 r12) (Y++[.lst [.int (-1)]])=some (.tup (row.map U.int),Y++[.lst [.int (-1)]]):=by
  rwa[rT,hw1,ar]
 have hc:bh (iTp (cOp fIx (ah 4) (ah 5))) (gNm 0) (aN (cOp fNe (ah 0) (ah 1))) (ah 0) 1 [9] (rT lw most many jh jw (some (.int b)) r6 r7 r8 (some (.int a)) r10 r11 r12) (Y++[.lst [.int (-1)]])=some (.ref (Y.length+1),Y++(.lst [.int (-1)]::.lst (vs.map U.int)::G)):=by
  unfold bh iTp
  rw[hi,Option.bind_some]
  simp only[Option.bind_some,jH,rT,List.replicate,List.map_cons,List.map_nil,List.getElem?_cons_zero,List.getElem?_cons_succ,Option.getD_some,List.cons_append,List.nil_append,ln,e,List.append_assoc]
 refine⟨.lst [.int (-1)]::.lst (vs.map U.int)::(G++[.lst ((-1::vs).map U.int)]),2+G.length,?_,?_⟩
 ·have hcat:=Aj (Y:=Y) (G:=G) hv
  obtain⟨ev,hev⟩:∃ev,ev=(-1::vs).map U.int:=⟨_,rfl⟩
  rw[<-hev]at hcat ⊢
  unfold E6
  rwa[pX,kB,hc,hcat]
 ·rw[show 2+G.length=G.length+1+1 from by omega,List.getElem?_cons_succ,List.getElem?_cons_succ,ga0];rfl
theorem Ah(hr:Y[jr]?=some (.lst ((-1::rf).map U.int)))(hh:Y[jh]?=some (.lst (os.map U.int)))(ha:a∈os)(hm:∀c∈rf,c∈os)(hl:rf.length<=900)(ho:os.length<=900) :
  ∃G n ef,F3 (rT lw most many jh jw r5 (some (.ref jr)) r7 r8 (some (.int a)) r10 r11 r12) Y=some (.ref (Y.length+n),Y++G)/\G[n]?=some (.lst ((-1::ef).map U.int))/\∀c∈ef,c∈rf:=by
 have hsl:cSl (ah 6) (some (cC (.int 1))) none (rT lw most many jh jw r5 (some (.ref jr)) r7 r8 (some (.int a)) r10 r11 r12) (Y++[.lst [.int (-1)]])=some (.ref (Y.length+1),Y++[.lst [.int (-1)],.lst (rf.map U.int)]):=by
  have hv:ah 6 (rT lw most many jh jw r5 (some (.ref jr)) r7 r8 (some (.int a)) r10 r11 r12) (Y++[.lst [.int (-1)]])=some (.ref jr,Y++[.lst [.int (-1)]]):=rfl
  have h1:cC (.int 1) (rT lw most many jh jw r5 (some (.ref jr)) r7 r8 (some (.int a)) r10 r11 r12) (Y++[.lst [.int (-1)]])=some (.int 1,Y++[.lst [.int (-1)]]):=rfl
  have ln:(Y++[O.lst [.int (-1)]]).length=Y.length+1:=by rw[List.length_append];rfl
  have hs:=By (S:=Y++[.lst [.int (-1)]]) (us:=(-1::rf).map U.int) (ax hr) (by simp)
  rw[ln,List.append_assoc]at hs
  simp only[cSl,iO,hv,h1,Option.bind_some]
  exact hs
 obtain⟨G,e⟩:=cW (S:=Y++[.lst [.int (-1)],.lst (rf.map U.int)]) (ok:=fun S=>S[Y.length+1]?=some (.lst (rf.map U.int))) (gg:=gNm 0) (ct:=aN (cOp fLt (cBM aQ (ah 2) (ae (ah 0) ay)) (cBM aQ (ah 2) (ae (ah 1) ay)))) (ce:=ah 0) (f:=U.int) (p:=fun c=>decide (((os.idxOf c:Nat):Int)<((os.idxOf a:Nat):Int))) (v:=U.int) (Rel:=fun ρ=>∃r0,ρ=[r0,some (.int a),some (.ref jh)]) (fun ys G=>by rw[List.append_assoc,ga];rfl) rf [] [] [none,some (.int a),some (.ref jh)] ⟨_,rfl⟩ (by simp;omega) (fun c hc ys G ρ hρ=>by
  obtain⟨r0,rfl⟩:=hρ
  have hh':∀X,(Y++X)[jh]?=some (.lst (os.map U.int)):=fun X=>ax hh
  have i1:∀X,aQ (.ref jh) [.int c] (Y++X)=some (.int (os.idxOf c:Nat),Y++X):=fun X=>dY (hh' X) (hm c hc) ho
  have i2:∀X,aQ (.ref jh) [.int a] (Y++X)=some (.int (os.idxOf a:Nat),Y++X):=fun X=>dY (hh' X) ha ho
  refine⟨[some (.int c),some (.int a),some (.ref jh)],[],⟨_,rfl⟩,rfl,?_,fun _=>⟨[],?_⟩⟩
  ·rwa[hh',i1,i2,List.append_nil]
  ·rwa[List.append_nil])
 simp only[List.nil_append]at e
 have ln:(Y++[O.lst [.int (-1)],.lst (rf.map U.int)]).length=Y.length+2:=by rw[List.length_append];rfl
 have gz:(Y++[O.lst [.int (-1)],.lst (rf.map U.int)])[Y.length+1]?=some (.lst (rf.map U.int)):=by rw[ga];rfl
 rw[ln]at e
 simp only[List.append_assoc,List.cons_append,List.nil_append]at e
 obtain⟨vs,hvs⟩:∃vs,vs=rf.filter (fun c=>decide (((os.idxOf c:Nat):Int)<((os.idxOf a:Nat):Int))):=⟨_,rfl⟩
 rw[<-hvs]at e
 have hv:vs.length<=900:=by rw[hvs];exact Nat.le_trans (List.length_filter_le ..) hl
 have hc:bh (iTp (cSl (ah 6) (some (cC (.int 1))) none)) (gNm 0) (aN (cOp fLt (cBM aQ (ah 2) (ae (ah 0) ay)) (cBM aQ (ah 2) (ae (ah 1) ay)))) (ah 0) 1 [9,3] (rT lw most many jh jw r5 (some (.ref jr)) r7 r8 (some (.int a)) r10 r11 r12) (Y++[.lst [.int (-1)]])=some (.ref (Y.length+2),Y++(.lst [.int (-1)]::.lst (rf.map U.int)::.lst (vs.map U.int)::G)):=by
  unfold bh iTp
  rw[hsl,Option.bind_some]
  simp only[gz,Option.bind_some,jH,rT,List.replicate,List.map_cons,List.map_nil,List.getElem?_cons_zero,List.getElem?_cons_succ,Option.getD_some,List.cons_append,List.nil_append,ln,e,List.append_assoc]
 have hcat:cS (.ref Y.length) (.ref (Y.length+2)) (Y++(.lst [.int (-1)]::.lst (rf.map U.int)::.lst (vs.map U.int)::G))=some (.ref (Y.length+(3+G.length)),Y++(.lst [.int (-1)]::.lst (rf.map U.int)::.lst (vs.map U.int)::(G++[.lst ((-1::vs).map U.int)]))):=by
  rw[xW (us:=[.int (-1)]) (vs:=vs.map U.int) (by rw[ga0];rfl) (by rw[ga];rfl) (by unfold LIM;simp;omega)]
  have ln:(Y++(O.lst [.int (-1)]::.lst (rf.map U.int)::.lst (vs.map U.int)::G)).length=Y.length+(3+G.length):=by simp;omega
  rw[ln,List.append_assoc];rfl
 refine⟨.lst [.int (-1)]::.lst (rf.map U.int)::.lst (vs.map U.int)::(G++[.lst ((-1::vs).map U.int)]),3+G.length,vs,?_,?_,fun c hc=>by rw[hvs]at hc;exact(List.mem_filter.mp hc).1⟩
 ·obtain⟨ev,hev⟩:∃ev,ev=(-1::vs).map U.int:=⟨_,rfl⟩
  rw[<-hev]at hcat ⊢
  unfold F3
  rwa[pX,kB,hc,hcat]
 ·rw[show 3+G.length=G.length+1+1+1 from by omega,List.getElem?_cons_succ,List.getElem?_cons_succ,List.getElem?_cons_succ,ga0];rfl
theorem yV(he:Y[je]?=some (.lst ((-1::ef).map U.int)))(hr:Y[jr]?=some (.lst ((-1::rf).map U.int)))(wl:∃z,Y[lw]?=some (.lst [.int z]))(n1:jr≠lw)(hl:rf.length<=900)(hef:∀c∈ef,c∈rf) :
  ∃v Y',DO (rT lw most many jh jw r5 (some (.ref jr)) r7 r8 r9 (some (.ref je)) r11 r12) Y=some (.int v,Y')/\Wl lw Y Y'/\(v=-1\/v∈rf):=by
 obtain⟨v1,hv1⟩:∃v1,v1=ef.getLast?.getD (-1):=⟨_,rfl⟩
 have m1:v1=-1\/v1∈rf:=by
  rw[hv1]
  cases hg:ef.getLast? with
  |none=>exact .inl rfl
  |some x=>exact .inr (hef x (List.mem_of_getLast? hg))
 have a1:atI ((-1::ef).map U.int) (-1)=some (.int v1):=by rw[hv1];exact DB ef
 obtain⟨eu,heu⟩:∃eu,eu=(-1::ef).map U.int:=⟨_,rfl⟩
 obtain⟨ru,hru⟩:∃ru,ru=(-1::rf).map U.int:=⟨_,rfl⟩
 have lru:ru.length=rf.length+1:=by rw[hru];simp
 rw[<-heu]at he a1
 rw[<-hru]at hr
 obtain⟨d,Y1,e1,w1,l1,d0,d1⟩:=bW (m:=((ru.length:Nat):Int)) wl (by omega) (by omega)
 have hr1:Y1[jr]?=some (.lst ru):=w1.get hr n1
 obtain⟨v2,a2,m2⟩:∃v2,atI ru d=some (.int v2)/\(v2=-1\/v2∈rf):=by
  have hi:d.toNat<(-1::rf).length:=by simp;omega
  have:=dQ (xs:=ru) (j:=d.toNat) (v:=.int (-1::rf)[d.toNat]) (by rw[hru,List.getElem?_map,List.getElem?_eq_getElem hi];rfl)
  rw[show((d.toNat:Nat):Int)=d from by omega]at this
  exact⟨_,this,List.mem_cons.mp (List.getElem_mem hi)⟩
 obtain⟨d2,Y2,e2,w2,l2,_,_⟩:=bW (T:=Y1++[.lst [.int v1,.int v2]]) (lw:=lw) (m:=5) (by obtain⟨z,h⟩:=w1.well;exact⟨z,ax h⟩) (by omega) (by omega)
 have ll:lw<Y1.length:=by obtain⟨z,h⟩:=w1.well;exact(List.getElem?_eq_some_iff.mp h).1
 have g2:Y2[Y1.length]?=some (.lst [.int v1,.int v2]):=w2.get (by rw[ga0];rfl) (by omega)
 have W:Wl lw Y Y2:=(w1.trans (.app w1.well _)).trans w2
 by_cases h0:d2=0
 ·have h0':decide (d2=0)=true:=decide_eq_true h0
  refine⟨v2,Y2,?_,W,m2⟩
  unfold DO
  rwa[rT,pX,kB,he,a1,hr,e1,hr1,a2,e2,h0',if_true,g2]
 ·have h0':decide (d2=0)=false:=decide_eq_false h0
  refine⟨v1,Y2,?_,W,m1⟩
  unfold DO
  rwa[rT,pX,kB,he,a1,hr,e1,hr1,a2,e2,h0',Bool.false_eq_true,if_false,g2]
end
section
variable{κ κ' α β:Type}[DecidableEq κ][DecidableEq κ']
theorem nN(kf:κ->κ')(vf:α->β)(inj:∀a b,kf a=kf b->a=b)(ps:List (κ×α))(k:κ)(v:α):f6 (ps.map fun p=>(kf p.1,vf p.2)) (kf k) (vf v)=(f6 ps k v).map fun p=>(kf p.1,vf p.2):=by
 have hd:∀a,decide (kf a=kf k)=decide (a=k):=fun a=>by
  rw[Bool.eq_iff_iff,decide_eq_true_eq,decide_eq_true_eq]
  exact⟨inj a k,fun h=>by rw[h]⟩
 have ha:((ps.map fun p=>(kf p.1,vf p.2)).any fun kv=>decide (kv.1=kf k))=ps.any fun kv=>decide (kv.1=k):=by
  rw[List.any_map]
  congr 1
  funext p
  exact hd p.1
 unfold f6
 rw[ha]
 by_cases h:(ps.any fun kv=>decide (kv.1=k))=true
 ·rw[if_pos h,if_pos h,List.map_map,List.map_map]
  refine List.map_congr_left fun p _=>?_
  show(if kf p.1=kf k then(kf p.1,vf v)else(kf p.1,vf p.2))=_
  by_cases e:p.1=k
  ·simp[e]
  ·have e':¬kf p.1=kf k:=fun z=>e (inj _ _ z)
   simp[e,e']
 ·rw[if_neg h,if_neg h,List.map_append];rfl
theorem qS{ps:List (κ×α)}{k:κ}{v:α}(h:(ps.map (·.1)).Nodup):((f6 ps k v).map (·.1)).Nodup:=by
 unfold f6
 by_cases e:(ps.any fun kv=>decide (kv.1=k))=true
 ·rw[if_pos e,List.map_map]
  have:((fun x:κ×α=>x.1) ∘ fun kv=>if kv.1=k then(kv.1,v)else kv)=fun x=>x.1:=by
   funext p
   show(if p.1=k then(p.1,v)else p).1=p.1
   split<;>rfl
  rw[this];exact h
 ·rw[if_neg e,List.map_append,List.nodup_append]
  refine⟨h,by simp,fun a ha b hb z=>?_⟩
  rw[List.map_singleton,List.mem_singleton]at hb
  obtain⟨p,hp,hp2⟩:=List.mem_map.mp ha
  exact e (List.any_eq_true.mpr ⟨p,hp,decide_eq_true (by rw[hp2,z,hb])⟩)
theorem kY{ps:List (κ×α)}{k:κ}{v:α}{q:κ×α}(h:q∈f6 ps k v):q=(k,v)\/q∈ps:=by
 unfold f6 at h
 split at h
 ·obtain⟨p,hp,e⟩:=List.mem_map.mp h
  by_cases z:p.1=k
  ·rw[if_pos z]at e;rw[<-e,z];exact .inl rfl
  ·rw[if_neg z]at e;rw[<-e];exact .inr hp
 ·rcases List.mem_append.mp h with z|z
  ·exact .inr z
  ·rw[List.mem_singleton.mp z];exact .inl rfl
theorem uF{ps:List (κ×α)}{p:κ×α}(nd:(ps.map (·.1)).Nodup)(h:p∈ps):fq ps p.1=some p.2:=by
 unfold fq
 induction ps with
 |nil=>cases h
 |cons q r ih=>
  rw[List.map_cons,List.nodup_cons]at nd
  rcases List.mem_cons.mp h with z|z
  ·subst z;simp
  ·have:q.1≠p.1:=fun e=>nd.1 (List.mem_map.mpr ⟨p,z,e.symm⟩)
   rw[List.find?_cons,decide_eq_false this]
   exact ih nd.2 z
end
def kT(p:Int×Int):List Key:=[.inl p.1,.inl p.2]
theorem rV:∀a b:Int×Int,kT a=kT b->a=b:=fun a b h=>by
 unfold kT at h
 injection h with h1 h2
 injection h2 with h3 _
 exact Prod.ext (Sum.inl.inj h1) (Sum.inl.inj h3)
def fM(ps:List ((Int×Int)×Int)):List (List Key×U):=ps.map fun p=>(kT p.1,.int p.2)
def mm(ps:List ((Int×Int)×Unit)):List (List Key×U):=ps.map fun p=>(kT p.1,.bl true)
theorem uZ(ps:List ((Int×Int)×Int))(k:Int×Int)(v:Int):f6 (fM ps) (kT k) (.int v)=fM (f6 ps k v):=nN kT U.int rV ps k v
theorem uY(ps:List ((Int×Int)×Unit))(k:Int×Int):f6 (mm ps) (kT k) (.bl true)=mm (f6 ps k ()):=nN kT (fun _=>U.bl true) rV ps k ()
theorem dA{ca cb:CS}{ρ ρ':Rho}{S S':Sto}(h:ca ρ S=some (.nx,ρ',S')):bH ca cb ρ S=cb ρ' S':=by rw[pW,h,Option.bind_some,kA]
section
variable{lw jw jh jk jr je jt:Nat}{Y S:Sto}{most many a b:Int}{os rf ef:List Int}{wr:List (List Int)}{r5 r6 r7 r8 r9 r10 r11 r12:Option U}
def InB(many:Int)(wr:List (List Int))(ps:List ((Int×Int)×Int)):Prop:=∀p∈ps,(0<=p.1.1/\p.1.1<many)/\0<=p.1.2/\p.1.2<wr.length/\(p.2=-1\/(p.2∈wr.getD p.1.2.toNat []/\p.2≠p.1.1))
theorem zO{ps:List ((Int×Int)×Int)}(n1:jw≠lw)(n2:jh≠lw)(n3:jk≠lw)(n4:jw≠jk)(n5:jh≠jk)(m0:1<=many)(m1:many<=90)(w0:1<=wr.length)(wl1:wr.length<=90)
  (hh:Y[jh]?=some (.lst (os.map U.int))) (hw:Y[jw]?=some (.lst (wr.map rwU))) (hk:Y[jk]?=some (.dit (fM ps))) (wl:∃z,Y[lw]?=some (.lst [.int z])) (ho:os.length<=90) (hm:∀a,0<=a->a<many->a∈os) (hr:∀r∈wr,(∀z∈r,z∈os)/\r.length<=90/\r.Nodup) (hp:ps.length<=90) (ib:InB many wr ps) (nd:(ps.map (·.1)).Nodup) :
  ∃(ps':List ((Int×Int)×Int)) (Y':Sto) (r5' r6' r9' r10':Option U),cf cF cU (rT lw most many jh jw r5 r6 (some (.ref jk)) r8 r9 r10 r11 r12) Y=some (.nx,rT lw most many jh jw r5' r6' (some (.ref jk)) r8 r9' r10' r11 r12,Y')/\Y'[jk]?=some (.dit (fM ps'))/\Fw lw jk Y Y'/\InB many wr ps'/\(ps'.map (·.1)).Nodup/\ps'.length<=ps.length+1:=by
 obtain⟨a,Y1,e1,w1,l1,a0,a1⟩:=bW (m:=many) wl (by omega) (by omega)
 have hw1:Y1[jw]?=some (.lst (wr.map rwU)):=w1.get hw n1
 obtain⟨b,Y2,e2,w2,l2,b0,b1⟩:=bW (m:=(wr.length:Int)) w1.well (by omega) (by omega)
 have hw2:Y2[jw]?=some (.lst (wr.map rwU)):=w2.get hw1 n1
 have hb:b.toNat<wr.length:=by omega
 have hrow:wr.getD b.toNat []∈wr:=by rw[List.getD_eq_getElem?_getD,List.getElem?_eq_getElem hb];exact List.getElem_mem hb
 obtain⟨q1,q2,_⟩:=hr _ hrow
 obtain⟨G3,k3,e3,g3⟩:=zc (lw:=lw) (most:=most) (many:=many) (jh:=jh) (r6:=r6) (r7:=some (.ref jk)) (r8:=r8) (a:=a) (r10:=r10) (r11:=r11) (r12:=r12) hw2 b0 b1 (by omega)
 obtain⟨rf,hrf⟩:∃rf,rf=(wr.getD b.toNat []).filter (fun c=>!decide (c=a)):=⟨_,rfl⟩
 rw[<-hrf]at g3
 have lrf:rf.length<=90:=by rw[hrf];exact Nat.le_trans (List.length_filter_le ..) q2
 have hrm:∀c∈rf,c∈os:=fun c hc=>by rw[hrf]at hc;exact q1 c (List.mem_filter.mp hc).1
 have gr:(Y2++G3)[Y2.length+k3]?=some (.lst ((-1::rf).map U.int)):=by rw[ga];exact g3
 have hh2:(Y2++G3)[jh]?=some (.lst (os.map U.int)):=ax (w2.get (w1.get hh n2) n2)
 obtain⟨G4,k4,ef,e4,g4,hef⟩:=Ah (lw:=lw) (most:=most) (many:=many) (jw:=jw) (r5:=some (.int b)) (r7:=some (.ref jk)) (r8:=r8) (a:=a) (r10:=r10) (r11:=r11) (r12:=r12) gr hh2 (hm a a0 a1) hrm (by omega) (by omega)
 have ge:(Y2++G3++G4)[(Y2++G3).length+k4]?=some (.lst ((-1::ef).map U.int)):=by rw[ga];exact g4
 have ll:lw<Y2.length:=by obtain⟨z,h⟩:=w2.well;exact(List.getElem?_eq_some_iff.mp h).1
 have wl4:∃z,(Y2++G3++G4)[lw]?=some (.lst [.int z]):=by obtain⟨z,h⟩:=w2.well;exact⟨z,ax (ax h)⟩
 obtain⟨v,Y5,e5,w5,hv⟩:=yV (most:=most) (many:=many) (jh:=jh) (jw:=jw) (r5:=some (.int b)) (r7:=some (.ref jk)) (r8:=r8) (r9:=some (.int a)) (r11:=r11) (r12:=r12) ge (ax gr) wl4 (by omega) (by omega) hef
 have W:Wl lw Y Y5:=((w1.trans w2).trans ((Wl.app w2.well G3).trans (.app (by obtain⟨z,h⟩:=w2.well;exact⟨z,ax h⟩) G4))).trans w5
 have hk5:Y5[jk]?=some (.dit (fM ps)):=W.get hk n3
 have lk5:jk<Y5.length:=(List.getElem?_eq_some_iff.mp hk5).1
 have hlim:(fM ps).length<LIM/\[U.int a,U.int b].length<=LIM:=by unfold LIM fM;rw[List.length_map];exact⟨by omega,by simp⟩
 have htk:yY [U.int a,U.int b]=some (kT (a,b)):=rfl
 refine⟨f6 ps (a,b) v,Y5.set jk (.dit (fM (f6 ps (a,b) v))),some (.int b),some (.ref (Y2.length+k3)),some (.int a),some (.ref ((Y2++G3).length+k4)),?_,by rw[List.getElem?_set,if_pos rfl,if_pos lk5],(Fw.of W).trans (.set W.well n3 _),fun p hp=>?_,qS nd,og ..⟩
 ·unfold cf
  refine(dA (ρ':=rT lw most many jh jw r5 r6 (some (.ref jk)) r8 (some (.int a)) r10 r11 r12) (S':=Y1) ?_).trans ?_
  ·rwa[rT,e1]
  refine(dA (ρ':=rT lw most many jh jw (some (.int b)) r6 (some (.ref jk)) r8 (some (.int a)) r10 r11 r12) (S':=Y2) ?_).trans ?_
  ·rwa[rT,hw1,List.length_map,e2]
  refine(dA (ρ':=rT lw most many jh jw (some (.int b)) (some (.ref (Y2.length+k3))) (some (.ref jk)) r8 (some (.int a)) r10 r11 r12) (S':=Y2++G3) ?_).trans ?_
  ·show b6 6 E6 _ _=_
   rw[kr,e3,Option.bind_some,iR];rfl
  refine(dA (ρ':=rT lw most many jh jw (some (.int b)) (some (.ref (Y2.length+k3))) (some (.ref jk)) r8 (some (.int a)) (some (.ref ((Y2++G3).length+k4))) r11 r12) (S':=Y2++G3++G4) ?_).trans ?_
  ·show b6 10 F3 _ _=_
   rw[kr,e4,Option.bind_some,iR];rfl
  ·show eE (ah 7) (ae (ah 9) (ae (ah 5) ay)) DO _ _=_
   unfold eE
   rw[e5,Option.bind_some]
   have hc7:ah 7 (rT lw most many jh jw (some (.int b)) (some (.ref (Y2.length+k3))) (some (.ref jk)) r8 (some (.int a)) (some (.ref ((Y2++G3).length+k4))) r11 r12) Y5=some (.ref jk,Y5):=rfl
   have hca:ae (ah 9) (ae (ah 5) ay) (rT lw most many jh jw (some (.int b)) (some (.ref (Y2.length+k3))) (some (.ref jk)) r8 (some (.int a)) (some (.ref ((Y2++G3).length+k4))) r11 r12) Y5=some ([.int a,.int b],Y5):=rfl
   dsimp only
   rw[hc7,Option.bind_some]
   dsimp only
   rw[hca,Option.bind_some]
   dsimp only
   rw[hk5]
   dsimp only
   rw[htk,Option.bind_some,if_pos hlim,uZ]
 ·rcases kY hp with h|h
  ·rw[h]
   refine⟨⟨a0,a1⟩,b0,b1,hv.imp id fun z=>?_⟩
   rw[hrf]at z
   obtain⟨z1,z2⟩:=List.mem_filter.mp z
   exact⟨z1,by simpa using z2⟩
  ·exact ib p h
theorem rN(n1:jw≠lw)(n2:jh≠lw)(n3:jk≠lw)(n4:jw≠jk)(n5:jh≠jk)(m0:1<=many)(m1:many<=90)(w0:1<=wr.length)(wl1:wr.length<=90)(ho:os.length<=90)(hm:∀a,0<=a->a<many->a∈os)(hr:∀r∈wr,(∀z∈r,z∈os)/\r.length<=90/\r.Nodup) :
  ∀(us:List U) (ps:List ((Int×Int)×Int)) (Y:Sto) (r5 r6 r8 r9 r10:Option U),Y[jh]?=some (.lst (os.map U.int))->Y[jw]?=some (.lst (wr.map rwU))->Y[jk]?=some (.dit (fM ps))->(∃z,Y[lw]?=some (.lst [.int z]))->ps.length+us.length<=90->InB many wr ps->(ps.map (·.1)).Nodup->
  ∃(ps':List ((Int×Int)×Int)) (Y':Sto) (r5' r6' r8' r9' r10':Option U),bX (fun _=>True) (gNm 8) (cf cF cU) us (rT lw most many jh jw r5 r6 (some (.ref jk)) r8 r9 r10 r11 r12) Y=some (.nx,rT lw most many jh jw r5' r6' (some (.ref jk)) r8' r9' r10' r11 r12,Y')/\Y'[jk]?=some (.dit (fM ps'))/\Fw lw jk Y Y'/\InB many wr ps'/\(ps'.map (·.1)).Nodup/\ps'.length<=ps.length+us.length
 |[],ps,Y,r5,r6,r8,r9,r10,h1,h2,h3,h4,_,h6,h7=>⟨ps,Y,r5,r6,r8,r9,r10,bK trivial,h3,.of (.refl h4),h6,h7,by simp⟩
 |u::us,ps,Y,r5,r6,r8,r9,r10,h1,h2,h3,h4,h5,h6,h7=>by
  rw[List.length_cons]at h5
  obtain⟨ps1,Y1,s5,s6,s9,s10,e,k1,k2,k3,k4,k5⟩:=zO (most:=most) (r5:=r5) (r6:=r6) (r8:=some u) (r9:=r9) (r10:=r10) (r11:=r11) (r12:=r12) n1 n2 n3 n4 n5 m0 m1 w0 wl1 h1 h2 h3 h4 ho hm hr (by omega) h6 h7
  obtain⟨ps',Y',t5,t6,t8,t9,t10,ih,i1,i2,i3,i4,i5⟩:=rN n1 n2 n3 n4 n5 m0 m1 w0 wl1 ho hm hr us ps1 Y1 s5 s6 (some u) s9 s10 (k2.get h1 n2 n5) (k2.get h2 n1 n4) k1 k2.well (by omega) k3 k4
  exact⟨ps',Y',t5,t6,t8,t9,t10,(cQ trivial rfl e).trans ih,i1,k2.trans i2,i3,i4,by rw[List.length_cons];omega⟩
end
section
variable{lw jw jh jk jt:Nat}{Y S:Sto}{most many a b:Int}{os:List Int}{wr:List (List Int)}{r5 r6 r7 r8 r9 r10 r11 r12:Option U}
def TmB(many:Int)(ts:List ((Int×Int)×Unit)):Prop:=∀p∈ts,(0<=p.1.1/\p.1.1<many)/\(0<=p.1.2/\p.1.2<many)/\p.1.1≠p.1.2
theorem yX{ts:List ((Int×Int)×Unit)}(n2:jh≠lw)(n3:jt≠lw)(m0:1<=many)(m1:many<=90)
  (hh:Y[jh]?=some (.lst (os.map U.int))) (hk:Y[jt]?=some (.dit (mm ts))) (wl:∃z,Y[lw]?=some (.lst [.int z])) (ho:os.length<=90) (hm:∀a,0<=a->a<many->a∈os) (hp:ts.length<=90) (nd:(ts.map (·.1)).Nodup) (tb:TmB many ts) :
  ∃(ts':List ((Int×Int)×Unit)) (Y':Sto) (r9' r12':Option U),bF cF cU (rT lw most many jh jw r5 r6 r7 r8 r9 r10 (some (.ref jt)) r12) Y=some (.nx,rT lw most many jh jw r5 r6 r7 r8 r9' r10 (some (.ref jt)) r12',Y')/\Y'[jt]?=some (.dit (mm ts'))/\Fw lw jt Y Y'/\(ts'.map (·.1)).Nodup/\ts'.length<=ts.length+1/\TmB many ts':=by
 obtain⟨a,Y1,e1,w1,l1,a0,a1⟩:=bW (m:=many) wl (by omega) (by omega)
 obtain⟨b,Y2,e2,w2,l2,b0,b1⟩:=bW (m:=many) w1.well (by omega) (by omega)
 have W:=w1.trans w2
 have hh2:Y2[jh]?=some (.lst (os.map U.int)):=W.get hh n2
 have hk2:Y2[jt]?=some (.dit (mm ts)):=W.get hk n3
 have i1:aQ (.ref jh) [.int a] Y2=some (.int (os.idxOf a:Nat),Y2):=dY hh2 (hm a a0 a1) (by omega)
 have i2:aQ (.ref jh) [.int b] Y2=some (.int (os.idxOf b:Nat),Y2):=dY hh2 (hm b b0 b1) (by omega)
 have hput:a≠b->∀Y3,Wl lw Y Y3->∃(ts':List ((Int×Int)×Unit)) (Y':Sto),eE (ah 11) (ae (ah 9) (ae (ah 12) ay)) (cC (.bl true)) (rT lw most many jh jw r5 r6 r7 r8 (some (.int a)) r10 (some (.ref jt)) (some (.int b))) Y3=some (.nx,rT lw most many jh jw r5 r6 r7 r8 (some (.int a)) r10 (some (.ref jt)) (some (.int b)),Y')/\Y'[jt]?=some (.dit (mm ts'))/\Fw lw jt Y Y'/\(ts'.map (·.1)).Nodup/\ts'.length<=ts.length+1/\TmB many ts':=fun nab Y3 W3=>by
  have hk3:Y3[jt]?=some (.dit (mm ts)):=W3.get hk n3
  have lk3:jt<Y3.length:=(List.getElem?_eq_some_iff.mp hk3).1
  have hlim:(mm ts).length<LIM/\[U.int a,U.int b].length<=LIM:=by unfold LIM mm;rw[List.length_map];exact⟨by omega,by simp⟩
  have htk:yY [U.int a,U.int b]=some (kT (a,b)):=rfl
  refine⟨f6 ts (a,b) (),Y3.set jt (.dit (mm (f6 ts (a,b) ()))),?_,by rw[List.getElem?_set,if_pos rfl,if_pos lk3],(Fw.of W3).trans (.set W3.well n3 _),qS nd,og ..,fun p hp=>(kY hp).elim (fun e=>by rw[e];exact⟨⟨a0,a1⟩,⟨b0,b1⟩,nab⟩) (tb p)⟩
  unfold eE
  have hcv:cC (.bl true) (rT lw most many jh jw r5 r6 r7 r8 (some (.int a)) r10 (some (.ref jt)) (some (.int b))) Y3=some (.bl true,Y3):=rfl
  have hco:ah 11 (rT lw most many jh jw r5 r6 r7 r8 (some (.int a)) r10 (some (.ref jt)) (some (.int b))) Y3=some (.ref jt,Y3):=rfl
  have hca:ae (ah 9) (ae (ah 12) ay) (rT lw most many jh jw r5 r6 r7 r8 (some (.int a)) r10 (some (.ref jt)) (some (.int b))) Y3=some ([.int a,.int b],Y3):=rfl
  rw[hcv,Option.bind_some]
  dsimp only
  rw[hco,Option.bind_some]
  dsimp only
  rw[hca,Option.bind_some]
  dsimp only
  rw[hk3]
  dsimp only
  rw[htk,Option.bind_some,if_pos hlim,uY]
 have s1:b6 9 (cCB cF (ae (ah 0) (ae (ah 2) ay))) (rT lw most many jh jw r5 r6 r7 r8 r9 r10 (some (.ref jt)) r12) Y=some (.nx,rT lw most many jh jw r5 r6 r7 r8 (some (.int a)) r10 (some (.ref jt)) r12,Y1):=by
  rwa[rT,e1]
 have s2:b6 12 (cCB cF (ae (ah 0) (ae (ah 2) ay))) (rT lw most many jh jw r5 r6 r7 r8 (some (.int a)) r10 (some (.ref jt)) r12) Y1=some (.nx,rT lw most many jh jw r5 r6 r7 r8 (some (.int a)) r10 (some (.ref jt)) (some (.int b)),Y2):=by
  rwa[rT,e2]
 have fin:∀(bb:Bool) (Y3:Sto),(bb=true->a≠b)->Wl lw Y Y3->Au (aN (cOp fNe (ah 9) (ah 12))) (cOr (aN (cOp fLt (cBM aQ (ah 3) (ae (ah 9) ay)) (cBM aQ (ah 3) (ae (ah 12) ay)))) (aN (cOp fEq (cCB cF (ae (ah 0) (ae (cC (.int 6)) ay))) (cC (.int 0))))) (rT lw most many jh jw r5 r6 r7 r8 (some (.int a)) r10 (some (.ref jt)) (some (.int b))) Y2=some (bb,Y3)->
   ∃(ts':List ((Int×Int)×Unit)) (Y':Sto) (r9' r12':Option U),bF cF cU (rT lw most many jh jw r5 r6 r7 r8 r9 r10 (some (.ref jt)) r12) Y=some (.nx,rT lw most many jh jw r5 r6 r7 r8 r9' r10 (some (.ref jt)) r12',Y')/\Y'[jt]?=some (.dit (mm ts'))/\Fw lw jt Y Y'/\(ts'.map (·.1)).Nodup/\ts'.length<=ts.length+1/\TmB many ts':=fun bb Y3 nab W3 ht=>by
  unfold bF
  cases bb with
  |true=>
   obtain⟨ts',Y',e,k⟩:=hput (nab rfl) Y3 W3
   refine⟨ts',Y',some (.int a),some (.int b),?_,k⟩
   rw[dA s1,dA s2,kC,ht,Option.bind_some,iS]
   exact e
  |false=>
   refine⟨ts,Y3,some (.int a),some (.int b),?_,W3.get hk n3,.of W3,nd,by omega,tb⟩
   rw[dA s1,dA s2,kC,ht,Option.bind_some,ni]
   rfl
 by_cases h1:a=b
 ·have h1':decide (a=b)=true:=decide_eq_true h1
  refine fin false Y2 (fun z=>by cases z) W ?_
  rwa[rT,h1']
 ·have h1':decide (a=b)=false:=decide_eq_false h1
  cases h2:decide (((os.idxOf a:Nat):Int)<((os.idxOf b:Nat):Int))with
  |true=>
   refine fin true Y2 (fun _=>h1) W ?_
   rwa[rT,h1',hh2,i1,i2,h2]
  |false=>
   obtain⟨d,Y3,e3,w3,l3,_,_⟩:=bW (m:=6) w2.well (by omega) (by omega)
   refine fin (decide (d=0)) Y3 (fun _=>h1) (W.trans w3) ?_
   rwa[rT,h1',hh2,i1,i2,h2,e3]
theorem qq(n2:jh≠lw)(n3:jt≠lw)(n5:jh≠jt)(m0:1<=many)(m1:many<=90)(ho:os.length<=90)(hm:∀a,0<=a->a<many->a∈os) :
  ∀(us:List U) (ts:List ((Int×Int)×Unit)) (Y:Sto) (r8 r9 r12:Option U),Y[jh]?=some (.lst (os.map U.int))->Y[jt]?=some (.dit (mm ts))->(∃z,Y[lw]?=some (.lst [.int z]))->ts.length+us.length<=90->(ts.map (·.1)).Nodup->TmB many ts->
  ∃(ts':List ((Int×Int)×Unit)) (Y':Sto) (r8' r9' r12':Option U),bX (fun _=>True) (gNm 8) (bF cF cU) us (rT lw most many jh jw r5 r6 r7 r8 r9 r10 (some (.ref jt)) r12) Y=some (.nx,rT lw most many jh jw r5 r6 r7 r8' r9' r10 (some (.ref jt)) r12',Y')/\Y'[jt]?=some (.dit (mm ts'))/\Fw lw jt Y Y'/\(ts'.map (·.1)).Nodup/\ts'.length<=ts.length+us.length/\TmB many ts'
 |[],ts,Y,r8,r9,r12,h1,h3,h4,_,h7,h8=>⟨ts,Y,r8,r9,r12,bK trivial,h3,.of (.refl h4),h7,by simp,h8⟩
 |u::us,ts,Y,r8,r9,r12,h1,h3,h4,h5,h7,h8=>by
  rw[List.length_cons]at h5
  obtain⟨ts1,Y1,s9,s12,e,k1,k2,k4,k5,k6⟩:=yX (most:=most) (jw:=jw) (r5:=r5) (r6:=r6) (r7:=r7) (r8:=some u) (r9:=r9) (r10:=r10) (r12:=r12) n2 n3 m0 m1 h1 h3 h4 ho hm (by omega) h7 h8
  obtain⟨ts',Y',t8,t9,t12,ih,i1,i2,i4,i5,i6⟩:=qq n2 n3 n5 m0 m1 ho hm us ts1 Y1 (some u) s9 s12 (k2.get h1 n2 n5) k1 k2.well (by omega) k4 k6
  exact⟨ts',Y',t8,t9,t12,(cQ trivial rfl e).trans ih,i1,k2.trans i2,i4,by rw[List.length_cons];omega,i6⟩
def mD(p:(Int×Int)×Int):List Int:=[p.1.1,p.1.2,p.2]
def Ap(p:(Int×Int)×Unit):List Int:=[p.1.1,p.1.2]
theorem iY:∀ts:List ((Int×Int)×Unit),o7 (mm ts)=some (ts.map Ap)
 |[]=>rfl
 |p::ts=>by
  have ih:=iY ts
  unfold mm at ih ⊢
  rw[List.map_cons,o7,ih];rfl
theorem zf{ts:List ((Int×Int)×Unit)}(h:(ts.map (·.1)).Nodup):(ts.map Ap).Nodup:=by
 rw[List.nodup_iff_pairwise_ne,List.pairwise_map]at h ⊢
 refine h.imp fun{p q} hn e=>hn ?_
 unfold Ap at e
 injection e with e1 e2
 injection e2 with e3 _
 exact Prod.ext e1 e3
theorem ze{ps:List ((Int×Int)×Int)}(h:(ps.map (·.1)).Nodup):(ps.map mD).Nodup:=by
 rw[List.nodup_iff_pairwise_ne,List.pairwise_map]at h ⊢
 refine h.imp fun{p q} hn e=>hn ?_
 unfold mD at e
 injection e with e1 e2
 injection e2 with e3 _
 exact Prod.ext e1 e3
theorem ff{ps:List (List Int)}{r:List Int}(h:r∈dZ ps):r∈ps:=by
 unfold dZ at h
 split at h
 ·rename_i hx
  exact(hx.choose_spec.2 r).mp h
 ·cases h
theorem kM{ps:List (List Int)}:(dZ ps).length<=ps.length:=by
 have nd:(dZ ps).Nodup:=by
  unfold dZ
  split
  ·rename_i hx
   exact hx.choose_spec.1.imp fun{a b} h e=>by subst e;rw[gR]at h;cases h
  ·exact List.nodup_nil
 exact List.Nodup.length_le_of_subset nd fun r hr=>ff hr
theorem oZ{ts:List ((Int×Int)×Unit)}(h:S[jt]?=some (.dit (mm ts)))(nd:(ts.map (·.1)).Nodup)(hl:ts.length<64):bL [.ref jt] S=some (.ref S.length,S++[.lst ((dZ (ts.map Ap)).map rwU)]):=by
 simp only[bL,h,iY,Option.bind_some]
 rw[if_pos ⟨fun p hp=>by obtain⟨q,_,rfl⟩:=List.mem_map.mp hp;exact List.cons_ne_nil _ _,zf nd,by rw[List.length_map];exact hl⟩]
theorem o5{ps:List ((Int×Int)×Int)}{l:Nat}(h:S[l]?=some (.lst ((ps.map mD).map rwU)))(nd:(ps.map (·.1)).Nodup)(hl:ps.length<64):bL [.ref l] S=some (.ref S.length,S++[.lst ((dZ (ps.map mD)).map rwU)]):=by
 simp only[bL,h,kR,Option.bind_some]
 rw[if_pos ⟨fun p hp=>by obtain⟨q,_,rfl⟩:=List.mem_map.mp hp;exact List.cons_ne_nil _ _,ze nd,by rw[List.length_map];exact hl⟩]
def E1:CE:=oI (ah 7) (gNm 0) (cOp cS (ah 0) (dM (ae (cOp Ae (ah 1) (ah 0)) ay))) 1 [7]
theorem yW{ps:List ((Int×Int)×Int)}{ρ:Rho}(h7:ρ[7]?=some (some (.ref jk)))(hk:S[jk]?=some (.dit (fM ps)))(nd:(ps.map (·.1)).Nodup)(hl:ps.length<=900):E1 ρ S=some (.ref S.length,S++[.lst ((ps.map mD).map rwU)]):=by
 have hv:ah 7 ρ S=some (.ref jk,S):=by unfold ah;rw[h7]
 have lk:jk<S.length:=(List.getElem?_eq_some_iff.mp hk).1
 unfold E1 oI sY
 rw[hv,Option.bind_some]
 simp only[hk]
 refine Bj fun ep=>?_
 have ek:∀X:Sto,(S.set jk (.fdt ep (fM ps))++X)[jk]?=some (.fdt ep (fM ps)):=fun X=>ax (by rw[List.getElem?_set,if_pos rfl,if_pos lk])
 have key:=lN (S:=S.set jk (.fdt ep (fM ps))) (ok:=fun S'=>S'[jk]?=some (.fdt ep (fM ps))) (gg:=gNm 0) (ce:=cOp cS (ah 0) (dM (ae (cOp Ae (ah 1) (ah 0)) ay))) (f:=fun p:(Int×Int)×Int=>.tup [.int p.1.1,.int p.1.2]) (v:=fun p=>rwU (mD p)) (Rel:=fun ρ=>∃r0,ρ=[r0,some (.ref jk)]) (fun ys G=>ek _) ps [] [] [none,some (.ref jk)] ⟨_,rfl⟩ (by simp;omega) (fun p hp ys G ρ hρ=>by
  obtain⟨r0,rfl⟩:=hρ
  refine⟨[some (.tup [.int p.1.1,.int p.1.2]),some (.ref jk)],⟨_,rfl⟩,rfl,?_⟩
  have hva:fq (fM ps) (kT p.1)=some (.int p.2):=by
   have nd':((fM ps).map (·.1)).Nodup:=by
    unfold fM
    rw[List.map_map,List.nodup_iff_pairwise_ne,List.pairwise_map]
    rw[List.nodup_iff_pairwise_ne,List.pairwise_map]at nd
    exact nd.imp fun{a b} hn e=>hn (rV _ _ e)
   exact uF (p:=(kT p.1,.int p.2)) nd' (List.mem_map.mpr ⟨p,hp,rfl⟩)
  have hx:Ae (.ref jk) (.tup [.int p.1.1,.int p.1.2]) (S.set jk (.fdt ep (fM ps))++(.lst ys::G))=some (.int p.2,S.set jk (.fdt ep (fM ps))++(.lst ys::G)):=by
   have ht:yY [U.int p.1.1,U.int p.1.2]=some (kT p.1):=rfl
   simp only[Ae,ht,Option.bind_some,ek,hva]
  have ha:cS (.tup [.int p.1.1,.int p.1.2]) (.tup [.int p.2]) (S.set jk (.fdt ep (fM ps))++(.lst ys::G))=some (rwU (mD p),S.set jk (.fdt ep (fM ps))++(.lst ys::G)):=by
   unfold cS;simp only;rw[if_pos (by unfold LIM;simp)];rfl
  rwa[hx,ha])
 rw[List.length_set]at key
 have ef:(fM ps).map (fun q=>U.tup (q.1.map kU))=ps.map fun p:(Int×Int)×Int=>.tup [.int p.1.1,.int p.1.2]:=by unfold fM;rw[List.map_map];rfl
 have er:jH 1 [7] ρ=[none,some (.ref jk)]:=by simp only[jH,List.replicate,List.map_cons,List.map_nil,h7,Option.getD_some,List.cons_append,List.nil_append]
 simp only[List.nil_append]at key
 rw[ef,er,key,Option.bind_some]
 have em:(ps.map fun p=>rwU (mD p))=(ps.map mD).map rwU:=by rw[List.map_map];rfl
 have e2:(S.set jk (.fdt ep (fM ps))++[O.lst (ps.map fun p=>rwU (mD p))]).set jk (.dit (fM ps))=S++[.lst ((ps.map mD).map rwU)]:=by
  rw[List.set_append_left _ _ (by rw[List.length_set];exact lk),uN hk,em]
 simp only[ek,e2]
theorem D2{cr:CA}{ρ:Rho}{S S1:Sto}{n:Int}{g:CG}{b:CS}(h:cr ρ S=some ([.int n],S1))(n0:0<=n)(n1:n<=1000):iP (bo cr) g b ρ S=bX (fun _=>True) g b (aY 0 n.toNat) ρ S1:=by
 have hb:-(2^62)<=n/\n<2^62:=by omega
 unfold iP bo
 rw[h,Option.bind_some]
 simp only[hb,and_self,if_true,Option.bind_some]
def tU:Fn:=fnU 13 2 (cD cF cU)
structure iG(many:Int)(tms:List (Int×Int))(wr lk:List (List Int)):Prop where
 htm:∀p∈tms,(0<=p.1/\p.1<many)/\(0<=p.2/\p.2<many)/\p.1≠p.2
 htl:tms.length<=30
 hwr:∀r∈wr,(∀x∈r,0<=x/\x<many)/\r.Nodup
 hwl:1<=wr.length/\wr.length<=6
 hlk:∀r∈lk,∃a b v,r=[a,b,v]/\(0<=a/\a<many)/\(0<=b/\b<wr.length)/\(v=-1\/(v∈wr.getD b.toNat []/\v≠a))
 hll:lk.length<=60
theorem iX:∀{rs:List (List Int)},(∀r∈rs,∃a b,r=[a,b])->∃ps:List (Int×Int),rs=ps.map fun p=>[p.1,p.2]
 |[],_=>⟨[],rfl⟩
 |r::rs,h=>by
  obtain⟨a,b,rfl⟩:=h r List.mem_cons_self
  obtain⟨ps,e⟩:=iX (rs:=rs) fun x hx=>h x (List.mem_cons_of_mem _ hx)
  exact⟨(a,b)::ps,by rw[e];rfl⟩
theorem uJ(wl:∃z,Y[lw]?=some (.lst [.int z]))(m0:1<=most)(m1:most<=30):∃(many:Int) (tms:List (Int×Int)) (wr lk:List (List Int)) (Y':Sto),tU [.ref lw,.int most] Y=some (aW many (.tup (tms.map pP)) wr lk,Y')/\Wl lw Y Y'/\(1<=many/\many<=most)/\iG many tms wr lk:=by
 have hl0:lw<Y.length:=by obtain⟨z,h⟩:=wl;exact(List.getElem?_eq_some_iff.mp h).1
 obtain⟨d,Y1,e1,w1,l1,d0,d1⟩:=bW (m:=most) wl (by omega) (by omega)
 obtain⟨many,hmany⟩:∃many:Int,many=1+d:=⟨_,rfl⟩
 obtain⟨os,Y2,jh,e2,h2,j2,w2,lo,on,mo⟩:=vI (many:=many) w1.well (by omega) (by omega)
 have ho:os.length<=90:=by omega
 have hm:∀a,0<=a->a<many->a∈os:=fun a a0 a1=>(mo a).mpr ⟨a0,a1⟩
 have lh:jh<Y2.length:=(List.getElem?_eq_some_iff.mp h2).1
 have hl2:lw<Y2.length:=Nat.lt_of_lt_of_le (by omega) w2.len
 obtain⟨d3,Y3,e3,w3,l3,d30,d31⟩:=bW (T:=Y2++[.lst [],.lst [.int 3,.int 3,.int 6]]) (lw:=lw) (m:=3) (by obtain⟨z,h⟩:=w2.well;exact⟨z,ax h⟩) (by omega) (by omega)
 have g3:Y3[Y2.length+1]?=some (.lst [.int 3,.int 3,.int 6]):=w3.get (by rw[ga];rfl) (by omega)
 obtain⟨v,a3,v0,v1⟩:∃v:Int,atI [U.int 3,.int 3,.int 6] d3=some (.int v)/\0<v/\v<=6:=by
  have:d3=0\/d3=1\/d3=2:=by omega
  rcases this with rfl|rfl|rfl
  ·exact⟨3,rfl,by decide,by decide⟩
  ·exact⟨3,rfl,by decide,by decide⟩
  ·exact⟨6,rfl,by decide,by decide⟩
 obtain⟨d4,Y4,e4,w4,l4,d40,d41⟩:=bW (m:=v) w3.well v0 (by omega)
 have W4:Wl lw (Y2++[.lst [],.lst [.int 3,.int 3,.int 6]]) Y4:=w3.trans w4
 have h4:Y4[jh]?=some (.lst (os.map U.int)):=W4.get (ax h2) (by omega)
 have k4:Y4[Y2.length]?=some (.lst (([]:List (List Int)).map rwU)):=W4.get (by rw[ga0];rfl) (by omega)
 have nlen:(aY 0 (1+d4).toNat).length=(1+d4).toNat:=by simp[aY]
 obtain⟨wr,Y5,s5,s6,e5,k5,f5,c5,lw5⟩:=pZ (lw:=lw) (jh:=jh) (jw:=Y2.length) (most:=most) (many:=many) (r7:=none) (r8:=none) (r9:=none) (r10:=none) (r11:=none) (r12:=none) (by omega) (by omega) (by omega) ho on (aY 0 (1+d4).toNat) [] Y4 none none h4 k4 W4.well (by rw[nlen];simp;omega) (fun r hr=>by cases hr)
 have wlen:wr.length=(1+d4).toNat:=by rw[lw5,nlen];simp
 have h5:Y5[jh]?=some (.lst (os.map U.int)):=f5.get h4 (by omega) (by omega)
 obtain⟨d6,Y6,e6,w6,l6,d60,d61⟩:=bW (T:=Y5++[.dit []]) (lw:=lw) (m:=2*many+1) (by obtain⟨z,h⟩:=f5.well;exact⟨z,ax h⟩) (by omega) (by omega)
 have l5:Y2.length<Y5.length:=(List.getElem?_eq_some_iff.mp k5).1
 have l5h:jh<Y5.length:=(List.getElem?_eq_some_iff.mp h5).1
 have hl5:lw<Y5.length:=by obtain⟨z,h⟩:=f5.well;exact(List.getElem?_eq_some_iff.mp h).1
 have nl6:(aY 0 d6.toNat).length=d6.toNat:=by simp[aY]
 obtain⟨ps,Y7,t5,t6,t8,t9,t10,e7,k7,f7,ib,nd7,lp⟩:=rN (lw:=lw) (jh:=jh) (jw:=Y2.length) (jk:=Y5.length) (most:=most) (many:=many) (wr:=wr) (r11:=none) (r12:=none) (by omega) (by omega) (by omega) (by omega) (by omega) (by omega) (by omega) (by omega) (by omega) ho hm c5 (aY 0 d6.toNat) [] Y6 s5 s6 none none none (w6.get (ax h5) (by omega)) (w6.get (ax k5) (by omega)) (w6.get (by rw[ga0];rfl) (by omega)) w6.well (by rw[nl6];simp;omega) (fun p hp=>by cases hp) List.nodup_nil
 have hps:ps.length<64:=by rw[nl6]at lp;simp at lp;omega
 have h7:Y7[jh]?=some (.lst (os.map U.int)):=f7.get (w6.get (ax h5) (by omega)) (by omega) (by omega)
 have b7:Y7[Y2.length]?=some (.lst (wr.map rwU)):=f7.get (w6.get (ax k5) (by omega)) (by omega) (by omega)
 obtain⟨d8,Y8,e8,w8,l8,d80,d81⟩:=bW (T:=Y7++[.dit []]) (lw:=lw) (m:=many+1) (by obtain⟨z,h⟩:=f7.well;exact⟨z,ax h⟩) (by omega) (by omega)
 have l7:Y5.length<Y7.length:=(List.getElem?_eq_some_iff.mp k7).1
 have nl8:(aY 0 d8.toNat).length=d8.toNat:=by simp[aY]
 obtain⟨ts,Y9,u8,u9,u12,e9,k9,f9,nd9,lt9,tb9⟩:=qq (lw:=lw) (jh:=jh) (jw:=Y2.length) (jt:=Y7.length) (most:=most) (many:=many) (r5:=t5) (r6:=t6) (r7:=some (.ref Y5.length)) (r10:=t10) (by omega) (by omega) (by omega) (by omega) (by omega) ho hm (aY 0 d8.toNat) [] Y8 t8 t9 none (w8.get (ax h7) (by omega)) (w8.get (by rw[ga0];rfl) (by omega)) w8.well (by rw[nl8];simp;omega) List.nodup_nil (fun p hp=>by cases hp)
 have hts:ts.length<64:=by rw[nl8]at lt9;simp at lt9;omega
 have b9:Y9[Y2.length]?=some (.lst (wr.map rwU)):=f9.get (w8.get (ax b7) (by omega)) (by omega) (by omega)
 have q9:Y9[Y5.length]?=some (.dit (fM ps)):=f9.get (w8.get (ax k7) (by omega)) (by omega) (by omega)
 obtain⟨tms,htms⟩:∃tms,tms=dZ (ts.map Ap):=⟨_,rfl⟩
 obtain⟨lk,hlk⟩:∃lk,lk=dZ (ps.map mD):=⟨_,rfl⟩
 have x1:=oZ (S:=Y9) k9 nd9 hts
 have x2:=yW (S:=Y9++[.lst (tms.map rwU)]) (ρ:=rT lw most many jh Y2.length t5 t6 (some (.ref Y5.length)) u8 u9 t10 (some (.ref Y7.length)) u12) rfl (ax q9) nd7 (by omega)
 have x3:=o5 (S:=Y9++[.lst (tms.map rwU)]++[.lst ((ps.map mD).map rwU)]) (l:=(Y9++[O.lst (tms.map rwU)]).length) (by rw[ga0];rfl) nd7 hps
 rw[<-htms]at x1
 rw[<-hlk]at x3
 have W9:Wl lw Y Y9:=by
  have A:Wl lw Y Y4:=((w1.trans w2).trans (Wl.app w2.well _)).trans W4
  have B:Wl lw Y Y5:=⟨Nat.le_trans A.len f5.len,fun j hj n=>by rw[f5.keep j (Nat.lt_of_lt_of_le hj A.len) n (by have:=w1.len;have:=w2.len;omega),A.keep j hj n],f5.well⟩
  have C:Wl lw Y Y6:=(B.trans (.app f5.well _)).trans w6
  have D:Wl lw Y Y7:=⟨Nat.le_trans C.len f7.len,fun j hj n=>by rw[f7.keep j (Nat.lt_of_lt_of_le hj C.len) n (by have:=B.len;omega),C.keep j hj n],f7.well⟩
  have E:Wl lw Y Y8:=(D.trans (.app f7.well _)).trans w8
  exact⟨Nat.le_trans E.len f9.len,fun j hj n=>by rw[f9.keep j (Nat.lt_of_lt_of_le hj E.len) n (by have:=D.len;omega),E.keep j hj n],f9.well⟩
 obtain⟨pms,hpms⟩:=iX (rs:=tms) fun r hr=>by
  rw[htms]at hr
  obtain⟨p,_,rfl⟩:=List.mem_map.mp (ff hr)
  exact⟨_,_,rfl⟩
 have etm:tms.map rwU=pms.map pP:=by rw[hpms,List.map_map];rfl
 refine⟨many,pms,wr,lk,Y9++[.lst (tms.map rwU)]++[.lst ((ps.map mD).map rwU)]++[.lst (lk.map rwU)],?_,?_,⟨by omega,by omega⟩,⟨fun p hp=>?_,?_,fun r hr=>?_,⟨by omega,by omega⟩,fun r hr=>?_,?_⟩⟩
 ·rw[<-etm]
  unfold tU
  rw[mQ]
  unfold cD
  have L2n:(Y2++[O.lst []]).length=Y2.length+1:=by rw[List.length_append];rfl
  have t2:∀S:Sto,gq (.int 2) (.int many) S=some (.int (2*many),S):=fun S=>jv (.inl (by decide))
  have nd0:List.length ([]:List U)=0:=rfl
  rw[dA (ρ':=[some (.ref lw),some (.int most),some (.int many),none,none,none,none,none,none,none,none,none,none]) (S':=Y1) (by rw[hmany];rwa[e1])]
  rw[dA (ρ':=[some (.ref lw),some (.int most),some (.int many),some (.ref jh),none,none,none,none,none,none,none,none,none]) (S':=Y2) (by rwa[e2])]
  rw[dA (ρ':=rT lw most many jh Y2.length none none none none none none none none) (S':=Y2++[.lst []]) rfl]
  have a4:ae (cOp cS (cC (.int 1)) (cCB cF (ae (ah 0) (ae (cOp fIx (iB (ae (cC (.int 3)) (ae (cC (.int 3)) (ae (cC (.int 6)) ay)))) (cCB cF (ae (ah 0) (ae (cC (.int 3)) ay)))) ay)))) ay (rT lw most many jh Y2.length none none none none none none none none) (Y2++[.lst []])=some ([.int (1+d4)],Y4):=by
   rwa[rT,L2n,e3,g3,a3,e4]
  rw[dA ((D2 a4 (by omega) (by omega)).trans e5)]
  rw[dA (ρ':=rT lw most many jh Y2.length s5 s6 (some (.ref Y5.length)) none none none none none) (S':=Y5++[.dit []]) rfl]
  have a6:ae (cCB cF (ae (ah 0) (ae (cOp cS (cOp gq (cC (.int 2)) (ah 2)) (cC (.int 1))) ay))) ay (rT lw most many jh Y2.length s5 s6 (some (.ref Y5.length)) none none none none none) (Y5++[.dit []])=some ([.int d6],Y6):=by
   rwa[rT,t2,e6]
  rw[dA ((D2 a6 (by omega) (by omega)).trans e7)]
  rw[dA (ρ':=rT lw most many jh Y2.length t5 t6 (some (.ref Y5.length)) t8 t9 t10 (some (.ref Y7.length)) none) (S':=Y7++[.dit []]) rfl]
  have a8:ae (cCB cF (ae (ah 0) (ae (cOp cS (ah 2) (cC (.int 1))) ay))) ay (rT lw most many jh Y2.length t5 t6 (some (.ref Y5.length)) t8 t9 t10 (some (.ref Y7.length)) none) (Y7++[.dit []])=some ([.int d8],Y8):=by
   rwa[rT,e8]
  rw[dA ((D2 a8 (by omega) (by omega)).trans e9)]
  show(lW (dM (ae (ah 2) (ae (cCB du (ae (cCB bL (ae (ah 11) ay)) ay)) (ae (cCB du (ae (ah 4) ay)) (ae (cCB du (ae (cCB bL (ae E1 ay)) ay)) ay))))) _ _).bind kFn=_
  have b9':(Y9++[O.lst (tms.map rwU)])[Y2.length]?=some (.lst (wr.map rwU)):=ax b9
  have c9:(Y9++[O.lst (tms.map rwU)])[Y9.length]?=some (.lst (tms.map rwU)):=by rw[ga0];rfl
  obtain⟨Z,hZ⟩:∃Z,Z=Y9++[O.lst (tms.map rwU)]++[.lst ((ps.map mD).map rwU)]:=⟨_,rfl⟩
  rw[<-hZ]at x2 x3 ⊢
  obtain⟨V,hV⟩:∃V,V=Z++[O.lst (lk.map rwU)]:=⟨_,rfl⟩
  rw[<-hV]at x3 ⊢
  have gV:V[Z.length]?=some (.lst (lk.map rwU)):=by rw[hV,ga0];rfl
  obtain⟨X,hX⟩:∃X,X=Y9++[O.lst (tms.map rwU)]:=⟨_,rfl⟩
  rw[<-hX]at x1 x2 x3 b9' c9
  simp only[rT]at x2
  rwa[rT,x1,c9,b9',x2,x3,gV,aW]
 ·have A:=W9.well
  refine((W9.trans (.app A _)).trans (.app ?_ _)).trans (.app ?_ _)
  ·obtain⟨z,h⟩:=A;exact⟨z,ax h⟩
  ·obtain⟨z,h⟩:=A;exact⟨z,ax (ax h)⟩
 ·have hm:[p.1,p.2]∈tms:=by rw[hpms];exact List.mem_map.mpr ⟨p,hp,rfl⟩
  rw[htms]at hm
  obtain⟨q,hq,e⟩:=List.mem_map.mp (ff hm)
  unfold Ap at e
  injection e with e1 e2
  injection e2 with e3 _
  have:=tb9 q hq
  rw[e1,e3]at this
  exact this
 ·have h1:tms.length=pms.length:=by rw[hpms,List.length_map]
  have h2:tms.length<=ts.length:=by rw[htms];exact Nat.le_trans kM (by rw[List.length_map];exact Nat.le_refl _)
  rw[nl8]at lt9
  simp at lt9
  omega
 ·obtain⟨q1,_,q3⟩:=c5 r hr
  exact⟨fun x hx=>(mo x).mp (q1 x hx),q3⟩
 ·rw[hlk]at hr
  obtain⟨p,hp,rfl⟩:=List.mem_map.mp (ff hr)
  obtain⟨p1,p2,p3,p4⟩:=ib p hp
  exact⟨p.1.1,p.1.2,p.2,rfl,p1,⟨p2,p3⟩,p4⟩
 ·have h2:lk.length<=ps.length:=by rw[hlk];exact Nat.le_trans kM (by rw[List.length_map];exact Nat.le_refl _)
  rw[nl6]at lp
  simp at lp
  omega
end
def aX:CS:=
 (bH (b6 3 (cCB fK (ae (ah 0) ay)))
  (bH (b6 4 (iB ay))
  (bH (mn (aN (cOp (fIn false) (ah 2) (ah 0))) (bH (b6 3 (cSl (ah 3) (some (cOp cS (cBM aQ (ah 3) (ae (ah 2) ay)) (cC (.int 1)))) none))
  (dN (cBM bE (ah 4) (ae (dM (ae (ah 2) (ae (ah 1) ay))) ay)))) d5)
  (bH (mn (Au (aN (cOp fGt (cCB ji (ae (ah 3) ay)) (cC (.int 0)))) (aN (cOp fNe (cOp fIx (ah 3) (cC (.int 0))) (ah 1)))) (dN (cBM bE (ah 4) (ae (dM (ae (ah 1) (ae (cOp fIx (ah 3) (cC (.int 0))) ay))) ay))) d5)
  (lW (ah 4))))))
theorem hU{a0 a1 a2:U}{S:Sto}:fnU 5 3 (aX ) [a0,a1,a2] S=((aX ) [some a0,some a1,some a2,none,none] S).bind kFn:=wX rfl
def iF(aF:Fn):CS:=
 (dN (cBM c8 (ah 1) (ae (fj (ah 2) (Ar (ah 2) (some (cC (.int 1))) none)) ay)))
def iE(aF:Fn):CS:=
 (dN (cBM c8 (ah 1) (ae (cCB aF (ae (cOp fIx (cOp fIx (ah 0) (cC (.int 2))) (cOp fIx (ah 3) (cC (.int 1)))) (ae (cOp fIx (ah 3) (cC (.int 0))) (ae (cOp fIx (ah 3) (cC (.int 2))) ay)))) ay)))
def iA(aF:Fn):CS:=
 (bH (b6 1 (cCB fK (ae (cOp fIx (ah 0) (cC (.int 1))) ay)))
  (bH (iP (iTp (cOp fIx (ah 0) (cC (.int 2)))) (gNm 2) (iF aF))
  (bH (iP (iTp (cOp fIx (ah 0) (cC (.int 3)))) (gNm 3) (iE aF))
  (lW (da (ah 1))))))
theorem Ai{aF:Fn}{a0:U}{S:Sto}:fnU 4 1 (iA aF) [a0] S=((iA aF) [some a0,none,none,none] S).bind kFn:=wX rfl
def bN:CS:=
 (dN (cBM c8 (ah 5) (ae (iQ (bo (ae (cOp xP (cCB ji (ae (ah 6) ay)) (cC (.int 1))) ay)) (gNm 0) (dM (ae (cOp fIx (ah 1) (ah 0)) (ae (cOp fIx (ah 1) (cOp cS (ah 0) (cC (.int 1)))) ay))) 1 [6]) ay)))
def bM:CS:=
 (bH (mn (aN (cOp fGe (ah 9) (cC (.int 0)))) (dN (cBM bE (ah 5) (ae (dM (ae (ah 9) (ae (ah 7) ay))) ay))) d5)
  (bH (b6 10 (cCB fK (ae (cOp fIx (ah 3) (ah 8)) ay)))
  (bH (mn (aN (cOp fGe (ah 9) (cC (.int 0)))) (b6 10 (cSl (ah 10) (some (cOp cS (cBM aQ (ah 10) (ae (ah 9) ay)) (cC (.int 1)))) none)) d5)
  (dN (cBM c8 (ah 5) (ae (bh (iTp (cSl (ah 10) none (some (cC (.int 1))))) (gNm 0) (aN (cOp fNe (ah 0) (ah 1))) (dM (ae (ah 1) (ae (ah 0) ay))) 1 [7]) ay))))))
def bR:CS:=
 (bH (Dy (ah 0) (gTp [1,2,3,4]))
  (bH (b6 5 (cCB fK (ae (ah 2) ay)))
  (bH (iP (iTp (ah 3)) (gNm 6) (bN ))
  (bH (iP (iTp (ah 4)) (gTp [7,8,9]) (bM ))
  (lW (da (ah 5)))))))
theorem lK{a0:U}{S:Sto}:fnU 11 1 (bR ) [a0] S=((bR ) [some a0,none,none,none,none,none,none,none,none,none,none] S).bind kFn:=wX rfl
end OQ
namespace OL
open PySem PySem.Spec PyProof.Rows L2 OG OP OQ
def top(i:Nat):Stmt:=PySem.Challenge.pw_oneglance_k27_musts_told.main.body.getD i (.Pass ⟨0,0,0,0⟩)
abbrev mC:Stmt:=top 1
abbrev cu:Stmt:=top 2
abbrev et:Stmt:=top 4
abbrev fv:Stmt:=top 5
abbrev dC:Stmt:=top 6
abbrev dE:Stmt:=top 7
abbrev eA:Stmt:=top 8
abbrev dD:Stmt:=top 9
abbrev za:Stmt:=top 10
section
variable{P:Program}{w:World}{K:PySem.W.Frag}{mg:Str->Option Value}{base:Heap}
theorem dj:bA ["row","a","source","later","found"] ["row","a","source"] (aE cu):=⟨rfl,rfl,rfl,by decide +kernel,rfl,by decide +kernel,by decide +kernel⟩
theorem g6{k:Nat}(d:Def K mg "musts_of_look" cu ["row","a","source"])(B:Blt mg):kq P w K mg base "musts_of_look" (k+1) ["row","a","source"] (fnU 5 3 (aX )):=
 d.pure dj fun f cdv A outer s H E hr=>(by
  have hu:=j7 hr
  have nd:=dj.nd
  exact(aA (aK (i:=3) nd rfl (by first|exact Or.inl rfl|exact Or.inr rfl) (bJ cK nV rfl B.list OG.cE (ag (ao (wpv 0)) aw)))
   (aA (aK (i:=4) nd rfl (by first|exact Or.inl rfl|exact Or.inr rfl) (fA aw))
   (aA (jK (Fb hu (ao (wpv 2)) (ao (wpv 0)) (by with_unfolding_all rfl)) (aA (aK (i:=3) nd rfl (by first|exact Or.inl rfl|exact Or.inr rfl) (DT (ao (wpv 3)) (gK (dU dG dF (fB (ao (wpv 3)) (ag (ao (wpv 2)) aw)) (aB ak))) gM))
   (aS (cN (dW (ao (wpv 4)) (ag (cP (ag (ao (wpv 2)) (ag (ao (wpv 1)) aw))) aw))))) eV)
   (aA (jK (DS (BL (cy Fx Hi (bU mH mG rfl B.len PySem.boot_len (ag (ao (wpv 3)) aw)) (aB ak) (bD _)) (xv (cy vB DU (fY hu (ao (wpv 3)) (aB ak) (fun _ _=>rfl) (fun _ _=>rfl)) (ao (wpv 1)) (bD _))))) (aS (cN (dW (ao (wpv 4)) (ag (cP (ag (ao (wpv 1)) (ag (fY hu (ao (wpv 3)) (aB ak) (fun _ _=>rfl) (fun _ _=>rfl)) aw))) aw)))) eV)
   (aS (dk (ao (wpv 4)))))))))
theorem nF:bA ["tale","found","row","look"] ["tale"] (aE mC):=⟨rfl,rfl,rfl,by decide +kernel,rfl,by decide +kernel,by decide +kernel⟩
theorem zY{k:Nat}{aF:Fn}(d:Def K mg "musts" mC ["tale"])(B:Blt mg)(cG:kq P w K mg base "musts_of_look" (k) ["row","a","source"] aF):kq P w K mg base "musts" (k+1) ["tale"] (fnU 4 1 (iA aF)):=
 d.pure nF fun f cdv A outer s H E hr=>(by
  have hu:=j7 hr
  have nd:=nF.nd
  exact(aA (aK (i:=1) nd rfl (by first|exact Or.inl rfl|exact Or.inr rfl) (bJ cK nV rfl B.list OG.cE (ag (fY hu (ao (wpv 0)) (aB ak) (fun _ _=>rfl) (fun _ _=>rfl)) aw)))
   (aA (d9 PassesOwn.never rfl (eW (fY hu (ao (wpv 0)) (aB ak) (fun _ _=>rfl) (fun _ _=>rfl))) (bw (aI (i:=2) nd rfl (by first|exact Or.inl rfl|exact Or.inr rfl))) (aS (cN (fZ (ao (wpv 1)) (ag (qQ rfl rfl B.list rfl B.zip (ao (wpv 2)) (Fc (ao (wpv 2)) (gK (aB ak)) gM)) aw)))))
   (aA (d9 PassesOwn.never rfl (eW (fY hu (ao (wpv 0)) (aB ak) (fun _ _=>rfl) (fun _ _=>rfl))) (bw (aI (i:=3) nd rfl (by first|exact Or.inl rfl|exact Or.inr rfl))) (aS (cN (fZ (ao (wpv 1)) (ag (aZ cG hr rfl (ag (fY hu (fY hu (ao (wpv 0)) (aB ak) (fun _ _=>rfl) (fun _ _=>rfl)) (fY hu (ao (wpv 3)) (aB ak) (fun _ _=>rfl) (fun _ _=>rfl)) (fun _ _=>rfl) (fun _ _=>rfl)) (ag (fY hu (ao (wpv 3)) (aB ak) (fun _ _=>rfl) (fun _ _=>rfl)) (ag (fY hu (ao (wpv 3)) (aB ak) (fun _ _=>rfl) (fun _ _=>rfl)) aw)))) aw)))))
   (aS (dk (kX rfl hr.units rfl B.sorted rfl B.set (ao (wpv 1)))))))))
theorem fP:bA ["script","k","number","stir","found","turn"] ["script","k"] (aE et):=⟨rfl,rfl,rfl,by decide +kernel,rfl,by decide +kernel,by decide +kernel⟩
theorem mM{k:Nat}(d:Def K mg "_law_well" et ["script","k"])(B:Blt mg):kq P w K mg base "_law_well" (k+1) ["script","k"] (fnU 6 2 (bI )):=
 d.pure fP fun f cdv A outer s H E hr=>(by
  have hu:=j7 hr
  have nd:=fP.nd
  exact(aA (aK (i:=2) nd rfl (by first|exact Or.inl rfl|exact Or.inr rfl) (dU dG dF (dU fe jQ (aB ak) (ao (wpv 1))) (aB ak)))
   (aA (jK (cy vC DV (ao (wpv 1)) (bU mH mG rfl B.len PySem.boot_len (ag (ao (wpv 0)) aw)) (bD _)) (aS (aK (i:=2) nd rfl (by first|exact Or.inl rfl|exact Or.inr rfl) (fY hu (ao (wpv 0)) (ao (wpv 1)) (fun _ _=>rfl) (fun _ _=>rfl)))) eV)
   (aA (jK (cy vD DW (dU nW vt (ao (wpv 2)) (aB ak)) (aB ak) (bD _)) (aS (dk (fA (ag (dU nX Cp (ao (wpv 2)) (aB ak)) aw)))) eV)
   (aA (aK (i:=3) nd rfl (by first|exact Or.inl rfl|exact Or.inr rfl) (dU nW vt (dU dG dF (dU dG dF (dU fe jQ (ao (wpv 2)) (aB ak)) (dU fe jQ (aB ak) (ao (wpv 1)))) (aB ak)) (aB ak)))
   (aA (aK (i:=4) nd rfl (by first|exact Or.inl rfl|exact Or.inr rfl) (aB ak))
   (aA (d9 PassesOwn.never rfl (cw rfl B.range (ag (aB ak) aw)) (bw (aI (i:=5) nd rfl (by first|exact Or.inl rfl|exact Or.inr rfl))) (aA (aK (i:=3) nd rfl (by first|exact Or.inl rfl|exact Or.inr rfl) (dU nW vt (dU dG dF (dU dG dF (dU dG dF (dU fe jQ (ao (wpv 3)) (ao (wpv 3))) (dU fe jQ (aB ak) (ao (wpv 3)))) (dU fe jQ (aB ak) (ao (wpv 5)))) (aB ak)) (aB ak)))
   (aS (aK (i:=4) nd rfl (by first|exact Or.inl rfl|exact Or.inr rfl) (dU dG dF (dU fe jQ (ao (wpv 4)) (aB ak)) (ao (wpv 3)))))))
   (aS (dk (fA (ag (ao (wpv 4)) aw)))))))))))
theorem gG:bA ["well","many","digit"] ["well","many"] (aE fv):=⟨rfl,rfl,rfl,by decide +kernel,rfl,by decide +kernel,by decide +kernel⟩
theorem pD{k:Nat}(d:Def K mg "_law_sip" fv ["well","many"])(B:Blt mg):kq P w K mg base "_law_sip" (k+1) ["well","many"] (fnU 3 2 (cX )):=
 d.pure gG fun f cdv A outer s H E hr=>(by
  have hu:=j7 hr
  have nd:=gG.nd
  exact(aA (aK (i:=2) nd rfl (by first|exact Or.inl rfl|exact Or.inr rfl) (dU nW vt (fY hu (ao (wpv 0)) (aB ak) (fun _ _=>rfl) (fun _ _=>rfl)) (ao (wpv 1))))
   (aA (uV hu (ao (wpv 0)) (aB ak) (dU nX Cp (fY hu (ao (wpv 0)) (aB ak) (fun _ _=>rfl) (fun _ _=>rfl)) (ao (wpv 1))))
   (aS (dk (ao (wpv 2)))))))
theorem eO:bA ["thing"] ["thing"] (aE dC):=⟨rfl,rfl,rfl,by decide +kernel,rfl,by decide +kernel,by decide +kernel⟩
theorem lF{k:Nat}(d:Def K mg "_law_whole" dC ["thing"])(B:Blt mg):kq P w K mg base "_law_whole" (k+1) ["thing"] (fnU 1 1 (bQ )):=
 d.pure eO fun f cdv A outer s H E hr=>(by
  have hu:=j7 hr
  have nd:=eO.nd
  exact(aS (dk (nM (uW (T:=.int) (by intro z;cases z) (ao (wpv 0)) (nr rfl B.int OG.kj) rfl B.isinstance) (zj (BK (uW (T:=.bool) (by intro z;cases z) (ao (wpv 0)) (nr rfl B.bool OG.tq) rfl B.isinstance)))))))
theorem eQ:bA ["well","many","left","found","at"] ["well","many"] (aE dE):=⟨rfl,rfl,rfl,by decide +kernel,rfl,by decide +kernel,by decide +kernel⟩
theorem lH{k:Nat}{av:Fn}{fuel:Nat}(d:Def K mg "_law_mixed" dE ["well","many"])(B:Blt mg)(aC:kq P w K mg base "_law_sip" (k) ["well","many"] av):kq P w K mg base "_law_mixed" (k+1) ["well","many"] (fnU 5 2 (bS av fuel)):=
 d.pure eQ fun f cdv A outer s H E hr=>(by
  have hu:=j7 hr
  have nd:=eQ.nd
  exact(aA (aK (i:=2) nd rfl (by first|exact Or.inl rfl|exact Or.inr rfl) (mE rfl rfl B.list rfl B.range (ag (ao (wpv 1)) aw) rfl rfl))
   (aA (aK (i:=3) nd rfl (by first|exact Or.inl rfl|exact Or.inr rfl) (fA aw))
   (aA (uU fuel PassesOwn.never (cy (xB hr.units) vx (ao (wpv 2)) (fA aw) (bD _)) (aA (aK (i:=4) nd rfl (by first|exact Or.inl rfl|exact Or.inr rfl) (aZ aC hr rfl (ag (ao (wpv 0)) (ag (bU mH mG rfl B.len PySem.boot_len (ag (ao (wpv 2)) aw)) aw))))
   (aS (cN (dW (ao (wpv 3)) (ag (zi (ao (wpv 2)) (ag (ao (wpv 4)) aw)) aw))))))
   (aS (dk (ao (wpv 3))))))))
theorem fQ:bA ["well","most","many","hidden","writers","box","row","looks","k","a","earlier","times","b"] ["well","most"] (aE eA):=⟨rfl,rfl,rfl,by decide +kernel,rfl,by decide +kernel,by decide +kernel⟩
theorem mN{k:Nat}{av aG:Fn}(d:Def K mg "_law_tale" eA ["well","most"])(B:Blt mg)(aC:kq P w K mg base "_law_sip" (k) ["well","many"] av)(dS:kq P w K mg base "_law_mixed" (k) ["well","many"] aG):kq P w K mg base "_law_tale" (k+1) ["well","most"] (fnU 13 2 (cD av aG)):=
 d.pure fQ fun f cdv A outer s H E hr=>(by
  have hu:=j7 hr
  have nd:=fQ.nd
  exact(aA (aK (i:=2) nd rfl (by first|exact Or.inl rfl|exact Or.inr rfl) (dU dG dF (aB ak) (aZ aC hr rfl (ag (ao (wpv 0)) (ag (ao (wpv 1)) aw)))))
   (aA (aK (i:=3) nd rfl (by first|exact Or.inl rfl|exact Or.inr rfl) (aZ dS hr rfl (ag (ao (wpv 0)) (ag (ao (wpv 2)) aw))))
   (aA (aK (i:=4) nd rfl (by first|exact Or.inl rfl|exact Or.inr rfl) (fA aw))
   (aA (d9 PassesOwn.never rfl (cw rfl B.range (ag (dU dG dF (aB ak) (aZ aC hr rfl (ag (ao (wpv 0)) (ag (fY hu (fA (ag (aB ak) (ag (aB ak) (ag (aB ak) aw)))) (aZ aC hr rfl (ag (ao (wpv 0)) (ag (aB ak) aw))) (fun _ _=>rfl) (fun _ _=>rfl)) aw)))) aw)) (bw (aI (i:=5) nd rfl (by first|exact Or.inl rfl|exact Or.inr rfl))) (aA (kW (Nc:=["a","well"]) (tn:=["a"]) (capN:=["well"]) (caps:=[0]) rfl (eW (ao (wpv 3))) (fun _ _ _=>(bw (aI (i:=0) (show(["a","well"]:List Str).Nodup by decide +kernel) rfl (by first|exact Or.inl rfl|exact Or.inr rfl)))) (fun _ _ _=>(cy vC DV (aZ aC hr rfl (ag (ao (wpv 1)) (ag (aB ak) aw))) (aB ak) (bD _))) (fun _ _ _=>(ao (wpv 0))) rfl rfl (by decide +kernel) (by decide +kernel) ⟨rfl,trivial⟩ rfl (.cons ⟨rfl,rfl,rfl,_,rfl⟩ .nil) rfl rfl nd rfl rfl rfl)
   (aS (cN (dW (ao (wpv 4)) (ag (bJ bZ jP rfl B.tuple OG.cY (ag (Fd (ao (wpv 6)) (dU xA Cn (aB ak) (dU fe jQ (aB ak) (bJ lV Co rfl B.int OG.kj (ag (uX vD DW (aZ aC hr rfl (ag (ao (wpv 0)) (ag (aB ak) aw))) (aB ak) (bD _)) aw))))) aw)) aw))))))
   (aA (aK (i:=7) nd rfl (by first|exact Or.inl rfl|exact Or.inr rfl) qR)
   (aA (d9 PassesOwn.never rfl (cw rfl B.range (ag (aZ aC hr rfl (ag (ao (wpv 0)) (ag (dU dG dF (dU fe jQ (aB ak) (ao (wpv 2))) (aB ak)) aw))) aw)) (bw (aI (i:=8) nd rfl (by first|exact Or.inl rfl|exact Or.inr rfl))) (aA (aK (i:=9) nd rfl (by first|exact Or.inl rfl|exact Or.inr rfl) (aZ aC hr rfl (ag (ao (wpv 0)) (ag (ao (wpv 2)) aw))))
   (aA (aK (i:=5) nd rfl (by first|exact Or.inl rfl|exact Or.inr rfl) (aZ aC hr rfl (ag (ao (wpv 0)) (ag (bU mH mG rfl B.len PySem.boot_len (ag (ao (wpv 4)) aw)) aw))))
   (aA (aK (i:=6) nd rfl (by first|exact Or.inl rfl|exact Or.inr rfl) (dU dG dF (fA (ag (qP (aB ak)) aw)) (jL (Nc:=["one","a"]) (tn:=["one"]) (capN:=["a"]) (caps:=[9]) rfl (eW (fY hu (ao (wpv 4)) (ao (wpv 5)) (fun _ _=>rfl) (fun _ _=>rfl))) (fun _ _ _=>(bw (aI (i:=0) (show(["one","a"]:List Str).Nodup by decide +kernel) rfl (by first|exact Or.inl rfl|exact Or.inr rfl)))) (fun _ _ _=>(cy vB DU (ao (wpv 0)) (ao (wpv 1)) (bD _))) (fun _ _ _=>(ao (wpv 0))) rfl rfl (by decide +kernel) (by decide +kernel) ⟨rfl,trivial⟩ rfl (.cons ⟨rfl,rfl,rfl,_,rfl⟩ .nil) rfl rfl)))
   (aA (aK (i:=10) nd rfl (by first|exact Or.inl rfl|exact Or.inr rfl) (dU dG dF (fA (ag (qP (aB ak)) aw)) (jL (Nc:=["one","a","hidden"]) (tn:=["one"]) (capN:=["a","hidden"]) (caps:=[9,3]) rfl (eW (DT (ao (wpv 6)) (gK (aB ak)) gM)) (fun _ _ _=>(bw (aI (i:=0) (show(["one","a","hidden"]:List Str).Nodup by decide +kernel) rfl (by first|exact Or.inl rfl|exact Or.inr rfl)))) (fun _ _ _=>(cy vC DV (fB (ao (wpv 2)) (ag (ao (wpv 0)) aw)) (fB (ao (wpv 2)) (ag (ao (wpv 1)) aw)) (bD _))) (fun _ _ _=>(ao (wpv 0))) rfl rfl (by decide +kernel) (by decide +kernel) ⟨rfl,rfl,trivial⟩ rfl (.cons ⟨rfl,rfl,rfl,_,rfl⟩ (.cons ⟨rfl,rfl,rfl,_,rfl⟩ .nil)) rfl rfl)))
   (aS (kS hu (ao (wpv 7)) (ag (ao (wpv 9)) (ag (ao (wpv 5)) aw)) (fY hu (fA (ag (fY hu (ao (wpv 10)) (qP (aB ak)) (fun _ _=>rfl) (fun _ _=>rfl)) (ag (fY hu (ao (wpv 6)) (aZ aC hr rfl (ag (ao (wpv 0)) (ag (bU mH mG rfl B.len PySem.boot_len (ag (ao (wpv 6)) aw)) aw))) (fun _ _=>rfl) (fun _ _=>rfl)) aw))) (bJ lV Co rfl B.int OG.kj (ag (uX vD DW (aZ aC hr rfl (ag (ao (wpv 0)) (ag (aB ak) aw))) (aB ak) (bD _)) aw)) (fun _ _=>rfl) (fun _ _=>rfl)))))))))
   (aA (aK (i:=11) nd rfl (by first|exact Or.inl rfl|exact Or.inr rfl) qR)
   (aA (d9 PassesOwn.never rfl (cw rfl B.range (ag (aZ aC hr rfl (ag (ao (wpv 0)) (ag (dU dG dF (ao (wpv 2)) (aB ak)) aw))) aw)) (bw (aI (i:=8) nd rfl (by first|exact Or.inl rfl|exact Or.inr rfl))) (aA (aK (i:=9) nd rfl (by first|exact Or.inl rfl|exact Or.inr rfl) (aZ aC hr rfl (ag (ao (wpv 0)) (ag (ao (wpv 2)) aw))))
   (aA (aK (i:=12) nd rfl (by first|exact Or.inl rfl|exact Or.inr rfl) (aZ aC hr rfl (ag (ao (wpv 0)) (ag (ao (wpv 2)) aw))))
   (aS (jK (DS (BL (cy vB DU (ao (wpv 9)) (ao (wpv 12)) (bD _)) (xv (DS (Gr (cy vC DV (fB (ao (wpv 3)) (ag (ao (wpv 9)) aw)) (fB (ao (wpv 3)) (ag (ao (wpv 12)) aw)) (bD _)) (BJ (cy vD DW (aZ aC hr rfl (ag (ao (wpv 0)) (ag (aB ak) aw))) (aB ak) (bD _)))))))) (aS (kS hu (ao (wpv 11)) (ag (ao (wpv 9)) (ag (ao (wpv 12)) aw)) (Ff qh))) eV)))))
   (aS (dk (cP (ag (ao (wpv 2)) (ag (bJ bZ jP rfl B.tuple OG.cY (ag (bU (i9 rfl) lq rfl B.sorted OG.eF (ag (ao (wpv 11)) aw)) aw)) (ag (bJ bZ jP rfl B.tuple OG.cY (ag (ao (wpv 4)) aw)) (ag (bJ bZ jP rfl B.tuple OG.cY (ag (bU (i9 rfl) lq rfl B.sorted OG.eF (ag (zk (Nc:=["one","looks"]) (tn:=["one"]) (capN:=["looks"]) (caps:=[7]) rfl (ao (wpv 7)) (fun _ _ _=>(bw (aI (i:=0) (show(["one","looks"]:List Str).Nodup by decide +kernel) rfl (by first|exact Or.inl rfl|exact Or.inr rfl)))) (fun _ _ _=>(dU dG dF (ao (wpv 0)) (cP (ag (Fe hu (ao (wpv 1)) (ao (wpv 0)) (fun _ _=>rfl)) aw)))) rfl rfl (by decide +kernel) (by decide +kernel) ⟨rfl,trivial⟩ rfl (.cons ⟨rfl,rfl,rfl,_,rfl⟩ .nil) rfl rfl) aw)) aw)) aw))))))))))))))))
theorem eP:bA ["tale","many","times","writers","looks","found","row","a","box","source","later"] ["tale"] (aE dD):=⟨rfl,rfl,rfl,by decide +kernel,rfl,by decide +kernel,by decide +kernel⟩
theorem lG{k:Nat}(d:Def K mg "_law_musts" dD ["tale"])(B:Blt mg):kq P w K mg base "_law_musts" (k+1) ["tale"] (fnU 11 1 (bR )):=
 d.pure eP fun f cdv A outer s H E hr=>(by
  have hu:=j7 hr
  have nd:=eP.nd
  exact(aA (BH (ao (wpv 0)) (xo rfl (c6 (aI (i:=1) nd rfl (by first|exact Or.inl rfl|exact Or.inr rfl)) (c6 (aI (i:=2) nd rfl (by first|exact Or.inl rfl|exact Or.inr rfl)) (c6 (aI (i:=3) nd rfl (by first|exact Or.inl rfl|exact Or.inr rfl)) (c6 (aI (i:=4) nd rfl (by first|exact Or.inl rfl|exact Or.inr rfl)) qO))))))
   (aA (aK (i:=5) nd rfl (by first|exact Or.inl rfl|exact Or.inr rfl) (bJ cK nV rfl B.list OG.cE (ag (ao (wpv 2)) aw)))
   (aA (d9 PassesOwn.never rfl (eW (ao (wpv 3))) (bw (aI (i:=6) nd rfl (by first|exact Or.inl rfl|exact Or.inr rfl))) (aS (cN (fZ (ao (wpv 5)) (ag (xt (Nc:=["k","row"]) (tn:=["k"]) (capN:=["row"]) (caps:=[6]) rfl (cw rfl B.range (ag (dU xA Cn (bU mH mG rfl B.len PySem.boot_len (ag (ao (wpv 6)) aw)) (aB ak)) aw)) (fun _ _ _=>(bw (aI (i:=0) (show(["k","row"]:List Str).Nodup by decide +kernel) rfl (by first|exact Or.inl rfl|exact Or.inr rfl)))) (fun _ _ _=>(cP (ag (fY hu (ao (wpv 1)) (ao (wpv 0)) (fun _ _=>rfl) (fun _ _=>rfl)) (ag (fY hu (ao (wpv 1)) (dU dG dF (ao (wpv 0)) (aB ak)) (fun _ _=>rfl) (fun _ _=>rfl)) aw)))) rfl rfl (by decide +kernel) (by decide +kernel) ⟨rfl,trivial⟩ rfl (.cons ⟨rfl,rfl,rfl,_,rfl⟩ .nil) rfl rfl) aw)))))
   (aA (d9 PassesOwn.never rfl (eW (ao (wpv 4))) (xo rfl (c6 (aI (i:=7) nd rfl (by first|exact Or.inl rfl|exact Or.inr rfl)) (c6 (aI (i:=8) nd rfl (by first|exact Or.inl rfl|exact Or.inr rfl)) (c6 (aI (i:=9) nd rfl (by first|exact Or.inl rfl|exact Or.inr rfl)) qO)))) (aA (jK (cy Cq Gs (ao (wpv 9)) (aB ak) (bD _)) (aS (cN (dW (ao (wpv 5)) (ag (cP (ag (ao (wpv 9)) (ag (ao (wpv 7)) aw))) aw)))) eV)
   (aA (aK (i:=10) nd rfl (by first|exact Or.inl rfl|exact Or.inr rfl) (bJ cK nV rfl B.list OG.cE (ag (fY hu (ao (wpv 3)) (ao (wpv 8)) (fun _ _=>rfl) (fun _ _=>rfl)) aw)))
   (aA (jK (cy Cq Gs (ao (wpv 9)) (aB ak) (bD _)) (aS (aK (i:=10) nd rfl (by first|exact Or.inl rfl|exact Or.inr rfl) (DT (ao (wpv 10)) (gK (dU dG dF (fB (ao (wpv 10)) (ag (ao (wpv 9)) aw)) (aB ak))) gM))) eV)
   (aS (cN (fZ (ao (wpv 5)) (ag (jL (Nc:=["one","a"]) (tn:=["one"]) (capN:=["a"]) (caps:=[7]) rfl (eW (DT (ao (wpv 10)) gM (gK (aB ak)))) (fun _ _ _=>(bw (aI (i:=0) (show(["one","a"]:List Str).Nodup by decide +kernel) rfl (by first|exact Or.inl rfl|exact Or.inr rfl)))) (fun _ _ _=>(cy vB DU (ao (wpv 0)) (ao (wpv 1)) (bD _))) (fun _ _ _=>(cP (ag (ao (wpv 1)) (ag (ao (wpv 0)) aw)))) rfl rfl (by decide +kernel) (by decide +kernel) ⟨rfl,trivial⟩ rfl (.cons ⟨rfl,rfl,rfl,_,rfl⟩ .nil) rfl rfl) aw))))))))
   (aS (dk (kX rfl hr.units rfl B.sorted rfl B.set (ao (wpv 5))))))))))
theorem xg:bA ["script","k","well","tale","again","found"] ["script"] (aE za):=⟨rfl,rfl,rfl,by decide +kernel,rfl,by decide +kernel,by decide +kernel⟩
def kn(bp bq av cR a9 aU:Fn):CS:=
 (bH (b6 5 (cCB cR (ae (ah 3) ay)))
  (bH (mn (cOr (D5 (aN (wD .list (ah 5)))) (aN (cOp (lI true) (ah 5) (cCB a9 (ae (ah 3) ay))))) (lW (cC (.bl false))) d5)
  (bH (mn (D5 (aN (cCB Dp (ae (iQ (iTp (ah 5)) (gNm 0) (fO (wD .tuple (ah 0)) (fO (cCB aU (ae (cOp fIx (ah 0) (cC (.int 0))) ay)) (cCB aU (ae (cOp fIx (ah 0) (cC (.int 1))) ay)))) 1 []) ay)))) (lW (cC (.bl false))) d5)
  (dN (cBM bE (ah 5) (ae (dM (ae (cC (.int 0)) (ae (cC (.int 0)) ay))) ay))))))
def mX(bp bq av cR a9 aU:Fn):CS:=
 (bH (b6 2 (cCB bp (ae (ah 0) (ae (ah 1) ay))))
  (bH (b6 3 (cCB bq (ae (ah 2) (ae (cOp fIx (iB (ae (cC (.int 9)) (ae (cC (.int 9)) (ae (cC (.int 30)) ay)))) (cCB av (ae (ah 2) (ae (cC (.int 3)) ay)))) ay))))
  (iP (bo (ae (cC (.int 2)) ay)) (gNm 4) (kn bp bq av cR a9 aU))))
def Ak(bp bq av cR a9 aU:Fn):CS:=
 (bH (iP (bo (ae (cCB D4 (ae (cC (.int 3)) (ae (cCB D3 (ae (cC (.int 12)) (ae (cCB ji (ae (ah 0) ay)) ay))) ay))) ay)) (gNm 1) (mX bp bq av cR a9 aU))
  (lW (fO (cOp (lI false) (cCB cR (ae (dM (ae (cC (.int 2)) (ae (dM ay) (ae (dM (ae (dM (ae (cC (.int 0)) (ae (cC (.int 1)) ay))) ay)) (ae (dM (ae (dM (ae (cC (.int 0)) (ae (cC (.int 0)) (ae (tj (cC (.int 1))) ay)))) ay)) ay))))) ay)) (iB (ae (dM (ae (cC (.int 0)) (ae (cC (.int 1)) ay))) ay))) (cOp (lI false) (cCB cR (ae (dM (ae (cC (.int 1)) (ae (dM ay) (ae (dM (ae (dM ay) ay)) (ae (dM (ae (dM (ae (cC (.int 0)) (ae (cC (.int 0)) (ae (tj (cC (.int 1))) ay)))) ay)) ay))))) ay)) (iB ay)))))
theorem FZ{k:Nat}{bp bq av cR a9 aU:Fn}{fa:Addr}{fd:FuncData}(F:Fun K "law" "law" za fa fd)(B:Blt mg)(eI:kq P w K mg base "_law_well" (k) ["script","k"] bp)(eJ:kq P w K mg base "_law_tale" (k) ["well","most"] bq)(aC:kq P w K mg base "_law_sip" (k) ["well","many"] av)(iI:kq P w K mg base "musts" (k) ["tale"] cR)(dR:kq P w K mg base "_law_musts" (k) ["tale"] a9)(cM:kq P w K mg base "_law_whole" (k) ["thing"] aU)
  (ok:∀(ns:List Int),ns.length<=63->∃ρ' S',Ak bp bq av cR a9 aU [some (.kl ns),none,none,none,none,none] []=some (.rt (.bl true),ρ',S')):mq P w K mg base CX0 (k+1) fa fd ["script"] (nD K):=by
 refine Fun.okW F xg (fun vs H Q E h=>(by obtain⟨a,ns,rfl,_⟩:=h;rfl)) fun cdv A outer s H vs Q E hr h=>?_
 obtain⟨a,ns,rfl,hS,hlen,q⟩:=h
 have hu:=j7 hr
 have nd:=xg.nd
 exact⟨_,(aA (d9 PassesOwn.never rfl (cw rfl B.range (ag (bU (sW rfl) Fu rfl B.max OG.wK (ag (aB ak) (ag (bU (sV rfl) Ft rfl B.min OG.wJ (ag (aB ak) (ag (bU mH mG rfl B.len PySem.boot_len (ag (ao (wpv 0)) aw)) aw))) aw))) aw)) (bw (aI (i:=1) nd rfl (by first|exact Or.inl rfl|exact Or.inr rfl))) (aA (aK (i:=2) nd rfl (by first|exact Or.inl rfl|exact Or.inr rfl) (aZ eI hr rfl (ag (ao (wpv 0)) (ag (ao (wpv 1)) aw))))
   (aA (aK (i:=3) nd rfl (by first|exact Or.inl rfl|exact Or.inr rfl) (aZ eJ hr rfl (ag (ao (wpv 2)) (ag (fY hu (fA (ag (aB ak) (ag (aB ak) (ag (aB ak) aw)))) (aZ aC hr rfl (ag (ao (wpv 2)) (ag (aB ak) aw))) (fun _ _=>rfl) (fun _ _=>rfl)) aw))))
   (aS (d9 PassesOwn.never rfl (cw rfl B.range (ag (aB ak) aw)) (bw (aI (i:=4) nd rfl (by first|exact Or.inl rfl|exact Or.inr rfl))) (aA (aK (i:=5) nd rfl (by first|exact Or.inl rfl|exact Or.inr rfl) (aZ iI hr rfl (ag (ao (wpv 3)) aw)))
   (aA (jK (DS (Gr (xq (xp (uW (T:=.list) (by intro z;cases z) (ao (wpv 5)) (nr rfl B.list OG.cE) rfl B.isinstance))) (BJ (cy (xB hr.units) vx (ao (wpv 5)) (aZ dR hr rfl (ag (ao (wpv 3)) aw)) (bD _))))) (aS (dk (Ff qh))) eV)
   (aA (jK (xq (xp (bU (wB rfl) Fv rfl B.all OG.wL (ag (xt (Nc:=["one"]) (tn:=["one"]) (capN:=[]) (caps:=[]) rfl (eW (ao (wpv 5))) (fun _ _ _=>(bw (aI (i:=0) (show(["one"]:List Str).Nodup by decide +kernel) rfl (by first|exact Or.inl rfl|exact Or.inr rfl)))) (fun _ _ _=>(nM (uW (T:=.tuple) (by intro z;cases z) (ao (wpv 0)) (nr rfl B.tuple OG.cY) rfl B.isinstance) (nM (aZ cM hr rfl (ag (fY hu (ao (wpv 0)) (aB ak) (fun _ _=>rfl) (fun _ _=>rfl)) aw)) (zj (aZ cM hr rfl (ag (fY hu (ao (wpv 0)) (aB ak) (fun _ _=>rfl) (fun _ _=>rfl)) aw)))))) rfl rfl (by decide +kernel) (by decide +kernel) trivial rfl .nil rfl rfl) aw)))) (aS (dk (Ff qh))) eV)
   (aS (cN (dW (ao (wpv 5)) (ag (cP (ag (aB ak) (ag (aB ak) aw))) aw))))))))))))
   (aS (dk (nM (uX (xC hr.units) vx (aZ iI hr rfl (ag (cP (ag (aB ak) (ag (cP aw) (ag (cP (ag (cP (ag (aB ak) (ag (aB ak) aw))) aw)) (ag (cP (ag (cP (ag (aB ak) (ag (aB ak) (ag (qP (aB ak)) aw)))) aw)) aw))))) aw)) (fA (ag (cP (ag (aB ak) (ag (aB ak) aw))) aw)) (bD _)) (zj (uX (xC hr.units) vx (aZ iI hr rfl (ag (cP (ag (aB ak) (ag (cP aw) (ag (cP (ag (cP aw) aw)) (ag (cP (ag (cP (ag (aB ak) (ag (aB ak) (ag (qP (aB ak)) aw)))) aw)) aw))))) aw)) (fA aw) (bD _))))))),vS hS (ok ns hlen) q⟩
end
end OL
namespace OQ
open PySem PySem.Spec PyProof.Rows L2 OG OP
def rQ(row:List Int)(v:Int):List Int:=if inR row v then row.drop (row.idxOf v+1)else row
def hdP(a:Int):List Int->List (Int×Int)
 |[]=>[]
 |l::_=>if l=a then[]else[(a,l)]
def oY(row:List Int)(a v:Int):List (Int×Int):=if inR row v then[(v,a)]else[]
def gQ(row:List Int)(a v:Int):List (Int×Int):=oY row a v++hdP a (rQ row v)
def fG(row:List Int):List (Int×Int):=row.zip (row.drop 1)
def mlk(wr:List (List Int))(r:List Int):List (Int×Int):=gQ (wr.getD (r.getD 1 0).toNat []) (r.getD 0 0) (r.getD 2 0)
def pA(tms:List (Int×Int))(wr lk:List (List Int)):List (Int×Int):=tms++wr.flatMap fG++lk.flatMap (mlk wr)
theorem su(a:Int)(l:List Int):(hdP a l).length<=1:=by
 cases l with
 |nil=>exact Nat.zero_le _
 |cons x l=>
  show(if x=a then[]else[(a,x)]).length<=1
  split
  ·exact Nat.zero_le _
  ·exact Nat.le_refl _
theorem gP(row:List Int)(a v:Int):(gQ row a v).length<=2:=by
 unfold gQ oY
 rw[List.length_append]
 have:=su a (rQ row v)
 split<;>simp<;>omega
theorem jT(row:List Int):(fG row).length<=row.length:=by unfold fG;rw[List.length_zip];omega
structure Fzz(l:Nat)(Y Y':Sto):Prop where
 len:Y.length<=Y'.length
 keep:∀i,i<Y.length->i≠l->Y'[i]?=Y[i]?
section
variable{l:Nat}{Y Y' Y'':Sto}
theorem Fzz.refl:Fzz l Y Y:=⟨Nat.le_refl _,fun _ _ _=>rfl⟩
theorem Fzz.trans(a:Fzz l Y Y')(b:Fzz l Y' Y''):Fzz l Y Y'':=⟨Nat.le_trans a.len b.len,fun i hi n=>by rw[b.keep i (Nat.lt_of_lt_of_le hi a.len) n,a.keep i hi n]⟩
theorem Fzz.app(G:Sto):Fzz l Y (Y++G):=⟨by simp,fun i hi _=>List.getElem?_append_left hi⟩
theorem Fzz.set(o:O):Fzz l Y (Y.set l o):=⟨by simp,fun i _ n=>List.getElem?_set_ne n.symm⟩
theorem Fzz.ext{Z:Sto}(a:Fzz l Y Y')(hl:Z.length<=l)(e:∃X,Y=Z++X):∃X,Y'=Z++X:=by
 obtain⟨X,e⟩:=e
 have zl:Z.length<=Y.length:=by rw[e];simp
 refine Dj (ls:=[]) (Nat.le_trans zl a.len) fun i hi=>?_
 rw[a.keep i (by omega) (by omega),e,List.getElem?_append_left hi]
end
theorem oD{l b:Nat}{us vs:List U}{Y:Sto}(h1:Y[l]?=some (.lst us))(h2:Y[b]?=some (.lst vs))(hL:us.length+vs.length<=LIM):c8 (.ref l) [.ref b] Y=some (.non,Y.set l (.lst (us++vs))):=by
 simp only[c8,h1,h2]
 rw[if_pos hL]
theorem qA{us:List U}{k l:Nat}{S:Sto}(hl:S[l]?=some (.lst us))(h:k<=us.length):fSl (.ref l) (some (k:Int)) none S=some (.ref S.length,S++[.lst (us.drop k)]):=by
 have e:HT.sIx us.length 0 (some (k:Int))=k:=by rw[HT.sIx_nat];omega
 simp only[fSl,hl,HT.sIx_none,e,pJ]
 rw[List.take_of_length_le (by simp)]
def tV:Fn:=fnU 5 3 aX
section
variable{S Y:Sto}{row:List Int}{a v:Int}{j3 j4:Nat}{x0 x2:Option U}
theorem vH{lt:List Int}{bl:List (Int×Int)}(h3:Y[j3]?=some (.lst (lt.map U.int)))(h4:Y[j4]?=some (.lst (bl.map pP)))(hb:bl.length<=900) :
  ∃Y',mn (Au (aN (cOp fGt (cCB ji (ae (ah 3) ay)) (cC (.int 0)))) (aN (cOp fNe (cOp fIx (ah 3) (cC (.int 0))) (ah 1)))) (dN (cBM bE (ah 4) (ae (dM (ae (ah 1) (ae (cOp fIx (ah 3) (cC (.int 0))) ay))) ay))) d5 [x0,some (.int a),x2,some (.ref j3),some (.ref j4)] Y=some (.nx,[x0,some (.int a),x2,some (.ref j3),some (.ref j4)],Y')/\Y'[j4]?=some (.lst ((bl++hdP a lt).map pP))/\Fzz j4 Y Y':=by
 have lj:j4<Y.length:=(List.getElem?_eq_some_iff.mp h4).1
 cases lt with
 |nil=>
  refine⟨Y,?_,by rw[hdP,List.append_nil];exact h4,.refl⟩
  have h3':Y[j3]?=some (.lst []):=h3
  have d0:decide ((0:Int)<((0:Nat):Int))=false:=by decide
  rwa[h3',d0]
 |cons x r=>
  obtain⟨lu,hlu⟩:∃lu,lu=(x::r).map U.int:=⟨_,rfl⟩
  have a0:atI lu 0=some (.int x):=by rw[hlu,List.map_cons];exact at0
  have d0:decide ((0:Int)<(lu.length:Int))=true:=decide_eq_true (by rw[hlu];simp)
  rw[<-hlu]at h3
  by_cases e:x=a
  ·have de:decide (x=a)=true:=decide_eq_true e
   refine⟨Y,?_,by rw[hdP,if_pos e,List.append_nil];exact h4,.refl⟩
   rwa[h3,d0,a0,de]
  ·have de:decide (x=a)=false:=decide_eq_false e
   have hL:(bl.map pP).length<LIM:=by unfold LIM;rw[List.length_map];omega
   have em:bl.map pP++[.tup [.int a,.int x]]=(bl++hdP a (x::r)).map pP:=by rw[hdP,if_neg e,List.map_append];rfl
   refine⟨Y.set j4 (.lst ((bl++hdP a (x::r)).map pP)),?_,by rw[List.getElem?_set,if_pos rfl,if_pos lj],.set _⟩
   rw[<-em]
   rwa[h3,d0,a0,de,h4,iT hL]
theorem Cy(hl:row.length<=900):∃G j,tV [.tup (row.map U.int),.int a,.int v] S=some (.ref j,S++G)/\(S++G)[j]?=some (.lst ((gQ row a v).map pP))/\S.length<=j:=by
 unfold tV
 rw[hU]
 obtain⟨ru,hru⟩:∃ru,ru=row.map U.int:=⟨_,rfl⟩
 have e1:b6 3 (cCB fK (ae (ah 0) ay)) [some (.tup ru),some (.int a),some (.int v),none,none] S=some (.nx,[some (.tup ru),some (.int a),some (.int v),some (.ref S.length),none],S++[.lst ru]):=by rwa[]
 have l1:(S++[O.lst ru]).length=S.length+1:=by rw[List.length_append];rfl
 have e2:b6 4 (iB ay) [some (.tup ru),some (.int a),some (.int v),some (.ref S.length),none] (S++[.lst ru])=some (.nx,[some (.tup ru),some (.int a),some (.int v),some (.ref S.length),some (.ref (S.length+1))],S++[.lst ru,.lst []]):=by
  rwa[l1]
 have hin:∀T:Sto,fIn false (.int v) (.tup ru) T=some (.bl (inR row v),T):=fun T=>by rw[hru];exact FY
 have fin:∀(Y:Sto) (j3:Nat),(mn (aN (cOp (fIn false) (ah 2) (ah 0))) (bH (b6 3 (cSl (ah 3) (some (cOp cS (cBM aQ (ah 3) (ae (ah 2) ay)) (cC (.int 1)))) none)) (dN (cBM bE (ah 4) (ae (dM (ae (ah 2) (ae (ah 1) ay))) ay)))) d5) [some (.tup ru),some (.int a),some (.int v),some (.ref S.length),some (.ref (S.length+1))] (S++[.lst ru,.lst []])=some (.nx,[some (.tup ru),some (.int a),some (.int v),some (.ref j3),some (.ref (S.length+1))],Y)->Y[j3]?=some (.lst ((rQ row v).map U.int))->Y[S.length+1]?=some (.lst ((oY row a v).map pP))->(∃X,Y=S++X)->
   ∃G j,((aX [some (.tup ru),some (.int a),some (.int v),none,none] S).bind kFn)=some (.ref j,S++G)/\(S++G)[j]?=some (.lst ((gQ row a v).map pP))/\S.length<=j:=fun Y j3 e3 g3 g4 ex=>by
  obtain⟨Y',e4,g5,f⟩:=vH (a:=a) (x0:=some (.tup ru)) (x2:=some (.int v)) g3 g4 (by unfold oY;split<;>simp)
  obtain⟨G,hG⟩:=f.ext (Z:=S) (by omega) ex
  refine⟨G,S.length+1,?_,by rw[<-hG];exact g5,by omega⟩
  unfold aX
  rw[dA e1,dA e2,dA e3,dA e4,hG]
  rfl
 rw[<-hru]
 cases hb:inR row v with
 |true=>
  have hm:v∈row:=of_decide_eq_true hb
  have ix:aQ (.ref S.length) [.int v] (S++[.lst ru,.lst []])=some (.int (row.idxOf v:Nat),S++[.lst ru,.lst []]):=dY (by rw[ga0,hru];rfl) hm hl
  have hk:row.idxOf v+1<=ru.length:=by rw[hru,List.length_map];exact List.idxOf_lt_length_of_mem hm
  have sl:=qA (S:=S++[.lst ru,.lst []]) (l:=S.length) (us:=ru) (k:=row.idxOf v+1) (by rw[ga0];rfl) hk
  have l2:(S++[O.lst ru,.lst []]).length=S.length+2:=by rw[List.length_append];rfl
  have el:ru.drop (row.idxOf v+1)=(rQ row v).map U.int:=by unfold rQ;rw[if_pos hb,hru,List.map_drop]
  have ec:(((row.idxOf v:Nat):Int)+1)=((row.idxOf v+1:Nat):Int):=by omega
  rw[l2,el]at sl
  obtain⟨lu,hlu⟩:∃lu,lu=(rQ row v).map U.int:=⟨_,rfl⟩
  rw[<-hlu]at sl
  have cs:b6 3 (cSl (ah 3) (some (cOp cS (cBM aQ (ah 3) (ae (ah 2) ay)) (cC (.int 1)))) none) [some (.tup ru),some (.int a),some (.int v),some (.ref S.length),some (.ref (S.length+1))] (S++[.lst ru,.lst []])=some (.nx,[some (.tup ru),some (.int a),some (.int v),some (.ref (S.length+2)),some (.ref (S.length+1))],S++[.lst ru,.lst [],.lst lu]):=by
   have hv:ah 3 [some (.tup ru),some (.int a),some (.int v),some (.ref S.length),some (.ref (S.length+1))] (S++[.lst ru,.lst []])=some (.ref S.length,S++[.lst ru,.lst []]):=rfl
   have hx:cOp cS (cBM aQ (ah 3) (ae (ah 2) ay)) (cC (.int 1)) [some (.tup ru),some (.int a),some (.int v),some (.ref S.length),some (.ref (S.length+1))] (S++[.lst ru,.lst []])=some (.int ((row.idxOf v+1:Nat):Int),S++[.lst ru,.lst []]):=by
    rw[<-ec]
    rwa[ix]
   rw[kr]
   simp only[cSl,iO,hv,hx,Option.bind_some,sl,List.append_assoc]
   rfl
  refine fin (S++[.lst ru,.lst [.tup [.int v,.int a]],.lst lu]) (S.length+2) ?_ (by rw[ga,hlu];rfl) (by rw[ga];unfold oY;rw[if_pos hb];rfl) ⟨_,rfl⟩
  have g1:(S++[O.lst ru,.lst [],.lst lu])[S.length+1]?=some (.lst []):=by rw[ga];rfl
  have hL:([]:List U).length<LIM:=by unfold LIM;simp
  have tt:aN (cOp (fIn false) (ah 2) (ah 0)) [some (.tup ru),some (.int a),some (.int v),some (.ref S.length),some (.ref (S.length+1))] (S++[.lst ru,.lst []])=some (true,S++[.lst ru,.lst []]):=by
   have:=hin (S++[.lst ru,.lst []])
   rw[hb]at this
   rwa[this]
  rw[kC,tt,Option.bind_some,iS,dA cs]
  rwa[g1,iT hL]
 |false=>
  refine fin (S++[.lst ru,.lst []]) S.length ?_ (by rw[ga0];unfold rQ;rw[if_neg (by rw[hb];decide),hru];rfl) (by rw[ga];unfold oY;rw[if_neg (by rw[hb];decide)];rfl) ⟨_,rfl⟩
  have:=hin (S++[.lst ru,.lst []])
  rw[hb]at this
  rwa[this]
end
def nc:Fn:=fnU 4 1 (iA tV)
theorem vi(row:List Int):ph (row.map U.int) ((row.drop 1).map U.int)=(fG row).map pP:=by
 unfold ph fG
 rw[List.zip_map,List.map_map]
 rfl
theorem Hm(us:List U):pJ us (some 1) none=us.drop 1:=by
 unfold pJ
 have e:HT.sIx us.length 0 (some (1:Int))=min 1 us.length:=by
  have:=HT.sIx_nat (n:=us.length) (d:=0) (k:=1)
  rw[show((1:Nat):Int)=1 from rfl]at this
  exact this
 rw[e,HT.sIx_none]
 cases us with
 |nil=>rfl
 |cons u us=>
  have:min 1 (u::us).length=1:=by simp
  rw[this,List.take_of_length_le (by simp)]
theorem gm:∀{wr:List (List Int)},(∀r∈wr,r.length<=30)->(wr.flatMap fG).length<=30*wr.length
 |[],_=>by simp
 |r::wr,h=>by
  rw[List.flatMap_cons,List.length_append,List.length_cons]
  have:=gm (wr:=wr) fun x hx=>h x (List.mem_cons_of_mem _ hx)
  have:=h r List.mem_cons_self
  have:=jT r
  omega
theorem iG.row_len{many:Int}{tms:List (Int×Int)}{wr lk:List (List Int)}(T:iG many tms wr lk)(hm:many<=30){r:List Int}(hr:r∈wr):r.length<=30:=by
 obtain⟨h1,h2⟩:=T.hwr r hr
 have:=List.Nodup.length_le_of_subset h2 (l₂:=(List.range many.toNat).map fun i:Nat=>(i:Int)) fun b hb=>by
  obtain⟨z1,z2⟩:=h1 b hb
  exact List.mem_map.mpr ⟨b.toNat,List.mem_range.mpr (by omega),by omega⟩
 simp at this
 omega
theorem n6(wr:List (List Int)):∀lk:List (List Int),(lk.flatMap (mlk wr)).length<=2*lk.length
 |[]=>by simp
 |r::lk=>by
  rw[List.flatMap_cons,List.length_append,List.length_cons]
  have:=gP (wr.getD (r.getD 1 0).toNat []) (r.getD 0 0) (r.getD 2 0)
  have e:mlk wr r=gQ (wr.getD (r.getD 1 0).toNat []) (r.getD 0 0) (r.getD 2 0):=rfl
  rw[e]
  have:=n6 wr lk
  omega
theorem iG.all_len{many:Int}{tms:List (Int×Int)}{wr lk:List (List Int)}(T:iG many tms wr lk)(hm:many<=30):(pA tms wr lk).length<=1000:=by
 unfold pA
 have h1:=gm fun r hr=>T.row_len hm (r:=r) hr
 have h2:=n6 wr lk
 have htl:=T.htl
 have hwl:=T.hwl
 have hll:=T.hll
 rw[List.length_append,List.length_append]
 omega
section
variable{Y:Sto}{lf:Nat}{x0 r2 r3:Option U}{wr lk:List (List Int)}{many:Int}{tm:U}
theorem ye{row:List Int}(hl:row.length<=900):fj (ah 2) (Ar (ah 2) (some (cC (.int 1))) none) [x0,some (.ref lf),some (.tup (row.map U.int)),r3] Y=some (.ref Y.length,Y++[.lst ((fG row).map pP)]):=by
 have hv:ah 2 [x0,some (.ref lf),some (.tup (row.map U.int)),r3] Y=some (.tup (row.map U.int),Y):=rfl
 have hs:Ar (ah 2) (some (cC (.int 1))) none [x0,some (.ref lf),some (.tup (row.map U.int)),r3] Y=some (.tup ((row.drop 1).map U.int),Y):=by
  have h1:cC (.int 1) [x0,some (.ref lf),some (.tup (row.map U.int)),r3] Y=some (.int 1,Y):=rfl
  simp only[Ar,iO,hv,h1,Option.bind_some,Dk,Hm,List.map_drop]
 unfold fj
 rw[hv,Option.bind_some]
 dsimp only
 rw[hs,Option.bind_some]
 simp only[uO,Option.bind_some]
 rw[if_pos (by rw[List.length_map];omega),vi]
theorem kQ:∀(rs:List (List Int)) (acc:List (Int×Int)) (Y:Sto) (r2:Option U),Y[lf]?=some (.lst (acc.map pP))->(∀r∈rs,r.length<=900)->acc.length+900*rs.length<=90000->
  ∃Y' r2',bX (fun _=>True) (gNm 2) (iF tV) (rs.map rwU) [x0,some (.ref lf),r2,r3] Y=some (.nx,[x0,some (.ref lf),r2',r3],Y')/\Y'[lf]?=some (.lst ((acc++rs.flatMap fG).map pP))/\Fzz lf Y Y'
 |[],acc,Y,r2,h,_,_=>⟨Y,r2,bK trivial,by rw[List.flatMap_nil,List.append_nil];exact h,.refl⟩
 |row::rs,acc,Y,r2,h,hr,hl=>by
  rw[List.length_cons]at hl
  have hr0:=hr row List.mem_cons_self
  have ml:=jT row
  have lj:lf<Y.length:=(List.getElem?_eq_some_iff.mp h).1
  have g1:(Y++[O.lst ((fG row).map pP)])[lf]?=some (.lst (acc.map pP)):=ax h
  have g2:(Y++[O.lst ((fG row).map pP)])[Y.length]?=some (.lst ((fG row).map pP)):=by rw[ga0];rfl
  have ex:=oD g1 g2 (by unfold LIM;rw[List.length_map,List.length_map];omega)
  rw[<-List.map_append]at ex
  obtain⟨Y',r2',ih,i1,i2⟩:=kQ rs (acc++fG row) ((Y++[O.lst ((fG row).map pP)]).set lf (.lst ((acc++fG row).map pP))) (some (rwU row)) (by rw[List.getElem?_set,if_pos rfl,if_pos (by rw[List.length_append];omega)]) (fun r h'=>hr r (List.mem_cons_of_mem _ h')) (by rw[List.length_append];omega)
  refine⟨Y',r2',(cQ trivial rfl ?_).trans ih,by rw[List.flatMap_cons,<-List.append_assoc];exact i1,((Fzz.app _).trans (.set _)).trans i2⟩
  have z:=ye (x0:=x0) (lf:=lf) (r3:=r3) (Y:=Y) hr0
  unfold iF
  show dN _ [x0,some (.ref lf),some (.tup (row.map U.int)),r3] Y=_
  obtain⟨ru,hru⟩:∃ru,ru=row.map U.int:=⟨_,rfl⟩
  have er:some (rwU row)=some (U.tup ru):=by rw[hru];rfl
  rw[er]
  rw[<-hru]at z ⊢
  obtain⟨mu,hmu⟩:∃mu,mu=(fG row).map pP:=⟨_,rfl⟩
  rw[<-hmu]at z ex ⊢
  have a1:ae (fj (ah 2) (Ar (ah 2) (some (cC (.int 1))) none)) ay [x0,some (.ref lf),some (.tup ru),r3] Y=some ([.ref Y.length],Y++[.lst mu]):=by
   rw[gB,z,Option.bind_some];rfl
  have a0:ah 1 [x0,some (.ref lf),some (.tup ru),r3] Y=some (.ref lf,Y):=rfl
  rw[nj,DN,a0,Option.bind_some,um,h,uk,a1,Option.bind_some,uj,ex]
  rfl
theorem n9(hw:∀r∈wr,r.length<=900):∀(ls:List (List Int)) (acc:List (Int×Int)) (Y:Sto) (r3:Option U),Y[lf]?=some (.lst (acc.map pP))->(∀r∈ls,∃a b v,r=[a,b,v]/\0<=b/\b<wr.length)->acc.length+2*ls.length<=90000->
  ∃Y' r3',bX (fun _=>True) (gNm 3) (iE tV) (ls.map rwU) [some (aW many tm wr lk),some (.ref lf),r2,r3] Y=some (.nx,[some (aW many tm wr lk),some (.ref lf),r2,r3'],Y')/\Y'[lf]?=some (.lst ((acc++ls.flatMap (mlk wr)).map pP))/\Fzz lf Y Y'
 |[],acc,Y,r3,h,_,_=>⟨Y,r3,bK trivial,by rw[List.flatMap_nil,List.append_nil];exact h,.refl⟩
 |look::ls,acc,Y,r3,h,hr,hl=>by
  rw[List.length_cons]at hl
  obtain⟨a,b,v,rfl,b0,b1⟩:=hr _ List.mem_cons_self
  have hb:b.toNat<wr.length:=by omega
  have hrow:wr.getD b.toNat []∈wr:=by rw[List.getD_eq_getElem?_getD,List.getElem?_eq_getElem hb];exact List.getElem_mem hb
  obtain⟨G,j,e,g,lj⟩:=Cy (S:=Y) (row:=wr.getD b.toNat []) (a:=a) (v:=v) (hw _ hrow)
  have em:mlk wr [a,b,v]=gQ (wr.getD b.toNat []) a v:=rfl
  have ml:=gP (wr.getD b.toNat []) a v
  have lf1:lf<Y.length:=(List.getElem?_eq_some_iff.mp h).1
  rw[<-em]at g ml
  have g1:(Y++G)[lf]?=some (.lst (acc.map pP)):=ax h
  have ex:=oD g1 g (by unfold LIM;rw[List.length_map,List.length_map];omega)
  rw[<-List.map_append]at ex
  obtain⟨Y',r3',ih,i1,i2⟩:=n9 hw ls (acc++mlk wr [a,b,v]) ((Y++G).set lf (.lst ((acc++mlk wr [a,b,v]).map pP))) (some (rwU [a,b,v])) (by rw[List.getElem?_set,if_pos rfl,if_pos (by rw[List.length_append];omega)]) (fun r h'=>hr r (List.mem_cons_of_mem _ h')) (by rw[List.length_append];omega)
  refine⟨Y',r3',(cQ trivial rfl ?_).trans ih,by rw[List.flatMap_cons,<-List.append_assoc];exact i1,((Fzz.app _).trans (.set _)).trans i2⟩
  have ar:=tF (wr:=wr) b0 b1
  obtain⟨wu,hwu⟩:∃wu,wu=wr.map rwU:=⟨_,rfl⟩
  obtain⟨nu,hnu⟩:∃nu,nu=((acc++mlk wr [a,b,v]).map pP):=⟨_,rfl⟩
  obtain⟨lu,hlu⟩:∃lu,lu=lk.map rwU:=⟨_,rfl⟩
  obtain⟨ru,hru⟩:∃ru,ru=(wr.getD b.toNat []).map U.int:=⟨_,rfl⟩
  rw[<-hwu,<-hru]at ar
  rw[<-hru]at e
  rw[<-hnu]at ex ⊢
  unfold iE aW
  rw[<-hwu,<-hlu]
  show dN _ [some (.tup [.int many,tm,.tup wu,.tup lu]),some (.ref lf),r2,some (.tup [.int a,.int b,.int v])] Y=some (.nx,[some (.tup [.int many,tm,.tup wu,.tup lu]),some (.ref lf),r2,some (.tup [.int a,.int b,.int v])],_)
  rwa[h,ar,e,ex]
theorem jS{tms:List (Int×Int)}{S:Sto}(T:iG many tms wr lk)(hm:many<=30):∃G j,nc [aW many (.tup (tms.map pP)) wr lk] S=some (.ref j,S++G)/\(S++G)[j]?=some (.lst ((dz (pA tms wr lk)).map pP))/\S.length<=j:=by
 unfold nc
 rw[Ai]
 have rl:∀r∈wr,r.length<=30:=fun r hr=>T.row_len hm hr
 have htl:=T.htl
 have hwl:=T.hwl
 have hll:=T.hll
 obtain⟨tu,htu⟩:∃tu,tu=tms.map pP:=⟨_,rfl⟩
 have s1:b6 1 (cCB fK (ae (cOp fIx (ah 0) (cC (.int 1))) ay)) [some (aW many (.tup tu) wr lk),none,none,none] S=some (.nx,[some (aW many (.tup tu) wr lk),some (.ref S.length),none,none],S++[.lst tu]):=by
  obtain⟨wu,hwu⟩:∃wu,wu=wr.map rwU:=⟨_,rfl⟩
  obtain⟨lu,hlu⟩:∃lu,lu=lk.map rwU:=⟨_,rfl⟩
  unfold aW
  rw[<-hwu,<-hlu]
  rwa[]
 obtain⟨Y1,q2,e1,g1,f1⟩:=kQ (x0:=some (aW many (.tup tu) wr lk)) (lf:=S.length) (r3:=none) wr tms (S++[.lst tu]) none (by rw[ga0,htu];rfl) (fun r hr=>Nat.le_trans (rl r hr) (by omega)) (by omega)
 obtain⟨Y2,q3,e2,g2,f2⟩:=n9 (lf:=S.length) (many:=many) (tm:=.tup tu) (wr:=wr) (lk:=lk) (r2:=q2) (fun r hr=>Nat.le_trans (rl r hr) (by omega)) lk (tms++wr.flatMap fG) Y1 none g1 (fun r hr=>by
  obtain⟨a,b,v,e,_,h2,_⟩:=T.hlk r hr
  exact⟨a,b,v,e,h2.1,h2.2⟩) (by have:=gm rl;rw[List.length_append];omega)
 have ml:=T.all_len hm
 have f:=f1.trans f2
 obtain⟨G,hG⟩:=f.ext (Z:=S) (Nat.le_refl _) ⟨_,rfl⟩
 refine⟨G++[.lst ((dz (pA tms wr lk)).map pP)],Y2.length,?_,?_,by rw[hG];simp⟩
 ·unfold iA
  rw[<-htu,dA s1]
  have i1:iTp (cOp fIx (ah 0) (cC (.int 2))) [some (aW many (.tup tu) wr lk),some (.ref S.length),none,none] (S++[.lst tu])=some (wr.map rwU,fun _=>True,S++[.lst tu]):=by
   obtain⟨wu,hwu⟩:∃wu,wu=wr.map rwU:=⟨_,rfl⟩
   obtain⟨lu,hlu⟩:∃lu,lu=lk.map rwU:=⟨_,rfl⟩
   unfold iTp aW
   rw[<-hwu,<-hlu]
   rwa[]
  have i2:iTp (cOp fIx (ah 0) (cC (.int 3))) [some (aW many (.tup tu) wr lk),some (.ref S.length),q2,none] Y1=some (lk.map rwU,fun _=>True,Y1):=by
   obtain⟨wu,hwu⟩:∃wu,wu=wr.map rwU:=⟨_,rfl⟩
   obtain⟨lu,hlu⟩:∃lu,lu=lk.map rwU:=⟨_,rfl⟩
   unfold iTp aW
   rw[<-hwu,<-hlu]
   rwa[]
  rw[dA (ρ':=[some (aW many (.tup tu) wr lk),some (.ref S.length),q2,none]) (S':=Y1) (by unfold iP;rw[i1,Option.bind_some];exact e1)]
  rw[dA (ρ':=[some (aW many (.tup tu) wr lk),some (.ref S.length),q2,q3]) (S':=Y2) (by unfold iP;rw[i2,Option.bind_some];exact e2)]
  have hv:ah 1 [some (aW many (.tup tu) wr lk),some (.ref S.length),q2,q3] Y2=some (.ref S.length,Y2):=rfl
  have hs:da (ah 1) [some (aW many (.tup tu) wr lk),some (.ref S.length),q2,q3] Y2=some (.ref Y2.length,Y2++[.lst ((dz (pA tms wr lk)).map pP)]):=by
   unfold da
   rw[hv,Option.bind_some]
   simp only[g2,fD,Option.bind_some]
   have ml':(tms++wr.flatMap fG++lk.flatMap (mlk wr)).length<=1200:=Nat.le_trans ml (by omega)
   rw[if_pos ml']
   rfl
  rw[yg,hs,hG,List.append_assoc]
  rfl
 ·rw[<-List.append_assoc,<-hG,ga0]
  rfl
end
def ko:Fn:=fnU 11 1 bR
theorem zN(row:List Int):(List.range (row.length-1)).map (fun i=>pP (row.getD i 0,row.getD (i+1) 0))=(fG row).map pP:=by
 have:(List.range (row.length-1)).map (fun i=>(row.getD i 0,row.getD (i+1) 0))=fG row:=by
  unfold fG
  refine List.ext_getElem? fun i=>?_
  rw[List.getElem?_map]
  by_cases h:i<row.length-1
  ·rw[List.getElem?_range h]
   symm
   show _=some (row.getD i 0,row.getD (i+1) 0)
   rw[List.getElem?_zip_eq_some]
   refine⟨?_,?_⟩
   ·rw[List.getElem?_eq_getElem (by omega),List.getD_eq_getElem?_getD,List.getElem?_eq_getElem (by omega)];rfl
   ·show _=some (row.getD (i+1) 0)
    rw[List.getElem?_drop,Nat.add_comm 1 i,List.getElem?_eq_getElem (by omega),List.getD_eq_getElem?_getD,List.getElem?_eq_getElem (by omega)]
    rfl
  ·rw[List.getElem?_eq_none (by simp;omega),List.getElem?_eq_none (by simp;omega)]
   rfl
 rw[<-this,List.map_map]
 rfl
section
variable{Y:Sto}{lf:Nat}{x0 x1 x2 x3 x4 r6 r7 r8 r9 r10:Option U}{wr lk:List (List Int)}
theorem jb:∀(rs:List (List Int)) (acc:List (Int×Int)) (Y:Sto) (r6:Option U),Y[lf]?=some (.lst (acc.map pP))->(∀r∈rs,r.length<=900)->acc.length+900*rs.length<=90000->
  ∃Y' r6',bX (fun _=>True) (gNm 6) bN (rs.map rwU) [x0,x1,x2,x3,x4,some (.ref lf),r6,r7,r8,r9,r10] Y=some (.nx,[x0,x1,x2,x3,x4,some (.ref lf),r6',r7,r8,r9,r10],Y')/\Y'[lf]?=some (.lst ((acc++rs.flatMap fG).map pP))/\Fzz lf Y Y'
 |[],acc,Y,r6,h,_,_=>⟨Y,r6,bK trivial,by rw[List.flatMap_nil,List.append_nil];exact h,.refl⟩
 |row::rs,acc,Y,r6,h,hr,hl=>by
  rw[List.length_cons]at hl
  have hr0:=hr row List.mem_cons_self
  have ml:=jT row
  have lj:lf<Y.length:=(List.getElem?_eq_some_iff.mp h).1
  obtain⟨ru,hru⟩:∃ru,ru=row.map U.int:=⟨_,rfl⟩
  have lru:ru.length=row.length:=by rw[hru,List.length_map]
  have ix:∀k:Nat,k<row.length->atI ru (k:Int)=some (.int (row.getD k 0)):=fun k hk=>by
   have:=dQ (xs:=ru) (j:=k) (v:=.int row[k]) (by rw[hru,List.getElem?_map,List.getElem?_eq_getElem hk];rfl)
   rw[this,List.getD_eq_getElem?_getD,List.getElem?_eq_getElem hk];rfl
  obtain⟨G,e1⟩:=ki (S:=Y) (ok:=fun _=>True) (gg:=gNm 0) (ce:=dM (ae (cOp fIx (ah 1) (ah 0)) (ae (cOp fIx (ah 1) (cOp cS (ah 0) (cC (.int 1)))) ay))) (f:=fun i:Nat=>U.int (0+(i:Nat))) (v:=fun i=>pP (row.getD i 0,row.getD (i+1) 0)) (Rel:=fun ρ=>∃r0,ρ=[r0,some (.tup ru)]) (fun _ _=>trivial) (List.range (row.length-1)) [] [] [none,some (.tup ru)] ⟨_,rfl⟩ (by simp;omega) (fun i hi ys G ρ hρ=>by
   obtain⟨r0,rfl⟩:=hρ
   have hi:=List.mem_range.mp hi
   have a1:=ix i (by omega)
   have a2:=ix (i+1) (by omega)
   have ec:(((i+1:Nat)):Int)=0+(i:Int)+1:=by omega
   have e0:((i:Nat):Int)=0+(i:Int):=by omega
   rw[e0]at a1
   rw[ec]at a2
   refine⟨[some (.int (0+(i:Nat))),some (.tup ru)],[],⟨_,rfl⟩,rfl,?_⟩
   rwa[a1,a2,List.append_nil,pP])
  rw[List.nil_append,zN]at e1
  obtain⟨mu,hmu⟩:∃mu,mu=(fG row).map pP:=⟨_,rfl⟩
  have g1:(Y++(O.lst mu::([]++G)))[lf]?=some (.lst (acc.map pP)):=ax h
  have g2:(Y++(O.lst mu::([]++G)))[Y.length]?=some (.lst mu):=by rw[ga0];rfl
  have ex:=oD g1 g2 (by unfold LIM;rw[List.length_map,hmu,List.length_map];omega)
  have em:acc.map pP++mu=(acc++fG row).map pP:=by rw[hmu,List.map_append]
  rw[em]at ex
  rw[<-hmu]at e1
  obtain⟨Y',r6',ih,i1,i2⟩:=jb rs (acc++fG row) ((Y++(O.lst mu::([]++G))).set lf (.lst ((acc++fG row).map pP))) (some (rwU row)) (by rw[List.getElem?_set,if_pos rfl,if_pos (by rw[List.length_append];omega)]) (fun r h'=>hr r (List.mem_cons_of_mem _ h')) (by rw[List.length_append];omega)
  refine⟨Y',r6',(cQ trivial rfl ?_).trans ih,by rw[List.flatMap_cons,<-List.append_assoc];exact i1,((Fzz.app _).trans (.set _)).trans i2⟩
  have er:some (rwU row)=some (U.tup ru):=by rw[hru];rfl
  show bN [x0,x1,x2,x3,x4,some (.ref lf),some (rwU row),r7,r8,r9,r10] Y=_
  rw[er]
  have hn:((row.length:Int)-1).toNat=row.length-1:=by omega
  have hb:-(2^62)<=((row.length:Int)-1)/\((row.length:Int)-1)<2^62:=by omega
  have hi:bo (ae (cOp xP (cCB ji (ae (ah 6) ay)) (cC (.int 1))) ay) [x0,x1,x2,x3,x4,some (.ref lf),some (.tup ru),r7,r8,r9,r10] Y=some ((List.range (row.length-1)).map fun i:Nat=>U.int (0+(i:Nat)),fun _=>True,Y):=by
   have hc:ae (cOp xP (cCB ji (ae (ah 6) ay)) (cC (.int 1))) ay [x0,x1,x2,x3,x4,some (.ref lf),some (.tup ru),r7,r8,r9,r10] Y=some ([.int ((row.length:Int)-1)],Y):=by
    rw[<-lru]
    rwa[]
   unfold bo
   rw[hc,Option.bind_some]
   simp only[hb,and_self,if_true]
   unfold aY
   rw[hn]
  have hc:iQ (bo (ae (cOp xP (cCB ji (ae (ah 6) ay)) (cC (.int 1))) ay)) (gNm 0) (dM (ae (cOp fIx (ah 1) (ah 0)) (ae (cOp fIx (ah 1) (cOp cS (ah 0) (cC (.int 1)))) ay))) 1 [6] [x0,x1,x2,x3,x4,some (.ref lf),some (.tup ru),r7,r8,r9,r10] Y=some (.ref Y.length,Y++(O.lst mu::([]++G))):=by
   unfold iQ
   rw[hi,Option.bind_some]
   have hrho:jH 1 [6] [x0,x1,x2,x3,x4,some (.ref lf),some (.tup ru),r7,r8,r9,r10]=[none,some (.tup ru)]:=rfl
   dsimp only
   rw[hrho,e1,Option.bind_some]
  have a1:ae (iQ (bo (ae (cOp xP (cCB ji (ae (ah 6) ay)) (cC (.int 1))) ay)) (gNm 0) (dM (ae (cOp fIx (ah 1) (ah 0)) (ae (cOp fIx (ah 1) (cOp cS (ah 0) (cC (.int 1)))) ay))) 1 [6]) ay [x0,x1,x2,x3,x4,some (.ref lf),some (.tup ru),r7,r8,r9,r10] Y=some ([.ref Y.length],Y++(O.lst mu::([]++G))):=by
   rw[gB,hc,Option.bind_some];rfl
  have a0:ah 5 [x0,x1,x2,x3,x4,some (.ref lf),some (.tup ru),r7,r8,r9,r10] Y=some (.ref lf,Y):=rfl
  unfold bN
  rw[nj,DN,a0,Option.bind_some,um,h,uk,a1,Option.bind_some,uj,ex]
  rfl
theorem sk(a:Int)(l:List Int):(((l.take 1).filter fun c=>!decide (c=a)).map fun c=>(a,c))=hdP a l:=by
 cases l with
 |nil=>rfl
 |cons x r=>
  rw[List.take_succ_cons,List.take_zero]
  unfold hdP
  by_cases e:x=a
  ·simp[e]
  ·simp[e]
theorem vO{acc:List (Int×Int)}{a b v:Int}(hw:∀r∈wr,(∀x∈r,0<=x)/\r.length<=900)(h:Y[lf]?=some (.lst (acc.map pP)))(b0:0<=b)(b1:b<wr.length)(hv:v=-1\/v∈wr.getD b.toNat [])(hl:acc.length<=80000) :
  ∃Y' r10',bM [x0,x1,x2,some (.tup (wr.map rwU)),x4,some (.ref lf),r6,some (.int a),some (.int b),some (.int v),r10] Y=some (.nx,[x0,x1,x2,some (.tup (wr.map rwU)),x4,some (.ref lf),r6,some (.int a),some (.int b),some (.int v),r10'],Y')/\Y'[lf]?=some (.lst ((acc++gQ (wr.getD b.toNat []) a v).map pP))/\Fzz lf Y Y':=by
 have hb:b.toNat<wr.length:=by omega
 have hrow:wr.getD b.toNat []∈wr:=by rw[List.getD_eq_getElem?_getD,List.getElem?_eq_getElem hb];exact List.getElem_mem hb
 obtain⟨w1,w2⟩:=hw _ hrow
 obtain⟨row,hrow'⟩:∃row,row=wr.getD b.toNat []:=⟨_,rfl⟩
 have ar:=tF (wr:=wr) b0 b1
 rw[<-hrow']at w1 w2 hv ar ⊢
 have lj:lf<Y.length:=(List.getElem?_eq_some_iff.mp h).1
 have ge:inR row v=decide (0<=v):=by
  unfold inR
  rcases hv with e|e
  ·rw[e,decide_eq_false (fun z=>by have:=w1 _ z;omega)];rfl
  ·rw[decide_eq_true e,decide_eq_true (w1 v e)]
 obtain⟨wu,hwu⟩:∃wu,wu=wr.map rwU:=⟨_,rfl⟩
 obtain⟨ru,hru⟩:∃ru,ru=row.map U.int:=⟨_,rfl⟩
 rw[<-hwu,<-hru]at ar
 rw[<-hwu]
 obtain⟨Y1,e1,g1,f1⟩:∃Y1,mn (aN (cOp fGe (ah 9) (cC (.int 0)))) (dN (cBM bE (ah 5) (ae (dM (ae (ah 9) (ae (ah 7) ay))) ay))) d5 [x0,x1,x2,some (.tup wu),x4,some (.ref lf),r6,some (.int a),some (.int b),some (.int v),r10] Y=some (.nx,[x0,x1,x2,some (.tup wu),x4,some (.ref lf),r6,some (.int a),some (.int b),some (.int v),r10],Y1)/\Y1[lf]?=some (.lst ((acc++oY row a v).map pP))/\Fzz lf Y Y1:=by
  unfold oY
  cases hd:decide (0<=v)with
  |true=>
   have hL:(acc.map pP).length<LIM:=by unfold LIM;rw[List.length_map];omega
   have em:acc.map pP++[.tup [.int v,.int a]]=(acc++[(v,a)]).map pP:=by rw[List.map_append];rfl
   refine⟨Y.set lf (.lst ((acc++[(v,a)]).map pP)),?_,by rw[ge,hd,if_pos rfl,List.getElem?_set,if_pos rfl,if_pos lj],.set _⟩
   rw[<-em]
   rwa[hd,h,iT hL]
  |false=>
   refine⟨Y,?_,by rw[ge,hd,if_neg (by decide),List.append_nil];exact h,.refl⟩
   rwa[hd]
 have s2:b6 10 (cCB fK (ae (cOp fIx (ah 3) (ah 8)) ay)) [x0,x1,x2,some (.tup wu),x4,some (.ref lf),r6,some (.int a),some (.int b),some (.int v),r10] Y1=some (.nx,[x0,x1,x2,some (.tup wu),x4,some (.ref lf),r6,some (.int a),some (.int b),some (.int v),some (.ref Y1.length)],Y1++[.lst ru]):=by
  rwa[ar]
 have l1:lf<Y1.length:=Nat.lt_of_lt_of_le lj f1.len
 obtain⟨G3,j3,e3,g3⟩:∃G3 j3,mn (aN (cOp fGe (ah 9) (cC (.int 0)))) (b6 10 (cSl (ah 10) (some (cOp cS (cBM aQ (ah 10) (ae (ah 9) ay)) (cC (.int 1)))) none)) d5 [x0,x1,x2,some (.tup wu),x4,some (.ref lf),r6,some (.int a),some (.int b),some (.int v),some (.ref Y1.length)] (Y1++[.lst ru])=some (.nx,[x0,x1,x2,some (.tup wu),x4,some (.ref lf),r6,some (.int a),some (.int b),some (.int v),some (.ref j3)],Y1++G3)/\(Y1++G3)[j3]?=some (.lst ((rQ row v).map U.int)):=by
  unfold rQ
  cases hd:decide (0<=v)with
  |true=>
   have hm:v∈row:=of_decide_eq_true (by have:=ge;rw[hd]at this;exact this)
   have ix:aQ (.ref Y1.length) [.int v] (Y1++[.lst ru])=some (.int (row.idxOf v:Nat),Y1++[.lst ru]):=dY (by rw[ga0,hru];rfl) hm w2
   have hk:row.idxOf v+1<=ru.length:=by rw[hru,List.length_map];exact List.idxOf_lt_length_of_mem hm
   have sl:=qA (S:=Y1++[.lst ru]) (l:=Y1.length) (us:=ru) (k:=row.idxOf v+1) (by rw[ga0];rfl) hk
   have l2:(Y1++[O.lst ru]).length=Y1.length+1:=by rw[List.length_append];rfl
   have ec:(((row.idxOf v:Nat):Int)+1)=((row.idxOf v+1:Nat):Int):=by omega
   rw[l2]at sl
   refine⟨[.lst ru,.lst (ru.drop (row.idxOf v+1))],Y1.length+1,?_,by rw[ga,ge,hd,if_pos rfl,hru,List.map_drop];rfl⟩
   have tt:aN (cOp fGe (ah 9) (cC (.int 0))) [x0,x1,x2,some (.tup wu),x4,some (.ref lf),r6,some (.int a),some (.int b),some (.int v),some (.ref Y1.length)] (Y1++[.lst ru])=some (true,Y1++[.lst ru]):=by rwa[hd]
   have hv':ah 10 [x0,x1,x2,some (.tup wu),x4,some (.ref lf),r6,some (.int a),some (.int b),some (.int v),some (.ref Y1.length)] (Y1++[.lst ru])=some (.ref Y1.length,Y1++[.lst ru]):=rfl
   have hx:cOp cS (cBM aQ (ah 10) (ae (ah 9) ay)) (cC (.int 1)) [x0,x1,x2,some (.tup wu),x4,some (.ref lf),r6,some (.int a),some (.int b),some (.int v),some (.ref Y1.length)] (Y1++[.lst ru])=some (.int ((row.idxOf v+1:Nat):Int),Y1++[.lst ru]):=by
    rw[<-ec]
    rwa[ix]
   rw[kC,tt,Option.bind_some,iS,kr]
   simp only[cSl,iO,hv',hx,Option.bind_some,sl,List.append_assoc]
   rfl
  |false=>
   refine⟨[.lst ru],Y1.length,?_,by rw[ga0,ge,hd,if_neg (by decide),hru];rfl⟩
   rwa[hd]
 obtain⟨lt,hlt⟩:∃lt,lt=rQ row v:=⟨_,rfl⟩
 rw[<-hlt]at g3
 have llt:lt.length<=900:=by
  rw[hlt]
  unfold rQ
  split
  ·rw[List.length_drop];omega
  ·exact w2
 obtain⟨Y3,hY3⟩:∃Y3,Y3=Y1++G3:=⟨_,rfl⟩
 rw[<-hY3]at e3 g3
 have s1:fSl (.ref j3) none (some 1) Y3=some (.ref Y3.length,Y3++[.lst ((lt.take 1).map U.int)]):=by
  have e:HT.sIx (lt.map U.int).length (lt.map U.int).length (some (1:Int))=min 1 (lt.map U.int).length:=by
   have:=HT.sIx_nat (n:=(lt.map U.int).length) (d:=(lt.map U.int).length) (k:=1)
   rw[show((1:Nat):Int)=1 from rfl]at this
   exact this
  simp only[fSl,g3,HT.sIx_none,e,pJ,List.drop_zero,Nat.sub_zero]
  rw[List.map_take]
  congr 5
  cases lt<;>simp
 obtain⟨G4,e4⟩:=cW (S:=Y3++[.lst ((lt.take 1).map U.int)]) (ok:=fun S=>S[Y3.length]?=some (.lst ((lt.take 1).map U.int))) (gg:=gNm 0) (ct:=aN (cOp fNe (ah 0) (ah 1))) (ce:=dM (ae (ah 1) (ae (ah 0) ay))) (f:=U.int) (p:=fun c=>!decide (c=a)) (v:=fun c=>pP (a,c)) (Rel:=fun ρ=>∃r0,ρ=[r0,some (.int a)]) (fun ys G=>by rw[List.append_assoc,ga0];rfl) (lt.take 1) [] [] [none,some (.int a)] ⟨_,rfl⟩ (by simp;omega) (fun c hc ys G ρ hρ=>by
  obtain⟨r0,rfl⟩:=hρ
  refine⟨[some (.int c),some (.int a)],[],⟨_,rfl⟩,rfl,?_,fun _=>⟨[],?_⟩⟩
  ·rwa[List.append_nil]
  ·rwa[List.append_nil,pP])
 have eh:(((lt.take 1).filter fun c=>!decide (c=a)).map fun c=>pP (a,c))=(hdP a lt).map pP:=by rw[<-sk a lt,List.map_map];rfl
 rw[List.nil_append,eh]at e4
 obtain⟨Y4,hY4⟩:∃Y4,Y4=Y3++[O.lst ((lt.take 1).map U.int)]++(O.lst ((hdP a lt).map pP)::([]++G4)):=⟨_,rfl⟩
 rw[<-hY4]at e4
 have ln:(Y3++[O.lst ((lt.take 1).map U.int)]).length=Y3.length+1:=by rw[List.length_append];rfl
 have hc:bh (iTp (cSl (ah 10) none (some (cC (.int 1))))) (gNm 0) (aN (cOp fNe (ah 0) (ah 1))) (dM (ae (ah 1) (ae (ah 0) ay))) 1 [7] [x0,x1,x2,some (.tup wu),x4,some (.ref lf),r6,some (.int a),some (.int b),some (.int v),some (.ref j3)] Y3=some (.ref (Y3.length+1),Y4):=by
  have hv':ah 10 [x0,x1,x2,some (.tup wu),x4,some (.ref lf),r6,some (.int a),some (.int b),some (.int v),some (.ref j3)] Y3=some (.ref j3,Y3):=rfl
  have h1:cC (.int 1) [x0,x1,x2,some (.tup wu),x4,some (.ref lf),r6,some (.int a),some (.int b),some (.int v),some (.ref j3)] Y3=some (.int 1,Y3):=rfl
  have hs:cSl (ah 10) none (some (cC (.int 1))) [x0,x1,x2,some (.tup wu),x4,some (.ref lf),r6,some (.int a),some (.int b),some (.int v),some (.ref j3)] Y3=some (.ref Y3.length,Y3++[.lst ((lt.take 1).map U.int)]):=by
   simp only[cSl,iO,hv',h1,Option.bind_some,s1]
  have gz:(Y3++[O.lst ((lt.take 1).map U.int)])[Y3.length]?=some (.lst ((lt.take 1).map U.int)):=by rw[ga0];rfl
  unfold bh iTp
  rw[hs,Option.bind_some]
  simp only[gz,Option.bind_some]
  have hrho:jH 1 [7] [x0,x1,x2,some (.tup wu),x4,some (.ref lf),r6,some (.int a),some (.int b),some (.int v),some (.ref j3)]=[none,some (.int a)]:=rfl
  rw[hrho,e4,Option.bind_some,ln]
 have g4:Y4[Y3.length+1]?=some (.lst ((hdP a lt).map pP)):=by rw[hY4,<-ln,ga0];rfl
 have gf3:Y3[lf]?=some (.lst ((acc++oY row a v).map pP)):=by rw[hY3];exact ax g1
 have gf4:Y4[lf]?=some (.lst ((acc++oY row a v).map pP)):=by rw[hY4];exact ax (ax gf3)
 have lh:=su a lt
 have ls:(oY row a v).length<=1:=by unfold oY;split<;>simp
 have ex:=oD gf4 g4 (by unfold LIM;rw[List.length_map,List.length_map,List.length_append];omega)
 rw[<-List.map_append,List.append_assoc]at ex
 have eM:oY row a v++hdP a lt=gQ row a v:=by rw[hlt];rfl
 rw[eM]at ex
 have l4:lf<Y4.length:=(List.getElem?_eq_some_iff.mp gf4).1
 refine⟨Y4.set lf (.lst ((acc++gQ row a v).map pP)),some (.ref j3),?_,by rw[List.getElem?_set,if_pos rfl,if_pos l4],?_⟩
 ·unfold bM
  rw[dA e1,dA s2,dA e3]
  have a1:ae (bh (iTp (cSl (ah 10) none (some (cC (.int 1))))) (gNm 0) (aN (cOp fNe (ah 0) (ah 1))) (dM (ae (ah 1) (ae (ah 0) ay))) 1 [7]) ay [x0,x1,x2,some (.tup wu),x4,some (.ref lf),r6,some (.int a),some (.int b),some (.int v),some (.ref j3)] Y3=some ([.ref (Y3.length+1)],Y4):=by
   rw[gB,hc,Option.bind_some];rfl
  have a0:ah 5 [x0,x1,x2,some (.tup wu),x4,some (.ref lf),r6,some (.int a),some (.int b),some (.int v),some (.ref j3)] Y3=some (.ref lf,Y3):=rfl
  rw[nj,DN,a0,Option.bind_some,um,gf3,uk,a1,Option.bind_some,uj,ex]
  rfl
 ·refine f1.trans (Fzz.trans ?_ (.set _))
  rw[hY4,hY3]
  exact((Fzz.app G3).trans (.app _)).trans (.app _)
theorem lB(hw:∀r∈wr,(∀x∈r,0<=x)/\r.length<=900):∀(ls:List (List Int)) (acc:List (Int×Int)) (Y:Sto) (r7 r8 r9 r10:Option U),Y[lf]?=some (.lst (acc.map pP))->(∀r∈ls,∃a b v,r=[a,b,v]/\(0<=b/\b<wr.length)/\(v=-1\/v∈wr.getD b.toNat []))->acc.length+2*ls.length<=80000->
  ∃Y' r7' r8' r9' r10',bX (fun _=>True) (gTp [7,8,9]) bM (ls.map rwU) [x0,x1,x2,some (.tup (wr.map rwU)),x4,some (.ref lf),r6,r7,r8,r9,r10] Y=some (.nx,[x0,x1,x2,some (.tup (wr.map rwU)),x4,some (.ref lf),r6,r7',r8',r9',r10'],Y')/\Y'[lf]?=some (.lst ((acc++ls.flatMap (mlk wr)).map pP))/\Fzz lf Y Y'
 |[],acc,Y,r7,r8,r9,r10,h,_,_=>⟨Y,r7,r8,r9,r10,bK trivial,by rw[List.flatMap_nil,List.append_nil];exact h,.refl⟩
 |look::ls,acc,Y,r7,r8,r9,r10,h,hr,hl=>by
  rw[List.length_cons]at hl
  obtain⟨a,b,v,rfl,⟨b0,b1⟩,hv⟩:=hr _ List.mem_cons_self
  obtain⟨Y1,q10,e1,g1,f1⟩:=vO (x0:=x0) (x1:=x1) (x2:=x2) (x4:=x4) (r6:=r6) (r10:=r10) (a:=a) hw h b0 b1 hv (by omega)
  have em:mlk wr [a,b,v]=gQ (wr.getD b.toNat []) a v:=rfl
  have ml:=gP (wr.getD b.toNat []) a v
  rw[<-em]at g1 ml
  obtain⟨Y',s7,s8,s9,s10,ih,i1,i2⟩:=lB hw ls (acc++mlk wr [a,b,v]) Y1 (some (.int a)) (some (.int b)) (some (.int v)) q10 g1 (fun r h'=>hr r (List.mem_cons_of_mem _ h')) (by rw[List.length_append];omega)
  exact⟨Y',s7,s8,s9,s10,(cQ trivial rfl e1).trans ih,by rw[List.flatMap_cons,<-List.append_assoc];exact i1,f1.trans i2⟩
theorem rM{many:Int}{tms:List (Int×Int)}{S:Sto}(T:iG many tms wr lk)(hm:many<=30):∃G j,ko [aW many (.tup (tms.map pP)) wr lk] S=some (.ref j,S++G)/\(S++G)[j]?=some (.lst ((dz (pA tms wr lk)).map pP))/\S.length<=j:=by
 unfold ko
 rw[lK]
 have rl:∀r∈wr,r.length<=30:=fun r hr=>T.row_len hm hr
 have htl:=T.htl
 have hwl:=T.hwl
 have hll:=T.hll
 obtain⟨tu,htu⟩:∃tu,tu=tms.map pP:=⟨_,rfl⟩
 obtain⟨wu,hwu⟩:∃wu,wu=wr.map rwU:=⟨_,rfl⟩
 obtain⟨lu,hlu⟩:∃lu,lu=lk.map rwU:=⟨_,rfl⟩
 have s0:Dy (ah 0) (gTp [1,2,3,4]) [some (aW many (.tup tu) wr lk),none,none,none,none,none,none,none,none,none,none] S=some (.nx,[some (aW many (.tup tu) wr lk),some (.int many),some (.tup tu),some (.tup wu),some (.tup lu),none,none,none,none,none,none],S):=by
  unfold aW
  rw[<-hwu,<-hlu]
  rwa[]
 have s1:b6 5 (cCB fK (ae (ah 2) ay)) [some (aW many (.tup tu) wr lk),some (.int many),some (.tup tu),some (.tup wu),some (.tup lu),none,none,none,none,none,none] S=some (.nx,[some (aW many (.tup tu) wr lk),some (.int many),some (.tup tu),some (.tup wu),some (.tup lu),some (.ref S.length),none,none,none,none,none],S++[.lst tu]):=by
  rwa[]
 obtain⟨Y1,q6,e1,g1,f1⟩:=jb (x0:=some (aW many (.tup tu) wr lk)) (x1:=some (.int many)) (x2:=some (.tup tu)) (x3:=some (.tup wu)) (x4:=some (.tup lu)) (lf:=S.length) (r7:=none) (r8:=none) (r9:=none) (r10:=none) wr tms (S++[.lst tu]) none (by rw[ga0,htu];rfl) (fun r hr=>Nat.le_trans (rl r hr) (by omega)) (by omega)
 obtain⟨Y2,q7,q8,q9,q10,e2,g2,f2⟩:=lB (x0:=some (aW many (.tup tu) wr lk)) (x1:=some (.int many)) (x2:=some (.tup tu)) (x4:=some (.tup lu)) (lf:=S.length) (wr:=wr) (r6:=q6) (fun r hr=>⟨fun x hx=>((T.hwr r hr).1 x hx).1,Nat.le_trans (rl r hr) (by omega)⟩) lk (tms++wr.flatMap fG) Y1 none none none none g1 (fun r hr=>by
  obtain⟨a,b,v,e,_,h2,h3⟩:=T.hlk r hr
  exact⟨a,b,v,e,h2,h3.imp id fun z=>z.1⟩) (by have:=gm rl;rw[List.length_append];omega)
 have ml:=T.all_len hm
 have f:=f1.trans f2
 obtain⟨G,hG⟩:=f.ext (Z:=S) (Nat.le_refl _) ⟨_,rfl⟩
 refine⟨G++[.lst ((dz (pA tms wr lk)).map pP)],Y2.length,?_,?_,by rw[hG];simp⟩
 ·unfold bR
  rw[<-htu,dA s0,dA s1]
  have i1:iTp (ah 3) [some (aW many (.tup tu) wr lk),some (.int many),some (.tup tu),some (.tup wu),some (.tup lu),some (.ref S.length),none,none,none,none,none] (S++[.lst tu])=some (wu,fun _=>True,S++[.lst tu]):=by
   unfold iTp
   rwa[]
  have i2:iTp (ah 4) [some (aW many (.tup tu) wr lk),some (.int many),some (.tup tu),some (.tup wu),some (.tup lu),some (.ref S.length),q6,none,none,none,none] Y1=some (lu,fun _=>True,Y1):=by
   unfold iTp
   rwa[]
  rw[<-hwu]at e1 e2
  rw[<-hlu]at e2
  rw[dA (ρ':=[some (aW many (.tup tu) wr lk),some (.int many),some (.tup tu),some (.tup wu),some (.tup lu),some (.ref S.length),q6,none,none,none,none]) (S':=Y1) (by unfold iP;rw[i1,Option.bind_some];exact e1)]
  rw[dA (ρ':=[some (aW many (.tup tu) wr lk),some (.int many),some (.tup tu),some (.tup wu),some (.tup lu),some (.ref S.length),q6,q7,q8,q9,q10]) (S':=Y2) (by unfold iP;rw[i2,Option.bind_some];exact e2)]
  have hv:ah 5 [some (aW many (.tup tu) wr lk),some (.int many),some (.tup tu),some (.tup wu),some (.tup lu),some (.ref S.length),q6,q7,q8,q9,q10] Y2=some (.ref S.length,Y2):=rfl
  have hs:da (ah 5) [some (aW many (.tup tu) wr lk),some (.int many),some (.tup tu),some (.tup wu),some (.tup lu),some (.ref S.length),q6,q7,q8,q9,q10] Y2=some (.ref Y2.length,Y2++[.lst ((dz (pA tms wr lk)).map pP)]):=by
   unfold da
   rw[hv,Option.bind_some]
   simp only[g2,fD,Option.bind_some]
   have ml':(tms++wr.flatMap fG++lk.flatMap (mlk wr)).length<=1200:=Nat.le_trans ml (by omega)
   rw[if_pos ml']
   rfl
  rw[yg,hs,hG,List.append_assoc]
  rfl
 ·rw[<-List.append_assoc,<-hG,ga0]
  rfl
end
end OQ
namespace OL
open PySem PySem.Spec PyProof.Rows L2 OG OP OQ
def cm:Fn:=fnU 1 1 bQ
theorem rD{a:Int}{S:Sto}:cm [.int a] S=some (.bl true,S):=by
 unfold cm
 rw[lJ]
 have t0:tyU (.int a) S=some .int:=rfl
 have t1:uK .int .int=true:=rfl
 have t2:uK .int .bool=false:=rfl
 rwa[bQ,t0,t1,t2]
abbrev fL(f:Fn->Fn->Fn->Fn->Fn->Fn->CS):CS:=f tR tU cF nc ko cm
theorem CL{k:Nat}{S:Sto}(p:Int×Int):Lay (k+1) S (pP p):=.tup fun u hu=>by
 simp only[List.mem_cons,List.not_mem_nil,or_false]at hu
 rcases hu with rfl|rfl
 ·exact Lay.int
 ·exact Lay.int
theorem mB{S:Sto}{l l':Nat}{ps:List (Int×Int)}(h:S[l]?=some (.lst (ps.map pP)))(h':S[l']?=some (.lst (ps.map pP))):dB 2 S (.ref l) (.ref l'):=dB.lst h h' (dw.all fun u hu=>by obtain⟨p,_,rfl⟩:=List.mem_map.mp hu;exact CL p)
theorem qv{ps:List (Int×Int)}:(dz ps).length<=ps.length:=by
 unfold dz
 split
 ·rename_i hx
  obtain⟨h1,h2⟩:=hx.choose_spec
  exact List.Nodup.length_le_of_subset (h1.imp fun{a b} h e=>by subst e;rw[jW]at h;cases h) fun p hp=>(h2 p).mp hp
 ·exact Nat.zero_le _
section
variable{ns:List Int}{lw:Nat}{many:Int}{tms:List (Int×Int)}{wr lk:List (List Int)}{r1 r4 r5:Option U}{Y:Sto}
theorem pL(T:iG many tms wr lk)(hm:many<=30)(Y:Sto)(r4 r5:Option U) :
  ∃G r5',fL kn [some (.kl ns),r1,some (.ref lw),some (aW many (.tup (tms.map pP)) wr lk),r4,r5] Y=some (.nx,[some (.kl ns),r1,some (.ref lw),some (aW many (.tup (tms.map pP)) wr lk),r4,r5'],Y++G):=by
 obtain⟨G1,j,e1,g1,lj⟩:=jS (S:=Y) T hm
 obtain⟨tu,htu⟩:∃tu,tu=aW many (.tup (tms.map pP)) wr lk:=⟨_,rfl⟩
 obtain⟨L,hL⟩:∃L,L=dz (pA tms wr lk):=⟨_,rfl⟩
 have lL:L.length<=1000:=by rw[hL];exact Nat.le_trans qv (T.all_len hm)
 rw[<-hL]at g1
 obtain⟨Y1,hY1⟩:∃Y1,Y1=Y++G1:=⟨_,rfl⟩
 rw[<-hY1]at e1 g1
 obtain⟨G2,j2,e2,g2,lj2⟩:=rM (S:=Y1) T hm
 rw[<-hL]at g2
 obtain⟨Y2,hY2⟩:∃Y2,Y2=Y1++G2:=⟨_,rfl⟩
 rw[<-hY2]at e2 g2
 rw[<-htu]at e1 e2 ⊢
 have g12:Y2[j]?=some (.lst (L.map pP)):=by rw[hY2];exact ax g1
 have ne:lI true (.ref j) (.ref j2) Y2=some (.bl false,Y2):=dB.ne (mB g12 g2) (by omega)
 have ty:tyU (.ref j) Y1=some .list:=by simp only[tyU,g1]
 have sL:uK .list .list=true:=rfl
 obtain⟨G3,e3⟩:=ki (S:=Y2) (ok:=fun S=>S[j]?=some (.lst (L.map pP))) (gg:=gNm 0) (ce:=fO (wD .tuple (ah 0)) (fO (cCB cm (ae (cOp fIx (ah 0) (cC (.int 0))) ay)) (cCB cm (ae (cOp fIx (ah 0) (cC (.int 1))) ay)))) (f:=pP) (v:=fun _=>.bl true) (Rel:=fun ρ=>∃r0,ρ=[r0]) (fun ys G=>ax g12) L [] [] [none] ⟨_,rfl⟩ (by simp;omega) (fun p hp ys G ρ hρ=>by
  obtain⟨r0,rfl⟩:=hρ
  refine⟨[some (pP p)],[],⟨_,rfl⟩,rfl,?_⟩
  have t0:∀us T,tyU (.tup us) T=some .tuple:=fun us T=>rfl
  have t1:uK .tuple .tuple=true:=rfl
  rwa[pP,t0,t1,rD,List.append_nil])
 simp only[List.nil_append]at e3
 obtain⟨Y3,hY3⟩:∃Y3,Y3=Y2++(.lst (L.map fun _=>U.bl true)::G3):=⟨_,rfl⟩
 rw[<-hY3]at e3
 have hcomp:iQ (iTp (ah 5)) (gNm 0) (fO (wD .tuple (ah 0)) (fO (cCB cm (ae (cOp fIx (ah 0) (cC (.int 0))) ay)) (cCB cm (ae (cOp fIx (ah 0) (cC (.int 1))) ay)))) 1 [] [some (.kl ns),r1,some (.ref lw),some tu,r4,some (.ref j)] Y2=some (.ref Y2.length,Y3):=by
  have hi:ah 5 [some (.kl ns),r1,some (.ref lw),some tu,r4,some (.ref j)] Y2=some (.ref j,Y2):=rfl
  unfold iQ iTp
  rw[hi,Option.bind_some]
  simp only[g12,Option.bind_some,jH,List.replicate,List.map_nil,List.append_nil,e3]
 have hall:Dp [.ref Y2.length] Y3=some (.bl true,Y3):=by
  have em:(L.map fun _=>U.bl true)=(L.map fun _=>true).map U.bl:=by rw[List.map_map];rfl
  have ea:((L.map fun _=>true).all id)=true:=by simp
  rw[hY3]
  simp only[Dp,ga0,List.getElem?_cons_zero,em,oK,Option.bind_some,ea]
 have g3:Y3[j]?=some (.lst (L.map pP)):=by rw[hY3];exact ax g12
 have hA:(L.map pP).length<LIM:=by unfold LIM;rw[List.length_map];omega
 obtain⟨X,hX⟩:∃X,Y3.set j (.lst (L.map pP++[.tup [.int 0,.int 0]]))=Y++X:=by
  have e:Y3=Y++(G1++(G2++(.lst (L.map fun _=>U.bl true)::G3))):=by rw[hY3,hY2,hY1];simp only[List.append_assoc]
  rw[e,show j=Y.length+(j-Y.length)by omega,gs]
  exact⟨_,rfl⟩
 refine⟨X,some (.ref j),?_⟩
 rw[<-hX]
 unfold fL kn
 obtain⟨lu,hlu⟩:∃lu,lu=L.map pP:=⟨_,rfl⟩
 rw[<-hlu]at g1 g3 hA ⊢
 rw[dA (ρ':=[some (.kl ns),r1,some (.ref lw),some tu,r4,some (.ref j)]) (S':=Y1) (by rwa[e1])]
 rw[dA (ρ':=[some (.kl ns),r1,some (.ref lw),some tu,r4,some (.ref j)]) (S':=Y2) (by rwa[ty,sL,e2,ne])]
 rw[dA (ρ':=[some (.kl ns),r1,some (.ref lw),some tu,r4,some (.ref j)]) (S':=Y3) (by
  have a1:ae (iQ (iTp (ah 5)) (gNm 0) (fO (wD .tuple (ah 0)) (fO (cCB cm (ae (cOp fIx (ah 0) (cC (.int 0))) ay)) (cCB cm (ae (cOp fIx (ah 0) (cC (.int 1))) ay)))) 1 []) ay [some (.kl ns),r1,some (.ref lw),some tu,r4,some (.ref j)] Y2=some ([.ref Y2.length],Y3):=by
   rw[gB,hcomp,Option.bind_some];rfl
  rw[kC,AO,nh,DM,a1,Option.bind_some,ui,hall]
  rfl)]
 rwa[g3,iT hA]
theorem ju(T:iG many tms wr lk)(hm:many<=30):∀(us:List U) (Y:Sto) (r4 r5:Option U),
  ∃G r4' r5',bX (fun _=>True) (gNm 4) (fL kn) us [some (.kl ns),r1,some (.ref lw),some (aW many (.tup (tms.map pP)) wr lk),r4,r5] Y=some (.nx,[some (.kl ns),r1,some (.ref lw),some (aW many (.tup (tms.map pP)) wr lk),r4',r5'],Y++G)
 |[],Y,r4,r5=>⟨[],r4,r5,by rw[List.append_nil];exact bK trivial⟩
 |u::us,Y,r4,r5=>by
  obtain⟨G1,s5,e⟩:=pL (ns:=ns) (r1:=r1) (lw:=lw) T hm Y (some u) r5
  obtain⟨G',t4,t5,ih⟩:=ju T hm us (Y++G1) (some u) s5
  exact⟨G1++G',t4,t5,((cQ trivial rfl e).trans ih).trans (by rw[List.append_assoc])⟩
theorem xG:∀(is:List Nat) (T:Sto) (r1 r2 r3 r4 r5:Option U),
  ∃(T':Sto) (q1 q2 q3 q4 q5:Option U),bX (fun _=>True) (gNm 1) (fL mX) (is.map fun i:Nat=>U.int (i:Int)) [some (.kl ns),r1,r2,r3,r4,r5] T=some (.nx,[some (.kl ns),q1,q2,q3,q4,q5],T')
 |[],T,r1,r2,r3,r4,r5=>⟨T,r1,r2,r3,r4,r5,bK trivial⟩
 |i::is,T,r1,r2,r3,r4,r5=>by
  obtain⟨z,e1⟩:=yT (S:=T) ns (k:=(i:Int)) (by omega)
  obtain⟨d,T2,e2,w2,l2,d0,d1⟩:=bW (T:=T++[.lst [.int z],.lst [.int 9,.int 9,.int 30]]) (lw:=T.length) (m:=3) ⟨z,by rw[ga0];rfl⟩ (by omega) (by omega)
  have g2:T2[T.length+1]?=some (.lst [.int 9,.int 9,.int 30]):=w2.get (by rw[ga];rfl) (by omega)
  obtain⟨v,a2,v0,v1⟩:∃v:Int,atI [U.int 9,.int 9,.int 30] d=some (.int v)/\1<=v/\v<=30:=by
   have:d=0\/d=1\/d=2:=by omega
   rcases this with rfl|rfl|rfl
   ·exact⟨9,rfl,by decide,by decide⟩
   ·exact⟨9,rfl,by decide,by decide⟩
   ·exact⟨30,rfl,by decide,by decide⟩
  obtain⟨many,tms,wr,lk,T3,e3,w3,m,ti⟩:=uJ w2.well v0 v1
  obtain⟨G4,s4,s5,e4⟩:=ju (ns:=ns) (r1:=some (.int (i:Int))) (lw:=T.length) ti (by omega) (aY 0 2) T3 r4 r5
  obtain⟨T',q1,q2,q3,q4,q5,ih⟩:=xG is (T3++G4) (some (.int (i:Int))) (some (.ref T.length)) (some (aW many (.tup (tms.map pP)) wr lk)) s4 s5
  refine⟨T',q1,q2,q3,q4,q5,(cQ trivial rfl ?_).trans ih⟩
  have r4':bo (ae (cC (.int 2)) ay)=fun ρ S=>some (aY 0 2,fun _=>True,S):=rfl
  have ln:(T++[O.lst [.int z]]).length=T.length+1:=by rw[List.length_append];rfl
  unfold fL mX
  rw[dA (ρ':=[some (.kl ns),some (.int (i:Int)),some (.ref T.length),r3,r4,r5]) (S':=T++[.lst [.int z]]) (by rwa[e1])]
  rw[dA (ρ':=[some (.kl ns),some (.int (i:Int)),some (.ref T.length),some (aW many (.tup (tms.map pP)) wr lk),r4,r5]) (S':=T3) (by rwa[ln,e2,g2,a2,e3])]
  simp only[iP,r4',Option.bind_some]
  exact e4
theorem CM(ns:List Int)(hl:ns.length<=63):∃ρ' S',(fL Ak) [some (.kl ns),none,none,none,none,none] []=some (.rt (.bl true),ρ',S'):=by
 obtain⟨n,hn⟩:∃n:Int,n=(if (if (ns.length:Int)<12 then(ns.length:Int)else 12)>3 then(if (ns.length:Int)<12 then(ns.length:Int)else 12)else 3):=⟨_,rfl⟩
 have n0:0<=n:=by rw[hn];split<;>(try split)<;>omega
 have n1:n<=1000:=by rw[hn];split<;>(try split)<;>omega
 obtain⟨T,q1,q2,q3,q4,q5,e1⟩:=xG (ns:=ns) (List.range n.toNat) [] none none none none none
 have er:aY 0 n.toNat=(List.range n.toNat).map fun i:Nat=>U.int (i:Int):=by rw[gJ,List.map_map];rfl
 have a1:ae (cCB D4 (ae (cC (.int 3)) (ae (cCB D3 (ae (cC (.int 12)) (ae (cCB ji (ae (ah 0) ay)) ay))) ay))) ay [some (.kl ns),none,none,none,none,none] []=some ([.int n],[]):=by
  have h1:∀i j:Int,D3 [.int i,.int j] []=some (.int (if j<i then j else i),[]):=fun i j=>rfl
  have h2:∀i j:Int,D4 [.int i,.int j] []=some (.int (if j>i then j else i),[]):=fun i j=>rfl
  rw[hn]
  rwa[pY,h1,h2]
 rw[<-er]at e1
 have t1:iG 2 [] [[0,1]] [[0,0,-1]]:=⟨fun p hp=>(by cases hp),by decide,fun r hr=>by
   rw[List.mem_singleton.mp hr]
   exact⟨fun x hx=>by simp at hx;omega,by decide⟩,by decide,fun r hr=>⟨0,0,-1,List.mem_singleton.mp hr,by decide,by decide,.inl rfl⟩,by decide⟩
 have t2:iG 1 [] [[]] [[0,0,-1]]:=⟨fun p hp=>(by cases hp),by decide,fun r hr=>by
   rw[List.mem_singleton.mp hr]
   exact⟨fun x hx=>(by cases hx),by decide⟩,by decide,fun r hr=>⟨0,0,-1,List.mem_singleton.mp hr,by decide,by decide,.inl rfl⟩,by decide⟩
 have m1:dz (pA [] [[0,1]] [[0,0,-1]])=[(0,1)]:=by
  have e:pA [] [[0,1]] [[0,0,-1]]=[(0,1)]:=by decide
  rw[e]
  exact eN (List.pairwise_singleton _ _) fun x=>Iff.rfl
 have m2:dz (pA [] [[]] [[0,0,-1]])=[]:=by
  have e:pA [] [[]] [[0,0,-1]]=[]:=by decide
  rw[e]
  exact eN .nil fun x=>Iff.rfl
 obtain⟨G1,j1,e2,g1,l1⟩:=jS (S:=T) t1 (by decide)
 obtain⟨T2,hT2⟩:∃T2,T2=T++G1:=⟨_,rfl⟩
 rw[<-hT2]at e2 g1
 rw[m1]at g1
 have c1:lI false (.ref j1) (.ref T2.length) (T2++[.lst [.tup [.int 0,.int 1]]])=some (.bl true,T2++[.lst [.tup [.int 0,.int 1]]]):=dB.eq (mB (ps:=[(0,1)]) (ax g1) (by rw[ga0];rfl)) (by omega)
 obtain⟨G2,j2,e3,g2,l2⟩:=jS (S:=T2++[.lst [.tup [.int 0,.int 1]]]) t2 (by decide)
 obtain⟨T3,hT3⟩:∃T3,T3=T2++[.lst [.tup [.int 0,.int 1]]]++G2:=⟨_,rfl⟩
 rw[<-hT3]at e3 g2
 rw[m2]at g2
 have c2:lI false (.ref j2) (.ref T3.length) (T3++[.lst []])=some (.bl true,T3++[.lst []]):=dB.eq (mB (ps:=[]) (ax g2) (by rw[ga0];rfl)) (by omega)
 have u1:aW 2 (.tup (([]:List (Int×Int)).map pP)) [[0,1]] [[0,0,-1]]=.tup [.int 2,.tup [],.tup [.tup [.int 0,.int 1]],.tup [.tup [.int 0,.int 0,.int (-1)]]]:=rfl
 have u2:aW 1 (.tup (([]:List (Int×Int)).map pP)) [[]] [[0,0,-1]]=.tup [.int 1,.tup [],.tup [.tup []],.tup [.tup [.int 0,.int 0,.int (-1)]]]:=rfl
 rw[u1]at e2
 rw[u2]at e3
 refine⟨[some (.kl ns),q1,q2,q3,q4,q5],T3++[O.lst []],?_⟩
 unfold fL Ak
 rw[dA ((D2 a1 n0 n1).trans e1)]
 rwa[pX,kB,e2,c1,e3,c2]
end
theorem DC{l:PySem.W.OpenLaw}{w:World}{K:PySem.W.Frag}{h:Heap}{mg:Str->Option Value}{fa:Addr}(X:K.In h)(G:h.Ns mainGlobals mg)(hfa:mg "law"=some (.ref fa))
  (ds:DJ K [("musts_of_look",cu),("musts",mC),("_law_well",et),("_law_sip",fv),("_law_whole",dC),("_law_mixed",dE),("_law_tale",eA),("_law_musts",dD),("law",za)])
  (zs:D8 K GO) :
  ∃fd:FuncData,(∀(s:Shared) (v:Value),BindsTo s fd ⟨[v],[]⟩ [("script",v)])/\∀base:Heap,K.In base->base.Ns mainGlobals mg->mq l.prog w K mg base CX0 4 fa fd ["script"] (nD K):=by
 obtain⟨d_musts_of_look,d_musts,d__law_well,d__law_sip,d__law_whole,d__law_mixed,d__law_tale,d__law_musts,d_law,-⟩:=ds
 have B:=zs.blt X G
 refine CN d_law X G hfa fun fd F_law base=>?_
 have cG:=g6 (P:=l.prog) (w:=w) (base:=base) (k:=0) (d_musts_of_look.df X G) B 
 have iI:=zY (P:=l.prog) (w:=w) (base:=base) (k:=1) (d_musts.df X G) B cG
 have eI:=mM (P:=l.prog) (w:=w) (base:=base) (k:=0) (d__law_well.df X G) B 
 have aC:=pD (P:=l.prog) (w:=w) (base:=base) (k:=0) (d__law_sip.df X G) B 
 have cM:=lF (P:=l.prog) (w:=w) (base:=base) (k:=0) (d__law_whole.df X G) B 
 have dS:=lH (P:=l.prog) (w:=w) (base:=base) (k:=1) (fuel:=100) (d__law_mixed.df X G) B aC
 have eJ:=mN (P:=l.prog) (w:=w) (base:=base) (k:=2) (d__law_tale.df X G) B (Has.mono aC (by decide)) dS
 have dR:=lG (P:=l.prog) (w:=w) (base:=base) (k:=0) (d__law_musts.df X G) B 
 exact FZ (P:=l.prog) (w:=w) (base:=base) (k:=3) F_law B (Has.mono eI (by decide)) eJ (Has.mono aC (by decide)) (Has.mono iI (by decide)) (Has.mono dR (by decide)) (Has.mono cM (by decide)) fun ns hl=>CM ns hl
theorem G7{l:PySem.W.OpenLaw}{q:Program}{loose:List Str}{XP:(Str->Option Value)->Heap->Prop}{YP:World->Heap->Prop}{d:DefRec}{K:Params->PySem.W.Frag}(hn:l.most=some 63)(hdf:d.params.defaults=[])
  (hY:∀(w:World) (h:Heap),YP w h->(K w.params).In h)
  (F:∀(w:World) (mg:Str->Option Value) (fa:Addr) (h:Heap),(K w.params).In h->h.Ns mainGlobals mg->mg d.name=some (.ref fa)->
   ∃fd:FuncData,(∀(s:Shared) (u:Value),BindsTo s fd ⟨[u],[]⟩ [("script",u)])/\∀base:Heap,(K w.params).In base->base.Ns mainGlobals mg->mq l.prog w (K w.params) mg base CX0 4 fa fd ["script"] (nD (K w.params))) :
  PySem.W.WalkO q loose XP YP l.row.toRowW d [] (fun f vs=>PySem.call f vs):=
 L2.yU (n:=63) (k:=4) (x:="script") (CX:=fun _=>CX0) (sp:=fun w=>nD (K w.params)) hn (by decide) hdf ⟨rfl,by decide,by decide,rfl⟩ hY F (fun _ _ a ns hl hO hS=>⟨a,ns,rfl,FF hO hS,hl,fun _=>rfl⟩) fun _ _ _ _ _ z=>z
end OL
namespace PySem.W.Fast
def tw16338781588277286119:=0
def tw15489075787082755735:=0
def tw10013810443637796233:=0
def tw4269337239606861757:=0
def tw4066387494919377958:=0
def tw2466707166824648923:=0
def tw14340501475716972048:=0
def tw12517268329110207954:=0
def tw15826136081184718522:=0
def tw17345386170851987283:=0
def tw9740697527765228046:=0
def tw4439251963946399010:=0
def tw11650820472376126014:=0
def tw4931031620720040328:=0
def tw13520773018517319305:=0
def tw4171658826077379596:=0
def tw6563982323322724668:=0
def tw10615295239890352556:=0
def tw5353887873581901683:=0
def tw9735351316965507917:=0
def tw10588962635087484022:=0
def tw3259155610699769831:=0
def tw10947231413223935357:=0
def tw49710559732601092:=0
def tw8742713263268489171:=0
def tw2646905689950070138:=0
def tw2014203838061992139:=0
def tw13347664967060833079:=0
def tw5511321975271338377:=0
def tw4716670862258092802:=0
def tw1727202495809242248:=0
def tw4119654901000758414:=0
def tw11452943335584135882:=0
def tw17230195284368310667:=0
def tw14502512124272517391:=0
def tw12888693843269474550:=0
def tw1392279857051012394:=0
def tw14416408745292238296:=0
def tw2625432687801930301:=0
def tw2156911850166488602:=0
def tw1031965478993735104:=0
end PySem.W.Fast
open PySem PySem.W PyProof.Rows
open OP in
set_option maxRecDepth 100000 in
set_option maxHeartbeats 0 in
theorem PySem.Challenge.cw_oneglance_k27_musts_told_holds : PySem.Challenge.rw_oneglance_k27_musts_told.Holds := by
 w_on; o_law; k_head; (case hw => w_witness2)
 k_fill
 refine OL.G7 (l := PySem.Challenge.rw_oneglance_k27_musts_told) rfl rfl (fun w h Y => PySem.W.kIn_of Y) ?F
 case F =>
  intro w mg fa h KX G hmg
  refine' OL.DC KX G hmg ?ds ?zs
  (case ds => (repeat (refine' ⟨Hk ?a ?l ?c ?k, ?_⟩; (case a => k_is); (case l => k_is); (case c => k_is); (case k => k_is))); exact trivial)
  (case zs => (repeat (refine' ⟨?a, ?_⟩; (case a => k_is))); exact trivial)
