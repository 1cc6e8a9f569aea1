import PyProof.Rows.All
import Wide.All
import OpenK.AllK
import Wide.FinOn
import Lean
import PyProof.EqAt
import PyProof.EqKinds
import PyProof.TupleCall
import PySem.Challenge.RW_oneglance_k59_whole_waits_put_otherwise
set_option maxHeartbeats 4000000
set_option Elab.async false
set_option linter.all false
set_option maxRecDepth 100000
noncomputable section
namespace L2
open PySem PySem.Spec PyProof.Rows
abbrev Key:=Sum Int Str
def uD:Key->Value->Bool
 |.inl k,v=>Value.isInt k v
 |.inr x,v=>Value.isStrOf x v
def MF(w:World):Key->Int
 |.inl k=>hashInt k
 |.inr x=>hashStr w x
theorem b8:∀{k:Key} {v:Value},uD k v=true->(∃i t,k=Sum.inl i/\v=Value.int i t)\/(∃x t,k=Sum.inr x/\v=Value.str x t)
 |.inl i,v,h=>by
  obtain⟨t,e⟩:=Value.isInt_shape (k:=i) (v:=v) h
  exact .inl ⟨i,t,rfl,e⟩
 |.inr x,v,h=>by
  obtain⟨t,e⟩:=Value.isStrOf_shape (x:=x) (v:=v) h
  exact .inr ⟨x,t,rfl,e⟩
theorem w6(i:Int)(t:Tok):uD (.inl i) (.int i t)=true:=by simp[uD,Value.isInt]
theorem w4(x:Str)(t:Tok):uD (.inr x) (.str x t)=true:=by simp[uD,Value.isStrOf]
theorem GR(a b:Int):decide ((Sum.inl a:Key)=Sum.inl b)=(a == b):=by
 by_cases e:a=b
 ·subst e;simp
 ·have h:¬(Sum.inl a:Key)=Sum.inl b:=fun q=>e (Sum.inl.inj q)
  rw[decide_eq_false h]
  exact(beq_eq_false_iff_ne.mpr e).symm
theorem GO(a b:Str):decide ((Sum.inr a:Key)=Sum.inr b)=decide (a=b):=by
 by_cases e:a=b
 ·subst e;simp
 ·have h:¬(Sum.inr a:Key)=Sum.inr b:=fun q=>e (Sum.inr.inj q)
  rw[decide_eq_false h,decide_eq_false e]
theorem GQ(a:Int)(b:Str):decide ((Sum.inl a:Key)=Sum.inr b)=false:=decide_eq_false (fun q=>nomatch q)
theorem GP(a:Str)(b:Int):decide ((Sum.inr a:Key)=Sum.inl b)=false:=decide_eq_false (fun q=>nomatch q)
def d7(prog:Program)(w:World):PySem.KeyKind prog w Key where
 is:=uD
 hash:=MF w
 inj:=fun v a b ha hb=>by
  rcases b8 ha with⟨i,t,rfl,rfl⟩|⟨x,t,rfl,rfl⟩
  ·rcases b8 hb with⟨j,u,rfl,e⟩|⟨y,u,rfl,e⟩
   ·injection e with e1 _;rw[e1]
   ·exact nomatch e
  ·rcases b8 hb with⟨j,u,rfl,e⟩|⟨y,u,rfl,e⟩
   ·exact nomatch e
   ·injection e with e1 _;rw[e1]
 byValue:=fun k v h=>by
  rcases b8 h with⟨i,t,rfl,rfl⟩|⟨x,t,rfl,rfl⟩<;>rfl
 pyHash:=fun hv h=>by
  rcases b8 hv with⟨i,t,rfl,rfl⟩|⟨x,t,rfl,rfl⟩
  ·exact wpAny_pyHash_int h
  ·exact wpAny_pyHash_str h
 eqBool:=fun hu hv h=>by
  rcases b8 hu with⟨i,t,rfl,rfl⟩|⟨x,t,rfl,rfl⟩
  ·rcases b8 hv with⟨j,u,rfl,rfl⟩|⟨y,u,rfl,rfl⟩
   ·rw[GR]at h;exact wpAny_eqBool_int h
   ·rw[GQ]at h;exact SeqAt.EqAt.int_str i t y u _ _ _ _ h
  ·rcases b8 hv with⟨j,u,rfl,rfl⟩|⟨y,u,rfl,rfl⟩
   ·rw[GP]at h;exact SeqAt.EqAt.str_int x t j u _ _ _ _ h
   ·rw[GO]at h;exact wpAny_eqBool_str h
 «strs»:=fun k x t v h=>by
  rcases b8 h with⟨i,u,rfl,e⟩|⟨y,u,rfl,e⟩
  ·exact nomatch e
  ·injection e with e1 _
   subst e1
   cases v<;>rfl
theorem qZ(prog:Program)(w:World)(i:Int)(t:Tok):(d7 prog w).is (.inl i) (.int i t)=true:=w6 i t
theorem qY(prog:Program)(w:World)(x:Str)(t:Tok):(d7 prog w).is (.inr x) (.str x t)=true:=w4 x t
inductive V where
 |non|bl (b:Bool)|int (i:Int)|str (x:Str)|byt (b:Array UInt8)|flt (b:UInt64)|ref (a:Addr)|ty (n:String)
 deriving DecidableEq
def du:V->Value->Prop
 |.non,u=>u=Value.none
 |.bl b,u=>u=Value.bool b
 |.int i,u=>∃t,u=Value.int i t
 |.str x,u=>∃t,u=Value.str x t
 |.byt b,u=>∃t,u=Value.bytes b t
 |.flt b,u=>∃t,u=Value.float b t
 |.ref a,u=>u=Value.ref a
 |.ty n,u=>u=Value.type n
abbrev cg:List V->List Value->Prop:=Paired du
theorem cg.length{xs:List V}{us:List Value}(r:cg xs us):xs.length=us.length:=Paired.length r
theorem cg.get:∀{xs:List V} {us:List Value} {i:Nat} {x:V},cg xs us->xs[i]?=some x->∃u,us[i]?=some u/\du x u
 |_,_,_,_,.nil,e=>by simp at e
 |_,_,0,_,.cons r _,e=>by simp at e;subst e;exact⟨_,rfl,r⟩
 |_,_,i+1,x,.cons _ t,e=>by
  obtain⟨u,h1,h2⟩:=cg.get (i:=i) (x:=x) t (by simpa using e)
  exact⟨u,by simpa using h1,h2⟩
theorem cg.set{x:V}{u:Value}(r:du x u):∀{xs:List V} {us:List Value} (i:Nat),cg xs us->cg (xs.set i x) (us.set i u)
 |_,_,_,.nil=>.nil
 |_,_,0,.cons _ t=>.cons r t
 |_,_,i+1,.cons q t=>.cons q (cg.set r i t)
theorem cg.append:∀{xs ys:List V} {us ws:List Value},cg xs us->cg ys ws->cg (xs++ys) (us++ws)
 |_,_,_,_,.nil,s=>s
 |_,_,_,_,.cons r t,s=>.cons r (cg.append t s)
theorem cg.take:∀{xs:List V} {us:List Value} (n:Nat),cg xs us->cg (xs.take n) (us.take n)
 |_,_,0,_=>.nil
 |_,_,_+1,.nil=>.nil
 |_,_,n+1,.cons r t=>.cons r (cg.take n t)
theorem cg.drop:∀{xs:List V} {us:List Value} (n:Nat),cg xs us->cg (xs.drop n) (us.drop n)
 |_,_,0,r=>r
 |_,_,_+1,.nil=>.nil
 |_,_,n+1,.cons _ t=>cg.drop n t
def o6:Option V->Option Value->Prop
 |some v,some u=>du v u
 |none,none=>True
 |_,_=>False
def KV{κ:Type}:List (κ×V)->List (κ×Value)->Prop:=Paired fun(p:κ×V) (q:κ×Value)=>p.1=q.1/\du p.2 q.2
def kV:Key->V
 |.inl i=>.int i
 |.inr x=>.str x
inductive HO where
 |lst (xs:List V)
 |tup (xs:List V)
 |dK (kvs:List (Key×V))|dT (kvs:List (List Key×V))
 |set (S:Int->Bool) (n:Nat)
 |ins (C dx:Addr) (fs:List (Str×V))
 |own (x:Addr)
 |xd (fs:List (Str×V))
 |met (f x:Addr)
 |rng (lo hi:Int)
 |frz (o:Obj) (u:HO)
 |tbl (ps:Array Value)
 |ext (φ:Heap->Prop)
abbrev Hp:=Addr->Option HO
def upd(H:Hp)(a:Addr)(o:HO):Hp:=fun b=>if b=a then some o else H b
theorem aV{H:Hp}{a:Addr}{o:HO}:upd H a o a=some o:=by unfold upd;rw[if_pos rfl]
theorem bD{H:Hp}{a b:Addr}{o:HO}(h:b≠a):upd H a o b=H b:=by unfold upd;rw[if_neg h]
theorem Ko{H:Hp}{a b:Addr}{o u:HO}(h:H a=some o)(h':H b=some u)(d:o≠u):a≠b:=by
 intro e;subst e;rw[h]at h';exact d (Option.some.inj h')
theorem cM{H:Hp}{a b:Addr}{o:HO}(h:H a=some o)(h':H b=none):a≠b:=by
 intro e;subst e;rw[h]at h';cases h'
section
variable(P:Program)(w:World)
def cZ(H:Hp)(h:Heap)(a:Addr):HO->Prop
 |.lst xs=>xs.length<=sizeLine/\∃(its:List Value) (n:Nat),cg xs its/\h.get? a=some { cls:=.type "list",data:=.seq its.toArray n }
 |.tup xs=>xs.length<=sizeLine/\∃its:List Value,cg xs its/\IsTup h a its.toArray
 |.dK kvs=>kvs.length<=sizeLine/\(a == sysModules)=false/\∃vs,KV kvs vs/\h.DictOf (d7 P w) a vs
 | .dT kvs=>kvs.length<=sizeLine/\(a == sysModules)=false/\∃xs:List (List Key×Addr×Value),
   Paired (fun(p:List Key×V) (q:List Key×Addr×Value)=>p.1=q.1/\H q.2.1=some (.tup (p.1.map kV))/\du p.2 q.2.2) kvs xs/\
   ∃o es ep,h.get? a=some o/\o.ExactDict/\o.data=.dict es ep/\es.toList=xs.map (entryOfKey (tupleKind (d7 P w)))/\(xs.map (·.1)).Nodup
 |.set S n=>h.SetOf (intKind P w) a S n
 | .ins C dx fs=>H dx=some (.own a)/\fs.length<=1000/\dx≠a/\h.get? a=some (PySem.W.instObj C dx)/\
   ∃mA,h.Ns1 dx mA/\(∀f,o6 (fs.lookup f) (mA f))/\PySem.Within mA (fs.map (·.1))
 |.own _=>∃o,h.get? a=some o
 |.xd fs=>∃mA,h.Ns1 a mA/\∀f,o6 (fs.lookup f) (mA f)
 |.rng lo hi=>∃t u v,h.get? a=some { cls:=.type "range",data:=.fields #[.int lo t,.int hi u,.int 1 v] }
 |.frz o u=>h.get? a=some o/\cZ H h a u
 |.tbl ps=>h.get? a=some { cls:=.none,data:=.fields ps }
 |.met f x=>h.get? a=some (PySem.W.methodObj (.ref f) (.ref x))
 |.ext φ=>φ h/\(∃o,h.get? a=some o)/\∀h1 h2:Heap,φ h1->(∀o,h1.get? a=some o->h2.get? a=some o)->φ h2
def HOk(H:Hp)(h:Heap):Prop:=∀a o,H a=some o->cZ P w H h a o
end
section
variable{P:Program}{w:World}{H H':Hp}{h h':Heap}{a:Addr}{o:HO}
theorem cZ.lt(x:cZ P w H h a o):a<h.objs.size:=by
 cases o with
 |lst xs=>obtain⟨_,_,_,_,e⟩:=x;exact Heap.lt_size e
 |tup xs=>obtain⟨_,_,_,p⟩:=x;exact p.lt
 |dK kvs=>obtain⟨_,_,_,_,o,_,_,e,_⟩:=x;exact Heap.lt_size e
 |dT kvs=>obtain⟨_,_,_,_,o,_,_,e,_⟩:=x;exact Heap.lt_size e
 |set S n=>obtain⟨o,_,_,_,e,_⟩:=x;exact Heap.lt_size e
 |ins C dx fs=>obtain⟨_,_,_,e,_⟩:=x;exact Heap.lt_size e
 |own y=>obtain⟨_,e⟩:=x;exact Heap.lt_size e
 |xd fs=>obtain⟨_,⟨_,_,_,e,_⟩,_⟩:=x;exact Heap.lt_size e
 |rng lo hi=>obtain⟨_,_,_,e⟩:=x;exact Heap.lt_size e
 |frz ob u=>obtain⟨e,_⟩:=x;exact Heap.lt_size e
 |tbl ps=>exact Heap.lt_size (show h.get? a=some _ from x)
 |met f y=>exact Heap.lt_size (show h.get? a=some _ from x)
 |ext φ=>obtain⟨_,⟨_,e⟩,_⟩:=x;exact Heap.lt_size e
theorem Paired.mapP{α β:Type}{F G:α->β->Prop}:∀{l₁:List α} {l₂:List β},Paired F l₁ l₂->(∀a b,F a b->G a b)->Paired G l₁ l₂
 |_,_,.nil,_=>.nil
 |_,_,.cons r t,f=>.cons (f _ _ r) (Paired.mapP t f)
theorem cZ.stay(x:cZ P w H h a o)(k:∀b u,(b=a\/H b=some (.own a))->h.get? b=some u->h'.get? b=some u)
  (ho:∀b,H b=some (.own a)->H' b=some (.own a)) (ht:∀b xs,H b=some (.tup xs)->H' b=some (.tup xs)):cZ P w H' h' a o:=by
 induction o with
 |lst xs=>obtain⟨z,its,n,r,e⟩:=x;exact⟨z,its,n,r,k _ _ (.inl rfl) e⟩
 |tup xs=>obtain⟨z,its,r,ob,e,c⟩:=x;exact⟨z,its,r,ob,k _ _ (.inl rfl) e,c⟩
 |dK kvs=>obtain⟨z,y,vs,r,ob,es,ep,e,c⟩:=x;exact⟨z,y,vs,r,ob,es,ep,k _ _ (.inl rfl) e,c⟩
 |dT kvs=>
  obtain⟨z,y,xs,r,ob,es,ep,e,c⟩:=x
  exact⟨z,y,xs,Paired.mapP r fun p q z=>⟨z.1,ht _ _ z.2.1,z.2.2⟩,ob,es,ep,k _ _ (.inl rfl) e,c⟩
 |set S n=>obtain⟨ob,es,ep,t,e,c⟩:=x;exact⟨ob,es,ep,t,k _ _ (.inl rfl) e,c⟩
 |ins C dx fs=>
  obtain⟨d,z,ne,e,mA,⟨od,es,ep,e2,c⟩,r⟩:=x
  exact⟨ho _ d,z,ne,k _ _ (.inl rfl) e,mA,⟨od,es,ep,k _ _ (.inr d) e2,c⟩,r⟩
 |own y=>obtain⟨ob,e⟩:=x;exact⟨ob,k _ _ (.inl rfl) e⟩
 |xd fs=>obtain⟨mA,⟨od,es,ep,e,c⟩,r⟩:=x;exact⟨mA,⟨od,es,ep,k _ _ (.inl rfl) e,c⟩,r⟩
 |rng lo hi=>obtain⟨t,u,v,e⟩:=x;exact⟨t,u,v,k _ _ (.inl rfl) e⟩
 |frz ob u ih=>obtain⟨e,q⟩:=x;exact⟨k _ _ (.inl rfl) e,ih q⟩
 |tbl ps=>
  have e:h.get? a=some { cls:=.none,data:=.fields ps }:=x
  show h'.get? a=some { cls:=.none,data:=.fields ps }
  exact k a _ (.inl rfl) e
 |met f y=>
  have e:h.get? a=some (PySem.W.methodObj (.ref f) (.ref y)):=x
  show h'.get? a=some (PySem.W.methodObj (.ref f) (.ref y))
  exact k a _ (.inl rfl) e
 |ext φ=>obtain⟨p,⟨o,e⟩,st⟩:=x;exact⟨st _ _ p fun o q=>k _ _ (.inl rfl) q,⟨o,k _ _ (.inl rfl) e⟩,st⟩
theorem HOk.lt(x:HOk P w H h)(e:H a=some o):a<h.objs.size:=(x a o e).lt
theorem HOk.fresh(x:HOk P w H h)(e:h.objs.size<=a):H a=none:=by
 cases q:H a with
 |none=>rfl
 |some u=>exact absurd (Nat.lt_of_lt_of_le (x.lt q) e) (Nat.lt_irrefl _)
theorem HOk.kept(x:HOk P w H h)(k:∀b u,h.get? b=some u->h'.get? b=some u):HOk P w H h':=fun a o e=>
 (x a o e).stay (fun b u _ q=>k b u q) (fun _ q=>q) fun _ _ q=>q
theorem HOk.laid(x:HOk P w H h)(k:∀b u,h.get? b=some u->h'.get? b=some u)(hp:h.objs.size<=a)(new:cZ P w (upd H a o) h' a o):HOk P w (upd H a o) h':=fun b u e=>by
 have hn:=x.fresh hp
 by_cases hb:b=a
 ·subst hb;rw[aV]at e;cases e;exact new
 ·rw[bD hb]at e
  exact(x b u e).stay (fun c v _ q=>k c v q) (fun c q=>by rw[bD (cM q hn)];exact q) fun c xs q=>by rw[bD (cM q hn)];exact q
end
def Rd(H:Hp)(a:Addr)(u:HO):Prop:=H a=some u\/∃o,H a=some (.frz o u)
theorem Rd.ok{P:Program}{w:World}{H:Hp}{h:Heap}{a:Addr}{u:HO}(r:Rd H a u)(x:HOk P w H h):cZ P w H h a u:=by
 rcases r with r|⟨o,r⟩
 ·exact x a u r
 ·obtain⟨_,q⟩:=x a _ r
  exact q
def Mut:Option HO->Prop
 |some (.lst _)=>True
 |some (.dK _)=>True
 |some (.dT _)=>True
 |some (.set _ _)=>True
 |some (.ins _ _ _)=>True
 |some (.ext _)=>True
 |_=>False
section
variable{P:Program}{w:World}{H:Hp}{h h':Heap}{x e:Addr}{o':HO}
theorem HOk.write(ok:HOk P w H h)(mu:Mut (H x))(he:e=x\/H e=some (.own x))(k:∀b u,b≠e->h.get? b=some u->h'.get? b=some u)(heo:∃u,h'.get? e=some u)
  (new:cZ P w (upd H x o') h' x o'):HOk P w (upd H x o') h':=fun b u q=>by
 have nown:∀c y,H c=some (.own y)->c≠x:=fun c y r z=>by subst z;rw[r]at mu;exact mu
 have ntup:∀c xs,H c=some (.tup xs)->c≠x:=fun c xs r z=>by subst z;rw[r]at mu;exact mu
 by_cases hb:b=x
 ·subst hb;rw[aV]at q;cases q;exact new
 ·rw[bD hb]at q
  by_cases hbe:b=e
  ·have q':H b=some (.own x):=by
    rcases he with z|z
    ·exact absurd (hbe.trans z) hb
    ·rw[hbe];exact z
   rw[q]at q';cases q'
   obtain⟨v,hv⟩:=heo
   exact⟨v,by rw[hbe];exact hv⟩
  ·refine(ok b u q).stay (fun c v hc r=>k c v ?_ r) (fun c r=>by rw[bD (nown c b r)];exact r) fun c xs r=>by rw[bD (ntup c xs r)];exact r
   rcases hc with rfl|hc
   ·exact hbe
   ·rintro rfl
    rcases he with z|z
    ·exact nown c b hc z
    ·rw[hc]at z;cases z;exact hb rfl
end
structure Un(fs ex:List Addr)(H H':Hp)(h h':Heap):Prop where
 keep:∀b o,h.get? b=some o->H b=none->b∉fs->b∉ex->h'.get? b=some o
 slot:∀b o,h.get? b=some o->H b=none->b∈fs->b∉ex->∃sl,h'.get? b=some { o with slots:=sl }
 free:∀b o,h.get? b=some o->H b=none->b∉ex->H' b=none
 there:∀b o,h.get? b=some o->b∉ex->∃o',h'.get? b=some o'
 tups:∀b xs,H b=some (.tup xs)->H' b=some (.tup xs)
 frzs:∀b o u,H b=some (.frz o u)->H' b=some (.frz o u)
 tbls:∀b ps,H b=some (.tbl ps)->∃more,H' b=some (.tbl (ps++more))
section
variable{fs fs' ex ex':List Addr}{H H1 H2:Hp}{h h1 h2 h':Heap}{a x e:Addr}{o:HO}
theorem Un.any(u:Un fs ex H H1 h h1){b:Addr}{ob:Obj}(q:h.get? b=some ob)(n:H b=none)(hx:b∉ex):∃sl,h1.get? b=some { ob with slots:=sl }:=by
 by_cases hb:b∈fs
 ·exact u.slot b ob q n hb hx
 ·exact⟨ob.slots,u.keep b ob q n hb hx⟩
theorem Un.kept(k:∀b u,h.get? b=some u->h'.get? b=some u):Un fs ex H H h h':=
 ⟨fun b ob q _ _ _=>k b ob q,fun b ob q _ _ _=>⟨ob.slots,k b ob q⟩,fun _ _ _ n _=>n,fun b ob q _=>⟨ob,k b ob q⟩,fun _ _ q=>q,fun _ _ _ q=>q,fun _ ps q=>⟨#[],by rw[q];simp⟩⟩
theorem Un.refl:Un fs ex H H h h:=Un.kept fun _ _ q=>q
theorem Un.laid(k:∀b u,h.get? b=some u->h'.get? b=some u)(hp:h.objs.size<=a)(hn:H a=none):Un fs ex H (upd H a o) h h' where
 keep:=fun b u q _ _ _=>k b u q
 slot:=fun b u q _ _ _=>⟨u.slots,k b u q⟩
 free:=fun b u q n _=>by rw[bD (Nat.ne_of_lt (Nat.lt_of_lt_of_le (Heap.lt_size q) hp))];exact n
 there:=fun b u q _=>⟨u,k b u q⟩
 tups:=fun b xs q=>by rw[bD (cM q hn)];exact q
 frzs:=fun b u xs q=>by rw[bD (cM q hn)];exact q
 tbls:=fun b ps q=>⟨#[],by rw[bD (cM q hn),q];simp⟩
theorem Un.write(mu:Mut (H x))(he:e=x\/H e=some (.own x))(k:∀b u,b≠e->h.get? b=some u->h'.get? b=some u)(heo:∃u,h'.get? e=some u):Un fs ex H (upd H x o) h h':=by
 have hx:∀b,H b=none->b≠x:=fun b n z=>by subst z;rw[n]at mu;exact mu
 have hb:∀b,H b=none->b≠e:=fun b n z=>by
  subst z
  rcases he with r|r
  ·exact hx b n r
  ·rw[n]at r;cases r
 have hm:∀b u,H b=some u->¬Mut (some u)->b≠x:=fun b u q nm z=>by subst z;rw[q]at mu;exact nm mu
 refine⟨fun b u q n _ _=>k b u (hb b n) q,fun b u q n _ _=>⟨u.slots,k b u (hb b n) q⟩,fun b u q n _=>by rw[bD (hx b n)];exact n,fun b u q _=>?_,
  fun b xs q=>by rw[bD (hm b _ q fun z=>z)];exact q,fun b u xs q=>by rw[bD (hm b _ q fun z=>z)];exact q,fun b ps q=>⟨#[],by rw[bD (hm b _ q fun z=>z),q];simp⟩⟩
 by_cases hbe:b=e
 ·subst hbe;exact heo
 ·exact⟨u,k b u hbe q⟩
end
def trk(h:Heap)(H:Hp):List Addr:=(List.range h.objs.size).filter fun a=>(H a).isSome
def Aa(h:Heap)(H:Hp):Heap:=PySem.W.hideAll h (trk h H)
theorem xm(h:Heap)(H:Hp):(Aa h H).objs.size=h.objs.size:=PySem.W.hideAll_size _ _
theorem z9{h:Heap}{H:Hp}{b:Addr}{o:Obj}(e:h.get? b=some o)(n:H b=none):(Aa h H).get? b=some o:=
 PySem.W.hideAll_get _ e fun hm=>by
  have q:(H b).isSome=true:=(List.mem_filter.mp hm).2
  rw[n]at q;simp at q
theorem Dw{h:Heap}{H:Hp}{b:Addr}{o:Obj}(e:(Aa h H).get? b=some o):h.get? b=some o/\H b=none:=by
 have e':h.get? b=some o:=PySem.W.of_hideAll (trk h H) e
 refine⟨e',?_⟩
 cases q:H b with
 |none=>rfl
 |some x=>
  have hm:b∈trk h H:=List.mem_filter.mpr ⟨List.mem_range.mpr (Heap.lt_size e'),by simp[q]⟩
  have z:(Aa h H).get? b=none:=PySem.W.hideAll_none (trk h H) hm
  rw[z]at e;cases e
structure Mod(K:PySem.W.Frag)(mg:Str->Option Value)(base:Heap):Prop where
 kin:K.In base
 glob:base.Ns mainGlobals mg
 blt:∃mb,base.Ns builtinsNs mb/\∀x:Str,x≠"__name__"->mb x=bootBuiltins x
 nolimit:base.NoLimit
structure Cx where
 prog:Program
 w:World
 K:PySem.W.Frag
 mg:Str->Option Value
 base:Heap
 A:Around
 N:List Str
 s₀:Shared
 H₀:Hp
 env:Env
 outer:List Env
 stack:List Env
 ex:List Addr
 fn:Str->Bool
 calm:Bool
 pn:List (Addr×Obj)
 xe:Value->Shared->Prop
def frs(l:List Env):List Addr:=l.filterMap (·.frame)
abbrev Cx.fs(X:Cx):List Addr:=frs X.outer
def Vis(sc:Scope)(x:Str):Prop:=sc.names.lookup x=some .local\/sc.names.lookup x=some .cell\/sc.names.lookup x=some .free
def Loc(sc:Scope)(x:Str):Prop:=sc.names.lookup x=some .local\/sc.names.lookup x=some .cell
def MR(env:Env)(h:Heap)(m:Str->Option Value)(x:Str)(u:Value):Prop:=
 (env.kindOf x=some .local/\m x=some u)\/((env.kindOf x=some .cell\/env.kindOf x=some .free)/\∃c,env.cells.lookup x=some c/\h.IsCell c (some u))
structure Cx.Ok(X:Cx):Prop where
 mod:Mod X.K X.mg X.base
 kind:X.env.scope.kind=.function
 glob:X.env.globals=mainGlobals
 blt:X.env.builtins=builtinsNs
 above:X.s₀.heap.objs.size<=X.env.locals
 inj:∀x y c,X.env.cells.lookup x=some c->X.env.cells.lookup y=some c->x=y
 has:∀x,(X.env.kindOf x=some .cell\/X.env.kindOf x=some .free)->∃c,X.env.cells.lookup x=some c
 cab:∀x c,X.fn x=true->X.env.cells.lookup x=some c->X.s₀.heap.objs.size<=c
 hd:X.calm=true->X.A.handled=none
 frames:X.A.frames=some X.stack
 stk:X.stack=X.outer\/(X.stack=X.env::X.outer/\X.env.frame=some X.env.locals)
 exf:∀b∈X.ex,b≠X.env.locals/\∀x c,X.env.cells.lookup x=some c->c≠b
 bs:∀b o,X.base.get? b=some o->X.s₀.heap.get? b=some o/\X.H₀ b=none
 bsz:X.base.objs.size<=X.s₀.heap.objs.size
 noex:∀b o,X.base.get? b=some o->b∉X.ex
 exfs:∀b∈X.ex,b∉X.fs
 funs:X.s₀.heap.FunFrames X.base X.outer
 frf:∀b∈X.fs,X.H₀ b=none
structure Inv(X:Cx)(pins:List (Addr×Obj))(σ:List (Option V))(H:Hp)(s:Shared):Prop where
 ok:X.Ok
 os:s.os=X.s₀.os
 bare:AllBare s.gens
 base:Un X.fs X.ex X.H₀ H X.s₀.heap s.heap
 loc:∃m,s.heap.Ns X.env.locals m/\∀(i:Nat) (x:Str) (v:V),X.N[i]?=some x->σ[i]?=some (some v)->Vis X.env.scope x->∃u,du v u/\MR X.env s.heap m x u
 cell:∀x c,X.env.cells.lookup x=some c->∃v,s.heap.IsCell c v
 free:H X.env.locals=none
 freeC:∀x c,X.env.cells.lookup x=some c->H c=none
 pin:∀p∈X.pn++pins,s.heap.get? p.1=some p.2/\H p.1=none/\p.1≠X.env.locals/\p.1∉X.fs/\∀v,p.2.data≠.cell v
 hok:HOk X.prog X.w H s.heap
 len:σ.length=X.N.length
section
variable{X:Cx}{pins:List (Addr×Obj)}{σ:List (Option V)}{H H':Hp}{s:Shared}{h':Heap}
theorem Cx.Ok.nofr(ok:X.Ok){b:Addr}{o:Obj}(e:X.base.get? b=some o):b∉X.fs:=fun hb=>by
 have:=(ok.funs.mem hb).1
 rw[e]at this;cases this
theorem Inv.bs(I:Inv X pins σ H s):∀b o,X.base.get? b=some o->s.heap.get? b=some o/\H b=none:=fun b o e=>
 ⟨I.base.keep b o (I.ok.bs b o e).1 (I.ok.bs b o e).2 (I.ok.nofr e) (I.ok.noex b o e),I.base.free b o (I.ok.bs b o e).1 (I.ok.bs b o e).2 (I.ok.noex b o e)⟩
theorem Inv.bk(I:Inv X pins σ H s):∀b o,X.base.get? b=some o->s.heap.get? b=some o:=fun b o e=>(I.bs b o e).1
theorem Inv.mod(I:Inv X pins σ H s):Mod X.K X.mg X.base:=I.ok.mod
theorem Inv.kIn(I:Inv X pins σ H s):X.K.In s.heap:=I.ok.mod.kin.keeps I.bk
theorem Inv.lt(I:Inv X pins σ H s):X.env.locals<s.heap.objs.size:=let ⟨_,hn,_⟩:=I.loc;hn.lt
theorem Inv.sz(I:Inv X pins σ H s):X.s₀.heap.objs.size<=s.heap.objs.size:=Nat.le_trans I.ok.above (Nat.le_of_lt I.lt)
theorem Inv.nofs(I:Inv X pins σ H s){a:Addr}(h:s.heap.objs.size<=a):a∉X.fs:=fun hb=>by
 obtain⟨_,o,ho,_⟩:=I.ok.funs.mem hb
 exact absurd (Nat.lt_of_lt_of_le (Heap.lt_size ho) (Nat.le_trans I.sz h)) (Nat.lt_irrefl _)
theorem Inv.cne(I:Inv X pins σ H s):∀x c,X.env.cells.lookup x=some c->c≠X.env.locals:=fun x c e z=>by
 obtain⟨v,o,ho,hd⟩:=I.cell x c e
 obtain⟨m,⟨o',es,ep,ho',hd',_⟩,_⟩:=I.loc
 rw[z,ho']at ho;cases ho;rw[hd']at hd;cases hd
theorem Inv.funs(I:Inv X pins σ H s):s.heap.FunFrames X.base X.outer:=by
 have all:∀(l:List Env),(∀b∈frs l,b∈X.fs)->X.s₀.heap.FunFrames X.base l->s.heap.FunFrames X.base l:=by
  intro l
  induction l with
  |nil=>intro _ _;trivial
  |cons env r ih=>
   intro hs hl
   obtain⟨hk,⟨L,o,hf,hn,ho,hd⟩,hr⟩:=hl
   have hL:L∈X.fs:=hs L (by unfold frs;rw[List.filterMap_cons,hf];exact List.mem_cons_self)
   obtain⟨sl,e⟩:=I.base.slot L o ho (I.ok.frf L hL) hL fun z=>I.ok.exfs L z hL
   exact⟨hk,⟨L,_,hf,hn,e,hd⟩,ih (fun b hb=>hs b (by unfold frs;rw[List.filterMap_cons,hf];exact List.mem_cons_of_mem _ hb)) hr⟩
 exact all X.outer (fun _ hb=>hb) I.ok.funs
theorem Inv.stack(I:Inv X pins σ H s):s.heap.FunFrames X.base X.stack:=by
 rcases I.ok.stk with e|⟨e,hf⟩
 ·rw[e];exact I.funs
 ·rw[e]
  obtain⟨m,hn,_⟩:=I.loc
  refine .cons (by rw[I.ok.kind];decide) hf hn ?_ I.funs
  exact Heap.get?_none_of_le (Nat.le_trans I.ok.bsz I.ok.above)
theorem Inv.stkSub(I:Inv X pins σ H s):∀b∈frs X.stack,b∈X.env.locals::X.fs:=fun b hb=>by
 rcases I.ok.stk with e|⟨e,hf⟩
 ·rw[e]at hb;exact List.mem_cons_of_mem _ hb
 ·rw[e]at hb
  unfold frs at hb
  rw[List.filterMap_cons,hf]at hb
  exact hb
theorem Inv.stkFree(I:Inv X pins σ H s):∀b∈frs X.stack,H b=none:=fun b hb=>by
 rcases List.mem_cons.mp (I.stkSub b hb)with e|hb
 ·rw[e];exact I.free
 ·obtain⟨_,o,ho,_⟩:=I.ok.funs.mem hb
  exact I.base.free b o ho (I.ok.frf b hb) fun z=>I.ok.exfs b z hb
theorem Inv.step{g':Array GenState}{t':Nat}{d':Drawn}{ch:List Addr}(I:Inv X pins σ H s)
  (hch:∀b∈ch,(b∈X.ex\/X.s₀.heap.objs.size<=b)/\b≠X.env.locals/\(∀x c,X.env.cells.lookup x=some c->c≠b)/\∀p∈X.pn++pins,p.1≠b)
  (keep:∀b o,b≠X.env.locals->b∉X.fs->b∉ch->s.heap.get? b=some o->H b=none->h'.get? b=some o)
  (slot:∀b o,b≠X.env.locals->b∈X.fs->b∉ch->s.heap.get? b=some o->H b=none->∃sl,h'.get? b=some { o with slots:=sl }) (free:∀b o,b∉ch->s.heap.get? b=some o->H b=none->H' b=none)
  (there:∀b o,b∉ch->s.heap.get? b=some o->∃o',h'.get? b=some o')
  (tups:∀b xs,H b=some (.tup xs)->H' b=some (.tup xs)) (frzs:∀b o u,H b=some (.frz o u)->H' b=some (.frz o u)) (tbls:∀b ps,H b=some (.tbl ps)->∃more,H' b=some (.tbl (ps++more)))
  (ns:∀m,s.heap.Ns X.env.locals m->h'.Ns X.env.locals m) (hok:HOk X.prog X.w H' h') (hg:AllBare g') :
  Inv X pins σ H' { s with heap:=h',gens:=g',drawn:=d',toks:=t' }:=by
 have neL:∀b o,X.s₀.heap.get? b=some o->b≠X.env.locals:=fun b o e=>Nat.ne_of_lt (Nat.lt_of_lt_of_le (Heap.lt_size e) I.ok.above)
 have neC:∀b o,X.s₀.heap.get? b=some o->b∉X.ex->b∉ch:=fun b o e hx hb=>by
  rcases(hch b hb).1 with z|z
  ·exact hx z
  ·exact absurd (Nat.lt_of_lt_of_le (Heap.lt_size e) z) (Nat.lt_irrefl _)
 have cellK:∀x c,X.env.cells.lookup x=some c->∀v,s.heap.IsCell c v->h'.IsCell c v:=fun x c e v ⟨o,ho,hd⟩=>by
  have nch:c∉ch:=fun z=>(hch c z).2.2.1 x c e rfl
  by_cases hc:c∈X.fs
  ·obtain⟨sl,q⟩:=slot c o (I.cne x c e) hc nch ho (I.freeC x c e)
   exact⟨_,q,hd⟩
  ·exact⟨o,keep c o (I.cne x c e) hc nch ho (I.freeC x c e),hd⟩
 refine⟨I.ok,I.os,hg,⟨fun b o e n hb hx=>?_,fun b o e n hb hx=>?_,fun b o e n hx=>?_,fun b o e hx=>?_,fun b xs e=>tups b xs (I.base.tups b xs e),fun b o xs e=>frzs b o xs (I.base.frzs b o xs e),fun b ps e=>?_⟩,?_,fun x c e=>?_,?_,fun x c e=>?_,fun p hp=>?_,hok,I.len⟩
 ·exact keep b o (neL b o e) hb (neC b o e hx) (I.base.keep b o e n hb hx) (I.base.free b o e n hx)
 ·obtain⟨sl,e1⟩:=I.base.slot b o e n hb hx
  obtain⟨sl',e2⟩:=slot b _ (neL b o e) hb (neC b o e hx) e1 (I.base.free b o e n hx)
  exact⟨sl',e2⟩
 ·obtain⟨o',e1⟩:=I.base.there b o e hx
  exact free b o' (neC b o e hx) e1 (I.base.free b o e n hx)
 ·obtain⟨o',e1⟩:=I.base.there b o e hx
  exact there b o' (neC b o e hx) e1
 ·obtain⟨m1,e1⟩:=I.base.tbls b ps e
  obtain⟨m2,e2⟩:=tbls b _ e1
  exact⟨m1++m2,by rw[e2,Array.append_assoc]⟩
 ·obtain⟨m,hn,hl⟩:=I.loc
  refine⟨m,ns m hn,fun i x v e1 e2 e3=>?_⟩
  obtain⟨u,r,l⟩:=hl i x v e1 e2 e3
  refine⟨u,r,?_⟩
  rcases l with l|⟨k,c,e,z⟩
  ·exact .inl l
  ·exact .inr ⟨k,c,e,cellK x c e _ z⟩
 ·obtain⟨v,z⟩:=I.cell x c e
  exact⟨v,cellK x c e v z⟩
 ·obtain⟨m,⟨o,_,_,ho,_⟩,_⟩:=I.loc
  exact free _ o (fun z=>(hch _ z).2.1 rfl) ho I.free
 ·obtain⟨v,o,ho,hd⟩:=I.cell x c e
  exact free c o (fun z=>(hch c z).2.2.1 x c e rfl) ho (I.freeC x c e)
 ·obtain⟨e,n,ne,nf,d⟩:=I.pin p hp
  have nch:p.1∉ch:=fun z=>(hch p.1 z).2.2.2 p hp rfl
  exact⟨keep p.1 p.2 ne nf nch e n,free p.1 p.2 nch e n,ne,nf,d⟩
theorem Inv.un{t':Nat}(I:Inv X pins σ H s)(u:Un X.fs [] H H' s.heap h')(hok:HOk X.prog X.w H' h'):Inv X pins σ H' { s with heap:=h',toks:=t' }:=by
 obtain⟨m,⟨o,es,ep,ho,r⟩,_⟩:=id I.loc
 obtain⟨sl,hL⟩:=u.any ho I.free (by simp)
 exact I.step (g':=s.gens) (d':=s.drawn) (ch:=[]) (fun _ z=>nomatch z) (fun b o _ hb _ e n=>u.keep b o e n hb (by simp)) (fun b o _ hb _ e n=>u.slot b o e n hb (by simp)) (fun b o _ e n=>u.free b o e n (by simp)) (fun b o _ e=>u.there b o e (by simp)) u.tups u.frzs u.tbls (fun m' hm=>by
  obtain⟨o',es',ep',ho',r'⟩:=hm
  rw[ho]at ho';cases ho'
  exact⟨_,es',ep',hL,r'⟩) hok I.bare
theorem Inv.call{g':Array GenState}{t':Nat}{d':Drawn}{ch:List Addr}(I:Inv X pins σ H s)(u:Un (frs X.stack) ch H H' s.heap h')(hok:HOk X.prog X.w H' h')(hg:AllBare g')
  (hch:∀b∈ch,(b∈X.ex\/X.s₀.heap.objs.size<=b)/\b≠X.env.locals/\(∀x c,X.env.cells.lookup x=some c->c≠b)/\∀p∈X.pn++pins,p.1≠b) :
  Inv X pins σ H' { s with heap:=h',gens:=g',drawn:=d',toks:=t' }:=by
 obtain⟨m,⟨o,es,ep,ho,r⟩,_⟩:=id I.loc
 obtain⟨sl,hL⟩:=u.any ho I.free fun z=>(hch _ z).2.1 rfl
 exact I.step (ch:=ch) hch (fun b o hL hb hc e n=>u.keep b o e n (fun z=>(List.mem_cons.mp (I.stkSub b z)).elim hL hb) hc) (fun b o _ _ hc e n=>u.any e n hc) (fun b o hc e n=>u.free b o e n hc) (fun b o hc e=>u.there b o e hc) u.tups u.frzs u.tbls (fun m' hm=>by
  obtain⟨o',es',ep',ho',r'⟩:=hm
  rw[ho]at ho';cases ho'
  exact⟨_,es',ep',hL,r'⟩) hok hg
theorem Inv.turned{t':Nat}{it:Addr}(I:Inv X pins σ H s)(k:∀b o,b≠it->s.heap.get? b=some o->h'.get? b=some o)(hn:H it=none)(hL:it≠X.env.locals)
  (h1:it∈X.ex\/X.s₀.heap.objs.size<=it) (h2:∀x c,X.env.cells.lookup x=some c->c≠it) (h3:∀p∈X.pn++pins,p.1≠it):Inv X pins σ H { s with heap:=h',toks:=t' }:=by
 have nit:∀b u,H b=some u->b≠it:=fun b u e z=>by rw[z,hn]at e;cases e
 refine I.step (g':=s.gens) (d':=s.drawn) (ch:=[it]) (fun b hb=>?_) (fun b o _ _ hc e _=>k b o (fun z=>hc (by simp[z])) e) (fun b o _ _ hc e _=>⟨o.slots,k b o (fun z=>hc (by simp[z])) e⟩) (fun _ _ _ _ n=>n)
  (fun b o hc e=>⟨o,k b o (fun z=>hc (by simp[z])) e⟩) (fun _ _ e=>e) (fun _ _ _ e=>e) (fun b ps e=>⟨#[],by rw[e];simp⟩) (fun m hm=>?_) (fun b u e=>?_) I.bare
 ·have e:b=it:=by simpa using hb
  subst e
  exact⟨h1,hL,h2,h3⟩
 ·obtain⟨o,es,ep,ho,r⟩:=hm
  exact⟨o,es,ep,k _ o (Ne.symm hL) ho,r⟩
 ·refine(I.hok b u e).stay (fun c v hc q=>k c v ?_ q) (fun _ q=>q) fun _ _ q=>q
  rcases hc with z|z
  ·rw[z];exact nit b u e
  ·exact nit c _ z
theorem Inv.tok(I:Inv X pins σ H s)(t:Nat):Inv X pins σ H { s with toks:=t }:=I.un (h':=s.heap) (t':=t) Un.refl I.hok
theorem Inv.kept{t':Nat}(I:Inv X pins σ H s)(k:∀b u,s.heap.get? b=some u->h'.get? b=some u):Inv X pins σ H { s with heap:=h',toks:=t' }:=I.un (Un.kept k) (I.hok.kept k)
theorem Inv.laid{a:Addr}{o:HO}{t':Nat}(I:Inv X pins σ H s)(k:∀b u,s.heap.get? b=some u->h'.get? b=some u)(hp:s.heap.objs.size<=a)(new:cZ X.prog X.w (upd H a o) h' a o) :
  Inv X pins σ (upd H a o) { s with heap:=h',toks:=t' }:=I.un (Un.laid k hp (I.hok.fresh hp)) (I.hok.laid k hp new)
theorem Inv.write{x e:Addr}{o:HO}{t':Nat}(I:Inv X pins σ H s)(mu:Mut (H x))(he:e=x\/H e=some (.own x))(k:∀b u,b≠e->s.heap.get? b=some u->h'.get? b=some u)(heo:∃u,h'.get? e=some u)
  (new:cZ X.prog X.w (upd H x o) h' x o):Inv X pins σ (upd H x o) { s with heap:=h',toks:=t' }:=I.un (Un.write mu he k heo) (I.hok.write mu he k heo new)
theorem Inv.pins_of{pins':List (Addr×Obj)}(I:Inv X pins σ H s)(h:∀p∈pins',s.heap.get? p.1=some p.2/\H p.1=none/\p.1≠X.env.locals/\p.1∉X.fs/\∀v,p.2.data≠.cell v):Inv X pins' σ H s:=
 ⟨I.ok,I.os,I.bare,I.base,I.loc,I.cell,I.free,I.freeC,fun p hp=>(List.mem_append.mp hp).elim (fun z=>I.pin p (List.mem_append_left _ z)) (h p),I.hok,I.len⟩
theorem sT{N:List Str}(hN:N.Nodup){i j:Nat}{x:Str}(a:N[i]?=some x)(b:N[j]?=some x):i=j:=by
 obtain⟨h1,e1⟩:=List.getElem?_eq_some_iff.mp a
 obtain⟨h2,e2⟩:=List.getElem?_eq_some_iff.mp b
 exact(List.getElem_inj hN).mp (e1.trans e2.symm)
theorem pD{M:Model}{A:Around}{E:Value->Shared->Prop}{i:Nat}{x:Str}{v:V}{u:Value}{Q:Unit->Shared->Prop}(I:Inv X pins σ H s)(hN:X.N.Nodup)(hi:X.N[i]?=some x)(hx:Loc X.env.scope x)(r:du v u)
  (h:∀s',Inv X pins (σ.set i (some v)) H s'->(∃a,Heap.SameBut a s.heap s'.heap/\(a=X.env.locals\/X.env.cells.lookup x=some a))->Q () s') (hf:X.fn x=true\/X.env.scope.names.lookup x=some .local:=by first|exact .inl rfl|exact .inr rfl|assumption):wpAny M A (storeName X.env x u) Q E s:=by
 obtain⟨m,hn,hl⟩:=id I.loc
 have hcls:(X.env.scope.kind == .class||(X.env.scope.kind == .module&&X.env.locals !=X.env.globals))=false:=by rw[I.ok.kind];rfl
 have hiσ:i < σ.length:=by rw[I.len];exact(List.getElem?_eq_some_iff.mp hi).1
 have cne:=I.cne
 have tracked:∀{a:Addr} {h':Heap},(∃o,s.heap.get? a=some o/\H a=none)->Heap.SameBut a s.heap h'->HOk X.prog X.w H h':=fun{a h'} ha hs b ob e=>by
  obtain⟨_,_,hfree⟩:=ha
  refine(I.hok b ob e).stay (fun c w' hc q=>(hs.2 c ?_).trans q) (fun _ q=>q) fun _ _ q=>q
  rintro rfl
  rcases hc with rfl|hc
  ·rw[hfree]at e;cases e
  ·rw[hfree]at hc;cases hc
 rcases hx with hk|hk
 ·refine wpAny_storeName_local hk hn (fun h' hn' hs=>?_) hcls
  obtain⟨oL,_,_,hoL,_⟩:=id hn
  refine h _ ⟨I.ok,I.os,I.bare,⟨fun b o e n hb hx=>?_,fun b o e n hb hx=>?_,I.base.free,fun b o e hx=>?_,I.base.tups,I.base.frzs,I.base.tbls⟩,⟨_,hn',fun j y v' e1 e2 e3=>?_⟩,fun y c e=>?_,I.free,I.freeC,fun p hp=>?_,tracked ⟨oL,hoL,I.free⟩ hs,by simpa using I.len⟩ ⟨_,hs,.inl rfl⟩
  ·exact(hs.2 b (Nat.ne_of_lt (Nat.lt_of_lt_of_le (Heap.lt_size e) I.ok.above))).trans (I.base.keep b o e n hb hx)
  ·obtain⟨sl,e1⟩:=I.base.slot b o e n hb hx
   exact⟨sl,(hs.2 b (Nat.ne_of_lt (Nat.lt_of_lt_of_le (Heap.lt_size e) I.ok.above))).trans e1⟩
  ·obtain⟨o',e1⟩:=I.base.there b o e hx
   exact⟨o',(hs.2 b (Nat.ne_of_lt (Nat.lt_of_lt_of_le (Heap.lt_size e) I.ok.above))).trans e1⟩
  ·by_cases hj:j=i
   ·subst hj
    rw[hi]at e1;cases e1
    rw[List.getElem?_set_self hiσ]at e2
    cases e2
    exact⟨u,r,.inl ⟨hk,by simp⟩⟩
   ·rw[List.getElem?_set_ne (Ne.symm hj)]at e2
    obtain⟨u',r',q⟩:=hl j y v' e1 e2 e3
    refine⟨u',r',?_⟩
    rcases q with⟨k,e⟩|⟨k,c,e,z⟩
    ·refine .inl ⟨k,?_⟩
     have:y≠x:=fun e=>hj (sT hN e1 (e▸hi))
     simp[this,e]
    ·exact .inr ⟨k,c,e,z.sameBut hs (cne y c e)⟩
  ·obtain⟨w',z⟩:=I.cell y c e
   exact⟨w',z.sameBut hs (cne y c e)⟩
  ·obtain⟨e,n,ne,nf,d⟩:=I.pin p hp
   exact⟨(hs.2 p.1 ne).trans e,n,ne,nf,d⟩
 ·have hfn:X.fn x=true:=by
   rcases hf with z|z
   ·exact z
   ·rw[z]at hk;cases hk
  obtain⟨c,hc⟩:=I.ok.has x (.inl hk)
  obtain⟨w',z⟩:=I.cell x c hc
  refine wpAny_storeName_cell I.ok.kind hk hc z (fun h' hc' hs=>?_)
  obtain⟨oc,hoc,hocd⟩:=id z
  refine h { s with heap:=h' } ⟨I.ok,I.os,I.bare,⟨fun b o e n hb hx=>?_,fun b o e n hb hx=>?_,I.base.free,fun b o e hx=>?_,I.base.tups,I.base.frzs,I.base.tbls⟩,⟨m,hn.sameBut hs (Ne.symm (cne x c hc)),fun j y v' e1 e2 e3=>?_⟩,fun y c' e=>?_,I.free,I.freeC,fun p hp=>?_,tracked ⟨oc,hoc,I.freeC x c hc⟩ hs,by simpa using I.len⟩ ⟨c,hs,.inr hc⟩
  ·exact(hs.2 b (Nat.ne_of_lt (Nat.lt_of_lt_of_le (Heap.lt_size e) (I.ok.cab x c hfn hc)))).trans (I.base.keep b o e n hb hx)
  ·obtain⟨sl,e1⟩:=I.base.slot b o e n hb hx
   exact⟨sl,(hs.2 b (Nat.ne_of_lt (Nat.lt_of_lt_of_le (Heap.lt_size e) (I.ok.cab x c hfn hc)))).trans e1⟩
  ·obtain⟨o',e1⟩:=I.base.there b o e hx
   exact⟨o',(hs.2 b (Nat.ne_of_lt (Nat.lt_of_lt_of_le (Heap.lt_size e) (I.ok.cab x c hfn hc)))).trans e1⟩
  ·by_cases hj:j=i
   ·subst hj
    rw[hi]at e1;cases e1
    rw[List.getElem?_set_self hiσ]at e2
    cases e2
    exact⟨u,r,.inr ⟨.inl hk,c,hc,hc'⟩⟩
   ·rw[List.getElem?_set_ne (Ne.symm hj)]at e2
    obtain⟨u',r',q⟩:=hl j y v' e1 e2 e3
    refine⟨u',r',?_⟩
    rcases q with q|⟨k,c',e,z'⟩
    ·exact .inl q
    ·refine .inr ⟨k,c',e,z'.sameBut hs ?_⟩
     rintro rfl
     exact hj (sT hN e1 (I.ok.inj _ _ _ e hc▸hi))
  ·by_cases hcc:c'=c
   ·subst hcc;exact⟨_,hc'⟩
   ·obtain⟨w2,z2⟩:=I.cell y c' e
    exact⟨w2,z2.sameBut hs hcc⟩
  ·obtain⟨e,n,ne,nf,d⟩:=I.pin p hp
   refine⟨(hs.2 p.1 ?_).trans e,n,ne,nf,d⟩
   intro q
   rw[q,hoc]at e
   have q':oc=p.2:=Option.some.inj e
   exact d w' (by rw[<-q'];exact hocd)
theorem su{M:Model}{A:Around}{E:Value->Shared->Prop}{i:Nat}{x:Str}{v:V}{u:Value}{Q:Unit->Shared->Prop}(I:Inv X pins σ H s)(hN:X.N.Nodup)(hi:X.N[i]?=some x)(hx:Loc X.env.scope x)(r:du v u)
  (h:∀s',Inv X pins (σ.set i (some v)) H s'->Q () s') (hf:X.fn x=true\/X.env.scope.names.lookup x=some .local:=by first|exact .inl rfl|exact .inr rfl|assumption):wpAny M A (storeName X.env x u) Q E s:=
 pD I hN hi hx r (fun s' I' _=>h s' I') hf
theorem Inv.call'{s':Shared}{ch:List Addr}(I:Inv X pins σ H s)(ho:s'.os=s.os)(u:Un (frs X.stack) ch H H' s.heap s'.heap)(hok:HOk X.prog X.w H' s'.heap)(hg:AllBare s'.gens)
  (hch:∀b∈ch,(b∈X.ex\/X.s₀.heap.objs.size<=b)/\b≠X.env.locals/\(∀x c,X.env.cells.lookup x=some c->c≠b)/\∀p∈X.pn++pins,p.1≠b):Inv X pins σ H' s':=by
 obtain⟨h',g',d',t',o'⟩:=s'
 have e:o'=s.os:=ho
 subst e
 exact I.call (g':=g') (t':=t') (d':=d') u hok hg hch
end
abbrev XK:=Value->Option Addr->Hp->Prop
abbrev St:=List (Option V)
abbrev VK:=V->Hp->Prop
abbrev TE:=St->Hp->VK->Prop
abbrev TT:=St->Hp->(Bool->Hp->Prop)->Prop
abbrev TA:=St->Hp->(List V->Hp->Prop)->Prop
structure yy where
 nx:St->Hp->Prop
 rt:VK
 bk:St->Hp->Prop:=fun _ _=>False
 ct:St->Hp->Prop:=fun _ _=>False
abbrev TS:=yy->St->Hp->Prop
def EP(X:Cx)(pins:List (Addr×Obj))(σ:St)(Q:VK)(u:Value)(s':Shared):Prop:=∃v H',Inv X pins σ H' s'/\du v u/\Q v H'
def TP(X:Cx)(pins:List (Addr×Obj))(σ:St)(Q:Bool->Hp->Prop)(b:Bool)(s':Shared):Prop:=∃H',Inv X pins σ H' s'/\Q b H'
def AP(X:Cx)(pins:List (Addr×Obj))(σ:St)(Q:List V->Hp->Prop)(us:List Value)(s':Shared):Prop:=∃vs H',Inv X pins σ H' s'/\cg vs us/\Q vs H'
def SP(X:Cx)(pins:List (Addr×Obj))(D:yy)(f:Flow)(s':Shared):Prop:=
 match f with
 |.next=>∃σ' H',Inv X pins σ' H' s'/\D.nx σ' H'
 |.brk=>∃σ' H',Inv X pins σ' H' s'/\D.bk σ' H'
 |.cont=>∃σ' H',Inv X pins σ' H' s'/\D.ct σ' H'
 |.ret u=>∃v σ' H',Inv X pins σ' H' s'/\du v u/\D.rt v H'
def PE(X:Cx)(e:Expr)(t:TE):Prop:=
 ∀(pins:List (Addr×Obj)) (s:Shared) (σ:St) (H:Hp) (Q:VK),Inv X pins σ H s->t σ H Q->wpAny (model X.prog X.w) X.A (eval e X.env) (EP X pins σ Q) X.xe s
def PT(X:Cx)(e:Expr)(t:TT):Prop:=
 ∀(pins:List (Addr×Obj)) (s:Shared) (σ:St) (H:Hp) (Q:Bool->Hp->Prop),Inv X pins σ H s->t σ H Q->wpAny (model X.prog X.w) X.A (isTrue e X.env (eval e X.env)) (TP X pins σ Q) X.xe s
def PW(X:Cx)(e:Expr)(t:TT):Prop:=
 ∀(whole:Sem Value) (pins:List (Addr×Obj)) (s:Shared) (σ:St) (H:Hp) (Q:Bool->Hp->Prop),Inv X pins σ H s->t σ H Q->wpAny (model X.prog X.w) X.A (isTrue e X.env whole) (TP X pins σ Q) X.xe s
theorem PW.pt{X:Cx}{e:Expr}{t:TT}(h:PW X e t):PT X e t:=h _
def PA(X:Cx)(es:List Expr)(t:TA):Prop:=
 ∀(pos:Pos) (pins:List (Addr×Obj)) (s:Shared) (σ:St) (H:Hp) (Q:List V->Hp->Prop),Inv X pins σ H s->t σ H Q->wpAny (model X.prog X.w) X.A (spliced (backTo pos (starEach es X.env))) (AP X pins σ Q) X.xe s
def PS(X:Cx)(st:Stmt)(t:TS):Prop:=
 ∀(pins:List (Addr×Obj)) (s:Shared) (σ:St) (H:Hp) (D:yy),Inv X pins σ H s->t D σ H->wpAny (model X.prog X.w) X.A (exec st X.env) (SP X pins D) X.xe s
def PSs(X:Cx)(st:List Stmt)(t:TS):Prop:=
 ∀(pins:List (Addr×Obj)) (s:Shared) (σ:St) (H:Hp) (D:yy),Inv X pins σ H s->t D σ H->wpAny (model X.prog X.w) X.A (execs st X.env) (SP X pins D) X.xe s
theorem thn{α:Type}{t:Sem α}{Q Q':α->Shared->Prop}{M:Model}{A:Around}{E:Value->Shared->Prop}{s:Shared}(h:wpAny M A t Q E s)(hQ:∀a s,Q a s->Q' a s):wpAny M A t Q' E s:=wpAny_mono h hQ fun _ _ x=>x
section
variable{X:Cx}
def Il(i:Nat):TE:=fun σ H Q=>∃v,σ[i]?=some (some v)/\Q v H
def tC(v:V):TE:=fun _ H Q=>Q v H
theorem F7{i:Nat}{x:Str}{pos:Pos}(hN:X.N[i]?=some x)(hv:Vis X.env.scope x)(hd:(x == ("__debug__":Str))=false:=by decide)(hcd:(x == ("__classdict__":Str))=false:=by decide):PE X (.Name x pos) (Il i):=by
 intro pins s σ H Q I h
 obtain⟨v,e,h⟩:=h
 obtain⟨m,hn,hl⟩:=I.loc
 obtain⟨u,r,l⟩:=hl i x v hN e hv
 have fin:EP X pins σ Q u s:=⟨v,H,I,r,h⟩
 rcases l with⟨hk,hm⟩|⟨hk,c,hc,hcell⟩
 ·exact wpAny_Name (wpAny_loadName_local I.ok.kind hk hn hm fin) hd
 ·rcases hk with hk|hk
  ·exact wpAny_Name (wpAny_loadName_cell I.ok.kind hk hc hcell fin) hd
  ·exact wpAny_Name (wpAny_loadName_free I.ok.kind hk hc hcell fin hcd) hd
theorem Gk{i j pos}:PE X (.Constant (.int i) j pos) (tC (.int i)):=fun _ _ _ H _ I h=>wpAny_Constant_int ⟨.int i,H,I.tok _,⟨_,rfl⟩,h⟩
theorem Kh{b j pos}:PE X (.Constant (.bool b) j pos) (tC (.bl b)):=fun _ _ _ H _ I h=>Constant_bool ⟨.bl b,H,I,rfl,h⟩
theorem Gh{j pos}:PE X (.Constant .none j pos) (tC .non):=fun _ _ _ H _ I h=>Constant_none ⟨.non,H,I,rfl,h⟩
theorem F9{x j pos}:PE X (.Constant (.str x) j pos) (tC (.str x)):=fun _ _ _ H _ I h=>Calls.Constant_str ⟨.str x,H,I.tok _,⟨_,rfl⟩,h⟩
def Gl(X:Cx)(x:Str):Prop:=X.env.kindOf x=some .globalImplicit
theorem wW{E:Value->Shared->Prop}{pins:List (Addr×Obj)}{s:Shared}{σ:St}{H:Hp}{x:Str}{u:Value}{pos:Pos}{Q:Value->Shared->Prop}(I:Inv X pins σ H s)(hg:Gl X x)(hm:X.mg x=some u)(h:Q u s)
  (hd:(x == ("__debug__":Str))=false:=by decide):wpAny (model X.prog X.w) X.A (eval (.Name x pos) X.env) Q E s:=
 Calls.Name_function_global I.ok.kind hg (Calls.loadGlobal_global (by rw[I.ok.glob];exact I.mod.glob.keeps I.bk) hm h) hd
theorem nN{E:Value->Shared->Prop}{pins:List (Addr×Obj)}{s:Shared}{σ:St}{H:Hp}{x:Str}{u:Value}{pos:Pos}{Q:Value->Shared->Prop}(I:Inv X pins σ H s)(hg:Gl X x)(hm:X.mg x=none)(hv:bootBuiltins x=some u)(h:Q u s)
  (hn:x≠"__name__":=by decide) (hd:(x == ("__debug__":Str))=false:=by decide):wpAny (model X.prog X.w) X.A (eval (.Name x pos) X.env) Q E s:=by
 obtain⟨mb,h1,h2⟩:=I.mod.blt
 exact Calls.Name_function_global I.ok.kind hg (Calls.loadGlobal_builtin (by rw[I.ok.glob];exact I.mod.glob.keeps I.bk) hm (by rw[I.ok.blt];exact h1.keeps I.bk) ((h2 x hn).trans hv) h) hd
variable{a b:Expr}{ta tb:TE}{pos:Pos}
def PC(X:Cx)(op:CmpOp)(a b:Expr)(t:TE):Prop:=
 ∀(pins:List (Addr×Obj)) (s:Shared) (σ:St) (H:Hp) (Q:VK),Inv X pins σ H s->t σ H Q->
  wpAny (model X.prog X.w) X.A (eval a X.env) (fun v s₁=>wpAny (model X.prog X.w) X.A (eval b X.env) (fun u s₂=>wpAny (model X.prog X.w) X.A (compareOp op v u) (EP X pins σ Q) X.xe s₂) X.xe s₁) X.xe s
def tB(t:TE):TT:=fun σ H Q=>t σ H fun x H1=>∃c,x=.bl c/\Q c H1
theorem FX{op:CmpOp}{t:TE}(h:PC X op a b t)(h1:behindInMarks op b=false:=by first|exact nobehind _ (by decide) (by decide)|rfl):PT X (.Compare a [op] [b] pos) (tB t):=by
 intro pins s σ H Q I hw
 refine wpAny_isTrue_Compare1 (thn (h pins s σ H _ I hw) fun v s1 h1=>thn h1 fun u s2 h2=>thn h2 fun c s3 hz=>?_) h1
 obtain⟨x,H1,I1,r1,q1⟩:=hz
 obtain⟨d,rfl,q⟩:=q1
 cases r1
 exact wpAny_truthy_bool ⟨H1,I1,q⟩
theorem FV{e:Expr}{t:TE}(h:PE X e t)(he:∀whole,isTrue e X.env whole=(do let v <-whole;standAt e.pos;holding [v] (truthy v)):=by intro _;rfl):PT X e (tB t):=by
 intro pins s σ H Q I hw
 refine isTrue_plain (thn (h pins s σ H _ I hw) fun v s1 ⟨x,H1,I1,r1,q1⟩=>?_) (he _)
 obtain⟨d,rfl,q⟩:=q1
 cases r1
 exact wpAny_truthy_bool ⟨H1,I1,q⟩
variable{tA tB':TT}{rest:List Expr}
def LC(t u:TT):TT:=fun σ H Q=>t σ H fun c H1=>if c=true then u σ H1 Q else Q false H1
def tOr(t u:TT):TT:=fun σ H Q=>t σ H fun c H1=>if c=true then Q true H1 else u σ H1 Q
def Ly(t:TT):TT:=fun σ H Q=>t σ H fun c H1=>Q (!c) H1
theorem CW(ha:PT X a tA):PW X (.BoolOp .And [a] pos) tA:=by
 intro wh pins s σ H Q I h
 refine isTrue_and (thn (ha pins s σ H Q I h) fun c s1 e=>?_)
 cases c with
 |true=>exact isTrue_and_nil e
 |false=>exact e
theorem FR(ha:PT X a tA):PW X (.BoolOp .Or [a] pos) tA:=by
 intro wh pins s σ H Q I h
 refine isTrue_or (thn (ha pins s σ H Q I h) fun c s1 e=>?_)
 cases c with
 |false=>exact isTrue_or_nil e
 |true=>exact e
theorem FT(ha:PT X a tA)(hb:PW X (.BoolOp .And (b::rest) pos) tB'):PW X (.BoolOp .And (a::b::rest) pos) (LC tA tB'):=by
 intro wh pins s σ H Q I h
 refine isTrue_and (thn (ha pins s σ H _ I h) fun c s1 ⟨H1,I1,q1⟩=>?_)
 cases c with
 |true=>exact hb wh pins s1 σ H1 Q I1 q1
 |false=>exact⟨H1,I1,q1⟩
theorem Ka(ha:PT X a tA)(hb:PW X (.BoolOp .Or (b::rest) pos) tB'):PW X (.BoolOp .Or (a::b::rest) pos) (tOr tA tB'):=by
 intro wh pins s σ H Q I h
 refine isTrue_or (thn (ha pins s σ H _ I h) fun c s1 ⟨H1,I1,q1⟩=>?_)
 cases c with
 |true=>exact⟨H1,I1,q1⟩
 |false=>exact hb wh pins s1 σ H1 Q I1 q1
theorem FW(ha:PT X a tA):PT X (.UnaryOp .Not a pos) (Ly tA):=by
 intro pins s σ H Q I h
 exact isTrue_not (ha pins s σ H (fun c H1=>Q (!c) H1) I h)
def FF(ta tb:TE):TE:=fun σ H Q=>ta σ H fun x H1=>∃c,x=.bl c/\if c=true then tb σ H1 Q else Q (.bl false) H1
theorem Gf{op}{t:TE}(h:PE X a t):PE X (.BoolOp op [a] pos) t:=fun pins s σ H Q I hw=>BoolOp_one (h pins s σ H Q I hw)
theorem Gn(ha:PE X a ta)(hb:PE X (.BoolOp .And (b::rest) pos) tb):PE X (.BoolOp .And (a::b::rest) pos) (FF ta tb):=by
 intro pins s σ H Q I h
 refine BoolOp_and (thn (ha pins s σ H _ I h) fun v s1 hz=>?_)
 obtain⟨x,H1,I1,r1,q1⟩:=hz
 obtain⟨c,rfl,q1⟩:=q1
 cases r1
 refine wpAny_truthy_bool ?_
 cases c with
 |true=>exact hb pins s1 σ H1 Q I1 q1
 |false=>exact⟨.bl false,H1,I1,rfl,q1⟩
end
def SqL(K:PySem.W.Frag)(H:Hp)(a:Addr)(xs:List V):Prop:=
 Rd H a (.lst xs)\/
  ∃(o:Obj) (its:Array Value) (n:Nat),K.lookup a=some o/\o.cls=.type "list"/\o.dict=none/\o.data=.seq its n/\its.size<=sizeLine/\cg xs its.toList
def SqT(K:PySem.W.Frag)(H:Hp)(a:Addr)(xs:List V):Prop:=
 Rd H a (.tup xs)\/
  ∃(o:Obj) (its:Array Value) (n:Nat),K.lookup a=some o/\o.cls=.type "tuple"/\o.data=.seq its n/\its.size<=sizeLine/\cg xs its.toList
def MQ:Value->Option V
 |.none=>some .non
 |.bool b=>some (.bl b)
 |.int i _=>some (.int i)
 |.str x _=>some (.str x)
 |.bytes b _=>some (.byt b)
 |.float b _=>some (.flt b)
 |.ref a=>some (.ref a)
 |.type n=>some (.ty n)
 |_=>none
theorem du.abs{x:V}{u:Value}(r:du x u):MQ u=some x:=by
 cases x with
 |non=>cases r;rfl
 |bl _=>cases r;rfl
 |int _=>obtain⟨t,rfl⟩:=r;rfl
 |str _=>obtain⟨t,rfl⟩:=r;rfl
 |byt _=>obtain⟨t,rfl⟩:=r;rfl
 |flt _=>obtain⟨t,rfl⟩:=r;rfl
 |ref _=>cases r;rfl
 |ty _=>cases r;rfl
theorem du.inj{x y:V}{u:Value}(r:du x u)(q:du y u):x=y:=Option.some.inj (r.abs.symm.trans q.abs)
theorem cg.inj:∀{xs ys:List V} {us:List Value},cg xs us->cg ys us->xs=ys
 |_,_,_,.nil,.nil=>rfl
 |_,_,_,.cons r t,.cons r' t'=>by rw[r.inj r',cg.inj t t']
section
variable{X:Cx}{pins:List (Addr×Obj)}{σ:St}{H:Hp}{s:Shared}{a:Addr}{xs ys:List V}
theorem SqL.of{K:PySem.W.Frag}(h:H a=some (.lst xs)):SqL K H a xs:=.inl (.inl h)
theorem SqT.of{K:PySem.W.Frag}(h:H a=some (.tup xs)):SqT K H a xs:=.inl (.inl h)
theorem Inv.list(I:Inv X pins σ H s)(h:SqL X.K H a xs):∃its:List Value,cg xs its/\PlainL s.heap a its.toArray/\xs.length<=sizeLine:=by
 rcases h with h|⟨o,its,n,hk,hc,hd,hs,hz,r⟩
 ·obtain⟨z,its,n,r,e⟩:=h.ok I.hok
  exact⟨its,r,⟨_,n,e,rfl,rfl,rfl⟩,z⟩
 ·refine⟨its.toList,r,⟨o,n,I.kIn a o hk,hc,hd,by simpa using hs⟩,?_⟩
  have e:=r.length
  simp only[Array.length_toList]at e
  omega
theorem Inv.tuple(I:Inv X pins σ H s)(h:SqT X.K H a xs):∃its:List Value,cg xs its/\IsTup s.heap a its.toArray/\xs.length<=sizeLine:=by
 rcases h with h|⟨o,its,n,hk,hc,hs,hz,r⟩
 ·obtain⟨z,its,r,p⟩:=h.ok I.hok
  exact⟨its,r,p,z⟩
 ·refine⟨its.toList,r,⟨o,I.kIn a o hk,hc,n,by simpa using hs⟩,?_⟩
  have e:=r.length
  simp only[Array.length_toList]at e
  omega
theorem Inv.list_inj(I:Inv X pins σ H s)(h:SqL X.K H a xs)(h':SqL X.K H a ys):xs=ys:=by
 obtain⟨its,r,⟨o,n,e,_,_,d⟩,_⟩:=I.list h
 obtain⟨its',r',⟨o',n',e',_,_,d'⟩,_⟩:=I.list h'
 rw[e]at e';cases e'
 rw[d]at d'
 injection d' with d1 _
 have:its=its':=by simpa using congrArg Array.toList d1
 subst this
 exact r.inj r'
theorem Inv.tuple_inj(I:Inv X pins σ H s)(h:SqT X.K H a xs)(h':SqT X.K H a ys):xs=ys:=by
 obtain⟨its,r,⟨o,e,_,n,d⟩,_⟩:=I.tuple h
 obtain⟨its',r',⟨o',e',_,n',d'⟩,_⟩:=I.tuple h'
 rw[e]at e';cases e'
 rw[d]at d'
 injection d' with d1 _
 have:its=its':=by simpa using congrArg Array.toList d1
 subst this
 exact r.inj r'
end
abbrev Cx.wish(X:Cx)(E:Value->Shared->Prop):Cx:={ X with xe:=E }
abbrev Cx.nox(X:Cx):Cx:=X.wish fun _ _=>False
theorem Cx.Ok.wish{X:Cx}(ok:X.Ok)(E:Value->Shared->Prop):(X.wish E).Ok:=
 ⟨ok.mod,ok.kind,ok.glob,ok.blt,ok.above,ok.inj,ok.has,ok.cab,ok.hd,ok.frames,ok.stk,ok.exf,ok.bs,ok.bsz,ok.noex,ok.exfs,ok.funs,ok.frf⟩
theorem Cx.Ok.unwish{X:Cx}{E:Value->Shared->Prop}(ok:(X.wish E).Ok):X.Ok:=
 ⟨ok.mod,ok.kind,ok.glob,ok.blt,ok.above,ok.inj,ok.has,ok.cab,ok.hd,ok.frames,ok.stk,ok.exf,ok.bs,ok.bsz,ok.noex,ok.exfs,ok.funs,ok.frf⟩
section
variable{X:Cx}{pins:List (Addr×Obj)}{σ:St}{H:Hp}{s:Shared}{E:Value->Shared->Prop}
theorem Inv.wish(I:Inv X pins σ H s)(E:Value->Shared->Prop):Inv (X.wish E) pins σ H s:=⟨I.ok.wish E,I.os,I.bare,I.base,I.loc,I.cell,I.free,I.freeC,I.pin,I.hok,I.len⟩
theorem Inv.unwish(I:Inv (X.wish E) pins σ H s):Inv X pins σ H s:=⟨I.ok.unwish,I.os,I.bare,I.base,I.loc,I.cell,I.free,I.freeC,I.pin,I.hok,I.len⟩
theorem SP.unwish{D:yy}{f:Flow}{s':Shared}(h:SP (X.wish E) pins D f s'):SP X pins D f s':=by
 cases f with
 |next=>obtain⟨σ',H',I,q⟩:=h;exact⟨σ',H',I.unwish,q⟩
 |brk=>obtain⟨σ',H',I,q⟩:=h;exact⟨σ',H',I.unwish,q⟩
 |cont=>obtain⟨σ',H',I,q⟩:=h;exact⟨σ',H',I.unwish,q⟩
 |ret u=>obtain⟨v,σ',H',I,r,q⟩:=h;exact⟨v,σ',H',I.unwish,r,q⟩
theorem PSs.nox{st:List Stmt}{t:TS}(h:PSs X.nox st t):PSs X st t:=fun pins s σ H D I hw=>
 wpAny_mono (h pins s σ H D (I.wish _) hw) (fun _ _ q=>q.unwish) fun _ _ z=>False.elim z
end
section
variable{X:Cx}{st:Stmt}{rest:List Stmt}{t u:TS}{e:Expr}{te:TE}{pos:Pos}
def Fx:TS:=fun D σ H=>D.nx σ H
def Lw(t u:TS):TS:=fun D σ H=>t { D with nx:=u D } σ H
theorem C0:PSs X [] Fx:=fun _ _ σ H _ I h=>wpAny_execs_nil ⟨σ,H,I,h⟩
theorem zt(h1:PS X st t)(h2:PSs X rest u):PSs X (st::rest) (Lw t u):=by
 intro pins s σ H D I h
 refine wpAny_execs_cons (thn (h1 pins s σ H { D with nx:=u D } I h) fun f s1 q=>?_)
 cases f with
 |next=>
  obtain⟨σ',H',I',q⟩:=q
  exact h2 pins s1 σ' H' D I' q
 |ret v=>exact q
 |brk=>exact q
 |cont=>exact q
theorem CZ(h1:PS X st t):PSs X [st] t:=by
 intro pins s σ H D I h
 refine wpAny_execs_cons (thn (h1 pins s σ H D I h) fun f s1 q=>?_)
 cases f with
 |next=>exact wpAny_execs_nil q
 |ret v=>exact q
 |brk=>exact q
 |cont=>exact q
theorem Inv.quiet{pins:List (Addr×Obj)}{σ:St}{H:Hp}{s:Shared}(I:Inv X pins σ H s):interactive X.env=false:=by simp[interactive,I.ok.kind]
def FA(te:TE):TS:=fun D σ H=>te σ H fun _ H1=>D.nx σ H1
theorem C1(he:PE X e te)(hs:swapsWith e none pos.line X.env=pure false:=by rfl):PS X (.Expr e pos) (FA te):=by
 intro pins s σ H D I h
 exact wpAny_Expr_any (thn (he pins s σ H _ I h) fun v s1 ⟨x,H1,I1,r1,q1⟩=>⟨σ,H1,I1,q1⟩) I.quiet hs
def Lx(te:TE):TS:=fun D σ H=>te σ H D.rt
theorem FZ(he:PE X e te):PS X (.Return (some e) pos) (Lx te):=by
 intro pins s σ H D I h
 exact wpAny_Return_some (thn (he pins s σ H _ I h) fun v s1 ⟨x,H1,I1,r1,q1⟩=>⟨x,σ,H1,I1,r1,q1⟩)
def LA(c:TT)(t u:TS):TS:=fun D σ H=>c σ H fun b H1=>if b=true then t D σ H1 else u D σ H1
theorem Kb{c:Expr}{a b:List Stmt}{tc:TT}(hc:PT X c tc)(ha:PSs X a t)(hb:PSs X b u):PS X (.If c a b pos) (LA tc t u):=by
 intro pins s σ H D I h
 refine wpAny_If (thn (hc pins s σ H _ I h) fun d s1 ⟨H1,I1,q1⟩=>?_)
 cases d with
 |true=>exact ha pins s1 σ H1 D I1 q1
 |false=>exact hb pins s1 σ H1 D I1 q1
end
abbrev TG:=V->St->Hp->(St->Hp->Prop)->Prop
abbrev TGs:=List V->St->Hp->(St->Hp->Prop)->Prop
def PG(X:Cx)(target:Expr)(t:TG):Prop:=
 ∀(pins:List (Addr×Obj)) (s:Shared) (σ:St) (H:Hp) (v:V) (u:Value) (Q:St->Hp->Prop),Inv X pins σ H s->du v u->t v σ H Q->
  wpAny (model X.prog X.w) X.A (assign target X.env u) (fun _ s'=>∃σ' H',Inv X pins σ' H' s'/\Q σ' H') X.xe s
def PGs(X:Cx)(ts:List Expr)(t:TGs):Prop:=
 ∀(pins:List (Addr×Obj)) (s:Shared) (σ:St) (H:Hp) (vs:List V) (us:List Value) (Q:St->Hp->Prop),Inv X pins σ H s->cg vs us->t vs σ H Q->
  wpAny (model X.prog X.w) X.A (assignInOrder ((assignEach ts X.env).map (·.2)) us) (fun _ s'=>∃σ' H',Inv X pins σ' H' s'/\Q σ' H') X.xe s
abbrev IF:=V->V->V->Hp->(Hp->Prop)->Prop
def Lo(X:Cx)(t:IF):Prop:=
 ∀(pins:List (Addr×Obj)) (s:Shared) (σ:St) (H:Hp) (o i v:V) (ov iv u:Value) (Q:Hp->Prop),Inv X pins σ H s->du o ov->du i iv->du v u->t o i v H Q->
  wpAny (model X.prog X.w) X.A (setItem ov iv u) (fun _ s'=>∃H',Inv X pins σ H' s'/\Q H') X.xe s
section
variable{X:Cx}{pos:Pos}
def uI(i:Nat):TG:=fun v σ H Q=>Q (σ.set i (some v)) H
theorem C9{i:Nat}{x:Str}(hN:X.N.Nodup)(hi:X.N[i]?=some x)(hx:Loc X.env.scope x)(hf:X.fn x=true\/X.env.scope.names.lookup x=some .local:=by first|exact .inl rfl|exact .inr rfl|assumption):PG X (.Name x pos) (uI i):=by
 intro pins s σ H v u Q I r h
 exact wpAny_assign_Name (su I hN hi hx r (fun s' I'=>⟨_,H,I',h⟩) hf)
def LW:TGs:=fun vs σ H Q=>vs=[]/\Q σ H
def HA(t:TG)(u:TGs):TGs:=fun vs σ H Q=>∃v r,vs=v::r/\t v σ H fun σ' H'=>u r σ' H' Q
theorem C8:PGs X [] LW:=by
 intro pins s σ H vs us Q I r h
 obtain⟨e,h⟩:=h
 subst e
 cases r
 exact assignInOrder_nil ⟨σ,H,I,h⟩
theorem zA{e:Expr}{es:List Expr}{t:TG}{u:TGs}(h1:PG X e t)(h2:PGs X es u)
  (hs:(assignEach (e::es) X.env).map (·.2)=assign e X.env::(assignEach es X.env).map (·.2):=by rfl):PGs X (e::es) (HA t u):=by
 intro pins s σ H vs us Q I r h
 obtain⟨v,vr,e1,h⟩:=h
 subst e1
 cases r with
 |cons r rr=>
  rw[hs]
  refine assignInOrder_cons (thn (h1 pins s σ H _ _ _ I r h) fun _ s1 hz=>?_)
  obtain⟨σ1,H1,I1,q1⟩:=hz
  exact h2 pins s1 σ1 H1 _ _ Q I1 rr q1
def LU(K:PySem.W.Frag)(n:Nat)(t:TGs):TG:=fun v σ H Q=>∃a xs,v=.ref a/\SqT K H a xs/\xs.length=n/\t xs σ H Q
theorem F5{es:List Expr}{k:Nat}{t:TGs}{n:Nat}(hc:X.calm=true)(h:PGs X es t)
  (hn:(assignEach es X.env).length=n:=by rfl) (hst:(assignEach es X.env).findIdx? (·.1)=none:=by rfl):PG X (.Tuple es k pos) (LU X.K n t):=by
 intro pins s σ H v u Q I r hw
 obtain⟨a,xs,e1,hq,hl,hw⟩:=hw
 subst e1
 cases r
 obtain⟨its,rv,ht,hz⟩:=I.tuple hq
 refine assign_Tuple_tuple (I.ok.hd hc) ht (by simp[hn,<-hl,rv.length]) hst fun h' hx=>?_
 have I1:Inv X pins σ H { s with heap:=h' }:=I.kept (t':=s.toks) fun b o e=>hx b o (Nat.ne_of_lt (Heap.lt_size e)) e
 exact h pins _ σ H xs _ Q I1 (by simpa using rv) hw
def LV(to ti:TE)(t:IF):TG:=fun v σ H Q=>to σ H fun o H1=>ti σ H1 fun i H2=>t o i v H2 fun H3=>Q σ H3
theorem F6{o i:Expr}{to ti:TE}{t:IF}(ho:PE X o to)(hi:PE X i ti)(hs:Lo X t)
  (ha:∀v,assign (.Subscript o i pos) X.env v=(do
   let ov <-holding [v] (eval o X.env)
   let iv <-holding [v,ov] (eval i X.env)
   standAt pos
   holding [v,ov,iv] (setItem ov iv v)
   release [v,ov,iv] []):=by intro _;rfl):PG X (.Subscript o i pos) (LV to ti t):=by
 intro pins s σ H v u Q I r h
 rw[ha]
 refine wpAny_bind (wpAny_holding (thn (ho pins s σ H _ I h) fun ov s1 hz=>?_))
 obtain⟨x,H1,I1,r1,q1⟩:=hz
 refine wpAny_bind (wpAny_holding (thn (hi pins s1 σ H1 _ I1 q1) fun iv s2 hz=>?_))
 obtain⟨y,H2,I2,r2,q2⟩:=hz
 refine wpAny_bind (wpAny_standAt (wpAny_bind (wpAny_holding (thn (hs pins s2 σ H2 x y v ov iv u _ I2 r1 r2 r q2) fun _ s3 ⟨H3,I3,q3⟩=>?_))))
 exact wpAny_release ⟨σ,H3,I3,q3⟩
def Ip(te:TE)(g:TG):TS:=fun D σ H=>te σ H fun x H1=>g x σ H1 D.nx
theorem F2{tg e:Expr}{te:TE}{g:TG}(he:PE X e te)(hg:PG X tg g)(hs:swapsWithSole [tg] e pos.line X.env=pure false:=by rfl)(hw:swappedStores [tg] e X.env=pure none:=by rfl)
  (h1:(assignEach [tg] X.env).map (·.2)=[assign tg X.env]:=by rfl):PS X (.Assign [tg] e pos) (Ip te g):=by
 intro pins s σ H D I h
 refine wpAny_Assign_stores (thn (he pins s σ H _ I h) fun v s1 hz=>?_) hs hw
 obtain⟨x,H1,I1,r1,q1⟩:=hz
 rw[h1]
 exact thn (hg pins s1 σ H1 x v _ I1 r1 q1) fun _ s2 q=>q
theorem FY{i:Nat}{x:Str}{e:Expr}{te:TE}{pos':Pos}(hN:X.N.Nodup)(hi:X.N[i]?=some x)(hx:Loc X.env.scope x)(he:PE X e te)(hs:swapsWith e (some (.Name x pos')) pos.line X.env=pure false:=by rfl)(hf:X.fn x=true\/X.env.scope.names.lookup x=some .local:=by first|exact .inl rfl|exact .inr rfl|assumption) :
  PS X (.Assign [.Name x pos'] e pos) (Ip te (uI i)):=by
 intro pins s σ H D I h
 refine wpAny_Assign_Name (thn (he pins s σ H _ I h) fun v s1 hz=>?_) hs
 obtain⟨y,H1,I1,r1,q1⟩:=hz
 exact su I1 hN hi hx r1 (fun s2 I2=>⟨_,H1,I2,q1⟩) hf
end
section
variable{X:Cx}{pos:Pos}
def vF(c:TT)(tb:TS):TS:=fun D σ H=>∃W:Nat->St->Hp->Prop,(∃m,W m σ H)/\∀m σ H,W m σ H->
 c σ H fun b H1=>if b=true then ∃N:St->Hp->Prop,(∀σ' H',N σ' H'->∃m',m'<m/\W m' σ' H')/\tb { D with nx:=N,ct:=N,bk:=D.nx } σ H1 else D.nx σ H1
theorem zu{c:Expr}{body:List Stmt}{tc:TT}{tb:TS}(hp:PassesOwn (model X.prog X.w) X.A X.env X.xe)(hc:PT X c tc)(hb:PSs X body tb):PS X (.While c body [] pos) (vF tc tb):=by
 intro pins s σ H D I h
 obtain⟨W,⟨m0,w0⟩,turn⟩:=h
 refine wpAny_While (codeAny_whileLoop (fun n s'=>∃σ' H',Inv X pins σ' H' s'/\W n σ' H') ?_ m0 ⟨σ,H,I,w0⟩)
 rintro n s1 ⟨σ1,H1,I1,w1⟩
 refine wpAny_passesOwn hp (thn (hc pins s1 σ1 H1 _ I1 (turn n σ1 H1 w1)) fun b s2 ⟨H2,I2,q2⟩=>?_)
 cases b with
 |true=>
  obtain⟨N,hN,q2⟩:=q2
  rw[if_pos rfl]
  refine wpAny_passesOwn hp (thn (hb pins s2 σ1 H2 _ I2 q2) fun f s3 q3=>?_)
  cases f with
  |next=>
   obtain⟨σ3,H3,I3,n3⟩:=q3
   obtain⟨m',hm,w3⟩:=hN σ3 H3 n3
   exact⟨m',hm,σ3,H3,I3,w3⟩
  |cont=>
   obtain⟨σ3,H3,I3,n3⟩:=q3
   obtain⟨m',hm,w3⟩:=hN σ3 H3 n3
   exact⟨m',hm,σ3,H3,I3,w3⟩
  |brk=>exact q3
  |ret v=>exact q3
 |false=>
  rw[if_neg Bool.false_ne_true]
  exact wpAny_execs_nil ⟨σ1,H2,I2,q2⟩
end
structure It where
 go:Nat->Hp->Prop
 yld:Nat->Hp->V->Hp->Prop
 stop:Nat->Hp->Prop
def u3(X:Cx)(pins:List (Addr×Obj))(H:Hp)(b:Addr):Prop:=
 H b=none/\b≠X.env.locals/\b∉X.fs/\(b∈X.ex\/X.s₀.heap.objs.size<=b)/\(∀x c,X.env.cells.lookup x=some c->c≠b)/\∀p∈X.pn++pins,p.1≠b
theorem Inv.fpOk{X:Cx}{pins:List (Addr×Obj)}{σ:St}{H H':Hp}{s:Shared}{b:Addr}(I:Inv X pins σ H s)(hb:s.heap.objs.size<=b)(hn:H' b=none):u3 X pins H' b:=by
 refine⟨hn,Nat.ne_of_gt (Nat.lt_of_lt_of_le I.lt hb),I.nofs hb,.inr (Nat.le_trans I.sz hb),fun x c e z=>?_,fun p hp z=>?_⟩
 ·obtain⟨v,q⟩:=I.cell x c e
  exact absurd (Nat.lt_of_lt_of_le q.lt (by rw[z];exact hb)) (Nat.lt_irrefl _)
 ·exact absurd (Nat.lt_of_lt_of_le (Heap.lt_size (I.pin p hp).1) (by rw[z];exact hb)) (Nat.lt_irrefl _)
structure En(P:Program)(w:World)(K:PySem.W.Frag)(tg:Expr)(J:It)(fp:List Addr)(it:Addr)(tn:Nat->Heap->Prop):Prop where
 mem:it∈fp
 obj:∀i h,tn i h->∀b∈fp,∃o,h.get? b=some o/\∀v,o.data≠.cell v
 keep:∀i h h',tn i h->(∀b∈fp,∀o,h.get? b=some o->h'.get? b=some o)->tn i h'
 item:∀(X:Cx),X.prog=P->X.w=w->X.K=K->X.calm=true->∀(i:Nat) (pins:List (Addr×Obj)) (s:Shared) (σ:St) (H:Hp) (E:Value->Shared->Prop),Inv X pins σ H s->(∀b∈fp,u3 X pins H b)->tn i s.heap->J.go i H->
  wpAny (model P w) X.A (pyNext (.ref it)) (fun r s1=>∃u,r=some u/\
   wpAny (model P w) X.A (letOwnedTupleGo tg (.ref it) u) (fun _ s2=>∃x H',Inv X pins σ H' s2/\du x u/\J.yld i H x H'/\tn (i+1) s2.heap/\∀b∈fp,H' b=none) E s1) E s
 done:∀(X:Cx),X.prog=P->X.w=w->X.K=K->X.calm=true->∀(i:Nat) (pins:List (Addr×Obj)) (s:Shared) (σ:St) (H:Hp) (E:Value->Shared->Prop),Inv X pins σ H s->(∀b∈fp,u3 X pins H b)->tn i s.heap->J.stop i H->
  wpAny (model P w) X.A (pyNext (.ref it)) (fun r s1=>r=none/\Inv X pins σ H s1) E s
 self:∀(A:Around) (i:Nat) (s:Shared) (Q:Value->Shared->Prop) (E:Value->Shared->Prop),tn i s.heap->Q (.ref it) s->wpAny (model P w) A (pyIter (.ref it)) Q E s
abbrev TI:=St->Hp->(It->Hp->Prop)->Prop
def PIE(X:Cx)(pins:List (Addr×Obj))(σ:St)(tg:Expr)(R:It->Hp->Prop)(itv:Value)(s2:Shared):Prop:=
 ∃(it:Addr) (fp:List Addr) (tn:Nat->Heap->Prop) (J:It) (H':Hp),itv=.ref it/\Inv X pins σ H' s2/\En X.prog X.w X.K tg J fp it tn/\tn 0 s2.heap/\(∀b∈fp,u3 X pins H' b)/\R J H'
def PI(X:Cx)(tg iter:Expr)(wi:TI):Prop:=
 ∀(pins:List (Addr×Obj)) (s:Shared) (σ:St) (H:Hp) (R:It->Hp->Prop),Inv X pins σ H s->wi σ H R->
  wpAny (model X.prog X.w) X.A (eval iter X.env) (fun v s1=>wpAny (model X.prog X.w) X.A (pyIter v) (PIE X pins σ tg R) X.xe s1) X.xe s
theorem Ac {M : Model} {A : Around} {E : Value -> Shared -> Prop} {s : Shared} {tg : Expr} {it : Addr} {u : Value} {o : Obj} {n : String} {vs : Array Value} {Q : Unit -> Shared -> Prop} (ho : s.heap.get? it = some o) (hc : o.cls = .type n) (hd : o.data = .fields vs)
    (hn:["enumerate","zip","dict_itemiterator","dict_reverseitemiterator","odict_iterator","itertools.zip_longest","itertools.pairwise"].contains n=false) (hQ:Q () s):wpAny M A (letOwnedTupleGo tg (.ref it) u) Q E s:=by
  unfold letOwnedTupleGo
  cases tg<;>first
    |exact wpAny_pure hQ
    | (cases u <;> first
        |exact wpAny_pure hQ
        | (refine wpAny_bind (wpAny_load ho ?_)
           rw[hc,hd]
           show wpAny M A (if (["enumerate","zip","dict_itemiterator","dict_reverseitemiterator","odict_iterator","itertools.zip_longest","itertools.pairwise"].contains n&&vs[0]? == some (rawInt _))=true then _ else _) Q E s
           rw[if_neg (by intro h;rw[hn,Bool.false_and]at h;cases h)]
           exact wpAny_pure hQ))
def Itl(K:PySem.W.Frag)(a:Addr):It:=
 ⟨fun i H=>∃xs x,SqL K H a xs/\xs[i]?=some x,fun i H x H'=>H'=H/\∀xs,SqL K H a xs->xs[i]?=some x,fun i H=>∃xs,SqL K H a xs/\xs.length<=i⟩
def Itt(K:PySem.W.Frag)(a:Addr):It:=
 ⟨fun i H=>∃xs x,SqT K H a xs/\xs[i]?=some x,fun i H x H'=>H'=H/\∀xs,SqT K H a xs->xs[i]?=some x,fun i H=>∃xs,SqT K H a xs/\xs.length<=i⟩
def Itr(lo:Int)(n:Nat):It:=⟨fun i _=>i<n,fun i H x H'=>H'=H/\x=.int (lo+i),fun i _=>n<=i⟩
theorem vD{P:Program}{w:World}{K:PySem.W.Frag}{tg:Expr}(a it:Addr):En P w K tg (Itl K a) [it] it (fun i h=>h.IsListIter it a i) where
 mem:=by simp
 obj:=fun i h st b hb=>by
  have e:b=it:=by simpa using hb
  subst e
  obtain⟨o,e,c,d⟩:=st
  exact⟨o,e,fun v z=>by rw[d]at z;cases z⟩
 keep:=fun i h h' st k=>st.at fun o e=>k it (by simp) o e
 item:=by
  intro X hP hw hK hc i pins s σ H E I hf st hg
  subst hP hw hK
  obtain⟨xs,x,hq,hx⟩:=hg
  obtain⟨its,rv,p,hz⟩:=I.list hq
  obtain⟨u,hu,ru⟩:=rv.get hx
  obtain⟨f0,f1,f2,f3,f4,f5⟩:=hf it (by simp)
  refine wpAny_pyNext_list_item st p.isList (x:=u) (by simpa using hu) fun h' st' sb=>?_
  have I1:Inv X pins σ H { s with heap:=h' }:=I.turned (t':=s.toks) (fun b o hb e=>(sb.2 b hb).trans e) f0 f1 f3 f4 f5
  obtain⟨o,e,c,d⟩:=id st'
  exact⟨u,rfl,Ac (s:={ s with heap:=h' }) e c d (by decide) ⟨x,H,I1,ru,⟨rfl,fun ys hy=>by rw[I.list_inj hy hq];exact hx⟩,st',fun b hb=>(hf b hb).1⟩⟩
 done:=by
  intro X hP hw hK hc i pins s σ H E I hf st hg
  subst hP hw hK
  obtain⟨xs,hq,hx⟩:=hg
  obtain⟨its,rv,p,hz⟩:=I.list hq
  obtain⟨f0,f1,f2,f3,f4,f5⟩:=hf it (by simp)
  have hl:=rv.length
  exact wpAny_pyNext_list_end (I.ok.hd hc) st p.isList (by simp;omega) fun h' eb=>⟨rfl,I.turned (t':=s.toks) (fun b o hb e=>eb b o hb e) f0 f1 f3 f4 f5⟩
 self:=fun _ _ _ _ _ st h=>wpAny_pyIter_listiter st h
theorem uk{P:Program}{w:World}{K:PySem.W.Frag}{tg:Expr}(a it:Addr):En P w K tg (Itt K a) [it] it (fun i h=>h.IsTupleIter it a i) where
 mem:=by simp
 obj:=fun i h st b hb=>by
  have e:b=it:=by simpa using hb
  subst e
  obtain⟨o,e,c,d⟩:=st
  exact⟨o,e,fun v z=>by rw[d]at z;cases z⟩
 keep:=fun i h h' st k=>st.at fun o e=>k it (by simp) o e
 item:=by
  intro X hP hw hK hc i pins s σ H E I hf st hg
  subst hP hw hK
  obtain⟨xs,x,hq,hx⟩:=hg
  obtain⟨its,rv,p,hz⟩:=I.tuple hq
  obtain⟨u,hu,ru⟩:=rv.get hx
  obtain⟨f0,f1,f2,f3,f4,f5⟩:=hf it (by simp)
  refine wpAny_pyNext_tuple_item st (show s.heap.IsTuple a its.toArray from p) (x:=u) (by simpa using hu) fun h' st' sb=>?_
  have I1:Inv X pins σ H { s with heap:=h' }:=I.turned (t':=s.toks) (fun b o hb e=>(sb.2 b hb).trans e) f0 f1 f3 f4 f5
  obtain⟨o,e,c,d⟩:=id st'
  exact⟨u,rfl,Ac (s:={ s with heap:=h' }) e c d (by decide) ⟨x,H,I1,ru,⟨rfl,fun ys hy=>by rw[I.tuple_inj hy hq];exact hx⟩,st',fun b hb=>(hf b hb).1⟩⟩
 done:=by
  intro X hP hw hK hc i pins s σ H E I hf st hg
  subst hP hw hK
  obtain⟨xs,hq,hx⟩:=hg
  obtain⟨its,rv,p,hz⟩:=I.tuple hq
  obtain⟨f0,f1,f2,f3,f4,f5⟩:=hf it (by simp)
  have hl:=rv.length
  exact wpAny_pyNext_tuple_end (I.ok.hd hc) st (show s.heap.IsTuple a its.toArray from p) (by simp;omega) fun h' eb=>⟨rfl,I.turned (t':=s.toks) (fun b o hb e=>eb b o hb e) f0 f1 f3 f4 f5⟩
 self:=fun _ _ _ _ _ st h=>wpAny_pyIter_tupleiter st h
theorem um{P:Program}{w:World}{K:PySem.W.Frag}{tg:Expr}(it:Addr)(lo:Int)(n:Nat):En P w K tg (Itr lo n) [it] it (fun i h=>IsRangeIter h it (lo+(i:Nat)*1) ((n:Int)-(i:Nat)) 1) where
 mem:=by simp
 obj:=fun i h st b hb=>by
  have e:b=it:=by simpa using hb
  subst e
  exact⟨_,st,fun v z=>by
   have z':Data.fields _=Data.cell v:=z
   cases z'⟩
 keep:=fun i h h' st k=>k it (by simp) _ st
 item:=by
  intro X hP hw hK hc i pins s σ H E I hf st hg
  subst hP hw hK
  obtain⟨f0,f1,f2,f3,f4,f5⟩:=hf it (by simp)
  have W:=Walks.range (prog:=X.prog) (w:=X.w) (I.ok.hd hc) it lo 1 n
  refine W.item i s _ _ hg st fun v h' tk hv st' kk=>?_
  obtain⟨t,rfl⟩:=hv
  have I1:Inv X pins σ H { s with heap:=h',toks:=tk }:=I.turned (fun b o hb e=>kk b o (by simpa using hb) e) f0 f1 f3 f4 f5
  refine⟨_,rfl,Ac (s:={ s with heap:=h',toks:=tk }) (n:="range_iterator") st' rfl rfl (by decide) ⟨.int (lo+i),H,I1,⟨t,?_⟩,⟨rfl,rfl⟩,st',fun b hb=>(hf b hb).1⟩⟩
  rw[Int.mul_one]
 done:=by
  intro X hP hw hK hc i pins s σ H E I hf st hg
  subst hP hw hK
  obtain⟨f0,f1,f2,f3,f4,f5⟩:=hf it (by simp)
  exact wpAny_pyNext_range_end (I.ok.hd hc) st (by have:n<=i:=hg;omega) fun h' eb=>⟨rfl,I.turned (t':=s.toks) (fun b o hb e=>eb b o hb e) f0 f1 f3 f4 f5⟩
 self:=fun _ _ _ _ _ st h=>wpAny_pyIter_rangeiter st h
section
variable{X:Cx}{tg:Expr}
def Hy(K:PySem.W.Frag)(tl:TE):TI:=fun σ H R=>tl σ H fun x H1=>∃a,x=.ref a/\(∃xs,SqL K H1 a xs)/\R (Itl K a) H1
def LS(K:PySem.W.Frag)(tl:TE):TI:=fun σ H R=>tl σ H fun x H1=>∃a,x=.ref a/\(∃xs,SqT K H1 a xs)/\R (Itt K a) H1
theorem C7{l:Expr}{tl:TE}(hl:PE X l tl):PI X tg l (Hy X.K tl):=by
 intro pins s σ H R I h
 refine thn (hl pins s σ H _ I h) fun v s1 hz=>?_
 obtain⟨x,H1,I1,r1,q1⟩:=hz
 obtain⟨a,e,⟨xs,hq⟩,q⟩:=q1
 subst e
 cases r1
 obtain⟨its,rv,p,hz⟩:=I1.list hq
 refine wpAny_pyIter_list p.isList ?_
 refine⟨s1.heap.objs.size,[s1.heap.objs.size],_,_,H1,rfl,I1.kept (t':=s1.toks) fun b o e=>Heap.get?_push_of_some _ e,vD a _,⟨_,Heap.get?_push_size _ rfl,rfl,rfl⟩,fun b hb=>?_,q⟩
 have e:b=s1.heap.objs.size:=by simpa using hb
 subst e
 exact I1.fpOk (Nat.le_refl _) (I1.hok.fresh (Nat.le_refl _))
theorem F4{l:Expr}{tl:TE}(hl:PE X l tl):PI X tg l (LS X.K tl):=by
 intro pins s σ H R I h
 refine thn (hl pins s σ H _ I h) fun v s1 hz=>?_
 obtain⟨x,H1,I1,r1,q1⟩:=hz
 obtain⟨a,e,⟨xs,hq⟩,q⟩:=q1
 subst e
 cases r1
 obtain⟨its,rv,p,hz⟩:=I1.tuple hq
 refine wpAny_pyIter_tuple (show s1.heap.IsTuple a its.toArray from p) ?_
 refine⟨s1.heap.objs.size,[s1.heap.objs.size],_,_,H1,rfl,I1.kept (t':=s1.toks) fun b o e=>Heap.get?_push_of_some _ e,uk a _,⟨_,Heap.get?_push_size _ rfl,rfl,rfl⟩,fun b hb=>?_,q⟩
 have e:b=s1.heap.objs.size:=by simpa using hb
 subst e
 exact I1.fpOk (Nat.le_refl _) (I1.hok.fresh (Nat.le_refl _))
theorem zf{pins:List (Addr×Obj)}{σ:St}{H:Hp}{s:Shared}{R:It->Hp->Prop}{E:Value->Shared->Prop}{lo hi:Int}{t u v:Tok}{tk:Nat}(I:Inv X pins σ H s)(h1:-(2^62)<=lo)(h2:lo<2^62)(h3:-(2^62)<=hi)(h4:hi<2^62)
  (q:R (Itr lo (hi-lo).toNat) H):wpAny (model X.prog X.w) X.A (pyIter (.ref s.heap.objs.size)) (PIE X pins σ tg R) E { s with heap:=s.heap.push { cls:=.type "range",data:=.fields #[.int lo t,.int hi u,.int 1 v] },toks:=tk }:=by
 refine wpAny_pyIter_range (IsRange.new ..) (small_one h1 h2 h3 h4) ?_
 have I1:Inv X pins σ H { s with heap:=s.heap.push { cls:=.type "range",data:=.fields #[.int lo t,.int hi u,.int 1 v] },toks:=tk }:=I.kept fun b o e=>Heap.get?_push_of_some _ e
 refine⟨(s.heap.push { cls:=.type "range",data:=.fields #[.int lo t,.int hi u,.int 1 v] }).objs.size,[(s.heap.push { cls:=.type "range",data:=.fields #[.int lo t,.int hi u,.int 1 v] }).objs.size],_,_,H,rfl,
  I1.kept (t':=tk) fun b o e=>Heap.get?_push_of_some _ e,um _ lo (hi-lo).toNat,?_,fun b hb=>?_,q⟩
 ·have e1:lo+((0:Nat):Int)*1=lo:=by simp
  have e2:(((hi-lo).toNat:Nat):Int)-((0:Nat):Int)=Builtin.Range.rangeSize lo hi 1:=by rw[rangeSize_one];split<;>omega
  show IsRangeIter _ _ (lo+((0:Nat):Int)*1) ((((hi-lo).toNat:Nat):Int)-((0:Nat):Int)) 1
  rw[e1,e2]
  exact Heap.get?_push_size _ rfl
 ·have e:b=(s.heap.push { cls:=.type "range",data:=.fields #[.int lo t,.int hi u,.int 1 v] }).objs.size:=by simpa using hb
  subst e
  exact I1.fpOk (Nat.le_refl _) (I1.hok.fresh (Nat.le_refl _))
def Hx(ta:TA):TI:=fun σ H R=>ta σ H fun vs H1=>∃j:Int,vs=[.int j]/\-(2^62)<=j/\j<2^62/\R (Itr 0 j.toNat) H1
theorem wm{a:Expr}{ta:TA}{p pos:Pos}(hg:Gl X "range")(hm:X.mg "range"=none)(ha:PA X [a] ta)(hs:starEach [a] X.env=[(false,eval a X.env)]:=by rfl):PI X tg (.Call (.Name "range" p) [a] [] pos) (Hx ta):=by
 intro pins s σ H R I h
 refine Call_ (nN I hg hm boot_range (PyProof.Rows.callWith_type1 (thn (ha pos pins s σ H _ I h) fun us s1 ⟨vs,H1,I1,r1,q1⟩=>?_) hs rfl))
 obtain⟨j,e,q1,q2,q⟩:=q1
 subst e
 cases r1 with
 |cons r rr=>
  cases rr
  obtain⟨t,rfl⟩:=r
  exact call_range_1 (zf I1 (by omega) (by omega) q1 q2 (by simpa using q))
def Io(wi:TI)(g:TG)(tb:TS):TS:=fun D σ H=>wi σ H fun J H1=>∃W:Nat->Nat->St->Hp->Prop,(∃m,W 0 m σ H1)/\∀i m σ H,W i m σ H->
 (J.stop i H/\D.nx σ H)\/(J.go i H/\∃N:St->Hp->Prop,(∀σ' H',N σ' H'->∃m',m'<m/\W (i+1) m' σ' H')/\∀x H',J.yld i H x H'->g x σ H' fun σ2 H2=>tb { D with nx:=N,ct:=N,bk:=D.nx } σ2 H2)
def sM(fp:List Addr)(h:Heap):List (Addr×Obj):=fp.filterMap fun b=>(h.get? b).map fun o=>(b,o)
theorem fh{fp:List Addr}{h:Heap}{b:Addr}{o:Obj}(hb:b∈fp)(e:h.get? b=some o):(b,o)∈sM fp h:=List.mem_filterMap.mpr ⟨b,hb,by rw[e];rfl⟩
theorem wC{fp:List Addr}{h:Heap}{p:Addr×Obj}(hp:p∈sM fp h):p.1∈fp/\h.get? p.1=some p.2:=by
 obtain⟨b,hb,e⟩:=List.mem_filterMap.mp hp
 cases q:h.get? b with
 |none=>rw[q]at e;cases e
 |some o=>
  rw[q]at e
  have e':(b,o)=p:=Option.some.inj e
  subst e'
  exact⟨hb,q⟩
theorem Inv.pinned{pins:List (Addr×Obj)}{σ:St}{H:Hp}{s:Shared}{fp:List Addr}(I:Inv X pins σ H s)(hf:∀b∈fp,u3 X pins H b)(ho:∀b∈fp,∃o,s.heap.get? b=some o/\∀v,o.data≠.cell v):Inv X (pins++sM fp s.heap) σ H s:=
 I.pins_of fun p hp=>(List.mem_append.mp hp).elim (fun z=>I.pin p (List.mem_append_right _ z)) fun z=>by
  obtain⟨hb,e⟩:=wC z
  obtain⟨f0,f1,f2,_⟩:=hf p.1 hb
  obtain⟨o,e',d⟩:=ho p.1 hb
  rw[e]at e';cases e'
  exact⟨e,f0,f1,f2,d⟩
theorem Inv.unpinned{pins pl:List (Addr×Obj)}{σ:St}{H:Hp}{s:Shared}(I:Inv X (pins++pl) σ H s):Inv X pins σ H s:=I.pins_of fun p hp=>I.pin p (List.mem_append_right _ (List.mem_append_left _ hp))
theorem F0{iter:Expr}{body:List Stmt}{wi:TI}{g:TG}{tb:TS}{pos:Pos}(hp:PassesOwn (model X.prog X.w) X.A X.env X.xe)(hc:X.calm=true)(hi:PI X tg iter wi)(hg:PG X tg g)(hb:PSs X body tb)
  (hs:∀x,foldedSetIterable iter X.env x=pure x:=by intro _;rfl):PS X (.For tg iter body [] pos) (Io wi g tb):=by
 intro pins s σ H D I h
 refine wpAny_For (thn (hi pins s σ H _ I h) fun v s1 h1=>thn h1 fun itv s2 h2=>?_) hs
 obtain⟨it,fp,tn,J,H2,e,I2,T,st2,f2,W,⟨m0,w0⟩,turn⟩:=h2
 subst e
 have stat:∀{H':Hp},(∀b∈fp,H' b=none)->∀b∈fp,u3 X pins H' b:=fun hn b hb=>⟨hn b hb,(f2 b hb).2⟩
 refine codeAny_forLoop_any (fun n s'=>∃i σ' H',Inv X pins σ' H' s'/\tn i s'.heap/\(∀b∈fp,H' b=none)/\W i n σ' H') ?_ m0 ⟨0,σ,H2,I2,st2,fun b hb=>(f2 b hb).1,w0⟩
 rintro n s3 ⟨i,σ3,H3,I3,st3,fr3,w3⟩
 rcases turn i n σ3 H3 w3 with⟨stop,qn⟩|⟨go,N,hN,step⟩
 ·refine wpAny_passesOwn hp (thn (T.done X rfl rfl rfl hc i pins s3 σ3 H3 X.xe I3 (stat fr3) st3 stop) fun r s4 ⟨hr,I4⟩=>?_)
  subst hr
  exact wpAny_execs_nil ⟨σ3,H3,I4,qn⟩
 ·refine wpAny_passesOwn hp (thn (T.item X rfl rfl rfl hc i pins s3 σ3 H3 X.xe I3 (stat fr3) st3 go) fun r s4 ⟨u,hr,h4⟩=>?_)
  subst hr
  refine wpAny_passesOwn hp (thn h4 fun _ s5 hz=>?_)
  obtain⟨x,H5,I5,r5,y5,st5,fr5⟩:=hz
  have I5':=I5.pinned (stat fr5) (T.obj _ _ st5)
  refine wpAny_passesOwn hp (thn (hg _ s5 σ3 H5 x u _ I5' r5 (step x H5 y5)) fun _ s6 hz=>?_)
  obtain⟨σ6,H6,I6,q6⟩:=hz
  refine wpAny_passesOwn hp (thn (hb _ s6 σ6 H6 _ I6 q6) fun f s7 q7=>?_)
  have again:∀{σ7:St} {H7:Hp},Inv X (pins++sM fp s5.heap) σ7 H7 s7->N σ7 H7->∃m,m<n/\∃i σ' H',Inv X pins σ' H' s7/\tn i s7.heap/\(∀b∈fp,H' b=none)/\W i m σ' H':=fun{σ7 H7} I7 n7=>by
   obtain⟨m',hm,w7⟩:=hN σ7 H7 n7
   refine⟨m',hm,i+1,σ7,H7,I7.unpinned,T.keep _ _ _ st5 fun b hb o e=>(I7.pin (b,o) (List.mem_append_right _ (List.mem_append_right _ (fh hb e)))).1,fun b hb=>?_,w7⟩
   obtain⟨o,e,d⟩:=T.obj _ _ st5 b hb
   exact(I7.pin (b,o) (List.mem_append_right _ (List.mem_append_right _ (fh hb e)))).2.1
  cases f with
  |next=>obtain⟨σ7,H7,I7,n7⟩:=q7;exact again I7 n7
  |cont=>obtain⟨σ7,H7,I7,n7⟩:=q7;exact again I7 n7
  |brk=>obtain⟨σ7,H7,I7,q7⟩:=q7;exact⟨σ7,H7,I7.unpinned,q7⟩
  |ret v=>obtain⟨x7,σ7,H7,I7,r7,q7⟩:=q7;exact⟨x7,σ7,H7,I7.unpinned,r7,q7⟩
end
abbrev R2:=V->V->Hp->VK->Prop
def OpR(X:Cx)(f:Value->Value->Sem Value)(r:R2):Prop:=
 ∀(pins:List (Addr×Obj)) (s:Shared) (σ:St) (H:Hp) (x y:V) (v u:Value) (Q:VK),Inv X pins σ H s->du x v->du y u->r x y H Q->
  wpAny (model X.prog X.w) X.A (f v u) (EP X pins σ Q) X.xe s
def gy(X:Cx)(f:Value)(r:List V->Hp->VK->Prop):Prop:=
 ∀(pins:List (Addr×Obj)) (s:Shared) (σ:St) (H:Hp) (xs:List V) (us:List Value) (Q:VK),Inv X pins σ H s->cg xs us->r xs H Q->
  wpAny (model X.prog X.w) X.A (call f us) (EP X pins σ Q) X.xe s
def tOp(r:R2)(ta tb:TE):TE:=fun σ H Q=>ta σ H fun x H1=>tb σ H1 fun y H2=>r x y H2 Q
def rI(C:Int->Int->Prop)(g:Int->Int->V):R2:=fun x y H Q=>∃i j,x=.int i/\y=.int j/\C i j/\Q (g i j) H
def rI0(g:Int->Int->V):R2:=fun x y H Q=>∃i j,x=.int i/\y=.int j/\Q (g i j) H
section
variable{X:Cx}{a b c:Expr}{ta tb tc:TE}{pos:Pos}
theorem Lk(ha:PE X a ta)(hb:PE X b tb){pins:List (Addr×Obj)}{s:Shared}{σ:St}{H:Hp}{R:V->V->Hp->Prop}(I:Inv X pins σ H s)
  (h:ta σ H fun x H1=>tb σ H1 fun y H2=>R x y H2) {Q:Value->Shared->Prop} {f:Value->Value->Sem Value}
  (hf:∀v u s2 x y H2,Inv X pins σ H2 s2->du x v->du y u->R x y H2->wpAny (model X.prog X.w) X.A (f v u) Q X.xe s2) :
  wpAny (model X.prog X.w) X.A (eval a X.env) (fun v s₁=>wpAny (model X.prog X.w) X.A (eval b X.env) (fun u s₂=>wpAny (model X.prog X.w) X.A (f v u) Q X.xe s₂) X.xe s₁) X.xe s:=by
 refine thn (ha pins s σ H _ I h) fun v s1 hz=>?_
 obtain⟨x,H1,I1,r1,q1⟩:=hz
 refine thn (hb pins s1 σ H1 _ I1 q1) fun u s2 hz=>?_
 obtain⟨y,H2,I2,r2,q2⟩:=hz
 exact hf v u s2 x y H2 I2 r1 r2 q2
theorem Ke{op:Operator}{r:R2}(ho:OpR X (binaryOp op) r)(ha:PE X a ta)(hb:PE X b tb):PE X (.BinOp a op b pos) (tOp r ta tb):=by
 intro pins s σ H Q I h
 exact wpAny_BinOp (Lk ha hb I h fun v u s2 x y H2 I2 rx ry q=>ho pins s2 σ H2 x y v u Q I2 rx ry q)
theorem opI{f:Value->Value->Sem Value}{C:Int->Int->Prop}{g:Int->Int->Int}
  (rule:∀(i j:Int) (t u:Tok) (s:Shared) (Q:Value->Shared->Prop) (E:Value->Shared->Prop),C i j->Q (.int (g i j) s.toks) { s with toks:=s.toks+1 }->wpAny (model X.prog X.w) X.A (f (.int i t) (.int j u)) Q E s) :
  OpR X f (rI C fun i j=>.int (g i j)):=by
 intro pins s σ H x y v u Q I rx ry h
 obtain⟨i,j,rfl,rfl,hc,q⟩:=h
 obtain⟨t,rfl⟩:=rx
 obtain⟨t',rfl⟩:=ry
 exact rule i j t t' s _ _ hc ⟨.int (g i j),H,I.tok _,⟨_,rfl⟩,q⟩
theorem LH{f:Value->Value->Sem Value}{g:Int->Int->Int}
  (rule:∀(i j:Int) (t u:Tok) (s:Shared) (Q:Value->Shared->Prop) (E:Value->Shared->Prop),Q (.int (g i j) s.toks) { s with toks:=s.toks+1 }->wpAny (model X.prog X.w) X.A (f (.int i t) (.int j u)) Q E s) :
  OpR X f (rI0 fun i j=>.int (g i j)):=by
 intro pins s σ H x y v u Q I rx ry h
 obtain⟨i,j,rfl,rfl,q⟩:=h
 obtain⟨t,rfl⟩:=rx
 obtain⟨t',rfl⟩:=ry
 exact rule i j t t' s _ _ ⟨.int (g i j),H,I.tok _,⟨_,rfl⟩,q⟩
theorem Kl{f:Value->Value->Sem Value}{g:Int->Int->Bool}
  (rule:∀(i j:Int) (t u:Tok) (s:Shared) (Q:Value->Shared->Prop) (E:Value->Shared->Prop),Q (.bool (g i j)) s->wpAny (model X.prog X.w) X.A (f (.int i t) (.int j u)) Q E s) :
  OpR X f (rI0 fun i j=>.bl (g i j)):=by
 intro pins s σ H x y v u Q I rx ry h
 obtain⟨i,j,rfl,rfl,q⟩:=h
 obtain⟨t,rfl⟩:=rx
 obtain⟨t',rfl⟩:=ry
 exact rule i j t t' s _ _ ⟨.bl (g i j),H,I,rfl,q⟩
def Eu(i j:Int):Prop:=0<=j/\j<=1000000/\i.natAbs<2^64
def yv(i j:Int):Prop:=(-(2^64)<i/\i<2^64)\/(-(2^64)<j/\j<2^64)
theorem yv.ok{i j:Int}(h:yv i j):IntMulOk i j:=by
 rcases h with⟨h1,h2⟩|⟨h1,h2⟩
 ·exact .of_left (intBits_le_64 h1 h2)
 ·exact .of_right (intBits_le_64 h1 h2)
theorem GB:OpR X (binaryOp .Add) (rI0 fun i j=>.int (i+j)):=LH fun _ _ _ _ _ _ _ q=>add_int q
theorem kI:OpR X (binaryOp .Sub) (rI0 fun i j=>.int (i-j)):=LH fun _ _ _ _ _ _ _ q=>sub_int q
theorem jr:OpR X (binaryOp .Mult) (rI yv fun i j=>.int (i*j)):=opI fun _ _ _ _ _ _ _ hc q=>mul_int q hc.ok
theorem kJ:OpR X (binaryOp .Mod) (rI (fun _ j=>0<j) fun i j=>.int (i % j)):=opI fun i j _ _ _ _ _ hc q=>by
 have h1:(0:Int)<j:=hc
 exact mod_int' (by omega) (by rw[Int.fmod_eq_emod_of_nonneg i (by omega)];exact q)
theorem A1:OpR X (binaryOp .Pow) (rI Eu fun i j=>.int (i^j.toNat)):=opI fun _ _ _ _ _ _ _ hc q=>pow_int_small hc.1 hc.2.1 hc.2.2 q
end
def J5:V->V->Bool
 |.non,.non=>true|.non,.int _=>true|.int _,.non=>true|.non,.bl _=>true|.bl _,.non=>true|.non,.str _=>true|.str _,.non=>true
 |.int _,.int _=>true|.bl _,.bl _=>true|.str _,.str _=>true|.byt _,.byt _=>true
 |.int _,.str _=>true|.str _,.int _=>true|.bl _,.str _=>true|.str _,.bl _=>true
 |_,_=>false
def rEq:R2:=fun x y H Q=>J5 x y=true/\Q (.bl (decide (x=y))) H
def rNe:R2:=fun x y H Q=>J5 x y=true/\Q (.bl (!decide (x=y))) H
theorem xP{i j:Int}:decide (V.int i=V.int j)=(i == j):=by
 rw[Bool.eq_iff_iff]
 simp
theorem Bh{i j:Bool}:decide (V.bl i=V.bl j)=(i == j):=by
 rw[Bool.eq_iff_iff]
 simp
theorem xO{i j:Str}:decide (V.str i=V.str j)=(i == j):=by
 rw[Bool.eq_iff_iff]
 simp
theorem xQ{i j:Array UInt8}:decide (V.byt i=V.byt j)=(i.toList == j.toList):=by
 rw[Bool.eq_iff_iff]
 cases i
 cases j
 simp
section
variable{X:Cx}{a b c:Expr}{ta tb tc:TE}{pos:Pos}
theorem bL{pins:List (Addr×Obj)}{σ:St}{H:Hp}{s:Shared}{Q:VK}{k k':Bool}(I:Inv X pins σ H s)(q:Q (.bl k) H)(e:k=k'):EP X pins σ Q (.bool k') s:=by
 subst e
 exact⟨.bl k,H,I,rfl,q⟩
theorem eN:OpR X (compareOp .Eq) rEq:=by
 intro pins s σ H x y v u Q I rx ry h
 obtain⟨hs,q⟩:=h
 cases x with
 |non=>
  cases rx
  cases y with
  |non=>cases ry;exact PySem.EqNone.eq_none_none (bL I q (by simp))
  |bl j=>cases ry;exact PySem.EqNone.eq_none_bool (bL I q (by simp))
  |int j=>obtain⟨t',rfl⟩:=ry;exact PySem.EqNone.eq_none_int (bL I q (by simp))
  |str j=>obtain⟨t',rfl⟩:=ry;exact PySem.EqNone.eq_none_str (bL I q (by simp))
  |_=>exact absurd (show false=true from hs) Bool.false_ne_true
 |bl i=>
  cases rx
  cases y with
  |non=>cases ry;exact PySem.EqNone.eq_bool_none (bL I q (by simp))
  |bl j=>cases ry;exact eq_bool (bL I q Bh)
  |str j=>obtain⟨t',rfl⟩:=ry;exact PySem.EqMixed.eq_bool_str (bL I q (by simp))
  |_=>exact absurd (show false=true from hs) Bool.false_ne_true
 |int i=>
  obtain⟨t,rfl⟩:=rx
  cases y with
  |non=>cases ry;exact PySem.EqNone.eq_int_none (bL I q (by simp))
  |int j=>obtain⟨t',rfl⟩:=ry;exact eq_int (bL I q xP)
  |str j=>obtain⟨t',rfl⟩:=ry;exact PySem.EqMixed.eq_int_str (bL I q (by simp))
  |_=>exact absurd (show false=true from hs) Bool.false_ne_true
 |str i=>
  obtain⟨t,rfl⟩:=rx
  cases y with
  |non=>cases ry;exact PySem.EqNone.eq_str_none (bL I q (by simp))
  |bl j=>cases ry;exact PySem.EqMixed.eq_str_bool (bL I q (by simp))
  |int j=>obtain⟨t',rfl⟩:=ry;exact PySem.EqMixed.eq_str_int (bL I q (by simp))
  |str j=>obtain⟨t',rfl⟩:=ry;exact eq_str (bL I q xO)
  |_=>exact absurd (show false=true from hs) Bool.false_ne_true
 |byt i=>
  obtain⟨t,rfl⟩:=rx
  cases y with
  |byt j=>obtain⟨t',rfl⟩:=ry;exact PySem.W.eq_bytes (bL I q xQ)
  |_=>exact absurd (show false=true from hs) Bool.false_ne_true
 |_=>cases y<;>exact absurd (show false=true from hs) Bool.false_ne_true
theorem qW:OpR X (compareOp .NotEq) rNe:=by
 intro pins s σ H x y v u Q I rx ry h
 obtain⟨hs,q⟩:=h
 cases x with
 |non=>
  cases rx
  cases y with
  |non=>cases ry;exact PySem.EqNone.ne_none_none (bL I q (by simp))
  |bl j=>cases ry;exact PySem.EqNone.ne_none_bool (bL I q (by simp))
  |int j=>obtain⟨t',rfl⟩:=ry;exact PySem.EqNone.ne_none_int (bL I q (by simp))
  |str j=>obtain⟨t',rfl⟩:=ry;exact PySem.EqNone.ne_none_str (bL I q (by simp))
  |_=>exact absurd (show false=true from hs) Bool.false_ne_true
 |bl i=>
  cases rx
  cases y with
  |non=>cases ry;exact PySem.EqNone.ne_bool_none (bL I q (by simp))
  |bl j=>cases ry;exact ne_bool (bL I q (congrArg not Bh))
  |str j=>obtain⟨t',rfl⟩:=ry;exact PySem.EqMixed.ne_bool_str (bL I q (by simp))
  |_=>exact absurd (show false=true from hs) Bool.false_ne_true
 |int i=>
  obtain⟨t,rfl⟩:=rx
  cases y with
  |non=>cases ry;exact PySem.EqNone.ne_int_none (bL I q (by simp))
  |int j=>obtain⟨t',rfl⟩:=ry;exact ne_int (bL I q (congrArg not xP))
  |str j=>obtain⟨t',rfl⟩:=ry;exact PySem.EqMixed.ne_int_str (bL I q (by simp))
  |_=>exact absurd (show false=true from hs) Bool.false_ne_true
 |str i=>
  obtain⟨t,rfl⟩:=rx
  cases y with
  |non=>cases ry;exact PySem.EqNone.ne_str_none (bL I q (by simp))
  |bl j=>cases ry;exact PySem.EqMixed.ne_str_bool (bL I q (by simp))
  |int j=>obtain⟨t',rfl⟩:=ry;exact PySem.EqMixed.ne_str_int (bL I q (by simp))
  |str j=>obtain⟨t',rfl⟩:=ry;exact ne_str (bL I q (congrArg not xO))
  |_=>exact absurd (show false=true from hs) Bool.false_ne_true
 |byt i=>
  obtain⟨t,rfl⟩:=rx
  cases y with
  |byt j=>obtain⟨t',rfl⟩:=ry;exact PySem.W.ne_bytes (bL I q (congrArg not xQ))
  |_=>exact absurd (show false=true from hs) Bool.false_ne_true
 |_=>cases y<;>exact absurd (show false=true from hs) Bool.false_ne_true
theorem kX:OpR X (compareOp .Lt) (rI0 fun i j=>.bl (decide (i<j))):=Kl fun _ _ _ _ _ _ _ q=>lt_int q
theorem qX:OpR X (compareOp .Gt) (rI0 fun i j=>.bl (decide (j<i))):=Kl fun _ _ _ _ _ _ _ q=>gt_int q
theorem Dr:OpR X (compareOp .GtE) (rI0 fun i j=>.bl (decide (j<=i))):=Kl fun _ _ _ _ _ _ _ q=>ge_int q
theorem A2:OpR X (compareOp .Is) (fun x y H Q=>y=.non/\Q (.bl (decide (x=.non))) H):=by
 intro pins s σ H x y v u Q I rx ry h
 obtain⟨rfl,q⟩:=h
 cases ry
 refine is_none_gen (bL I q ?_)
 cases x<;>first
  |(cases rx;rfl)
  |(obtain⟨t,rfl⟩:=rx;rfl)
theorem qV:OpR X (compareOp .IsNot) (fun x y H Q=>y=.non/\Q (.bl (!decide (x=.non))) H):=by
 intro pins s σ H x y v u Q I rx ry h
 obtain⟨rfl,q⟩:=h
 cases ry
 refine isnot_none_gen (bL I q ?_)
 cases x<;>first
  |(cases rx;rfl)
  |(obtain⟨t,rfl⟩:=rx;rfl)
theorem OpR.or{f:Value->Value->Sem Value}{r r':R2}(h:OpR X f r)(h':OpR X f r'):OpR X f (fun x y H Q=>r x y H Q\/r' x y H Q):=by
 intro pins s σ H x y v u Q I rx ry q
 rcases q with q|q
 ·exact h pins s σ H x y v u Q I rx ry q
 ·exact h' pins s σ H x y v u Q I rx ry q
theorem aM(b:Expr){op:CmpOp}(h:op≠.In:=by decide)(h2:op≠.NotIn:=by decide):behindInMarks op b=false:=by
 have e1:(op == CmpOp.In)=false:=by cases op<;>first|rfl|exact absurd rfl h
 have e2:(op == CmpOp.NotIn)=false:=by cases op<;>first|rfl|exact absurd rfl h2
 cases b<;>simp[behindInMarks,e1,e2]
theorem Df{op:CmpOp}{r:R2}(ho:OpR X (compareOp op) r)(ha:PE X a ta)(hb:PE X b tb)(hm:behindInMarks op b=false):PE X (.Compare a [op] [b] pos) (tOp r ta tb):=by
 intro pins s σ H Q I h
 exact wpAny_Compare1 (Lk ha hb I h fun v u s2 x y H2 I2 rx ry q=>ho pins s2 σ H2 x y v u Q I2 rx ry q) hm
def Fu(t:TE):TT:=fun σ H Q=>t σ H fun x H'=>∃k,x=.bl k/\Q k H'
theorem CY{op:CmpOp}{r:R2}(ho:OpR X (compareOp op) r)(ha:PE X a ta)(hb:PE X b tb)(hm:behindInMarks op b=false):PT X (.Compare a [op] [b] pos) (Fu (tOp r ta tb)):=by
 intro pins s σ H Q I h
 refine wpAny_isTrue_Compare1 (thn (ha pins s σ H _ I h) fun v s1 ⟨x,H1,I1,r1,q1⟩=>thn (hb pins s1 σ H1 _ I1 q1) fun u s2 ⟨y,H2,I2,r2,q2⟩=>
  thn (ho pins s2 σ H2 x y v u _ I2 r1 r2 q2) fun c s3 ⟨z,H3,I3,r3,k,e,q3⟩=>?_) hm
 subst e
 cases r3
 exact wpAny_truthy_bool ⟨H3,I3,q3⟩
theorem sX:(sizeLine:Nat)<2^63:=by rw[sizeLine_eq];decide
theorem ux:OpR X (binaryOp .Add) (fun x y H Q=>∃i j,x=.str i/\y=.str j/\i.length+j.length<=sizeLine/\Q (.str (i++j)) H):=by
 intro pins s σ H x y v u Q I rx ry h
 obtain⟨i,j,rfl,rfl,hz,q⟩:=h
 obtain⟨t,rfl⟩:=rx
 obtain⟨t',rfl⟩:=ry
 exact add_str (fun t' tk=>⟨.str (i++j),H,I.tok _,⟨_,rfl⟩,q⟩) hz
theorem m8{x:V}{us:List Value}(r:cg [x] us):∃u,us=[u]/\du x u:=by
 cases r with
 |cons r1 r2=>cases r2;exact⟨_,rfl,r1⟩
theorem JX{x y:V}{us:List Value}(r:cg [x,y] us):∃u w',us=[u,w']/\du x u/\du y w':=by
 cases r with
 |cons r1 r2=>
  cases r2 with
  |cons r3 r4=>cases r4;exact⟨_,_,rfl,r1,r3⟩
theorem x5(hc:X.calm=true):gy X (.builtin "min") (fun xs H Q=>∃i j,xs=[.int i,.int j]/\Q (.int (if j<i then j else i)) H):=by
 intro pins s σ H xs us Q I r h
 obtain⟨i,j,rfl,q⟩:=h
 obtain⟨u,w',rfl,⟨t,rfl⟩,⟨t',rfl⟩⟩:=JX r
 refine min_two_ints (I.ok.hd hc) fun h' tk k=>⟨_,H,I.kept k,?_,q⟩
 by_cases hj:j<i
 ·rw[if_pos hj,if_pos hj];exact⟨_,rfl⟩
 ·rw[if_neg hj,if_neg hj];exact⟨_,rfl⟩
theorem ya:gy X (.type "int") (fun xs H Q=>(∃i,xs=[.int i]/\Q (.int i) H)\/∃k,xs=[.bl k]/\Q (.int (if k then 1 else 0)) H):=by
 intro pins s σ H xs us Q I r h
 rcases h with⟨i,rfl,q⟩|⟨k,rfl,q⟩
 ·obtain⟨u,rfl,t,rfl⟩:=m8 r
  exact call_int_int ⟨.int i,H,I,⟨_,rfl⟩,q⟩
 ·obtain⟨u,rfl,r1⟩:=m8 r
  cases r1
  exact call_int_bool ⟨.int (if k then 1 else 0),H,I.tok _,⟨_,rfl⟩,q⟩
end
structure Eg(h:Heap)(x dx C:Addr)(mA:Str->Option Value):Prop where
 obj:h.get? x=some (PySem.W.instObj C dx)
 ns:h.Ns1 dx mA
 ne:dx≠x
theorem wU{h:Heap}{dx:Addr}{mA:Str->Option Value}(n:h.Ns1 dx mA):∃od,h.get? dx=some od/\∀name,PySem.W.lookIn name od=some (mA name):=by
 obtain⟨o,es,ep,ho,hd,hk,_,hm⟩:=n
 refine⟨o,ho,fun name=>?_⟩
 have e:=hm name
 unfold nsFind findBy at e
 rw[<-Array.find?_toList]at e
 unfold PySem.W.lookIn
 rw[hd]
 dsimp only
 split
 ·rename_i y q
  rw[q]at e
  exact congrArg some e
 ·rename_i q
  rw[q]at e
  have a:es.toList.any (·.refKey)=false:=by
   rw[List.any_eq_false]
   intro y hy
   obtain⟨z,t,hkey⟩:=hk y (Array.mem_toList_iff.mp hy)
   simp[DictEntry.refKey,hkey]
  have a':¬es.toList.any (·.refKey)=true:=by rw[a];exact Bool.false_ne_true
  rw[if_neg a']
  exact congrArg some e
theorem Eg.look{h:Heap}{x dx C:Addr}{mA:Str->Option Value}(I:Eg h x dx C mA):∃od,PySem.W.InstAt h x (PySem.W.instObj C dx) C (some od)/\∀name,PySem.W.lookIn name od=some (mA name):=
 let ⟨od,ho,hl⟩:=wU I.ns
 ⟨od,⟨I.obj,rfl,rfl,ho⟩,hl⟩
section
variable{prog:Program}{w:World}{A:Around}{E:Value->Shared->Prop}{s:Shared}{K:PySem.W.Frag}{x dx C f:Addr}{mA:Str->Option Value}{name:Str}{v:Value}
theorem DV{expr:Bool}{Q:Value->Shared->Prop}(X:K.In s.heap)(I:Eg s.heap x dx C mA)(hg:PySem.W.plainGet K C name=true)(hh:PySem.W.hasDictIn K C=true)
  (ha:PySem.W.findIn K (.ref C) name=some none) (hv:mA name=some v) (hv':PySem.W.handedIn v=true) (h:Q v { s with toks:=s.toks+1 }) :
  wpAny (model prog w) A (getAttr (.ref x) name expr) Q E s:=by
 obtain⟨od,J,hl⟩:=I.look
 exact PySem.W.get_value X J (PySem.W.plainGet_of hg).1 (PySem.W.findObj_own hh ha rfl (by rw[hl,hv])) hv' h
theorem Ae{pl:Sem Bool}{Q:Value×List Value->Shared->Prop}(X:K.In s.heap)(I:Eg s.heap x dx C mA)(hg:PySem.W.plainGet K C name=true)
  (hf:PySem.W.findIn K (.ref C) name=some (some (.ref f))) (ht:PySem.W.isFn K (.ref f)=true) (hv:mA name=none) (h:Q (.ref f,[.ref x]) s) :
  wpAny (model prog w) A (getMethod (.ref x) name pl) Q E s:=by
 obtain⟨od,J,hl⟩:=I.look
 exact PySem.W.method_fn X J (PySem.W.plainGet_of hg).1 (PySem.W.plainGet_of hg).2 hf (beq_iff_eq.mp ht) (by show(PySem.W.lookIn name od).map (·.isSome)=some false;rw[hl,hv];rfl) h
theorem CK{ns:List Str}{Q:Unit->Shared->Prop}(X:K.In s.heap)(I:Eg s.heap x dx C mA)
  (hs:PySem.W.findIn K (.ref C) "__setattr__"=some (some (.builtin "object.__setattr__"))) (hp:PySem.W.plainOver K C=true) (ht:PySem.W.takerIn K C name=some none) (hh:PySem.W.hasDictIn K C=true)
  (hw:PySem.Within mA ns) (hsz:ns.length<=sizeLine)
  (h:∀h',Eg h' x dx C (fun y=>if y=name then some v else mA y)->Heap.SameBut dx s.heap h'->Q () { s with heap:=h',toks:=s.toks+2 }) :
  wpAny (model prog w) A (setAttr (.ref x) name v) Q E s:=by
 obtain⟨od,J,hl⟩:=I.look
 refine PySem.W.set_plain X J hs (PySem.W.osa_open (s:={ s with toks:=s.toks+1 }) (r:=none) X J hp ht fun b=>?_)
 obtain⟨cd,hc,hd'⟩:=PySem.W.any_some hh
 have hx:s.heap.get? x=some ⟨.ref C,some dx,.plain,#[]⟩:=I.obj
 refine wpAny_bind (wpAny_pure (wpAny_bind (wpAny_bind (wpAny_loadPart hx (wpAny_bind (PySem.W.Looks.here (s:={ s with toks:=s.toks+1 }) (PySem.W.looks_clsIn X hc) ?_))))))
 rw[hd']
 refine wpAny_pure (a:=some dx) (wpAny_bind (wpAny_pure (wpAny_bind ?_)))
 refine wpAny_nsSet1 (s:={ s with toks:=s.toks+1 }) I.ns fun h' hn2 hs2=>?_
 obtain⟨oD,esD,epD,hoD,hdD,hcD⟩:=hn2.count (PySem.Within.cons name v hw)
 refine wpAny_bind (wpAny_lookBehind hoD (by rw[hdD];exact pastItsLine_dict (Nat.le_trans hcD (by rw[List.length_cons];omega))) ?_)
 exact wpAny_pure (h _ ⟨(hs2.2 _ (Ne.symm I.ne)).trans I.obj,hn2,I.ne⟩ hs2)
theorem zV{R:Result->Shared->Prop}{vs:List Value}{kw:List (Str×Value)}(X:K.In s.heap)(hm:PySem.W.makesIn K C=true)
  (hi:PySem.W.findIn K (.ref C) "__init__"=some (some (.ref f))) (hf:PySem.W.typeIn K (.ref f)=some (.type "function"))
  (h:codeAny (model prog w) (A.under (.builtin "type.__call__" ⟨.ref C::vs,kw⟩)) (.call (.ref f) ⟨.ref (s.heap.objs.size+1)::vs,kw⟩) (PySem.W.InitBack (s.heap.objs.size+1) R)
   { s with heap:=(s.heap.push PySem.W.emptyDict).push (PySem.W.instObj C s.heap.objs.size) }) :
  codeAny (model prog w) A (.call (.ref C) ⟨vs,kw⟩) R s:=by
 obtain⟨hh,g,d,t,os⟩:=s
 exact PySem.W.make_core (PySem.W.makes_of X hm) (PySem.W.looks_findIn X hi) (fun self=>PySem.W.bind_fn X self hf) (.inl rfl) h
end
def m9(f:Str)(v:V):List (Str×V)->List (Str×V)
 |[]=>[(f,v)]
 |(g,x)::r=>if g=f then(g,v)::r else(g,x)::m9 f v r
theorem iY(f g:Str)(v:V):∀fs:List (Str×V),(m9 f v fs).lookup g=if g=f then some v else fs.lookup g
 |[]=>by
  show List.lookup g [(f,v)]=_
  by_cases h:g=f
  ·have hb:(g == f)=true:=beq_iff_eq.mpr h
   simp only[List.lookup,hb,if_pos h]
  ·have hb:(g == f)=false:=beq_eq_false_iff_ne.mpr h
   simp only[List.lookup,hb,if_neg h]
 |(k,x)::r=>by
  have ih:=iY f g v r
  rw[show m9 f v ((k,x)::r)=(if k=f then(k,v)::r else(k,x)::m9 f v r)from rfl]
  by_cases hk:k=f
  ·rw[if_pos hk]
   by_cases h:g=k
   ·have hb:(g == k)=true:=beq_iff_eq.mpr h
    simp only[List.lookup,hb,if_pos (h.trans hk)]
   ·have hb:(g == k)=false:=beq_eq_false_iff_ne.mpr h
    simp only[List.lookup,hb,if_neg (fun e:g=f=>h (e.trans hk.symm))]
  ·rw[if_neg hk]
   by_cases h:g=k
   ·have hb:(g == k)=true:=beq_iff_eq.mpr h
    simp only[List.lookup,hb,if_neg (fun e:g=f=>hk (h.symm.trans e))]
   ·have hb:(g == k)=false:=beq_eq_false_iff_ne.mpr h
    simp only[List.lookup,hb]
    exact ih
theorem fv(f:Str)(v:V):∀fs:List (Str×V),f∈(m9 f v fs).map (·.1)/\∀g,g∈fs.map (·.1)->g∈(m9 f v fs).map (·.1)
 |[]=>⟨by simp[m9],fun g h=>by simp at h⟩
 |(k,x)::r=>by
  obtain⟨i1,i2⟩:=fv f v r
  rw[show m9 f v ((k,x)::r)=(if k=f then(k,v)::r else(k,x)::m9 f v r)from rfl]
  by_cases hk:k=f
  ·rw[if_pos hk]
   subst hk
   exact⟨by simp,fun g h=>by simpa using h⟩
  ·rw[if_neg hk]
   refine⟨?_,fun g h=>?_⟩
   ·rw[List.map_cons]
    exact List.mem_cons_of_mem _ i1
   ·rw[List.map_cons]at h ⊢
    rcases List.mem_cons.mp h with e|e
    ·exact List.mem_cons.mpr (.inl e)
    ·exact List.mem_cons_of_mem _ (i2 g e)
theorem mF(f:Str)(v:V):∀fs:List (Str×V),(m9 f v fs).length<=fs.length+1
 |[]=>by simp[m9]
 |(k,x)::r=>by
  have ih:=mF f v r
  rw[show m9 f v ((k,x)::r)=(if k=f then(k,v)::r else(k,x)::m9 f v r)from rfl]
  by_cases hk:k=f
  ·rw[if_pos hk,List.length_cons,List.length_cons];omega
  ·rw[if_neg hk,List.length_cons,List.length_cons];omega
theorem o6.some_of{v:V}{o:Option Value}(r:o6 (some v) o):∃u,o=some u/\du v u:=by
 cases o with
 |none=>exact(show False from r).elim
 |some u=>exact⟨u,rfl,r⟩
theorem o6.none_of{o:Option Value}(r:o6 none o):o=none:=by
 cases o with
 |none=>rfl
 |some u=>exact(show False from r).elim
theorem xn{v:V}{u:Value}(r:du v u):PySem.W.handedIn u=true:=by
 cases v with
 |non=>cases (show u=Value.none from r);rfl
 |bl b=>cases (show u=Value.bool b from r);rfl
 |int i=>obtain⟨t,e⟩:=(show ∃t,u=Value.int i t from r);cases e;rfl
 |str x=>obtain⟨t,e⟩:=(show ∃t,u=Value.str x t from r);cases e;rfl
 |byt b=>obtain⟨t,e⟩:=(show ∃t,u=Value.bytes b t from r);cases e;rfl
 |flt b=>obtain⟨t,e⟩:=(show ∃t,u=Value.float b t from r);cases e;rfl
 |ref a=>cases (show u=Value.ref a from r);rfl
 |ty n=>cases (show u=Value.type n from r);rfl
section
variable{P:Program}{w:World}{H H':Hp}{h h':Heap}{a C dx:Addr}{fs fs':List (Str×V)}
theorem rz(hok:HOk P w H h)(e:H a=some (.ins C dx fs)):∃mA,Eg h a dx C mA/\(∀f,o6 (fs.lookup f) (mA f))/\PySem.Within mA (fs.map (·.1))/\fs.length<=1000/\H dx=some (.own a):=by
 obtain⟨d,z,ne,ob,mA,n,r,q⟩:=(show cZ P w H h a (.ins C dx fs)from hok a _ e)
 exact⟨mA,⟨ob,n,ne⟩,r,q,z,d⟩
end
structure Cls(K:PySem.W.Frag)(C:Addr):Prop where
 pg:PySem.W.plainGet K C Str.empty=true
 hd:PySem.W.hasDictIn K C=true
 po:PySem.W.plainOver K C=true
 sa:PySem.W.findIn K (.ref C) "__setattr__"=some (some (.builtin "object.__setattr__"))
theorem Cls.get{K:PySem.W.Frag}{C:Addr}(c:Cls K C)(f:Str):PySem.W.plainGet K C f=true:=c.pg
def iP(K:PySem.W.Frag)(C:Addr)(f:Str):Prop:=PySem.W.findIn K (.ref C) f=some none
theorem iP.taker{K:PySem.W.Frag}{C:Addr}{f:Str}(n:iP K C f):PySem.W.takerIn K C f=some none:=by
 unfold PySem.W.takerIn
 rw[show PySem.W.findIn K (.ref C) f=some none from n]
 rfl
structure Eh(K:PySem.W.Frag)(C:Addr)(m:Str)(f:Addr):Prop where
 at_:PySem.W.findIn K (.ref C) m=some (some (.ref f))
 fn:PySem.W.isFn K (.ref f)=true
 kp:PySem.W.keepIn K (.ref f)=true
section
variable{X:Cx}{pins:List (Addr×Obj)}{σ:St}{H:Hp}{s:Shared}{a C dx:Addr}{fs:List (Str×V)}{f:Str}{v:V}{A:Around}{E:Value->Shared->Prop}
theorem uG{b:Bool}{Q:Value->Shared->Prop}(I:Inv X pins σ H s)(e:H a=some (.ins C dx fs))(c:Cls X.K C)(n:iP X.K C f)(l:fs.lookup f=some v)
  (h:∀u s',Inv X pins σ H s'->du v u->Q u s'):wpAny (model X.prog X.w) A (getAttr (.ref a) f b) Q E s:=by
 obtain⟨mA,O,r,_,_,_⟩:=rz I.hok e
 obtain⟨u,hu,ru⟩:=o6.some_of (v:=v) (o:=mA f) (by rw[<-l];exact r f)
 exact DV I.kIn O (c.get f) c.hd n hu (xn ru) (h u _ (I.tok _) ru)
theorem nT{m:Str}{g:Addr}{pl:Sem Bool}{Q:Value×List Value->Shared->Prop}(I:Inv X pins σ H s)(e:H a=some (.ins C dx fs))(c:Cls X.K C)(k:Eh X.K C m g)(l:fs.lookup m=none)
  (h:Q (.ref g,[.ref a]) s):wpAny (model X.prog X.w) A (getMethod (.ref a) m pl) Q E s:=by
 obtain⟨mA,O,r,_,_,_⟩:=rz I.hok e
 have hn:mA m=none:=o6.none_of (by rw[<-l];exact r m)
 exact Ae I.kIn O (c.get m) k.at_ k.fn hn h
theorem uu{y:V}{u:Value}{Q:Unit->Shared->Prop}(I:Inv X pins σ H s)(e:H a=some (.ins C dx fs))(c:Cls X.K C)(n:iP X.K C f)(hl:fs.length<1000)(ry:du y u)
  (h:∀s',Inv X pins σ (upd H a (.ins C dx (m9 f y fs))) s'->Q () s'):wpAny (model X.prog X.w) A (setAttr (.ref a) f u) Q E s:=by
 obtain⟨mA,O,r,wi,_,ho⟩:=rz I.hok e
 have hz:(fs.map (·.1)).length<=sizeLine:=by rw[List.length_map,sizeLine_eq];omega
 refine CK I.kIn O c.sa c.po n.taker c.hd wi hz fun h' O' sb=>h _ ?_
 have hd:∃o,h'.get? dx=some o:=let ⟨o,_,_,e',_⟩:=O'.ns;⟨o,e'⟩
 refine I.write (x:=a) (e:=dx) (by rw[e];exact True.intro) (.inr ho) (fun b q hb z=>(sb.2 b hb).trans z) hd ?_
 refine⟨by rw[bD O.ne];exact ho,?_,O.ne,O'.obj,_,O'.ns,fun g=>?_,fun g hg=>?_⟩
 ·have:=mF f y fs;omega
 ·show o6 ((m9 f y fs).lookup g) (if g=f then some u else mA g)
  rw[iY]
  by_cases q:g=f
  ·rw[if_pos q,if_pos q];exact ry
  ·rw[if_neg q,if_neg q];exact r g
 ·by_cases q:g=f
  ·rw[q];exact(fv f y fs).1
  ·refine(fv f y fs).2 g (wi g fun z=>hg ?_)
   show(if g=f then some u else mA g)=none
   rw[if_neg q];exact z
theorem Inv.made(I:Inv X pins σ H s):Inv X pins σ (upd (upd H s.heap.objs.size (.own (s.heap.objs.size+1))) (s.heap.objs.size+1) (.ins C s.heap.objs.size []))
  { s with heap:=(s.heap.push PySem.W.emptyDict).push (PySem.W.instObj C s.heap.objs.size) }:=by
 have e1:(s.heap.push PySem.W.emptyDict).get? s.heap.objs.size=some PySem.W.emptyDict:=Heap.get?_push_size s.heap rfl
 have e2:((s.heap.push PySem.W.emptyDict).push (PySem.W.instObj C s.heap.objs.size)).get? (s.heap.objs.size+1)=some (PySem.W.instObj C s.heap.objs.size):=by
  have:=Heap.get?_push_size (s.heap.push PySem.W.emptyDict) (o:=PySem.W.instObj C s.heap.objs.size) rfl
  rwa[Heap.size_push]at this
 have e3:(s.heap.push PySem.W.emptyDict).Ns s.heap.objs.size (fun _=>none):=⟨PySem.W.emptyDict,#[],_,e1,rfl,(fun e he=>absurd he (by simp)),fun _=>rfl⟩
 have I1:=I.laid (a:=s.heap.objs.size) (o:=.own (s.heap.objs.size+1)) (h':=s.heap.push PySem.W.emptyDict) (t':=s.toks) (fun b u q=>Heap.get?_push_of_some _ q) (Nat.le_refl _) ⟨_,e1⟩
 refine I1.laid (a:=s.heap.objs.size+1) (o:=.ins C s.heap.objs.size []) (t':=s.toks) (fun b u q=>Heap.get?_push_of_some _ q) (Nat.le_of_eq (Heap.size_push _ _)) ?_
 have ne:s.heap.objs.size≠s.heap.objs.size+1:=Nat.ne_of_lt (Nat.lt_succ_self _)
 refine⟨by rw[bD ne,aV],Nat.zero_le _,ne,e2,fun _=>none,(Heap.Ns1.of_empty e3).at fun o q=>Heap.get?_push_of_some _ q,fun _=>True.intro,fun y hy=>absurd rfl hy⟩
theorem Ed{prog:Program}{w:World}{env:Env}{e:Expr}{f:Str}{pos:Pos}{s:Shared}{Q:Value->Shared->Prop}(hb:attributeBase e f env (eval e env)=eval e env)
  (h:wpAny (model prog w) A (eval e env) (fun o s₁=>wpAny (model prog w) A (getAttr o f true) Q E s₁) E s):wpAny (model prog w) A (eval (.Attribute e f pos) env) Q E s:=
 Attribute_any_ h (by rw[arm_eval_Attribute,hb])
end
def LB(K:PySem.W.Frag)(ta:TE)(f:Str):TE:=fun σ H Q=>ta σ H fun x H1=>∃a C dx fs v,x=.ref a/\H1 a=some (.ins C dx fs)/\Cls K C/\iP K C f/\fs.lookup f=some v/\Q v H1
def LD(K:PySem.W.Frag)(ta tv:TE)(f:Str):TS:=fun D σ H=>tv σ H fun y H1=>ta σ H1 fun x H2=>∃a C dx fs,x=.ref a/\H2 a=some (.ins C dx fs)/\Cls K C/\iP K C f/\fs.length<1000/\
 D.nx σ (upd H2 a (.ins C dx (m9 f y fs)))
section
variable{X:Cx}{o e value:Expr}{f:Str}{pos pos' tpos:Pos}{ta tv:TE}
theorem Gm(he:PE X e ta)(hb:attributeBase e f X.env (eval e X.env)=eval e X.env):PE X (.Attribute e f pos) (LB X.K ta f):=by
 intro pins s σ H Q I h
 refine Ed hb (thn (he pins s σ H _ I h) fun u s1 hz=>?_)
 obtain⟨x,H1,I1,rx,a,C,dx,fs,v,ex,ea,c,n,l,q⟩:=hz
 subst ex
 obtain rfl:u=Value.ref a:=rx
 exact uG I1 ea c n l fun u' s2 I2 ru=>⟨v,H1,I2,ru,q⟩
theorem F1(ha:PE X o ta)(hv:PE X value tv)(hs:swapsWith value (some (.Attribute o f pos')) pos.line X.env=pure false):PS X (.Assign [.Attribute o f pos'] value pos) (LD X.K ta tv f):=by
 intro pins s σ H D I h
 refine plainObj_wpAny_Assign_Attribute (thn (hv pins s σ H _ I h) fun u s1 ⟨y,H1,I1,ry,q⟩=>thn (ha pins s1 σ H1 _ I1 q) fun ov s2 hz=>?_) hs
 obtain⟨x,H2,I2,rx,a,C,dx,fs,ex,ea,c,n,l,q2⟩:=hz
 subst ex
 obtain rfl:ov=Value.ref a:=rx
 exact uu I2 ea c n l ry fun s3 I3=>⟨σ,_,I3,q2⟩
end
structure gz(k:Nat)(A:Around):Prop where
 hd:A.handled=none
 dp:A.depth+3*k+5<recursionLimit
 un:A.units+16*k+200<cLine
 gd:A.guards=some []
theorem gz.mono{j k:Nat}{A:Around}(r:gz k A)(h:j<=k):gz j A:=⟨r.hd,by have:=r.dp;omega,by have:=r.un;omega,r.gd⟩
theorem gz.deeper{k:Nat}{A:Around}(r:gz (k+1) A)(env:Env):gz k (A.deeper env):=
 ⟨r.hd,by have:=r.dp;show A.depth+1+3*k+5<_;omega,by have:=r.un;show A.units+3+16*k+200<_;omega,r.gd⟩
theorem uA{A:Around}{C:Addr}{us:List Value}{kw:List (Str×Value)}:(A.under (.builtin "type.__call__" ⟨.ref C::us,kw⟩)).depth=A.depth+1:=by
 first|rfl|simp[Around.under,Code.weight,Code.isCreation,Code.isGuard,Code.isCaller,Code.frames,Code.isFrame,guardIds]
theorem uz{A:Around}{C:Addr}{us:List Value}{kw:List (Str×Value)}:(A.under (.builtin "type.__call__" ⟨.ref C::us,kw⟩)).units=A.units+1:=by
 first|rfl|simp[Around.under,Code.cUnits,Code.frames,Code.isFrame]
theorem gz.make{k:Nat}{A:Around}(r:gz (k+1) A)(C:Addr)(us:List Value)(kw:List (Str×Value)):gz k (A.under (.builtin "type.__call__" ⟨.ref C::us,kw⟩)):=
 ⟨r.hd,by have:=r.dp;rw[uA];omega,by have:=r.un;rw[uz];omega,r.gd⟩
theorem gz.depth{k:Nat}{A:Around}(r:gz k A):A.depth<recursionLimit:=by have:=r.dp;omega
theorem gz.units{k:Nat}{A:Around}(r:gz k A):A.units+64<cLine:=by have:=r.un;omega
def Im:TA:=fun _ H Q=>Q [] H
def FD(ta:TE)(tr:TA):TA:=fun σ H Q=>ta σ H fun x H1=>tr σ H1 fun xs H2=>Q (x::xs) H2
section
variable{X:Cx}{e:Expr}{es:List Expr}{te:TE}{t:TA}{pos:Pos}
theorem Gs:PA X [] Im:=fun _ _ _ _ H Q I h=>Calls.spliced_nil ⟨[],H,I,.nil,h⟩
theorem Dh(ha:PE X e te)(hr:PA X es t)(hs:starEach (e::es) X.env=(false,eval e X.env)::starEach es X.env:=by rfl):PA X (e::es) (FD te t):=by
 intro pos pins s σ H Q I h
 rw[hs]
 show wpAny _ _ (spliced ((false,eval e X.env)::backTo pos (starEach es X.env))) _ _ s
 refine Calls.spliced_cons (thn (ha pins s σ H _ I h) fun u s1 hz=>?_)
 obtain⟨x,H1,I1,r1,q1⟩:=hz
 exact thn (hr pos pins s1 σ H1 _ I1 q1) fun us s2 ⟨xs,H2,I2,r2,q2⟩=>⟨x::xs,H2,I2,.cons r1 r2,q2⟩
def Lv(t:TA):TE:=fun σ H Q=>t σ H fun xs H1=>xs.length<=sizeLine/\∀p,H1 p=none->Q (.ref p) (upd H1 p (.tup xs))
def Lz(t:TA):TE:=fun σ H Q=>t σ H fun xs H1=>xs.length<=sizeLine/\∀p,H1 p=none->Q (.ref p) (upd H1 p (.lst xs))
theorem F8{x1}(h:PA X es t):PE X (.Tuple es x1 pos) (Lv t):=by
 intro pins s σ H Q I hq
 refine wpAny_Tuple_spliced (thn (h pos pins s σ H _ I hq) fun us s1 ⟨xs,H1,I1,r,z,q⟩=>⟨by rw[<-r.length];exact z,?_⟩)
 have hf:H1 s1.heap.objs.size=none:=I1.hok.fresh (Nat.le_refl _)
 refine⟨.ref s1.heap.objs.size,upd H1 s1.heap.objs.size (.tup xs),I1.laid (t':=s1.toks) (fun b u e=>Heap.get?_push_of_some _ e) (Nat.le_refl _) ?_,rfl,q _ hf⟩
 exact⟨z,us,r,⟨_,Heap.get?_push_size _ rfl,rfl,_,rfl⟩⟩
theorem Gj(h:PA X es t):PE X (.List es pos) (Lz t):=by
 intro pins s σ H Q I hq
 refine wpAny_List_spliced (thn (h pos pins s σ H _ I hq) fun us s1 ⟨xs,H1,I1,r,z,q⟩=>⟨by rw[<-r.length];exact z,?_⟩)
 have hf:H1 s1.heap.objs.size=none:=I1.hok.fresh (Nat.le_refl _)
 refine⟨.ref s1.heap.objs.size,upd H1 s1.heap.objs.size (.lst xs),I1.laid (t':=s1.toks) (fun b u e=>Heap.get?_push_of_some _ e) (Nat.le_refl _) ?_,rfl,q _ hf⟩
 exact⟨z,us,0,r,Heap.get?_push_size _ rfl⟩
end
abbrev Sp:=List V->Hp->VK->XK->Prop
abbrev CXT:=List Env->Hp->Shared->XK->Value->Shared->Prop
structure Ei(P:Program)(w:World)(K:PySem.W.Frag)(mg:Str->Option Value)(base:Heap)(A:Around)(outer:List Env)(s:Shared)(H:Hp):Prop where
 frames:A.frames=some outer
 mod:Mod K mg base
 bs:∀b o,base.get? b=some o->s.heap.get? b=some o/\H b=none
 bsz:base.objs.size<=s.heap.objs.size
 funs:s.heap.FunFrames base outer
 frf:∀b∈frs outer,H b=none
 hok:HOk P w H s.heap
 bare:AllBare s.gens
def CE(outer:List Env)(P:Program)(w:World)(H:Hp)(s:Shared)(Q:VK)(u:Value)(s':Shared):Prop:=
 ∃v H',s'.os=s.os/\AllBare s'.gens/\Un (frs outer) [] H H' s.heap s'.heap/\HOk P w H' s'.heap/\du v u/\Q v H'
def CR(CX:CXT)(outer:List Env)(P:Program)(w:World)(H:Hp)(s:Shared)(Q:VK)(E:XK)(r:Result)(s':Shared):Prop:=
 match r with
 |.ok (.ret u)=>CE outer P w H s Q u s'
 |.ok _=>False
 |.error e=>CX outer H s E e s'
structure kT(P:Program)(w:World)(K:PySem.W.Frag)(mg:Str->Option Value)(base:Heap)(CX:CXT)(k:Nat)(f:Addr)(fd:FuncData)(ps:List Str)(sp:Sp):Prop where
 len:∀vs H Q E,sp vs H Q E->vs.length=ps.length
 run:∀(A:Around) (outer:List Env) (s:Shared) (H:Hp) (args:Args) (us:List Value) (vs:List V) (Q:VK) (E:XK),gz k A->Ei P w K mg base A outer s H->BindsTo s fd args (ps.zip us)->cg vs us->sp vs H Q E->
  codeAny (model P w) A (.call (.ref f) args) (CR CX outer P w H s Q E) s
theorem kT.mono{P:Program}{w:World}{K:PySem.W.Frag}{mg:Str->Option Value}{base:Heap}{CX:CXT}{j k:Nat}{f:Addr}{fd:FuncData}{ps:List Str}{sp:Sp}(F:kT P w K mg base CX j f fd ps sp)(h:j<=k) :
  kT P w K mg base CX k f fd ps sp:=⟨F.len,fun A outer s H args us vs Q E hr=>F.run A outer s H args us vs Q E (hr.mono h)⟩
theorem Ei.make{P:Program}{w:World}{K:PySem.W.Frag}{mg:Str->Option Value}{base:Heap}{A:Around}{outer:List Env}{s:Shared}{H:Hp}(e:Ei P w K mg base A outer s H)(C:Addr)(us:List Value)(kw:List (Str×Value)) :
  Ei P w K mg base (A.under (.builtin "type.__call__" ⟨.ref C::us,kw⟩)) outer s H:=⟨by first|exact e.frames|(simpa [Around.under,Code.envs,Code.isFrame,pushEnvs] using e.frames),e.mod,e.bs,e.bsz,e.funs,e.frf,e.hok,e.bare⟩
section
variable{X:Cx}{pins:List (Addr×Obj)}{σ:St}{H:Hp}{s s':Shared}
theorem Inv.env0(I:Inv X pins σ H s):Ei X.prog X.w X.K X.mg X.base X.A X.stack s H:=
 ⟨I.ok.frames,I.ok.mod,I.bs,Nat.le_trans I.ok.bsz I.sz,I.stack,I.stkFree,I.hok,I.bare⟩
theorem Inv.after{Q:VK}{u:Value}(I:Inv X pins σ H s)(h:CE X.stack X.prog X.w H s Q u s'):EP X pins σ Q u s':=by
 obtain⟨v,H',os,bare,un,hok,r,q⟩:=h
 obtain⟨hh,g,d,t,os'⟩:=s'
 obtain rfl:os'=s.os:=os
 exact⟨v,H',I.call (h':=hh) (g':=g) (d':=d) (t':=t) (ch:=[]) un hok bare (fun b z=>absurd z (by simp)),r,q⟩
end
def FE(sp:Sp)(dvs:List V)(E:XK)(t:TA):TE:=fun σ H Q=>t σ H fun vs H1=>sp (vs++dvs) H1 Q E
def vI(C:Addr)(m:Str)(sp:Sp)(dvs:List V)(E:XK)(ta:TE)(t:TA):TE:=fun σ H Q=>ta σ H fun x H1=>∃a dx fs,x=.ref a/\H1 a=some (.ins C dx fs)/\fs.lookup m=none/\
 t σ H1 fun vs H2=>sp (x::(vs++dvs)) H2 Q E
def Cw(C:Addr)(sp:Sp)(dvs:List V)(E:XK)(t:TA):TE:=fun σ H Q=>t σ H fun vs H1=>∀x dx,H1 x=none->H1 dx=none->dx≠x->
 sp (.ref x::(vs++dvs)) (upd (upd H1 dx (.own x)) x (.ins C dx [])) (fun v H2=>v=.non/\Q (.ref x) H2) E
def gQ(K:PySem.W.Frag)(fd:FuncData)(ps:List Str)(ds:List Value):Prop:=
 ∀(s:Shared) (us:List Value),K.In s.heap->(us++ds).length=ps.length->BindsTo s fd ⟨us,[]⟩ (ps.zip (us++ds))
theorem gQ.all{K:PySem.W.Frag}{fd:FuncData}{ps:List Str}(h:∀us:List Value,us.length=ps.length->bindArgs fd ⟨us,[]⟩=pure (ps.zip us)):gQ K fd ps []:=fun s us _ hl=>by
 rw[List.append_nil]at hl ⊢
 exact .of_eq (h us hl)
def iM(CX:CXT)(X:Cx)(E:XK):Prop:=∀(pins:List (Addr×Obj)) (σ:St) (H:Hp) (s:Shared) (e:Value) (s':Shared),Inv X pins σ H s->CX X.stack H s E e s'->X.xe e s'
section
variable{X:Cx}{CX:CXT}{k:Nat}{f C:Addr}{fd:FuncData}{ps:List Str}{sp:Sp}{dvs:List V}{ds:List Value}{E:XK}{x m:Str}{p pos apos:Pos}{e o:Expr}{es:List Expr}{ta:TE}{t:TA}
theorem vP{pins:List (Addr×Obj)}{σ:St}{H:Hp}{s:Shared}{Q:VK}{us:List Value}{vs:List V}(F:kT X.prog X.w X.K X.mg X.base CX k f fd ps sp)(hr:gz k X.A)(hb:gQ X.K fd ps ds)(hd:cg dvs ds)(hx:iM CX X E)
  (I:Inv X pins σ H s) (r:cg vs us) (h:sp (vs++dvs) H Q E):wpAny (model X.prog X.w) X.A (call (.ref f) us) (EP X pins σ Q) X.xe s:=by
 have r2:cg (vs++dvs) (us++ds):=r.append hd
 have hl:(us++ds).length=ps.length:=by rw[<-r2.length];exact F.len _ _ _ _ h
 refine wpAny_call (codeAny_mono (F.run X.A X.stack s H ⟨us,[]⟩ (us++ds) (vs++dvs) Q E hr I.env0 (hb s us I.kIn hl) r2 h) fun r s' hq=>?_)
 cases r with
 |error e=>exact hx pins σ H s e s' I hq
 |ok fl=>
  cases fl with
  |ret u=>exact I.after hq
  |next=>exact False.elim hq
  |brk=>exact False.elim hq
  |cont=>exact False.elim hq
theorem Dg(F:kT X.prog X.w X.K X.mg X.base CX k f fd ps sp)(hr:gz k X.A)(hg:Gl X x)(hm:X.mg x=some (.ref f))(hk:PySem.W.keepIn X.K (.ref f)=true)(hb:gQ X.K fd ps ds)(hd:cg dvs ds)(hx:iM CX X E)
  (ha:PA X (e::es) t) (hdb:(x == ("__debug__":Str))=false:=by decide) (he:starEach (e::es) X.env=(false,eval e X.env)::starEach es X.env:=by rfl) (hpl:(backTo pos (starEach es X.env)).any (·.1)=false:=by rfl) :
  PE X (.Call (.Name x p) (e::es) [] pos) (FE sp dvs E t):=by
 intro pins s σ H Q I h
 refine wpAny_Call_Name_kw (wW I hg hm ?_ hdb)
 refine PySem.W.callWith_K (h₀:=X.base) I.ok.mod.kin hk (thn (ha pos pins s σ H _ I h) fun us s1 ⟨vs,H1,I1,r,q⟩=>⟨I1.kIn,?_⟩) he hpl
 exact vP F hr hb hd hx I1 r q
theorem Dc{pl:Sem Bool}(he:PE X o ta)(c:Cls X.K C)(hm:Eh X.K C m f)(F:kT X.prog X.w X.K X.mg X.base CX k f fd ps sp)(hr:gz k X.A)(hb:gQ X.K fd ps ds)(hd:cg dvs ds)(hx:iM CX X E)(ha:PA X (e::es) t)
  (hst:starEach (e::es) X.env=(false,eval e X.env)::starEach es X.env:=by rfl) (hpl:(backTo pos (starEach es X.env)).any (·.1)=false:=by rfl)
  (ht:eval (.Call (.Attribute o m apos) (e::es) [] pos) X.env=(do
   let ov <-eval o X.env
   standAt apos.atName
   let (f,first) <-holding [ov] (getMethod ov m pl)
   callWith pos f first (backTo pos (starEach (e::es) X.env)) (backToKw pos (keywordEach [] X.env))):=by rfl) :
  PE X (.Call (.Attribute o m apos) (e::es) [] pos) (vI C m sp dvs E ta t):=by
 intro pins s σ H Q I h
 refine PySem.W.methodCall_KW (pl:=pl) (thn (he pins s σ H _ I h) fun u s1 hz=>?_) ht
 obtain⟨x,H1,I1,rx,a,dx,fs,ex,ea,l,q⟩:=hz
 subst ex
 obtain rfl:u=Value.ref a:=rx
 refine nT I1 ea c hm l ?_
 refine PySem.W.callWith_K (first:=[.ref a]) (h₀:=X.base) I.ok.mod.kin hm.kp (thn (ha pos pins s1 σ H1 _ I1 q) fun us s2 ⟨vs,H2,I2,r,q2⟩=>⟨I2.kIn,?_⟩) hst hpl
 exact vP (us:=.ref a::us) (vs:=.ref a::vs) F hr hb hd hx I2 (.cons rfl r) q2
theorem zC{pl:Sem Bool}(he:PE X o ta)(c:Cls X.K C)(hm:Eh X.K C m f)(F:kT X.prog X.w X.K X.mg X.base CX k f fd ps sp)(hr:gz k X.A)(hb:gQ X.K fd ps ds)(hd:cg dvs ds)(hx:iM CX X E)
  (ht:eval (.Call (.Attribute o m apos) [] [] pos) X.env=(do
   let ov <-eval o X.env
   standAt apos.atName
   let (f,first) <-holding [ov] (getMethod ov m pl)
   callWith pos f first (backTo pos (starEach [] X.env)) (backToKw pos (keywordEach [] X.env))):=by rfl) :
  PE X (.Call (.Attribute o m apos) [] [] pos) (vI C m sp dvs E ta Im):=by
 intro pins s σ H Q I h
 refine PySem.W.methodCall_KW (pl:=pl) (thn (he pins s σ H _ I h) fun u s1 hz=>?_) ht
 obtain⟨x,H1,I1,rx,a,dx,fs,ex,ea,l,q⟩:=hz
 subst ex
 obtain rfl:u=Value.ref a:=rx
 refine nT I1 ea c hm l ?_
 exact PySem.W.callWith_K0 (first:=[.ref a]) I1.kIn hm.kp (vP (us:=[.ref a]) (vs:=[.ref a]) F hr hb hd hx I1 (.cons rfl .nil) q)
structure Mk(K:PySem.W.Frag)(C f:Addr):Prop where
 makes:PySem.W.makesIn K C=true
 init:PySem.W.findIn K (.ref C) "__init__"=some (some (.ref f))
 fn:PySem.W.isFn K (.ref f)=true
 kp:PySem.W.keepIn K (.ref C)=true
theorem zc{pins:List (Addr×Obj)}{σ:St}{H:Hp}{s:Shared}{Q:VK}{us:List Value}{vs:List V}(M:Mk X.K C f)(F:kT X.prog X.w X.K X.mg X.base CX k f fd ps sp)(hr:gz (k+1) X.A)(hb:gQ X.K fd ps ds)(hd:cg dvs ds)
  (hx:iM CX X E) (I:Inv X pins σ H s) (r:cg vs us)
  (h:∀x dx,H x=none->H dx=none->dx≠x->sp (.ref x::(vs++dvs)) (upd (upd H dx (.own x)) x (.ins C dx [])) (fun v H2=>v=.non/\Q (.ref x) H2) E) :
  wpAny (model X.prog X.w) X.A (call (.ref C) us) (EP X pins σ Q) X.xe s:=by
 have hq:=h (s.heap.objs.size+1) s.heap.objs.size (I.hok.fresh (Nat.le_succ _)) (I.hok.fresh (Nat.le_refl _)) (Nat.ne_of_lt (Nat.lt_succ_self _))
 have I2:=Inv.made (C:=C) I
 have r2:cg (V.ref (s.heap.objs.size+1)::(vs++dvs)) (Value.ref (s.heap.objs.size+1)::(us++ds)):=.cons rfl (r.append hd)
 have hl:(Value.ref (s.heap.objs.size+1)::us++ds).length=ps.length:=by
  have e:=r2.length
  rw[F.len _ _ _ _ hq]at e
  exact e.symm
 refine wpAny_call (zV (f:=f) I.kIn M.makes M.init (beq_iff_eq.mp M.fn) (codeAny_mono (F.run _ X.stack _ _ ⟨Value.ref (s.heap.objs.size+1)::us,[]⟩ (Value.ref (s.heap.objs.size+1)::(us++ds)) _ _ E (hr.make C us [])
  (I2.env0.make C us []) (hb _ (Value.ref (s.heap.objs.size+1)::us) I2.kIn hl) r2 hq) fun r s' hq'=>?_))
 cases r with
 |error e=>exact hx pins σ _ _ e s' I2 hq'
 |ok fl=>
  cases fl with
  |ret u=>
   obtain⟨v,H',I3,rv,ev,q3⟩:=I2.after hq'
   subst ev
   exact⟨rv,⟨V.ref (s.heap.objs.size+1),H',I3,rfl,q3⟩⟩
  |next=>exact False.elim hq'
  |brk=>exact False.elim hq'
  |cont=>exact False.elim hq'
theorem Dd(M:Mk X.K C f)(F:kT X.prog X.w X.K X.mg X.base CX k f fd ps sp)(hr:gz (k+1) X.A)(hg:Gl X x)(hm:X.mg x=some (.ref C))(hb:gQ X.K fd ps ds)(hd:cg dvs ds)(hx:iM CX X E)
  (ha:PA X (e::es) t) (hdb:(x == ("__debug__":Str))=false:=by decide) (he:starEach (e::es) X.env=(false,eval e X.env)::starEach es X.env:=by rfl) (hpl:(backTo pos (starEach es X.env)).any (·.1)=false:=by rfl) :
  PE X (.Call (.Name x p) (e::es) [] pos) (Cw C sp dvs E t):=by
 intro pins s σ H Q I h
 refine wpAny_Call_Name_kw (wW I hg hm ?_ hdb)
 refine PySem.W.callWith_K (h₀:=X.base) I.ok.mod.kin M.kp (thn (ha pos pins s σ H _ I h) fun us s1 ⟨vs,H1,I1,r,q⟩=>⟨I1.kIn,?_⟩) he hpl
 exact zc M F hr hb hd hx I1 r q
end
structure aN(N P:List Str)(sc:Scope):Prop where
 kind:sc.kind=.function
 co:sc.isCoroutine=false
 gen:sc.isGenerator=false
 nd:N.Nodup
 pre:N.take P.length=P
 par:∀x∈P,sc.names.lookup x=some .local\/sc.names.lookup x=some .cell
 nofree:∀y∈sc.names,y.2≠.free
theorem qt{kindOf:Str->Option NameKind}{x:Str}:∀{binds:List (Str×Value)} {m:Str->Option Value},(∀v,(x,v)∉binds)->bindL kindOf binds m x=m x
 |[],_,_=>rfl
 |(n,v)::r,m,h=>by
  unfold bindL
  rw[qt fun w hw=>h w (List.mem_cons_of_mem _ hw)]
  split
  ·have:x≠n:=by rintro rfl;exact h v List.mem_cons_self
   simp[this]
  ·rfl
theorem qv{kindOf:Str->Option NameKind}{x:Str}:∀{binds:List (Str×Value)} {m:Str->Option Value},(∀v,(x,v)∉binds)->bindC kindOf binds m x=m x
 |[],_,_=>rfl
 |(n,v)::r,m,h=>by
  unfold bindC
  rw[qv fun w hw=>h w (List.mem_cons_of_mem _ hw)]
  split
  ·rfl
  ·have:x≠n:=by rintro rfl;exact h v List.mem_cons_self
   simp[this]
theorem qu{kindOf:Str->Option NameKind}{x:Str}{v:Value}:∀{P:List Str} {vs:List Value} {i:Nat} {m:Str->Option Value},P.Nodup->P[i]?=some x->vs[i]?=some v->kindOf x=some .local->
  bindL kindOf (P.zip vs) m x=some v
 |[],_,_,_,_,h,_,_=>by simp at h
 |_::_,[],_,_,_,_,h,_=>by simp at h
 |p::P,w::vs,0,m,nd,h1,h2,hk=>by
  simp at h1 h2;subst h1;subst h2
  show bindL kindOf ((p,w)::P.zip vs) m p=_
  unfold bindL
  rw[qt fun v hv=>(List.nodup_cons.mp nd).1 (List.of_mem_zip hv).1,if_pos hk]
  simp
 |p::P,w::vs,i+1,m,nd,h1,h2,hk=>by
  show bindL kindOf ((p,w)::P.zip vs) m x=_
  unfold bindL
  exact qu (i:=i) (List.nodup_cons.mp nd).2 (by simpa using h1) (by simpa using h2) hk
theorem qw{kindOf:Str->Option NameKind}{x:Str}{v:Value}:∀{P:List Str} {vs:List Value} {i:Nat} {m:Str->Option Value},P.Nodup->P[i]?=some x->vs[i]?=some v->kindOf x≠some .local->
  bindC kindOf (P.zip vs) m x=some v
 |[],_,_,_,_,h,_,_=>by simp at h
 |_::_,[],_,_,_,_,h,_=>by simp at h
 |p::P,w::vs,0,m,nd,h1,h2,hk=>by
  simp at h1 h2;subst h1;subst h2
  show bindC kindOf ((p,w)::P.zip vs) m p=_
  unfold bindC
  rw[qv fun v hv=>(List.nodup_cons.mp nd).1 (List.of_mem_zip hv).1,if_neg hk]
  simp
 |p::P,w::vs,i+1,m,nd,h1,h2,hk=>by
  show bindC kindOf ((p,w)::P.zip vs) m x=_
  unfold bindC
  exact qw (i:=i) (List.nodup_cons.mp nd).2 (by simpa using h1) (by simpa using h2) hk
def jf(N:List Str)(vs:List V):St:=vs.map some++List.replicate (N.length-vs.length) none
def tW(CX:CXT)(P:Program)(w:World)(K:PySem.W.Frag)(mg:Str->Option Value)(base:Heap)(N:List Str)(qual:Str)(scope:Scope)(f:Addr)(cd:Value)(A:Around)(outer:List Env)(s:Shared)(H:Hp)(E:XK):Cx where
 prog:=P
 w:=w
 K:=K
 mg:=mg
 base:=base
 A:=A.deeper (envOfC qual scope s.heap.objs.size f cd)
 N:=N
 s₀:=s
 H₀:=H
 env:=envOfC qual scope s.heap.objs.size f cd
 outer:=outer
 stack:=envOfC qual scope s.heap.objs.size f cd::outer
 ex:=[]
 calm:=true
 fn:=fun _=>true
 pn:=[]
 xe:=fun e s'=>wpAny (model P w) (A.deeper (envOfC qual scope s.heap.objs.size f cd)) (leaving (envOfC qual scope s.heap.objs.size f cd) e) (fun _ s''=>CX outer H s E e s'') (fun e' s''=>CX outer H s E e' s'') s'
theorem t6{sc:Scope}{n:Nat}{x:Str}(h:sc.names.lookup x=some .cell):∃c,(cellsFrom n sc.names []).lookup x=some c:=by
 have q:=PySem.W.cellsFrom_some sc.names n [] (.inl h)
 exact Option.isSome_iff_exists.mp q
theorem xi{CX:CXT}{P:Program}{w:World}{K:PySem.W.Frag}{mg:Str->Option Value}{base:Heap}{N ps:List Str}{qual:Str}{scope:Scope}{f:Addr}{cd:Value}{A:Around}{outer:List Env}{s s1:Shared}{H:Hp}{E:XK}{us:List Value}{vs:List V}
  (S:aN N ps scope) (hd:A.handled=none) (e0:Ei P w K mg base A outer s H) (hl:vs.length=ps.length) (r:cg vs us)
  (x:InCallC s s.heap.objs.size (bindL (envOfC qual scope s.heap.objs.size f cd).kindOf (ps.zip us) fun _=>none) (cellsFrom (s.heap.objs.size+1) scope.names []) (bindC (envOfC qual scope s.heap.objs.size f cd).kindOf (ps.zip us) fun _=>none) s1) :
  Inv (tW CX P w K mg base N qual scope f cd A outer s H E) [] (jf N vs) H s1:=by
 have hpl:ps.length<=N.length:=by have:=congrArg List.length S.pre;rw[List.length_take]at this;omega
 obtain⟨h1,tk,rfl,hk⟩:=x.done
 have noA:∀b:Addr,b∉(tW CX P w K mg base N qual scope f cd A outer s H E).ex:=fun b z=>absurd (show b∈([]:List Addr)from z) (by simp)
 refine⟨⟨e0.mod,S.kind,rfl,rfl,Nat.le_refl _,fun y z c h1 h2=>?_,fun y hy=>?_,fun y c _ h=>?_,fun _=>hd,Around.frames_deeper e0.frames,.inr ⟨rfl,rfl⟩,fun b z=>absurd z (noA b),e0.bs,e0.bsz,fun b _ _=>noA b,fun b z=>absurd z (noA b),e0.funs,e0.frf⟩,
  rfl,e0.bare,Un.kept hk,⟨_,x.toInCall.ns,fun i y v h1 h2 h3=>?_⟩,fun y c h=>⟨_,x.cell y c h⟩,e0.hok.fresh (Nat.le_refl _),fun y c h=>?_,fun p hp=>absurd (show p∈([]:List (Addr×Obj))from hp) (by simp),e0.hok.kept hk,?_⟩
 ·exact name_of_addr x.apart (PySem.mem_of_lookup h1) (PySem.mem_of_lookup h2)
 ·have hy:scope.names.lookup y=some .cell\/scope.names.lookup y=some .free:=hy
  rcases hy with hy|hy
  ·exact t6 hy
  ·exact absurd rfl (S.nofree _ (PySem.mem_of_lookup hy))
 ·exact Nat.le_of_lt (x.above y c (PySem.mem_of_lookup h))
 ·have hi:i<vs.length:=by
   unfold jf at h2
   by_cases hi:i<vs.length
   ·exact hi
   ·rw[List.getElem?_append_right (by simpa using hi)]at h2
    rw[List.getElem?_replicate]at h2
    split at h2<;>cases h2
  have ha:vs[i]?=some v:=by
   unfold jf at h2
   rw[List.getElem?_append_left (by simpa using hi),List.getElem?_map]at h2
   cases e:vs[i]? with
   |none=>rw[e]at h2;cases h2
   |some a=>rw[e]at h2;cases h2;rfl
  obtain⟨u,hu,rv⟩:=r.get ha
  have hp:ps[i]?=some y:=by
   rw[<-S.pre,List.getElem?_take_of_lt (by omega)];exact h1
  have ndP:ps.Nodup:=by rw[<-S.pre];exact S.nd.sublist (List.take_sublist _ _)
  refine⟨u,rv,?_⟩
  rcases S.par y (List.mem_of_getElem? hp)with k|k
  ·exact .inl ⟨k,qu ndP hp hu k⟩
  ·obtain⟨c,e⟩:=t6 (n:=s.heap.objs.size+1) k
   refine .inr ⟨.inl k,c,e,?_⟩
   have q:=x.cell y c e
   rw[qw ndP hp hu (by show scope.names.lookup y≠_;rw[k];decide)]at q
   exact q
 ·exact e0.hok.fresh (Nat.le_of_lt (x.above y c (PySem.mem_of_lookup h)))
 ·unfold jf
  show _=N.length
  rw[List.length_append,List.length_map,List.length_replicate]
  omega
theorem Ld{CX:CXT}{P:Program}{w:World}{K:PySem.W.Frag}{mg:Str->Option Value}{base:Heap}{k:Nat}{f:Addr}{name qual:Str}{params:Arguments}{body:List Stmt}{scope:Scope}{dV kV doc pm cdv ct oc:Value}{an od:Option Addr}
  {osl:Array (Option Value)} {N ps:List Str} {sp:Sp} (lk:K.lookup f=some ⟨oc,od,.func (PySem.W.fnOf name qual params body scope dV kV doc pm an cdv ct),osl⟩) (hcd:PySem.W.codeIn K cdv qual=true) (S:aN N ps scope)
  (len:∀vs H Q E,sp vs H Q E->vs.length=ps.length)
  (hbody:∀(A:Around) (outer:List Env) (s:Shared) (H:Hp) (vs:List V) (Q:VK) (E:XK),gz k (A.deeper (envOfC qual scope s.heap.objs.size f cdv))->sp vs H Q E->
   ∃t,PSs (tW CX P w K mg base N qual scope f cdv A outer s H E) body t/\t { nx:=fun _ H'=>Q .non H',rt:=Q } (jf N vs) H) :
  kT P w K mg base CX (k+1) f (PySem.W.fnOf name qual params body scope dV kV doc pm an cdv ct) ps sp:=by
 refine⟨len,fun A outer s H args us vs Q E hr e0 hb r hsp=>?_⟩
 have hl:=len _ _ _ _ hsp
 have KX:K.In s.heap:=e0.mod.kin.keeps fun b o e=>(e0.bs b o e).1
 have lim:s.heap.NoLimit:=e0.mod.nolimit.keeps fun b o e=>(e0.bs b o e).1
 have hkind:∀y∈ps.zip us,scope.names.lookup y.1=some .local\/(scope.names.lookup y.1=some .cell/\((cellsFrom (s.heap.objs.size+1) scope.names []).lookup y.1).isSome=true):=fun⟨n,v⟩ hy=>by
  rcases S.par n (List.of_mem_zip hy).1 with q|q
  ·exact .inl q
  ·exact .inr ⟨q,PySem.W.cellsFrom_some _ _ _ (.inl q)⟩
 refine codeAny_call_function hr.depth (KX _ _ lk) rfl S.co S.gen rfl (PySem.W.codeRec_of KX hcd) (hb _ _ _ _ ?_)
 refine wpAny_newFunctionEnv_cells S.kind hkind fun env he s1 x=>?_
 subst he
 refine⟨lim.keeps x.toInCall.keep,codeAny_func ?_⟩
 obtain⟨t,ht,hq⟩:=hbody A outer s H vs Q E (hr.deeper _) hsp
 have I:Inv (tW CX P w K mg base N qual scope f cdv A outer s H E) [] (jf N vs) H s1:=xi S hr.hd e0 hl r x
 refine wpAny_mono (ht [] s1 (jf N vs) H _ I hq) (fun fl s' hs=>?_) fun e s' hs=>hs
 have fin:∀{σ':St} {H':Hp} {v:V} {u:Value},Inv (tW CX P w K mg base N qual scope f cdv A outer s H E) [] σ' H' s'->du v u->Q v H'->CE outer P w H s Q u s':=
  fun{σ' H' v u} J rv q=>⟨v,H',J.os,J.bare,J.base,J.hok,rv,q⟩
 cases fl with
 |ret u=>
  obtain⟨v,σ',H',J,rv,q⟩:=hs
  exact fin J rv q
 |next=>
  obtain⟨σ',H',J,q⟩:=hs
  exact fin (v:=V.non) (u:=Value.none) J rfl q
 |brk=>
  obtain⟨_,_,_,q⟩:=hs
  exact False.elim q
 |cont=>
  obtain⟨_,_,_,q⟩:=hs
  exact False.elim q
section
variable{X:Cx}{x:Str}{p pos:Pos}{e:Expr}{es:List Expr}{t:TA}{id T:String}{r:List V->Hp->VK->Prop}
def tCB(r:List V->Hp->VK->Prop)(t:TA):TE:=fun σ H Q=>t σ H fun vs H1=>r vs H1 Q
theorem zE(hc:gy X (.builtin id) r)(hg:Gl X x)(hm:X.mg x=none)(hv:bootBuiltins x=some (.builtin id))(ha:PA X (e::es) t)(hn:x≠"__name__":=by decide)(hdb:(x == ("__debug__":Str))=false:=by decide)
  (he:starEach (e::es) X.env=(false,eval e X.env)::starEach es X.env:=by rfl) (hpl:(backTo pos (starEach es X.env)).any (·.1)=false:=by rfl):PE X (.Call (.Name x p) (e::es) [] pos) (tCB r t):=by
 intro pins s σ H Q I h
 refine wpAny_Call_Name_kw (nN I hg hm hv ?_ hn hdb)
 exact PyProof.Rows.callWith_builtin1 (thn (ha pos pins s σ H _ I h) fun us s1 ⟨vs,H1,I1,r1,q1⟩=>hc pins s1 σ H1 vs us Q I1 r1 q1) he hpl
theorem wo(hc:gy X (.type T) r)(hg:Gl X x)(hm:X.mg x=none)(hv:bootBuiltins x=some (.type T))(ha:PA X (e::es) t)(hn:x≠"__name__":=by decide)(hdb:(x == ("__debug__":Str))=false:=by decide)
  (he:starEach (e::es) X.env=(false,eval e X.env)::starEach es X.env:=by rfl) (hpl:(backTo pos (starEach es X.env)).any (·.1)=false:=by rfl):PE X (.Call (.Name x p) (e::es) [] pos) (tCB r t):=by
 intro pins s σ H Q I h
 refine wpAny_Call_Name_kw (nN I hg hm hv ?_ hn hdb)
 exact PyProof.Rows.callWith_type1 (thn (ha pos pins s σ H _ I h) fun us s1 ⟨vs,H1,I1,r1,q1⟩=>hc pins s1 σ H1 vs us Q I1 r1 q1) he hpl
end
end L2
namespace HT
open PySem PyProof.Rows
section
variable{prog:Program}{w:World}{A:Around}{E:Value->Shared->Prop}{s:Shared}
theorem cat_tup{t b:Addr}{vs ws:List Value}{Q:Value->Shared->Prop}(ht:IsTup s.heap t vs.toArray)(hb:IsTup s.heap b ws.toArray)(hv:vs≠[])
  (h1:ws=[]->Q (.ref t) s) (h2:ws≠[]->Q (.ref s.heap.objs.size) { s with heap:=s.heap.push { cls:=.type "tuple",data:=.seq (vs++ws).toArray } })
  (hsz:vs.length+ws.length<=sizeLine):wpAny (model prog w) A (binaryOp .Add (.ref t) (.ref b)) Q E s:=by
 obtain⟨⟨cls,dd,data,sl⟩,ho,hc,n,hd⟩:=id ht
 obtain⟨⟨cls2,dd2,data2,sl2⟩,ho2,hc2,n2,hd2⟩:=id hb
 simp only at hc hd hc2 hd2
 subst hc hd hc2 hd2
 have e:vs.toArray++ws.toArray=(vs++ws).toArray:=by simp
 by_cases hw:ws=[]
 ·exact concat_meets ⟨_,ho,rfl⟩ ⟨_,ho2,rfl⟩ noFill_tuple_add seq_tuple_add PySem.F.slot_tuple_add PySem.F.entry_tuple_add (PySem.F.args_tuple_add_2 _ _)
   (tuple_addW1 t b vs.toArray ws.toArray n n2 dd dd2 sl sl2 (by simpa using hv) (by simp[hw])) ⟨ho,ho2,h1 hw⟩
 ·refine concat_meets ⟨_,ho,rfl⟩ ⟨_,ho2,rfl⟩ noFill_tuple_add seq_tuple_add PySem.F.slot_tuple_add PySem.F.entry_tuple_add (PySem.F.args_tuple_add_2 _ _)
   (tuple_addW2 t b vs.toArray ws.toArray n n2 dd dd2 sl sl2 (by simpa using hv) (by simpa using hw) (by rw[List.size_toArray,List.size_toArray];exact hsz)) ⟨ho,ho2,?_⟩
  rw[e]
  exact h2 hw
def sIx(n d:Nat):Option Int->Nat
 |none=>d
 |some v=>if v<0 then(v+(n:Int)).toNat else min v.toNat n
theorem sIx_none(n d:Nat):sIx n d none=d:=rfl
theorem sIx_nat(n d k:Nat):sIx n d (some (k:Int))=min k n:=by
 show(if (k:Int)<0 then((k:Int)+(n:Int)).toNat else min (k:Int).toNat n)=min k n
 rw[if_neg (by omega),Int.toNat_natCast]
theorem FI(n d:Nat)(hd:d<=n)(o:Option Int):sIx n d o<=n:=by
 cases o with
 |none=>exact hd
 |some v=>
  show(if v<0 then(v+(n:Int)).toNat else min v.toNat n)<=n
  by_cases hv:v<0
  ·rw[if_pos hv];omega
  ·rw[if_neg hv];exact Nat.min_le_right _ _
theorem xZ(v:Int)(n d:Nat):(if v<0 then max (v+(n:Int)) 0 else min v (n:Int))=((sIx n d (some v):Nat):Int):=by
 show(if v<0 then max (v+(n:Int)) 0 else min v (n:Int))=(((if v<0 then(v+(n:Int)).toNat else min v.toNat n):Nat):Int)
 by_cases hv:v<0
 ·simp only[if_pos hv];omega
 ·simp only[if_neg hv];omega
theorem uT(lo hi:Option Int)(n:Nat):Builtin.Slice.sliceAdjust lo hi 1 (n:Int)=(((sIx n 0 lo:Nat):Int),((sIx n n hi:Nat):Int)):=by
 have h1:¬((1:Int)<0):=by omega
 unfold Builtin.Slice.sliceAdjust
 simp only[h1,if_false]
 refine Prod.ext ?_ ?_
 ·cases lo with
  |none=>rfl
  |some v=>exact xZ v n 0
 ·cases hi with
  |none=>rfl
  |some v=>exact xZ v n n
theorem uw(i j:Nat):Builtin.Slice.slicePlaces (i:Int) (j:Int) 1=j-i:=by
 unfold Builtin.Slice.slicePlaces
 have h1:(1:Int)>0:=by omega
 simp only[h1,if_true,Int.ediv_one]
 split<;>omega
theorem nF{v:Value}{o:Option Int}{Q:Option Int->Shared->Prop}(p:IsPart v o)(h:Q o s):wpAny (model prog w) A (Builtin.Slice.slicePartIndex v) Q E s:=by
 cases p with
 |none=>exact slicePart_none h
 |int i t=>exact slicePart_int h
theorem kW{sl:Addr}{vl vu:Value}{lo hi:Option Int}{n:Nat}{Q:Int×Int×Nat->Shared->Prop}(hs:s.heap.IsSliceOf sl vl vu .none)(pl:IsPart vl lo)(pu:IsPart vu hi)
  (h:Q (((sIx n 0 lo:Nat):Int),1,sIx n n hi-sIx n 0 lo) s):wpAny (model prog w) A (Builtin.Slice.sliceApplied (.ref sl) (pure (n:Int))) Q E s:=by
 obtain⟨os,hos,hcs,hds⟩:=id hs
 unfold Builtin.Slice.sliceApplied Builtin.Slice.sliceFields
 refine wpAny_bind (wpAny_bind (wpAny_field hos hds (x:=vl) rfl (wpAny_bind (wpAny_field hos hds (x:=vu) rfl (wpAny_bind (wpAny_field hos hds (x:=.none) rfl (wpAny_pure ?_)))))))
 refine wpAny_bind (slicePart_none ?_)
 show wpAny _ _ (if ((1:Int) == 0)=true then _ else _) _ _ s
 rw[if_neg (by decide)]
 refine wpAny_bind (nF pl (wpAny_bind (nF pu (wpAny_bind (wpAny_pure ?_)))))
 show wpAny _ _ (match Builtin.Slice.sliceAdjust lo hi 1 (n:Int)with|(lo,hi)=>pure (lo,(1:Int),Builtin.Slice.slicePlaces lo hi 1)) _ _ s
 rw[uT lo hi n]
 show wpAny _ _ (pure (((sIx n 0 lo:Nat):Int),(1:Int),Builtin.Slice.slicePlaces ((sIx n 0 lo:Nat):Int) ((sIx n n hi:Nat):Int) 1)) _ _ s
 rw[uw]
 exact wpAny_pure h
theorem zx(xs:Array Value)(i k:Nat):((List.range k).filterMap fun(m:Nat)=>xs[((i:Int)+(m:Int)*1).toNat]?).toArray=((xs.toList.drop i).take k).toArray:=by
 have e:(fun(m:Nat)=>xs[((i:Int)+(m:Int)*1).toNat]?)=fun m=>xs[i+m]?:=by
  funext m
  have:((i:Int)+(m:Int)*1).toNat=i+m:=by omega
  rw[this]
 rw[e]
 have:=pick_run xs i k
 rw[List.filterMap_map]at this
 have e2:((fun x=>xs[x]?) ∘ fun x=>i+x)=fun m=>xs[i+m]?:=rfl
 rw[e2]at this
 rw[this]
theorem getItem_tuple_cut{t sl:Addr}{items:Array Value}{vl vu:Value}{lo hi:Option Int}{Q:Value->Shared->Prop}(ht:IsTup s.heap t items)(hs:s.heap.IsSliceOf sl vl vu .none)(pl:IsPart vl lo)(pu:IsPart vu hi)
  (hw:¬(sIx items.size 0 lo=0/\sIx items.size items.size hi=items.size))
  (h:Q (.ref s.heap.objs.size) { s with heap:=s.heap.push { cls:=.type "tuple",data:=.seq ((items.toList.drop (sIx items.size 0 lo)).take (sIx items.size items.size hi-sIx items.size 0 lo)).toArray } })
  (hsz:items.size<=sizeLine):wpAny (model prog w) A (getItem (.ref t) (.ref sl)) Q E s:=by
 have htake:sizeOk (.seq ((items.toList.drop (sIx items.size 0 lo)).take (sIx items.size items.size hi-sIx items.size 0 lo)).toArray):=by
  show((items.toList.drop (sIx items.size 0 lo)).take (sIx items.size items.size hi-sIx items.size 0 lo)).toArray.size<=sizeLine
  rw[List.size_toArray,List.length_take,List.length_drop,Array.length_toList]
  omega
 have hj:sIx items.size items.size hi<=items.size:=FI _ _ (Nat.le_refl _) hi
 obtain⟨os,hos,hcs,hds⟩:=id hs
 have hTs:s.TypeIs (.ref sl) "slice":=⟨os,hos,hcs⟩
 unfold getItem
 try with_reducible refine wpAny_holding ?_
 first|refine wpAny_bind (wpAny_pure ?_)|skip
 refine wpAny_bind (wpAny_sequenceKey ht.typeIs (by decide) ?_)
 refine wpAny_bind (wpAny_callSpecial?_slot (name:=Str.ofString "__getitem__") ht.typeIs PyProof.Rows.slot_tuple_getitem
  (wpAny_call_entry PyProof.Rows.slot_tuple_getitem ht.typeIs entry_tuple_getitem ?_ (args_tuple_getitem _ _)))
 show wpAny _ _ (Builtin.Tuple.tupleItemsOf (.ref t) >>= _) _ _ s
 refine wpAny_bind (tupleItemsOf_ ht ?_)
 refine wpAny_bind (wpAny_typeOf hTs ?_)
 rw[if_pos (by decide)]
 refine wpAny_bind (kW hs pl pu ?_)
 have hno:¬((((sIx items.size 0 lo:Nat):Int) == 0&&(1:Int) == 1&&(sIx items.size items.size hi-sIx items.size 0 lo) == items.size)=true):=by
  intro q
  rw[Bool.and_eq_true,Bool.and_eq_true]at q
  have q1:((sIx items.size 0 lo:Nat):Int)=0:=eq_of_beq q.1.1
  have q2:sIx items.size items.size hi-sIx items.size 0 lo=items.size:=eq_of_beq q.2
  exact hw ⟨by omega,by omega⟩
 show wpAny _ _ (if (((sIx items.size 0 lo:Nat):Int) == 0&&(1:Int) == 1&&(sIx items.size items.size hi-sIx items.size 0 lo) == items.size)=true then _ else _) _ _ s
 rw[if_neg hno,zx]
 first
  |exact wpAny_bind (m:=Builtin.Tuple.tupleExact _) (wpAny_newObj_type (wpAny_pure ⟨_,rfl,wpAny_pure h⟩) htake)
  |exact wpAny_bind (m:=Builtin.Tuple.tupleExact _) (wpAny_newObj_type (wpAny_bind (wpAny_pure (wpAny_pure ⟨_,rfl,wpAny_pure h⟩))) htake)
  |exact wpAny_bind (wpAny_bind (m:=Builtin.Tuple.tupleExact _) (wpAny_newObj_type (wpAny_pure (wpAny_pure ⟨_,rfl,wpAny_pure h⟩)) htake))
  |exact wpAny_bind (wpAny_bind (m:=Builtin.Tuple.tupleExact _) (wpAny_newObj_type (wpAny_pure ⟨_,rfl,wpAny_pure h⟩) htake))
end
end HT
namespace L2
open PySem PySem.Spec PyProof.Rows
abbrev TO:=St->Hp->(Option Int->Hp->Prop)->Prop
def PO(X:Cx)(e:Option Expr)(t:TO):Prop:=
 ∀(pins:List (Addr×Obj)) (s:Shared) (σ:St) (H:Hp) (Q:Option Int->Hp->Prop),Inv X pins σ H s->t σ H Q->
  wpAny (model X.prog X.w) X.A (evalPart e X.env) (fun u s'=>∃o H',Inv X pins σ H' s'/\IsPart u o/\Q o H') X.xe s
def vH:TO:=fun _ H Q=>Q none H
def Fv(t:TE):TO:=fun σ H Q=>t σ H fun x H1=>∃i,x=.int i/\Q (some i) H1
section
variable{X:Cx}{e:Expr}{te:TE}{lo hi:Option Expr}{tl th:TO}{pos p2:Pos}
theorem C6:PO X none vH:=by
 intro pins s σ H Q I h
 rw[evalPart_none]
 exact wpAny_pure ⟨none,H,I,.none,h⟩
theorem C5(h:PE X e te):PO X (some e) (Fv te):=by
 intro pins s σ H Q I hw
 rw[evalPart_some]
 refine thn (h pins s σ H _ I hw) fun u s1 hz=>?_
 obtain⟨x,H1,I1,r1,q1⟩:=hz
 obtain⟨i,rfl,q⟩:=q1
 obtain⟨t,rfl⟩:=r1
 exact⟨some i,H1,I1,.int i t,q⟩
def SlR(X:Cx)(r:V->Option Int->Option Int->Hp->VK->Prop):Prop:=
 ∀(pins:List (Addr×Obj)) (s:Shared) (σ:St) (H:Hp) (x:V) (v vl vu:Value) (lo hi:Option Int) (sl:Addr) (Q:VK),Inv X pins σ H s->du x v->s.heap.IsSliceOf sl vl vu .none->IsPart vl lo->IsPart vu hi->r x lo hi H Q->
  ∃T id,typeLookup (.type T) "__getitem__"=pure (some (.builtin id))/\s.TypeIs v T/\wpAny (model X.prog X.w) X.A (getItem v (.ref sl)) (EP X pins σ Q) X.xe s
theorem SlR.or{r r':V->Option Int->Option Int->Hp->VK->Prop}(h:SlR X r)(h':SlR X r'):SlR X (fun x lo hi H Q=>r x lo hi H Q\/r' x lo hi H Q):=by
 intro pins s σ H x v vl vu lo hi sl Q I rx hs pl pu q
 rcases q with q|q
 ·exact h pins s σ H x v vl vu lo hi sl Q I rx hs pl pu q
 ·exact h' pins s σ H x v vl vu lo hi sl Q I rx hs pl pu q
def tSl(r:V->Option Int->Option Int->Hp->VK->Prop)(te:TE)(tl th:TO):TE:=fun σ H Q=>te σ H fun x H1=>tl σ H1 fun l H2=>th σ H2 fun u H3=>r x l u H3 Q
theorem zB{r:V->Option Int->Option Int->Hp->VK->Prop}(hr:SlR X r)(he:PE X e te)(hl:PO X lo tl)(hu:PO X hi th):PE X (.Subscript e (.Slice lo hi none p2) pos) (tSl r te tl th):=by
 intro pins s σ H Q I h
 refine Subscript_ (thn (he pins s σ H _ I h) fun v s1 hz=>?_)
 obtain⟨x,H1,I1,r1,q1⟩:=hz
 refine wpAny_Slice (thn (hl pins s1 σ H1 _ I1 q1) fun vl s2 ⟨l,H2,I2,pl,q2⟩=>thn (hu pins s2 σ H2 _ I2 q2) fun vu s3 hz=>?_)
 obtain⟨u,H3,I3,pu,q3⟩:=hz
 rw[evalPart_none]
 refine wpAny_pure ?_
 have I4:Inv X pins σ H3 { s3 with heap:=s3.heap.push { cls:=.type "slice",data:=.fields #[vl,vu,.none] } }:=I3.kept (t':=s3.toks) fun b ob q=>Heap.get?_push_of_some _ q
 obtain⟨T,id,hT,ht,hg⟩:=hr pins { s3 with heap:=s3.heap.push { cls:=.type "slice",data:=.fields #[vl,vu,.none] } } σ H3 x v vl vu l u s3.heap.objs.size Q I4 r1 (Heap.IsSliceOf.new ..) pl pu q3
 show wpAny (model X.prog X.w) X.A (subscriptTail e (.Slice lo hi none p2) v (.ref s3.heap.objs.size)) (EP X pins σ Q) X.xe { s3 with heap:=s3.heap.push { cls:=.type "slice",data:=.fields #[vl,vu,.none] } }
 exact tail_any (ops:=[.ref s3.heap.objs.size,v]) ht hT hg (by with_unfolding_all rfl)
def xT(xs:List V)(lo hi:Option Int):List V:=(xs.drop (HT.sIx xs.length 0 lo)).take (HT.sIx xs.length xs.length hi-HT.sIx xs.length 0 lo)
theorem mP(xs:List V)(lo hi:Option Int):(xT xs lo hi).length<=xs.length:=by
 unfold xT
 rw[List.length_take,List.length_drop]
 omega
def Mz(K:PySem.W.Frag):V->Option Int->Option Int->Hp->VK->Prop:=fun x lo hi H Q=>∃a xs,x=.ref a/\SqT K H a xs/\
 ¬(HT.sIx xs.length 0 lo=0/\HT.sIx xs.length xs.length hi=xs.length)/\∀p,H p=none->Q (.ref p) (upd H p (.tup (xT xs lo hi)))
theorem FG:SlR X (Mz X.K):=by
 intro pins s σ H x v vl vu lo hi sl Q I rx hs pl pu h
 obtain⟨a,xs,rfl,hx,hw,q⟩:=h
 cases rx
 obtain⟨its,r,ht,hz⟩:=I.tuple hx
 have hlen:its.toArray.size=xs.length:=by rw[List.size_toArray];exact r.length.symm
 refine⟨"tuple",_,PyProof.Rows.slot_tuple_getitem.lookup,ht.typeIs,?_⟩
 refine HT.getItem_tuple_cut ht hs pl pu (by rw[hlen];exact hw) ?_ (by rw[hlen];exact hz)
 rw[hlen]
 refine⟨.ref s.heap.objs.size,_,I.laid (t':=s.toks) (o:=.tup (xT xs lo hi)) (fun b ob q=>Heap.get?_push_of_some _ q) (Nat.le_refl _) ?_,rfl,q _ (I.hok.fresh (Nat.le_refl _))⟩
 exact⟨Nat.le_trans (mP xs lo hi) hz,_,(r.drop (HT.sIx xs.length 0 lo)).take (HT.sIx xs.length xs.length hi-HT.sIx xs.length 0 lo),IsTup.new _ _⟩
def J8(K:PySem.W.Frag):R2:=fun x y H Q=>∃a b xs ys,x=.ref a/\y=.ref b/\SqT K H a xs/\SqT K H b ys/\xs≠[]/\xs.length+ys.length<=sizeLine/\
 (ys=[]->Q (.ref a) H)/\(ys≠[]->∀p,H p=none->Q (.ref p) (upd H p (.tup (xs++ys))))
theorem cg.nil_iff{xs:List V}{us:List Value}(r:cg xs us):us=[]↔xs=[]:=by
 cases r with
 |nil=>simp
 |cons _ _=>simp
theorem Du:OpR X (binaryOp .Add) (J8 X.K):=by
 intro pins s σ H x y v u Q I rx ry h
 obtain⟨a,b,xs,ys,rfl,rfl,ha,hb,hx,hz,q1,q2⟩:=h
 cases rx
 cases ry
 obtain⟨its,r1,p1,_⟩:=I.tuple ha
 obtain⟨its2,r2,p2,_⟩:=I.tuple hb
 refine HT.cat_tup p1 p2 (fun z=>hx (r1.nil_iff.mp z)) (fun z=>⟨.ref a,H,I,rfl,q1 (r2.nil_iff.mp z)⟩) (fun z=>?_) (by rw[<-r1.length,<-r2.length];exact hz)
 refine⟨.ref s.heap.objs.size,_,I.laid (t':=s.toks) (o:=.tup (xs++ys)) (fun b ob q=>Heap.get?_push_of_some _ q) (Nat.le_refl _) ?_,rfl,q2 (fun w=>z (r2.nil_iff.mpr w)) _ (I.hok.fresh (Nat.le_refl _))⟩
 exact⟨by rw[List.length_append];exact hz,_,r1.append r2,IsTup.new _ _⟩
end
def ixN(n:Nat)(i:Int):Option Nat:=if 0<=i then(if i<n then some i.toNat else none)else if -(n:Int)<=i then some (i+n).toNat else none
def atI{α:Type}(xs:List α)(i:Int):Option α:=(ixN xs.length i).bind fun j=>xs[j]?
theorem xb{n:Nat}{i:Int}{j:Nat}(h:ixN n i=some j):seqIndex? i n=some j/\j<n/\-(n:Int)<=i/\i<n:=by
 unfold ixN at h
 by_cases h0:0<=i
 ·rw[if_pos h0]at h
  by_cases h1:i<n
  ·rw[if_pos h1]at h
   have e:i.toNat=j:=Option.some.inj h
   exact⟨by rw[seqIndex_of h0 h1,e],by omega,by omega,h1⟩
  ·rw[if_neg h1]at h;cases h
 ·rw[if_neg h0]at h
  by_cases h1:-(n:Int)<=i
  ·rw[if_pos h1]at h
   have e:(i+n).toNat=j:=Option.some.inj h
   exact⟨by rw[seqIndex_neg (by omega) h1,e],by omega,h1,by omega⟩
  ·rw[if_neg h1]at h;cases h
theorem yl{α:Type}{xs:List α}{i:Int}{v:α}(h:atI xs i=some v):∃j,seqIndex? i xs.length=some j/\xs[j]?=some v/\j<xs.length/\-(xs.length:Int)<=i/\i<xs.length:=by
 unfold atI at h
 cases e:ixN xs.length i with
 |none=>rw[e]at h;cases h
 |some j=>
  rw[e]at h
  obtain⟨h1,h2,h3,h4⟩:=xb e
  exact⟨j,h1,h,h2,h3,h4⟩
theorem mT{α:Type}{xs:List α}{j:Nat}{v:α}(h:xs[j]?=some v):atI xs (j:Int)=some v:=by
 have hj:j<xs.length:=(List.getElem?_eq_some_iff.mp h).1
 have e:ixN xs.length (j:Int)=some j:=by
  unfold ixN
  rw[if_pos (by omega),if_pos (by omega)];simp
 unfold atI;rw[e];exact h
def rW(b:Expr):Prop:=∀o i,subscripted b false o i=operate [o,i] (getItem o i)
def IxR(X:Cx)(r:R2):Prop:=
 ∀(value slice:Expr) (pins:List (Addr×Obj)) (s:Shared) (σ:St) (H:Hp) (x y:V) (v u:Value) (Q:VK),Inv X pins σ H s->du x v->du y u->r x y H Q->
  subscripted slice false v u=operate [v,u] (getItem v u)->wpAny (model X.prog X.w) X.A (subscriptTail value slice v u) (EP X pins σ Q) X.xe s
def MtR(X:Cx)(id:String)(r:V->List V->Hp->VK->Prop):Prop:=
 ∀(pins:List (Addr×Obj)) (s:Shared) (σ:St) (H:Hp) (x:V) (xs:List V) (v:Value) (us:List Value) (Q:VK),Inv X pins σ H s->du x v->cg xs us->r x xs H Q->
  wpAny (model X.prog X.w) X.A (call (.builtin id) (v::us)) (EP X pins σ Q) X.xe s
section
variable{X:Cx}{a b:Expr}{ta tb:TE}{pos:Pos}
theorem IxR.or{r r':R2}(h:IxR X r)(h':IxR X r'):IxR X (fun x y H Q=>r x y H Q\/r' x y H Q):=by
 intro value slice pins s σ H x y v u Q I rx ry q hs
 rcases q with q|q
 ·exact h value slice pins s σ H x y v u Q I rx ry q hs
 ·exact h' value slice pins s σ H x y v u Q I rx ry q hs
theorem Kf{r:R2}(hr:IxR X r)(ha:PE X a ta)(hb:PE X b tb)(hs:rW b):PE X (.Subscript a b pos) (tOp r ta tb):=by
 intro pins s σ H Q I h
 exact Subscript_ (Lk ha hb I h fun v u s2 x y H2 I2 rx ry q=>hr a b pins s2 σ H2 x y v u Q I2 rx ry q (hs _ _))
def MC(K:PySem.W.Frag):R2:=fun x y H Q=>∃p xs i v,x=.ref p/\y=.int i/\SqL K H p xs/\atI xs i=some v/\Q v H
def MB(K:PySem.W.Frag):R2:=fun x y H Q=>∃p xs i v,x=.ref p/\y=.int i/\SqT K H p xs/\atI xs i=some v/\Q v H
theorem DJ:IxR X (MC X.K):=by
 intro value slice pins s σ H x y v u Q I rx ry h hs
 obtain⟨p,xs,i,z,rfl,rfl,hq,he,q⟩:=h
 cases rx
 obtain⟨t,rfl⟩:=ry
 obtain⟨its,r,pl,hz⟩:=I.list hq
 obtain⟨j,h1,h2,h3,h4,h5⟩:=yl he
 obtain⟨w,ew,rw'⟩:=r.get h2
 have hl:=r.length
 have hn:=sX
 have fin:EP X pins σ Q w s:=⟨z,H,I,rw',q⟩
 by_cases h0:0<=i
 ·have hj:i.toNat=j:=by
   rw[seqIndex_of h0 h5]at h1
   exact Option.some.inj h1
  exact item_listR pl.isList h0 (by omega) (by rw[hj];simpa using ew) fin hs
 ·have hj:(i+(its.toArray.size:Int)).toNat=j:=by
   rw[seqIndex_neg (by omega) h4]at h1
   rw[List.size_toArray,<-hl]
   exact Option.some.inj h1
  exact subscriptTail_builtinR (x:=w) pl.isList.typeIs slot_list_getitem.lookup
   (wpAny_getItem_list_neg (Q:=fun r s'=>r=w/\EP X pins σ Q r s') pl.isList (by omega) (by rw[List.size_toArray]<;>omega) (by omega) (by rw[hj];simpa using ew) ⟨rfl,fin⟩) hs
theorem Hi:IxR X (MB X.K):=by
 intro value slice pins s σ H x y v u Q I rx ry h hs
 obtain⟨p,xs,i,z,rfl,rfl,hq,he,q⟩:=h
 cases rx
 obtain⟨t,rfl⟩:=ry
 obtain⟨its,r,pl,hz⟩:=I.tuple hq
 obtain⟨j,h1,h2,h3,h4,h5⟩:=yl he
 obtain⟨w,ew,rw'⟩:=r.get h2
 have hl:=r.length
 have hn:=sX
 have fin:EP X pins σ Q w s:=⟨z,H,I,rw',q⟩
 exact subscriptTail_builtinR (x:=w) pl.typeIs slot_tuple_getitem.lookup
  (getItem_tuple (j:=j) (Q:=fun r s'=>r=w/\EP X pins σ Q r s') pl (by omega) (by omega) (by rw[List.size_toArray,<-hl];exact h1) (by simpa using ew) ⟨rfl,fin⟩) hs
theorem uy(its:List Value)(n j:Nat)(u:Value):Obj.mapSeq (·.setIfInBounds j u) { cls:=.type "list",data:=.seq its.toArray n }={ cls:=.type "list",data:=.seq (its.set j u).toArray n }:=by
 simp[Obj.mapSeq]
theorem Inv.lst{pins:List (Addr×Obj)}{σ:St}{H:Hp}{s:Shared}{p:Addr}{xs:List V}(I:Inv X pins σ H s)(h:H p=some (.lst xs)) :
  ∃(its:List Value) (n:Nat),cg xs its/\s.heap.get? p=some { cls:=.type "list",data:=.seq its.toArray n }/\xs.length<=sizeLine:=by
 obtain⟨z,its,n,r,e⟩:=I.hok p _ h
 exact⟨its,n,r,e,z⟩
theorem Inv.lstUpd{pins:List (Addr×Obj)}{σ:St}{H:Hp}{s:Shared}{p:Addr}{xs ys:List V}{its its':List Value}{n n':Nat}{f:Obj->Obj}(I:Inv X pins σ H s)(h:H p=some (.lst xs))
  (ho:s.heap.get? p=some { cls:=.type "list",data:=.seq its.toArray n }) (hf:f { cls:=.type "list",data:=.seq its.toArray n }={ cls:=.type "list",data:=.seq its'.toArray n' }) (r:cg ys its') (hz:ys.length<=sizeLine) (t:Nat) :
  Inv X pins σ (upd H p (.lst ys)) { s with heap:=s.heap.update p f,toks:=t }:=by
 have e:(s.heap.update p f).get? p=some { cls:=.type "list",data:=.seq its'.toArray n' }:=by
  rw[Heap.get?_update_self f ho (by rw[hf]<;>rfl),hf]
 refine I.write (x:=p) (e:=p) (by rw[h];trivial) (.inl rfl) (fun b u hb q=>(Heap.get?_update_other _ _ (Ne.symm hb)).trans q) ⟨_,e⟩ ?_
 exact⟨hz,its',n',r,e⟩
def J6:V->V->V->Hp->(Hp->Prop)->Prop:=fun o i v H Q=>∃p xs k j,o=.ref p/\i=.int k/\H p=some (.lst xs)/\ixN xs.length k=some j/\Q (upd H p (.lst (xs.set j v)))
theorem zb:Lo X J6:=by
 intro pins s σ H o i v ov iv u Q I ro ri rv h
 obtain⟨p,xs,k,j,rfl,rfl,hp,hj,q⟩:=h
 cases ro
 obtain⟨t,rfl⟩:=ri
 obtain⟨its,n,r,ho,hz⟩:=I.lst hp
 obtain⟨h1,h2,h3,h4⟩:=xb hj
 have hl:=r.length
 have hn:=sX
 have I':Inv X pins σ (upd H p (.lst (xs.set j v))) { s with heap:=s.heap.update p (Obj.mapSeq (·.setIfInBounds j u)) }:=
  I.lstUpd hp ho (uy its n j u) (r.set rv j) (by rw[List.length_set];exact hz) s.toks
 by_cases h0:0<=k
 ·have hk:k.toNat=j:=by
   rw[seqIndex_of h0 h4]at h1
   exact Option.some.inj h1
  exact PySem.W.ki_setAt ho h0 (by omega) (by rw[List.size_toArray,<-hl];exact h4) (by rw[hk];exact⟨_,I',q⟩)
 ·have hk:(k+(its.toArray.size:Int)).toNat=j:=by
   rw[seqIndex_neg (by omega) h3]at h1
   rw[List.size_toArray,<-hl]
   exact Option.some.inj h1
  exact PySem.W.ki_setBack ho (by omega) (by rw[List.size_toArray,<-hl];exact h3) (by omega) (by rw[hk];exact⟨_,I',q⟩)
theorem pH(lo hi:Option Int)(n:Nat):(sliceBounds lo hi none n).1=((HT.sIx n 0 lo:Nat):Int)/\(sliceBounds lo hi none n).2.1=((HT.sIx n n hi:Nat):Int)/\(sliceBounds lo hi none n).2.2=1:=by
 refine⟨?_,?_,rfl⟩
 ·cases lo with
  |none=>simp[sliceBounds,HT.sIx]
  |some i=>
   simp only[sliceBounds,HT.sIx,Option.getD_none,show(1:Int)>0 by decide,if_true]
   by_cases h:i<0
   ·simp only[h,if_true]<;>omega
   ·simp only[h,if_false]<;>omega
 ·cases hi with
  |none=>simp[sliceBounds,HT.sIx]
  |some i=>
   simp only[sliceBounds,HT.sIx,Option.getD_none,show(1:Int)>0 by decide,if_true]
   by_cases h:i<0
   ·simp only[h,if_true]<;>omega
   ·simp only[h,if_false]<;>omega
theorem ox(its:List Value)(lo hi:Option Int):slicePick its.toArray lo hi none=((its.drop (HT.sIx its.length 0 lo)).take (HT.sIx its.length its.length hi-HT.sIx its.length 0 lo)).toArray:=by
 obtain⟨h1,h2,h3⟩:=pH lo hi its.toArray.size
 unfold slicePick
 rw[h1,h2,h3]
 simp only[sliceRange_one,pick_run,List.size_toArray]<;>rfl
def MA(K:PySem.W.Frag):V->Option Int->Option Int->Hp->VK->Prop:=fun x lo hi H Q=>∃a xs,x=.ref a/\SqL K H a xs/\∀p,H p=none->Q (.ref p) (upd H p (.lst (xT xs lo hi)))
theorem vM:SlR X (MA X.K):=by
 intro pins s σ H x v vl vu lo hi sl Q I rx hs pl pu h
 obtain⟨a,xs,rfl,hx,q⟩:=h
 cases rx
 obtain⟨its,r,ht,hz⟩:=I.list hx
 have hlen:=r.length
 refine⟨"list",_,slot_list_getitem.lookup,ht.isList.typeIs,?_⟩
 refine wpAny_getItem_list_slice ht.isList hs pl pu .none (by simp) ?_ (by rw[List.size_toArray]<;>omega)
 rw[ox,<-hlen]
 refine⟨.ref s.heap.objs.size,_,I.laid (t':=s.toks) (o:=.lst (xT xs lo hi)) (fun b ob q=>Heap.get?_push_of_some _ q) (Nat.le_refl _) ?_,rfl,q _ (I.hok.fresh (Nat.le_refl _))⟩
 exact⟨Nat.le_trans (mP xs lo hi) hz,_,0,(r.drop (HT.sIx xs.length 0 lo)).take (HT.sIx xs.length xs.length hi-HT.sIx xs.length 0 lo),Heap.get?_push_size _ rfl⟩
def nj:V->Bool
 |.non=>true
 |.bl _=>true
 |.int _=>true
 |.str _=>true
 |_=>false
def eqV:V->V->Bool
 |.non,.non=>true
 |.bl a,.bl b=>a == b
 |.bl a,.int b=>(if a then 1 else 0) == b
 |.int a,.bl b=>a == (if b then 1 else 0)
 |.int a,.int b=>a == b
 |.str a,.str b=>a == b
 |_,_=>false
theorem HF{A:Around}{s:Shared}{y x:V}{u v:Value}(ry:du y u)(rx:du x v)(fy:nj y=true)(fx:nj x=true):SeqAt.EqAt A s u v (eqV y x):=by
 cases y with
 |non=>
  cases ry
  cases x with
  |non=>cases rx;exact SeqAt.EqAt.same _
  |bl b=>cases rx;exact SeqAt.EqAt.none_bool b
  |int b=>obtain⟨t,rfl⟩:=rx;exact SeqAt.EqAt.none_int b t
  |str b=>obtain⟨t,rfl⟩:=rx;exact SeqAt.EqAt.none_str b t
  |_=>exact absurd (show false=true from fx) Bool.false_ne_true
 |bl a=>
  cases ry
  cases x with
  |non=>cases rx;exact SeqAt.EqAt.bool_none a
  |bl b=>cases rx;exact SeqAt.EqAt.bool_bool a b
  |int b=>obtain⟨t,rfl⟩:=rx;exact SeqAt.EqAt.bool_int a b t
  |str b=>obtain⟨t,rfl⟩:=rx;exact SeqAt.EqAt.bool_str a b t
  |_=>exact absurd (show false=true from fx) Bool.false_ne_true
 |int a=>
  obtain⟨t',rfl⟩:=ry
  cases x with
  |non=>cases rx;exact SeqAt.EqAt.int_none a t'
  |bl b=>cases rx;exact SeqAt.EqAt.int_bool a t' b
  |int b=>obtain⟨t,rfl⟩:=rx;exact SeqAt.EqAt.int_int a t' b t
  |str b=>obtain⟨t,rfl⟩:=rx;exact SeqAt.EqAt.int_str a t' b t
  |_=>exact absurd (show false=true from fx) Bool.false_ne_true
 |str a=>
  obtain⟨t',rfl⟩:=ry
  cases x with
  |non=>cases rx;exact SeqAt.EqAt.str_none a t'
  |bl b=>cases rx;exact SeqAt.EqAt.str_bool a t' b
  |int b=>obtain⟨t,rfl⟩:=rx;exact SeqAt.EqAt.str_int a t' b t
  |str b=>obtain⟨t,rfl⟩:=rx;exact SeqAt.EqAt.str_str a t' b t
  |_=>exact absurd (show false=true from fx) Bool.false_ne_true
 |_=>exact absurd (show false=true from fy) Bool.false_ne_true
def eqU(x:V)(u:Value):Bool:=match u with
 |.none=>eqV .non x
 |.bool b=>eqV (.bl b) x
 |.int i _=>eqV (.int i) x
 |.str z _=>eqV (.str z) x
 |_=>false
theorem Bf{x y:V}{u:Value}(r:du y u)(f:nj y=true):eqU x u=eqV y x:=by
 cases y with
 |non=>cases r;rfl
 |bl b=>cases r;rfl
 |int i=>obtain⟨t,rfl⟩:=r;rfl
 |str z=>obtain⟨t,rfl⟩:=r;rfl
 |_=>exact absurd (show false=true from f) Bool.false_ne_true
theorem rR{x:V}:∀{xs:List V} {us:List Value},cg xs us->xs.all nj=true->us.any (eqU x)=xs.any fun y=>eqV y x
 |_,_,.nil,_=>rfl
 |y::xs,u::us,.cons r t,f=>by
  rw[List.all_cons,Bool.and_eq_true]at f
  rw[List.any_cons,List.any_cons,Bf r f.1,rR t f.2]
theorem oF{A:Around}{s:Shared}{x:V}{v:Value}(rx:du x v)(fx:nj x=true):∀{xs:List V} {us:List Value},cg xs us->xs.all nj=true->∀u∈us,SeqAt.EqAt A s u v (eqU x u)
 |_,_,.nil,_=>fun u hu=>by cases hu
 |y::xs,u::us,.cons r t,f=>fun u' hu=>by
  rw[List.all_cons,Bool.and_eq_true]at f
  rcases List.mem_cons.mp hu with rfl|hu
  ·rw[Bf r f.1];exact HF r rx f.1 fx
  ·exact oF rx fx t f.2 u' hu
def inV(x:V)(xs:List V):Bool:=xs.any fun y=>eqV y x
def rIn(K:PySem.W.Frag)(neg:Bool):R2:=fun x y H Q=>∃p xs,y=.ref p/\(SqL K H p xs\/SqT K H p xs)/\nj x=true/\xs.all nj=true/\Q (.bl (if neg then !inV x xs else inV x xs)) H
theorem pV:OpR X (compareOp .NotIn) (rIn X.K true):=by
 intro pins s σ H x y v u Q I rx ry h
 obtain⟨p,xs,rfl,hq,fx,fs,q⟩:=h
 cases ry
 rcases hq with hq|hq
 ·obtain⟨its,r,pl,hz⟩:=I.list hq
  refine SeqAt.notIn_listAt (eqU x) pl.isList (fun w hw=>oF rx fx r fs w (by simpa using hw)) ⟨.bl _,H,I,rfl,?_⟩
  rw[show its.toArray.any (eqU x)=its.any (eqU x)by simp,rR r fs]
  exact q
 ·obtain⟨its,r,pl,hz⟩:=I.tuple hq
  refine SeqAt.notIn_tupleAt (eqU x) pl (fun w hw=>oF rx fx r fs w (by simpa using hw)) ⟨.bl _,H,I,rfl,?_⟩
  rw[show its.toArray.any (eqU x)=its.any (eqU x)by simp,rR r fs]
  exact q
theorem qp:gy X (.builtin "len") (fun xs H Q=>∃p ys,xs=[.ref p]/\(SqL X.K H p ys\/SqT X.K H p ys)/\Q (.int ys.length) H):=by
 intro pins s σ H xs us Q I r h
 obtain⟨p,ys,rfl,hq,q⟩:=h
 obtain⟨u,rfl,rx⟩:=m8 r
 cases rx
 have hn:=sX
 rcases hq with hq|hq
 ·obtain⟨its,r',pl,hz⟩:=I.list hq
  have hlen:=r'.length
  exact Calls.call_len_list pl.isList (by simp only[List.size_toArray]<;>omega) ⟨.int ys.length,H,I.tok _,⟨s.toks+1,by rw[List.size_toArray,hlen]⟩,q⟩
 ·obtain⟨its,r',pl,hz⟩:=I.tuple hq
  have hlen:=r'.length
  exact len_tuple pl (by simp only[List.size_toArray]<;>omega) ⟨.int ys.length,H,I.tok _,⟨s.toks+1,by rw[List.size_toArray,hlen]⟩,q⟩
theorem gy.or{f:Value}{r r':List V->Hp->VK->Prop}(h:gy X f r)(h':gy X f r'):gy X f (fun xs H Q=>r xs H Q\/r' xs H Q):=by
 intro pins s σ H xs us Q I rs q
 rcases q with q|q
 ·exact h pins s σ H xs us Q I rs q
 ·exact h' pins s σ H xs us Q I rs q
theorem kM:gy X (.type "list") (fun xs H Q=>∃p ys,xs=[.ref p]/\(SqL X.K H p ys\/SqT X.K H p ys)/\∀l,H l=none->Q (.ref l) (upd H l (.lst ys))):=by
 intro pins s σ H xs us Q I r h
 obtain⟨p,ys,rfl,hq,q⟩:=h
 obtain⟨u,rfl,rx⟩:=m8 r
 cases rx
 have fin:∀(its:List Value),cg ys its->ys.length<=sizeLine->∀(h':Heap) (c':Nat),(∀b o',s.heap.get? b=some o'->h'.get? b=some o')->
   h'.get? s.heap.objs.size=some { cls:=.type "list",dict:=none,data:=.seq its.toArray c',slots:=#[] }->EP X pins σ Q (.ref s.heap.objs.size) { s with heap:=h' }:=fun its r' hz h' c' kp e=>
  ⟨.ref s.heap.objs.size,_,I.laid (t':=s.toks) kp (Nat.le_refl _) (show cZ X.prog X.w _ h' _ (.lst ys)from⟨hz,its,c',r',e⟩),rfl,q _ (I.hok.fresh (Nat.le_refl _))⟩
 rcases hq with hq|hq
 ·obtain⟨its,r',pl,hz⟩:=I.list hq
  have hlen:=r'.length
  obtain⟨o,ho,hc,n,hd⟩:=pl.isList
  exact call_list_seq p (.inl rfl) ho hc hd (fun h' c' kp e=>fin its r' hz h' c' kp e) (by simp only[List.size_toArray]<;>omega)
 ·obtain⟨its,r',pl,hz⟩:=I.tuple hq
  have hlen:=r'.length
  obtain⟨o,ho,hc,n,hd⟩:=pl
  exact call_list_seq p (.inr rfl) ho hc hd (fun h' c' kp e=>fin its r' hz h' c' kp e) (by simp only[List.size_toArray]<;>omega)
theorem cY:gy X (.type "tuple") (fun xs H Q=>∃p ys,xs=[.ref p]/\((SqL X.K H p ys/\∀l,H l=none->Q (.ref l) (upd H l (.tup ys)))\/(SqT X.K H p ys/\Q (.ref p) H))):=by
 intro pins s σ H xs us Q I r h
 obtain⟨p,ys,rfl,h⟩:=h
 obtain⟨u,rfl,rx⟩:=m8 r
 cases rx
 rcases h with⟨hq,q⟩|⟨hq,q⟩
 ·obtain⟨its,r',pl,hz⟩:=I.list hq
  have hlen:=r'.length
  refine call_tuple_list pl.isList (fun h' kp=>?_) (by simp only[List.size_toArray]<;>omega)
  have I1:Inv X pins σ H { s with heap:=h' }:=I.kept (t':=s.toks) kp
  have I2:Inv X pins σ (upd H h'.objs.size (.tup ys)) { s with heap:=h'.push { cls:=.type "tuple",data:=.seq its.toArray } }:=
   I1.laid (t':=s.toks) (fun b o e=>Heap.get?_push_of_some _ e) (Nat.le_refl _) (show cZ X.prog X.w _ _ _ (.tup ys)from⟨hz,its,r',IsTup.new _ _⟩)
  exact⟨.ref h'.objs.size,_,I2,rfl,q _ (I1.hok.fresh (Nat.le_refl _))⟩
 ·obtain⟨its,r',pl,hz⟩:=I.tuple hq
  exact call_tuple_same pl ⟨.ref p,H,I,rfl,q⟩
def tyV(K:PySem.W.Frag)(T:String)(x:V)(H:Hp):Prop:=match x with
 |.str _=>T="str"
 |.int _=>T="int"
 | .ref p=>(T="list"/\∃xs,SqL K H p xs)\/(T="tuple"/\∃o,K.lookup p=some o/\o.cls=.type "tuple"/\o.dict=none)\/
   (T="dict"/\((∃kvs,H p=some (.dK kvs))\/∃kvs,H p=some (.dT kvs)))\/(T="set"/\∃S n,H p=some (.set S n))
 |_=>False
theorem Fs{pins:List (Addr×Obj)}{σ:St}{H:Hp}{s:Shared}{T:String}{x:V}{v:Value}(I:Inv X pins σ H s)(r:du x v)(ty:tyV X.K T x H) :
  s.TypeIs v T/\∀a,v=.ref a->∃ob,s.heap.get? a=some ob/\ob.dict=none:=by
 cases x with
 |str z=>
  obtain⟨t,rfl⟩:=r
  cases (show T="str" from ty)
  exact⟨typeIs_str s z t,fun _ e=>nomatch e⟩
 |int i=>
  obtain⟨t,rfl⟩:=r
  cases (show T="int" from ty)
  exact⟨typeIs_int s i t,fun _ e=>nomatch e⟩
 |ref p=>
  cases r
  rcases ty with⟨rfl,xs,hq⟩|⟨rfl,o,hk,hc,hd⟩|⟨rfl,hk⟩|⟨rfl,S,n,hk⟩
  ·obtain⟨its,_,pl,_⟩:=I.list hq
   refine⟨pl.isList.typeIs,fun a e=>?_⟩
   cases e
   obtain⟨o,n,e,c,hd,_⟩:=pl
   exact⟨o,e,hd⟩
  ·refine⟨⟨o,I.kIn p o hk,hc⟩,fun a e=>?_⟩
   cases e
   exact⟨o,I.kIn _ o hk,hd⟩
  ·have z:∃o,s.heap.get? p=some o/\o.ExactDict:=by
    rcases hk with⟨kvs,hk⟩|⟨kvs,hk⟩
    ·obtain⟨_,_,_,_,o,_,_,e,ex,_⟩:=I.hok p _ hk
     exact⟨o,e,ex⟩
    ·obtain⟨_,_,_,_,o,_,_,e,ex,_⟩:=I.hok p _ hk
     exact⟨o,e,ex⟩
   obtain⟨o,e,ex⟩:=z
   refine⟨⟨o,e,ex.1⟩,fun a e2=>?_⟩
   cases e2
   exact⟨o,e,ex.2.1⟩
  ·obtain⟨o,_,_,_,e,ex,_⟩:=I.hok p _ hk
   refine⟨⟨o,e,ex.1⟩,fun a e2=>?_⟩
   cases e2
   exact⟨o,e,ex.2.1⟩
 |_=>exact False.elim ty
def tBM(K:PySem.W.Frag)(T:String)(r:V->List V->Hp->VK->Prop)(to:TE)(t:TA):TE:=fun σ H Q=>to σ H fun x H1=>tyV K T x H1/\t σ H1 fun xs H2=>r x xs H2 Q
variable{o e:Expr}{es:List Expr}{to:TE}{t:TA}{name:Str}{apos cpos:Pos}{T id:String}{r:V->List V->Hp->VK->Prop}
theorem Kg(pa:PlainAttrs T)(slot:Slot T name id)(hty:typeOf (.builtin id)=pure (.type "method_descriptor"))(hm:MtR X id r)(ho:PE X o to)(ha:PA X (e::es) t)
  (hbase:attributeBase o name X.env (eval o X.env)=eval o X.env:=by rfl)
  (hfew:((backTo cpos (starEach (e::es) X.env)).all (fun x=>!x.1)&&(backToKw cpos (keywordEach [] X.env)).all (fun x=>x.1.isSome)
   && decide ((e::es).length+([]:List Keyword).length+(if ([]:List Keyword).isEmpty then 0 else 1)<30))=true:=by rfl)
  (hline:(apos.endLine == cpos.line)=true:=by rfl) (hs:starEach (e::es) X.env=(false,eval e X.env)::starEach es X.env:=by rfl) (hplain:(backTo cpos (starEach es X.env)).any (·.1)=false:=by rfl) :
  PE X (.Call (.Attribute o name apos) (e::es) [] cpos) (tBM X.K T r to t):=by
 intro pins s σ H Q I h
 refine wpAny_Call_method_late hbase hfew hline rfl (thn (ho pins s σ H _ I h) fun v s1 hz=>?_)
 obtain⟨x,H1,I1,r1,ty,q1⟩:=hz
 obtain⟨h1,h2⟩:=Fs I1 r1 ty
 refine⟨T,id,pa,slot,hty,h1,h2,?_⟩
 have hA:=ha cpos pins s1 σ H1 _ I1 q1
 rw[hs]at hA ⊢
 refine Calls.callWith_builtin (by show(false||(backTo cpos (starEach es X.env)).any (·.1))=false;rw[hplain]<;>rfl) (Calls.evalArgs_plain ?_)
 exact thn hA fun us s2 ⟨vs,H2,I2,r2,q2⟩=>hm pins s2 σ H2 x vs v us Q I2 r1 r2 q2
end
def MtM(X:Cx)(id:String)(r:V->List V->Hp->VK->Prop):Prop:=
 ∀(pins:List (Addr×Obj)) (s:Shared) (σ:St) (H:Hp) (x:V) (xs:List V) (v:Value) (us:List Value) (Q:VK),Inv X pins σ H s->du x v->cg xs us->r x xs H Q->
  wpAny (model X.prog X.w) X.A (call (.builtin id) (v::us)) (EP X pins σ Q) X.xe s
theorem cg.one:∀{x:V} {us:List Value},cg [x] us->∃u,us=[u]/\du x u
 |_,_,.cons r .nil=>⟨_,rfl,r⟩
theorem cg.eraseIdx:∀{xs:List V} {us:List Value} (i:Nat),cg xs us->cg (xs.eraseIdx i) (us.eraseIdx i)
 |_,_,_,.nil=>.nil
 |_,_,0,.cons _ t=>t
 |_,_,i+1,.cons r t=>.cons r (cg.eraseIdx i t)
theorem cg.rep{xs:List V}{us:List Value}(h:cg xs us):∀k:Nat,cg (List.replicate k xs).flatten (List.replicate k us).flatten
 |0=>.nil
 |k+1=>by
  rw[List.replicate_succ,List.replicate_succ,List.flatten_cons,List.flatten_cons]
  exact cg.append h (cg.rep h k)
theorem pX{α:Type}:∀(l:List α) (i:Nat),(l.eraseIdx i).length<=l.length
 |[],_=>Nat.le_refl _
 |_::_,0=>Nat.le_succ _
 |_::r,i+1=>Nat.succ_le_succ (pX r i)
theorem mM(its:List Value):∀(k:Nat) (acc:List Value),
  List.foldl (fun x1 x2=>x1++x2) acc.toArray (List.replicate k its.toArray)=(acc++(List.replicate k its).flatten).toArray
 |0,acc=>by simp
 |k+1,acc=>by
  have e:acc.toArray++its.toArray=(acc++its).toArray:=by simp
  have e2:(acc++its)++(List.replicate k its).flatten=acc++(List.replicate (k+1) its).flatten:=by
   rw[List.replicate_succ,List.flatten_cons,List.append_assoc]
  rw[<-e2,<-mM its k (acc++its),<-e,List.replicate_succ,List.foldl_cons]
section
variable{X:Cx}{pins:List (Addr×Obj)}{σ:St}{H:Hp}{s:Shared}{l b:Addr}{xs ys zs:List V}
theorem Inv.lset{its its':List Value}{n:Nat}{f:Array Value->Array Value}{t':Nat}(I:Inv X pins σ H s)(hH:H l=some (.lst xs))
  (e:s.heap.get? l=some { cls:=.type "list",data:=.seq its.toArray n }) (hf:f its.toArray=its'.toArray) (hv:cg ys its') (hz:ys.length<=sizeLine) :
  Inv X pins σ (upd H l (.lst ys)) { s with heap:=s.heap.update l (Obj.mapSeq f),toks:=t' }:=by
 have q:=PySem.IsL.update e f
 rw[hf]at q
 refine I.write (x:=l) (e:=l) (by rw[hH];exact trivial) (.inl rfl) (fun b' u hb hu=>(Heap.get?_update_other s.heap (Obj.mapSeq f) (Ne.symm hb)).trans hu) ⟨_,q⟩ ?_
 exact⟨hz,its',_,hv,q⟩
theorem Inv.lnew{its:List Value}{t':Nat}(I:Inv X pins σ H s)(hv:cg ys its)(hz:ys.length<=sizeLine) :
  Inv X pins σ (upd H s.heap.objs.size (.lst ys)) { s with heap:=s.heap.push { cls:=.type "list",data:=.seq its.toArray },toks:=t' }:=
 I.laid (fun _ _ q=>Heap.get?_push_of_some _ q) (Nat.le_refl _) ⟨hz,its,0,hv,Heap.get?_push_size _ rfl⟩
theorem Inv.fresh(I:Inv X pins σ H s):H s.heap.objs.size=none:=I.hok.fresh (Nat.le_refl _)
theorem Inv.lstM(I:Inv X pins σ H s)(hH:H l=some (.lst xs)):xs.length<=sizeLine/\∃(its:List Value) (n:Nat),cg xs its/\xs.length=its.length/\s.heap.get? l=some { cls:=.type "list",data:=.seq its.toArray n }:=by
 obtain⟨z,its,n,r,e⟩:=I.hok l _ hH
 exact⟨z,its,n,r,r.length,e⟩
theorem zQ{n:Nat}(h:n<=sizeLine):Builtin.List.listTooLong n=false:=by
 unfold Builtin.List.listTooLong
 exact decide_eq_false (by omega)
end
section
variable{X:Cx}
def vX:V->List V->Hp->VK->Prop:=fun x vs H Q=>∃l xs y,x=.ref l/\vs=[y]/\H l=some (.lst xs)/\xs.length<sizeLine/\Q .non (upd H l (.lst (xs++[y])))
theorem mB:MtM X "list.append" vX:=by
 intro pins s σ H x vs v us Q I rx rv h
 obtain⟨l,xs,y,rfl,rfl,hH,hz,q⟩:=h
 cases rx
 obtain⟨u,rfl,ru⟩:=rv.one
 obtain⟨z,its,n,r,hl,e⟩:=I.lstM hH
 refine call_meets F.slot_list_append ⟨_,e,rfl⟩ F.entry_list_append (F.args_list_append_2 _ _) (PySem.list_append l its.toArray n u (by rw[List.size_toArray];omega)) ⟨e,?_⟩
 refine⟨.non,_,I.lset (its':=its++[u]) hH e (by simp) (r.append (.cons ru .nil)) ?_,rfl,q⟩
 rw[List.length_append,List.length_singleton]
 omega
def AW:V->List V->Hp->VK->Prop:=fun x vs H Q=>∃l xs i k y,x=.ref l/\vs=[.int i]/\H l=some (.lst xs)/\-(2^63)<=i/\i<2^63/\seqIndex? i xs.length=some k/\xs[k]?=some y/\Q y (upd H l (.lst (xs.eraseIdx k)))
theorem zT:MtM X "list.pop" AW:=by
 intro pins s σ H x vs v us Q I rx rv h
 obtain⟨l,xs,i,k,y,rfl,rfl,hH,h1,h2,hk,hy,q⟩:=h
 cases rx
 obtain⟨u,rfl,ru⟩:=rv.one
 obtain⟨t,rfl⟩:=ru
 obtain⟨z,its,n,r,hl,e⟩:=I.lstM hH
 obtain⟨w,hw,rw'⟩:=r.get hy
 refine call_meets F.slot_list_pop ⟨_,e,rfl⟩ F.entry_list_pop (F.args_list_pop_2 _ _)
  (MeetsSeq.list_pop_at l its.toArray n i t k w (fitsIndex_both h1 h2) (by rw[List.size_toArray,<-hl];exact hk) (by rw[<-Array.getElem?_toList];exact hw) (by rw[List.size_toArray];omega)) ⟨e,?_⟩
 refine⟨y,_,I.lset (its':=its.eraseIdx k) hH e ?_ (r.eraseIdx k) ?_,rw',q⟩
 ·show its.toArray.eraseIdxIfInBounds k=(its.eraseIdx k).toArray
  rw[List.eraseIdxIfInBounds_toArray]
 ·have:=pX xs k
  omega
def Ir:R2:=fun x y H Q=>∃l b xs zs,x=.ref l/\y=.ref b/\H l=some (.lst xs)/\H b=some (.lst zs)/\xs.length+zs.length<=sizeLine/\∀p,H p=none->Q (.ref p) (upd H p (.lst (xs++zs)))
theorem GA:OpR X (binaryOp .Add) Ir:=by
 intro pins s σ H x y v u Q I rx ry h
 obtain⟨l,b,xs,zs,rfl,rfl,hH,hB,hz,q⟩:=h
 cases rx
 cases ry
 obtain⟨z,its,n,r,hl,e⟩:=I.lstM hH
 obtain⟨z2,its2,n2,r2,hl2,e2⟩:=I.lstM hB
 refine PySem.P.add_list e e2 ?_ (by rw[List.size_toArray,List.size_toArray];omega)
 have ea:its.toArray++its2.toArray=(its++its2).toArray:=by simp
 rw[ea]
 exact⟨.ref _,_,I.lnew (t':=s.toks) (r.append r2) (by rw[List.length_append];omega),rfl,q _ I.fresh⟩
def J7:R2:=fun x y H Q=>∃l k xs,x=.ref l/\y=.int k/\H l=some (.lst xs)/\-(2^63)<=k/\k<2^63/\xs.length*k.toNat<=sizeLine/\
 ∀p,H p=none->Q (.ref p) (upd H p (.lst (List.replicate k.toNat xs).flatten))
theorem rj{α:Type}(xs:List α)(k:Nat):(List.replicate k xs).flatten.length=k*xs.length:=by
 induction k with
 |zero=>simp
 |succ k ih=>rw[List.replicate_succ,List.flatten_cons,List.length_append,ih,Nat.succ_mul,Nat.add_comm]
theorem Gz:OpR X (binaryOp .Mult) J7:=by
 intro pins s σ H x y v u Q I rx ry h
 obtain⟨l,k,xs,rfl,rfl,hH,h1,h2,hz,q⟩:=h
 cases rx
 obtain⟨t,rfl⟩:=ry
 obtain⟨z,its,n,r,hl,e⟩:=I.lstM hH
 have hlen:its.toArray.size*k.toNat<=sizeLine:=by rw[List.size_toArray,<-hl];exact hz
 have hcap:¬its.toArray.size*k.toNat>(2^63-1) / 8:=by
  have:(sizeLine:Nat)<=(2^63-1) / 8:=by decide
  omega
 have hfit:¬(!Builtin.List.listFitsIndex k)=true:=by
  rw[fitsIndex_both h1 h2]
  exact Bool.false_ne_true
 have hlong:¬Builtin.List.listTooLong (its.toArray.size*k.toNat)=true:=by
  rw[zQ hlen]
  exact Bool.false_ne_true
 have hnew:List.foldl (fun x1 x2=>x1++x2) #[] (List.replicate (if its.toArray.isEmpty=true then 0 else k.toNat) its.toArray)=(List.replicate k.toNat its).flatten.toArray:=by
  have f0:∀m:Nat,List.foldl (fun x1 x2=>x1++x2) #[] (List.replicate m its.toArray)=(List.replicate m its).flatten.toArray:=fun m=>by
   have:=mM its m []
   rw[List.nil_append]at this
   exact this
  rw[f0]
  cases its with
  |nil=>simp
  |cons a r'=>rw[if_neg (by simp)]
 refine wpAny_binaryOp_repeat_ref (T:="list") (U:="int") (by decide) ⟨_,e,rfl⟩ (fun s'=>typeIs_int s' k t) noFill_list_mul F.fills_int_mul F.slot_int_rmul repeat_list F.slot_int_index.lookup
  (call_meets F.slot_int_rmul (typeIs_int s k t) F.entry_int_rmul (F.args_int_rmul_2 _ _) (int___rmul___int_list k t l its.toArray n)
   ⟨e,rfl,⟨_,e,rfl⟩,call_meets F.slot_list_mul ⟨_,e,rfl⟩ F.entry_list_mul (F.args_list_mul_2 _ _) (AutoListH.list___mul___list_int_3 l its.toArray n k t hfit hcap hlong) ⟨e,?_⟩⟩)
 rw[hnew]
 exact⟨.ref _,_,I.lnew (t':=s.toks) (r.rep k.toNat) (by rw[rj,Nat.mul_comm];exact hz),rfl,q _ I.fresh⟩
end
section
variable{κ:Type}[DecidableEq κ]
def fE(kvs:List (κ×V))(k:κ):Option V:=(kvs.find? fun kv=>decide (kv.1=k)).map (·.2)
def nL(kvs:List (κ×V))(k:κ)(v:V):List (κ×V):=
 if (kvs.any fun kv=>decide (kv.1=k))=true then kvs.map (fun kv=>if kv.1=k then(kv.1,v)else kv)else kvs++[(k,v)]
theorem dH{p:κ×V}{r:List (κ×V)}{k:κ}(e:p.1=k):fE (p::r) k=some p.2:=by simp[fE,List.find?_cons,e]
theorem dI{p:κ×V}{r:List (κ×V)}{k:κ}(e:¬p.1=k):fE (p::r) k=fE r k:=by simp[fE,List.find?_cons,e]
theorem je(k:κ):∀kvs:List (κ×V),(kvs.any fun kv=>decide (kv.1=k))=(fE kvs k).isSome
 |[]=>rfl
 |p::r=>by
  rw[List.any_cons]
  by_cases e:p.1=k
  ·simp only[dH e,decide_eq_true e,Bool.true_or,Option.isSome_some]
  ·rw[dI e,decide_eq_false e,Bool.false_or];exact je k r
theorem si(k j:κ)(y:V):∀kvs:List (κ×V),fE (kvs.map fun kv=>if kv.1=k then(kv.1,y)else kv) j=(fE kvs j).map fun x=>if j=k then y else x
 |[]=>rfl
 |p::r=>by
  have ih:=si k j y r
  rw[List.map_cons]
  by_cases h:p.1=k
  ·rw[if_pos h]
   by_cases e:p.1=j
   ·rw[dH (p:=(p.1,y)) e,dH e,Option.map_some,if_pos (e.symm.trans h)]
   ·rw[dI (p:=(p.1,y)) e,dI e,ih]
  ·rw[if_neg h]
   by_cases e:p.1=j
   ·rw[dH (p:=p) e,dH e,Option.map_some,if_neg (fun z=>h (e.trans z))]
   ·rw[dI (p:=p) e,dI e,ih]
theorem pA(k j:κ)(y:V):∀kvs:List (κ×V),fE kvs k=none->fE (kvs++[(k,y)]) j=if j=k then some y else fE kvs j
 |[],_=>by
  by_cases e:k=j
  ·rw[if_pos e.symm];exact dH (p:=(k,y)) e
  ·rw[if_neg (fun z=>e z.symm)];exact dI (p:=(k,y)) e
 |p::r,hn=>by
  rw[List.cons_append]
  have hk:¬p.1=k:=fun z=>by rw[dH z]at hn;cases hn
  rw[dI hk]at hn
  have ih:=pA k j y r hn
  by_cases e:p.1=j
  ·rw[dH e,dH e,if_neg (fun z=>hk (e.trans z))]
  ·rw[dI e,dI e,ih]
theorem yX(kvs:List (κ×V))(k j:κ)(y:V):fE (nL kvs k y) j=if j=k then some y else fE kvs j:=by
 unfold nL
 by_cases a:(kvs.any fun kv=>decide (kv.1=k))=true
 ·rw[if_pos a,si]
  rw[je]at a
  by_cases e:j=k
  ·obtain⟨x,hx⟩:=Option.isSome_iff_exists.mp a
   rw[if_pos e,e,hx,Option.map_some,if_pos rfl]
  ·rw[if_neg e]
   cases fE kvs j with
   |none=>rfl
   |some x=>rw[Option.map_some,if_neg e]
 ·rw[if_neg a]
  refine pA k j y kvs ?_
  rw[je]at a
  cases q:fE kvs k with
  |none=>rfl
  |some x=>rw[q]at a;exact(a rfl).elim
theorem mE(kvs:List (κ×V))(k:κ)(v:V):(nL kvs k v).length<=kvs.length+1:=by
 unfold nL
 split
 ·rw[List.length_map];omega
 ·rw[List.length_append,List.length_cons,List.length_nil];omega
theorem o6.isSome_eq{o:Option V}{u:Option Value}(r:o6 o u):o.isSome=u.isSome:=by
 cases o with
 |none=>cases u with
  |none=>rfl
  |some _=>exact(show False from r).elim
 |some _=>cases u with
  |none=>exact(show False from r).elim
  |some _=>rfl
theorem KV.val{kvs:List (κ×V)}{vs:List (κ×Value)}(r:KV kvs vs)(k:κ):o6 (fE kvs k) (valueAt vs k):=by
 unfold KV at r
 induction r with
 |nil=>exact True.intro
 |@cons p q ps qs h t ih=>
  obtain⟨h1,h2⟩:=h
  by_cases e:p.1=k
  ·have e':q.1=k:=h1.symm.trans e
   have b:valueAt (q::qs) k=some q.2:=by simp[valueAt,List.find?_cons,e']
   rw[dH e,b];exact h2
  ·have e':¬q.1=k:=fun z=>e (h1.trans z)
   have b:valueAt (q::qs) k=valueAt qs k:=by simp[valueAt,List.find?_cons,e']
   rw[dI e,b];exact ih
theorem KV.any{kvs:List (κ×V)}{vs:List (κ×Value)}(r:KV kvs vs)(k:κ):(kvs.any fun kv=>decide (kv.1=k))=vs.any fun kv=>decide (kv.1=k):=by
 unfold KV at r
 induction r with
 |nil=>rfl
 |cons h t ih=>rw[List.any_cons,List.any_cons,ih,h.1]
theorem KV.repl{kvs:List (κ×V)}{vs:List (κ×Value)}(r:KV kvs vs)(k:κ){y:V}{u:Value}(ry:du y u) :
  KV (kvs.map fun kv=>if kv.1=k then(kv.1,y)else kv) (vs.map fun kv=>if kv.1=k then(kv.1,u)else kv):=by
 unfold KV at r ⊢
 induction r with
 |nil=>exact .nil
 |@cons p q ps qs h t ih=>
  rw[List.map_cons,List.map_cons]
  refine .cons ?_ ih
  obtain⟨h1,h2⟩:=h
  by_cases e:p.1=k
  ·rw[if_pos e,if_pos (h1.symm.trans e)];exact⟨h1,ry⟩
  ·rw[if_neg e,if_neg (fun z=>e (h1.trans z))];exact⟨h1,h2⟩
theorem KV.put{kvs:List (κ×V)}{vs:List (κ×Value)}(r:KV kvs vs)(k:κ){y:V}{u:Value}(ry:du y u):KV (nL kvs k y) (stored vs k u):=by
 unfold nL stored
 rw[r.any k]
 by_cases e:(vs.any fun kv=>decide (kv.1=k))=true
 ·rw[if_pos e,if_pos e];exact r.repl k ry
 ·rw[if_neg e,if_neg e];exact Paired.snoc r ⟨rfl,ry⟩
theorem KV.length{kvs:List (κ×V)}{vs:List (κ×Value)}(r:KV kvs vs):kvs.length=vs.length:=Paired.length r
end
theorem z4{P:Program}{w:World}{k:Key}{u:Value}(r:du (kV k) u):(d7 P w).is k u=true:=by
 cases k with
 |inl i=>obtain⟨t,e⟩:=(show ∃t,u=Value.int i t from r);subst e;exact qZ P w i t
 |inr x=>obtain⟨t,e⟩:=(show ∃t,u=Value.str x t from r);subst e;exact qY P w x t
theorem pZ{P:Program}{w:World}:∀{ks:List Key} {us:List Value},cg (ks.map kV) us->ItemsAre (d7 P w) ks us
 |[],_,r=>by rw[List.map_nil]at r;cases r;exact .nil
 |k::ks,_,r=>by
  rw[List.map_cons]at r
  cases r with
  |cons h t=>exact .cons (z4 h) (pZ t)
abbrev KT(H:Hp):List (List Key×V)->List (List Key×Addr×Value)->Prop:=Paired fun p q=>p.1=q.1/\H q.2.1=some (.tup (p.1.map kV))/\du p.2 q.2.2
theorem KT.val{H:Hp}{kvs:List (List Key×V)}{xs:List (List Key×Addr×Value)}(r:KT H kvs xs)(k:List Key):o6 (fE kvs k) ((atKey xs k).map (·.2)):=by
 induction r with
 |nil=>exact True.intro
 |@cons p q ps qs h t ih=>
  obtain⟨h1,_,h2⟩:=h
  by_cases e:p.1=k
  ·have e':q.1=k:=h1.symm.trans e
   have b:atKey (q::qs) k=some q.2:=by simp[atKey,List.find?_cons,e']
   rw[dH e,b];exact h2
  ·have e':¬q.1=k:=fun z=>e (h1.trans z)
   have b:atKey (q::qs) k=atKey qs k:=by simp[atKey,List.find?_cons,e']
   rw[dI e,b];exact ih
theorem KT.repl{H:Hp}{kvs:List (List Key×V)}{xs:List (List Key×Addr×Value)}(r:KT H kvs xs)(k:List Key){y:V}{u:Value}(ry:du y u) :
  KT H (kvs.map fun kv=>if kv.1=k then(kv.1,y)else kv) (xs.map (putAt k u)):=by
 induction r with
 |nil=>exact .nil
 |@cons p q ps qs h t ih=>
  rw[List.map_cons,List.map_cons]
  refine .cons ?_ ih
  obtain⟨h1,h2,h3⟩:=h
  unfold putAt
  by_cases e:p.1=k
  ·rw[if_pos e,if_pos (h1.symm.trans e)];exact⟨h1,h2,ry⟩
  ·rw[if_neg e,if_neg (fun z=>e (h1.trans z))];exact⟨h1,h2,h3⟩
theorem KT.put{H:Hp}{kvs:List (List Key×V)}{xs:List (List Key×Addr×Value)}(r:KT H kvs xs)(k:List Key){b:Addr}{y:V}{u:Value}(hb:H b=some (.tup (k.map kV)))(ry:du y u) :
  KT H (nL kvs k y) (storedH xs k b u):=by
 have e:(kvs.any fun kv=>decide (kv.1=k))=(atKey xs k).isSome:=by
  rw[je,(r.val k).isSome_eq,Option.isSome_map]
 unfold nL storedH
 rw[e]
 by_cases q:(atKey xs k).isSome=true
 ·rw[if_pos q,if_pos q];exact r.repl k ry
 ·rw[if_neg q,if_neg q];exact Paired.snoc r ⟨rfl,hb,ry⟩
theorem KT.keeps{H H':Hp}{kvs:List (List Key×V)}{xs:List (List Key×Addr×Value)}(r:KT H kvs xs)(ht:∀b ys,H b=some (.tup ys)->H' b=some (.tup ys)):KT H' kvs xs:=
 Paired.mapP r fun _ _ z=>⟨z.1,ht _ _ z.2.1,z.2.2⟩
section
variable{P:Program}{w:World}{H:Hp}{h:Heap}{a:Addr}
theorem FN{u:HO}(ok:HOk P w H h)(e:Rd H a u):cZ P w H h a u:=e.ok ok
theorem xM{kvs:List (Key×V)}(ok:HOk P w H h)(e:Rd H a (.dK kvs)):kvs.length<=sizeLine/\(a == sysModules)=false/\∃vs,KV kvs vs/\h.DictOf (d7 P w) a vs:=
 show cZ P w H h a (.dK kvs)from FN ok e
theorem HK{kvs:List (Key×V)}(ok:HOk P w H h)(e:H a=some (.dK kvs)):kvs.length<=sizeLine/\(a == sysModules)=false/\∃vs,KV kvs vs/\h.DictOf (d7 P w) a vs:=xM ok (.inl e)
theorem sZ{ks:List Key}(ok:HOk P w H h)(e:H a=some (.tup (ks.map kV))):(tupleKind (d7 P w)).is h ks a:=by
 obtain⟨_,its,r,o,h1,h2,n,h3⟩:=(show cZ P w H h a (.tup (ks.map kV))from ok a _ e)
 exact⟨o,its.toArray,n,h1,h2,h3,by simpa using pZ r⟩
theorem Ao{kvs:List (List Key×V)}(ok:HOk P w H h)(e:Rd H a (.dT kvs)):kvs.length<=sizeLine/\(a == sysModules)=false/\
  ∃xs,KT H kvs xs/\h.DictOfH (tupleKind (d7 P w)) a xs:=by
 obtain⟨z,y,xs,r,o,es,ep,h1,h2,h3,h4,h5⟩:=(show cZ P w H h a (.dT kvs)from FN ok e)
 refine⟨z,y,xs,r,o,es,ep,h1,h2,h3,h4,fun x hx=>?_,h5⟩
 have all:∀{l:List (List Key×V)} {m:List (List Key×Addr×Value)},KT H l m->∀x∈m,(tupleKind (d7 P w)).is h x.1 x.2.1:=by
  intro l m q
  induction q with
  |nil=>intro x hx;exact nomatch hx
  |@cons p q ps qs hq t ih=>
   intro x hx
   rcases List.mem_cons.mp hx with e|hx
   ·subst e
    exact sZ ok (by rw[<-hq.1];exact hq.2.1)
   ·exact ih x hx
 exact all r x hx
theorem Lf{kvs:List (List Key×V)}(ok:HOk P w H h)(e:H a=some (.dT kvs)):kvs.length<=sizeLine/\(a == sysModules)=false/\
  ∃xs,KT H kvs xs/\h.DictOfH (tupleKind (d7 P w)) a xs:=Ao ok (.inl e)
end
def DGet(H:Hp)(a:Addr)(y:V)(r:Option V):Prop:=
 (∃kvs k,Rd H a (.dK kvs)/\y=kV k/\r=fE kvs k)\/∃kvs k b,Rd H a (.dT kvs)/\y=.ref b/\H b=some (.tup (k.map kV))/\r=fE kvs k
def Ig(H:Hp)(a:Addr)(y v:V)(H':Hp):Prop:=
 (∃kvs k,H a=some (.dK kvs)/\y=kV k/\kvs.length<sizeLine/\H'=upd H a (.dK (nL kvs k v)))\/
 ∃kvs k b,H a=some (.dT kvs)/\y=.ref b/\H b=some (.tup (k.map kV))/\kvs.length<sizeLine/\H'=upd H a (.dT (nL kvs k v))
theorem DGet.k{H:Hp}{a:Addr}{kvs:List (Key×V)}{k:Key}(e:H a=some (.dK kvs)):DGet H a (kV k) (fE kvs k):=.inl ⟨kvs,k,.inl e,rfl,rfl⟩
theorem Ig.k{H:Hp}{a:Addr}{kvs:List (Key×V)}{k:Key}{v:V}(e:H a=some (.dK kvs))(hl:kvs.length<sizeLine):Ig H a (kV k) v (upd H a (.dK (nL kvs k v))):=.inl ⟨kvs,k,e,rfl,hl,rfl⟩
section
variable{X:Cx}{pins:List (Addr×Obj)}{σ:St}{H:Hp}{s:Shared}{a:Addr}{y v:V}{u r:Value}{o:Option V}{A:Around}{E:Value->Shared->Prop}
theorem Inv.big(I:Inv X pins σ H s):sysModules<s.heap.objs.size:=by
 have h:mainGlobals<s.heap.objs.size:=(I.mod.glob.keeps I.bk).lt
 exact Nat.lt_trans (by decide) h
theorem xS{Q:Value->Shared->Prop}(hu:A.units+1<cLine)(I:Inv X pins σ H s)(g:DGet H a y (some v))(ry:du y u)(h:∀w' s',Inv X pins σ H s'->du v w'->Q w' s') :
  wpAny (model X.prog X.w) A (getItem (.ref a) u) Q E s:=by
 rcases g with⟨kvs,k,e,ey,l⟩|⟨kvs,k,b,e,ey,eb,l⟩
 ·subst ey
  obtain⟨z,hd,vs,rel,dd⟩:=xM I.hok e
  obtain⟨w',hw,rw'⟩:=o6.some_of (v:=v) (o:=valueAt vs k) (by rw[l];exact rel.val k)
  exact wpAny_getItem_of (z4 ry) dd.mapOf hw (h w' _ (I.tok _) rw')
 ·subst ey
  cases (show u=Value.ref b from ry)
  obtain⟨z,hd,xs,rel,dd⟩:=Ao I.hok e
  obtain⟨w',hw,rw'⟩:=o6.some_of (v:=v) (o:=(atKey xs k).map (·.2)) (by rw[l];exact rel.val k)
  obtain⟨p,hp,hp2⟩:=Option.map_eq_some_iff.mp hw
  refine wpAny_getItem_heap (tupleKind_room_in1 hu) (sZ I.hok eb) dd hp ?_
  rw[hp2]
  exact h w' _ (I.tok _) rw'
theorem D5{Q:Value->Shared->Prop}(hu:A.units+1<cLine)(I:Inv X pins σ H s)(g:DGet H a y o)(ry:du y u)(h:∀s',Inv X pins σ H s'->Q (.bool (!o.isSome)) s') :
  wpAny (model X.prog X.w) A (compareOp .NotIn u (.ref a)) Q E s:=by
 rcases g with⟨kvs,k,e,ey,l⟩|⟨kvs,k,b,e,ey,eb,l⟩
 ·subst ey
  obtain⟨z,hd,vs,rel,dd⟩:=xM I.hok e
  refine wpAny_notIn_of (z4 ry) hd dd.mapOf ?_
  rw[<-(rel.val k).isSome_eq,<-l]
  exact h _ (I.tok _)
 ·subst ey
  cases (show u=Value.ref b from ry)
  obtain⟨z,hd,xs,rel,dd⟩:=Ao I.hok e
  refine wpAny_notIn_heap (tupleKind_room_in1 hu) (sZ I.hok eb) hd dd ?_
  have q:=(rel.val k).isSome_eq
  rw[Option.isSome_map]at q
  rw[<-q,<-l]
  exact h _ (I.tok _)
theorem oM{h':Heap}{t':Nat}{ob:HO}(I:Inv X pins σ H s)(mu:Mut (H a))(hs:Heap.SameBut a s.heap h')(he:∃q,h'.get? a=some q)(new:cZ X.prog X.w (upd H a ob) h' a ob) :
  Inv X pins σ (upd H a ob) { s with heap:=h',toks:=t' }:=
 I.write (x:=a) (e:=a) mu (.inl rfl) (fun b q hb z=>(hs.2 b hb).trans z) he new
theorem HL{P:Program}{w:World}{H':Hp}{h':Heap}{kvs:List (Key×V)}{vs:List (Key×Value)}(z:kvs.length<=sizeLine)(hd:(a == sysModules)=false)(rel:KV kvs vs)(dd:h'.DictOf (d7 P w) a vs) :
  cZ P w H' h' a (.dK kvs):=⟨z,hd,vs,rel,dd⟩
theorem xR{H':Hp}{Q:Unit->Shared->Prop}(hu:A.units+1<cLine)(I:Inv X pins σ H s)(g:Ig H a y v H')(ry:du y u)(rv:du v r)(h:∀s',Inv X pins σ H' s'->Q () s') :
  wpAny (model X.prog X.w) A (setItem (.ref a) u r) Q E s:=by
 rcases g with⟨kvs,k,e,ey,l,eH⟩|⟨kvs,k,b,e,ey,eb,l,eH⟩
 ·subst ey eH
  obtain⟨z,hd,vs,rel,dd⟩:=HK I.hok e
  have hz:vs.length<=sizeLine:=by rw[<-rel.length];exact z
  have hl:(nL kvs k v).length<=sizeLine:=by have:=mE kvs k v;omega
  refine wpAny_setItem_pairs (hsz:=hz) (z4 ry) dd fun h' dd' hs=>h _ ?_
  have he:∃q,h'.get? a=some q:=let ⟨q,_,_,hq,_⟩:=dd';⟨q,hq⟩
  exact oM I (by rw[e];exact True.intro) hs he (HL hl hd (rel.put k rv) dd')
 ·subst ey eH
  cases (show u=Value.ref b from ry)
  obtain⟨z,hd,xs,rel,dd⟩:=Lf I.hok e
  have hz:xs.length<=sizeLine:=by rw[<-Paired.length rel];exact z
  have hl:(nL kvs k v).length<=sizeLine:=by have:=mE kvs k v;omega
  refine wpAny_setItem_heap (hsz:=hz) (tupleKind_room_in1 hu) (sZ I.hok eb) dd fun h' dd' hs=>h _ ?_
  obtain⟨q,es,ep,hq,h2,h3,h4,_,h5⟩:=dd'
  refine oM I (by rw[e];exact True.intro) hs ⟨q,hq⟩ ⟨hl,hd,_,(rel.put k eb rv).keeps fun c ys ec=>?_,q,es,ep,hq,h2,h3,h4,h5⟩
  rw[bD (Ko ec e (fun z=>nomatch z))]
  exact ec
end
section
variable{X:Cx}{pins:List (Addr×Obj)}{σ:St}{H:Hp}{s:Shared}{a:Addr}{kvs:List (Key×V)}{k:Key}{u:Value}{A:Around}{E:Value->Shared->Prop}
theorem Lg{Q:Value->Shared->Prop}(I:Inv X pins σ H s)(e:Rd H a (.dK kvs))(h:∀t s',Inv X pins σ H s'->Q (.int kvs.length t) s'):wpAny (model X.prog X.w) A (call (.builtin "len") [.ref a]) Q E s:=by
 obtain⟨z,hd,vs,rel,dd⟩:=xM I.hok e
 refine call_len_dict hd dd (by rw[<-rel.length];rw[sizeLine_eq]at z;omega) ?_
 rw[<-rel.length]
 exact h _ _ (I.tok _)
end
def Et(i:Expr):Prop:=∀ov iv,subscripted i false ov iv=operate [ov,iv] (getItem ov iv)
theorem vJ{prog:Program}{w:World}{A:Around}{E:Value->Shared->Prop}{s:Shared}{env:Env}{value slice:Expr}{pos:Pos}{T id:String}{Q:Value->Shared->Prop}
  (hl:typeLookup (.type T) "__getitem__"=pure (some (.builtin id))) (hs:Et slice)
  (h:wpAny (model prog w) A (eval value env) (fun o s₁=>wpAny (model prog w) A (eval slice env) (fun i s₂=>s₂.TypeIs o T/\wpAny (model prog w) A (getItem o i) Q E s₂) E s₁) E s) :
  wpAny (model prog w) A (eval (.Subscript value slice pos) env) Q E s:=by
 refine Subscript_ (wpAny_mono h (fun o s₁ h₁=>wpAny_mono h₁ (fun i s₂ h₂=>?_) fun _ _ x=>x) fun _ _ x=>x)
 obtain⟨hT,h₂⟩:=h₂
 unfold subscriptTail
 refine wpAny_bind ?_
 rw[getitemInPython_of_ne hT.not_modules]
 refine wpAny_bind (wpAny_specialOf hT hl ?_)
 have fin:wpAny (model prog w) A (subscripted slice false o i) (fun r s₃=>wpAny (model prog w) A (letTemporaryGo value o r >>= fun _=>pure r) Q E s₃) E s₂:=by
  rw[hs o i]
  exact wpAny_operating (wpAny_mono h₂ (fun r s₃ h₃=>wpAny_bind (wpAny_letTemporaryGo (wpAny_pure h₃))) fun _ _ x=>x)
 first
  |exact wpAny_pure (wpAny_bind fin)
  |exact wpAny_bind (wpAny_pure (wpAny_bind fin))
  |exact wpAny_bind fin
theorem rO{X:Cx}{pins:List (Addr×Obj)}{σ:St}{H:Hp}{s:Shared}{a:Addr}{y:V}{o:Option V}(I:Inv X pins σ H s)(g:DGet H a y o):s.TypeIs (.ref a) "dict":=by
 rcases g with⟨kvs,k,e,_,_⟩|⟨kvs,k,b,e,_,_,_⟩
 ·obtain⟨_,_,vs,_,dd⟩:=xM I.hok e
  exact dd.typeIs
 ·obtain⟨_,_,xs,_,dd⟩:=Ao I.hok e
  exact dd.typeIs
def FC(td ty:TE):TE:=fun σ H Q=>td σ H fun x H1=>ty σ H1 fun y H2=>∃a v,x=.ref a/\DGet H2 a y (some v)/\Q v H2
def qI(ty td:TE):TE:=fun σ H Q=>ty σ H fun y H1=>td σ H1 fun x H2=>∃a o,x=.ref a/\DGet H2 a y o/\Q (.bl (!o.isSome)) H2
def FJ(td ty tv:TE):TS:=fun D σ H=>tv σ H fun v H1=>td σ H1 fun x H2=>ty σ H2 fun y H3=>∃a H4,x=.ref a/\Ig H3 a y v H4/\D.nx σ H4
section
variable{X:Cx}{o i e value:Expr}{pos pos' tpos:Pos}{td ty tv:TE}
theorem De(hu:X.A.units+1<cLine)(ho:PE X o td)(hi:PE X i ty)(hs:Et i):PE X (.Subscript o i pos) (FC td ty):=by
 intro pins s σ H Q I h
 refine vJ PySem.F.slot_dict_getitem.lookup hs (thn (ho pins s σ H _ I h) fun u s1 ⟨x,H1,I1,rx,q1⟩=>thn (hi pins s1 σ H1 _ I1 q1) fun iv s2 hz=>?_)
 obtain⟨y,H2,I2,ry,a,v,ex,g,q2⟩:=hz
 subst ex
 obtain rfl:u=Value.ref a:=rx
 exact⟨rO I2 g,xS hu I2 g ry fun w' s3 I3 rw'=>⟨v,H2,I3,rw',q2⟩⟩
theorem wq(hu:X.A.units+1<cLine)(hi:PE X i ty)(ho:PE X o td):PC X .NotIn i o (qI ty td):=by
 intro pins s σ H Q I h
 refine thn (hi pins s σ H _ I h) fun iv s1 ⟨y,H1,I1,ry,q1⟩=>thn (ho pins s1 σ H1 _ I1 q1) fun u s2 hz=>?_
 obtain⟨x,H2,I2,rx,a,ov,ex,g,q2⟩:=hz
 subst ex
 obtain rfl:u=Value.ref a:=rx
 exact D5 hu I2 g ry fun s3 I3=>⟨.bl (!ov.isSome),H2,I3,rfl,q2⟩
theorem C2(hu:X.A.units+1<cLine)(ho:PE X o td)(hi:PE X i ty)(hv:PE X value tv)(hs:swapsWith value (some (.Subscript o i pos')) pos.line X.env=pure false) :
  PS X (.Assign [.Subscript o i pos'] value pos) (FJ td ty tv):=by
 intro pins s σ H D I h
 refine wpAny_Assign_Subscript (thn (hv pins s σ H _ I h) fun r s1 ⟨v,H1,I1,rv,q1⟩=>thn (ho pins s1 σ H1 _ I1 q1) fun u s2 ⟨x,H2,I2,rx,q2⟩=>thn (hi pins s2 σ H2 _ I2 q2) fun iv s3 hz=>?_) hs
 obtain⟨y,H3,I3,ry,a,H4,ex,g,q3⟩:=hz
 subst ex
 obtain rfl:u=Value.ref a:=rx
 exact xR hu I3 g ry rv fun s4 I4=>⟨σ,H4,I4,q3⟩
end
theorem As{P:Program}{w:World}{H:Hp}(h:Heap)(hb:sysModules<h.objs.size):cZ P w H (h.push { cls:=.type "dict",data:=.dict #[] }) h.objs.size (.dK []):=
 ⟨Nat.zero_le _,beq_eq_false_iff_ne.mpr (Ne.symm (Nat.ne_of_lt hb)),[],.nil,Heap.DictOf.new h⟩
def AR:TE:=fun _ H Q=>∀p,H p=none->Q (.ref p) (upd H p (.dK []))
section
variable{X:Cx}{pos:Pos}
theorem zD:PE X (.Dict [] [] pos) AR:=fun pins s σ H Q I h=>
 wpAny_Dict_empty ⟨.ref s.heap.objs.size,_,I.laid (a:=s.heap.objs.size) (o:=.dK []) (t':=s.toks) (fun _ _ q=>Heap.get?_push_of_some _ q) (Nat.le_refl _) (As s.heap I.big),rfl,h _ (I.hok.fresh (Nat.le_refl _))⟩
end
def vG:List (TE×TE)->St->Hp->(List (V×V)->Hp->Prop)->Prop
 |[],_,H,Q=>Q [] H
 |(tk,tv)::r,σ,H,Q=>tk σ H fun x H1=>tv σ H1 fun y H2=>vG r σ H2 fun ps H3=>Q ((x,y)::ps) H3
abbrev VV:List (V×V)->List (Value×Value)->Prop:=Paired fun p q=>du p.1 q.1/\du p.2 q.2
def PPs(X:Cx)(pos:Pos)(keys:List (Option Expr))(values:List Expr)(trs:List (TE×TE)):Prop:=
 ∀(pins:List (Addr×Obj)) (s:Shared) (σ:St) (H:Hp) (Q:List (V×V)->Hp->Prop),Inv X pins σ H s->vG trs σ H Q->
  wpAny (model X.prog X.w) X.A (evalPairs (pairTrees keys values X.env pos)) (fun vs s'=>∃ps H',Inv X pins σ H' s'/\VV ps vs/\Q ps H') X.xe s
theorem C3{X:Cx}{pos:Pos}:PPs X pos [] [] []:=fun pins s σ H Q I h=>pairTrees_nil_walk ⟨[],H,I,.nil,h⟩
theorem zv{X:Cx}{pos:Pos}{k v:Expr}{ks:List (Option Expr)}{vs:List Expr}{tk tv:TE}{trs:List (TE×TE)}(hk:PE X k tk)(hv:PE X v tv)(hr:PPs X pos ks vs trs) :
  PPs X pos (some k::ks) (v::vs) ((tk,tv)::trs):=fun pins s σ H Q I h=>
 pairTrees_cons_walk (thn (hk pins s σ H _ I h) fun u s1 ⟨x,H1,I1,rx,q1⟩=>thn (hv pins s1 σ H1 _ I1 q1) fun w2 s2 ⟨y,H2,I2,ry,q2⟩=>
  thn (hr pins s2 σ H2 _ I2 q2) fun ws s3 ⟨ps,H3,I3,rel,q3⟩=>⟨(x,y)::ps,H3,I3,.cons ⟨rx,ry⟩ rel,q3⟩)
end L2
namespace Att
open PySem PySem.W PySem.Calls PyProof.Rows
theorem mI{P:Params}{h:Heap}:∀(ns:List Int) (vs:List Value),WellAll P h vs (ns.map WData.int)->IntsAre vs ns:=by
 intro ns
 induction ns with
 |nil=>
  intro vs w
  rw[List.map_nil]at w
  cases w
  exact .nil
 |cons n ns ih=>
  intro vs w
  rw[List.map_cons]at w
  cases w with
  |cons a b=>
   cases a
   exact .cons _ _ (ih _ b)
theorem vO{l:OpenLaw}{n:Nat}(hn:l.most=some n){P:Params}{h:Heap}{args:List WData}{vals:List Value}
  (hpre:l.row.toRowW.claim.pre args=true) (hwl:WellAll P h vals args) :
  ∃a vs ns,vals=[Value.ref a]/\args=[WData.list (ns.map WData.int)]/\h.get? a=some { cls:=.type "list",data:=.seq vs.toArray }/\IntsAre vs ns/\ns.length<=n:=by
 have hsh:WShape.hasAll [] args [.list .int]=true:=(pre_splitW hpre).1
 have hc:l.pre.holds [] { args:=args }=true:=(pre_splitW hpre).2
 obtain⟨d,r,rfl,h1,h2⟩:=hasAllW_cons hsh
 obtain rfl:=hasAllW_nil h2
 obtain⟨xs,rfl,h3⟩:=hasW_list h1
 obtain⟨ns,rfl⟩:=items_int h3
 have hlen:ns.length<=n:=by
  unfold OpenLaw.pre at hc
  have h4:(WTm.not (.lt (.lit (.int (n:Int))) (.len (.arg 0)))).holds [] { args:=[.list (ns.map .int)] }=true:=by
   have h4:=(holds_andW hc).1
   rw[hn]at h4
   exact h4
  have h5:=condW_of h4 (w_not (w_lt w_lit (w_len_list (w_arg rfl))))
  rw[List.length_map]at h5
  refine Nat.le_of_not_lt fun q=>?_
  have q':(n:Int)<((ns.length:Nat):Int):=by omega
  first
   |(rw[decide_eq_true q']at h5;exact absurd h5 (by decide))
   |(simp at h5;omega)
 cases hwl with
 |cons w1 w2=>
  cases w2
  cases w1 with
  |list ho hall=>exact⟨_,_,ns,rfl,rfl,ho,mI ns _ hall,hlen⟩
theorem wk(l:OpenLaw)(args:List WData):l.row.toRowW.claim.post args (.bool true) args=true:=
 postW_of (r:=l.row.toRowW) (X:=(true == true))
  (show WShape.has [] (.bool true) .bool=true by first|rfl|decide|simp[WShape.has,WShape.arms,WShape.armsAll])
  (show(WTm.eq .res (.lit (.bool true))).value [] { args:=args,res:=some (.bool true),after:=args }=some (.bool (true == true))from w_eq_bool (w_res rfl) w_lit) rfl
theorem attach_call{l:OpenLaw}{n:Nat}{q:Program}{loose:List Str}{XP:(Str->Option Value)->Heap->Prop}{YP:World->Heap->Prop}{d:DefRec}
  (hn:l.most=some n) (hdf:d.params.defaults=[])
  (call:∀(w:World) (s₀ s₁:Shared) (mg mb:Str->Option Value) (fa:Addr) (o:Obj) (pm cd doc:Value) (a:Addr) (vs:List Value) (ns:List Int),
   Ground q loose [] XP w s₀ mg mb s₁.heap->YP w s₁.heap->
   s₁.heap.get? fa=some o->o.data=.func (docDef d.name d.params d.body d.scope pm cd doc)->s₁.heap.CodeRec cd d.name->mg d.name=some (.ref fa)->
   s₁.heap.get? a=some { cls:=.type "list",data:=.seq vs.toArray }->IntsAre vs ns->ns.length<=n->s₁.gens=#[]->
   codeAny (model l.prog w) callerA (.call (.ref fa) ⟨[.ref a],[]⟩) (fun r s'=>r=.ok (.ret (.bool true))/\OldK s₁.heap s'.heap/\s'.os=s₁.os/\AllBare s'.gens) s₁) :
  WalkO q loose XP YP l.row.toRowW d [] (fun f vs=>PySem.call f vs):=by
 intro w s₀ s₁ mg mb G Y fa o pm cd doc dV kV ho hd hcd hD hmg hg args vals as hpre hlay hrd hwl hlo
 obtain rfl:dV=.none:=Dflts.none hD hdf
 obtain rfl:kV=.none:=Dflts.noKw hD
 obtain⟨a,vs,ns,rfl,rfl,hobj,hints,hlen⟩:=vO hn hpre hwl
 refine enter_call (codeAny_mono (call w s₀ s₁ mg mb fa o pm cd doc a vs ns G Y ho (fd_plain hd) hcd hmg hobj hints hlen hg) fun r s' hq=>?_)
 obtain⟨rfl,h2,h3,h4⟩:=hq
 exact⟨.inl ⟨.bool true,.bool true,[],rfl,fun _=>rfl,.bool true,wk l _,fun _=>⟨List.Pairwise.nil,fun _ hm=>(nomatch hm)⟩⟩,h2,h3,h4⟩
end Att
namespace L2
open PySem PySem.Spec PyProof.Rows
theorem fX:∀{vs:List Value} {ns:List Int},IntsAre vs ns->cg (ns.map V.int) vs
 |_,_,.nil=>.nil
 |_,_,.cons n t h=>.cons ⟨t,rfl⟩ (fX h)
def Lp(H:Hp):Prop:=∀b,H b=none\/∃o xs,H b=some (.frz o (.lst xs))
theorem zY{P:Program}{w:World}{K:PySem.W.Frag}{mg mb:Str->Option Value}{CX:CXT}{k:Nat}{fa a:Addr}{fd:FuncData}{x:Str}{sp:Sp}{s₁:Shared}{vs:List Value}{ns:List Int}
  (KX:K.In s₁.heap) (hns:s₁.heap.Ns mainGlobals mg) (hb:s₁.heap.Ns builtinsNs mb) (hbb:∀x:Str,x≠"__name__"->mb x=bootBuiltins x) (hlim:s₁.heap.NoLimit) (hg:s₁.gens=#[])
  (ha:s₁.heap.get? a=some { cls:=.type "list",data:=.seq vs.toArray }) (hi:IntsAre vs ns) (hl:ns.length<=sizeLine) (hr:gz k callerA)
  (F:∀base:Heap,K.In base->base.Ns mainGlobals mg->kT P w K mg base CX k fa fd [x] sp) (hbind:∀(s:Shared) (u:Value),BindsTo s fd ⟨[u],[]⟩ [(x,u)])
  (hsp:∀H:Hp,Lp H->SqL K H a (ns.map V.int)->sp [.ref a] H (fun v _=>v=.bl true) fun _ _ _=>False)
  (hCX:∀H e s',CX [] H s₁ (fun _ _ _=>False) e s'->False) :
  codeAny (model P w) callerA (.call (.ref fa) ⟨[.ref a],[]⟩) (fun r s'=>r=.ok (.ret (.bool true))/\OldK s₁.heap s'.heap/\s'.os=s₁.os/\AllBare s'.gens) s₁:=by
 have rv:=fX hi
 have lenV:=hi.length
 have core:∀H:Hp,Lp H->SqL K H a (ns.map V.int)->HOk P w H s₁.heap->(∀b,H b≠none->b=a)->(H a≠none->K.lookup a=none)->
   codeAny (model P w) callerA (.call (.ref fa) ⟨[.ref a],[]⟩) (fun r s'=>r=.ok (.ret (.bool true))/\OldK s₁.heap s'.heap/\s'.os=s₁.os/\AllBare s'.gens) s₁:=by
  intro H hO hS hok hA hK
  have base_of:∀{b:Addr} {o:Obj},s₁.heap.get? b=some o->H b=none->(Aa s₁.heap H).get? b=some o:=fun e n=>z9 e n
  have noA:∀{b:Addr} {o:Obj} {es:Array DictEntry} {ep:Nat},s₁.heap.get? b=some o->o.data=.dict es ep->H b=none:=fun{b o es ep} e d=>by
   cases q:H b with
   |none=>rfl
   |some u=>
    have e':b=a:=hA b (by rw[q];simp)
    subst e'
    rw[ha]at e;cases e
    have d':Data.seq vs.toArray _=Data.dict es ep:=d
    cases d'
  have nsK:∀{b:Addr} {m:Str->Option Value},s₁.heap.Ns b m->(Aa s₁.heap H).Ns b m:=fun{b m} ⟨o,es,ep,e,d,r⟩=>⟨o,es,ep,base_of e (noA e d),d,r⟩
  have hKb:K.In (Aa s₁.heap H):=fun b o e=>base_of (KX b o e) (by
   cases q:H b with
   |none=>rfl
   |some u=>
    have e':b=a:=hA b (by rw[q];simp)
    subst e'
    rw[hK (by rw[q];simp)]at e;cases e)
  have hM:Mod K mg (Aa s₁.heap H):=⟨hKb,nsK hns,⟨mb,nsK hb,hbb⟩,let ⟨mc,h1,h2⟩:=hlim;⟨mc,nsK h1,h2⟩⟩
  have e0:Ei P w K mg (Aa s₁.heap H) callerA [] s₁ H:=⟨rfl,hM,fun b o e=>Dw e,Nat.le_of_eq (xm _ _),trivial,fun b hb=>absurd (show b∈([]:List Addr)from hb) (by simp),hok,.of_eq hg⟩
  refine codeAny_mono ((F _ hKb (nsK hns)).run callerA [] s₁ H ⟨[.ref a],[]⟩ [.ref a] [.ref a] _ _ hr e0 (hbind s₁ (.ref a)) (.cons rfl .nil) (hsp H hO hS)) fun r s' h=>?_
  cases r with
  |error e=>exact(hCX H e s' h).elim
  |ok fl=>
   cases fl with
   |next=>exact False.elim h
   |brk=>exact False.elim h
   |cont=>exact False.elim h
   |ret u=>
    obtain⟨v,H',os,bare,un,hok',r',q⟩:=h
    have q':v=.bl true:=q
    subst q'
    obtain rfl:u=Value.bool true:=r'
    refine⟨rfl,OldK.of_keep fun b o e=>?_,os,bare⟩
    cases q:H b with
    |none=>exact un.keep b o e q (by intro z;exact absurd (show b∈([]:List Addr)from z) (by simp)) (by simp)
    |some u=>
     rcases hO b with z|⟨ob,xs,z⟩
     ·rw[q]at z;cases z
     ·have z2:=un.frzs b ob _ z
      obtain⟨e1,_⟩:=hok b _ z
      obtain⟨e2,_⟩:=hok' b _ z2
      rw[e]at e1;cases e1
      exact e2
 cases hk:K.lookup a with
 |some o=>
  have e:=KX a o hk
  rw[ha]at e
  cases e
  refine core (fun _=>none) (fun _=>.inl rfl) (.inr ⟨_,vs.toArray,_,hk,rfl,rfl,rfl,by rw[List.size_toArray,lenV];exact hl,by simpa using rv⟩) (fun b u z=>by have z':(none:Option HO)=some u:=z;cases z') (fun b z=>absurd rfl z) fun z=>absurd rfl z
 |none=>
  refine core (fun b=>if b=a then some (.frz { cls:=.type "list",data:=.seq vs.toArray } (.lst (ns.map V.int)))else none) (fun b=>?_) (.inl (.inr ⟨{ cls:=.type "list",data:=.seq vs.toArray },if_pos rfl⟩)) (fun b u z=>?_) (fun b z=>?_) fun _=>hk
  ·by_cases hb:b=a
   ·exact .inr ⟨_,_,if_pos hb⟩
   ·exact .inl (if_neg hb)
  ·by_cases hb:b=a
   ·have z':=(if_pos hb).symm.trans z
    cases z'
    subst hb
    exact⟨ha,by rw[List.length_map];exact hl,vs,_,rv,ha⟩
   ·have z':=(if_neg hb).symm.trans z
    cases z'
  ·by_cases hb:b=a
   ·exact hb
   ·exact absurd (if_neg hb) z
theorem Cp{l:PySem.W.OpenLaw}{n k:Nat}{q:Program}{loose:List Str}{XP:(Str->Option Value)->Heap->Prop}{YP:World->Heap->Prop}{d:DefRec}{K:Params->PySem.W.Frag}{CX:World->CXT}{sp:World->Sp}{x:Str}
  (hn:l.most=some n) (hn2:n<=sizeLine) (hdf:d.params.defaults=[]) (hr:gz k callerA)
  (hY:∀(w:World) (h:Heap),YP w h->(K w.params).In h)
  (F:∀(w:World) (mg:Str->Option Value) (fa:Addr) (h:Heap),(K w.params).In h->h.Ns mainGlobals mg->mg d.name=some (.ref fa)->
   ∃fd:FuncData,(∀(s:Shared) (u:Value),BindsTo s fd ⟨[u],[]⟩ [(x,u)])/\
    ∀base:Heap,(K w.params).In base->base.Ns mainGlobals mg->kT l.prog w (K w.params) mg base (CX w) k fa fd [x] (sp w))
  (hsp:∀(w:World) (H:Hp) (a:Addr) (ns:List Int),ns.length<=n->Lp H->SqL (K w.params) H a (ns.map V.int)->sp w [.ref a] H (fun v _=>v=.bl true) fun _ _ _=>False)
  (hCX:∀(w:World) (H:Hp) (s:Shared) (e:Value) (s':Shared),CX w [] H s (fun _ _ _=>False) e s'->False) :
  PySem.W.WalkO q loose XP YP l.row.toRowW d [] (fun f vs=>PySem.call f vs):=by
 refine Att.attach_call hn hdf fun w s₀ s₁ mg mb fa o pm cd doc a vs ns G Y ho hd hcd hmg hobj hints hlen hg=>?_
 have KX:=hY w _ Y
 obtain⟨fd,hb,hF⟩:=F w mg fa _ KX G.T.g hmg
 exact zY KX G.T.g G.T.b G.T.builtins G.T.nolimit hg hobj hints (Nat.le_trans hlen hn2) hr hF hb (fun H hO hS=>hsp w H a ns hlen hO hS) fun H e s'=>hCX w H s₁ e s'
def fz(s:Stmt)(j:Nat):Stmt:=match s with
 |.ClassDef _ _ _ body _ _ _ _ _ _ _=>body.getD j (.Pass ⟨0,0,0,0⟩)
 |_=>.Pass ⟨0,0,0,0⟩
def ja(s:Stmt):Arguments:=match s with
 |.FunctionDef _ a _ _ _ _ _ _ _ _=>a
 |_=>{ posonlyargs:=[],args:=[],vararg:=none,kwonlyargs:=[],kw_defaults:=[],kwarg:=none,defaults:=[] }
def dN(s:Stmt):List Stmt:=match s with
 |.FunctionDef _ _ b _ _ _ _ _ _ _=>b
 |_=>[]
def ay(s:Stmt):Scope:=match s with
 |.FunctionDef _ _ _ _ _ _ sc _ _ _=>sc
 |_=>{ kind:=.function,names:=[],isGenerator:=false,isCoroutine:=false }
abbrev CX0:CXT:=fun _ _ _ _ _ _=>False
abbrev E0:XK:=fun _ _ _=>False
theorem zG{X:Cx}:iM CX0 X E0:=fun _ _ _ _ _ _ _ h=>h.elim
structure Fun(K:PySem.W.Frag)(x qual:Str)(st:Stmt)(f:Addr)(fd:FuncData):Prop where
 ex:∃(oc:Value) (od:Option Addr) (kV doc pm:Value) (an:Option Addr) (cdv ct:Value) (osl:Array (Option Value)),
  fd=PySem.W.fnOf x qual (ja st) (dN st) (ay st) .none kV doc pm an cdv ct/\K.lookup f=some ⟨oc,od,.func fd,osl⟩/\PySem.W.codeIn K cdv qual=true
 kp:PySem.W.keepIn K (.ref f)=true
section
variable{P:Program}{w:World}{K:PySem.W.Frag}{mg:Str->Option Value}{base:Heap}
theorem Fun.ok{x qual:Str}{st:Stmt}{f:Addr}{fd:FuncData}{N ps:List Str}{k:Nat}{sp:Sp}(F:Fun K x qual st f fd)(S:aN N ps (ay st))(len:∀vs H Q E,sp vs H Q E->vs.length=ps.length)
  (hbody:∀(cdv:Value) (A:Around) (outer:List Env) (s:Shared) (H:Hp) (vs:List V) (Q:VK) (E:XK),gz k (A.deeper (envOfC qual (ay st) s.heap.objs.size f cdv))->sp vs H Q E->
   ∃t,PSs (tW CX0 P w K mg base N qual (ay st) f cdv A outer s H E).nox (dN st) t/\t { nx:=fun _ H'=>Q .non H',rt:=Q } (jf N vs) H):kT P w K mg base CX0 (k+1) f fd ps sp:=by
 obtain⟨oc,od,kV,doc,pm,an,cdv,ct,osl,rfl,lk,hcd⟩:=F.ex
 refine Ld lk hcd S len fun A outer s H vs Q E hr hsp=>?_
 obtain⟨t,h,q⟩:=hbody cdv A outer s H vs Q E hr hsp
 exact⟨t,h.nox,q⟩
theorem Fun.binds{x qual:Str}{st:Stmt}{f:Addr}{fd:FuncData}{ps:List Str}(F:Fun K x qual st f fd)
  (h:∀(kV doc pm:Value) (an:Option Addr) (cdv ct:Value) (us:List Value),us.length=ps.length->bindArgs (PySem.W.fnOf x qual (ja st) (dN st) (ay st) .none kV doc pm an cdv ct) ⟨us,[]⟩=pure (ps.zip us)):gQ K fd ps []:=by
 obtain⟨oc,od,kV,doc,pm,an,cdv,ct,osl,rfl,lk,hcd⟩:=F.ex
 exact .all (h kV doc pm an cdv ct)
theorem Bb{x qual:Str}{st:Stmt}{f:Addr}{oc:Value}{od an:Option Addr}{osl:Array (Option Value)}{kV doc pm cdv ct:Value}(l:K.lookup f=some ⟨oc,od,.func (PySem.W.fnOf x qual (ja st) (dN st) (ay st) .none kV doc pm an cdv ct),osl⟩)
  (c:PySem.W.codeIn K cdv qual=true) (k:PySem.W.keepIn K (.ref f)=true):Fun K x qual st f (PySem.W.fnOf x qual (ja st) (dN st) (ay st) .none kV doc pm an cdv ct):=⟨⟨oc,od,kV,doc,pm,an,cdv,ct,osl,rfl,l,c⟩,k⟩
end
theorem dj{A:Around}{k:Nat}(hr:gz k A):A.units+1<cLine:=Nat.lt_of_le_of_lt (Nat.add_le_add_left (by decide:1<=64) _) hr.units
theorem vL{n:Nat}(h:n<=1000):n<sizeLine:=Nat.lt_of_le_of_lt h (by decide)
section
variable{X:Cx}
theorem pv(i:Nat){x:Str}{pos:Pos}(hN:X.N[i]?=some x:=by rfl)(hv:Vis X.env.scope x:=by first|exact Or.inl rfl|exact Or.inr (Or.inl rfl)|exact Or.inr (Or.inr rfl))(hd:(x == ("__debug__":Str))=false:=by decide)
  (hcd:(x == ("__classdict__":Str))=false:=by decide):PE X (.Name x pos) (Il i):=F7 hN hv hd hcd
theorem x8:gy X (.builtin "len") (fun xs H Q=>∃a kvs,xs=[V.ref a]/\H a=some (.dK kvs)/\Q (.int kvs.length) H):=by
 intro pins s σ H xs us Q I r h
 obtain⟨a,kvs,rfl,ha,q⟩:=h
 obtain⟨u,rfl,ru⟩:=m8 r
 cases ru
 exact Lg I (.inl ha) fun t s' I'=>⟨.int kvs.length,H,I',⟨t,rfl⟩,q⟩
end
theorem Hk{A B:Prop}(h:B):if false=true then A else B:=by
 rw[if_neg Bool.false_ne_true]
 exact h
theorem Hj{A B:Prop}(h:A):if true=true then A else B:=by
 rw[if_pos rfl]
 exact h
def rV(H H':Hp):Prop:=∀b o,H b=some o->H' b=some o
theorem rV.refl(H:Hp):rV H H:=fun _ _ h=>h
theorem rV.trans{H H1 H2:Hp}(a:rV H H1)(b:rV H1 H2):rV H H2:=fun c o h=>b c o (a c o h)
theorem rV.free{H H':Hp}(e:rV H H'){l:Addr}(h:H' l=Option.none):H l=Option.none:=by
 cases q:H l with
 |none=>rfl
 |some o=>
  rw[e l o q]at h
  cases h
end L2
namespace OG
open PySem PySem.Spec PyProof.Rows L2
structure WE(X:Cx)(e:Expr)(t:TE):Prop where
 h:PE X e t
structure WT(X:Cx)(e:Expr)(t:TT):Prop where
 h:PT X e t
structure WW(X:Cx)(e:Expr)(t:TT):Prop where
 h:PW X e t
structure WA(X:Cx)(es:List Expr)(t:TA):Prop where
 h:PA X es t
structure WS(X:Cx)(st:Stmt)(t:TS):Prop where
 h:PS X st t
structure WSs(X:Cx)(st:List Stmt)(t:TS):Prop where
 h:PSs X st t
structure WI(X:Cx)(tg iter:Expr)(wi:TI):Prop where
 h:PI X tg iter wi
structure WG(X:Cx)(target:Expr)(t:TG):Prop where
 h:PG X target t
structure WGs(X:Cx)(ts:List Expr)(t:TGs):Prop where
 h:PGs X ts t
structure WC(X:Cx)(op:CmpOp)(a b:Expr)(t:TE):Prop where
 h:PC X op a b t
structure WO(X:Cx)(e:Option Expr)(t:TO):Prop where
 h:PO X e t
section
variable{X:Cx}
theorem af{i j pos}:WE X (.Constant (.int i) j pos) (tC (.int i)):=⟨Gk ⟩
end
section
variable{X:Cx}
theorem fW{b j pos}:WE X (.Constant (.bool b) j pos) (tC (.bl b)):=⟨Kh ⟩
end
section
variable{X:Cx}
theorem gA{j pos}:WE X (.Constant .none j pos) (tC .non):=⟨Gh ⟩
end
section
variable{X:Cx}
theorem aG{x j pos}:WE X (.Constant (.str x) j pos) (tC (.str x)):=⟨F9 ⟩
end
section
variable{X:Cx}
variable{a b:Expr}{ta tb:TE}{pos:Pos}
theorem ve{op:CmpOp}{t:TE}(h:WC X op a b t)(h1:behindInMarks op b=false:=by first|exact nobehind _ (by decide) (by decide)|rfl):WT X (.Compare a [op] [b] pos) (tB t):=⟨FX h.h h1⟩
end
section
variable{X:Cx}
variable{a b:Expr}{ta tb:TE}{pos:Pos}
theorem BV{e:Expr}{t:TE}(h:WE X e t)(he:∀whole,isTrue e X.env whole=(do let v <-whole;standAt e.pos;holding [v] (truthy v)):=by intro _;rfl):WT X e (tB t):=⟨FV h.h he⟩
end
section
variable{X:Cx}
variable{a b:Expr}{ta tb:TE}{pos:Pos}
variable{tA tB':TT}{rest:List Expr}
theorem yE(ha:WT X a tA):WW X (.BoolOp .And [a] pos) tA:=⟨CW ha.h⟩
end
section
variable{X:Cx}
variable{a b:Expr}{ta tb:TE}{pos:Pos}
variable{tA tB':TT}{rest:List Expr}
theorem BS(ha:WT X a tA):WW X (.BoolOp .Or [a] pos) tA:=⟨FR ha.h⟩
end
section
variable{X:Cx}
variable{a b:Expr}{ta tb:TE}{pos:Pos}
variable{tA tB':TT}{rest:List Expr}
theorem BU(ha:WT X a tA)(hb:WW X (.BoolOp .And (b::rest) pos) tB'):WW X (.BoolOp .And (a::b::rest) pos) (LC tA tB'):=⟨FT ha.h hb.h⟩
end
section
variable{X:Cx}
variable{a b:Expr}{ta tb:TE}{pos:Pos}
variable{tA tB':TT}{rest:List Expr}
theorem Fj(ha:WT X a tA)(hb:WW X (.BoolOp .Or (b::rest) pos) tB'):WW X (.BoolOp .Or (a::b::rest) pos) (tOr tA tB'):=⟨Ka ha.h hb.h⟩
end
section
variable{X:Cx}
variable{a b:Expr}{ta tb:TE}{pos:Pos}
variable{tA tB':TT}{rest:List Expr}
theorem BW(ha:WT X a tA):WT X (.UnaryOp .Not a pos) (Ly tA):=⟨FW ha.h⟩
end
section
variable{X:Cx}
variable{a b:Expr}{ta tb:TE}{pos:Pos}
variable{tA tB':TT}{rest:List Expr}
theorem Cd{op}{t:TE}(h:WE X a t):WE X (.BoolOp op [a] pos) t:=⟨Gf h.h⟩
end
section
variable{X:Cx}
variable{a b:Expr}{ta tb:TE}{pos:Pos}
variable{tA tB':TT}{rest:List Expr}
theorem Cg(ha:WE X a ta)(hb:WE X (.BoolOp .And (b::rest) pos) tb):WE X (.BoolOp .And (a::b::rest) pos) (FF ta tb):=⟨Gn ha.h hb.h⟩
end
section
variable{X:Cx}{st:Stmt}{rest:List Stmt}{t u:TS}{e:Expr}{te:TE}{pos:Pos}
theorem yF :WSs X [] Fx:=⟨C0 ⟩
end
section
variable{X:Cx}{st:Stmt}{rest:List Stmt}{t u:TS}{e:Expr}{te:TE}{pos:Pos}
theorem o8(h1:WS X st t)(h2:WSs X rest u):WSs X (st::rest) (Lw t u):=⟨zt h1.h h2.h⟩
end
section
variable{X:Cx}{st:Stmt}{rest:List Stmt}{t u:TS}{e:Expr}{te:TE}{pos:Pos}
theorem se(h1:WS X st t):WSs X [st] t:=⟨CZ h1.h⟩
end
section
variable{X:Cx}{st:Stmt}{rest:List Stmt}{t u:TS}{e:Expr}{te:TE}{pos:Pos}
theorem yG(he:WE X e te)(hs:swapsWith e none pos.line X.env=pure false:=by rfl):WS X (.Expr e pos) (FA te):=⟨C1 he.h hs⟩
end
section
variable{X:Cx}{st:Stmt}{rest:List Stmt}{t u:TS}{e:Expr}{te:TE}{pos:Pos}
theorem vh(he:WE X e te):WS X (.Return (some e) pos) (Lx te):=⟨FZ he.h⟩
end
section
variable{X:Cx}{st:Stmt}{rest:List Stmt}{t u:TS}{e:Expr}{te:TE}{pos:Pos}
theorem Fl{c:Expr}{a b:List Stmt}{tc:TT}(hc:WT X c tc)(ha:WSs X a t)(hb:WSs X b u):WS X (.If c a b pos) (LA tc t u):=⟨Kb hc.h ha.h hb.h⟩
end
section
variable{X:Cx}{pos:Pos}
theorem br{i:Nat}{x:Str}(hN:X.N.Nodup)(hi:X.N[i]?=some x)(hx:Loc X.env.scope x)(hf:X.fn x=true\/X.env.scope.names.lookup x=some .local:=by first|exact .inl rfl|exact .inr rfl|assumption):WG X (.Name x pos) (uI i):=⟨C9 hN hi hx hf⟩
end
section
variable{X:Cx}{pos:Pos}
theorem yJ :WGs X [] LW:=⟨C8 ⟩
end
section
variable{X:Cx}{pos:Pos}
theorem vj{e:Expr}{es:List Expr}{t:TG}{u:TGs}(h1:WG X e t)(h2:WGs X es u)(hs:(assignEach (e::es) X.env).map (·.2)=assign e X.env::(assignEach es X.env).map (·.2):=by rfl):WGs X (e::es) (HA t u):=⟨zA h1.h h2.h hs⟩
end
section
variable{X:Cx}{pos:Pos}
theorem Ca{es:List Expr}{k:Nat}{t:TGs}{n:Nat}(hc:X.calm=true)(h:WGs X es t)(hn:(assignEach es X.env).length=n:=by rfl)(hst:(assignEach es X.env).findIdx? (·.1)=none:=by rfl):WG X (.Tuple es k pos) (LU X.K n t):=⟨F5 hc h.h hn hst⟩
end
section
variable{X:Cx}{pos:Pos}
theorem Cb {o i : Expr} {to ti : TE} {t : IF} (ho : WE X o to) (hi : WE X i ti) (hs : Lo X t) (ha : ∀ v, assign (.Subscript o i pos) X.env v = (do
   let ov <-holding [v] (eval o X.env)
   let iv <-holding [v,ov] (eval i X.env)
   standAt pos
   holding [v,ov,iv] (setItem ov iv v)
   release [v,ov,iv] []):=by intro _;rfl):WG X (.Subscript o i pos) (LV to ti t):=⟨F6 ho.h hi.h hs ha⟩
end
section
variable{X:Cx}{pos:Pos}
theorem BY{tg e:Expr}{te:TE}{g:TG}(he:WE X e te)(hg:WG X tg g)(hs:swapsWithSole [tg] e pos.line X.env=pure false:=by rfl)(hw:swappedStores [tg] e X.env=pure none:=by rfl)(h1:(assignEach [tg] X.env).map (·.2)=[assign tg X.env]:=by rfl):WS X (.Assign [tg] e pos) (Ip te g):=⟨F2 he.h hg.h hs hw h1⟩
end
section
variable{X:Cx}{pos:Pos}
theorem vg{i:Nat}{x:Str}{e:Expr}{te:TE}{pos':Pos}(hN:X.N.Nodup)(hi:X.N[i]?=some x)(hx:Loc X.env.scope x)(he:WE X e te)(hs:swapsWith e (some (.Name x pos')) pos.line X.env=pure false:=by rfl)(hf:X.fn x=true\/X.env.scope.names.lookup x=some .local:=by first|exact .inl rfl|exact .inr rfl|assumption):WS X (.Assign [.Name x pos'] e pos) (Ip te (uI i)):=⟨FY hN hi hx he.h hs hf⟩
end
section
variable{X:Cx}{pos:Pos}
theorem vf{c:Expr}{body:List Stmt}{tc:TT}{tb:TS}(hp:PassesOwn (model X.prog X.w) X.A X.env X.xe)(hc:WT X c tc)(hb:WSs X body tb):WS X (.While c body [] pos) (vF tc tb):=⟨zu hp hc.h hb.h⟩
end
section
variable{X:Cx}{tg:Expr}
theorem yI{l:Expr}{tl:TE}(hl:WE X l tl):WI X tg l (Hy X.K tl):=⟨C7 hl.h⟩
end
section
variable{X:Cx}{tg:Expr}
theorem BZ{l:Expr}{tl:TE}(hl:WE X l tl):WI X tg l (LS X.K tl):=⟨F4 hl.h⟩
end
section
variable{X:Cx}{tg:Expr}
theorem uh{a:Expr}{ta:TA}{p pos:Pos}(hg:Gl X "range")(hm:X.mg "range"=none)(ha:WA X [a] ta)(hs:starEach [a] X.env=[(false,eval a X.env)]:=by rfl):WI X tg (.Call (.Name "range" p) [a] [] pos) (Hx ta):=⟨wm hg hm ha.h hs⟩
end
section
variable{X:Cx}{tg:Expr}
theorem vi{iter:Expr}{body:List Stmt}{wi:TI}{g:TG}{tb:TS}{pos:Pos}(hp:PassesOwn (model X.prog X.w) X.A X.env X.xe)(hc:X.calm=true)(hi:WI X tg iter wi)(hg:WG X tg g)(hb:WSs X body tb)(hs:∀x,foldedSetIterable iter X.env x=pure x:=by intro _;rfl):WS X (.For tg iter body [] pos) (Io wi g tb):=⟨F0 hp hc hi.h hg.h hb.h hs⟩
end
section
variable{X:Cx}{a b c:Expr}{ta tb tc:TE}{pos:Pos}
theorem Fm{op:Operator}{r:R2}(ho:OpR X (binaryOp op) r)(ha:WE X a ta)(hb:WE X b tb):WE X (.BinOp a op b pos) (tOp r ta tb):=⟨Ke ho ha.h hb.h⟩
end
section
variable{X:Cx}{a b c:Expr}{ta tb tc:TE}{pos:Pos}
theorem yO{op:CmpOp}{r:R2}(ho:OpR X (compareOp op) r)(ha:WE X a ta)(hb:WE X b tb)(hm:behindInMarks op b=false):WE X (.Compare a [op] [b] pos) (tOp r ta tb):=⟨Df ho ha.h hb.h hm⟩
end
section
variable{X:Cx}{a b c:Expr}{ta tb tc:TE}{pos:Pos}
theorem rZ{op:CmpOp}{r:R2}(ho:OpR X (compareOp op) r)(ha:WE X a ta)(hb:WE X b tb)(hm:behindInMarks op b=false):WT X (.Compare a [op] [b] pos) (Fu (tOp r ta tb)):=⟨CY ho ha.h hb.h hm⟩
end
section
variable{X:Cx}{o e value:Expr}{f:Str}{pos pos' tpos:Pos}{ta tv:TE}
theorem Ce(he:WE X e ta)(hb:attributeBase e f X.env (eval e X.env)=eval e X.env):WE X (.Attribute e f pos) (LB X.K ta f):=⟨Gm he.h hb⟩
end
section
variable{X:Cx}{o e value:Expr}{f:Str}{pos pos' tpos:Pos}{ta tv:TE}
theorem BX(ha:WE X o ta)(hv:WE X value tv)(hs:swapsWith value (some (.Attribute o f pos')) pos.line X.env=pure false):WS X (.Assign [.Attribute o f pos'] value pos) (LD X.K ta tv f):=⟨F1 ha.h hv.h hs⟩
end
section
variable{X:Cx}{e:Expr}{es:List Expr}{te:TE}{t:TA}{pos:Pos}
theorem lF :WA X [] Im:=⟨Gs ⟩
end
section
variable{X:Cx}{e:Expr}{es:List Expr}{te:TE}{t:TA}{pos:Pos}
theorem gB(ha:WE X e te)(hr:WA X es t)(hs:starEach (e::es) X.env=(false,eval e X.env)::starEach es X.env:=by rfl):WA X (e::es) (FD te t):=⟨Dh ha.h hr.h hs⟩
end
section
variable{X:Cx}{e:Expr}{es:List Expr}{te:TE}{t:TA}{pos:Pos}
theorem Cc{x1}(h:WA X es t):WE X (.Tuple es x1 pos) (Lv t):=⟨F8 h.h⟩
end
section
variable{X:Cx}{e:Expr}{es:List Expr}{te:TE}{t:TA}{pos:Pos}
theorem vm(h:WA X es t):WE X (.List es pos) (Lz t):=⟨Gj h.h⟩
end
section
variable{X:Cx}{CX:CXT}{k:Nat}{f C:Addr}{fd:FuncData}{ps:List Str}{sp:Sp}{dvs:List V}{ds:List Value}{E:XK}{x m:Str}{p pos apos:Pos}{e o:Expr}{es:List Expr}{ta:TE}{t:TA}
theorem yK {pl : Sem Bool} (he : WE X o ta) (c : Cls X.K C) (hm : Eh X.K C m f) (F : kT X.prog X.w X.K X.mg X.base CX k f fd ps sp) (hr : gz k X.A) (hb : gQ X.K fd ps ds) (hd : cg dvs ds) (hx : iM CX X E) (ha : WA X (e :: es) t) (hst : starEach (e :: es) X.env = (false, eval e X.env) :: starEach es X.env := by rfl) (hpl : (backTo pos (starEach es X.env)).any (·.1) = false := by rfl) (ht : eval (.Call (.Attribute o m apos) (e :: es) [] pos) X.env = (do
   let ov <-eval o X.env
   standAt apos.atName
   let (f,first) <-holding [ov] (getMethod ov m pl)
   callWith pos f first (backTo pos (starEach (e::es) X.env)) (backToKw pos (keywordEach [] X.env))):=by rfl):WE X (.Call (.Attribute o m apos) (e::es) [] pos) (vI C m sp dvs E ta t):=⟨Dc he.h c hm F hr hb hd hx ha.h hst hpl ht⟩
end
section
variable{X:Cx}{CX:CXT}{k:Nat}{f C:Addr}{fd:FuncData}{ps:List Str}{sp:Sp}{dvs:List V}{ds:List Value}{E:XK}{x m:Str}{p pos apos:Pos}{e o:Expr}{es:List Expr}{ta:TE}{t:TA}
theorem vk {pl : Sem Bool} (he : WE X o ta) (c : Cls X.K C) (hm : Eh X.K C m f) (F : kT X.prog X.w X.K X.mg X.base CX k f fd ps sp) (hr : gz k X.A) (hb : gQ X.K fd ps ds) (hd : cg dvs ds) (hx : iM CX X E) (ht : eval (.Call (.Attribute o m apos) [] [] pos) X.env = (do
   let ov <-eval o X.env
   standAt apos.atName
   let (f,first) <-holding [ov] (getMethod ov m pl)
   callWith pos f first (backTo pos (starEach [] X.env)) (backToKw pos (keywordEach [] X.env))):=by rfl):WE X (.Call (.Attribute o m apos) [] [] pos) (vI C m sp dvs E ta Im):=⟨zC he.h c hm F hr hb hd hx ht⟩
end
section
variable{X:Cx}{CX:CXT}{k:Nat}{f C:Addr}{fd:FuncData}{ps:List Str}{sp:Sp}{dvs:List V}{ds:List Value}{E:XK}{x m:Str}{p pos apos:Pos}{e o:Expr}{es:List Expr}{ta:TE}{t:TA}
theorem yL(M:Mk X.K C f)(F:kT X.prog X.w X.K X.mg X.base CX k f fd ps sp)(hr:gz (k+1) X.A)(hg:Gl X x)(hm:X.mg x=some (.ref C))(hb:gQ X.K fd ps ds)(hd:cg dvs ds)(hx:iM CX X E)(ha:WA X (e::es) t)(hdb:(x == ("__debug__":Str))=false:=by decide)(he:starEach (e::es) X.env=(false,eval e X.env)::starEach es X.env:=by rfl)(hpl:(backTo pos (starEach es X.env)).any (·.1)=false:=by rfl):WE X (.Call (.Name x p) (e::es) [] pos) (Cw C sp dvs E t):=⟨Dd M F hr hg hm hb hd hx ha.h hdb he hpl⟩
end
section
variable{X:Cx}{x:Str}{p pos:Pos}{e:Expr}{es:List Expr}{t:TA}{id T:String}{r:List V->Hp->VK->Prop}
theorem vq(hc:gy X (.builtin id) r)(hg:Gl X x)(hm:X.mg x=none)(hv:bootBuiltins x=some (.builtin id))(ha:WA X (e::es) t)(hn:x≠"__name__":=by decide)(hdb:(x == ("__debug__":Str))=false:=by decide)(he:starEach (e::es) X.env=(false,eval e X.env)::starEach es X.env:=by rfl)(hpl:(backTo pos (starEach es X.env)).any (·.1)=false:=by rfl):WE X (.Call (.Name x p) (e::es) [] pos) (tCB r t):=⟨zE hc hg hm hv ha.h hn hdb he hpl⟩
end
section
variable{X:Cx}{x:Str}{p pos:Pos}{e:Expr}{es:List Expr}{t:TA}{id T:String}{r:List V->Hp->VK->Prop}
theorem nz(hc:gy X (.type T) r)(hg:Gl X x)(hm:X.mg x=none)(hv:bootBuiltins x=some (.type T))(ha:WA X (e::es) t)(hn:x≠"__name__":=by decide)(hdb:(x == ("__debug__":Str))=false:=by decide)(he:starEach (e::es) X.env=(false,eval e X.env)::starEach es X.env:=by rfl)(hpl:(backTo pos (starEach es X.env)).any (·.1)=false:=by rfl):WE X (.Call (.Name x p) (e::es) [] pos) (tCB r t):=⟨wo hc hg hm hv ha.h hn hdb he hpl⟩
end
section
variable{X:Cx}{e:Expr}{te:TE}{lo hi:Option Expr}{tl th:TO}{pos p2:Pos}
theorem sg :WO X none vH:=⟨C6 ⟩
end
section
variable{X:Cx}{e:Expr}{te:TE}{lo hi:Option Expr}{tl th:TO}{pos p2:Pos}
theorem sf(h:WE X e te):WO X (some e) (Fv te):=⟨C5 h.h⟩
end
section
variable{X:Cx}{e:Expr}{te:TE}{lo hi:Option Expr}{tl th:TO}{pos p2:Pos}
theorem o9{r:V->Option Int->Option Int->Hp->VK->Prop}(hr:SlR X r)(he:WE X e te)(hl:WO X lo tl)(hu:WO X hi th):WE X (.Subscript e (.Slice lo hi none p2) pos) (tSl r te tl th):=⟨zB hr he.h hl.h hu.h⟩
end
section
variable{X:Cx}{a b:Expr}{ta tb:TE}{pos:Pos}
theorem Fo{r:R2}(hr:IxR X r)(ha:WE X a ta)(hb:WE X b tb)(hs:rW b):WE X (.Subscript a b pos) (tOp r ta tb):=⟨Kf hr ha.h hb.h hs⟩
end
section
variable{X:Cx}{a b:Expr}{ta tb:TE}{pos:Pos}
variable{o e:Expr}{es:List Expr}{to:TE}{t:TA}{name:Str}{apos cpos:Pos}{T id:String}{r:V->List V->Hp->VK->Prop}
theorem vt (pa : PlainAttrs T) (slot : Slot T name id) (hty : typeOf (.builtin id) = pure (.type "method_descriptor")) (hm : MtR X id r) (ho : WE X o to) (ha : WA X (e :: es) t) (hbase : attributeBase o name X.env (eval o X.env) = eval o X.env := by rfl) (hfew : ((backTo cpos (starEach (e :: es) X.env)).all (fun x => !x.1) && (backToKw cpos (keywordEach [] X.env)).all (fun x => x.1.isSome)
   && decide ((e::es).length+([]:List Keyword).length+(if ([]:List Keyword).isEmpty then 0 else 1)<30))=true:=by rfl) (hline:(apos.endLine == cpos.line)=true:=by rfl) (hs:starEach (e::es) X.env=(false,eval e X.env)::starEach es X.env:=by rfl) (hplain:(backTo cpos (starEach es X.env)).any (·.1)=false:=by rfl):WE X (.Call (.Attribute o name apos) (e::es) [] cpos) (tBM X.K T r to t):=⟨Kg pa slot hty hm ho.h ha.h hbase hfew hline hs hplain⟩
end
section
variable{X:Cx}{o i e value:Expr}{pos pos' tpos:Pos}{td ty tv:TE}
theorem yM(hu:X.A.units+1<cLine)(ho:WE X o td)(hi:WE X i ty)(hs:Et i):WE X (.Subscript o i pos) (FC td ty):=⟨De hu ho.h hi.h hs⟩
end
section
variable{X:Cx}{o i e value:Expr}{pos pos' tpos:Pos}{td ty tv:TE}
theorem uj(hu:X.A.units+1<cLine)(hi:WE X i ty)(ho:WE X o td):WC X .NotIn i o (qI ty td):=⟨wq hu hi.h ho.h⟩
end
section
variable{X:Cx}{o i e value:Expr}{pos pos' tpos:Pos}{td ty tv:TE}
theorem yH(hu:X.A.units+1<cLine)(ho:WE X o td)(hi:WE X i ty)(hv:WE X value tv)(hs:swapsWith value (some (.Subscript o i pos')) pos.line X.env=pure false):WS X (.Assign [.Subscript o i pos'] value pos) (FJ td ty tv):=⟨C2 hu ho.h hi.h hv.h hs⟩
end
section
variable{X:Cx}{pos:Pos}
theorem vo :WE X (.Dict [] [] pos) AR:=⟨zD ⟩
end
section
variable{X:Cx}
theorem wpv(i:Nat){x:Str}{pos:Pos}(hN:X.N[i]?=some x:=by rfl)(hv:Vis X.env.scope x:=by first|exact Or.inl rfl|exact Or.inr (Or.inl rfl)|exact Or.inr (Or.inr rfl))(hd:(x == ("__debug__":Str))=false:=by decide)(hcd:(x == ("__classdict__":Str))=false:=by decide):WE X (.Name x pos) (Il i):=⟨pv i hN hv hd hcd⟩
end
theorem WW.pt{X:Cx}{e:Expr}{t:TT}(h:WW X e t):WT X e t:=⟨h.h.pt⟩
section
variable{X:Cx}{a b c e:Expr}{ta tb tc:TE}{pos:Pos}
def uY(i j:Int):Prop:=0<j/\j.natAbs.log2<9000
theorem oE:OpR X (binaryOp .FloorDiv) (rI uY fun i j=>.int (i / j)):=opI fun i j _ _ _ _ _ hc q=>by
 refine PyProof.Rows.floordiv_int (by have:=hc.1;omega) ?_ (.inl (PyProof.noPylong_of_log2 hc.2))
 rw[Int.fdiv_eq_ediv_of_nonneg i (Int.le_of_lt hc.1)]
 exact q
end
theorem dJ{H:Hp}{p:Addr}(h:H p=none)(o:HO):rV H (upd H p o):=fun b u q=>by rw[bD (cM q h)];exact q
def Def(K:PySem.W.Frag)(mg:Str->Option Value)(x:Str)(st:Stmt)(ps:List Str):Prop:=
 ∃f fd,Fun K x x st f fd/\gQ K fd ps []/\mg x=some (.ref f)
def Has(P:Program)(w:World)(K:PySem.W.Frag)(mg:Str->Option Value)(base:Heap)(x:Str)(k:Nat)(ps:List Str)(sp:Sp):Prop:=
 ∃f fd,kT P w K mg base CX0 k f fd ps sp/\gQ K fd ps []/\PySem.W.keepIn K (.ref f)=true/\mg x=some (.ref f)
section
variable{P:Program}{w:World}{K:PySem.W.Frag}{mg:Str->Option Value}{base:Heap}{x:Str}{st:Stmt}{ps N:List Str}{k j:Nat}{sp sp':Sp}
theorem Has.mono(h:Has P w K mg base x j ps sp)(l:j<=k):Has P w K mg base x k ps sp:=by
 obtain⟨f,fd,a,b,c,d⟩:=h
 exact⟨f,fd,a.mono l,b,c,d⟩
theorem Def.has(d:Def K mg x st ps)(S:aN N ps (ay st))(len:∀vs H Q E,sp vs H Q E->vs.length=ps.length)
  (hbody:∀(f:Addr) (cdv:Value) (A:Around) (outer:List Env) (s:Shared) (H:Hp) (vs:List V) (Q:VK) (E:XK),gz k (A.deeper (envOfC x (ay st) s.heap.objs.size f cdv))->sp vs H Q E->
   ∃t,WSs (tW CX0 P w K mg base N x (ay st) f cdv A outer s H E).nox (dN st) t/\t { nx:=fun _ H'=>Q .non H',rt:=Q } (jf N vs) H):Has P w K mg base x (k+1) ps sp:=by
 obtain⟨f,fd,F,b,m⟩:=d
 exact⟨f,fd,F.ok S len (fun cdv A outer s H vs Q E hr h=>let ⟨t,a,b⟩:=hbody f cdv A outer s H vs Q E hr h;⟨t,a.h,b⟩),b,F.kp,m⟩
theorem Def.none(d:Def K mg x st ps)(no:∀vs H Q E,¬sp vs H Q E):Has P w K mg base x k ps sp:=by
 obtain⟨f,fd,F,b,m⟩:=d
 exact⟨f,fd,⟨fun vs H Q E h=>absurd h (no vs H Q E),fun A outer s H args us vs Q E _ _ _ _ h=>absurd h (no vs H Q E)⟩,b,F.kp,m⟩
end
theorem AO{X:Cx}{k:Nat}{ps:List Str}{sp:Sp}{x:Str}{p pos:Pos}{e:Expr}{es:List Expr}{t:TA}(F:Has X.prog X.w X.K X.mg X.base x k ps sp)(hr:gz k X.A)(hg:Gl X x)
  (ha:WA X (e::es) t) (hdb:(x == ("__debug__":Str))=false:=by decide) (he:starEach (e::es) X.env=(false,eval e X.env)::starEach es X.env:=by rfl) (hpl:(backTo pos (starEach es X.env)).any (·.1)=false:=by rfl) :
  WE X (.Call (.Name x p) (e::es) [] pos) (FE sp [] E0 t):=by
 obtain⟨f,fd,a,b,c,d⟩:=F
 exact⟨Dg a hr hg d c b .nil zG ha.h hdb he hpl⟩
structure Blt(mg:Str->Option Value):Prop where
 len:mg "len"=none
 isinstance:mg "isinstance"=none
 int:mg "int"=none
 bool:mg "bool"=none
 str:mg "str"=none
 tuple:mg "tuple"=none
 list:mg "list"=none
 range:mg "range"=none
 min:mg "min"=none
 sum:mg "sum"=none
 all:mg "all"=none
 zip:mg "zip"=none
 sorted:mg "sorted"=none
 dict:mg "dict"=none
 enumerate:mg "enumerate"=none
 any:mg "any"=none
 max:mg "max"=none
 set:mg "set"=none
theorem pG{n:Nat}(h:n<=1000):n<=sizeLine:=Nat.le_of_lt (vL h)
theorem uC{n:Nat}(h:n<2^60):n.log2<1920:=by
 by_cases e:n=0
 ·subst e;decide
 ·have:=(Nat.log2_lt e).mpr h;omega
theorem Av(ns:List Int)(lo hi:Option Int):xT (ns.map V.int) lo hi=((ns.drop (HT.sIx (ns.map V.int).length 0 lo)).take (HT.sIx (ns.map V.int).length (ns.map V.int).length hi-HT.sIx (ns.map V.int).length 0 lo)).map V.int:=by
 unfold xT
 rw[List.map_take,List.map_drop]
def y6(K:PySem.W.Frag):Sp:=fun vs H Q _=>∃(a:Addr) (ns:List Int),vs=[.ref a]/\SqL K H a (ns.map V.int)/\ns.length<=63/\∀H',Q (.bl true) H'
theorem AB:bootBuiltins "int"=some (.type "int"):=rfl
theorem fj:bootBuiltins "tuple"=some (.type "tuple"):=rfl
theorem ib:bootBuiltins "list"=some (.type "list"):=rfl
theorem AA:bootBuiltins "min"=some (.builtin "min"):=rfl
theorem mS:bootBuiltins "sorted"=some (.builtin "sorted"):=rfl
theorem kN{α:Type}{xs:List α}{k:Int}{v:α}(h0:0<=k)(h:xs[k.toNat]?=some v):atI xs k=some v:=by
 have ek:k=((k.toNat:Nat):Int):=by omega
 rw[ek];exact mT h
theorem Fun.okW{P:Program}{w:World}{K:PySem.W.Frag}{mg:Str->Option Value}{base:Heap}{x qual:Str}{st:Stmt}{f:Addr}{fd:FuncData}{N ps:List Str}{k:Nat}{sp:Sp}(F:Fun K x qual st f fd)(S:aN N ps (ay st))(len:∀vs H Q E,sp vs H Q E->vs.length=ps.length)
  (hbody:∀(cdv:Value) (A:Around) (outer:List Env) (s:Shared) (H:Hp) (vs:List V) (Q:VK) (E:XK),gz k (A.deeper (envOfC qual (ay st) s.heap.objs.size f cdv))->sp vs H Q E->
   ∃t,WSs (tW CX0 P w K mg base N qual (ay st) f cdv A outer s H E).nox (dN st) t/\t { nx:=fun _ H'=>Q .non H',rt:=Q } (jf N vs) H):kT P w K mg base CX0 (k+1) f fd ps sp:=
 F.ok S len fun cdv A outer s H vs Q E hr h=>let ⟨t,a,b⟩:=hbody cdv A outer s H vs Q E hr h;⟨t,a.h,b⟩
def uZ(env:Env):List (Str×Addr)->Prop
 |[]=>True
 |p::r=>env.cells.lookup p.1=some p.2/\uZ env r
theorem uZ.look{env:Env}:∀{cl:List (Str×Addr)} {y:Str} {c:Addr},uZ env cl->cl.lookup y=some c->env.cells.lookup y=some c
 |[],_,_,_,h=>by simp at h
 |(n,d)::r,y,c,a,h=>by
  obtain⟨a1,a2⟩:=a
  rw[List.lookup_cons]at h
  by_cases e:(y == n)=true
  ·rw[e]at h
   have e':y=n:=by simpa using e
   subst e'
   cases h
   exact a1
  ·have e':(y == n)=false:=by simpa using e
   rw[e']at h
   exact uZ.look a2 h
abbrev cxC(X:Cx)(Nc:List Str)(scope:Scope)(cl:List (Str×Addr))(s3:Shared)(H3:Hp)(fp:List Addr):Cx where
 prog:=X.prog
 w:=X.w
 K:=X.K
 mg:=X.mg
 base:=X.base
 A:=X.A
 N:=Nc
 s₀:=s3
 H₀:=H3
 env:=compEnvC scope cl s3.heap.objs.size X.env
 outer:=X.stack
 stack:=X.stack
 ex:=fp
 fn:=fun _=>false
 calm:=X.calm
 pn:=[]
 xe:=fun _ _=>False
def stC(n:Nat)(caps:List Nat)(σ:L2.St):L2.St:=List.replicate n none++caps.map fun i=>(σ[i]?).getD none
def y3(wi:TI)(g:TG)(te:TE)(n:Nat)(caps:List Nat):TE:=fun σ H Q=>wi σ H fun J H1=>∀l,H1 l=none->∃W:Nat->Nat->L2.St->Hp->Prop,(∃m,W 0 m (stC n caps σ) (upd H1 l (.lst [])))/\
 ∀i m σ' H2,W i m σ' H2->(J.stop i H2/\Q (.ref l) H2)\/(J.go i H2/\∃N:L2.St->Hp->Prop,(∀σ'' H',N σ'' H'->∃m',m'<m/\W (i+1) m' σ'' H')/\
  ∀x H3,J.yld i H2 x H3->g x σ' H3 fun σ2 H4=>te σ2 H4 fun v H5=>∃ys,H5 l=some (.lst ys)/\ys.length<sizeLine/\N σ2 (upd H5 l (.lst (ys++[v]))))
theorem qo{prog:Program}{w:World}{A:Around}{R:Result->Shared->Prop}{s:Shared}{elt target iter:Expr}{scope:Scope}{pos:Pos}{it acc:Value}{env:Env}(I:Nat->Shared->Prop)
  (turn:∀n s,I n s->wpAny (model prog w) A (pyNext it) (fun r s₁=>match r with
   |none=>R (.ok .next) s₁
   | some v=>wpAny (model prog w) A (letOwnedTupleGo target it v) (fun _ s₁'=>wpAny (model prog w) A (assign target env v) (fun _ s₂=>wpAny (model prog w) A (eval elt env) (fun x s₃=>
     wpAny (model prog w) A (call (.builtin "list.append") [acc,x]) (fun _ s₄=>∃m,m<n/\I m s₄) (fun _ _=>False) s₃)
     (fun _ _=>False) s₂) (fun _ _=>False) s₁') (fun _ _=>False) s₁) (fun _ _=>False) s)
  (n:Nat) (h:I n s) :
  codeAny (model prog w) A (.compLoop (.ListComp elt [⟨target,iter,[],0⟩] scope pos) 0 it acc env) R s:=by
 refine codeAny_loop rfl I (fun n s hI=>?_) n h
 show wpAny _ _ ((compTurn (.ListComp elt [⟨target,iter,[],0⟩] scope pos) 0 it acc env).onRaise (fun x=>do noteFrame x env;theTreesLotGoes x)) _ _ s
 refine wpAny_noted ?_
 rw[compTurn_list1]
 refine wpAny_bind (wpAny_standAt (wpAny_bind (wpAny_mono (turn n s hI) (fun r s₁ h₁=>?_) fun _ _ h'=>h'.elim)))
 cases r with
 |none=>exact wpAny_pure h₁
 |some v=>
  refine wpAny_bind (wpAny_mono h₁ (fun _ s₁' h₁'=>?_) fun _ _ h'=>h'.elim)
  exact wpAny_bind (wpAny_mono h₁' (fun _ s₂ h₂=>wpAny_bind (wpAny_bind (wpAny_mono h₂ (fun x s₃ h₃=>wpAny_bind (wpAny_mono h₃
   (fun _ s₄ h₄=>wpAny_pure (wpAny_pure ⟨rfl,h₄⟩)) fun _ _ h'=>h'.elim)) fun _ _ h'=>h'.elim))) fun _ _ h'=>h'.elim)
section
variable{X:Cx}{pins:List (Addr×Obj)}{σ:L2.St}{H:Hp}{s:Shared}{Nc capN:List Str}{scope:Scope}{cl:List (Str×Addr)}{fp:List Addr}{n:Nat}{caps:List Nat}{tg iter elt:Expr}{pos:Pos}{wi:TI}{g:TG}{te:TE}
def Cap(X:Cx)(scope:Scope)(cl:List (Str×Addr))(i:Nat)(y:Str):Prop:=X.N[i]?=some y/\X.env.scope.names.lookup y=some .cell/\(relabel scope X.env).names.lookup y=some .cell/\∃c,cl.lookup y=some c
theorem Inv.comp{h1:Heap}{t':Nat}(I:Inv X pins σ H s)(hc:X.calm=true)(f2:∀b∈fp,u3 X pins H b)(fo:∀b∈fp,b<s.heap.objs.size)(hkind:scope.kind=.function)(hcl:uZ X.env cl)
  (hhas:((relabel scope X.env).names.all fun p=>!(p.2 == .cell||p.2 == .free)||(cl.lookup p.1).isSome)=true)
  (hcap:Paired (Cap X scope cl) caps capN) (tn:List Str) (hN:Nc=tn++capN) (hn:tn.length=n)
  (hns:h1.Ns s.heap.objs.size (fun _=>none)) (hk:∀b o,s.heap.get? b=some o->h1.get? b=some o) :
  Inv (cxC X Nc scope cl s H fp) [] (stC n caps σ) H { s with heap:=h1,toks:=t' }:=by
 have lkc:∀y c,cl.lookup y=some c->X.env.cells.lookup y=some c:=fun y c e=>hcl.look e
 refine⟨⟨I.ok.mod,?_,I.ok.glob,I.ok.blt,Nat.le_refl _,fun x y c a b=>I.ok.inj x y c (lkc _ _ a) (lkc _ _ b),fun x hx=>?_,fun x c z=>(nomatch z),I.ok.hd,I.ok.frames,.inl rfl,fun b hb=>⟨Nat.ne_of_lt (fo b hb),fun x c e=>(f2 b hb).2.2.2.2.1 x c (lkc _ _ e)⟩,I.bs,Nat.le_trans I.ok.bsz I.sz,
  fun b o e hb=>?_,fun b hb z=>?_,I.stack,I.stkFree⟩,rfl,I.bare,Un.kept hk,⟨_,hns,fun i y v h1' h2 h3=>?_⟩,fun y c e=>?_,I.hok.fresh (Nat.le_refl _),fun y c e=>I.freeC y c (lkc _ _ e),fun p hp=>(by simp at hp),I.hok.kept hk,?_⟩
 ·exact hkind
 ·have hx':(relabel scope X.env).names.lookup x=some .cell\/(relabel scope X.env).names.lookup x=some .free:=hx
  have mem:∀{k},(relabel scope X.env).names.lookup x=some k->(x,k)∈(relabel scope X.env).names:=fun{k} e=>by
   generalize (relabel scope X.env).names=L at e
   induction L with
   |nil=>simp at e
   |cons p r ih=>
    obtain⟨a,b⟩:=p
    rw[List.lookup_cons]at e
    by_cases q:(x == a)=true
    ·rw[q]at e;cases e
     have:x=a:=by simpa using q
     subst this;exact List.mem_cons_self
    ·rw[show(x == a)=false by simpa using q]at e
     exact List.mem_cons_of_mem _ (ih e)
  have fin:∀{k},(k=NameKind.cell\/k=.free)->(relabel scope X.env).names.lookup x=some k->∃c,cl.lookup x=some c:=fun{k} hk' e=>by
   have:=List.all_eq_true.mp hhas _ (mem e)
   dsimp only at this
   have q:(cl.lookup x).isSome=true:=by
    rcases hk' with z|z<;>subst z<;>simpa using this
   exact Option.isSome_iff_exists.mp q
  rcases hx' with e|e
  ·exact fin (.inl rfl) e
  ·exact fin (.inr rfl) e
 ·rcases(f2 b hb).2.2.2.1 with z|z
  ·exact I.ok.noex b o e z
  ·exact absurd (Nat.lt_of_lt_of_le (Heap.lt_size e) I.ok.bsz) (Nat.not_lt.mpr z)
 ·rcases List.mem_cons.mp (I.stkSub b z)with q|q
  ·exact(f2 b hb).2.1 q
  ·exact(f2 b hb).2.2.1 q
 ·obtain⟨m,hm,hl⟩:=I.loc
  have h2':(stC n caps σ)[i]?=some (some v):=h2
  have h1'':Nc[i]?=some y:=h1'
  unfold stC at h2'
  by_cases hi:i<n
  ·rw[List.getElem?_append_left (by simpa using hi),List.getElem?_replicate,if_pos hi]at h2'
   cases h2'
  ·rw[List.getElem?_append_right (by simp;omega),List.length_replicate,List.getElem?_map]at h2'
   rw[hN,List.getElem?_append_right (by omega),hn]at h1''
   have key:∀(j:Nat) {caps:List Nat} {capN:List Str},Paired (Cap X scope cl) caps capN->capN[j]?=some y->(Option.map (fun i=>(σ[i]?).getD none) caps[j]?)=some (some v)->∃k,Cap X scope cl k y/\σ[k]?=some (some v):=by
    intro j
    induction j with
    |zero=>
     intro caps capN P e1 e2
     cases P with
     |nil=>simp at e1
     |@cons a b l r p t=>
      simp at e1 e2
      subst e1
      cases q:σ[a]? with
      |none=>rw[q]at e2;simp at e2
      |some w'=>rw[q]at e2;simp at e2;subst e2;exact⟨a,p,q⟩
    |succ j ih=>
     intro caps capN P e1 e2
     cases P with
     |nil=>simp at e1
     |cons p t=>exact ih t (by simpa using e1) (by simpa using e2)
   obtain⟨k,⟨c1,c2,c3,c,c4⟩,e⟩:=key _ hcap h1'' h2'
   obtain⟨u,r,lk⟩:=hl k y v c1 e (.inr (.inl c2))
   refine⟨u,r,.inr ⟨.inl c3,c,c4,?_⟩⟩
   rcases lk with⟨z,_⟩|⟨_,c',e',o,ho,hd⟩
   ·have z':X.env.scope.names.lookup y=some .local:=z
    rw[c2]at z';cases z'
   ·rw[lkc _ _ c4]at e'
    cases e'
    exact⟨o,hk _ _ ho,hd⟩
 ·obtain⟨v,o,ho,hd⟩:=I.cell y c (lkc _ _ e)
  exact⟨v,o,hk _ _ ho,hd⟩
 ·show(stC n caps σ).length=Nc.length
  have pl:caps.length=capN.length:=Paired.length hcap
  unfold stC
  rw[List.length_append,List.length_replicate,List.length_map,hN,List.length_append,hn,pl]
end
theorem tY{X:Cx}{Nc capN tn:List Str}{scope:Scope}{cl:List (Str×Addr)}{n:Nat}{caps:List Nat}{tg iter elt:Expr}{pos:Pos}{wi:TI}{g:TG}{te:TE}
  (hc:X.calm=true) (hi:WI X tg iter wi) (hg:∀s3 H3 fp,WG (cxC X Nc scope cl s3 H3 fp) tg g) (he:∀s3 H3 fp,WE (cxC X Nc scope cl s3 H3 fp) elt te)
  (hclos:closureFor scope X.env=pure cl) (hkind:scope.kind=.function) (hnl:∀x∈scope.names,x.2=.local->scope.names.lookup x.1=some .local) (hcell:∀x∈scope.names,x.2≠.cell)
  (hcl:uZ X.env cl) (hhas:((relabel scope X.env).names.all fun p=>!(p.2 == .cell||p.2 == .free)||(cl.lookup p.1).isSome)=true)
  (hcap:Paired (Cap X scope cl) caps capN) (hN:Nc=tn++capN) (hn:tn.length=n)
  {use:Option (Value->Sem Unit)} {pins:List (Addr×Obj)} {σ:L2.St} {H:Hp} {s:Shared} {Q:VK} {Qf:Value->Shared->Prop} (I:Inv X pins σ H s) (h:y3 wi g te n caps σ H Q)
  (hend:∀(D C:Addr) (s6:Shared) (H5:Hp) (m:Str->Option Value),Inv X pins σ H5 s6->s6.heap.Ns C m->H5 C=none->C≠X.env.locals->X.s₀.heap.objs.size<=C->(∀x c,X.env.cells.lookup x=some c->c≠C)->(∀p∈X.pn++pins,p.1≠C)->Q (.ref D) H5->compPost (model X.prog X.w) X.A X.xe use Qf (.ref D) C (.ok .next) s6)
  (hs:∀x,foldedSetIterable iter X.env x=pure x) :
  wpAny (model X.prog X.w) X.A (comprehension (.ListComp elt [⟨tg,iter,[],0⟩] scope pos) scope X.env (firstIterPos [⟨tg,iter,[],0⟩] pos) (newList []) (firstAsync [⟨tg,iter,[],0⟩]) (firstIter [⟨tg,iter,[],0⟩] X.env) use) Qf X.xe s:=by
 refine wpAny_comprehension_free (use:=use) (g:=⟨tg,iter,[],0⟩) (gs:=[]) rfl hs hclos hkind hnl (thn (hi.h pins s σ H _ I h) fun v s1 h1=>thn h1 fun itv s2 h2=>?_)
 obtain⟨it,fp,tnn,J,H2,rfl,I2,T,st2,f2,hW⟩:=h2
 have hD:=I2.fresh
 obtain⟨W,⟨m0,w0⟩,turn⟩:=hW _ hD
 refine wpAny_newObj_type (wpAny_newFunctionEnv hcell (by intro y hy;simp at hy) (fun h₁ hns₁ hsb₁=>?_) hkind)
 dsimp only at hns₁ hsb₁ ⊢
 have I3:Inv X pins σ (upd H2 s2.heap.objs.size (.lst [])) { s2 with heap:=s2.heap.push { cls:=.type "list",dict:=none,data:=.seq ([]:List Value).toArray },toks:=s2.toks }:=I2.lnew (its:=[]) .nil (Nat.zero_le _)
 generalize hs3:({ s2 with heap:=s2.heap.push { cls:=.type "list",dict:=none,data:=.seq ([]:List Value).toArray },toks:=s2.toks }:Shared)=s3 at I3
 have es3:s3.heap=s2.heap.push { cls:=.type "list",dict:=none,data:=.seq ([]:List Value).toArray }:=by rw[<-hs3]
 generalize hDD:s2.heap.objs.size=D at *
 have kept:∀b o,s3.heap.get? b=some o->h₁.get? b=some o:=fun b o e=>by
  have lt:=Heap.lt_size e
  rw[es3]at lt e
  exact hsb₁.extBut b o (Nat.ne_of_lt lt) (Heap.get?_push_of_some _ e)
 have old:∀b o,s2.heap.get? b=some o->s3.heap.get? b=some o:=fun b o e=>by rw[es3];exact Heap.get?_push_of_some _ e
 have ltD:∀b∈fp,b<D:=fun b hb=>by
  obtain⟨o,e,_⟩:=T.obj 0 _ st2 b hb
  rw[<-hDD];exact Heap.lt_size e
 have fo:∀b∈fp,b<s3.heap.objs.size:=fun b hb=>by
  obtain⟨o,e,_⟩:=T.obj 0 _ st2 b hb
  exact Heap.lt_size (old _ _ e)
 have f3:∀b∈fp,u3 X pins (upd H2 D (.lst [])) b:=fun b hb=>by
  refine⟨?_,(f2 b hb).2⟩
  rw[bD (Nat.ne_of_lt (ltD b hb))]
  exact(f2 b hb).1
 rw[<-es3]at hns₁ hsb₁ ⊢
 have Ic:=fun t'=>Inv.comp (h1:=h₁) (t':=t') (Nc:=Nc) (n:=n) I3 hc f3 fo hkind hcl hhas hcap tn hN hn hns₁ kept
 have stat:∀{H':Hp},(∀b∈fp,H' b=none)->∀b∈fp,u3 (cxC X Nc scope cl s3 (upd H2 D (.lst [])) fp) [] H' b:=fun hn' b hb=>by
  refine⟨hn' b hb,Nat.ne_of_lt (fo b hb),fun z=>?_,.inl hb,fun x c e=>(f2 b hb).2.2.2.2.1 x c (hcl.look e),fun p hp=>(by simp at hp)⟩
  rcases List.mem_cons.mp (I3.stkSub b z)with q|q
  ·exact(f2 b hb).2.1 q
  ·exact(f2 b hb).2.2.1 q
 have loop:∀s4:Shared,(∃t',s4={ s3 with heap:=h₁,toks:=t' })->codeAny (model X.prog X.w) X.A (.compLoop (.ListComp elt [⟨tg,iter,[],0⟩] scope pos) 0 (.ref it) (.ref D) (compEnvC scope cl s3.heap.objs.size X.env))
   (compPost (model X.prog X.w) X.A X.xe use Qf (.ref D) s3.heap.objs.size) s4:=by
  rintro s4 ⟨t',rfl⟩
  refine qo (fun n' s'=>∃i σ' H',Inv (cxC X Nc scope cl s3 (upd H2 D (.lst [])) fp) [] σ' H' s'/\tnn i s'.heap/\(∀b∈fp,H' b=none)/\W i n' σ' H') ?_ m0
   ⟨0,_,_,Ic t',T.keep 0 _ _ st2 fun b hb o e=>kept _ _ (old _ _ e),fun b hb=>(f3 b hb).1,w0⟩
  rintro n' s5 ⟨i,σ5,H5,I5,st5,fr5,w5⟩
  rcases turn i n' σ5 H5 w5 with⟨stop,qn⟩|⟨go,N,hN',step⟩
  ·refine thn (T.done (cxC X Nc scope cl s3 (upd H2 D (.lst [])) fp) rfl rfl rfl hc i [] s5 σ5 H5 (fun _ _=>False) I5 (stat fr5) st5 stop) fun r s6 ⟨hr,I6⟩=>?_
   subst hr
   obtain⟨m,hm,_⟩:=I6.loc
   have I7:Inv X pins σ H5 s6:=Inv.call' (ch:=fp) I3 I6.os I6.base I6.hok I6.bare fun b hb=>⟨(f2 b hb).2.2.2.1,(f2 b hb).2.1,(f2 b hb).2.2.2.2.1,(f2 b hb).2.2.2.2.2⟩
   exact hend D _ s6 H5 m I7 hm I6.free (Ne.symm (Nat.ne_of_lt I3.lt)) I3.sz (fun x c e=>by
     obtain⟨v',o,ho,_⟩:=I3.cell x c e
     exact Nat.ne_of_lt (Heap.lt_size ho)) (fun p hp=>Nat.ne_of_lt (Heap.lt_size (I3.pin p hp).1)) qn
  ·refine thn (T.item (cxC X Nc scope cl s3 (upd H2 D (.lst [])) fp) rfl rfl rfl hc i [] s5 σ5 H5 (fun _ _=>False) I5 (stat fr5) st5 go) fun r s6 ⟨u,hr,h6⟩=>?_
   subst hr
   refine thn h6 fun _ s7 hz=>?_
   obtain⟨x,H7,I7,r7,y7,st7,fr7⟩:=hz
   have I7':=I7.pinned (stat fr7) (T.obj _ _ st7)
   refine thn ((hg s3 (upd H2 D (.lst [])) fp).h _ s7 σ5 H7 x u _ I7' r7 (step x H7 y7)) fun _ s8 hz=>?_
   obtain⟨σ8,H8,I8,q8⟩:=hz
   refine thn ((he s3 (upd H2 D (.lst [])) fp).h _ s8 σ8 H8 _ I8 q8) fun v9 s9 hz=>?_
   obtain⟨x9,H9,I9,r9,ys,hy,hlt,q9⟩:=hz
   refine thn (mB (X:=cxC X Nc scope cl s3 (upd H2 D (.lst [])) fp) _ s9 σ8 H9 (.ref D) [x9] (.ref D) [v9] (fun _ H'=>N σ8 H') I9 rfl (.cons r9 .nil) ⟨D,ys,x9,rfl,rfl,hy,hlt,q9⟩) fun _ s10 hz=>?_
   obtain⟨_,H10,I10,_,q10⟩:=hz
   obtain⟨m',hm,w10⟩:=hN' σ8 H10 q10
   refine⟨m',hm,i+1,σ8,H10,I10.unpinned,T.keep _ _ _ st7 fun b hb o e=>(I10.pin (b,o) (List.mem_append_right _ (List.mem_append_right _ (fh hb e)))).1,fun b hb=>?_,w10⟩
   obtain⟨o,e,d⟩:=T.obj _ _ st7 b hb
   exact(I10.pin (b,o) (List.mem_append_right _ (List.mem_append_right _ (fh hb e)))).2.1
 have e4:∀t',({ s2 with heap:=h₁,toks:=t' }:Shared)={ s3 with heap:=h₁,toks:=t' }:=fun t'=>by rw[<-hs3]
 refine codeAny_compStart_list (loop _ ⟨_,e4 _⟩) (T.self _ 0 _ _ _ (T.keep 0 _ _ st2 fun b hb o e=>kept _ _ (old _ _ e)) (loop _ ⟨_,e4 _⟩))
theorem yN{X:Cx}{Nc capN tn:List Str}{scope:Scope}{cl:List (Str×Addr)}{n:Nat}{caps:List Nat}{tg iter elt:Expr}{pos:Pos}{wi:TI}{g:TG}{te:TE}
  (hc:X.calm=true) (hi:WI X tg iter wi) (hg:∀s3 H3 fp,WG (cxC X Nc scope cl s3 H3 fp) tg g) (he:∀s3 H3 fp,WE (cxC X Nc scope cl s3 H3 fp) elt te)
  (hclos:closureFor scope X.env=pure cl) (hkind:scope.kind=.function) (hnl:∀x∈scope.names,x.2=.local->scope.names.lookup x.1=some .local) (hcell:∀x∈scope.names,x.2≠.cell)
  (hcl:uZ X.env cl) (hhas:((relabel scope X.env).names.all fun p=>!(p.2 == .cell||p.2 == .free)||(cl.lookup p.1).isSome)=true)
  (hcap:Paired (Cap X scope cl) caps capN) (hN:Nc=tn++capN) (hn:tn.length=n)
  (hs:∀x,foldedSetIterable iter X.env x=pure x:=by intro _;rfl) :
  WE X (.ListComp elt [⟨tg,iter,[],0⟩] scope pos) (y3 wi g te n caps):=by
 constructor
 intro pins s σ H Q I h
 rw[eval_ListComp]
 refine tY hc hi hg he hclos hkind hnl hcell hcl hhas hcap hN hn I h (fun D C s6 H5 m I7 hm fr nl sz cn pn qn=>⟨m,hm,fun h' hs'=>?_⟩) hs
 exact⟨.ref D,H5,I7.turned (t':=s6.toks) (it:=C) (fun b o hb e=>hs'.extBut b o hb e) fr nl (.inr sz) cn pn,rfl,qn⟩
open PySem.AutoSeq1 (wpAny_loadPart')
theorem Ax{prog:Program}{w:World}{A:Around}{E:Value->Shared->Prop}{s:Shared}{t b:Addr}{vs ws:List Value}{Q:Value->Shared->Prop}(ht:IsTup s.heap t vs.toArray)(hb:IsTup s.heap b ws.toArray)(hv:vs=[])
  (h1:Q (.ref b) s):wpAny (model prog w) A (binaryOp .Add (.ref t) (.ref b)) Q E s:=by
 obtain⟨⟨cls,dd,data,sl⟩,ho,hc,n,hd⟩:=id ht
 obtain⟨⟨cls2,dd2,data2,sl2⟩,ho2,hc2,n2,hd2⟩:=id hb
 simp only at hc hd hc2 hd2
 subst hc hd hc2 hd2
 exact concat_meets ⟨_,ho,rfl⟩ ⟨_,ho2,rfl⟩ noFill_tuple_add seq_tuple_add PySem.F.slot_tuple_add PySem.F.entry_tuple_add (PySem.F.args_tuple_add_2 _ _)
   (tuple_addW0 t b vs.toArray ws.toArray n n2 dd dd2 sl sl2 (by simp[hv])) ⟨ho,ho2,h1⟩
theorem kY:fillsNumberSlot (.type "tuple") "mul"=pure false:=
 PySem.fillsNumberSlot_seq (id:="tuple.__mul__") (r:=some (.builtin "tuple.__rmul__")) F.slot_tuple_mul.lookup (by decide +kernel) F.slot_tuple_rmul.lookup (by decide +kernel)
theorem pM:seqRepeat? (.type "tuple")=pure (some (.builtin "tuple.__mul__")):=by
 unfold seqRepeat?
 rw[PySem.seqSlot_of (T:="tuple") (name:="__mul__") (id:="tuple.__mul__") F.slot_tuple_mul.lookup (by decide +kernel),PySem.seqSlot_of (T:="tuple") (name:="__rmul__") (id:="tuple.__rmul__") F.slot_tuple_rmul.lookup (by decide +kernel)]
 rfl
theorem ng(a:Int)(t:Tok)(l:Addr)(items:Array Value)(n:Nat)(dd:Option Addr)(sl:Array (Option Value)) :
  Meets (Builtin.«int.__rmul__» ⟨[.int a t,.ref l],[]⟩) (fun _ R s=>s.heap.get? l=some { cls:=.type "tuple",dict:=dd,data:=.seq items n,slots:=sl }/\R (.ok (.ret Value.notImplemented)) s):=
 .of_wp fun prog w A R s h=>by obtain⟨hp,g,d,tk,os⟩:=s;obtain⟨hl,h⟩:=h;wp_walk using wpAny_loadPart' hl;exact⟨_,rfl,h⟩
theorem qH(l:Addr)(items:Array Value)(n:Nat)(dd:Option Addr)(sl:Array (Option Value))(t:Tok) :
  Meets (Builtin.«tuple.__mul__» ⟨[.ref l,.int 1 t],[]⟩) (fun _ R s=>s.heap.get? l=some { cls:=.type "tuple",dict:=dd,data:=.seq items n,slots:=sl }/\R (.ok (.ret (Value.ref l))) s):=
 .of_wp fun prog w A R s h=>by obtain⟨hp,g,d,tk,os⟩:=s;obtain⟨hl,h⟩:=h;have f1:=AutoSeq1.idx_int;wp_walk using wpAny_loadPart' hl;exact⟨_,rfl,h⟩
theorem qG(l:Addr)(items:Array Value)(n:Nat)(dd:Option Addr)(sl:Array (Option Value))(k:Int)(t:Tok)(hc0:¬(decide (k < -2^63)||decide (k≥2^63))=true)(hc1:¬(items.isEmpty||k == 1)=true)(hc2:¬(decide (k<=0)||items.isEmpty)=true)
  (hc3:¬((items.size:Int)*k>(2^63-1) / 8)) (hc4:¬Builtin.Tuple.tupleTooMany ((items.size:Int)*k)=true) (hz:(List.foldl (fun x1 x2=>x1++x2) #[] (List.replicate k.toNat items)).size<=sizeLine) :
  Meets (Builtin.«tuple.__mul__» ⟨[.ref l,.int k t],[]⟩) (fun _ R s=>s.heap.get? l=some { cls:=.type "tuple",dict:=dd,data:=.seq items n,slots:=sl }/\
   R (.ok (.ret (Value.ref s.heap.objs.size))) { s with heap:=s.heap.push { cls:=Value.type "tuple",data:=Data.seq (List.foldl (fun x1 x2=>x1++x2) #[] (List.replicate k.toNat items)) } }):=
 .of_wp fun prog w A R s h=>by
  obtain⟨hp,g,d,tk,os⟩:=s
  obtain⟨hl,h⟩:=h
  have f1:=AutoSeq1.idx_int
  have g0:(decide (k < -2^63)||decide (k≥2^63))=false:=by simpa using hc0
  have g1:(items.isEmpty||k == 1)=false:=by simpa using hc1
  have g2:(decide (k<=0)||items.isEmpty)=false:=by simpa using hc2
  have g4:Builtin.Tuple.tupleTooMany ((items.size:Int)*k)=false:=by simpa using hc4
  wp_walk using wpAny_loadPart' hl
  refine PySem.W.KFB.if_not g0 ?_
  wp_walk using wpAny_loadPart' hl
  try (refine PySem.W.KFB.if_not g1 ?_;wp_walk using wpAny_loadPart' hl)
  try (refine PySem.W.KFB.if_not g2 ?_;wp_walk using wpAny_loadPart' hl)
  try (rw[if_neg hc3];wp_walk using wpAny_loadPart' hl)
  try (refine PySem.W.KFB.if_not g4 ?_;wp_walk using wpAny_loadPart' hl)
  try (refine wpAny_ite_false (decide_eq_false (Nat.not_lt.mpr hz)) ?_;wp_walk)
  exact⟨_,rfl,h⟩
structure L4(H:Hp)(p xs:Addr):Prop where
 ex:∃(ns:List Int) (at' cur:Int),H p=some (.lst [.ref xs,.int at',.int cur])/\H xs=some (.lst (ns.map V.int))/\xs≠p/\0<=at'/\0<=cur
def AS(K:PySem.W.Frag):Sp:=fun vs H Q _=>∃(a:Addr) (ns:List Int),vs=[.ref a]/\SqL K H a (ns.map V.int)/\∀(q xs:Addr) (H':Hp),rV H H'->L4 H' q xs->H q=none->Q (.ref q) H'
theorem wV{m:Int}(h0:0<=m)(h:m<2^60):m.natAbs.log2<9000:=by
 have:=uC (n:=m.natAbs) (by omega)
 omega
end OG
namespace OP
open PySem PySem.Spec PyProof.Rows L2 OG
inductive U where
 |non|bl (b:Bool)|int (i:Int)|str (x:Str)|tup (us:List U)|ref (l:Nat)|kl (ns:List Int)
structure Cl where
 C:Addr
 ns:List Str
inductive O where
 |lst (us:List U)|dic (kvs:List (Key×U))|ins (c:Cl) (fs:List (Option U))|fdc (ep:Nat) (kvs:List (Key×U))|dit (kvs:List (List Key×U))|fdt (ep:Nat) (kvs:List (List Key×U))|dnt (kvs:List (List (List Int)×U))|fdn (ep:Nat) (kvs:List (List (List Int)×U))
abbrev Sto:=List O
abbrev Rho:=List (Option U)
def KL(K:PySem.W.Frag)(H:Hp)(a:Addr)(ns:List Int):Prop:=
 (∃o,H a=some (.frz o (.lst (ns.map V.int))))\/
  ∃(o:Obj) (its:Array Value) (n:Nat),K.lookup a=some o/\o.cls=.type "list"/\o.dict=none/\o.data=.seq its n/\its.size<=sizeLine/\cg (ns.map V.int) its.toList
theorem KL.sq{K:PySem.W.Frag}{H:Hp}{a:Addr}{ns:List Int}(h:KL K H a ns):SqL K H a (ns.map V.int):=by
 rcases h with h|h
 ·exact .inl (.inr h)
 ·exact .inr h
mutual
def Is(K:PySem.W.Frag)(m:List Addr)(H:Hp):V->U->Prop
 |v,.non=>v=.non
 |v,.bl b=>v=.bl b
 |v,.int i=>v=.int i
 |v,.str x=>v=.str x
 |v,.tup us=>∃a xs,v=.ref a/\SqT K H a xs/\IsL K m H xs us
 |v,.ref l=>∃a,m[l]?=some a/\v=.ref a
 |v,.kl ns=>∃a,v=.ref a/\KL K H a ns
def IsL(K:PySem.W.Frag)(m:List Addr)(H:Hp):List V->List U->Prop
 |xs,[]=>xs=[]
 |xs,u::us=>∃x r,xs=x::r/\Is K m H x u/\IsL K m H r us
end
structure Bq(K:PySem.W.Frag)(H H':Hp):Prop where
 t:∀a xs,SqT K H a xs->SqT K H' a xs
 l:∀a ns,KL K H a ns->KL K H' a ns
structure Ext(K:PySem.W.Frag)(m:List Addr)(H:Hp)(m':List Addr)(H':Hp):Prop where
 pre:∃t,m'=m++t
 keep:Bq K H H'
section
variable{K:PySem.W.Frag}{m m' m'':List Addr}{H H' H'':Hp}{v x:V}{u:U}{xs ys:List V}{us ws:List U}{a q:Addr}{o:HO}
theorem Ext.refl:Ext K m H m H:=⟨⟨[],by simp⟩,fun _ _ h=>h,fun _ _ h=>h⟩
theorem Ext.trans(a:Ext K m H m' H')(b:Ext K m' H' m'' H''):Ext K m H m'' H'':=by
 obtain⟨t,rfl⟩:=a.pre
 obtain⟨t',rfl⟩:=b.pre
 exact⟨⟨t++t',by simp⟩,fun c ys h=>b.keep.t c ys (a.keep.t c ys h),fun c ys h=>b.keep.l c ys (a.keep.l c ys h)⟩
theorem Ext.of(k:Bq K H H'):Ext K m H m H':=⟨⟨[],by simp⟩,k⟩
theorem Ext.new(k:Bq K H H'):Ext K m H (m++[q]) H':=⟨⟨[q],rfl⟩,k⟩
theorem Ext.get{l:Nat}(e:Ext K m H m' H')(h:m[l]?=some a):m'[l]?=some a:=by
 obtain⟨t,rfl⟩:=e.pre
 rw[List.getElem?_append_left (List.getElem?_eq_some_iff.mp h).1]
 exact h
mutual
theorem Is.mono(e:Ext K m H m' H'):∀{v:V} {u:U},Is K m H v u->Is K m' H' v u
 |v,.non,h=>by unfold Is at h ⊢;exact h
 |v,.bl b,h=>by unfold Is at h ⊢;exact h
 |v,.int i,h=>by unfold Is at h ⊢;exact h
 |v,.str x,h=>by unfold Is at h ⊢;exact h
 |v,.tup us,h=>by
  unfold Is at h ⊢
  obtain⟨a,xs,e1,k,l⟩:=h
  exact⟨a,xs,e1,e.keep.t _ _ k,IsL.mono e l⟩
 |v,.ref l,h=>by
  unfold Is at h ⊢
  obtain⟨a,k,e1⟩:=h
  exact⟨a,e.get k,e1⟩
 |v,.kl ns,h=>by
  unfold Is at h ⊢
  obtain⟨a,e1,k⟩:=h
  exact⟨a,e1,e.keep.l _ _ k⟩
theorem IsL.mono(e:Ext K m H m' H'):∀{xs:List V} {us:List U},IsL K m H xs us->IsL K m' H' xs us
 |xs,[],h=>by unfold IsL at h ⊢;exact h
 |xs,u::us,h=>by
  unfold IsL at h ⊢
  obtain⟨x,r,e1,k,l⟩:=h
  exact⟨x,r,e1,Is.mono e k,IsL.mono e l⟩
end
theorem Is.int_{i:Int}:Is K m H (.int i) (.int i):=by unfold Is;rfl
theorem Is.bl_{b:Bool}:Is K m H (.bl b) (.bl b):=by unfold Is;rfl
theorem Is.non_:Is K m H .non .non:=by unfold Is;rfl
theorem Is.str_{x:Str}:Is K m H (.str x) (.str x):=by unfold Is;rfl
theorem Is.of_int{i:Int}(h:Is K m H v (.int i)):v=.int i:=by unfold Is at h;exact h
theorem Is.of_bl{b:Bool}(h:Is K m H v (.bl b)):v=.bl b:=by unfold Is at h;exact h
theorem Is.of_non(h:Is K m H v .non):v=.non:=by unfold Is at h;exact h
theorem Is.of_str{x:Str}(h:Is K m H v (.str x)):v=.str x:=by unfold Is at h;exact h
theorem Is.of_tup(h:Is K m H v (.tup us)):∃a xs,v=.ref a/\SqT K H a xs/\IsL K m H xs us:=by unfold Is at h;exact h
theorem Is.of_ref{l:Nat}(h:Is K m H v (.ref l)):∃a,m[l]?=some a/\v=.ref a:=by unfold Is at h;exact h
theorem Is.of_kl{ns:List Int}(h:Is K m H v (.kl ns)):∃a,v=.ref a/\KL K H a ns:=by unfold Is at h;exact h
theorem Is.tup_(e:SqT K H a xs)(h:IsL K m H xs us):Is K m H (.ref a) (.tup us):=by unfold Is;exact⟨a,xs,rfl,e,h⟩
theorem Is.ref_{l:Nat}(e:m[l]?=some a):Is K m H (.ref a) (.ref l):=by unfold Is;exact⟨a,e,rfl⟩
theorem IsL.nil_:IsL K m H [] []:=by unfold IsL;rfl
theorem IsL.cons_(h:Is K m H x u)(t:IsL K m H xs us):IsL K m H (x::xs) (u::us):=by unfold IsL;exact⟨x,xs,rfl,h,t⟩
theorem IsL.of_nil(h:IsL K m H xs []):xs=[]:=by unfold IsL at h;exact h
theorem IsL.of_cons(h:IsL K m H xs (u::us)):∃x r,xs=x::r/\Is K m H x u/\IsL K m H r us:=by unfold IsL at h;exact h
theorem IsL.length:∀{xs:List V} {us:List U},IsL K m H xs us->xs.length=us.length
 |xs,[],h=>by rw[h.of_nil];rfl
 |xs,d::ds,h=>by
  obtain⟨x,r,rfl,_,t⟩:=h.of_cons
  rw[List.length_cons,List.length_cons,IsL.length t]
theorem IsL.getD:∀{xs:List V} {us:List U} {i:Nat} {u:U},IsL K m H xs us->us[i]?=some u->∃x,xs[i]?=some x/\Is K m H x u
 |xs,[],i,x,h,e=>by simp at e
 |xs,d::ds,0,x,h,e=>by
  obtain⟨y,r,rfl,k,t⟩:=h.of_cons
  simp at e;subst e;exact⟨y,by simp,k⟩
 |xs,d::ds,i+1,x,h,e=>by
  obtain⟨y,r,rfl,k,t⟩:=h.of_cons
  obtain⟨d',e1,e2⟩:=IsL.getD (i:=i) (u:=x) t (by simpa using e)
  exact⟨d',by simpa using e1,e2⟩
theorem IsL.append:∀{xs:List V} {us:List U},IsL K m H xs us->IsL K m H ys ws->IsL K m H (xs++ys) (us++ws)
 |xs,[],h,k=>by rw[h.of_nil];exact k
 |xs,d::ds,h,k=>by
  obtain⟨y,r,rfl,z,t⟩:=h.of_cons
  exact .cons_ z (IsL.append t k)
theorem IsL.set:∀{xs:List V} {us:List U} {j:Nat},IsL K m H xs us->Is K m H x u->IsL K m H (xs.set j x) (us.set j u)
 |xs,[],j,h,k=>by rw[h.of_nil];exact .nil_
 |xs,d::ds,0,h,k=>by
  obtain⟨y,r,rfl,z,t⟩:=h.of_cons
  exact .cons_ k t
 |xs,d::ds,j+1,h,k=>by
  obtain⟨y,r,rfl,z,t⟩:=h.of_cons
  exact .cons_ z (IsL.set t k)
theorem IsL.drop:∀{xs:List V} {us:List U} (n:Nat),IsL K m H xs us->IsL K m H (xs.drop n) (us.drop n)
 |xs,us,0,h=>h
 |xs,[],n+1,h=>by rw[h.of_nil];exact .nil_
 |xs,d::ds,n+1,h=>by
  obtain⟨y,r,rfl,z,t⟩:=h.of_cons
  exact IsL.drop n t
theorem IsL.take:∀{xs:List V} {us:List U} (n:Nat),IsL K m H xs us->IsL K m H (xs.take n) (us.take n)
 |xs,us,0,h=>.nil_
 |xs,[],n+1,h=>by rw[h.of_nil];exact .nil_
 |xs,d::ds,n+1,h=>by
  obtain⟨y,r,rfl,z,t⟩:=h.of_cons
  exact .cons_ z (IsL.take n t)
theorem IsL.erase:∀{xs:List V} {us:List U} (n:Nat),IsL K m H xs us->IsL K m H (xs.eraseIdx n) (us.eraseIdx n)
 |xs,[],n,h=>by rw[h.of_nil];exact .nil_
 |xs,d::ds,0,h=>by
  obtain⟨y,r,rfl,z,t⟩:=h.of_cons
  exact t
 |xs,d::ds,n+1,h=>by
  obtain⟨y,r,rfl,z,t⟩:=h.of_cons
  exact .cons_ z (IsL.erase n t)
theorem IsL.rep:∀(n:Nat),IsL K m H xs us->IsL K m H (List.replicate n xs).flatten (List.replicate n us).flatten
 |0,h=>.nil_
 |n+1,h=>by
  rw[List.replicate_succ,List.replicate_succ,List.flatten_cons,List.flatten_cons]
  exact h.append (IsL.rep n h)
theorem tf(h:H a=some o)(nt:∀xs,o≠.tup xs)(nf:∀ob xs,o≠.frz ob (.tup xs))(nl:∀ob xs,o≠.frz ob (.lst xs))(o':HO):Bq K H (upd H a o'):=by
 refine⟨fun b xs q=>?_,fun b ns q=>?_⟩
 ·rcases q with(q|⟨ob,q⟩)|q
  ·have n:b≠a:=fun z=>by subst z;rw[q]at h;cases h;exact nt _ rfl
   exact .inl (.inl (by rw[bD n];exact q))
  ·have n:b≠a:=fun z=>by subst z;rw[q]at h;cases h;exact nf _ _ rfl
   exact .inl (.inr ⟨ob,by rw[bD n];exact q⟩)
  ·exact .inr q
 ·rcases q with⟨ob,q⟩|q
  ·have n:b≠a:=fun z=>by subst z;rw[q]at h;cases h;exact nl _ _ rfl
   exact .inl ⟨ob,by rw[bD n];exact q⟩
  ·exact .inr q
theorem eP(s:rV H H'):Bq K H H':=by
 refine⟨fun b xs q=>?_,fun b ns q=>?_⟩
 ·rcases q with(q|⟨ob,q⟩)|q
  ·exact .inl (.inl (s _ _ q))
  ·exact .inl (.inr ⟨ob,s _ _ q⟩)
  ·exact .inr q
 ·rcases q with⟨ob,q⟩|q
  ·exact .inl ⟨ob,s _ _ q⟩
  ·exact .inr q
theorem cQ(h:H q=none)(o':HO):Bq K H (upd H q o'):=eP (dJ h o')
end
abbrev NK:=List (List Int)
def hNK(ks:NK):Int:=reduceHash (Builtin.Tuple.tupleHashOf (ks.map fun k=>reduceHash (Builtin.Tuple.tupleHashOf (k.map hashInt))))
abbrev KN:List ((NK×Addr)×V)->List (NK×Addr×Value)->Prop:=Paired fun p q=>p.1.1=q.1/\p.1.2=q.2.1/\du p.2 q.2.2
def dNo(a:Addr)(kvs:List ((NK×Addr)×V)):HO:=.ext fun h=>kvs.length<=sizeLine/\(a == sysModules)=false/\∃xs,KN kvs xs/\
 ∃o es ep,h.get? a=some o/\o.ExactDict/\o.data=.dict es ep/\es.toList=(xs.map fun x=>(⟨hNK x.1,.ref x.2.1,x.2.2⟩:DictEntry))/\(xs.map (·.1)).Nodup
def j3(K:PySem.W.Frag)(H:Hp)(b:Addr)(k:NK):Prop:=∃cs:List Addr,SqT K H b (cs.map V.ref)/\Paired (fun(l:List Int) c=>SqT K H c (l.map V.int)) k cs
theorem j3.mono{K:PySem.W.Frag}{H H':Hp}{b:Addr}{k:NK}(e:Bq K H H')(h:j3 K H b k):j3 K H' b k:=let ⟨cs,p,q⟩:=h;⟨cs,e.t _ _ p,Paired.mapP q fun _ _ z=>e.t _ _ z⟩
def nP(kvs:List ((NK×Addr)×V)):List (NK×V):=kvs.map fun p=>(p.1.1,p.2)
def IsP{κ:Type}(K:PySem.W.Frag)(m:List Addr)(H:Hp)(kvs:List (κ×V))(kus:List (κ×U)):Prop:=kvs.map (·.1)=kus.map (·.1)/\IsL K m H (kvs.map (·.2)) (kus.map (·.2))
def Rf(K:PySem.W.Frag)(m:List Addr)(H:Hp):Option V->Option U->Prop
 |some v,some u=>Is K m H v u
 |none,none=>True
 |_,_=>False
structure InF(K:PySem.W.Frag)(m:List Addr)(H:Hp)(c:Cl)(fs:List (Str×V))(fus:List (Option U)):Prop where
 nd:c.ns.Nodup
 few:c.ns.length<1000
 knd:(fs.map (·.1)).Nodup
 sub:∀x∈fs.map (·.1),x∈c.ns
 len:fus.length=c.ns.length
 at_:∀(i:Nat) (x:Str),c.ns[i]?=some x->Rf K m H (fs.lookup x) ((fus[i]?).join)
theorem Rf.mono{K:PySem.W.Frag}{m m':List Addr}{H H':Hp}{v:Option V}{u:Option U}(e:Ext K m H m' H')(h:Rf K m H v u):Rf K m' H' v u:=by
 cases v with
 |none=>cases u with
  |none=>trivial
  |some u=>exact h.elim
 |some v=>cases u with
  |none=>exact h.elim
  |some u=>exact Is.mono e h
theorem InF.mono{K:PySem.W.Frag}{m m':List Addr}{H H':Hp}{c:Cl}{fs:List (Str×V)}{fus:List (Option U)}(e:Ext K m H m' H')(h:InF K m H c fs fus):InF K m' H' c fs fus:=⟨h.nd,h.few,h.knd,h.sub,h.len,fun i x q=>(h.at_ i x q).mono e⟩
def Ob(K:PySem.W.Frag)(m:List Addr)(H:Hp)(a:Addr):O->Prop
 |.lst us=>∃xs,H a=some (.lst xs)/\IsL K m H xs us
 |.dic kus=>∃kvs,H a=some (.dK kvs)/\IsP K m H kvs kus
 |.ins c fus=>∃dx fs,H a=some (.ins c.C dx fs)/\InF K m H c fs fus
 |.fdc ep kus=>∃ob es kvs,H a=some (.frz ob (.dK kvs))/\ob.data=.dict es ep/\IsP K m H kvs kus
 |.dit kus=>∃kvs,H a=some (.dT kvs)/\IsP K m H kvs kus
 |.fdt ep kus=>∃ob es kvs,H a=some (.frz ob (.dT kvs))/\ob.data=.dict es ep/\IsP K m H kvs kus
 |.dnt kus=>∃kvs,H a=some (dNo a kvs)/\(∀p∈kvs,j3 K H p.1.2 p.1.1)/\IsP K m H (nP kvs) kus
 |.fdn ep kus=>∃ob es kvs,H a=some (.frz ob (dNo a kvs))/\ob.data=.dict es ep/\(∀p∈kvs,j3 K H p.1.2 p.1.1)/\IsP K m H (nP kvs) kus
structure Sr(K:PySem.W.Frag)(m:List Addr)(S:Sto)(H:Hp):Prop where
 len:m.length=S.length
 nd:m.Nodup
 ob:∀(l:Nat) (a:Addr) (o:O),m[l]?=some a->S[l]?=some o->Ob K m H a o
structure Lr(K:PySem.W.Frag)(m:List Addr)(H:Hp)(ρ:Rho)(σ:L2.St):Prop where
 len:ρ.length=σ.length
 at_:∀(i:Nat) (u:U),ρ[i]?=some (some u)->∃v,σ[i]?=some (some v)/\Is K m H v u
section
variable{κ:Type}{K:PySem.W.Frag}{m m':List Addr}{H H':Hp}{S S':Sto}{ρ:Rho}{σ:L2.St}{a q:Addr}{l:Nat}{o:O}{ho:HO}{us:List U}{v:V}{u:U}{kvs:List (κ×V)}{kus:List (κ×U)}
theorem IsP.mono(e:Ext K m H m' H')(h:IsP K m H kvs kus):IsP K m' H' kvs kus:=⟨h.1,h.2.mono e⟩
theorem IsP.length(h:IsP K m H kvs kus):kvs.length=kus.length:=by have:=h.2.length;simpa using this
theorem IsP.nil_:IsP (κ:=κ) K m H [] []:=⟨rfl,.nil_⟩
theorem IsP.cons_{k:κ}(h:Is K m H v u)(t:IsP K m H kvs kus):IsP K m H ((k,v)::kvs) ((k,u)::kus):=⟨by simp[t.1],.cons_ h t.2⟩
theorem IsP.ind{P:List (κ×V)->List (κ×U)->Prop}(h0:P [] [])(h1:∀k v u kvs kus,Is K m H v u->IsP K m H kvs kus->P kvs kus->P ((k,v)::kvs) ((k,u)::kus)):∀{kvs:List (κ×V)} {kus:List (κ×U)},IsP K m H kvs kus->P kvs kus
 |[],[],_=>h0
 |[],p::r,h=>by have:=h.length;simp at this
 |p::r,[],h=>by have:=h.length;simp at this
 |(k,v)::r,(k',u)::r',h=>by
  obtain⟨e,i⟩:=h
  simp only[List.map_cons,List.cons.injEq]at e
  obtain⟨e1,e2⟩:=e
  subst e1
  obtain⟨x,t,e3,iu,it⟩:=i.of_cons
  cases e3
  exact h1 k v u r r' iu ⟨e2,it⟩ (IsP.ind h0 h1 (⟨e2,it⟩:IsP K m H r r'))
theorem Ob.mono(e:Ext K m H m' H')(h1:H' a=H a)(h:Ob K m H a o):Ob K m' H' a o:=by
 cases o with
 |lst us=>obtain⟨xs,k,i⟩:=h;exact⟨xs,h1.trans k,i.mono e⟩
 |dic kus=>obtain⟨xs,k,i⟩:=h;exact⟨xs,h1.trans k,i.mono e⟩
 |ins C fus=>obtain⟨dx,fs,k,i⟩:=h;exact⟨dx,fs,h1.trans k,i.mono e⟩
 |fdc ep kus=>obtain⟨ob,es,kvs,k,d,i⟩:=h;exact⟨ob,es,kvs,h1.trans k,d,i.mono e⟩
 |dit kus=>obtain⟨xs,k,i⟩:=h;exact⟨xs,h1.trans k,i.mono e⟩
 |fdt ep kus=>obtain⟨ob,es,kvs,k,d,i⟩:=h;exact⟨ob,es,kvs,h1.trans k,d,i.mono e⟩
 |dnt kus=>obtain⟨kvs,k,y,i⟩:=h;exact⟨kvs,h1.trans k,fun p hp=>(y p hp).mono e.keep,i.mono e⟩
 |fdn ep kus=>obtain⟨ob,es,kvs,k,d,y,i⟩:=h;exact⟨ob,es,kvs,h1.trans k,d,fun p hp=>(y p hp).mono e.keep,i.mono e⟩
theorem Ob.some(h:Ob K m H a o):∃ho,H a=some ho/\(∀xs,ho≠.tup xs)/\(∀ob xs,ho≠.frz ob (.tup xs))/\(∀ob xs,ho≠.frz ob (.lst xs)):=by
 cases o with
 |lst us=>obtain⟨xs,k,i⟩:=h;exact⟨_,k,by simp,by simp,by simp⟩
 |dic kus=>obtain⟨xs,k,i⟩:=h;exact⟨_,k,by simp,by simp,by simp⟩
 |ins C fus=>obtain⟨dx,fs,k,i⟩:=h;exact⟨_,k,by simp,by simp,by simp⟩
 |fdc ep kus=>obtain⟨ob,es,kvs,k,d,i⟩:=h;exact⟨_,k,by simp,by simp,by simp⟩
 |dit kus=>obtain⟨xs,k,i⟩:=h;exact⟨_,k,by simp,by simp,by simp⟩
 |fdt ep kus=>obtain⟨ob,es,kvs,k,d,i⟩:=h;exact⟨_,k,by simp,by simp,by simp⟩
 |dnt kus=>obtain⟨kvs,k,y,i⟩:=h;exact⟨_,k,by simp[dNo],by simp[dNo],by simp[dNo]⟩
 |fdn ep kus=>obtain⟨ob,es,kvs,k,d,y,i⟩:=h;exact⟨_,k,by simp,by simp[dNo],by simp[dNo]⟩
theorem Lr.mono(e:Ext K m H m' H')(h:Lr K m H ρ σ):Lr K m' H' ρ σ:=⟨h.len,fun i u e1=>let ⟨v,e2,e3⟩:=h.at_ i u e1;⟨v,e2,e3.mono e⟩⟩
theorem Lr.set(h:Lr K m H ρ σ)(i:Nat)(hv:Is K m H v u):Lr K m H (ρ.set i (some u)) (σ.set i (some v)):=by
 refine⟨by simp[h.len],fun j w e=>?_⟩
 by_cases c:i=j
 ·subst c
  rw[List.getElem?_set_self' ]at e
  rw[List.getElem?_set_self']
  have hl:=h.len
  cases e1:ρ[i]? with
  |none=>rw[e1]at e;simp at e
  |some z=>
   rw[e1]at e
   simp at e
   subst e
   have:i < σ.length:=by rw[<-hl];exact(List.getElem?_eq_some_iff.mp e1).1
   rw[List.getElem?_eq_getElem this]
   exact⟨v,rfl,hv⟩
 ·rw[List.getElem?_set_ne c]at e
  rw[List.getElem?_set_ne c]
  exact h.at_ j w e
theorem Sr.get(r:Sr K m S H)(h:S[l]?=some o):∃a,m[l]?=some a/\Ob K m H a o:=by
 have hl:l<m.length:=by rw[r.len];exact(List.getElem?_eq_some_iff.mp h).1
 exact⟨_,List.getElem?_eq_getElem hl,r.ob _ _ _ (List.getElem?_eq_getElem hl) h⟩
theorem Sr.at_(r:Sr K m S H)(h:m[l]?=some a):∃o,S[l]?=some o/\Ob K m H a o:=by
 have hl:l<S.length:=by rw[<-r.len];exact(List.getElem?_eq_some_iff.mp h).1
 exact⟨_,List.getElem?_eq_getElem hl,r.ob _ _ _ h (List.getElem?_eq_getElem hl)⟩
theorem Sr.same(r:Sr K m S H)(s:rV H H'):Sr K m S H':=⟨r.len,r.nd,fun l a o h1 h2=>by
 have q:=r.ob l a o h1 h2
 obtain⟨ho,e,_⟩:=q.some
 exact q.mono (.of (eP s)) (by rw[s _ _ e,e])⟩
theorem Sr.new(r:Sr K m S H)(h:H q=none)(n:Ob K (m++[q]) (upd H q ho) q o):Sr K (m++[q]) (S++[o]) (upd H q ho):=by
 have hq:q∉m:=fun z=>by
  obtain⟨l,e⟩:=List.getElem?_of_mem z
  obtain⟨o,_,k⟩:=r.at_ e
  obtain⟨ho,e2,_⟩:=k.some
  rw[h]at e2;cases e2
 refine⟨by simp[r.len],?_,fun l a o' h1 h2=>?_⟩
 ·rw[List.nodup_append]
  exact⟨r.nd,by simp,fun x hx y hy z=>by simp at hy;subst hy;subst z;exact hq hx⟩
 ·by_cases c:l<m.length
  ·rw[List.getElem?_append_left c]at h1
   rw[List.getElem?_append_left (by rw[<-r.len];exact c)]at h2
   have q':=r.ob l a o' h1 h2
   obtain⟨ho',e,_⟩:=q'.some
   exact q'.mono (.new (cQ h _)) (by rw[bD (cM e h)])
  ·have e:l=m.length:=by
    have:=(List.getElem?_eq_some_iff.mp h1).1
    simp at this;omega
   subst e
   rw[List.getElem?_append_right (Nat.le_refl _)]at h1
   rw[List.getElem?_append_right (by rw[r.len];exact Nat.le_refl _)]at h2
   simp[r.len]at h1 h2
   subst h1;subst h2
   exact n
theorem Sr.put(r:Sr K m S H)(h:m[l]?=some a)(n:Ob K m (upd H a ho) a o):Sr K m (S.set l o) (upd H a ho):=by
 obtain⟨o0,h0,k0⟩:=r.at_ h
 obtain⟨ho',e,nt,nf,nl⟩:=k0.some
 refine⟨by simp[r.len],r.nd,fun l' a' o' h1 h2=>?_⟩
 by_cases c:l=l'
 ·subst c
  rw[h]at h1;cases h1
  rw[List.getElem?_set_self (List.getElem?_eq_some_iff.mp h0).1]at h2
  cases h2
  exact n
 ·rw[List.getElem?_set_ne c]at h2
  have na:a'≠a:=fun z=>by
   subst z
   obtain⟨p1,e1⟩:=List.getElem?_eq_some_iff.mp h
   obtain⟨p2,e2⟩:=List.getElem?_eq_some_iff.mp h1
   exact c ((List.getElem_inj r.nd).mp (e1.trans e2.symm))
  exact(r.ob l' a' o' h1 h2).mono (.of (tf e nt nf nl _)) (by rw[bD na])
theorem Sr.keep(r:Sr K m S H)(h:m[l]?=some a)(ho:HO):Bq K H (upd H a ho):=by
 obtain⟨o0,h0,k0⟩:=r.at_ h
 obtain⟨ho',e,nt,nf,nl⟩:=k0.some
 exact tf e nt nf nl _
end
def jE(K:PySem.W.Frag)(m:List Addr)(H:Hp)(Q:VK)(u:U)(S':Sto):Prop:=∀m' v H',Ext K m H m' H'->Sr K m' S' H'->Is K m' H' v u->Q v H'
abbrev CE:=Rho->Sto->Option (U×Sto)
abbrev CT:=Rho->Sto->Option (Bool×Sto)
abbrev CA:=Rho->Sto->Option (List U×Sto)
inductive Out where
 |nx|rt (u:U)|bk|ct
abbrev CS:=Rho->Sto->Option (Out×Rho×Sto)
def AG(K:PySem.W.Frag)(m:List Addr)(H:Hp)(Q:Bool->Hp->Prop)(b:Bool)(S':Sto):Prop:=∀m' H',Ext K m H m' H'->Sr K m' S' H'->Q b H'
def Ln(K:PySem.W.Frag)(m:List Addr)(H:Hp)(Q:List V->Hp->Prop)(us:List U)(S':Sto):Prop:=∀m' vs H',Ext K m H m' H'->Sr K m' S' H'->IsL K m' H' vs us->Q vs H'
def ig(K:PySem.W.Frag)(m:List Addr)(H:Hp)(Q:L2.St->Hp->Prop)(ρ':Rho)(S':Sto):Prop:=∀m' σ' H',Ext K m H m' H'->Sr K m' S' H'->Lr K m' H' ρ' σ'->Q σ' H'
def uV(K:PySem.W.Frag)(m:List Addr)(H:Hp)(D:yy):Out->Rho->Sto->Prop
 |.nx,ρ',S'=>ig K m H D.nx ρ' S'
 |.bk,ρ',S'=>ig K m H D.bk ρ' S'
 |.ct,ρ',S'=>ig K m H D.ct ρ' S'
 |.rt u,_,S'=>jE K m H D.rt u S'
theorem nW{α β γ δ ε:Type}{A B C D:α->β->γ->δ->ε->Prop}{p:Prop}(h:∃a b c d e,A a b c d e/\B a b c d e/\C a b c d e/\D a b c d e)(f:∀a b c d e,A a b c d e->B a b c d e->C a b c d e->D a b c d e->p):p:=by
 obtain⟨a,b,c,d,e,h1,h2,h3,h4⟩:=h
 exact f a b c d e h1 h2 h3 h4
theorem uL{α β γ δ ε ζ:Type}{A B C D:α->β->γ->δ->ε->ζ->Prop}{p:Prop}(h:∃a b c d e g,A a b c d e g/\B a b c d e g/\C a b c d e g/\D a b c d e g)(f:∀a b c d e g,A a b c d e g->B a b c d e g->C a b c d e g->D a b c d e g->p):p:=by
 obtain⟨a,b,c,d,e,g,h1,h2,h3,h4⟩:=h
 exact f a b c d e g h1 h2 h3 h4
theorem LX{α β γ δ ε ζ:Type}{A B C D E:α->β->γ->δ->ε->ζ->Prop}{p:Prop}(h:∃a b c d e g,A a b c d e g/\B a b c d e g/\C a b c d e g/\D a b c d e g/\E a b c d e g)(f:∀a b c d e g,A a b c d e g->B a b c d e g->C a b c d e g->D a b c d e g->E a b c d e g->p):p:=by
 obtain⟨a,b,c,d,e,g,h1,h2,h3,h4,h5⟩:=h
 exact f a b c d e g h1 h2 h3 h4 h5
def tE(K:PySem.W.Frag)(c:CE):TE:=fun σ H Q=>∃m ρ S u S',Sr K m S H/\Lr K m H ρ σ/\c ρ S=some (u,S')/\jE K m H Q u S'
def tT(K:PySem.W.Frag)(c:CT):TT:=fun σ H Q=>∃m ρ S u S',Sr K m S H/\Lr K m H ρ σ/\c ρ S=some (u,S')/\AG K m H Q u S'
def tA(K:PySem.W.Frag)(c:CA):TA:=fun σ H Q=>∃m ρ S u S',Sr K m S H/\Lr K m H ρ σ/\c ρ S=some (u,S')/\Ln K m H Q u S'
def tS(K:PySem.W.Frag)(c:CS):TS:=fun D σ H=>∃m ρ S o ρ' S',Sr K m S H/\Lr K m H ρ σ/\c ρ S=some (o,ρ',S')/\uV K m H D o ρ' S'
abbrev QE(X:Cx)(e:Expr)(c:CE):Prop:=WE X e (tE X.K c)
abbrev QT(X:Cx)(e:Expr)(c:CT):Prop:=WT X e (tT X.K c)
abbrev QW(X:Cx)(e:Expr)(c:CT):Prop:=WW X e (tT X.K c)
abbrev QS(X:Cx)(e:Stmt)(c:CS):Prop:=WS X e (tS X.K c)
abbrev QSs(X:Cx)(e:List Stmt)(c:CS):Prop:=WSs X e (tS X.K c)
structure QA(X:Cx)(es:List Expr)(c:CA):Prop where
 h:WA X es (tA X.K c)
 len:∀ρ S us S',c ρ S=some (us,S')->us.length=es.length
section
variable{X:Cx}{e:Expr}{es:List Expr}{st:Stmt}{sts:List Stmt}
theorem _root_.OG.WE.imp{t t':TE}(h:WE X e t)(i:∀σ H Q,t' σ H Q->t σ H Q):WE X e t':=⟨fun pins s σ H Q I k=>h.h pins s σ H Q I (i σ H Q k)⟩
theorem _root_.OG.WT.imp{t t':TT}(h:WT X e t)(i:∀σ H Q,t' σ H Q->t σ H Q):WT X e t':=⟨fun pins s σ H Q I k=>h.h pins s σ H Q I (i σ H Q k)⟩
theorem _root_.OG.WW.imp{t t':TT}(h:WW X e t)(i:∀σ H Q,t' σ H Q->t σ H Q):WW X e t':=⟨fun wh pins s σ H Q I k=>h.h wh pins s σ H Q I (i σ H Q k)⟩
theorem _root_.OG.WA.imp{t t':TA}(h:WA X es t)(i:∀σ H Q,t' σ H Q->t σ H Q):WA X es t':=⟨fun pos pins s σ H Q I k=>h.h pos pins s σ H Q I (i σ H Q k)⟩
theorem _root_.OG.WS.imp{t t':TS}(h:WS X st t)(i:∀D σ H,t' D σ H->t D σ H):WS X st t':=⟨fun pins s σ H D I k=>h.h pins s σ H D I (i D σ H k)⟩
theorem _root_.OG.WSs.imp{t t':TS}(h:WSs X sts t)(i:∀D σ H,t' D σ H->t D σ H):WSs X sts t':=⟨fun pins s σ H D I k=>h.h pins s σ H D I (i D σ H k)⟩
theorem _root_.OG.WI.imp{tg:Expr}{t t':TI}(h:WI X tg e t)(i:∀σ H R,t' σ H R->t σ H R):WI X tg e t':=⟨fun pins s σ H R I k=>h.h pins s σ H R I (i σ H R k)⟩
theorem _root_.OG.WG.imp{t t':TG}(h:WG X e t)(i:∀v σ H Q,t' v σ H Q->t v σ H Q):WG X e t':=⟨fun pins s σ H v u Q I r k=>h.h pins s σ H v u Q I r (i v σ H Q k)⟩
theorem _root_.OG.WGs.imp{t t':TGs}(h:WGs X es t)(i:∀v σ H Q,t' v σ H Q->t v σ H Q):WGs X es t':=⟨fun pins s σ H v u Q I r k=>h.h pins s σ H v u Q I r (i v σ H Q k)⟩
theorem _root_.OG.WE.or{t t':TE}(h:WE X e t)(h':WE X e t'):WE X e (fun σ H Q=>t σ H Q\/t' σ H Q):=⟨fun pins s σ H Q I k=>k.elim (h.h pins s σ H Q I) (h'.h pins s σ H Q I)⟩
theorem _root_.OG.WT.or{t t':TT}(h:WT X e t)(h':WT X e t'):WT X e (fun σ H Q=>t σ H Q\/t' σ H Q):=⟨fun pins s σ H Q I k=>k.elim (h.h pins s σ H Q I) (h'.h pins s σ H Q I)⟩
theorem _root_.OG.WS.or{t t':TS}(h:WS X st t)(h':WS X st t'):WS X st (fun D σ H=>t D σ H\/t' D σ H):=⟨fun pins s σ H D I k=>k.elim (h.h pins s σ H D I) (h'.h pins s σ H D I)⟩
theorem _root_.OG.WI.or{tg:Expr}{t t':TI}(h:WI X tg e t)(h':WI X tg e t'):WI X tg e (fun σ H D=>t σ H D\/t' σ H D):=⟨fun pins s σ H D I k=>k.elim (h.h pins s σ H D I) (h'.h pins s σ H D I)⟩
end
section
variable{K:PySem.W.Frag}{m m':List Addr}{H H':Hp}{Q:VK}{R:L2.St->Hp->Prop}{D:yy}{u:U}{o:Out}{S':Sto}{ρ':Rho}
theorem jE.mono(e:Ext K m H m' H')(p:jE K m H Q u S'):jE K m' H' Q u S':=fun m2 v H2 e2 r i=>p m2 v H2 (e.trans e2) r i
theorem AG.mono{Q:Bool->Hp->Prop}{b:Bool}(e:Ext K m H m' H')(p:AG K m H Q b S'):AG K m' H' Q b S':=fun m2 H2 e2 r=>p m2 H2 (e.trans e2) r
theorem ig.mono(e:Ext K m H m' H')(p:ig K m H R ρ' S'):ig K m' H' R ρ' S':=fun m2 v H2 e2 r i=>p m2 v H2 (e.trans e2) r i
theorem uV.mono(e:Ext K m H m' H')(p:uV K m H D o ρ' S'):uV K m' H' D o ρ' S':=by
 cases o with
 |nx=>exact ig.mono e p
 |rt u=>exact jE.mono e p
 |bk=>exact ig.mono e p
 |ct=>exact ig.mono e p
end
def LIM:Nat:=100000
theorem lim{n:Nat}(h:n<=LIM):n<=sizeLine:=Nat.le_trans h (by unfold LIM sizeLine;decide)
theorem GJ{n:Nat}(h:n<LIM):n<sizeLine:=Nat.lt_of_lt_of_le h (by unfold LIM sizeLine;decide)
def ak(i:Nat):CE:=fun ρ S=>match ρ[i]? with
 |some (some u)=>some (u,S)
 |_=>none
def cC(u:U):CE:=fun _ S=>some (u,S)
section
variable{X:Cx}{e a b c:Expr}{ca cb cc:CE}{pos:Pos}
theorem ag{i:Nat}(h:WE X e (Il i)):QE X e (ak i):=h.imp fun σ H Q hz=>nW hz fun m ρ S u S' sr lr hc post=>by
 unfold ak at hc
 split at hc
 ·rename_i u' e
  cases hc
  obtain⟨v,e1,e2⟩:=lr.at_ i u e
  exact⟨v,e1,post m v H .refl sr e2⟩
 ·cases hc
theorem q_c{v:V}{u:U}(h:WE X e (tC v))(hi:∀m H,Is X.K m H v u):QE X e (cC u):=h.imp fun σ H Q hz=>nW hz fun m ρ S u' S' sr lr hc post=>by
 cases hc
 exact post m v H .refl sr (hi m H)
theorem aq{i:Int}(h:WE X e (tC (.int i))):QE X e (cC (.int i)):=q_c h fun _ _=>.int_
theorem uv{i:Bool}(h:WE X e (tC (.bl i))):QE X e (cC (.bl i)):=q_c h fun _ _=>.bl_
theorem bA{i:Str}(h:WE X e (tC (.str i))):QE X e (cC (.str i)):=q_c h fun _ _=>.str_
theorem oB(h:WE X e (tC .non)):QE X e (cC .non):=q_c h fun _ _=>.non_
def cOp(f:U->U->Sto->Option (U×Sto))(ca cb:CE):CE:=fun ρ S=>(ca ρ S).bind fun p=>(cb ρ p.2).bind fun q=>f p.1 q.1 q.2
def OpP(K:PySem.W.Frag)(r:R2)(f:U->U->Sto->Option (U×Sto)):Prop:=
 ∀m S H x y v w u S' Q,Sr K m S H->Is K m H v x->Is K m H w y->f x y S=some (u,S')->jE K m H Q u S'->r v w H Q
theorem wA{K:PySem.W.Frag}{r:R2}{f:U->U->Sto->Option (U×Sto)}(hp:OpP K r f):∀σ H Q,tE K (cOp f ca cb) σ H Q->tOp r (tE K ca) (tE K cb) σ H Q:=by
 rintro σ H Q ⟨m,ρ,S,u,S',sr,lr,hc,post⟩
 obtain⟨⟨x,S1⟩,h1,h⟩:=Option.bind_eq_some_iff.mp hc
 obtain⟨⟨y,S2⟩,h2,h3⟩:=Option.bind_eq_some_iff.mp h
 exact⟨m,ρ,S,x,S1,sr,lr,h1,fun m1 v1 H1 e1 sr1 i1=>⟨m1,ρ,S1,y,S2,sr1,lr.mono e1,h2,fun m2 v2 H2 e2 sr2 i2=>hp m2 S2 H2 x y v1 v2 u S' Q sr2 (i1.mono e2) i2 h3 (post.mono (e1.trans e2))⟩⟩
theorem dE{op:Operator}{r:R2}{f:U->U->Sto->Option (U×Sto)}(ho:OpR X (binaryOp op) r)(hp:OpP X.K r f)(ha:QE X a ca)(hb:QE X b cb):QE X (.BinOp a op b pos) (cOp f ca cb):=(Fm ho ha hb).imp (wA hp)
theorem wg{op:CmpOp}{r:R2}{f:U->U->Sto->Option (U×Sto)}(ho:OpR X (compareOp op) r)(hp:OpP X.K r f)(ha:QE X a ca)(hb:QE X b cb)(hm:behindInMarks op b=false):QE X (.Compare a [op] [b] pos) (cOp f ca cb):=(yO ho ha hb hm).imp (wA hp)
def aH(c:CE):CT:=fun ρ S=>(c ρ S).bind fun p=>match p.1 with
 |.bl b=>some (b,p.2)
 |_=>none
theorem lu{K:PySem.W.Frag}{c:CE}{t:TE}(h:∀σ H Q,tE K c σ H Q->t σ H Q):∀σ H Q,tT K (aH c) σ H Q->t σ H fun x H'=>∃k,x=.bl k/\Q k H':=by
 rintro σ H Q ⟨m,ρ,S,u,S',sr,lr,hc,post⟩
 obtain⟨⟨x,S1⟩,h1,h2⟩:=Option.bind_eq_some_iff.mp hc
 refine h σ H _ ⟨m,ρ,S,x,S1,sr,lr,h1,fun m1 v1 H1 e1 sr1 i1=>?_⟩
 cases x<;>simp at h2
 obtain⟨rfl,rfl⟩:=h2
 exact⟨_,i1.of_bl,post m1 H1 e1 sr1⟩
theorem aQ{op:CmpOp}{r:R2}{f:U->U->Sto->Option (U×Sto)}(ho:OpR X (compareOp op) r)(hp:OpP X.K r f)(ha:QE X a ca)(hb:QE X b cb)(hm:behindInMarks op b=false):QT X (.Compare a [op] [b] pos) (aH (cOp f ca cb)):=(rZ ho ha hb hm).imp (lu (wA hp))
theorem sL(h:QE X e ca)(he:∀whole,isTrue e X.env whole=(do let v <-whole;standAt e.pos;holding [v] (truthy v)):=by intro _;rfl):QT X e (aH ca):=(BV h he).imp (lu fun _ _ _ z=>z)
variable{ta tb:CT}{rest:List Expr}
def lC(ta tb:CT):CT:=fun ρ S=>(ta ρ S).bind fun p=>if p.1=true then tb ρ p.2 else some (false,p.2)
def cOr(ta tb:CT):CT:=fun ρ S=>(ta ρ S).bind fun p=>if p.1=true then some (true,p.2)else tb ρ p.2
def HQ(ta:CT):CT:=fun ρ S=>(ta ρ S).bind fun p=>some (!p.1,p.2)
theorem wb(h:QW X e ta):QT X e ta:=WW.pt h
theorem kG(ha:QT X a ta):QW X (.BoolOp .And [a] pos) ta:=yE ha
theorem CP(ha:QT X a ta):QW X (.BoolOp .Or [a] pos) ta:=BS ha
theorem mx(ha:QT X a ta)(hb:QW X (.BoolOp .And (b::rest) pos) tb):QW X (.BoolOp .And (a::b::rest) pos) (lC ta tb):=(BU ha hb).imp fun σ H Q hz=>nW hz fun m ρ S u S' sr lr hc post=>by
 obtain⟨⟨x,S1⟩,h1,h2⟩:=Option.bind_eq_some_iff.mp hc
 refine⟨m,ρ,S,x,S1,sr,lr,h1,fun m1 H1 e1 sr1=>?_⟩
 cases x with
 |true=>exact Hj ⟨m1,ρ,S1,u,S',sr1,lr.mono e1,h2,post.mono e1⟩
 |false=>cases h2;exact Hk (post m1 H1 e1 sr1)
theorem J9(ha:QT X a ta)(hb:QW X (.BoolOp .Or (b::rest) pos) tb):QW X (.BoolOp .Or (a::b::rest) pos) (cOr ta tb):=(Fj ha hb).imp fun σ H Q hz=>nW hz fun m ρ S u S' sr lr hc post=>by
 obtain⟨⟨x,S1⟩,h1,h2⟩:=Option.bind_eq_some_iff.mp hc
 refine⟨m,ρ,S,x,S1,sr,lr,h1,fun m1 H1 e1 sr1=>?_⟩
 cases x with
 |true=>cases h2;exact Hj (post m1 H1 e1 sr1)
 |false=>exact Hk ⟨m1,ρ,S1,u,S',sr1,lr.mono e1,h2,post.mono e1⟩
theorem AZ(ha:QT X a ta):QT X (.UnaryOp .Not a pos) (HQ ta):=(BW ha).imp fun σ H Q hz=>nW hz fun m ρ S u S' sr lr hc post=>by
 obtain⟨⟨x,S1⟩,h1,h2⟩:=Option.bind_eq_some_iff.mp hc
 cases h2
 exact⟨m,ρ,S,x,_,sr,lr,h1,fun m1 H1 e1 sr1=>post m1 H1 e1 sr1⟩
def uS(ca cb:CE):CE:=fun ρ S=>(ca ρ S).bind fun p=>match p.1 with
 |.bl true=>cb ρ p.2
 |.bl false=>some (.bl false,p.2)
 |_=>none
def LY(ca cb:CE):CE:=fun ρ S=>(ca ρ S).bind fun p=>match p.1 with
 |.bl false=>cb ρ p.2
 |.bl true=>some (.bl true,p.2)
 |_=>none
def HP(ca:CE):CE:=fun ρ S=>(ca ρ S).bind fun p=>match p.1 with
 |.bl b=>some (.bl (!b),p.2)
 |_=>none
theorem FO{op}(h:QE X a ca):QE X (.BoolOp op [a] pos) ca:=Cd h
theorem A0(ha:QE X a ca)(hb:QE X (.BoolOp .And (b::rest) pos) cb):QE X (.BoolOp .And (a::b::rest) pos) (uS ca cb):=(Cg ha hb).imp fun σ H Q hz=>nW hz fun m ρ S u S' sr lr hc post=>by
 obtain⟨⟨x,S1⟩,h1,h2⟩:=Option.bind_eq_some_iff.mp hc
 refine⟨m,ρ,S,x,S1,sr,lr,h1,fun m1 v1 H1 e1 sr1 i1=>?_⟩
 cases x with
 |bl k=>
  refine⟨k,i1.of_bl,?_⟩
  cases k with
  |true=>exact Hj ⟨m1,ρ,S1,u,S',sr1,lr.mono e1,h2,post.mono e1⟩
  |false=>cases h2;exact Hk (post m1 _ H1 e1 sr1 .bl_)
 |_=>simp at h2
def cIf(t:CT)(ca cb:CE):CE:=fun ρ S=>(t ρ S).bind fun p=>if p.1=true then ca ρ p.2 else cb ρ p.2
variable{es:List Expr}{cr:CA}
def ax:CA:=fun _ S=>some ([],S)
def ae(ca:CE)(cr:CA):CA:=fun ρ S=>(ca ρ S).bind fun p=>(cr ρ p.2).bind fun q=>some (p.1::q.1,q.2)
theorem av:QA X [] ax:=⟨lF.imp fun σ H Q hz=>nW hz fun m ρ S u S' sr lr hc post=>by cases hc;exact post m [] H .refl sr .nil_,fun ρ S us S' h=>by cases h;rfl⟩
theorem ab(ha:QE X e ca)(hr:QA X es cr)(hs:starEach (e::es) X.env=(false,eval e X.env)::starEach es X.env:=by rfl):QA X (e::es) (ae ca cr):=⟨(gB ha hr.h hs).imp fun σ H Q hz=>nW hz fun m ρ S u S' sr lr hc post=>by
 obtain⟨⟨x,S1⟩,h1,h⟩:=Option.bind_eq_some_iff.mp hc
 obtain⟨⟨y,S2⟩,h2,h3⟩:=Option.bind_eq_some_iff.mp h
 cases h3
 exact⟨m,ρ,S,x,S1,sr,lr,h1,fun m1 v1 H1 e1 sr1 i1=>⟨m1,ρ,S1,y,S2,sr1,lr.mono e1,h2,fun m2 v2 H2 e2 sr2 i2=>post m2 _ H2 (e1.trans e2) sr2 (.cons_ (i1.mono e2) i2)⟩⟩,
 fun ρ S us S' h=>by
 obtain⟨⟨x,S1⟩,h1,h⟩:=Option.bind_eq_some_iff.mp h
 obtain⟨⟨y,S2⟩,h2,h3⟩:=Option.bind_eq_some_iff.mp h
 cases h3
 simp[hr.len ρ S1 y S2 h2]⟩
def cu(cr:CA):CE:=fun ρ S=>(cr ρ S).bind fun p=>some (.tup p.1,p.2)
def iH(cr:CA):CE:=fun ρ S=>(cr ρ S).bind fun p=>some (.ref p.2.length,p.2++[.lst p.1])
theorem ff{m:List Addr}{S:Sto}{q:Addr}(h:m.length=S.length):(m++[q])[S.length]?=some q:=by rw[List.getElem?_append_right (by omega)];simp[h]
theorem oC{K:PySem.W.Frag}{m:List Addr}{H:Hp}{S:Sto}{us:List U}{xs:List V}{Q:VK}{p:Addr}(sr:Sr K m S H)(i:IsL K m H xs us)(post:jE K m H Q (.tup us) S)(hp:H p=none):Q (.ref p) (upd H p (.tup xs)):=
 post m _ _ (.of (cQ hp _)) (sr.same (dJ hp _)) (.tup_ (SqT.of aV) (i.mono (.of (cQ hp _))))
theorem dM{K:PySem.W.Frag}{m:List Addr}{H:Hp}{S:Sto}{us:List U}{xs:List V}{Q:VK}{p:Addr}(sr:Sr K m S H)(i:IsL K m H xs us)(post:jE K m H Q (.ref S.length) (S++[.lst us]))(hp:H p=none):Q (.ref p) (upd H p (.lst xs)):=
 post (m++[p]) _ _ (.new (cQ hp _)) (sr.new hp ⟨xs,aV,i.mono (.new (cQ hp _))⟩) (.ref_ (ff sr.len))
theorem bj{x1}(h:QA X es cr)(hl:es.length<=1000:=by exact Nat.le_of_ble_eq_true rfl):QE X (.Tuple es x1 pos) (cu cr):=(Cc h.h).imp fun σ H Q hz=>nW hz fun m ρ S u S' sr lr hc post=>by
 obtain⟨⟨us,S1⟩,h1,h2⟩:=Option.bind_eq_some_iff.mp hc
 cases h2
 refine⟨m,ρ,S,us,_,sr,lr,h1,fun m1 v1 H1 e1 sr1 i1=>⟨pG ?_,fun p hp=>oC sr1 i1 (post.mono e1) hp⟩⟩
 rw[i1.length,h.len _ _ _ _ h1];exact hl
theorem jq(h:QA X es cr)(hl:es.length<=1000:=by exact Nat.le_of_ble_eq_true rfl):QE X (.List es pos) (iH cr):=(vm h.h).imp fun σ H Q hz=>nW hz fun m ρ S u S' sr lr hc post=>by
 obtain⟨⟨us,S1⟩,h1,h2⟩:=Option.bind_eq_some_iff.mp hc
 cases h2
 refine⟨m,ρ,S,us,_,sr,lr,h1,fun m1 v1 H1 e1 sr1 i1=>⟨pG ?_,fun p hp=>dM sr1 i1 (post.mono e1) hp⟩⟩
 rw[i1.length,h.len _ _ _ _ h1];exact hl
def cCB(f:List U->Sto->Option (U×Sto))(cr:CA):CE:=fun ρ S=>(cr ρ S).bind fun p=>f p.1 p.2
def m6(K:PySem.W.Frag)(r:List V->Hp->VK->Prop)(f:List U->Sto->Option (U×Sto)):Prop:=
 ∀m S H us vs u S' Q,Sr K m S H->IsL K m H vs us->f us S=some (u,S')->jE K m H Q u S'->r vs H Q
theorem Bk{K:PySem.W.Frag}{r:List V->Hp->VK->Prop}{f:List U->Sto->Option (U×Sto)}(hp:m6 K r f):∀σ H Q,tE K (cCB f cr) σ H Q->tCB r (tA K cr) σ H Q:=by
 rintro σ H Q ⟨m,ρ,S,u,S',sr,lr,hc,post⟩
 obtain⟨⟨us,S1⟩,h1,h2⟩:=Option.bind_eq_some_iff.mp hc
 exact⟨m,ρ,S,us,S1,sr,lr,h1,fun m1 v1 H1 e1 sr1 i1=>hp m1 S1 H1 us v1 u S' Q sr1 i1 h2 (post.mono e1)⟩
theorem bK{id:String}{x:Str}{p:Pos}{r:List V->Hp->VK->Prop}{f:List U->Sto->Option (U×Sto)}(hc:gy X (.builtin id) r)(hp:m6 X.K r f)(hg:Gl X x)(hm:X.mg x=none)(hv:bootBuiltins x=some (.builtin id))(ha:QA X (e::es) cr)(hn:x≠"__name__":=by decide)(hdb:(x == ("__debug__":Str))=false:=by decide)(he:starEach (e::es) X.env=(false,eval e X.env)::starEach es X.env:=by rfl)(hpl:(backTo pos (starEach es X.env)).any (·.1)=false:=by rfl) :
  QE X (.Call (.Name x p) (e::es) [] pos) (cCB f cr):=(vq hc hg hm hv ha.h hn hdb he hpl).imp (Bk hp)
theorem eD{id:String}{x:Str}{p:Pos}{r:List V->Hp->VK->Prop}{f:List U->Sto->Option (U×Sto)}(hc:gy X (.type id) r)(hp:m6 X.K r f)(hg:Gl X x)(hm:X.mg x=none)(hv:bootBuiltins x=some (.type id))(ha:QA X (e::es) cr)(hn:x≠"__name__":=by decide)(hdb:(x == ("__debug__":Str))=false:=by decide)(he:starEach (e::es) X.env=(false,eval e X.env)::starEach es X.env:=by rfl)(hpl:(backTo pos (starEach es X.env)).any (·.1)=false:=by rfl) :
  QE X (.Call (.Name x p) (e::es) [] pos) (cCB f cr):=(nz hc hg hm hv ha.h hn hdb he hpl).imp (Bk hp)
end
def y4(K:PySem.W.Frag)(f:List U->Sto->Option (U×Sto)):Sp:=fun vs H Q _=>∃m us S u S',IsL K m H vs us/\Sr K m S H/\f us S=some (u,S')/\jE K m H Q u S'
abbrev Fn:=List U->Sto->Option (U×Sto)
abbrev c8(P:Program)(w:World)(K:PySem.W.Frag)(mg:Str->Option Value)(base:Heap)(x:Str)(k:Nat)(ps:List Str)(f:Fn):Prop:=Has P w K mg base x k ps (y4 K f)
def pE(n:Nat)(us:List U):Rho:=us.map some++List.replicate (n-us.length) none
def fnU(n k:Nat)(c:CS):Fn:=fun us S=>if us.length=k then(c (pE n us) S).bind fun r=>match r.1 with
 |.rt u=>some (u,r.2.2)
 |.nx=>some (.non,r.2.2)
 |_=>none else none
section
variable{P:Program}{w:World}{K:PySem.W.Frag}{mg:Str->Option Value}{base:Heap}{x:Str}{st:Stmt}{ps N:List Str}{k:Nat}{c:CS}{f:Fn}
theorem zX{m:List Addr}{H:Hp}{vs:List V}{us:List U}(i:IsL K m H vs us):Lr K m H (pE N.length us) (L2.jf N vs):=by
 have hl:=i.length
 refine⟨by simp[pE,L2.jf,hl],fun j u e=>?_⟩
 unfold pE at e
 unfold L2.jf
 by_cases c:j<us.length
 ·rw[List.getElem?_append_left (by simpa using c),List.getElem?_map]at e
  rw[List.getElem?_append_left (by simpa [hl] using c),List.getElem?_map]
  rw[List.getElem?_eq_getElem c]at e
  simp at e
  obtain⟨v,e1,e2⟩:=i.getD (List.getElem?_eq_getElem c)
  rw[e1]
  subst e
  exact⟨v,rfl,e2⟩
 ·rw[List.getElem?_append_right (by simpa using c),List.getElem?_replicate]at e
  split at e<;>cases e
theorem xt{X:Cx}{body:List Stmt}{Q:VK}{E:XK}{vs:List V}{H:Hp}(hK:X.K=K)(h:y4 K (fnU N.length ps.length c) vs H Q E):tS X.K c { nx:=fun _ H'=>Q .non H',rt:=Q } (L2.jf N vs) H:=by
 subst hK
 obtain⟨m,us,S,u,S',i,sr,hf,post⟩:=h
 unfold fnU at hf
 split at hf
 ·obtain⟨⟨o,ρ',S2⟩,h1,h2⟩:=Option.bind_eq_some_iff.mp hf
  refine⟨m,_,S,o,ρ',S2,sr,zX i,h1,?_⟩
  cases o with
  |rt v=>cases h2;exact post
  |nx=>cases h2;exact fun m1 σ1 H1 e1 sr1 _=>post m1 _ H1 e1 sr1 .non_
  |bk=>simp at h2
  |ct=>simp at h2
 ·cases hf
theorem sx{vs:List V}{H:Hp}{Q:VK}{E:XK}{n k:Nat}(h:y4 K (fnU n k c) vs H Q E):vs.length=k:=by
 obtain⟨m,us,S,u,S',i,sr,hf,post⟩:=h
 unfold fnU at hf
 split at hf
 ·rename_i e
  rw[i.length,e]
 ·cases hf
theorem _root_.OG.Def.pure(d:Def K mg x st ps)(S:aN N ps (ay st))
  (hb:∀(f:Addr) (cdv:Value) (A:Around) (outer:List Env) (s:Shared) (H:Hp) (E:XK),gz k (A.deeper (envOfC x (ay st) s.heap.objs.size f cdv))->
   WSs (tW CX0 P w K mg base N x (ay st) f cdv A outer s H E).nox (dN st) (tS K c)):c8 P w K mg base x (k+1) ps (fnU N.length ps.length c):=
 d.has S (fun vs H Q E h=>sx h) fun f cdv A outer s H vs Q E hr h=>⟨_,hb f cdv A outer s H E hr,xt (X:=(tW CX0 P w K mg base N x (ay st) f cdv A outer s H E).nox) (body:=[]) (ps:=ps) rfl h⟩
theorem _root_.OG.Def.no(d:Def K mg x st ps):c8 P w K mg base x k ps (fun _ _=>none):=d.none fun vs H Q E h=>by
 obtain⟨m,us,S,u,S',i,sr,hf,post⟩:=h
 cases hf
theorem aK{X:Cx}{e:Expr}{es:List Expr}{cr:CA}{p pos:Pos}(F:Has X.prog X.w X.K X.mg X.base x k ps (y4 X.K f))(hr:gz k X.A)(hg:Gl X x)(ha:QA X (e::es) cr)
  (hdb:(x == ("__debug__":Str))=false:=by decide) (he:starEach (e::es) X.env=(false,eval e X.env)::starEach es X.env:=by rfl) (hpl:(backTo pos (starEach es X.env)).any (·.1)=false:=by rfl) :
  QE X (.Call (.Name x p) (e::es) [] pos) (cCB f cr):=(AO F hr hg ha.h hdb he hpl).imp fun σ H Q hz=>nW hz fun m ρ S u S' sr lr hc post=>by
 obtain⟨⟨us,S1⟩,h1,h2⟩:=Option.bind_eq_some_iff.mp hc
 exact⟨m,ρ,S,us,S1,sr,lr,h1,fun m1 v1 H1 e1 sr1 i1=>⟨m1,us,S1,u,S',by simpa using i1,sr1,h2,post.mono e1⟩⟩
end
section
variable{X:Cx}{e a b c:Expr}{ca cb cc:CE}{pos:Pos}{st:Stmt}{sts:List Stmt}{c1 c2:CS}
def bU:CS:=fun ρ S=>some (.nx,ρ,S)
def bb(c1 c2:CS):CS:=fun ρ S=>(c1 ρ S).bind fun r=>match r.1 with
 |.nx=>c2 r.2.1 r.2.2
 |o=>some (o,r.2.1,r.2.2)
theorem bQ:QSs X [] bU:=yF.imp fun D σ H hz=>uL hz fun m ρ S o ρ' S' sr lr hc post=>by cases hc;exact post m σ H .refl sr lr
theorem ar(h1:QS X st c1)(h2:QSs X sts c2):QSs X (st::sts) (bb c1 c2):=(o8 h1 h2).imp fun D σ H hz=>uL hz fun m ρ S o ρ' S' sr lr hc post=>by
 obtain⟨⟨o1,ρ1,S1⟩,h1,h2⟩:=Option.bind_eq_some_iff.mp hc
 refine⟨m,ρ,S,o1,ρ1,S1,sr,lr,h1,?_⟩
 cases o1 with
 |nx=>exact fun m1 σ1 H1 e1 sr1 lr1=>⟨m1,ρ1,S1,o,ρ',S',sr1,lr1,h2,post.mono e1⟩
 |rt u=>cases h2;exact post
 |bk=>cases h2;exact post
 |ct=>cases h2;exact post
theorem aB(h1:QS X st c1):QSs X [st] c1:=se h1
def dS(ca:CE):CS:=fun ρ S=>(ca ρ S).bind fun p=>some (.nx,ρ,p.2)
theorem cq(he:QE X e ca)(hs:swapsWith e none pos.line X.env=pure false:=by rfl):QS X (.Expr e pos) (dS ca):=(yG he hs).imp fun D σ H hz=>uL hz fun m ρ S o ρ' S' sr lr hc post=>by
 obtain⟨⟨u,S1⟩,h1,h2⟩:=Option.bind_eq_some_iff.mp hc
 cases h2
 exact⟨m,ρ,S,u,_,sr,lr,h1,fun m1 v1 H1 e1 sr1 i1=>post m1 σ H1 e1 sr1 (lr.mono e1)⟩
def dU(ca:CE):CS:=fun ρ S=>(ca ρ S).bind fun p=>some (.rt p.1,ρ,p.2)
theorem a8(he:QE X e ca):QS X (.Return (some e) pos) (dU ca):=(vh he).imp fun D σ H hz=>uL hz fun m ρ S o ρ' S' sr lr hc post=>by
 obtain⟨⟨u,S1⟩,h1,h2⟩:=Option.bind_eq_some_iff.mp hc
 cases h2
 exact⟨m,ρ,S,u,_,sr,lr,h1,post⟩
def dF(t:CT)(c1 c2:CS):CS:=fun ρ S=>(t ρ S).bind fun p=>if p.1=true then c1 ρ p.2 else c2 ρ p.2
theorem b7{t:CT}{s1 s2:List Stmt}(hc:QT X c t)(h1:QSs X s1 c1)(h2:QSs X s2 c2):QS X (.If c s1 s2 pos) (dF t c1 c2):=(Fl hc h1 h2).imp fun D σ H hz=>uL hz fun m ρ S o ρ' S' sr lr hc post=>by
 obtain⟨⟨x,S1⟩,h1,h2⟩:=Option.bind_eq_some_iff.mp hc
 refine⟨m,ρ,S,x,S1,sr,lr,h1,fun m1 H1 e1 sr1=>?_⟩
 cases x with
 |true=>exact Hj ⟨m1,ρ,S1,o,ρ',S',sr1,lr.mono e1,h2,post.mono e1⟩
 |false=>exact Hk ⟨m1,ρ,S1,o,ρ',S',sr1,lr.mono e1,h2,post.mono e1⟩
abbrev CG:=U->Rho->Sto->Option (Rho×Sto)
def tG(K:PySem.W.Frag)(g:CG):TG:=fun v σ H Q=>∃m ρ S u ρ' S',Sr K m S H/\Lr K m H ρ σ/\Is K m H v u/\g u ρ S=some (ρ',S')/\ig K m H Q ρ' S'
abbrev QG(X:Cx)(e:Expr)(g:CG):Prop:=WG X e (tG X.K g)
def gNm(i:Nat):CG:=fun u ρ S=>some (ρ.set i (some u),S)
theorem eX{i:Nat}(h:WG X e (uI i)):QG X e (gNm i):=h.imp fun v σ H Q hz=>LX hz fun m ρ S u ρ' S' sr lr iu hc post=>by
 cases hc
 exact post m _ H .refl sr (lr.set i iu)
def gJ:List Nat->List U->Rho->Option Rho
 |[],[],ρ=>some ρ
 |i::is,u::us,ρ=>gJ is us (ρ.set i (some u))
 |_,_,_=>none
def tGs(K:PySem.W.Frag)(is:List Nat):TGs:=fun vs σ H Q=>∃m ρ S us ρ',Sr K m S H/\Lr K m H ρ σ/\IsL K m H vs us/\gJ is us ρ=some ρ'/\ig K m H Q ρ' S
abbrev QGs(X:Cx)(es:List Expr)(is:List Nat):Prop:=WGs X es (tGs X.K is)
theorem mw:QGs X [] []:=yJ.imp fun v σ H Q ⟨m,ρ,S,us,ρ',sr,lr,iu,hc,post⟩=>by
 cases us with
 |nil=>cases hc;exact⟨iu.of_nil,post m σ H .refl sr lr⟩
 |cons a r=>simp[gJ]at hc
theorem eC{i:Nat}{is:List Nat}{es:List Expr}(h:WG X e (uI i))(h2:QGs X es is)(hs:(assignEach (e::es) X.env).map (·.2)=assign e X.env::(assignEach es X.env).map (·.2):=by rfl):QGs X (e::es) (i::is):=(vj h h2 hs).imp fun v σ H Q ⟨m,ρ,S,us,ρ',sr,lr,iu,hc,post⟩=>by
 cases us with
 |nil=>simp[gJ]at hc
 |cons u r=>
  obtain⟨x,xr,rfl,i1,i2⟩:=iu.of_cons
  exact⟨x,xr,rfl,m,ρ.set i (some u),S,r,ρ',sr,lr.set i i1,i2,hc,post⟩
def gTp(is:List Nat):CG:=fun u ρ S=>match u with
 |.tup us=>(gJ is us ρ).bind fun ρ'=>some (ρ',S)
 |_=>none
theorem nG:∀{is:List Nat} {us:List U} {ρ ρ':Rho},gJ is us ρ=some ρ'->us.length=is.length
 |[],[],_,_,_=>rfl
 |[],_::_,_,_,h=>by simp[gJ]at h
 |_::_,[],_,_,h=>by simp[gJ]at h
 |i::is,u::us,ρ,ρ',h=>by
  have:=nG (is:=is) (us:=us) h
  simp[this]
theorem pN{is:List Nat}{es:List Expr}{k:Nat}(hc:X.calm=true)(h:QGs X es is)(hn:(assignEach es X.env).length=is.length:=by rfl)(hst:(assignEach es X.env).findIdx? (·.1)=none:=by rfl):QG X (.Tuple es k pos) (gTp is):=(Ca hc h hn hst).imp fun v σ H Q hz=>LX hz fun m ρ S u ρ' S' sr lr iu hc post=>by
 cases u with
 |tup us=>
  obtain⟨ρ2,h1,h2⟩:=Option.bind_eq_some_iff.mp hc
  cases h2
  obtain⟨a,xs,rfl,sq,il⟩:=iu.of_tup
  refine⟨a,xs,rfl,sq,?_,m,ρ,S,us,ρ',sr,lr,il,h1,post⟩
  rw[il.length];exact nG h1
 |_=>simp[gTp]at hc
def LZ(ca:CE)(g:CG):CS:=fun ρ S=>(ca ρ S).bind fun p=>(g p.1 ρ p.2).bind fun q=>some (.nx,q.1,q.2)
def bJ(i:Nat)(ca:CE):CS:=fun ρ S=>(ca ρ S).bind fun p=>some (.nx,ρ.set i (some p.1),p.2)
theorem aI{i:Nat}{x:Str}{pos':Pos}(hN:X.N.Nodup)(hi:X.N[i]?=some x)(hx:Loc X.env.scope x)(he:QE X e ca)(hs:swapsWith e (some (.Name x pos')) pos.line X.env=pure false:=by rfl)(hf:X.fn x=true\/X.env.scope.names.lookup x=some .local:=by first|exact .inl rfl|exact .inr rfl|assumption) :
  QS X (.Assign [.Name x pos'] e pos) (bJ i ca):=(vg hN hi hx he hs hf).imp fun D σ H hz=>uL hz fun m ρ S o ρ' S' sr lr hc post=>by
 obtain⟨⟨u,S1⟩,h1,h2⟩:=Option.bind_eq_some_iff.mp hc
 cases h2
 exact⟨m,ρ,S,u,_,sr,lr,h1,fun m1 v1 H1 e1 sr1 i1=>post m1 _ H1 e1 sr1 ((lr.mono e1).set i i1)⟩
abbrev CI:=Rho->Sto->Option (List U×(Sto->Prop)×Sto)
def Br(K:PySem.W.Frag)(J:It)(m:List Addr)(H:Hp)(us:List U)(ok:Sto->Prop):Prop:=∀m2 S2 H2 i,Ext K m H m2 H2->Sr K m2 S2 H2->ok S2->
 (∀u,us[i]?=some u->J.go i H2/\∀x H3,J.yld i H2 x H3->Ext K m2 H2 m2 H3/\Sr K m2 S2 H3/\Is K m2 H3 x u)/\(us.length<=i->J.stop i H2)
def tI(K:PySem.W.Frag)(ci:CI):TI:=fun σ H R=>∃m ρ S us ok S',Sr K m S H/\Lr K m H ρ σ/\ci ρ S=some (us,ok,S')/\∀m' H' J,Ext K m H m' H'->Sr K m' S' H'->Br K J m' H' us ok->R J H'
abbrev QI(X:Cx)(tg iter:Expr)(ci:CI):Prop:=WI X tg iter (tI X.K ci)
open Classical in
def cy(ok:Sto->Prop)(g:CG)(cb:CS):List U->CS
 |[]=>fun ρ S=>if ok S then some (.nx,ρ,S)else none
 |u::us=>fun ρ S=>if ok S then(g u ρ S).bind fun p=>(cb p.1 p.2).bind fun r=>match r.1 with
  |.nx=>cy ok g cb us r.2.1 r.2.2
  |.ct=>cy ok g cb us r.2.1 r.2.2
  |.bk=>some (.nx,r.2.1,r.2.2)
  |.rt v=>some (.rt v,r.2.1,r.2.2)else none
def lB(ci:CI)(g:CG)(cb:CS):CS:=fun ρ S=>(ci ρ S).bind fun p=>cy p.2.1 g cb p.1 ρ p.2.2
theorem jy{α:Type}{us:List α}{i:Nat}{u:α}(h:us[i]?=some u):us.drop i=u::us.drop (i+1):=by
 obtain⟨hl,e⟩:=List.getElem?_eq_some_iff.mp h
 rw[List.drop_eq_getElem_cons hl,e]
theorem sW{K:PySem.W.Frag}{g:CG}{cb:CS}{J:It}{us:List U}{ok:Sto->Prop}{D:yy}{m1:List Addr}{H1:Hp}{ρ ρ':Rho}{σ:L2.St}{S1 S':Sto}{o:Out}(sr1:Sr K m1 S1 H1)(lr1:Lr K m1 H1 ρ σ)(ito:Br K J m1 H1 us ok)(h2:cy ok g cb us ρ S1=some (o,ρ',S'))(post:uV K m1 H1 D o ρ' S') :
  ∃W:Nat->Nat->L2.St->Hp->Prop,(∃n,W 0 n σ H1)/\∀i n σ H,W i n σ H->
   (J.stop i H/\D.nx σ H)\/(J.go i H/\∃N:L2.St->Hp->Prop,(∀σ' H',N σ' H'->∃n',n'<n/\W (i+1) n' σ' H')/\∀x H',J.yld i H x H'->tG K g x σ H' fun σ2 H2=>tS K cb { D with nx:=N,ct:=N,bk:=D.nx } σ2 H2):=by
 let W:Nat->Nat->L2.St->Hp->Prop:=fun i n σ2 H2=>n=us.length-i/\i<=us.length/\∃m2 ρ2 S2,Ext K m1 H1 m2 H2/\Sr K m2 S2 H2/\Lr K m2 H2 ρ2 σ2/\cy ok g cb (us.drop i) ρ2 S2=some (o,ρ',S')
 refine⟨W,⟨us.length,by simp,Nat.zero_le _,m1,ρ,S1,.refl,sr1,lr1,by simpa using h2⟩,?_⟩
 rintro i n σ2 H2 ⟨rfl,hi,m2,ρ2,S2,e2,sr2,lr2,hl⟩
 by_cases hlt:i<us.length
 ·have hu:=List.getElem?_eq_getElem hlt
  rw[jy hu]at hl
  unfold cy at hl
  split at hl
  ·rename_i hok
   obtain⟨⟨ρ3,S3⟩,h3,hl⟩:=Option.bind_eq_some_iff.mp hl
   obtain⟨⟨o4,ρ4,S4⟩,h4,hl⟩:=Option.bind_eq_some_iff.mp hl
   obtain⟨hgo,hy⟩:=(ito m2 S2 H2 i e2 sr2 hok).1 _ hu
   refine .inr ⟨hgo,W (i+1) (us.length-(i+1)),fun σ' H' w'=>⟨_,by omega,w'⟩,fun x H3 y=>?_⟩
   obtain⟨e3,sr3,ix⟩:=hy x H3 y
   refine⟨m2,ρ2,S2,_,ρ3,S3,sr3,lr2.mono e3,ix,h3,fun m4 σ4 H4 e4 sr4 lr4=>⟨m4,ρ3,S3,o4,ρ4,S4,sr4,lr4,h4,?_⟩⟩
   have e14:=(e2.trans e3).trans e4
   have nxt:cy ok g cb (us.drop (i+1)) ρ4 S4=some (o,ρ',S')->ig K m4 H4 (W (i+1) (us.length-(i+1))) ρ4 S4:=fun hn m5 σ5 H5 e5 sr5 lr5=>⟨rfl,hlt,m5,ρ4,S4,e14.trans e5,sr5,lr5,hn⟩
   cases o4 with
   |nx=>exact nxt hl
   |ct=>exact nxt hl
   |bk=>cases hl;exact ig.mono e14 post
   |rt v=>cases hl;exact jE.mono e14 post
  ·cases hl
 ·have e:i=us.length:=by omega
  subst e
  rw[List.drop_length]at hl
  unfold cy at hl
  split at hl
  ·rename_i hok
   cases hl
   exact .inl ⟨(ito m2 _ H2 _ e2 sr2 hok).2 (Nat.le_refl _),post m2 σ2 H2 e2 sr2 lr2⟩
  ·cases hl
theorem DW{K:PySem.W.Frag}{ci:CI}{g:CG}{cb:CS}:∀D σ H,tS K (lB ci g cb) D σ H->Io (tI K ci) (tG K g) (tS K cb) D σ H:=by
 rintro D σ H ⟨m,ρ,S,o,ρ',S',sr,lr,hc,post⟩
 obtain⟨⟨us,ok,S1⟩,h1,h2⟩:=Option.bind_eq_some_iff.mp hc
 exact⟨m,ρ,S,us,ok,S1,sr,lr,h1,fun m1 H1 J e1 sr1 ito=>sW sr1 (lr.mono e1) ito h2 (uV.mono e1 post)⟩
theorem jo{tg iter:Expr}{body:List Stmt}{ci:CI}{g:CG}{cb:CS}(hp:PassesOwn (model X.prog X.w) X.A X.env X.xe)(hc:X.calm=true)(hi:QI X tg iter ci)(hg:QG X tg g)(hb:QSs X body cb)(hs:∀x,foldedSetIterable iter X.env x=pure x:=by intro _;rfl):QS X (.For tg iter body [] pos) (lB ci g cb):=(vi hp hc hi hg hb hs).imp DW
def cA(t:CT)(cb:CS):Nat->CS
 |0=>fun _ _=>none
 |n+1=>fun ρ S=>(t ρ S).bind fun p=>if p.1=true then(cb ρ p.2).bind fun r=>match r.1 with
  |.nx=>cA t cb n r.2.1 r.2.2
  |.ct=>cA t cb n r.2.1 r.2.2
  |.bk=>some (.nx,r.2.1,r.2.2)
  |.rt v=>some (.rt v,r.2.1,r.2.2)else some (.nx,ρ,p.2)
theorem vw{K:PySem.W.Frag}{t:CT}{cb:CS}{n:Nat}:∀D σ H,tS K (cA t cb n) D σ H->vF (tT K t) (tS K cb) D σ H:=by
 rintro D σ H ⟨m,ρ,S,o,ρ',S',sr,lr,hc,post⟩
 let W:Nat->L2.St->Hp->Prop:=fun n σ2 H2=>∃m2 ρ2 S2,Ext K m H m2 H2/\Sr K m2 S2 H2/\Lr K m2 H2 ρ2 σ2/\cA t cb n ρ2 S2=some (o,ρ',S')
 refine⟨W,⟨n,m,ρ,S,.refl,sr,lr,hc⟩,?_⟩
 rintro k σ2 H2 ⟨m2,ρ2,S2,e2,sr2,lr2,hl⟩
 cases k with
 |zero=>cases hl
 |succ k=>
  unfold cA at hl
  obtain⟨⟨x,S3⟩,h3,hl⟩:=Option.bind_eq_some_iff.mp hl
  refine⟨m2,ρ2,S2,x,S3,sr2,lr2,h3,fun m3 H3 e3 sr3=>?_⟩
  have e13:=e2.trans e3
  cases x with
  |true=>
   rw[if_pos rfl]at hl
   refine Hj ?_
   obtain⟨⟨o4,ρ4,S4⟩,h4,hl⟩:=Option.bind_eq_some_iff.mp hl
   refine⟨W k,fun σ' H' w'=>⟨k,Nat.lt_succ_self _,w'⟩,m3,ρ2,S3,o4,ρ4,S4,sr3,lr2.mono e3,h4,?_⟩
   have nxt:cA t cb k ρ4 S4=some (o,ρ',S')->ig K m3 H3 (W k) ρ4 S4:=fun hn m5 σ5 H5 e5 sr5 lr5=>⟨m5,ρ4,S4,e13.trans e5,sr5,lr5,hn⟩
   cases o4 with
   |nx=>exact nxt hl
   |ct=>exact nxt hl
   |bk=>cases hl;exact ig.mono e13 post
   |rt v=>cases hl;exact jE.mono e13 post
  |false=>
   rw[if_neg Bool.false_ne_true]at hl
   refine Hk ?_
   cases hl
   exact post m3 σ2 H3 e13 sr3 (lr2.mono e3)
theorem oA{body:List Stmt}{t:CT}{cb:CS}(n:Nat)(hp:PassesOwn (model X.prog X.w) X.A X.env X.xe)(hc:QT X c t)(hb:QSs X body cb):QS X (.While c body [] pos) (cA t cb n):=(vf hp hc hb).imp vw
def iTp(ca:CE):CI:=fun ρ S=>(ca ρ S).bind fun p=>match p.1 with
 |.tup us=>some (us,fun _=>True,p.2)
 |.ref l=>match p.2[l]? with
  |some (.lst us)=>some (us,fun S=>S[l]?=some (.lst us),p.2)
  |_=>none
 |_=>none
theorem Hl{K:PySem.W.Frag}{m:List Addr}{H:Hp}{us:List U}{a:Addr}{xs:List V}(sq:SqT K H a xs)(il:IsL K m H xs us):Br K (Itt K a) m H us (fun _=>True):=by
 intro m2 S2 H2 i e2 sr2 _
 have sq2:=e2.keep.t _ _ sq
 have il2:=il.mono e2
 refine⟨fun u hu=>?_,fun hi=>⟨xs,sq2,by rw[il2.length];exact hi⟩⟩
 obtain⟨x,hx,ix⟩:=il2.getD hu
 refine⟨⟨xs,x,sq2,hx⟩,fun y H3 hy=>?_⟩
 obtain⟨rfl,hy⟩:=hy
 have:=hy xs sq2
 rw[hx]at this;cases this
 exact⟨.refl,sr2,ix⟩
theorem Hn{K:PySem.W.Frag}{m:List Addr}{H:Hp}{us:List U}{a:Addr}{l:Nat}(hl:m[l]?=some a):Br K (Itl K a) m H us (fun S=>S[l]?=some (.lst us)):=by
 intro m2 S2 H2 i e2 sr2 hok
 obtain⟨a',ha',xs,hx,il⟩:=sr2.get hok
 rw[e2.get hl]at ha'
 cases ha'
 refine⟨fun u hu=>?_,fun hi=>⟨xs,SqL.of hx,by rw[il.length];exact hi⟩⟩
 obtain⟨x,hx',ix⟩:=il.getD hu
 refine⟨⟨xs,x,SqL.of hx,hx'⟩,fun y H3 hy=>?_⟩
 obtain⟨rfl,hy⟩:=hy
 have:=hy xs (SqL.of hx)
 rw[hx']at this;cases this
 exact⟨.refl,sr2,ix⟩
theorem nK{tg:Expr}(h:QE X e ca):QI X tg e (iTp ca):=((BZ h).or (yI h)).imp fun σ H R hz=>uL hz fun m ρ S us ok S' sr lr hc post=>by
 obtain⟨⟨u,S1⟩,h1,h2⟩:=Option.bind_eq_some_iff.mp hc
 cases u with
 |tup ws=>
  cases h2
  refine .inl ⟨m,ρ,S,.tup us,_,sr,lr,h1,fun m1 v1 H1 e1 sr1 i1=>?_⟩
  obtain⟨a,xs,rfl,sq,il⟩:=i1.of_tup
  exact⟨a,rfl,⟨xs,sq⟩,post m1 H1 _ e1 sr1 (Hl sq il)⟩
 |ref l=>
  simp only at h2
  split at h2
  ·rename_i us' hS
   cases h2
   refine .inr ⟨m,ρ,S,.ref l,_,sr,lr,h1,fun m1 v1 H1 e1 sr1 i1=>?_⟩
   obtain⟨a,hl,rfl⟩:=i1.of_ref
   obtain⟨a',ha',xs,hx,il⟩:=sr1.get hS
   rw[hl]at ha';cases ha'
   exact⟨a,rfl,⟨xs,SqL.of hx⟩,post m1 H1 _ e1 sr1 (Hn hl)⟩
  ·cases h2
 |_=>simp at h2
def cP(lo:Int)(n:Nat):List U:=(List.range n).map fun i=>.int (lo+(i:Nat))
theorem z6{K:PySem.W.Frag}{m:List Addr}{H:Hp}{lo:Int}{n:Nat}:Br K (Itr lo n) m H (cP lo n) (fun _=>True):=by
 intro m2 S2 H2 i e2 sr2 _
 refine⟨fun u hu=>?_,fun hi=>by show n<=i;simpa [cP] using hi⟩
 unfold cP at hu
 rw[List.getElem?_map]at hu
 by_cases c:i<n
 ·rw[List.getElem?_range c]at hu
  simp at hu
  subst hu
  refine⟨c,fun y H3 hy=>?_⟩
  obtain⟨rfl,rfl⟩:=hy
  exact⟨.refl,sr2,.int_⟩
 ·rw[List.getElem?_eq_none (by simpa using c)]at hu
  cases hu
def cN(cr:CA):CI:=fun ρ S=>(cr ρ S).bind fun p=>match p.1 with
 |[.int j]=>if -(2^62)<=j/\j<2^62 then some (cP 0 j.toNat,fun _=>True,p.2)else none
 |_=>none
theorem f6{tg:Expr}{cr:CA}{p:Pos}(hg:Gl X "range")(hm:X.mg "range"=none)(ha:QA X [a] cr)(hs:starEach [a] X.env=[(false,eval a X.env)]:=by rfl):QI X tg (.Call (.Name "range" p) [a] [] pos) (cN cr):=(uh hg hm ha.h hs).imp fun σ H R hz=>uL hz fun m ρ S us ok S' sr lr hc post=>by
 obtain⟨⟨ws,S1⟩,h1,h2⟩:=Option.bind_eq_some_iff.mp hc
 simp only at h2
 split at h2
 ·rename_i j
  split at h2
  ·rename_i hj
   cases h2
   refine⟨m,ρ,S,_,S',sr,lr,h1,fun m1 v1 H1 e1 sr1 i1=>?_⟩
   obtain⟨x,r,rfl,ix,ir⟩:=i1.of_cons
   rw[ir.of_nil,ix.of_int]
   exact⟨j,rfl,hj.1,hj.2,post m1 H1 _ e1 sr1 z6⟩
  ·cases h2
 ·cases h2
end
def fI(g:Int->Int->Option U):U->U->Sto->Option (U×Sto)
 |.int i,.int j,S=>(g i j).bind fun u=>some (u,S)
 |_,_,_=>none
section
variable{X:Cx}{K:PySem.W.Frag}
theorem Iu{C:Int->Int->Prop}{gV:Int->Int->V}{g:Int->Int->Option U}(h:∀i j u,g i j=some u->C i j/\∀m H,Is K m H (gV i j) u):OpP K (rI C gV) (fI g):=by
 intro m S H x y v w u S' Q sr ix iy hf post
 cases x<;>cases y<;>simp only[fI]at hf<;>try cases hf
 rename_i i j
 obtain⟨u1,h1,h2⟩:=Option.bind_eq_some_iff.mp hf
 cases h2
 obtain⟨hc,hi⟩:=h i j u h1
 exact⟨i,j,ix.of_int,iy.of_int,hc,post m _ H .refl sr (hi m H)⟩
theorem zL{gV:Int->Int->V}{g:Int->Int->Option U}(h:∀i j u,g i j=some u->∀m H,Is K m H (gV i j) u):OpP K (rI0 gV) (fI g):=by
 intro m S H x y v w u S' Q sr ix iy hf post
 cases x<;>cases y<;>simp only[fI]at hf<;>try cases hf
 rename_i i j
 obtain⟨u1,h1,h2⟩:=Option.bind_eq_some_iff.mp hf
 cases h2
 exact⟨i,j,ix.of_int,iy.of_int,post m _ H .refl sr (h i j u h1 m H)⟩
def zh(K:PySem.W.Frag):R2:=fun x y H Q=>∃a b xs ys,x=.ref a/\y=.ref b/\SqT K H a xs/\SqT K H b ys/\xs.length+ys.length<=sizeLine/\∀q H',rV H H'->SqT K H' q (xs++ys)->Q (.ref q) H'
theorem Dv:OpR X (binaryOp .Add) (zh X.K):=by
 intro pins s σ H x y v u Q I rx ry h
 obtain⟨a,b,xs,ys,rfl,rfl,ha,hb,hz,q⟩:=h
 by_cases e:xs=[]
 ·cases rx
  cases ry
  obtain⟨its,r1,p1,_⟩:=I.tuple ha
  obtain⟨its2,r2,p2,_⟩:=I.tuple hb
  refine Ax p1 p2 (r1.nil_iff.mpr e) ⟨.ref b,H,I,rfl,q b H (.refl _) (by rw[e];exact hb)⟩
 ·refine Du pins s σ H _ _ v u Q I rx ry ⟨a,b,xs,ys,rfl,rfl,ha,hb,e,hz,fun z=>q a H (.refl _) (by rw[z,List.append_nil];exact ha),fun _ p hp=>q p _ (dJ hp _) (SqT.of aV)⟩
def xy:U->U->Sto->Option (U×Sto)
 |.tup a,.tup b,S=>if a.length+b.length<=LIM then some (.tup (a++b),S)else none
 |_,_,_=>none
theorem zI:OpP K (zh K) xy:=by
 intro m S H x y v w u S' Q sr ix iy hf post
 cases x<;>cases y<;>simp only[xy]at hf<;>try cases hf
 split at hf<;>try cases hf
 rename_i hl
 obtain⟨a,xs,rfl,sa,la⟩:=ix.of_tup
 obtain⟨b,ys,rfl,sb,lb⟩:=iy.of_tup
 refine⟨a,b,xs,ys,rfl,rfl,sa,sb,lim (by rw[la.length,lb.length];exact hl),fun q H' s sq=>?_⟩
 exact post m _ H' (.of (eP s)) (sr.same s) (.tup_ sq ((la.append lb).mono (.of (eP s))))
def i8:U->U->Sto->Option (U×Sto)
 |.ref l,.ref k,S=>match S[l]?,S[k]? with
  |some (.lst a),some (.lst b)=>if a.length+b.length<=LIM then some (.ref S.length,S++[.lst (a++b)])else none
  |_,_=>none
 |_,_,_=>none
theorem zM:OpP K Ir i8:=by
 intro m S H x y v w u S' Q sr ix iy hf post
 cases x<;>cases y<;>simp only[i8]at hf<;>try cases hf
 rename_i l k
 split at hf<;>try cases hf
 rename_i a b h1 h2
 split at hf<;>try cases hf
 rename_i hl
 obtain⟨p,hp,rfl⟩:=ix.of_ref
 obtain⟨q,hq,rfl⟩:=iy.of_ref
 obtain⟨p',hp',xs,hx,il⟩:=sr.get h1
 obtain⟨q',hq',ys,hy,il'⟩:=sr.get h2
 rw[hp]at hp';cases hp'
 rw[hq]at hq';cases hq'
 exact⟨p,q,xs,ys,rfl,rfl,hx,hy,lim (by rw[il.length,il'.length];exact hl),fun r hr=>dM sr (il.append il') post hr⟩
def xA:U->U->Sto->Option (U×Sto)
 |.str a,.str b,S=>if a.length+b.length<=LIM then some (.str (a++b),S)else none
 |_,_,_=>none
theorem zJ:OpP K (fun x y H Q=>∃i j,x=.str i/\y=.str j/\i.length+j.length<=sizeLine/\Q (.str (i++j)) H) xA:=by
 intro m S H x y v w u S' Q sr ix iy hf post
 cases x<;>cases y<;>simp only[xA]at hf<;>try cases hf
 split at hf<;>try cases hf
 rename_i hl
 exact⟨_,_,ix.of_str,iy.of_str,lim hl,post m _ H .refl sr .str_⟩
def eI:U->U->Sto->Option (U×Sto)
 |.int i,.int j,S=>some (.int (i+j),S)
 |.tup a,.tup b,S=>if a.length+b.length<=LIM then some (.tup (a++b),S)else none
 |.str a,.str b,S=>if a.length+b.length<=LIM then some (.str (a++b),S)else none
 |.ref l,.ref k,S=>i8 (.ref l) (.ref k) S
 |_,_,_=>none
theorem dD:OpR X (binaryOp .Add) (fun x y H Q=>rI0 (fun i j=>.int (i+j)) x y H Q\/(Ir x y H Q\/(zh X.K x y H Q\/∃i j,x=.str i/\y=.str j/\i.length+j.length<=sizeLine/\Q (.str (i++j)) H))):=GB.or (GA.or (Dv.or ux))
theorem dC:OpP K (fun x y H Q=>rI0 (fun i j=>.int (i+j)) x y H Q\/(Ir x y H Q\/(zh K x y H Q\/∃i j,x=.str i/\y=.str j/\i.length+j.length<=sizeLine/\Q (.str (i++j)) H))) eI:=by
 intro m S H x y v w u S' Q sr ix iy hf post
 cases x<;>cases y<;>simp only[eI]at hf<;>try cases hf
 ·exact .inl ⟨_,_,ix.of_int,iy.of_int,post m _ H .refl sr .int_⟩
 ·exact .inr (.inr (.inr (zJ m S H _ _ v w u S' Q sr ix iy hf post)))
 ·exact .inr (.inr (.inl (zI m S H _ _ v w u S' Q sr ix iy hf post)))
 ·exact .inr (.inl (zM m S H _ _ v w u S' Q sr ix iy hf post))
def oZ:=fI fun i j=>some (.int (i-j))
theorem pR:OpP K (rI0 fun i j=>.int (i-j)) oZ:=zL fun i j u h m H=>by cases h;exact .int_
instance {i j:Int}:Decidable (yv i j):=by unfold yv;exact inferInstance
def mN:=fI fun i j=>if yv i j then some (.int (i*j))else none
theorem pS:OpP K (rI yv fun i j=>.int (i*j)) mN:=Iu fun i j u h=>by
 split at h
 ·rename_i c;cases h;exact⟨c,fun m H=>.int_⟩
 ·cases h
instance {i j:Int}:Decidable (uY i j):=by unfold uY;exact inferInstance
def Ah:=fI fun i j=>if uY i j then some (.int (i / j))else none
theorem Dp:OpP K (rI uY fun i j=>.int (i / j)) Ah:=Iu fun i j u h=>by
 split at h
 ·rename_i c;cases h;exact⟨c,fun m H=>.int_⟩
 ·cases h
def o3:=fI fun i j=>if 0<j then some (.int (i % j))else none
theorem pT:OpP K (rI (fun _ j=>0<j) fun i j=>.int (i % j)) o3:=Iu fun i j u h=>by
 split at h
 ·rename_i c;cases h;exact⟨c,fun m H=>.int_⟩
 ·cases h
instance {i j:Int}:Decidable (Eu i j):=by unfold Eu;exact inferInstance
def Ej:=fI fun i j=>if Eu i j then some (.int (i^j.toNat))else none
theorem Gu:OpP K (rI Eu fun i j=>.int (i^j.toNat)) Ej:=Iu fun i j u h=>by
 split at h
 ·rename_i c;cases h;exact⟨c,fun m H=>.int_⟩
 ·cases h
def fLt:=fI fun i j=>some (.bl (decide (i<j)))
def fLe:=fI fun i j=>some (.bl (decide (i<=j)))
def fGt:=fI fun i j=>some (.bl (decide (j<i)))
def fGe:=fI fun i j=>some (.bl (decide (j<=i)))
theorem u0:OpP K (rI0 fun i j=>.bl (decide (i<j))) fLt:=zL fun i j u h m H=>by cases h;exact .bl_
theorem Dm:OpP K (rI0 fun i j=>.bl (decide (j<i))) fGt:=zL fun i j u h m H=>by cases h;exact .bl_
theorem Kk:OpP K (rI0 fun i j=>.bl (decide (j<=i))) fGe:=zL fun i j u h m H=>by cases h;exact .bl_
def eqS:U->U->Option Bool
 |.int i,.int j=>some (decide (i=j))
 |.bl i,.bl j=>some (decide (i=j))
 |.str i,.str j=>some (decide (i=j))
 |.non,.non=>some true
 |.non,.int _=>some false|.int _,.non=>some false
 |.non,.bl _=>some false|.bl _,.non=>some false
 |.non,.str _=>some false|.str _,.non=>some false
 |.int _,.str _=>some false|.str _,.int _=>some false
 |.bl _,.str _=>some false|.str _,.bl _=>some false
 |_,_=>none
def fEq:U->U->Sto->Option (U×Sto):=fun x y S=>(eqS x y).bind fun b=>some (.bl b,S)
def fNe:U->U->Sto->Option (U×Sto):=fun x y S=>(eqS x y).bind fun b=>some (.bl (!b),S)
theorem Bg{m:List Addr}{H:Hp}{x y:U}{v w:V}{b:Bool}(ix:Is K m H v x)(iy:Is K m H w y)(h:eqS x y=some b):J5 v w=true/\decide (v=w)=b:=by
 cases x<;>cases y<;>simp only[eqS]at h<;>(first|cases h|skip)
 all_goals
  (first|(have e1:=ix.of_int)|(have e1:=ix.of_bl)|(have e1:=ix.of_str)|(have e1:=ix.of_non))
  (first|(have e2:=iy.of_int)|(have e2:=iy.of_bl)|(have e2:=iy.of_str)|(have e2:=iy.of_non))
  subst e1 e2
  exact⟨rfl,by simp⟩
theorem kH:OpP K rEq fEq:=by
 intro m S H x y v w u S' Q sr ix iy hf post
 obtain⟨b,h1,h2⟩:=Option.bind_eq_some_iff.mp hf
 cases h2
 obtain⟨e1,e2⟩:=Bg ix iy h1
 exact⟨e1,by rw[e2];exact post m _ H .refl sr .bl_⟩
theorem Dj:OpP K rNe fNe:=by
 intro m S H x y v w u S' Q sr ix iy hf post
 obtain⟨b,h1,h2⟩:=Option.bind_eq_some_iff.mp hf
 cases h2
 obtain⟨e1,e2⟩:=Bg ix iy h1
 exact⟨e1,by rw[e2];exact post m _ H .refl sr .bl_⟩
def oG:U->Bool
 |.non=>true
 |_=>false
def Ek:U->U->Sto->Option (U×Sto)
 |x,.non,S=>some (.bl (oG x),S)
 |_,_,_=>none
def nq:U->U->Sto->Option (U×Sto)
 |x,.non,S=>some (.bl (!oG x),S)
 |_,_,_=>none
theorem tx{m:List Addr}{H:Hp}{x:U}{v:V}(ix:Is K m H v x):decide (v=.non)=oG x:=by
 cases x with
 |non=>rw[ix.of_non];rfl
 |bl b=>rw[ix.of_bl];rfl
 |int i=>rw[ix.of_int];rfl
 |str i=>rw[ix.of_str];rfl
 |tup us=>obtain⟨a,xs,rfl,_⟩:=ix.of_tup;rfl
 |ref l=>obtain⟨a,_,rfl⟩:=ix.of_ref;rfl
 |kl ns=>obtain⟨a,rfl,_⟩:=ix.of_kl;rfl
theorem Gx:OpP K (fun x y H Q=>y=.non/\Q (.bl (decide (x=.non))) H) Ek:=by
 intro m S H x y v w u S' Q sr ix iy hf post
 cases y<;>simp only[Ek]at hf<;>cases hf
 exact⟨iy.of_non,by rw[tx ix];exact post m _ H .refl sr .bl_⟩
theorem wy:OpP K (fun x y H Q=>y=.non/\Q (.bl (!decide (x=.non))) H) nq:=by
 intro m S H x y v w u S' Q sr ix iy hf post
 cases y<;>simp only[nq]at hf<;>cases hf
 exact⟨iy.of_non,by rw[tx ix];exact post m _ H .refl sr .bl_⟩
section
variable{κ:Type}[DecidableEq κ]
def cw{α:Type}(kvs:List (κ×α))(k:κ):Option α:=(kvs.find? fun kv=>decide (kv.1=k)).map (·.2)
def lz{α:Type}(kvs:List (κ×α))(k:κ)(v:α):List (κ×α):=
 if (kvs.any fun kv=>decide (kv.1=k))=true then kvs.map (fun kv=>if kv.1=k then(kv.1,v)else kv)else kvs++[(k,v)]
variable{m:List Addr}{H:Hp}{kvs:List (κ×V)}{kus:List (κ×U)}{k:κ}{v:V}{u:U}
theorem IsP.val(h:IsP K m H kvs kus):Rf K m H (fE kvs k) (cw kus k):=by
 refine IsP.ind (P:=fun kvs kus=>Rf K m H (fE kvs k) (cw kus k)) trivial (fun k' v u kvs kus i _ ih=>?_) h
 by_cases e:k'=k
 ·subst e
  simp[fE,cw,List.find?_cons,Rf,i]
 ·simp only[fE,cw,List.find?_cons,decide_eq_false e]at ih ⊢
  exact ih
theorem IsP.any_(h:IsP K m H kvs kus):(kvs.any fun kv=>decide (kv.1=k))=(kus.any fun kv=>decide (kv.1=k)):=
 IsP.ind (P:=fun kvs kus=>(kvs.any fun kv=>decide (kv.1=k))=(kus.any fun kv=>decide (kv.1=k))) rfl (fun k' v u kvs kus i _ ih=>by simp only[List.any_cons,ih]) h
theorem IsP.append{kvs':List (κ×V)}{kus':List (κ×U)}(h:IsP K m H kvs kus)(h':IsP K m H kvs' kus'):IsP K m H (kvs++kvs') (kus++kus'):=⟨by simp[h.1,h'.1],by simpa using h.2.append h'.2⟩
theorem IsP.put(h:IsP K m H kvs kus)(i:Is K m H v u):IsP K m H (nL kvs k v) (lz kus k u):=by
 unfold nL lz
 rw[h.any_]
 split
 ·refine IsP.ind (P:=fun kvs kus=>IsP K m H (kvs.map fun kv=>if kv.1=k then(kv.1,v)else kv) (kus.map fun kv=>if kv.1=k then(kv.1,u)else kv)) .nil_ (fun k' v' u' kvs kus i' _ ih=>?_) h
  simp only[List.map_cons]
  by_cases e:k'=k
  ·simp only[e,if_true];exact .cons_ i ih
  ·simp only[e,if_false];exact .cons_ i' ih
 ·exact h.append (.cons_ i .nil_)
end
def gR:U->Option Key
 |.int i=>some (.inl i)
 |.str x=>some (.inr x)
 |_=>none
theorem mG{m:List Addr}{H:Hp}{x:U}{v:V}{k:Key}(ix:Is K m H v x)(h:gR x=some k):v=kV k:=by
 cases x<;>simp only[gR]at h<;>cases h
 ·exact ix.of_int
 ·exact ix.of_str
def i7:U->Bool
 |.non=>true|.bl _=>true|.int _=>true|.str _=>true|_=>false
def eqF:U->U->Bool
 |.non,.non=>true
 |.bl a,.bl b=>a == b
 |.bl a,.int b=>(if a then 1 else 0) == b
 |.int a,.bl b=>a == (if b then 1 else 0)
 |.int a,.int b=>a == b
 |.str a,.str b=>a == b
 |_,_=>false
def inU(x:U)(us:List U):Bool:=us.any fun y=>eqF y x
theorem rE{m:List Addr}{H:Hp}{x:U}{v:V}(ix:Is K m H v x)(h:i7 x=true):nj v=true:=by
 cases x with
 |non=>rw[ix.of_non];rfl
 |bl b=>rw[ix.of_bl];rfl
 |int i=>rw[ix.of_int];rfl
 |str i=>rw[ix.of_str];rfl
 |tup us=>cases h
 |ref l=>cases h
 |kl l=>cases h
theorem HE{m:List Addr}{H:Hp}{x y:U}{v w:V}(ix:Is K m H v x)(iy:Is K m H w y)(hx:i7 x=true)(hy:i7 y=true):eqV v w=eqF x y:=by
 cases x<;>(first|cases hx|skip)<;>cases y<;>(first|cases hy|skip)
 all_goals
  (first|(have e1:=ix.of_int)|(have e1:=ix.of_bl)|(have e1:=ix.of_str)|(have e1:=ix.of_non))
  (first|(have e2:=iy.of_int)|(have e2:=iy.of_bl)|(have e2:=iy.of_str)|(have e2:=iy.of_non))
  subst e1 e2
  rfl
theorem oJ{m:List Addr}{H:Hp}:∀{xs:List V} {us:List U},IsL K m H xs us->us.all i7=true->xs.all nj=true
 |xs,[],h,_=>by rw[h.of_nil];rfl
 |xs,u::us,h,k=>by
  obtain⟨x,r,rfl,i,t⟩:=h.of_cons
  rw[List.all_cons,Bool.and_eq_true]at k ⊢
  exact⟨rE i k.1,oJ t k.2⟩
theorem xl{m:List Addr}{H:Hp}{x:U}{v:V}(ix:Is K m H v x)(hx:i7 x=true):∀{xs:List V} {us:List U},IsL K m H xs us->us.all i7=true->inV v xs=inU x us
 |xs,[],h,_=>by rw[h.of_nil];rfl
 |xs,u::us,h,k=>by
  obtain⟨y,r,rfl,i,t⟩:=h.of_cons
  rw[List.all_cons,Bool.and_eq_true]at k
  have ih:=xl ix hx t k.2
  unfold inV inU at ih ⊢
  rw[List.any_cons,List.any_cons,ih,HE i ix k.1 hx]
theorem _root_.L2.DGet.kz{H:Hp}{a:Addr}{ob:Obj}{kvs:List (Key×V)}{k:Key}(e:H a=some (.frz ob (.dK kvs))):DGet H a (kV k) (fE kvs k):=.inl ⟨kvs,k,.inr ⟨ob,e⟩,rfl,rfl⟩
def fIn(neg:Bool):U->U->Sto->Option (U×Sto):=fun x y S=>match y with
 |.tup us=>if i7 x=true/\us.all i7=true then some (.bl (if neg then !inU x us else inU x us),S)else none
 |.ref l=>match S[l]? with
  |some (.lst us)=>if i7 x=true/\us.all i7=true then some (.bl (if neg then !inU x us else inU x us),S)else none
  |some (.dic kus)=>(gR x).bind fun k=>some (.bl (if neg then !(cw kus k).isSome else(cw kus k).isSome),S)
  |some (.fdc ep kus)=>(gR x).bind fun k=>some (.bl (if neg then !(cw kus k).isSome else(cw kus k).isSome),S)
  |_=>none
 |_=>none
theorem Rf.isSome{m:List Addr}{H:Hp}{v:Option V}{u:Option U}(h:Rf K m H v u):v.isSome=u.isSome:=by
 cases v<;>cases u<;>first|rfl|exact h.elim
theorem Hw{ca cb:CE}{neg:Bool}(t2:TE->TE->TE)(h2:∀ta tb σ H Q,(ta σ H fun y H1=>tb σ H1 fun x H2=>∃a o,x=.ref a/\DGet H2 a y o/\Q (.bl (if neg then !o.isSome else o.isSome)) H2)->t2 ta tb σ H Q):∀σ H Q,tE K (cOp (fIn neg) ca cb) σ H Q->tOp (rIn K neg) (tE K ca) (tE K cb) σ H Q\/t2 (tE K ca) (tE K cb) σ H Q:=by
 rintro σ H Q ⟨m,ρ,S,u,S',sr,lr,hc,post⟩
 obtain⟨⟨x,S1⟩,h1,h⟩:=Option.bind_eq_some_iff.mp hc
 obtain⟨⟨y,S2⟩,h3,h4⟩:=Option.bind_eq_some_iff.mp h
 cases y with
 |tup us=>
  simp only[fIn]at h4
  split at h4<;>try cases h4
  rename_i hf
  refine .inl ⟨m,ρ,S,x,S1,sr,lr,h1,fun m1 v1 H1 e1 sr1 i1=>⟨m1,ρ,S1,.tup us,S',sr1,lr.mono e1,h3,fun m2 v2 H2 e2 sr2 i2=>?_⟩⟩
  obtain⟨a,xs,rfl,sa,la⟩:=i2.of_tup
  refine⟨a,xs,rfl,.inr sa,rE (i1.mono e2) hf.1,oJ la hf.2,?_⟩
  rw[xl (i1.mono e2) hf.1 la hf.2]
  exact post m2 _ H2 (e1.trans e2) sr2 .bl_
 |ref l=>
  simp only[fIn]at h4
  split at h4<;>try cases h4
  ·rename_i us hS
   split at h4<;>try cases h4
   rename_i hf
   refine .inl ⟨m,ρ,S,x,S1,sr,lr,h1,fun m1 v1 H1 e1 sr1 i1=>⟨m1,ρ,S1,.ref l,S',sr1,lr.mono e1,h3,fun m2 v2 H2 e2 sr2 i2=>?_⟩⟩
   obtain⟨a,ha,rfl⟩:=i2.of_ref
   obtain⟨a',ha',xs,hx,la⟩:=sr2.get hS
   rw[ha]at ha';cases ha'
   refine⟨a,xs,rfl,.inl (SqL.of hx),rE (i1.mono e2) hf.1,oJ la hf.2,?_⟩
   rw[xl (i1.mono e2) hf.1 la hf.2]
   exact post m2 _ H2 (e1.trans e2) sr2 .bl_
  ·rename_i kus hS
   obtain⟨k,hk,h5⟩:=Option.bind_eq_some_iff.mp h4
   cases h5
   refine .inr (h2 _ _ _ _ _ ⟨m,ρ,S,x,S1,sr,lr,h1,fun m1 v1 H1 e1 sr1 i1=>⟨m1,ρ,S1,.ref l,S',sr1,lr.mono e1,h3,fun m2 v2 H2 e2 sr2 i2=>?_⟩⟩)
   obtain⟨a,ha,rfl⟩:=i2.of_ref
   obtain⟨a',ha',kvs,hx,ip⟩:=sr2.get hS
   rw[ha]at ha';cases ha'
   have ek:=mG (i1.mono e2) hk
   subst ek
   refine⟨a,_,rfl,DGet.k hx,?_⟩
   rw[(IsP.val ip).isSome]
   exact post m2 _ H2 (e1.trans e2) sr2 .bl_
  ·rename_i ep kus hS
   obtain⟨k,hk,h5⟩:=Option.bind_eq_some_iff.mp h4
   cases h5
   refine .inr (h2 _ _ _ _ _ ⟨m,ρ,S,x,S1,sr,lr,h1,fun m1 v1 H1 e1 sr1 i1=>⟨m1,ρ,S1,.ref l,S',sr1,lr.mono e1,h3,fun m2 v2 H2 e2 sr2 i2=>?_⟩⟩)
   obtain⟨a,ha,rfl⟩:=i2.of_ref
   obtain⟨a',ha',ob,es,kvs,hx,hd,ip⟩:=sr2.get hS
   rw[ha]at ha';cases ha'
   have ek:=mG (i1.mono e2) hk
   subst ek
   refine⟨a,_,rfl,DGet.kz hx,?_⟩
   rw[(IsP.val ip).isSome]
   exact post m2 _ H2 (e1.trans e2) sr2 .bl_
 |_=>simp[fIn]at h4
variable{e a b c:Expr}{ca cb cc:CE}{pos:Pos}
theorem zi(hu:X.A.units+1<cLine)(ha:QE X a ca)(hb:QE X b cb)(hm:behindInMarks .NotIn b=false):QT X (.Compare a [.NotIn] [b] pos) (aH (cOp (fIn true) ca cb)):=
 ((rZ pV ha hb hm).or (ve (uj hu ha hb) hm)).imp (lu (Hw (neg:=true) qI fun _ _ _ _ _ h=>h))
def fIx:U->U->Sto->Option (U×Sto):=fun x y S=>match x with
 |.tup us=>match y with
  |.int i=>(atI us i).bind fun u=>some (u,S)
  |_=>none
 |.ref l=>match S[l]? with
  |some (.lst us)=>(match y with
   |.int i=>(atI us i).bind fun u=>some (u,S)
   |_=>none)
  |some (.dic kus)=>(gR y).bind fun k=>(cw kus k).bind fun u=>some (u,S)
  |some (.fdc ep kus)=>(gR y).bind fun k=>(cw kus k).bind fun u=>some (u,S)
  |_=>none
 |.kl ns=>match y with
  |.int i=>(atI (ns.map U.int) i).bind fun u=>some (u,S)
  |_=>none
 |_=>none
theorem tD{K:PySem.W.Frag}{m:List Addr}{H:Hp}:∀ns:List Int,IsL K m H (ns.map V.int) (ns.map U.int)
 |[]=>.nil_
 |n::ns=>.cons_ .int_ (tD ns)
theorem yk{m:List Addr}{H:Hp}{xs:List V}{us:List U}{i:Int}{u:U}(l:IsL K m H xs us)(h:atI us i=some u):∃v,atI xs i=some v/\Is K m H v u:=by
 unfold atI at h ⊢
 rw[l.length]
 obtain⟨j,e1,e2⟩:=Option.bind_eq_some_iff.mp h
 rw[e1]
 obtain⟨v,e3,e4⟩:=l.getD e2
 exact⟨v,e3,e4⟩
theorem bo(hu:X.A.units+1<cLine)(ha:QE X a ca)(hb:QE X b cb)(hs:rW b)(hs2:Et b):QE X (.Subscript a b pos) (cOp fIx ca cb):=
 ((Fo (DJ.or Hi) ha hb hs).or (yM hu ha hb hs2)).imp fun σ H Q hz=>nW hz fun m ρ S u S' sr lr hc post=>by
 obtain⟨⟨x,S1⟩,h1,h⟩:=Option.bind_eq_some_iff.mp hc
 obtain⟨⟨y,S2⟩,h3,h4⟩:=Option.bind_eq_some_iff.mp h
 cases x with
 |tup us=>
  simp only[fIx]at h4
  split at h4<;>try cases h4
  rename_i i
  obtain⟨w,hw,h5⟩:=Option.bind_eq_some_iff.mp h4
  cases h5
  refine .inl ⟨m,ρ,S,_,S1,sr,lr,h1,fun m1 v1 H1 e1 sr1 i1=>⟨m1,ρ,S1,_,S',sr1,lr.mono e1,h3,fun m2 v2 H2 e2 sr2 i2=>.inr ?_⟩⟩
  obtain⟨a,xs,rfl,sa,la⟩:=(i1.mono e2).of_tup
  obtain⟨z,ez,iz⟩:=yk la hw
  exact⟨a,xs,i,z,rfl,i2.of_int,sa,ez,post m2 _ H2 (e1.trans e2) sr2 iz⟩
 |ref l=>
  simp only[fIx]at h4
  split at h4<;>try cases h4
  ·rename_i us hS
   split at h4<;>try cases h4
   rename_i i
   obtain⟨w,hw,h5⟩:=Option.bind_eq_some_iff.mp h4
   cases h5
   refine .inl ⟨m,ρ,S,_,S1,sr,lr,h1,fun m1 v1 H1 e1 sr1 i1=>⟨m1,ρ,S1,_,S',sr1,lr.mono e1,h3,fun m2 v2 H2 e2 sr2 i2=>.inl ?_⟩⟩
   obtain⟨a,ha,rfl⟩:=(i1.mono e2).of_ref
   obtain⟨a',ha',xs,hx,la⟩:=sr2.get hS
   rw[ha]at ha';cases ha'
   obtain⟨z,ez,iz⟩:=yk la hw
   exact⟨a,xs,i,z,rfl,i2.of_int,SqL.of hx,ez,post m2 _ H2 (e1.trans e2) sr2 iz⟩
  ·rename_i kus hS
   obtain⟨k,hk,h5⟩:=Option.bind_eq_some_iff.mp h4
   obtain⟨w,hw,h6⟩:=Option.bind_eq_some_iff.mp h5
   cases h6
   refine .inr ⟨m,ρ,S,_,S1,sr,lr,h1,fun m1 v1 H1 e1 sr1 i1=>⟨m1,ρ,S1,_,S',sr1,lr.mono e1,h3,fun m2 v2 H2 e2 sr2 i2=>?_⟩⟩
   obtain⟨a,ha,rfl⟩:=(i1.mono e2).of_ref
   obtain⟨a',ha',kvs,hx,ip⟩:=sr2.get hS
   rw[ha]at ha';cases ha'
   have ek:=mG i2 hk
   subst ek
   have rf:=IsP.val (k:=k) ip
   rw[hw]at rf
   cases hv:fE kvs k with
   |none=>rw[hv]at rf;exact rf.elim
   |some z=>
    rw[hv]at rf
    exact⟨a,z,rfl,by have:=DGet.k (k:=k) hx;rw[hv]at this;exact this,post m2 _ H2 (e1.trans e2) sr2 rf⟩
  ·rename_i ep kus hS
   obtain⟨k,hk,h5⟩:=Option.bind_eq_some_iff.mp h4
   obtain⟨w,hw,h6⟩:=Option.bind_eq_some_iff.mp h5
   cases h6
   refine .inr ⟨m,ρ,S,_,S1,sr,lr,h1,fun m1 v1 H1 e1 sr1 i1=>⟨m1,ρ,S1,_,S',sr1,lr.mono e1,h3,fun m2 v2 H2 e2 sr2 i2=>?_⟩⟩
   obtain⟨a,ha,rfl⟩:=(i1.mono e2).of_ref
   obtain⟨a',ha',ob,es,kvs,hx,hd,ip⟩:=sr2.get hS
   rw[ha]at ha';cases ha'
   have ek:=mG i2 hk
   subst ek
   have rf:=IsP.val (k:=k) ip
   rw[hw]at rf
   cases hv:fE kvs k with
   |none=>rw[hv]at rf;exact rf.elim
   |some z=>
    rw[hv]at rf
    exact⟨a,z,rfl,by have:=DGet.kz (k:=k) hx;rw[hv]at this;exact this,post m2 _ H2 (e1.trans e2) sr2 rf⟩
 |kl ns=>
  simp only[fIx]at h4
  split at h4<;>try cases h4
  rename_i i
  obtain⟨w,hw,h5⟩:=Option.bind_eq_some_iff.mp h4
  cases h5
  refine .inl ⟨m,ρ,S,_,S1,sr,lr,h1,fun m1 v1 H1 e1 sr1 i1=>⟨m1,ρ,S1,_,S',sr1,lr.mono e1,h3,fun m2 v2 H2 e2 sr2 i2=>.inl ?_⟩⟩
  obtain⟨a,rfl,ka⟩:=(i1.mono e2).of_kl
  obtain⟨z,ez,iz⟩:=yk (tD (K:=X.K) (m:=m2) (H:=H2) ns) hw
  exact⟨a,_,i,z,rfl,i2.of_int,ka.sq,ez,post m2 _ H2 (e1.trans e2) sr2 iz⟩
 |_=>simp[fIx]at h4
def hG:U->U->U->Sto->Option Sto:=fun o i v S=>match o with
 |.ref l=>match S[l]? with
  |some (.lst us)=>(match i with
   |.int k=>(ixN us.length k).bind fun j=>some (S.set l (.lst (us.set j v)))
   |_=>none)
  |some (.dic kus)=>(gR i).bind fun k=>if kus.length<LIM then some (S.set l (.dic (lz kus k v)))else none
  |_=>none
 |_=>none
def jB(co ci cv:CE):CS:=fun ρ S=>(cv ρ S).bind fun p=>(co ρ p.2).bind fun q=>(ci ρ q.2).bind fun r=>(hG q.1 r.1 p.1 r.2).bind fun S'=>some (.nx,ρ,S')
theorem iA{o i:Expr}{co ci cv:CE}{pos':Pos}(hu:X.A.units+1<cLine)(ho:QE X o co)(hi:QE X i ci)(hv:QE X e cv)
  (hs0:swapsWithSole [.Subscript o i pos'] e pos.line X.env=pure false:=by rfl) (hw:swappedStores [.Subscript o i pos'] e X.env=pure none:=by rfl)
  (h1:(assignEach [.Subscript o i pos'] X.env).map (·.2)=[assign (.Subscript o i pos') X.env]:=by rfl)
  (hs:swapsWith e (some (.Subscript o i pos')) pos.line X.env=pure false:=by rfl)
  (ha:∀v,assign (.Subscript o i pos') X.env v=(do
   let ov <-holding [v] (eval o X.env)
   let iv <-holding [v,ov] (eval i X.env)
   standAt pos'
   holding [v,ov,iv] (setItem ov iv v)
   release [v,ov,iv] []):=by intro _;rfl):QS X (.Assign [.Subscript o i pos'] e pos) (jB co ci cv):=
 ((BY hv (Cb ho hi zb ha) hs0 hw h1).or (yH hu ho hi hv hs)).imp fun D σ H hz=>uL hz fun m ρ S o ρ' S' sr lr hc post=>by
 obtain⟨⟨v,S1⟩,h1,h⟩:=Option.bind_eq_some_iff.mp hc
 obtain⟨⟨ou,S2⟩,h2,h⟩:=Option.bind_eq_some_iff.mp h
 obtain⟨⟨iu,S3⟩,h3,h⟩:=Option.bind_eq_some_iff.mp h
 obtain⟨S4,h4,h⟩:=Option.bind_eq_some_iff.mp h
 cases h
 cases ou with
 |ref l=>
  simp only[hG]at h4
  split at h4<;>try cases h4
  ·rename_i us hS
   split at h4<;>try cases h4
   rename_i k
   obtain⟨j,hj,h5⟩:=Option.bind_eq_some_iff.mp h4
   cases h5
   refine .inl ⟨m,ρ,S,v,S1,sr,lr,h1,fun m1 v1 H1 e1 sr1 i1=>⟨m1,ρ,S1,_,S2,sr1,lr.mono e1,h2,fun m2 v2 H2 e2 sr2 i2=>⟨m2,ρ,S2,_,S3,sr2,lr.mono (e1.trans e2),h3,fun m3 v3 H3 e3 sr3 i3=>?_⟩⟩⟩
   obtain⟨a,ha,rfl⟩:=(i2.mono e3).of_ref
   obtain⟨a',ha',xs,hx,la⟩:=sr3.get hS
   rw[ha]at ha';cases ha'
   have e13:=(e1.trans e2).trans e3
   have ek:Ext X.K m3 H3 m3 (upd H3 a (.lst (xs.set j v1))):=.of (sr3.keep ha _)
   refine⟨a,xs,k,j,rfl,i3.of_int,hx,by rw[la.length];exact hj,post m3 σ _ (e13.trans ek) (sr3.put ha ⟨_,aV,((la.set (i1.mono (e2.trans e3)))).mono ek⟩) (lr.mono (e13.trans ek))⟩
  ·rename_i kus hS
   obtain⟨k,hk,h5⟩:=Option.bind_eq_some_iff.mp h4
   split at h5<;>try cases h5
   have hlen:kus.length<LIM:=by assumption
   refine .inr ⟨m,ρ,S,v,S1,sr,lr,h1,fun m1 v1 H1 e1 sr1 i1=>⟨m1,ρ,S1,_,S2,sr1,lr.mono e1,h2,fun m2 v2 H2 e2 sr2 i2=>⟨m2,ρ,S2,_,S3,sr2,lr.mono (e1.trans e2),h3,fun m3 v3 H3 e3 sr3 i3=>?_⟩⟩⟩
   obtain⟨a,ha,rfl⟩:=(i2.mono e3).of_ref
   obtain⟨a',ha',kvs,hx,ip⟩:=sr3.get hS
   rw[ha]at ha';cases ha'
   have ek:=mG i3 hk
   subst ek
   have e13:=(e1.trans e2).trans e3
   have ee:Ext X.K m3 H3 m3 (upd H3 a (.dK (nL kvs k v1))):=.of (sr3.keep ha _)
   exact⟨a,_,rfl,Ig.k hx (GJ (by rw[IsP.length ip];exact hlen)),post m3 σ _ (e13.trans ee) (sr3.put ha ⟨_,aV,(IsP.put ip (i1.mono (e2.trans e3))).mono ee⟩) (lr.mono (e13.trans ee))⟩
 |_=>simp[hG]at h4
end
theorem js{α:Type}[DecidableEq α]:∀{l l':List α},l.Nodup->(∀x∈l,x∈l')->l.length<=l'.length
 |[],_,_,_=>Nat.zero_le _
 |x::r,l',nd,s=>by
  obtain⟨h1,h2⟩:=List.nodup_cons.mp nd
  have hx:=s x List.mem_cons_self
  have:=js (l:=r) (l':=l'.erase x) h2 fun y hy=>(List.mem_erase_of_ne (fun z=>h1 (by rw[<-z];exact hy))).mpr (s y (List.mem_cons_of_mem _ hy))
  rw[List.length_erase_of_mem hx]at this
  have hp:=List.length_pos_of_mem hx
  rw[List.length_cons]
  omega
theorem fv(f:Str)(v:V):∀fs:List (Str×V),(m9 f v fs).map (·.1)=if f∈fs.map (·.1)then fs.map (·.1)else fs.map (·.1)++[f]
 |[]=>by simp[m9]
 |(g,x)::r=>by
  unfold m9
  by_cases e:g=f
  ·simp[e]
  ·have ih:=fv f v r
   rw[if_neg e,List.map_cons,List.map_cons,ih]
   by_cases c:f∈r.map (·.1)
   ·rw[if_pos c,if_pos (List.mem_cons_of_mem _ c)]
   ·rw[if_neg c,if_neg (fun z=>by rcases List.mem_cons.mp z with z|z;exact e z.symm;exact c z)]
    rfl
section
variable{X:Cx}{K:PySem.W.Frag}{m:List Addr}{H:Hp}{c:Cl}{fs:List (Str×V)}{fus:List (Option U)}
theorem InF.room(h:InF K m H c fs fus):fs.length<1000:=by
 have:=js h.knd h.sub
 rw[List.length_map]at this
 have:=h.few
 omega
theorem mD{f:Str}:∀{fs:List (Str×V)},f∉fs.map (·.1)->fs.lookup f=none
 |[],_=>rfl
 |(g,x)::r,h=>by
  rw[List.lookup_cons]
  have h1:(f == g)=false:=by
   apply beq_eq_false_iff_ne.mpr
   intro z;exact h (by rw[z];exact List.mem_cons_self)
  rw[h1]
  exact mD fun z=>h (List.mem_cons_of_mem _ z)
theorem InF.none_{f:Str}(h:InF K m H c fs fus)(hf:f∉c.ns):fs.lookup f=none:=mD fun z=>hf (h.sub f z)
theorem InF.put{f:Str}{i:Nat}{v:V}{u:U}(h:InF K m H c fs fus)(hi:c.ns[i]?=some f)(hv:Is K m H v u):InF K m H c (m9 f v fs) (fus.set i (some u)):=by
 have hfm:f∈c.ns:=List.mem_of_getElem? hi
 refine⟨h.nd,h.few,?_,fun x hx=>?_,by simp[h.len],fun j x hj=>?_⟩
 ·rw[fv]
  split
  ·exact h.knd
  ·rename_i hn
   rw[List.nodup_append]
   exact⟨h.knd,by simp,fun a ha b hb z=>by simp at hb;subst hb;subst z;exact hn ha⟩
 ·rw[fv]at hx
  split at hx
  ·exact h.sub x hx
  ·rcases List.mem_append.mp hx with z|z
   ·exact h.sub x z
   ·simp at z;subst z;exact hfm
 ·rw[iY]
  by_cases e:i=j
  ·subst e
   rw[hi]at hj;cases hj
   rw[if_pos rfl]
   have:i<fus.length:=by rw[h.len];exact(List.getElem?_eq_some_iff.mp hi).1
   rw[List.getElem?_set_self this]
   exact hv
  ·have ne:x≠f:=fun z=>by
    subst z
    obtain⟨p1,e1⟩:=List.getElem?_eq_some_iff.mp hi
    obtain⟨p2,e2⟩:=List.getElem?_eq_some_iff.mp hj
    exact e ((List.getElem_inj h.nd).mp (e1.trans e2.symm))
   rw[if_neg ne,List.getElem?_set_ne e]
   exact h.at_ j x hj
theorem InF.new(nd:c.ns.Nodup)(few:c.ns.length<1000):InF K m H c [] (List.replicate c.ns.length none):=by
 refine⟨nd,few,by simp,fun x hx=>by simp at hx,by simp,fun i x hi=>?_⟩
 rw[List.getElem?_replicate]
 split<;>exact trivial
open Classical in
def El(c:Cl)(i:Nat)(x:U)(S:Sto):Option (U×Sto):=match x with
 |.ref l=>match S[l]? with
  |some (.ins c' fus)=>if c'=c then(fus[i]?).join.bind fun u=>some (u,S)else none
  |_=>none
 |_=>none
def m7(c:Cl)(i:Nat)(ca:CE):CE:=fun ρ S=>(ca ρ S).bind fun p=>El c i p.1 p.2
open Classical in
def rF(c:Cl)(i:Nat)(x v:U)(S:Sto):Option Sto:=match x with
 |.ref l=>match S[l]? with
  |some (.ins c' fus)=>if c'=c then some (S.set l (.ins c (fus.set i (some v))))else none
  |_=>none
 |_=>none
def jC(c:Cl)(i:Nat)(ca cv:CE):CS:=fun ρ S=>(cv ρ S).bind fun p=>(ca ρ p.2).bind fun q=>(rF c i q.1 p.1 q.2).bind fun S'=>some (.nx,ρ,S')
variable{e:Expr}{ca cv:CE}{pos:Pos}{f:Str}{i:Nat}
theorem gD(hcl:Cls X.K c.C)(hna:iP X.K c.C f)(hi:c.ns[i]?=some f)(h:QE X e ca)(hb:attributeBase e f X.env (eval e X.env)=eval e X.env:=by rfl):QE X (.Attribute e f pos) (m7 c i ca):=(Ce h hb).imp fun σ H Q hz=>nW hz fun m ρ S u S' sr lr hc post=>by
 obtain⟨⟨x,S1⟩,h1,h2⟩:=Option.bind_eq_some_iff.mp hc
 refine⟨m,ρ,S,x,S1,sr,lr,h1,fun m1 v1 H1 e1 sr1 i1=>?_⟩
 cases x with
 |ref l=>
  simp only[El]at h2
  split at h2<;>try cases h2
  rename_i c' fus hS
  split at h2<;>try cases h2
  rename_i hc'
  subst hc'
  obtain⟨w,hw,h3⟩:=Option.bind_eq_some_iff.mp h2
  cases h3
  obtain⟨a,ha,rfl⟩:=i1.of_ref
  obtain⟨a',ha',dx,fs,hx,inf⟩:=sr1.get hS
  rw[ha]at ha';cases ha'
  have rf:=inf.at_ i f hi
  rw[hw]at rf
  cases hv:fs.lookup f with
  |none=>rw[hv]at rf;exact rf.elim
  |some z=>
   rw[hv]at rf
   exact⟨a,_,dx,fs,z,rfl,hx,hcl,hna,hv,post m1 _ H1 e1 sr1 rf⟩
 |_=>simp[El]at h2
theorem ft{o:Expr}{co:CE}{pos':Pos}(hcl:Cls X.K c.C)(hna:iP X.K c.C f)(hi:c.ns[i]?=some f)(ho:QE X o co)(hv:QE X e cv)(hs:swapsWith e (some (.Attribute o f pos')) pos.line X.env=pure false:=by rfl):QS X (.Assign [.Attribute o f pos'] e pos) (jC c i co cv):=(BX ho hv hs).imp fun D σ H hz=>uL hz fun m ρ S o ρ' S' sr lr hc post=>by
 obtain⟨⟨v,S1⟩,h1,h⟩:=Option.bind_eq_some_iff.mp hc
 obtain⟨⟨x,S2⟩,h2,h⟩:=Option.bind_eq_some_iff.mp h
 obtain⟨S3,h3,h⟩:=Option.bind_eq_some_iff.mp h
 cases h
 refine⟨m,ρ,S,v,S1,sr,lr,h1,fun m1 v1 H1 e1 sr1 i1=>⟨m1,ρ,S1,x,S2,sr1,lr.mono e1,h2,fun m2 v2 H2 e2 sr2 i2=>?_⟩⟩
 cases x with
 |ref l=>
  simp only[rF]at h3
  split at h3<;>try cases h3
  rename_i c' fus hS
  split at h3<;>try cases h3
  have hc':c'=c:=by assumption
  subst hc'
  obtain⟨a,ha,rfl⟩:=i2.of_ref
  obtain⟨a',ha',dx,fs,hx,inf⟩:=sr2.get hS
  rw[ha]at ha';cases ha'
  have ee:Ext X.K m2 H2 m2 (upd H2 a (.ins c'.C dx (m9 f v1 fs))):=.of (sr2.keep ha _)
  have e12:=e1.trans e2
  exact⟨a,_,dx,fs,rfl,hx,hcl,hna,inf.room,post m2 σ _ (e12.trans ee) (sr2.put ha ⟨dx,_,aV,(inf.put hi (i1.mono e2)).mono ee⟩) (lr.mono (e12.trans ee))⟩
 |_=>simp[rF]at h3
structure iQ(P:Program)(w:World)(K:PySem.W.Frag)(mg:Str->Option Value)(base:Heap)(c:Cl)(mn:Str)(k:Nat)(ps:List Str)(f:Fn):Prop where
 ex:∃fa fd,Eh K c.C mn fa/\kT P w K mg base CX0 k fa fd ps (y4 K f)/\gQ K fd ps []
theorem iQ.mono{P:Program}{w:World}{mg:Str->Option Value}{base:Heap}{mn:Str}{j k:Nat}{ps:List Str}{f:Fn}(h:iQ P w K mg base c mn j ps f)(l:j<=k):iQ P w K mg base c mn k ps f:=by
 obtain⟨fa,fd,a,b,d⟩:=h.ex
 exact⟨fa,fd,a,b.mono l,d⟩
open Classical in
def uK(c:Cl)(f:Fn)(x:U)(S:Sto)(args:Sto->Option (List U×Sto)):Option (U×Sto):=match x with
 |.ref l=>match S[l]? with
  |some (.ins c' _)=>if c'=c then(args S).bind fun q=>f (.ref l::q.1) q.2 else none
  |_=>none
 |_=>none
def eZ(c:Cl)(f:Fn)(ca:CE)(cr:CA):CE:=fun ρ S=>(ca ρ S).bind fun p=>uK c f p.1 p.2 (cr ρ)
theorem sV{mn:Str}{g:Fn}{co:CE}{cr:CA}(hmn:mn∉c.ns):∀σ H Q,tE K (eZ c g co cr) σ H Q->vI c.C mn (y4 K g) [] E0 (tE K co) (tA K cr) σ H Q:=by
 rintro σ H Q ⟨m,ρ,S,u,S',sr,lr,hc,post⟩
 obtain⟨⟨x,S1⟩,h1,h2⟩:=Option.bind_eq_some_iff.mp hc
 refine⟨m,ρ,S,x,S1,sr,lr,h1,fun m1 v1 H1 e1 sr1 i1=>?_⟩
 cases x with
 |ref l=>
  simp only[uK]at h2
  split at h2<;>try cases h2
  rename_i c' fus hS
  split at h2<;>try cases h2
  rename_i hc'
  subst hc'
  obtain⟨⟨us,S2⟩,h3,h4⟩:=Option.bind_eq_some_iff.mp h2
  obtain⟨a,ha,rfl⟩:=i1.of_ref
  obtain⟨a',ha',dx,fs,hx,inf⟩:=sr1.get hS
  rw[ha]at ha';cases ha'
  refine⟨a,dx,fs,rfl,hx,inf.none_ hmn,m1,ρ,S1,us,S2,sr1,lr.mono e1,h3,fun m2 vs H2 e2 sr2 i2=>?_⟩
  exact⟨m2,_,S2,u,S',.cons_ (i1.mono e2) (by simpa using i2),sr2,h4,post.mono (e1.trans e2)⟩
 |_=>simp[uK]at h2
theorem iJ{mn:Str}{g:Fn}{k:Nat}{ps:List Str}{o:Expr}{es:List Expr}{co:CE}{cr:CA}{apos:Pos}{pl:Sem Bool}(hcl:Cls X.K c.C)(F:iQ X.prog X.w X.K X.mg X.base c mn k ps g)(hr:gz k X.A)(hmn:mn∉c.ns)(ho:QE X o co)(ha:QA X (e::es) cr)
  (hst:starEach (e::es) X.env=(false,eval e X.env)::starEach es X.env:=by rfl) (hpl:(backTo pos (starEach es X.env)).any (·.1)=false:=by rfl) (ht:eval (.Call (.Attribute o mn apos) (e::es) [] pos) X.env=(do
   let ov <-eval o X.env
   standAt apos.atName
   let (f,first) <-holding [ov] (getMethod ov mn pl)
   callWith pos f first (backTo pos (starEach (e::es) X.env)) (backToKw pos (keywordEach [] X.env))):=by rfl):QE X (.Call (.Attribute o mn apos) (e::es) [] pos) (eZ c g co cr):=by
 obtain⟨fa,fd,hm,F,hb⟩:=F.ex
 exact(yK ho hcl hm F hr hb .nil zG ha.h hst hpl ht).imp (sV hmn)
theorem gC{mn:Str}{g:Fn}{k:Nat}{ps:List Str}{o:Expr}{co:CE}{apos:Pos}{pl:Sem Bool}(hcl:Cls X.K c.C)(F:iQ X.prog X.w X.K X.mg X.base c mn k ps g)(hr:gz k X.A)(hmn:mn∉c.ns)(ho:QE X o co)
  (ht:eval (.Call (.Attribute o mn apos) [] [] pos) X.env=(do
   let ov <-eval o X.env
   standAt apos.atName
   let (f,first) <-holding [ov] (getMethod ov mn pl)
   callWith pos f first (backTo pos (starEach [] X.env)) (backToKw pos (keywordEach [] X.env))):=by rfl):QE X (.Call (.Attribute o mn apos) [] [] pos) (eZ c g co ax):=by
 obtain⟨fa,fd,hm,F,hb⟩:=F.ex
 refine(vk ho hcl hm F hr hb .nil zG ht).imp fun σ H Q h=>?_
 obtain⟨m,ρ,S,u,S',sr,lr,hc,k⟩:=sV hmn σ H Q h
 refine⟨m,ρ,S,u,S',sr,lr,hc,fun m1 v1 H1 e1 sr1 i1=>?_⟩
 obtain⟨a,dx,fs,h1,h2,h3,m2,ρ2,S2,us,S3,sr2,lr2,h4,h5⟩:=k m1 v1 H1 e1 sr1 i1
 cases h4
 exact⟨a,dx,fs,h1,h2,h3,h5 m2 [] H1 .refl sr2 .nil_⟩
structure CMk(P:Program)(w:World)(K:PySem.W.Frag)(mg:Str->Option Value)(base:Heap)(c:Cl)(x:Str)(k:Nat)(ps:List Str)(f:Fn):Prop where
 ex:∃fa fd,Mk K c.C fa/\kT P w K mg base CX0 k fa fd ps (y4 K f)/\gQ K fd ps []/\mg x=some (.ref c.C)
 nd:c.ns.Nodup
 few:c.ns.length<1000
theorem CMk.mono{P:Program}{w:World}{mg:Str->Option Value}{base:Heap}{x:Str}{j k:Nat}{ps:List Str}{f:Fn}(h:CMk P w K mg base c x j ps f)(l:j<=k):CMk P w K mg base c x k ps f:=by
 obtain⟨fa,fd,a,b,d⟩:=h.ex
 exact⟨⟨fa,fd,a,b.mono l,d⟩,h.nd,h.few⟩
def rG(c:Cl)(f:Fn):Fn:=fun us S=>(f (.ref S.length::us) (S++[.ins c (List.replicate c.ns.length none)])).bind fun p=>match p.1 with
 |.non=>some (.ref S.length,p.2)
 |_=>none
theorem zW{g:Fn}{cr:CA}(nd:c.ns.Nodup)(few:c.ns.length<1000):∀σ H Q,tE K (cCB (rG c g) cr) σ H Q->Cw c.C (y4 K g) [] E0 (tA K cr) σ H Q:=by
 rintro σ H Q ⟨m,ρ,S,u,S',sr,lr,hc,post⟩
 obtain⟨⟨us,S1⟩,h1,h2⟩:=Option.bind_eq_some_iff.mp hc
 obtain⟨⟨w,S2⟩,h3,h4⟩:=Option.bind_eq_some_iff.mp h2
 refine⟨m,ρ,S,us,S1,sr,lr,h1,fun m1 vs H1 e1 sr1 i1 x dx hx hdx ne=>?_⟩
 cases w with
 |non=>
  cases h4
  have s1:rV H1 (upd H1 dx (.own x)):=dJ hdx _
  have hx2:(upd H1 dx (.own x)) x=none:=by rw[bD (Ne.symm ne)];exact hx
  have ee:Ext K m1 H1 (m1++[x]) (upd (upd H1 dx (.own x)) x (.ins c.C dx [])):=.new ⟨fun b xs q=>(cQ hx2 _).t b xs ((eP s1).t b xs q),fun b xs q=>(cQ hx2 _).l b xs ((eP s1).l b xs q)⟩
  refine⟨m1++[x],.ref S1.length::us,S1++[.ins c (List.replicate c.ns.length none)],.non,S2,.cons_ (.ref_ (ff sr1.len)) (by simpa using i1.mono ee),(sr1.same s1).new (o:=.ins c (List.replicate c.ns.length none)) hx2 ⟨dx,[],aV,InF.new nd few⟩,h3,fun m2 v2 H2 e2 sr2 i2=>⟨i2.of_non,?_⟩⟩
  exact post m2 _ H2 ((e1.trans ee).trans e2) sr2 (.ref_ (e2.get (ff sr1.len)))
 |_=>simp at h4
theorem FP{x:Str}{g:Fn}{k:Nat}{ps:List Str}{es:List Expr}{cr:CA}{p:Pos}(M:CMk X.prog X.w X.K X.mg X.base c x k ps g)(hr:gz (k+1) X.A)(hg:Gl X x)(ha:QA X (e::es) cr)
  (hdb:(x == ("__debug__":Str))=false:=by decide) (he:starEach (e::es) X.env=(false,eval e X.env)::starEach es X.env:=by rfl) (hpl:(backTo pos (starEach es X.env)).any (·.1)=false:=by rfl):QE X (.Call (.Name x p) (e::es) [] pos) (cCB (rG c g) cr):=by
 obtain⟨fa,fd,hm,F,hb,hx⟩:=M.ex
 exact(yL hm F hr hg hx hb .nil zG ha.h hdb he hpl).imp (zW M.nd M.few)
def Az:CE:=fun _ S=>some (.ref S.length,S++[.dic []])
theorem FQ:QE X (.Dict [] [] pos) Az:=vo.imp fun σ H Q hz=>nW hz fun m ρ S u S' sr lr hc post=>by
 cases hc
 exact fun p hp=>post (m++[p]) _ _ (.new (cQ hp _)) (sr.new hp ⟨[],aV,.nil_⟩) (.ref_ (ff sr.len))
def HS(cd ck cx:CE):CE:=fun ρ S=>(cd ρ S).bind fun p=>match p.1 with
 |.ref l=>match p.2[l]? with
  |some (.dic _)=>(ck ρ p.2).bind fun q=>(cx ρ q.2).bind fun r=>match r.2[l]? with
   |some (.dic kus)=>(gR q.1).bind fun k=>some ((cw kus k).getD r.1,r.2)
   |_=>none
  |_=>none
 |_=>none
end
def qQ(n:Nat)(caps:List Nat)(ρ:Rho):Rho:=List.replicate n none++caps.map fun i=>(ρ[i]?).getD none
open Classical in
def gj(ok:Sto->Prop)(g:CG)(ce:CE)(l:Nat):List U->Rho->Sto->Option Sto
 |[],_,S=>if ok S then some S else none
 |u::us,ρ,S=>if ok S then(g u ρ S).bind fun p=>(ce p.1 p.2).bind fun r=>match r.2[l]? with
  |some (.lst ys)=>if ys.length<LIM then gj ok g ce l us p.1 (r.2.set l (.lst (ys++[r.1])))else none
  |_=>none else none
def gH(ci:CI)(g:CG)(ce:CE)(n:Nat)(caps:List Nat):CE:=fun ρ S=>(ci ρ S).bind fun p=>(gj p.2.1 g ce p.2.2.length p.1 (qQ n caps ρ) (p.2.2++[.lst []])).bind fun S'=>some (.ref p.2.2.length,S')
section
variable{X:Cx}{K:PySem.W.Frag}
theorem wR{m:List Addr}{H:Hp}{ρ:Rho}{σ:L2.St}{n:Nat}{caps:List Nat}(lr:Lr K m H ρ σ):Lr K m H (qQ n caps ρ) (OG.stC n caps σ):=by
 refine⟨by simp[qQ,OG.stC],fun j u e=>?_⟩
 unfold qQ at e
 unfold OG.stC
 by_cases c:j<n
 ·rw[List.getElem?_append_left (by simpa using c),List.getElem?_replicate]at e
  split at e<;>cases e
 ·rw[List.getElem?_append_right (by simp;omega),List.getElem?_map]at e ⊢
  simp only[List.length_replicate]at e ⊢
  cases q:caps[j-n]? with
  |none=>rw[q]at e;simp at e
  |some i=>
   rw[q]at e
   simp only[Option.map_some,Option.some.injEq]at e ⊢
   have e2:ρ[i]?=some (some u):=by
    cases z:ρ[i]? with
    |none=>rw[z]at e;simp at e
    |some y=>rw[z]at e;simp at e;rw[e]
   obtain⟨v,h1,h2⟩:=lr.at_ i u e2
   exact⟨v,by rw[h1];rfl,h2⟩
theorem xU{g:CG}{ce:CE}{n:Nat}{caps:List Nat}{J:It}{us:List U}{ok:Sto->Prop}{Q:VK}{m1:List Addr}{H1:Hp}{S1 S':Sto}{ρ:Rho}{σ:L2.St}{l:Addr}(sr1:Sr K m1 S1 H1)(lr:Lr K m1 H1 ρ σ)(ito:Br K J m1 H1 us ok)(hl:H1 l=none)(h2:gj ok g ce S1.length us (qQ n caps ρ) (S1++[.lst []])=some S')
  (post:∀m2 H2,Ext K (m1++[l]) (upd H1 l (.lst [])) m2 H2->Sr K m2 S' H2->Q (.ref l) H2) :
  ∃W:Nat->Nat->L2.St->Hp->Prop,(∃m,W 0 m (OG.stC n caps σ) (upd H1 l (.lst [])))/\
 ∀i m σ' H2,W i m σ' H2->(J.stop i H2/\Q (.ref l) H2)\/(J.go i H2/\∃N:L2.St->Hp->Prop,(∀σ'' H',N σ'' H'->∃m',m'<m/\W (i+1) m' σ'' H')/\
  ∀x H3,J.yld i H2 x H3->tG K g x σ' H3 fun σ2 H4=>tE K ce σ2 H4 fun v H5=>∃ys,H5 l=some (.lst ys)/\ys.length<sizeLine/\N σ2 (upd H5 l (.lst (ys++[v])))):=by
 have ee:Ext K m1 H1 (m1++[l]) (upd H1 l (.lst [])):=.new (cQ hl _)
 let W:Nat->Nat->L2.St->Hp->Prop:=fun i k σ2 H2=>k=us.length-i/\i<=us.length/\∃m2 ρ2 S2,Ext K (m1++[l]) (upd H1 l (.lst [])) m2 H2/\Sr K m2 S2 H2/\Lr K m2 H2 ρ2 σ2/\gj ok g ce S1.length (us.drop i) ρ2 S2=some S'
 refine⟨W,⟨us.length,by simp,Nat.zero_le _,m1++[l],qQ n caps ρ,S1++[.lst []],.refl,sr1.new (o:=.lst []) hl ⟨[],aV,.nil_⟩,wR (lr.mono ee),by simpa using h2⟩,?_⟩
 rintro i k σ2 H2 ⟨rfl,hi,m2,ρ2,S2,e2,sr2,lr2,hl2⟩
 by_cases hlt:i<us.length
 ·have hu:=List.getElem?_eq_getElem hlt
  rw[jy hu]at hl2
  unfold gj at hl2
  split at hl2
  ·rename_i hok
   obtain⟨⟨ρ3,S3⟩,h3,hl2⟩:=Option.bind_eq_some_iff.mp hl2
   obtain⟨⟨u4,S4⟩,h4,hl2⟩:=Option.bind_eq_some_iff.mp hl2
   simp only at hl2
   split at hl2<;>try cases hl2
   rename_i ys hys
   split at hl2<;>try cases hl2
   rename_i hlen
   obtain⟨hgo,hy⟩:=(ito m2 S2 H2 i (ee.trans e2) sr2 hok).1 _ hu
   refine .inr ⟨hgo,W (i+1) (us.length-(i+1)),fun σ' H' w'=>⟨_,by omega,w'⟩,fun x H3 y=>?_⟩
   obtain⟨e3,sr3,ix⟩:=hy x H3 y
   refine⟨m2,ρ2,S2,_,ρ3,S3,sr3,lr2.mono e3,ix,h3,fun m4 σ4 H4 e4 sr4 lr4=>⟨m4,ρ3,S3,u4,S4,sr4,lr4,h4,fun m5 v5 H5 e5 sr5 i5=>?_⟩⟩
   obtain⟨a',ha',xs,hx,il⟩:=sr5.get hys
   have ha:m5[S1.length]?=some l:=(((e2.trans e3).trans e4).trans e5).get (ff sr1.len)
   rw[ha]at ha';cases ha'
   have eu:Ext K m5 H5 m5 (upd H5 l (.lst (xs++[v5]))):=.of (sr5.keep ha _)
   refine⟨xs,hx,GJ (by rw[il.length];exact hlen),rfl,hlt,m5,ρ3,_,((((e2.trans e3).trans e4).trans e5).trans eu),sr5.put (o:=.lst (ys++[u4])) ha ⟨_,aV,(il.append (.cons_ i5 .nil_)).mono eu⟩,(lr4.mono (e5.trans eu)),hl2⟩
  ·cases hl2
 ·have e:i=us.length:=by omega
  subst e
  rw[List.drop_length]at hl2
  unfold gj at hl2
  split at hl2
  ·rename_i hok
   cases hl2
   exact .inl ⟨(ito m2 _ H2 _ (ee.trans e2) sr2 hok).2 (Nat.le_refl _),post m2 H2 e2 sr2⟩
  ·cases hl2
theorem tX{ci:CI}{g:CG}{ce:CE}{n:Nat}{caps:List Nat}:∀σ H Q,tE K (gH ci g ce n caps) σ H Q->y3 (tI K ci) (tG K g) (tE K ce) n caps σ H Q:=by
 rintro σ H Q ⟨m,ρ,S,u,S',sr,lr,hc,post⟩
 obtain⟨⟨us,ok,S1⟩,h1,h2⟩:=Option.bind_eq_some_iff.mp hc
 obtain⟨S2,h2,h3⟩:=Option.bind_eq_some_iff.mp h2
 cases h3
 refine⟨m,ρ,S,us,ok,S1,sr,lr,h1,fun m1 H1 J e1 sr1 ito l hl=>?_⟩
 have ee:Ext K m1 H1 (m1++[l]) (upd H1 l (.lst [])):=.new (cQ hl _)
 exact xU sr1 (lr.mono e1) ito hl h2 fun m2 H2 e2 sr2=>post m2 _ H2 ((e1.trans ee).trans e2) sr2 (.ref_ (e2.get (ff sr1.len)))
theorem we{Nc capN tn:List Str}{scope:Scope}{cl:List (Str×Addr)}{n:Nat}{caps:List Nat}{tg iter elt:Expr}{pos:Pos}{ci:CI}{g:CG}{ce:CE}
  (hc:X.calm=true) (hi:QI X tg iter ci) (hg:∀s3 H3 fp,WG (cxC X Nc scope cl s3 H3 fp) tg (tG X.K g)) (he:∀s3 H3 fp,WE (cxC X Nc scope cl s3 H3 fp) elt (tE X.K ce))
  (hclos:closureFor scope X.env=pure cl) (hkind:scope.kind=.function) (hnl:∀x∈scope.names,x.2=.local->scope.names.lookup x.1=some .local) (hcell:∀x∈scope.names,x.2≠.cell)
  (hcl:uZ X.env cl) (hhas:((relabel scope X.env).names.all fun p=>!(p.2 == .cell||p.2 == .free)||(cl.lookup p.1).isSome)=true)
  (hcap:Paired (Cap X scope cl) caps capN) (hN:Nc=tn++capN) (hn:tn.length=n)
  (hs:∀x,foldedSetIterable iter X.env x=pure x:=by intro _;rfl) :
  QE X (.ListComp elt [⟨tg,iter,[],0⟩] scope pos) (gH ci g ce n caps):=(yN hc hi hg he hclos hkind hnl hcell hcl hhas hcap hN hn hs).imp tX
def fU:Fn
 |[.tup us],S=>some (.int us.length,S)
 |[.ref l],S=>match S[l]? with
  |some (.lst us)=>some (.int us.length,S)
  |some (.dic us)=>some (.int us.length,S)
  |_=>none
 |[.kl ns],S=>some (.int ns.length,S)
 |_,_=>none
abbrev LF(K:PySem.W.Frag):List V->Hp->VK->Prop:=fun xs H Q=>(∃p ys,xs=[.ref p]/\(SqL K H p ys\/SqT K H p ys)/\Q (.int ys.length) H)\/∃a kvs,xs=[V.ref a]/\H a=some (.dK kvs)/\Q (.int kvs.length) H
theorem fT:gy X (.builtin "len") (LF X.K):=qp.or x8
theorem IsL.one{m:List Addr}{H:Hp}{vs:List V}{u:U}(h:IsL K m H vs [u]):∃v,vs=[v]/\Is K m H v u:=by
 obtain⟨x,r,rfl,i,t⟩:=h.of_cons
 rw[t.of_nil];exact⟨x,rfl,i⟩
theorem IsL.two{m:List Addr}{H:Hp}{vs:List V}{u w:U}(h:IsL K m H vs [u,w]):∃v x,vs=[v,x]/\Is K m H v u/\Is K m H x w:=by
 obtain⟨x,r,rfl,i,t⟩:=h.of_cons
 obtain⟨y,rfl,j⟩:=t.one
 exact⟨x,y,rfl,i,j⟩
theorem fS:m6 K (LF K) fU:=by
 intro m S H us vs u S' Q sr i hf post
 match us,hf with
 |[.tup ws],hf=>
  cases hf
  obtain⟨v,rfl,iv⟩:=i.one
  obtain⟨a,xs,rfl,sa,la⟩:=iv.of_tup
  exact .inl ⟨a,xs,rfl,.inr sa,by rw[la.length];exact post m _ H .refl sr .int_⟩
 |[.ref l],hf=>
  obtain⟨v,rfl,iv⟩:=i.one
  obtain⟨a,ha,rfl⟩:=iv.of_ref
  simp only[fU]at hf
  split at hf<;>try cases hf
  ·rename_i ws hS
   obtain⟨a',ha',xs,hx,la⟩:=sr.get hS
   rw[ha]at ha';cases ha'
   exact .inl ⟨a,xs,rfl,.inl (SqL.of hx),by rw[la.length];exact post m _ H .refl sr .int_⟩
  ·rename_i ws hS
   obtain⟨a',ha',xs,hx,la⟩:=sr.get hS
   rw[ha]at ha';cases ha'
   exact .inr ⟨a,xs,rfl,hx,by rw[IsP.length la];exact post m _ H .refl sr .int_⟩
 |[.kl ns],hf=>
  cases hf
  obtain⟨v,rfl,iv⟩:=i.one
  obtain⟨a,rfl,ka⟩:=iv.of_kl
  exact .inl ⟨a,_,rfl,.inl ka.sq,by rw[List.length_map];exact post m _ H .refl sr .int_⟩
def rH:Fn
 |[.tup us],S=>some (.ref S.length,S++[.lst us])
 |[.ref l],S=>match S[l]? with
  |some (.lst us)=>some (.ref S.length,S++[.lst us])
  |_=>none
 |_,_=>none
theorem Gw:m6 K (fun xs H Q=>∃p ys,xs=[.ref p]/\(SqL K H p ys\/SqT K H p ys)/\∀l,H l=none->Q (.ref l) (upd H l (.lst ys))) rH:=by
 intro m S H us vs u S' Q sr i hf post
 match us,hf with
 |[.tup ws],hf=>
  cases hf
  obtain⟨v,rfl,iv⟩:=i.one
  obtain⟨a,xs,rfl,sa,la⟩:=iv.of_tup
  exact⟨a,xs,rfl,.inr sa,fun l hl=>dM sr la post hl⟩
 |[.ref l],hf=>
  obtain⟨v,rfl,iv⟩:=i.one
  obtain⟨a,ha,rfl⟩:=iv.of_ref
  simp only[rH]at hf
  split at hf<;>try cases hf
  rename_i ws hS
  obtain⟨a',ha',xs,hx,la⟩:=sr.get hS
  rw[ha]at ha';cases ha'
  exact⟨a,xs,rfl,.inl (SqL.of hx),fun l hl=>dM sr la post hl⟩
def fe:Fn
 |[.tup us],S=>some (.tup us,S)
 |[.ref l],S=>match S[l]? with
  |some (.lst us)=>some (.tup us,S)
  |_=>none
 |_,_=>none
theorem jL:m6 K (fun xs H Q=>∃p ys,xs=[.ref p]/\((SqL K H p ys/\∀l,H l=none->Q (.ref l) (upd H l (.tup ys)))\/(SqT K H p ys/\Q (.ref p) H))) fe:=by
 intro m S H us vs u S' Q sr i hf post
 match us,hf with
 |[.tup ws],hf=>
  cases hf
  obtain⟨v,rfl,iv⟩:=i.one
  obtain⟨a,xs,rfl,sa,la⟩:=iv.of_tup
  exact⟨a,xs,rfl,.inr ⟨sa,post m _ H .refl sr iv⟩⟩
 |[.ref l],hf=>
  obtain⟨v,rfl,iv⟩:=i.one
  obtain⟨a,ha,rfl⟩:=iv.of_ref
  simp only[fe]at hf
  split at hf<;>try cases hf
  rename_i ws hS
  obtain⟨a',ha',xs,hx,la⟩:=sr.get hS
  rw[ha]at ha';cases ha'
  exact⟨a,xs,rfl,.inl ⟨SqL.of hx,fun l hl=>oC sr la post hl⟩⟩
def HD:Fn
 |[.int i],S=>some (.int i,S)
 |[.bl b],S=>some (.int (if b then 1 else 0),S)
 |_,_=>none
theorem Kj:m6 K (fun xs H Q=>(∃i,xs=[.int i]/\Q (.int i) H)\/∃k,xs=[.bl k]/\Q (.int (if k then 1 else 0)) H) HD:=by
 intro m S H us vs u S' Q sr i hf post
 match us,hf with
 |[.int j],hf=>
  cases hf
  obtain⟨v,rfl,iv⟩:=i.one
  exact .inl ⟨j,by rw[iv.of_int],post m _ H .refl sr .int_⟩
 |[.bl j],hf=>
  cases hf
  obtain⟨v,rfl,iv⟩:=i.one
  exact .inr ⟨j,by rw[iv.of_bl],post m _ H .refl sr .int_⟩
def Le:Fn
 |[.int i,.int j],S=>some (.int (if j<i then j else i),S)
 |_,_=>none
theorem Ki:m6 K (fun xs H Q=>∃i j,xs=[.int i,.int j]/\Q (.int (if j<i then j else i)) H) Le:=by
 intro m S H us vs u S' Q sr i hf post
 match us,hf with
 |[.int j,.int k],hf=>
  cases hf
  obtain⟨v,w,rfl,iv,iw⟩:=i.two
  exact⟨j,k,by rw[iv.of_int,iw.of_int],post m _ H .refl sr .int_⟩
def nc:List U->Option (List Int)
 |[]=>some []
 |.int i::r=>(nc r).map (i::·)
 |_=>none
theorem ju:∀{us:List U} {ns:List Int},nc us=some ns->us=ns.map U.int
 |[],ns,h=>by cases h;rfl
 |u::r,ns,h=>by
  cases u<;>simp only[nc]at h<;>try cases h
  obtain⟨ms,e,h⟩:=Option.map_eq_some_iff.mp h
  subst h
  rw[ju e];rfl
theorem jv:∀(ns:List Int),nc (ns.map U.int)=some ns
 |[]=>rfl
 |n::r=>by simp[nc,jv r]
theorem IsL.ints{m:List Addr}{H:Hp}:∀{xs:List V} {ns:List Int},IsL K m H xs (ns.map U.int)->xs=ns.map V.int
 |xs,[],h=>h.of_nil
 |xs,n::ns,h=>by
  obtain⟨x,r,rfl,i,t⟩:=h.of_cons
  rw[IsL.ints t,i.of_int];rfl
theorem iB{m:List Addr}{H:Hp}:∀(ns:List Int),IsL K m H (ns.map V.int) (ns.map U.int)
 |[]=>.nil_
 |n::ns=>.cons_ .int_ (iB ns)
inductive Ty where
 |non|bool|int|str|tuple|list|dict
def tyU:U->Sto->Option Ty
 |.non,_=>some .non|.bl _,_=>some .bool|.int _,_=>some .int|.str _,_=>some .str|.tup _,_=>some .tuple
 |.ref l,S=>match S[l]? with
  |some (.lst _)=>some .list
  |some (.dic _)=>some .dict
  |_=>none
 |.kl _,_=>none
def J0:Ty->Ty->Bool
 |.non,.non=>true|.bool,.bool=>true|.bool,.int=>true|.int,.int=>true|.str,.str=>true|.tuple,.tuple=>true|.list,.list=>true|.dict,.dict=>true
 |_,_=>false
def MO(T:Ty)(ca:CE):CE:=fun ρ S=>(ca ρ S).bind fun p=>(tyU p.1 p.2).bind fun t=>some (.bl (J0 t T),p.2)
def cBM(f:U->List U->Sto->Option (U×Sto))(co:CE)(cr:CA):CE:=fun ρ S=>(co ρ S).bind fun p=>match p.1 with
 |.ref l=>match p.2[l]? with
  |some (.lst _)=>(cr ρ p.2).bind fun q=>f p.1 q.1 q.2
  |_=>none
 |_=>none
def MtP(K:PySem.W.Frag)(r:V->List V->Hp->VK->Prop)(f:U->List U->Sto->Option (U×Sto)):Prop:=
 ∀m S H x v us vs u S' Q,Sr K m S H->Is K m H v x->IsL K m H vs us->f x us S=some (u,S')->jE K m H Q u S'->r v vs H Q
theorem ye{r:V->List V->Hp->VK->Prop}{f:U->List U->Sto->Option (U×Sto)}{co:CE}{cr:CA}(hp:MtP K r f):∀σ H Q,tE K (cBM f co cr) σ H Q->tBM K "list" r (tE K co) (tA K cr) σ H Q:=by
 rintro σ H Q ⟨m,ρ,S,u,S',sr,lr,hc,post⟩
 obtain⟨⟨x,S1⟩,h1,h2⟩:=Option.bind_eq_some_iff.mp hc
 refine⟨m,ρ,S,x,S1,sr,lr,h1,fun m1 v1 H1 e1 sr1 i1=>?_⟩
 cases x with
 |ref l=>
  simp only at h2
  split at h2<;>try cases h2
  rename_i ws hS
  obtain⟨⟨us,S2⟩,h3,h4⟩:=Option.bind_eq_some_iff.mp h2
  obtain⟨a,ha,rfl⟩:=id i1.of_ref
  obtain⟨a',ha',xs,hx,la⟩:=sr1.get hS
  rw[ha]at ha';cases ha'
  exact⟨.inl ⟨rfl,xs,SqL.of hx⟩,m1,ρ,S1,us,S2,sr1,lr.mono e1,h3,fun m2 vs H2 e2 sr2 i2=>hp m2 S2 H2 _ _ us vs u S' Q sr2 (i1.mono e2) i2 h4 (post.mono (e1.trans e2))⟩
 |_=>simp at h2
def bS:U->List U->Sto->Option (U×Sto)
 |.ref l,[u],S=>match S[l]? with
  |some (.lst us)=>if us.length<LIM then some (.non,S.set l (.lst (us++[u])))else none
  |_=>none
 |_,_,_=>none
theorem zN:MtP K vX bS:=by
 intro m S H x v us vs u S' Q sr ix i hf post
 match x,us,hf with
 |.ref l,[w],hf=>
  simp only[bS]at hf
  split at hf<;>try cases hf
  rename_i ws hS
  split at hf<;>try cases hf
  rename_i hl
  obtain⟨a,ha,rfl⟩:=ix.of_ref
  obtain⟨a',ha',xs,hx,la⟩:=sr.get hS
  rw[ha]at ha';cases ha'
  obtain⟨y,rfl,iy⟩:=i.one
  have eu:Ext K m H m (upd H a (.lst (xs++[y]))):=.of (sr.keep ha _)
  exact⟨a,xs,y,rfl,rfl,hx,GJ (by rw[la.length];exact hl),post m _ _ eu (sr.put ha ⟨_,aV,(la.append (.cons_ iy .nil_)).mono eu⟩) .non_⟩
variable{e:Expr}{es:List Expr}{co:CE}{cr:CA}{o:Expr}{apos cpos:Pos}
theorem dq (ho : QE X o co) (ha : QA X (e :: es) cr) (hbase : attributeBase o "append" X.env (eval o X.env) = eval o X.env := by rfl) (hfew : ((backTo cpos (starEach (e :: es) X.env)).all (fun x => !x.1) && (backToKw cpos (keywordEach [] X.env)).all (fun x => x.1.isSome)
   && decide ((e::es).length+([]:List Keyword).length+(if ([]:List Keyword).isEmpty then 0 else 1)<30))=true:=by rfl) (hline:(apos.endLine == cpos.line)=true:=by rfl) (hs:starEach (e::es) X.env=(false,eval e X.env)::starEach es X.env:=by rfl) (hplain:(backTo cpos (starEach es X.env)).any (·.1)=false:=by rfl) :
  QE X (.Call (.Attribute o "append" apos) (e::es) [] cpos) (cBM bS co cr):=(vt PySem.F.plainAttrs_list PySem.F.slot_list_append PySem.F.type_list_append mB ho ha.h hbase hfew hline hs hplain).imp (ye zN)
end
structure TC(K:PySem.W.Frag)(c:Cl)(NS:List Str):Prop where
 cl:Cls K c.C
 ns:c.ns=NS
 nas:∀f∈NS,iP K c.C f
section
variable{K:PySem.W.Frag}{c:Cl}{NS:List Str}
theorem TC.ix(T:TC K c NS){i:Nat}{f:Str}(h:NS[i]?=some f):c.ns[i]?=some f:=by rw[T.ns];exact h
theorem TC.na(T:TC K c NS)(i:Nat){f:Str}(h:NS[i]?=some f):iP K c.C f:=T.nas f (List.mem_of_getElem? h)
theorem TC.nm(T:TC K c NS){f:Str}(h:f∉NS):f∉c.ns:=by rw[T.ns];exact h
end
theorem _root_.L2.Fun.pure{P:Program}{w:World}{K:PySem.W.Frag}{mg:Str->Option Value}{base:Heap}{x qual:Str}{st:Stmt}{f:Addr}{fd:FuncData}{N ps:List Str}{k:Nat}{c:CS}(F:Fun K x qual st f fd)(S:aN N ps (ay st))
  (hb:∀(cdv:Value) (A:Around) (outer:List Env) (s:Shared) (H:Hp) (E:XK),gz k (A.deeper (envOfC qual (ay st) s.heap.objs.size f cdv))->
   WSs (tW CX0 P w K mg base N qual (ay st) f cdv A outer s H E).nox (dN st) (tS K c)):kT P w K mg base CX0 (k+1) f fd ps (y4 K (fnU N.length ps.length c)):=
 Fun.okW F S (fun vs H Q E h=>sx h) fun cdv A outer s H vs Q E hr h=>⟨_,hb cdv A outer s H E hr,xt (X:=(tW CX0 P w K mg base N qual (ay st) f cdv A outer s H E).nox) (body:=[]) (ps:=ps) rfl h⟩
def SI:Bool->Heap->Addr->Addr->Nat->Prop
 |true,h,it,a,i=>h.IsListIter it a i
 |false,h,it,a,i=>h.IsTupleIter it a i
def SA:Bool->Heap->Addr->Array Value->Prop
 |true,h,a,xs=>h.IsList a xs
 |false,h,a,xs=>h.IsTuple a xs
theorem SI.at_{b:Bool}{h h':Heap}{it a:Addr}{i:Nat}(x:SI b h it a i)(k:∀o,h.get? it=some o->h'.get? it=some o):SI b h' it a i:=by
 cases b with
 |true=>obtain⟨o,e,r⟩:=x;exact⟨o,k o e,r⟩
 |false=>obtain⟨o,e,r⟩:=x;exact⟨o,k o e,r⟩
theorem SA.at_{b:Bool}{h h':Heap}{a:Addr}{xs:Array Value}(x:SA b h a xs)(k:∀o,h.get? a=some o->h'.get? a=some o):SA b h' a xs:=by
 cases b with
 |true=>obtain⟨o,e,r⟩:=x;exact⟨o,k o e,r⟩
 |false=>obtain⟨o,e,r⟩:=x;exact⟨o,k o e,r⟩
theorem SI.obj{b:Bool}{h:Heap}{it a:Addr}{i:Nat}(x:SI b h it a i):∃o,h.get? it=some o/\∀v,o.data≠.cell v:=by
 cases b with
 |true=>obtain⟨o,e,c,d⟩:=x;exact⟨o,e,fun v z=>by rw[d]at z;cases z⟩
 |false=>obtain⟨o,e,c,d⟩:=x;exact⟨o,e,fun v z=>by rw[d]at z;cases z⟩
theorem SA.lt{b:Bool}{h:Heap}{a:Addr}{xs:Array Value}(x:SA b h a xs):a<h.objs.size:=by
 cases b with
 |true=>obtain⟨o,e,_⟩:=x;exact Heap.lt_size e
 |false=>obtain⟨o,e,_⟩:=x;exact Heap.lt_size e
section
variable{prog:Program}{w:World}{A:Around}{E:Value->Shared->Prop}{s:Shared}
theorem yY{I t:Addr}{j:Nat}{ys:Array Value}{y:Value}{Q:Value->Shared->Prop}(hI:s.heap.IsTupleIter I t j)(hT:s.heap.IsTuple t ys)(hy:ys[j]?=some y)
  (k:∀h',h'.IsTupleIter I t (j+1)->Heap.SameBut I s.heap h'->Q y { s with heap:=h' }):wpAny (model prog w) A (Builtin.SmallTypes.nextOf (.ref I)) Q E s:=by
 obtain⟨oi,gi,ci,di⟩:=id hI
 obtain⟨ot,gt,_,nt,dt⟩:=hT
 unfold Builtin.SmallTypes.nextOf
 refine wpAny_bind (wpAny_callSpecial?_slot (name:=Str.ofString "__next__") hI.typeIs PySem.F.slot_tuple_iterator_next (wpAny_call_entry PySem.F.slot_tuple_iterator_next hI.typeIs PySem.F.entry_tuple_iterator_next ?_ (PySem.F.args_tuple_iterator_next_1 _)))
 show wpAny _ _ (field (.ref I) 0 >>= _) _ _ s
 refine wpAny_bind (wpAny_field gi di (x:=.ref t) rfl ?_)
 show wpAny _ _ (ite ((Value.ref t == Value.none)=true) _ _) _ _ s
 rw[if_neg (by exact Bool.false_ne_true)]
 show wpAny _ _ (field (.ref I) 1 >>= _) _ _ s
 refine wpAny_bind (wpAny_field gi di (x:=.int j 0) rfl ?_)
 show wpAny _ _ (seqItems? (.ref t) >>= _) _ _ s
 refine wpAny_bind (wpAny_seqItems gt dt ?_)
 simp only[hy,Int.toNat_natCast]
 refine wpAny_bind (wpAny_setField gi di (by simp) (wpAny_pure ⟨y,rfl,wpAny_pure (k _ ⟨_,Heap.get?_update_self _ gi (Obj.isFreed_of_fields (Obj.data_mapFields di _)),(Obj.cls_mapFields ..).trans ci,?_⟩ (Heap.SameBut.update ..))⟩))
 rw[Obj.data_mapFields di];simp[rawInt]
theorem pC{I t:Addr}{j:Nat}{ys:Array Value}{Q:Value->Shared->Prop}(hh:A.handled=none)(hI:s.heap.IsTupleIter I t j)(hT:s.heap.IsTuple t ys)(hy:ys[j]?=none)
  (k:∀h' e,Heap.ExtBut I s.heap h'->(∃o,h'.get? e=some o/\o.cls=.type "StopIteration")->E (.ref e) { s with heap:=h' }):wpAny (model prog w) A (Builtin.SmallTypes.nextOf (.ref I)) Q E s:=by
 obtain⟨oi,gi,ci,di⟩:=id hI
 obtain⟨ot,gt,_,nt,dt⟩:=hT
 unfold Builtin.SmallTypes.nextOf
 refine wpAny_bind (wpAny_callSpecial?_slot (name:=Str.ofString "__next__") hI.typeIs PySem.F.slot_tuple_iterator_next (wpAny_call_entry PySem.F.slot_tuple_iterator_next hI.typeIs PySem.F.entry_tuple_iterator_next ?_ (PySem.F.args_tuple_iterator_next_1 _)))
 show wpAny _ _ (field (.ref I) 0 >>= _) _ _ s
 refine wpAny_bind (wpAny_field gi di (x:=.ref t) rfl ?_)
 show wpAny _ _ (ite ((Value.ref t == Value.none)=true) _ _) _ _ s
 rw[if_neg (by exact Bool.false_ne_true)]
 show wpAny _ _ (field (.ref I) 1 >>= _) _ _ s
 refine wpAny_bind (wpAny_field gi di (x:=.int j 0) rfl ?_)
 show wpAny _ _ (seqItems? (.ref t) >>= _) _ _ s
 refine wpAny_bind (wpAny_seqItems gt dt ?_)
 simp only[hy,Int.toNat_natCast]
 refine wpAny_bind (wpAny_rule (wpAny_bind (wpAny_setField gi di (by simp) ?_)))
 show wpAny _ _ (newExc (.type "StopIteration") [] >>= _) _ _ _
 simp only[newExc,newTuple];refine wpAny_bind ?_
 refine wpAny_bind (wpAny_newObj_type ?_ (by(size_fits)))
 refine wpAny_bind (m:=firstArgMember _ _) (wpAny_of_eq (a:=Value.none) (by simp only[firstArgMember]<;>rfl) ?_)
 refine wpAny_newObj_type ?_ (by(size_fits))
 simp only[raiseNew]
 refine wpAny_bind (wpAny_handled ?_)
 rw[show A.in1.handled=none from hh]
 exact wpAny_bind (wpAny_pure (wpAny_throw (k _ _ (((Heap.SameBut.update ..).extBut.push _).push _) ⟨_,Heap.get?_push_size _ rfl,rfl⟩)))
theorem CC{b:Bool}{I t:Addr}{j:Nat}{ys:Array Value}{y:Value}{Q:Value->Shared->Prop}(hI:SI b s.heap I t j)(hT:SA b s.heap t ys)(hy:ys[j]?=some y)
  (k:∀h',SI b h' I t (j+1)->Heap.SameBut I s.heap h'->Q y { s with heap:=h' }):wpAny (model prog w) A (Builtin.SmallTypes.nextOf (.ref I)) Q E s:=by
 cases b with
 |true=>exact wpAny_nextOf_list_item hI hT hy k
 |false=>exact yY hI hT hy k
theorem lG{b:Bool}{I t:Addr}{j:Nat}{ys:Array Value}{Q:Value->Shared->Prop}(hh:A.handled=none)(hI:SI b s.heap I t j)(hT:SA b s.heap t ys)(hy:ys[j]?=none)
  (k:∀h' e,Heap.ExtBut I s.heap h'->(∃o,h'.get? e=some o/\o.cls=.type "StopIteration")->E (.ref e) { s with heap:=h' }):wpAny (model prog w) A (Builtin.SmallTypes.nextOf (.ref I)) Q E s:=by
 cases b with
 |true=>exact wpAny_nextOf_list_end hh hI hT hy k
 |false=>exact pC hh hI hT hy k
def itO(b:Bool)(a:Addr):Obj:={ cls:=.type (if b then "list_iterator" else "tuple_iterator"),data:=.fields #[.ref a,.int 0 0] }
theorem Hq{b:Bool}{a i:Addr}{h:Heap}(e:h.get? i=some (itO b a)):SI b h i a 0:=by
 cases b with
 |true=>exact⟨_,e,rfl,rfl⟩
 |false=>exact⟨_,e,rfl,rfl⟩
end
def Sq(K:PySem.W.Frag):Bool->Hp->Addr->List V->Prop
 |true,H,a,xs=>SqL K H a xs
 |false,H,a,xs=>SqT K H a xs
section
variable{X:Cx}{pins:List (Addr×Obj)}{σ:L2.St}{H:Hp}{s:Shared}{h':Heap}
theorem _root_.L2.Inv.turnedL{t':Nat}{ch:List Addr}(I:Inv X pins σ H s)(k:∀b o,b∉ch->s.heap.get? b=some o->h'.get? b=some o)(hf:∀b∈ch,u3 X pins H b):Inv X pins σ H { s with heap:=h',toks:=t' }:=by
 have nit:∀b u,H b=some u->b∉ch:=fun b u e z=>by rw[(hf b z).1]at e;cases e
 refine I.step (g':=s.gens) (d':=s.drawn) (ch:=ch) (fun b hb=>⟨(hf b hb).2.2.2.1,(hf b hb).2.1,(hf b hb).2.2.2.2.1,(hf b hb).2.2.2.2.2⟩) (fun b o _ _ hc e _=>k b o hc e) (fun b o _ _ hc e _=>⟨o.slots,k b o hc e⟩) (fun _ _ _ _ n=>n)
  (fun b o hc e=>⟨o,k b o hc e⟩) (fun _ _ e=>e) (fun _ _ _ e=>e) (fun b ps e=>⟨#[],by rw[e];simp⟩) (fun m hm=>?_) (fun b u e=>?_) I.bare
 ·obtain⟨o,es,ep,ho,r⟩:=hm
  exact⟨o,es,ep,k _ o (fun z=>(hf _ z).2.1 rfl) ho,r⟩
 ·refine(I.hok b u e).stay (fun c v hc q=>k c v ?_ q) (fun _ q=>q) fun _ _ q=>q
  rcases hc with z|z
  ·rw[z];exact nit b u e
  ·exact nit c _ z
theorem _root_.L2.Inv.sq{b:Bool}{a:Addr}{xs:List V}(I:Inv X pins σ H s)(h:Sq X.K b H a xs):∃its:List Value,cg xs its/\SA b s.heap a its.toArray:=by
 cases b with
 |true=>obtain⟨its,r,p,_⟩:=I.list h;exact⟨its,r,p.isList⟩
 |false=>obtain⟨its,r,p,_⟩:=I.tuple h;exact⟨its,r,p⟩
theorem _root_.L2.Inv.sq_inj{b:Bool}{a:Addr}{xs ys:List V}(I:Inv X pins σ H s)(h:Sq X.K b H a xs)(h2:Sq X.K b H a ys):xs=ys:=by
 cases b with
 |true=>exact I.list_inj h h2
 |false=>exact I.tuple_inj h h2
end
theorem zr{h:Heap}{ob o:Obj}{e:Addr}(q:(h.push ob).get? e=some o)(ne:e≠h.objs.size):h.get? e=some o:=(Heap.get?_push_ne h e ob ne).symm.trans q
theorem zH{P:Program}{w:World}{H:Hp}{h:Heap}{a:Addr}{x y:V}{u v:Value}(e:h.get? a=some { cls:=.type "tuple",data:=.seq #[u,v] })(rx:du x u)(ry:du y v):cZ P w H h a (.tup [x,y]):=
 ⟨by show 2<=sizeLine;decide,[u,v],.cons rx (.cons ry .nil),⟨_,e,rfl,_,rfl⟩⟩
section
variable{X:Cx}{pos:Pos}
def sC:U->Sto->Option (List U×(Sto->Prop))
 |.tup us,_=>some (us,fun _=>True)
 |.ref l,S=>match S[l]? with
  |some (.lst us)=>some (us,fun S=>S[l]?=some (.lst us))
  |_=>none
 |_,_=>none
theorem FH{K:PySem.W.Frag}{m:List Addr}{S:Sto}{H:Hp}{u:U}{v:V}{us:List U}{ok:Sto->Prop}(sr:Sr K m S H)(iu:Is K m H v u)(h:sC u S=some (us,ok)) :
  ∃b a,v=.ref a/\(∃xs,Sq K b H a xs)/\∀m2 S2 H2,Ext K m H m2 H2->Sr K m2 S2 H2->ok S2->∃xs,Sq K b H2 a xs/\IsL K m2 H2 xs us:=by
 cases u with
 |tup ws=>
  cases h
  obtain⟨a,xs,rfl,sq,il⟩:=iu.of_tup
  exact⟨false,a,rfl,⟨xs,sq⟩,fun m2 S2 H2 e _ _=>⟨xs,e.keep.t _ _ sq,il.mono e⟩⟩
 |ref l=>
  simp only[sC]at h
  split at h<;>try cases h
  rename_i us hS
  obtain⟨a,ha,rfl⟩:=iu.of_ref
  obtain⟨a',ha',xs,hx,il⟩:=sr.get hS
  rw[ha]at ha';cases ha'
  refine⟨true,a,rfl,⟨xs,SqL.of hx⟩,fun m2 S2 H2 e sr2 hok=>?_⟩
  obtain⟨a',ha',xs,hx,il⟩:=sr2.get hok
  rw[e.get ha]at ha';cases ha'
  exact⟨xs,SqL.of hx,il⟩
 |_=>simp[sC]at h
end
theorem D3{b:Bool}{prog:Program}{w:World}{A:Around}(hh:A.handled=none)(it a:Addr)(hne:a≠it)(ys:Array Value) :
  Draws prog w A it [it,a] ys.size (fun i v=>ys[i]?=some v) (fun i h=>SI b h it a i/\SA b h a ys) where
 live:=fun _ _ st=>let ⟨o,ho,_⟩:=st.1.obj;⟨o,ho⟩
 frame:=fun _ _ _ st hk=>⟨st.1.at_ fun o e=>hk it (by simp) o e,st.2.at_ fun o e=>hk a (by simp) o e⟩
 item:=fun i s Q E hi st hQ=>CC st.1 st.2 (y:=ys[i]) (by simp[hi]) fun h' it' s'=>hQ _ h' s.toks (by simp[hi]) ⟨it',st.2.at_ fun o e=>s'.extBut _ _ hne e⟩ s'
 done:=fun s Q E st hE=>lG hh st.1 st.2 (by simp) hE
structure ESt(b:Bool)(h:Heap)(e it a:Addr)(n:Nat):Prop where
 he:∃old,IsEnum h e it n old
 hi:SI b h it a n
theorem xB(l:Addr)(ys:Array Value)(n:Nat)(dct:Option Addr)(sl:Array (Option Value)) :
  Meets (Builtin.«enumerate.__new__» ⟨[.type "enumerate",.ref l],[]⟩) (fun _ R s=>s.heap.get? l=some { cls:=.type "tuple",dict:=dct,data:=.seq ys n,slots:=sl }/\
   R (.ok (.ret (.ref (s.heap.push (itO false l)).objs.size))) { s with heap:=(s.heap.push (itO false l)).push { cls:=.type "enumerate",data:=.fields #[.none,.bool false,.ref s.heap.objs.size,rawInt 0,.none,.none] } }):=
 .of_wp fun prog w A R s q=>by
  obtain⟨hp,g,d,tk,os⟩:=s
  obtain⟨gl,q⟩:=q
  have sb:=sub_enumerate
  have tl:Heap.IsTuple (Shared.heap ⟨hp,g,d,tk,os⟩) l ys:=⟨_,gl,rfl,n,rfl⟩
  wp_walk using wpAny_loadPart' gl
  refine wpAny_stack_any (fun st=>wpAny_pure ?_)
  split
  ·rename_i c _ _ _ _ _
   cases (c == Value.type "enumerate")<;>(wp_walk using wpAny_loadPart' gl,wpAny_pyIter_tuple tl;exact⟨_,rfl,q⟩)
  ·wp_walk using wpAny_loadPart' gl,wpAny_pyIter_tuple tl
   exact⟨_,rfl,q⟩
theorem xC{b:Bool}{prog:Program}{w:World}{A:Around}{E:Value->Shared->Prop}{s:Shared}{a:Addr}{ys:Array Value}{Q:Value->Shared->Prop}(ha:SA b s.heap a ys)
  (k:∀h' e it,e≠it->s.heap.objs.size<=e->s.heap.objs.size<=it->ESt b h' e it a 0->(∀c o,s.heap.get? c=some o->h'.get? c=some o)->Q (.ref e) { s with heap:=h' }) :
  wpAny (model prog w) A (call (.type "enumerate") [.ref a]) Q E s:=by
 cases b with
 |true=>exact call_enumerate_list ha fun h' e1 e2 sz up=>k h' _ _ (by omega) (Nat.le_add_right _ _) (Nat.le_refl _) ⟨⟨_,e1⟩,e2⟩ up
 |false=>
  obtain⟨⟨c,dct,dt,sl⟩,gl,hc,n,hd⟩:=ha
  simp only at hc hd
  subst hc hd
  refine callType_new PySem.F.called_enumerate (by decide) (PySem.F.typeCall_enumerate_1 _) (PySem.F.newCall_enumerate_1 _) (fun obj=>PySem.F.args_object_init_2 obj _) PySem.F.entry_enumerate_new (xB a ys n dct sl) ⟨gl,?_⟩
  have n1:(s.heap.push (itO false a)).objs.size=s.heap.objs.size+1:=Heap.size_push ..
  have p2:=Heap.get?_push_size (s.heap.push (itO false a)) (o:={ cls:=.type "enumerate",data:=.fields #[.none,.bool false,.ref s.heap.objs.size,rawInt 0,.none,.none] }) rfl
  have p1:((s.heap.push (itO false a)).push { cls:=.type "enumerate",data:=.fields #[.none,.bool false,.ref s.heap.objs.size,rawInt 0,.none,.none] }).get? s.heap.objs.size=some (itO false a):=Heap.get?_push_of_some _ (Heap.get?_push_size _ rfl)
  rw[n1]at p2
  show _/\_
  rw[n1]
  exact⟨⟨_,p2,rfl⟩,k _ (s.heap.objs.size+1) s.heap.objs.size (Nat.ne_of_gt (Nat.lt_succ_self _)) (Nat.le_add_right _ _) (Nat.le_refl _) ⟨⟨_,p2⟩,Hq p1⟩ fun c o x=>Heap.get?_push_of_some _ (Heap.get?_push_of_some _ x)⟩
theorem Ai{b:Bool}{prog:Program}{w:World}{A:Around}{E:Value->Shared->Prop}{s:Shared}{e it a:Addr}{i:Int}{j:Nat}{ys:Array Value}{old:Value}{Q:Option Value->Shared->Prop}(hh:A.in1.handled=none)(he:IsEnum s.heap e it i old)(hi:SI b s.heap it a j)(ha:SA b s.heap a ys)(hx:ys[j]?=none)
  (k:∀h',Heap.ExtBut it s.heap h'->Q none { s with heap:=h' }):wpAny (model prog w) A (pyNext (.ref e)) Q E s:=by
 have ty:s.TypeIs (.ref e) "enumerate":=⟨_,he,rfl⟩
 unfold pyNext
 refine wpAny_bind (wpAny_attempt (wpAny_callSpecial?_slot (name:=Str.ofString "__next__") ty PySem.F.slot_enumerate_next (wpAny_call_entry PySem.F.slot_enumerate_next ty PySem.F.entry_enumerate_next ?_ (PySem.F.args_enumerate_next_1 _))))
 show wpAny _ _ (field (.ref e) 2 >>= fun _=>_) _ _ _
 refine wpAny_bind (wpAny_field he rfl (x:=.ref it) rfl (wpAny_bind (lG hh hi ha hx fun h' x he' hx'=>?_)))
 obtain⟨o,ho,co⟩:=hx'
 exact wpAny_bind (wpAny_isInstance (T:="StopIteration") (b:=true) ⟨o,ho,co⟩ isSubtype_stop (wpAny_pure (k _ he')))
def Ite(K:PySem.W.Frag)(b:Bool)(a:Addr):It:=
  ⟨fun i H=>∃xs x,Sq K b H a xs/\xs[i]?=some x,
   fun i H v H'=>∃p x,v=.ref p/\H p=none/\H'=upd H p (.tup [.int i,x])/\∀xs,Sq K b H a xs->xs[i]?=some x,
   fun i H=>∃xs,Sq K b H a xs/\xs.length<=i⟩
theorem vE{P:Program}{w:World}{K:PySem.W.Frag}{es:List Expr}{k:Nat}{pos:Pos}{b:Bool}{e it a:Addr}(ne:e≠it)(nae:a≠e)(nai:a≠it) :
  En P w K (.Tuple es k pos) (Ite K b a) [e,it] e (fun n h=>ESt b h e it a n) where
 mem:=by simp
 obj:=fun n h st c hc=>by
  obtain⟨⟨old,he⟩,hi⟩:=st
  simp only[List.mem_cons,List.not_mem_nil,or_false]at hc
  rcases hc with rfl|rfl
  ·exact⟨_,he,fun v q=>by cases q⟩
  ·exact hi.obj
 keep:=fun n h h' st kp=>let ⟨old,he⟩:=st.he;⟨⟨old,kp e (by simp) _ he⟩,st.hi.at_ fun o q=>kp it (by simp) o q⟩
 item:=by
  intro X hP hw hK hc n pins s σ H E Iv hf st hg
  subst hP hw hK
  obtain⟨xs,x,qa,hx⟩:=hg
  obtain⟨ia,ra,sa⟩:=Iv.sq qa
  obtain⟨u,hu,ru⟩:=ra.get hx
  obtain⟨⟨old,he⟩,hi⟩:=st
  have hlt:n<ia.toArray.size:=by simpa using (List.getElem?_eq_some_iff.mp hu).1
  refine wpAny_pyNext_enum_itemD (D3 (b:=b) (show X.A.in1.handled=none from Iv.ok.hd hc) it a nai ia.toArray) he ⟨hi,sa⟩ hlt ne (by simp[ne,Ne.symm nae]) fun y h1 tk py out1 st1 T1 sz1 up1=>⟨_,rfl,wpAny_letOwnedTupleGo_enum out1 fun h2 e2 s2=>?_⟩
  have ey:y=u:=by
   have p':ia.toArray[n]?=some y:=py
   rw[List.getElem?_toArray,hu]at p';cases p';rfl
  subst ey
  have hfr:H s.heap.objs.size=none:=Iv.hok.fresh (Nat.le_refl _)
  have elt:e<s.heap.objs.size:=Heap.lt_size he
  have ilt:it<s.heap.objs.size:=by obtain⟨o,q,_⟩:=hi.obj;exact Heap.lt_size q
  have sz:∀c∈[e,it],c<s.heap.objs.size:=fun c hc=>by
   simp only[List.mem_cons,List.not_mem_nil,or_false]at hc
   rcases hc with rfl|rfl
   ·exact elt
   ·exact ilt
  have T2:h2.get? s.heap.objs.size=some { cls:=.type "tuple",data:=.seq #[.int n tk,y] }:=s2.extBut _ _ (Nat.ne_of_gt elt) T1
  have I1:Inv X pins σ (upd H s.heap.objs.size (.tup [.int n,x])) { s with heap:=s.heap.push { cls:=.type "tuple",data:=.seq #[.int n tk,y] },toks:=s.toks }:=
   Iv.laid (fun b o e=>Heap.get?_push_of_some _ e) (Nat.le_refl _) (zH (Heap.get?_push_size _ rfl) ⟨tk,rfl⟩ ru)
  have fr2:∀c∈[e,it],(upd H s.heap.objs.size (.tup [.int n,x])) c=none:=fun c hc=>by rw[bD (Nat.ne_of_lt (sz c hc))];exact(hf c hc).1
  have I2:Inv X pins σ (upd H s.heap.objs.size (.tup [.int n,x])) { s with heap:=h2,toks:=tk+1 }:=
   Inv.turnedL (s:={ s with heap:=s.heap.push { cls:=.type "tuple",data:=.seq #[.int n tk,y] },toks:=s.toks }) (h':=h2) (t':=tk+1) (ch:=[e,it]) I1 (fun c o hn q=>by
    by_cases ce:c=s.heap.objs.size
    ·subst ce
     have q':(s.heap.push { cls:=.type "tuple",data:=.seq #[.int n tk,y] }).get? s.heap.objs.size=some o:=q
     rw[Heap.get?_push_size _ rfl]at q'
     cases q';exact T2
    ·have q':s.heap.get? c=some o:=zr q ce
     simp only[List.mem_cons,List.not_mem_nil,or_false,not_or]at hn
     exact s2.extBut _ _ hn.1 (up1 c o hn.1 hn.2 q')) fun c hc=>⟨fr2 c hc,(hf c hc).2⟩
  refine⟨.ref s.heap.objs.size,_,I2,rfl,⟨_,x,rfl,hfr,rfl,fun xs' q=>by rw[Iv.sq_inj q qa];exact hx⟩,⟨⟨_,by simpa using e2⟩,st1.1.at_ fun o q=>s2.extBut _ _ (Ne.symm ne) q⟩,fr2⟩
 done:=by
  intro X hP hw hK hc n pins s σ H E Iv hf st hg
  subst hP hw hK
  obtain⟨xs,qa,hx⟩:=hg
  obtain⟨ia,ra,sa⟩:=Iv.sq qa
  have la:=ra.length
  obtain⟨⟨old,he⟩,hi⟩:=st
  refine Ai (show X.A.in1.handled=none from Iv.ok.hd hc) he hi sa (by simp;omega) fun h1 up1=>⟨rfl,?_⟩
  exact Iv.turnedL (t':=s.toks) (ch:=[e,it]) (fun c o hn q=>by
   simp only[List.mem_cons,List.not_mem_nil,or_false,not_or]at hn
   exact up1 c o hn.2 q) hf
 self:=fun _ _ _ _ _ st h=>let ⟨old,he⟩:=st.he;wpAny_pyIter_enum he h
def Hz(K:PySem.W.Frag)(ta:TA):TI:=fun σ H R=>ta σ H fun vs H2=>∃b a,vs=[.ref a]/\(∃xs,Sq K b H2 a xs)/\R (Ite K b a) H2
theorem yd:bootBuiltins "enumerate"=some (.type "enumerate"):=rfl
section
variable{X:Cx}{pos:Pos}
theorem Cj{es:List Expr}{k:Nat}{tp p:Pos}{a:Expr}{ta:TA}(hg:Gl X "enumerate")(hm:X.mg "enumerate"=none)(ha:WA X [a] ta)
  (hs:starEach [a] X.env=(false,eval a X.env)::starEach [] X.env:=by rfl) (hpl:(backTo pos (starEach [] X.env)).any (·.1)=false:=by rfl):WI X (.Tuple es k tp) (.Call (.Name "enumerate" p) [a] [] pos) (Hz X.K ta):=by
 constructor
 intro pins s σ H R I h
 refine wpAny_Call_Name_kw (nN I hg hm OP.yd ?_)
 refine PyProof.Rows.callWith_type1 (thn (ha.h pos pins s σ H _ I h) fun us s1 hz=>?_) hs hpl
 obtain⟨vs,H1,I1,r1,q1⟩:=hz
 obtain⟨b,aa,rfl,⟨xs,qa⟩,q⟩:=q1
 obtain⟨u,rfl,ru⟩:=m8 r1
 cases ru
 obtain⟨ia,ra,sa⟩:=I1.sq qa
 refine xC sa fun h1 e it ne he hi st up=>?_
 obtain⟨old,hE⟩:=st.he
 refine wpAny_pyIter_enum hE ⟨e,[e,it],_,_,H1,rfl,I1.kept (t':=s1.toks) up,vE ne (Nat.ne_of_lt (Nat.lt_of_lt_of_le sa.lt he)) (Nat.ne_of_lt (Nat.lt_of_lt_of_le sa.lt hi)),st,fun c hc=>?_,q⟩
 simp only[List.mem_cons,List.not_mem_nil,or_false]at hc
 rcases hc with rfl|rfl
 ·exact I1.fpOk he (I1.hok.fresh he)
 ·exact I1.fpOk hi (I1.hok.fresh hi)
def qg(us:List U):List U:=us.zipIdx.map fun p=>.tup [.int p.2,p.1]
def mJ(ca:CE):CI:=fun ρ S=>(ca ρ S).bind fun p=>(sC p.1 p.2).bind fun x=>some (qg x.1,x.2,p.2)
theorem qR{es:List Expr}{k:Nat}{tp p:Pos}{a:Expr}{ca:CE}(hg:Gl X "enumerate")(hm:X.mg "enumerate"=none)(ha:QE X a ca)
  (hs:starEach [a] X.env=(false,eval a X.env)::starEach [] X.env:=by rfl) (hpl:(backTo pos (starEach [] X.env)).any (·.1)=false:=by rfl) :
  QI X (.Tuple es k tp) (.Call (.Name "enumerate" p) [a] [] pos) (mJ ca):=(Cj hg hm (gB ha lF hs) hs hpl).imp fun σ H R hz=>uL hz fun m ρ S us ok S' sr lr hf post=>by
 obtain⟨⟨x,S1⟩,h1,h⟩:=Option.bind_eq_some_iff.mp hf
 obtain⟨⟨xs,okx⟩,h3,h⟩:=Option.bind_eq_some_iff.mp h
 cases h
 refine⟨m,ρ,S,x,_,sr,lr,h1,fun m1 v1 H1 e1 sr1 i1=>?_⟩
 obtain⟨b,aa,rfl,q1,k1⟩:=FH sr1 i1 h3
 refine⟨b,aa,rfl,q1,post m1 H1 _ e1 sr1 fun m3 S3 H3 i e3 sr3 hok=>?_⟩
 obtain⟨vs,sq1,l1⟩:=k1 m3 S3 H3 e3 sr3 hok
 have n1:=l1.length
 refine⟨fun u hu=>?_,fun hi=>⟨vs,sq1,?_⟩⟩
 ·simp only[qg,List.getElem?_map,Option.map_eq_some_iff,List.getElem?_zipIdx]at hu
  obtain⟨⟨p,q⟩,⟨y,hp,e⟩,rfl⟩:=hu
  cases e
  obtain⟨vp,ep,ip⟩:=l1.getD hp
  refine⟨⟨vs,vp,sq1,ep⟩,fun v H4 hy=>?_⟩
  obtain⟨r,x',rfl,hr,rfl,f1⟩:=hy
  have:=f1 vs sq1
  rw[ep]at this;cases this
  have ee:Ext X.K m3 H3 m3 (upd H3 r (.tup [.int i,vp])):=.of (cQ hr _)
  exact⟨ee,sr3.same (dJ hr _),.tup_ (SqT.of aV) (.cons_ (by simp only[Nat.zero_add];exact .int_) (.cons_ (ip.mono ee) .nil_))⟩
 ·simp only[qg,List.length_map,List.length_zipIdx]at hi
  omega
def gN:List (CE×CE)->Rho->Sto->Option (List (Key×U)×Sto)
 |[],_,S=>some ([],S)
 |(ck,cv)::r,ρ,S=>(ck ρ S).bind fun p=>(cv ρ p.2).bind fun q=>(gR p.1).bind fun k=>(gN r ρ q.2).bind fun z=>some ((k,q.1)::z.1,z.2)
def GH(kus:List (Key×U))(au:List (Key×U)):List (Key×U):=kus.foldl (fun acc kv=>lz acc kv.1 kv.2) au
def wO(kus:List (Key×U)):List (Key×U):=GH kus []
def Ay(prs:List (CE×CE)):CE:=fun ρ S=>(gN prs ρ (S++[.dic []])).bind fun q=>match q.2[S.length]? with
 |some (.dic [])=>some (.ref S.length,q.2.set S.length (.dic (wO q.1)))
 |_=>none
end
theorem p8:∀{vs:List Value} {ns:List Int},IntsAre vs ns->cg (ns.map V.int) vs
 |_,_,.nil=>.nil
 |_,_,.cons n t r=>.cons ⟨t,rfl⟩ (p8 r)
theorem fX:∀{ns:List Int} {vs:List Value},cg (ns.map V.int) vs->IntsAre vs ns
 |[],_,h=>by cases h;exact .nil
 |n::ns,_,.cons r t=>by
  obtain⟨k,rfl⟩:=r
  exact .cons n k (fX t)
def vW(K:PySem.W.Frag):List V->Hp->VK->Prop:=fun xs H Q=>∃(p:Addr) (ns:List Int),xs=[.ref p]/\(SqL K H p (ns.map V.int)\/∃kvs,H p=some (.dK kvs)/\kvs.map (·.1)=ns.map Sum.inl)/\ns.length<64/\
 ∀(l:Addr) (ms:List Int),H l=none->ms.Perm ns->ms.Pairwise (·<=·)->Q (.ref l) (upd H l (.lst (ms.map V.int)))
theorem wY{κ:Type}:∀{kvs:List (κ×V)} {vs:List (κ×Value)},KV kvs vs->vs.map (·.1)=kvs.map (·.1)
 |_,_,.nil=>rfl
 |_,_,.cons r t=>by rw[List.map_cons,List.map_cons,wY t,r.1]
theorem rg{P:Program}{w:World}{H:Hp}{h:Heap}{a:Addr}{ms:List Int}{out:Array Value}{e:Nat}(g:h.get? a=some (seqObj "list" out e))(hI:IntsAre out.toList ms)(hl:ms.length<64):cZ P w H h a (.lst (ms.map V.int)):=
 ⟨by rw[List.length_map];exact Nat.le_of_lt (Nat.lt_of_lt_of_le hl (by unfold sizeLine;decide)),out.toList,e,p8 hI,by rw[Array.toArray_toList];exact g⟩
theorem zP{X:Cx}(hc:X.calm=true):gy X (.builtin "sorted") (vW X.K):=by
 rintro pins s σ H xs us Q I r ⟨p,ns,rfl,src,h64,q⟩
 obtain⟨u,rfl,ru⟩:=m8 r
 cases ru
 rcases src with hL|⟨kvs,hD,hk⟩
 ·obtain⟨its,rv,pl,hz⟩:=I.list hL
  have hI:=fX rv
  have hlen:=rv.length
  rw[List.length_map]at hlen
  refine sorted_ints pl.isList hI (by omega) fun out ms a1 a2 a3=>?_
  obtain⟨e,ge⟩:=sortedAll_at s.heap its out
  have hf:=I.hok.fresh (Nat.le_succ s.heap.objs.size)
  exact⟨.ref (s.heap.objs.size+1),_,I.laid (t':=s.toks) (fun b o e=>sortedAll_old e) (Nat.le_succ _) (rg ge a1 (by rw[a2.length_eq];exact h64)),rfl,q _ ms hf a2 a3⟩
 ·obtain⟨z,hd,vs,rel,dd⟩:=HK I.hok hD
  obtain⟨ep,da⟩:=dd.dictAt
  have lkv:kvs.length=ns.length:=by have:=congrArg List.length hk;simpa using this
  have lv:vs.length=ns.length:=by rw[<-Paired.length rel];exact lkv
  have ks:vs.map (·.1)=ns.map Sum.inl:=by
   rw[<-hk];exact wY rel
  refine Calls.call_function_entry kind_sorted plain_sorted entry_sorted (args_sorted1 _) ?_
  unfold Builtin.«sorted»
  refine wpAny_bind (m:=checkCount "sorted" 1 1 _) (wpAny_pure (wpAny_bind (PySem.W.kdu_collect (PySem.W.kdl_dict (kvs:=vs) (ep:=ep) hd) (show X.A.in1.handled=none from I.ok.hd hc) da (by rw[lv,<-lkv];exact z) fun h1 tk acc up hac=>?_)))
  have hla:acc.toList.length=ns.length:=by rw[Array.length_toList,hac.1,lv]
  have hI:IntsAre acc.toList ns:=by
   have key:∀(i:Nat) (v:Value),acc.toList[i]?=some v->∃(n:Int) (t:Tok),ns[i]?=some n/\v=Value.int n t:=fun i v e=>by
    obtain⟨k,x,e1,e2⟩:=hac.2 i v (by rw[<-Array.getElem?_toList];exact e)
    have e3:(vs.map (·.1))[i]?=some k:=by rw[List.getElem?_map,e1];rfl
    rw[ks,List.getElem?_map]at e3
    obtain⟨n,e4,e5⟩:=Option.map_eq_some_iff.mp e3
    subst e5
    rcases b8 (k:=Sum.inl n) e2 with⟨j,t,e6,e7⟩|⟨j,t,e6,e7⟩
    ·cases e6;exact⟨n,t,e4,e7⟩
    ·cases e6
   clear hac
   generalize acc.toList=L at key hla
   clear ks lv lkv h64 q hk
   induction L generalizing ns with
   |nil=>cases ns with
    |nil=>exact .nil
    |cons a b=>simp at hla
   |cons a b ih=>cases ns with
    |nil=>simp at hla
    |cons c d=>
     obtain⟨n,t,e1,e2⟩:=key 0 a (by simp)
     simp at e1;subst e1;subst e2
     exact .cons _ t (ih _ (fun i v e=>by have:=key (i+1) v (by simpa using e);simpa using this) (by simpa using hla))
  refine wpAny_bind (wpAny_newList ?_ (by rw[hla,<-lkv];exact z))
  have gL:(h1.push { cls:=.type "list",data:=.seq acc.toList.toArray }).get? h1.objs.size=some (seqObj "list" acc.toList.toArray 0):=Heap.get?_push_size _ rfl
  refine wpAny_bind (wpAny_holding (wpAny_call_entry slot_list_sort ⟨_,gL,rfl⟩ entry_list_sort (list_sort_tree (s:={ s with heap:=h1.push { cls:=.type "list",data:=.seq acc.toList.toArray },toks:=tk }) gL hI (by omega) fun out ms a1 a2 a3=>⟨_,rfl,?_⟩) (args_list_sort _)))
  obtain⟨e,ge⟩:=sortedHeap_at (out:=out) gL
  have I1:Inv X pins σ H { s with heap:=h1,toks:=tk }:=I.kept up
  have hf:=I1.hok.fresh (Nat.le_refl h1.objs.size)
  refine wpAny_pure ⟨_,rfl,.ref h1.objs.size,_,Inv.laid (s:={ s with heap:=h1,toks:=tk }) (h':=sortedHeap (h1.push { cls:=.type "list",data:=.seq acc.toList.toArray }) h1.objs.size acc.toList out) (t':=tk) I1 (fun b o g1=>?_) (Nat.le_refl _) (rg ge a1 (by rw[a2.length_eq];exact h64)),rfl,q _ ms hf a2 a3⟩
  have g1:h1.get? b=some o:=g1
  have lt1:=Heap.lt_size g1
  rw[sortedHeap_old (Nat.ne_of_lt lt1) (by rw[Heap.size_push];exact Nat.lt_succ_of_lt lt1)]
  exact Heap.get?_push_of_some _ g1
def dc(ns:List Int):List Int:=ns.mergeSort (fun a b=>decide (a<=b))
theorem aX(ns:List Int):(dc ns).Perm ns:=List.mergeSort_perm ..
theorem j7(ns:List Int):(dc ns).Pairwise (·<=·):=by
 have:=List.pairwise_mergeSort (le:=fun(a b:Int)=>decide (a<=b)) (fun a b c h1 h2=>by simp at h1 h2 ⊢;omega) (fun a b=>by simp;omega) ns
 exact this.imp fun h=>by simpa using h
theorem lx{ns ms:List Int}(p:ms.Perm ns)(s:ms.Pairwise (·<=·)):ms=dc ns:=PySem.W.lks_uniq (p.trans (aX ns).symm) s (j7 ns)
def rp:List (Key×U)->Option (List Int)
 |[]=>some []
 |(.inl n,_)::r=>(rp r).map (n::·)
 |_=>none
theorem sY:∀{kus:List (Key×U)} {ns:List Int},rp kus=some ns->kus.map (·.1)=ns.map Sum.inl
 |[],ns,h=>by cases h;rfl
 |(k,u)::r,ns,h=>by
  cases k<;>simp only[rp]at h<;>try cases h
  obtain⟨ms,e,h⟩:=Option.map_eq_some_iff.mp h
  subst h
  simp[sY e]
def jR:Fn
 |[.ref l],S=>match S[l]? with
  |some (.lst us)=>(nc us).bind fun ns=>if ns.length<64 then some (.ref S.length,S++[.lst ((dc ns).map U.int)])else none
  |some (.dic kus)=>(rp kus).bind fun ns=>if ns.length<64 then some (.ref S.length,S++[.lst ((dc ns).map U.int)])else none
  |_=>none
 |_,_=>none
theorem zK{K:PySem.W.Frag}:m6 K (vW K) jR:=by
 intro m S H us vs u S' Q sr i hf post
 match us,hf with
 |[.ref l],hf=>
  obtain⟨v,rfl,iv⟩:=i.one
  obtain⟨a,ha,rfl⟩:=iv.of_ref
  simp only[jR]at hf
  split at hf<;>try cases hf
  ·rename_i ws hS
   obtain⟨ns,hn,h⟩:=Option.bind_eq_some_iff.mp hf
   split at h<;>try cases h
   have hc:ns.length<64:=by assumption
   obtain⟨a',ha',xs,hx,la⟩:=sr.get hS
   rw[ha]at ha';cases ha'
   rw[ju hn]at la
   rw[la.ints]at hx
   refine⟨a,ns,rfl,.inl (SqL.of hx),hc,fun p ms hp pm sm=>?_⟩
   rw[lx pm sm]
   exact dM sr (iB _) post hp
  ·rename_i ws hS
   obtain⟨ns,hn,h⟩:=Option.bind_eq_some_iff.mp hf
   split at h<;>try cases h
   have hc:ns.length<64:=by assumption
   obtain⟨a',ha',kvs,hx,ip⟩:=sr.get hS
   rw[ha]at ha';cases ha'
   refine⟨a,ns,rfl,.inr ⟨kvs,hx,by rw[ip.1,sY hn]⟩,hc,fun p ms hp pm sm=>?_⟩
   rw[lx pm sm]
   exact dM sr (iB _) post hp
section
variable{ρ:Rho}{S:Sto}{c1 c2:CS}{t ta tb:CT}{ca cb cc:CE}{cr:CA}{u x y:U}{us:List U}{i l:Nat}{f g:U->U->Sto->Option (U×Sto)}{b:Bool}
def LI(S:Sto):Option (Option U)->Option (U×Sto)
 |some (some u)=>some (u,S)
 |_=>none
theorem EA:ak i ρ S=LI S (ρ[i]?):=rfl
theorem AH:LI S (some (some u))=some (u,S):=rfl
theorem x_c:cC u ρ S=some (u,S):=rfl
def K1(f:U->U->Sto->Option (U×Sto))(x:U)(q:U×Sto):=f x q.1 q.2
def LN(f:U->U->Sto->Option (U×Sto))(cb:CE)(ρ:Rho)(p:U×Sto):=(cb ρ p.2).bind (K1 f p.1)
theorem Je:cOp f ca cb ρ S=(ca ρ S).bind (LN f cb ρ):=rfl
theorem By:LN f cb ρ (x,S)=(cb ρ S).bind (K1 f x):=rfl
theorem Bx:K1 f x (y,S)=f x y S:=rfl
def Hb:U×Sto->Option (Bool×Sto)
 |(.bl b,S)=>some (b,S)
 |_=>none
theorem AI:aH ca ρ S=(ca ρ S).bind Hb:=by
 unfold aH;congr 1;funext p;obtain⟨u,S⟩:=p;cases u<;>rfl
theorem va:Hb (.bl b,S)=some (b,S):=rfl
def La(tb:CT)(ρ:Rho)(p:Bool×Sto):=if p.1=true then tb ρ p.2 else some (false,p.2)
def kOr(tb:CT)(ρ:Rho)(p:Bool×Sto):=if p.1=true then some (true,p.2)else tb ρ p.2
def LO(p:Bool×Sto):Option (Bool×Sto):=some (!p.1,p.2)
theorem JV:lC ta tb ρ S=(ta ρ S).bind (La tb ρ):=rfl
theorem Fg:La tb ρ (true,S)=tb ρ S:=rfl
theorem Ff:La tb ρ (false,S)=some (false,S):=rfl
theorem Mh:cOr ta tb ρ S=(ta ρ S).bind (kOr tb ρ):=rfl
theorem Jd:kOr tb ρ (true,S)=some (true,S):=rfl
theorem Jc:kOr tb ρ (false,S)=tb ρ S:=rfl
theorem Jf:HQ ta ρ S=(ta ρ S).bind LO:=rfl
theorem EU:LO (b,S)=some (!b,S):=rfl
def DI(cb:CE)(ρ:Rho):U×Sto->Option (U×Sto)
 |(.bl true,S)=>cb ρ S
 |(.bl false,S)=>some (.bl false,S)
 |_=>none
def K0(cb:CE)(ρ:Rho):U×Sto->Option (U×Sto)
 |(.bl false,S)=>cb ρ S
 |(.bl true,S)=>some (.bl true,S)
 |_=>none
def Hf:U×Sto->Option (U×Sto)
 |(.bl b,S)=>some (.bl (!b),S)
 |_=>none
theorem Fe:uS ca cb ρ S=(ca ρ S).bind (DI cb ρ):=by
 unfold uS;congr 1;funext p;obtain⟨u,S⟩:=p;cases u with
 |bl b=>cases b<;>rfl
 |_=>rfl
theorem BQ:DI cb ρ (.bl true,S)=cb ρ S:=rfl
theorem BP:DI cb ρ (.bl false,S)=some (.bl false,S):=rfl
theorem Jb:LY ca cb ρ S=(ca ρ S).bind (K0 cb ρ):=by
 unfold LY;congr 1;funext p;obtain⟨u,S⟩:=p;cases u with
 |bl b=>cases b<;>rfl
 |_=>rfl
theorem ES:K0 cb ρ (.bl false,S)=cb ρ S:=rfl
theorem ER:K0 cb ρ (.bl true,S)=some (.bl true,S):=rfl
theorem ET:HP ca ρ S=(ca ρ S).bind Hf:=by
 unfold HP;congr 1;funext p;obtain⟨u,S⟩:=p;cases u<;>rfl
theorem Bz:Hf (.bl b,S)=some (.bl (!b),S):=rfl
def xa(u:U)(q:List U×Sto):Option (List U×Sto):=some (u::q.1,q.2)
def A6(cr:CA)(ρ:Rho)(p:U×Sto):=(cr ρ p.2).bind (xa p.1)
theorem BA:ax ρ S=some ([],S):=rfl
theorem vc:ae ca cr ρ S=(ca ρ S).bind (A6 cr ρ):=rfl
theorem qF:A6 cr ρ (u,S)=(cr ρ S).bind (xa u):=rfl
theorem qE:xa u (us,S)=some (u::us,S):=rfl
def LJ(p:List U×Sto):Option (U×Sto):=some (.tup p.1,p.2)
def LP(p:List U×Sto):Option (U×Sto):=some (.ref p.2.length,p.2++[.lst p.1])
theorem IQ:cu cr ρ S=(cr ρ S).bind LJ:=rfl
theorem EE:LJ (us,S)=some (.tup us,S):=rfl
theorem Jo:iH cr ρ S=(cr ρ S).bind LP:=rfl
theorem EX:LP (us,S)=some (.ref S.length,S++[.lst us]):=rfl
def kCB(f:Fn)(p:List U×Sto):=f p.1 p.2
theorem Ik{f:Fn}:cCB f cr ρ S=(cr ρ S).bind (kCB f):=rfl
theorem yC{f:Fn}:kCB f (us,S)=f us S:=rfl
def LQ(T:Ty)(p:U×Sto):Option (U×Sto):=(tyU p.1 p.2).bind fun t=>some (.bl (J0 t T),p.2)
theorem Jv{T:Ty}:MO T ca ρ S=(ca ρ S).bind (LQ T):=rfl
theorem E3{T:Ty}:LQ T (u,S)=(tyU u S).bind fun t=>some (.bl (J0 t T),S):=rfl
def Hc(c2:CS):Out×Rho×Sto->Option (Out×Rho×Sto)
 |(.nx,ρ,S)=>c2 ρ S
 |(o,ρ,S)=>some (o,ρ,S)
theorem EF:bU ρ S=some (.nx,ρ,S):=rfl
theorem yB:bb c1 c2 ρ S=(c1 ρ S).bind (Hc c2):=by
 unfold bb;congr 1;funext p;obtain⟨o,ρ,S⟩:=p;cases o<;>rfl
theorem AJ:Hc c2 (.nx,ρ,S)=c2 ρ S:=rfl
theorem EM:Hc c2 (.rt u,ρ,S)=some (.rt u,ρ,S):=rfl
theorem EL:Hc c2 (.bk,ρ,S)=some (.bk,ρ,S):=rfl
theorem EK:Hc c2 (.ct,ρ,S)=some (.ct,ρ,S):=rfl
def Hh(ρ:Rho)(p:U×Sto):Option (Out×Rho×Sto):=some (.nx,ρ,p.2)
def LM(ρ:Rho)(p:U×Sto):Option (Out×Rho×Sto):=some (.rt p.1,ρ,p.2)
theorem E8:dS ca ρ S=(ca ρ S).bind (Hh ρ):=rfl
theorem BL:Hh ρ (u,S)=some (.nx,ρ,S):=rfl
theorem Bw:dU ca ρ S=(ca ρ S).bind (LM ρ):=rfl
theorem EN:LM ρ (u,S)=some (.rt u,ρ,S):=rfl
def K2(c1 c2:CS)(ρ:Rho)(p:Bool×Sto):=if p.1=true then c1 ρ p.2 else c2 ρ p.2
theorem BK:dF t c1 c2 ρ S=(t ρ S).bind (K2 c1 c2 ρ):=rfl
theorem AN:K2 c1 c2 ρ (true,S)=c1 ρ S:=rfl
theorem E5:K2 c1 c2 ρ (false,S)=c2 ρ S:=rfl
def kIf(ca cb:CE)(ρ:Rho)(p:Bool×Sto):=if p.1=true then ca ρ p.2 else cb ρ p.2
theorem Mt:cIf t ca cb ρ S=(t ρ S).bind (kIf ca cb ρ):=rfl
theorem Jz:kIf ca cb ρ (true,S)=ca ρ S:=rfl
theorem Jy:kIf ca cb ρ (false,S)=cb ρ S:=rfl
def LK(i:Nat)(ρ:Rho)(p:U×Sto):Option (Out×Rho×Sto):=some (.nx,ρ.set i (some p.1),p.2)
theorem qC:bJ i ca ρ S=(ca ρ S).bind (LK i ρ):=rfl
theorem EJ:LK i ρ (u,S)=some (.nx,ρ.set i (some u),S):=rfl
def DH(q:Rho×Sto):Option (Out×Rho×Sto):=some (.nx,q.1,q.2)
def LR(g:CG)(ρ:Rho)(p:U×Sto):=(g p.1 ρ p.2).bind DH
theorem JT{g:CG}:LZ ca g ρ S=(ca ρ S).bind (LR g ρ):=rfl
theorem Fd{g:CG}:LR g ρ (u,S)=(g u ρ S).bind DH:=rfl
theorem Fc:DH (ρ,S)=some (.nx,ρ,S):=rfl
theorem JB:gNm i u ρ S=some (ρ.set i (some u),S):=rfl
theorem JA{is:List Nat}:gTp is (.tup us) ρ S=(gJ is us ρ).bind fun ρ'=>some (ρ',S):=rfl
theorem Fi:gJ [] [] ρ=some ρ:=rfl
theorem Fh{is:List Nat}:gJ (i::is) (u::us) ρ=gJ is us (ρ.set i (some u)):=rfl
def He(ρ:Rho)(S':Sto):Option (Out×Rho×Sto):=some (.nx,ρ,S')
def KY(o v:U)(ρ:Rho)(r:U×Sto):=(hG o r.1 v r.2).bind (He ρ)
def KZ(ci:CE)(v:U)(ρ:Rho)(q:U×Sto):=(ci ρ q.2).bind (KY q.1 v ρ)
def kSI(co ci:CE)(ρ:Rho)(p:U×Sto):=(co ρ p.2).bind (KZ ci p.1 ρ)
theorem Mb:jB ca cb cc ρ S=(cc ρ S).bind (kSI ca cb ρ):=rfl
theorem IX:kSI ca cb ρ (u,S)=(ca ρ S).bind (KZ cb u ρ):=rfl
theorem IW:KZ cb y ρ (u,S)=(cb ρ S).bind (KY u y ρ):=rfl
theorem IV:KY x y ρ (u,S)=(hG x u y S).bind (He ρ):=rfl
theorem IU:He ρ S=some (.nx,ρ,S):=rfl
def kIx(y:U)(S:Sto):Option O->Option (U×Sto)
 | some (.lst us)=>(match y with
   |.int i=>(atI us i).bind fun u=>some (u,S)
   |_=>none)
 |some (.dic kus)=>(gR y).bind fun k=>(cw kus k).bind fun u=>some (u,S)
 |some (.fdc _ kus)=>(gR y).bind fun k=>(cw kus k).bind fun u=>some (u,S)
 |_=>none
theorem Jq{j:Int}:fIx (.tup us) (.int j) S=(atI us j).bind fun u=>some (u,S):=rfl
theorem Jr:fIx (.ref l) y S=kIx y S S[l]?:=by
 unfold fIx kIx;dsimp only<;>(generalize S[l]?=q;rcases q with _|o<;>first|rfl|(cases o<;>rfl))
theorem Js{j:Int}:kIx (.int j) S (some (.lst us))=(atI us j).bind fun u=>some (u,S):=rfl
theorem Jt{kus:List (Key×U)}:kIx y S (some (.dic kus))=(gR y).bind fun k=>(cw kus k).bind fun u=>some (u,S):=rfl
def Iw(l:Nat)(i v:U)(S:Sto):Option O->Option Sto
 | some (.lst us)=>(match i with
   |.int k=>(ixN us.length k).bind fun j=>some (S.set l (.lst (us.set j v)))
   |_=>none)
 |some (.dic kus)=>(gR i).bind fun k=>if kus.length<LIM then some (S.set l (.dic (lz kus k v)))else none
 |_=>none
theorem IT:hG (.ref l) x y S=Iw l x y S S[l]?:=by
 unfold hG Iw;dsimp only<;>(generalize S[l]?=q;rcases q with _|o<;>first|rfl|(cases o<;>rfl))
theorem EG{j:Int}:Iw l (.int j) y S (some (.lst us))=(ixN us.length j).bind fun j=>some (S.set l (.lst (us.set j y))):=rfl
theorem EH{kus:List (Key×U)}:Iw l x y S (some (.dic kus))=(gR x).bind fun k=>if kus.length<LIM then some (S.set l (.dic (lz kus k y)))else none:=rfl
theorem at0{α:Type}{a:α}{r:List α}:atI (a::r) 0=some a:=by show atI _ ((0:Nat):Int)=_;exact mT rfl
theorem at1{α:Type}{a b:α}{r:List α}:atI (a::b::r) 1=some b:=by show atI _ ((1:Nat):Int)=_;exact mT rfl
theorem at2{α:Type}{a b c:α}{r:List α}:atI (a::b::c::r) 2=some c:=by show atI _ ((2:Nat):Int)=_;exact mT rfl
theorem at3{α:Type}{a b c d:α}{r:List α}:atI (a::b::c::d::r) 3=some d:=by show atI _ ((3:Nat):Int)=_;exact mT rfl
theorem ix0{n:Nat}:ixN (n+1) 0=some 0:=by simp[ixN]
theorem ix1{n:Nat}:ixN (n+1+1) 1=some 1:=by simp[ixN];omega
theorem ix2{n:Nat}:ixN (n+1+1+1) 2=some 2:=by simp[ixN];omega
def IB(S:Sto):Option O->Option (U×Sto)
 |some (.lst us)=>some (.int us.length,S)
 |some (.dic us)=>some (.int us.length,S)
 |_=>none
theorem AL:fU [.ref l] S=IB S S[l]?:=by
 unfold fU IB;dsimp only<;>(generalize S[l]?=q;rcases q with _|o<;>first|rfl|(cases o<;>rfl))
theorem AM:IB S (some (.lst us))=some (.int us.length,S):=rfl
theorem EZ{kus:List (Key×U)}:IB S (some (.dic kus))=some (.int kus.length,S):=rfl
theorem EY:fU [.tup us] S=some (.int us.length,S):=rfl
variable{j k:Int}
theorem JW:eI (.int j) (.int k) S=some (.int (j+k),S):=rfl
theorem IS:oZ (.int j) (.int k) S=some (.int (j-k),S):=rfl
theorem EV(h:yv j k):mN (.int j) (.int k) S=some (.int (j*k),S):=by simp[mN,fI,h]
theorem BM(h:uY j k):Ah (.int j) (.int k) S=some (.int (j / k),S):=by simp[Ah,fI,h]
theorem qD(h:0<k):o3 (.int j) (.int k) S=some (.int (j % k),S):=by simp[o3,fI,h]
theorem Ja(h:Eu j k):Ej (.int j) (.int k) S=some (.int (j^k.toNat),S):=by simp[Ej,fI,h]
theorem Mr:fLt (.int j) (.int k) S=some (.bl (decide (j<k)),S):=rfl
theorem Ms:fLe (.int j) (.int k) S=some (.bl (decide (j<=k)),S):=rfl
theorem Ls:fGt (.int j) (.int k) S=some (.bl (decide (k<j)),S):=rfl
theorem Mu:fGe (.int j) (.int k) S=some (.bl (decide (k<=j)),S):=rfl
theorem JG:fEq (.int j) (.int k) S=some (.bl (decide (j=k)),S):=rfl
theorem Ji:fNe (.int j) (.int k) S=some (.bl (!decide (j=k)),S):=rfl
theorem JF{a c:Str}:fEq (.str a) (.str c) S=some (.bl (decide (a=c)),S):=rfl
theorem Jh{a c:Str}:fNe (.str a) (.str c) S=some (.bl (!decide (a=c)),S):=rfl
theorem JH{a c:Bool}:fEq (.bl a) (.bl c) S=some (.bl (decide (a=c)),S):=rfl
theorem Jj{a c:Bool}:fNe (.bl a) (.bl c) S=some (.bl (!decide (a=c)),S):=rfl
def kFn:Out×Rho×Sto->Option (U×Sto)
 |(.rt u,_,S)=>some (u,S)
 |(.nx,_,S)=>some (.non,S)
 |_=>none
theorem iR{n k:Nat}(h:us.length=k):fnU n k c1 us S=(c1 (pE n us) S).bind kFn:=by
 unfold fnU;rw[if_pos h];congr 1;funext p;obtain⟨o,ρ,S⟩:=p;cases o<;>rfl
theorem JD:kFn (.rt u,ρ,S)=some (u,S):=rfl
theorem JC:kFn (.nx,ρ,S)=some (.non,S):=rfl
end
section
variable{ρ:Rho}{S:Sto}{c1 c2:CS}{t ta tb:CT}{ca cb cc:CE}{cr:CA}{u x y:U}{us:List U}{i l:Nat}{b:Bool}{c:Cl}{fus:List (Option U)}{g:Fn}
open Classical in
def z5(c:Cl)(i:Nat)(S:Sto):Option O->Option (U×Sto)
 |some (.ins c' fus)=>if c'=c then(fus[i]?).join.bind fun u=>some (u,S)else none
 |_=>none
def K3(c:Cl)(i:Nat)(p:U×Sto):=El c i p.1 p.2
theorem JE:m7 c i ca ρ S=(ca ρ S).bind (K3 c i):=rfl
theorem E7:K3 c i (.ref l,S)=z5 c i S S[l]?:=by
 unfold K3 El z5;dsimp only<;>(generalize S[l]?=q;rcases q with _|o<;>first|rfl|(cases o<;>rfl))
theorem E6:z5 c i S (some (.ins c fus))=((fus[i]?).join).bind fun u=>some (u,S):=by
 unfold z5;dsimp only;rw[if_pos rfl]
open Classical in
def Iy(c:Cl)(i l:Nat)(v:U)(S:Sto):Option O->Option Sto
 |some (.ins c' fus)=>if c'=c then some (S.set l (.ins c (fus.set i (some v))))else none
 |_=>none
def IA(c:Cl)(i:Nat)(v:U)(ρ:Rho)(q:U×Sto):=(rF c i q.1 v q.2).bind (He ρ)
def LL(c:Cl)(i:Nat)(ca:CE)(ρ:Rho)(p:U×Sto):=(ca ρ p.2).bind (IA c i p.1 ρ)
theorem Mc:jC c i ca cb ρ S=(cb ρ S).bind (LL c i ca ρ):=rfl
theorem I0:LL c i ca ρ (u,S)=(ca ρ S).bind (IA c i u ρ):=rfl
theorem IZ:IA c i u ρ (.ref l,S)=(Iy c i l u S S[l]?).bind (He ρ):=by
 unfold IA rF Iy;dsimp only<;>(generalize S[l]?=q;rcases q with _|o<;>first|rfl|(cases o<;>rfl))
theorem IY:Iy c i l u S (some (.ins c fus))=some (S.set l (.ins c (fus.set i (some u)))):=by
 unfold Iy;dsimp only;rw[if_pos rfl]
def w9(g:Fn)(l:Nat)(q:List U×Sto):=g (.ref l::q.1) q.2
open Classical in
def tm(c:Cl)(g:Fn)(cr:CA)(ρ:Rho)(l:Nat)(S:Sto):Option O->Option (U×Sto)
 |some (.ins c' _)=>if c'=c then(cr ρ S).bind (w9 g l)else none
 |_=>none
def DG(c:Cl)(g:Fn)(cr:CA)(ρ:Rho)(p:U×Sto):=uK c g p.1 p.2 (cr ρ)
theorem EW:eZ c g ca cr ρ S=(ca ρ S).bind (DG c g cr ρ):=rfl
theorem BD:DG c g cr ρ (.ref l,S)=tm c g cr ρ l S S[l]?:=by
 unfold DG uK tm;dsimp only<;>(generalize S[l]?=q;rcases q with _|o<;>first|rfl|(cases o<;>rfl))
theorem BC:tm c g cr ρ l S (some (.ins c fus))=(cr ρ S).bind (w9 g l):=by
 unfold tm;dsimp only;rw[if_pos rfl]
theorem BB:w9 g l (us,S)=g (.ref l::us) S:=rfl
def Hg(n:Nat):U×Sto->Option (U×Sto)
 |(.non,S)=>some (.ref n,S)
 |_=>none
theorem AK:rG c g us S=(g (.ref S.length::us) (S++[.ins c (List.replicate c.ns.length none)])).bind (Hg S.length):=by
 unfold rG;congr 1;funext p;obtain⟨u,S⟩:=p;cases u<;>rfl
theorem BE:Hg i (.non,S)=some (.ref i,S):=rfl
def kIn(neg:Bool)(x:U)(S:Sto):Option O->Option (U×Sto)
 |some (.lst us)=>if i7 x=true/\us.all i7=true then some (.bl (if neg then !inU x us else inU x us),S)else none
 |some (.dic kus)=>(gR x).bind fun k=>some (.bl (if neg then !(cw kus k).isSome else(cw kus k).isSome),S)
 |some (.fdc _ kus)=>(gR x).bind fun k=>some (.bl (if neg then !(cw kus k).isSome else(cw kus k).isSome),S)
 |_=>none
theorem Jw{neg:Bool}:fIn neg x (.ref l) S=kIn neg x S S[l]?:=by
 unfold fIn kIn;dsimp only<;>(generalize S[l]?=q;rcases q with _|o<;>first|rfl|(cases o<;>rfl))
theorem Jx{neg:Bool}{kus:List (Key×U)}:kIn neg x S (some (.dic kus))=(gR x).bind fun k=>some (.bl (if neg then !(cw kus k).isSome else(cw kus k).isSome),S):=rfl
theorem Jp{j:Int}:gR (.int j)=some (.inl j):=rfl
theorem E1{z:Str}:gR (.str z)=some (.inr z):=rfl
def K8(f:U->List U->Sto->Option (U×Sto))(x:U)(q:List U×Sto):=f x q.1 q.2
def K9(f:U->List U->Sto->Option (U×Sto))(cr:CA)(ρ:Rho)(x:U)(S:Sto):Option O->Option (U×Sto)
 |some (.lst _)=>(cr ρ S).bind (K8 f x)
 |_=>none
def kBM(f:U->List U->Sto->Option (U×Sto))(cr:CA)(ρ:Rho):U×Sto->Option (U×Sto)
 |(.ref l,S)=>K9 f cr ρ (.ref l) S S[l]?
 |_=>none
variable{fm:U->List U->Sto->Option (U×Sto)}
theorem Mx:cBM fm ca cr ρ S=(ca ρ S).bind (kBM fm cr ρ):=by
 unfold cBM;congr 1;funext p;obtain⟨u,S⟩:=p
 cases u<;>try rfl
theorem JS:kBM fm cr ρ (.ref l,S)=K9 fm cr ρ (.ref l) S S[l]?:=rfl
theorem JR:K9 fm cr ρ x S (some (.lst us))=(cr ρ S).bind (K8 fm x):=rfl
theorem JQ:K8 fm x (us,S)=fm x us S:=rfl
def IC(l:Nat)(u:U)(S:Sto):Option O->Option (U×Sto)
 |some (.lst us)=>if us.length<LIM then some (.non,S.set l (.lst (us++[u])))else none
 |_=>none
theorem JU:bS (.ref l) [u] S=IC l u S S[l]?:=by
 unfold bS IC;dsimp only<;>(generalize S[l]?=q;rcases q with _|o<;>first|rfl|(cases o<;>rfl))
theorem dG(h:us.length<LIM):IC l u S (some (.lst us))=some (.non,S.set l (.lst (us++[u]))):=by
 unfold IC;dsimp only;rw[if_pos h]
def K4(ku xu:U)(S:Sto):Option O->Option (U×Sto)
 |some (.dic kus)=>(gR ku).bind fun k=>some ((cw kus k).getD xu,S)
 |_=>none
def K5(l:Nat)(ku:U)(r:U×Sto):=K4 ku r.1 r.2 r.2[l]?
def K6(l:Nat)(cx:CE)(ρ:Rho)(q:U×Sto):=(cx ρ q.2).bind (K5 l q.1)
def K7(l:Nat)(ck cx:CE)(ρ:Rho)(S:Sto):Option O->Option (U×Sto)
 |some (.dic _)=>(ck ρ S).bind (K6 l cx ρ)
 |_=>none
def kDG(ck cx:CE)(ρ:Rho):U×Sto->Option (U×Sto)
 |(.ref l,S)=>K7 l ck cx ρ S S[l]?
 |_=>none
theorem Mw:HS ca cb cc ρ S=(ca ρ S).bind (kDG cb cc ρ):=by
 unfold HS;congr 1;funext p;obtain⟨u,S⟩:=p
 cases u<;>try rfl
theorem JM:kDG cb cc ρ (.ref l,S)=K7 l cb cc ρ S S[l]?:=rfl
theorem JL{kus:List (Key×U)}:K7 l cb cc ρ S (some (.dic kus))=(cb ρ S).bind (K6 l cc ρ):=rfl
theorem JK:K6 l cc ρ (u,S)=(cc ρ S).bind (K5 l u):=rfl
theorem JJ:K5 l u (x,S)=K4 u x S S[l]?:=rfl
theorem JI{kus:List (Key×U)}:K4 u x S (some (.dic kus))=(gR u).bind fun k=>some ((cw kus k).getD x,S):=rfl
theorem E9:Az ρ S=some (.ref S.length,S++[.dic []]):=rfl
def kP3(k:Key)(u:U)(z:List (Key×U)×Sto):Option (List (Key×U)×Sto):=some ((k,u)::z.1,z.2)
def kP2(r:List (CE×CE))(ρ:Rho)(x:U)(q:U×Sto):=(gR x).bind fun k=>(gN r ρ q.2).bind (kP3 k q.1)
def kP1(cv:CE)(r:List (CE×CE))(ρ:Rho)(p:U×Sto):=(cv ρ p.2).bind (kP2 r ρ p.1)
variable{pr:List (CE×CE)}
theorem Mg:gN [] ρ S=some ([],S):=rfl
theorem x_p:gN ((ca,cb)::pr) ρ S=(ca ρ S).bind (kP1 cb pr ρ):=rfl
theorem Mf:kP1 cb pr ρ (u,S)=(cb ρ S).bind (kP2 pr ρ u):=rfl
theorem Me:kP2 pr ρ x (u,S)=(gR x).bind fun k=>(gN pr ρ S).bind (kP3 k u):=rfl
theorem Md{k:Key}{z:List (Key×U)}:kP3 k u (z,S)=some ((k,u)::z,S):=rfl
def kD1(n:Nat)(kus:List (Key×U))(S:Sto):Option O->Option (U×Sto)
 |some (.dic [])=>some (.ref n,S.set n (.dic (wO kus)))
 |_=>none
def kD(n:Nat)(q:List (Key×U)×Sto):=kD1 n q.1 q.2 q.2[n]?
theorem Fb:Ay pr ρ S=(gN pr ρ (S++[.dic []])).bind (kD S.length):=by
 unfold Ay;congr 1
theorem BO{z:List (Key×U)}:kD i (z,S)=kD1 i z S S[i]?:=rfl
theorem BN{z:List (Key×U)}:kD1 i z S (some (.dic []))=some (.ref i,S.set i (.dic (wO z))):=rfl
theorem EB:fe [.tup us] S=some (.tup us,S):=rfl
def KW(S:Sto):Option O->Option (U×Sto)
 |some (.lst us)=>some (.tup us,S)
 |_=>none
theorem EC:fe [.ref l] S=KW S S[l]?:=by
 unfold fe KW;dsimp only<;>(generalize S[l]?=q;rcases q with _|o<;>first|rfl|(cases o<;>rfl))
theorem ED:KW S (some (.lst us))=some (.tup us,S):=rfl
theorem BF:rH [.tup us] S=some (.ref S.length,S++[.lst us]):=rfl
def kLs(S:Sto):Option O->Option (U×Sto)
 |some (.lst us)=>some (.ref S.length,S++[.lst us])
 |_=>none
theorem BG:rH [.ref l] S=kLs S S[l]?:=by
 unfold rH kLs;dsimp only<;>(generalize S[l]?=q;rcases q with _|o<;>first|rfl|(cases o<;>rfl))
theorem BH:kLs S (some (.lst us))=some (.ref S.length,S++[.lst us]):=rfl
theorem E4:HD [.bl b] S=some (.int (if b then 1 else 0),S):=rfl
theorem ga{X:Sto}{n:Nat}:(S++X)[S.length+n]?=X[n]?:=by rw[List.getElem?_append_right (Nat.le_add_right _ _),Nat.add_sub_cancel_left]
theorem ga0{X:Sto}:(S++X)[S.length]?=X[0]?:=ga (n:=0)
theorem gs{X:Sto}{n:Nat}{o:O}:(S++X).set (S.length+n) o=S++X.set n o:=by rw[List.set_append_right _ _ (Nat.le_add_right _ _),Nat.add_sub_cancel_left]
theorem gs0{X:Sto}{o:O}:(S++X).set S.length o=S++X.set 0 o:=gs (n:=0)
section
variable{ok:Sto->Prop}{gg:CG}{cbd:CS}{ρ0 ρ1:Rho}{S0 S1:Sto}
theorem eE(h:ok S):cy ok gg cbd [] ρ S=some (.nx,ρ,S):=by unfold cy;rw[if_pos h]
theorem cB(h:ok S)(hg:gg u ρ S=some (ρ0,S0))(hb:cbd ρ0 S0=some (.nx,ρ1,S1)):cy ok gg cbd (u::us) ρ S=cy ok gg cbd us ρ1 S1:=by
 rw[cy];dsimp only;rw[if_pos h,hg,Option.bind_some];dsimp only;rw[hb,Option.bind_some]
theorem rh(h:ok S)(hg:gg u ρ S=some (ρ0,S0))(hb:cbd ρ0 S0=some (.rt x,ρ1,S1)):cy ok gg cbd (u::us) ρ S=some (.rt x,ρ1,S1):=by
 rw[cy];dsimp only;rw[if_pos h,hg,Option.bind_some];dsimp only;rw[hb,Option.bind_some]
theorem og{n:Nat}(ht:t ρ S=some (true,S0))(hb:cbd ρ S0=some (.nx,ρ1,S1)):cA t cbd (n+1) ρ S=cA t cbd n ρ1 S1:=by
 rw[cA];dsimp only;rw[ht,Option.bind_some];dsimp only;rw[if_pos rfl,hb,Option.bind_some]
theorem yR{n:Nat}(ht:t ρ S=some (true,S0))(hb:cbd ρ S0=some (.rt x,ρ1,S1)):cA t cbd (n+1) ρ S=some (.rt x,ρ1,S1):=by
 rw[cA];dsimp only;rw[ht,Option.bind_some];dsimp only;rw[if_pos rfl,hb,Option.bind_some]
theorem jd{n:Nat}(ht:t ρ S=some (false,S0)):cA t cbd (n+1) ρ S=some (.nx,ρ,S0):=by
 rw[cA];dsimp only;rw[ht,Option.bind_some];dsimp only;rw[if_neg (by decide)]
theorem hV{ce:CE}{ys:List U}(h:ok S)(hg:gg u ρ S=some (ρ0,S0))(he:ce ρ0 S0=some (x,S1))(hl:S1[l]?=some (.lst ys))(hn:ys.length<LIM):gj ok gg ce l (u::us) ρ S=gj ok gg ce l us ρ0 (S1.set l (.lst (ys++[x]))):=by
 rw[gj,if_pos h,hg,Option.bind_some];dsimp only;rw[he,Option.bind_some];dsimp only;rw[hl];dsimp only;rw[if_pos hn]
theorem jA{ce:CE}(h:ok S):gj ok gg ce l [] ρ S=some S:=by rw[gj,if_pos h]
end
end
theorem DB{K:PySem.W.Frag}{H:Hp}{p xs:Addr}{c:CS}{r:Rho}{σ:L2.St}{v0:Option V}{Q:VK}{nx bk ct:L2.St->Hp->Prop}(P:L4 H p xs)
  (ok:∀(ns:List Int) (a b:Int),0<=a->0<=b->∃ρ' S',c (none::some (.ref 1)::r) [.lst (ns.map U.int),.lst [.ref 0,.int a,.int b]]=some (.rt (.bl true),ρ',S')) (q:∀H',Q (.bl true) H')
  (hr:r=List.replicate r.length none:=by rfl) (hl:σ.length=r.length:=by rfl):tS K c { nx:=nx,rt:=Q,bk:=bk,ct:=ct } (v0::some (.ref p)::σ) H:=by
 obtain⟨ns,a,b,h1,h2,h3,h4,h5⟩:=P
 obtain⟨ρ',S',e⟩:=ok ns a b h4 h5
 refine⟨[xs,p],_,_,_,ρ',S',⟨rfl,by simp[h3],fun l ad o e1 e2=>?_⟩,⟨by simp[hl],fun i u e1=>?_⟩,e,fun m' v H' _ _ iv=>by rw[iv.of_bl];exact q H'⟩
 ·match l,e1,e2 with
  |0,e1,e2=>
   simp at e1 e2
   subst e1;subst e2
   exact⟨_,h2,iB ns⟩
  |1,e1,e2=>
   simp at e1 e2
   subst e1;subst e2
   exact⟨_,h1,.cons_ (.ref_ rfl) (.cons_ .int_ (.cons_ .int_ .nil_))⟩
  |l+2,e1,e2=>simp at e1
 ·match i,e1 with
  |0,e1=>simp at e1
  |1,e1=>
   simp at e1
   subst e1
   exact⟨.ref p,rfl,.ref_ rfl⟩
  |i+2,e1=>
   simp at e1
   rw[hr,List.getElem?_replicate]at e1
   split at e1<;>cases e1
theorem Em{p:List Value->Prop}(h:p [])(us:List Value)(e:us.length=0):p us:=by rw[List.length_eq_zero_iff.mp e];exact h
theorem Lj{n:Nat}{p:List Value->Prop}(h:∀a us,us.length=n->p (a::us))(us:List Value)(e:us.length=n+1):p us:=by
 cases us with
 |nil=>cases e
 |cons a us=>exact h a us (Nat.succ.inj e)
theorem tF{X:Cx}{pins:List (Addr×Obj)}{σ:L2.St}{H:Hp}{s:Shared}{a:Addr}{o u:HO}(I:Inv X pins σ H s)(e:H a=some o)(nt:∀xs,o≠.tup xs)(no:∀x,o≠.own x)(nb:∀ps,o≠.tbl ps)
  (nf:∀ob u,X.H₀ a≠some (.frz ob u)) (new:cZ X.prog X.w (upd H a u) s.heap a u):Inv X pins σ (upd H a u) s:=by
 have nn:∀b,H b=none->upd H a u b=none:=fun b q=>by rw[bD (Ne.symm (cM e q))];exact q
 have ho:∀b x,H b=some (.own x)->upd H a u b=some (.own x):=fun b x q=>by
  rw[bD];exact q
  intro z;subst z;rw[e]at q;cases q;exact no _ rfl
 have ht:∀b xs,H b=some (.tup xs)->upd H a u b=some (.tup xs):=fun b x q=>by
  rw[bD];exact q
  intro z;subst z;rw[e]at q;cases q;exact nt _ rfl
 refine⟨I.ok,I.os,I.bare,⟨I.base.keep,I.base.slot,fun b ob q1 q2 q3=>nn _ (I.base.free b ob q1 q2 q3),I.base.there,fun b xs q=>ht _ _ (I.base.tups b xs q),fun b ob v q=>?_,fun b ps q=>?_⟩,I.loc,I.cell,nn _ I.free,fun x c q=>nn _ (I.freeC x c q),fun p hp=>?_,fun b v q=>?_,I.len⟩
 ·rw[bD];exact I.base.frzs b ob v q
  intro z;subst z;exact nf _ _ q
 ·obtain⟨more,q'⟩:=I.base.tbls b ps q
  refine⟨more,?_⟩
  rw[bD];exact q'
  intro z;subst z;rw[e]at q';cases q';exact nb _ rfl
 ·obtain⟨p1,p2,p3⟩:=I.pin p hp
  exact⟨p1,nn _ p2,p3⟩
 ·by_cases hb:b=a
  ·subst hb;rw[aV]at q;cases q;exact new
  ·rw[bD hb]at q
   exact(I.hok b v q).stay (fun _ _ _ g=>g) (fun c g=>ho c b g) fun c xs g=>ht c xs g
def Bp(X:Cx)(a:Addr):Prop:=∀ob u,X.H₀ a≠some (.frz ob u)
def kU:Key->U
 |.inl i=>.int i
 |.inr x=>.str x
open Classical in
def uni{α:Type}(F:Nat->Option α):Option α:=if h:∃r,∀n,F n=some r then some h.choose else none
theorem vB{α:Type}{F:Nat->Option α}{r:α}(h:∀n,F n=some r):uni F=some r:=by
 have hx:∃r,∀n,F n=some r:=⟨r,h⟩
 unfold uni
 rw[dif_pos hx]
 have:=hx.choose_spec 0
 rw[h 0]at this
 exact this.symm
theorem sj{α:Type}{F:Nat->Option α}{r:α}(h:uni F=some r)(n:Nat):F n=some r:=by
 unfold uni at h
 split at h
 ·rename_i hx
  cases h
  exact hx.choose_spec n
 ·cases h
def HR(ce:CE)(g:CG)(cb:CS):CS:=fun ρ S=>(ce ρ S).bind fun p=>match p.1 with
 |.ref l=>match p.2[l]? with
  |some (.dic kus)=>uni fun ep=>(cy (fun S'=>S'[l]?=some (.fdc ep kus)) g cb (kus.map fun q=>kU q.1) ρ (p.2.set l (.fdc ep kus))).bind fun r=>match r.2.2[l]? with
   |some (.fdc _ kus')=>some (r.1,r.2.1,r.2.2.set l (.dic kus'))
   |_=>none
  |_=>none
 |_=>none
end OP
namespace OG
open PySem PySem.Spec PyProof.Rows L2
def qJ(wi:TI)(g:TG)(tt:TT)(te:TE)(n:Nat)(caps:List Nat):TE:=fun σ H Q=>wi σ H fun J H1=>∀l,H1 l=none->∃W:Nat->Nat->L2.St->Hp->Prop,(∃m,W 0 m (stC n caps σ) (upd H1 l (.lst [])))/\
 ∀i m σ' H2,W i m σ' H2->(J.stop i H2/\Q (.ref l) H2)\/(J.go i H2/\∃N:L2.St->Hp->Prop,(∀σ'' H',N σ'' H'->∃m',m'<m/\W (i+1) m' σ'' H')/\
  ∀x H3,J.yld i H2 x H3->g x σ' H3 fun σ2 H4=>tt σ2 H4 fun b H5=>match b with
   |true=>te σ2 H5 fun v H6=>∃ys,H6 l=some (.lst ys)/\ys.length<sizeLine/\N σ2 (upd H6 l (.lst (ys++[v])))
   |false=>N σ2 H5)
theorem nv{prog:Program}{w:World}{A:Around}{R:Result->Shared->Prop}{s:Shared}{elt target iter c:Expr}{scope:Scope}{pos:Pos}{it acc:Value}{env:Env}(I:Nat->Shared->Prop)
  (turn:∀n s,I n s->wpAny (model prog w) A (pyNext it) (fun r s₁=>match r with
   |none=>R (.ok .next) s₁
   |some v=>wpAny (model prog w) A (letOwnedTupleGo target it v) (fun _ s₁'=>wpAny (model prog w) A (assign target env v) (fun _ s₂=>wpAny (model prog w) A (PySem.isTrue c env (eval c env)) (fun b s₂'=>match b with
    |true=>wpAny (model prog w) A (eval elt env) (fun x s₃=>
     wpAny (model prog w) A (call (.builtin "list.append") [acc,x]) (fun _ s₄=>∃m,m<n/\I m s₄) (fun _ _=>False) s₃)
     (fun _ _=>False) s₂'
    |false=>∃m,m<n/\I m s₂') (fun _ _=>False) s₂) (fun _ _=>False) s₁') (fun _ _=>False) s₁) (fun _ _=>False) s)
  (n:Nat) (h:I n s) :
  codeAny (model prog w) A (.compLoop (.ListComp elt [⟨target,iter,[c],0⟩] scope pos) 0 it acc env) R s:=by
 refine codeAny_loop rfl I (fun n s hI=>?_) n h
 show wpAny _ _ ((compTurn (.ListComp elt [⟨target,iter,[c],0⟩] scope pos) 0 it acc env).onRaise (fun x=>do noteFrame x env;theTreesLotGoes x)) _ _ s
 refine wpAny_noted ?_
 rw[compTurn_list]
 refine wpAny_bind (wpAny_standAt (wpAny_bind (wpAny_mono (turn n s hI) (fun r s₁ h₁=>?_) fun _ _ h'=>h'.elim)))
 cases r with
 |none=>exact wpAny_pure h₁
 |some v=>
  refine wpAny_bind (wpAny_mono h₁ (fun _ s₁' h₁'=>?_) fun _ _ h'=>h'.elim)
  refine wpAny_bind (wpAny_mono h₁' (fun _ s₂ h₂=>?_) fun _ _ h'=>h'.elim)
  dsimp only
  simp only[List.forIn_cons,List.forIn_nil,if_true,bind_assoc,pure_bind]
  refine wpAny_bind (wpAny_mono h₂ (fun b s₂' h₂'=>?_) fun _ _ h'=>h'.elim)
  cases b with
  |true=>
   rw[if_pos rfl]
   exact wpAny_bind (wpAny_mono h₂' (fun x s₃ h₃=>wpAny_bind (wpAny_mono h₃
    (fun _ s₄ h₄=>wpAny_pure ⟨rfl,h₄⟩) fun _ _ h'=>h'.elim)) fun _ _ h'=>h'.elim)
  |false=>
   rw[if_neg Bool.false_ne_true]
   exact wpAny_pure ⟨rfl,h₂'⟩
theorem uR{X:Cx}{Nc capN tn:List Str}{scope:Scope}{cl:List (Str×Addr)}{n:Nat}{caps:List Nat}{tg iter elt:Expr}{pos:Pos}{wi:TI}{g:TG}{te:TE}{tt:TT}{c:Expr}
  (hc:X.calm=true) (hi:WI X tg iter wi) (hg:∀s3 H3 fp,WG (cxC X Nc scope cl s3 H3 fp) tg g) (he:∀s3 H3 fp,WE (cxC X Nc scope cl s3 H3 fp) elt te)
  (ht:∀s3 H3 fp,WT (cxC X Nc scope cl s3 H3 fp) c tt)
  (hclos:closureFor scope X.env=pure cl) (hkind:scope.kind=.function) (hnl:∀x∈scope.names,x.2=.local->scope.names.lookup x.1=some .local) (hcell:∀x∈scope.names,x.2≠.cell)
  (hcl:uZ X.env cl) (hhas:((relabel scope X.env).names.all fun p=>!(p.2 == .cell||p.2 == .free)||(cl.lookup p.1).isSome)=true)
  (hcap:Paired (Cap X scope cl) caps capN) (hN:Nc=tn++capN) (hn:tn.length=n)
  {use:Option (Value->Sem Unit)} {pins:List (Addr×Obj)} {σ:L2.St} {H:Hp} {s:Shared} {Q:VK} {Qf:Value->Shared->Prop} (I:Inv X pins σ H s) (h:qJ wi g tt te n caps σ H Q)
  (hend:∀(D C:Addr) (s6:Shared) (H5:Hp) (m:Str->Option Value),Inv X pins σ H5 s6->s6.heap.Ns C m->H5 C=none->C≠X.env.locals->X.s₀.heap.objs.size<=C->(∀x c,X.env.cells.lookup x=some c->c≠C)->(∀p∈X.pn++pins,p.1≠C)->Q (.ref D) H5->compPost (model X.prog X.w) X.A X.xe use Qf (.ref D) C (.ok .next) s6)
  (hs:∀x,foldedSetIterable iter X.env x=pure x) :
  wpAny (model X.prog X.w) X.A (comprehension (.ListComp elt [⟨tg,iter,[c],0⟩] scope pos) scope X.env (firstIterPos [⟨tg,iter,[c],0⟩] pos) (newList []) (firstAsync [⟨tg,iter,[c],0⟩]) (firstIter [⟨tg,iter,[c],0⟩] X.env) use) Qf X.xe s:=by
 refine wpAny_comprehension_free (use:=use) (g:=⟨tg,iter,[c],0⟩) (gs:=[]) rfl hs hclos hkind hnl (thn (hi.h pins s σ H _ I h) fun v s1 h1=>thn h1 fun itv s2 h2=>?_)
 obtain⟨it,fp,tnn,J,H2,rfl,I2,T,st2,f2,hW⟩:=h2
 have hD:=I2.fresh
 obtain⟨W,⟨m0,w0⟩,turn⟩:=hW _ hD
 refine wpAny_newObj_type (wpAny_newFunctionEnv hcell (by intro y hy;simp at hy) (fun h₁ hns₁ hsb₁=>?_) hkind)
 dsimp only at hns₁ hsb₁ ⊢
 have I3:Inv X pins σ (upd H2 s2.heap.objs.size (.lst [])) { s2 with heap:=s2.heap.push { cls:=.type "list",dict:=none,data:=.seq ([]:List Value).toArray },toks:=s2.toks }:=I2.lnew (its:=[]) .nil (Nat.zero_le _)
 generalize hs3:({ s2 with heap:=s2.heap.push { cls:=.type "list",dict:=none,data:=.seq ([]:List Value).toArray },toks:=s2.toks }:Shared)=s3 at I3
 have es3:s3.heap=s2.heap.push { cls:=.type "list",dict:=none,data:=.seq ([]:List Value).toArray }:=by rw[<-hs3]
 generalize hDD:s2.heap.objs.size=D at *
 have kept:∀b o,s3.heap.get? b=some o->h₁.get? b=some o:=fun b o e=>by
  have lt:=Heap.lt_size e
  rw[es3]at lt e
  exact hsb₁.extBut b o (Nat.ne_of_lt lt) (Heap.get?_push_of_some _ e)
 have old:∀b o,s2.heap.get? b=some o->s3.heap.get? b=some o:=fun b o e=>by rw[es3];exact Heap.get?_push_of_some _ e
 have ltD:∀b∈fp,b<D:=fun b hb=>by
  obtain⟨o,e,_⟩:=T.obj 0 _ st2 b hb
  rw[<-hDD];exact Heap.lt_size e
 have fo:∀b∈fp,b<s3.heap.objs.size:=fun b hb=>by
  obtain⟨o,e,_⟩:=T.obj 0 _ st2 b hb
  exact Heap.lt_size (old _ _ e)
 have f3:∀b∈fp,u3 X pins (upd H2 D (.lst [])) b:=fun b hb=>by
  refine⟨?_,(f2 b hb).2⟩
  rw[bD (Nat.ne_of_lt (ltD b hb))]
  exact(f2 b hb).1
 rw[<-es3]at hns₁ hsb₁ ⊢
 have Ic:=fun t'=>Inv.comp (h1:=h₁) (t':=t') (Nc:=Nc) (n:=n) I3 hc f3 fo hkind hcl hhas hcap tn hN hn hns₁ kept
 have stat:∀{H':Hp},(∀b∈fp,H' b=none)->∀b∈fp,u3 (cxC X Nc scope cl s3 (upd H2 D (.lst [])) fp) [] H' b:=fun hn' b hb=>by
  refine⟨hn' b hb,Nat.ne_of_lt (fo b hb),fun z=>?_,.inl hb,fun x c e=>(f2 b hb).2.2.2.2.1 x c (hcl.look e),fun p hp=>(by simp at hp)⟩
  rcases List.mem_cons.mp (I3.stkSub b z)with q|q
  ·exact(f2 b hb).2.1 q
  ·exact(f2 b hb).2.2.1 q
 have loop:∀s4:Shared,(∃t',s4={ s3 with heap:=h₁,toks:=t' })->codeAny (model X.prog X.w) X.A (.compLoop (.ListComp elt [⟨tg,iter,[c],0⟩] scope pos) 0 (.ref it) (.ref D) (compEnvC scope cl s3.heap.objs.size X.env))
   (compPost (model X.prog X.w) X.A X.xe use Qf (.ref D) s3.heap.objs.size) s4:=by
  rintro s4 ⟨t',rfl⟩
  refine nv (fun n' s'=>∃i σ' H',Inv (cxC X Nc scope cl s3 (upd H2 D (.lst [])) fp) [] σ' H' s'/\tnn i s'.heap/\(∀b∈fp,H' b=none)/\W i n' σ' H') ?_ m0
   ⟨0,_,_,Ic t',T.keep 0 _ _ st2 fun b hb o e=>kept _ _ (old _ _ e),fun b hb=>(f3 b hb).1,w0⟩
  rintro n' s5 ⟨i,σ5,H5,I5,st5,fr5,w5⟩
  rcases turn i n' σ5 H5 w5 with⟨stop,qn⟩|⟨go,N,hN',step⟩
  ·refine thn (T.done (cxC X Nc scope cl s3 (upd H2 D (.lst [])) fp) rfl rfl rfl hc i [] s5 σ5 H5 (fun _ _=>False) I5 (stat fr5) st5 stop) fun r s6 ⟨hr,I6⟩=>?_
   subst hr
   obtain⟨m,hm,_⟩:=I6.loc
   have I7:Inv X pins σ H5 s6:=Inv.call' (ch:=fp) I3 I6.os I6.base I6.hok I6.bare fun b hb=>⟨(f2 b hb).2.2.2.1,(f2 b hb).2.1,(f2 b hb).2.2.2.2.1,(f2 b hb).2.2.2.2.2⟩
   exact hend D _ s6 H5 m I7 hm I6.free (Ne.symm (Nat.ne_of_lt I3.lt)) I3.sz (fun x c e=>by
     obtain⟨v',o,ho,_⟩:=I3.cell x c e
     exact Nat.ne_of_lt (Heap.lt_size ho)) (fun p hp=>Nat.ne_of_lt (Heap.lt_size (I3.pin p hp).1)) qn
  ·refine thn (T.item (cxC X Nc scope cl s3 (upd H2 D (.lst [])) fp) rfl rfl rfl hc i [] s5 σ5 H5 (fun _ _=>False) I5 (stat fr5) st5 go) fun r s6 ⟨u,hr,h6⟩=>?_
   subst hr
   refine thn h6 fun _ s7 hz=>?_
   obtain⟨x,H7,I7,r7,y7,st7,fr7⟩:=hz
   have I7':=I7.pinned (stat fr7) (T.obj _ _ st7)
   refine thn ((hg s3 (upd H2 D (.lst [])) fp).h _ s7 σ5 H7 x u _ I7' r7 (step x H7 y7)) fun _ s8 hz=>?_
   obtain⟨σ8,H8,I8,q8⟩:=hz
   have fin:∀{s10:Shared} {H10:Hp},Inv (cxC X Nc scope cl s3 (upd H2 D (.lst [])) fp) _ σ8 H10 s10->N σ8 H10->∃m',m'<n'/\∃i' σ' H',Inv (cxC X Nc scope cl s3 (upd H2 D (.lst [])) fp) [] σ' H' s10/\tnn i' s10.heap/\(∀b∈fp,H' b=none)/\W i' m' σ' H':=fun{s10 H10} I10 q10=>by
    obtain⟨m',hm,w10⟩:=hN' σ8 H10 q10
    refine⟨m',hm,i+1,σ8,H10,Inv.unpinned I10,T.keep _ _ _ st7 fun b hb o e=>(Inv.pin I10 (b,o) (List.mem_append_right _ (List.mem_append_right _ (fh hb e)))).1,fun b hb=>?_,w10⟩
    obtain⟨o,e,d⟩:=T.obj _ _ st7 b hb
    exact(Inv.pin I10 (b,o) (List.mem_append_right _ (List.mem_append_right _ (fh hb e)))).2.1
   refine thn ((ht s3 (upd H2 D (.lst [])) fp).h _ s8 σ8 H8 _ I8 q8) fun b9 s9' h9=>?_
   obtain⟨H9',I9',q9'⟩:=h9
   cases b9 with
   |false=>exact fin I9' q9'
   |true=>
    refine thn ((he s3 (upd H2 D (.lst [])) fp).h _ s9' σ8 H9' _ I9' q9') fun v9 s9 hz=>?_
    obtain⟨x9,H9,I9,r9,ys,hy,hlt,q9⟩:=hz
    exact thn (mB (X:=cxC X Nc scope cl s3 (upd H2 D (.lst [])) fp) _ s9 σ8 H9 (.ref D) [x9] (.ref D) [v9] (fun _ H'=>N σ8 H') I9 rfl (.cons r9 .nil) ⟨D,ys,x9,rfl,rfl,hy,hlt,q9⟩) fun _ s10 ⟨_,H10,I10,_,q10⟩=>fin I10 q10
 have e4:∀t',({ s2 with heap:=h₁,toks:=t' }:Shared)={ s3 with heap:=h₁,toks:=t' }:=fun t'=>by rw[<-hs3]
 refine codeAny_compStart_list (loop _ ⟨_,e4 _⟩) (T.self _ 0 _ _ _ (T.keep 0 _ _ st2 fun b hb o e=>kept _ _ (old _ _ e)) (loop _ ⟨_,e4 _⟩))
theorem ui{X:Cx}{Nc capN tn:List Str}{scope:Scope}{cl:List (Str×Addr)}{n:Nat}{caps:List Nat}{tg iter elt:Expr}{pos:Pos}{wi:TI}{g:TG}{te:TE}{tt:TT}{c:Expr}
  (hc:X.calm=true) (hi:WI X tg iter wi) (hg:∀s3 H3 fp,WG (cxC X Nc scope cl s3 H3 fp) tg g) (he:∀s3 H3 fp,WE (cxC X Nc scope cl s3 H3 fp) elt te)
  (ht:∀s3 H3 fp,WT (cxC X Nc scope cl s3 H3 fp) c tt)
  (hclos:closureFor scope X.env=pure cl) (hkind:scope.kind=.function) (hnl:∀x∈scope.names,x.2=.local->scope.names.lookup x.1=some .local) (hcell:∀x∈scope.names,x.2≠.cell)
  (hcl:uZ X.env cl) (hhas:((relabel scope X.env).names.all fun p=>!(p.2 == .cell||p.2 == .free)||(cl.lookup p.1).isSome)=true)
  (hcap:Paired (Cap X scope cl) caps capN) (hN:Nc=tn++capN) (hn:tn.length=n)
  (hs:∀x,foldedSetIterable iter X.env x=pure x:=by intro _;rfl) :
  WE X (.ListComp elt [⟨tg,iter,[c],0⟩] scope pos) (qJ wi g tt te n caps):=by
 constructor
 intro pins s σ H Q I h
 rw[eval_ListComp]
 refine uR hc hi hg he ht hclos hkind hnl hcell hcl hhas hcap hN hn I h (fun D C s6 H5 m I7 hm fr nl sz cn pn qn=>⟨m,hm,fun h' hs'=>?_⟩) hs
 exact⟨.ref D,H5,I7.turned (t':=s6.toks) (it:=C) (fun b o hb e=>hs'.extBut b o hb e) fr nl (.inr sz) cn pn,rfl,qn⟩
end OG
namespace OP
open PySem PySem.Spec PyProof.Rows L2 OG
open Classical in
def cG(ok:Sto->Prop)(g:CG)(ct:CT)(ce:CE)(l:Nat):List U->Rho->Sto->Option Sto
 |[],_,S=>if ok S then some S else none
 |u::us,ρ,S=>if ok S then(g u ρ S).bind fun p=>(ct p.1 p.2).bind fun q=>if q.1=true then(ce p.1 q.2).bind fun r=>match r.2[l]? with
  |some (.lst ys)=>if ys.length<LIM then cG ok g ct ce l us p.1 (r.2.set l (.lst (ys++[r.1])))else none
  |_=>none else cG ok g ct ce l us p.1 q.2 else none
def jW(ci:CI)(g:CG)(ct:CT)(ce:CE)(n:Nat)(caps:List Nat):CE:=fun ρ S=>(ci ρ S).bind fun p=>(cG p.2.1 g ct ce p.2.2.length p.1 (qQ n caps ρ) (p.2.2++[.lst []])).bind fun S'=>some (.ref p.2.2.length,S')
section
variable{X:Cx}{K:PySem.W.Frag}
theorem rP{g:CG}{ct:CT}{ce:CE}{n:Nat}{caps:List Nat}{J:It}{us:List U}{ok:Sto->Prop}{Q:VK}{m1:List Addr}{H1:Hp}{S1 S':Sto}{ρ:Rho}{σ:L2.St}{l:Addr}(sr1:Sr K m1 S1 H1)(lr:Lr K m1 H1 ρ σ)(ito:Br K J m1 H1 us ok)(hl:H1 l=none)(h2:cG ok g ct ce S1.length us (qQ n caps ρ) (S1++[.lst []])=some S')
  (post:∀m2 H2,Ext K (m1++[l]) (upd H1 l (.lst [])) m2 H2->Sr K m2 S' H2->Q (.ref l) H2) :
  ∃W:Nat->Nat->L2.St->Hp->Prop,(∃m,W 0 m (OG.stC n caps σ) (upd H1 l (.lst [])))/\
 ∀i m σ' H2,W i m σ' H2->(J.stop i H2/\Q (.ref l) H2)\/(J.go i H2/\∃N:L2.St->Hp->Prop,(∀σ'' H',N σ'' H'->∃m',m'<m/\W (i+1) m' σ'' H')/\
  ∀x H3,J.yld i H2 x H3->tG K g x σ' H3 fun σ2 H4=>tT K ct σ2 H4 fun b H5=>match b with
   |true=>tE K ce σ2 H5 fun v H6=>∃ys,H6 l=some (.lst ys)/\ys.length<sizeLine/\N σ2 (upd H6 l (.lst (ys++[v])))
   |false=>N σ2 H5):=by
 have ee:Ext K m1 H1 (m1++[l]) (upd H1 l (.lst [])):=.new (cQ hl _)
 let W:Nat->Nat->L2.St->Hp->Prop:=fun i k σ2 H2=>k=us.length-i/\i<=us.length/\∃m2 ρ2 S2,Ext K (m1++[l]) (upd H1 l (.lst [])) m2 H2/\Sr K m2 S2 H2/\Lr K m2 H2 ρ2 σ2/\cG ok g ct ce S1.length (us.drop i) ρ2 S2=some S'
 refine⟨W,⟨us.length,by simp,Nat.zero_le _,m1++[l],qQ n caps ρ,S1++[.lst []],.refl,sr1.new (o:=.lst []) hl ⟨[],aV,.nil_⟩,wR (lr.mono ee),by simpa using h2⟩,?_⟩
 rintro i k σ2 H2 ⟨rfl,hi,m2,ρ2,S2,e2,sr2,lr2,hl2⟩
 by_cases hlt:i<us.length
 ·have hu:=List.getElem?_eq_getElem hlt
  rw[jy hu]at hl2
  unfold cG at hl2
  split at hl2
  ·rename_i hok
   obtain⟨⟨ρ3,S3⟩,h3,hl2⟩:=Option.bind_eq_some_iff.mp hl2
   obtain⟨⟨b4,S4⟩,h4,hl2⟩:=Option.bind_eq_some_iff.mp hl2
   obtain⟨hgo,hy⟩:=(ito m2 S2 H2 i (ee.trans e2) sr2 hok).1 _ hu
   refine .inr ⟨hgo,W (i+1) (us.length-(i+1)),fun σ' H' w'=>⟨_,by omega,w'⟩,fun x H3 y=>?_⟩
   obtain⟨e3,sr3,ix⟩:=hy x H3 y
   refine⟨m2,ρ2,S2,_,ρ3,S3,sr3,lr2.mono e3,ix,h3,fun m4 σ4 H4 e4 sr4 lr4=>⟨m4,ρ3,S3,b4,S4,sr4,lr4,h4,fun m4' H4' e4' sr4'=>?_⟩⟩
   cases b4 with
   |false=>
    rw[if_neg Bool.false_ne_true]at hl2
    exact⟨rfl,hlt,m4',ρ3,_,(((e2.trans e3).trans e4).trans e4'),sr4',lr4.mono e4',hl2⟩
   |true=>
    rw[if_pos rfl]at hl2
    obtain⟨⟨u5,S5⟩,h5,hl2⟩:=Option.bind_eq_some_iff.mp hl2
    simp only at hl2
    split at hl2<;>try cases hl2
    rename_i ys hys
    split at hl2<;>try cases hl2
    rename_i hlen
    refine⟨m4',ρ3,S4,u5,S5,sr4',lr4.mono e4',h5,fun m5 v5 H5 e5 sr5 i5=>?_⟩
    obtain⟨a',ha',xs,hx,il⟩:=sr5.get hys
    have ha:m5[S1.length]?=some l:=((((e2.trans e3).trans e4).trans e4').trans e5).get (ff sr1.len)
    rw[ha]at ha';cases ha'
    have eu:Ext K m5 H5 m5 (upd H5 l (.lst (xs++[v5]))):=.of (sr5.keep ha _)
    exact⟨xs,hx,GJ (by rw[il.length];exact hlen),rfl,hlt,m5,ρ3,_,(((((e2.trans e3).trans e4).trans e4').trans e5).trans eu),sr5.put (o:=.lst (ys++[u5])) ha ⟨_,aV,(il.append (.cons_ i5 .nil_)).mono eu⟩,(lr4.mono ((e4'.trans e5).trans eu)),hl2⟩
  ·cases hl2
 ·have e:i=us.length:=by omega
  subst e
  rw[List.drop_length]at hl2
  unfold cG at hl2
  split at hl2
  ·rename_i hok
   cases hl2
   exact .inl ⟨(ito m2 _ H2 _ (ee.trans e2) sr2 hok).2 (Nat.le_refl _),post m2 H2 e2 sr2⟩
  ·cases hl2
theorem uQ{ci:CI}{g:CG}{ct:CT}{ce:CE}{n:Nat}{caps:List Nat}:∀σ H Q,tE K (jW ci g ct ce n caps) σ H Q->qJ (tI K ci) (tG K g) (tT K ct) (tE K ce) n caps σ H Q:=by
 rintro σ H Q ⟨m,ρ,S,u,S',sr,lr,hc,post⟩
 obtain⟨⟨us,ok,S1⟩,h1,h2⟩:=Option.bind_eq_some_iff.mp hc
 obtain⟨S2,h2,h3⟩:=Option.bind_eq_some_iff.mp h2
 cases h3
 refine⟨m,ρ,S,us,ok,S1,sr,lr,h1,fun m1 H1 J e1 sr1 ito l hl=>?_⟩
 have ee:Ext K m1 H1 (m1++[l]) (upd H1 l (.lst [])):=.new (cQ hl _)
 exact rP sr1 (lr.mono e1) ito hl h2 fun m2 H2 e2 sr2=>post m2 _ H2 ((e1.trans ee).trans e2) sr2 (.ref_ (e2.get (ff sr1.len)))
theorem zj{Nc capN tn:List Str}{scope:Scope}{cl:List (Str×Addr)}{n:Nat}{caps:List Nat}{tg iter elt:Expr}{pos:Pos}{ci:CI}{g:CG}{ct:CT}{ce:CE}{c:Expr}
  (hc:X.calm=true) (hi:QI X tg iter ci) (hg:∀s3 H3 fp,WG (cxC X Nc scope cl s3 H3 fp) tg (tG X.K g)) (ht:∀s3 H3 fp,WT (cxC X Nc scope cl s3 H3 fp) c (tT X.K ct)) (he:∀s3 H3 fp,WE (cxC X Nc scope cl s3 H3 fp) elt (tE X.K ce))
  (hclos:closureFor scope X.env=pure cl) (hkind:scope.kind=.function) (hnl:∀x∈scope.names,x.2=.local->scope.names.lookup x.1=some .local) (hcell:∀x∈scope.names,x.2≠.cell)
  (hcl:uZ X.env cl) (hhas:((relabel scope X.env).names.all fun p=>!(p.2 == .cell||p.2 == .free)||(cl.lookup p.1).isSome)=true)
  (hcap:Paired (Cap X scope cl) caps capN) (hN:Nc=tn++capN) (hn:tn.length=n)
  (hs:∀x,foldedSetIterable iter X.env x=pure x:=by intro _;rfl) :
  QE X (.ListComp elt [⟨tg,iter,[c],0⟩] scope pos) (jW ci g ct ce n caps):=(ui hc hi hg he ht hclos hkind hnl hcell hcl hhas hcap hN hn hs).imp uQ
end
end OP
namespace OP
open PySem PySem.Spec PyProof PyProof.Rows L2 OG
section
variable{X:Cx}{K:PySem.W.Frag}{pins:List (Addr×Obj)}{σ:L2.St}{H:Hp}{s:Shared}
def Bj(us:List U)(lo hi:Option Int):List U:=(us.drop (HT.sIx us.length 0 lo)).take (HT.sIx us.length us.length hi-HT.sIx us.length 0 lo)
theorem Bi{m:List Addr}{xs:List V}{us:List U}{lo hi:Option Int}(i:IsL K m H xs us):IsL K m H (xT xs lo hi) (Bj us lo hi):=by
 unfold xT Bj
 rw[i.length]
 exact(i.drop _).take _
def fSl(x:U)(lo hi:Option Int)(S:Sto):Option (U×Sto):=match x with
 |.tup us=>if HT.sIx us.length 0 lo=0/\HT.sIx us.length us.length hi=us.length then none else some (.tup (Bj us lo hi),S)
 |.ref l=>match S[l]? with
  |some (.lst us)=>some (.ref S.length,S++[.lst (Bj us lo hi)])
  |_=>none
 |_=>none
def ny:Option CE->Rho->Sto->Option (Option Int×Sto)
 |none,_,S=>some (none,S)
 |some c,ρ,S=>(c ρ S).bind fun p=>match p.1 with
  |.int i=>some (some i,p.2)
  |_=>none
def cSl(ca:CE)(cl ch:Option CE):CE:=fun ρ S=>(ca ρ S).bind fun p=>(ny cl ρ p.2).bind fun q=>(ny ch ρ q.2).bind fun r=>fSl p.1 q.1 r.1 r.2
def Lm(K:PySem.W.Frag)(m:List Addr)(H:Hp)(Q:Option Int->Hp->Prop)(o:Option Int)(S':Sto):Prop:=∀m' H',Ext K m H m' H'->Sr K m' S' H'->Q o H'
def tO(K:PySem.W.Frag)(c:Option CE):TO:=fun σ H Q=>∃m ρ S o S',Sr K m S H/\Lr K m H ρ σ/\ny c ρ S=some (o,S')/\Lm K m H Q o S'
abbrev QO(X:Cx)(e:Option Expr)(c:Option CE):Prop:=WO X e (tO X.K c)
theorem wa:QO X none none:=⟨fun pins s σ H Q I hz=>nW hz fun m ρ S o S' sr lr hc post=>sg.h pins s σ H Q I (by cases hc;exact post m H .refl sr)⟩
theorem v8{e:Expr}{ca:CE}(h:QE X e ca):QO X (some e) (some ca):=⟨fun pins s σ H Q I hz=>nW hz fun m ρ S o S' sr lr hc post=>(sf h).h pins s σ H Q I (by
 obtain⟨⟨x,S1⟩,h1,h2⟩:=Option.bind_eq_some_iff.mp hc
 refine⟨m,ρ,S,x,S1,sr,lr,h1,fun m1 v1 H1 e1 sr1 i1=>?_⟩
 cases x<;>simp at h2
 obtain⟨rfl,rfl⟩:=h2
 exact⟨_,i1.of_int,post m1 H1 e1 sr1⟩)⟩
theorem LG{e:Expr}{lo hi:Option Expr}{ca:CE}{cl ch:Option CE}{pos p2:Pos}(ha:QE X e ca)(hl:QO X lo cl)(hh:QO X hi ch):QE X (.Subscript e (.Slice lo hi none p2) pos) (cSl ca cl ch):=(o9 (vM.or FG) ha hl hh).imp fun σ H Q hz=>nW hz fun m ρ S u S' sr lr hc post=>by
 obtain⟨⟨x,S1⟩,h1,ha⟩:=Option.bind_eq_some_iff.mp hc
 obtain⟨⟨l,S2⟩,h2,hb⟩:=Option.bind_eq_some_iff.mp ha
 obtain⟨⟨k,S3⟩,h3,h⟩:=Option.bind_eq_some_iff.mp hb
 clear ha hb hc
 refine⟨m,ρ,S,x,S1,sr,lr,h1,fun m1 v1 H1 e1 sr1 i1=>⟨m1,ρ,S1,l,S2,sr1,lr.mono e1,h2,fun m2 H2 e2 sr2=>⟨m2,ρ,S2,k,S3,sr2,lr.mono (e1.trans e2),h3,fun m3 H3 e3 sr3=>?_⟩⟩⟩
 have i3:=i1.mono (e2.trans e3)
 have e03:=(e1.trans e2).trans e3
 cases x with
 |tup us=>
  simp only[fSl]at h
  split at h<;>try cases h
  rename_i hw
  obtain⟨a,xs,rfl,sa,la⟩:=i3.of_tup
  exact .inr ⟨a,xs,rfl,sa,by rw[la.length];exact hw,fun p hp=>oC sr3 (Bi la) (post.mono e03) hp⟩
 |ref r=>
  simp only[fSl]at h
  split at h<;>try cases h
  rename_i us hS
  obtain⟨a,ha,rfl⟩:=i3.of_ref
  obtain⟨a',ha',xs,hx,la⟩:=sr3.get hS
  rw[ha]at ha';cases ha'
  exact .inl ⟨a,xs,rfl,SqL.of hx,fun p hp=>dM sr3 (Bi la) (post.mono e03) hp⟩
 |_=>simp[fSl]at h
end
section
variable{X:Cx}{K:PySem.W.Frag}
def CO(K:PySem.W.Frag):R2:=fun x y H Q=>∃a k xs,x=.ref a/\y=.int k/\SqT K H a xs/\xs≠[]/\1<=k/\xs.length*k.toNat<=1000/\∀q H',rV H H'->SqT K H' q (List.replicate k.toNat xs).flatten->Q (.ref q) H'
theorem Dq:OpR X (binaryOp .Mult) (CO X.K):=by
 intro pins s σ H x y v u Q I rx ry h
 obtain⟨a,k,xs,rfl,rfl,ha,hne,hk,hz,q⟩:=h
 cases rx
 obtain⟨t,rfl⟩:=ry
 obtain⟨its,r1,p1,hzz⟩:=I.tuple ha
 have hlen:=r1.length
 obtain⟨⟨cls,dd,data,sl⟩,ho,hc,n,hd⟩:=id p1
 simp only at hc hd
 subst hc hd
 have hne':its≠[]:=fun z=>hne (r1.nil_iff.mp z)
 refine wpAny_binaryOp_repeat_ref (T:="tuple") (U:="int") (by decide) ⟨_,ho,rfl⟩ (fun s'=>typeIs_int s' k t) kY F.fills_int_mul F.slot_int_rmul pM F.slot_int_index.lookup
  (call_meets F.slot_int_rmul (typeIs_int s k t) F.entry_int_rmul (F.args_int_rmul_2 _ _) (ng k t a its.toArray n dd sl) ⟨ho,rfl,⟨_,ho,rfl⟩,?_⟩)
 by_cases k1:k=1
 ·subst k1
  refine call_meets F.slot_tuple_mul ⟨_,ho,rfl⟩ F.entry_tuple_mul (F.args_tuple_mul_2 _ _) (qH a its.toArray n dd sl t) ⟨ho,⟨.ref a,H,I,rfl,q a H (.refl _) ?_⟩⟩
  simpa using ha
 ·have hfold:List.foldl (fun x1 x2=>x1++x2) #[] (List.replicate k.toNat its.toArray)=(List.replicate k.toNat its).flatten.toArray:=by
   have:=mM its k.toNat []
   rw[List.nil_append]at this
   exact this
  have hfl:(List.replicate k.toNat its).flatten.length<=1000:=by rw[rj,<-hlen,Nat.mul_comm];exact hz
  have hlp:0<its.length:=List.length_pos_iff.mpr hne'
  have hk2:k.toNat<=1000:=Nat.le_trans (Nat.le_mul_of_pos_left _ (by rw[hlen];exact hlp)) hz
  have hsz:(its.toArray.size:Int)*k<=1000:=by
   rw[List.size_toArray,<-hlen]
   have e:k=((k.toNat:Nat):Int):=by omega
   rw[e,<-Int.natCast_mul]
   omega
  refine call_meets F.slot_tuple_mul ⟨_,ho,rfl⟩ F.entry_tuple_mul (F.args_tuple_mul_2 _ _) (qG a its.toArray n dd sl k t ?_ ?_ ?_ ?_ ?_ ?_) ⟨ho,?_⟩
  ·simp;omega
  ·simp[hne',k1]
  ·simp[hne'];omega
  ·omega
  ·unfold Builtin.Tuple.tupleTooMany
   have:¬(its.toArray.size:Int)*k>(sizeLine:Int):=by
    have:(1000:Nat)<=sizeLine:=pG (Nat.le_refl _)
    omega
   simpa using this
  ·rw[hfold,List.size_toArray];exact pG hfl
  ·rw[hfold]
   refine⟨.ref s.heap.objs.size,_,I.laid (t':=s.toks) (o:=.tup (List.replicate k.toNat xs).flatten) (fun b ob q=>Heap.get?_push_of_some _ q) (Nat.le_refl _) ?_,rfl,q _ _ (dJ (I.hok.fresh (Nat.le_refl _)) _) (SqT.of aV)⟩
   exact⟨pG (by rw[rj,Nat.mul_comm];exact hz),_,r1.rep k.toNat,IsTup.new _ _⟩
def uJ:U->U->Sto->Option (U×Sto)
 |.int i,.int j,S=>if yv i j then some (.int (i*j),S)else none
 |.tup us,.int k,S=>if us≠[]/\1<=k/\us.length*k.toNat<=1000 then some (.tup (List.replicate k.toNat us).flatten,S)else none
 |.ref l,.int k,S=>match S[l]? with
  |some (.lst us)=>if 0<=k/\k<=100000/\us.length*k.toNat<=LIM then some (.ref S.length,S++[.lst (List.replicate k.toNat us).flatten])else none
  |_=>none
 |_,_,_=>none
theorem GC:OpR X (binaryOp .Mult) (fun x y H Q=>rI yv (fun i j=>.int (i*j)) x y H Q\/(CO X.K x y H Q\/J7 x y H Q)):=jr.or (Dq.or Gz)
instance {us:List U}:Decidable (us≠[]):=match us with
 |[]=>.isFalse fun h=>h rfl
 |_::_=>.isTrue fun h=>by cases h
theorem Gv:OpP K (fun x y H Q=>rI yv (fun i j=>.int (i*j)) x y H Q\/(CO K x y H Q\/J7 x y H Q)) uJ:=by
 intro m S H x y v w u S' Q sr ix iy hf post
 cases x<;>cases y<;>simp only[uJ]at hf<;>try cases hf
 ·split at hf<;>try cases hf
  rename_i hc
  exact .inl ⟨_,_,ix.of_int,iy.of_int,hc,post m _ H .refl sr .int_⟩
 ·rename_i us k
  split at hf<;>try cases hf
  rename_i hc
  obtain⟨a,xs,rfl,sa,la⟩:=ix.of_tup
  refine .inr (.inl ⟨a,k,xs,rfl,iy.of_int,sa,fun z=>hc.1 ?_,hc.2.1,by rw[la.length];exact hc.2.2,fun q H' s sq=>?_⟩)
  ·subst z
   have:=la.length
   exact List.length_eq_zero_iff.mp this.symm
  ·exact post m _ H' (.of (eP s)) (sr.same s) (.tup_ sq ((la.rep k.toNat).mono (.of (eP s))))
 ·rename_i l k
  split at hf<;>try cases hf
  rename_i us hS
  split at hf<;>try cases hf
  rename_i hc
  obtain⟨a,ha,rfl⟩:=ix.of_ref
  obtain⟨a',ha',xs,hx,la⟩:=sr.get hS
  rw[ha]at ha';cases ha'
  exact .inr (.inr ⟨a,k,xs,rfl,iy.of_int,hx,by omega,by omega,lim (by rw[la.length];exact hc.2.2),fun p hp=>dM sr (la.rep k.toNat) post hp⟩)
end
end OP
namespace OG
open PySem PySem.Spec PyProof.Rows L2
theorem GD{C a:Addr}{m:Str->Option Value}{h h':Heap}(n:h.Ns C m)(s:Heap.SameBut a h h')(ne:C≠a):h'.Ns C m:=by
 obtain⟨o,es,ep,e,r⟩:=n
 exact⟨o,es,ep,(s.2 C ne).trans e,r⟩
theorem ug{X:Cx}{Nc capN tn:List Str}{scope:Scope}{cl:List (Str×Addr)}{n:Nat}{caps:List Nat}{tg iter elt:Expr}{pos:Pos}{wi:TI}{g:TG}{te:TE}
  (hc:X.calm=true) (hi:WI X tg iter wi) (hg:∀s3 H3 fp,WG (cxC X Nc scope cl s3 H3 fp) tg g) (he:∀s3 H3 fp,WE (cxC X Nc scope cl s3 H3 fp) elt te)
  (hclos:closureFor scope X.env=pure cl) (hkind:scope.kind=.function) (hnl:∀x∈scope.names,x.2=.local->scope.names.lookup x.1=some .local) (hcell:∀x∈scope.names,x.2≠.cell)
  (hcl:uZ X.env cl) (hhas:((relabel scope X.env).names.all fun p=>!(p.2 == .cell||p.2 == .free)||(cl.lookup p.1).isSome)=true)
  (hcap:Paired (Cap X scope cl) caps capN) (hN:Nc=tn++capN) (hn:tn.length=n)
  {i₀:Nat} {x₀:Str} {pos₀ pos':Pos} (hN0:X.N.Nodup) (hi0:X.N[i₀]?=some x₀) (hx0:X.env.scope.names.lookup x₀=some .local)
  (hsw:swapsWith (.ListComp elt [⟨tg,iter,[],0⟩] scope pos) (some (.Name x₀ pos')) pos₀.line X.env=pure true)
  (hs:∀x,foldedSetIterable iter X.env x=pure x:=by intro _;rfl) :
  WS X (.Assign [.Name x₀ pos'] (.ListComp elt [⟨tg,iter,[],0⟩] scope pos) pos₀) (fun D σ H=>y3 wi g te n caps σ H fun v H'=>D.nx (σ.set i₀ (some v)) H'):=by
 constructor
 intro pins s σ H Dn I h
 rw[exec_Assign_arm]
 refine wpAny_bind (wpAny_standAt ?_)
 have hsw':swapsWithSole [.Name x₀ pos'] (.ListComp elt [⟨tg,iter,[],0⟩] scope pos) pos₀.line X.env=pure true:=hsw
 rw[hsw']
 refine wpAny_bind (wpAny_pure ?_)
 rw[if_pos rfl,arm_evalThenUse_ListComp]
 refine wpAny_bind (wpAny_bind (tY (Qf:=fun _ s'=>wpAny (model X.prog X.w) X.A (pure ()) (fun _ s'=>wpAny (model X.prog X.w) X.A (pure Flow.next) (SP X pins Dn) X.xe s') X.xe s') hc hi hg he hclos hkind hnl hcell hcl hhas hcap hN hn I h (fun D C s6 H5 m I7 hm fr nl sz cn pn qn=>?_) hs))
 show wpAny _ _ (assign (.Name x₀ pos') X.env (.ref D)) _ _ s6
 rw[arm_assign_Name]
 refine wpAny_bind (wpAny_standAt (wpAny_bindName (pD (v:=.ref D) I7 hN0 hi0 (.inl hx0) rfl (fun s7 I7' hsb=>?_) (.inr hx0))))
 obtain⟨a7,hsb,ha7⟩:=hsb
 have cNe:C≠a7:=by
  rcases ha7 with z|z
  ·rw[z];exact nl
  ·exact Ne.symm (cn _ _ z)
 refine⟨m,GD hm hsb cNe,fun h' hs'=>wpAny_pure (wpAny_pure ⟨_,H5,?_,qn⟩)⟩
 exact I7'.turned (t':=s7.toks) (it:=C) (fun b o hb e=>hs'.extBut b o hb e) fr nl (.inr sz) cn pn
end OG
namespace OP
open PySem PySem.Spec PyProof.Rows L2 OG
section
variable{X:Cx}{K:PySem.W.Frag}
theorem nJ{i₀:Nat}{x₀:Str}{pos₀ pos':Pos}{Nc capN tn:List Str}{scope:Scope}{cl:List (Str×Addr)}{n:Nat}{caps:List Nat}{tg iter elt:Expr}{pos:Pos}{ci:CI}{g:CG}{ce:CE}
  (hc:X.calm=true) (hi:QI X tg iter ci) (hg:∀s3 H3 fp,WG (cxC X Nc scope cl s3 H3 fp) tg (tG X.K g)) (he:∀s3 H3 fp,WE (cxC X Nc scope cl s3 H3 fp) elt (tE X.K ce))
  (hclos:closureFor scope X.env=pure cl) (hkind:scope.kind=.function) (hnl:∀x∈scope.names,x.2=.local->scope.names.lookup x.1=some .local) (hcell:∀x∈scope.names,x.2≠.cell)
  (hcl:uZ X.env cl) (hhas:((relabel scope X.env).names.all fun p=>!(p.2 == .cell||p.2 == .free)||(cl.lookup p.1).isSome)=true)
  (hcap:Paired (Cap X scope cl) caps capN) (hN:Nc=tn++capN) (hn:tn.length=n)
  (hN0:X.N.Nodup) (hi0:X.N[i₀]?=some x₀) (hx0:X.env.scope.names.lookup x₀=some .local)
  (hsw:swapsWith (.ListComp elt [⟨tg,iter,[],0⟩] scope pos) (some (.Name x₀ pos')) pos₀.line X.env=pure true)
  (hs:∀x,foldedSetIterable iter X.env x=pure x:=by intro _;rfl) :
  QS X (.Assign [.Name x₀ pos'] (.ListComp elt [⟨tg,iter,[],0⟩] scope pos) pos₀) (bJ i₀ (gH ci g ce n caps)):=(ug hc hi hg he hclos hkind hnl hcell hcl hhas hcap hN hn hN0 hi0 hx0 hsw hs).imp fun D σ H hz=>uL hz fun m ρ S o ρ' S' sr lr hc post=>by
 obtain⟨⟨u,S1⟩,h1,h2⟩:=Option.bind_eq_some_iff.mp hc
 cases h2
 exact tX _ _ _ ⟨m,ρ,S,u,_,sr,lr,h1,fun m1 v1 H1 e1 sr1 i1=>post m1 _ H1 e1 sr1 ((lr.mono e1).set i₀ i1)⟩
end
end OP
namespace OP
open PySem PySem.Spec PyProof PyProof.Rows L2 OG
section
variable{X:Cx}{K:PySem.W.Frag}
def f7:U->List U->Sto->Option (U×Sto)
 |.ref l,[.int i],S=>match S[l]? with
  |some (.lst us)=>if 0<=i/\i<us.length/\us.length<=LIM then(us[i.toNat]?).bind fun u=>some (u,S.set l (.lst (us.eraseIdx i.toNat)))else none
  |_=>none
 |_,_,_=>none
theorem Di:MtP K AW f7:=by
 intro m S H x v us vs u S' Q sr ix i hf post
 match x,us,hf with
 |.ref l,[.int k],hf=>
  simp only[f7]at hf
  split at hf<;>try cases hf
  rename_i ws hS
  split at hf<;>try cases hf
  rename_i hk
  obtain⟨w,hw,h⟩:=Option.bind_eq_some_iff.mp hf
  cases h
  obtain⟨a,ha,rfl⟩:=ix.of_ref
  obtain⟨a',ha',xs,hx,la⟩:=sr.get hS
  rw[ha]at ha';cases ha'
  obtain⟨y,hy,iy⟩:=la.getD hw
  obtain⟨z,rfl,iz⟩:=i.one
  have eu:Ext K m H m (upd H a (.lst (xs.eraseIdx k.toNat))):=.of (sr.keep ha _)
  have hL:ws.length<=100000:=hk.2.2
  exact⟨a,xs,k,k.toNat,y,rfl,by rw[iz.of_int],hx,by omega,by omega,seqIndex_of hk.1 (by rw[la.length];exact hk.2.1),hy,post m _ _ eu (sr.put ha ⟨_,aV,(la.erase _).mono eu⟩) (iy.mono eu)⟩
variable{e:Expr}{es:List Expr}{co:CE}{cr:CA}{o:Expr}{apos cpos:Pos}
theorem wd (ho : QE X o co) (ha : QA X (e :: es) cr) (hbase : attributeBase o "pop" X.env (eval o X.env) = eval o X.env := by rfl) (hfew : ((backTo cpos (starEach (e :: es) X.env)).all (fun x => !x.1) && (backToKw cpos (keywordEach [] X.env)).all (fun x => x.1.isSome)
   && decide ((e::es).length+([]:List Keyword).length+(if ([]:List Keyword).isEmpty then 0 else 1)<30))=true:=by rfl) (hline:(apos.endLine == cpos.line)=true:=by rfl) (hs:starEach (e::es) X.env=(false,eval e X.env)::starEach es X.env:=by rfl) (hplain:(backTo cpos (starEach es X.env)).any (·.1)=false:=by rfl) :
  QE X (.Call (.Attribute o "pop" apos) (e::es) [] cpos) (cBM f7 co cr):=(vt PySem.F.plainAttrs_list PySem.F.slot_list_pop PySem.F.type_list_pop zT ho ha.h hbase hfew hline hs hplain).imp (ye Di)
def gq(cr:CA):CE:=fun ρ S=>(cr ρ S).bind fun p=>match p.1 with
 |[.int j]=>if 0<=j/\j<=1000 then some (.ref p.2.length,p.2++[.lst (cP 0 j.toNat)])else none
 |_=>none
theorem nO:∀(n:Nat) (a:Int) (vs:List Value),vs.length=n->(∀(j:Nat) (v:Value),vs[j]?=some v->∃t,v=Value.int (a+(j:Int)) t)->cg ((List.range n).map fun i:Nat=>V.int (a+(i:Nat))) vs
 |0,a,vs,hl,h=>by
  rw[List.length_eq_zero_iff.mp hl];exact .nil
 |n+1,a,[],hl,h=>by simp at hl
 |n+1,a,v::vs,hl,h=>by
  rw[List.range_succ_eq_map,List.map_cons,List.map_map]
  refine .cons ?_ ?_
  ·obtain⟨t,e⟩:=h 0 v rfl
   exact⟨t,by simpa using e⟩
  ·have:=nO n (a+1) vs (by simpa using hl) fun j x hx=>by
    obtain⟨t,e⟩:=h (j+1) x (by simpa using hx)
    exact⟨t,by rw[e];congr 1;omega⟩
   have e:(List.range n).map (fun i:Nat=>V.int (a+1+(i:Nat)))=(List.range n).map ((fun i:Nat=>V.int (a+(i:Nat))) ∘ Nat.succ):=List.map_congr_left fun i _=>by
    simp only[Function.comp];congr 1;omega
   rw[<-e];exact this
theorem pj{a:Expr}{ta:TA}{p1 p2 pos1 pos2:Pos}(hc:X.calm=true)(hgl:Gl X "list")(hml:X.mg "list"=none)(hg:Gl X "range")(hm:X.mg "range"=none)(ha:WA X [a] ta)(hs:starEach [a] X.env=[(false,eval a X.env)])
  (hs1:starEach [Expr.Call (.Name "range" p2) [a] [] pos2] X.env=[(false,eval (.Call (.Name "range" p2) [a] [] pos2) X.env)]) :
  WE X (.Call (.Name "list" p1) [.Call (.Name "range" p2) [a] [] pos2] [] pos1) (fun σ H Q=>ta σ H fun vs H1=>∃j:Int,vs=[.int j]/\0<=j/\j<=1000/\∀p,H1 p=none->Q (.ref p) (upd H1 p (.lst ((List.range j.toNat).map fun i:Nat=>V.int (0+(i:Nat)))))):=by
 constructor
 intro pins s σ H Q I h
 refine wpAny_Call_Name_kw (nN I hgl hml OG.ib ?_ (by decide) (by decide))
 refine PyProof.Rows.callWith_type1 ?_ hs1 rfl
 rw[hs1]
 show wpAny _ _ (spliced [(false,eval (.Call (.Name "range" p2) [a] [] pos2) X.env)]) _ _ s
 refine Calls.spliced_cons ?_
 refine Call_ (nN I hg hm boot_range (PyProof.Rows.callWith_type1 (thn (ha.h pos2 pins s σ H _ I h) fun us s1 ⟨vs,H1,I1,r1,q1⟩=>?_) hs rfl))
 obtain⟨j,e,j0,j1,q⟩:=q1
 subst e
 cases r1 with
 |cons r rr=>
  cases rr
  obtain⟨t,rfl⟩:=r
  refine call_range_1 ?_
  refine Calls.spliced_nil ?_
  have hsz:Builtin.Range.rangeSize 0 j 1=((j.toNat:Nat):Int):=by
   unfold Builtin.Range.rangeSize
   simp
   omega
  refine call_list_range (n:=j.toNat) (I1.ok.hd hc) (Heap.get?_push_size _ rfl) ?_ hsz (by omega) fun h' tk acc c' hk hg' hi=>?_
  ·unfold Builtin.Range.small
   rw[hsz]
   unfold Builtin.Range.rangeFitsLong
   simp
   omega
  ·have hv:cg ((List.range j.toNat).map fun i:Nat=>V.int (0+(i:Nat))) acc.toList:=nO j.toNat 0 acc.toList (by simpa using hi.1) fun k v hv=>by
    obtain⟨t,e⟩:=hi.2 k v (by simpa using hv)
    exact⟨t,by rw[e];congr 1;omega⟩
   refine⟨.ref _,_,I1.laid (t':=tk) (o:=.lst ((List.range j.toNat).map fun i:Nat=>V.int (0+(i:Nat)))) (fun b ob q=>hk b ob (Heap.get?_push_of_some _ q)) (by rw[Heap.size_push];omega) ?_,rfl,q _ (I1.hok.fresh (by rw[Heap.size_push];omega))⟩
   exact⟨by rw[List.length_map,List.length_range];exact Nat.le_trans (by omega) (show 1000<=sizeLine by decide),_,_,hv,by simpa using hg'⟩
theorem xf{m:List Addr}{H:Hp}(n:Nat):IsL K m H ((List.range n).map fun i:Nat=>V.int (0+(i:Nat))) (cP 0 n):=by
 unfold cP
 generalize List.range n=l
 induction l with
 |nil=>exact .nil_
 |cons a r ih=>exact .cons_ .int_ ih
theorem qS{a:Expr}{cr:CA}{p1 p2 pos1 pos2:Pos}(hc:X.calm=true)(hgl:Gl X "list")(hml:X.mg "list"=none)(hg:Gl X "range")(hm:X.mg "range"=none)(ha:QA X [a] cr)(hs:starEach [a] X.env=[(false,eval a X.env)])
  (hs1:starEach [Expr.Call (.Name "range" p2) [a] [] pos2] X.env=[(false,eval (.Call (.Name "range" p2) [a] [] pos2) X.env)]) :
  QE X (.Call (.Name "list" p1) [.Call (.Name "range" p2) [a] [] pos2] [] pos1) (gq cr):=(pj hc hgl hml hg hm ha.h hs hs1).imp fun σ H Q hz=>nW hz fun m ρ S u S' sr lr hc post=>by
 obtain⟨⟨ws,S1⟩,h1,h2⟩:=Option.bind_eq_some_iff.mp hc
 simp only at h2
 split at h2<;>try cases h2
 rename_i j
 split at h2<;>try cases h2
 rename_i hj
 refine⟨m,ρ,S,_,S1,sr,lr,h1,fun m1 v1 H1 e1 sr1 i1=>?_⟩
 obtain⟨x,rfl,ix⟩:=i1.one
 rw[ix.of_int]
 exact⟨j,rfl,hj.1,hj.2,fun p hp=>dM sr1 (xf _) (post.mono e1) hp⟩
end
end OP
namespace OP
open PySem PySem.Spec PyProof PyProof.Rows L2 OG PySem.W
section
variable{cmp:Nat->Nat->(Bool->Shared->Prop)->Shared->Prop}{s:Shared}{n:Nat}{lt:Nat->Nat->Bool}
def Asc(lt:Nat->Nat->Bool)(p:Array Nat)(k:Nat):Prop:=∀i j,i<j->j<k->lt (p.getD i 0) (p.getD j 0)=true
variable{p:Array Nat}
end
end OP
namespace OP
open PySem PySem.Spec PyProof PyProof.Rows L2 OG
section
variable{prog:Program}{w:World}{A:Around}{E:Value->Shared->Prop}{s:Shared}{d it:Addr}{o:Obj}{es:Array DictEntry}{ep i:Nat}
theorem sH{Q:Value->Shared->Prop}(hd:(d == sysModules)=false)(ho:s.heap.get? d=some o)(hc:o.ExactDict)(he:o.data=.dict es ep)
  (q:Q (.ref s.heap.objs.size) { s with heap:=s.heap.push { cls:=.type "dict_keyiterator",data:=.fields #[.ref d,.int 0 0,.int es.size 0,.int ep 0] } }):wpAny (model prog w) A (pyIter (.ref d)) Q E s:=by
 have T:s.TypeIs (.ref d) "dict":=⟨o,ho,hc.1⟩
 refine wpAny_pyIter_slot T F.slot_dict_iter (wpAny_call_entry F.slot_dict_iter T F.entry_dict_iter ?_ (F.args_dict_iter_1 _))
 unfold Builtin.«dict.__iter__»;refine wpAny_bind ?_
 unfold Builtin.Dict.dictSlotNone;refine wpAny_bind (wpAny_notOrdered_dict T ?_)
 refine wpAny_pure (show wpAny _ _ (Builtin.Dict.showsAll d >>= _) _ _ s from ?_)
 unfold Builtin.Dict.showsAll;rw[if_neg (by rw[hd];exact Bool.false_ne_true)]
 refine wpAny_bind (wpAny_pure (wpAny_bind (wpAny_dictEntries ho he (wpAny_bind (wpAny_dictEpoch ho he ?_)))))
 refine wpAny_bind (wpAny_newObj_type (wpAny_pure ⟨_,rfl,"dict_keyiterator",_,⟨_,Heap.get?_push_size _ rfl,rfl⟩,F.slot_dict_keyiterator_next.lookup,q⟩))
theorem sI{Q:Option Value->Shared->Prop}(hit:s.heap.IsKeyIter it d i es.size ep)(ho:s.heap.get? d=some o)(he:o.data=.dict es ep)(hi:i<es.size)
  (q:∀h',h'.IsKeyIter it d (i+1) es.size ep->Heap.SameBut it s.heap h'->Q (some es[i].key) { s with heap:=h' }):wpAny (model prog w) A (pyNext (.ref it)) Q E s:=by
 obtain⟨io,hio,ic,id'⟩:=id hit
 unfold pyNext;refine wpAny_bind (wpAny_attempt (wpAny_callSpecial?_slot (name:=Str.ofString "__next__") hit.typeIs F.slot_dict_keyiterator_next (wpAny_call_entry F.slot_dict_keyiterator_next hit.typeIs F.entry_dict_keyiterator_next ?_ (F.args_dict_keyiterator_next_1 _))))
 refine wpAny_bind (wpAny_pure (wpAny_bind (wpAny_bind ?_)))
 first|refine wpAny_bind (wpAny_typeNameOfWhole_keyiter hit.typeIs (wpAny_pure (wpAny_bind (wpAny_fieldsOf hio id' ?_))))|refine wpAny_bind (wpAny_typeNameOf_keyiter hit.typeIs (wpAny_pure (wpAny_bind (wpAny_fieldsOf hio id' ?_))))
 simp only[show Builtin.Dict_items.ownsTuple "dict_keyiterator"=false by decide,Bool.false_eq_true,if_false]
 refine(show wpAny _ _ (if (Value.ref d == Value.none)=true then _ else _) _ _ s from ?_)
 rw[if_neg (show ¬((Value.ref d == Value.none)=true)from Bool.false_ne_true)];refine wpAny_bind (wpAny_pure (wpAny_bind (wpAny_dictEntries ho he ?_)))
 rw[if_neg (by simp)];refine wpAny_bind (wpAny_pure (wpAny_bind (wpAny_dictEpoch ho he ?_)))
 rw[if_neg (by simp)];refine wpAny_pure ?_
 simp only[show ¬((i:Int)<0)by omega,if_false,Int.toNat_natCast,Array.getElem?_eq_getElem hi];refine wpAny_bind ?_
 first|refine wpAny_bind (wpAny_typeNameOfWhole_keyiter hit.typeIs (wpAny_pure (wpAny_bind (wpAny_isOneOf_keyiter hit.typeIs ?_))))|refine wpAny_bind (wpAny_typeNameOf_keyiter hit.typeIs (wpAny_pure (wpAny_bind (wpAny_isOneOf_keyiter hit.typeIs ?_))))
 refine(show wpAny _ _ (setField (.ref it) 1 (rawInt ((i:Int)+1)) >>= _) _ _ s from wpAny_bind (wpAny_setField hio id' (by simp) ?_))
 have hit2:(s.heap.update it (Obj.mapFields (·.setIfInBounds 1 (rawInt ((i:Int)+1))))).IsKeyIter it d (i+1) es.size ep:=⟨_,Heap.get?_update_self _ hio (Obj.isFreed_of_fields (Obj.data_mapFields id' _)),(Obj.cls_mapFields ..).trans ic,by rw[Obj.data_mapFields id'];simp[rawInt]⟩
 refine wpAny_bind (wpAny_holding (wpAny_bind (wpAny_isOneOf_keyiter (s:={ s with heap:=s.heap.update it (Obj.mapFields (·.setIfInBounds 1 (rawInt ((i:Int)+1)))) }) hit2.typeIs ?_)))
 exact(show wpAny _ _ (pure es[i].key) _ _ _ from wpAny_pure (wpAny_pure ⟨_,rfl,wpAny_pure (q _ hit2 (Heap.SameBut.update ..))⟩))
theorem vV{Q:Option Value->Shared->Prop}(hh:A.handled=none)(hit:s.heap.IsKeyIter it d i es.size ep)(ho:s.heap.get? d=some o)(he:o.data=.dict es ep)(hi:es.size<=i)
  (q:∀h',Heap.ExtBut it s.heap h'->Q none { s with heap:=h' }):wpAny (model prog w) A (pyNext (.ref it)) Q E s:=by
 obtain⟨io,hio,ic,id'⟩:=id hit
 unfold pyNext;refine wpAny_bind (wpAny_attempt (wpAny_callSpecial?_slot (name:=Str.ofString "__next__") hit.typeIs F.slot_dict_keyiterator_next (wpAny_call_entry F.slot_dict_keyiterator_next hit.typeIs F.entry_dict_keyiterator_next ?_ (F.args_dict_keyiterator_next_1 _))))
 refine wpAny_bind (wpAny_pure (wpAny_bind (wpAny_bind ?_)))
 first|refine wpAny_bind (wpAny_typeNameOfWhole_keyiter hit.typeIs (wpAny_pure (wpAny_bind (wpAny_fieldsOf hio id' ?_))))|refine wpAny_bind (wpAny_typeNameOf_keyiter hit.typeIs (wpAny_pure (wpAny_bind (wpAny_fieldsOf hio id' ?_))))
 simp only[show Builtin.Dict_items.ownsTuple "dict_keyiterator"=false by decide,Bool.false_eq_true,if_false]
 refine(show wpAny _ _ (if (Value.ref d == Value.none)=true then _ else _) _ _ s from ?_)
 rw[if_neg (show ¬((Value.ref d == Value.none)=true)from Bool.false_ne_true)];refine wpAny_bind (wpAny_pure (wpAny_bind (wpAny_dictEntries ho he ?_)))
 rw[if_neg (by simp)];refine wpAny_bind (wpAny_pure (wpAny_bind (wpAny_dictEpoch ho he ?_)))
 rw[if_neg (by simp)];refine wpAny_pure ?_
 simp only[show ¬((i:Int)<0)by omega,if_false,Int.toNat_natCast,Array.getElem?_eq_none hi];refine wpAny_bind ?_
 first|refine wpAny_bind (wpAny_typeNameOfWhole_keyiter hit.typeIs (wpAny_pure ?_));skip|refine wpAny_bind (wpAny_typeNameOf_keyiter hit.typeIs (wpAny_pure ?_));skip
 refine(show wpAny _ _ (setField (.ref it) 0 .none >>= _) _ _ s from wpAny_bind (wpAny_setField hio id' (by simp) ?_))
 refine(show wpAny _ _ (newExc (.type "StopIteration") [] >>= _) _ _ _ from wpAny_bind ?_)
 simp only[newExc,newTuple];refine wpAny_bind (wpAny_newObj_type ?_ (by size_fits));refine wpAny_bind (m:=firstArgMember _ _) (wpAny_of_eq (a:=Value.none) (by first|rfl|(simp only[firstArgMember];rfl)) (wpAny_newObj_type ?_ (by size_fits)))
 simp only[raiseNew];refine wpAny_bind (wpAny_handled ?_);rw[show A.in1.handled=none from hh]
 refine wpAny_bind (wpAny_pure (wpAny_throw ?_));refine wpAny_bind (wpAny_isInstance (T:="StopIteration") (b:=true) ⟨_,Heap.get?_push_size _ rfl,rfl⟩ isSubtype_stop ?_);exact wpAny_pure (q _ (((Heap.SameBut.update ..).extBut.push _).push _))
end
def FzT(H:Hp)(a:Addr)(ep:Nat)(ks:List (List Key)):Prop:=∃ob es kvs,H a=some (.frz ob (.dT kvs))/\ob.data=.dict es ep/\kvs.map (·.1)=ks
def Itt(a:Addr)(ep:Nat)(ks:List (List Key)):It:=
 ⟨fun i H=>i<ks.length/\FzT H a ep ks,fun i H x H'=>H'=H/\∃k p,ks[i]?=some k/\x=.ref p/\H p=some (.tup (k.map kV)),fun i H=>ks.length<=i/\FzT H a ep ks⟩
end OP
namespace OP
open PySem PySem.Spec PyProof PyProof.Rows L2 OG PySem.W
section
variable{X:Cx}{K:PySem.W.Frag}
def AY:V->List V->Hp->VK->Prop:=fun x vs H Q=>∃(l:Addr) (ns:List Int) (z:Int) (j:Nat),x=.ref l/\vs=[.int z]/\H l=some (.lst (ns.map V.int))/\ns[j]?=some z/\(∀m,m<j->ns[m]?≠some z)/\j<1000000/\Q (.int (j:Nat)) H
def xh(z:Int):Value->Bool
 |.int i _=>i == z
 |_=>false
theorem px{ns:List Int}{its:List Value}(r:cg (ns.map V.int) its){i:Nat}{v:Value}(h:its[i]?=some v):∃n t,ns[i]?=some n/\v=Value.int n t:=by
 have hi:i<its.length:=(List.getElem?_eq_some_iff.mp h).1
 have hl:=r.length
 rw[List.length_map]at hl
 have hn:i<ns.length:=by omega
 obtain⟨u,e1,e2⟩:=r.get (i:=i) (x:=.int ns[i]) (by rw[List.getElem?_map,List.getElem?_eq_getElem hn];rfl)
 rw[h]at e1;cases e1
 obtain⟨t,e⟩:=e2
 exact⟨_,t,List.getElem?_eq_getElem hn,e⟩
theorem zU:MtM X "list.index" AY:=by
 intro pins s σ H x vs v us Q I rx rv h
 obtain⟨l,ns,z,j,rfl,rfl,hH,hj,hm,hb,q⟩:=h
 cases rx
 obtain⟨u,rfl,ru⟩:=rv.one
 obtain⟨tz,rfl⟩:=ru
 obtain⟨_,its,n,r,hl,e⟩:=I.lstM hH
 have hlen:=r.length
 rw[List.length_map]at hlen
 have hj':j<its.toArray.size:=by have:=(List.getElem?_eq_some_iff.mp hj).1;simp;omega
 have at_:∀(m:Nat) (hm:m<its.toArray.size),∃k t,ns[m]?=some k/\its.toArray[m]=Value.int k t:=fun m hm=>by
  have hm':m<its.length:=by simpa using hm
  obtain⟨k,t,e1,e2⟩:=px r (List.getElem?_eq_getElem hm')
  exact⟨k,t,e1,by simpa using e2⟩
 refine call_meets PySem.F.slot_list_index ⟨_,e,rfl⟩ PySem.F.entry_list_index (PySem.F.args_list_index_2 _ _) (PySem.MeetsSeq.list_index l its.toArray n (Value.int z tz) (xh z) (fun y hy=>?_) j hj' (by omega) ?_ fun m hm1 hm2=>?_) ⟨e,?_⟩
 ·obtain⟨m,hm1,rfl⟩:=Array.mem_iff_getElem.mp hy
  obtain⟨k,t,_,e2⟩:=at_ m hm1
  rw[e2]
  exact PySem.MeetsSeq.EqGives.int _ _ _ _
 ·obtain⟨k,t,e1,e2⟩:=at_ j hj'
  rw[e2]
  rw[hj]at e1;cases e1
  simp[xh]
 ·obtain⟨k,t,e1,e2⟩:=at_ m hm1
  rw[e2]
  simp only[xh,beq_eq_false_iff_ne]
  intro e3
  exact hm m hm2 (by rw[e1,e3])
 ·exact⟨.int (j:Nat),_,I.kept (fun b o g=>g),⟨_,rfl⟩,q⟩
theorem A8:∀{ns:List Int} {z:Int} {k:Nat} (h:k<ns.length),ns[k]=z->ns.idxOf z<=k
 |[],_,_,h,_=>absurd h (Nat.not_lt_zero _)
 |n::ns,z,0,_,e=>by
  have:n=z:=e
  subst this
  simp
 |n::ns,z,k+1,h,e=>by
  rw[List.idxOf_cons]
  have:=A8 (ns:=ns) (z:=z) (k:=k) (by simpa using h) (by simpa using e)
  cases (n == z)<;>simp<;>omega
def jw:U->List U->Sto->Option (U×Sto)
 |.ref l,[.int z],S=>match S[l]? with
  |some (.lst us)=>(nc us).bind fun ns=>if z∈ns/\ns.length<=LIM then some (.int (ns.idxOf z:Nat),S)else none
  |_=>none
 |_,_,_=>none
theorem Dk:MtP K AY jw:=by
 intro m S H x v us vs u S' Q sr ix i hf post
 match x,us,hf with
 |.ref l,[.int z],hf=>
  simp only[jw]at hf
  split at hf<;>try cases hf
  rename_i ws hS
  obtain⟨ns,hn,h⟩:=Option.bind_eq_some_iff.mp hf
  split at h<;>try cases h
  have hk:z∈ns/\ns.length<=LIM:=by assumption
  obtain⟨a,ha,rfl⟩:=ix.of_ref
  obtain⟨a',ha',xs,hx,la⟩:=sr.get hS
  rw[ha]at ha';cases ha'
  obtain⟨y,rfl,iy⟩:=i.one
  rw[ju hn]at la
  rw[la.ints]at hx
  have hlt:ns.idxOf z<ns.length:=List.idxOf_lt_length_of_mem hk.1
  have hL:ns.length<=100000:=hk.2
  refine⟨a,ns,z,ns.idxOf z,rfl,by rw[iy.of_int],hx,?_,fun k hk e=>?_,by omega,post m _ _ .refl sr .int_⟩
  ·rw[List.getElem?_eq_getElem hlt,List.getElem_idxOf]
  ·obtain⟨h1,h2⟩:=List.getElem?_eq_some_iff.mp e
   exact absurd (A8 h1 h2) (Nat.not_le.mpr hk)
variable{e:Expr}{es:List Expr}{co:CE}{cr:CA}{o:Expr}{apos cpos:Pos}
theorem CU (ho : QE X o co) (ha : QA X (e :: es) cr) (hbase : attributeBase o "index" X.env (eval o X.env) = eval o X.env := by rfl) (hfew : ((backTo cpos (starEach (e :: es) X.env)).all (fun x => !x.1) && (backToKw cpos (keywordEach [] X.env)).all (fun x => x.1.isSome)
   && decide ((e::es).length+([]:List Keyword).length+(if ([]:List Keyword).isEmpty then 0 else 1)<30))=true:=by rfl) (hline:(apos.endLine == cpos.line)=true:=by rfl) (hs:starEach (e::es) X.env=(false,eval e X.env)::starEach es X.env:=by rfl) (hplain:(backTo cpos (starEach es X.env)).any (·.1)=false:=by rfl) :
  QE X (.Call (.Attribute o "index" apos) (e::es) [] cpos) (cBM jw co cr):=(vt PySem.F.plainAttrs_list PySem.F.slot_list_index PySem.F.type_list_index zU ho ha.h hbase hfew hline hs hplain).imp (ye Dk)
end
theorem CN{prog:Program}{w:World}{d:Addr}{o:Obj}{es:Array DictEntry}{ep:Nat}(hd:(d == sysModules)=false)(hc:o.ExactDict)(he:o.data=.dict es ep) :
  KdlSrc prog w "dict" d d es.size (fun i v=>∃h:i<es.size,v=es[i].key) (fun h=>h.get? d=some o) where
 type:=fun s g=>⟨o,g,hc.1⟩
 there:=fun h g=>⟨Heap.lt_size g,Heap.lt_size g⟩
 keep:=fun h h' g m=>m d (.inl rfl) o g
 notList:=by decide
 notTuple:=by decide
 hint:=fun A E s Q g q=>kdl_hint_dict ⟨o,g,hc.1⟩ q
 iter:=fun A s hh g=>by
  refine⟨_,fun i h=>h.IsKeyIter s.heap.objs.size d i es.size ep/\h.get? d=some o,fun E Q q=>sH hd g hc he q,?_,⟨⟨_,Heap.get?_push_size _ rfl,rfl,rfl⟩,Heap.get?_push_of_some _ g⟩⟩
  refine⟨fun b hb=>by simp at hb;simp[hb],fun i h h' st m=>?_,fun i s' Q E hi st k=>?_,fun s' Q E st k=>?_,fun i s' Q E st q=>?_⟩
  ·obtain⟨⟨o1,g1,c1,d1⟩,g2⟩:=st
   exact⟨⟨o1,m _ (by simp) o1 g1,c1,d1⟩,m _ (by simp) o g2⟩
  ·refine sI st.1 st.2 he hi fun h' it' sb=>k _ h' _ ⟨hi,rfl⟩ ⟨it',?_⟩ fun b o' hb g'=>?_
   ·have:d≠s.heap.objs.size:=Nat.ne_of_lt (Heap.lt_size g)
    rw[sb.2 d this];exact st.2
   ·rw[sb.2 b (by simpa using hb)];exact g'
  ·exact vV hh st.1 st.2 he (Nat.le_refl _) fun h' eb=>k h' _ fun b o' hb g'=>eb b o' (by simpa using hb) g'
  ·exact wpAny_pyIter_keyiter st.1 q
section
variable{prog:Program}{w:World}{A:Around}{E:Value->Shared->Prop}{s:Shared}{κ:SortKind}{LT:Keyed->Keyed->Bool}{X:Keyed->Prop}
def L5(prog:Program)(w:World)(A:Around)(E:Value->Shared->Prop)(s:Shared)(κ:SortKind)(LT:Keyed->Keyed->Bool)(X:Keyed->Prop):Prop:=
 ∀x y st (Q:Option Bool->SortSt->Shared->Prop),X x->X y->Rows.kindOf st=κ->Q (some (LT x y)) st s->kasC (model prog w) A E (lt' x y) Q st s
theorem xE{arr:Array Keyed}{i:Nat}{x:Keyed}{st:SortSt}{Q:Keyed->SortSt->Shared->Prop}(h:arr[i]?=some x)(q:Q x st s):kasC (model prog w) A E (elem' arr i) Q st s:=by
 rw[elem'_eq,h]
 exact kasC_pure q
end
section
variable{α:Type}{LT:α->α->Bool}{a b o:List α}{i j k:Nat}
def L7(LT:α->α->Bool)(l:List α):Prop:=l.Pairwise fun x y=>LT x y=true
end
section
variable{prog:Program}{w:World}{A:Around}{E:Value->Shared->Prop}{s:Shared}{κ:SortKind}{LT:Keyed->Keyed->Bool}{X:Keyed->Prop}
def Gl(st st':SortSt):Prop:=∃g,st'=SortSt.mk' (Rows.kindOf st) (arrOf st) (pendingOf st) g (failedOf st)
theorem nQ{l:Array Keyed}{i:Nat}(h:i<l.size):l[i]?=some (kas_item l i):=by
 unfold kas_item;simp[Array.getD,h]
theorem DM{l:Array Keyed}{i:Nat}(h:i<l.size):l.toList.drop i=kas_item l i::l.toList.drop (i+1):=by
 rw[List.drop_eq_getElem_cons (by simpa using h)]
 congr 1
 have:=nQ h
 simpa [h] using this
theorem Hm{l:Array Keyed}{i:Nat}(h:i<l.size):kas_item l i∈l.toList:=List.mem_of_mem_drop (i:=i) (by rw[DM h];exact List.mem_cons_self)
theorem Lb{l:Array Keyed}{i:Nat}{x:Keyed}(h:x∈l.toList.drop i):∃t,i+t<l.size/\x=kas_item l (i+t):=by
 obtain⟨t,ht,e⟩:=List.getElem_of_mem h
 rw[List.length_drop]at ht
 have hz:i+t<l.size:=by simp at ht;omega
 refine⟨t,hz,?_⟩
 rw[<-e,List.getElem_drop]
 have:=nQ hz
 simpa [hz] using this
theorem DL{l:Array Keyed}{i k:Nat}{x:Keyed}(h:x∈(l.toList.drop i).take k):∃t,t<k/\i+t<l.size/\x=kas_item l (i+t):=by
 obtain⟨t,ht,e⟩:=List.getElem_of_mem h
 rw[List.length_take,List.length_drop]at ht
 have hz:i+t<l.size:=by simp at ht;omega
 refine⟨t,by omega,hz,?_⟩
 rw[<-e,List.getElem_take,List.getElem_drop]
 have:=nQ hz
 simpa [hz] using this
theorem Ho{l:Array Keyed}{i j:Nat}(h:L7 LT l.toList)(hij:i<j)(hj:j<l.size):LT (kas_item l i) (kas_item l j)=true:=by
 have hi:i<l.size:=by omega
 have:=List.pairwise_iff_getElem.mp h i j (by simpa using hi) (by simpa using hj) hij
 have e1:=nQ hi
 have e2:=nQ hj
 simp only[hi,hj,getElem?_pos,Option.some.injEq]at e1 e2
 rw[<-e1,<-e2]
 simpa using this
variable{a b out:Array Keyed}{i j k:Nat}
end
section
variable{LT:Keyed->Keyed->Bool}{X:Keyed->Prop}{a b out:Array Keyed}{i j p:Nat}
theorem DO{l:Array Keyed}{x:Keyed}(h:x∈l.toList.take i):∃t,t<i/\t<l.size/\x=kas_item l t:=by
 obtain⟨t,h1,h2,e⟩:=DL (i:=0) (k:=i) h
 exact⟨t,h1,by omega,by rw[e,Nat.zero_add]⟩
end
section
variable{prog:Program}{w:World}{A:Around}{E:Value->Shared->Prop}{s:Shared}{κ:SortKind}{LT:Keyed->Keyed->Bool}{X:Keyed->Prop}
theorem tu{P R S:List Keyed}{arr:Array Keyed}(h:arr.toList=P++(R++S)){i:Nat}(hi:i<R.length):P.length+i<arr.size/\arr[P.length+i]?=some (kas_item R.toArray i):=by
 have hz:arr.size=P.length+(R.length+S.length):=by rw[<-Array.length_toList,h,List.length_append,List.length_append]
 refine⟨by omega,?_⟩
 rw[<-Array.getElem?_toList,h,List.getElem?_append_right (by omega),Nat.add_sub_cancel_left,List.getElem?_append_left hi]
 have:=nQ (l:=R.toArray) (i:=i) (by simpa using hi)
 simpa using this
end
section
variable{prog:Program}{w:World}{A:Around}{E:Value->Shared->Prop}{s:Shared}{κ:SortKind}{LT:Keyed->Keyed->Bool}{X:Keyed->Prop}
variable{R1 R2 P S:List Keyed}{k m:Nat}
theorem im{l:List Keyed}{i:Nat}(h:i<l.length):kas_item l.toArray i∈l:=by
 have:=Hm (l:=l.toArray) (i:=i) (by simpa using h)
 simpa using this
theorem ia{l:List Keyed}{i j:Nat}(ha:L7 LT l)(h:i<j)(hj:j<l.length):LT (kas_item l.toArray i) (kas_item l.toArray j)=true:=Ho (l:=l.toArray) (by simpa using ha) h (by simpa using hj)
theorem io{l:List Keyed}{x:Keyed}(h:x∈l.drop k):∃t,k<=t/\t<l.length/\x=kas_item l.toArray t:=by
 obtain⟨t,h1,h2⟩:=Lb (l:=l.toArray) (i:=k) (by simpa using h)
 exact⟨k+t,by omega,by simpa using h1,h2⟩
theorem ip{l:List Keyed}{x:Keyed}(h:x∈l.take k):∃t,t<k/\t<l.length/\x=kas_item l.toArray t:=by
 obtain⟨t,h1,h2,h3⟩:=DO (l:=l.toArray) (i:=k) (by simpa using h)
 exact⟨t,h1,by simpa using h2,h3⟩
end
section
variable{prog:Program}{w:World}{A:Around}{E:Value->Shared->Prop}{s:Shared}{κ:SortKind}{LT:Keyed->Keyed->Bool}{X:Keyed->Prop}{P W:List Keyed}
structure Od(LT:Keyed->Keyed->Bool)(X:Keyed->Prop)(W:List Keyed):Prop where
 xx:∀x∈W,X x
 tr:∀{x y z},X x->X y->X z->LT x y=true->LT y z=true->LT x z=true
 asym:∀{x y},X x->X y->LT x y=true->LT y x=false
 pw:W.Pairwise fun x y=>LT x y=true\/LT y x=true
theorem GI(hl:L5 prog w A E s κ LT X)(O:Od LT X W){st:SortSt}{i j:Nat}{Q:Option Bool->SortSt->Shared->Prop}(hk:Rows.kindOf st=κ)(ha:(arrOf st).toList=P++W)(hi:i<W.length)(hj:j<W.length)(q:Q (some (LT (kas_item W.toArray i) (kas_item W.toArray j))) st s):kasC (model prog w) A E (ltAt' (P.length+i) (P.length+j)) Q st s:=by
 have h':(arrOf st).toList=P++(W++[]):=by rw[ha,List.append_nil]
 rw[ltAt'_eq]
 refine kasC_bind (kasC_get ?_)
 refine kasC_bind (xE (tu h' hi).2 ?_)
 refine kasC_bind (xE (tu h' hj).2 ?_)
 exact hl _ _ _ _ (O.xx _ (im hi)) (O.xx _ (im hj)) hk q
end
section
variable{prog:Program}{w:World}{A:Around}{E:Value->Shared->Prop}{s:Shared}{κ:SortKind}{LT:Keyed->Keyed->Bool}{X:Keyed->Prop}{P W:List Keyed}
theorem lt1(hl:L5 prog w A E s κ LT X)(O:Od LT X W){st:SortSt}{n:Nat}{Q:Option Bool->SortSt->Shared->Prop}(hk:Rows.kindOf st=κ)(ha:(arrOf st).toList=P++W)(h1:1<=n)(hn:n<W.length)(q:Q (some (LT (kas_item W.toArray n) (kas_item W.toArray (n-1)))) st s):kasC (model prog w) A E (ltAt' (P.length+n) (P.length+n-1)) Q st s:=by
 rw[show P.length+n-1=P.length+(n-1)by omega]
 exact GI hl O hk ha hn (by omega) q
end
end OP
namespace OP
open PySem PySem.Spec PyProof.Rows L2 OG
section
variable{P:Program}{w:World}{K:PySem.W.Frag}{h base:Heap}{mg:Str->Option Value}{x q:Str}{st:Stmt}{f C:Addr}{oc:Value}{od an:Option Addr}{osl:Array (Option Value)}{kV doc pm cdv ct:Value}{ps N:List Str}{k:Nat}{c:CS}{cl:Cl}
def L6(K:PySem.W.Frag)(x q:Str)(st:Stmt)(f:Addr):Prop:=∃fd,Fun K x q st f fd
abbrev fAt(x q:Str)(st:Stmt)(oc:Value)(od an:Option Addr)(osl:Array (Option Value))(kV doc pm cdv ct:Value):Obj:=⟨oc,od,.func (PySem.W.fnOf x q (ja st) (dN st) (ay st) .none kV doc pm an cdv ct),osl⟩
def Ie(K:PySem.W.Frag)(x:Str)(st:Stmt):Prop:=∃f,PySem.W.nsIn K mainGlobals x=some (some (.ref f))/\L6 K x x st f
theorem MN(a:PySem.W.nsIn K mainGlobals x=some (some (.ref f)))(l:K.lookup f=some (fAt x x st oc od an osl kV doc pm cdv ct))(c:PySem.W.codeIn K cdv x=true)(k:PySem.W.keepIn K (.ref f)=true):Ie K x st:=⟨f,a,_,Bb l c k⟩
def Ib(K:PySem.W.Frag):List (Str×Stmt)->Prop
 |[]=>True
 |(x,st)::r=>Ie K x st/\Ib K r
def H0(K:PySem.W.Frag)(C:Addr)(x q:Str)(st:Stmt):Prop:=∃f,PySem.W.findIn K (.ref C) x=some (some (.ref f))/\PySem.W.isFn K (.ref f)=true/\L6 K x q st f
theorem ME(a:PySem.W.findIn K (.ref C) x=some (some (.ref f)))(i:PySem.W.isFn K (.ref f)=true)(l:K.lookup f=some (fAt x q st oc od an osl kV doc pm cdv ct))(c:PySem.W.codeIn K cdv q=true)(k:PySem.W.keepIn K (.ref f)=true):H0 K C x q st:=⟨f,a,i,_,Bb l c k⟩
def HZ(K:PySem.W.Frag)(C:Addr):List (Str×Str×Stmt)->Prop
 |[]=>True
 |(x,q,st)::r=>H0 K C x q st/\HZ K C r
def HY(K:PySem.W.Frag)(C:Addr):List Str->Prop
 |[]=>True
 |x::r=>PySem.W.findIn K (.ref C) x=some none/\HY K C r
def IG(K:PySem.W.Frag):List Str->Prop
 |[]=>True
 |x::r=>PySem.W.nsIn K mainGlobals x=some none/\IG K r
structure Ih(K:PySem.W.Frag)(x:Str)(C:Addr)(ns:List Str)(ms:List (Str×Str×Stmt)):Prop where
 a:PySem.W.nsIn K mainGlobals x=some (some (.ref C))
 pg:PySem.W.plainGet K C Str.empty=true
 hd:PySem.W.hasDictIn K C=true
 po:PySem.W.plainOver K C=true
 sa:PySem.W.findIn K (.ref C) "__setattr__"=some (some (.builtin "object.__setattr__"))
 mc:PySem.W.makesIn K C=true
 kc:PySem.W.keepIn K (.ref C)=true
 nf:HY K C ns
 ms:HZ K C ms
theorem HY.nas:∀{ns:List Str},HY K C ns->∀f∈ns,PySem.W.findIn K (.ref C) f=some none
 |[],_,f,h=>by cases h
 |x::r,h,f,hf=>by
  rcases List.mem_cons.mp hf with rfl|z
  ·exact h.1
  ·exact HY.nas h.2 f z
theorem Ih.tc{ns:List Str}{ms:List (Str×Str×Stmt)}(h:Ih K x C ns ms):TC K (⟨C,ns⟩:Cl) ns:=⟨⟨h.pg,h.hd,h.po,h.sa⟩,rfl,fun f hf=>h.nf.nas f hf⟩
abbrev Bd(x q:Str)(st:Stmt)(ps:List Str):Prop:=∀us:List Value,us.length=ps.length->∀(kV doc pm:Value) (an:Option Addr) (cdv ct:Value),bindArgs (PySem.W.fnOf x q (ja st) (dN st) (ay st) .none kV doc pm an cdv ct) ⟨us,[]⟩=pure (ps.zip us)
theorem Ie.df(d:Ie K x st)(X:K.In h)(G:h.Ns mainGlobals mg)(b:Bd x x st ps:=by first|exact Em fun _ _ _ _ _ _=>rfl|(repeat (first|exact Em fun _ _ _ _ _ _=>rfl|refine Lj fun _=>?_))):Def K mg x st ps:=by
 obtain⟨f,a,fd,F⟩:=d
 exact⟨f,fd,F,F.binds fun kV doc pm an cdv ct us hl=>b us hl kV doc pm an cdv ct,PySem.W.mg_of X G a⟩
def MtD(K:PySem.W.Frag)(C:Addr)(x q:Str)(st:Stmt)(ps:List Str):Prop:=∃fa fd,Fun K x q st fa fd/\gQ K fd ps []/\Eh K C x fa
theorem H0.mt(d:H0 K C x q st)(b:Bd x q st ps:=by first|exact Em fun _ _ _ _ _ _=>rfl|(repeat (first|exact Em fun _ _ _ _ _ _=>rfl|refine Lj fun _=>?_))):MtD K C x q st ps:=by
 obtain⟨f,a,i,fd,F⟩:=d
 exact⟨f,fd,F,F.binds fun kV doc pm an cdv ct us hl=>b us hl kV doc pm an cdv ct,a,i,F.kp⟩
theorem MtD.pure(d:MtD K cl.C x q st ps)(S:aN N ps (ay st))
  (hb:∀(f:Addr) (cdv:Value) (A:Around) (outer:List Env) (s:Shared) (H:Hp) (E:XK),gz k (A.deeper (envOfC q (ay st) s.heap.objs.size f cdv))->WSs (tW CX0 P w K mg base N q (ay st) f cdv A outer s H E).nox (dN st) (tS K c)) :
  iQ P w K mg base cl x (k+1) ps (fnU N.length ps.length c):=by
 obtain⟨fa,fd,F,b,m⟩:=d
 exact⟨fa,fd,m,F.pure S (hb fa),b⟩
def MkD(K:PySem.W.Frag)(mg:Str->Option Value)(C:Addr)(x q:Str)(st:Stmt)(ps:List Str):Prop:=∃fa fd,Fun K "__init__" q st fa fd/\gQ K fd ps []/\Mk K C fa/\mg x=some (.ref C)
theorem Ih.mkd{ns:List Str}{ms:List (Str×Str×Stmt)}(h0:Ih K x C ns ms)(d:H0 K C "__init__" q st)(X:K.In h)(G:h.Ns mainGlobals mg)(b:Bd "__init__" q st ps:=by first|exact Em fun _ _ _ _ _ _=>rfl|(repeat (first|exact Em fun _ _ _ _ _ _=>rfl|refine Lj fun _=>?_))):MkD K mg C x q st ps:=by
 obtain⟨f,a,i,fd,F⟩:=d
 exact⟨f,fd,F,F.binds fun kV doc pm an cdv ct us hl=>b us hl kV doc pm an cdv ct,⟨h0.mc,a,i,h0.kc⟩,PySem.W.mg_of X G h0.a⟩
theorem MkD.pure{NS:List Str}(d:MkD K mg cl.C x q st ps)(T:TC K cl NS)(S:aN N ps (ay st))
  (hb:∀(f:Addr) (cdv:Value) (A:Around) (outer:List Env) (s:Shared) (H:Hp) (E:XK),gz k (A.deeper (envOfC q (ay st) s.heap.objs.size f cdv))->WSs (tW CX0 P w K mg base N q (ay st) f cdv A outer s H E).nox (dN st) (tS K c))
  (nd:NS.Nodup:=by decide +kernel) (few:NS.length<1000:=by decide):CMk P w K mg base cl x (k+1) ps (fnU N.length ps.length c):=by
 obtain⟨fa,fd,F,b,m,g⟩:=d
 exact⟨⟨fa,fd,m,F.pure S (hb fa),b,g⟩,by rw[T.ns];exact nd,by rw[T.ns];exact few⟩
def L0:List Str:=["len","isinstance","int","bool","str","tuple","list","range","min","sum","all","zip","sorted","dict","enumerate","any","max","set"]
theorem IG.blt(z:IG K L0)(X:K.In h)(G:h.Ns mainGlobals mg):Blt mg:=by
 obtain⟨a,b,c,d,e,f,g,i,j,k,l,m,n,o,p,q,r,s,-⟩:=z
 constructor<;>(refine PySem.W.mg_none_of X G ?_;assumption)
theorem GL{sp:Sp}{fa:Addr}(d:Ie K "law" st)(X:K.In h)(G:h.Ns mainGlobals mg)(hfa:mg "law"=some (.ref fa))(ok:∀fd,Fun K "law" "law" st fa fd->∀base:Heap,kT P w K mg base CX0 k fa fd ["script"] sp)
  (b:∀(kV doc pm:Value) (an:Option Addr) (cdv ct v:Value),bindArgs (PySem.W.fnOf "law" "law" (ja st) (dN st) (ay st) .none kV doc pm an cdv ct) ⟨[v],[]⟩=pure [(("script":Str),v)]:=by intros;rfl) :
  ∃fd:FuncData,(∀(s:Shared) (v:Value),BindsTo s fd ⟨[v],[]⟩ [("script",v)])/\∀base:Heap,K.In base->base.Ns mainGlobals mg->kT P w K mg base CX0 k fa fd ["script"] sp:=by
 obtain⟨f,a,fd,F⟩:=d
 cases hfa.symm.trans (PySem.W.mg_of X G a)
 refine⟨fd,fun s v=>?_,fun base _ _=>ok fd F base⟩
 obtain⟨oc,od,kV,doc,pm,an,cdv,ct,osl,rfl,lk,hcd⟩:=F.ex
 exact .of_eq (b kV doc pm an cdv ct v)
end
end OP
namespace OP
open PySem PySem.Spec PyProof PyProof.Rows L2 OG PySem.W
section
variable{P:Program}{w:World}
def NI(P:Program)(w:World)(h:Heap)(k:List Int)(v:Value):Prop:=∃b,v=.ref b/\IsTupleKey (intKind P w) h k b
def rY(P:Program)(w:World)(h:Heap)(ks:NK)(a:Addr):Prop:=∃o its n,h.get? a=some o/\o.cls=.type "tuple"/\o.data=.seq its n/\Paired (NI P w h) ks its.toList
def dNK(ks:NK):Nat:=(ks.map fun k=>k.length+1).sum
variable{h:Heap}{s:Shared}{A:Around}{E:Value->Shared->Prop}
theorem rY.ty{ks:NK}{a:Addr}(x:rY P w s.heap ks a):s.TypeIs (.ref a) "tuple":=let ⟨o,_,_,g,c,_⟩:=x;⟨o,g,c⟩
theorem A4:∀{ks ls:NK} {vs:List Value},Paired (NI P w h) ks vs->Paired (NI P w h) ls vs->ks=ls
 |_,_,_,.nil,.nil=>rfl
 |_,_,_,.cons a r,.cons b t=>by
  obtain⟨x,rfl,p⟩:=a
  obtain⟨y,e,q⟩:=b
  cases e
  rw[p.inj q,A4 r t]
theorem rY.inj{ks ls:NK}{a:Addr}(x:rY P w h ks a)(y:rY P w h ls a):ks=ls:=by
 obtain⟨o,its,n,g,_,d,r⟩:=x
 obtain⟨o',its',n',g',_,d',r'⟩:=y
 rw[g]at g';cases g'
 rw[d]at d';cases d'
 exact A4 r r'
theorem rY.keeps{h':Heap}{ks:NK}{a d:Addr}{o:Obj}{es ep}(x:rY P w h ks a)(g0:h.get? d=some o)(d0:o.data=.dict es ep)(sb:Heap.SameBut d h h'):rY P w h' ks a:=by
 obtain⟨ob,its,n,g,c,e,r⟩:=x
 have ne:a≠d:=fun z=>by subst z;rw[g]at g0;cases g0;rw[e]at d0;cases d0
 exact⟨ob,its,n,(sb.2 a ne).trans g,c,e,Paired.mapP r fun k v ⟨b,e1,t⟩=>⟨b,e1,t.keeps g0 d0 sb⟩⟩
theorem Dx{ks:NK}{a:Addr}{Q:Int->Shared->Prop}(hu:A.units+1<cLine)(hk:rY P w s.heap ks a)(q:Q (hNK ks) { s with toks:=s.toks+(dNK ks+1) }):wpAny (model P w) A (pyHash (.ref a)) Q E s:=by
 have T:=hk.ty
 obtain⟨o,its,n,g,_,d,r⟩:=hk
 have eh:hNK ks=reduceHash (Builtin.Tuple.tupleHashOf (ks.map (tupleKeyHash (intKind P w)))):=rfl
 rw[eh]at q
 clear eh
 unfold pyHash
 first|unfold pyHashByItsType|skip
 first|refine wpAny_bind (wpAny_cRoomFor_or (Or.inr (Nat.lt_of_succ_lt hu)) ?_)|skip
 refine wpAny_bind (wpAny_specialOf T PySem.F.slot_tuple_hash.lookup ?_)
 have nb:¬(some (Value.builtin "tuple.__hash__") == some Value.none)=true:=by rw[beq_builtin_none];exact Bool.false_ne_true
 dsimp only
 rw[if_neg nb]
 refine wpAny_bind (wpAny_specialOf T PySem.F.slot_tuple_hash.lookup ?_)
 refine wpAny_bind (wpAny_callSpecialIfBoundUnlessNone?_slot T PySem.F.slot_tuple_hash (wpAny_call_entry PySem.F.slot_tuple_hash T PySem.F.entry_tuple_hash ?_ (PySem.F.args_tuple_hash_1 _)))
 refine wpAny_bind (m:=Builtin.Tuple.tupleItemsOf (.ref a)) (wpAny_tupleItemsOf g d ?_)
 refine wpAny_bind ?_
 rw[<-Array.forIn_toList]
 refine wpAny_forIn_list _ (fun rest (b:Array Int) s'=>∃fore aft,ks=fore++aft/\Paired (NI P w s.heap) aft rest/\b.toList=fore.map (tupleKeyHash (intKind P w))/\s'={ s with toks:=s.toks+dNK fore }) _ ?_ ?_ _ _ ⟨[],ks,rfl,r,rfl,rfl⟩
 ·rintro x rest b s' ⟨fore,aft,rfl,hl,hb,rfl⟩
  cases hl with
  |@cons k _ ks' _ h1 hl'=>
   obtain⟨c,rfl,t⟩:=h1
   refine wpAny_bind (wpAny_pyHash_tuple (s:={ s with toks:=s.toks+dNK fore }) hu t ?_)
   have fin:∃fore' aft',fore++k::ks'=fore'++aft'/\Paired (NI P w s.heap) aft' rest/\(b.push (tupleKeyHash (intKind P w) k)).toList=fore'.map (tupleKeyHash (intKind P w))/\({ s with toks:=s.toks+dNK fore+(k.length+1) }:Shared)={ s with toks:=s.toks+dNK fore' }:=⟨fore++[k],ks',by simp,hl',by simp[hb],by simp[dNK,Nat.add_assoc]⟩
   first
    |exact wpAny_pure fin
    |exact wpAny_bind (wpAny_pure (wpAny_pure fin))
 ·rintro b s' ⟨fore,aft,rfl,hl,hb,rfl⟩
  cases hl
  rw[List.append_nil]at q
  show wpAny _ _ (retInt (Builtin.Tuple.tupleHashOf b.toList)) _ _ _
  rw[hb]
  refine wpAny_ret_mkInt ?_
  unfold reduceHash at q
  unfold pyHashByItsType.reduced
  dsimp only
  split at q
  ·rename_i c
   rw[if_pos c]
   exact wpAny_pure (by simpa [Nat.add_assoc] using q)
  ·rename_i c
   rw[if_neg c]
   exact wpAny_bind (wpAny_rule (wpAny_pure (by simpa [Nat.add_assoc] using q)))
theorem GF{x y:NK}{a b:Addr}{R:PySem.Fin->Shared->Prop}(hu:A.units<cLine)(hx:rY P w s.heap x a)(hy:rY P w s.heap y b)(q:R (.done (.ret (.bool (decide (x=y))))) s) :
  wpAny (model P w) A (Builtin.«tuple.__eq__» ⟨[.ref a,.ref b],[]⟩) R E s:=by
 have T:=hy.ty
 obtain⟨oa,xs,na,ga,_,da,ra⟩:=hx
 obtain⟨ob,ys,nb,gb,_,db,rb⟩:=hy
 refine wpAny_bind (m:=isInstance (.ref b) (.type "tuple")) (wpAny_isInstance T isSubtype_tuple_tuple ?_)
 simp only[Bool.not_true,Bool.false_eq_true,if_false]
 refine wpAny_bind (wpAny_tupleItemsOf ga da (wpAny_bind (wpAny_tupleItemsOf gb db (wpAny_bind ?_))))
 refine wpAny_forIn_list _ (fun rest r s'=>r.1=none/\s'=s/\∃x' y' us vs,rest=List.zip us vs/\Paired (NI P w s.heap) x' us/\Paired (NI P w s.heap) y' vs/\decide (x'=y')=decide (x=y)/\(us.length == vs.length)=(xs.size == ys.size)) _ ?_ ?_ _ _ ⟨rfl,rfl,x,y,xs.toList,ys.toList,rfl,ra,rb,rfl,by simp⟩
 ·rintro⟨u,v⟩ rest r s' ⟨hr,rfl,x',y',us,vs,hz,h1,h2,hd,hl⟩
  cases h1 with
  |nil=>simp at hz
  |@cons k1 _ x2 us2 p1 t1=>cases h2 with
   |nil=>simp at hz
   |@cons k2 _ y2 vs2 p2 t2=>
    rw[List.zip_cons_cons]at hz
    injection hz with e1 e2
    injection e1 with e3 e4
    subst e2;subst e3;subst e4
    obtain⟨c1,rfl,q1⟩:=p1
    obtain⟨c2,rfl,q2⟩:=p2
    refine wpAny_bind (wpAny_eqBool_tuple hu q1 q2 ?_)
    by_cases hk:k1=k2
    ·subst hk
     rw[decide_eq_true rfl]
     simp only[Bool.not_true,Bool.false_eq_true,if_false]
     refine wpAny_pure ⟨rfl,rfl,x2,y2,us2,vs2,rfl,t1,t2,?_,by simpa using hl⟩
     rw[<-hd]
     by_cases hxy:x2=y2<;>simp[hxy]
    ·rw[decide_eq_false hk]
     simp only[Bool.not_false,if_true]
     have hf:decide (x=y)=false:=by rw[<-hd];simp[hk]
     rw[hf]at q
     exact wpAny_bind (wpAny_pure (wpAny_pure (wpAny_pure q)))
 ·rintro⟨r1,r2⟩ s' ⟨hr,rfl,x',y',us,vs,hz,h1,h2,hd,hl⟩
  dsimp only at hr
  subst hr
  refine wpAny_pure ?_
  have e:(xs.size == ys.size)=decide (x=y):=by
   rw[<-hd,<-hl]
   cases h1 with
   |nil=>cases h2 with
    |nil=>simp
    |cons _ _=>simp
   |cons _ _=>cases h2 with
    |nil=>simp
    |cons _ _=>simp at hz
  rw[<-e]at q
  exact q
theorem Km{x y:NK}{a b:Addr}{Q:Bool->Shared->Prop}(hu:A.units+1<cLine)(hx:rY P w s.heap x a)(hy:rY P w s.heap y b)(q:Q (decide (x=y)) s):wpAny (model P w) A (eqBool (.ref a) (.ref b)) Q E s:=by
 unfold eqBool
 try with_reducible refine wpAny_holding ?_
 dsimp only
 by_cases hab:(Value.ref a == Value.ref b)=true
 ·rw[if_pos hab]
  have e:a=b:=by have:=eq_of_beq hab;injection this
  subst e
  obtain rfl:=hx.inj hy
  exact wpAny_bind (wpAny_rule (wpAny_pure (by simpa using q)))
 ·rw[if_neg hab]
  exact wpAny_bind (wpAny_richCompare_same_room (op:=.Eq) hx.ty hy.ty PySem.F.slot_tuple_eq (wpAny_call_entry PySem.F.slot_tuple_eq hx.ty PySem.F.entry_tuple_eq (GF hu hx hy ⟨_,rfl,(fun e=>nomatch e),wpAny_truthy_bool q⟩) (PySem.F.args_tuple_eq_2 _ _)) (Nat.lt_of_succ_lt hu))
theorem wI{ks:List Int}{a:Addr}{n:Nat}{Q:Bool->Shared->Prop}(hk:IsTupleKey (intKind P w) s.heap ks a)(q:Q true s):wpAny (model P w) A (eqIsQuiet (n+1) (.ref a)) Q E s:=by
 have T:=hk.typeIs
 obtain⟨o,its,k,g,_,d,i⟩:=hk
 unfold eqIsQuiet
 refine wpAny_bind (wpAny_specialOf T PySem.F.slot_tuple_eq.lookup ?_)
 refine wpAny_bind (m:=isInstance (.ref a) (.type "tuple")) (wpAny_isInstance T isSubtype_tuple_tuple ?_)
 simp only[Bool.not_true,Bool.false_eq_true,if_false]
 refine wpAny_bind (wpAny_seqItems g d (wpAny_bind ?_))
 change wpAny _ _ (forIn its _ _) _ _ s
 rw[<-Array.forIn_toList]
 refine wpAny_forIn_list _ (fun rest r s'=>r.1=none/\s'=s/\∀v∈rest,carriedByValue v=true) _ ?_ ?_ _ _ ⟨rfl,rfl,i.byValue⟩
 ·rintro v rest r s' ⟨hr,rfl,all⟩
  rw[eqIsQuiet_byValue _ (all v List.mem_cons_self)]
  refine wpAny_bind (wpAny_pure ?_)
  simp only[Bool.not_true,Bool.false_eq_true,if_false]
  exact wpAny_pure ⟨rfl,rfl,fun u hu'=>all u (List.mem_cons_of_mem _ hu')⟩
 ·rintro⟨r1,r2⟩ s' ⟨hr,rfl,_⟩
  dsimp only at hr
  subst hr
  exact wpAny_pure q
theorem zS{ks:NK}{a:Addr}{Q:Bool->Shared->Prop}(hk:rY P w s.heap ks a)(q:Q true s):wpAny (model P w) A (eqIsQuiet 8 (.ref a)) Q E s:=by
 have T:=hk.ty
 obtain⟨o,its,k,g,_,d,i⟩:=hk
 unfold eqIsQuiet
 refine wpAny_bind (wpAny_specialOf T PySem.F.slot_tuple_eq.lookup ?_)
 refine wpAny_bind (m:=isInstance (.ref a) (.type "tuple")) (wpAny_isInstance T isSubtype_tuple_tuple ?_)
 simp only[Bool.not_true,Bool.false_eq_true,if_false]
 refine wpAny_bind (wpAny_seqItems g d (wpAny_bind ?_))
 change wpAny _ _ (forIn its _ _) _ _ s
 rw[<-Array.forIn_toList]
 refine wpAny_forIn_list _ (fun rest r s'=>r.1=none/\s'=s/\∃ls,Paired (NI P w s.heap) ls rest) _ ?_ ?_ _ _ ⟨rfl,rfl,ks,i⟩
 ·rintro v rest r s' ⟨hr,rfl,ls,all⟩
  cases all with
  |cons p t=>
   obtain⟨c,rfl,p⟩:=p
   refine wpAny_bind (wI p ?_)
   simp only[Bool.not_true,Bool.false_eq_true,if_false]
   exact wpAny_pure ⟨rfl,rfl,_,t⟩
 ·rintro⟨r1,r2⟩ s' ⟨hr,rfl,_⟩
  dsimp only at hr
  subst hr
  exact wpAny_pure q
end
def gE(P:Program)(w:World):HeapKind P w NK where
 is:=rY P w
 hash:=hNK
 draws:=fun ks=>dNK ks+1
 room:=fun A=>A.units+1<cLine
 inj:=fun x y=>x.inj y
 keeps:=fun x g d sb=>x.keeps g d sb
 pyHash:=fun hu hk q=>Dx hu hk q
 eqBool:=fun hu x y q=>Km hu x y q
 quiet:=fun hk q=>zS hk q
section
variable{P:Program}{w:World}{K:PySem.W.Frag}{m:List Addr}{H:Hp}
theorem tH:∀{ns:List Int} {us:List Value},cg (ns.map V.int) us->ItemsAre (intKind P w) ns us
 |[],_,r=>by cases r;exact .nil
 |n::ns,_,r=>by
  cases r with
  |cons a t=>obtain⟨k,rfl⟩:=a;exact .cons (intKind_is _ _ _ _) (tH t)
theorem sG:∀{cs:List Addr} {us:List Value},cg (cs.map V.ref) us->us=cs.map Value.ref
 |[],_,r=>by cases r;rfl
 |c::cs,_,r=>by
  cases r with
  |cons a t=>cases a;rw[sG t];rfl
variable{X:Cx}{pins:List (Addr×Obj)}{σ:L2.St}{s:Shared}{a b:Addr}{k:NK}{kvs:List ((NK×Addr)×V)}{v:V}{A:Around}{E:Value->Shared->Prop}
theorem wX(I:Inv X pins σ H s)(h:j3 X.K H b k):(gE X.prog X.w).is s.heap k b:=by
 obtain⟨cs,p,q⟩:=h
 obtain⟨its,r,⟨o,h1,h2,n,h3⟩,hz⟩:=I.tuple p
 have e:=sG r
 subst e
 refine⟨o,_,n,h1,h2,h3,?_⟩
 clear p r h3 hz
 induction q with
 |nil=>exact .nil
 |cons z _ ih=>
  refine .cons ?_ ih
  obtain⟨its,r,⟨o,h1,h2,n,h3⟩,_⟩:=I.tuple z
  exact⟨_,rfl,o,its.toArray,n,h1,h2,h3,by simpa using tH r⟩
theorem KN.val{xs:List (NK×Addr×Value)}(r:KN kvs xs)(k:NK):o6 (fE (nP kvs) k) ((atKey xs k).map (·.2)):=by
 induction r with
 |nil=>exact True.intro
 |@cons p q ps qs h t ih=>
  obtain⟨h1,_,h2⟩:=h
  by_cases e:p.1.1=k
  ·have e':q.1=k:=h1.symm.trans e
   have b:atKey (q::qs) k=some q.2:=by simp[atKey,List.find?_cons,e']
   have c:fE (nP (p::ps)) k=some p.2:=by simp[fE,nP,List.find?_cons,e]
   rw[c,b];exact h2
  ·have e':¬q.1=k:=fun z=>e (h1.trans z)
   have b:atKey (q::qs) k=atKey qs k:=by simp[atKey,List.find?_cons,e']
   have c:fE (nP (p::ps)) k=fE (nP ps) k:=by simp[fE,nP,List.find?_cons,e]
   rw[c,b];exact ih
def wj(kvs:List ((NK×Addr)×V))(k:NK)(b:Addr)(v:V):List ((NK×Addr)×V):=if (fE (nP kvs) k).isSome=true then kvs.map fun p=>if p.1.1=k then(p.1,v)else p else kvs++[((k,b),v)]
theorem GG:nP (wj kvs k b v)=nL (nP kvs) k v:=by
 unfold wj nL
 have e:((nP kvs).any fun kv=>decide (kv.1=k))=(fE (nP kvs) k).isSome:=by rw[je]
 rw[e]
 split
 ·unfold nP
  rw[List.map_map,List.map_map]
  refine List.map_congr_left fun p _=>?_
  dsimp only[Function.comp]
  by_cases c:p.1.1=k
  ·rw[if_pos c,if_pos c]
  ·rw[if_neg c,if_neg c]
 ·unfold nP;rw[List.map_append];rfl
theorem zo{p:(NK×Addr)×V}(h:p∈wj kvs k b v):(∃q∈kvs,q.1=p.1)\/p.1=(k,b):=by
 unfold wj at h
 split at h
 ·obtain⟨q,hq,e⟩:=List.mem_map.mp h
  refine .inl ⟨q,hq,?_⟩
  split at e
  ·rw[<-e]
  ·rw[e]
 ·rcases List.mem_append.mp h with z|z
  ·exact .inl ⟨p,z,rfl⟩
  ·rw[List.mem_singleton.mp z];exact .inr rfl
theorem zp:(wj kvs k b v).length<=kvs.length+1:=by
 unfold wj
 split
 ·rw[List.length_map];omega
 ·rw[List.length_append];exact Nat.le_refl _
theorem KN.put{xs:List (NK×Addr×Value)}{u:Value}(r:KN kvs xs)(ru:du v u):KN (wj kvs k b v) (storedH xs k b u):=by
 have e:=(r.val k).isSome_eq
 rw[Option.isSome_map]at e
 unfold wj storedH
 rw[e]
 split
 ·clear e
  rename_i hs
  clear hs
  induction r with
  |nil=>exact .nil
  |@cons p q ps qs h t ih=>
   rw[List.map_cons,List.map_cons]
   refine .cons ?_ ih
   obtain⟨h1,h2,h3⟩:=h
   unfold putAt
   by_cases c:p.1.1=k
   ·rw[if_pos c,if_pos (h1.symm.trans c)];exact⟨h1,h2,ru⟩
   ·rw[if_neg c,if_neg (fun z=>c (h1.trans z))];exact⟨h1,h2,h3⟩
 ·exact Paired.snoc r ⟨rfl,rfl,ru⟩
theorem xI(I:Inv X pins σ H s)(e:Rd H a (dNo a kvs))(ky:∀p∈kvs,j3 X.K H p.1.2 p.1.1):kvs.length<=sizeLine/\(a == sysModules)=false/\∃xs,KN kvs xs/\s.heap.DictOfH (gE X.prog X.w) a xs:=by
 obtain⟨⟨z,y,xs,r,o,es,ep,h1,h2,h3,h4,h5⟩,rest⟩:=(show cZ X.prog X.w H s.heap a (dNo a kvs)from e.ok I.hok)
 refine⟨z,y,xs,r,o,es,ep,h1,h2,h3,h4,fun x hx=>?_,h5⟩
 clear h4 h5 e z rest
 induction r with
 |nil=>exact nomatch hx
 |@cons p q ps qs hq t ih=>
  rcases List.mem_cons.mp hx with e|hx
  ·subst e
   have:=wX I (ky p List.mem_cons_self)
   rw[hq.1,hq.2.1]at this
   exact this
  ·exact ih (fun p hp=>ky p (List.mem_cons_of_mem _ hp)) hx
theorem Ks{Q:Value->Shared->Prop}(hu:A.units+2<cLine)(I:Inv X pins σ H s)(e:Rd H a (dNo a kvs))(ky:∀p∈kvs,j3 X.K H p.1.2 p.1.1)(kb:j3 X.K H b k)(l:fE (nP kvs) k=some v)(q:∀w' s',Inv X pins σ H s'->du v w'->Q w' s') :
  wpAny (model X.prog X.w) A (getItem (.ref a) (.ref b)) Q E s:=by
 obtain⟨z,hd,xs,rel,dd⟩:=xI I e ky
 obtain⟨w',hw,rw'⟩:=o6.some_of (v:=v) (o:=(atKey xs k).map (·.2)) (by rw[<-l];exact rel.val k)
 obtain⟨p,hp,hp2⟩:=Option.map_eq_some_iff.mp hw
 refine wpAny_getItem_heap (knd:=gE X.prog X.w) hu (wX I kb) dd hp ?_
 rw[hp2]
 exact q w' _ (I.tok _) rw'
theorem Kr{Q:Value->Shared->Prop}(hu:A.units+2<cLine)(I:Inv X pins σ H s)(e:Rd H a (dNo a kvs))(ky:∀p∈kvs,j3 X.K H p.1.2 p.1.1)(kb:j3 X.K H b k)(q:∀s',Inv X pins σ H s'->Q (.bool (!(fE (nP kvs) k).isSome)) s') :
  wpAny (model X.prog X.w) A (compareOp .NotIn (.ref b) (.ref a)) Q E s:=by
 obtain⟨z,hd,xs,rel,dd⟩:=xI I e ky
 refine wpAny_notIn_heap (knd:=gE X.prog X.w) hu (wX I kb) hd dd ?_
 have e1:=(rel.val k).isSome_eq
 rw[Option.isSome_map]at e1
 rw[<-e1]
 exact q _ (I.tok _)
theorem xJ{h':Heap}{P:Program}{w:World}{xs:List (NK×Addr×Value)}(z:kvs.length<=sizeLine)(hd:(a == sysModules)=false)(rel:KN kvs xs)(dd:h'.DictOfH (gE P w) a xs):cZ P w H h' a (dNo a kvs):=by
 obtain⟨o,es,ep,h1,h2,h3,h4,_,h5⟩:=dd
 refine⟨⟨z,hd,xs,rel,o,es,ep,h1,h2,h3,h4,h5⟩,⟨o,h1⟩,fun g1 g2 ⟨z,y,xs,r,o,es,ep,h1,h2⟩ k=>⟨z,y,xs,r,o,es,ep,k o h1,h2⟩⟩
theorem Kq{u:Value}{Q:Unit->Shared->Prop}(hu:A.units+2<cLine)(I:Inv X pins σ H s)(e:H a=some (dNo a kvs))(ky:∀p∈kvs,j3 X.K H p.1.2 p.1.1)(kb:j3 X.K H b k)(hl:kvs.length<sizeLine)(ru:du v u)
  (q:∀s',Inv X pins σ (upd H a (dNo a (wj kvs k b v))) s'->Q () s'):wpAny (model X.prog X.w) A (setItem (.ref a) (.ref b) u) Q E s:=by
 obtain⟨z,hd,xs,rel,dd⟩:=xI I (.inl e) ky
 have hz:xs.length<=sizeLine:=by rw[<-Paired.length rel];exact z
 refine wpAny_setItem_heap (hsz:=hz) (knd:=gE X.prog X.w) hu (wX I kb) dd fun h' dd' hs=>q _ ?_
 obtain⟨o,es,ep,h1,_⟩:=id dd'
 exact oM I (by rw[e];exact True.intro) hs ⟨o,h1⟩ (xJ (by have:=zp (kvs:=kvs) (k:=k) (b:=b) (v:=v);omega) hd (rel.put ru) dd')
end
section
variable{X:Cx}{K:PySem.W.Frag}{m:List Addr}{H:Hp}
def wH:List U->Option NK
 |[]=>some []
 |.tup us::r=>(nc us).bind fun k=>(wH r).map (k::·)
 |_=>none
theorem wG:∀{us:List U} {xs:List V} {ks:NK},IsL K m H xs us->wH us=some ks->∃cs:List Addr,xs=cs.map V.ref/\Paired (fun(l:List Int) c=>SqT K H c (l.map V.int)) ks cs
 |[],xs,ks,i,h=>by cases h;exact⟨[],i.of_nil,.nil⟩
 |u::us,xs,ks,i,h=>by
  unfold wH at h
  split at h
  ·rename_i e;cases e
  ·rename_i us' r e
   injection e with e1 e2
   subst e1;subst e2
   obtain⟨k,hk,h⟩:=Option.bind_eq_some_iff.mp h
   obtain⟨ks',hk',rfl⟩:=Option.map_eq_some_iff.mp h
   obtain⟨x,r,rfl,ix,ir⟩:=i.of_cons
   obtain⟨c,ys,rfl,sq,il⟩:=ix.of_tup
   rw[ju hk]at il
   rw[IsL.ints il]at sq
   obtain⟨cs,rfl,q⟩:=wG ir hk'
   exact⟨c::cs,rfl,.cons sq q⟩
  ·cases h
theorem zZ{us:List U}{v:V}{ks:NK}(i:Is K m H v (.tup us))(h:wH us=some ks):∃b,v=.ref b/\j3 K H b ks:=by
 obtain⟨b,xs,rfl,sq,il⟩:=i.of_tup
 obtain⟨cs,rfl,q⟩:=wG il h
 exact⟨b,rfl,cs,sq,q⟩
def D4(S:Sto)(l:Nat):Option (List (NK×U)):=match S[l]? with
 |some (.dnt kus)=>some kus
 |some (.fdn _ kus)=>some kus
 |_=>none
theorem HJ{S:Sto}{l:Nat}{kus:List (NK×U)}{a:Addr}(sr:Sr K m S H)(ha:m[l]?=some a)(h:D4 S l=some kus):∃kvs,Rd H a (dNo a kvs)/\(∀p∈kvs,j3 K H p.1.2 p.1.1)/\IsP K m H (nP kvs) kus:=by
 unfold D4 at h
 split at h<;>try cases h
 ·rename_i hS
  obtain⟨a',ha',kvs,hx,ky,ip⟩:=sr.get hS
  rw[ha]at ha';cases ha'
  exact⟨kvs,.inl hx,ky,ip⟩
 ·rename_i ep hS
  obtain⟨a',ha',ob,es,kvs,hx,hd,ky,ip⟩:=sr.get hS
  rw[ha]at ha';cases ha'
  exact⟨kvs,.inr ⟨ob,hx⟩,ky,ip⟩
def JZ(K:PySem.W.Frag)(td ty:TE):TE:=fun σ H Q=>td σ H fun x H1=>ty σ H1 fun y H2=>∃a b kvs k v,x=.ref a/\y=.ref b/\Rd H2 a (dNo a kvs)/\(∀p∈kvs,j3 K H2 p.1.2 p.1.1)/\j3 K H2 b k/\fE (nP kvs) k=some v/\Q v H2
theorem Ck{o i:Expr}{td ty:TE}{pos:Pos}(hu:X.A.units+2<cLine)(ho:WE X o td)(hi:WE X i ty)(hs:Et i):WE X (.Subscript o i pos) (JZ X.K td ty):=by
 constructor
 intro pins s σ H Q I h
 refine vJ PySem.F.slot_dict_getitem.lookup hs (thn (ho.h pins s σ H _ I h) fun u s1 hz=>?_)
 obtain⟨x,H1,I1,rx,q1⟩:=hz
 refine thn (hi.h pins s1 σ H1 _ I1 q1) fun iv s2 hz=>?_
 obtain⟨y,H2,I2,ry,a,b,kvs,k,v,rfl,rfl,e,ky,kb,l,q2⟩:=hz
 cases rx
 cases ry
 obtain⟨_,_,xs,rel,dd⟩:=xI I2 e ky
 exact⟨dd.typeIs,Ks hu I2 e ky kb l fun w' s' I' r=>⟨v,H2,I',r,q2⟩⟩
def u2:U->U->Sto->Option (U×Sto):=fun x y S=>match x with
 |.ref l=>match y with
  |.tup us=>(wH us).bind fun ks=>(D4 S l).bind fun kus=>(cw kus ks).bind fun u=>some (u,S)
  |_=>none
 |_=>none
theorem CQ{a b:Expr}{ca cb:CE}{pos:Pos}(hu:X.A.units+2<cLine)(ha:QE X a ca)(hb:QE X b cb)(hs:Et b):QE X (.Subscript a b pos) (cOp u2 ca cb):=
 (Ck hu ha hb hs).imp fun σ H Q hz=>nW hz fun m ρ S u S' sr lr hc post=>by
 obtain⟨⟨x,S1⟩,h1,h⟩:=Option.bind_eq_some_iff.mp hc
 obtain⟨⟨y,S2⟩,h3,h4⟩:=Option.bind_eq_some_iff.mp h
 refine⟨m,ρ,S,_,S1,sr,lr,h1,fun m1 v1 H1 e1 sr1 i1=>⟨m1,ρ,S1,_,S2,sr1,lr.mono e1,h3,fun m2 v2 H2 e2 sr2 i2=>?_⟩⟩
 cases x with
 |ref l=>cases y with
  |tup us=>
   simp only[u2]at h4
   obtain⟨ks,hk,h5⟩:=Option.bind_eq_some_iff.mp h4
   obtain⟨kus,hd,h6⟩:=Option.bind_eq_some_iff.mp h5
   obtain⟨z,hv,h7⟩:=Option.bind_eq_some_iff.mp h6
   cases h7
   obtain⟨a,ha,rfl⟩:=(i1.mono e2).of_ref
   obtain⟨b,rfl,kb⟩:=zZ i2 hk
   obtain⟨kvs,rd,ky,ip⟩:=HJ sr2 ha hd
   have rf:=IsP.val (k:=ks) ip
   rw[hv]at rf
   cases hw:fE (nP kvs) ks with
   |none=>rw[hw]at rf;exact rf.elim
   |some w=>
    rw[hw]at rf
    exact⟨a,b,kvs,ks,w,rfl,rfl,rd,ky,kb,hw,post m2 _ H2 (e1.trans e2) sr2 rf⟩
  |_=>cases h4
 |_=>cases h4
def Fw(K:PySem.W.Frag)(ty td:TE):TE:=fun σ H Q=>ty σ H fun y H1=>td σ H1 fun x H2=>∃a b kvs k,x=.ref a/\y=.ref b/\Rd H2 a (dNo a kvs)/\(∀p∈kvs,j3 K H2 p.1.2 p.1.1)/\j3 K H2 b k/\Q (.bl (!(fE (nP kvs) k).isSome)) H2
theorem Cn{o i:Expr}{td ty:TE}(hu:X.A.units+2<cLine)(hi:WE X i ty)(ho:WE X o td):WC X .NotIn i o (Fw X.K ty td):=by
 constructor
 intro pins s σ H Q I h
 refine thn (hi.h pins s σ H _ I h) fun iv s1 hz=>?_
 obtain⟨y,H1,I1,ry,q1⟩:=hz
 refine thn (ho.h pins s1 σ H1 _ I1 q1) fun u s2 hz=>?_
 obtain⟨x,H2,I2,rx,a,b,kvs,k,rfl,rfl,e,ky,kb,q2⟩:=hz
 cases rx
 cases ry
 exact Kr hu I2 e ky kb fun s3 I3=>⟨.bl _,H2,I3,rfl,q2⟩
def Be:U->U->Sto->Option (U×Sto):=fun y x S=>match x with
 |.ref l=>match y with
  |.tup us=>(wH us).bind fun ks=>(D4 S l).bind fun kus=>some (.bl (!(cw kus ks).isSome),S)
  |_=>none
 |_=>none
theorem zR{ca cb:CE}:∀σ H Q,tE X.K (cOp Be ca cb) σ H Q->Fw X.K (tE X.K ca) (tE X.K cb) σ H Q:=by
 rintro σ H Q ⟨m,ρ,S,u,S',sr,lr,hc,post⟩
 obtain⟨⟨y,S1⟩,h1,h⟩:=Option.bind_eq_some_iff.mp hc
 obtain⟨⟨x,S2⟩,h3,h4⟩:=Option.bind_eq_some_iff.mp h
 refine⟨m,ρ,S,_,S1,sr,lr,h1,fun m1 v1 H1 e1 sr1 i1=>⟨m1,ρ,S1,_,S2,sr1,lr.mono e1,h3,fun m2 v2 H2 e2 sr2 i2=>?_⟩⟩
 cases x with
 |ref l=>cases y with
  |tup us=>
   simp only[Be]at h4
   obtain⟨ks,hk,h5⟩:=Option.bind_eq_some_iff.mp h4
   obtain⟨kus,hd,h6⟩:=Option.bind_eq_some_iff.mp h5
   cases h6
   obtain⟨a,ha,rfl⟩:=i2.of_ref
   obtain⟨b,rfl,kb⟩:=zZ (i1.mono e2) hk
   obtain⟨kvs,rd,ky,ip⟩:=HJ sr2 ha hd
   have rf:=IsP.val (k:=ks) ip
   have es:(fE (nP kvs) ks).isSome=(cw kus ks).isSome:=by
    cases h7:fE (nP kvs) ks<;>cases h8:cw kus ks<;>rw[h7,h8]at rf<;>first|rfl|exact rf.elim
   refine⟨a,b,kvs,ks,rfl,rfl,rd,ky,kb,?_⟩
   rw[es]
   exact post m2 _ H2 (e1.trans e2) sr2 .bl_
  |_=>cases h4
 |_=>cases h4
theorem wc{a b:Expr}{ca cb:CE}{pos:Pos}(hu:X.A.units+2<cLine)(ha:QE X a ca)(hb:QE X b cb)(hm:behindInMarks .NotIn b=false):QT X (.Compare a [.NotIn] [b] pos) (aH (cOp Be ca cb)):=(ve (Cn hu ha hb) hm).imp (lu zR)
def JY(K:PySem.W.Frag)(td ty tv:TE):TS:=fun D σ H=>tv σ H fun v H1=>td σ H1 fun x H2=>ty σ H2 fun y H3=>∃a b kvs k,x=.ref a/\y=.ref b/\H3 a=some (dNo a kvs)/\(∀p∈kvs,j3 K H3 p.1.2 p.1.1)/\j3 K H3 b k/\kvs.length<sizeLine/\D.nx σ (upd H3 a (dNo a (wj kvs k b v)))
theorem BR{o i e:Expr}{td ty tv:TE}{pos pos':Pos}(hu:X.A.units+2<cLine)(ho:WE X o td)(hi:WE X i ty)(hv:WE X e tv)(hs:swapsWith e (some (.Subscript o i pos')) pos.line X.env=pure false):WS X (.Assign [.Subscript o i pos'] e pos) (JY X.K td ty tv):=by
 constructor
 intro pins s σ H D I h
 refine wpAny_Assign_Subscript (thn (hv.h pins s σ H _ I h) fun r s1 hz=>?_) hs
 obtain⟨v,H1,I1,rv,q1⟩:=hz
 refine thn (ho.h pins s1 σ H1 _ I1 q1) fun u s2 hz=>?_
 obtain⟨x,H2,I2,rx,q2⟩:=hz
 refine thn (hi.h pins s2 σ H2 _ I2 q2) fun iv s3 hz=>?_
 obtain⟨y,H3,I3,ry,a,b,kvs,k,rfl,rfl,e1,ky,kb,hl,q3⟩:=hz
 cases rx
 cases ry
 exact Kq hu I3 e1 ky kb hl rv fun s4 I4=>⟨σ,_,I4,q3⟩
def mR(co ci cv:CE):CS:=fun ρ S=>(cv ρ S).bind fun p=>(co ρ p.2).bind fun q=>(ci ρ q.2).bind fun r=>match q.1 with
 |.ref l=>match r.1 with
  |.tup us=>match r.2[l]? with
   |some (.dnt kus)=>(wH us).bind fun k=>if kus.length<LIM then some (.nx,ρ,r.2.set l (.dnt (lz kus k p.1)))else none
   |_=>none
  |_=>none
 |_=>none
theorem vY{o i e:Expr}{co ci cv:CE}{pos pos':Pos}(hu:X.A.units+2<cLine)(ho:QE X o co)(hi:QE X i ci)(hv:QE X e cv)(hs:swapsWith e (some (.Subscript o i pos')) pos.line X.env=pure false:=by rfl):QS X (.Assign [.Subscript o i pos'] e pos) (mR co ci cv):=
 (BR hu ho hi hv hs).imp fun D σ H hz=>uL hz fun m ρ S oo ρ' S' sr lr hc post=>by
 obtain⟨⟨v,S1⟩,h1,ha⟩:=Option.bind_eq_some_iff.mp hc
 obtain⟨⟨ou,S2⟩,h2,hb⟩:=Option.bind_eq_some_iff.mp ha
 obtain⟨⟨iu,S3⟩,h3,h⟩:=Option.bind_eq_some_iff.mp hb
 clear ha hb hc
 cases ou with
 |ref l=>cases iu with
  |tup us=>
   simp only at h
   split at h<;>try cases h
   rename_i kus hS
   obtain⟨k,hk,h4⟩:=Option.bind_eq_some_iff.mp h
   split at h4<;>try cases h4
   rename_i hlen
   refine⟨m,ρ,S,v,S1,sr,lr,h1,fun m1 v1 H1 e1 sr1 i1=>⟨m1,ρ,S1,_,S2,sr1,lr.mono e1,h2,fun m2 v2 H2 e2 sr2 i2=>⟨m2,ρ,S2,_,S3,sr2,lr.mono (e1.trans e2),h3,fun m3 v3 H3 e3 sr3 i3=>?_⟩⟩⟩
   obtain⟨a,ha,rfl⟩:=(i2.mono e3).of_ref
   obtain⟨a',ha',kvs,hx,ky,ip⟩:=sr3.get hS
   rw[ha]at ha';cases ha'
   obtain⟨b,rfl,kb⟩:=zZ i3 hk
   have e13:=(e1.trans e2).trans e3
   have ee:Ext X.K m3 H3 m3 (upd H3 a (dNo a (wj kvs k b v1))):=.of (sr3.keep ha _)
   have hl:kvs.length<sizeLine:=GJ (by have:=IsP.length ip;unfold nP at this;rw[List.length_map]at this;rw[this];exact hlen)
   refine⟨a,b,kvs,k,rfl,rfl,hx,ky,kb,hl,post m3 σ _ (e13.trans ee) (sr3.put ha ⟨_,aV,fun p hp=>?_,?_⟩) (lr.mono (e13.trans ee))⟩
   ·rcases zo hp with⟨q,hq,e⟩|e
    ·rw[<-e];exact(ky q hq).mono ee.keep
    ·rw[e];exact kb.mono ee.keep
   ·rw[GG]
    exact(IsP.put ip (i1.mono (e2.trans e3))).mono ee
  |_=>cases h
 |_=>cases h
end
section
variable{X:Cx}{K:PySem.W.Frag}{m:List Addr}{H:Hp}{a:Addr}{kvs:List ((NK×Addr)×V)}
def Fy(K:PySem.W.Frag)(tk tv:TE):TE:=fun σ H Q=>∀p,H p=none->vG [(tk,tv)] σ (upd H p (dNo p [])) fun ps H2=>H2 p=some (dNo p [])/\∃b k v,ps=[(.ref b,v)]/\j3 K H2 b k/\Q (.ref p) (upd H2 p (dNo p [((k,b),v)]))
theorem Ar{P:Program}{w:World}(h:Heap)(hb:sysModules<h.objs.size):cZ P w H (h.push { cls:=.type "dict",data:=.dict #[] }) h.objs.size (dNo h.objs.size []):=by
 refine xJ (xs:=[]) (Nat.zero_le _) (beq_eq_false_iff_ne.mpr (Ne.symm (Nat.ne_of_lt hb))) .nil ?_
 exact⟨_,#[],0,Heap.get?_push_size _ rfl,⟨rfl,rfl,rfl⟩,rfl,rfl,fun x hx=>(List.not_mem_nil hx).elim,List.nodup_nil⟩
theorem yS{k v:Expr}{tk tv:TE}{pos:Pos}(hu:X.A.units+2<cLine)(hk:WE X k tk)(hv:WE X v tv):WE X (.Dict [some k] [v] pos) (Fy X.K tk tv):=by
 constructor
 intro pins s σ H Q I q
 have hn:=I.hok.fresh (Nat.le_refl s.heap.objs.size)
 have I1:=I.laid (a:=s.heap.objs.size) (o:=dNo s.heap.objs.size []) (h':=s.heap.push { cls:=.type "dict",data:=.dict #[] }) (t':=s.toks) (fun _ _ q=>Heap.get?_push_of_some _ q) (Nat.le_refl _) (Ar s.heap I.big)
 refine wpAny_Dict_any rfl rfl (by simp) (by simp) (thn (zv hk.h hv.h C3 pins _ σ _ _ I1 (q _ hn)) fun ws s2 hz=>?_)
 obtain⟨ps,H2,I2,rel,e,b,k,v,rfl,kb,q2⟩:=hz
 cases rel with
 |cons r t=>
  cases t
  rename_i w0
  obtain⟨w1,w2⟩:=w0
  obtain⟨r1,r2⟩:=r
  cases (show w1=Value.ref b from r1)
  obtain⟨z,hd,xs,rel,dd⟩:=xI I2 (.inl e) (fun p hp=>(List.not_mem_nil hp).elim)
  cases rel
  unfold storeAll
  rw[List.forIn_cons]
  refine wpAny_bind (wpAny_bind (wpAny_dictSet_heap (hsz:=Nat.zero_le _) (knd:=gE X.prog X.w) (Nat.lt_of_succ_lt hu) (wX I2 kb) dd fun h' dd' hs=>wpAny_pure ?_))
  dsimp only
  rw[List.forIn_nil]
  obtain⟨o,es,ep,h1,_⟩:=id dd'
  refine wpAny_pure ⟨.ref s.heap.objs.size,_,oM I2 (by rw[e];exact True.intro) hs ⟨o,h1⟩ (xJ (kvs:=[((k,b),v)]) (show 1<=sizeLine by decide) hd (KN.put (kvs:=[]) (k:=k) (b:=b) .nil r2) dd'),rfl,q2⟩
def qr(ck cv:CE):CE:=fun ρ S=>(ck ρ (S++[.dnt []])).bind fun p=>(cv ρ p.2).bind fun q=>match p.1 with
 |.tup us=>(wH us).bind fun k=>match q.2[S.length]? with
  |some (.dnt [])=>some (.ref S.length,q.2.set S.length (.dnt [(k,q.1)]))
  |_=>none
 |_=>none
theorem CV{k v:Expr}{ck cv:CE}{pos:Pos}(hu:X.A.units+2<cLine)(hk:QE X k ck)(hv:QE X v cv):QE X (.Dict [some k] [v] pos) (qr ck cv):=
 (yS hu hk hv).imp fun σ H Q hz=>nW hz fun m ρ S u S' sr lr hc post=>by
 obtain⟨⟨x,S1⟩,h1,h⟩:=Option.bind_eq_some_iff.mp hc
 obtain⟨⟨y,S2⟩,h2,h3⟩:=Option.bind_eq_some_iff.mp h
 cases x with
 |tup us=>
  simp only at h3
  obtain⟨kk,hk,h4⟩:=Option.bind_eq_some_iff.mp h3
  split at h4<;>try cases h4
  rename_i hS
  intro p hp
  have ee:Ext X.K m H (m++[p]) (upd H p (dNo p [])):=.new (cQ hp _)
  refine⟨m++[p],ρ,_,_,S1,sr.new (o:=.dnt []) hp ⟨[],aV,(fun q hq=>(List.not_mem_nil hq).elim),.nil_⟩,lr.mono ee,h1,fun m1 v1 H1 e1 sr1 i1=>⟨m1,ρ,S1,y,S2,sr1,lr.mono (ee.trans e1),h2,fun m2 v2 H2 e2 sr2 i2=>?_⟩⟩
  have ha:m2[S.length]?=some p:=(e1.trans e2).get (ff sr.len)
  obtain⟨a',ha',kv0,hx,ky,ip0⟩:=sr2.get hS
  rw[ha]at ha';cases ha'
  have e0:kv0=[]:=by have:=IsP.length ip0;unfold nP at this;simpa using this
  subst e0
  obtain⟨b,rfl,kb⟩:=zZ (i1.mono e2) hk
  have eu:Ext X.K m2 H2 m2 (upd H2 p (dNo p [((kk,b),v2)])):=.of (sr2.keep ha _)
  refine⟨hx,b,kk,v2,rfl,kb,post m2 _ _ (((ee.trans e1).trans e2).trans eu) (sr2.put (o:=.dnt [(kk,y)]) ha ⟨_,aV,fun q hq=>?_,.cons_ (i2.mono eu) .nil_⟩) (.ref_ ha)⟩
  rw[List.mem_singleton.mp hq]
  exact kb.mono eu.keep
 |_=>cases h3
def FzN(K:PySem.W.Frag)(H:Hp)(a:Addr)(ep:Nat)(ks:List NK):Prop:=∃ob es kvs,H a=some (.frz ob (dNo a kvs))/\ob.data=.dict es ep/\(∀p∈kvs,j3 K H p.1.2 p.1.1)/\(nP kvs).map (·.1)=ks
def Itn(K:PySem.W.Frag)(a:Addr)(ep:Nat)(ks:List NK):It:=
 ⟨fun i H=>i<ks.length/\FzN K H a ep ks,fun i H x H'=>H'=H/\∃k p,ks[i]?=some k/\x=.ref p/\j3 K H p k,fun i H=>ks.length<=i/\FzN K H a ep ks⟩
theorem rD{P:Program}{w:World}{h:Heap}{ob:Obj}{es:Array DictEntry}{ep:Nat}(ok:HOk P w H h)(e:Rd H a (dNo a kvs))(g:h.get? a=some ob)(d:ob.data=.dict es ep) :
  es.size=kvs.length/\∀(i:Nat) (hi:i<es.size),∃q,kvs[i]?=some q/\es[i].key=.ref q.1.2:=by
 obtain⟨⟨_,_,xs,r,o,es',ep',e2,e3,e4,e5,_⟩,_⟩:=(show cZ P w H h a (dNo a kvs)from e.ok ok)
 rw[g]at e2;cases e2
 rw[d]at e4;cases e4
 have hl:kvs.length=xs.length:=Paired.length r
 have hs:es.size=xs.length:=by rw[<-Array.length_toList,e5,List.length_map]
 refine⟨by omega,fun i hi=>?_⟩
 have key:∀{l:List ((NK×Addr)×V)} {m:List (NK×Addr×Value)} {i:Nat} {x:NK×Addr×Value},KN l m->m[i]?=some x->∃q,l[i]?=some q/\q.1.2=x.2.1:=by
  intro l m i x q
  induction q generalizing i with
  |nil=>intro z;simp at z
  |@cons p q ps qs hq t ih=>
   intro z
   cases i with
   |zero=>simp at z;subst z;exact⟨p,rfl,hq.2.1⟩
   |succ i=>exact ih (by simpa using z)
 have hx:xs[i]?=some xs[i]:=List.getElem?_eq_getElem (by omega)
 obtain⟨q,k1,k2⟩:=key r hx
 refine⟨q,k1,?_⟩
 have h1:es.toList[i]?=some (⟨hNK xs[i].1,.ref xs[i].2.1,xs[i].2.2⟩:DictEntry):=by rw[e5,List.getElem?_map,hx];rfl
 rw[Array.getElem?_toList,Array.getElem?_eq_getElem hi]at h1
 rw[Option.some.inj h1,k2]
theorem Kt{q:(NK×Addr)×V}{i:Nat}(h:kvs[i]?=some q):((nP kvs).map (·.1))[i]?=some q.1.1:=by unfold nP;rw[List.map_map,List.getElem?_map,h];rfl
theorem wK:((nP kvs).map (·.1)).length=kvs.length:=by unfold nP;rw[List.length_map,List.length_map]
theorem uo{P:Program}{w:World}{tg:Expr}(a it:Addr){ks:List NK}{ep:Nat} :
  En P w K tg (Itn K a ep ks) [it] it (fun n h=>h.IsKeyIter it a n ks.length ep) where
 mem:=by simp
 obj:=fun n h st c hc=>by
  simp only[List.mem_cons,List.not_mem_nil,or_false]at hc
  subst hc
  obtain⟨o,e,_,q⟩:=st
  exact⟨o,e,fun v z=>by rw[q]at z;cases z⟩
 keep:=fun n h h' st kp=>Heap.IsKeyIter.at st fun o q=>kp it (by simp) o q
 item:=by
  intro X hP hw hK hc n pins s σ H E Iv hf st hg
  subst hP hw hK
  obtain⟨hi,ob,es,kvs,hq,d,ky,ek⟩:=hg
  have g1:s.heap.get? a=some ob:=(show cZ X.prog X.w H s.heap a (.frz ob (dNo a kvs))from Iv.hok a _ hq).1
  obtain⟨g2,g3⟩:=rD Iv.hok (.inr ⟨ob,hq⟩) g1 d
  have hl:ks.length=es.size:=by rw[<-ek,wK,g2]
  have hi':n<es.size:=by omega
  obtain⟨q,k1,k2⟩:=g3 n hi'
  obtain⟨f0,f1,f2,f3⟩:=hf it (by simp)
  refine sI (by rw[<-hl];exact st) g1 d hi' fun h1 st1 sb=>⟨_,rfl,?_⟩
  have I1:Inv X pins σ H { s with heap:=h1 }:=Iv.turned (t':=s.toks) (fun b o hb e=>(sb.2 b hb).trans e) f0 f1 f3.1 f3.2.1 f3.2.2
  have st2:h1.IsKeyIter it a (n+1) ks.length ep:=by rw[hl];exact st1
  obtain⟨o,e,c,z⟩:=id st2
  exact Ac (s:={ s with heap:=h1 }) e c z (by decide) ⟨.ref q.1.2,H,I1,by rw[k2];rfl,⟨rfl,q.1.1,q.1.2,by rw[<-ek];exact Kt k1,rfl,ky q (List.mem_of_getElem? k1)⟩,st2,fun b hb=>(hf b hb).1⟩
 done:=by
  intro X hP hw hK hc n pins s σ H E Iv hf st hg
  subst hP hw hK
  obtain⟨hi,ob,es,kvs,hq,d,ky,ek⟩:=hg
  have g1:s.heap.get? a=some ob:=(show cZ X.prog X.w H s.heap a (.frz ob (dNo a kvs))from Iv.hok a _ hq).1
  obtain⟨g2,g3⟩:=rD Iv.hok (.inr ⟨ob,hq⟩) g1 d
  have hl:ks.length=es.size:=by rw[<-ek,wK,g2]
  obtain⟨f0,f1,f2,f3⟩:=hf it (by simp)
  exact vV (Iv.ok.hd hc) (by rw[<-hl];exact st) g1 d (by omega) fun h1 eb=>⟨rfl,Iv.turned (t':=s.toks) (fun b o hb e=>eb b o hb e) f0 f1 f3.1 f3.2.1 f3.2.2⟩
 self:=fun _ _ _ _ _ st h=>wpAny_pyIter_keyiter st h
def A9(X:Cx)(tl:TE):TI:=fun σ H R=>tl σ H fun x H1=>∃a kvs,x=.ref a/\H1 a=some (dNo a kvs)/\∀ob es ep,Bp X a->ob.data=.dict es ep->R (Itn X.K a ep ((nP kvs).map (·.1))) (upd H1 a (.frz ob (dNo a kvs)))
theorem yQ{tg l:Expr}{tl:TE}(hl:WE X l tl):WI X tg l (A9 X tl):=by
 constructor
 intro pins s σ H R I h
 refine thn (hl.h pins s σ H _ I h) fun v s1 hz=>?_
 obtain⟨x,H1,I1,r1,a,kvs,rfl,hq,q⟩:=hz
 cases r1
 have ok:=(show cZ X.prog X.w H1 s1.heap a (dNo a kvs)from I1.hok a _ hq)
 obtain⟨⟨hz,hs,xs,rv,ob,es,ep,e1,e2,e3,e4,e5⟩,st⟩:=id ok
 have hl:kvs.length=es.size:=by rw[<-Array.length_toList,e4,List.length_map];exact Paired.length rv
 have nf:Bp X a:=fun ob' u' z=>by have:=I1.base.frzs a ob' u' z;rw[hq]at this;cases this
 have I2:Inv X pins σ (upd H1 a (.frz ob (dNo a kvs))) s1:=tF I1 hq (by simp[dNo]) (by simp[dNo]) (by simp[dNo]) nf ⟨e1,ok⟩
 refine sH hs e1 e2 e3 ?_
 refine⟨s1.heap.objs.size,[s1.heap.objs.size],_,_,_,rfl,I2.kept (t':=s1.toks) fun b o g=>Heap.get?_push_of_some _ g,uo a _,⟨_,Heap.get?_push_size _ rfl,rfl,by rw[wK,hl];rfl⟩,fun b hb=>?_,q ob es ep nf e3⟩
 simp only[List.mem_cons,List.not_mem_nil,or_false]at hb
 subst hb
 exact I2.fpOk (Nat.le_refl _) (I2.hok.fresh (Nat.le_refl _))
def Bs(X:Cx)(D:yy):yy where
 nx:=fun σ H=>∃a ob kvs,Bp X a/\H a=some (.frz ob (dNo a kvs))/\D.nx σ (upd H a (dNo a kvs))
 rt:=fun v H=>∃a ob kvs,Bp X a/\H a=some (.frz ob (dNo a kvs))/\D.rt v (upd H a (dNo a kvs))
 bk:=fun σ H=>∃a ob kvs,Bp X a/\H a=some (.frz ob (dNo a kvs))/\D.bk σ (upd H a (dNo a kvs))
 ct:=fun σ H=>∃a ob kvs,Bp X a/\H a=some (.frz ob (dNo a kvs))/\D.ct σ (upd H a (dNo a kvs))
theorem jt{pins:List (Addr×Obj)}{σ:L2.St}{s:Shared}{ob:Obj}(I:Inv X pins σ H s)(nf:Bp X a)(e:H a=some (.frz ob (dNo a kvs))):Inv X pins σ (upd H a (dNo a kvs)) s:=
 tF I e (by simp) (by simp) (by simp) nf (show cZ X.prog X.w H s.heap a (.frz ob (dNo a kvs))from I.hok a _ e).2
theorem yD{st:Stmt}{t:TS}(h:WS X st t):WS X st (fun D σ H=>t (Bs X D) σ H):=by
 constructor
 intro pins s σ H D I k
 refine thn (h.h pins s σ H _ I k) fun f s1 q=>?_
 cases f with
 |next=>obtain⟨σ1,H1,I1,a,ob,kvs,nf,e,r⟩:=q;exact⟨σ1,_,jt I1 nf e,r⟩
 |brk=>obtain⟨σ1,H1,I1,a,ob,kvs,nf,e,r⟩:=q;exact⟨σ1,_,jt I1 nf e,r⟩
 |cont=>obtain⟨σ1,H1,I1,a,ob,kvs,nf,e,r⟩:=q;exact⟨σ1,_,jt I1 nf e,r⟩
 |ret u=>obtain⟨v,σ1,H1,I1,rv,a,ob,kvs,nf,e,r⟩:=q;exact⟨v,σ1,_,jt I1 nf e,rv,r⟩
def nU(k:NK):U:=.tup (k.map fun l=>.tup (l.map U.int))
theorem Hu{p:Addr}{k:NK}(h:j3 K H p k):Is K m H (.ref p) (nU k):=by
 obtain⟨cs,sq,q⟩:=h
 refine .tup_ sq ?_
 clear sq
 induction q with
 |nil=>exact .nil_
 |cons z _ ih=>exact .cons_ (.tup_ z (iB _)) ih
theorem z7{l ep:Nat}{kus:List (NK×U)}(ha:m[l]?=some a):Br K (Itn K a ep (kus.map (·.1))) m H (kus.map fun q=>nU q.1) (fun S'=>S'[l]?=some (.fdn ep kus)):=by
 intro m2 S2 H2 i e sr hok
 obtain⟨a',ha',ob,es,kvs,hx,hd,ky,ip⟩:=sr.get hok
 rw[e.get ha]at ha';cases ha'
 have hz:FzN K H2 a ep (kus.map (·.1)):=⟨ob,es,kvs,hx,hd,ky,ip.1⟩
 refine⟨fun u hu=>?_,fun hu=>⟨by simpa using hu,hz⟩⟩
 have hi:i<kus.length:=by have:=(List.getElem?_eq_some_iff.mp hu).1;simpa using this
 refine⟨⟨by simpa using hi,hz⟩,?_⟩
 rintro x H3 ⟨rfl,k,p,hk,rfl,hp⟩
 refine⟨.refl,sr,?_⟩
 rw[List.getElem?_map]at hk hu
 rw[List.getElem?_eq_getElem hi]at hk hu
 cases hk;cases hu
 exact Hu hp
theorem Aq{m1:List Addr}{H1:Hp}{S1:Sto}{l ep:Nat}{kus:List (NK×U)}{ob:Obj}{es:Array DictEntry}(sr:Sr X.K m1 S1 H1)(ha:m1[l]?=some a)(ky:∀p∈kvs,j3 X.K H1 p.1.2 p.1.1)(ip:IsP X.K m1 H1 (nP kvs) kus)(hd:ob.data=.dict es ep) :
  Ext X.K m1 H1 m1 (upd H1 a (.frz ob (dNo a kvs)))/\Sr X.K m1 (S1.set l (.fdn ep kus)) (upd H1 a (.frz ob (dNo a kvs))):=by
 have ee:Ext X.K m1 H1 m1 (upd H1 a (.frz ob (dNo a kvs))):=.of (sr.keep ha _)
 exact⟨ee,sr.put ha ⟨ob,es,kvs,aV,hd,fun p hp=>(ky p hp).mono ee.keep,ip.mono ee⟩⟩
theorem xK{m3:List Addr}{H3:Hp}{S2:Sto}{l ep:Nat}{kus:List (NK×U)}(sr3:Sr X.K m3 S2 H3)(ha:m3[l]?=some a)(hS:S2[l]?=some (.fdn ep kus)) :
  ∃ob' kvs',H3 a=some (.frz ob' (dNo a kvs'))/\Ext X.K m3 H3 m3 (upd H3 a (dNo a kvs'))/\Sr X.K m3 (S2.set l (.dnt kus)) (upd H3 a (dNo a kvs')):=by
 obtain⟨a3,ha3,ob3,es3,kvs3,hx3,hd3,ky3,ip3⟩:=sr3.get hS
 rw[ha]at ha3;cases ha3
 have e4:Ext X.K m3 H3 m3 (upd H3 a (dNo a kvs3)):=.of (sr3.keep ha _)
 exact⟨ob3,kvs3,hx3,e4,sr3.put ha ⟨kvs3,aV,fun p hp=>(ky3 p hp).mono e4.keep,ip3.mono e4⟩⟩
def qq(ce:CE)(g:CG)(cb:CS):CS:=fun ρ S=>(ce ρ S).bind fun p=>match p.1 with
 |.ref l=>match p.2[l]? with
  |some (.dnt kus)=>uni fun ep=>(cy (fun S'=>S'[l]?=some (.fdn ep kus)) g cb (kus.map fun q=>nU q.1) ρ (p.2.set l (.fdn ep kus))).bind fun r=>match r.2.2[l]? with
   |some (.fdn _ kus')=>some (r.1,r.2.1,r.2.2.set l (.dnt kus'))
   |_=>none
  |_=>none
 |_=>none
theorem Af{ce:CE}{g:CG}{cb:CS}:∀D σ H,tS X.K (qq ce g cb) D σ H->Io (A9 X (tE X.K ce)) (tG X.K g) (tS X.K cb) (Bs X D) σ H:=by
 rintro D σ H ⟨m,ρ,S,o,ρ',S',sr,lr,hc,post⟩
 obtain⟨⟨x,S1⟩,h1,h⟩:=Option.bind_eq_some_iff.mp hc
 refine⟨m,ρ,S,x,S1,sr,lr,h1,fun m1 v1 H1 e1 sr1 i1=>?_⟩
 cases x with
 |ref l=>
  simp only at h
  split at h<;>try cases h
  rename_i kus hS
  obtain⟨a,ha,rfl⟩:=i1.of_ref
  obtain⟨a',ha',kvs,hx,ky,ip⟩:=sr1.get hS
  rw[ha]at ha';cases ha'
  refine⟨a,kvs,rfl,hx,fun ob es ep nf hd=>?_⟩
  obtain⟨⟨o1,ρ1,S2⟩,h2,h3⟩:=Option.bind_eq_some_iff.mp (sj h ep)
  simp only at h3
  split at h3<;>try cases h3
  rename_i ep' kus' hS2
  obtain⟨ee,sr2⟩:=Aq sr1 ha ky ip hd
  rw[ip.1]
  refine sW sr2 (lr.mono (e1.trans ee)) (z7 ha) h2 ?_
  have nxt:∀(R:L2.St->Hp->Prop),ig X.K m H R ρ' (S2.set l (.dnt kus'))->ig X.K m1 (upd H1 a (.frz ob (dNo a kvs))) (fun σ H=>∃a ob kvs,Bp X a/\H a=some (.frz ob (dNo a kvs))/\R σ (upd H a (dNo a kvs))) ρ' S2:=fun R p m3 σ3 H3 e3 sr3 lr3=>by
   obtain⟨ob3,kvs3,hx3,e4,sr4⟩:=xK sr3 (e3.get ha) hS2
   exact⟨a,ob3,kvs3,nf,hx3,p m3 σ3 _ (((e1.trans ee).trans e3).trans e4) sr4 (lr3.mono e4)⟩
  cases o with
  |nx=>exact nxt _ post
  |bk=>exact nxt _ post
  |ct=>exact nxt _ post
  | rt v=>
    intro m3 v3 H3 e3 sr3 i3
    obtain⟨ob3,kvs3,hx3,e4,sr4⟩:=xK sr3 (e3.get ha) hS2
    exact⟨a,ob3,kvs3,nf,hx3,post m3 v3 _ (((e1.trans ee).trans e3).trans e4) sr4 (i3.mono e4)⟩
 |_=>cases h
theorem vZ{tg iter:Expr}{body:List Stmt}{ce:CE}{g:CG}{cb:CS}{pos:Pos}(hp:PassesOwn (model X.prog X.w) X.A X.env X.xe)(hc:X.calm=true)(hi:QE X iter ce)(hg:QG X tg g)(hb:QSs X body cb)(hs:∀x,foldedSetIterable iter X.env x=pure x:=by intro _;rfl):QS X (.For tg iter body [] pos) (qq ce g cb):=
 (yD (vi hp hc (yQ hi) hg hb hs)).imp Af
variable{Nc capN tn:List Str}{scope:Scope}{cl:List (Str×Addr)}{n:Nat}{caps:List Nat}{tg iter elt c:Expr}{pos:Pos}{ci:CE}{g:CG}{ct:CT}{ce:CE}
def AX(K:PySem.W.Frag):List V->Hp->VK->Prop:=fun xs H Q=>∃d kvs,xs=[.ref d]/\H d=some (dNo d kvs)/\∀l,H l=none->Q (.ref l) (upd H l (.lst (kvs.map fun p=>.ref p.1.2)))
theorem wF(hc:X.calm=true):gy X (.type "list") (AX X.K):=by
 rintro pins s σ H xs us Q I r ⟨d,kvs,rfl,hD,q⟩
 obtain⟨u,rfl,ru⟩:=m8 r
 cases ru
 obtain⟨⟨hz,hs,xs,rv,ob,es,ep,e1,e2,e3,e4,e5⟩,st⟩:=(show cZ X.prog X.w H s.heap d (dNo d kvs)from I.hok d _ hD)
 obtain⟨g2,g3⟩:=rD I.hok (.inl hD) e1 e3
 refine kdl_call (CN hs e2 e3) (I.ok.hd hc) e1 (by rw[g2];exact hz) fun h' tk acc c up gl hac=>?_
 have hv:cg (kvs.map fun p=>V.ref p.1.2) acc.toList:=by
  have ea:acc.toList=kvs.map fun p=>Value.ref p.1.2:=by
   refine List.ext_getElem? fun i=>?_
   by_cases hi:i<es.size
   ·have hi':i<acc.size:=by rw[hac.1];exact hi
    obtain⟨_,e6⟩:=hac.2 i acc[i] (Array.getElem?_eq_getElem hi')
    obtain⟨q,k1,k2⟩:=g3 i hi
    rw[Array.getElem?_toList,Array.getElem?_eq_getElem hi',e6,k2,List.getElem?_map,k1];rfl
   ·rw[List.getElem?_eq_none (by rw[Array.length_toList,hac.1];omega),List.getElem?_eq_none (by rw[List.length_map,<-g2];omega)]
  rw[ea]
  clear hac e4 rv g3 hz g2 hD q st gl ea
  induction kvs with
  |nil=>exact .nil
  |cons p r ih=>exact .cons rfl ih
 exact⟨.ref s.heap.objs.size,_,I.laid (o:=.lst (kvs.map fun p=>.ref p.1.2)) (t':=tk) up (Nat.le_refl _) ⟨by rw[List.length_map];exact hz,_,c,hv,by rw[gl]⟩,rfl,q _ (I.hok.fresh (Nat.le_refl _))⟩
def iL:Fn
 |[.ref l],S=>match S[l]? with
  |some (.dnt kus)=>some (.ref S.length,S++[.lst (kus.map fun p=>nU p.1)])
  |_=>none
 |_,_=>none
theorem xg:∀{kvs:List ((NK×Addr)×V)},(∀p∈kvs,j3 K H p.1.2 p.1.1)->IsL K m H (kvs.map fun p=>.ref p.1.2) (((nP kvs).map (·.1)).map nU)
 |[],_=>.nil_
 |p::r,h=>.cons_ (Hu (h p List.mem_cons_self)) (xg fun q hq=>h q (List.mem_cons_of_mem _ hq))
theorem wz:m6 K (AX K) iL:=by
 intro m S H us vs u S' Q sr i hf post
 match us,hf with
 |[.ref l],hf=>
  obtain⟨v,rfl,iv⟩:=i.one
  obtain⟨a,ha,rfl⟩:=iv.of_ref
  simp only[iL]at hf
  split at hf<;>try cases hf
  rename_i ws hS
  obtain⟨a',ha',kvs,hx,ky,ip⟩:=sr.get hS
  rw[ha]at ha';cases ha'
  refine⟨a,kvs,rfl,hx,fun p hp=>?_⟩
  have il:=xg (m:=m) ky
  rw[ip.1,List.map_map]at il
  exact dM sr il post hp
end
theorem nS{A:Around}{k:Nat}(hr:gz k A):A.units+2<cLine:=Nat.lt_of_le_of_lt (Nat.add_le_add_left (by decide:2<=64) _) hr.units
section
variable{prog:Program}{w:World}{A:Around}{E:Value->Shared->Prop}{s:Shared}
theorem rQ{l:Addr}{vs:List Value}{Q:List Value->Shared->Prop}(ht:IsTup s.heap l vs.toArray)(hz:vs.length<=sizeLine)
  (q:Q vs { s with heap:=(s.heap.push (seqObj "list" #[] 0)).update s.heap.objs.size (Obj.mapSeq fun x=>x++vs.toArray) }):wpAny (model prog w) A (collect (.ref l)) Q E s:=by
 obtain⟨o,g,c,n,d⟩:=id ht
 have g':(s.heap.push (seqObj "list" #[] 0)).get? l=some o:=Heap.get?_push_of_some _ g
 have g0:(s.heap.push (seqObj "list" #[] 0)).get? s.heap.objs.size=some (seqObj "list" #[] 0):=Heap.get?_push_size _ rfl
 unfold collect
 refine wpAny_bind (wpAny_runValue (codeAny_builtin entry_proto_collect' ?_))
 refine wpAny_bind (m:=newList []) (wpAny_newList (wpAny_pure ⟨Code.quiet_builtin _ (by decide +kernel),codeAny_builtin entry_list_iadd' ?_⟩))
 refine(show wpAny _ _ (Builtin.List.listExtendWith (.ref s.heap.objs.size) (.ref l) (.ref s.heap.objs.size)) _ _ { s with heap:=s.heap.push (seqObj "list" #[] 0) } from ?_)
 unfold Builtin.List.listExtendWith
 refine wpAny_bind (wpAny_typeOf (T:="tuple") ⟨o,g',c⟩ ?_)
 have tt:(Value.type "tuple" == Value.type "tuple")=true:=by rfl
 rw[if_pos (by rw[tt,Bool.or_true])]
 refine wpAny_bind (listItems_at g' d (wpAny_bind (listItems_at g0 rfl ?_)))
 rw[if_neg (by simp)]
 refine wpAny_bind (listUpdate_at g0 rfl ?_ (Nat.zero_le _) (by simp only[Array.size_append,List.size_toArray,List.length_nil];omega))
 refine wpAny_pure ?_
 refine wpAny_bind (m:=load s.heap.objs.size) (wpAny_load (get?_update_seq g0 fun x=>x++vs.toArray) ?_)
 dsimp only
 have e:((#[]:Array Value)++vs.toArray).toList=vs:=by simp
 show wpAny _ _ (pure ((#[]:Array Value)++vs.toArray).toList) Q E _
 rw[e]
 exact wpAny_pure q
theorem uq{l:Addr}{vs:List Value}{ns:List Int}{Q:Value->Shared->Prop}(ht:IsTup s.heap l vs.toArray)(hI:IntsAre vs ns)(h64:vs.length<64)
  (q:∀(out:Array Value) (ms:List Int),IntsAre out.toList ms->ms.Perm ns->ms.Pairwise (·<=·)->Q (.ref (s.heap.objs.size+1)) { s with heap:=sortedAll s.heap vs out }) :
  wpAny (model prog w) A (call (.builtin "sorted") [.ref l]) Q E s:=by
 have hz:vs.length<=sizeLine:=by unfold sizeLine;omega
 refine Calls.call_function_entry kind_sorted plain_sorted entry_sorted (args_sorted1 _) ?_
 unfold Builtin.«sorted»
 refine wpAny_bind (m:=checkCount "sorted" 1 1 _) (wpAny_pure (wpAny_bind (rQ ht hz (wpAny_bind (wpAny_newList ?_ hz)))))
 have sz:((s.heap.push (seqObj "list" #[] 0)).update s.heap.objs.size (Obj.mapSeq fun x=>x++vs.toArray)).objs.size=s.heap.objs.size+1:=by rw[Heap.size_update,size_push']
 have gL:(((s.heap.push (seqObj "list" #[] 0)).update s.heap.objs.size (Obj.mapSeq fun x=>x++vs.toArray)).push (seqObj "list" vs.toArray 0)).get? (s.heap.objs.size+1)=some (seqObj "list" vs.toArray 0):=by
  rw[<-sz];exact Heap.get?_push_size _ rfl
 refine(show wpAny _ _ _ _ _ { s with heap:=((s.heap.push (seqObj "list" #[] 0)).update s.heap.objs.size (Obj.mapSeq fun x=>x++vs.toArray)).push (seqObj "list" vs.toArray 0) } from ?_)
 rw[sz]
 refine wpAny_bind (wpAny_holding (wpAny_call_entry slot_list_sort ⟨_,gL,rfl⟩ entry_list_sort (list_sort_tree gL hI h64 fun out ms a1 a2 a3=>⟨_,rfl,?_⟩) (args_list_sort _)))
 exact wpAny_pure ⟨_,rfl,q out ms a1 a2 a3⟩
end
def sJ(K:PySem.W.Frag):List V->Hp->VK->Prop:=fun xs H Q=>∃(p:Addr) (ns:List Int),xs=[.ref p]/\SqT K H p (ns.map V.int)/\ns.length<64/\∀(l:Addr) (ms:List Int),H l=none->ms.Perm ns->ms.Pairwise (·<=·)->Q (.ref l) (upd H l (.lst (ms.map V.int)))
theorem wD{X:Cx}:gy X (.builtin "sorted") (sJ X.K):=by
 rintro pins s σ H xs us Q I r ⟨p,ns,rfl,sq,h64,q⟩
 obtain⟨u,rfl,ru⟩:=m8 r
 cases ru
 obtain⟨its,rv,tp,hz⟩:=I.tuple sq
 have hlen:=rv.length
 rw[List.length_map]at hlen
 refine uq tp (fX rv) (by omega) fun out ms a1 a2 a3=>?_
 obtain⟨e,ge⟩:=sortedAll_at s.heap its out
 have hf:=I.hok.fresh (Nat.le_succ s.heap.objs.size)
 exact⟨.ref (s.heap.objs.size+1),_,I.laid (t':=s.toks) (fun b o e=>sortedAll_old e) (Nat.le_succ _) (rg ge a1 (by rw[a2.length_eq];exact h64)),rfl,q _ ms hf a2 a3⟩
def iD:Fn
 |[.tup us],S=>(nc us).bind fun ns=>if ns.length<64 then some (.ref S.length,S++[.lst ((dc ns).map U.int)])else none
 |_,_=>none
theorem wx{K:PySem.W.Frag}:m6 K (sJ K) iD:=by
 intro m S H us vs u S' Q sr i hf post
 match us,hf with
 |[.tup ws],hf=>
  obtain⟨v,rfl,iv⟩:=i.one
  simp only[iD]at hf
  obtain⟨ns,hn,h⟩:=Option.bind_eq_some_iff.mp hf
  split at h<;>try cases h
  have hc:ns.length<64:=by assumption
  obtain⟨a,xs,rfl,sq,il⟩:=iv.of_tup
  rw[ju hn]at il
  rw[il.ints]at sq
  refine⟨a,ns,rfl,sq,hc,fun p ms hp pm sm=>?_⟩
  rw[lx pm sm]
  exact dM sr (iB _) post hp
structure Fz where
 l:Nat
 e:Nat
 e':Nat
 k:List (NK×U)
def Fz.on(z:Fz)(S:Sto):Prop:=S[z.l]?=some (.fdn z.e z.k)
def Fz.to(z:Fz)(S:Sto):Sto:=S.set z.l (.fdn z.e' z.k)
def Cm{α:Type}(z:Fz)(f:Sto->Option (α×Sto)):Prop:=∀S a S',z.on S->f S=some (a,S')->f (z.to S)=some (a,z.to S')/\z.on S'
def Cs(z:Fz)(f:Sto->Option (Out×Rho×Sto)):Prop:=∀S o ρ S',z.on S->f S=some (o,ρ,S')->f (z.to S)=some (o,ρ,z.to S')/\z.on S'
def Ct(z:Fz)(f:Sto->Option Sto):Prop:=∀S S',z.on S->f S=some S'->f (z.to S)=some (z.to S')/\z.on S'
def OkZ(z:Fz)(ok:Sto->Prop):Prop:=∀S,z.on S->(ok S↔ok (z.to S))
def Ci(z:Fz)(f:Sto->Option (List U×(Sto->Prop)×Sto)):Prop:=∀S us ok S',z.on S->f S=some (us,ok,S')->f (z.to S)=some (us,ok,z.to S')/\z.on S'/\OkZ z ok
section
variable{z:Fz}{α β:Type}{S S':Sto}
theorem Fz.lt(h:z.on S):z.l<S.length:=(List.getElem?_eq_some_iff.mp h).1
theorem Fz.len:(z.to S).length=S.length:=List.length_set ..
theorem Fz.get{k:Nat}{o:O}(h:z.on S)(hk:S[k]?=some o)(ne:∀e ks,o≠.fdn e ks):(z.to S)[k]?=some o/\z.l≠k:=by
 have:z.l≠k:=fun e=>by
  unfold Fz.on at h
  rw[e,hk]at h
  cases h
  exact ne _ _ rfl
 exact⟨by unfold Fz.to;rw[List.getElem?_set_ne this];exact hk,this⟩
theorem Fz.app(h:z.on S){T:Sto}:z.to (S++T)=z.to S++T:=List.set_append_left _ _ (Fz.lt h)
theorem Fz.app_on(h:z.on S){T:Sto}:z.on (S++T):=(List.getElem?_append_left (Fz.lt h)).trans h
theorem Fz.put{k:Nat}{o:O}(ne:z.l≠k):z.to (S.set k o)=(z.to S).set k o:=List.set_comm _ _ (Ne.symm ne)
theorem Fz.put_on{k:Nat}{o:O}(h:z.on S)(ne:z.l≠k):z.on (S.set k o):=by unfold Fz.on;rw[List.getElem?_set_ne (Ne.symm ne)];exact h
theorem Cm.bind{f:Sto->Option (α×Sto)}{g:α->Sto->Option (β×Sto)}(hf:Cm z f)(hg:∀a,Cm z (g a)):Cm z fun S=>(f S).bind fun p=>g p.1 p.2:=fun S b S2 h e=>by
 obtain⟨⟨a,S1⟩,e1,e2⟩:=Option.bind_eq_some_iff.mp e
 obtain⟨k1,h1⟩:=hf S a S1 h e1
 obtain⟨k2,h2⟩:=hg a S1 b S2 h1 e2
 exact⟨by dsimp only;rw[k1];exact k2,h2⟩
theorem Cm.bindS{f:Sto->Option (α×Sto)}{g:α->Sto->Option (Out×Rho×Sto)}(hf:Cm z f)(hg:∀a,Cs z (g a)):Cs z fun S=>(f S).bind fun p=>g p.1 p.2:=fun S o ρ S2 h e=>by
 obtain⟨⟨a,S1⟩,e1,e2⟩:=Option.bind_eq_some_iff.mp e
 obtain⟨k1,h1⟩:=hf S a S1 h e1
 obtain⟨k2,h2⟩:=hg a S1 o ρ S2 h1 e2
 exact⟨by dsimp only;rw[k1];exact k2,h2⟩
theorem Cm.bindI{f:Sto->Option (α×Sto)}{g:α->Sto->Option (List U×(Sto->Prop)×Sto)}(hf:Cm z f)(hg:∀a,Ci z (g a)):Ci z fun S=>(f S).bind fun p=>g p.1 p.2:=fun S us ok S2 h e=>by
 obtain⟨⟨a,S1⟩,e1,e2⟩:=Option.bind_eq_some_iff.mp e
 obtain⟨k1,h1⟩:=hf S a S1 h e1
 obtain⟨k2,h2⟩:=hg a S1 us ok S2 h1 e2
 exact⟨by dsimp only;rw[k1];exact k2,h2⟩
theorem Cm.pure{a:α}:Cm z fun S=>some (a,S):=fun S b S2 h e=>by cases e;exact⟨rfl,h⟩
theorem Cm.none:Cm z (fun _=>(none:Option (α×Sto))):=fun S b S2 h e=>by cases e
theorem Cm.opt{x:Option β}{g:β->Sto->Option (α×Sto)}(hg:∀b,Cm z (g b)):Cm z fun S=>x.bind fun b=>g b S:=by
 cases x with
 |none=>exact Cm.none
 |some b=>exact hg b
theorem Cm.ite{p:Prop}{_:Decidable p}{f g:Sto->Option (α×Sto)}(hf:Cm z f)(hg:Cm z g):Cm z fun S=>if p then f S else g S:=by
 by_cases c:p
 ·simp only[if_pos c];exact hf
 ·simp only[if_neg c];exact hg
theorem Cm.new{g:Nat->α}{o:O}:Cm z fun S=>some (g S.length,S++[o]):=fun S b S2 h e=>by
 cases e
 exact⟨by dsimp only;rw[Fz.len,Fz.app h],Fz.app_on h⟩
theorem Cs.pure{o:Out}{ρ:Rho}:Cs z fun S=>some (o,ρ,S):=fun S b ρ S2 h e=>by cases e;exact⟨rfl,h⟩
theorem Cs.none:Cs z (fun _=>none):=fun S b ρ S2 h e=>by cases e
theorem Cs.ite{p:Prop}{_:Decidable p}{f g:Sto->Option (Out×Rho×Sto)}(hf:Cs z f)(hg:Cs z g):Cs z fun S=>if p then f S else g S:=by
 by_cases c:p
 ·simp only[if_pos c];exact hf
 ·simp only[if_neg c];exact hg
theorem Cs.bind{f:Sto->Option (Out×Rho×Sto)}{g:Out->Rho->Sto->Option (Out×Rho×Sto)}(hf:Cs z f)(hg:∀o ρ,Cs z (g o ρ)):Cs z fun S=>(f S).bind fun r=>g r.1 r.2.1 r.2.2:=fun S o ρ S2 h e=>by
 obtain⟨⟨a,b,S1⟩,e1,e2⟩:=Option.bind_eq_some_iff.mp e
 obtain⟨k1,h1⟩:=hf S a b S1 h e1
 obtain⟨k2,h2⟩:=hg a b S1 o ρ S2 h1 e2
 exact⟨by dsimp only;rw[k1];exact k2,h2⟩
theorem Ct.bindS{f:Sto->Option Sto}{o:Out}{ρ:Rho}(hf:Ct z f):Cs z fun S=>(f S).bind fun S'=>some (o,ρ,S'):=fun S o ρ S2 h e=>by
 obtain⟨S1,e1,e2⟩:=Option.bind_eq_some_iff.mp e
 cases e2
 obtain⟨k1,h1⟩:=hf S _ h e1
 exact⟨by dsimp only;rw[k1];rfl,h1⟩
abbrev CmE(z:Fz)(c:CE):Prop:=∀ρ,Cm z (c ρ)
abbrev CmT(z:Fz)(c:CT):Prop:=∀ρ,Cm z (c ρ)
abbrev CmA(z:Fz)(c:CA):Prop:=∀ρ,Cm z (c ρ)
abbrev CmS(z:Fz)(c:CS):Prop:=∀ρ,Cs z (c ρ)
abbrev CmG(z:Fz)(g:CG):Prop:=∀u ρ,Cm z (g u ρ)
abbrev CmI(z:Fz)(c:CI):Prop:=∀ρ,Ci z (c ρ)
abbrev CmO(z:Fz)(f:U->U->Sto->Option (U×Sto)):Prop:=∀x y,Cm z (f x y)
abbrev CmF(z:Fz)(f:Fn):Prop:=∀us,Cm z (f us)
variable{ca cb cc:CE}{ta tb:CT}{cr:CA}{c1 c2:CS}{g:CG}{f:Fn}{op:U->U->Sto->Option (U×Sto)}{i:Nat}{ci:CI}{cl:Cl}
theorem Kx:CmE z (ak i):=fun ρ=>by
 unfold ak
 split
 ·exact Cm.pure
 ·exact Cm.none
theorem k_c{u:U}:CmE z (cC u):=fun ρ=>Cm.pure
theorem KG:CmA z ax:=fun ρ=>Cm.pure
theorem MI(h:CmO z op)(ha:CmE z ca)(hb:CmE z cb):CmE z (cOp op ca cb):=fun ρ=>(ha ρ).bind fun x=>(hb ρ).bind fun y=>h x y
theorem G9(ha:CmE z ca)(hr:CmA z cr):CmA z (ae ca cr):=fun ρ=>(ha ρ).bind fun x=>(hr ρ).bind fun y=>Cm.pure
theorem Ky(hr:CmA z cr):CmE z (cu cr):=fun ρ=>(hr ρ).bind fun y=>Cm.pure
theorem KH(hr:CmA z cr):CmE z (iH cr):=fun ρ=>Cm.bind (f:=cr ρ) (g:=fun us S=>some (U.ref S.length,S++[O.lst us])) (hr ρ) fun y=>Cm.new (g:=fun n=>U.ref n) (o:=O.lst y)
theorem MK(h:CmF z f)(hr:CmA z cr):CmE z (cCB f cr):=fun ρ=>(hr ρ).bind fun y=>h y
theorem G7:CmE z Az:=fun ρ=>Cm.new (g:=fun n=>U.ref n) (o:=.dic [])
theorem GS(ha:CmE z ca):CmT z (aH ca):=fun ρ=>Cm.bind (f:=ca ρ) (g:=fun u S=>match u with|.bl b=>some (b,S)|_=>none) (ha ρ) fun x=>by
 cases x with
 |bl b=>exact Cm.pure
 |_=>exact Cm.none
theorem KU(ha:CmT z ta)(hb:CmT z tb):CmT z (lC ta tb):=fun ρ=>(ha ρ).bind (g:=fun b S=>if b=true then tb ρ S else some (false,S)) fun x=>.ite (hb ρ) .pure
theorem MH(ha:CmT z ta)(hb:CmT z tb):CmT z (cOr ta tb):=fun ρ=>(ha ρ).bind (g:=fun b S=>if b=true then some (true,S)else tb ρ S) fun x=>.ite .pure (hb ρ)
theorem KD(ha:CmT z ta):CmT z (HQ ta):=fun ρ=>Cm.bind (f:=ta ρ) (g:=fun b S=>some (!b,S)) (ha ρ) fun x=>.pure
theorem Ha(ha:CmE z ca)(hb:CmE z cb):CmE z (uS ca cb):=fun ρ=>Cm.bind (f:=ca ρ) (g:=fun u S=>match u with|.bl true=>cb ρ S|.bl false=>some (.bl false,S)|_=>none) (ha ρ) fun x=>by
 cases x with
 |bl b=>cases b with
  |true=>exact hb ρ
  |false=>exact Cm.pure
 |_=>exact Cm.none
theorem KA(h1:CmS z c1)(h2:CmS z c2):CmS z (bb c1 c2):=fun ρ=>(h1 ρ).bind (g:=fun o ρ S=>match o with|.nx=>c2 ρ S|o=>some (o,ρ,S)) fun o ρ'=>by
 cases o with
 |nx=>exact h2 ρ'
 |_=>exact Cs.pure
theorem GU:CmS z bU:=fun ρ=>Cs.pure
theorem KC(ha:CmE z ca):CmS z (dU ca):=fun ρ=>Cm.bindS (f:=ca ρ) (g:=fun u S=>some (.rt u,ρ,S)) (ha ρ) fun x=>.pure
theorem Kz(ha:CmE z ca):CmS z (bJ i ca):=fun ρ=>Cm.bindS (f:=ca ρ) (g:=fun u S=>some (.nx,ρ.set i (some u),S)) (ha ρ) fun x=>.pure
theorem G5(ha:CmE z ca):CmS z (dS ca):=fun ρ=>Cm.bindS (f:=ca ρ) (g:=fun u S=>some (.nx,ρ,S)) (ha ρ) fun x=>.pure
theorem KJ(ht:CmT z ta)(h1:CmS z c1)(h2:CmS z c2):CmS z (dF ta c1 c2):=fun ρ=>(ht ρ).bindS (g:=fun b S=>if b=true then c1 ρ S else c2 ρ S) fun x=>.ite (h1 ρ) (h2 ρ)
theorem KP:CmG z (gNm i):=fun u ρ=>.pure
theorem KO{is:List Nat}:CmG z (gTp is):=fun u ρ=>by
 cases u with
 |tup us=>exact Cm.opt (g:=fun ρ' S=>some (ρ',S)) fun _=>.pure
 |_=>exact Cm.none
theorem KS(ha:CmE z ca)(hg:CmG z g):CmS z (LZ ca g):=fun ρ=>Cm.bindS (f:=ca ρ) (g:=fun u S=>(g u ρ S).bind fun q=>some (.nx,q.1,q.2)) (ha ρ) fun x=>Cm.bindS (f:=g x ρ) (g:=fun ρ' S=>some (.nx,ρ',S)) (hg x ρ) fun ρ'=>.pure
theorem rq(ht:CmT z ta)(hb:CmS z c1):∀n,CmS z (cA ta c1 n)
 |0=>fun ρ=>Cs.none
 |n+1=>fun ρ=>(ht ρ).bindS (g:=fun b S=>if b=true then(c1 ρ S).bind fun r=>match r.1 with
  |.nx=>cA ta c1 n r.2.1 r.2.2
  |.ct=>cA ta c1 n r.2.1 r.2.2
  |.bk=>some (.nx,r.2.1,r.2.2)
  |.rt v=>some (.rt v,r.2.1,r.2.2)else some (.nx,ρ,S)) fun b=>.ite ((hb ρ).bind (g:=fun o ρ' S=>match o with
  |.nx=>cA ta c1 n ρ' S
  |.ct=>cA ta c1 n ρ' S
  |.bk=>some (.nx,ρ',S)
  |.rt v=>some (.rt v,ρ',S)) fun o ρ'=>by
   cases o with
   |nx=>exact rq ht hb n ρ'
   |ct=>exact rq ht hb n ρ'
   |bk=>exact Cs.pure
   |rt v=>exact Cs.pure) .pure
theorem tj{ok:Sto->Prop}(ho:OkZ z ok)(hg:CmG z g)(hb:CmS z c1):∀us,CmS z (cy ok g c1 us)
 |[]=>fun ρ S o ρ' S' h e=>by
  unfold cy at e ⊢
  split at e<;>cases e
  rename_i c
  rw[if_pos ((ho S h).mp c)]
  exact⟨rfl,h⟩
 |u::us=>fun ρ S o ρ' S' h e=>by
  have key:Cs z fun S=>(g u ρ S).bind fun p=>(c1 p.1 p.2).bind fun r=>match r.1 with
   |.nx=>cy ok g c1 us r.2.1 r.2.2
   |.ct=>cy ok g c1 us r.2.1 r.2.2
   |.bk=>some (.nx,r.2.1,r.2.2)
   |.rt v=>some (.rt v,r.2.1,r.2.2):=(hg u ρ).bindS fun ρ1=>(hb ρ1).bind (g:=fun o ρ' S=>match o with
    |.nx=>cy ok g c1 us ρ' S
    |.ct=>cy ok g c1 us ρ' S
    |.bk=>some (.nx,ρ',S)
    |.rt v=>some (.rt v,ρ',S)) fun o ρ'=>by
     cases o with
     |nx=>exact tj ho hg hb us ρ'
     |ct=>exact tj ho hg hb us ρ'
     |bk=>exact Cs.pure
     |rt v=>exact Cs.pure
  unfold cy at e ⊢
  split at e
  ·rename_i c
   rw[if_pos ((ho S h).mp c)]
   exact key S o ρ' S' h e
  ·cases e
theorem KQ(hi:CmI z ci)(hg:CmG z g)(hb:CmS z c1):CmS z (lB ci g c1):=fun ρ S o ρ' S' h e=>by
 obtain⟨⟨us,ok,S1⟩,e1,e2⟩:=Option.bind_eq_some_iff.mp e
 obtain⟨k1,h1,ho⟩:=hi ρ S us ok S1 h e1
 obtain⟨k2,h2⟩:=tj ho hg hb us ρ S1 o ρ' S' h1 e2
 refine⟨?_,h2⟩
 unfold lB
 rw[k1]
 exact k2
theorem sR:OkZ z fun _=>True:=fun _ _=>Iff.rfl
theorem wB{k:Nat}{us:List U}:OkZ z fun S=>S[k]?=some (.lst us):=fun S h=>by
 refine⟨fun e=>(Fz.get h e (by intro _ _ c;cases c)).1,fun e=>?_⟩
 by_cases c:z.l=k
 ·subst c
  unfold Fz.to at e
  rw[List.getElem?_set_self (Fz.lt h)]at e
  cases e
 ·unfold Fz.to at e
  dsimp only at e
  rw[List.getElem?_set_ne c]at e
  exact e
theorem KI(ha:CmE z ca):CmI z (iTp ca):=fun ρ=>Cm.bindI (f:=ca ρ) (g:=fun u S=>match u with
  |.tup us=>some (us,fun _=>True,S)
  |.ref l=>match S[l]? with
   |some (.lst us)=>some (us,fun S=>S[l]?=some (.lst us),S)
   |_=>none
  |_=>none) (ha ρ) fun u=>by
 cases u with
 |tup us=>exact fun S vs ok S' h e=>by cases e;exact⟨rfl,h,sR⟩
 |ref l=>
  intro S vs ok S' h e
  dsimp only at e ⊢
  split at e<;>try cases e
  rename_i us hS
  rw[(Fz.get h hS (by intro _ _ c;cases c)).1]
  exact⟨rfl,h,wB⟩
 |_=>exact fun S vs ok S' h e=>by cases e
theorem GZ(ha:CmE z ca):CmI z (mJ ca):=fun ρ=>Cm.bindI (f:=ca ρ) (g:=fun u S=>(sC u S).bind fun x=>some (qg x.1,x.2,S)) (ha ρ) fun u=>fun S vs ok S' h e=>by
 obtain⟨⟨us,ok1⟩,e1,e2⟩:=Option.bind_eq_some_iff.mp e
 cases e2
 cases u with
 |tup us=>cases e1;exact⟨rfl,h,sR⟩
 |ref l=>
  simp only[sC]at e1 ⊢
  split at e1<;>try cases e1
  rename_i us hS
  rw[(Fz.get h hS (by intro _ _ c;cases c)).1]
  exact⟨rfl,h,wB⟩
 |_=>cases e1
theorem MJ{n k:Nat}(h1:CmS z c1):CmF z (fnU n k c1):=fun us=>by
 unfold fnU
 refine .ite (fun S a S' h e=>?_) .none
 obtain⟨⟨o,ρ,S1⟩,e1,e2⟩:=Option.bind_eq_some_iff.mp e
 obtain⟨k1,hz⟩:=h1 _ S o ρ S1 h e1
 rw[k1]
 cases o with
 |rt u=>cases e2;exact⟨rfl,hz⟩
 |nx=>cases e2;exact⟨rfl,hz⟩
 |_=>cases e2
theorem Cm.rdo{k:Nat}{F:Option O->Sto->Option (α×Sto)}(h0:∀e ks S,F (some (.fdn e ks)) S=Option.none)(hf:z.l≠k->∀o,Cm z (F o)):Cm z fun S=>F S[k]? S:=fun S a S' h e=>by
 dsimp only at e ⊢
 cases c:S[k]? with
 |none=>
  have:z.l≠k:=fun x=>by unfold Fz.on at h;rw[x,c]at h;cases h
  rw[c]at e
  unfold Fz.to
  rw[List.getElem?_set_ne this,c]
  exact hf this _ S a S' h e
 |some o=>
  rw[c]at e
  have ne:∀e ks,o≠.fdn e ks:=fun _ _ c=>by rw[c,h0]at e;cases e
  rw[(Fz.get h c ne).1]
  exact hf (Fz.get h c ne).2 _ S a S' h e
theorem Ct.rdo{k:Nat}{F:Option O->Sto->Option Sto}(h0:∀e ks S,F (some (.fdn e ks)) S=Option.none)(hf:z.l≠k->∀o,Ct z (F o)):Ct z fun S=>F S[k]? S:=fun S S' h e=>by
 dsimp only at e ⊢
 cases c:S[k]? with
 |none=>
  have:z.l≠k:=fun x=>by unfold Fz.on at h;rw[x,c]at h;cases h
  rw[c]at e
  unfold Fz.to
  rw[List.getElem?_set_ne this,c]
  exact hf this _ S S' h e
 |some o=>
  rw[c]at e
  have ne:∀e ks,o≠.fdn e ks:=fun _ _ c=>by rw[c,h0]at e;cases e
  rw[(Fz.get h c ne).1]
  exact hf (Fz.get h c ne).2 _ S S' h e
theorem Ct.none:Ct z (fun _=>(none:Option Sto)):=fun S S2 h e=>by cases e
theorem Ct.opt{x:Option β}{g:β->Sto->Option Sto}(hg:∀b,Ct z (g b)):Ct z fun S=>x.bind fun b=>g b S:=by
 cases x with
 |none=>exact Ct.none
 |some b=>exact hg b
theorem Ct.ite{p:Prop}{_:Decidable p}{f g:Sto->Option Sto}(hf:Ct z f)(hg:Ct z g):Ct z fun S=>if p then f S else g S:=by
 by_cases c:p
 ·simp only[if_pos c];exact hf
 ·simp only[if_neg c];exact hg
theorem Ct.put{k:Nat}{o:O}(nk:z.l≠k):Ct z fun S=>some (S.set k o):=fun S S' h e=>by
 cases e
 exact⟨by rw[Fz.put nk],Fz.put_on h nk⟩
theorem Cm.put{a:α}{k:Nat}{o:O}(nk:z.l≠k):Cm z fun S=>some (a,S.set k o):=fun S _ S' h e=>by
 cases e
 exact⟨by rw[Fz.put nk],Fz.put_on h nk⟩
theorem Ma{g:Int->Int->Option U}:CmO z (fI g):=fun x y=>by
 cases x<;>cases y<;>first|exact Cm.opt (g:=fun u S=>some (u,S)) fun _=>.pure|exact Cm.none
theorem IL:CmO z fEq:=fun x y=>Cm.opt (x:=eqS x y) (g:=fun b S=>some (U.bl b,S)) fun _=>.pure
theorem IH:CmO z fNe:=fun x y=>Cm.opt (x:=eqS x y) (g:=fun b S=>some (U.bl (!b),S)) fun _=>.pure
theorem IJ:CmO z Ek:=fun x y=>by cases y<;>first|exact Cm.pure|exact Cm.none
theorem Ex:CmO z nq:=fun x y=>by cases y<;>first|exact Cm.pure|exact Cm.none
theorem Cm.o1{x:Option U}:Cm z fun S=>x.bind fun u=>some (u,S):=Cm.opt (g:=fun u S=>some (u,S)) fun _=>.pure
theorem L8:CmO z fIx:=fun x y=>by
 cases x with
 |tup us=>cases y<;>first|exact Cm.o1|exact Cm.none
 |kl us=>cases y<;>first|exact Cm.o1|exact Cm.none
 |ref l=>
  refine Cm.rdo (k:=l) (F:=fun o S=>match o with
   |some (.lst us)=>(match y with
    |.int i=>(atI us i).bind fun u=>some (u,S)
    |_=>none)
   |some (.dic kus)=>(gR y).bind fun k=>(cw kus k).bind fun u=>some (u,S)
   |some (.fdc ep kus)=>(gR y).bind fun k=>(cw kus k).bind fun u=>some (u,S)
   |_=>none) (fun _ _ _=>rfl) fun nk o=>?_
  rcases o with _|o
  ·exact Cm.none
  cases o with
  |lst us=>cases y<;>first|exact Cm.o1|exact Cm.none
  |dic kus=>exact Cm.opt (x:=gR y) (g:=fun k S=>(cw kus k).bind fun u=>some (u,S)) fun _=>Cm.o1
  |fdc ep kus=>exact Cm.opt (x:=gR y) (g:=fun k S=>(cw kus k).bind fun u=>some (u,S)) fun _=>Cm.o1
  |_=>exact Cm.none
 |_=>exact Cm.none
theorem II:CmF z fU:=fun us=>by
 match us with
 |[.tup us]=>exact Cm.pure
 |[.kl us]=>exact Cm.pure
 |[.ref l]=>
  refine Cm.rdo (k:=l) (F:=fun o S=>match o with
   |some (.lst us)=>some (U.int us.length,S)
   |some (.dic us)=>some (U.int us.length,S)
   |_=>none) (fun _ _ _=>rfl) fun nk o=>?_
  rcases o with _|o
  ·exact Cm.none
  cases o<;>first|exact Cm.pure|exact Cm.none
 |[.non]|[.bl _]|[.int _]|[.str _]|[]=>exact Cm.none
 |x::_::_=>cases x<;>exact Cm.none
theorem Ez:CmF z rH:=fun us=>by
 match us with
 |[.tup us]=>exact Cm.new (g:=fun n=>U.ref n) (o:=.lst us)
 |[.ref l]=>
  refine Cm.rdo (k:=l) (F:=fun o S=>match o with
   |some (.lst us)=>some (U.ref S.length,S++[.lst us])
   |_=>none) (fun _ _ _=>rfl) fun nk o=>?_
  rcases o with _|o
  ·exact Cm.none
  cases o with
  |lst us=>exact Cm.new (g:=fun n=>U.ref n) (o:=.lst us)
  |_=>exact Cm.none
 |[.non]|[.bl _]|[.int _]|[.str _]|[.kl _]|[]=>exact Cm.none
 |x::_::_=>cases x<;>exact Cm.none
theorem Bu:CmF z fe:=fun us=>by
 match us with
 |[.tup us]=>exact Cm.pure
 |[.ref l]=>
  refine Cm.rdo (k:=l) (F:=fun o S=>match o with
   |some (.lst us)=>some (U.tup us,S)
   |_=>none) (fun _ _ _=>rfl) fun nk o=>?_
  rcases o with _|o
  ·exact Cm.none
  cases o<;>first|exact Cm.pure|exact Cm.none
 |[.non]|[.bl _]|[.int _]|[.str _]|[.kl _]|[]=>exact Cm.none
 |x::_::_=>cases x<;>exact Cm.none
theorem Ew{x:Option (List Int)}:Cm z fun S=>x.bind fun ns=>if ns.length<64 then some (U.ref S.length,S++[.lst ((dc ns).map U.int)])else none:=
 Cm.opt (x:=x) (g:=fun ns S=>if ns.length<64 then some (U.ref S.length,S++[O.lst ((dc ns).map U.int)])else none) fun ns=>.ite (Cm.new (g:=fun n=>U.ref n) (o:=.lst ((dc ns).map U.int))) .none
theorem yz:CmF z jR:=fun us=>by
 match us with
 |[.ref l]=>
  refine Cm.rdo (k:=l) (F:=fun o S=>match o with
   |some (.lst us)=>(nc us).bind fun ns=>if ns.length<64 then some (U.ref S.length,S++[.lst ((dc ns).map U.int)])else none
   |some (.dic kus)=>(rp kus).bind fun ns=>if ns.length<64 then some (U.ref S.length,S++[.lst ((dc ns).map U.int)])else none
   |_=>none) (fun _ _ _=>rfl) fun nk o=>?_
  rcases o with _|o
  ·exact Cm.none
  cases o<;>first|exact Ew|exact Cm.none
 |[.tup _]|[.non]|[.bl _]|[.int _]|[.str _]|[.kl _]|[]=>exact Cm.none
 |x::_::_=>cases x<;>exact Cm.none
theorem u9:CmF z iD:=fun us=>by
 match us with
 |[.tup us]=>exact Ew
 |[.ref _]|[.non]|[.bl _]|[.int _]|[.str _]|[.kl _]|[]=>exact Cm.none
 |x::_::_=>cases x<;>exact Cm.none
theorem L9{neg:Bool}:CmO z (fIn neg):=fun x y=>by
 cases y with
 |tup us=>exact Cm.ite .pure .none
 |ref l=>
  refine Cm.rdo (k:=l) (F:=fun o S=>match o with
   |some (.lst us)=>if i7 x=true/\us.all i7=true then some (U.bl (if neg then !inU x us else inU x us),S)else none
   |some (.dic kus)=>(gR x).bind fun k=>some (U.bl (if neg then !(cw kus k).isSome else(cw kus k).isSome),S)
   |some (.fdc ep kus)=>(gR x).bind fun k=>some (U.bl (if neg then !(cw kus k).isSome else(cw kus k).isSome),S)
   |_=>none) (fun _ _ _=>rfl) fun nk o=>?_
  rcases o with _|o
  ·exact Cm.none
  cases o with
  |lst us=>exact Cm.ite .pure .none
  |dic kus=>exact Cm.opt (x:=gR x) (g:=fun k S=>some (U.bl (if neg then !(cw kus k).isSome else(cw kus k).isSome),S)) fun _=>.pure
  |fdc ep kus=>exact Cm.opt (x:=gR x) (g:=fun k S=>some (U.bl (if neg then !(cw kus k).isSome else(cw kus k).isSome),S)) fun _=>.pure
  |_=>exact Cm.none
 |_=>exact Cm.none
theorem yA{x:U}{us:List U}:Cm z (bS x us):=by
 match x,us with
 |.ref l,[u]=>
  refine Cm.rdo (k:=l) (F:=fun o S=>match o with
   |some (.lst us)=>if us.length<LIM then some (U.non,S.set l (.lst (us++[u])))else none
   |_=>none) (fun _ _ _=>rfl) fun nk o=>?_
  rcases o with _|o
  ·exact Cm.none
  cases o with
  |lst us=>exact Cm.ite (.put nk) .none
  |_=>exact Cm.none
 |.ref l,[]|.ref l,_::_::_=>exact Cm.none
 |.non,_|.bl _,_|.int _,_|.str _,_|.tup _,_|.kl _,_=>exact Cm.none
theorem IM{l k:Nat}:Cm z (i8 (.ref l) (.ref k)):=fun S a S' h e=>by
 simp only[i8]at e ⊢
 split at e<;>try cases e
 rename_i x y h1 h2
 rw[(Fz.get h h1 (by intro _ _ c;cases c)).1,(Fz.get h h2 (by intro _ _ c;cases c)).1]
 dsimp only
 split at e<;>cases e
 rename_i c
 rw[if_pos c,Fz.len,Fz.app h]
 exact⟨rfl,Fz.app_on h⟩
theorem IP:CmO z eI:=fun x y=>by
 cases x<;>cases y<;>first|exact Cm.pure|exact IM|exact Cm.ite .pure .none|exact Cm.none
theorem Ey:CmO z uJ:=fun x y=>by
 match x,y with
 |.int _,.int _=>exact Cm.ite .pure .none
 |.tup _,.int _=>exact Cm.ite .pure .none
 |.ref l,.int k=>
  refine Cm.rdo (k:=l) (F:=fun o S=>match o with
   |some (.lst us)=>if 0<=k/\k<=100000/\us.length*k.toNat<=LIM then some (U.ref S.length,S++[.lst (List.replicate k.toNat us).flatten])else none
   |_=>none) (fun _ _ _=>rfl) fun nk o=>?_
  rcases o with _|o
  ·exact Cm.none
  cases o with
  |lst us=>exact Cm.ite (Cm.new (g:=fun n=>U.ref n) (o:=.lst (List.replicate k.toNat us).flatten)) .none
  |_=>exact Cm.none
 |.non,_|.bl _,_|.str _,_|.kl _,_=>exact Cm.none
 |.int _,.non|.int _,.bl _|.int _,.str _|.int _,.tup _|.int _,.ref _|.int _,.kl _=>exact Cm.none
 |.tup _,.non|.tup _,.bl _|.tup _,.str _|.tup _,.tup _|.tup _,.ref _|.tup _,.kl _=>exact Cm.none
 |.ref _,.non|.ref _,.bl _|.ref _,.str _|.ref _,.tup _|.ref _,.ref _|.ref _,.kl _=>exact Cm.none
theorem IK:CmF z HD:=fun us=>by
 match us with
 |[.int _]=>exact Cm.pure
 |[.bl _]=>exact Cm.pure
 |[.ref _]|[.non]|[.tup _]|[.str _]|[.kl _]|[]=>exact Cm.none
 |x::_::_=>cases x<;>exact Cm.none
theorem Bv{x y v:U}:Ct z (hG x y v):=by
 cases x with
 |ref l=>
  refine Ct.rdo (k:=l) (F:=fun o S=>match o with
   |some (.lst us)=>(match y with
    |.int k=>(ixN us.length k).bind fun j=>some (S.set l (.lst (us.set j v)))
    |_=>none)
   |some (.dic kus)=>(gR y).bind fun k=>if kus.length<LIM then some (S.set l (.dic (lz kus k v)))else none
   |_=>none) (fun _ _ _=>rfl) fun nk o=>?_
  rcases o with _|o
  ·exact Ct.none
  cases o with
  |lst us=>cases y with
   |int k=>exact Ct.opt (x:=ixN us.length k) (g:=fun j S=>some (S.set l (.lst (us.set j v)))) fun _=>.put nk
   |_=>exact Ct.none
  |dic kus=>exact Ct.opt (x:=gR y) (g:=fun k S=>if kus.length<LIM then some (S.set l (.dic (lz kus k v)))else none) fun _=>.ite (.put nk) .none
  |_=>exact Ct.none
 |_=>exact Ct.none
theorem DD(ho:CmE z ca)(hi:CmE z cb)(hv:CmE z cc):CmS z (jB ca cb cc):=fun ρ=>
 Cm.bindS (f:=cc ρ) (g:=fun v S=>(ca ρ S).bind fun q=>(cb ρ q.2).bind fun r=>(hG q.1 r.1 v r.2).bind fun S'=>some (.nx,ρ,S')) (hv ρ) fun v=>
 Cm.bindS (f:=ca ρ) (g:=fun x S=>(cb ρ S).bind fun r=>(hG x r.1 v r.2).bind fun S'=>some (.nx,ρ,S')) (ho ρ) fun x=>
 Cm.bindS (f:=cb ρ) (g:=fun y S=>(hG x y v S).bind fun S'=>some (.nx,ρ,S')) (hi ρ) fun y=>Ct.bindS Bv
open Classical in
theorem KR:CmE z ca->CmE z (m7 cl i ca):=fun ha ρ=>Cm.bind (f:=ca ρ) (g:=fun x S=>El cl i x S) (ha ρ) fun x=>by
 cases x with
 |ref l=>
  refine Cm.rdo (k:=l) (F:=fun o S=>match o with
   |some (.ins c' fus)=>if c'=cl then(fus[i]?).join.bind fun u=>some (u,S)else none
   |_=>none) (fun _ _ _=>rfl) fun nk o=>?_
  rcases o with _|o
  ·exact Cm.none
  cases o with
  |ins c' fus=>exact Cm.ite Cm.o1 .none
  |_=>exact Cm.none
 |_=>exact Cm.none
open Classical in
theorem GV(ha:CmE z ca)(hv:CmE z cb):CmS z (jC cl i ca cb):=fun ρ=>
 Cm.bindS (f:=cb ρ) (g:=fun v S=>(ca ρ S).bind fun q=>(rF cl i q.1 v q.2).bind fun S'=>some (.nx,ρ,S')) (hv ρ) fun v=>
 Cm.bindS (f:=ca ρ) (g:=fun x S=>(rF cl i x v S).bind fun S'=>some (.nx,ρ,S')) (ha ρ) fun x=>Ct.bindS (by
  cases x with
  |ref l=>
   refine Ct.rdo (k:=l) (F:=fun o S=>match o with
    |some (.ins c' fus)=>if c'=cl then some (S.set l (.ins cl (fus.set i (some v))))else none
    |_=>none) (fun _ _ _=>rfl) fun nk o=>?_
   rcases o with _|o
   ·exact Ct.none
   cases o with
   |ins c' fus=>exact Ct.ite (.put nk) .none
   |_=>exact Ct.none
  |_=>exact Ct.none)
open Classical in
theorem GW(hf:CmF z f)(ha:CmE z ca)(hr:CmA z cr):CmE z (eZ cl f ca cr):=fun ρ=>Cm.bind (f:=ca ρ) (g:=fun x S=>uK cl f x S (cr ρ)) (ha ρ) fun x=>by
 cases x with
 |ref l=>
  refine Cm.rdo (k:=l) (F:=fun o S=>match o with
   |some (.ins c' _)=>if c'=cl then(cr ρ S).bind fun q=>f (.ref l::q.1) q.2 else none
   |_=>none) (fun _ _ _=>rfl) fun nk o=>?_
  rcases o with _|o
  ·exact Cm.none
  cases o with
  |ins c' fus=>exact Cm.ite (Cm.bind (f:=cr ρ) (g:=fun us S=>f (.ref l::us) S) (hr ρ) fun us=>hf _) .none
  |_=>exact Cm.none
 |_=>exact Cm.none
theorem ML{fm:U->List U->Sto->Option (U×Sto)}(hf:∀x us,Cm z (fm x us))(ha:CmE z ca)(hr:CmA z cr):CmE z (cBM fm ca cr):=fun ρ=>Cm.bind (f:=ca ρ) (g:=fun x S=>match x with
  |.ref l=>match S[l]? with
   |some (.lst _)=>(cr ρ S).bind fun q=>fm x q.1 q.2
   |_=>none
  |_=>none) (ha ρ) fun x=>by
 cases x with
 |ref l=>
  refine Cm.rdo (k:=l) (F:=fun o S=>match o with
   |some (.lst _)=>(cr ρ S).bind fun q=>fm (.ref l) q.1 q.2
   |_=>none) (fun _ _ _=>rfl) fun nk o=>?_
  rcases o with _|o
  ·exact Cm.none
  cases o with
  |lst us=>exact Cm.bind (f:=cr ρ) (g:=fun us S=>fm (.ref l) us S) (hr ρ) fun us=>hf _ _
  |_=>exact Cm.none
 |_=>exact Cm.none
theorem GX(hf:CmF z f):CmF z (rG cl f):=fun us S a S' h e=>by
 unfold rG at e ⊢
 obtain⟨⟨u,S1⟩,e1,e2⟩:=Option.bind_eq_some_iff.mp e
 obtain⟨k1,h1⟩:=hf _ _ _ _ (Fz.app_on h) e1
 rw[Fz.app h]at k1
 rw[Fz.len,k1,Option.bind_some]
 cases u<;>first|cases e2;exact⟨rfl,h1⟩|cases e2
theorem w8:∀{prs:List (CE×CE)},(∀p∈prs,CmE z p.1/\CmE z p.2)->∀ρ,Cm z (gN prs ρ)
 |[],_,ρ=>Cm.pure
 |(ck,cv)::r,h,ρ=>Cm.bind (f:=ck ρ) (g:=fun x S=>(cv ρ S).bind fun q=>(gR x).bind fun k=>(gN r ρ q.2).bind fun z=>some ((k,q.1)::z.1,z.2)) ((h _ List.mem_cons_self).1 ρ) fun x=>
  Cm.bind (f:=cv ρ) (g:=fun y S=>(gR x).bind fun k=>(gN r ρ S).bind fun z=>some ((k,y)::z.1,z.2)) ((h _ List.mem_cons_self).2 ρ) fun y=>
  Cm.opt (x:=gR x) (g:=fun k S=>(gN r ρ S).bind fun z=>some ((k,y)::z.1,z.2)) fun k=>
  Cm.bind (f:=gN r ρ) (g:=fun zs S=>some ((k,y)::zs,S)) (w8 (fun p hp=>h p (List.mem_cons_of_mem _ hp)) ρ) fun _=>.pure
theorem G8{prs:List (CE×CE)}(hp:∀p∈prs,CmE z p.1/\CmE z p.2):CmE z (Ay prs):=fun ρ S a S' h e=>by
 unfold Ay at e ⊢
 obtain⟨⟨u,S1⟩,e1,e2⟩:=Option.bind_eq_some_iff.mp e
 obtain⟨k1,h1⟩:=w8 hp ρ _ _ _ (Fz.app_on h) e1
 rw[Fz.app h]at k1
 rw[Fz.len,k1,Option.bind_some]
 dsimp only at e2 ⊢
 split at e2<;>try cases e2
 rename_i hS
 obtain⟨g1,g2⟩:=Fz.get h1 hS (by intro _ _ c;cases c)
 rw[g1]
 exact⟨by rw[Fz.put g2],Fz.put_on h1 g2⟩
theorem A5{c:Option CE}(h:∀x,c=some x->CmE z x):∀ρ,Cm z (ny c ρ):=fun ρ=>by
 cases c with
 |none=>exact Cm.pure
 | some x=>exact Cm.bind (f:=x ρ) (g:=fun u S=>match u with
   |.int i=>some (some i,S)
   |_=>none) (h x rfl ρ) fun u=>by cases u<;>first|exact Cm.pure|exact Cm.none
theorem MG{lo hi:Option CE}(ha:CmE z ca)(h1:∀x,lo=some x->CmE z x)(h2:∀x,hi=some x->CmE z x):CmE z (cSl ca lo hi):=fun ρ=>
 Cm.bind (f:=ca ρ) (g:=fun x S=>(ny lo ρ S).bind fun q=>(ny hi ρ q.2).bind fun r=>fSl x q.1 r.1 r.2) (ha ρ) fun x=>
 Cm.bind (f:=ny lo ρ) (g:=fun q S=>(ny hi ρ S).bind fun r=>fSl x q r.1 r.2) (A5 h1 ρ) fun q=>
 Cm.bind (f:=ny hi ρ) (g:=fun r S=>fSl x q r S) (A5 h2 ρ) fun r=>by
  cases x with
  |tup us=>exact Cm.ite .none .pure
  |ref l=>
   refine Cm.rdo (k:=l) (F:=fun o S=>match o with
    |some (.lst us)=>some (U.ref S.length,S++[.lst (Bj us q r)])
    |_=>none) (fun _ _ _=>rfl) fun nk o=>?_
   rcases o with _|o
   ·exact Cm.none
   cases o with
   |lst us=>exact Cm.new (g:=fun n=>U.ref n) (o:=.lst (Bj us q r))
   |_=>exact Cm.none
  |_=>exact Cm.none
theorem mH{ok:Sto->Prop}{k:Nat}(ho:OkZ z ok)(hg:CmG z g)(ht:CmT z ta)(he:CmE z ca):∀us ρ,Ct z (cG ok g ta ca k us ρ)
 |[],ρ=>fun S S' h e=>by
  unfold cG at e ⊢
  split at e<;>cases e
  rename_i c
  rw[if_pos ((ho _ h).mp c)]
  exact⟨rfl,h⟩
 |u::us,ρ=>fun S S' h e=>by
  unfold cG at e ⊢
  split at e<;>try cases e
  rename_i c
  rw[if_pos ((ho _ h).mp c)]
  obtain⟨⟨ρ1,S1⟩,e1,e⟩:=Option.bind_eq_some_iff.mp e
  obtain⟨k1,h1⟩:=hg _ _ _ _ _ h e1
  rw[k1,Option.bind_some]
  obtain⟨⟨b,S2⟩,e2,e⟩:=Option.bind_eq_some_iff.mp e
  obtain⟨k2,h2⟩:=ht _ _ _ _ h1 e2
  dsimp only at e k2 ⊢
  rw[k2,Option.bind_some]
  cases b with
  |false=>exact mH ho hg ht he us ρ1 S2 S' h2 e
  |true=>
   dsimp only at e ⊢
   rw[if_pos rfl]at e ⊢
   obtain⟨⟨v,S3⟩,e3,e⟩:=Option.bind_eq_some_iff.mp e
   obtain⟨k3,h3⟩:=he _ _ _ _ h2 e3
   rw[k3,Option.bind_some]
   dsimp only at e ⊢
   split at e<;>try cases e
   rename_i ys hS
   obtain⟨g1,g2⟩:=Fz.get h3 hS (by intro _ _ c;cases c)
   rw[g1]
   dsimp only
   split at e<;>try cases e
   rename_i cl
   rw[if_pos cl,<-Fz.put g2]
   exact mH ho hg ht he us ρ1 _ S' (Fz.put_on h3 g2) e
theorem z3{n:Nat}{caps:List Nat}(hi:CmI z ci)(hg:CmG z g)(ht:CmT z ta)(he:CmE z ca):CmE z (jW ci g ta ca n caps):=fun ρ S a S' h e=>by
 unfold jW at e ⊢
 obtain⟨⟨us,ok,S1⟩,e1,e⟩:=Option.bind_eq_some_iff.mp e
 obtain⟨k1,h1,ho⟩:=hi ρ S us ok S1 h e1
 rw[k1,Option.bind_some]
 dsimp only at e ⊢
 obtain⟨S2,e2,e3⟩:=Option.bind_eq_some_iff.mp e
 cases e3
 obtain⟨k2,h2⟩:=mH ho hg ht he us _ _ _ (Fz.app_on h1) e2
 rw[Fz.app h1]at k2
 rw[Fz.len,k2]
 exact⟨rfl,h2⟩
theorem GY(he:CmE z ca)(hg:CmG z g)(hb:CmS z c1):CmS z (HR ca g c1):=fun ρ S o ρ' S' h e=>by
 unfold HR at e ⊢
 obtain⟨⟨u,S1⟩,e1,e⟩:=Option.bind_eq_some_iff.mp e
 obtain⟨k1,h1⟩:=he ρ S u S1 h e1
 rw[k1,Option.bind_some]
 cases u with
 |ref l=>
  dsimp only at e ⊢
  split at e<;>try cases e
  rename_i kus hS
  obtain⟨g1,g2⟩:=Fz.get h1 hS (by intro _ _ c;cases c)
  rw[g1]
  dsimp only
  have all:∀ep,_:=sj e
  have key:∀ep,(cy (fun S'=>S'[l]?=some (.fdc ep kus)) g c1 (kus.map fun q=>kU q.1) ρ ((z.to S1).set l (.fdc ep kus))).bind (fun r=>match r.2.2[l]? with
    |some (.fdc _ kus')=>some (r.1,r.2.1,r.2.2.set l (.dic kus'))
    |_=>none)=some (o,ρ',z.to S')/\z.on S':=fun ep=>by
   obtain⟨⟨o1,ρ1,S2⟩,e2,e3⟩:=Option.bind_eq_some_iff.mp (all ep)
   have okz:OkZ z fun S'=>S'[l]?=some (.fdc ep kus):=fun T hT=>by
    unfold Fz.to
    dsimp only
    rw[List.getElem?_set_ne g2]
   obtain⟨k2,h2⟩:=tj okz hg hb _ ρ _ _ _ _ (Fz.put_on h1 g2) e2
   rw[Fz.put g2]at k2
   rw[k2,Option.bind_some]
   dsimp only at e3 ⊢
   cases hS2:S2[l]? with
   |none=>rw[hS2]at e3;cases e3
   |some x=>
    rw[hS2]at e3
    cases x with
    |fdc e9 k9=>
     cases e3
     rw[(Fz.get h2 hS2 (by intro _ _ c;cases c)).1]
     exact⟨by rw[Fz.put g2],Fz.put_on h2 g2⟩
    |_=>cases e3
  exact⟨vB fun ep=>(key ep).1,(key 0).2⟩
 |_=>cases e
end
end OP
namespace OQ
open PySem PySem.Spec PyProof.Rows L2 OG OP
def d9:CS:=
 (bb (dF (aH (cOp fEq (cOp fIx (ak 0) (cC (.int 2))) (cC (.int 0)))) (bb (bJ 2 (cOp fIx (ak 0) (cC (.int 1))))
  (bb (jB (ak 0) (cC (.int 1)) (cOp eI (ak 2) (cC (.int 1))))
  (bb (bJ 3 (cC (.int 0)))
  (bb (dF (aH (cOp fLt (ak 2) (cCB fU (ae (cOp fIx (ak 0) (cC (.int 0))) ax)))) (bJ 3 (cOp fIx (cOp fIx (ak 0) (cC (.int 0))) (ak 2))) (dF (aH (cOp fGt (cCB fU (ae (cOp fIx (ak 0) (cC (.int 0))) ax)) (cC (.int 0)))) (bJ 3 (cOp eI (cOp o3 (cOp fIx (cOp fIx (ak 0) (cC (.int 0))) (cOp o3 (cOp mN (ak 2) (cC (.int 3))) (cCB fU (ae (cOp fIx (ak 0) (cC (.int 0))) ax)))) (cC (.int 1000003))) (cOp mN (cC (.int 97)) (ak 2)))) bU))
  (bb (bJ 4 (cOp o3 (cOp mN (cOp eI (cOp eI (cOp o3 (ak 3) (cC (.int 998244353))) (cOp mN (cC (.int 53)) (ak 2))) (cC (.int 1))) (cC (.int 48271))) (cC (.int 2147483647))))
  (bb (bJ 5 (cOp o3 (cOp eI (cOp eI (cOp mN (ak 4) (ak 4)) (cOp mN (cC (.int 69621)) (ak 2))) (cC (.int 5))) (cC (.int 1000000007))))
  (bb (bJ 6 (cOp o3 (cOp eI (cOp mN (ak 5) (ak 5)) (ak 4)) (cC (.int 998244353))))
  (bb (jB (ak 0) (cC (.int 2)) (cOp eI (cOp Ah (cOp eI (cOp mN (ak 5) (cC (.int 998244353))) (ak 6)) (cC (.int 16))) (cC (.int 1))))
  (dF (aH (cOp fGe (ak 3) (cOp Ej (cC (.int 10)) (cC (.int 18))))) (jB (ak 0) (cC (.int 2)) (cOp Ah (ak 3) (cOp Ej (cC (.int 10)) (cC (.int 18))))) bU))))))))) bU)
  (bb (bJ 7 (cOp o3 (cOp fIx (ak 0) (cC (.int 2))) (ak 1)))
  (bb (jB (ak 0) (cC (.int 2)) (cOp Ah (cOp fIx (ak 0) (cC (.int 2))) (ak 1)))
  (dU (ak 7)))))
theorem rL{a0 a1:U}{S:Sto}:fnU 8 2 (d9 ) [a0,a1] S=((d9 ) [some a0,some a1,none,none,none,none,none,none] S).bind kFn:=iR rfl
def eQ(ah:Fn):CS:=
 (dU (cu (ae (cOp eI (cC (.int 1)) (cCB ah (ae (ak 0) (ae (cC (.int 6)) ax)))) (ae (cOp fIx (iH (ae (cC (.int 2)) (ae (cC (.int 3)) (ae (cC (.int 5)) (ae (cC (.int 10)) (ae (cOp eI (cC (.int 2)) (cCB ah (ae (ak 0) (ae (cC (.int 999)) ax)))) ax)))))) (cCB ah (ae (ak 0) (ae (cC (.int 5)) ax)))) ax))))
theorem qh{ah:Fn}{a0:U}{S:Sto}:fnU 1 1 (eQ ah) [a0] S=((eQ ah) [some a0] S).bind kFn:=iR rfl
def fg(aJ:Fn):CS:=
 (bb (bJ 1 (cOp eI (ak 1) (cC (.int 1))))
  (dF (aH (cOp fEq (cOp fIx (ak 2) (cC (.int 0))) (cC (.str "try")))) (bJ 1 (cOp eI (cOp eI (ak 1) (cCB aJ (ae (cOp fIx (ak 2) (cC (.int 1))) ax))) (cCB aJ (ae (cOp fIx (ak 2) (cC (.int 2))) ax)))) bU))
def fB(aJ:Fn):CS:=
 (bb (bJ 1 (cC (.int 0)))
  (bb (lB (iTp (ak 0)) (gNm 2) (fg aJ))
  (dU (ak 1))))
theorem rM{aJ:Fn}{a0:U}{S:Sto}:fnU 3 1 (fB aJ) [a0] S=((fB aJ) [some a0,none,none] S).bind kFn:=iR rfl
def aZ(ah:Fn):CS:=
 (bb (dF (aH (cOp fLt (ak 2) (cC (.int 4)))) (dU (cu (ae (cC (.str "look")) (ae (ak 3) (ae (cCB ah (ae (ak 0) (ae (cOp fIx (ak 1) (cC (.int 0))) ax))) ax))))) bU)
  (bb (dF (aH (cOp fLt (ak 2) (cC (.int 7)))) (dU (cu (ae (cC (.str "put")) (ae (cCB ah (ae (ak 0) (ae (cOp fIx (ak 1) (cC (.int 0))) ax))) (ae (ak 3) ax))))) bU)
  (bb (dF (aH (cOp fLt (ak 2) (cC (.int 9)))) (dU (cu (ae (cC (.str "set")) (ae (ak 3) (ae (cCB ah (ae (ak 0) (ae (cOp fIx (ak 1) (cC (.int 1))) ax))) ax))))) bU)
  (bb (dF (aH (cOp fLt (ak 2) (cC (.int 11)))) (dU (cu (ae (cC (.str "plus")) (ae (ak 3) (ae (cCB ah (ae (ak 0) (ae (cC (.int 4)) ax))) ax))))) bU)
  (dU (cu (ae (cC (.str "leap")) (ae (ak 3) (ae (cOp eI (cC (.int 1)) (cCB ah (ae (ak 0) (ae (cOp fIx (iH (ae (cC (.int 2)) (ae (cC (.int 12)) ax))) (cCB ah (ae (ak 0) (ae (cC (.int 2)) ax)))) ax)))) ax)))))))))
theorem jS{ah:Fn}{a0 a1 a2 a3:U}{S:Sto}:fnU 4 4 (aZ ah) [a0,a1,a2,a3] S=((aZ ah) [some a0,some a1,some a2,some a3] S).bind kFn:=iR rfl
def dr(ah aR aC aJ:Fn):CS:=
 (bb (bJ 7 (cCB ah (ae (ak 0) (ae (cC (.int 16)) ax))))
  (bb (bJ 8 (cCB ah (ae (ak 0) (ae (cC (.int 4)) ax))))
  (dF (lC (aH (cOp fGt (ak 5) (cC (.int 0)))) (lC (aH (cOp fLt (cCB fU (ae (ak 4) ax)) (cC (.int 12)))) (aH (cOp fLt (ak 7) (cC (.int 13)))))) (bb (dS (cBM bS (ak 4) (ae (cCB aR (ae (ak 0) (ae (ak 1) (ae (ak 7) (ae (ak 8) ax))))) ax)))
  (bJ 5 (cOp oZ (ak 5) (cC (.int 1))))) (dF (lC (aH (cOp fGt (ak 5) (cC (.int 0)))) (lC (aH (cOp fLt (cCB fU (ae (ak 4) ax)) (cC (.int 12)))) (cOr (aH (cOp fEq (ak 7) (cC (.int 13)))) (aH (cOp fEq (ak 3) (cC (.int 0))))))) (bb (dF (lC (aH (cOp fGt (ak 5) (cC (.int 1)))) (lC (aH (cOp fLt (cCB fU (ae (ak 4) ax)) (cC (.int 11)))) (aH (cOp fGt (cCB ah (ae (ak 0) (ae (cC (.int 4)) ax))) (cC (.int 0)))))) (bb (dS (cBM bS (ak 4) (ae (cu (ae (cC (.str "leap")) (ae (ak 8) (ae (cC (.int 1)) ax)))) ax)))
  (bJ 5 (cOp oZ (ak 5) (cC (.int 1))))) bU)
  (bb (dS (cBM bS (ak 4) (ae (cu (ae (cC (.str "wait")) ax)) ax)))
  (bJ 5 (cOp oZ (ak 5) (cC (.int 1)))))) (dF (lC (aH (cOp fGt (ak 5) (cC (.int 0)))) (aH (cOp fLt (cCB fU (ae (ak 4) ax)) (cC (.int 12))))) (bb (bJ 9 (cCB aC (ae (ak 0) (ae (ak 1) (ae (cCB ah (ae (ak 0) (ae (ak 5) ax))) (ae (cOp oZ (ak 3) (cC (.int 1))) ax))))))
  (bb (bJ 5 (cOp oZ (cOp oZ (ak 5) (cC (.int 1))) (cCB aJ (ae (ak 9) ax))))
  (bb (bJ 10 (cCB aC (ae (ak 0) (ae (ak 1) (ae (cCB ah (ae (ak 0) (ae (cOp eI (ak 5) (cC (.int 1))) ax))) (ae (cOp oZ (ak 3) (cC (.int 1))) ax))))))
  (bb (bJ 5 (cOp oZ (ak 5) (cCB aJ (ae (ak 10) ax))))
  (dS (cBM bS (ak 4) (ae (cu (ae (cC (.str "try")) (ae (ak 9) (ae (ak 10) ax)))) ax))))))) bU)))))
def dk(ah aR aC aJ:Fn):CS:=
 (bb (bJ 4 (iH ax))
  (bb (bJ 5 (ak 2))
  (bb (lB (cN (ae (cCB ah (ae (ak 0) (ae (cOp eI (cCB Le (ae (cC (.int 12)) (ae (ak 2) ax))) (cC (.int 1))) ax))) ax)) (gNm 6) (dr ah aR aC aJ))
  (dU (cCB fe (ae (ak 4) ax))))))
theorem nu{ah aR aC aJ:Fn}{a0 a1 a2 a3:U}{S:Sto}:fnU 11 4 (dk ah aR aC aJ) [a0,a1,a2,a3] S=((dk ah aR aC aJ) [some a0,some a1,some a2,some a3,none,none,none,none,none,none,none] S).bind kFn:=iR rfl
def gk:CS:=
 (dU (cOp eI (cOp eI (cSl (ak 0) none (some (ak 1))) (cu (ae (ak 2) ax))) (cSl (ak 0) (some (cOp eI (ak 1) (cC (.int 1)))) none)))
theorem xF{a0 a1 a2:U}{S:Sto}:fnU 3 3 (gk ) [a0,a1,a2] S=((gk ) [some a0,some a1,some a2] S).bind kFn:=iR rfl
def gI(fuel:Nat):CS:=
 (bJ 1 (cOp fIx (ak 1) (cC (.int 2))))
def gn(fuel:Nat):CS:=
 (bb (bJ 1 (ak 0))
  (bb (cA (lC (aH (cOp fGe (cOp fIx (ak 1) (cC (.int 1))) (cCB fU (ae (cOp fIx (ak 1) (cC (.int 0))) ax)))) (aH (cOp nq (cOp fIx (ak 1) (cC (.int 2))) (cC .non)))) (gI fuel) fuel)
  (dU (ak 1))))
theorem xG{fuel:Nat}{a0:U}{S:Sto}:fnU 2 1 (gn fuel) [a0] S=((gn fuel) [some a0,none] S).bind kFn:=iR rfl
def cT(ao:Cl):CS:=
 (bb (dF (aH (cOp fGe (cOp fIx (m7 ao 3 (ak 0)) (cC (.int 1))) (cCB fU (ae (cOp fIx (m7 ao 3 (ak 0)) (cC (.int 0))) ax)))) (dU (cC .non)) bU)
  (dU (cOp fIx (cOp fIx (m7 ao 3 (ak 0)) (cC (.int 0))) (cOp fIx (m7 ao 3 (ak 0)) (cC (.int 1))))))
theorem kK{ao:Cl}{a0:U}{S:Sto}:fnU 1 1 (cT ao) [a0] S=((cT ao) [some a0] S).bind kFn:=iR rfl
def cU(aA:Fn)(ao:Cl):CS:=
 (bb (bJ 1 (eZ ao aA (ak 0) ax))
  (dU (uS (cOp fEq (cOp fIx (ak 1) (cC (.int 0))) (cC (.str "look"))) (cOp Ek (cOp fIx (m7 ao 2 (ak 0)) (cOp fIx (ak 1) (cC (.int 2)))) (cC .non)))))
theorem kL{aA:Fn}{ao:Cl}{a0:U}{S:Sto}:fnU 2 1 (cU aA ao) [a0] S=((cU aA ao) [some a0,none] S).bind kFn:=iR rfl
def dA(bR:Fn)(ao:Cl):CS:=
 (jC ao 1 (ak 0) (cCB bR (ae (m7 ao 1 (ak 0)) (ae (ak 1) (ae (ak 2) ax)))))
theorem qk{bR:Fn}{ao:Cl}{a0 a1 a2:U}{S:Sto}:fnU 3 3 (dA bR ao) [a0,a1,a2] S=((dA bR ao) [some a0,some a1,some a2] S).bind kFn:=iR rfl
def bw(ao:Cl):CS:=
 (bb (bJ 2 (m7 ao 3 (ak 0)))
  (dU (cu (ae (cOp fIx (ak 2) (cC (.int 0))) (ae (cOp eI (cOp eI (cOp fIx (ak 2) (cC (.int 1))) (cC (.int 1))) (ak 1)) (ae (cOp fIx (ak 2) (cC (.int 2))) (ae (cOp fIx (ak 2) (cC (.int 3))) ax)))))))
theorem i9{ao:Cl}{a0 a1:U}{S:Sto}:fnU 3 2 (bw ao) [a0,a1] S=((bw ao) [some a0,some a1,none] S).bind kFn:=iR rfl
def bN(aW aE:Fn)(ao:Cl):CS:=
 (jC ao 3 (ak 0) (cCB aW (ae (eZ ao aE (ak 0) (ae (ak 1) ax)) ax)))
theorem jU{aW aE:Fn}{ao:Cl}{a0 a1:U}{S:Sto}:fnU 2 2 (bN aW aE ao) [a0,a1] S=((bN aW aE ao) [some a0,some a1] S).bind kFn:=iR rfl
def dB(aT aA aF:Fn)(ao:Cl):CS:=
 (bb (dS (eZ ao aT (ak 0) (ae (cOp fIx (eZ ao aA (ak 0) ax) (cC (.int 1))) (ae (ak 1) ax))))
  (dS (eZ ao aF (ak 0) (ae (cC (.int 0)) ax))))
theorem ql{aT aA aF:Fn}{ao:Cl}{a0 a1:U}{S:Sto}:fnU 2 2 (dB aT aA aF ao) [a0,a1] S=((dB aT aA aF ao) [some a0,some a1] S).bind kFn:=iR rfl
def bO(aW aE:Fn)(ao:Cl):CS:=
 (bb (bJ 3 (eZ ao aE (ak 0) (ae (cC (.int 0)) ax)))
  (bb (bJ 4 (cCB aW (ae (cu (ae (ak 2) (ae (cC (.int 0)) (ae (ak 3) (ae (cOp fIx (ak 3) (cC (.int 3))) ax))))) ax)))
  (jC ao 3 (ak 0) (cCB aW (ae (cu (ae (ak 1) (ae (cC (.int 0)) (ae (ak 3) (ae (cu (ae (m7 ao 1 (ak 0)) (ae (m7 ao 2 (ak 0)) (ae (ak 4) ax)))) ax))))) ax)))))
theorem jV{aW aE:Fn}{ao:Cl}{a0 a1 a2:U}{S:Sto}:fnU 5 3 (bO aW aE ao) [a0,a1,a2] S=((bO aW aE ao) [some a0,some a1,some a2,none,none] S).bind kFn:=iR rfl
def bx(ao:Cl):CS:=
 (bb (bJ 1 (cOp fIx (m7 ao 3 (ak 0)) (cC (.int 3))))
  (bb (dF (aH (cOp Ek (ak 1) (cC .non))) (dU (cC (.bl false))) bU)
  (bb (jC ao 1 (ak 0) (cOp fIx (ak 1) (cC (.int 0))))
  (bb (jC ao 2 (ak 0) (cOp fIx (ak 1) (cC (.int 1))))
  (bb (jC ao 3 (ak 0) (cOp fIx (ak 1) (cC (.int 2))))
  (dU (cC (.bl true))))))))
theorem f9{ao:Cl}{a0:U}{S:Sto}:fnU 2 1 (bx ao) [a0] S=((bx ao) [some a0,none] S).bind kFn:=iR rfl
def aS(bR aA bt bu aT aF:Fn)(ao:Cl):CS:=
 (bb (bJ 1 (eZ ao aA (ak 0) ax))
  (bb (bJ 2 (cOp fIx (ak 1) (cC (.int 0))))
  (bb (dF (aH (cOp fEq (ak 2) (cC (.str "wait")))) (dU (eZ ao bt (ak 0) ax)) bU)
  (bb (dF (aH (cOp fEq (ak 2) (cC (.str "try")))) (bb (dS (eZ ao bu (ak 0) (ae (cOp fIx (ak 1) (cC (.int 1))) (ae (cOp fIx (ak 1) (cC (.int 2))) ax))))
  (dU (cC (.bl true)))) bU)
  (bb (bJ 3 (cC (.int 0)))
  (bb (dF (aH (cOp fEq (ak 2) (cC (.str "look")))) (dS (eZ ao aT (ak 0) (ae (cOp fIx (ak 1) (cC (.int 1))) (ae (cOp fIx (m7 ao 2 (ak 0)) (cOp fIx (ak 1) (cC (.int 2)))) ax)))) (dF (aH (cOp fEq (ak 2) (cC (.str "put")))) (jC ao 2 (ak 0) (cCB bR (ae (m7 ao 2 (ak 0)) (ae (cOp fIx (ak 1) (cC (.int 1))) (ae (cOp fIx (m7 ao 1 (ak 0)) (cOp fIx (ak 1) (cC (.int 2)))) ax))))) (dF (aH (cOp fEq (ak 2) (cC (.str "set")))) (dS (eZ ao aT (ak 0) (ae (cOp fIx (ak 1) (cC (.int 1))) (ae (cOp fIx (ak 1) (cC (.int 2))) ax)))) (dF (aH (cOp fEq (ak 2) (cC (.str "plus")))) (dS (eZ ao aT (ak 0) (ae (cOp fIx (ak 1) (cC (.int 1))) (ae (cOp o3 (cOp eI (cOp fIx (m7 ao 1 (ak 0)) (cOp fIx (ak 1) (cC (.int 1)))) (cOp fIx (m7 ao 1 (ak 0)) (cOp fIx (ak 1) (cC (.int 2))))) (m7 ao 0 (ak 0))) ax)))) (dF (aH (cOp fEq (cOp fIx (m7 ao 1 (ak 0)) (cOp fIx (ak 1) (cC (.int 1)))) (cC (.int 0)))) (bJ 3 (cOp fIx (ak 1) (cC (.int 2)))) bU)))))
  (bb (dS (eZ ao aF (ak 0) (ae (ak 3) ax)))
  (dU (cC (.bl true))))))))))
theorem fA{bR aA bt bu aT aF:Fn}{ao:Cl}{a0:U}{S:Sto}:fnU 4 1 (aS bR aA bt bu aT aF ao) [a0] S=((aS bR aA bt bu aT aF ao) [some a0,none,none,none] S).bind kFn:=iR rfl
def bM(ao:Cl):CS:=
 (dU (jW (mJ (m7 ao 2 (ak 0))) (gTp [0,1]) (aH (cOp nq (ak 1) (cC .non))) (cu (ae (ak 0) (ae (ak 1) ax))) 2 []))
theorem jT{ao:Cl}{a0:U}{S:Sto}:fnU 1 1 (bM ao) [a0] S=((bM ao) [some a0] S).bind kFn:=iR rfl
def dz(aW:Fn)(ao:Cl):CS:=
 (bb (jC ao 0 (ak 0) (cOp fIx (ak 1) (cC (.int 1))))
  (bb (jC ao 1 (ak 0) (cu (ae (cC (.int 0)) (ae (cC (.int 0)) (ae (cC (.int 0)) (ae (cC (.int 0)) ax))))))
  (bb (jC ao 2 (ak 0) (cOp uJ (cu (ae (cC .non) ax)) (cOp fIx (ak 1) (cC (.int 0)))))
  (jC ao 3 (ak 0) (cCB aW (ae (cu (ae (ak 2) (ae (cC (.int 0)) (ae (cC .non) (ae (cC .non) ax))))) ax))))))
theorem qj{aW:Fn}{ao:Cl}{a0 a1 a2:U}{S:Sto}:fnU 3 3 (dz aW ao) [a0,a1,a2] S=((dz aW ao) [some a0,some a1,some a2] S).bind kFn:=iR rfl
def bq(aA bY bX bp:Fn)(ao:Cl)(fuel:Nat):CS:=
 (dF (aH (eZ ao bY (ak 0) ax)) (bb (bJ 3 (cOp fIx (eZ ao aA (ak 0) ax) (cC (.int 2))))
  (bb (jB (ak 2) (ak 3) (cC (.bl true)))
  (dS (eZ ao bX (ak 0) (ae (cOp fIx (ak 1) (ak 3)) ax))))) (dF (HQ (aH (eZ ao bp (ak 0) ax))) (dU (cC (.bl false))) bU))
def cf(aA bY bX bp:Fn)(ao:Cl)(fuel:Nat):CS:=
 (bb (cA (aH (cOp nq (eZ ao aA (ak 0) ax) (cC .non))) (bq aA bY bX bp ao fuel) fuel)
  (dU (cC (.bl true))))
theorem nr{aA bY bX bp:Fn}{ao:Cl}{fuel:Nat}{a0 a1 a2:U}{S:Sto}:fnU 4 3 (cf aA bY bX bp ao fuel) [a0,a1,a2] S=((cf aA bY bX bp ao fuel) [some a0,some a1,some a2,none] S).bind kFn:=iR rfl
def jD(bB aY bW:Fn)(ao:Cl):CS:=
 (jB (ak 5) (ak 6) (ak 7))
def jb(bB aY bW:Fn)(ao:Cl):CS:=
 (bb (bJ 3 (cCB (rG ao bW) (ae (ak 0) (ae (ak 1) ax))))
  (bb (bJ 4 Az)
  (bb (dF (HQ (aH (cCB bB (ae (ak 3) (ae (ak 2) (ae (ak 4) ax)))))) (dU (cu (ae (cC (.str "waits")) (ae (cCB jR (ae (ak 4) ax)) ax)))) bU)
  (bb (bJ 5 (cCB rH (ae (ak 2) ax)))
  (bb (lB (iTp (eZ ao aY (ak 3) ax)) (gTp [6,7]) (jD bB aY bW ao))
  (dU (cu (ae (cC (.str "done")) (ae (cCB fe (ae (ak 5) ax)) (ae (m7 ao 1 (ak 3)) ax))))))))))
theorem D0{bB aY bW:Fn}{ao:Cl}{a0 a1 a2:U}{S:Sto}:fnU 8 3 (jb bB aY bW ao) [a0,a1,a2] S=((jb bB aY bW ao) [some a0,some a1,some a2,none,none,none,none,none] S).bind kFn:=iR rfl
def eA(cE:Fn):CS:=
 (bb (bJ 7 (cCB cE (ae (ak 0) (ae (cOp fIx (ak 1) (ak 6)) (ae (ak 4) ax)))))
  (bb (dF (aH (cOp fEq (cOp fIx (ak 7) (cC (.int 0))) (cC (.str "waits")))) (dU (cu (ae (cC (.str "waits")) (ae (ak 5) (ae (cOp fIx (ak 7) (cC (.int 1))) ax))))) bU)
  (bJ 4 (cOp fIx (ak 7) (cC (.int 1))))))
def iE(cE:Fn):CS:=
 (bb (bJ 4 (ak 2))
  (bb (lB (mJ (ak 3)) (gTp [5,6]) (eA cE))
  (dU (cu (ae (cC (.str "done")) (ae (ak 4) ax))))))
theorem An{cE:Fn}{a0 a1 a2 a3:U}{S:Sto}:fnU 8 4 (iE cE) [a0,a1,a2,a3] S=((iE cE) [some a0,some a1,some a2,some a3,none,none,none,none] S).bind kFn:=iR rfl
end OQ
local macro_rules
 | `(tactic| rwa $s:rwRuleSeq) => do
  let ts : Array (Lean.TSyntax `term) := s.raw[1].getSepArgs.map fun r => ⟨r[1]⟩
  let us : Array (Lean.TSyntax `term) := (("EA AH x_c Je By Bx AI va JV Fg Ff Mh Jd Jc Jf EU Fe BQ BP Jb ES ER ET Bz BA vc qF qE IQ EE Jo EX Ik yC Jv E3 EF yB AJ EM EL EK E8 BL Bw EN BK AN E5 Mt Jz Jy qC EJ JT Fd Fc JB JA Fi Fh Mb IX IW IV IU Jq Jr Js Jt IT EG EH AL AM EZ EY JW IS Mr Ms Ls Mu JG Ji JF Jh JH Jj JD JC at0 at1 at2 at3 ix0 ix1 ix2 Option.bind_some List.getElem?_cons_zero List.getElem?_cons_succ List.set_cons_zero List.set_cons_succ List.length_cons List.length_nil List.map_cons List.map_nil decide_true decide_false Bool.not_true Bool.not_false JE E7 E6 Mc I0 IZ IY EW BD BC BB BE Jw Jx Jp E1 Mx JS JR JQ JU Mw JM JL JK JJ JI E9 Mg x_p Mf Me Md Fb BO BN EB EC ED BF BG BH E4 ga ga0 gs gs0 Option.join_some Nat.add_zero List.cons_append List.nil_append List.append_assoc" : String).splitOn " ").toArray.map fun x => ⟨(Lean.mkIdent ((x.splitOn ".").foldl Lean.Name.str Lean.Name.anonymous)).raw⟩
  let vs:=ts++us
  `(tactic| simp only [$[$vs:term],*])
namespace OQ
open PySem PySem.Spec PyProof.Rows L2 OG OP
def pen(a c:Int):O:=.lst [.ref 0,.int a,.int c]
section
variable{S:Sto}{j k:Int}
theorem vb(h:-(2^64)<k/\k<2^64):mN (.int j) (.int k) S=some (.int (j*k),S):=EV (.inr h)
theorem o7(h:-(2^64)<j/\j<2^64):mN (.int j) (.int k) S=some (.int (j*k),S):=EV (.inl h)
theorem Mq:mN (.int j) (.int 3) S=some (.int (j*3),S):=vb (by decide)
theorem Jm:mN (.int 97) (.int k) S=some (.int (97*k),S):=o7 (by decide)
theorem Jn:mN (.int 53) (.int k) S=some (.int (53*k),S):=o7 (by decide)
theorem Mp:mN (.int j) (.int 48271) S=some (.int (j*48271),S):=vb (by decide)
theorem Mo:mN (.int 69621) (.int k) S=some (.int (69621*k),S):=o7 (by decide)
theorem Mn:mN (.int j) (.int 998244353) S=some (.int (j*998244353),S):=vb (by decide)
theorem Jl:mN (.int (j % 2147483647)) (.int k) S=some (.int (j % 2147483647*k),S):=o7 (by have:=Int.emod_nonneg j (show(2147483647:Int)≠0 by decide);have:=Int.emod_lt_of_pos j (show(0:Int)<2147483647 by decide);omega)
theorem Jk:mN (.int (j % 1000000007)) (.int k) S=some (.int (j % 1000000007*k),S):=o7 (by have:=Int.emod_nonneg j (show(1000000007:Int)≠0 by decide);have:=Int.emod_lt_of_pos j (show(0:Int)<1000000007 by decide);omega)
theorem Mm:o3 (.int j) (.int 998244353) S=some (.int (j % 998244353),S):=qD (by decide)
theorem Ml:o3 (.int j) (.int 2147483647) S=some (.int (j % 2147483647),S):=qD (by decide)
theorem Mj:o3 (.int j) (.int 1000000007) S=some (.int (j % 1000000007),S):=qD (by decide)
theorem Mi:o3 (.int j) (.int 1000003) S=some (.int (j % 1000003),S):=qD (by decide)
theorem JO:Ah (.int j) (.int 16) S=some (.int (j / 16),S):=BM ⟨by decide,by decide +kernel⟩
theorem EO:Ej (.int 10) (.int 18) S=some (.int 1000000000000000000,S):=Ja (j:=10) (k:=18) ⟨by decide,by decide,by decide⟩
theorem JN:Ah (.int j) (.int 1000000000000000000) S=some (.int (j / 1000000000000000000),S):=BM ⟨by decide,by decide +kernel⟩
theorem atU{ns:List Int}{k:Int}(h0:0<=k)(h1:k<(ns.length:Int)):∃v:Int,atI (ns.map U.int) k=some (.int v):=by
 have hk:k.toNat<ns.length:=by omega
 exact⟨ns[k.toNat],kN h0 (by rw[List.getElem?_map,List.getElem?_eq_getElem hk];rfl)⟩
end
def dQ:Fn:=fnU 8 2 d9
theorem bF(ns:List Int)(T:Sto){a c m:Int}(ha:0<=a)(hc:0<=c)(hm:0<m)(hb:m.natAbs.log2<9000) :
  ∃f a' c',dQ [.ref 1,.int m] (.lst (ns.map U.int)::pen a c::T)=some (.int f,.lst (ns.map U.int)::pen a' c'::T)/\0<=f/\f<m/\0<=a'/\0<=c':=by
 unfold dQ
 rw[rL]
 have dm:∀{j:Int} {S:Sto},Ah (.int j) (.int m) S=some (.int (j / m),S):=BM ⟨hm,hb⟩
 have mm:∀{j:Int} {S:Sto},o3 (.int j) (.int m) S=some (.int (j % m),S):=qD hm
 have fin:∀{a' c':Int},0<=a'->0<=c'->0<=c' % m/\c' % m<m/\0<=a'/\0<=c' / m:=fun h1 h2=>⟨Int.emod_nonneg _ (by omega),Int.emod_lt_of_pos _ hm,h1,Int.ediv_nonneg h2 (by omega)⟩
 by_cases c0:c=0
 ·subst c0
  have cell : ∃ z : Int, (dF (aH (cOp fLt (ak 2) (cCB fU (ae (cOp fIx (ak 0) (cC (U.int 0))) ax))))
              (bJ 3 (cOp fIx (cOp fIx (ak 0) (cC (U.int 0))) (ak 2)))
              (dF
               (aH (cOp fGt (cCB fU (ae (cOp fIx (ak 0) (cC (U.int 0))) ax)) (cC (U.int 0))))
               (bJ 3
                (cOp eI
                 (cOp o3
                  (cOp fIx (cOp fIx (ak 0) (cC (U.int 0)))
                   (cOp o3 (cOp mN (ak 2) (cC (U.int 3)))
                    (cCB fU (ae (cOp fIx (ak 0) (cC (U.int 0))) ax))))
                  (cC (U.int 1000003)))
                 (cOp mN (cC (U.int 97)) (ak 2))))
               bU)) [some (.ref 1),some (.int m),some (.int a),some (.int 0),none,none,none,none] (O.lst (ns.map U.int)::.lst [.ref 0,.int (a+1),.int 0]::T)=some (.nx,[some (.ref 1),some (.int m),some (.int a),some (.int z),none,none,none,none],O.lst (ns.map U.int)::.lst [.ref 0,.int (a+1),.int 0]::T):=by
   by_cases h1:a<(ns.length:Int)
   ·obtain⟨z,hz⟩:=atU ha h1
    exact⟨z,by rwa[hz,h1,List.length_map]⟩
   ·by_cases h2:(0:Int)<(ns.length:Int)
    ·obtain⟨z,hz⟩:=atU (ns:=ns) (k:=a*3 % (ns.length:Int)) (Int.emod_nonneg _ (by omega)) (Int.emod_lt_of_pos _ h2)
     exact⟨z % 1000003+97*a,by rwa[h1,h2,Mq,qD h2,hz,Mi,Jm,List.length_map]⟩
    ·exact⟨0,by rwa[h1,h2,List.length_map]⟩
  obtain⟨z,hz⟩:=cell
  rwa[d9,pen,hz,Mm,Ml,Mj,Jn,Mp,Mo,Mn,Jl,Jk,JO,EO]
  by_cases h3:(1000000000000000000:Int)<=z
  ·rwa[h3,EO,JN,mm,dm]
   exact⟨_,_,_,rfl,fin (by omega) (Int.ediv_nonneg (by omega) (by omega))⟩
  ·rwa[h3,mm,dm]
   refine⟨_,_,_,rfl,fin (by omega) ?_⟩
   exact Int.add_nonneg (Int.ediv_nonneg (Int.add_nonneg (Int.mul_nonneg (Int.emod_nonneg _ (by decide)) (by decide)) (Int.emod_nonneg _ (by decide))) (by decide)) (by decide)
 ·rwa[d9,pen,c0,mm,dm]
  exact⟨_,_,_,rfl,fin ha hc⟩
theorem l9{m:Int}(h0:0<=m)(h:m<2^60):m.natAbs.log2<9000:=wV h0 h
abbrev scr(ns:List Int):O:=.lst (ns.map U.int)
theorem Kd{f g:Int}(g0:0<=g)(g1:g<999)(f0:0<=f)(f1:f<5):∃v:Int,atI [U.int 2,U.int 3,U.int 5,U.int 10,U.int (2+g)] f=some (.int v)/\2<=v/\v<=1000:=by
 have:f=0\/f=1\/f=2\/f=3\/f=4:=by omega
 rcases this with rfl|rfl|rfl|rfl|rfl
 ·exact⟨2,rfl,by omega,by omega⟩
 ·exact⟨3,rfl,by omega,by omega⟩
 ·exact⟨5,rfl,by omega,by omega⟩
 ·exact⟨10,rfl,by omega,by omega⟩
 ·exact⟨2+g,rfl,by omega,by omega⟩
def jZ:Fn:=fnU 1 1 (eQ dQ)
theorem yP(ns:List Int)(T:Sto){a c:Int}(ha:0<=a)(hc:0<=c) :
  ∃n w a' c' G,jZ [.ref 1] (scr ns::pen a c::T)=some (.tup [.int n,.int w],scr ns::pen a' c'::(T++G))/\1<=n/\n<=6/\2<=w/\w<=1000/\0<=a'/\0<=c':=by
 unfold jZ
 rw[qh]
 obtain⟨f1,a1,c1,h1,p1,q1,ha1,hc1⟩:=bF ns T (m:=6) ha hc (by decide) (by decide +kernel)
 obtain⟨f2,a2,c2,h2,p2,q2,ha2,hc2⟩:=bF ns T (m:=999) ha1 hc1 (by decide) (by decide +kernel)
 obtain⟨f3,a3,c3,h3,p3,q3,ha3,hc3⟩:=bF ns (T++[.lst [.int 2,.int 3,.int 5,.int 10,.int (2+f2)]]) (m:=5) ha2 hc2 (by decide) (by decide +kernel)
 obtain⟨v,hv,v0,v1⟩:=Kd p2 q2 p3 q3
 refine⟨1+f1,v,a3,c3,[.lst [.int 2,.int 3,.int 5,.int 10,.int (2+f2)]],?_,by omega,by omega,v0,v1,ha3,hc3⟩
 rwa[eQ,h1,h2,h3,hv]
inductive fD where
 |look (h b:Int)|put (b h:Int)|set (h v:Int)|plus (h g:Int)|leap (h k:Int)|wait
def fD.u:fD->U
 |.look h b=>.tup [.str "look",.int h,.int b]
 |.put b h=>.tup [.str "put",.int b,.int h]
 |.set h v=>.tup [.str "set",.int h,.int v]
 |.plus h g=>.tup [.str "plus",.int h,.int g]
 |.leap h k=>.tup [.str "leap",.int h,.int k]
 |.wait=>.tup [.str "wait"]
def fD.ok(n w:Int):fD->Prop
 |.look h b=>0<=h/\h<4/\0<=b/\b<n
 |.put b h=>0<=h/\h<4/\0<=b/\b<n
 |.set h v=>0<=h/\h<4/\0<=v/\v<w
 |.plus h g=>0<=h/\h<4/\0<=g/\g<4
 |.leap h k=>0<=h/\h<4/\1<=k/\k<=12
 |.wait=>True
def j2:Fn:=fnU 4 4 (aZ dQ)
theorem zw(ns:List Int)(T:Sto){a c n w way hand:Int}(ha:0<=a)(hc:0<=c)(n0:1<=n)(n1:n<=6)(w0:2<=w)(w1:w<=1000)(y0:0<=way)(h0:0<=hand)(h1:hand<4) :
  ∃(d:fD) (a' c':Int) (G:Sto),j2 [.ref 1,.tup [.int n,.int w],.int way,.int hand] (scr ns::pen a c::T)=some (d.u,scr ns::pen a' c'::(T++G))/\d.ok n w/\0<=a'/\0<=c':=by
 unfold j2
 rw[jS]
 by_cases c4:way<4
 ·obtain⟨f,a1,c1,e1,p1,q1,ha1,hc1⟩:=bF ns T (m:=n) ha hc (by omega) (l9 (by omega) (by omega))
  exact⟨.look hand f,a1,c1,[],by rwa[aZ,c4,e1,fD.u,List.append_nil],⟨h0,h1,p1,q1⟩,ha1,hc1⟩
 by_cases c7:way<7
 ·obtain⟨f,a1,c1,e1,p1,q1,ha1,hc1⟩:=bF ns T (m:=n) ha hc (by omega) (l9 (by omega) (by omega))
  exact⟨.put f hand,a1,c1,[],by rwa[aZ,c4,c7,e1,fD.u,List.append_nil],⟨h0,h1,p1,q1⟩,ha1,hc1⟩
 by_cases c9:way<9
 ·obtain⟨f,a1,c1,e1,p1,q1,ha1,hc1⟩:=bF ns T (m:=w) ha hc (by omega) (l9 (by omega) (by omega))
  exact⟨.set hand f,a1,c1,[],by rwa[aZ,c4,c7,c9,e1,fD.u,List.append_nil],⟨h0,h1,p1,q1⟩,ha1,hc1⟩
 by_cases c11:way<11
 ·obtain⟨f,a1,c1,e1,p1,q1,ha1,hc1⟩:=bF ns T (m:=4) ha hc (by omega) (l9 (by omega) (by omega))
  exact⟨.plus hand f,a1,c1,[],by rwa[aZ,c4,c7,c9,c11,e1,fD.u,List.append_nil],⟨h0,h1,p1,q1⟩,ha1,hc1⟩
 obtain⟨f,a1,c1,e1,p1,q1,ha1,hc1⟩:=bF ns (T++[.lst [.int 2,.int 12]]) (m:=2) ha hc (by decide) (by decide +kernel)
 have key:∃z:Int,atI [U.int 2,U.int 12] f=some (.int z)/\0<z/\z<=12:=by
  have:f=0\/f=1:=by omega
  rcases this with rfl|rfl
  ·exact⟨2,rfl,by omega,by omega⟩
  ·exact⟨12,rfl,by omega,by omega⟩
 obtain⟨z,hz,z0,z1⟩:=key
 obtain⟨g,a2,c2,e2,p2,q2,ha2,hc2⟩:=bF ns (T++[.lst [.int 2,.int 12]]) (m:=z) ha1 hc1 z0 (l9 (by omega) (by omega))
 exact⟨.leap hand (1+g),a2,c2,[.lst [.int 2,.int 12]],by rwa[aZ,c4,c7,c9,c11,e1,e2,hz,fD.u],⟨h0,h1,by omega,by omega⟩,ha2,hc2⟩
def ue(fd fs:Fn):Fn:=fnU 11 4 (dk dQ j2 fd fs)
theorem ke:decide (("wait":Str)="leap")=false:=by decide +kernel
theorem lH:decide (("wait":Str)="try")=false:=by decide +kernel
theorem j9:decide (("wait":Str)="look")=false:=by decide +kernel
theorem lJ:decide (("wait":Str)="put")=false:=by decide +kernel
theorem lI:decide (("wait":Str)="set")=false:=by decide +kernel
theorem j8:decide (("wait":Str)="plus")=false:=by decide +kernel
theorem ko:decide (("leap":Str)="wait")=false:=by decide +kernel
theorem l7:decide (("leap":Str)="try")=false:=by decide +kernel
theorem kr:decide (("leap":Str)="look")=false:=by decide +kernel
theorem ma:decide (("leap":Str)="put")=false:=by decide +kernel
theorem l8:decide (("leap":Str)="set")=false:=by decide +kernel
theorem kq:decide (("leap":Str)="plus")=false:=by decide +kernel
theorem lK:decide (("try":Str)="wait")=false:=by decide +kernel
theorem lN:decide (("try":Str)="leap")=false:=by decide +kernel
theorem lM:decide (("try":Str)="look")=false:=by decide +kernel
theorem nC:decide (("try":Str)="put")=false:=by decide +kernel
theorem nB:decide (("try":Str)="set")=false:=by decide +kernel
theorem lL:decide (("try":Str)="plus")=false:=by decide +kernel
theorem ki:decide (("look":Str)="wait")=false:=by decide +kernel
theorem km:decide (("look":Str)="leap")=false:=by decide +kernel
theorem iT:decide (("look":Str)="try")=false:=by decide +kernel
theorem l6:decide (("look":Str)="put")=false:=by decide +kernel
theorem lZ:decide (("look":Str)="set")=false:=by decide +kernel
theorem kj:decide (("look":Str)="plus")=false:=by decide +kernel
theorem lS:decide (("put":Str)="wait")=false:=by decide +kernel
theorem lV:decide (("put":Str)="leap")=false:=by decide +kernel
theorem jH:decide (("put":Str)="try")=false:=by decide +kernel
theorem lU:decide (("put":Str)="look")=false:=by decide +kernel
theorem nE:decide (("put":Str)="set")=false:=by decide +kernel
theorem lT:decide (("put":Str)="plus")=false:=by decide +kernel
theorem lO:decide (("set":Str)="wait")=false:=by decide +kernel
theorem lR:decide (("set":Str)="leap")=false:=by decide +kernel
theorem jG:decide (("set":Str)="try")=false:=by decide +kernel
theorem lQ:decide (("set":Str)="look")=false:=by decide +kernel
theorem nD:decide (("set":Str)="put")=false:=by decide +kernel
theorem lP:decide (("set":Str)="plus")=false:=by decide +kernel
theorem kf:decide (("plus":Str)="wait")=false:=by decide +kernel
theorem kh:decide (("plus":Str)="leap")=false:=by decide +kernel
theorem iS:decide (("plus":Str)="try")=false:=by decide +kernel
theorem kg:decide (("plus":Str)="look")=false:=by decide +kernel
theorem lX:decide (("plus":Str)="put")=false:=by decide +kernel
theorem lW:decide (("plus":Str)="set")=false:=by decide +kernel
theorem SNX:type_of% @ke/\type_of% @lH/\type_of% @j9/\type_of% @lJ/\type_of% @lI/\type_of% @j8/\type_of% @ko/\type_of% @l7/\type_of% @kr/\type_of% @ma/\type_of% @l8/\type_of% @kq/\type_of% @lK/\type_of% @lN/\type_of% @lM/\type_of% @nC/\type_of% @nB/\type_of% @lL/\type_of% @ki/\type_of% @km/\type_of% @iT/\type_of% @l6/\type_of% @lZ/\type_of% @kj/\type_of% @lS/\type_of% @lV/\type_of% @jH/\type_of% @lU/\type_of% @nE/\type_of% @lT/\type_of% @lO/\type_of% @lR/\type_of% @jG/\type_of% @lQ/\type_of% @nD/\type_of% @lP/\type_of% @kf/\type_of% @kh/\type_of% @iS/\type_of% @kg/\type_of% @lX/\type_of% @lW:=⟨@ke,@lH,@j9,@lJ,@lI,@j8,@ko,@l7,@kr,@ma,@l8,@kq,@lK,@lN,@lM,@nC,@nB,@lL,@ki,@km,@iT,@l6,@lZ,@kj,@lS,@lV,@jH,@lU,@nE,@lT,@lO,@lR,@jG,@lQ,@nD,@lP,@kf,@kh,@iS,@kg,@lX,@lW⟩
structure M where
 hs:List Int
 ps:List (Int×Int)
 lk:List Int
def uc(lk:List Int)(b:Int):List Int:=if b∈lk then lk else lk++[b]
def uB(first:List Int)(m:M)(b:Int):Int:=(cw m.ps b).getD (first.getD b.toNat 0)
def step(w:Int)(first:List Int)(m:M):fD->M
 |.look h b=>⟨m.hs.set h.toNat (uB first m b),m.ps,if (cw m.ps b).isSome then m.lk else uc m.lk b⟩
 |.put b h=>⟨m.hs,lz m.ps b (m.hs.getD h.toNat 0),m.lk⟩
 |.set h v=>⟨m.hs.set h.toNat v,m.ps,m.lk⟩
 |.plus h g=>⟨m.hs.set h.toNat ((m.hs.getD h.toNat 0+m.hs.getD g.toNat 0) % w),m.ps,m.lk⟩
 |.leap _ _=>m
 |.wait=>m
def uM(lk:List Int):List (Key×U):=lk.map fun b=>(.inl b,.bl true)
theorem zm(b:Int)(lk:List Int):lz (uM lk) (.inl b) (.bl true)=uM (uc lk b):=by
 have ha:((uM lk).any fun kv=>decide (kv.1=Sum.inl b))=decide (b∈lk):=by
  unfold uM
  induction lk with
  |nil=>rfl
  |cons k r ih=>
   simp only[List.map_cons,List.any_cons,ih]
   by_cases e:k=b
   ·subst e;simp
   ·rw[decide_eq_false (fun z:(Sum.inl k:Key)=Sum.inl b=>e (Sum.inl.inj z))]
    simp[Ne.symm e]
 unfold lz uc
 rw[ha]
 by_cases c:b∈lk
 ·rw[if_pos (decide_eq_true c),if_pos c]
  unfold uM
  rw[List.map_map]
  refine List.map_congr_left fun p _=>?_
  simp only[Function.comp]
  split<;>rfl
 ·rw[if_neg (by simpa using c),if_neg c]
  simp[uM]
theorem at4{hs:List Int}{h:Int}(l:hs.length=4)(h0:0<=h)(h1:h<4):atI (hs.map U.int) h=some (.int (hs.getD h.toNat 0)):=by
 have hk:h.toNat<hs.length:=by omega
 refine kN h0 ?_
 rw[List.getElem?_map,List.getElem?_eq_getElem hk,List.getD_eq_getElem?_getD,List.getElem?_eq_getElem hk];rfl
theorem atF{first:List Int}{b n:Int}(l:first.length=n.toNat)(h0:0<=b)(h1:b<n):atI (first.map U.int) b=some (.int (first.getD b.toNat 0)):=by
 have hk:b.toNat<first.length:=by omega
 refine kN h0 ?_
 rw[List.getElem?_map,List.getElem?_eq_getElem hk,List.getD_eq_getElem?_getD,List.getElem?_eq_getElem hk];rfl
theorem map_set{hs:List Int}{k:Nat}{v:Int}:(hs.map U.int).set k (.int v)=(hs.set k v).map U.int:=by rw[List.map_set]
inductive DF(α:Type) where
 |pl (d:fD)|tr (a b:List α)
def DF.u{α:Type}(f:α->U):DF α->U
 |.pl d=>d.u
 |.tr a b=>.tup [.str "try",.tup (a.map f),.tup (b.map f)]
section
variable{α:Type}(w:Int)(first:List Int)(rn:List α->M->Bool×M)
def Cu(a b:List α)(m:M):Bool×M:=match rn a m with
 |(true,m')=>(true,m')
 |(false,m')=>rn b ⟨m.hs,m.ps,m'.lk⟩
def eU:List (DF α)->Nat->M->Bool×M
 |[],_,m=>(true,m)
 |_::r,k+1,m=>eU r k m
 |.tr a b::r,0,m=>match Cu rn a b m with
  |(true,m')=>eU r 0 m'
  |(false,m')=>(false,m')
 |.pl .wait::_,0,m=>(false,m)
 |.pl (.leap h k)::r,0,m=>eU r (if m.hs.getD h.toNat 0=0 then k.toNat else 0) m
 |.pl (.look h b)::r,0,m=>eU r 0 (step w first m (.look h b))
 |.pl (.put h b)::r,0,m=>eU r 0 (step w first m (.put h b))
 |.pl (.set h b)::r,0,m=>eU r 0 (step w first m (.set h b))
 |.pl (.plus h b)::r,0,m=>eU r 0 (step w first m (.plus h b))
theorem pK:∀(ds:List (DF α)) (k:Nat) (m:M),eU w first rn ds k m=eU w first rn (ds.drop k) 0 m
 |[],k,m=>by simp[eU]
 |d::r,0,m=>by simp
 |d::r,k+1,m=>by rw[eU,pK r k m];rfl
end
def Dl:Nat->Type
 |0=>DF Empty
 |j+1=>DF (Dl j)
def Dl.u:(j:Nat)->Dl j->U
 |0,d=>DF.u (fun x=>nomatch x) d
 |j+1,d=>DF.u (Dl.u j) d
def DF.ok{α:Type}(n w:Int)(k:List α->Prop):DF α->Prop
 |.pl d=>d.ok n w
 |.tr a b=>k a/\k b
structure Wf(n:Int)(m:M):Prop where
 h4:m.hs.length=4
 pk:(m.ps.map (·.1)).Nodup
 pb:∀k∈m.ps.map (·.1),0<=k/\k<n
 lk:m.lk.Nodup
 lb:∀k∈m.lk,0<=k/\k<n
theorem few:∀(n:Nat) (l:List Int),l.Nodup->(∀k∈l,0<=k/\k<n)->l.length<=n
 |0,l,_,h=>by
  cases l with
  |nil=>simp
  |cons a r=>have:=h a (by simp);omega
 |n+1,l,nd,h=>by
  have ih:=few n (l.erase (n:Int)) (nd.erase _) fun k hk=>by
   have h1:=h k (List.mem_of_mem_erase hk)
   have h2:k≠(n:Int):=fun z=>by subst z;exact(nd.not_mem_erase) hk
   omega
  rw[List.length_erase]at ih
  split at ih<;>omega
theorem Wf.few{n:Int}{m:M}(h:Wf n m)(n0:0<=n)(n1:n<=6):m.ps.length<=6/\m.lk.length<=6:=by
 have a:=OQ.few n.toNat _ h.pk fun k hk=>by have:=h.pb k hk;omega
 have b:=OQ.few n.toNat _ h.lk fun k hk=>by have:=h.lb k hk;omega
 rw[List.length_map]at a
 omega
theorem yt{l:List Int}{b:Int}(h:l.Nodup):(uc l b).Nodup:=by
 unfold uc
 split
 ·exact h
 ·rename_i c
  rw[List.nodup_append]
  exact⟨h,by simp,fun x hx y hy z=>by simp at hy;subst hy;subst z;exact c hx⟩
theorem ub{l:List Int}{b k:Int}(h:k∈uc l b):k∈l\/k=b:=by
 unfold uc at h
 split at h
 ·exact .inl h
 ·simpa using h
theorem pO(b v:Int)(ps:List (Int×Int)):(lz ps b v).map (·.1)=uc (ps.map (·.1)) b:=by
 have ha:(ps.any fun kv=>decide (kv.1=b))=decide (b∈ps.map (·.1)):=by
  induction ps with
  |nil=>rfl
  |cons p r ih=>
   simp only[List.any_cons,ih,List.map_cons]
   by_cases e:p.1=b
   ·simp[e]
   ·simp[e,Ne.symm e]
 unfold lz uc
 rw[ha]
 by_cases c:b∈ps.map (·.1)
 ·rw[if_pos (decide_eq_true c),if_pos c,List.map_map]
  refine List.map_congr_left fun p _=>?_
  simp only[Function.comp]
  split<;>rfl
 ·rw[if_neg (by simpa using c),if_neg c]
  simp
theorem Cy{n w:Int}{first:List Int}{m:M}{d:fD}(h:Wf n m)(od:d.ok n w):Wf n (step w first m d):=by
 cases d with
 |look g b=>
  obtain⟨_,_,b0,b1⟩:=od
  refine⟨by simpa [step] using h.h4,h.pk,h.pb,?_,?_⟩
  ·simp only[step];split
   ·exact h.lk
   ·exact yt h.lk
  ·simp only[step];split
   ·exact h.lb
   ·exact fun k hk=>(ub hk).elim (h.lb k) fun e=>by subst e;exact⟨b0,b1⟩
 |put b g=>
  obtain⟨b0,b1,b2,b3⟩:=od
  refine⟨h.h4,?_,?_,h.lk,h.lb⟩
  ·simp only[step];rw[pO];exact yt h.pk
  ·simp only[step];rw[pO]
   exact fun k hk=>(ub hk).elim (h.pb k) fun e=>by subst e;constructor<;>omega
 |set g v=>exact⟨by simpa [step] using h.h4,h.pk,h.pb,h.lk,h.lb⟩
 |plus g v=>exact⟨by simpa [step] using h.h4,h.pk,h.pb,h.lk,h.lb⟩
 |leap g k=>exact h
 |wait=>exact h
theorem eO{α:Type}{l:List α}{k:Nat}{x:α}(h:l[k]?=some x):k<l.length:=(List.getElem?_eq_some_iff.mp h).1
theorem aL{α:Type}{l r:List α}{k:Nat}{x:α}(h:l[k]?=some x):(l++r)[k]?=some x:=by rw[List.getElem?_append_left (eO h)];exact h
def mr(w:Int)(first:List Int):(j:Nat)->List (Dl j)->M->Bool×M
 |0,ds,m=>eU w first (fun _ m=>(true,m)) ds 0 m
 |j+1,ds,m=>eU w first (mr w first j) ds 0 m
def OkL(n w:Int):(j:Nat)->List (Dl j)->Prop
 |0,ds=>ds.length<=30/\∀d∈ds,DF.ok n w (fun _=>False) d
 |j+1,ds=>ds.length<=30/\∀d∈ds,DF.ok n w (OkL n w j) d
def m0:M:=⟨[0,0,0,0],[],[]⟩
theorem pY:∀lk:List Int,rp (uM lk)=some lk
 |[]=>rfl
 |b::r=>by
  have ih:=pY r
  unfold uM at ih ⊢
  simp only[List.map_cons,rp,ih,Option.map_some]
def beh(first:List Int)(ps:List (Int×Int))(k:Nat):List Int:=(first.zipIdx k).map fun p=>(cw ps (p.2:Int)).getD p.1
def told(r:Bool×M)(first:List Int)(l:Nat):U:=match r with
 |(true,m)=>.tup [.str "done",.tup ((beh first m.ps 0).map U.int),.tup (m.hs.map U.int)]
 |(false,_)=>.tup [.str "waits",.ref l]
theorem HB{ls:List Nat}{S0 S':Sto}(len:S0.length<=S'.length)(old:∀l,l<S0.length->S'[l]?=S0[l]?):∃G,S'=S0++G:=by
 refine⟨S'.drop S0.length,List.ext_getElem? fun l=>?_⟩
 by_cases c:l<S0.length
 ·rw[old l c,List.getElem?_append_left c]
 ·rw[List.getElem?_append_right (by omega),List.getElem?_drop];congr 1;omega
theorem Cq(b v j:Int)(ps:List (Int×Int)):cw (lz ps b v) j=if j=b then some v else cw ps j:=by
 have e1:∀ps:List (Int×Int),cw ps j=(fE (ps.map fun p=>(p.1,V.int p.2)) j).map fun x=>match x with|.int i=>i|_=>0:=fun ps=>by
  unfold cw fE
  induction ps with
  |nil=>rfl
  |cons p r ih=>
   simp only[List.map_cons,List.find?_cons]
   by_cases e:p.1=j
   ·simp[e]
   ·rw[decide_eq_false e];exact ih
 have e2:(lz ps b v).map (fun p=>(p.1,V.int p.2))=nL (ps.map fun p=>(p.1,V.int p.2)) b (.int v):=by
  unfold lz nL
  have:(ps.map fun p=>(p.1,V.int p.2)).any (fun kv=>decide (kv.1=b))=ps.any fun kv=>decide (kv.1=b):=by rw[List.any_map];rfl
  rw[this]
  split
  ·rw[List.map_map,List.map_map]
   refine List.map_congr_left fun p _=>?_
   simp only[Function.comp]
   split<;>rfl
  ·simp
 rw[e1,e2,yX]
 split
 ·rfl
 ·exact(e1 ps).symm
theorem jX(first:List Int)(ps:List (Int×Int))(k:Nat):(beh first ps k).length=first.length:=by simp[beh]
theorem yh(first:List Int)(ps:List (Int×Int))(k i:Nat)(h:i<first.length):(beh first ps k)[i]?=some ((cw ps ((k+i:Nat):Int)).getD (first.getD i 0)):=by
 unfold beh
 rw[List.getElem?_map,List.getElem?_zipIdx,List.getElem?_eq_getElem h]
 simp[List.getD_eq_getElem?_getD,List.getElem?_eq_getElem h]
section
variable{first:List Int}
theorem Ec:beh first [] 0=first:=by
 refine List.ext_getElem? fun i=>?_
 by_cases hi:i<first.length
 ·rw[yh _ _ _ _ hi,List.getElem?_eq_getElem hi]
  simp[cw,List.getD_eq_getElem?_getD,List.getElem?_eq_getElem hi]
 ·rw[List.getElem?_eq_none (by rw[jX];omega),List.getElem?_eq_none (by omega)]
end
section
variable{w:Int}{first:List Int}{i ls lo lh ll:Nat}{m:M}{S:Sto}
theorem za{α:Type}{l:List α}{k:Nat}{x:α}(h:l[k]?=some x):l.set k x=l:=by
 refine List.ext_getElem? fun j=>?_
 by_cases c:k=j
 ·subst c;rw[List.getElem?_set_self (eO h),h]
 ·rw[List.getElem?_set_ne c]
end
theorem BJ{x:U}{S:Sto}:Ek x .non S=some (.bl (oG x),S):=rfl
section
variable{α:Type}{n w:Int}{f:α->U}{k:List α->Prop}{s:List α->Int}
def szF(s:List α->Int):List (DF α)->Int
 |[]=>0
 |.pl _::r=>1+szF s r
 |.tr a b::r=>1+s a+s b+szF s r
theorem oj(s:List α->Int):∀(x y:List (DF α)),szF s (x++y)=szF s x+szF s y
 |[],y=>by simp[szF]
 |.pl d::r,y=>by simp only[List.cons_append,szF,oj s r y];omega
 |.tr a b::r,y=>by simp only[List.cons_append,szF,oj s r y];omega
def HsT(fs:Fn)(f:α->U)(k:List α->Prop)(s:List α->Int):Prop:=∀(a:List α) (S:Sto),k a->fs [.tup (a.map f)] S=some (.int (s a),S)
def ud(fs:Fn):Fn:=fnU 3 1 (fB fs)
theorem md{fs:Fn}(Hs:HsT fs f k s)(x:U):∀(ds:List (DF α)) (many:Int) (r2:Option U) (S:Sto),(∀d∈ds,d.ok n w k)->
  ∃r2',cy (fun _=>True) (gNm 2) (fg fs) (ds.map (DF.u f)) [some x,some (.int many),r2] S=some (.nx,[some x,some (.int (many+szF s ds)),r2'],S)
 |[],many,r2,S,_=>⟨r2,by simp only[szF,Int.add_zero,List.map_nil];exact eE trivial⟩
 |d::r,many,r2,S,oa=>by
  have od:=oa d List.mem_cons_self
  cases d with
  |pl d=>
   obtain⟨r2',ih⟩:=md Hs x r (many+1) (some d.u) S fun y hy=>oa y (List.mem_cons_of_mem _ hy)
   have e:many+szF s (.pl d::r)=many+1+szF s r:=by simp only[szF];omega
   rw[e]
   refine⟨r2',(cB trivial rfl ?_).trans ih⟩
   have h0:∃y rr,d.u=.tup (.str y::rr)/\decide (y=("try":Str))=false:=by
    cases d<;>first|exact⟨_,_,rfl,iT⟩|exact⟨_,_,rfl,jH⟩|exact⟨_,_,rfl,jG⟩|exact⟨_,_,rfl,iS⟩|exact⟨_,_,rfl,by decide +kernel⟩
   obtain⟨y,rr,e0,e1⟩:=h0
   simp only[DF.u]
   rw[e0]
   rwa[fg,e1]
  |tr a b=>
   obtain⟨ka,kb⟩:=od
   obtain⟨r2',ih⟩:=md Hs x r (many+1+s a+s b) (some (DF.u f (.tr a b))) S fun y hy=>oa y (List.mem_cons_of_mem _ hy)
   have e:many+szF s (.tr a b::r)=many+1+s a+s b+szF s r:=by simp only[szF];omega
   rw[e]
   refine⟨r2',(cB trivial rfl ?_).trans ih⟩
   rwa[fg,DF.u,Hs a _ ka,Hs b _ kb,SNX]
theorem qM{fs:Fn}(Hs:HsT fs f k s)(ds:List (DF α))(S:Sto)(oa:∀d∈ds,d.ok n w k):ud fs [.tup (ds.map (DF.u f))] S=some (.int (szF s ds),S):=by
 unfold ud
 rw[rM]
 obtain⟨r2,e⟩:=md Hs (.tup (ds.map (DF.u f))) ds 0 none S oa
 rw[Int.zero_add]at e
 rwa[fB,lB,iTp,e]
end
def uU:Nat->Fn
 |0=>ud fun _ _=>none
 |j+1=>ud (uU j)
def CJ:(j:Nat)->List (Dl j)->Int
 |0,ds=>szF (fun _=>0) ds
 |j+1,ds=>szF (CJ j) ds
theorem oy{n w:Int}:∀J j:Nat,j<=J->HsT (uU J) (Dl.u j) (OkL n w j) (CJ j)
 |0,0,_=>fun a S ka=>qM (n:=n) (w:=w) (k:=fun _=>False) (fun _ _ z=>z.elim) a S ka.2
 |J+1,0,_=>fun a S ka=>qM (n:=n) (w:=w) (k:=fun _=>False) (fun _ _ z=>z.elim) a S ka.2
 |J+1,j+1,h=>fun a S ka=>qM (n:=n) (w:=w) (oy J j (by omega)) a S ka.2
section
variable{α:Type}{f:α->U}{k:List α->Prop}{s:List α->Int}
def HdT(n w t:Int)(fd:Fn)(f:α->U)(k:List α->Prop)(s:List α->Int):Prop:=∀(ns:List Int) (T:Sto) (a c room:Int),0<=a->0<=c->0<=room->room<=40->
 ∃(ds:List α) (a' c':Int) (G:Sto),fd [.ref 1,.tup [.int n,.int w],.int room,.int t] (scr ns::pen a c::T)=some (.tup (ds.map f),scr ns::pen a' c'::(T++G))/\k ds/\s ds<=room/\0<=s ds/\0<=a'/\0<=c'/\ds.length<=12
def iI(ah aR aC aJ:Fn):CS:=
 (dF (lC (aH (cOp fGt (ak 5) (cC (.int 0)))) (lC (aH (cOp fLt (cCB fU (ae (ak 4) ax)) (cC (.int 12)))) (aH (cOp fLt (ak 7) (cC (.int 13)))))) (bb (dS (cBM bS (ak 4) (ae (cCB aR (ae (ak 0) (ae (ak 1) (ae (ak 7) (ae (ak 8) ax))))) ax)))
  (bJ 5 (cOp oZ (ak 5) (cC (.int 1))))) (dF (lC (aH (cOp fGt (ak 5) (cC (.int 0)))) (lC (aH (cOp fLt (cCB fU (ae (ak 4) ax)) (cC (.int 12)))) (cOr (aH (cOp fEq (ak 7) (cC (.int 13)))) (aH (cOp fEq (ak 3) (cC (.int 0))))))) (bb (dF (lC (aH (cOp fGt (ak 5) (cC (.int 1)))) (lC (aH (cOp fLt (cCB fU (ae (ak 4) ax)) (cC (.int 11)))) (aH (cOp fGt (cCB ah (ae (ak 0) (ae (cC (.int 4)) ax))) (cC (.int 0)))))) (bb (dS (cBM bS (ak 4) (ae (cu (ae (cC (.str "leap")) (ae (ak 8) (ae (cC (.int 1)) ax)))) ax)))
  (bJ 5 (cOp oZ (ak 5) (cC (.int 1))))) bU)
  (bb (dS (cBM bS (ak 4) (ae (cu (ae (cC (.str "wait")) ax)) ax)))
  (bJ 5 (cOp oZ (ak 5) (cC (.int 1)))))) (dF (lC (aH (cOp fGt (ak 5) (cC (.int 0)))) (aH (cOp fLt (cCB fU (ae (ak 4) ax)) (cC (.int 12))))) (bb (bJ 9 (cCB aC (ae (ak 0) (ae (ak 1) (ae (cCB ah (ae (ak 0) (ae (ak 5) ax))) (ae (cOp oZ (ak 3) (cC (.int 1))) ax))))))
  (bb (bJ 5 (cOp oZ (cOp oZ (ak 5) (cC (.int 1))) (cCB aJ (ae (ak 9) ax))))
  (bb (bJ 10 (cCB aC (ae (ak 0) (ae (ak 1) (ae (cCB ah (ae (ak 0) (ae (cOp eI (ak 5) (cC (.int 1))) ax))) (ae (cOp oZ (ak 3) (cC (.int 1))) ax))))))
  (bb (bJ 5 (cOp oZ (ak 5) (cCB aJ (ae (ak 10) ax))))
  (dS (cBM bS (ak 4) (ae (cu (ae (cC (.str "try")) (ae (ak 9) (ae (ak 10) ax)))) ax))))))) bU)))
theorem HU{f g h i:Fn}:dr f g h i=bb (bJ 7 (cCB f (ae (ak 0) (ae (cC (.int 16)) ax)))) (bb (bJ 8 (cCB f (ae (ak 0) (ae (cC (.int 4)) ax)))) (iI f g h i)):=rfl
theorem cX(ns:List Int)(T:Sto){n w room t:Int}{fd fs:Fn}(Hs:HsT fs f k s)(Hd:t≠0->HdT n w (t-1) fd f k s)(n0:1<=n)(n1:n<=6)(w0:2<=w)(w1:w<=1000)(rm:room<=40):∀(us:List U) (r6 r7 r8 r9 r10:Option U) (left:Int) (ds:List (DF α)) (G:Sto) {a c:Int},0<=a->0<=c->ds.length<=12->(∀d∈ds,d.ok n w k)->0<=left->szF s ds+left<=room->0<=szF s ds->
  ∃(ds':List (DF α)) (ρ:Rho) (a' c':Int) (G':Sto),cy (fun _=>True) (gNm 6) (dr dQ j2 fd fs) us [some (.ref 1),some (.tup [.int n,.int w]),some (.int room),some (.int t),some (.ref (T.length+1+1)),some (.int left),r6,r7,r8,r9,r10] (scr ns::pen a c::(T++.lst (ds.map (DF.u f))::G))
   = some (.nx,some (.ref 1)::some (.tup [.int n,.int w])::some (.int room)::some (.int t)::some (.ref (T.length+1+1))::ρ,scr ns::pen a' c'::(T++.lst (ds'.map (DF.u f))::G'))/\ds'.length<=12/\(∀d∈ds',d.ok n w k)/\szF s ds'<=room/\0<=szF s ds'/\0<=a'/\0<=c'
 |[],r6,r7,r8,r9,r10,left,ds,G,a,c,ha,hc,hl,hd,l0,sz,s0=>⟨ds,_,a,c,G,by simp[cy];rfl,hl,hd,by omega,s0,ha,hc⟩
 |u::us,r6,r7,r8,r9,r10,left,ds,G,a,c,ha,hc,hl,hd,l0,sz,s0=>by
  obtain⟨f1,a1,c1,e1,p1,q1,ha1,hc1⟩:=bF ns (T++.lst (ds.map (DF.u f))::G) (m:=16) ha hc (by decide) (by decide +kernel)
  obtain⟨f2,a2,c2,e2,p2,q2,ha2,hc2⟩:=bF ns (T++.lst (ds.map (DF.u f))::G) (m:=4) ha1 hc1 (by decide) (by decide +kernel)
  have pre:dr dQ j2 fd fs [some (.ref 1),some (.tup [.int n,.int w]),some (.int room),some (.int t),some (.ref (T.length+1+1)),some (.int left),some u,r7,r8,r9,r10] (scr ns::pen a c::(T++.lst (ds.map (DF.u f))::G))
    = iI dQ j2 fd fs [some (.ref 1),some (.tup [.int n,.int w]),some (.int room),some (.int t),some (.ref (T.length+1+1)),some (.int left),some u,some (.int f1),some (.int f2),r9,r10] (scr ns::pen a2 c2::(T++.lst (ds.map (DF.u f))::G)):=by
   rw[HU]
   rwa[e1,e2]
  by_cases hL:0<left
  case neg=>
   obtain⟨ds',ρ,a',c',G',h,kk⟩:=cX ns T (room:=room) (t:=t) (fd:=fd) (fs:=fs) Hs Hd n0 n1 w0 w1 rm us (some u) (some (.int f1)) (some (.int f2)) r9 r10 left ds G ha2 hc2 hl hd l0 sz s0
   exact⟨ds',ρ,a',c',G',(cB trivial rfl (pre.trans (by rwa[iI,hL]))).trans h,kk⟩
  by_cases hN:(ds.length:Int)<12
  case neg=>
   obtain⟨ds',ρ,a',c',G',h,kk⟩:=cX ns T (room:=room) (t:=t) (fd:=fd) (fs:=fs) Hs Hd n0 n1 w0 w1 rm us (some u) (some (.int f1)) (some (.int f2)) r9 r10 left ds G ha2 hc2 hl hd l0 sz s0
   exact⟨ds',ρ,a',c',G',(cB trivial rfl (pre.trans (by rwa[iI,hL,hN,List.length_map]))).trans h,kk⟩
  have hlm:(ds.map (DF.u f)).length<LIM:=by unfold LIM;simp;omega
  have okd:∀{ds:List (DF α)} {d:DF α},(∀d∈ds,d.ok n w k)->d.ok n w k->∀x∈ds++[d],x.ok n w k:=fun h1 h2 x hx=>by
   rcases List.mem_append.mp hx with z|z
   ·exact h1 x z
   ·simp at z;subst z;exact h2
  have s1:∀(x:List (DF α)) (d:fD),szF s (x++[.pl d])=szF s x+1:=fun x d=>by rw[oj];simp[szF]
  by_cases hW:f1<13
  ·obtain⟨d,a3,c3,G3,e3,od,ha3,hc3⟩:=zw ns (T++.lst (ds.map (DF.u f))::G) ha2 hc2 n0 n1 w0 w1 p1 p2 q2
   obtain⟨ds',ρ,a',c',G',h,kk⟩:=cX ns T (room:=room) (t:=t) (fd:=fd) (fs:=fs) Hs Hd n0 n1 w0 w1 rm us (some u) (some (.int f1)) (some (.int f2)) r9 r10 (left-1) (ds++[.pl d]) (G++G3) ha3 hc3 (by simp;omega) (okd hd (show DF.ok n w k (.pl d)from od)) (by omega) (by rw[s1];omega) (by rw[s1];omega)
   simp only[List.map_append,List.map_cons,List.map_nil,DF.u]at h
   exact⟨ds',ρ,a',c',G',(cB trivial rfl (pre.trans (by rwa[iI,e3,hL,hN,hW,dG hlm,List.length_map]))).trans h,kk⟩
  ·have wt:DF.u f (.pl .wait)=U.tup [.str "wait"]:=rfl
   obtain⟨bE,hE⟩:∃b,decide (f1=13)=b:=⟨_,rfl⟩
   obtain⟨bT,hT⟩:∃b,decide (t=0)=b:=⟨_,rfl⟩
   by_cases hX:bE=false/\bT=false
   ·obtain⟨rfl,rfl⟩:=hX
    have tz:t≠0:=of_decide_eq_false hT
    obtain⟨f3,a3,c3,e3,p3,q3,ha3,hc3⟩:=bF ns (T++.lst (ds.map (DF.u f))::G) (m:=left) ha2 hc2 hL (l9 (by omega) (by omega))
    obtain⟨A,a4,c4,G4,e4,kA,sA,sA0,ha4,hc4,_⟩:=Hd tz ns (T++.lst (ds.map (DF.u f))::G) a3 c3 f3 ha3 hc3 p3 (by omega)
    obtain⟨f5,a5,c5,e5,p5,q5,ha5,hc5⟩:=bF ns (T++.lst (ds.map (DF.u f))::(G++G4)) (m:=left-1-s A+1) ha4 hc4 (by omega) (l9 (by omega) (by omega))
    obtain⟨B,a6,c6,G6,e6,kB,sB,sB0,ha6,hc6,_⟩:=Hd tz ns (T++.lst (ds.map (DF.u f))::(G++G4)) a5 c5 f5 ha5 hc5 p5 (by omega)
    have s2:szF s (ds++[.tr A B])=szF s ds+1+s A+s B:=by rw[oj];simp only[szF];omega
    obtain⟨ds',ρ,a',c',G',h,kk⟩:=cX ns T (room:=room) (t:=t) (fd:=fd) (fs:=fs) Hs Hd n0 n1 w0 w1 rm us (some u) (some (.int f1)) (some (.int f2)) (some (.tup (A.map f))) (some (.tup (B.map f))) (left-1-s A-s B) (ds++[.tr A B]) (G++(G4++G6)) ha6 hc6 (by simp;omega) (okd hd (show DF.ok n w k (.tr A B)from⟨kA,kB⟩)) (by omega) (by rw[s2];omega) (by rw[s2];omega)
    simp only[List.map_append,List.map_cons,List.map_nil,DF.u]at h
    simp only[List.append_assoc,List.cons_append]at e4 e6
    exact⟨ds',ρ,a',c',G',(cB trivial rfl (pre.trans (by rwa[iI,e3,e4,e5,e6,Hs A _ kA,Hs B _ kB,hL,hN,hW,hE,hT,dG hlm,List.length_map]))).trans h,kk⟩
   have hO:(bE||bT)=true:=by cases bE<;>cases bT<;>simp_all
   have hC:∀S':Sto,(cOr (aH (cOp fEq (ak 7) (cC (.int 13)))) (aH (cOp fEq (ak 3) (cC (.int 0))))) [some (.ref 1),some (.tup [.int n,.int w]),some (.int room),some (.int t),some (.ref (T.length+1+1)),some (.int left),some u,some (.int f1),some (.int f2),r9,r10] S'=some (true,S'):=fun S'=>by
    cases bE<;>cases bT<;>first|(exact absurd hO (by decide))|rwa[hE,hT]
   by_cases hM:1<left
   case neg=>
    obtain⟨ds',ρ,a',c',G',h,kk⟩:=cX ns T (room:=room) (t:=t) (fd:=fd) (fs:=fs) Hs Hd n0 n1 w0 w1 rm us (some u) (some (.int f1)) (some (.int f2)) r9 r10 (left-1) (ds++[.pl .wait]) G ha2 hc2 (by simp;omega) (okd hd (show DF.ok n w k (.pl .wait)from trivial)) (by omega) (by rw[s1];omega) (by rw[s1];omega)
    simp only[List.map_append,List.map_cons,List.map_nil]at h
    refine⟨ds',ρ,a',c',G',(cB trivial rfl ?_).trans h,kk⟩
    refine pre.trans ?_
    rwa[iI,hC,hL,hN,hW,hM,wt,dG hlm,List.length_map]
   by_cases hK:(ds.length:Int)<11
   case neg=>
    obtain⟨ds',ρ,a',c',G',h,kk⟩:=cX ns T (room:=room) (t:=t) (fd:=fd) (fs:=fs) Hs Hd n0 n1 w0 w1 rm us (some u) (some (.int f1)) (some (.int f2)) r9 r10 (left-1) (ds++[.pl .wait]) G ha2 hc2 (by simp;omega) (okd hd (show DF.ok n w k (.pl .wait)from trivial)) (by omega) (by rw[s1];omega) (by rw[s1];omega)
    simp only[List.map_append,List.map_cons,List.map_nil]at h
    refine⟨ds',ρ,a',c',G',(cB trivial rfl ?_).trans h,kk⟩
    refine pre.trans ?_
    rwa[iI,hC,hL,hN,hW,hM,hK,wt,dG hlm,List.length_map]
   obtain⟨f3,a3,c3,e3,p3,q3,ha3,hc3⟩:=bF ns (T++.lst (ds.map (DF.u f))::G) (m:=4) ha2 hc2 (by decide) (by decide +kernel)
   by_cases hZ:0<f3
   ·have lp:DF.u f (.pl (.leap f2 1))=U.tup [.str "leap",.int f2,.int 1]:=rfl
    have hlm2:(ds.map (DF.u f)++[U.tup [.str "leap",.int f2,.int 1]]).length<LIM:=by unfold LIM;simp;omega
    obtain⟨ds',ρ,a',c',G',h,kk⟩:=cX ns T (room:=room) (t:=t) (fd:=fd) (fs:=fs) Hs Hd n0 n1 w0 w1 rm us (some u) (some (.int f1)) (some (.int f2)) r9 r10 (left-1-1) (ds++[.pl (.leap f2 1)]++[.pl .wait]) G ha3 hc3 (by simp;omega) (okd (okd hd (show DF.ok n w k (.pl (.leap f2 1))from⟨p2,q2,by omega,by omega⟩)) (show DF.ok n w k (.pl .wait)from trivial)) (by omega) (by rw[s1,s1];omega) (by rw[s1,s1];omega)
    simp only[List.map_append,List.map_cons,List.map_nil]at h
    refine⟨ds',ρ,a',c',G',(cB trivial rfl ?_).trans h,kk⟩
    refine pre.trans ?_
    rwa[iI,hC,e3,hL,hN,hW,hM,hK,hZ,lp,wt,dG hlm,dG hlm2,List.length_map]
   ·obtain⟨ds',ρ,a',c',G',h,kk⟩:=cX ns T (room:=room) (t:=t) (fd:=fd) (fs:=fs) Hs Hd n0 n1 w0 w1 rm us (some u) (some (.int f1)) (some (.int f2)) r9 r10 (left-1) (ds++[.pl .wait]) G ha3 hc3 (by simp;omega) (okd hd (show DF.ok n w k (.pl .wait)from trivial)) (by omega) (by rw[s1];omega) (by rw[s1];omega)
    simp only[List.map_append,List.map_cons,List.map_nil]at h
    refine⟨ds',ρ,a',c',G',(cB trivial rfl ?_).trans h,kk⟩
    refine pre.trans ?_
    rwa[iI,hC,e3,hL,hN,hW,hM,hK,hZ,wt,dG hlm,List.length_map]
theorem lA{n w t:Int}{fd fs:Fn}(Hs:HsT fs f k s)(Hd:t≠0->HdT n w (t-1) fd f k s)(n0:1<=n)(n1:n<=6)(w0:2<=w)(w1:w<=1000):HdT n w t (ue fd fs) (DF.u f) (fun ds=>ds.length<=30/\∀d∈ds,DF.ok n w k d) (szF s):=by
 intro ns T a c room ha hc r0 r1
 unfold ue
 rw[nu]
 have hm:Le [.int 12,.int room]=fun S=>some (.int (if room<12 then room else 12),S):=rfl
 have hk:0<=(if room<12 then room else 12)/\(if room<12 then room else 12)<=12:=by split<;>omega
 generalize (if room<12 then room else 12)=mm at hm hk
 obtain⟨f1,a1,c1,e1,p1,q1,ha1,hc1⟩:=bF ns (T++[.lst []]) (m:=mm+1) ha hc (by omega) (l9 (by omega) (by omega))
 obtain⟨ds,ρ,a',c',G,h,k1,k2,k3,k4,k5,k6⟩:=cX ns T (room:=room) (t:=t) (fd:=fd) (fs:=fs) Hs Hd n0 n1 w0 w1 r1 (cP 0 f1.toNat) none none none none none room [] [] ha1 hc1 (by simp) (by simp) r0 (by simp[szF]) (by simp[szF])
 refine⟨ds,a',c',.lst (ds.map (DF.u f))::G,?_,⟨by omega,k2⟩,k3,k4,k5,k6,k1⟩
 have hr:-(2^62)<=f1/\f1<2^62:=by omega
 simp only[List.map_nil]at h
 rwa[dk,lB,cN,hm,e1,hr,h,if_true,and_self]
end
def oX:Nat->Fn
 |0=>ue (fun _ _=>none) fun _ _=>none
 |j+1=>ue (oX j) (uU j)
theorem tV{n w:Int}(n0:1<=n)(n1:n<=6)(w0:2<=w)(w1:w<=1000):∀(J j t:Nat),t<=j->j<=J->HdT n w t (oX J) (Dl.u j) (OkL n w j) (CJ j)
 |0,0,0,_,_=>lA (k:=fun _=>False) (fun _ _ z=>z.elim) (fun z=>absurd rfl z) n0 n1 w0 w1
 |J+1,0,0,_,_=>lA (k:=fun _=>False) (fun _ _ z=>z.elim) (fun z=>absurd rfl z) n0 n1 w0 w1
 |J+1,j+1,0,_,h=>lA (oy J j (by omega)) (fun z=>absurd rfl z) n0 n1 w0 w1
 | J+1,j+1,t+1,h,h'=>lA (oy J j (by omega)) (fun _=>by
   have e:((t+1:Nat):Int)-1=(t:Int):=by omega
   rw[e];exact tV n0 n1 w0 w1 J j t (by omega) (by omega)) n0 n1 w0 w1
theorem uf{x:U}{S:Sto}:nq x .non S=some (.bl (!oG x),S):=rfl
theorem tJ:oG .non=true:=rfl
theorem xk{us:List U}:oG (.tup us)=false:=rfl
theorem Hv{i:Int}:oG (.int i)=false:=rfl
theorem J4{us:List U}{k:Nat}{S:Sto}(h:k<us.length):fSl (.tup us) none (some (k:Int)) S=some (.tup (us.take k),S):=by
 have e:HT.sIx us.length us.length (some (k:Int))=k:=by rw[HT.sIx_nat];omega
 simp only[fSl,HT.sIx_none,e,Bj,List.drop_zero,Nat.sub_zero]
 rw[if_neg (by omega)]
theorem CH{us:List U}{k:Nat}{S:Sto}(h0:0<k)(h:k<=us.length):fSl (.tup us) (some (k:Int)) none S=some (.tup (us.drop k),S):=by
 have e:HT.sIx us.length 0 (some (k:Int))=k:=by rw[HT.sIx_nat];omega
 simp only[fSl,HT.sIx_none,e,Bj]
 rw[if_neg (by omega),List.take_of_length_le (by simp)]
def n4:Fn:=fnU 3 3 gk
theorem vv{us:List U}{k:Int}{v:U}{S:Sto}(k0:0<=k)(h:k<us.length)(hl:us.length<=50):n4 [.tup us,.int k,v] S=some (.tup (us.set k.toNat v),S):=by
 unfold n4
 rw[xF]
 have ek:k=((k.toNat:Nat):Int):=by omega
 have hk:k.toNat<us.length:=by omega
 have e1:k+1=((k.toNat+1:Nat):Int):=by omega
 have a1:fSl (.tup us) none (some k) S=some (.tup (us.take k.toNat),S):=by rw[ek];exact J4 hk
 have a2:fSl (.tup us) (some (k+1)) none S=some (.tup (us.drop (k.toNat+1)),S):=by rw[e1];exact CH (by omega) (by omega)
 have b1:eI (.tup (us.take k.toNat)) (.tup [v]) S=some (.tup (us.take k.toNat++[v]),S):=by
  unfold eI;simp only;rw[if_pos (by simp;unfold LIM;omega)]
 have b2:eI (.tup (us.take k.toNat++[v])) (.tup (us.drop (k.toNat+1))) S=some (.tup (us.take k.toNat++[v]++us.drop (k.toNat+1)),S):=by
  unfold eI;simp only;rw[if_pos (by simp;unfold LIM;omega)]
 rw[List.set_eq_take_append_cons_drop,if_pos hk]
 rwa[gk,cSl,ny,a1,a2,b1,b2]
def pt(ds:List U)(q:Int)(A B:U):U:=.tup [.tup ds,.int q,A,B]
inductive Onw:Nat->U->U->Prop
 |stop {d:Nat} {ds:List U} {q:Int} {A B:U}:q<ds.length->Onw d (pt ds q A B) (pt ds q A B)
 |top {d:Nat} {ds:List U} {q:Int} {B:U}:Onw d (pt ds q .non B) (pt ds q .non B)
 |up {d:Nat} {ds ds':List U} {q q':Int} {A' B B' y:U}:(ds.length:Int)<=q->Onw d (pt ds' q' A' B') y->Onw (d+1) (pt ds q (pt ds' q' A' B') B) y
def qz:Fn:=fnU 2 1 (gn 100)
theorem zO{F:Nat}{d:Nat}{x y:U}{S:Sto}{r:Option U}(h:Onw d x y):∀(fuel:Nat),d<fuel->
  cA (lC (aH (cOp fGe (cOp fIx (ak 1) (cC (.int 1))) (cCB fU (ae (cOp fIx (ak 1) (cC (.int 0))) ax)))) (aH (cOp nq (cOp fIx (ak 1) (cC (.int 2))) (cC .non)))) (gI F) fuel [r,some x] S=some (.nx,[r,some y],S):=by
 induction h with
 |@stop d ds q A B h=>
  intro fuel hf
  obtain⟨f,rfl⟩:∃f,fuel=f+1:=⟨fuel-1,by omega⟩
  have c:¬(ds.length:Int)<=q:=by omega
  refine jd ?_
  unfold pt
  rwa[c]
 |@top d ds q B=>
  intro fuel hf
  obtain⟨f,rfl⟩:∃f,fuel=f+1:=⟨fuel-1,by omega⟩
  refine jd ?_
  unfold pt
  by_cases c:(ds.length:Int)<=q
  ·rwa[c,uf,tJ]
  ·rwa[c]
 |@up d ds ds' q q' A' B B' y h _ ih=>
  intro fuel hf
  obtain⟨f,rfl⟩:∃f,fuel=f+1:=⟨fuel-1,by omega⟩
  refine(og (ρ1:=[r,some (pt ds' q' A' B')]) (S1:=S) (S0:=S) ?_ ?_).trans (ih f (by omega))
  ·unfold pt
   rwa[h,uf,xk]
  ·unfold pt
   rwa[gI]
theorem sQ{d:Nat}{x y:U}{S:Sto}(h:Onw d x y)(hd:d<100):qz [x] S=some (y,S):=by
 unfold qz
 rw[xG]
 rwa[gn,zO h 100 hd]
def rJ(n:Nat)(ps:List (Int×Int)):List U:=(List.range n).map fun b:Nat=>((cw ps (b:Int)).map U.int).getD .non
theorem jx{n:Nat}{ps:List (Int×Int)}:(rJ n ps).length=n:=by simp[rJ]
theorem xD{n:Nat}{ps:List (Int×Int)}{b:Int}(b0:0<=b)(b1:b<n):atI (rJ n ps) b=some (((cw ps b).map U.int).getD .non):=by
 refine kN b0 ?_
 unfold rJ
 rw[List.getElem?_map,List.getElem?_range (by omega)]
 have:((b.toNat:Nat):Int)=b:=by omega
 simp[this]
theorem Ak{n:Nat}{ps:List (Int×Int)}{b v:Int}(b0:0<=b)(b1:b<n):(rJ n ps).set b.toNat (.int v)=rJ n (lz ps b v):=by
 refine List.ext_getElem? fun i=>?_
 by_cases hi:i<n
 ·rw[List.getElem?_set,jx]
  unfold rJ
  rw[List.getElem?_map,List.getElem?_map,List.getElem?_range hi]
  simp only[Option.map_some,Cq]
  by_cases e:b.toNat=i
  ·have:(i:Int)=b:=by omega
   rw[if_pos e,if_pos (by omega),this,if_pos rfl];rfl
  ·rw[if_neg e,if_neg (by omega)]
 ·rw[List.getElem?_eq_none (by rw[List.length_set,jx];omega),List.getElem?_eq_none (by rw[jx];omega)]
theorem Am{n:Nat}:rJ n []=List.replicate n .non:=by
 unfold rJ
 refine List.ext_getElem? fun i=>?_
 by_cases hi:i<n
 ·rw[List.getElem?_map,List.getElem?_range hi,List.getElem?_replicate,if_pos hi];rfl
 ·rw[List.getElem?_eq_none (by simp;omega),List.getElem?_eq_none (by simp;omega)]
def dO(cD:Cl)(w:Int)(n:Nat)(m:M)(x:U):O:=.ins cD [some (.int w),some (.tup (m.hs.map U.int)),some (.tup (rJ n m.ps)),some x]
structure Cf(cD:Cl)(w:Int)(n i ll:Nat)(m:M)(x:U)(S:Sto):Prop where
 ei:S[i]?=some (dO cD w n m x)
 el:S[ll]?=some (.dic (uM m.lk))
structure Kp(ls:List Nat)(S S':Sto):Prop where
 len:S'.length=S.length
 old:∀l,l∉ls->S'[l]?=S[l]?
theorem Kp.refl{ls:List Nat}{S:Sto}:Kp ls S S:=⟨rfl,fun _ _=>rfl⟩
theorem Kp.set{ls:List Nat}{S:Sto}{l:Nat}{o:O}(h:l∈ls):Kp ls S (S.set l o):=⟨by simp,fun k hk=>by rw[List.getElem?_set_ne (fun z=>hk (by subst z;exact h))]⟩
theorem Kp.trans{ls:List Nat}{S S' S'':Sto}(a:Kp ls S S')(b:Kp ls S' S''):Kp ls S S'':=⟨b.len.trans a.len,fun l hn=>by rw[b.old l hn,a.old l hn]⟩
section
variable{cD:Cl}{w:Int}{n i ll:Nat}{m:M}{x A B:U}{S:Sto}{ds:List U}{q:Int}
theorem Cf.ne(h:Cf cD w n i ll m x S):i≠ll:=fun z=>by have a:=h.ei;have b:=h.el;rw[z,b]at a;cases a
theorem Cf.setI(h:Cf cD w n i ll m x S)(hs:List Int)(ps:List (Int×Int))(y:U):Cf cD w n i ll ⟨hs,ps,m.lk⟩ y (S.set i (dO cD w n ⟨hs,ps,m.lk⟩ y)):=
 ⟨List.getElem?_set_self (eO h.ei),by rw[List.getElem?_set_ne h.ne];exact h.el⟩
theorem Cf.setL(h:Cf cD w n i ll m x S)(lk:List Int):Cf cD w n i ll ⟨m.hs,m.ps,lk⟩ x (S.set ll (.dic (uM lk))):=
 ⟨by rw[List.getElem?_set_ne (Ne.symm h.ne)];exact h.ei,List.getElem?_set_self (eO h.el)⟩
def gP(cD:Cl):Fn:=fnU 1 1 (cT cD)
theorem hU{u:U}(h:Cf cD w n i ll m (pt ds q A B) S)(q0:0<=q)(hu:ds[q.toNat]?=some u):gP cD [.ref i] S=some (u,S):=by
 unfold gP
 rw[kK]
 have hl:=eO hu
 have c:¬(ds.length:Int)<=q:=by omega
 have ha:atI ds q=some u:=kN q0 hu
 have e:=h.ei
 unfold dO pt at e
 rwa[cT,e,c,ha]
theorem Au(h:Cf cD w n i ll m (pt ds q A B) S)(hq:(ds.length:Int)<=q):gP cD [.ref i] S=some (.non,S):=by
 unfold gP
 rw[kK]
 have e:=h.ei
 unfold dO pt at e
 rwa[cT,e,hq]
def n8(cD:Cl):Fn:=fnU 3 3 (dA n4 cD)
theorem oH{k v:Int}(h:Cf cD w n i ll m x S)(h4:m.hs.length=4)(k0:0<=k)(k1:k<4):n8 cD [.ref i,.int k,.int v] S=some (.non,S.set i (dO cD w n ⟨m.hs.set k.toNat v,m.ps,m.lk⟩ x)):=by
 unfold n8
 rw[qk]
 have e:=h.ei
 unfold dO at e ⊢
 have hw:=vv (us:=m.hs.map U.int) (v:=.int v) (S:=S) k0 (by simp;omega) (by simp;omega)
 rw[map_set]at hw
 rwa[dA,e,hw]
def Ep(cD:Cl):Fn:=fnU 3 2 (bw cD)
theorem Gq{k:Int}(h:Cf cD w n i ll m (pt ds q A B) S):Ep cD [.ref i,.int k] S=some (pt ds (q+1+k) A B,S):=by
 unfold Ep
 rw[i9]
 have e:=h.ei
 unfold dO pt at e
 unfold pt
 rwa[bw,e]
def Er(cD:Cl):Fn:=fnU 2 2 (bN qz (Ep cD) cD)
theorem uH{k:Int}{d:Nat}{y:U}(h:Cf cD w n i ll m (pt ds q A B) S)(ho:Onw d (pt ds (q+1+k) A B) y)(hd:d<100):Er cD [.ref i,.int k] S=some (.non,S.set i (dO cD w n m y)):=by
 unfold Er
 rw[jU]
 have e:=h.ei
 have ep:=Gq (k:=k) h
 have eo:=sQ (S:=S) ho hd
 unfold dO at e ⊢
 rwa[bN,e,ep,eo]
def n9(cD:Cl):Fn:=fnU 2 2 (dB (n8 cD) (gP cD) (Er cD) cD)
theorem DP{g b v:Int}{d:Nat}{y:U}(h:Cf cD w n i ll m (pt ds q A B) S)(h4:m.hs.length=4)(q0:0<=q)(hu:ds[q.toNat]?=some (fD.u (.look g b)))(g0:0<=g)(g1:g<4)(ho:Onw d (pt ds (q+1+0) A B) y)(hd:d<100) :
  n9 cD [.ref i,.int v] S=some (.non,S.set i (dO cD w n ⟨m.hs.set g.toNat v,m.ps,m.lk⟩ y)):=by
 unfold n9
 rw[ql]
 have e:=h.ei
 have ed:=hU h q0 hu
 have eh:=oH (v:=v) h h4 g0 g1
 have h2:=h.setI (m.hs.set g.toNat v) m.ps (pt ds q A B)
 have e2:=h2.ei
 have eg:=uH h2 ho hd
 unfold dO at e e2 eh eg ⊢
 rw[List.set_set]at eg
 unfold fD.u at ed
 rwa[dB,e,ed,eh,e2,eg]
def kQ(cD:Cl):Fn:=fnU 2 1 (bx cD)
theorem yj(h:Cf cD w n i ll m (pt ds q A .non) S):kQ cD [.ref i] S=some (.bl false,S):=by
 unfold kQ
 rw[f9]
 have e:=h.ei
 unfold dO pt at e
 rwa[bx,e,BJ,tJ]
def bk(n:Nat)(hs:List Int)(ps:List (Int×Int))(y:U):U:=.tup [.tup (hs.map U.int),.tup (rJ n ps),y]
theorem yi{hs:List Int}{ps:List (Int×Int)}{y:U}(h:Cf cD w n i ll m (pt ds q A (bk n hs ps y)) S):kQ cD [.ref i] S=some (.bl true,S.set i (dO cD w n ⟨hs,ps,m.lk⟩ y)):=by
 unfold kQ
 rw[f9]
 have l:=eO h.ei
 have e:=h.ei
 unfold dO pt bk at e
 unfold dO
 have g:∀o:O,(S.set i o)[i]?=some o:=fun o=>List.getElem?_set_self l
 rwa[bx,e,BJ,xk,g,List.set_set]
def mU(cD:Cl):Fn:=fnU 5 3 (bO qz (Ep cD) cD)
theorem Aj{a b:List U}{d d':Nat}{y z:U}(h:Cf cD w n i ll m (pt ds q A B) S)(ho:Onw d (pt b 0 (pt ds (q+1+0) A B) B) z)(hd:d<100)
  (ho':Onw d' (pt a 0 (pt ds (q+1+0) A B) (bk n m.hs m.ps z)) y) (hd':d'<100):mU cD [.ref i,.tup a,.tup b] S=some (.non,S.set i (dO cD w n m y)):=by
 unfold mU
 rw[jV]
 have e:=h.ei
 have ep:=Gq (k:=0) h
 have e1:=sQ (S:=S) ho hd
 have e2:=sQ (S:=S) ho' hd'
 unfold dO at e ⊢
 unfold pt at ep e1 e2 e
 unfold bk at e2
 rwa[bO,e,ep,e1,e2]
end
def lv(m:M):fD->Int
 |.leap h k=>if m.hs.getD h.toNat 0=0 then k else 0
 |_=>0
section
variable{cD:Cl}{w n:Int}{first:List Int}{i ll:Nat}{m:M}{A B:U}{S:Sto}{ds:List U}{q:Int}{r3:Option U}{F:Nat}
def iO(cD:Cl):Fn:=fnU 2 1 (cU (gP cD) cD)
theorem oP{x:Str}{r:List U}(h:Cf cD w n.toNat i ll m (pt ds q A B) S)(q0:0<=q)(hu:ds[q.toNat]?=some (.tup (.str x::r)))(hx:decide (x=("look":Str))=false):iO cD [.ref i] S=some (.bl false,S):=by
 unfold iO
 rw[kL]
 have e:=h.ei
 have ed:=hU h q0 hu
 unfold dO at e
 rwa[cU,e,ed,hx]
theorem ym{g b:Int}(h:Cf cD w n.toNat i ll m (pt ds q A B) S)(q0:0<=q)(hu:ds[q.toNat]?=some (fD.u (.look g b)))(b0:0<=b)(b1:b<n):iO cD [.ref i] S=some (.bl (!(cw m.ps b).isSome),S):=by
 unfold iO
 rw[kL]
 have e:=h.ei
 have ed:=hU h q0 hu
 have ea:=xD (n:=n.toNat) (ps:=m.ps) b0 (by omega)
 have ei:oG (((cw m.ps b).map U.int).getD .non)=!(cw m.ps b).isSome:=by cases cw m.ps b<;>rfl
 unfold dO at e
 unfold fD.u at ed
 rwa[cU,e,ed,ea,BJ,ei,SNX]
def yx(cD:Cl):Fn:=fnU 4 1 (aS n4 (gP cD) (kQ cD) (mU cD) (n8 cD) (Er cD) cD)
theorem xH(h:Cf cD w n.toNat i ll m (pt ds q A B) S)(q0:0<=q)(hu:ds[q.toNat]?=some (fD.u .wait)){r:U×Sto}(hb:kQ cD [.ref i] S=some r):yx cD [.ref i] S=some r:=by
 unfold yx
 rw[fA]
 have e:=h.ei
 have ed:=hU h q0 hu
 unfold dO at e
 unfold fD.u at ed
 obtain⟨u,S'⟩:=r
 rwa[aS,e,ed,hb,SNX]
theorem HI{a b:List U}{d d':Nat}{y z:U}(h:Cf cD w n.toNat i ll m (pt ds q A B) S)(q0:0<=q)(hu:ds[q.toNat]?=some (.tup [.str "try",.tup a,.tup b]))(ho:Onw d (pt b 0 (pt ds (q+1+0) A B) B) z)(hd:d<100)
  (ho':Onw d' (pt a 0 (pt ds (q+1+0) A B) (bk n.toNat m.hs m.ps z)) y) (hd':d'<100):yx cD [.ref i] S=some (.bl true,S.set i (dO cD w n.toNat m y)):=by
 unfold yx
 rw[fA]
 have e:=h.ei
 have ed:=hU h q0 hu
 have en:=Aj h ho hd ho' hd'
 unfold dO at e en ⊢
 rwa[aS,e,ed,en,SNX]
theorem Ap{d:fD}{dd:Nat}{y:U}(nw:d≠.wait)(h:Cf cD w n.toNat i ll m (pt ds q A B) S)(wf:Wf n m)(w0:2<=w)(n1:n<=6)(od:d.ok n w)(q0:0<=q)(hu:ds[q.toNat]?=some d.u)(ha:∀g b,d=.look g b->(cw m.ps b).isSome=true)(ho:Onw dd (pt ds (q+1+lv m d) A B) y)(hd:dd<100) :
  yx cD [.ref i] S=some (.bl true,S.set i (dO cD w n.toNat (step w first m d) y)):=by
 unfold yx
 rw[fA]
 have e:=h.ei
 have ed:=hU h q0 hu
 have h4:=wf.h4
 cases d with
 |wait=>exact absurd rfl nw
 |look g b=>
  obtain⟨g0,g1,b0,b1⟩:=od
  obtain⟨v,hv⟩:=Option.isSome_iff_exists.mp (ha g b rfl)
  have ea:=xD (n:=n.toNat) (ps:=m.ps) b0 (by omega)
  rw[hv,Option.map_some,Option.getD_some]at ea
  have eh:=oH (v:=v) h h4 g0 g1
  have h2:=h.setI (m.hs.set g.toNat v) m.ps (pt ds q A B)
  have e2:=h2.ei
  have eg:=uH h2 ho hd
  unfold dO at e e2 eh eg ⊢
  rw[List.set_set]at eg
  unfold fD.u at ed
  simp only[step,uB,hv,Option.getD_some,Option.isSome_some,if_true]
  simp only[lv]at eg
  rwa[aS,e,ed,ea,eh,e2,eg,SNX]
 |put b g=>
  obtain⟨g0,g1,b0,b1⟩:=od
  have hw:=vv (us:=rJ n.toNat m.ps) (v:=.int (m.hs.getD g.toNat 0)) (S:=S) b0 (by rw[jx];omega) (by rw[jx];omega)
  rw[Ak b0 (by omega)]at hw
  have h2:=h.setI m.hs (lz m.ps b (m.hs.getD g.toNat 0)) (pt ds q A B)
  have e2:=h2.ei
  have eg:=uH h2 ho hd
  unfold dO at e e2 eg ⊢
  rw[List.set_set]at eg
  unfold fD.u at ed
  simp only[lv]at eg
  simp only[step]
  rwa[aS,e,ed,at4 h4 g0 g1,hw,e2,eg,SNX]
 |set g v=>
  obtain⟨g0,g1,b0,b1⟩:=od
  have eh:=oH (v:=v) h h4 g0 g1
  have h2:=h.setI (m.hs.set g.toNat v) m.ps (pt ds q A B)
  have e2:=h2.ei
  have eg:=uH h2 ho hd
  unfold dO at e e2 eh eg ⊢
  rw[List.set_set]at eg
  unfold fD.u at ed
  simp only[lv]at eg
  simp only[step]
  rwa[aS,e,ed,eh,e2,eg,SNX]
 |plus g k=>
  obtain⟨g0,g1,b0,b1⟩:=od
  have eh:=oH (v:=(m.hs.getD g.toNat 0+m.hs.getD k.toNat 0) % w) h h4 g0 g1
  have h2:=h.setI (m.hs.set g.toNat ((m.hs.getD g.toNat 0+m.hs.getD k.toNat 0) % w)) m.ps (pt ds q A B)
  have e2:=h2.ei
  have eg:=uH h2 ho hd
  unfold dO at e e2 eh eg ⊢
  rw[List.set_set]at eg
  unfold fD.u at ed
  simp only[lv]at eg
  simp only[step]
  rwa[aS,e,ed,at4 h4 g0 g1,at4 h4 b0 b1,qD (show 0<w by omega),eh,e2,eg,SNX]
 |leap g k=>
  obtain⟨g0,g1,b0,b1⟩:=od
  have eg:=uH h ho hd
  unfold dO at e eg ⊢
  unfold fD.u at ed
  simp only[step]
  simp only[lv]at eg
  by_cases z:m.hs.getD g.toNat 0=0
  ·rw[if_pos z]at eg
   rwa[aS,e,ed,at4 h4 g0 g1,z,eg,SNX]
  ·rw[if_neg z]at eg
   rwa[aS,e,ed,at4 h4 g0 g1,z,eg,SNX]
abbrev bG(cD:Cl)(F:Nat):CS:=bq (gP cD) (iO cD) (n9 cD) (yx cD) cD F
theorem Fq(d:fD):∃x r,d.u=.tup (.str x::r):=by cases d<;>exact⟨_,_,rfl⟩
theorem tw{d:fD}{dd:Nat}{y:U}(nw:d≠.wait)(h:Cf cD w n.toNat i ll m (pt ds q A B) S)(wf:Wf n m)(lf:first.length=n.toNat)(w0:2<=w)(n0:0<=n)(n1:n<=6)(od:d.ok n w)(q0:0<=q)(hu:ds[q.toNat]?=some d.u)(ho:Onw dd (pt ds (q+1+lv m d) A B) y)(hd:dd<100) :
  ∃r3' S',bG cD F [some (.ref i),some (.tup (first.map U.int)),some (.ref ll),r3] S=some (.nx,[some (.ref i),some (.tup (first.map U.int)),some (.ref ll),r3'],S')/\Cf cD w n.toNat i ll (step w first m d) y S'/\Kp [i,ll] S S':=by
 have e:=h.ei
 have go:(∀g b,d=.look g b->(cw m.ps b).isSome=true)->iO cD [.ref i] S=some (.bl false,S)->(step w first m d).lk=m.lk->∃r3' S',bG cD F [some (.ref i),some (.tup (first.map U.int)),some (.ref ll),r3] S=some (.nx,[some (.ref i),some (.tup (first.map U.int)),some (.ref ll),r3'],S')/\Cf cD w n.toNat i ll (step w first m d) y S'/\Kp [i,ll] S S':=by
  intro ha hk hl
  have ed:=Ap (first:=first) nw h wf w0 n1 od q0 hu ha ho hd
  refine⟨r3,_,?_,⟨List.getElem?_set_self (eO h.ei),by rw[List.getElem?_set_ne h.ne,hl];exact h.el⟩,.set (by simp)⟩
  unfold dO at e
  rwa[bG,bq,e,hk,ed]
 have other:∀x r,d.u=.tup (.str x::r)->decide (x=("look":Str))=false->iO cD [.ref i] S=some (.bl false,S):=fun x r e1 e2=>oP h q0 (by rw[hu,e1]) e2
 cases d with
 |wait=>exact absurd rfl nw
 |put b g=>exact go (by intro _ _ z;cases z) (other _ _ rfl (by decide +kernel)) rfl
 |set b g=>exact go (by intro _ _ z;cases z) (other _ _ rfl (by decide +kernel)) rfl
 |plus b g=>exact go (by intro _ _ z;cases z) (other _ _ rfl (by decide +kernel)) rfl
 |leap b g=>exact go (by intro _ _ z;cases z) (other _ _ rfl (by decide +kernel)) rfl
 |look g b=>
  obtain⟨g0,g1,b0,b1⟩:=id od
  have hk:=ym h q0 hu b0 b1
  cases hv:cw m.ps b with
  |some v=>
   rw[hv]at hk
   exact go (by intro _ _ z;cases z;rw[hv];rfl) hk (by simp[step,hv])
  |none=>
   rw[hv]at hk
   have h2:=h.setL (uc m.lk b)
   have ed:=hU h q0 hu
   have eh:=DP (v:=first.getD b.toNat 0) h2 wf.h4 q0 hu g0 g1 ho hd
   have h3:=h2.setI (m.hs.set g.toNat (first.getD b.toNat 0)) m.ps y
   have e2:=h2.ei
   have es:step w first m (.look g b)=⟨m.hs.set g.toNat (first.getD b.toNat 0),m.ps,uc m.lk b⟩:=by simp[step,uB,hv]
   rw[es]
   refine⟨some (.int b),_,?_,h3,(Kp.set (by simp)).trans (.set (by simp))⟩
   have fl:(uM m.lk).length<LIM:=by have:=(wf.few n0 n1).2;unfold uM LIM;simp;omega
   unfold dO at e e2
   unfold fD.u at ed
   simp only[Option.isSome_none]at hk
   rwa[bG,bq,e,hk,ed,h.el,zm,fl,if_true,e2,atF lf b0 b1,eh]
theorem A7{a b:List U}{d d':Nat}{y z:U}(h:Cf cD w n.toNat i ll m (pt ds q A B) S)(q0:0<=q)(hu:ds[q.toNat]?=some (.tup [.str "try",.tup a,.tup b]))(ho:Onw d (pt b 0 (pt ds (q+1+0) A B) B) z)(hd:d<100)
  (ho':Onw d' (pt a 0 (pt ds (q+1+0) A B) (bk n.toNat m.hs m.ps z)) y) (hd':d'<100) :
  ∃S',bG cD F [some (.ref i),some (.tup (first.map U.int)),some (.ref ll),r3] S=some (.nx,[some (.ref i),some (.tup (first.map U.int)),some (.ref ll),r3],S')/\Cf cD w n.toNat i ll m y S'/\Kp [i,ll] S S':=by
 have e:=h.ei
 have hk:=oP h q0 hu (by decide +kernel)
 have ed:=HI h q0 hu ho hd ho' hd'
 refine⟨_,?_,h.setI m.hs m.ps y,.set (by simp)⟩
 unfold dO at e
 rwa[bG,bq,e,hk,ed]
theorem xc{hs:List Int}{ps:List (Int×Int)}{y:U}(h:Cf cD w n.toNat i ll m (pt ds q A (bk n.toNat hs ps y)) S)(q0:0<=q)(hu:ds[q.toNat]?=some (fD.u .wait)) :
  ∃S',bG cD F [some (.ref i),some (.tup (first.map U.int)),some (.ref ll),r3] S=some (.nx,[some (.ref i),some (.tup (first.map U.int)),some (.ref ll),r3],S')/\Cf cD w n.toNat i ll ⟨hs,ps,m.lk⟩ y S'/\Kp [i,ll] S S':=by
 have e:=h.ei
 have hk:=oP h q0 hu (by decide +kernel)
 have ed:=xH h q0 hu (yi h)
 refine⟨_,?_,h.setI hs ps y,.set (by simp)⟩
 unfold dO at e
 rwa[bG,bq,e,hk,ed]
theorem DK(h:Cf cD w n.toNat i ll m (pt ds q A .non) S)(q0:0<=q)(hu:ds[q.toNat]?=some (fD.u .wait)) :
  bG cD F [some (.ref i),some (.tup (first.map U.int)),some (.ref ll),r3] S=some (.rt (.bl false),[some (.ref i),some (.tup (first.map U.int)),some (.ref ll),r3],S):=by
 have e:=h.ei
 have hk:=oP h q0 hu (by decide +kernel)
 have ed:=xH h q0 hu (yj h)
 unfold dO at e
 rwa[bG,bq,e,hk,ed]
end
def OnA(dep:Nat)(ds:List U)(A B:U):Prop:=∀p:Int,(ds.length:Int)<=p->∃y,Onw dep (pt ds p A B) y
theorem OnA.any{dep:Nat}{ds:List U}{A B:U}(h:OnA dep ds A B)(p:Int):∃y,Onw dep (pt ds p A B) y:=by
 by_cases c:p<ds.length
 ·exact⟨_,.stop c⟩
 ·exact h p (by omega)
theorem OnA.top{dep:Nat}{ds:List U}{B:U}:OnA dep ds .non B:=fun p _=>⟨_,.top⟩
theorem OnA.up{dep:Nat}{ds ds':List U}{q':Int}{A' B B' y:U}(h:Onw dep (pt ds' q' A' B') y):OnA (dep+1) ds (pt ds' q' A' B') B:=fun p hp=>⟨y,.up hp h⟩
theorem Onw.here{dep:Nat}{ds:List U}{q:Int}{A B x:U}(h:Onw dep (pt ds q A B) x)(c:q<ds.length):x=pt ds q A B:=by
 generalize e:pt ds q A B=z at h
 cases h with
 |stop _=>rfl
 |top=>rfl
 |up h' _=>
  unfold pt at e
  injection e with e
  injection e with e1 e2
  injection e1 with e1
  injection e2 with e2 _
  injection e2 with e2
  subst e1 e2
  omega
theorem Onw.upInv{dep:Nat}{ds ds':List U}{q q':Int}{A' B B' x:U}(h:Onw (dep+1) (pt ds q (pt ds' q' A' B') B) x)(c:(ds.length:Int)<=q):Onw dep (pt ds' q' A' B') x:=by
 generalize e:pt ds q (pt ds' q' A' B') B=z at h
 generalize e0:dep+1=k at h
 cases h with
 |stop h'=>
  unfold pt at e
  injection e with e
  injection e with e1 e2
  injection e1 with e1
  injection e2 with e2 _
  injection e2 with e2
  subst e1 e2
  omega
 |top=>
  unfold pt at e
  injection e with e
  injection e with _ e
  injection e with _ e
  injection e with e _
  cases e
 |up h' h2=>
  unfold pt at e
  injection e with e
  injection e with _ e
  injection e with _ e
  injection e with e _
  injection e with e
  injection e with e1 e
  injection e1 with e1
  injection e with e2 e
  injection e2 with e2
  injection e with e3 e
  injection e with e4 _
  subst e1 e2 e3 e4
  cases e0
  exact h2
section
variable{cD:Cl}{w n:Int}{first:List Int}{i ll F:Nat}
abbrev tG(cD:Cl):CT:=aH (cOp nq (eZ cD (gP cD) (ak 0) ax) (cC .non))
theorem oh{m:M}{ds us:List U}{q:Int}{A B:U}{S:Sto}{ρ:Rho}(h:Cf cD w n.toNat i ll m (pt ds q A B) S)(q0:0<=q)(hu:ds[q.toNat]?=some (.tup us)):tG cD (some (.ref i)::ρ) S=some (true,S):=by
 have e:=h.ei
 have ed:=hU h q0 hu
 unfold dO at e
 rwa[tG,e,ed,uf,xk]
theorem yZ{m:M}{ds:List U}{q:Int}{A B:U}{S:Sto}{ρ:Rho}(h:Cf cD w n.toNat i ll m (pt ds q A B) S)(hq:(ds.length:Int)<=q):tG cD (some (.ref i)::ρ) S=some (false,S):=by
 have e:=h.ei
 have ed:=Au h hq
 unfold dO at e
 rwa[tG,e,ed,uf,tJ]
abbrev HG(first:List Int)(i ll:Nat)(r3:Option U):Rho:=[some (.ref i),some (.tup (first.map U.int)),some (.ref ll),r3]
def Rch(cD:Cl)(F:Nat)(first:List Int)(i ll s:Nat)(S S':Sto):Prop:=∀r3,∃r3',∀fuel,cA (tG cD) (bG cD F) (fuel+s) (HG first i ll r3) S=cA (tG cD) (bG cD F) fuel (HG first i ll r3') S'
theorem Rch.refl{S:Sto}:Rch cD F first i ll 0 S S:=fun r3=>⟨r3,fun _=>rfl⟩
theorem Rch.trans{s t:Nat}{S S' S'':Sto}(a:Rch cD F first i ll s S S')(b:Rch cD F first i ll t S' S''):Rch cD F first i ll (s+t) S S'':=fun r3=>by
 obtain⟨r4,ha⟩:=a r3
 obtain⟨r5,hb⟩:=b r4
 exact⟨r5,fun fuel=>by rw[show fuel+(s+t)=fuel+t+s by omega,ha,hb]⟩
theorem Rch.one{S S':Sto}(ht:∀r3,tG cD (HG first i ll r3) S=some (true,S))(h:∀r3,∃r3',bG cD F (HG first i ll r3) S=some (.nx,HG first i ll r3',S')):Rch cD F first i ll 1 S S':=fun r3=>by
 obtain⟨r4,h⟩:=h r3
 exact⟨r4,fun fuel=>og (ht r3) h⟩
def AtW(B x:U):Prop:=∃ds q A,x=pt ds q A B/\0<=q/\ds[q.toNat]?=some (fD.u .wait)
def Lq(dep:Nat)(ds:List U)(A B x:U):Bool->Prop
 |true=>∃p:Int,(ds.length:Int)<=p/\Onw dep (pt ds p A B) x
 |false=>AtW B x
def HrT{α:Type}(cD:Cl)(F:Nat)(w n:Int)(first:List Int)(i ll D c:Nat)(rn:List α->M->Bool×M)(f:α->U)(k:List α->Prop):Prop:=
 ∀(a:List α) (m:M) (dep:Nat) (A B x:U) (S:Sto),k a->Wf n m->dep<=D->OnA dep (a.map f) A B->Onw dep (pt (a.map f) 0 A B) x->Cf cD w n.toNat i ll m x S->
  Wf n (rn a m).2/\∃s x' S',s<=c/\Cf cD w n.toNat i ll (rn a m).2 x' S'/\Kp [i,ll] S S'/\Rch cD F first i ll s S S'/\Lq dep (a.map f) A B x' (rn a m).1
variable{α:Type}{rn:List α->M->Bool×M}{f:α->U}{k:List α->Prop}{D c:Nat}
theorem ze(Hr:HrT cD F w n first i ll (D+1) c rn f k)(hD:D<=90)(lf:first.length=n.toNat)(w0:2<=w)(n0:0<=n)(n1:n<=6)(all:List (DF α))(oa:∀d∈all,d.ok n w k){dep:Nat}{A B:U}(hdep:dep<=D)(hA:OnA dep (all.map (DF.u f)) A B) :
  ∀(N place:Nat) (m:M) (x:U) (S:Sto),all.length-place<=N->Wf n m->Onw dep (pt (all.map (DF.u f)) place A B) x->Cf cD w n.toNat i ll m x S->
  Wf n (eU w first rn (all.drop place) 0 m).2/\∃s x' S',s<=N*(2*c+2)/\Cf cD w n.toNat i ll (eU w first rn (all.drop place) 0 m).2 x' S'/\Kp [i,ll] S S'/\Rch cD F first i ll s S S'/\Lq dep (all.map (DF.u f)) A B x' (eU w first rn (all.drop place) 0 m).1:=by
 intro N
 induction N with
 |zero=>
  intro place m x S hN wf ho h
  rw[List.drop_eq_nil_of_le (by omega),eU]
  exact⟨wf,0,x,S,Nat.zero_le _,h,.refl,.refl,(place:Int),by simp;omega,ho⟩
 |succ N ih=>
  intro place m x S hN wf ho h
  by_cases cl:place<all.length
  case neg=>
   rw[List.drop_eq_nil_of_le (by omega),eU]
   exact⟨wf,0,x,S,Nat.zero_le _,h,.refl,.refl,(place:Int),by simp;omega,ho⟩
  have hd:=List.getElem?_eq_getElem cl
  have od:=oa _ (List.getElem_mem cl)
  generalize all[place]=d at hd od
  rw[jy hd]
  have hx:=ho.here (by simp;omega)
  subst hx
  have hu:(all.map (DF.u f))[(place:Int).toNat]?=some (d.u f):=by rw[Int.toNat_natCast,List.getElem?_map,hd];rfl
  have q0:(0:Int)<=place:=by omega
  have c2:(N+1)*(2*c+2)=N*(2*c+2)+(2*c+2):=by rw[Nat.succ_mul]
  have goon:∀(p:Nat) (m':M) (x':U) (s1:Nat) (S1:Sto),place<p->Wf n m'->Onw dep (pt (all.map (DF.u f)) p A B) x'->Cf cD w n.toNat i ll m' x' S1->Kp [i,ll] S S1->s1<=2*c+2->Rch cD F first i ll s1 S S1->
    Wf n (eU w first rn (all.drop p) 0 m').2/\∃s x' S',s<=(N+1)*(2*c+2)/\Cf cD w n.toNat i ll (eU w first rn (all.drop p) 0 m').2 x' S'/\Kp [i,ll] S S'/\Rch cD F first i ll s S S'/\Lq dep (all.map (DF.u f)) A B x' (eU w first rn (all.drop p) 0 m').1:=by
   intro p m' x' s1 S1 hp wf1 ho1 h1 k1 l1 r1
   obtain⟨wf2,s2,x2,S2,l2,h2,k2,r2,e2⟩:=ih p m' x' S1 (by omega) wf1 ho1 h1
   exact⟨wf2,s1+s2,x2,S2,by omega,h2,k1.trans k2,r1.trans r2,e2⟩
  cases d with
  |pl d=>
   by_cases dw:d=.wait
   ·subst dw
    rw[eU]
    exact⟨wf,0,_,S,Nat.zero_le _,h,.refl,.refl,_,_,_,rfl,q0,hu⟩
   ·have lv0:0<=lv m d:=by
     cases d<;>simp only[lv]<;>try exact Int.le_refl _
     obtain⟨_,_,b,_⟩:=od
     split<;>omega
    obtain⟨y,hy⟩:=hA.any ((place:Int)+1+lv m d)
    have e1:(place:Int)+1+lv m d=((place+1+(lv m d).toNat:Nat):Int):=by omega
    have one:∃S1,Rch cD F first i ll 1 S S1/\Cf cD w n.toNat i ll (step w first m d) y S1/\Kp [i,ll] S S1:=by
     obtain⟨_,S1,e0,h1,k1⟩:=tw (F:=F) (r3:=none) dw h wf lf w0 n0 n1 od q0 hu hy (by omega)
     refine⟨S1,.one (fun r3=>?_) (fun r3=>?_),h1,k1⟩
     ·obtain⟨x0,r0,ex⟩:=Fq d
      exact oh h q0 (by rw[hu];simp only[DF.u];rw[ex])
     ·obtain⟨r4,S2,e2,h2,k2⟩:=tw (F:=F) (r3:=r3) dw h wf lf w0 n0 n1 od q0 hu hy (by omega)
      have es:S2=S1:=by
       refine List.ext_getElem? fun l=>?_
       by_cases z1:l=i
       ·subst z1;rw[h2.ei,h1.ei]
       ·by_cases z2:l=ll
        ·subst z2;rw[h2.el,h1.el]
        ·rw[k2.old l (by simp[z1,z2]),k1.old l (by simp[z1,z2])]
      exact⟨r4,by rw[e2,es]⟩
    obtain⟨S1,r1,h1,k1⟩:=one
    have er:eU w first rn (.pl d::all.drop (place+1)) 0 m=eU w first rn (all.drop (place+1+(lv m d).toNat)) 0 (step w first m d):=by
     cases d with
     |wait=>exact absurd rfl dw
     |leap g j=>
      rw[eU,pK,List.drop_drop]
      simp only[lv,step]
      split<;>simp
     |look g b=>rw[eU];simp[lv]
     |put g b=>rw[eU];simp[lv]
     |set g b=>rw[eU];simp[lv]
     |plus g b=>rw[eU];simp[lv]
    rw[er]
    rw[e1]at hy
    exact goon _ _ y 1 S1 (by omega) (Cy wf od) hy h1 k1 (by omega) r1
  |tr a b=>
   obtain⟨ka,kb⟩:=od
   simp only[DF.u]at hu
   obtain⟨yb,hyb⟩:=hA.any ((place:Int)+1+0)
   have onb:∀(ds:List U) (B':U),OnA (dep+1) ds (pt (all.map (DF.u f)) ((place:Int)+1+0) A B) B':=fun ds B'=>.up hyb
   obtain⟨z,hz⟩:=(onb (b.map f) B).any 0
   obtain⟨y,hy⟩:=(onb (a.map f) (bk n.toNat m.hs m.ps z)).any 0
   have e1:(place:Int)+1+0=((place+1:Nat):Int):=by omega
   have one:∃S1,Rch cD F first i ll 1 S S1/\Cf cD w n.toNat i ll m y S1/\Kp [i,ll] S S1:=by
    obtain⟨S1,e0,h1,k1⟩:=A7 (F:=F) (first:=first) (r3:=none) h q0 hu hz (by omega) hy (by omega)
    refine⟨S1,.one (fun r3=>oh h q0 hu) (fun r3=>?_),h1,k1⟩
    obtain⟨S2,e2,h2,k2⟩:=A7 (F:=F) (first:=first) (r3:=r3) h q0 hu hz (by omega) hy (by omega)
    have es:S2=S1:=by
     refine List.ext_getElem? fun l=>?_
     by_cases z1:l=i
     ·subst z1;rw[h2.ei,h1.ei]
     ·by_cases z2:l=ll
      ·subst z2;rw[h2.el,h1.el]
      ·rw[k2.old l (by simp[z1,z2]),k1.old l (by simp[z1,z2])]
    exact⟨r3,by rw[e2,es]⟩
   obtain⟨S1,r1,h1,k1⟩:=one
   obtain⟨wf2,s2,x2,S2,l2,h2,k2,r2,e2⟩:=Hr a m (dep+1) _ _ y S1 ka wf (by omega) (onb _ _) hy h1
   rw[eU]
   unfold Cu
   cases er:rn a m with
   |mk t m'=>
    rw[er]at wf2 h2 e2
    cases t with
    |true=>
     obtain⟨p,hp,hp2⟩:=e2
     have:=hp2.upInv hp
     rw[e1]at this
     exact goon (place+1) m' x2 (1+s2) S2 (by omega) wf2 this h2 (k1.trans k2) (by omega) (r1.trans r2)
    |false=>
     obtain⟨ds',q',A',rfl,q0',hw⟩:=e2
     have back:∃S3,Rch cD F first i ll 1 S2 S3/\Cf cD w n.toNat i ll ⟨m.hs,m.ps,m'.lk⟩ z S3/\Kp [i,ll] S2 S3:=by
      obtain⟨S3,e0,h3,k3⟩:=xc (F:=F) (first:=first) (r3:=none) h2 q0' hw
      refine⟨S3,.one (fun r3=>oh h2 q0' hw) (fun r3=>?_),h3,k3⟩
      obtain⟨S4,e4,h4,k4⟩:=xc (F:=F) (first:=first) (r3:=r3) h2 q0' hw
      have es:S4=S3:=by
       refine List.ext_getElem? fun l=>?_
       by_cases z1:l=i
       ·subst z1;rw[h4.ei,h3.ei]
       ·by_cases z2:l=ll
        ·subst z2;rw[h4.el,h3.el]
        ·rw[k4.old l (by simp[z1,z2]),k3.old l (by simp[z1,z2])]
      exact⟨r3,by rw[e4,es]⟩
     obtain⟨S3,r3,h3,k3⟩:=back
     obtain⟨wf4,s4,x4,S4,l4,h4,k4,r4,e4⟩:=Hr b ⟨m.hs,m.ps,m'.lk⟩ (dep+1) _ _ z S3 kb ⟨wf.h4,wf.pk,wf.pb,wf2.lk,wf2.lb⟩ (by omega) (onb _ _) hz h3
     have kk:=((k1.trans k2).trans k3).trans k4
     have rr:=((r1.trans r2).trans r3).trans r4
     simp only
     cases er2:rn b ⟨m.hs,m.ps,m'.lk⟩with
     |mk t2 m2=>
      rw[er2]at wf4 h4 e4
      cases t2 with
      |true=>
       obtain⟨p,hp,hp2⟩:=e4
       have:=hp2.upInv hp
       rw[e1]at this
       exact goon (place+1) m2 x4 (1+s2+1+s4) S4 (by omega) wf4 this h4 kk (by omega) rr
      |false=>exact⟨wf4,1+s2+1+s4,x4,S4,by omega,h4,kk,rr,e4⟩
theorem AV(Hr:HrT cD F w n first i ll (D+1) c rn f k)(hD:D<=90)(lf:first.length=n.toNat)(w0:2<=w)(n0:0<=n)(n1:n<=6):HrT cD F w n first i ll D (30*(2*c+2)) (fun ds m=>eU w first rn ds 0 m) (DF.u f) (fun ds=>ds.length<=30/\∀d∈ds,DF.ok n w k d):=by
 intro a m dep A B x S ka wf hdep hA ho h
 exact ze Hr hD lf w0 n0 n1 a ka.2 hdep hA 30 0 m x S (by omega) wf ho h
def cJ:Nat->Nat
 |0=>60
 |j+1=>30*(2*cJ j+2)
theorem vQ(lf:first.length=n.toNat)(w0:2<=w)(n0:0<=n)(n1:n<=6):∀(j D:Nat),D+j<=90->HrT cD F w n first i ll D (cJ j) (mr w first j) (Dl.u j) (OkL n w j)
 |0,D,hD=>AV (c:=0) (k:=fun _=>False) (fun a m dep A B x S ka=>ka.elim) (by omega) lf w0 n0 n1
 |j+1,D,hD=>AV (k:=OkL n w j) (vQ lf w0 n0 n1 j (D+1) (by omega)) (by omega) lf w0 n0 n1
def oe(cD:Cl):Fn:=fnU 4 3 (cf (gP cD) (iO cD) (n9 cD) (yx cD) cD 20000000)
theorem DT{j:Nat}(hj:j<=3)(lf:first.length=n.toNat)(w0:2<=w)(n0:0<=n)(n1:n<=6)(ds:List (Dl j))(od:OkL n w j ds){m:M}{S:Sto}(wf:Wf n m)(h:Cf cD w n.toNat i ll m (pt (ds.map (Dl.u j)) 0 .non .non) S) :
  Wf n (mr w first j ds m).2/\∃x' S',oe cD [.ref i,.tup (first.map U.int),.ref ll] S=some (.bl (mr w first j ds m).1,S')/\Cf cD w n.toNat i ll (mr w first j ds m).2 x' S'/\Kp [i,ll] S S':=by
 obtain⟨wf1,s,x',S',ls,h1,k1,r1,e1⟩:=vQ (cD:=cD) (F:=20000000) (i:=i) (ll:=ll) lf w0 n0 n1 j 0 (by omega) ds m 0 .non .non _ S od wf (Nat.le_refl _) .top .top h
 refine⟨wf1,x',S',?_,h1,k1⟩
 have hc:cJ j<=13179660:=by
  have:j=0\/j=1\/j=2\/j=3:=by omega
  rcases this with rfl|rfl|rfl|rfl<;>decide
 obtain⟨r3,r1⟩:=r1 none
 have r2:=r1 (20000000-s)
 rw[show 20000000-s+s=20000000 by omega]at r2
 unfold oe
 rw[nr]
 obtain⟨fl,hfl⟩:∃fl,20000000-s=fl+1:=⟨20000000-s-1,by omega⟩
 rw[hfl]at r2
 cases er:(mr w first j ds m).1 with
 |true=>
  rw[er]at e1
  obtain⟨p,hp,ho⟩:=e1
  have hx:x'=pt (ds.map (Dl.u j)) p .non .non:=by
   generalize ez:pt (ds.map (Dl.u j)) p .non .non=z at ho
   cases ho with
   |stop _=>rfl
   |top=>rfl
  subst hx
  have ht:=yZ (ρ:=[some (.tup (first.map U.int)),some (.ref ll),r3]) h1 hp
  have r4:=r2.trans (jd ht)
  rwa[cf,r4]
 |false=>
  rw[er]at e1
  obtain⟨ds',q',A',rfl,q0',hw⟩:=e1
  have ht:=oh (ρ:=[some (.tup (first.map U.int)),some (.ref ll),r3]) h1 q0' hw
  have r4:=r2.trans (yR ht (DK h1 q0' hw))
  rwa[cf,r4]
end
def prs:List (Option Int)->Nat->List (Int×Int)
 |[],_=>[]
 |none::r,k=>prs r (k+1)
 |some v::r,k=>((k:Int),v)::prs r (k+1)
def oq(n:Nat)(ps:List (Int×Int)):List (Option Int):=(List.range n).map fun b:Nat=>cw ps (b:Int)
def ou:Option Int->U
 |none=>.non
 |some v=>.int v
theorem DY{n:Nat}{ps:List (Int×Int)}:rJ n ps=(oq n ps).map ou:=by
 unfold rJ oq
 rw[List.map_map]
 refine List.map_congr_left fun b _=>?_
 simp only[Function.comp]
 cases cw ps (b:Int)<;>rfl
def pU(p:Int×Int):U:=.tup [.int p.1,.int p.2]
theorem uP{ok:Sto->Prop}{g:CG}{ct:CT}{ce:CE}{l:Nat}{ρ:Rho}{S:Sto}(h:ok S):cG ok g ct ce l [] ρ S=some S:=by rw[cG,if_pos h]
theorem xV{ok:Sto->Prop}{g:CG}{ct:CT}{ce:CE}{l:Nat}{ρ ρ0:Rho}{S S0 S1:Sto}{u:U}{us:List U}(h:ok S)(hg:g u ρ S=some (ρ0,S0))(ht:ct ρ0 S0=some (false,S1)):cG ok g ct ce l (u::us) ρ S=cG ok g ct ce l us ρ0 S1:=by
 rw[cG,if_pos h,hg,Option.bind_some,ht,Option.bind_some,if_neg Bool.false_ne_true]
theorem uO{ok:Sto->Prop}{g:CG}{ct:CT}{ce:CE}{l:Nat}{ρ ρ0:Rho}{S S0 S1 S2:Sto}{u x:U}{us ys:List U}(h:ok S)(hg:g u ρ S=some (ρ0,S0))(ht:ct ρ0 S0=some (true,S1))(he:ce ρ0 S1=some (x,S2))(hl:S2[l]?=some (.lst ys))(hn:ys.length<LIM) :
  cG ok g ct ce l (u::us) ρ S=cG ok g ct ce l us ρ0 (S2.set l (.lst (ys++[x]))):=by
 rw[cG,if_pos h,hg,Option.bind_some,ht,Option.bind_some,if_pos rfl,he,Option.bind_some]
 simp only[hl,hn,if_true]
theorem qU(S:Sto):∀(qs:List (Option Int)) (k:Nat) (ys:List (Int×Int)) (r0 r1:Option U),ys.length+qs.length<=1000->
  cG (fun _=>True) (gTp [0,1]) (aH (cOp nq (ak 1) (cC .non))) (cu (ae (ak 0) (ae (ak 1) ax))) S.length (((qs.map ou).zipIdx k).map fun p=>.tup [.int p.2,p.1]) [r0,r1] (S++[.lst (ys.map pU)])
   = some (S++[.lst ((ys++prs qs k).map pU)])
 |[],k,ys,r0,r1,hl=>by
  simp only[List.map_nil,List.zipIdx_nil,prs,List.append_nil]
  exact uP trivial
 |none::qs,k,ys,r0,r1,hl=>by
  have ih:=qU S qs (k+1) ys (some (.int k)) (some .non) (by simp at hl ⊢;omega)
  simp only[List.map_cons,List.zipIdx_cons,prs,ou]
  refine(xV (ρ0:=[some (.int k),some .non]) (S0:=S++[.lst (ys.map pU)]) (S1:=S++[.lst (ys.map pU)]) trivial rfl ?_).trans ih
  rwa[uf,tJ]
 |some v::qs,k,ys,r0,r1,hl=>by
  have ih:=qU S qs (k+1) (ys++[((k:Int),v)]) (some (.int k)) (some (.int v)) (by simp at hl ⊢;omega)
  simp only[List.map_cons,List.zipIdx_cons,prs,ou]
  refine(uO (ρ0:=[some (.int k),some (.int v)]) (S0:=S++[.lst (ys.map pU)]) (S1:=S++[.lst (ys.map pU)]) (S2:=S++[.lst (ys.map pU)]) (x:=pU (k,v)) (ys:=ys.map pU) trivial rfl ?_ ?_ ?_ (by simp at hl ⊢;unfold LIM;omega)).trans ?_
  ·rwa[uf,Hv]
  ·rwa[pU]
  ·rwa[]
  ·have e5:(S++[O.lst (ys.map pU)]).set S.length (.lst (ys.map pU++[pU ((k:Int),v)]))=S++[.lst ((ys++[((k:Int),v)]).map pU)]:=by
    rwa[List.map_append,List.map_cons,List.map_nil]
   rw[e5,ih]
   simp
section
variable{cD:Cl}{w n:Int}{first:List Int}{i ll:Nat}{m:M}{x:U}{S:Sto}
def Eo(cD:Cl):Fn:=fnU 1 1 (bM cD)
def ppL(n:Int)(m:M):List (Int×Int):=prs (oq n.toNat m.ps) 0
theorem Kc(h:Cf cD w n.toNat i ll m x S)(n1:n<=6):Eo cD [.ref i] S=some (.ref S.length,S++[.lst ((ppL n m).map pU)]):=by
 unfold Eo
 rw[jT]
 have e:=h.ei
 unfold dO at e
 have hb:=qU S (oq n.toNat m.ps) 0 [] none none (by simp[oq];omega)
 simp only[List.nil_append,List.map_nil]at hb
 rw[DY]at e
 unfold ppL
 rwa[bM,jW,mJ,sC,qg,qQ,e,hb,List.replicate]
theorem qT:∀(qs:List (Option Int)) (k:Nat) (p:Int×Int),p∈prs qs k->∃j:Nat,p.1=((k+j:Nat):Int)/\qs[j]?=some (some p.2)
 |[],k,p,h=>by simp[prs]at h
 |none::r,k,p,h=>by
  obtain⟨j,e1,e2⟩:=qT r (k+1) p (by simpa [prs] using h)
  exact⟨j+1,by rw[e1];omega,by simpa using e2⟩
 |some v::r,k,p,h=>by
  simp only[prs,List.mem_cons]at h
  rcases h with rfl|h
  ·exact⟨0,by simp,by simp⟩
  ·obtain⟨j,e1,e2⟩:=qT r (k+1) p h
   exact⟨j+1,by rw[e1];omega,by simpa using e2⟩
theorem Gy{ps:List (Int×Int)}{j:Nat}{v:Int}:(oq n.toNat ps)[j]?=some (some v)↔(j<n.toNat/\cw ps (j:Int)=some v):=by
 unfold oq
 rw[List.getElem?_map]
 by_cases c:j<n.toNat
 ·rw[List.getElem?_range c];simp[c]
 ·rw[List.getElem?_eq_none (by simpa using c)];simp[c]
theorem C4{p:Int×Int}(h:p∈ppL n m):0<=p.1/\p.1<n/\cw m.ps p.1=some p.2:=by
 obtain⟨j,e1,e2⟩:=qT _ _ _ h
 obtain⟨e3,e4⟩:=Gy.mp e2
 rw[Nat.zero_add]at e1
 rw[e1]
 exact⟨by omega,by omega,e4⟩
theorem oI:∀(qs:List (Option Int)) (k:Nat) (R:List Int) (j:Nat),((prs qs k).foldl (fun r p=>r.set p.1.toNat p.2) R)[j]?=(R[j]?).map fun x=>if k<=j then((qs[j-k]?).join).getD x else x
 |[],k,R,j=>by simp[prs]
 |none::r,k,R,j=>by
  rw[prs,oI r (k+1) R j]
  congr 1
  funext x
  by_cases h1:k+1<=j
  ·rw[if_pos h1,if_pos (by omega),show j-k=j-(k+1)+1 by omega,List.getElem?_cons_succ]
  ·rw[if_neg h1]
   by_cases h2:k<=j
   ·rw[if_pos h2,show j-k=0 by omega];simp
   ·rw[if_neg h2]
 |some v::r,k,R,j=>by
  rw[prs,List.foldl_cons,oI r (k+1) _ j]
  simp only[Int.toNat_natCast]
  by_cases h1:k+1<=j
  ·rw[List.getElem?_set_ne (by omega)]
   congr 1
   funext x
   rw[if_pos h1,if_pos (by omega),show j-k=j-(k+1)+1 by omega,List.getElem?_cons_succ]
  ·by_cases h2:k=j
   ·subst h2
    rw[List.getElem?_set_self']
    cases R[k]? with
    |none=>rfl
    |some z=>simp;intro h;omega
   ·rw[List.getElem?_set_ne h2]
    congr 1
    funext x
    rw[if_neg h1,if_neg (by omega)]
theorem Ag(lf:first.length=n.toNat):(ppL n m).foldl (fun r p=>r.set p.1.toNat p.2) first=beh first m.ps 0:=by
 refine List.ext_getElem? fun j=>?_
 unfold ppL
 rw[oI]
 by_cases c:j<first.length
 ·rw[yh _ _ _ _ c,List.getElem?_eq_getElem c]
  have e:(oq n.toNat m.ps)[j]?=some (cw m.ps (j:Int)):=by unfold oq;rw[List.getElem?_map,List.getElem?_range (by omega)];rfl
  simp only[Option.map_some,Nat.zero_le,if_true,Nat.sub_zero,e,Option.join_some,Nat.zero_add,List.getD_eq_getElem?_getD,List.getElem?_eq_getElem c,Option.getD_some]
 ·rw[List.getElem?_eq_none (l:=first) (by omega),List.getElem?_eq_none (l:=beh first m.ps 0) (by rw[jX];omega)];rfl
end
section
variable{cD:Cl}{w n:Int}{first:List Int}
def n6(cD:Cl):Fn:=fnU 3 3 (dz qz cD)
theorem DN{S0:Sto}{ds:List U}(n0:1<=n)(n1:n<=6):n6 cD [.ref S0.length,.tup [.int n,.int w],.tup ds] (S0++[.ins cD [none,none,none,none]])=some (.non,S0++[dO cD w n.toNat m0 (pt ds 0 .non .non)]):=by
 unfold n6
 rw[qj]
 have eo:∀S:Sto,qz [.tup [.tup ds,.int 0,.non,.non]] S=some (.tup [.tup ds,.int 0,.non,.non],S):=fun S=>sQ (d:=0) (.top:Onw 0 (pt ds 0 .non .non) _) (by decide)
 have em:∀S:Sto,uJ (.tup [.non]) (.int n) S=some (.tup (rJ n.toNat []),S):=fun S=>by
  unfold uJ
  simp only
  rw[if_pos ⟨by simp,n0,by simp;omega⟩,Am]
  congr 3
  induction n.toNat with
  |zero=>rfl
  |succ k ih=>rw[List.replicate_succ,List.replicate_succ,List.flatten_cons,ih];rfl
 unfold dO pt m0
 rwa[dz,em,eo]
theorem vK{S:Sto}{ll:Nat}{lk:List Int}(h:S[ll]?=some (.dic (uM lk)))(hl:lk.length<64):jR [.ref ll] S=some (.ref S.length,S++[.lst ((dc lk).map U.int)]):=by
 simp only[jR,h,pY,Option.bind_some,hl,if_true]
theorem GN{S0:Sto}{X:Sto}{S':Sto}{a b:Nat}(k:Kp [a,b] (S0++X) S')(ha:S0.length<=a)(hb:S0.length<=b):∃Y,S'=S0++Y/\Y.length=X.length:=by
 obtain⟨Y,rfl⟩:=HB (ls:=[]) (S0:=S0) (S':=S') (by have:=k.len;simp at this;omega) fun l hl=>by
  rw[k.old l (by simp;omega),List.getElem?_append_left hl]
 exact⟨Y,rfl,by have:=k.len;simp at this;omega⟩
theorem wf0:Wf n m0:=⟨rfl,by simp[m0],by simp[m0],by simp[m0],by simp[m0]⟩
def ba(cD:Cl):Fn:=fnU 8 3 (jb (oe cD) (Eo cD) (n6 cD) cD)
theorem yq{x3 x4:Option U}{lr lp:Nat}{us:List U}{xs:U}{ys:U}{f1 f2 f3:Fn}:∀(ps:List (Int×Int)) (R:List Int) (S:Sto) (r6 r7:Option U),S[lr]?=some (.lst (R.map U.int))->S[lp]?=some (.lst us)->lr≠lp->(∀p∈ps,0<=p.1/\p.1<R.length)->
  ∃r6' r7',cy (fun S=>S[lp]?=some (.lst us)) (gTp [6,7]) (jD f1 f2 f3 cD) (ps.map pU) [some xs,some ys,some (.tup (first.map U.int)),x3,x4,some (.ref lr),r6,r7] S
   = some (.nx,[some xs,some ys,some (.tup (first.map U.int)),x3,x4,some (.ref lr),r6',r7'],S.set lr (.lst ((ps.foldl (fun r p=>r.set p.1.toNat p.2) R).map U.int)))
 |[],R,S,r6,r7,h1,h2,ne,_=>⟨r6,r7,by rw[List.map_nil,eE h2,List.foldl_nil,za h1]⟩
 |p::ps,R,S,r6,r7,h1,h2,ne,hb=>by
  obtain⟨b0,b1⟩:=hb p List.mem_cons_self
  have h1':(S.set lr (.lst ((R.set p.1.toNat p.2).map U.int)))[lr]?=some (.lst ((R.set p.1.toNat p.2).map U.int)):=List.getElem?_set_self (eO h1)
  obtain⟨r6',r7',ih⟩:=yq (x3:=x3) (x4:=x4) (lr:=lr) (lp:=lp) (us:=us) (xs:=xs) (ys:=ys) (f1:=f1) (f2:=f2) (f3:=f3) ps (R.set p.1.toNat p.2) (S.set lr (.lst ((R.set p.1.toNat p.2).map U.int))) (some (.int p.1)) (some (.int p.2)) h1' (by rw[List.getElem?_set_ne ne];exact h2) ne fun q hq=>by rw[List.length_set];exact hb q (List.mem_cons_of_mem _ hq)
  rw[List.set_set]at ih
  refine⟨r6',r7',?_⟩
  rw[List.map_cons,List.foldl_cons]
  refine(cB h2 (ρ0:=[some xs,some ys,some (.tup (first.map U.int)),x3,x4,some (.ref lr),some (.int p.1),some (.int p.2)]) (S0:=S) (by rwa[pU]) ?_).trans ih
  have ix:ixN (R.map U.int).length p.1=some p.1.toNat:=by unfold ixN;rw[if_pos b0,if_pos (by simp;omega)]
  rwa[jD,h1,ix,map_set]
theorem t7{j:Nat}(hj:j<=3)(S0:Sto)(hns:cD.ns.length=4)(ds:List (Dl j))(od:OkL n w j ds)(lf:first.length=n.toNat)(n0:1<=n)(n1:n<=6)(w0:2<=w) :
  Wf n (mr w first j ds m0).2/\∃G l,ba cD [.tup [.int n,.int w],.tup (ds.map (Dl.u j)),.tup (first.map U.int)] S0=some (told (mr w first j ds m0) first l,S0++G)/\((mr w first j ds m0).1=false->(S0++G)[l]?=some (.lst ((dc (mr w first j ds m0).2.lk).map U.int))/\S0.length<=l):=by
 have c0:Cf cD w n.toNat S0.length (S0.length+1) m0 (pt (ds.map (Dl.u j)) 0 .non .non) (S0++[dO cD w n.toNat m0 (pt (ds.map (Dl.u j)) 0 .non .non),.dic []]):=⟨by rw[ga0];rfl,by rw[ga];rfl⟩
 obtain⟨wf,x',S',eg,c1,k1⟩:=DT hj lf w0 (by omega) n1 ds od wf0 c0
 refine⟨wf,?_⟩
 have hi:=DN (cD:=cD) (w:=w) (S0:=S0) (ds:=ds.map (Dl.u j)) n0 n1
 obtain⟨Y,rfl,lY⟩:=GN k1 (Nat.le_refl _) (by omega)
 have lk6:=(wf.few (by omega) n1).2
 unfold ba
 rw[D0]
 have es:=vK c1.el (by omega)
 unfold told
 cases er:mr w first j ds m0 with
 |mk t m=>
  rw[er]at eg c1 es lk6 wf
  cases t with
  |false=>
   refine⟨Y++[.lst ((dc m.lk).map U.int)],S0.length+Y.length,?_,fun _=>⟨?_,by omega⟩⟩
   ·simp only[List.length_append,List.append_assoc]at es
    rwa[jb,AK,hns,List.replicate,hi,eg,es,List.length_append]
   ·rw[<-List.append_assoc,<-List.length_append,ga0];rfl
  |true=>
   have c2:Cf cD w n.toNat S0.length (S0.length+1) m x' (S0++(Y++[.lst (first.map U.int)])):=by rw[<-List.append_assoc];exact⟨aL c1.ei,aL c1.el⟩
   have ep:=Kc c2 n1
   have ei:=c2.ei
   have c3:Cf cD w n.toNat S0.length (S0.length+1) m x' (S0++(Y++[.lst ((beh first m.ps 0).map U.int),.lst ((ppL n m).map pU)])):=by rw[<-List.append_assoc];exact⟨aL c1.ei,aL c1.el⟩
   have e3:=c3.ei
   obtain⟨r6,r7,el⟩:=yq (first:=first) (cD:=cD) (f1:=oe cD) (f2:=Eo cD) (f3:=n6 cD) (x3:=some (.ref S0.length)) (x4:=some (.ref (S0.length+1))) (xs:=.tup [.int n,.int w]) (ys:=.tup (ds.map (Dl.u j))) (lr:=S0.length+Y.length) (lp:=S0.length+(Y.length+1)) (us:=(ppL n m).map pU) (ppL n m) first (S0++(Y++[.lst (first.map U.int),.lst ((ppL n m).map pU)])) none none
    (by rw[<-List.append_assoc,<-List.length_append,ga0];rfl) (by rw[<-List.append_assoc,<-Nat.add_assoc,<-List.length_append,ga];rfl) (by omega) (fun p hp=>by obtain⟨a,b,_⟩:=C4 hp;omega)
   rw[Ag lf]at el
   have gset:(S0++(Y++[O.lst (first.map U.int),.lst ((ppL n m).map pU)])).set (S0.length+Y.length) (.lst ((beh first m.ps 0).map U.int))=S0++(Y++[.lst ((beh first m.ps 0).map U.int),.lst ((ppL n m).map pU)]):=by
    rw[gs,gs0];rfl
   rw[gset]at el
   have gl:(S0++(Y++[O.lst (first.map U.int),.lst ((ppL n m).map pU)]))[S0.length+(Y.length+1)]?=some (.lst ((ppL n m).map pU)):=by rw[<-List.append_assoc,<-Nat.add_assoc,<-List.length_append,ga];rfl
   have gr:(S0++(Y++[O.lst ((beh first m.ps 0).map U.int),.lst ((ppL n m).map pU)]))[S0.length+Y.length]?=some (.lst ((beh first m.ps 0).map U.int)):=by rw[<-List.append_assoc,<-List.length_append,ga0];rfl
   refine⟨Y++[.lst ((beh first m.ps 0).map U.int),.lst ((ppL n m).map pU)],0,?_,fun z=>by cases z⟩
   simp only[List.length_append,List.append_assoc,List.length_cons,List.length_nil,Nat.zero_add,List.cons_append,List.nil_append]at ep
   unfold dO at ei e3
   rwa[jb,AK,hns,List.replicate,hi,eg,ep,ei,lB,iTp,el,e3,gl,gr,List.length_append]
end
theorem ow:decide (("done":Str)="waits")=false:=by decide +kernel
inductive Ll where
 |done (st:List Int)|waits (pl:Nat) (lk:List Int)
def yw{j:Nat}(w:Int)(Ds:List (List (Dl j))):List Int->Nat->List Int->Ll
 |[],_,st=>.done st
 |o::os,k,st=>match mr w st j (Ds.getD o.toNat []) m0 with
  |(true,m)=>yw w Ds os (k+1) (beh st m.ps 0)
  |(false,m)=>.waits k m.lk
def FL(r:Ll)(l:Nat):U:=match r with
 |.done st=>.tup [.str "done",.tup (st.map U.int)]
 |.waits k _=>.tup [.str "waits",.int k,.ref l]
def HX(n:Int)(S:Sto)(l:Nat):Ll->Prop
 |.done st=>st.length=n.toNat
 |.waits _ lk=>S[l]?=some (.lst ((dc lk).map U.int))/\lk.length<=6
def dlU{j:Nat}(d:List (Dl j)):U:=.tup (d.map (Dl.u j))
section
variable{cD:Cl}{n w:Int}{j:Nat}{Ds:List (List (Dl j))}{ld lo:Nat}{x2:Option U}{us:List U}
theorem HH{o:Int}(o0:0<=o)(o1:o<Ds.length):atI (Ds.map dlU) o=some (dlU (Ds.getD o.toNat [])):=by
 have hk:o.toNat<Ds.length:=by omega
 refine kN o0 ?_
 rw[List.getElem?_map,List.getElem?_eq_getElem hk,List.getD_eq_getElem?_getD,List.getElem?_eq_getElem hk];rfl
theorem D1{o:Int}(hd:∀d∈Ds,OkL n w j d)(o0:0<=o)(o1:o<Ds.length):OkL n w j (Ds.getD o.toNat []):=by
 have hk:o.toNat<Ds.length:=by omega
 rw[List.getD_eq_getElem?_getD,List.getElem?_eq_getElem hk]
 exact hd _ (List.getElem_mem hk)
def rX(cD:Cl):Fn:=fnU 8 4 (iE (ba cD))
theorem nR(hj:j<=3)(hns:cD.ns.length=4)(n0:1<=n)(n1:n<=6)(w0:2<=w)(hd:∀d∈Ds,OkL n w j d):∀(os:List Int) (k:Nat) (st:List Int) (S:Sto) (r5 r6 r7:Option U),S[ld]?=some (.lst (Ds.map dlU))->S[lo]?=some (.lst us)->(∀o∈os,0<=o/\o<(Ds.length:Int))->st.length=n.toNat->
  ∃X ρ l,HX n (S++X) l (yw w Ds os k st)/\S.length<=l/\(match yw w Ds os k st with
   |.done st'=>∃r5 r6 r7,cy (fun S=>S[lo]?=some (.lst us)) (gTp [5,6]) (eA (ba cD)) (((os.map U.int).zipIdx k).map fun p=>.tup [.int p.2,p.1]) ρ S=some (.nx,[some (.tup [.int n,.int w]),some (.ref ld),x2,some (.ref lo),some (.tup (st'.map U.int)),r5,r6,r7],S++X)
   |.waits k' lk=>∃ρ',cy (fun S=>S[lo]?=some (.lst us)) (gTp [5,6]) (eA (ba cD)) (((os.map U.int).zipIdx k).map fun p=>.tup [.int p.2,p.1]) ρ S=some (.rt (FL (.waits k' lk) l),ρ',S++X))/\ρ=[some (.tup [.int n,.int w]),some (.ref ld),x2,some (.ref lo),some (.tup (st.map U.int)),r5,r6,r7]
 |[],k,st,S,r5,r6,r7,h1,h2,ho,hs=>⟨[],_,S.length,hs,Nat.le_refl _,⟨r5,r6,r7,by rw[List.append_nil];exact eE h2⟩,rfl⟩
 |o::os,k,st,S,r5,r6,r7,h1,h2,ho,hs=>by
  obtain⟨o0,o1⟩:=ho o List.mem_cons_self
  obtain⟨wf,G,l,e1,g1⟩:=t7 (cD:=cD) hj S hns (Ds.getD o.toNat []) (D1 hd o0 o1) hs n0 n1 w0
  have ea:=HH o0 o1
  have k6:=(wf.few (by omega) n1).2
  rw[yw]
  cases er:mr w st j (Ds.getD o.toNat []) m0 with
  |mk t m=>
   rw[er]at e1 g1 k6
   simp only[dlU]at ea
   cases t with
   |true=>
    dsimp only[told]at e1
    obtain⟨X,ρ,l',rk,ll,rm,rfl⟩:=nR hj hns n0 n1 w0 hd os (k+1) (beh st m.ps 0) (S++G) (some (.int k)) (some (.int o)) (some (.tup [.str "done",.tup ((beh st m.ps 0).map U.int),.tup (m.hs.map U.int)])) (aL h1) (aL h2) (fun x hx=>ho x (List.mem_cons_of_mem _ hx)) (by rw[jX];exact hs)
    refine⟨G++X,_,l',by rw[<-List.append_assoc];exact rk,by simp at ll;omega,?_,rfl⟩
    have one:cy (fun S=>S[lo]?=some (.lst us)) (gTp [5,6]) (eA (ba cD)) ((((o::os).map U.int).zipIdx k).map fun p=>.tup [.int p.2,p.1]) [some (.tup [.int n,.int w]),some (.ref ld),x2,some (.ref lo),some (.tup (st.map U.int)),r5,r6,r7] S
      = cy (fun S=>S[lo]?=some (.lst us)) (gTp [5,6]) (eA (ba cD)) (((os.map U.int).zipIdx (k+1)).map fun p=>.tup [.int p.2,p.1]) [some (.tup [.int n,.int w]),some (.ref ld),x2,some (.ref lo),some (.tup ((beh st m.ps 0).map U.int)),some (.int k),some (.int o),some (.tup [.str "done",.tup ((beh st m.ps 0).map U.int),.tup (m.hs.map U.int)])] (S++G):=by
     simp only[List.map_cons,List.zipIdx_cons]
     refine cB h2 rfl ?_
     rwa[eA,h1,ea,e1,ow]
    dsimp only
    cases er2:yw w Ds os (k+1) (beh st m.ps 0)with
    |done st'=>
     rw[er2]at rm
     obtain⟨a,b,c,e⟩:=rm
     exact⟨a,b,c,by rw[one,e,List.append_assoc]⟩
    |waits k' lk=>
     rw[er2]at rm
     obtain⟨ρ',e⟩:=rm
     exact⟨ρ',by rw[one,e,List.append_assoc]⟩
   |false=>
    dsimp only[told]at e1
    obtain⟨g2,g3⟩:=g1 rfl
    refine⟨G,_,l,⟨g2,k6⟩,g3,⟨[some (.tup [.int n,.int w]),some (.ref ld),x2,some (.ref lo),some (.tup (st.map U.int)),some (.int k),some (.int o),some (.tup [.str "waits",.ref l])],?_⟩,rfl⟩
    simp only[List.map_cons,List.zipIdx_cons,FL]
    refine rh h2 rfl ?_
    rwa[eA,h1,ea,e1,eq_self]
theorem z8(hj:j<=3)(hns:cD.ns.length=4)(n0:1<=n)(n1:n<=6)(w0:2<=w)(hd:∀d∈Ds,OkL n w j d)(os:List Int)(st:List Int)(S:Sto)(h1:S[ld]?=some (.lst (Ds.map dlU)))(h2:S[lo]?=some (.lst (os.map U.int)))(ho:∀o∈os,0<=o/\o<(Ds.length:Int))(hs:st.length=n.toNat) :
  ∃X l,HX n (S++X) l (yw w Ds os 0 st)/\S.length<=l/\rX cD [.tup [.int n,.int w],.ref ld,.tup (st.map U.int),.ref lo] S=some (FL (yw w Ds os 0 st) l,S++X):=by
 unfold rX
 rw[An]
 obtain⟨X,ρ,l,rk,ll,rm,rfl⟩:=nR (cD:=cD) (x2:=some (.tup (st.map U.int))) (us:=os.map U.int) (ld:=ld) (lo:=lo) hj hns n0 n1 w0 hd os 0 st S none none none h1 h2 ho hs
 refine⟨X,l,rk,ll,?_⟩
 have es:sC (.ref lo) S=some (os.map U.int,fun S=>S[lo]?=some (.lst (os.map U.int))):=by simp only[sC,h2]
 cases er:yw w Ds os 0 st with
 |done st'=>
  rw[er]at rm
  obtain⟨a,b,c,e⟩:=rm
  rwa[iE,lB,mJ,es,qg,e,FL]
 |waits k' lk=>
  rw[er]at rm
  obtain⟨ρ',e⟩:=rm
  rwa[iE,lB,mJ,es,qg,e,FL]
end
def dy(ah:Fn):CS:=
 (bb (bJ 2 (cCB ah (ae (ak 0) (ae (cOp fIx (ak 1) (cC (.int 0))) ax))))
  (bb (bJ 3 (cCB ah (ae (ak 0) (ae (cOp fIx (ak 1) (cC (.int 0))) ax))))
  (bb (bJ 4 (cCB ah (ae (ak 0) (ae (cC (.int 5)) ax))))
  (bb (bJ 5 (cu (ae (cu (ae (cC (.str "look")) (ae (cC (.int 0)) (ae (ak 2) ax)))) (ae (cu (ae (cC (.str "leap")) (ae (cC (.int 0)) (ae (cC (.int 1)) ax)))) (ae (cu (ae (cC (.str "wait")) ax)) ax)))))
  (bb (dF (aH (cOp fEq (ak 4) (cC (.int 0)))) (bJ 5 (cu (ae (cu (ae (cC (.str "look")) (ae (cC (.int 0)) (ae (ak 2) ax)))) (ae (cu (ae (cC (.str "set")) (ae (cC (.int 1)) (ae (cC (.int 1)) ax)))) (ae (cu (ae (cC (.str "leap")) (ae (cC (.int 0)) (ae (cC (.int 1)) ax)))) (ae (cu (ae (cC (.str "leap")) (ae (cC (.int 2)) (ae (cC (.int 1)) ax)))) (ae (cu (ae (cC (.str "wait")) ax)) ax))))))) bU)
  (bb (dF (aH (cOp fEq (ak 4) (cC (.int 1)))) (bb (bJ 6 (cu (ae (cu (ae (cC (.str "look")) (ae (cC (.int 0)) (ae (ak 3) ax)))) (ae (cu (ae (cC (.str "leap")) (ae (cC (.int 0)) (ae (cC (.int 1)) ax)))) (ae (cu (ae (cC (.str "wait")) ax)) ax)))))
  (bJ 5 (cu (ae (cu (ae (cC (.str "look")) (ae (cC (.int 0)) (ae (ak 2) ax)))) (ae (cu (ae (cC (.str "try")) (ae (cu (ae (cu (ae (cC (.str "leap")) (ae (cC (.int 0)) (ae (cC (.int 1)) ax)))) (ae (cu (ae (cC (.str "leap")) (ae (cC (.int 2)) (ae (cC (.int 1)) ax)))) (ae (cu (ae (cC (.str "wait")) ax)) ax)))) (ae (ak 6) ax)))) ax))))) bU)
  (bb (bJ 7 (cOp fIx (iH (ae (ak 2) (ae (ak 3) ax))) (cCB ah (ae (ak 0) (ae (cC (.int 2)) ax)))))
  (dU (cOp eI (ak 5) (cu (ae (cu (ae (cC (.str "set")) (ae (cC (.int 3)) (ae (cCB ah (ae (ak 0) (ae (cC (.int 2)) ax))) ax)))) (ae (cu (ae (cC (.str "put")) (ae (ak 7) (ae (cC (.int 3)) ax)))) ax))))))))))))
theorem rN{ah:Fn}{a0 a1:U}{S:Sto}:fnU 8 2 (dy ah) [a0,a1] S=((dy ah) [some a0,some a1,none,none,none,none,none,none] S).bind kFn:=iR rfl
def bf(ah aC cF:Fn):CS:=
 (dF (lC (aH (cOp fLt (ak 4) (cC (.int 5)))) (aH (cOp fEq (cCB ah (ae (ak 0) (ae (cC (.int 4)) ax))) (cC (.int 0))))) (dS (cBM bS (ak 3) (ae (cCB aC (ae (ak 0) (ae (ak 1) (ae (cC (.int 10)) (ae (cC (.int 2)) ax))))) ax))) (dS (cBM bS (ak 3) (ae (cCB cF (ae (ak 0) (ae (ak 1) ax))) ax))))
def bI(ah aC cF:Fn):CS:=
 (bb (bJ 3 (iH ax))
  (bb (bJ 4 (cOp eI (cC (.int 1)) (cCB ah (ae (ak 0) (ae (ak 2) ax)))))
  (bb (lB (cN (ae (ak 4) ax)) (gNm 5) (bf ah aC cF))
  (dU (ak 3)))))
theorem iG{ah aC cF:Fn}{a0 a1 a2:U}{S:Sto}:fnU 6 3 (bI ah aC cF) [a0,a1,a2] S=((bI ah aC cF) [some a0,some a1,some a2,none,none,none] S).bind kFn:=iR rfl
def cK(ah:Fn):CS:=
 (dU (cCB fe (ae (gH (cN (ae (cOp fIx (ak 1) (cC (.int 0))) ax)) (gNm 0) (cCB ah (ae (ak 1) (ae (cOp fIx (iH (ae (cC (.int 2)) (ae (cOp fIx (ak 2) (cC (.int 1))) ax))) (cCB HD (ae (cOp fEq (cCB ah (ae (ak 1) (ae (cC (.int 4)) ax))) (cC (.int 0))) ax))) ax))) 1 [0,1]) ax)))
theorem lg{ah:Fn}{a0 a1:U}{S:Sto}:fnU 2 2 (cK ah) [a0,a1] S=((cK ah) [some a0,some a1] S).bind kFn:=iR rfl
def bZ(cE:Fn):CS:=
 (dF (aH (cOp (fIn true) (ak 4) (cOp fIx (ak 2) (cC (.int 0))))) (bb (bJ 6 (cCB cE (ae (ak 0) (ae (ak 5) (ae (cOp fIx (ak 2) (cC (.int 1))) ax)))))
  (dF (aH (cOp fEq (cOp fIx (ak 6) (cC (.int 0))) (cC (.str "done")))) (dS (cBM bS (ak 3) (ae (cu (ae (ak 4) (ae (cu (ae (cCB fe (ae (cCB iD (ae (cOp eI (cOp fIx (ak 2) (cC (.int 0))) (cu (ae (ak 4) ax))) ax)) ax)) (ae (cOp fIx (ak 6) (cC (.int 1))) ax))) ax))) ax))) bU)) bU)
def d8(cE:Fn):CS:=
 (bb (bJ 3 (iH ax))
  (bb (lB (mJ (ak 1)) (gTp [4,5]) (bZ cE))
  (dU (ak 3))))
theorem rK{cE:Fn}{a0 a1 a2:U}{S:Sto}:fnU 7 3 (d8 cE) [a0,a1,a2] S=((d8 cE) [some a0,some a1,some a2,none,none,none,none] S).bind kFn:=iR rfl
def fN(aU:Fn)(fuel:Nat):CS:=
 (dF (aH (cOp Be (ak 7) (ak 3))) (bb (mR (ak 3) (ak 7) (cOp eI (cOp u2 (ak 3) (ak 5)) (iH (ae (ak 6) ax))))
  (dS (cBM bS (ak 4) (ae (ak 7) ax)))) bU)
def dP(aU:Fn)(fuel:Nat):CS:=
 (bb (bJ 5 (cBM f7 (ak 4) (ae (cC (.int 0)) ax)))
  (lB (iTp (cCB aU (ae (ak 0) (ae (ak 2) (ae (ak 5) ax))))) (gTp [6,7]) (fN aU fuel)))
def cI(aU:Fn)(fuel:Nat):CS:=
 (bb (bJ 3 (qr (cu (ae (cu ax) (ae (ak 1) ax))) (iH ax)))
  (bb (bJ 4 (iH (ae (cu (ae (cu ax) (ae (ak 1) ax))) ax)))
  (bb (cA (aH (cOp fGt (cCB fU (ae (ak 4) ax)) (cC (.int 0)))) (dP aU fuel) fuel)
  (dU (ak 3)))))
theorem k8{aU:Fn}{fuel:Nat}{a0 a1 a2:U}{S:Sto}:fnU 8 3 (cI aU fuel) [a0,a1,a2] S=((cI aU fuel) [some a0,some a1,some a2,none,none,none,none,none] S).bind kFn:=iR rfl
def eT(aD:Fn):CS:=
 (dF (aH (cOp fEq (cCB fU (ae (cOp fIx (ak 4) (cC (.int 0))) ax)) (cCB fU (ae (ak 2) ax)))) (dU (cu (ae (cC (.str "all")) (ae (cOp u2 (ak 3) (ak 4)) ax)))) bU)
def gp(aD:Fn):CS:=
 (bb (bJ 3 (cCB aD (ae (ak 0) (ae (ak 1) (ae (ak 2) ax)))))
  (bb (qq (ak 3) (gNm 4) (eT aD))
  (dU (cu (ae (cC (.str "never")) (ae (cCB iL (ae (ak 3) ax)) ax))))))
theorem uN{aD:Fn}{a0 a1 a2:U}{S:Sto}:fnU 5 3 (gp aD) [a0,a1,a2] S=((gp aD) [some a0,some a1,some a2,none,none] S).bind kFn:=iR rfl
def fi(aU:Fn):CS:=
 (dU (uS (cOp fLt (cCB fU (ae (cOp fIx (ak 2) (cC (.int 0))) ax)) (cCB fU (ae (ak 1) ax))) (cOp fEq (cCB fU (ae (cCB aU (ae (ak 0) (ae (ak 1) (ae (ak 2) ax)))) ax)) (cC (.int 0)))))
theorem nY{aU:Fn}{a0 a1 a2:U}{S:Sto}:fnU 3 3 (fi aU) [a0,a1,a2] S=((fi aU) [some a0,some a1,some a2] S).bind kFn:=iR rfl
def ie(aD cV:Fn):CS:=
 (dF (aH (cCB cV (ae (ak 0) (ae (ak 2) (ae (ak 4) ax))))) (dU (cu (ae (cC (.str "stuck")) (ae (cOp u2 (ak 3) (ak 4)) ax)))) bU)
def mQ(aD cV:Fn):CS:=
 (bb (bJ 3 (cCB aD (ae (ak 0) (ae (ak 1) (ae (ak 2) ax)))))
  (bb (qq (ak 3) (gNm 4) (ie aD cV))
  (dU (cu (ae (cC (.str "free")) (ae (cCB iL (ae (ak 3) ax)) ax))))))
theorem DZ{aD cV:Fn}{a0 a1 a2:U}{S:Sto}:fnU 5 3 (mQ aD cV) [a0,a1,a2] S=((mQ aD cV) [some a0,some a1,some a2,none,none] S).bind kFn:=iR rfl
def bh(aP:Fn):CS:=
 (dF (aH (cOp fEq (cOp fIx (ak 3) (cC (.int 0))) (cC (.str "look")))) (dS (cBM bS (ak 2) (ae (cu (ae (cC (.str "look")) (ae (cOp fIx (ak 3) (cC (.int 1))) (ae (cOp fIx (ak 1) (cOp fIx (ak 3) (cC (.int 2)))) ax)))) ax))) (dF (aH (cOp fEq (cOp fIx (ak 3) (cC (.int 0))) (cC (.str "put")))) (dS (cBM bS (ak 2) (ae (cu (ae (cC (.str "put")) (ae (cOp fIx (ak 1) (cOp fIx (ak 3) (cC (.int 1)))) (ae (cOp fIx (ak 3) (cC (.int 2))) ax)))) ax))) (dF (aH (cOp fEq (cOp fIx (ak 3) (cC (.int 0))) (cC (.str "try")))) (dS (cBM bS (ak 2) (ae (cu (ae (cC (.str "try")) (ae (cCB aP (ae (cOp fIx (ak 3) (cC (.int 1))) (ae (ak 1) ax))) (ae (cCB aP (ae (cOp fIx (ak 3) (cC (.int 2))) (ae (ak 1) ax))) ax)))) ax))) (dS (cBM bS (ak 2) (ae (ak 3) ax))))))
def eR(aP:Fn):CS:=
 (bb (bJ 2 (iH ax))
  (bb (lB (iTp (ak 0)) (gNm 3) (bh aP))
  (dU (cCB fe (ae (ak 2) ax)))))
theorem qi{aP:Fn}{a0 a1:U}{S:Sto}:fnU 4 2 (eR aP) [a0,a1] S=((eR aP) [some a0,some a1,none,none] S).bind kFn:=iR rfl
def cS(ah:Fn):CS:=
 (bb (bJ 2 (gq (ae (ak 1) ax)))
  (dU (gH (cN (ae (ak 1) ax)) (gNm 0) (cBM f7 (ak 1) (ae (cCB ah (ae (ak 2) (ae (cCB fU (ae (ak 1) ax)) ax))) ax)) 1 [2,0])))
theorem mO{ah:Fn}{a0 a1:U}{S:Sto}:fnU 3 2 (cS ah) [a0,a1] S=((cS ah) [some a0,some a1,none] S).bind kFn:=iR rfl
end OQ
namespace OL
open PySem PySem.Spec PyProof.Rows L2 OG OP OQ
def top(i:Nat):Stmt:=PySem.Challenge.pw_oneglance_k59_whole_waits_put_otherwise.main.body.getD i (.Pass ⟨0,0,0,0⟩)
abbrev gY:Stmt:=fz (top 1) 0
abbrev g8:Stmt:=fz (top 1) 1
abbrev g9:Stmt:=fz (top 1) 2
abbrev g7:Stmt:=fz (top 1) 3
abbrev fq:Stmt:=fz (top 1) 4
abbrev gZ:Stmt:=fz (top 1) 5
abbrev dv:Stmt:=fz (top 1) 6
abbrev dZ:Stmt:=fz (top 1) 7
abbrev d3:Stmt:=fz (top 1) 8
abbrev dY:Stmt:=fz (top 1) 9
abbrev dX:Stmt:=fz (top 1) 10
abbrev mi:Stmt:=top 2
abbrev mj:Stmt:=top 3
abbrev fQ:Stmt:=top 4
abbrev qO:Stmt:=top 5
abbrev iU:Stmt:=top 7
abbrev eV:Stmt:=top 8
abbrev jI:Stmt:=top 9
abbrev jJ:Stmt:=top 10
abbrev qN:Stmt:=top 11
abbrev oz:Stmt:=top 13
abbrev jK:Stmt:=top 15
abbrev iV:Stmt:=top 16
abbrev gW:Stmt:=top 17
abbrev iW:Stmt:=top 19
abbrev dW:Stmt:=top 20
abbrev fR:Stmt:=top 21
abbrev iX:Stmt:=top 22
abbrev de:Stmt:=top 23
abbrev eW:Stmt:=top 24
abbrev gX:Stmt:=top 25
abbrev fk:Stmt:=top 26
abbrev CL:Stmt:=top 27
section
variable{P:Program}{w:World}{K:PySem.W.Frag}{mg:Str->Option Value}{base:Heap}
theorem kC:aN ["pen","many","at","cell","one","two","three","found"] ["pen","many"] (ay iV):=⟨rfl,rfl,rfl,by decide +kernel,rfl,by decide +kernel,by decide +kernel⟩
theorem rB{k:Nat}(d:Def K mg "_law_take" iV ["pen","many"])(B:Blt mg):c8 P w K mg base "_law_take" (k+1) ["pen","many"] (fnU 8 2 (d9 )):=
 d.pure kC fun f cdv A outer s H E hr=>(by
  have hu:=dj hr
  have nd:=kC.nd
  exact(ar (b7 (aQ eN kH (bo hu (ag (wpv 0)) (aq af) (fun _ _=>rfl) (fun _ _=>rfl)) (aq af) (aM _)) (ar (aI (i:=2) nd rfl (by first|exact Or.inl rfl|exact Or.inr rfl) (bo hu (ag (wpv 0)) (aq af) (fun _ _=>rfl) (fun _ _=>rfl)))
   (ar (iA hu (ag (wpv 0)) (aq af) (dE dD dC (ag (wpv 2)) (aq af)))
   (ar (aI (i:=3) nd rfl (by first|exact Or.inl rfl|exact Or.inr rfl) (aq af))
   (ar (b7 (aQ kX u0 (ag (wpv 2)) (bK fT fS rfl B.len PySem.boot_len (ab (bo hu (ag (wpv 0)) (aq af) (fun _ _=>rfl) (fun _ _=>rfl)) av)) (aM _)) (aB (aI (i:=3) nd rfl (by first|exact Or.inl rfl|exact Or.inr rfl) (bo hu (bo hu (ag (wpv 0)) (aq af) (fun _ _=>rfl) (fun _ _=>rfl)) (ag (wpv 2)) (fun _ _=>rfl) (fun _ _=>rfl)))) (aB (b7 (aQ qX Dm (bK fT fS rfl B.len PySem.boot_len (ab (bo hu (ag (wpv 0)) (aq af) (fun _ _=>rfl) (fun _ _=>rfl)) av)) (aq af) (aM _)) (aB (aI (i:=3) nd rfl (by first|exact Or.inl rfl|exact Or.inr rfl) (dE dD dC (dE kJ pT (bo hu (bo hu (ag (wpv 0)) (aq af) (fun _ _=>rfl) (fun _ _=>rfl)) (dE kJ pT (dE jr pS (ag (wpv 2)) (aq af)) (bK fT fS rfl B.len PySem.boot_len (ab (bo hu (ag (wpv 0)) (aq af) (fun _ _=>rfl) (fun _ _=>rfl)) av))) (fun _ _=>rfl) (fun _ _=>rfl)) (aq af)) (dE jr pS (aq af) (ag (wpv 2)))))) bQ)))
   (ar (aI (i:=4) nd rfl (by first|exact Or.inl rfl|exact Or.inr rfl) (dE kJ pT (dE jr pS (dE dD dC (dE dD dC (dE kJ pT (ag (wpv 3)) (aq af)) (dE jr pS (aq af) (ag (wpv 2)))) (aq af)) (aq af)) (aq af)))
   (ar (aI (i:=5) nd rfl (by first|exact Or.inl rfl|exact Or.inr rfl) (dE kJ pT (dE dD dC (dE dD dC (dE jr pS (ag (wpv 4)) (ag (wpv 4))) (dE jr pS (aq af) (ag (wpv 2)))) (aq af)) (aq af)))
   (ar (aI (i:=6) nd rfl (by first|exact Or.inl rfl|exact Or.inr rfl) (dE kJ pT (dE dD dC (dE jr pS (ag (wpv 5)) (ag (wpv 5))) (ag (wpv 4))) (aq af)))
   (ar (iA hu (ag (wpv 0)) (aq af) (dE dD dC (dE oE Dp (dE dD dC (dE jr pS (ag (wpv 5)) (aq af)) (ag (wpv 6))) (aq af)) (aq af)))
   (aB (b7 (aQ Dr Kk (ag (wpv 3)) (dE A1 Gu (aq af) (aq af)) (aM _)) (aB (iA hu (ag (wpv 0)) (aq af) (dE oE Dp (ag (wpv 3)) (dE A1 Gu (aq af) (aq af))))) bQ)))))))))) bQ)
   (ar (aI (i:=7) nd rfl (by first|exact Or.inl rfl|exact Or.inr rfl) (dE kJ pT (bo hu (ag (wpv 0)) (aq af) (fun _ _=>rfl) (fun _ _=>rfl)) (ag (wpv 1))))
   (ar (iA hu (ag (wpv 0)) (aq af) (dE oE Dp (bo hu (ag (wpv 0)) (aq af) (fun _ _=>rfl) (fun _ _=>rfl)) (ag (wpv 1))))
   (aB (a8 (ag (wpv 7))))))))
theorem jh:aN ["pen"] ["pen"] (ay gW):=⟨rfl,rfl,rfl,by decide +kernel,rfl,by decide +kernel,by decide +kernel⟩
theorem p9{k:Nat}{ah:Fn}(d:Def K mg "_law_world" gW ["pen"])(B:Blt mg)(aw:c8 P w K mg base "_law_take" (k) ["pen","many"] ah):c8 P w K mg base "_law_world" (k+1) ["pen"] (fnU 1 1 (eQ ah)):=
 d.pure jh fun f cdv A outer s H E hr=>(by
  have hu:=dj hr
  have nd:=jh.nd
  exact(aB (a8 (bj (ab (dE dD dC (aq af) (aK aw hr rfl (ab (ag (wpv 0)) (ab (aq af) av)))) (ab (bo hu (jq (ab (aq af) (ab (aq af) (ab (aq af) (ab (aq af) (ab (dE dD dC (aq af) (aK aw hr rfl (ab (ag (wpv 0)) (ab (aq af) av)))) av)))))) (aK aw hr rfl (ab (ag (wpv 0)) (ab (aq af) av))) (fun _ _=>rfl) (fun _ _=>rfl)) av))))))
theorem kE:aN ["dealing","many","deed"] ["dealing"] (ay iW):=⟨rfl,rfl,rfl,by decide +kernel,rfl,by decide +kernel,by decide +kernel⟩
theorem iZ{k:Nat}{aJ:Fn}(d:Def K mg "_law_size" iW ["dealing"])(B:Blt mg)(fC:c8 P w K mg base "_law_size" (k) ["dealing"] aJ):c8 P w K mg base "_law_size" (k+1) ["dealing"] (fnU 3 1 (fB aJ)):=
 d.pure kE fun f cdv A outer s H E hr=>(by
  have hu:=dj hr
  have nd:=kE.nd
  exact(ar (aI (i:=1) nd rfl (by first|exact Or.inl rfl|exact Or.inr rfl) (aq af))
   (ar (jo PassesOwn.never rfl (nK (ag (wpv 0))) (eX (br (i:=2) nd rfl (by first|exact Or.inl rfl|exact Or.inr rfl))) (ar (aI (i:=1) nd rfl (by first|exact Or.inl rfl|exact Or.inr rfl) (dE dD dC (ag (wpv 1)) (aq af)))
   (aB (b7 (aQ eN kH (bo hu (ag (wpv 2)) (aq af) (fun _ _=>rfl) (fun _ _=>rfl)) (bA aG) (aM _)) (aB (aI (i:=1) nd rfl (by first|exact Or.inl rfl|exact Or.inr rfl) (dE dD dC (dE dD dC (ag (wpv 1)) (aK fC hr rfl (ab (bo hu (ag (wpv 2)) (aq af) (fun _ _=>rfl) (fun _ _=>rfl)) av))) (aK fC hr rfl (ab (bo hu (ag (wpv 2)) (aq af) (fun _ _=>rfl) (fun _ _=>rfl)) av))))) bQ))))
   (aB (a8 (ag (wpv 1)))))))
theorem fF:aN ["pen","world","way","hand"] ["pen","world","way","hand"] (ay dW):=⟨rfl,rfl,rfl,by decide +kernel,rfl,by decide +kernel,by decide +kernel⟩
theorem jM{k:Nat}{ah:Fn}(d:Def K mg "_law_plain_deed" dW ["pen","world","way","hand"])(B:Blt mg)(aw:c8 P w K mg base "_law_take" (k) ["pen","many"] ah):c8 P w K mg base "_law_plain_deed" (k+1) ["pen","world","way","hand"] (fnU 4 4 (aZ ah)):=
 d.pure fF fun f cdv A outer s H E hr=>(by
  have hu:=dj hr
  have nd:=fF.nd
  exact(ar (b7 (aQ kX u0 (ag (wpv 2)) (aq af) (aM _)) (aB (a8 (bj (ab (bA aG) (ab (ag (wpv 3)) (ab (aK aw hr rfl (ab (ag (wpv 0)) (ab (bo hu (ag (wpv 1)) (aq af) (fun _ _=>rfl) (fun _ _=>rfl)) av))) av)))))) bQ)
   (ar (b7 (aQ kX u0 (ag (wpv 2)) (aq af) (aM _)) (aB (a8 (bj (ab (bA aG) (ab (aK aw hr rfl (ab (ag (wpv 0)) (ab (bo hu (ag (wpv 1)) (aq af) (fun _ _=>rfl) (fun _ _=>rfl)) av))) (ab (ag (wpv 3)) av)))))) bQ)
   (ar (b7 (aQ kX u0 (ag (wpv 2)) (aq af) (aM _)) (aB (a8 (bj (ab (bA aG) (ab (ag (wpv 3)) (ab (aK aw hr rfl (ab (ag (wpv 0)) (ab (bo hu (ag (wpv 1)) (aq af) (fun _ _=>rfl) (fun _ _=>rfl)) av))) av)))))) bQ)
   (ar (b7 (aQ kX u0 (ag (wpv 2)) (aq af) (aM _)) (aB (a8 (bj (ab (bA aG) (ab (ag (wpv 3)) (ab (aK aw hr rfl (ab (ag (wpv 0)) (ab (aq af) av))) av)))))) bQ)
   (aB (a8 (bj (ab (bA aG) (ab (ag (wpv 3)) (ab (dE dD dC (aq af) (aK aw hr rfl (ab (ag (wpv 0)) (ab (bo hu (jq (ab (aq af) (ab (aq af) av))) (aK aw hr rfl (ab (ag (wpv 0)) (ab (aq af) av))) (fun _ _=>rfl) (fun _ _=>rfl)) av)))) av)))))))))))
theorem gU:aN ["pen","world","room","tries","deeds","left","k","way","hand","one","other"] ["pen","world","room","tries"] (ay fR):=⟨rfl,rfl,rfl,by decide +kernel,rfl,by decide +kernel,by decide +kernel⟩
theorem eF{k:Nat}{ah aR aC aJ:Fn}(d:Def K mg "_law_dealing" fR ["pen","world","room","tries"])(B:Blt mg)(aw:c8 P w K mg base "_law_take" (k) ["pen","many"] ah)(bP:c8 P w K mg base "_law_plain_deed" (k) ["pen","world","way","hand"] aR)(eJ:c8 P w K mg base "_law_dealing" (k) ["pen","world","room","tries"] aC)(fC:c8 P w K mg base "_law_size" (k) ["dealing"] aJ):c8 P w K mg base "_law_dealing" (k+1) ["pen","world","room","tries"] (fnU 11 4 (dk ah aR aC aJ)):=
 d.pure gU fun f cdv A outer s H E hr=>(by
  have hu:=dj hr
  have nd:=gU.nd
  exact(ar (aI (i:=4) nd rfl (by first|exact Or.inl rfl|exact Or.inr rfl) (jq av))
   (ar (aI (i:=5) nd rfl (by first|exact Or.inl rfl|exact Or.inr rfl) (ag (wpv 2)))
   (ar (jo PassesOwn.never rfl (f6 rfl B.range (ab (aK aw hr rfl (ab (ag (wpv 0)) (ab (dE dD dC (bK (x5 rfl) Ki rfl B.min OG.AA (ab (aq af) (ab (ag (wpv 2)) av))) (aq af)) av))) av)) (eX (br (i:=6) nd rfl (by first|exact Or.inl rfl|exact Or.inr rfl))) (ar (aI (i:=7) nd rfl (by first|exact Or.inl rfl|exact Or.inr rfl) (aK aw hr rfl (ab (ag (wpv 0)) (ab (aq af) av))))
   (ar (aI (i:=8) nd rfl (by first|exact Or.inl rfl|exact Or.inr rfl) (aK aw hr rfl (ab (ag (wpv 0)) (ab (aq af) av))))
   (aB (b7 (wb (mx (aQ qX Dm (ag (wpv 5)) (aq af) (aM _)) (mx (aQ kX u0 (bK fT fS rfl B.len PySem.boot_len (ab (ag (wpv 4)) av)) (aq af) (aM _)) (kG (aQ kX u0 (ag (wpv 7)) (aq af) (aM _)))))) (ar (cq (dq (ag (wpv 4)) (ab (aK bP hr rfl (ab (ag (wpv 0)) (ab (ag (wpv 1)) (ab (ag (wpv 7)) (ab (ag (wpv 8)) av))))) av)))
   (aB (aI (i:=5) nd rfl (by first|exact Or.inl rfl|exact Or.inr rfl) (dE kI pR (ag (wpv 5)) (aq af))))) (aB (b7 (wb (mx (aQ qX Dm (ag (wpv 5)) (aq af) (aM _)) (mx (aQ kX u0 (bK fT fS rfl B.len PySem.boot_len (ab (ag (wpv 4)) av)) (aq af) (aM _)) (kG (wb (J9 (aQ eN kH (ag (wpv 7)) (aq af) (aM _)) (CP (aQ eN kH (ag (wpv 3)) (aq af) (aM _))))))))) (ar (b7 (wb (mx (aQ qX Dm (ag (wpv 5)) (aq af) (aM _)) (mx (aQ kX u0 (bK fT fS rfl B.len PySem.boot_len (ab (ag (wpv 4)) av)) (aq af) (aM _)) (kG (aQ qX Dm (aK aw hr rfl (ab (ag (wpv 0)) (ab (aq af) av))) (aq af) (aM _)))))) (ar (cq (dq (ag (wpv 4)) (ab (bj (ab (bA aG) (ab (ag (wpv 8)) (ab (aq af) av)))) av)))
   (aB (aI (i:=5) nd rfl (by first|exact Or.inl rfl|exact Or.inr rfl) (dE kI pR (ag (wpv 5)) (aq af))))) bQ)
   (ar (cq (dq (ag (wpv 4)) (ab (bj (ab (bA aG) av)) av)))
   (aB (aI (i:=5) nd rfl (by first|exact Or.inl rfl|exact Or.inr rfl) (dE kI pR (ag (wpv 5)) (aq af)))))) (aB (b7 (wb (mx (aQ qX Dm (ag (wpv 5)) (aq af) (aM _)) (kG (aQ kX u0 (bK fT fS rfl B.len PySem.boot_len (ab (ag (wpv 4)) av)) (aq af) (aM _))))) (ar (aI (i:=9) nd rfl (by first|exact Or.inl rfl|exact Or.inr rfl) (aK eJ hr rfl (ab (ag (wpv 0)) (ab (ag (wpv 1)) (ab (aK aw hr rfl (ab (ag (wpv 0)) (ab (ag (wpv 5)) av))) (ab (dE kI pR (ag (wpv 3)) (aq af)) av))))))
   (ar (aI (i:=5) nd rfl (by first|exact Or.inl rfl|exact Or.inr rfl) (dE kI pR (dE kI pR (ag (wpv 5)) (aq af)) (aK fC hr rfl (ab (ag (wpv 9)) av))))
   (ar (aI (i:=10) nd rfl (by first|exact Or.inl rfl|exact Or.inr rfl) (aK eJ hr rfl (ab (ag (wpv 0)) (ab (ag (wpv 1)) (ab (aK aw hr rfl (ab (ag (wpv 0)) (ab (dE dD dC (ag (wpv 5)) (aq af)) av))) (ab (dE kI pR (ag (wpv 3)) (aq af)) av))))))
   (ar (aI (i:=5) nd rfl (by first|exact Or.inl rfl|exact Or.inr rfl) (dE kI pR (ag (wpv 5)) (aK fC hr rfl (ab (ag (wpv 10)) av))))
   (aB (cq (dq (ag (wpv 4)) (ab (bj (ab (bA aG) (ab (ag (wpv 9)) (ab (ag (wpv 10)) av)))) av)))))))) bQ)))))))))
   (aB (a8 (eD cY jL rfl B.tuple OG.fj (ab (ag (wpv 4)) av))))))))
theorem nH:aN ["row","place","value"] ["row","place","value"] (ay mi):=⟨rfl,rfl,rfl,by decide +kernel,rfl,by decide +kernel,by decide +kernel⟩
theorem xo{k:Nat}(d:Def K mg "with_at" mi ["row","place","value"])(B:Blt mg):c8 P w K mg base "with_at" (k+1) ["row","place","value"] (fnU 3 3 (gk )):=
 d.pure nH fun f cdv A outer s H E hr=>(by
  have hu:=dj hr
  have nd:=nH.nd
  exact(aB (a8 (dE dD dC (dE dD dC (LG (ag (wpv 0)) wa (v8 (ag (wpv 1)))) (bj (ab (ag (wpv 2)) av))) (LG (ag (wpv 0)) (v8 (dE dD dC (ag (wpv 1)) (aq af))) wa)))))
theorem nI:aN ["part","reached"] ["part"] (ay mj):=⟨rfl,rfl,rfl,by decide +kernel,rfl,by decide +kernel,by decide +kernel⟩
theorem xp{k:Nat}{fuel:Nat}(d:Def K mg "onwards" mj ["part"])(B:Blt mg):c8 P w K mg base "onwards" (k+1) ["part"] (fnU 2 1 (gn fuel)):=
 d.pure nI fun f cdv A outer s H E hr=>(by
  have hu:=dj hr
  have nd:=nI.nd
  exact(ar (aI (i:=1) nd rfl (by first|exact Or.inl rfl|exact Or.inr rfl) (ag (wpv 0)))
   (ar (oA fuel PassesOwn.never (wb (mx (aQ Dr Kk (bo hu (ag (wpv 1)) (aq af) (fun _ _=>rfl) (fun _ _=>rfl)) (bK fT fS rfl B.len PySem.boot_len (ab (bo hu (ag (wpv 1)) (aq af) (fun _ _=>rfl) (fun _ _=>rfl)) av)) (aM _)) (kG (aQ qV wy (bo hu (ag (wpv 1)) (aq af) (fun _ _=>rfl) (fun _ _=>rfl)) (oB gA) (aM _))))) (aB (aI (i:=1) nd rfl (by first|exact Or.inl rfl|exact Or.inr rfl) (bo hu (ag (wpv 1)) (aq af) (fun _ _=>rfl) (fun _ _=>rfl)))))
   (aB (a8 (ag (wpv 1)))))))
theorem jm:aN ["self"] ["self"] (ay g8):=⟨rfl,rfl,rfl,by decide +kernel,rfl,by decide +kernel,by decide +kernel⟩
theorem qe{k:Nat}{ao:Cl}(d:MtD K ao.C "deed" "Doing.deed" g8 ["self"])(B:Blt mg)(TDoing:TC K ao ["wheel","held","puts","part"]):iQ P w K mg base ao "deed" (k+1) ["self"] (fnU 1 1 (cT ao)):=
 d.pure jm fun f cdv A outer s H E hr=>(by
  have hu:=dj hr
  have nd:=jm.nd
  exact(ar (b7 (aQ Dr Kk (bo hu (gD TDoing.cl (TDoing.na 3 rfl) (TDoing.ix rfl) (ag (wpv 0))) (aq af) (fun _ _=>rfl) (fun _ _=>rfl)) (bK fT fS rfl B.len PySem.boot_len (ab (bo hu (gD TDoing.cl (TDoing.na 3 rfl) (TDoing.ix rfl) (ag (wpv 0))) (aq af) (fun _ _=>rfl) (fun _ _=>rfl)) av)) (aM _)) (aB (a8 (oB gA))) bQ)
   (aB (a8 (bo hu (bo hu (gD TDoing.cl (TDoing.na 3 rfl) (TDoing.ix rfl) (ag (wpv 0))) (aq af) (fun _ _=>rfl) (fun _ _=>rfl)) (bo hu (gD TDoing.cl (TDoing.na 3 rfl) (TDoing.ix rfl) (ag (wpv 0))) (aq af) (fun _ _=>rfl) (fun _ _=>rfl)) (fun _ _=>rfl) (fun _ _=>rfl))))))
theorem jn:aN ["self","deed"] ["self"] (ay g9):=⟨rfl,rfl,rfl,by decide +kernel,rfl,by decide +kernel,by decide +kernel⟩
theorem qf{k:Nat}{aA:Fn}{ao:Cl}(d:MtD K ao.C "asks" "Doing.asks" g9 ["self"])(B:Blt mg)(TDoing:TC K ao ["wheel","held","puts","part"])(M_Doing_deed:iQ P w K mg base ao "deed" (k) ["self"] aA):iQ P w K mg base ao "asks" (k+1) ["self"] (fnU 2 1 (cU aA ao)):=
 d.pure jn fun f cdv A outer s H E hr=>(by
  have hu:=dj hr
  have nd:=jn.nd
  exact(ar (aI (i:=1) nd rfl (by first|exact Or.inl rfl|exact Or.inr rfl) (gC TDoing.cl M_Doing_deed hr (TDoing.nm (by decide +kernel)) (ag (wpv 0))))
   (aB (a8 (A0 (wg eN kH (bo hu (ag (wpv 1)) (aq af) (fun _ _=>rfl) (fun _ _=>rfl)) (bA aG) (aM _)) (FO (wg A2 Gx (bo hu (gD TDoing.cl (TDoing.na 2 rfl) (TDoing.ix rfl) (ag (wpv 0))) (bo hu (ag (wpv 1)) (aq af) (fun _ _=>rfl) (fun _ _=>rfl)) (fun _ _=>rfl) (fun _ _=>rfl)) (oB gA) (aM _))))))))
theorem jk:aN ["self","hand","number"] ["self","hand","number"] (ay gZ):=⟨rfl,rfl,rfl,by decide +kernel,rfl,by decide +kernel,by decide +kernel⟩
theorem qc{k:Nat}{bR:Fn}{ao:Cl}(d:MtD K ao.C "hold" "Doing.hold" gZ ["self","hand","number"])(B:Blt mg)(TDoing:TC K ao ["wheel","held","puts","part"])(gv:c8 P w K mg base "with_at" (k) ["row","place","value"] bR):iQ P w K mg base ao "hold" (k+1) ["self","hand","number"] (fnU 3 3 (dA bR ao)):=
 d.pure jk fun f cdv A outer s H E hr=>(by
  have hu:=dj hr
  have nd:=jk.nd
  exact(aB (ft TDoing.cl (TDoing.na 1 rfl) (TDoing.ix rfl) (ag (wpv 0)) (aK gv hr rfl (ab (gD TDoing.cl (TDoing.na 1 rfl) (TDoing.ix rfl) (ag (wpv 0))) (ab (ag (wpv 1)) (ab (ag (wpv 2)) av)))))))
theorem fc:aN ["self","left_out","part"] ["self","left_out"] (ay dv):=⟨rfl,rfl,rfl,by decide +kernel,rfl,by decide +kernel,by decide +kernel⟩
theorem i0{k:Nat}{ao:Cl}(d:MtD K ao.C "part_behind" "Doing.part_behind" dv ["self","left_out"])(B:Blt mg)(TDoing:TC K ao ["wheel","held","puts","part"]):iQ P w K mg base ao "part_behind" (k+1) ["self","left_out"] (fnU 3 2 (bw ao)):=
 d.pure fc fun f cdv A outer s H E hr=>(by
  have hu:=dj hr
  have nd:=fc.nd
  exact(ar (aI (i:=2) nd rfl (by first|exact Or.inl rfl|exact Or.inr rfl) (gD TDoing.cl (TDoing.na 3 rfl) (TDoing.ix rfl) (ag (wpv 0))))
   (aB (a8 (bj (ab (bo hu (ag (wpv 2)) (aq af) (fun _ _=>rfl) (fun _ _=>rfl)) (ab (dE dD dC (dE dD dC (bo hu (ag (wpv 2)) (aq af) (fun _ _=>rfl) (fun _ _=>rfl)) (aq af)) (ag (wpv 1))) (ab (bo hu (ag (wpv 2)) (aq af) (fun _ _=>rfl) (fun _ _=>rfl)) (ab (bo hu (ag (wpv 2)) (aq af) (fun _ _=>rfl) (fun _ _=>rfl)) av)))))))))
theorem fJ:aN ["self","left_out"] ["self","left_out"] (ay dZ):=⟨rfl,rfl,rfl,by decide +kernel,rfl,by decide +kernel,by decide +kernel⟩
theorem jP{k:Nat}{aW aE:Fn}{ao:Cl}(d:MtD K ao.C "go_behind" "Doing.go_behind" dZ ["self","left_out"])(B:Blt mg)(TDoing:TC K ao ["wheel","held","puts","part"])(dn:c8 P w K mg base "onwards" (k) ["part"] aW)(M_Doing_part_behind:iQ P w K mg base ao "part_behind" (k) ["self","left_out"] aE):iQ P w K mg base ao "go_behind" (k+1) ["self","left_out"] (fnU 2 2 (bN aW aE ao)):=
 d.pure fJ fun f cdv A outer s H E hr=>(by
  have hu:=dj hr
  have nd:=fJ.nd
  exact(aB (ft TDoing.cl (TDoing.na 3 rfl) (TDoing.ix rfl) (ag (wpv 0)) (aK dn hr rfl (ab (iJ TDoing.cl M_Doing_part_behind hr (TDoing.nm (by decide +kernel)) (ag (wpv 0)) (ab (ag (wpv 1)) av)) av)))))
theorem jl:aN ["self","number"] ["self","number"] (ay g7):=⟨rfl,rfl,rfl,by decide +kernel,rfl,by decide +kernel,by decide +kernel⟩
theorem qd{k:Nat}{aT aA aF:Fn}{ao:Cl}(d:MtD K ao.C "hear" "Doing.hear" g7 ["self","number"])(B:Blt mg)(TDoing:TC K ao ["wheel","held","puts","part"])(M_Doing_hold:iQ P w K mg base ao "hold" (k) ["self","hand","number"] aT)(M_Doing_deed:iQ P w K mg base ao "deed" (k) ["self"] aA)(M_Doing_go_behind:iQ P w K mg base ao "go_behind" (k) ["self","left_out"] aF):iQ P w K mg base ao "hear" (k+1) ["self","number"] (fnU 2 2 (dB aT aA aF ao)):=
 d.pure jl fun f cdv A outer s H E hr=>(by
  have hu:=dj hr
  have nd:=jl.nd
  exact(ar (cq (iJ TDoing.cl M_Doing_hold hr (TDoing.nm (by decide +kernel)) (ag (wpv 0)) (ab (bo hu (gC TDoing.cl M_Doing_deed hr (TDoing.nm (by decide +kernel)) (ag (wpv 0))) (aq af) (fun _ _=>rfl) (fun _ _=>rfl)) (ab (ag (wpv 1)) av))))
   (aB (cq (iJ TDoing.cl M_Doing_go_behind hr (TDoing.nm (by decide +kernel)) (ag (wpv 0)) (ab (aq af) av))))))
theorem fK:aN ["self","one","other","behind","instead"] ["self","one","other"] (ay d3):=⟨rfl,rfl,rfl,by decide +kernel,rfl,by decide +kernel,by decide +kernel⟩
theorem jQ{k:Nat}{aW aE:Fn}{ao:Cl}(d:MtD K ao.C "enter_try" "Doing.enter_try" d3 ["self","one","other"])(B:Blt mg)(TDoing:TC K ao ["wheel","held","puts","part"])(dn:c8 P w K mg base "onwards" (k) ["part"] aW)(M_Doing_part_behind:iQ P w K mg base ao "part_behind" (k) ["self","left_out"] aE):iQ P w K mg base ao "enter_try" (k+1) ["self","one","other"] (fnU 5 3 (bO aW aE ao)):=
 d.pure fK fun f cdv A outer s H E hr=>(by
  have hu:=dj hr
  have nd:=fK.nd
  exact(ar (aI (i:=3) nd rfl (by first|exact Or.inl rfl|exact Or.inr rfl) (iJ TDoing.cl M_Doing_part_behind hr (TDoing.nm (by decide +kernel)) (ag (wpv 0)) (ab (aq af) av)))
   (ar (aI (i:=4) nd rfl (by first|exact Or.inl rfl|exact Or.inr rfl) (aK dn hr rfl (ab (bj (ab (ag (wpv 2)) (ab (aq af) (ab (ag (wpv 3)) (ab (bo hu (ag (wpv 3)) (aq af) (fun _ _=>rfl) (fun _ _=>rfl)) av))))) av)))
   (aB (ft TDoing.cl (TDoing.na 3 rfl) (TDoing.ix rfl) (ag (wpv 0)) (aK dn hr rfl (ab (bj (ab (ag (wpv 1)) (ab (aq af) (ab (ag (wpv 3)) (ab (bj (ab (gD TDoing.cl (TDoing.na 1 rfl) (TDoing.ix rfl) (ag (wpv 0))) (ab (gD TDoing.cl (TDoing.na 2 rfl) (TDoing.ix rfl) (ag (wpv 0))) (ab (ag (wpv 4)) av)))) av))))) av)))))))
theorem fH:aN ["self","back"] ["self"] (ay dY):=⟨rfl,rfl,rfl,by decide +kernel,rfl,by decide +kernel,by decide +kernel⟩
theorem jO{k:Nat}{ao:Cl}(d:MtD K ao.C "goes_back" "Doing.goes_back" dY ["self"])(B:Blt mg)(TDoing:TC K ao ["wheel","held","puts","part"]):iQ P w K mg base ao "goes_back" (k+1) ["self"] (fnU 2 1 (bx ao)):=
 d.pure fH fun f cdv A outer s H E hr=>(by
  have hu:=dj hr
  have nd:=fH.nd
  exact(ar (aI (i:=1) nd rfl (by first|exact Or.inl rfl|exact Or.inr rfl) (bo hu (gD TDoing.cl (TDoing.na 3 rfl) (TDoing.ix rfl) (ag (wpv 0))) (aq af) (fun _ _=>rfl) (fun _ _=>rfl)))
   (ar (b7 (aQ A2 Gx (ag (wpv 1)) (oB gA) (aM _)) (aB (a8 (uv fW))) bQ)
   (ar (ft TDoing.cl (TDoing.na 1 rfl) (TDoing.ix rfl) (ag (wpv 0)) (bo hu (ag (wpv 1)) (aq af) (fun _ _=>rfl) (fun _ _=>rfl)))
   (ar (ft TDoing.cl (TDoing.na 2 rfl) (TDoing.ix rfl) (ag (wpv 0)) (bo hu (ag (wpv 1)) (aq af) (fun _ _=>rfl) (fun _ _=>rfl)))
   (ar (ft TDoing.cl (TDoing.na 3 rfl) (TDoing.ix rfl) (ag (wpv 0)) (bo hu (ag (wpv 1)) (aq af) (fun _ _=>rfl) (fun _ _=>rfl)))
   (aB (a8 (uv fW)))))))))
theorem gM:aN ["self","deed","word","left_out"] ["self"] (ay fq):=⟨rfl,rfl,rfl,by decide +kernel,rfl,by decide +kernel,by decide +kernel⟩
theorem mL{k:Nat}{bR aA bt bu aT aF:Fn}{ao:Cl}(d:MtD K ao.C "do_deed" "Doing.do_deed" fq ["self"])(B:Blt mg)(TDoing:TC K ao ["wheel","held","puts","part"])(gv:c8 P w K mg base "with_at" (k) ["row","place","value"] bR)(M_Doing_deed:iQ P w K mg base ao "deed" (k) ["self"] aA)(M_Doing_goes_back:iQ P w K mg base ao "goes_back" (k) ["self"] bt)(M_Doing_enter_try:iQ P w K mg base ao "enter_try" (k) ["self","one","other"] bu)(M_Doing_hold:iQ P w K mg base ao "hold" (k) ["self","hand","number"] aT)(M_Doing_go_behind:iQ P w K mg base ao "go_behind" (k) ["self","left_out"] aF):iQ P w K mg base ao "do_deed" (k+1) ["self"] (fnU 4 1 (aS bR aA bt bu aT aF ao)):=
 d.pure gM fun f cdv A outer s H E hr=>(by
  have hu:=dj hr
  have nd:=gM.nd
  exact(ar (aI (i:=1) nd rfl (by first|exact Or.inl rfl|exact Or.inr rfl) (gC TDoing.cl M_Doing_deed hr (TDoing.nm (by decide +kernel)) (ag (wpv 0))))
   (ar (aI (i:=2) nd rfl (by first|exact Or.inl rfl|exact Or.inr rfl) (bo hu (ag (wpv 1)) (aq af) (fun _ _=>rfl) (fun _ _=>rfl)))
   (ar (b7 (aQ eN kH (ag (wpv 2)) (bA aG) (aM _)) (aB (a8 (gC TDoing.cl M_Doing_goes_back hr (TDoing.nm (by decide +kernel)) (ag (wpv 0))))) bQ)
   (ar (b7 (aQ eN kH (ag (wpv 2)) (bA aG) (aM _)) (ar (cq (iJ TDoing.cl M_Doing_enter_try hr (TDoing.nm (by decide +kernel)) (ag (wpv 0)) (ab (bo hu (ag (wpv 1)) (aq af) (fun _ _=>rfl) (fun _ _=>rfl)) (ab (bo hu (ag (wpv 1)) (aq af) (fun _ _=>rfl) (fun _ _=>rfl)) av))))
   (aB (a8 (uv fW)))) bQ)
   (ar (aI (i:=3) nd rfl (by first|exact Or.inl rfl|exact Or.inr rfl) (aq af))
   (ar (b7 (aQ eN kH (ag (wpv 2)) (bA aG) (aM _)) (aB (cq (iJ TDoing.cl M_Doing_hold hr (TDoing.nm (by decide +kernel)) (ag (wpv 0)) (ab (bo hu (ag (wpv 1)) (aq af) (fun _ _=>rfl) (fun _ _=>rfl)) (ab (bo hu (gD TDoing.cl (TDoing.na 2 rfl) (TDoing.ix rfl) (ag (wpv 0))) (bo hu (ag (wpv 1)) (aq af) (fun _ _=>rfl) (fun _ _=>rfl)) (fun _ _=>rfl) (fun _ _=>rfl)) av))))) (aB (b7 (aQ eN kH (ag (wpv 2)) (bA aG) (aM _)) (aB (ft TDoing.cl (TDoing.na 2 rfl) (TDoing.ix rfl) (ag (wpv 0)) (aK gv hr rfl (ab (gD TDoing.cl (TDoing.na 2 rfl) (TDoing.ix rfl) (ag (wpv 0))) (ab (bo hu (ag (wpv 1)) (aq af) (fun _ _=>rfl) (fun _ _=>rfl)) (ab (bo hu (gD TDoing.cl (TDoing.na 1 rfl) (TDoing.ix rfl) (ag (wpv 0))) (bo hu (ag (wpv 1)) (aq af) (fun _ _=>rfl) (fun _ _=>rfl)) (fun _ _=>rfl) (fun _ _=>rfl)) av)))))) (aB (b7 (aQ eN kH (ag (wpv 2)) (bA aG) (aM _)) (aB (cq (iJ TDoing.cl M_Doing_hold hr (TDoing.nm (by decide +kernel)) (ag (wpv 0)) (ab (bo hu (ag (wpv 1)) (aq af) (fun _ _=>rfl) (fun _ _=>rfl)) (ab (bo hu (ag (wpv 1)) (aq af) (fun _ _=>rfl) (fun _ _=>rfl)) av))))) (aB (b7 (aQ eN kH (ag (wpv 2)) (bA aG) (aM _)) (aB (cq (iJ TDoing.cl M_Doing_hold hr (TDoing.nm (by decide +kernel)) (ag (wpv 0)) (ab (bo hu (ag (wpv 1)) (aq af) (fun _ _=>rfl) (fun _ _=>rfl)) (ab (dE kJ pT (dE dD dC (bo hu (gD TDoing.cl (TDoing.na 1 rfl) (TDoing.ix rfl) (ag (wpv 0))) (bo hu (ag (wpv 1)) (aq af) (fun _ _=>rfl) (fun _ _=>rfl)) (fun _ _=>rfl) (fun _ _=>rfl)) (bo hu (gD TDoing.cl (TDoing.na 1 rfl) (TDoing.ix rfl) (ag (wpv 0))) (bo hu (ag (wpv 1)) (aq af) (fun _ _=>rfl) (fun _ _=>rfl)) (fun _ _=>rfl) (fun _ _=>rfl))) (gD TDoing.cl (TDoing.na 0 rfl) (TDoing.ix rfl) (ag (wpv 0)))) av))))) (aB (b7 (aQ eN kH (bo hu (gD TDoing.cl (TDoing.na 1 rfl) (TDoing.ix rfl) (ag (wpv 0))) (bo hu (ag (wpv 1)) (aq af) (fun _ _=>rfl) (fun _ _=>rfl)) (fun _ _=>rfl) (fun _ _=>rfl)) (aq af) (aM _)) (aB (aI (i:=3) nd rfl (by first|exact Or.inl rfl|exact Or.inr rfl) (bo hu (ag (wpv 1)) (aq af) (fun _ _=>rfl) (fun _ _=>rfl)))) bQ)))))))))
   (ar (cq (iJ TDoing.cl M_Doing_go_behind hr (TDoing.nm (by decide +kernel)) (ag (wpv 0)) (ab (ag (wpv 3)) av)))
   (aB (a8 (uv fW)))))))))))
theorem fG:aN ["self"] ["self"] (ay dX):=⟨rfl,rfl,rfl,by decide +kernel,rfl,by decide +kernel,by decide +kernel⟩
theorem jN{k:Nat}{ao:Cl}(d:MtD K ao.C "put_pairs" "Doing.put_pairs" dX ["self"])(B:Blt mg)(TDoing:TC K ao ["wheel","held","puts","part"]):iQ P w K mg base ao "put_pairs" (k+1) ["self"] (fnU 1 1 (bM ao)):=
 d.pure fG fun f cdv A outer s H E hr=>(by
  have hu:=dj hr
  have nd:=fG.nd
  exact(aB (a8 (zj (Nc:=["box","number"]) (tn:=["box","number"]) (capN:=[]) (caps:=[]) rfl (qR rfl B.enumerate (gD TDoing.cl (TDoing.na 2 rfl) (TDoing.ix rfl) (ag (wpv 0)))) (fun _ _ _=>(pN rfl (eC (br (i:=0) (show(["box","number"]:List Str).Nodup by decide +kernel) rfl (by first|exact Or.inl rfl|exact Or.inr rfl)) (eC (br (i:=1) (show(["box","number"]:List Str).Nodup by decide +kernel) rfl (by first|exact Or.inl rfl|exact Or.inr rfl)) mw)))) (fun _ _ _=>(aQ qV wy (ag (wpv 1)) (oB gA) (aM _))) (fun _ _ _=>(bj (ab (ag (wpv 0)) (ab (ag (wpv 1)) av)))) rfl rfl (by decide +kernel) (by decide +kernel) trivial rfl .nil rfl rfl))))
theorem jj:aN ["self","world","dealing"] ["self","world","dealing"] (ay gY):=⟨rfl,rfl,rfl,by decide +kernel,rfl,by decide +kernel,by decide +kernel⟩
theorem qb{k:Nat}{aW:Fn}{ao:Cl}(d:MkD K mg ao.C "Doing" "Doing.__init__" gY ["self","world","dealing"])(B:Blt mg)(TDoing:TC K ao ["wheel","held","puts","part"])(dn:c8 P w K mg base "onwards" (k) ["part"] aW):CMk P w K mg base ao "Doing" (k+1) ["self","world","dealing"] (fnU 3 3 (dz aW ao)):=
 d.pure TDoing jj fun f cdv A outer s H E hr=>(by
  have hu:=dj hr
  have nd:=jj.nd
  exact(ar (ft TDoing.cl (TDoing.na 0 rfl) (TDoing.ix rfl) (ag (wpv 0)) (bo hu (ag (wpv 1)) (aq af) (fun _ _=>rfl) (fun _ _=>rfl)))
   (ar (ft TDoing.cl (TDoing.na 1 rfl) (TDoing.ix rfl) (ag (wpv 0)) (bj (ab (aq af) (ab (aq af) (ab (aq af) (ab (aq af) av))))))
   (ar (ft TDoing.cl (TDoing.na 2 rfl) (TDoing.ix rfl) (ag (wpv 0)) (dE GC Gv (bj (ab (oB gA) av)) (bo hu (ag (wpv 1)) (aq af) (fun _ _=>rfl) (fun _ _=>rfl))))
   (aB (ft TDoing.cl (TDoing.na 3 rfl) (TDoing.ix rfl) (ag (wpv 0)) (aK dn hr rfl (ab (bj (ab (ag (wpv 2)) (ab (aq af) (ab (oB gA) (ab (oB gA) av))))) av))))))))
theorem gS:aN ["doing","state","looked","box"] ["doing","state","looked"] (ay fQ):=⟨rfl,rfl,rfl,by decide +kernel,rfl,by decide +kernel,by decide +kernel⟩
theorem nh{k:Nat}{aA bY bX bp:Fn}{ao:Cl}{fuel:Nat}(d:Def K mg "goes_through" fQ ["doing","state","looked"])(B:Blt mg)(TDoing:TC K ao ["wheel","held","puts","part"])(M_Doing_deed:iQ P w K mg base ao "deed" (k) ["self"] aA)(M_Doing_asks:iQ P w K mg base ao "asks" (k) ["self"] bY)(M_Doing_hear:iQ P w K mg base ao "hear" (k) ["self","number"] bX)(M_Doing_do_deed:iQ P w K mg base ao "do_deed" (k) ["self"] bp):c8 P w K mg base "goes_through" (k+1) ["doing","state","looked"] (fnU 4 3 (cf aA bY bX bp ao fuel)):=
 d.pure gS fun f cdv A outer s H E hr=>(by
  have hu:=dj hr
  have nd:=gS.nd
  exact(ar (oA fuel PassesOwn.never (aQ qV wy (gC TDoing.cl M_Doing_deed hr (TDoing.nm (by decide +kernel)) (ag (wpv 0))) (oB gA) (aM _)) (aB (b7 (sL (gC TDoing.cl M_Doing_asks hr (TDoing.nm (by decide +kernel)) (ag (wpv 0)))) (ar (aI (i:=3) nd rfl (by first|exact Or.inl rfl|exact Or.inr rfl) (bo hu (gC TDoing.cl M_Doing_deed hr (TDoing.nm (by decide +kernel)) (ag (wpv 0))) (aq af) (fun _ _=>rfl) (fun _ _=>rfl)))
   (ar (iA hu (ag (wpv 2)) (ag (wpv 3)) (uv fW))
   (aB (cq (iJ TDoing.cl M_Doing_hear hr (TDoing.nm (by decide +kernel)) (ag (wpv 0)) (ab (bo hu (ag (wpv 1)) (ag (wpv 3)) (fun _ _=>rfl) (fun _ _=>rfl)) av)))))) (aB (b7 (AZ (sL (gC TDoing.cl M_Doing_do_deed hr (TDoing.nm (by decide +kernel)) (ag (wpv 0))))) (aB (a8 (uv fW))) bQ)))))
   (aB (a8 (uv fW)))))
theorem sE:aN ["world","dealing","state","doing","looked","reached","box","number"] ["world","dealing","state"] (ay qO):=⟨rfl,rfl,rfl,by decide +kernel,rfl,by decide +kernel,by decide +kernel⟩
theorem DS{k:Nat}{bB aY bW:Fn}{ao:Cl}(d:Def K mg "alone" qO ["world","dealing","state"])(B:Blt mg)(TDoing:TC K ao ["wheel","held","puts","part"])(fV:c8 P w K mg base "goes_through" (k+1) ["doing","state","looked"] bB)(M_Doing_put_pairs:iQ P w K mg base ao "put_pairs" (k+1) ["self"] aY)(M_Doing:CMk P w K mg base ao "Doing" k ["self","world","dealing"] bW):c8 P w K mg base "alone" (k+1+1) ["world","dealing","state"] (fnU 8 3 (jb bB aY bW ao)):=
 d.pure sE fun f cdv A outer s H E hr=>(by
  have hu:=dj hr
  have nd:=sE.nd
  exact(ar (aI (i:=3) nd rfl (by first|exact Or.inl rfl|exact Or.inr rfl) (FP M_Doing hr rfl (ab (ag (wpv 0)) (ab (ag (wpv 1)) av))))
   (ar (aI (i:=4) nd rfl (by first|exact Or.inl rfl|exact Or.inr rfl) FQ)
   (ar (b7 (AZ (sL (aK fV hr rfl (ab (ag (wpv 3)) (ab (ag (wpv 2)) (ab (ag (wpv 4)) av)))))) (aB (a8 (bj (ab (bA aG) (ab (bK (zP rfl) zK rfl B.sorted OG.mS (ab (ag (wpv 4)) av)) av))))) bQ)
   (ar (aI (i:=5) nd rfl (by first|exact Or.inl rfl|exact Or.inr rfl) (eD kM Gw rfl B.list OG.ib (ab (ag (wpv 2)) av)))
   (ar (jo PassesOwn.never rfl (nK (gC TDoing.cl M_Doing_put_pairs hr (TDoing.nm (by decide +kernel)) (ag (wpv 3)))) (pN rfl (eC (br (i:=6) nd rfl (by first|exact Or.inl rfl|exact Or.inr rfl)) (eC (br (i:=7) nd rfl (by first|exact Or.inl rfl|exact Or.inr rfl)) mw))) (aB (iA hu (ag (wpv 5)) (ag (wpv 6)) (ag (wpv 7)))))
   (aB (a8 (bj (ab (bA aG) (ab (eD cY jL rfl B.tuple OG.fj (ab (ag (wpv 5)) av)) (ab (gD TDoing.cl (TDoing.na 1 rfl) (TDoing.ix rfl) (ag (wpv 3))) av))))))))))))
theorem pJ:aN ["world","dealings","state","order","reached","place","number","told"] ["world","dealings","state","order"] (ay oz):=⟨rfl,rfl,rfl,by decide +kernel,rfl,by decide +kernel,by decide +kernel⟩
theorem Ab{k:Nat}{cE:Fn}(d:Def K mg "in_row" oz ["world","dealings","state","order"])(B:Blt mg)(j5:c8 P w K mg base "alone" (k) ["world","dealing","state"] cE):c8 P w K mg base "in_row" (k+1) ["world","dealings","state","order"] (fnU 8 4 (iE cE)):=
 d.pure pJ fun f cdv A outer s H E hr=>(by
  have hu:=dj hr
  have nd:=pJ.nd
  exact(ar (aI (i:=4) nd rfl (by first|exact Or.inl rfl|exact Or.inr rfl) (ag (wpv 2)))
   (ar (jo PassesOwn.never rfl (qR rfl B.enumerate (ag (wpv 3))) (pN rfl (eC (br (i:=5) nd rfl (by first|exact Or.inl rfl|exact Or.inr rfl)) (eC (br (i:=6) nd rfl (by first|exact Or.inl rfl|exact Or.inr rfl)) mw))) (ar (aI (i:=7) nd rfl (by first|exact Or.inl rfl|exact Or.inr rfl) (aK j5 hr rfl (ab (ag (wpv 0)) (ab (bo hu (ag (wpv 1)) (ag (wpv 6)) (fun _ _=>rfl) (fun _ _=>rfl)) (ab (ag (wpv 4)) av)))))
   (ar (b7 (aQ eN kH (bo hu (ag (wpv 7)) (aq af) (fun _ _=>rfl) (fun _ _=>rfl)) (bA aG) (aM _)) (aB (a8 (bj (ab (bA aG) (ab (ag (wpv 5)) (ab (bo hu (ag (wpv 7)) (aq af) (fun _ _=>rfl) (fun _ _=>rfl)) av)))))) bQ)
   (aB (aI (i:=4) nd rfl (by first|exact Or.inl rfl|exact Or.inr rfl) (bo hu (ag (wpv 7)) (aq af) (fun _ _=>rfl) (fun _ _=>rfl)))))))
   (aB (a8 (bj (ab (bA aG) (ab (ag (wpv 4)) av))))))))
theorem kF:aN ["pen","world","box","there","way","guard","other","goal"] ["pen","world"] (ay iX):=⟨rfl,rfl,rfl,by decide +kernel,rfl,by decide +kernel,by decide +kernel⟩
theorem rC{k:Nat}{ah:Fn}(d:Def K mg "_law_keen" iX ["pen","world"])(B:Blt mg)(aw:c8 P w K mg base "_law_take" (k) ["pen","many"] ah):c8 P w K mg base "_law_keen" (k+1) ["pen","world"] (fnU 8 2 (dy ah)):=
 d.pure kF fun f cdv A outer s H E hr=>(by
  have hu:=dj hr
  have nd:=kF.nd
  exact(ar (aI (i:=2) nd rfl (by first|exact Or.inl rfl|exact Or.inr rfl) (aK aw hr rfl (ab (ag (wpv 0)) (ab (bo hu (ag (wpv 1)) (aq af) (fun _ _=>rfl) (fun _ _=>rfl)) av))))
   (ar (aI (i:=3) nd rfl (by first|exact Or.inl rfl|exact Or.inr rfl) (aK aw hr rfl (ab (ag (wpv 0)) (ab (bo hu (ag (wpv 1)) (aq af) (fun _ _=>rfl) (fun _ _=>rfl)) av))))
   (ar (aI (i:=4) nd rfl (by first|exact Or.inl rfl|exact Or.inr rfl) (aK aw hr rfl (ab (ag (wpv 0)) (ab (aq af) av))))
   (ar (aI (i:=5) nd rfl (by first|exact Or.inl rfl|exact Or.inr rfl) (bj (ab (bj (ab (bA aG) (ab (aq af) (ab (ag (wpv 2)) av)))) (ab (bj (ab (bA aG) (ab (aq af) (ab (aq af) av)))) (ab (bj (ab (bA aG) av)) av)))))
   (ar (b7 (aQ eN kH (ag (wpv 4)) (aq af) (aM _)) (aB (aI (i:=5) nd rfl (by first|exact Or.inl rfl|exact Or.inr rfl) (bj (ab (bj (ab (bA aG) (ab (aq af) (ab (ag (wpv 2)) av)))) (ab (bj (ab (bA aG) (ab (aq af) (ab (aq af) av)))) (ab (bj (ab (bA aG) (ab (aq af) (ab (aq af) av)))) (ab (bj (ab (bA aG) (ab (aq af) (ab (aq af) av)))) (ab (bj (ab (bA aG) av)) av)))))))) bQ)
   (ar (b7 (aQ eN kH (ag (wpv 4)) (aq af) (aM _)) (ar (aI (i:=6) nd rfl (by first|exact Or.inl rfl|exact Or.inr rfl) (bj (ab (bj (ab (bA aG) (ab (aq af) (ab (ag (wpv 3)) av)))) (ab (bj (ab (bA aG) (ab (aq af) (ab (aq af) av)))) (ab (bj (ab (bA aG) av)) av)))))
   (aB (aI (i:=5) nd rfl (by first|exact Or.inl rfl|exact Or.inr rfl) (bj (ab (bj (ab (bA aG) (ab (aq af) (ab (ag (wpv 2)) av)))) (ab (bj (ab (bA aG) (ab (bj (ab (bj (ab (bA aG) (ab (aq af) (ab (aq af) av)))) (ab (bj (ab (bA aG) (ab (aq af) (ab (aq af) av)))) (ab (bj (ab (bA aG) av)) av)))) (ab (ag (wpv 6)) av)))) av)))))) bQ)
   (ar (aI (i:=7) nd rfl (by first|exact Or.inl rfl|exact Or.inr rfl) (bo hu (jq (ab (ag (wpv 2)) (ab (ag (wpv 3)) av))) (aK aw hr rfl (ab (ag (wpv 0)) (ab (aq af) av))) (fun _ _=>rfl) (fun _ _=>rfl)))
   (aB (a8 (dE dD dC (ag (wpv 5)) (bj (ab (bj (ab (bA aG) (ab (aq af) (ab (aK aw hr rfl (ab (ag (wpv 0)) (ab (aq af) av))) av)))) (ab (bj (ab (bA aG) (ab (ag (wpv 7)) (ab (aq af) av)))) av))))))))))))))
theorem eM:aN ["pen","world","most","found","many","k"] ["pen","world","most"] (ay de):=⟨rfl,rfl,rfl,by decide +kernel,rfl,by decide +kernel,by decide +kernel⟩
theorem iF{k:Nat}{ah aC cF:Fn}(d:Def K mg "_law_some_dealings" de ["pen","world","most"])(B:Blt mg)(aw:c8 P w K mg base "_law_take" (k) ["pen","many"] ah)(eJ:c8 P w K mg base "_law_dealing" (k) ["pen","world","room","tries"] aC)(jc:c8 P w K mg base "_law_keen" (k) ["pen","world"] cF):c8 P w K mg base "_law_some_dealings" (k+1) ["pen","world","most"] (fnU 6 3 (bI ah aC cF)):=
 d.pure eM fun f cdv A outer s H E hr=>(by
  have hu:=dj hr
  have nd:=eM.nd
  exact(ar (aI (i:=3) nd rfl (by first|exact Or.inl rfl|exact Or.inr rfl) (jq av))
   (ar (aI (i:=4) nd rfl (by first|exact Or.inl rfl|exact Or.inr rfl) (dE dD dC (aq af) (aK aw hr rfl (ab (ag (wpv 0)) (ab (ag (wpv 2)) av)))))
   (ar (jo PassesOwn.never rfl (f6 rfl B.range (ab (ag (wpv 4)) av)) (eX (br (i:=5) nd rfl (by first|exact Or.inl rfl|exact Or.inr rfl))) (aB (b7 (wb (mx (aQ kX u0 (ag (wpv 4)) (aq af) (aM _)) (kG (aQ eN kH (aK aw hr rfl (ab (ag (wpv 0)) (ab (aq af) av))) (aq af) (aM _))))) (aB (cq (dq (ag (wpv 3)) (ab (aK eJ hr rfl (ab (ag (wpv 0)) (ab (ag (wpv 1)) (ab (aq af) (ab (aq af) av))))) av)))) (aB (cq (dq (ag (wpv 3)) (ab (aK jc hr rfl (ab (ag (wpv 0)) (ab (ag (wpv 1)) av))) av)))))))
   (aB (a8 (ag (wpv 3))))))))
theorem fZ:aN ["pen","world"] ["pen","world"] (ay eW):=⟨rfl,rfl,rfl,by decide +kernel,rfl,by decide +kernel,by decide +kernel⟩
theorem k7{k:Nat}{ah:Fn}(d:Def K mg "_law_few_state" eW ["pen","world"])(B:Blt mg)(aw:c8 P w K mg base "_law_take" (k) ["pen","many"] ah):c8 P w K mg base "_law_few_state" (k+1) ["pen","world"] (fnU 2 2 (cK ah)):=
 d.pure fZ fun f cdv A outer s H E hr=>(by
  have hu:=dj hr
  have nd:=fZ.nd
  exact(aB (a8 (eD cY jL rfl B.tuple OG.fj (ab (we (Nc:=["box","pen","world"]) (tn:=["box"]) (capN:=["pen","world"]) (caps:=[0,1]) rfl (f6 rfl B.range (ab (bo hu (ag (wpv 1)) (aq af) (fun _ _=>rfl) (fun _ _=>rfl)) av)) (fun _ _ _=>(eX (br (i:=0) (show(["box","pen","world"]:List Str).Nodup by decide +kernel) rfl (by first|exact Or.inl rfl|exact Or.inr rfl)))) (fun _ _ _=>(aK aw hr rfl (ab (ag (wpv 1)) (ab (bo hu (jq (ab (aq af) (ab (bo hu (ag (wpv 2)) (aq af) (fun _ _=>rfl) (fun _ _=>rfl)) av))) (eD ya Kj rfl B.int OG.AB (ab (wg eN kH (aK aw hr rfl (ab (ag (wpv 1)) (ab (aq af) av))) (aq af) (aM _)) av)) (fun _ _=>rfl) (fun _ _=>rfl)) av)))) rfl rfl (by decide +kernel) (by decide +kernel) ⟨rfl,rfl,trivial⟩ rfl (.cons ⟨rfl,rfl,rfl,_,rfl⟩ (.cons ⟨rfl,rfl,rfl,_,rfl⟩ .nil)) rfl rfl) av)))))
theorem ji:aN ["dealing","boxes","found","deed"] ["dealing","boxes"] (ay gX):=⟨rfl,rfl,rfl,by decide +kernel,rfl,by decide +kernel,by decide +kernel⟩
theorem fM{k:Nat}{aP:Fn}(d:Def K mg "_law_moved" gX ["dealing","boxes"])(B:Blt mg)(fP:c8 P w K mg base "_law_moved" (k) ["dealing","boxes"] aP):c8 P w K mg base "_law_moved" (k+1) ["dealing","boxes"] (fnU 4 2 (eR aP)):=
 d.pure ji fun f cdv A outer s H E hr=>(by
  have hu:=dj hr
  have nd:=ji.nd
  exact(ar (aI (i:=2) nd rfl (by first|exact Or.inl rfl|exact Or.inr rfl) (jq av))
   (ar (jo PassesOwn.never rfl (nK (ag (wpv 0))) (eX (br (i:=3) nd rfl (by first|exact Or.inl rfl|exact Or.inr rfl))) (aB (b7 (aQ eN kH (bo hu (ag (wpv 3)) (aq af) (fun _ _=>rfl) (fun _ _=>rfl)) (bA aG) (aM _)) (aB (cq (dq (ag (wpv 2)) (ab (bj (ab (bA aG) (ab (bo hu (ag (wpv 3)) (aq af) (fun _ _=>rfl) (fun _ _=>rfl)) (ab (bo hu (ag (wpv 1)) (bo hu (ag (wpv 3)) (aq af) (fun _ _=>rfl) (fun _ _=>rfl)) (fun _ _=>rfl) (fun _ _=>rfl)) av)))) av)))) (aB (b7 (aQ eN kH (bo hu (ag (wpv 3)) (aq af) (fun _ _=>rfl) (fun _ _=>rfl)) (bA aG) (aM _)) (aB (cq (dq (ag (wpv 2)) (ab (bj (ab (bA aG) (ab (bo hu (ag (wpv 1)) (bo hu (ag (wpv 3)) (aq af) (fun _ _=>rfl) (fun _ _=>rfl)) (fun _ _=>rfl) (fun _ _=>rfl)) (ab (bo hu (ag (wpv 3)) (aq af) (fun _ _=>rfl) (fun _ _=>rfl)) av)))) av)))) (aB (b7 (aQ eN kH (bo hu (ag (wpv 3)) (aq af) (fun _ _=>rfl) (fun _ _=>rfl)) (bA aG) (aM _)) (aB (cq (dq (ag (wpv 2)) (ab (bj (ab (bA aG) (ab (aK fP hr rfl (ab (bo hu (ag (wpv 3)) (aq af) (fun _ _=>rfl) (fun _ _=>rfl)) (ab (ag (wpv 1)) av))) (ab (aK fP hr rfl (ab (bo hu (ag (wpv 3)) (aq af) (fun _ _=>rfl) (fun _ _=>rfl)) (ab (ag (wpv 1)) av))) av)))) av)))) (aB (cq (dq (ag (wpv 2)) (ab (ag (wpv 3)) av)))))))))))
   (aB (a8 (eD cY jL rfl B.tuple OG.fj (ab (ag (wpv 2)) av)))))))
theorem gK:aN ["pen","many","left"] ["pen","many"] (ay fk):=⟨rfl,rfl,rfl,by decide +kernel,rfl,by decide +kernel,by decide +kernel⟩
theorem mK{k:Nat}{ah:Fn}(d:Def K mg "_law_shuffled" fk ["pen","many"])(B:Blt mg)(aw:c8 P w K mg base "_law_take" (k) ["pen","many"] ah):c8 P w K mg base "_law_shuffled" (k+1) ["pen","many"] (fnU 3 2 (cS ah)):=
 d.pure gK fun f cdv A outer s H E hr=>(by
  have hu:=dj hr
  have nd:=gK.nd
  exact(ar (aI (i:=2) nd rfl (by first|exact Or.inl rfl|exact Or.inr rfl) (qS rfl rfl B.list rfl B.range (ab (ag (wpv 1)) av) rfl rfl))
   (aB (a8 (we (Nc:=["k","left","pen"]) (tn:=["k"]) (capN:=["left","pen"]) (caps:=[2,0]) rfl (f6 rfl B.range (ab (ag (wpv 1)) av)) (fun _ _ _=>(eX (br (i:=0) (show(["k","left","pen"]:List Str).Nodup by decide +kernel) rfl (by first|exact Or.inl rfl|exact Or.inr rfl)))) (fun _ _ _=>(wd (ag (wpv 1)) (ab (aK aw hr rfl (ab (ag (wpv 2)) (ab (bK fT fS rfl B.len PySem.boot_len (ab (ag (wpv 1)) av)) av))) av))) rfl rfl (by decide +kernel) (by decide +kernel) ⟨rfl,rfl,trivial⟩ rfl (.cons ⟨rfl,rfl,rfl,_,rfl⟩ (.cons ⟨rfl,rfl,rfl,_,rfl⟩ .nil)) rfl rfl)))))
theorem kx:aN ["world","dealings","place","ways","number","dealing","told"] ["world","dealings","place"] (ay iU):=⟨rfl,rfl,rfl,by decide +kernel,rfl,by decide +kernel,by decide +kernel⟩
theorem rA{k:Nat}{cE:Fn}(d:Def K mg "ways_from" iU ["world","dealings","place"])(B:Blt mg)(j5:c8 P w K mg base "alone" (k) ["world","dealing","state"] cE):c8 P w K mg base "ways_from" (k+1) ["world","dealings","place"] (fnU 7 3 (d8 cE)):=
 d.pure kx fun f cdv A outer s H E hr=>(by
  have hu:=dj hr
  have nd:=kx.nd
  exact(ar (aI (i:=3) nd rfl (by first|exact Or.inl rfl|exact Or.inr rfl) (jq av))
   (ar (jo PassesOwn.never rfl (qR rfl B.enumerate (ag (wpv 1))) (pN rfl (eC (br (i:=4) nd rfl (by first|exact Or.inl rfl|exact Or.inr rfl)) (eC (br (i:=5) nd rfl (by first|exact Or.inl rfl|exact Or.inr rfl)) mw))) (aB (b7 (zi hu (ag (wpv 4)) (bo hu (ag (wpv 2)) (aq af) (fun _ _=>rfl) (fun _ _=>rfl)) (by with_unfolding_all rfl)) (ar (aI (i:=6) nd rfl (by first|exact Or.inl rfl|exact Or.inr rfl) (aK j5 hr rfl (ab (ag (wpv 0)) (ab (ag (wpv 5)) (ab (bo hu (ag (wpv 2)) (aq af) (fun _ _=>rfl) (fun _ _=>rfl)) av)))))
   (aB (b7 (aQ eN kH (bo hu (ag (wpv 6)) (aq af) (fun _ _=>rfl) (fun _ _=>rfl)) (bA aG) (aM _)) (aB (cq (dq (ag (wpv 3)) (ab (bj (ab (ag (wpv 4)) (ab (bj (ab (eD cY jL rfl B.tuple OG.fj (ab (bK wD wx rfl B.sorted OG.mS (ab (dE dD dC (bo hu (ag (wpv 2)) (aq af) (fun _ _=>rfl) (fun _ _=>rfl)) (bj (ab (ag (wpv 4)) av))) av)) av)) (ab (bo hu (ag (wpv 6)) (aq af) (fun _ _=>rfl) (fun _ _=>rfl)) av))) av))) av)))) bQ))) bQ)))
   (aB (a8 (ag (wpv 3)))))))
theorem fY:aN ["world","state","dealings","rows","left","place","number","reached"] ["world","state","dealings"] (ay eV):=⟨rfl,rfl,rfl,by decide +kernel,rfl,by decide +kernel,by decide +kernel⟩
theorem kZ{k:Nat}{aU:Fn}{fuel:Nat}(d:Def K mg "rows_to_places" eV ["world","state","dealings"])(B:Blt mg)(eB:c8 P w K mg base "ways_from" (k) ["world","dealings","place"] aU):c8 P w K mg base "rows_to_places" (k+1) ["world","state","dealings"] (fnU 8 3 (cI aU fuel)):=
 d.pure fY fun f cdv A outer s H E hr=>(by
  have hu:=dj hr
  have nd:=fY.nd
  exact(ar (aI (i:=3) nd rfl (by first|exact Or.inl rfl|exact Or.inr rfl) (CV (nS hr) (bj (ab (bj av) (ab (ag (wpv 1)) av))) (jq av)))
   (ar (aI (i:=4) nd rfl (by first|exact Or.inl rfl|exact Or.inr rfl) (jq (ab (bj (ab (bj av) (ab (ag (wpv 1)) av))) av)))
   (ar (oA fuel PassesOwn.never (aQ qX Dm (bK fT fS rfl B.len PySem.boot_len (ab (ag (wpv 4)) av)) (aq af) (aM _)) (ar (aI (i:=5) nd rfl (by first|exact Or.inl rfl|exact Or.inr rfl) (wd (ag (wpv 4)) (ab (aq af) av)))
   (aB (jo PassesOwn.never rfl (nK (aK eB hr rfl (ab (ag (wpv 0)) (ab (ag (wpv 2)) (ab (ag (wpv 5)) av))))) (pN rfl (eC (br (i:=6) nd rfl (by first|exact Or.inl rfl|exact Or.inr rfl)) (eC (br (i:=7) nd rfl (by first|exact Or.inl rfl|exact Or.inr rfl)) mw))) (aB (b7 (wc (nS hr) (ag (wpv 7)) (ag (wpv 3)) (by with_unfolding_all rfl)) (ar (vY (nS hr) (ag (wpv 3)) (ag (wpv 7)) (dE dD dC (CQ (nS hr) (ag (wpv 3)) (ag (wpv 5)) (fun _ _=>rfl)) (jq (ab (ag (wpv 6)) av))))
   (aB (cq (dq (ag (wpv 4)) (ab (ag (wpv 7)) av))))) bQ))))))
   (aB (a8 (ag (wpv 3))))))))
theorem me:aN ["world","dealings","place"] ["world","dealings","place"] (ay jI):=⟨rfl,rfl,rfl,by decide +kernel,rfl,by decide +kernel,by decide +kernel⟩
theorem uE{k:Nat}{aU:Fn}(d:Def K mg "is_stuck" jI ["world","dealings","place"])(B:Blt mg)(eB:c8 P w K mg base "ways_from" (k) ["world","dealings","place"] aU):c8 P w K mg base "is_stuck" (k+1) ["world","dealings","place"] (fnU 3 3 (fi aU)):=
 d.pure me fun f cdv A outer s H E hr=>(by
  have hu:=dj hr
  have nd:=me.nd
  exact(aB (a8 (A0 (wg kX u0 (bK fT fS rfl B.len PySem.boot_len (ab (bo hu (ag (wpv 2)) (aq af) (fun _ _=>rfl) (fun _ _=>rfl)) av)) (bK fT fS rfl B.len PySem.boot_len (ab (ag (wpv 1)) av)) (aM _)) (FO (wg eN kH (bK fT fS rfl B.len PySem.boot_len (ab (aK eB hr rfl (ab (ag (wpv 0)) (ab (ag (wpv 1)) (ab (ag (wpv 2)) av)))) av)) (aq af) (aM _)))))))
theorem mf:aN ["world","state","dealings","rows","place"] ["world","state","dealings"] (ay jJ):=⟨rfl,rfl,rfl,by decide +kernel,rfl,by decide +kernel,by decide +kernel⟩
theorem uF{k:Nat}{aD:Fn}(d:Def K mg "all_done" jJ ["world","state","dealings"])(B:Blt mg)(bV:c8 P w K mg base "rows_to_places" (k) ["world","state","dealings"] aD):c8 P w K mg base "all_done" (k+1) ["world","state","dealings"] (fnU 5 3 (gp aD)):=
 d.pure mf fun f cdv A outer s H E hr=>(by
  have hu:=dj hr
  have nd:=mf.nd
  exact(ar (aI (i:=3) nd rfl (by first|exact Or.inl rfl|exact Or.inr rfl) (aK bV hr rfl (ab (ag (wpv 0)) (ab (ag (wpv 1)) (ab (ag (wpv 2)) av)))))
   (ar (vZ PassesOwn.never rfl (ag (wpv 3)) (eX (br (i:=4) nd rfl (by first|exact Or.inl rfl|exact Or.inr rfl))) (aB (b7 (aQ eN kH (bK fT fS rfl B.len PySem.boot_len (ab (bo hu (ag (wpv 4)) (aq af) (fun _ _=>rfl) (fun _ _=>rfl)) av)) (bK fT fS rfl B.len PySem.boot_len (ab (ag (wpv 2)) av)) (aM _)) (aB (a8 (bj (ab (bA aG) (ab (CQ (nS hr) (ag (wpv 3)) (ag (wpv 4)) (fun _ _=>rfl)) av))))) bQ)))
   (aB (a8 (bj (ab (bA aG) (ab (eD (wF rfl) wz rfl B.list OG.ib (ab (ag (wpv 3)) av)) av))))))))
theorem sD:aN ["world","state","dealings","rows","place"] ["world","state","dealings"] (ay qN):=⟨rfl,rfl,rfl,by decide +kernel,rfl,by decide +kernel,by decide +kernel⟩
theorem DR{k:Nat}{aD cV:Fn}(d:Def K mg "stuck" qN ["world","state","dealings"])(B:Blt mg)(bV:c8 P w K mg base "rows_to_places" (k) ["world","state","dealings"] aD)(j4:c8 P w K mg base "is_stuck" (k) ["world","dealings","place"] cV):c8 P w K mg base "stuck" (k+1) ["world","state","dealings"] (fnU 5 3 (mQ aD cV)):=
 d.pure sD fun f cdv A outer s H E hr=>(by
  have hu:=dj hr
  have nd:=sD.nd
  exact(ar (aI (i:=3) nd rfl (by first|exact Or.inl rfl|exact Or.inr rfl) (aK bV hr rfl (ab (ag (wpv 0)) (ab (ag (wpv 1)) (ab (ag (wpv 2)) av)))))
   (ar (vZ PassesOwn.never rfl (ag (wpv 3)) (eX (br (i:=4) nd rfl (by first|exact Or.inl rfl|exact Or.inr rfl))) (aB (b7 (sL (aK j4 hr rfl (ab (ag (wpv 0)) (ab (ag (wpv 2)) (ab (ag (wpv 4)) av))))) (aB (a8 (bj (ab (bA aG) (ab (CQ (nS hr) (ag (wpv 3)) (ag (wpv 4)) (fun _ _=>rfl)) av))))) bQ)))
   (aB (a8 (bj (ab (bA aG) (ab (eD (wF rfl) wz rfl B.list OG.ib (ab (ag (wpv 3)) av)) av))))))))
theorem AU:aN ["script","pen","world","turn","state","dealings","boxes","moved","order","others","told","found","row"] ["script"] (ay CL):=⟨rfl,rfl,rfl,by decide +kernel,rfl,by decide +kernel,by decide +kernel⟩
def jY(cR bH a9 bC aP gF cW gG:Fn):CS:=
 (bb (bJ 4 (cCB bH (ae (ak 1) (ae (ak 2) ax))))
  (bb (bJ 5 (cCB a9 (ae (ak 1) (ae (ak 2) (ae (cC (.int 5)) ax)))))
  (bb (bJ 6 (cCB bC (ae (ak 1) (ae (cOp fIx (ak 2) (cC (.int 0))) ax))))
  (bb (bJ 7 (cCB fe (ae (gH (cN (ae (cOp fIx (ak 2) (cC (.int 0))) ax)) (gNm 0) (cOp fIx (ak 1) (cBM jw (ak 2) (ae (ak 0) ax))) 1 [4,6]) ax)))
  (bb (bJ 8 (cCB bC (ae (ak 1) (ae (cCB fU (ae (ak 5) ax)) ax))))
  (bb (bJ 9 (gH (iTp (ak 8)) (gNm 0) (cCB aP (ae (cOp fIx (ak 2) (ak 0)) (ae (ak 1) ax))) 1 [6,5]))
  (bb (bJ 10 (iH (ae (cCB cW (ae (ak 2) (ae (ak 4) (ae (ak 5) ax)))) (ae (cCB gF (ae (ak 2) (ae (ak 4) (ae (ak 5) ax)))) ax))))
  (bb (dF (aH (cOp fNe (cOp fIx (cCB cW (ae (ak 2) (ae (ak 7) (ae (ak 9) ax)))) (cC (.int 0))) (cOp fIx (cOp fIx (ak 10) (cC (.int 0))) (cC (.int 0))))) (dU (cC (.bl false))) bU)
  (bb (bJ 11 (cCB gF (ae (ak 2) (ae (ak 7) (ae (ak 9) ax)))))
  (bb (dF (cOr (aH (cOp fNe (cOp fIx (ak 11) (cC (.int 0))) (cOp fIx (cOp fIx (ak 10) (cC (.int 1))) (cC (.int 0))))) (lC (aH (cOp fEq (cOp fIx (ak 11) (cC (.int 0))) (cC (.str "stuck")))) (aH (cOp fNe (cCB fU (ae (cOp fIx (ak 11) (cC (.int 1))) ax)) (cCB fU (ae (cOp fIx (cOp fIx (ak 10) (cC (.int 1))) (cC (.int 1))) ax)))))) (dU (cC (.bl false))) bU)
  (bb (dF (aH (cOp fEq (cOp fIx (ak 11) (cC (.int 0))) (cC (.str "stuck")))) (bb (bJ 12 (gH (iTp (cOp fIx (ak 11) (cC (.int 1)))) (gNm 0) (cOp fIx (ak 1) (ak 0)) 1 [8]))
  (dF (aH (cOp fNe (cOp fIx (cCB gG (ae (ak 2) (ae (ak 5) (ae (ak 4) (ae (ak 12) ax))))) (cC (.int 0))) (cC (.str "done")))) (dU (cC (.bl false))) bU)) bU)
  (bb (dF (aH (cOp fNe (cOp fIx (cCB cW (ae (ak 2) (ae (ak 4) (ae (cOp eI (ak 5) (iH (ae (cu ax) ax))) ax)))) (cC (.int 0))) (cOp fIx (cOp fIx (ak 10) (cC (.int 0))) (cC (.int 0))))) (dU (cC (.bl false))) bU)
  (bb (bJ 11 (cCB gF (ae (ak 2) (ae (ak 4) (ae (cOp eI (ak 5) (iH (ae (cu ax) ax))) ax)))))
  (dF (cOr (aH (cOp fNe (cOp fIx (ak 11) (cC (.int 0))) (cOp fIx (cOp fIx (ak 10) (cC (.int 1))) (cC (.int 0))))) (lC (aH (cOp fEq (cOp fIx (ak 11) (cC (.int 0))) (cC (.str "stuck")))) (aH (cOp fNe (cCB fU (ae (cOp fIx (ak 11) (cC (.int 1))) ax)) (cOp eI (cCB fU (ae (cOp fIx (cOp fIx (ak 10) (cC (.int 1))) (cC (.int 1))) ax)) (cC (.int 1))))))) (dU (cC (.bl false))) bU))))))))))))))
def yc(cR bH a9 bC aP gF cW gG:Fn):CS:=
 (bb (bJ 2 (cCB cR (ae (ak 1) ax)))
  (bb (lB (cN (ae (cC (.int 2)) ax)) (gNm 3) (jY cR bH a9 bC aP gF cW gG))
  (dU (cC (.bl true)))))
theorem Lc{k:Nat}{cR bH a9 bC aP gF cW gG:Fn}{fa:Addr}{fd:FuncData}(F:Fun K "law" "law" CL fa fd)(B:Blt mg)(uX:Has P w K mg base "_law_pen" k ["script"] (AS K))(iq:c8 P w K mg base "_law_world" k ["pen"] cR)(fb:c8 P w K mg base "_law_few_state" k ["pen","world"] bH)(dg:c8 P w K mg base "_law_some_dealings" k ["pen","world","most"] a9)(dR:c8 P w K mg base "_law_shuffled" k ["pen","many"] bC)(fP:c8 P w K mg base "_law_moved" k ["dealing","boxes"] aP)(mV:c8 P w K mg base "stuck" k ["world","state","dealings"] gF)(gx:c8 P w K mg base "all_done" k ["world","state","dealings"] cW)(oS:c8 P w K mg base "in_row" k ["world","dealings","state","order"] gG)
  (ok:∀(ns:List Int) (a c:Int),0<=a->0<=c->∃ρ' S',yc cR bH a9 bC aP gF cW gG [none,some (.ref 1),none,none,none,none,none,none,none,none,none,none,none] [.lst (ns.map U.int),.lst [.ref 0,.int a,.int c]]=some (.rt (.bl true),ρ',S')):kT P w K mg base CX0 (k+1) fa fd ["script"] (y6 K):=by
 refine Fun.okW F AU (fun vs H Q E h=>(by obtain⟨a,ns,rfl,_⟩:=h;rfl)) fun cdv A outer s H vs Q E hr h=>?_
 obtain⟨a,ns,rfl,hS,hlen,q⟩:=h
 have hu:=dj hr
 have nd:=AU.nd
 refine⟨_,o8 (u:=tS K (yc cR bH a9 bC aP gF cW gG)) (vg (i:=1) nd rfl (by first|exact Or.inl rfl|exact Or.inr rfl) (AO uX hr rfl (gB (wpv 0) lF))) (ar (aI (i:=2) nd rfl (by first|exact Or.inl rfl|exact Or.inr rfl) (aK iq hr rfl (ab (ag (wpv 1)) av)))
   (ar (jo PassesOwn.never rfl (f6 rfl B.range (ab (aq af) av)) (eX (br (i:=3) nd rfl (by first|exact Or.inl rfl|exact Or.inr rfl))) (ar (aI (i:=4) nd rfl (by first|exact Or.inl rfl|exact Or.inr rfl) (aK fb hr rfl (ab (ag (wpv 1)) (ab (ag (wpv 2)) av))))
   (ar (aI (i:=5) nd rfl (by first|exact Or.inl rfl|exact Or.inr rfl) (aK dg hr rfl (ab (ag (wpv 1)) (ab (ag (wpv 2)) (ab (aq af) av)))))
   (ar (aI (i:=6) nd rfl (by first|exact Or.inl rfl|exact Or.inr rfl) (aK dR hr rfl (ab (ag (wpv 1)) (ab (bo hu (ag (wpv 2)) (aq af) (fun _ _=>rfl) (fun _ _=>rfl)) av))))
   (ar (aI (i:=7) nd rfl (by first|exact Or.inl rfl|exact Or.inr rfl) (eD cY jL rfl B.tuple OG.fj (ab (we (Nc:=["box","state","boxes"]) (tn:=["box"]) (capN:=["state","boxes"]) (caps:=[4,6]) rfl (f6 rfl B.range (ab (bo hu (ag (wpv 2)) (aq af) (fun _ _=>rfl) (fun _ _=>rfl)) av)) (fun _ _ _=>(eX (br (i:=0) (show(["box","state","boxes"]:List Str).Nodup by decide +kernel) rfl (by first|exact Or.inl rfl|exact Or.inr rfl)))) (fun _ _ _=>(bo hu (ag (wpv 1)) (CU (ag (wpv 2)) (ab (ag (wpv 0)) av)) (fun _ _=>rfl) (fun _ _=>rfl))) rfl rfl (by decide +kernel) (by decide +kernel) ⟨rfl,rfl,trivial⟩ rfl (.cons ⟨rfl,rfl,rfl,_,rfl⟩ (.cons ⟨rfl,rfl,rfl,_,rfl⟩ .nil)) rfl rfl) av)))
   (ar (aI (i:=8) nd rfl (by first|exact Or.inl rfl|exact Or.inr rfl) (aK dR hr rfl (ab (ag (wpv 1)) (ab (bK fT fS rfl B.len PySem.boot_len (ab (ag (wpv 5)) av)) av))))
   (ar (nJ (Nc:=["number","boxes","dealings"]) (tn:=["number"]) (capN:=["boxes","dealings"]) (caps:=[6,5]) rfl (nK (ag (wpv 8))) (fun _ _ _=>(eX (br (i:=0) (show(["number","boxes","dealings"]:List Str).Nodup by decide +kernel) rfl (by first|exact Or.inl rfl|exact Or.inr rfl)))) (fun _ _ _=>(aK fP hr rfl (ab (bo hu (ag (wpv 2)) (ag (wpv 0)) (fun _ _=>rfl) (fun _ _=>rfl)) (ab (ag (wpv 1)) av)))) rfl rfl (by decide +kernel) (by decide +kernel) ⟨rfl,rfl,trivial⟩ rfl (.cons ⟨rfl,rfl,rfl,_,rfl⟩ (.cons ⟨rfl,rfl,rfl,_,rfl⟩ .nil)) rfl rfl nd rfl rfl rfl)
   (ar (aI (i:=10) nd rfl (by first|exact Or.inl rfl|exact Or.inr rfl) (jq (ab (aK gx hr rfl (ab (ag (wpv 2)) (ab (ag (wpv 4)) (ab (ag (wpv 5)) av)))) (ab (aK mV hr rfl (ab (ag (wpv 2)) (ab (ag (wpv 4)) (ab (ag (wpv 5)) av)))) av))))
   (ar (b7 (aQ qW Dj (bo hu (aK gx hr rfl (ab (ag (wpv 2)) (ab (ag (wpv 7)) (ab (ag (wpv 9)) av)))) (aq af) (fun _ _=>rfl) (fun _ _=>rfl)) (bo hu (bo hu (ag (wpv 10)) (aq af) (fun _ _=>rfl) (fun _ _=>rfl)) (aq af) (fun _ _=>rfl) (fun _ _=>rfl)) (aM _)) (aB (a8 (uv fW))) bQ)
   (ar (aI (i:=11) nd rfl (by first|exact Or.inl rfl|exact Or.inr rfl) (aK mV hr rfl (ab (ag (wpv 2)) (ab (ag (wpv 7)) (ab (ag (wpv 9)) av)))))
   (ar (b7 (wb (J9 (aQ qW Dj (bo hu (ag (wpv 11)) (aq af) (fun _ _=>rfl) (fun _ _=>rfl)) (bo hu (bo hu (ag (wpv 10)) (aq af) (fun _ _=>rfl) (fun _ _=>rfl)) (aq af) (fun _ _=>rfl) (fun _ _=>rfl)) (aM _)) (CP (wb (mx (aQ eN kH (bo hu (ag (wpv 11)) (aq af) (fun _ _=>rfl) (fun _ _=>rfl)) (bA aG) (aM _)) (kG (aQ qW Dj (bK fT fS rfl B.len PySem.boot_len (ab (bo hu (ag (wpv 11)) (aq af) (fun _ _=>rfl) (fun _ _=>rfl)) av)) (bK fT fS rfl B.len PySem.boot_len (ab (bo hu (bo hu (ag (wpv 10)) (aq af) (fun _ _=>rfl) (fun _ _=>rfl)) (aq af) (fun _ _=>rfl) (fun _ _=>rfl)) av)) (aM _)))))))) (aB (a8 (uv fW))) bQ)
   (ar (b7 (aQ eN kH (bo hu (ag (wpv 11)) (aq af) (fun _ _=>rfl) (fun _ _=>rfl)) (bA aG) (aM _)) (ar (nJ (Nc:=["number","order"]) (tn:=["number"]) (capN:=["order"]) (caps:=[8]) rfl (nK (bo hu (ag (wpv 11)) (aq af) (fun _ _=>rfl) (fun _ _=>rfl))) (fun _ _ _=>(eX (br (i:=0) (show(["number","order"]:List Str).Nodup by decide +kernel) rfl (by first|exact Or.inl rfl|exact Or.inr rfl)))) (fun _ _ _=>(bo hu (ag (wpv 1)) (ag (wpv 0)) (fun _ _=>rfl) (fun _ _=>rfl))) rfl rfl (by decide +kernel) (by decide +kernel) ⟨rfl,trivial⟩ rfl (.cons ⟨rfl,rfl,rfl,_,rfl⟩ .nil) rfl rfl nd rfl rfl rfl)
   (aB (b7 (aQ qW Dj (bo hu (aK oS hr rfl (ab (ag (wpv 2)) (ab (ag (wpv 5)) (ab (ag (wpv 4)) (ab (ag (wpv 12)) av))))) (aq af) (fun _ _=>rfl) (fun _ _=>rfl)) (bA aG) (aM _)) (aB (a8 (uv fW))) bQ))) bQ)
   (ar (b7 (aQ qW Dj (bo hu (aK gx hr rfl (ab (ag (wpv 2)) (ab (ag (wpv 4)) (ab (dE dD dC (ag (wpv 5)) (jq (ab (bj av) av))) av)))) (aq af) (fun _ _=>rfl) (fun _ _=>rfl)) (bo hu (bo hu (ag (wpv 10)) (aq af) (fun _ _=>rfl) (fun _ _=>rfl)) (aq af) (fun _ _=>rfl) (fun _ _=>rfl)) (aM _)) (aB (a8 (uv fW))) bQ)
   (ar (aI (i:=11) nd rfl (by first|exact Or.inl rfl|exact Or.inr rfl) (aK mV hr rfl (ab (ag (wpv 2)) (ab (ag (wpv 4)) (ab (dE dD dC (ag (wpv 5)) (jq (ab (bj av) av))) av)))))
   (aB (b7 (wb (J9 (aQ qW Dj (bo hu (ag (wpv 11)) (aq af) (fun _ _=>rfl) (fun _ _=>rfl)) (bo hu (bo hu (ag (wpv 10)) (aq af) (fun _ _=>rfl) (fun _ _=>rfl)) (aq af) (fun _ _=>rfl) (fun _ _=>rfl)) (aM _)) (CP (wb (mx (aQ eN kH (bo hu (ag (wpv 11)) (aq af) (fun _ _=>rfl) (fun _ _=>rfl)) (bA aG) (aM _)) (kG (aQ qW Dj (bK fT fS rfl B.len PySem.boot_len (ab (bo hu (ag (wpv 11)) (aq af) (fun _ _=>rfl) (fun _ _=>rfl)) av)) (dE dD dC (bK fT fS rfl B.len PySem.boot_len (ab (bo hu (bo hu (ag (wpv 10)) (aq af) (fun _ _=>rfl) (fun _ _=>rfl)) (aq af) (fun _ _=>rfl) (fun _ _=>rfl)) av)) (aq af)) (aM _)))))))) (aB (a8 (uv fW))) bQ))))))))))))))))
   (aB (a8 (uv fW))))),?_⟩
 refine⟨_,rfl,a,ns,rfl,hS,fun p xs H1 s1 P1 n1=>?_⟩
 exact DB P1 ok q
end
end OL
namespace OQ
open PySem PySem.Spec PyProof.Rows L2 OG OP
abbrev Pl:=List Int×List Int
def plU(p:Pl):U:=.tup [.tup (p.1.map U.int),.tup (p.2.map U.int)]
def nkP(p:Pl):NK:=[p.1,p.2]
abbrev Kn:=List (Pl×List Int)
def goD(w:Int)(st:List Int)(d:List (Dl 2)):Option (List Int):=match mr w st 2 d m0 with
 |(true,m)=>some (beh st m.ps 0)
 |(false,_)=>none
def yW(w:Int)(p:Pl)(d:List (Dl 2))(k:Nat):List (Int×Pl):=if (k:Int)∈p.1 then[]else match goD w p.2 d with
 |some st=>[((k:Int),(dc (p.1++[(k:Int)]),st))]
 |none=>[]
def bz(w:Int)(p:Pl):List (List (Dl 2))->Nat->List (Int×Pl)
 |[],_=>[]
 |d::r,k=>yW w p d k++bz w p r (k+1)
def o5(row:List Int):List (Int×Pl)->Kn->Kn
 |[],kn=>kn
 |(a,p)::r,kn=>o5 row r (if p∈kn.map (·.1)then kn else kn++[(p,row++[a])])
section
variable{w:Int}{Ds:List (List (Dl 2))}{st0:List Int}{p p':Pl}{a:Int}{r row:List Int}{kn:Kn}
theorem DU{st st':List Int}{d:List (Dl 2)}(h:goD w st d=some st'):st'.length=st.length:=by
 unfold goD at h
 split at h
 ·cases h;rw[jX]
 ·cases h
theorem cH:∀{ds:List (List (Dl 2))} {k:Nat},(a,p')∈bz w p ds k->∃i:Nat,a=((k+i:Nat):Int)/\i<ds.length/\a∉p.1/\∃st,goD w p.2 (ds.getD i [])=some st/\p'=(dc (p.1++[a]),st)
 |[],k,h=>by cases h
 |d::ds,k,h=>by
  rcases List.mem_append.mp h with h|h
  ·unfold yW at h
   split at h
   ·cases h
   ·rename_i hn
    split at h
    ·rename_i st hg
     rw[List.mem_singleton]at h
     cases h
     exact⟨0,rfl,by simp,hn,st,hg,rfl⟩
    ·cases h
  ·obtain⟨i,h1,h2,h3,st,h4,h5⟩:=cH h
   exact⟨i+1,by rw[h1];congr 1;omega,by rw[List.length_cons];omega,h3,st,by simpa using h4,h5⟩
theorem eK:∀{ds:List (List (Dl 2))} {k i:Nat} {st:List Int},i<ds.length->((k+i:Nat):Int)∉p.1->goD w p.2 (ds.getD i [])=some st->(((k+i:Nat):Int),(dc (p.1++[((k+i:Nat):Int)]),st))∈bz w p ds k
 |[],k,i,st,h,_,_=>by cases h
 |d::ds,k,0,st,h,hn,hg=>by
  refine List.mem_append_left _ ?_
  unfold yW
  rw[if_neg (by simpa using hn)]
  have:goD w p.2 d=some st:=by simpa using hg
  rw[this]
  exact List.mem_singleton.mpr rfl
 |d::ds,k,i+1,st,h,hn,hg=>by
  refine List.mem_append_right _ ?_
  have e:k+(i+1)=k+1+i:=by omega
  rw[e]at hn ⊢
  exact eK (by rw[List.length_cons]at h;omega) hn (by simpa using hg)
inductive gO(w:Int)(Ds:List (List (Dl 2)))(st0:List Int):List Int->Pl->Prop
 |nil:gO w Ds st0 [] ([],st0)
 |snoc {r:List Int} {p p':Pl} {a:Int}:gO w Ds st0 r p->(a,p')∈bz w p Ds 0->gO w Ds st0 (r++[a]) p'
theorem ur:dc (dc r++[a])=dc (r++[a]):=
 (lx ((aX _).trans ((aX r).append_right [a])) (j7 _))
structure kP(Ds:List (List (Dl 2)))(st0 r:List Int)(p:Pl):Prop where
 nd:r.Nodup
 bd:∀b∈r,0<=b/\b<(Ds.length:Int)
 gone:p.1=dc r
 len:p.2.length=st0.length
theorem gO.ok(h:gO w Ds st0 r p):kP Ds st0 r p:=by
 induction h with
 |nil=>exact⟨List.nodup_nil,fun b hb=>(List.not_mem_nil hb).elim,by simp[dc],rfl⟩
 |@snoc r p p' a _ hw ih=>
  obtain⟨i,h1,h2,h3,st,h4,h5⟩:=cH hw
  subst h5
  have na:a∉r:=fun z=>h3 (by rw[ih.gone];exact(aX r).mem_iff.mpr z)
  refine⟨List.nodup_append.mpr ⟨ih.nd,by simp,fun x hx y hy e=>na (by rw[List.mem_singleton.mp hy]at e;rw[<-e];exact hx)⟩,fun b hb=>?_,by rw[ih.gone,ur],by rw[DU h4,ih.len]⟩
  rcases List.mem_append.mp hb with z|z
  ·exact ih.bd b z
  ·rw[List.mem_singleton.mp z,h1];omega
theorem yU{p1 p2:Pl}(h1:(a,p1)∈bz w p Ds 0)(h2:(a,p2)∈bz w p Ds 0):p1=p2:=by
 obtain⟨i,e1,_,_,st,g1,rfl⟩:=cH h1
 obtain⟨j,e2,_,_,st',g2,rfl⟩:=cH h2
 have:i=j:=by omega
 subst this
 rw[g1]at g2;cases g2;rfl
theorem gO.det(h:gO w Ds st0 r p):∀{p'},gO w Ds st0 r p'->p=p':=by
 induction h with
 |nil=>
  intro p' h
  generalize e:([]:List Int)=r at h
  cases h with
  |nil=>rfl
  |snoc _ _=>exact absurd e.symm (by simp)
 |@snoc r p q a h1 hw ih=>
  intro p' h
  generalize e:r++[a]=s at h
  cases h with
  |nil=>exact absurd e (by simp)
  |@snoc r' p2 _ a' h2 hw'=>
   obtain⟨e1,e2⟩:=List.append_inj' e rfl
   cases e2
   subst e1
   have:=ih h2
   subst this
   exact yU hw hw'
def MM(r:List Int):List (List Int):=([0,1,2,3,4,5]:List Int).filterMap fun a=>if a∈r then none else some (r++[a])
def Kv:Nat->List (List Int)
 |0=>[[]]
 |k+1=>(Kv k).flatMap MM
def L3:List (List Int):=[0,1,2,3,4,5,6].flatMap Kv
theorem AF:L3.length=1957:=by decide +kernel
theorem gO.lev(hN:Ds.length<=6)(h:gO w Ds st0 r p):r∈Kv r.length:=by
 induction h with
 |nil=>exact List.mem_singleton.mpr rfl
 |@snoc r p p' a h0 hw ih=>
  have ok:=(gO.snoc h0 hw).ok
  rw[List.length_append,List.length_singleton]
  refine List.mem_flatMap.mpr ⟨r,ih,List.mem_filterMap.mpr ⟨a,?_,?_⟩⟩
  ·have:=ok.bd a (List.mem_append_right _ List.mem_cons_self)
   simp only[List.mem_cons,List.not_mem_nil,or_false]
   omega
  ·rw[if_neg fun z=>(List.nodup_append.mp ok.nd).2.2 a z a List.mem_cons_self rfl]
theorem gO.few(hN:Ds.length<=6)(h:gO w Ds st0 r p):r.length<=Ds.length:=by
 have ok:=h.ok
 have:=List.Nodup.length_le_of_subset ok.nd (l₂:=(List.range Ds.length).map fun i:Nat=>(i:Int)) fun b hb=>by
  obtain⟨h1,h2⟩:=ok.bd b hb
  exact List.mem_map.mpr ⟨b.toNat,List.mem_range.mpr (by omega),by omega⟩
 simpa using this
structure KnI(w:Int)(Ds:List (List (Dl 2)))(st0:List Int)(kn:Kn):Prop where
 nd:(kn.map (·.1)).Nodup
 pa:∀q∈kn,gO w Ds st0 q.2 q.1
theorem KnI.few(h:KnI w Ds st0 kn)(hN:Ds.length<=6):kn.length<=1957:=by
 have nd:(kn.map (·.2)).Nodup:=by
  refine List.pairwise_map.mpr (List.Pairwise.imp_of_mem (fun{x y} hx hy hn e=>hn ?_) (List.pairwise_map.mp h.nd))
  have h1:=h.pa x hx
  have h2:=h.pa y hy
  rw[<-e]at h2
  exact h1.det h2
 have:=List.Nodup.length_le_of_subset nd (l₂:=L3) fun x hx=>by
  obtain⟨q,hq,rfl⟩:=List.mem_map.mp hx
  have hp:=h.pa q hq
  have hl:=hp.few hN
  refine List.mem_flatMap.mpr ⟨q.2.length,?_,hp.lev hN⟩
  have:q.2.length<=6:=by omega
  generalize q.2.length=z at this
  match z,this with
  |0,_=>simp
  |1,_=>simp
  |2,_=>simp
  |3,_=>simp
  |4,_=>simp
  |5,_=>simp
  |6,_=>simp
  |z+7,h=>omega
 rw[AF,List.length_map]at this
 exact this
theorem KnI.add(hp:gO w Ds st0 row p):∀(ws:List (Int×Pl)) (kn:Kn),KnI w Ds st0 kn->(∀x∈ws,x∈bz w p Ds 0)->KnI w Ds st0 (o5 row ws kn)
 |[],kn,h,_=>h
 |(a,q)::ws,kn,h,hw=>by
  unfold o5
  refine KnI.add hp ws _ ?_ fun x hx=>hw x (List.mem_cons_of_mem _ hx)
  split
  ·exact h
  ·rename_i hn
   refine⟨?_,fun x hx=>?_⟩
   ·rw[List.map_append,List.nodup_append]
    exact⟨h.nd,by simp,fun x hx y hy e=>hn (by rw[List.map_cons,List.map_nil,List.mem_singleton]at hy;rw[e,hy]at hx;exact hx)⟩
   ·rcases List.mem_append.mp hx with z|z
    ·exact h.pa x z
    ·rw[List.mem_singleton.mp z];exact .snoc hp (hw _ List.mem_cons_self)
theorem fO:∀(ws:List (Int×Pl)) (kn:Kn),∃t,o5 row ws kn=kn++t
 |[],kn=>⟨[],(List.append_nil _).symm⟩
 |(a,q)::ws,kn=>by
  unfold o5
  split
  ·exact fO ws kn
  ·obtain⟨t,e⟩:=fO ws (kn++[(q,row++[a])])
   exact⟨[(q,row++[a])]++t,by rw[e,List.append_assoc]⟩
theorem t9:∀(ws:List (Int×Pl)) (kn:Kn) (x:Int×Pl),x∈ws->x.2∈(o5 row ws kn).map (·.1)
 |(a,q)::ws,kn,x,hx=>by
  unfold o5
  rcases List.mem_cons.mp hx with rfl|hx
  ·obtain⟨t,e⟩:=fO (row:=row) ws (if q∈kn.map (·.1)then kn else kn++[(q,row++[a])])
   rw[e,List.map_append]
   refine List.mem_append_left _ ?_
   split
   ·assumption
   ·rw[List.map_append];exact List.mem_append_right _ (by simp)
  ·exact t9 ws _ x hx
def kn0(st0:List Int):Kn:=[(([],st0),[])]
theorem wZ:KnI w Ds st0 (kn0 st0):=⟨by simp[kn0],fun q hq=>by rw[List.mem_singleton.mp hq];exact .nil⟩
def bfs(w:Int)(Ds:List (List (Dl 2))):Nat->Nat->Kn->Kn
 |0,_,kn=>kn
 |f+1,i,kn=>match kn[i]? with
  |none=>kn
  |some q=>bfs w Ds f (i+1) (o5 q.2 (bz w q.1 Ds 0) kn)
theorem Bm:∀(f i:Nat) (kn:Kn),KnI w Ds st0 kn->KnI w Ds st0 (bfs w Ds f i kn)
 |0,_,kn,h=>h
 |f+1,i,kn,h=>by
  unfold bfs
  split
  ·exact h
  ·rename_i q hq
   exact Bm f (i+1) _ (KnI.add (h.pa q (List.mem_of_getElem? hq)) _ _ h fun x hx=>hx)
def dh(w:Int)(Ds:List (List (Dl 2)))(st0:List Int):Kn:=bfs w Ds 3000 0 (kn0 st0)
theorem ly:KnI w Ds st0 (dh w Ds st0):=Bm _ _ _ wZ
end
theorem jg{ca cb:CS}{ρ ρ':Rho}{S S':Sto}(h:ca ρ S=some (.nx,ρ',S')):bb ca cb ρ S=cb ρ' S':=by rw[yB,h,Option.bind_some,AJ]
def j6(x:Int×Pl):U:=.tup [.int x.1,plU x.2]
section
variable{n w:Int}{Ds:List (List (Dl 2))}{p:Pl}{f:Fn}{S:Sto}{ld:Nat}
def jF(n w:Int)(f:Fn):Prop:=∀(d:List (Dl 2)) (st:List Int) (S:Sto),OkL n w 2 d->st.length=n.toNat->∃G l,f [.tup [.int n,.int w],dlU d,.tup (st.map U.int)] S=some (told (mr w st 2 d m0) st l,S++G)
theorem A3{k:Int}{xs:List Int}{S:Sto}:fIn true (.int k) (.tup (xs.map U.int)) S=some (.bl (!decide (k∈xs)),S):=by
 have h1:(xs.map U.int).all i7=true:=by rw[List.all_map];exact List.all_eq_true.mpr fun _ _=>rfl
 have h2:inU (.int k) (xs.map U.int)=decide (k∈xs):=by
  induction xs with
  |nil=>rfl
  |cons x xs ih=>
   have ih:=ih (by rw[List.all_map];exact List.all_eq_true.mpr fun _ _=>rfl)
   unfold inU at ih ⊢
   rw[List.map_cons,List.any_cons,ih]
   have:eqF (.int x) (.int k)=(x == k):=rfl
   rw[this]
   by_cases e:x=k
   ·subst e;simp
   ·have e':¬k=x:=fun z=>e z.symm
    simp[e,e']
 unfold fIn
 dsimp only
 rw[if_pos ⟨rfl,h1⟩,h2]
 rfl
theorem y8{xs:List Int}{k:Int}{S:Sto}(h:xs.length<=40):iD [.tup (xs.map U.int++[.int k])] S=some (.ref S.length,S++[.lst ((dc (xs++[k])).map U.int)]):=by
 have e:xs.map U.int++[U.int k]=(xs++[k]).map U.int:=by rw[List.map_append];rfl
 have hl:(xs++[k]).length<64:=by rw[List.length_append,List.length_singleton];omega
 rw[e]
 simp only[iD,jv,Option.bind_some,if_pos hl]
theorem CF:decide (("done":Str)="done")=true:=by decide +kernel
theorem J1:decide (("waits":Str)="done")=false:=by decide +kernel
theorem yV(hf:jF n w f){d:List (Dl 2)}{k:Nat}(od:OkL n w 2 d)(hp:p.1.length<=40)(hs:p.2.length=n.toNat){acc:List (Int×Pl)}{G:Sto}{r6:Option U}(ha:acc.length<=900) :
  ∃G' r6',bZ f [some (.tup [.int n,.int w]),some (.ref ld),some (plU p),some (.ref S.length),some (.int k),some (dlU d),r6] (S++(.lst (acc.map j6)::G))
   = some (.nx,[some (.tup [.int n,.int w]),some (.ref ld),some (plU p),some (.ref S.length),some (.int k),some (dlU d),r6'],S++(.lst ((acc++yW w p d k).map j6)::(G++G'))):=by
 unfold yW
 have hL:(acc.map j6).length<LIM:=by unfold LIM;rw[List.length_map];omega
 have hA:(p.1.map U.int).length+1<=LIM:=by unfold LIM;rw[List.length_map];omega
 by_cases hk:(k:Int)∈p.1
 ·rw[if_pos hk]
  refine⟨[],r6,?_⟩
  have h1:∀Y,fIn true (.int k) (.tup (p.1.map U.int)) Y=some (.bl false,Y):=fun Y=>by rw[A3,decide_eq_true hk];rfl
  rwa[bZ,plU,h1,List.append_nil]
 ·rw[if_neg hk]
  have h1:∀Y,fIn true (.int k) (.tup (p.1.map U.int)) Y=some (.bl true,Y):=fun Y=>by rw[A3,decide_eq_false hk];rfl
  obtain⟨G1,l,h2⟩:=hf d p.2 (S++(.lst (acc.map j6)::G)) od hs
  unfold goD
  cases er:mr w p.2 2 d m0 with
  |mk t m=>
   rw[er]at h2
   cases t with
   |false=>
    refine⟨G1,some (.tup [.str "waits",.ref l]),?_⟩
    dsimp only[told]at h2
    simp only[List.append_assoc,List.cons_append]at h2
    rwa[bZ,plU,h1,h2,J1,List.append_nil]
   |true=>
    dsimp only[told]at h2
    obtain⟨Y1,hY⟩:∃Y1,Y1=S++(.lst (acc.map j6)::G)++G1:=⟨_,rfl⟩
    rw[<-hY]at h2
    have h3:∀Y,eI (.tup (p.1.map U.int)) (.tup [.int k]) Y=some (.tup (p.1.map U.int++[.int k]),Y):=fun Y=>by
     simp only[eI];rw[if_pos (by simpa using hA)]
    have g1:∀X,(Y1++X)[S.length]?=some (.lst (acc.map j6)):=fun X=>by rw[hY];exact aL (aL (by rw[ga0];rfl))
    have g0:∀Z:Sto,(Y1++Z)[Y1.length]?=Z[0]?:=fun Z=>ga0
    refine⟨G1++[.lst ((dc (p.1++[(k:Int)])).map U.int)],some (.tup [.str "done",.tup ((beh p.2 m.ps 0).map U.int),.tup (m.hs.map U.int)]),?_⟩
    have eS:S++(O.lst ((acc++[((k:Int),(dc (p.1++[(k:Int)]),beh p.2 m.ps 0))]).map j6)::(G++(G1++[O.lst ((dc (p.1++[(k:Int)])).map U.int)])))=(Y1++[O.lst ((dc (p.1++[(k:Int)])).map U.int)]).set S.length (O.lst (acc.map j6++[U.tup [.int k,.tup [.tup ((dc (p.1++[(k:Int)])).map U.int),.tup ((beh p.2 m.ps 0).map U.int)]]])):=by
     rw[hY,List.append_assoc,List.append_assoc,gs0,List.map_append]
     simp only[List.cons_append,List.set_cons_zero]
     rfl
    dsimp only
    rw[eS]
    obtain⟨Sl,hSl⟩:∃Sl,Sl=S.length:=⟨_,rfl⟩
    rw[<-hSl]at g1 ⊢
    have h2':f [.tup [.int n,.int w],dlU d,.tup (p.2.map U.int)] (S++(.lst (acc.map j6)::G))=_:=h2
    obtain⟨Y0,hY0⟩:∃Y0,Y0=S++(O.lst (acc.map j6)::G):=⟨_,rfl⟩
    rw[<-hY0]at h2' ⊢
    clear hY eS hY0 h2
    have g2:Y1[Sl]?=some (.lst (acc.map j6)):=by have:=g1 [];rw[List.append_nil]at this;exact this
    rwa[bZ,plU,h1,h2',CF,h3,y8 hp,g0,g1,g2,dG hL]
theorem pq(hf:jF n w f)(hp:p.1.length<=40)(hs:p.2.length=n.toNat)(hd:S[ld]?=some (.lst (Ds.map dlU))):∀(ds:List (List (Dl 2))) (k:Nat) (acc:List (Int×Pl)) (G:Sto) (r4 r5 r6:Option U),(∀d∈ds,OkL n w 2 d)->acc.length+ds.length<=900->
  ∃G' r4' r5' r6',cy (fun Z=>Z[ld]?=some (.lst (Ds.map dlU))) (gTp [4,5]) (bZ f) (((ds.map dlU).zipIdx k).map fun p=>.tup [.int p.2,p.1]) [some (.tup [.int n,.int w]),some (.ref ld),some (plU p),some (.ref S.length),r4,r5,r6] (S++(.lst (acc.map j6)::G))
   = some (.nx,[some (.tup [.int n,.int w]),some (.ref ld),some (plU p),some (.ref S.length),r4',r5',r6'],S++(.lst ((acc++bz w p ds k).map j6)::G'))
 |[],k,acc,G,r4,r5,r6,_,_=>⟨G,r4,r5,r6,by rw[show bz w p [] k=[]from rfl,List.append_nil];exact eE (aL hd)⟩
 |d::ds,k,acc,G,r4,r5,r6,ok,hl=>by
  rw[List.length_cons]at hl
  obtain⟨G1,r6',h1⟩:=yV (S:=S) (ld:=ld) (k:=k) (acc:=acc) (G:=G) (r6:=r6) hf (ok d List.mem_cons_self) hp hs (by omega)
  have hw:(yW w p d k).length<=1:=by unfold yW;split;exact Nat.zero_le _;split;exact Nat.le_refl _;exact Nat.zero_le _
  obtain⟨G',a4,a5,a6,ih⟩:=pq hf hp hs hd ds (k+1) (acc++yW w p d k) (G++G1) (some (.int k)) (some (dlU d)) r6' (fun x hx=>ok x (List.mem_cons_of_mem _ hx)) (by rw[List.length_append];omega)
  refine⟨G',a4,a5,a6,?_⟩
  rw[List.map_cons,List.zipIdx_cons,List.map_cons,show bz w p (d::ds) k=yW w p d k++bz w p ds (k+1)from rfl,<-List.append_assoc]
  exact(cB (aL hd) rfl h1).trans ih
def ik(f:Fn):Fn:=fnU 7 3 (d8 f)
theorem vx(hf:jF n w f)(hp:p.1.length<=40)(hs:p.2.length=n.toNat)(hd:S[ld]?=some (.lst (Ds.map dlU)))(ok:∀d∈Ds,OkL n w 2 d)(hl:Ds.length<=900) :
  ∃G,ik f [.tup [.int n,.int w],.ref ld,plU p] S=some (.ref S.length,S++(.lst ((bz w p Ds 0).map j6)::G)):=by
 unfold ik
 rw[rK]
 obtain⟨G,r4,r5,r6,h⟩:=pq (S:=S) (ld:=ld) hf hp hs hd Ds 0 [] [] none none none ok (by rw[List.length_nil];omega)
 refine⟨G,?_⟩
 rw[List.nil_append]at h
 have e1:bJ 3 (iH ax) [some (.tup [.int n,.int w]),some (.ref ld),some (plU p),none,none,none,none] S=some (.nx,[some (.tup [.int n,.int w]),some (.ref ld),some (plU p),some (.ref S.length),none,none,none],S++[.lst []]):=rfl
 have gl:(S++[O.lst []])[ld]?=some (.lst (Ds.map dlU)):=aL hd
 have e2:lB (mJ (ak 1)) (gTp [4,5]) (bZ f) [some (.tup [.int n,.int w]),some (.ref ld),some (plU p),some (.ref S.length),none,none,none] (S++[.lst []])=some (.nx,[some (.tup [.int n,.int w]),some (.ref ld),some (plU p),some (.ref S.length),r4,r5,r6],S++(.lst ((bz w p Ds 0).map j6)::G)):=by
  have ei:mJ (ak 1) [some (.tup [.int n,.int w]),some (.ref ld),some (plU p),some (.ref S.length),none,none,none] (S++[.lst []])=some (qg (Ds.map dlU),fun Z=>Z[ld]?=some (.lst (Ds.map dlU)),S++[.lst []]):=by
   have v0:ak 1 [some (.tup [.int n,.int w]),some (.ref ld),some (plU p),some (.ref S.length),none,none,none] (S++[.lst []])=some (.ref ld,S++[.lst []]):=rfl
   unfold mJ
   rw[v0,Option.bind_some]
   simp only[sC,gl,Option.bind_some]
  unfold lB
  rw[ei,Option.bind_some]
  exact h
 unfold d8
 rw[jg e1,jg e2]
 rfl
end
theorem wJ{p q:Pl}(h:nkP p=nkP q):p=q:=by
 unfold nkP at h
 simp only[List.cons.injEq,and_true]at h
 exact Prod.ext h.1 h.2
def RA(b:Nat)(no:List Nat)(Y:Sto):Kn->List (NK×U)->Prop:=Paired fun(q:Pl×List Int) (k:NK×U)=>k.1=nkP q.1/\∃l,k.2=.ref l/\b<=l/\l∉no/\Y[l]?=some (.lst (q.2.map U.int))
section
variable{b:Nat}{no:List Nat}{Y Y':Sto}{kn:Kn}{kus:List (NK×U)}{p:Pl}{row:List Int}{a:Int}
theorem RA.mono(h:RA b no Y kn kus)(m:∀l,b<=l->l∉no->∀o,Y[l]?=some o->Y'[l]?=some o):RA b no Y' kn kus:=Paired.mapP h fun q k ⟨e,l,h1,h2,h3,h4⟩=>⟨e,l,h1,h2,h3,m l h2 h3 _ h4⟩
theorem RA.length(h:RA b no Y kn kus):kn.length=kus.length:=Paired.length h
theorem RA.none(h:RA b no Y kn kus)(hp:p∉kn.map (·.1)):cw kus (nkP p)=none:=by
 induction h with
 |nil=>rfl
 |@cons q k ks us r t ih=>
  rw[List.map_cons,List.mem_cons,not_or]at hp
  have ne:¬k.1=nkP p:=fun z=>hp.1 (wJ (z.symm.trans r.1))
  have:=ih hp.2
  unfold cw at this ⊢
  rw[List.find?_cons,decide_eq_false ne]
  exact this
theorem RA.val(h:RA b no Y kn kus)(nd:(kn.map (·.1)).Nodup){q:Pl×List Int}(hq:q∈kn):∃l,cw kus (nkP q.1)=some (.ref l)/\b<=l/\l∉no/\Y[l]?=some (.lst (q.2.map U.int)):=by
 induction h with
 |nil=>cases hq
 |@cons x k ks us r t ih=>
  rw[List.map_cons,List.nodup_cons]at nd
  obtain⟨e,l,h1,h2,h3,h4⟩:=r
  rcases List.mem_cons.mp hq with rfl|hq
  ·refine⟨l,?_,h2,h3,h4⟩
   unfold cw
   rw[List.find?_cons,decide_eq_true e,Option.map_some,h1]
  ·obtain⟨l',v,rest⟩:=ih nd.2 hq
   have ne:¬k.1=nkP q.1:=fun z=>nd.1 (by rw[wJ (e.symm.trans z)];exact List.mem_map.mpr ⟨q,hq,rfl⟩)
   refine⟨l',?_,rest⟩
   unfold cw at v ⊢
   rw[List.find?_cons,decide_eq_false ne]
   exact v
theorem zq{κ α:Type}[DecidableEq κ]{kus:List (κ×α)}{k:κ}{u:α}(h:cw kus k=none):lz kus k u=kus++[(k,u)]:=by
 induction kus with
 |nil=>rfl
 |cons x r ih=>
  unfold cw at h
  rw[List.find?_cons]at h
  by_cases e:x.1=k
  ·rw[decide_eq_true e]at h;cases h
  ·rw[decide_eq_false e]at h
   have:=ih h
   simp only[lz,e,List.any_cons,decide_false,Bool.false_or,List.map_cons,if_false]at this ⊢
   split at this
   ·rename_i c
    rw[if_pos c,this]
    try rfl
   ·rename_i c
    rw[if_neg c]
    try rfl
structure BI(Z:Sto)(dl ll:Nat)(kn:Kn)(lus:List U)(kus:List (NK×U))(Y:Sto):Prop where
 pre:∃G,Y=Z++G
 hd:Y[dl]?=some (.dnt kus)
 hl:Y[ll]?=some (.lst lus)
 ne:dl≠ll
 zd:Z.length<=dl
 zl:Z.length<=ll
 ra:RA Z.length [dl,ll] Y kn kus
variable{Z:Sto}{dl ll:Nat}{lus:List U}
def Bo(Y:Sto)(dl ll:Nat)(kus:List (NK×U))(lus:List U)(row:List Int)(a:Int)(p:Pl):Sto:=
 ((Y++[O.lst [.int a],O.lst ((row++[a]).map U.int)]).set dl (O.dnt (kus++[(nkP p,.ref (Y.length+1))]))).set ll (O.lst (lus++[plU p]))
theorem BI.grow(B:BI Z dl ll kn lus kus Y)(G:Sto):BI Z dl ll kn lus kus (Y++G):=by
 obtain⟨G0,e⟩:=B.pre
 exact⟨⟨G0++G,by rw[e,List.append_assoc]⟩,aL B.hd,aL B.hl,B.ne,B.zd,B.zl,B.ra.mono fun l _ _ o h=>aL h⟩
theorem ua(B:BI Z dl ll kn lus kus Y){l:Nat}{o:O}(h1:l≠dl)(h2:l≠ll)(h:Y[l]?=some o):(Bo Y dl ll kus lus row a p)[l]?=some o:=by
 unfold Bo
 rw[List.getElem?_set_ne (Ne.symm h2),List.getElem?_set_ne (Ne.symm h1)]
 exact aL h
theorem BI.add(B:BI Z dl ll kn lus kus Y):BI Z dl ll (kn++[(p,row++[a])]) (lus++[plU p]) (kus++[(nkP p,.ref (Y.length+1))]) (Bo Y dl ll kus lus row a p):=by
 obtain⟨G0,e⟩:=B.pre
 have ld:dl<Y.length:=(List.getElem?_eq_some_iff.mp B.hd).1
 have l2:ll<Y.length:=(List.getElem?_eq_some_iff.mp B.hl).1
 have zy:Z.length<=Y.length:=by rw[e,List.length_append];omega
 refine⟨?_,?_,?_,B.ne,B.zd,B.zl,?_⟩
 ·unfold Bo
  rw[e,List.append_assoc,List.set_append_right _ _ B.zd,List.set_append_right _ _ B.zl]
  exact⟨_,rfl⟩
 ·unfold Bo
  rw[List.getElem?_set_ne (Ne.symm B.ne),List.getElem?_set_self (by rw[List.length_append];omega)]
 ·unfold Bo
  rw[List.getElem?_set_self (by rw[List.length_set,List.length_append];omega)]
 ·refine Paired.snoc (B.ra.mono fun l h1 h2 o h=>?_) ⟨rfl,Y.length+1,rfl,by omega,?_,?_⟩
  ·simp only[List.mem_cons,List.not_mem_nil,or_false,not_or]at h2
   exact ua B h2.1 h2.2 h
  ·simp only[List.mem_cons,List.not_mem_nil,or_false,not_or]
   omega
  ·unfold Bo
   rw[List.getElem?_set_ne (by omega),List.getElem?_set_ne (by omega),ga]
   rfl
theorem BI.left(B:BI Z dl ll kn lus kus Y)(lus':List U):BI Z dl ll kn lus' kus (Y.set ll (.lst lus')):=by
 obtain⟨G0,e⟩:=B.pre
 have l2:ll<Y.length:=(List.getElem?_eq_some_iff.mp B.hl).1
 refine⟨?_,by rw[List.getElem?_set_ne (Ne.symm B.ne)];exact B.hd,List.getElem?_set_self l2,B.ne,B.zd,B.zl,B.ra.mono fun l h1 h2 o h=>?_⟩
 ·rw[e,List.set_append_right _ _ B.zl];exact⟨_,rfl⟩
 ·simp only[List.mem_cons,List.not_mem_nil,or_false,not_or]at h2
  rw[List.getElem?_set_ne (Ne.symm h2.2)];exact h
theorem mz:wH [.tup (p.1.map U.int),.tup (p.2.map U.int)]=some (nkP p):=by simp only[wH,jv,Option.bind_some,Option.map_some,nkP]
theorem Jg{l:Nat}(h:Y[l]?=some (.dnt kus)):Be (plU p) (.ref l) Y=some (.bl (!(cw kus (nkP p)).isSome),Y):=by
 unfold Be plU
 dsimp only
 rw[mz,Option.bind_some]
 unfold D4
 rw[h]
 rfl
theorem Ju{l:Nat}{u:U}(h:Y[l]?=some (.dnt kus))(v:cw kus (nkP p)=some u):u2 (.ref l) (plU p) Y=some (u,Y):=by
 unfold u2 plU
 dsimp only
 rw[mz,Option.bind_some]
 unfold D4
 rw[h]
 dsimp only
 rw[Option.bind_some,v]
 rfl
theorem EI{co ci cv:CE}{ρ:Rho}{S1 S2 S3:Sto}{v:U}{l:Nat}(h1:cv ρ Y=some (v,S1))(h2:co ρ S1=some (.ref l,S2))(h3:ci ρ S2=some (plU p,S3))(h:S3[l]?=some (.dnt kus))(hl:kus.length<LIM)(hn:cw kus (nkP p)=none) :
  mR co ci cv ρ Y=some (.nx,ρ,S3.set l (.dnt (kus++[(nkP p,v)]))):=by
 unfold mR
 rw[h1,Option.bind_some]
 dsimp only
 rw[h2,Option.bind_some]
 dsimp only
 rw[h3,Option.bind_some]
 dsimp only[plU]
 rw[h]
 dsimp only
 rw[mz,Option.bind_some,if_pos hl,zq hn]
theorem JP{l k:Nat}{r1 r2:List Int}(h1:Y[l]?=some (.lst (r1.map U.int)))(h2:Y[k]?=some (.lst (r2.map U.int)))(hl:r1.length+r2.length<=900):eI (.ref l) (.ref k) Y=some (.ref Y.length,Y++[.lst ((r1++r2).map U.int)]):=by
 have:(r1.map U.int).length+(r2.map U.int).length<=LIM:=by unfold LIM;rw[List.length_map,List.length_map];omega
 simp only[eI,i8,h1,h2]
 rw[if_pos this,List.map_append]
end
section
variable{kn:Kn}{kus:List (NK×U)}{p p0:Pl}{row:List Int}{a n w:Int}{Z Y:Sto}{dl ll ld wl F:Nat}{lus:List U}{fw f:Fn}{W st:U}{Ds:List (List (Dl 2))}{st0:List Int}
def knA(kn:Kn)(row:List Int)(a:Int)(p:Pl):Kn:=if p∈kn.map (·.1)then kn else kn++[(p,row++[a])]
def luA(kn:Kn)(lus:List U)(p:Pl):List U:=if p∈kn.map (·.1)then lus else lus++[plU p]
def stA(kn:Kn)(Y:Sto)(dl ll:Nat)(kus:List (NK×U))(lus:List U)(row:List Int)(a:Int)(p:Pl):Sto:=if p∈kn.map (·.1)then Y else Bo Y dl ll kus lus row a p
theorem BI.stA(B:BI Z dl ll kn lus kus Y):∃kus',BI Z dl ll (knA kn row a p) (luA kn lus p) kus' (stA kn Y dl ll kus lus row a p):=by
 unfold knA luA OQ.stA
 split
 ·exact⟨_,B⟩
 ·exact⟨_,B.add⟩
theorem CB(B:BI Z dl ll kn lus kus Y){l:Nat}{o:O}(h1:l≠dl)(h2:l≠ll)(h:Y[l]?=some o):(stA kn Y dl ll kus lus row a p)[l]?=some o:=by
 unfold stA
 split
 ·exact h
 ·exact ua B h1 h2 h
theorem Cv{cd cl cp cn cr:CE}{ρ:Rho}(B:BI Z dl ll kn lus kus Y)(nd:(kn.map (·.1)).Nodup)(hq:(p0,row)∈kn)(hk:kn.length<=1957)(hl:lus.length<=1957)(hr:row.length<=6)
  (vd:∀S,cd ρ S=some (.ref dl,S)) (vl:∀S,cl ρ S=some (.ref ll,S)) (vp:cp ρ Y=some (plU p0,Y)) (vn:∀S,cn ρ S=some (.int a,S)) (vr:∀S,cr ρ S=some (plU p,S)) :
  dF (aH (cOp Be cr cd)) (bb (mR cd cr (cOp eI (cOp u2 cd cp) (iH (ae cn ax)))) (dS (cBM bS cl (ae cr ax)))) bU ρ Y=some (.nx,ρ,stA kn Y dl ll kus lus row a p):=by
 have t1:aH (cOp Be cr cd) ρ Y=some (!(cw kus (nkP p)).isSome,Y):=by
  rwa[vr,vd,Jg B.hd]
 rw[BK,t1,Option.bind_some]
 unfold stA
 by_cases hp:p∈kn.map (·.1)
 ·rw[if_pos hp]
  obtain⟨q,hq',e⟩:=List.mem_map.mp hp
  obtain⟨l,v,_⟩:=B.ra.val nd hq'
  rw[e]at v
  rw[v]
  rfl
 ·rw[if_neg hp]
  have hn:=B.ra.none hp
  rw[hn]
  obtain⟨l,v,l1,l2,l3⟩:=B.ra.val nd hq
  dsimp only at v l3
  have e1:(Y++[O.lst [.int a]])[Y.length]?=some (.lst ([a].map U.int)):=by rw[ga0];rfl
  have hv:cOp eI (cOp u2 cd cp) (iH (ae cn ax)) ρ Y=some (.ref (Y.length+1),Y++[O.lst [.int a],O.lst ((row++[a]).map U.int)]):=by
   have s1:cOp u2 cd cp ρ Y=some (.ref l,Y):=by
    rwa[vd,vp,Ju B.hd v]
   have s2:iH (ae cn ax) ρ Y=some (.ref Y.length,Y++[O.lst [.int a]]):=by
    rwa[vn]
   have s3:=JP (Y:=Y++[O.lst [.int a]]) (aL l3) e1 (by rw[List.length_singleton];omega)
   rw[Je,s1,Option.bind_some,By,s2,Option.bind_some,Bx,s3,List.append_assoc,List.length_append]
   rfl
  have hd2:(Y++[O.lst [.int a],O.lst ((row++[a]).map U.int)])[dl]?=some (.dnt kus):=aL B.hd
  have hs:=EI (ρ:=ρ) hv (vd _) (vr _) hd2 (by rw[<-B.ra.length];unfold LIM;omega) hn
  have gl:((Y++[O.lst [.int a],O.lst ((row++[a]).map U.int)]).set dl (.dnt (kus++[(nkP p,.ref (Y.length+1))])))[ll]?=some (.lst lus):=by
   rw[List.getElem?_set_ne B.ne];exact aL B.hl
  have hL:lus.length<LIM:=by unfold LIM;omega
  show bb _ _ ρ Y=_
  rw[jg hs]
  rwa[vl,vr,gl,dG hL]
  rfl
theorem yr{ws:List (Int×Pl)}:o5 row ((a,p)::ws) kn=o5 row ws (knA kn row a p):=rfl
def luW(lus:List U):List (Int×Pl)->Kn->List Int->List U
 |[],_,_=>lus
 |(a,p)::ws,kn,row=>luW (luA kn lus p) ws (knA kn row a p) row
theorem wQ:∀(ws:List (Int×Pl)) (kn:Kn) (lus:List U) (t:List (Pl×List Int)),o5 row ws kn=kn++t->luW lus ws kn row=lus++t.map fun q=>plU q.1
 |[],kn,lus,t,h=>by
  have:t=[]:=by have:=congrArg List.length h;rw[show o5 row [] kn=kn from rfl,List.length_append]at this;exact List.eq_nil_of_length_eq_zero (by omega)
  subst this
  exact(List.append_nil _).symm
 |(a,p)::ws,kn,lus,t,h=>by
  rw[yr]at h
  unfold luW
  by_cases hp:p∈kn.map (·.1)
  ·have e1:knA kn row a p=kn:=by unfold knA;rw[if_pos hp]
   have e2:luA kn lus p=lus:=by unfold luA;rw[if_pos hp]
   rw[e1]at h
   rw[e1,e2]
   exact wQ ws kn lus t h
  ·have e1:knA kn row a p=kn++[(p,row++[a])]:=by unfold knA;rw[if_neg hp]
   have e2:luA kn lus p=lus++[plU p]:=by unfold luA;rw[if_neg hp]
   rw[e1]at h
   rw[e1,e2]
   obtain⟨t',e⟩:=fO (row:=row) ws (kn++[(p,row++[a])])
   rw[e,List.append_assoc]at h
   have ht:t=[(p,row++[a])]++t':=(List.append_cancel_left h).symm
   rw[wQ ws _ (lus++[plU p]) t' e,ht,List.append_assoc,List.map_append]
   rfl
theorem vy(R:List U->Prop)(Rm:∀l u,R l->R (l++[u])){ρ0:Option U->Option U->Rho}{cb:CS}{us:List U}(hp:gO w Ds st0 row p0)(hN:Ds.length<=6)(g67:∀u6 u7 v6 v7 S,gTp [6,7] (.tup [u6,u7]) (ρ0 v6 v7) S=some (ρ0 (some u6) (some u7),S))
  (body:∀{kn:Kn} {lus:List U} {kus:List (NK×U)} {Y:Sto} {a:Int} {p:Pl},BI Z dl ll kn lus kus Y->(kn.map (·.1)).Nodup->(p0,row)∈kn->kn.length<=1957->lus.length<=1957->R lus->cb (ρ0 (some (.int a)) (some (plU p))) Y=some (.nx,ρ0 (some (.int a)) (some (plU p)),stA kn Y dl ll kus lus row a p))
  (h1:wl≠dl) (h2:wl≠ll):∀(ws:List (Int×Pl)) (kn:Kn) (lus:List U) (kus:List (NK×U)) (Y:Sto) (v6 v7:Option U),(∀x∈ws,x∈bz w p0 Ds 0)->KnI w Ds st0 kn->(p0,row)∈kn->lus.length<=kn.length->R lus->BI Z dl ll kn lus kus Y->Y[wl]?=some (.lst us)->
  ∃kus' Y' v6' v7',cy (fun Z=>Z[wl]?=some (.lst us)) (gTp [6,7]) cb (ws.map j6) (ρ0 v6 v7) Y=some (.nx,ρ0 v6' v7',Y')/\BI Z dl ll (o5 row ws kn) (luW lus ws kn row) kus' Y'
 |[],kn,lus,kus,Y,v6,v7,_,_,_,_,_,B,hw=>⟨kus,Y,v6,v7,eE hw,B⟩
 |(a,p)::ws,kn,lus,kus,Y,v6,v7,hws,I,hq,hll,hR,B,hw=>by
  have few:=I.few hN
  have I':KnI w Ds st0 (knA kn row a p):=KnI.add hp [(a,p)] kn I fun x hx=>by rw[List.mem_singleton.mp hx];exact hws _ List.mem_cons_self
  have hq':(p0,row)∈knA kn row a p:=by unfold knA;split;exact hq;exact List.mem_append_left _ hq
  have hb:=body (a:=a) (p:=p) B I.nd hq few (by omega) hR
  obtain⟨kus1,B1⟩:=B.stA (row:=row) (a:=a) (p:=p)
  have hll':(luA kn lus p).length<=(knA kn row a p).length:=by
   unfold luA knA
   split
   ·exact hll
   ·rw[List.length_append,List.length_append];exact Nat.add_le_add_right hll _
  obtain⟨kus',Y',a6,a7,ih,B'⟩:=vy R Rm hp hN g67 body h1 h2 ws _ _ kus1 _ (some (.int a)) (some (plU p)) (fun x hx=>hws x (List.mem_cons_of_mem _ hx)) I' hq' hll' (by unfold luA;split;exact hR;exact Rm _ _ hR) B1 (CB B h1 h2 hw)
  refine⟨kus',Y',a6,a7,?_,B'⟩
  rw[List.map_cons]
  exact(cB hw (g67 _ _ _ _ _) hb).trans ih
end
def plQ(q:Pl×List Int):U:=plU q.1
section
variable{kn:Kn}{kus:List (NK×U)}{n w:Int}{Z Y S:Sto}{dl ll ld F:Nat}{f:Fn}{st:U}{Ds:List (List (Dl 2))}{st0:List Int}
abbrev rhP(n w:Int)(st:U)(ld dl ll:Nat)(r5 r6 r7:Option U):Rho:=[some (.tup [.int n,.int w]),some st,some (.ref ld),some (.ref dl),some (.ref ll),r5,r6,r7]
abbrev wtP:CT:=aH (cOp fGt (cCB fU (ae (ak 4) ax)) (cC (.int 0)))
theorem MD{us:List U}{u:U}{l:Nat}(h:Y[l]?=some (.lst (u::us)))(hl:us.length<=1957):f7 (.ref l) [.int 0] Y=some (u,Y.set l (.lst us)):=by
 have c:(0:Int)<=0/\(0:Int)<((u::us).length:Int)/\(u::us).length<=LIM:=⟨Int.le_refl _,by rw[List.length_cons];omega,by unfold LIM;rw[List.length_cons];omega⟩
 simp only[f7,h]
 rw[if_pos c]
 rfl
theorem D2{i:Nat}{q:Pl×List Int}(h:kn[i]?=some q):kn.drop i=q::kn.drop (i+1):=by
 obtain⟨hi,e⟩:=List.getElem?_eq_some_iff.mp h
 rw[List.drop_eq_getElem_cons hi,e]
theorem pQ(hf:jF n w f)(hN:Ds.length<=6)(hs:st0.length=n.toNat)(ok:∀d∈Ds,OkL n w 2 d)(hz:Z[ld]?=some (.lst (Ds.map dlU))):∀(g i:Nat) (kn:Kn) (kus:List (NK×U)) (Y:Sto) (r5 r6 r7:Option U),KnI w Ds st0 kn->i<=kn.length->1958<=g+i->BI Z dl ll kn ((kn.drop i).map plQ) kus Y->
  ∃kus' lus' Y' r5' r6' r7',cA wtP (dP (ik f) F) g (rhP n w st ld dl ll r5 r6 r7) Y=some (.nx,rhP n w st ld dl ll r5' r6' r7',Y')/\BI Z dl ll (bfs w Ds g i kn) lus' kus' Y'
 |0,i,kn,kus,Y,r5,r6,r7,I,hi,hg,B=>by have:=I.few hN;omega
 |g+1,i,kn,kus,Y,r5,r6,r7,I,hi,hg,B=>by
  have few:=I.few hN
  unfold bfs
  cases hq:kn[i]? with
  |none=>
   have e:i=kn.length:=by have:=List.getElem?_eq_none_iff.mp hq;omega
   have eL:(kn.drop i).map plQ=[]:=by rw[e,List.drop_length];rfl
   have hl:=B.hl
   rw[eL]at hl
   refine⟨kus,_,Y,r5,r6,r7,jd ?_,B⟩
   rwa[wtP,rhP,hl]
   rfl
  |some q=>
   dsimp only
   have hm:q∈kn:=List.mem_of_getElem? hq
   have pa:=I.pa q hm
   have pok:=pa.ok
   have rl:=pa.few hN
   have ed:=D2 hq
   have hl:=B.hl
   rw[ed,List.map_cons]at hl
   have dl1:((kn.drop (i+1)).map plQ).length<=1957:=by rw[List.length_map,List.length_drop];omega
   have B1:=B.left ((kn.drop (i+1)).map plQ)
   obtain⟨Y1,hY1⟩:∃Y1,Y1=Y.set ll (.lst ((kn.drop (i+1)).map plQ)):=⟨_,rfl⟩
   rw[<-hY1]at B1
   have z1:Y1[ld]?=some (.lst (Ds.map dlU)):=by obtain⟨G,e⟩:=B1.pre;rw[e];exact aL hz
   obtain⟨G,hw⟩:=vx (S:=Y1) (p:=q.1) hf (by rw[pok.gone,(aX _).length_eq];omega) (by rw[pok.len];exact hs) z1 ok (by omega)
   obtain⟨Y2,hY2⟩:∃Y2,Y2=Y1++(O.lst ((bz w q.1 Ds 0).map j6)::G):=⟨_,rfl⟩
   have B2:=B1.grow (O.lst ((bz w q.1 Ds 0).map j6)::G)
   rw[<-hY2]at B2 hw
   have gw:Y2[Y1.length]?=some (.lst ((bz w q.1 Ds 0).map j6)):=by rw[hY2,ga0];rfl
   have d1:Y1.length≠dl:=by have:=(List.getElem?_eq_some_iff.mp B1.hd).1;omega
   have d2:Y1.length≠ll:=by have:=(List.getElem?_eq_some_iff.mp B1.hl).1;omega
   obtain⟨kus',Y',a6,a7,hL,B'⟩:=vy (fun _=>True) (fun _ _ _=>trivial) (ρ0:=fun v6 v7=>rhP n w st ld dl ll (some (plU q.1)) v6 v7) (cb:=fN (ik f) F) (row:=q.2) pa hN (fun _ _ _ _ _=>rfl)
    (fun{kn lus kus Y a p} B nd hq hk hl _=>Cv B nd hq hk hl (by omega) (fun _=>rfl) (fun _=>rfl) rfl (fun _=>rfl) (fun _=>rfl)) d1 d2 _ kn ((kn.drop (i+1)).map plQ) kus Y2 r6 r7 (fun x hx=>hx) I hm (by rw[List.length_map,List.length_drop];omega) trivial B2 gw
   obtain⟨t,et⟩:=fO (row:=q.2) (bz w q.1 Ds 0) kn
   have el:=wQ (row:=q.2) (bz w q.1 Ds 0) kn ((kn.drop (i+1)).map plQ) t et
   have hi1:i+1<=kn.length:=(List.getElem?_eq_some_iff.mp hq).1
   have el2:luW ((kn.drop (i+1)).map plQ) (bz w q.1 Ds 0) kn q.2=((o5 q.2 (bz w q.1 Ds 0) kn).drop (i+1)).map plQ:=by
    rw[el,et,List.drop_append_of_le_length hi1,List.map_append];rfl
   rw[el2]at B'
   have I':=KnI.add pa (bz w q.1 Ds 0) kn I fun x hx=>hx
   obtain⟨kus2,lus2,Y3,c5,c6,c7,ih,B3⟩:=pQ hf hN hs ok hz g (i+1) _ kus' Y' (some (plU q.1)) a6 a7 I' (by rw[et,List.length_append];omega) (by omega) B'
   refine⟨kus2,lus2,Y3,c5,c6,c7,(og (S0:=Y) ?_ ?_).trans ih,B3⟩
   ·have ge:decide (((plQ q::(kn.drop (i+1)).map plQ).length:Int)>0)=true:=by rw[List.length_cons];exact decide_eq_true (by omega)
    simp only[wtP,rhP,hl,EA,AH,Je,By,Bx,Ik,yC,vc,qF,qE,BA,x_c,AI,va,AL,AM,Ls,ge,List.getElem?_cons_zero,List.getElem?_cons_succ,Option.bind_some]
   ·unfold dP
    have e5:bJ 5 (cBM f7 (ak 4) (ae (cC (.int 0)) ax)) (rhP n w st ld dl ll r5 r6 r7) Y=some (.nx,rhP n w st ld dl ll (some (plU q.1)) r6 r7,Y1):=by
     have:=MD hl dl1
     rw[<-hY1]at this
     rwa[rhP,hl,this,plQ]
    rw[jg e5]
    have ei:iTp (cCB (ik f) (ae (ak 0) (ae (ak 2) (ae (ak 5) ax)))) (rhP n w st ld dl ll (some (plU q.1)) r6 r7) Y1=some ((bz w q.1 Ds 0).map j6,fun Z=>Z[Y1.length]?=some (.lst ((bz w q.1 Ds 0).map j6)),Y2):=by
     have ec:cCB (ik f) (ae (ak 0) (ae (ak 2) (ae (ak 5) ax))) (rhP n w st ld dl ll (some (plU q.1)) r6 r7) Y1=some (.ref Y1.length,Y2):=hw
     unfold iTp
     rw[ec,Option.bind_some]
     simp only[gw]
    unfold lB
    rw[ei,Option.bind_some]
    exact hL
def iN(f:Fn)(F:Nat):Fn:=fnU 8 3 (cI (ik f) F)
theorem AD{X:Sto}{dl ll k:Nat}(hZ:∃G,X=S++G)(h1:X[dl]?=some (.dnt [(nkP ([],st0),.ref k)]))(h2:X[ll]?=some (.lst [plU ([],st0)]))(h3:X[k]?=some (.lst []))(ne:dl≠ll)(k1:k≠dl)(k2:k≠ll)(zd:S.length<=dl)(zl:S.length<=ll)(zk:S.length<=k):BI S dl ll (kn0 st0) ((kn0 st0).map plQ) [(nkP ([],st0),.ref k)] X:=
 ⟨hZ,h1,h2,ne,zd,zl,.cons ⟨rfl,k,rfl,zk,by simp[k1,k2],h3⟩ .nil⟩
theorem vR(hf:jF n w f)(hN:Ds.length<=6)(hs:st0.length=n.toNat)(ok:∀d∈Ds,OkL n w 2 d)(hz:S[ld]?=some (.lst (Ds.map dlU))) :
  ∃kus lus Y,iN f 3000 [.tup [.int n,.int w],.tup (st0.map U.int),.ref ld] S=some (.ref S.length,Y)/\BI S S.length (S.length+2) (dh w Ds st0) lus kus Y:=by
 unfold iN
 rw[k8]
 obtain⟨Y0,hY0⟩:∃Y0,Y0=S++[O.dnt [(nkP ([],st0),.ref (S.length+1))],O.lst [],O.lst [plU ([],st0)]]:=⟨_,rfl⟩
 have B0:=AD (S:=S) (X:=Y0) (st0:=st0) (dl:=S.length) (ll:=S.length+2) (k:=S.length+1) ⟨_,hY0⟩ (by rw[hY0,ga0];rfl) (by rw[hY0,ga];rfl) (by rw[hY0,ga];rfl) (by omega) (by omega) (by omega) (Nat.le_refl _) (by omega) (by omega)
 obtain⟨kus,lus,Y,r5,r6,r7,hL,B⟩:=pQ (Z:=S) (F:=3000) (st:=.tup (st0.map U.int)) hf hN hs ok hz 3000 0 (kn0 st0) _ Y0 none none none wZ (Nat.zero_le _) (by omega) B0
 refine⟨kus,lus,Y,?_,B⟩
 have e1:bJ 3 (qr (cu (ae (cu ax) (ae (ak 1) ax))) (iH ax)) [some (.tup [.int n,.int w]),some (.tup (st0.map U.int)),some (.ref ld),none,none,none,none,none] S=some (.nx,[some (.tup [.int n,.int w]),some (.tup (st0.map U.int)),some (.ref ld),some (.ref S.length),none,none,none,none],S++[O.dnt [(nkP ([],st0),.ref (S.length+1))],O.lst []]):=by
  have ed:qr (cu (ae (cu ax) (ae (ak 1) ax))) (iH ax) [some (.tup [.int n,.int w]),some (.tup (st0.map U.int)),some (.ref ld),none,none,none,none,none] S=some (.ref S.length,S++[O.dnt [(nkP ([],st0),.ref (S.length+1))],O.lst []]):=by
   have k1:cu (ae (cu ax) (ae (ak 1) ax)) [some (.tup [.int n,.int w]),some (.tup (st0.map U.int)),some (.ref ld),none,none,none,none,none] (S++[.dnt []])=some (.tup [.tup [],.tup (st0.map U.int)],S++[.dnt []]):=rfl
   have k2:iH ax [some (.tup [.int n,.int w]),some (.tup (st0.map U.int)),some (.ref ld),none,none,none,none,none] (S++[.dnt []])=some (.ref (S++[O.dnt []]).length,S++[.dnt []]++[.lst []]):=rfl
   have nk:wH [.tup [],.tup (st0.map U.int)]=some (nkP ([],st0)):=mz (p:=([],st0))
   unfold qr
   rw[k1,Option.bind_some]
   dsimp only
   rw[k2,Option.bind_some]
   dsimp only
   rw[nk,Option.bind_some,List.append_assoc,ga0]
   dsimp only[List.cons_append,List.nil_append,List.getElem?_cons_zero]
   rw[gs0,List.length_append]
   rfl
  rw[qC,ed]
  rfl
 have e2:bJ 4 (iH (ae (cu (ae (cu ax) (ae (ak 1) ax))) ax)) [some (.tup [.int n,.int w]),some (.tup (st0.map U.int)),some (.ref ld),some (.ref S.length),none,none,none,none] (S++[O.dnt [(nkP ([],st0),.ref (S.length+1))],O.lst []])=some (.nx,rhP n w (.tup (st0.map U.int)) ld S.length (S.length+2) none none none,Y0):=by
  rw[hY0]
  have:(S++[O.dnt [(nkP ([],st0),.ref (S.length+1))],O.lst []]).length=S.length+2:=by rw[List.length_append];rfl
  have e:iH (ae (cu (ae (cu ax) (ae (ak 1) ax))) ax) [some (.tup [.int n,.int w]),some (.tup (st0.map U.int)),some (.ref ld),some (.ref S.length),none,none,none,none] (S++[O.dnt [(nkP ([],st0),.ref (S.length+1))],O.lst []])=some (.ref (S++[O.dnt [(nkP ([],st0),.ref (S.length+1))],O.lst []]).length,S++[O.dnt [(nkP ([],st0),.ref (S.length+1))],O.lst []]++[.lst [plU ([],st0)]]):=rfl
  rw[qC,e,this,List.append_assoc]
  rfl
 unfold cI
 rw[jg e1,jg e2,jg hL]
 rfl
end
def yu:Fn:=fnU 2 2 (cK dQ)
theorem tR(ns:List Int)(T:Sto){n w:Int}(w0:2<=w)(w1:w<=1000):∀(us:List U) (r:Option U) (ys:List Int) (G:Sto) {a c:Int},0<=a->0<=c->ys.length+us.length<=1000->
  ∃(zs:List Int) (a' c':Int) (G':Sto),gj (fun _=>True) (gNm 0) (cCB dQ (ae (ak 1) (ae (cOp fIx (iH (ae (cC (.int 2)) (ae (cOp fIx (ak 2) (cC (.int 1))) ax))) (cCB HD (ae (cOp fEq (cCB dQ (ae (ak 1) (ae (cC (.int 4)) ax))) (cC (.int 0))) ax))) ax))) (T.length+1+1) us [r,some (.ref 1),some (.tup [.int n,.int w])] (scr ns::pen a c::(T++.lst (ys.map U.int)::G))
   = some (scr ns::pen a' c'::(T++.lst (zs.map U.int)::G'))/\zs.length=ys.length+us.length/\0<=a'/\0<=c'
 |[],r,ys,G,a,c,ha,hc,hl=>⟨ys,a,c,G,jA trivial,rfl,ha,hc⟩
 |u::us,r,ys,G,a,c,ha,hc,hl=>by
  obtain⟨f,a1,c1,h1,p1,q1,ha1,hc1⟩:=bF ns (T++.lst (ys.map U.int)::(G++[.lst [.int 2,.int w]])) (m:=4) ha hc (by decide) (by decide +kernel)
  obtain⟨z,hz,z0,z1⟩:∃z:Int,atI [U.int 2,U.int w] (if (decide (f=0))=true then 1 else 0)=some (.int z)/\0<z/\z<=1000:=by
   by_cases e:f=0
   ·rw[if_pos (decide_eq_true e)];exact⟨w,rfl,by omega,w1⟩
   ·rw[decide_eq_false e];exact⟨2,rfl,by omega,by omega⟩
  obtain⟨g,a2,c2,h2,p2,q2,ha2,hc2⟩:=bF ns (T++.lst (ys.map U.int)::(G++[.lst [.int 2,.int w]])) (m:=z) ha1 hc1 z0 (l9 (by omega) (by omega))
  obtain⟨zs,a3,c3,G',h3,e3,ha3,hc3⟩:=tR ns T (n:=n) w0 w1 us (some u) (ys++[g]) (G++[.lst [.int 2,.int w]]) ha2 hc2 (by simp at hl ⊢;omega)
  refine⟨zs,a3,c3,G',?_,by simp at e3 ⊢;omega,ha3,hc3⟩
  refine(hV (ρ0:=[some u,some (.ref 1),some (.tup [.int n,.int w])]) (S0:=scr ns::pen a c::(T++.lst (ys.map U.int)::G)) (S1:=scr ns::pen a2 c2::(T++.lst (ys.map U.int)::(G++[.lst [.int 2,.int w]]))) (x:=.int g) (ys:=ys.map U.int) trivial rfl ?_ ?_ (by unfold LIM;simp at hl ⊢;omega)).trans ?_
  ·have gg:(T++O.lst (ys.map U.int)::(G++[O.lst [.int 2,.int w]]))[T.length+(G.length+1)]?=some (.lst [.int 2,.int w]):=by rw[ga,List.getElem?_cons_succ,ga0];rfl
   rwa[h1,h2,hz,gg,List.length_append]
  ·rwa[]
  ·rw[<-h3]
   rwa[List.map_append,List.map_cons,List.map_nil]
theorem HC(ns:List Int)(T:Sto){a c n w:Int}(ha:0<=a)(hc:0<=c)(n0:1<=n)(n1:n<=6)(w0:2<=w)(w1:w<=1000) :
  ∃(zs:List Int) (a' c':Int) (G:Sto),yu [.ref 1,.tup [.int n,.int w]] (scr ns::pen a c::T)=some (.tup (zs.map U.int),scr ns::pen a' c'::(T++G))/\zs.length=n.toNat/\0<=a'/\0<=c':=by
 unfold yu
 rw[lg]
 obtain⟨zs,a',c',G',h,e,ha',hc'⟩:=tR ns T (n:=n) w0 w1 (cP 0 n.toNat) none [] [] ha hc (by simp[cP];omega)
 refine⟨zs,a',c',.lst (zs.map U.int)::G',?_,by rw[e];simp[cP],ha',hc'⟩
 have hr:-(2^62)<=n/\n<2^62:=by omega
 simp only[List.map_nil]at h
 rwa[cK,gH,cN,qQ,hr,h,if_true,and_self,List.replicate,Option.getD_some]
def n5:Fn:=fnU 8 2 (dy dQ)
abbrev pd(d:fD):Dl 2:=DF.pl d
abbrev pd1(d:fD):Dl 1:=DF.pl d
abbrev td(a b:List fD):Dl 2:=DF.tr (a.map pd1) (b.map pd1)
theorem ok1{n w:Int}{ds:List fD}(h:∀d∈ds,d.ok n w)(hl:ds.length<=30):OkL n w 1 (ds.map pd1):=⟨by rw[List.length_map];exact hl,fun d hd=>by
 obtain⟨x,hx,rfl⟩:=List.mem_map.mp hd
 exact h x hx⟩
theorem ok2{n w:Int}{ds:List (Dl 2)}{b v:Int}(h:ds.length<=20)(k:∀d∈ds,DF.ok n w (OkL n w 1) d)(b0:0<=b)(b1:b<n)(v0:0<=v)(v1:v<w):OkL n w 2 (ds++[pd (.set 3 v),pd (.put b 3)]):=⟨by rw[List.length_append];simp;omega,fun d hd=>by
 rcases List.mem_append.mp hd with z|z
 ·exact k d z
 ·simp only[List.mem_cons,List.not_mem_nil,or_false]at z
  rcases z with rfl|rfl
  ·exact⟨by omega,by omega,v0,v1⟩
  ·exact⟨by omega,by omega,b0,b1⟩⟩
theorem DC(ns:List Int)(T:Sto){a c n w:Int}(ha:0<=a)(hc:0<=c)(n0:1<=n)(n1:n<=6)(w0:2<=w)(w1:w<=1000) :
  ∃(d:List (Dl 2)) (a' c':Int) (G:Sto),n5 [.ref 1,.tup [.int n,.int w]] (scr ns::pen a c::T)=some (dlU d,scr ns::pen a' c'::(T++G))/\OkL n w 2 d/\0<=a'/\0<=c':=by
 unfold n5
 rw[rN]
 obtain⟨f,a1,c1,e1,p1,q1,ha1,hc1⟩:=bF ns T (m:=n) ha hc (by omega) (l9 (by omega) (by omega))
 obtain⟨g,a2,c2,e2,p2,q2,ha2,hc2⟩:=bF ns T (m:=n) ha1 hc1 (by omega) (l9 (by omega) (by omega))
 obtain⟨k,a3,c3,e3,p3,q3,ha3,hc3⟩:=bF ns T (m:=5) ha2 hc2 (by decide) (by decide +kernel)
 obtain⟨t,a4,c4,e4,p4,q4,ha4,hc4⟩:=bF ns (T++[.lst [.int f,.int g]]) (m:=2) ha3 hc3 (by decide) (by decide +kernel)
 obtain⟨v,a5,c5,e5,p5,q5,ha5,hc5⟩:=bF ns (T++[.lst [.int f,.int g]]) (m:=2) ha4 hc4 (by decide) (by decide +kernel)
 obtain⟨b,hb,b0,b1⟩:∃b:Int,atI [U.int f,U.int g] t=some (.int b)/\0<=b/\b<n:=by
  have:t=0\/t=1:=by omega
  rcases this with rfl|rfl
  ·exact⟨f,rfl,p1,q1⟩
  ·exact⟨g,rfl,p2,q2⟩
 have cat:∀(x y z u v:U) (S:Sto),eI (.tup [x,y,z]) (.tup [u,v]) S=some (.tup [x,y,z,u,v],S):=fun _ _ _ _ _ _=>rfl
 have cat2:∀(x y u v:U) (S:Sto),eI (.tup [x,y]) (.tup [u,v]) S=some (.tup [x,y,u,v],S):=fun _ _ _ _ _=>rfl
 have cat5:∀(x y z p q u v:U) (S:Sto),eI (.tup [x,y,z,p,q]) (.tup [u,v]) S=some (.tup [x,y,z,p,q,u,v],S):=fun _ _ _ _ _ _ _ _=>rfl
 by_cases k0:k=0
 ·refine⟨[pd (.look 0 f),pd (.set 1 1),pd (.leap 0 1),pd (.leap 2 1),pd .wait]++[pd (.set 3 v),pd (.put b 3)],a5,c5,[.lst [.int f,.int g]],?_,ok2 (by simp) (fun d hd=>?_) b0 b1 p5 (by omega),ha5,hc5⟩
  ·have t0:decide (k=0)=true:=decide_eq_true k0
   have t1:decide (k=1)=false:=decide_eq_false (by omega)
   rwa[dy,e1,e2,e3,t0,t1,e4,hb,e5,cat,cat2,cat5]
   rfl
  ·simp only[List.mem_cons,List.not_mem_nil,or_false]at hd
   rcases hd with rfl|rfl|rfl|rfl|rfl
   ·exact⟨by omega,by omega,p1,q1⟩
   ·exact⟨by omega,by omega,by omega,by omega⟩
   ·exact⟨by omega,by omega,by omega,by omega⟩
   ·exact⟨by omega,by omega,by omega,by omega⟩
   ·exact trivial
 have t0:decide (k=0)=false:=decide_eq_false k0
 by_cases k1:k=1
 ·refine⟨[pd (.look 0 f),td [.leap 0 1,.leap 2 1,.wait] [.look 0 g,.leap 0 1,.wait]]++[pd (.set 3 v),pd (.put b 3)],a5,c5,[.lst [.int f,.int g]],?_,ok2 (by simp) (fun d hd=>?_) b0 b1 p5 (by omega),ha5,hc5⟩
  ·have t1:decide (k=1)=true:=decide_eq_true k1
   rwa[dy,e1,e2,e3,t0,t1,e4,hb,e5,cat,cat2,cat5]
   rfl
  ·simp only[List.mem_cons,List.not_mem_nil,or_false]at hd
   rcases hd with rfl|rfl
   ·exact⟨by omega,by omega,p1,q1⟩
   ·refine⟨ok1 (fun d hd=>?_) (by simp),ok1 (fun d hd=>?_) (by simp)⟩
    ·simp only[List.mem_cons,List.not_mem_nil,or_false]at hd
     rcases hd with rfl|rfl|rfl
     ·exact⟨by omega,by omega,by omega,by omega⟩
     ·exact⟨by omega,by omega,by omega,by omega⟩
     ·exact trivial
    ·simp only[List.mem_cons,List.not_mem_nil,or_false]at hd
     rcases hd with rfl|rfl|rfl
     ·exact⟨by omega,by omega,p2,q2⟩
     ·exact⟨by omega,by omega,by omega,by omega⟩
     ·exact trivial
 ·refine⟨[pd (.look 0 f),pd (.leap 0 1),pd .wait]++[pd (.set 3 v),pd (.put b 3)],a5,c5,[.lst [.int f,.int g]],?_,ok2 (by simp) (fun d hd=>?_) b0 b1 p5 (by omega),ha5,hc5⟩
  ·have t1:decide (k=1)=false:=decide_eq_false k1
   rwa[dy,e1,e2,e3,t0,t1,e4,hb,e5,cat,cat2,cat5]
   rfl
  ·simp only[List.mem_cons,List.not_mem_nil,or_false]at hd
   rcases hd with rfl|rfl|rfl
   ·exact⟨by omega,by omega,p1,q1⟩
   ·exact⟨by omega,by omega,by omega,by omega⟩
   ·exact trivial
def qx:Fn:=fnU 6 3 (bI dQ (oX 3) n5)
theorem pF(ns:List Int)(T:Sto){n w m y:Int}(n0:1<=n)(n1:n<=6)(w0:2<=w)(w1:w<=1000):∀(us:List U) (r:Option U) (ys:List (List (Dl 2))) (G:Sto) {a c:Int},0<=a->0<=c->ys.length+us.length<=900->(∀d∈ys,OkL n w 2 d)->
  ∃(zs:List (List (Dl 2))) (a' c':Int) (G':Sto) (r':Option U),cy (fun _=>True) (gNm 5) (bf dQ (oX 3) n5) us [some (.ref 1),some (.tup [.int n,.int w]),some (.int y),some (.ref (T.length+1+1)),some (.int m),r] (scr ns::pen a c::(T++.lst (ys.map dlU)::G))
   = some (.nx,[some (.ref 1),some (.tup [.int n,.int w]),some (.int y),some (.ref (T.length+1+1)),some (.int m),r'],scr ns::pen a' c'::(T++.lst (zs.map dlU)::G'))/\zs.length=ys.length+us.length/\(∀d∈zs,OkL n w 2 d)/\0<=a'/\0<=c'
 |[],r,ys,G,a,c,ha,hc,hl,hy=>⟨ys,a,c,G,r,eE trivial,rfl,hy,ha,hc⟩
 |u::us,r,ys,G,a,c,ha,hc,hl,hy=>by
  have step:∃(d:List (Dl 2)) (a1 c1:Int) (G1:Sto),bf dQ (oX 3) n5 [some (.ref 1),some (.tup [.int n,.int w]),some (.int y),some (.ref (T.length+1+1)),some (.int m),some u] (scr ns::pen a c::(T++.lst (ys.map dlU)::G))
    = some (.nx,[some (.ref 1),some (.tup [.int n,.int w]),some (.int y),some (.ref (T.length+1+1)),some (.int m),some u],scr ns::pen a1 c1::(T++.lst ((ys++[d]).map dlU)::(G++G1)))/\OkL n w 2 d/\0<=a1/\0<=c1:=by
   have hL:(ys.map dlU).length<LIM:=by unfold LIM;simp at hl ⊢;omega
   have em:∀d:List (Dl 2),(ys++[d]).map dlU=ys.map dlU++[dlU d]:=fun d=>by rw[List.map_append];rfl
   obtain⟨f,a1,c1,e1,p1,q1,ha1,hc1⟩:=bF ns (T++.lst (ys.map dlU)::G) (m:=4) ha hc (by decide) (by decide +kernel)
   have mk:∀{a c:Int},0<=a->0<=c->∃(d:List (Dl 2)) (a1 c1:Int) (G1:Sto),n5 [.ref 1,.tup [.int n,.int w]] (scr ns::pen a c::(T++.lst (ys.map dlU)::G))=some (dlU d,scr ns::pen a1 c1::(T++.lst (ys.map dlU)::(G++G1)))/\OkL n w 2 d/\0<=a1/\0<=c1:=fun ha hc=>by
    obtain⟨d,a1,c1,G1,h,k⟩:=DC ns (T++.lst (ys.map dlU)::G) ha hc n0 n1 w0 w1
    exact⟨d,a1,c1,G1,by rw[h,List.append_assoc,List.cons_append],k⟩
   by_cases m5:m<5
   ·have t5:decide (m<5)=true:=decide_eq_true m5
    by_cases f0:f=0
    ·have t0:decide (f=0)=true:=decide_eq_true f0
     obtain⟨d,a2,c2,G1,h1,kd,_,_,ha2,hc2,_⟩:=tV n0 n1 w0 w1 3 2 2 (by omega) (by omega) ns (T++.lst (ys.map dlU)::G) a1 c1 10 ha1 hc1 (by omega) (by omega)
     have c2':((2:Nat):Int)=2:=rfl
     simp only[c2',List.append_assoc,List.cons_append]at h1
     refine⟨d,a2,c2,G1,?_,kd,ha2,hc2⟩
     rw[em]
     rwa[bf,e1,t5,t0,h1,dG hL,dlU]
    ·have t0:decide (f=0)=false:=decide_eq_false f0
     obtain⟨d,a2,c2,G1,h1,kd,ha2,hc2⟩:=mk ha1 hc1
     refine⟨d,a2,c2,G1,?_,kd,ha2,hc2⟩
     rw[em]
     rwa[bf,e1,t5,t0,h1,dG hL]
   ·have t5:decide (m<5)=false:=decide_eq_false m5
    obtain⟨d,a2,c2,G1,h1,kd,ha2,hc2⟩:=mk ha hc
    refine⟨d,a2,c2,G1,?_,kd,ha2,hc2⟩
    rw[em]
    rwa[bf,t5,h1,dG hL]
  obtain⟨d,a1,c1,G1,h1,kd,ha1,hc1⟩:=step
  obtain⟨zs,a2,c2,G2,r',h2,e2,b2,ha2,hc2⟩:=pF ns T n0 n1 w0 w1 us (some u) (ys++[d]) (G++G1) (m:=m) ha1 hc1 (by simp at hl ⊢;omega) (fun x hx=>by
   rcases List.mem_append.mp hx with z|z
   ·exact hy x z
   ·rw[List.mem_singleton.mp z];exact kd)
  exact⟨zs,a2,c2,G2,r',(cB trivial rfl h1).trans h2,by simp at e2 ⊢;omega,b2,ha2,hc2⟩
theorem y9(ns:List Int)(T:Sto){a c n w y:Int}(y0:0<y)(y1:y<=6)(ha:0<=a)(hc:0<=c)(n0:1<=n)(n1:n<=6)(w0:2<=w)(w1:w<=1000) :
  ∃(Ds:List (List (Dl 2))) (a' c':Int) (G:Sto),qx [.ref 1,.tup [.int n,.int w],.int y] (scr ns::pen a c::T)=some (.ref (T.length+1+1),scr ns::pen a' c'::(T++.lst (Ds.map dlU)::G))/\(Ds.length:Int)<=y/\(∀d∈Ds,OkL n w 2 d)/\0<=a'/\0<=c':=by
 unfold qx
 rw[iG]
 obtain⟨f,a1,c1,e1,p1,q1,ha1,hc1⟩:=bF ns (T++[.lst []]) (m:=y) ha hc y0 (l9 (by omega) (by omega))
 obtain⟨zs,a2,c2,G2,r',h2,e2,b2,ha2,hc2⟩:=pF (y:=y) ns T n0 n1 w0 w1 (cP 0 (1+f).toNat) none [] [] (m:=1+f) ha1 hc1 (by simp[cP];omega) (by simp)
 refine⟨zs,a2,c2,G2,?_,by rw[e2];simp[cP];omega,b2,ha2,hc2⟩
 have hr:-(2^62)<=1+f/\1+f<2^62:=by omega
 simp only[List.map_nil]at h2
 rwa[bI,lB,cN,e1,hr,h2,if_true,and_self]
section
variable{kn:Kn}{kus:List (NK×U)}{n w:Int}{Z Y S:Sto}{dl ll ld F:Nat}{f:Fn}{st:U}{Ds:List (List (Dl 2))}{st0:List Int}{b:Nat}{no:List Nat}
def Bc(N:Nat)(q:Pl×List Int):Bool:=decide ((q.1.1.length:Int)=(N:Int))
theorem RA.keys(h:RA b no Y kn kus):(kus.map fun q=>nU q.1)=kn.map plQ:=by
 induction h with
 |nil=>rfl
 |@cons q k ks us r t ih=>
  rw[List.map_cons,List.map_cons,ih,r.1]
  rfl
theorem E2{l:Nat}{u:U}{p:Pl}{ep:Nat}(h:Y[l]?=some (.fdn ep kus))(v:cw kus (nkP p)=some u):u2 (.ref l) (plU p) Y=some (u,Y):=by
 unfold u2 plU
 dsimp only
 rw[mz,Option.bind_some]
 unfold D4
 rw[h]
 dsimp only
 rw[Option.bind_some,v]
 rfl
def ID(kus:List (NK×U))(N:Nat)(kn:Kn):Out:=match kn.find? (Bc N)with
 |some q=>.rt (.tup [.str "all",(cw kus (nkP q.1)).getD .non])
 |none=>.nx
def Iq(N:Nat):Kn->Option U->Option U
 |[],r=>r
 |q::kn,_=>if Bc N q=true then some (plU q.1)else Iq N kn (some (plU q.1))
theorem qm{ep:Nat}{x0 x1:Option U}(hz:Y[ld]?=some (.lst (Ds.map dlU)))(hf:Y[dl]?=some (.fdn ep kus)):∀(kn:Kn) (r4:Option U),(∀q∈kn,∃u,cw kus (nkP q.1)=some u)->
  cy (fun S'=>S'[dl]?=some (.fdn ep kus)) (gNm 4) (eT (iN f 3000)) (kn.map plQ) [x0,x1,some (.ref ld),some (.ref dl),r4] Y=some (ID kus Ds.length kn,[x0,x1,some (.ref ld),some (.ref dl),Iq Ds.length kn r4],Y)
 |[],r4,_=>eE hf
 |q::kn,r4,hv=>by
  have ih:=qm (x0:=x0) (x1:=x1) hz hf kn (some (plU q.1)) fun x hx=>hv x (List.mem_cons_of_mem _ hx)
  obtain⟨u,v⟩:=hv q List.mem_cons_self
  have hx:=E2 hf v
  unfold ID Iq
  rw[List.find?_cons]
  have ln:((q.1.1.map U.int).length:Int)=(q.1.1.length:Int):=by rw[List.length_map]
  have ld':((Ds.map dlU).length:Int)=(Ds.length:Int):=by rw[List.length_map]
  rw[List.map_cons]
  cases hq:Bc Ds.length q with
  |true=>
   have t:decide ((q.1.1.length:Int)=(Ds.length:Int))=true:=hq
   refine(rh hf rfl ?_)
   rw[v]
   simp only[plU]at hx
   rwa[eT,plQ,plU,hz,ln,ld',t,hx,Option.getD_some,if_true]
  |false=>
   have t:decide ((q.1.1.length:Int)=(Ds.length:Int))=false:=hq
   refine(cB hf rfl ?_).trans ih
   rwa[eT,plQ,plU,hz,ln,ld',t]
def cL(f:Fn):Fn:=fnU 5 3 (gp (iN f 3000))
theorem sy{o1 o2:O}(h:Y[dl]?=some o2):(Y.set dl o1).set dl o2=Y:=by
 rw[List.set_set]
 refine List.ext_getElem? fun i=>?_
 by_cases e:dl=i
 ·subst e
  rw[List.getElem?_set_self (List.getElem?_eq_some_iff.mp h).1,h]
 ·rw[List.getElem?_set_ne e]
def Ia(S Y:Sto)(N:Nat)(kn:Kn)(v:U):Prop:=∃l,S.length<=l/\match kn.find? (Bc N)with
 |some q=>v=.tup [.str "all",.ref l]/\Y[l]?=some (.lst (q.2.map U.int))
 |none=>v=.tup [.str "never",.ref l]/\∃us,us.length<=1957/\Y[l]?=some (.lst us)
theorem rS(hf:jF n w f)(hN:Ds.length<=6)(hs:st0.length=n.toNat)(ok:∀d∈Ds,OkL n w 2 d)(hz:S[ld]?=some (.lst (Ds.map dlU))) :
  ∃v G,cL f [.tup [.int n,.int w],.tup (st0.map U.int),.ref ld] S=some (v,S++G)/\Ia S (S++G) Ds.length (dh w Ds st0) v:=by
 unfold cL
 rw[uN]
 obtain⟨kus,lus,Y,e1,B⟩:=vR hf hN hs ok hz
 obtain⟨G,eG⟩:=B.pre
 have I:=ly (w:=w) (Ds:=Ds) (st0:=st0)
 have few:=I.few hN
 have hl:S.length<Y.length:=(List.getElem?_eq_some_iff.mp B.hd).1
 have ldS:ld<S.length:=(List.getElem?_eq_some_iff.mp hz).1
 have s1:bJ 3 (cCB (iN f 3000) (ae (ak 0) (ae (ak 1) (ae (ak 2) ax)))) [some (.tup [.int n,.int w]),some (.tup (st0.map U.int)),some (.ref ld),none,none] S=some (.nx,[some (.tup [.int n,.int w]),some (.tup (st0.map U.int)),some (.ref ld),some (.ref S.length),none],Y):=by
  rwa[e1]
 have lp:qq (ak 3) (gNm 4) (eT (iN f 3000)) [some (.tup [.int n,.int w]),some (.tup (st0.map U.int)),some (.ref ld),some (.ref S.length),none] Y=some (ID kus Ds.length (dh w Ds st0),[some (.tup [.int n,.int w]),some (.tup (st0.map U.int)),some (.ref ld),some (.ref S.length),Iq Ds.length (dh w Ds st0) none],Y):=by
  have v3:ak 3 [some (.tup [.int n,.int w]),some (.tup (st0.map U.int)),some (.ref ld),some (.ref S.length),none] Y=some (.ref S.length,Y):=rfl
  unfold qq
  rw[v3,Option.bind_some]
  dsimp only
  rw[B.hd]
  dsimp only
  rw[B.ra.keys]
  refine vB fun ep=>?_
  rw[qm (by rw[List.getElem?_set_ne (by omega),eG];exact aL hz) (List.getElem?_set_self hl) _ _ fun q hq=>by
    obtain⟨l,v,_⟩:=B.ra.val I.nd hq
    exact⟨_,v⟩,Option.bind_some]
  dsimp only
  rw[List.getElem?_set_self hl]
  dsimp only
  rw[sy B.hd]
 unfold gp
 rw[jg s1]
 unfold ID at lp
 cases hq:(dh w Ds st0).find? (Bc Ds.length)with
 |some q=>
  rw[hq]at lp
  obtain⟨l,v,l1,l2,l3⟩:=B.ra.val I.nd (List.mem_of_find?_eq_some hq)
  dsimp only at lp
  rw[v]at lp
  refine⟨.tup [.str "all",.ref l],G,?_,l,l1,?_⟩
  ·rw[yB,lp,eG];rfl
  ·rw[hq,<-eG];exact⟨rfl,l3⟩
 |none=>
  rw[hq]at lp
  refine⟨.tup [.str "never",.ref Y.length],G++[.lst ((dh w Ds st0).map plQ)],?_,Y.length,by omega,?_⟩
  ·have el:∀ρ:Rho,ρ[3]?=some (some (.ref S.length))->dU (cu (ae (cC (.str "never")) (ae (cCB iL (ae (ak 3) ax)) ax))) ρ Y=some (.rt (.tup [.str "never",.ref Y.length]),ρ,Y++[.lst ((dh w Ds st0).map plQ)]):=fun ρ h=>by
    have h3:iL [.ref S.length] Y=some (.ref Y.length,Y++[.lst ((dh w Ds st0).map plQ)]):=by
     simp only[iL,B.hd,B.ra.keys]
    rwa[h,h3]
   rw[jg lp,el _ rfl,<-List.append_assoc,<-eG]
   rfl
  ·rw[hq]
   refine⟨rfl,_,?_,by rw[<-List.append_assoc,<-eG,ga0];rfl⟩
   rw[List.length_map];exact few
def follow(w:Int)(Ds:List (List (Dl 2))):List Int->List Int->Option (List Int)
 |[],st=>some st
 |o::os,st=>(goD w st (Ds.getD o.toNat [])).bind (follow w Ds os)
theorem nV:∀(os ps:List Int) (st:List Int),follow w Ds (os++ps) st=(follow w Ds os st).bind (follow w Ds ps)
 |[],ps,st=>rfl
 |o::os,ps,st=>by
  rw[List.cons_append]
  unfold follow
  cases goD w st (Ds.getD o.toNat [])with
  |none=>rfl
  |some s=>rw[Option.bind_some,Option.bind_some];exact nV os ps s
theorem gO.follow{r:List Int}{p:Pl}(h:gO w Ds st0 r p):OQ.follow w Ds r st0=some p.2:=by
 induction h with
 |nil=>rfl
 |@snoc r p p' a _ hw ih=>
  obtain⟨i,h1,h2,h3,st,h4,h5⟩:=cH hw
  rw[nV,ih,Option.bind_some]
  unfold OQ.follow
  rw[h1,Nat.zero_add,Int.toNat_natCast,h4,h5]
  rfl
end
local macro_rules
 | `(tactic| and_intros) => `(tactic| (repeat' first | assumption | exact Kx | exact k_c | exact KG | exact GU | exact G7 | exact KP | exact KO | exact L8 | exact Ma | exact IL | exact IH | exact IJ | exact Ex | exact II | exact Ez | exact Bu | exact yz | exact u9 | exact L9 | exact IP | exact Ey | exact IK | exact (fun _ _ => yA) | apply MJ | apply KA | apply Kz | apply KC | apply G5 | apply KJ | apply MI | apply G9 | apply Ky | apply KH | apply MK | apply GS | apply KU | apply MH | apply KD | apply Ha | apply KR | apply GV | apply GW | apply GX | apply ML | apply DD | apply KS | apply rq | apply KQ | apply KI | apply GZ | apply GY | apply z3 | apply MG | (apply G8; simp only [List.forall_mem_cons, List.forall_mem_nil, and_true]) | (intro _ hx; cases hx) | (intro _ hx; cases hx; done) | apply And.intro))
variable{z:Fz}{cD:Cl}{f:Fn}
theorem xX:CmF z qz:=by unfold qz gn gI;and_intros
theorem xW:CmF z n4:=by unfold n4 gk;and_intros
theorem oN:CmF z (gP cD):=by unfold gP cT;and_intros
theorem xY:CmF z (n8 cD):=by have:=xW (z:=z);unfold n8 dA;and_intros
theorem HM:CmF z (Ep cD):=by unfold Ep bw;and_intros
theorem HN:CmF z (Er cD):=by have:=xX (z:=z);have:=HM (z:=z) (cD:=cD);unfold Er bN;and_intros
theorem Ea:CmF z (kQ cD):=by unfold kQ bx;and_intros
theorem Aw:CmF z (mU cD):=by have:=xX (z:=z);have:=HM (z:=z) (cD:=cD);unfold mU bO;and_intros
theorem D8:CmF z (n9 cD):=by have:=xY (z:=z) (cD:=cD);have:=oN (z:=z) (cD:=cD);have:=HN (z:=z) (cD:=cD);unfold n9 dB;and_intros
theorem Eb:CmF z (iO cD):=by have:=oN (z:=z) (cD:=cD);unfold iO cU;and_intros
theorem Li:CmF z (yx cD):=by have:=xW (z:=z);have:=oN (z:=z) (cD:=cD);have:=Ea (z:=z) (cD:=cD);have:=Aw (z:=z) (cD:=cD);have:=xY (z:=z) (cD:=cD);have:=HN (z:=z) (cD:=cD);unfold yx aS;and_intros
theorem D9:CmF z (oe cD):=by have:=oN (z:=z) (cD:=cD);have:=Eb (z:=z) (cD:=cD);have:=D8 (z:=z) (cD:=cD);have:=Li (z:=z) (cD:=cD);unfold oe cf bq;and_intros
theorem Lh:CmF z (Eo cD):=by unfold Eo bM;and_intros
theorem D7:CmF z (n6 cD):=by have:=xX (z:=z);unfold n6 dz;and_intros
theorem tZ:CmF z (ba cD):=by have:=D9 (z:=z) (cD:=cD);have:=Lh (z:=z) (cD:=cD);have:=D7 (z:=z) (cD:=cD);unfold ba jb jD;and_intros
theorem D6(h:CmF z f):CmF z (ik f):=by unfold ik d8 bZ;and_intros
section
variable{kn:Kn}{kus:List (NK×U)}{n w:Int}{Z Y S X:Sto}{dl ll ld F:Nat}{f:Fn}{st:U}{Ds:List (List (Dl 2))}{st0:List Int}{b:Nat}{no:List Nat}{p:Pl}
abbrev ln(q:Pl×List Int):Nat:=q.1.1.length
structure Asc(L:Nat)(kn:Kn):Prop where
 so:kn.Pairwise fun a b=>ln a<=ln b
 le:∀q∈kn,ln q<=L
theorem Asc.add{L:Nat}{row:List Int}:∀(ws:List (Int×Pl)) (kn:Kn),Asc L kn->(∀x∈ws,x.2.1.length=L)->Asc L (o5 row ws kn)
 |[],kn,h,_=>h
 |(a,p)::ws,kn,h,hw=>by
  unfold o5
  refine Asc.add ws _ ?_ fun x hx=>hw x (List.mem_cons_of_mem _ hx)
  split
  ·exact h
  ·have hp:p.1.length=L:=hw _ List.mem_cons_self
   refine⟨List.pairwise_append.mpr ⟨h.so,List.pairwise_singleton _ _,fun x hx y hy=>?_⟩,fun q hq=>?_⟩
   ·rw[List.mem_singleton.mp hy]
    have:=h.le x hx
    show _<=p.1.length
    omega
   ·rcases List.mem_append.mp hq with z|z
    ·exact h.le q z
    ·rw[List.mem_singleton.mp z];exact Nat.le_of_eq hp
theorem yT{x:Int×Pl}(h:x∈bz w p Ds 0):x.2.1.length=p.1.length+1:=by
 obtain⟨a,p'⟩:=x
 obtain⟨i,_,_,_,s,_,rfl⟩:=cH h
 show(dc (p.1++[a])).length=_
 rw[(aX _).length_eq,List.length_append]
 rfl
theorem yg:∀(g i:Nat) (kn:Kn),kn.Pairwise (fun a b=>ln a<=ln b)->(∀q,kn[i]?=some q->Asc (ln q+1) kn)->(bfs w Ds g i kn).Pairwise fun a b=>ln a<=ln b
 |0,_,kn,h,_=>h
 |g+1,i,kn,h,hi=>by
  unfold bfs
  split
  ·exact h
  ·rename_i q hq
   have A:=Asc.add (row:=q.2) (bz w q.1 Ds 0) kn (hi q hq) fun x hx=>yT hx
   refine yg g (i+1) _ A.so fun q' hq'=>⟨A.so,fun x hx=>?_⟩
   have h1:=A.le x hx
   have h2:ln q<=ln q':=by
    obtain⟨t,e⟩:=fO (row:=q.2) (bz w q.1 Ds 0) kn
    have hq2:(o5 q.2 (bz w q.1 Ds 0) kn)[i]?=some q:=by rw[e];exact aL hq
    obtain⟨l1,e1⟩:=List.getElem?_eq_some_iff.mp hq2
    obtain⟨l2,e2⟩:=List.getElem?_eq_some_iff.mp hq'
    have:=List.pairwise_iff_getElem.mp A.so i (i+1) l1 l2 (Nat.lt_succ_self i)
    rw[e1,e2]at this
    exact this
   omega
theorem vS:(dh w Ds st0).Pairwise fun a b=>ln a<=ln b:=yg _ _ _ (List.pairwise_singleton _ _) fun q hq=>by
 have:q=(([],st0),[]):=by
  have:(kn0 st0)[0]?=some (([],st0),[]):=rfl
  rw[this]at hq;injection hq with hq;exact hq.symm
 subst this
 exact⟨List.pairwise_singleton _ _,fun x hx=>by rw[List.mem_singleton.mp hx];exact Nat.zero_le _⟩
theorem tN{α:Type}{R:α->α->Prop}{t:α->Bool}(rr:∀a,R a a):∀{l:List α} {q:α},l.Pairwise R->l.find? t=some q->∀b∈l,t b=true->R q b
 |a::l,q,h,hq,b,hb,tb=>by
  rw[List.find?_cons]at hq
  rw[List.pairwise_cons]at h
  cases ha:t a with
  |true=>
   rw[ha]at hq
   injection hq with hq
   subst hq
   rcases List.mem_cons.mp hb with rfl|hb
   ·exact rr _
   ·exact h.1 b hb
  |false=>
   rw[ha]at hq
   rcases List.mem_cons.mp hb with rfl|hb
   ·rw[ha]at tb;cases tb
   ·exact tN rr h.2 hq b hb tb
def stk(w:Int)(Ds:List (List (Dl 2)))(q:Pl×List Int):Bool:=decide ((q.1.1.length:Int)<(Ds.length:Int))&&decide (((bz w q.1 Ds 0).length:Int)=0)
abbrev Yf(Y:Sto)(dl ep:Nat)(kus:List (NK×U)):Sto:=Y.set dl (.fdn ep kus)
theorem yo{f:Fn}{us:List U}{u:U}{G:Sto}(hc:∀z,CmF z f)(hl:dl<Y.length)(h:f us (Yf Y dl 0 kus++X)=some (u,Yf Y dl 0 kus++X++G))(ep:Nat):f us (Yf Y dl ep kus++X)=some (u,Yf Y dl ep kus++(X++G)):=by
 let z:Fz:=⟨dl,0,ep,kus⟩
 have on0:z.on (Yf Y dl 0 kus):=List.getElem?_set_self hl
 have to0:z.to (Yf Y dl 0 kus)=Yf Y dl ep kus:=List.set_set ..
 have k:=(hc z us _ _ _ (Fz.app_on on0) h).1
 rw[Fz.app on0,List.append_assoc,Fz.app on0,to0]at k
 exact k
theorem Fp(hf:jF n w f)(hc:∀z,CmF z f)(hl:dl<Y.length)(ne:ld≠dl)(hp:p.1.length<=40)(hs:p.2.length=n.toNat)(hd:Y[ld]?=some (.lst (Ds.map dlU)))(ok:∀d∈Ds,OkL n w 2 d)(hN:Ds.length<=6)(X:Sto) :
  ∃G,∀ep,ik f [.tup [.int n,.int w],.ref ld,plU p] (Yf Y dl ep kus++X)=some (.ref (Y.length+X.length),Yf Y dl ep kus++(X++(.lst ((bz w p Ds 0).map j6)::G))):=by
 have hd0:(Yf Y dl 0 kus++X)[ld]?=some (.lst (Ds.map dlU)):=aL (by rw[List.getElem?_set_ne (Ne.symm ne)];exact hd)
 obtain⟨G,h⟩:=vx (p:=p) hf hp hs hd0 ok (by omega)
 refine⟨G,fun ep=>?_⟩
 have:=yo (fun z=>D6 (hc z)) hl h ep
 rw[List.length_append,List.length_set]at this
 exact this
def qA(f:Fn):Fn:=fnU 3 3 (fi (ik f))
theorem Ht(hf:jF n w f)(hc:∀z,CmF z f)(hl:dl<Y.length)(ne:ld≠dl)(q:Pl×List Int)(hp:q.1.1.length<=40)(hs:q.1.2.length=n.toNat)(hd:Y[ld]?=some (.lst (Ds.map dlU)))(ok:∀d∈Ds,OkL n w 2 d)(hN:Ds.length<=6)(X:Sto) :
  ∃G,∀ep,qA f [.tup [.int n,.int w],.ref ld,plU q.1] (Yf Y dl ep kus++X)=some (.bl (stk w Ds q),Yf Y dl ep kus++(X++G)):=by
 obtain⟨G,h⟩:=Fp (kus:=kus) hf hc hl ne hp hs hd ok hN X
 have l1:((q.1.1.map U.int).length:Int)=(q.1.1.length:Int):=by rw[List.length_map]
 have l2:((Ds.map dlU).length:Int)=(Ds.length:Int):=by rw[List.length_map]
 have l3:(((bz w q.1 Ds 0).map j6).length:Int)=((bz w q.1 Ds 0).length:Int):=by rw[List.length_map]
 have g:∀ep,(Yf Y dl ep kus++X)[ld]?=some (.lst (Ds.map dlU)):=fun ep=>aL (by rw[List.getElem?_set_ne (Ne.symm ne)];exact hd)
 unfold qA
 cases c:decide ((q.1.1.length:Int)<(Ds.length:Int))with
 |false=>
  refine⟨[],fun ep=>?_⟩
  rw[nY,List.append_nil]
  unfold stk
  rw[c]
  rwa[fi,plU,l1,l2,g,c,Bool.false_and]
 |true=>
  refine⟨.lst ((bz w q.1 Ds 0).map j6)::G,fun ep=>?_⟩
  have hw:=h ep
  obtain⟨T,hT⟩:∃T,T=Yf Y dl ep kus++(X++(.lst ((bz w q.1 Ds 0).map j6)::G)):=⟨_,rfl⟩
  have gw:T[Y.length+X.length]?=some (.lst ((bz w q.1 Ds 0).map j6)):=by
   rw[hT,<-List.append_assoc,show Y.length+X.length=(Yf Y dl ep kus++X).length by rw[List.length_append,List.length_set],ga0];rfl
  rw[<-hT]at hw ⊢
  rw[nY]
  unfold stk
  rw[c]
  simp only[plU]at hw
  rwa[fi,plU,l1,l2,l3,g,c,hw,gw,Bool.true_and]
end
section
variable{kn:Kn}{kus:List (NK×U)}{n w:Int}{Y S:Sto}{dl ll ld:Nat}{f:Fn}{Ds:List (List (Dl 2))}{st0:List Int}
def IE(kus:List (NK×U))(w:Int)(Ds:List (List (Dl 2)))(kn:Kn):Out:=match kn.find? (stk w Ds)with
 |some q=>.rt (.tup [.str "stuck",(cw kus (nkP q.1)).getD .non])
 |none=>.nx
def zg(w:Int)(Ds:List (List (Dl 2))):Kn->Option U->Option U
 |[],r=>r
 |q::kn,_=>if stk w Ds q=true then some (plU q.1)else zg w Ds kn (some (plU q.1))
theorem nA(hf:jF n w f)(hc:∀z,CmF z f)(hl:dl<Y.length)(ne:ld≠dl)(hd:Y[ld]?=some (.lst (Ds.map dlU)))(ok:∀d∈Ds,OkL n w 2 d)(hN:Ds.length<=6){x1:Option U}:∀(kn:Kn) (r4:Option U) (X:Sto),(∀q∈kn,∃u,cw kus (nkP q.1)=some u)->(∀q∈kn,q.1.1.length<=40/\q.1.2.length=n.toNat)->
  ∃X',∀ep,cy (fun S'=>S'[dl]?=some (.fdn ep kus)) (gNm 4) (ie (iN f 3000) (qA f)) (kn.map plQ) [some (.tup [.int n,.int w]),x1,some (.ref ld),some (.ref dl),r4] (Yf Y dl ep kus++X)=some (IE kus w Ds kn,[some (.tup [.int n,.int w]),x1,some (.ref ld),some (.ref dl),zg w Ds kn r4],Yf Y dl ep kus++X')
 |[],r4,X,_,_=>⟨X,fun ep=>eE (aL (List.getElem?_set_self hl))⟩
 |q::kn,r4,X,hv,hk=>by
  obtain⟨G,h⟩:=Ht (kus:=kus) hf hc hl ne q (hk q List.mem_cons_self).1 (hk q List.mem_cons_self).2 hd ok hN X
  obtain⟨u,v⟩:=hv q List.mem_cons_self
  have on:∀ep T,(Yf Y dl ep kus++T)[dl]?=some (.fdn ep kus):=fun ep T=>aL (List.getElem?_set_self hl)
  unfold IE zg
  rw[List.find?_cons,List.map_cons]
  cases c:stk w Ds q with
  |true=>
   refine⟨X++G,fun ep=>rh (on ep X) rfl ?_⟩
   have he:=h ep
   have hx:=E2 (on ep (X++G)) v
   obtain⟨T,hT⟩:∃T,T=Yf Y dl ep kus++(X++G):=⟨_,rfl⟩
   rw[<-hT]at he hx ⊢
   rw[c]at he
   rw[v]
   rwa[ie,plQ,he,hx,Option.getD_some,if_true]
  |false=>
   obtain⟨X',ih⟩:=nA hf hc hl ne hd ok hN (x1:=x1) kn (some (plU q.1)) (X++G) (fun x hx=>hv x (List.mem_cons_of_mem _ hx)) (fun x hx=>hk x (List.mem_cons_of_mem _ hx))
   refine⟨X',fun ep=>(cB (on ep X) rfl ?_).trans (ih ep)⟩
   have he:=h ep
   obtain⟨T,hT⟩:∃T,T=Yf Y dl ep kus++(X++G):=⟨_,rfl⟩
   rw[<-hT]at he ⊢
   rw[c]at he
   rwa[ie,plQ,he]
def e8(f:Fn):Fn:=fnU 5 3 (mQ (iN f 3000) (qA f))
def Ef(S Y:Sto)(w:Int)(Ds:List (List (Dl 2)))(kn:Kn)(v:U):Prop:=∃l,S.length<=l/\match kn.find? (stk w Ds)with
 |some q=>v=.tup [.str "stuck",.ref l]/\Y[l]?=some (.lst (q.2.map U.int))
 |none=>v=.tup [.str "free",.ref l]/\∃us,us.length<=1957/\Y[l]?=some (.lst us)
theorem Kw(hN:Ds.length<=6)(hs:st0.length=n.toNat):∀q∈dh w Ds st0,q.1.1.length<=40/\q.1.2.length=n.toNat:=fun q hq=>by
 have pa:=(ly (w:=w) (Ds:=Ds) (st0:=st0)).pa q hq
 have po:=pa.ok
 have:=pa.few hN
 exact⟨by rw[po.gone,(aX _).length_eq];omega,by rw[po.len];exact hs⟩
theorem sk(hf:jF n w f)(hc:∀z,CmF z f)(hN:Ds.length<=6)(hs:st0.length=n.toNat)(ok:∀d∈Ds,OkL n w 2 d)(hz:S[ld]?=some (.lst (Ds.map dlU))) :
  ∃v G,e8 f [.tup [.int n,.int w],.tup (st0.map U.int),.ref ld] S=some (v,S++G)/\Ef S (S++G) w Ds (dh w Ds st0) v:=by
 unfold e8
 rw[DZ]
 obtain⟨kus,lus,Y,e1,B⟩:=vR hf hN hs ok hz
 obtain⟨G,eG⟩:=B.pre
 have I:=ly (w:=w) (Ds:=Ds) (st0:=st0)
 have few:=I.few hN
 have hl:S.length<Y.length:=(List.getElem?_eq_some_iff.mp B.hd).1
 have ldS:ld<S.length:=(List.getElem?_eq_some_iff.mp hz).1
 have s1:bJ 3 (cCB (iN f 3000) (ae (ak 0) (ae (ak 1) (ae (ak 2) ax)))) [some (.tup [.int n,.int w]),some (.tup (st0.map U.int)),some (.ref ld),none,none] S=some (.nx,[some (.tup [.int n,.int w]),some (.tup (st0.map U.int)),some (.ref ld),some (.ref S.length),none],Y):=by
  rwa[e1]
 obtain⟨X,hX⟩:=nA (kus:=kus) (x1:=some (.tup (st0.map U.int))) hf hc hl (by omega:ld≠S.length) (by rw[eG];exact aL hz) ok hN (dh w Ds st0) none [] (fun q hq=>by
  obtain⟨l,v,_⟩:=B.ra.val I.nd hq
  exact⟨_,v⟩) (Kw hN hs)
 have lp:qq (ak 3) (gNm 4) (ie (iN f 3000) (qA f)) [some (.tup [.int n,.int w]),some (.tup (st0.map U.int)),some (.ref ld),some (.ref S.length),none] Y=some (IE kus w Ds (dh w Ds st0),[some (.tup [.int n,.int w]),some (.tup (st0.map U.int)),some (.ref ld),some (.ref S.length),zg w Ds (dh w Ds st0) none],Y++X):=by
  have v3:ak 3 [some (.tup [.int n,.int w]),some (.tup (st0.map U.int)),some (.ref ld),some (.ref S.length),none] Y=some (.ref S.length,Y):=rfl
  unfold qq
  rw[v3,Option.bind_some]
  dsimp only
  rw[B.hd]
  dsimp only
  rw[B.ra.keys]
  refine vB fun ep=>?_
  have hx:=hX ep
  rw[List.append_nil]at hx
  rw[hx,Option.bind_some]
  dsimp only
  rw[aL (List.getElem?_set_self hl)]
  dsimp only
  rw[List.set_append_left _ _ (by rw[List.length_set];exact hl),sy B.hd]
 unfold mQ
 rw[jg s1]
 unfold IE at lp
 cases hq:(dh w Ds st0).find? (stk w Ds)with
 |some q=>
  rw[hq]at lp
  obtain⟨l,v,l1,l2,l3⟩:=B.ra.val I.nd (List.mem_of_find?_eq_some hq)
  dsimp only at lp
  rw[v]at lp
  refine⟨.tup [.str "stuck",.ref l],G++X,?_,l,l1,?_⟩
  ·rw[yB,lp,<-List.append_assoc,<-eG];rfl
  ·rw[hq,<-List.append_assoc,<-eG];exact⟨rfl,aL l3⟩
 |none=>
  rw[hq]at lp
  have hd2:(Y++X)[S.length]?=some (.dnt kus):=aL B.hd
  refine⟨.tup [.str "free",.ref (Y++X).length],G++X++[.lst ((dh w Ds st0).map plQ)],?_,(Y++X).length,by rw[List.length_append];omega,?_⟩
  ·have el:∀ρ:Rho,ρ[3]?=some (some (.ref S.length))->dU (cu (ae (cC (.str "free")) (ae (cCB iL (ae (ak 3) ax)) ax))) ρ (Y++X)=some (.rt (.tup [.str "free",.ref (Y++X).length]),ρ,Y++X++[.lst ((dh w Ds st0).map plQ)]):=fun ρ h=>by
    have h3:iL [.ref S.length] (Y++X)=some (.ref (Y++X).length,Y++X++[.lst ((dh w Ds st0).map plQ)]):=by
     simp only[iL,hd2,B.ra.keys]
    obtain⟨T,hT⟩:∃T,T=Y++X:=⟨_,rfl⟩
    rw[<-hT]at h3 ⊢
    rwa[h,h3]
   rw[jg lp,el _ rfl,<-List.append_assoc,<-List.append_assoc,<-eG]
   rfl
  ·rw[hq]
   refine⟨rfl,_,?_,by rw[<-List.append_assoc,<-List.append_assoc,<-eG,ga0];rfl⟩
   rw[List.length_map];exact few
end
section
variable{w:Int}{Ds:List (List (Dl 2))}{st0:List Int}{p p':Pl}{r:List Int}
def Bt(w:Int)(Ds:List (List (Dl 2)))(kn:Kn)(q:Pl×List Int):Prop:=∀x∈bz w q.1 Ds 0,x.2∈kn.map (·.1)
theorem yf:∀(g i:Nat) (kn:Kn),∃t,bfs w Ds g i kn=kn++t
 |0,i,kn=>⟨[],(List.append_nil _).symm⟩
 |g+1,i,kn=>by
  unfold bfs
  split
  ·exact⟨[],(List.append_nil _).symm⟩
  ·rename_i q hq
   obtain⟨t,e⟩:=fO (row:=q.2) (bz w q.1 Ds 0) kn
   obtain⟨t',e'⟩:=yf g (i+1) (o5 q.2 (bz w q.1 Ds 0) kn)
   exact⟨t++t',by rw[e',e,List.append_assoc]⟩
theorem nZ(hN:Ds.length<=6):∀(g i:Nat) (kn:Kn),KnI w Ds st0 kn->1958<=g+i->i<=kn.length->(∀j<i,∀q,kn[j]?=some q->Bt w Ds kn q)->∀q∈bfs w Ds g i kn,Bt w Ds (bfs w Ds g i kn) q
 |0,i,kn,I,hg,hi,_=>by have:=I.few hN;omega
 |g+1,i,kn,I,hg,hi,hJ=>by
  unfold bfs
  cases hq:kn[i]? with
  |none=>
   have e:i=kn.length:=by have:=List.getElem?_eq_none_iff.mp hq;omega
   intro q hm
   dsimp only at hm ⊢
   obtain⟨j,hj,ej⟩:=List.getElem_of_mem hm
   exact hJ j (by omega) q (by rw[List.getElem?_eq_getElem hj,ej])
  |some q=>
   dsimp only
   have pa:=I.pa q (List.mem_of_getElem? hq)
   have hl:i<kn.length:=(List.getElem?_eq_some_iff.mp hq).1
   obtain⟨t,et⟩:=fO (row:=q.2) (bz w q.1 Ds 0) kn
   refine nZ hN g (i+1) _ (KnI.add pa _ _ I fun x hx=>hx) (by omega) (by rw[et,List.length_append];omega) fun j hj q' hq'=>?_
   rcases Nat.lt_or_ge j i with c|c
   ·have hj':kn[j]?=some q':=by
     rw[et,List.getElem?_append_left (by omega)]at hq'
     exact hq'
    intro x hx
    rw[et,List.map_append]
    exact List.mem_append_left _ (hJ j c q' hj' x hx)
   ·have:j=i:=by omega
    subst this
    have:q'=q:=by
     rw[et,List.getElem?_append_left hl,hq]at hq'
     injection hq' with h;exact h.symm
    subst this
    exact fun x hx=>t9 _ _ x hx
theorem vT(hN:Ds.length<=6)(h:gO w Ds st0 r p):p∈(dh w Ds st0).map (·.1):=by
 have cl:=nZ (w:=w) (st0:=st0) hN 3000 0 (kn0 st0) wZ (by omega) (Nat.zero_le _) fun j hj=>by omega
 induction h with
 |nil=>
  obtain⟨t,e⟩:=yf (w:=w) (Ds:=Ds) 3000 0 (kn0 st0)
  unfold dh
  rw[e,List.map_append]
  exact List.mem_append_left _ (by simp[kn0])
 |@snoc r p p' a _ hw ih=>
  obtain⟨q,hq,e⟩:=List.mem_map.mp ih
  exact cl q hq (a,p') (by rw[e];exact hw)
theorem tM(hN:Ds.length<=6){t:Pl×List Int->Bool}(ht:∀p r r',t (p,r)=t (p,r'))(h:gO w Ds st0 r p)(hp:t (p,r)=true):∃q,(dh w Ds st0).find? t=some q/\q.1.1.length<=p.1.length:=by
 obtain⟨q,hq,e⟩:=List.mem_map.mp (vT hN h)
 have tq:t q=true:=by obtain⟨a,b⟩:=q;cases e;rw[ht a b r];exact hp
 cases hf:(dh w Ds st0).find? t with
 |none=>
  have:=List.find?_eq_none.mp hf q hq
  exact absurd tq this
 |some q'=>
  have:=tN (R:=fun a b=>ln a<=ln b) (fun _=>Nat.le_refl _) vS hf q hq tq
  refine⟨q',rfl,?_⟩
  rw[<-e]
  exact this
theorem iC{t:Pl×List Int->Bool}{q:Pl×List Int}(h:(dh w Ds st0).find? t=some q):gO w Ds st0 q.2 q.1/\t q=true:=⟨ly.pa q (List.mem_of_find?_eq_some h),List.find?_some h⟩
theorem xq{s:List Int}:goD w s []=some s:=by
 have:mr w s 2 [] m0=(true,m0):=rfl
 unfold goD
 rw[this]
 dsimp only
 rw[show m0.ps=[]from rfl]
 exact congrArg some Ec
end
def mvD(β:Int->Int):fD->fD
 |.look h b=>.look h (β b)
 |.put b h=>.put (β b) h
 |d=>d
def mvF{α:Type}(β:Int->Int)(g:List α->List α):DF α->DF α
 |.pl d=>.pl (mvD β d)
 |.tr a b=>.tr (g a) (g b)
def mvL(β:Int->Int):(j:Nat)->List (Dl j)->List (Dl j)
 |0,ds=>ds.map (mvF β fun x=>x)
 |j+1,ds=>ds.map (mvF β (mvL β j))
def mvM(β:Int->Int)(m:M):M:=⟨m.hs,m.ps.map fun p=>(β p.1,p.2),m.lk.map β⟩
structure Mv(β:Int->Int)(n:Int)(s s':List Int):Prop where
 l1:s.length=n.toNat
 l2:s'.length=n.toNat
 at_:∀b,0<=b->b<n->s'.getD (β b).toNat 0=s.getD b.toNat 0
section
variable{β:Int->Int}{n w:Int}{s s':List Int}(inj:∀a b,β a=β b->a=b)
include inj
theorem vA{ps:List (Int×Int)}{b:Int}:cw (ps.map fun p=>(β p.1,p.2)) (β b)=cw ps b:=by
 induction ps with
 |nil=>rfl
 |cons x r ih=>
  unfold cw at ih ⊢
  rw[List.map_cons,List.find?_cons,List.find?_cons]
  by_cases e:x.1=b
  ·rw[decide_eq_true e,decide_eq_true (by rw[e]:β x.1=β b)]
   rfl
  ·rw[decide_eq_false e,decide_eq_false fun z=>e (inj _ _ z)]
   exact ih
theorem HV{ps:List (Int×Int)}{b:Int}:((ps.map fun p=>(β p.1,p.2)).any fun x=>decide (x.1=β b))=ps.any fun x=>decide (x.1=b):=by
 induction ps with
 |nil=>rfl
 |cons x r ih=>
  rw[List.map_cons,List.any_cons,List.any_cons,ih]
  by_cases e:x.1=b
  ·rw[decide_eq_true e,decide_eq_true (by rw[e]:β x.1=β b)]
  ·rw[decide_eq_false e,decide_eq_false fun z=>e (inj _ _ z)]
theorem FU{ps:List (Int×Int)}{b v:Int}:lz (ps.map fun p=>(β p.1,p.2)) (β b) v=(lz ps b v).map fun p=>(β p.1,p.2):=by
 unfold lz
 rw[HV inj]
 split
 ·rw[List.map_map,List.map_map]
  refine List.map_congr_left fun x _=>?_
  dsimp only[Function.comp]
  by_cases e:x.1=b
  ·rw[if_pos e,if_pos (by rw[e])]
  ·rw[if_neg e,if_neg fun z=>e (inj _ _ z)]
 ·rw[List.map_append];rfl
theorem Ee{lk:List Int}{b:Int}:uc (lk.map β) (β b)=(uc lk b).map β:=by
 unfold uc
 have:β b∈lk.map β↔b∈lk:=⟨fun h=>by obtain⟨a,ha,e⟩:=List.mem_map.mp h;rw[<-inj _ _ e];exact ha,fun h=>List.mem_map.mpr ⟨b,h,rfl⟩⟩
 by_cases c:b∈lk
 ·rw[if_pos c,if_pos (this.mpr c)]
 ·rw[if_neg c,if_neg fun z=>c (this.mp z),List.map_append];rfl
theorem Cz(hm:Mv β n s s'){d:fD}(hd:d.ok n w){m:M}:step w s' (mvM β m) (mvD β d)=mvM β (step w s m d):=by
 cases d with
 |look h b=>
  obtain⟨_,_,b0,b1⟩:=hd
  have e:uB s' (mvM β m) (β b)=uB s m b:=by
   unfold uB mvM
   dsimp only
   rw[vA inj,hm.at_ b b0 b1]
  unfold step mvD
  dsimp only
  rw[e]
  unfold mvM
  dsimp only
  rw[vA inj]
  split
  ·rfl
  ·rw[Ee inj]
 |put b h=>
  unfold step mvD mvM
  dsimp only
  rw[FU inj]
 |_=>rfl
theorem ml{α:Type}(hm:Mv β n s s'){g:List α->List α}{k:List α->Prop}{rn rn':List α->M->Bool×M}(hr:∀a m,k a->rn' (g a) (mvM β m)=((rn a m).1,mvM β (rn a m).2)):∀(ds:List (DF α)) (i:Nat) (m:M),(∀d∈ds,DF.ok n w k d)->eU w s' rn' (ds.map (mvF β g)) i (mvM β m)=((eU w s rn ds i m).1,mvM β (eU w s rn ds i m).2)
 |[],i,m,_=>by rw[List.map_nil,eU,eU]
 |d::r,i+1,m,h=>by
  rw[List.map_cons,eU,eU]
  exact ml hm hr r i m fun x hx=>h x (List.mem_cons_of_mem _ hx)
 |.tr a b::r,0,m,h=>by
  obtain⟨ka,kb⟩:=h _ List.mem_cons_self
  rw[List.map_cons]
  unfold mvF
  rw[eU,eU]
  have et:Cu rn' (g a) (g b) (mvM β m)=((Cu rn a b m).1,mvM β (Cu rn a b m).2):=by
   unfold Cu
   rw[hr a m ka]
   cases hx:rn a m with
   |mk t m'=>
    cases t with
    |true=>rfl
    |false=>exact hr b ⟨m.hs,m.ps,m'.lk⟩ kb
  rw[et]
  cases Cu rn a b m with
  |mk t m'=>
   cases t with
   |true=>exact ml hm hr r 0 m' fun x hx=>h x (List.mem_cons_of_mem _ hx)
   |false=>rfl
 |.pl d::r,0,m,h=>by
  have hd:d.ok n w:=h _ List.mem_cons_self
  have ih:=fun i m=>ml hm hr r i m fun x hx=>h x (List.mem_cons_of_mem _ hx)
  have hs:=Cz inj hm hd (m:=m)
  rw[List.map_cons]
  unfold mvF
  cases d with
  |wait=>unfold mvD;rw[eU,eU]
  |leap h k=>unfold mvD;rw[eU,eU];exact ih _ m
  |look h b=>unfold mvD at hs ⊢;rw[eU,eU,hs];exact ih 0 _
  |put b h=>unfold mvD at hs ⊢;rw[eU,eU,hs];exact ih 0 _
  |set h v=>unfold mvD at hs ⊢;rw[eU,eU,hs];exact ih 0 _
  |plus h v=>unfold mvD at hs ⊢;rw[eU,eU,hs];exact ih 0 _
theorem qP(hm:Mv β n s s'):∀(j:Nat) (ds:List (Dl j)) (m:M),OkL n w j ds->mr w s' j (mvL β j ds) (mvM β m)=((mr w s j ds m).1,mvM β (mr w s j ds m).2)
 |0,ds,m,h=>ml inj hm (k:=fun _=>False) (fun _ _ z=>z.elim) ds 0 m h.2
 |j+1,ds,m,h=>ml inj hm (k:=OkL n w j) (fun a m ka=>qP hm j a m ka) ds 0 m h.2
end
theorem Bn{first:List Int}{ps:List (Int×Int)}{i:Nat}(h:i<first.length):(beh first ps 0).getD i 0=(cw ps (i:Int)).getD (first.getD i 0):=by
 unfold beh
 rw[List.getD_eq_getElem?_getD,List.getElem?_map,List.getElem?_zipIdx,List.getElem?_eq_getElem h,List.getD_eq_getElem?_getD,List.getElem?_eq_getElem h]
 simp
structure rT(β σ:Int->Int)(n w:Int)(Ds Ds':List (List (Dl 2))):Prop where
 inj:∀a b,β a=β b->a=b
 rng:∀b,0<=b->b<n->0<=β b/\β b<n
 len:Ds'.length=Ds.length
 sin:∀a b,σ a=σ b->a=b
 sat:∀i:Nat,i<Ds.length->0<=σ i/\σ i<(Ds.length:Int)/\Ds'.getD (σ i).toNat []=mvL β 2 (Ds.getD i [])
 sur:∀i:Nat,i<Ds.length->∃j:Nat,j<Ds.length/\σ j=(i:Int)
 ok:∀d∈Ds,OkL n w 2 d
section
variable{β σ:Int->Int}{n w:Int}{Ds Ds':List (List (Dl 2))}{st st':List Int}
theorem rT.okd(T:rT β σ n w Ds Ds'){i:Nat}(h:i<Ds.length):OkL n w 2 (Ds.getD i []):=by
 rw[List.getD_eq_getElem?_getD,List.getElem?_eq_getElem h]
 exact T.ok _ (List.getElem_mem h)
theorem tK(T:rT β σ n w Ds Ds'){s s' t:List Int}(hm:Mv β n s s'){d:List (Dl 2)}(od:OkL n w 2 d)(h:goD w s d=some t):∃t',goD w s' (mvL β 2 d)=some t'/\Mv β n t t':=by
 have e:=qP T.inj hm 2 d m0 od
 have em:mvM β m0=m0:=rfl
 rw[em]at e
 unfold goD at h ⊢
 rw[e]
 cases hr:mr w s 2 d m0 with
 |mk b m=>
  rw[hr]at h
  cases b with
  |false=>cases h
  |true=>
   dsimp only at h ⊢
   have ht:beh s m.ps 0=t:=by injection h
   refine⟨_,rfl,by rw[<-ht,jX];exact hm.l1,by rw[jX];exact hm.l2,fun b b0 b1=>?_⟩
   obtain⟨c0,c1⟩:=T.rng b b0 b1
   have l1:=hm.l1
   have l2:=hm.l2
   rw[<-ht,Bn (by omega),Bn (by omega),hm.at_ b b0 b1]
   have e1:(((β b).toNat:Nat):Int)=β b:=Int.toNat_of_nonneg c0
   have e2:((b.toNat:Nat):Int)=b:=Int.toNat_of_nonneg b0
   rw[e1,e2]
   show(cw (m.ps.map fun p=>(β p.1,p.2)) (β b)).getD _=_
   rw[vA T.inj]
theorem Ad(T:rT β σ n w Ds Ds'){s s':List Int}(hm:Mv β n s s'){d:List (Dl 2)}(od:OkL n w 2 d)(h:goD w s d=none):goD w s' (mvL β 2 d)=none:=by
 have e:=qP T.inj hm 2 d m0 od
 have em:mvM β m0=m0:=rfl
 rw[em]at e
 unfold goD at h ⊢
 rw[e]
 cases hr:mr w s 2 d m0 with
 |mk b m=>
  rw[hr]at h
  cases b with
  |false=>rfl
  |true=>cases h
theorem mC(inj:∀a b,σ a=σ b->a=b){a:Int}{r:List Int}:σ a∈r.map σ↔a∈r:=⟨fun h=>by obtain⟨b,hb,e⟩:=List.mem_map.mp h;rw[<-inj _ _ e];exact hb,fun h=>List.mem_map.mpr ⟨a,h,rfl⟩⟩
theorem AQ(T:rT β σ n w Ds Ds'){r:List Int}{p p':Pl}(h1:kP Ds st r p)(h2:kP Ds' st' (r.map σ) p')(hm:Mv β n p.2 p'.2){a:Int}{q:Pl}(hw:(a,q)∈bz w p Ds 0):∃q',(σ a,q')∈bz w p' Ds' 0/\Mv β n q.2 q'.2:=by
 obtain⟨i,e1,e2,e3,s,e4,rfl⟩:=cH hw
 rw[Nat.zero_add]at e1
 subst e1
 obtain⟨s0,s1,sd⟩:=T.sat i e2
 obtain⟨t',g,mt⟩:=tK T hm (T.okd e2) e4
 have en:((0+(σ i).toNat:Nat):Int)=σ i:=by rw[Nat.zero_add];exact Int.toNat_of_nonneg s0
 have ni:σ i∉p'.1:=fun z=>e3 (by
  rw[h2.gone,(aX _).mem_iff,mC T.sin]at z
  rw[h1.gone,(aX _).mem_iff];exact z)
 have:=eK (w:=w) (p:=p') (ds:=Ds') (k:=0) (i:=(σ i).toNat) (st:=t') (by rw[T.len];omega) (by rw[en];exact ni) (by rw[sd];exact g)
 rw[en]at this
 exact⟨_,this,mt⟩
theorem sh(T:rT β σ n w Ds Ds'){r:List Int}{p p':Pl}(h1:kP Ds st r p)(h2:kP Ds' st' (r.map σ) p')(hm:Mv β n p.2 p'.2){a':Int}{q':Pl}(hw:(a',q')∈bz w p' Ds' 0):∃a q,σ a=a'/\(a,q)∈bz w p Ds 0/\Mv β n q.2 q'.2:=by
 obtain⟨i',e1,e2,e3,s',e4,rfl⟩:=cH hw
 rw[Nat.zero_add]at e1
 subst e1
 rw[T.len]at e2
 obtain⟨i,hi,ei⟩:=T.sur i' e2
 obtain⟨s0,s1,sd⟩:=T.sat i hi
 have e5:(σ i).toNat=i':=by rw[ei];rfl
 rw[e5]at sd
 rw[sd]at e4
 have ni:((0+i:Nat):Int)∉p.1:=fun z=>e3 (by
  rw[Nat.zero_add,h1.gone,(aX _).mem_iff]at z
  rw[h2.gone,(aX _).mem_iff,<-ei,mC T.sin];exact z)
 cases hg:goD w p.2 (Ds.getD i [])with
 |none=>rw[Ad T hm (T.okd hi) hg]at e4;cases e4
 |some s=>
  obtain⟨t',g,mt⟩:=tK T hm (T.okd hi) hg
  rw[g]at e4
  cases e4
  have:=eK (w:=w) (p:=p) (ds:=Ds) (k:=0) (i:=i) (st:=s) hi ni hg
  rw[Nat.zero_add]at this
  exact⟨_,_,ei,this,mt⟩
theorem wu(T:rT β σ n w Ds Ds')(hm:Mv β n st st'){r:List Int}{p:Pl}(h:gO w Ds st r p):∃p',gO w Ds' st' (r.map σ) p'/\Mv β n p.2 p'.2:=by
 induction h with
 |nil=>exact⟨_,.nil,hm⟩
 |@snoc r p q a h0 hw ih=>
  obtain⟨p',h',m'⟩:=ih
  obtain⟨q',w',mq⟩:=AQ T h0.ok h'.ok m' hw
  refine⟨q',?_,mq⟩
  rw[List.map_append]
  exact .snoc h' w'
theorem my(T:rT β σ n w Ds Ds')(hm:Mv β n st st'){r':List Int}{p':Pl}(h:gO w Ds' st' r' p'):∃r p,r'=r.map σ/\gO w Ds st r p/\Mv β n p.2 p'.2:=by
 induction h with
 |nil=>exact⟨[],_,rfl,.nil,hm⟩
 |@snoc r' p' q' a' h0 hw ih=>
  obtain⟨r,p,e,h',m'⟩:=ih
  subst e
  obtain⟨a,q,ea,w',mq⟩:=sh T h'.ok h0.ok m' hw
  refine⟨r++[a],q,?_,.snoc h' w',mq⟩
  rw[List.map_append,<-ea]
  rfl
theorem iK{r:List Int}{p:Pl}(h:kP Ds st r p):p.1.length=r.length:=by rw[h.gone,(aX _).length_eq]
theorem sv(T:rT β σ n w Ds Ds'){r:List Int}{p p':Pl}(h1:kP Ds st r p)(h2:kP Ds' st' (r.map σ) p')(hm:Mv β n p.2 p'.2)(x y:List Int):stk w Ds (p,x)=stk w Ds' (p',y):=by
 have l1:=iK h1
 have l2:=iK h2
 rw[List.length_map]at l2
 have ew:((bz w p Ds 0).length:Int)=0↔((bz w p' Ds' 0).length:Int)=0:=by
  constructor
  ·intro h
   have h0:bz w p Ds 0=[]:=List.eq_nil_of_length_eq_zero (by omega)
   cases hx:bz w p' Ds' 0 with
   |nil=>rfl
   |cons y z=>
    obtain⟨a,q,_,hw,_⟩:=sh T h1 h2 hm (a':=y.1) (q':=y.2) (by rw[hx];exact List.mem_cons_self)
    rw[h0]at hw
    cases hw
  ·intro h
   have h0:bz w p' Ds' 0=[]:=List.eq_nil_of_length_eq_zero (by omega)
   cases hx:bz w p Ds 0 with
   |nil=>rfl
   |cons y z=>
    obtain⟨q,hw,_⟩:=AQ T h1 h2 hm (a:=y.1) (q:=y.2) (by rw[hx];exact List.mem_cons_self)
    rw[h0]at hw
    cases hw
 unfold stk
 dsimp only
 rw[l1,l2,T.len]
 congr 1
 exact decide_eq_decide.mpr ew
end
section
variable{β σ:Int->Int}{n w:Int}{Ds Ds':List (List (Dl 2))}{st st':List Int}
abbrev oY(w:Int)(Ds:List (List (Dl 2)))(st:List Int):Option Nat:=((dh w Ds st).find? (stk w Ds)).map fun q=>q.2.length
theorem DX{q:Pl×List Int}(h:(dh w Ds st).find? (stk w Ds)=some q):q.1.1.length=q.2.length:=iK (iC h).1.ok
theorem xv(hN:Ds.length<=6){r:List Int}{p:Pl}(h:gO w Ds st r p)(hp:stk w Ds (p,r)=true):∃k,oY w Ds st=some k/\k<=r.length:=by
 obtain⟨q,hq,le⟩:=tM hN (t:=stk w Ds) (fun _ _ _=>rfl) h hp
 unfold oY
 rw[hq]
 have:=DX hq
 have:=iK h.ok
 exact⟨q.2.length,rfl,by omega⟩
theorem oK{k:Nat}(h:oY w Ds st=some k):∃r p,gO w Ds st r p/\stk w Ds (p,r)=true/\r.length=k:=by
 unfold oY at h
 obtain⟨q,hq,e⟩:=Option.map_eq_some_iff.mp h
 obtain⟨a,b⟩:=iC hq
 exact⟨q.2,q.1,a,b,e⟩
theorem tQ{d:Nat}{Es:List (List (Dl 2))}{et:List Int}(hN:Ds.length<=6)(hE:Es.length<=6)(to:∀r p,gO w Ds st r p->stk w Ds (p,r)=true->∃r' p',gO w Es et r' p'/\stk w Es (p',r')=true/\r'.length=r.length+d)
  (back:∀r p,gO w Es et r p->stk w Es (p,r)=true->∃r' p',gO w Ds st r' p'/\stk w Ds (p',r')=true/\r.length=r'.length+d):oY w Es et=(oY w Ds st).map (· + d):=by
 cases h1:oY w Ds st with
 |some k=>
  obtain⟨r,p,a,b,c⟩:=oK h1
  obtain⟨r',p',a',b',c'⟩:=to r p a b
  obtain⟨k',e',l'⟩:=xv hE a' b'
  obtain⟨r2,p2,a2,b2,c2⟩:=oK e'
  obtain⟨r3,p3,a3,b3,c3⟩:=back r2 p2 a2 b2
  obtain⟨k3,e3,l3⟩:=xv hN a3 b3
  rw[h1]at e3
  cases e3
  rw[e',Option.map_some]
  congr 1
  omega
 |none=>
  cases h2:oY w Es et with
  |none=>rfl
  |some k=>
   obtain⟨r2,p2,a2,b2,c2⟩:=oK h2
   obtain⟨r3,p3,a3,b3,c3⟩:=back r2 p2 a2 b2
   obtain⟨k3,e3,l3⟩:=xv hN a3 b3
   rw[h1]at e3
   cases e3
theorem tP(T:rT β σ n w Ds Ds')(hm:Mv β n st st')(hN:Ds.length<=6):oY w Ds' st'=oY w Ds st:=by
 have:=tQ (d:=0) (et:=st') hN (by rw[T.len];exact hN) (fun r p h s=>by
  obtain⟨p',h',m'⟩:=wu T hm h
  exact⟨r.map σ,p',h',by rw[<-sv T h.ok h'.ok m' r (r.map σ)];exact s,by rw[List.length_map];rfl⟩) (fun r p h s=>by
  obtain⟨r0,p0,e,h',m'⟩:=my T hm h
  subst e
  exact⟨r0,p0,h',by rw[sv T h'.ok h.ok m' r0 (r0.map σ)];exact s,by rw[List.length_map];rfl⟩)
 rw[this]
 cases oY w Ds st<;>rfl
abbrev AE(w:Int)(Ds:List (List (Dl 2)))(st:List Int):Bool:=((dh w Ds st).find? (Bc Ds.length)).isSome
theorem oQ(hN:Ds.length<=6):AE w Ds st=true↔∃r p,gO w Ds st r p/\r.length=Ds.length:=by
 unfold AE
 constructor
 ·intro h
  obtain⟨q,hq⟩:=Option.isSome_iff_exists.mp h
  obtain⟨a,b⟩:=iC hq
  have b':(q.1.1.length:Int)=(Ds.length:Int):=of_decide_eq_true b
  have:=iK a.ok
  exact⟨q.2,q.1,a,by omega⟩
 ·rintro⟨r,p,h,e⟩
  have l:=iK h.ok
  obtain⟨q,hq,_⟩:=tM hN (t:=Bc Ds.length) (fun _ _ _=>rfl) h (decide_eq_true (by show(p.1.length:Int)=_;omega))
  rw[hq]
  rfl
theorem t8(T:rT β σ n w Ds Ds')(hm:Mv β n st st')(hN:Ds.length<=6):AE w Ds' st'=AE w Ds st:=by
 refine Bool.eq_iff_iff.mpr ((oQ (by rw[T.len];exact hN)).trans (Iff.trans ⟨?_,?_⟩ (oQ hN).symm))
 ·rintro⟨r,p,h,e⟩
  obtain⟨r0,p0,e0,h',m'⟩:=my T hm h
  subst e0
  exact⟨r0,p0,h',by rw[T.len,List.length_map]at e;exact e⟩
 ·rintro⟨r,p,h,e⟩
  obtain⟨p',h',m'⟩:=wu T hm h
  exact⟨r.map σ,p',h',by rw[T.len,List.length_map];exact e⟩
theorem tL{i:Nat}(h:i<Ds.length):(Ds++[[]]).getD i []=Ds.getD i []:=by
 rw[List.getD_eq_getElem?_getD,List.getElem?_append_left h,List.getD_eq_getElem?_getD]
theorem Ba:(Ds++[[]]).getD Ds.length []=[]:=by
 rw[List.getD_eq_getElem?_getD,List.getElem?_append_right (Nat.le_refl _),Nat.sub_self]
 rfl
theorem Co{p:Pl}{x:Int×Pl}(h:x∈bz w p Ds 0):x∈bz w p (Ds++[[]]) 0:=by
 obtain⟨a,q⟩:=x
 obtain⟨i,e1,e2,e3,s,e4,rfl⟩:=cH h
 subst e1
 exact eK (by rw[List.length_append];omega) e3 (by rw[tL e2];exact e4)
theorem zF{r:List Int}{p:Pl}(h:gO w Ds st r p):gO w (Ds++[[]]) st r p:=by
 induction h with
 |nil=>exact .nil
 |snoc _ hw ih=>exact .snoc ih (Co hw)
theorem vz{p:Pl}(h:(Ds.length:Int)∉p.1):((Ds.length:Int),(dc (p.1++[(Ds.length:Int)]),p.2))∈bz w p (Ds++[[]]) 0:=by
 have:=eK (w:=w) (p:=p) (ds:=Ds++[[]]) (k:=0) (i:=Ds.length) (st:=p.2) (by rw[List.length_append];simp) (by rw[Nat.zero_add];exact h) (by rw[Ba];exact xq)
 rw[Nat.zero_add]at this
 exact this
theorem sO{r:List Int}{p:Pl}(h:gO w Ds st r p):gO w (Ds++[[]]) st (r++[(Ds.length:Int)]) (dc (p.1++[(Ds.length:Int)]),p.2):=by
 refine .snoc (zF h) (vz fun z=>?_)
 rw[h.ok.gone,(aX _).mem_iff]at z
 have:=(h.ok.bd _ z).2
 omega
theorem sN{r:List Int}{p:Pl}(h:gO w (Ds++[[]]) st r p):∃p0,gO w Ds st (r.filter fun a=>decide (a≠(Ds.length:Int))) p0/\p0.2=p.2:=by
 induction h with
 |nil=>exact⟨_,.nil,rfl⟩
 |@snoc r p q a h0 hw ih=>
  obtain⟨p0,h',e⟩:=ih
  obtain⟨i,e1,e2,e3,s,e4,rfl⟩:=cH hw
  rw[Nat.zero_add]at e1
  subst e1
  rw[List.filter_append]
  by_cases c:i=Ds.length
  ·subst c
   rw[Ba,xq]at e4
   cases e4
   refine⟨p0,?_,e⟩
   rw[show[(Ds.length:Int)].filter (fun a=>decide (a≠(Ds.length:Int)))=[]by simp,List.append_nil]
   exact h'
  ·have hi:i<Ds.length:=by rw[List.length_append,List.length_singleton]at e2;omega
   rw[tL hi,<-e]at e4
   have ni:((0+i:Nat):Int)∉p0.1:=fun z=>e3 (by
    rw[Nat.zero_add,h'.ok.gone,(aX _).mem_iff]at z
    rw[h0.ok.gone,(aX _).mem_iff]
    exact(List.mem_filter.mp z).1)
   have:=eK (w:=w) (p:=p0) (ds:=Ds) (k:=0) (i:=i) (st:=s) hi ni e4
   rw[Nat.zero_add]at this
   refine⟨(dc (p0.1++[(i:Int)]),s),?_,rfl⟩
   ·rw[show[(i:Int)].filter (fun a=>decide (a≠(Ds.length:Int)))=[(i:Int)]from by
     rw[List.filter_cons,if_pos (decide_eq_true (by omega)),List.filter_nil]]
    exact .snoc h' this
theorem vU{r:List Int}{N:Nat}(nd:r.Nodup):r.length<=(r.filter fun a=>decide (a≠(N:Int))).length+1:=by
 induction r with
 |nil=>exact Nat.zero_le _
 |cons x r ih=>
  rw[List.nodup_cons]at nd
  rw[List.filter_cons]
  by_cases c:x=(N:Int)
  ·rw[if_neg (by simp[c]),List.length_cons]
   have:r.filter (fun a=>decide (a≠(N:Int)))=r:=List.filter_eq_self.mpr fun a ha=>decide_eq_true fun e=>nd.1 (by rw[c,<-e];exact ha)
   rw[this]
   exact Nat.le_refl _
  ·rw[if_pos (decide_eq_true c),List.length_cons,List.length_cons]
   have:=ih nd.2
   omega
theorem CM{r:List Int}{N:Nat}(nd:r.Nodup)(h:(N:Int)∈r):r.length=(r.filter fun a=>decide (a≠(N:Int))).length+1:=by
 refine Nat.le_antisymm (vU nd) ?_
 have:(r.filter fun a=>decide (a≠(N:Int))).length<r.length:=by
  refine Nat.lt_of_le_of_ne (List.length_filter_le _ _) fun e=>?_
  have:=List.length_filter_eq_length_iff.mp e _ h
  simp at this
 exact this
theorem yp(hN:Ds.length+1<=6):AE w (Ds++[[]]) st=AE w Ds st:=by
 have ll:(Ds++[[]]).length=Ds.length+1:=by rw[List.length_append];rfl
 refine Bool.eq_iff_iff.mpr ((oQ (by omega)).trans (Iff.trans ⟨?_,?_⟩ (oQ (by omega)).symm))
 ·rintro⟨r,p,h,e⟩
  obtain⟨p0,h0,_⟩:=sN h
  have:=vU (N:=Ds.length) h.ok.nd
  have:=h0.few (by omega)
  exact⟨_,p0,h0,by omega⟩
 ·rintro⟨r,p,h,e⟩
  exact⟨_,_,sO h,by rw[List.length_append,ll,e];rfl⟩
theorem om{p:Pl}{r:List Int}:stk w Ds (p,r)=true↔p.1.length<Ds.length/\bz w p Ds 0=[]:=by
 unfold stk
 rw[Bool.and_eq_true,decide_eq_true_iff,decide_eq_true_iff]
 dsimp only
 constructor
 ·rintro⟨a,b⟩
  exact⟨by omega,List.eq_nil_of_length_eq_zero (by omega)⟩
 ·rintro⟨a,b⟩
  rw[b]
  exact⟨by omega,rfl⟩
theorem xw(hN:Ds.length+1<=6):oY w (Ds++[[]]) st=(oY w Ds st).map (· + 1):=by
 have ll:(Ds++[[]]).length=Ds.length+1:=by rw[List.length_append];rfl
 refine tQ (by omega) (by omega) (fun r p h s=>?_) fun r p h s=>?_
 ·obtain⟨s1,s2⟩:=om.mp s
  have h':=sO h
  have l:=iK h.ok
  refine⟨_,_,h',om.mpr ⟨?_,?_⟩,by rw[List.length_append];rfl⟩
  ·have:=iK h'.ok
   rw[this,List.length_append,ll,List.length_singleton]
   omega
  ·refine List.eq_nil_iff_forall_not_mem.mpr fun x hx=>?_
   obtain⟨a,q⟩:=x
   obtain⟨i,e1,e2,e3,t,e4,_⟩:=cH hx
   rw[Nat.zero_add]at e1
   subst e1
   have e3':(i:Int)∉p.1++[(Ds.length:Int)]:=fun z=>e3 ((aX _).mem_iff.mpr z)
   rw[List.mem_append,List.mem_singleton,not_or]at e3'
   have hi:i<Ds.length:=by omega
   rw[tL hi]at e4
   have:=eK (w:=w) (p:=p) (ds:=Ds) (k:=0) (i:=i) (st:=t) hi (by rw[Nat.zero_add];exact e3'.1) e4
   rw[s2]at this
   cases this
 ·obtain⟨s1,s2⟩:=om.mp s
  have inN:(Ds.length:Int)∈p.1:=Decidable.byContradiction fun z=>by
   have:=vz (w:=w) z
   rw[s2]at this
   cases this
  have inr:(Ds.length:Int)∈r:=by rw[h.ok.gone,(aX _).mem_iff]at inN;exact inN
  obtain⟨p0,h0,e0⟩:=sN h
  have l1:=CM h.ok.nd inr
  have l2:=iK h.ok
  have l3:=iK h0.ok
  refine⟨_,p0,h0,om.mpr ⟨by omega,?_⟩,l1⟩
  refine List.eq_nil_iff_forall_not_mem.mpr fun x hx=>?_
  obtain⟨a,q⟩:=x
  obtain⟨i,e1,e2,e3,t,e4,_⟩:=cH hx
  rw[Nat.zero_add]at e1
  subst e1
  have ni:((0+i:Nat):Int)∉p.1:=fun z=>e3 (by
   rw[Nat.zero_add,h.ok.gone,(aX _).mem_iff]at z
   rw[h0.ok.gone,(aX _).mem_iff]
   exact List.mem_filter.mpr ⟨z,decide_eq_true (by omega)⟩)
  have:=eK (w:=w) (p:=p) (ds:=Ds++[[]]) (k:=0) (i:=i) (st:=t) (by omega) ni (by rw[tL e2,<-e0];exact e4)
  rw[s2]at this
  cases this
end
def oR(f:Fn):Fn:=fnU 4 2 (eR f)
def uW:Nat->Fn
 |0=>oR fun _ _=>none
 |j+1=>oR (uW j)
def gu(n:Int)(bs:List Int)(b:Int):Int:=if 0<=b/\b<n then bs.getD b.toNat 0 else b
section
variable{n w:Int}{bs:List Int}{lb:Nat}{f:Fn}
theorem Bl(hb:bs.length=n.toNat){b:Int}(b0:0<=b)(b1:b<n):atI (bs.map U.int) b=some (.int (gu n bs b)):=by
 have hk:b.toNat<bs.length:=by omega
 refine kN b0 ?_
 unfold gu
 rw[if_pos ⟨b0,b1⟩,List.getElem?_map,List.getElem?_eq_getElem hk,List.getD_eq_getElem?_getD,List.getElem?_eq_getElem hk]
 rfl
theorem Dy{α:Type}{fu:α->U}{g:List α->List α}{k:List α->Prop}(hb:bs.length=n.toNat)(hf:∀a (S:Sto),k a->S[lb]?=some (.lst (bs.map U.int))->∃G,f [.tup (a.map fu),.ref lb] S=some (.tup ((g a).map fu),S++G)){S:Sto}(hS:S[lb]?=some (.lst (bs.map U.int))){x0:Option U}{acc:List (DF α)}{G:Sto}(hl:acc.length<=900){d:DF α}(hd:DF.ok n w k d) :
  ∃G',bh f [x0,some (.ref lb),some (.ref S.length),some (d.u fu)] (S++(.lst (acc.map (DF.u fu))::G))=some (.nx,[x0,some (.ref lb),some (.ref S.length),some (d.u fu)],S++(.lst ((acc++[mvF (gu n bs) g d]).map (DF.u fu))::(G++G'))):=by
 have hL:(acc.map (DF.u fu)).length<LIM:=by unfold LIM;rw[List.length_map];omega
 have em:∀x:DF α,(acc++[x]).map (DF.u fu)=acc.map (DF.u fu)++[x.u fu]:=fun x=>by rw[List.map_append];rfl
 have gb:∀T:Sto,(S++T)[lb]?=some (.lst (bs.map U.int)):=fun T=>aL hS
 have a1:decide (("look":Str)="look")=true:=by decide +kernel
 have a2:decide (("put":Str)="look")=false:=by decide +kernel
 have a3:decide (("put":Str)="put")=true:=by decide +kernel
 have a4:decide (("set":Str)="look")=false:=by decide +kernel
 have a5:decide (("set":Str)="put")=false:=by decide +kernel
 have a6:decide (("set":Str)="try")=false:=by decide +kernel
 have b4:decide (("plus":Str)="look")=false:=by decide +kernel
 have b5:decide (("plus":Str)="put")=false:=by decide +kernel
 have b6:decide (("plus":Str)="try")=false:=by decide +kernel
 have c4:decide (("leap":Str)="look")=false:=by decide +kernel
 have c5:decide (("leap":Str)="put")=false:=by decide +kernel
 have c6:decide (("leap":Str)="try")=false:=by decide +kernel
 have d4:decide (("wait":Str)="look")=false:=by decide +kernel
 have d5:decide (("wait":Str)="put")=false:=by decide +kernel
 have d6:decide (("wait":Str)="try")=false:=by decide +kernel
 have e4:decide (("try":Str)="look")=false:=by decide +kernel
 have e5:decide (("try":Str)="put")=false:=by decide +kernel
 have e6:decide (("try":Str)="try")=true:=by decide +kernel
 cases d with
 |pl d=>
  refine⟨[],?_⟩
  rw[em,List.append_nil]
  have hd':d.ok n w:=hd
  cases d with
  |look h b=>
   obtain⟨_,_,b0,b1⟩:=hd'
   have hx:=Bl hb b0 b1
   rwa[bh,mvF,mvD,DF.u,fD.u,a1,gb,hx,dG hL]
  |put b h=>
   obtain⟨_,_,b0,b1⟩:=hd'
   have hx:=Bl hb b0 b1
   rwa[bh,mvF,mvD,DF.u,fD.u,a2,a3,gb,hx,dG hL]
  |set h v=>rwa[bh,mvF,mvD,DF.u,fD.u,a4,a5,a6,dG hL]
  |plus h v=>rwa[bh,mvF,mvD,DF.u,fD.u,b4,b5,b6,dG hL]
  |leap h v=>rwa[bh,mvF,mvD,DF.u,fD.u,c4,c5,c6,dG hL]
  |wait=>rwa[bh,mvF,mvD,DF.u,fD.u,d4,d5,d6,dG hL]
 |tr a b=>
  obtain⟨ka,kb⟩:=hd
  obtain⟨G1,h1⟩:=hf a (S++(.lst (acc.map (DF.u fu))::G)) ka (gb _)
  obtain⟨G2,h2⟩:=hf b (S++(.lst (acc.map (DF.u fu))::G)++G1) kb (aL (gb _))
  refine⟨G1++G2,?_⟩
  rw[em]
  simp only[List.append_assoc,List.cons_append]at h1 h2
  rwa[bh,mvF,DF.u,e4,e5,e6,h1,h2,dG hL]
theorem wL{α:Type}{fu:α->U}{g:List α->List α}{k:List α->Prop}(hb:bs.length=n.toNat)(hf:∀a (S:Sto),k a->S[lb]?=some (.lst (bs.map U.int))->∃G,f [.tup (a.map fu),.ref lb] S=some (.tup ((g a).map fu),S++G)){S:Sto}(hS:S[lb]?=some (.lst (bs.map U.int))){x0:Option U}:∀(ds acc:List (DF α)) (G:Sto) (r3:Option U),(∀d∈ds,DF.ok n w k d)->acc.length+ds.length<=900->
  ∃G' r3',cy (fun _=>True) (gNm 3) (bh f) (ds.map (DF.u fu)) [x0,some (.ref lb),some (.ref S.length),r3] (S++(.lst (acc.map (DF.u fu))::G))=some (.nx,[x0,some (.ref lb),some (.ref S.length),r3'],S++(.lst ((acc++ds.map (mvF (gu n bs) g)).map (DF.u fu))::G'))
 |[],acc,G,r3,_,_=>⟨G,r3,by rw[List.map_nil,List.map_nil,List.append_nil];exact eE trivial⟩
 |d::ds,acc,G,r3,hd,hl=>by
  rw[List.length_cons]at hl
  obtain⟨G1,h1⟩:=Dy (w:=w) (x0:=x0) (G:=G) hb hf hS (acc:=acc) (by omega) (hd d List.mem_cons_self)
  obtain⟨G2,r3',h2⟩:=wL hb hf hS (x0:=x0) ds (acc++[mvF (gu n bs) g d]) (G++G1) (some (d.u fu)) (fun x hx=>hd x (List.mem_cons_of_mem _ hx)) (by rw[List.length_append,List.length_singleton];omega)
  refine⟨G2,r3',?_⟩
  rw[List.map_cons,List.map_cons]
  rw[List.append_assoc]at h2
  exact(cB trivial rfl h1).trans h2
theorem Dz{α:Type}{fu:α->U}{g:List α->List α}{k:List α->Prop}(hb:bs.length=n.toNat)(hf:∀a (S:Sto),k a->S[lb]?=some (.lst (bs.map U.int))->∃G,f [.tup (a.map fu),.ref lb] S=some (.tup ((g a).map fu),S++G)){S:Sto}(hS:S[lb]?=some (.lst (bs.map U.int))){ds:List (DF α)}(hd:∀d∈ds,DF.ok n w k d)(hl:ds.length<=900) :
  ∃G,oR f [.tup (ds.map (DF.u fu)),.ref lb] S=some (.tup ((ds.map (mvF (gu n bs) g)).map (DF.u fu)),S++G):=by
 unfold oR
 rw[qi]
 obtain⟨G,r3,h⟩:=wL (w:=w) (x0:=some (.tup (ds.map (DF.u fu)))) hb hf hS ds [] [] none hd (by simp;omega)
 rw[List.nil_append]at h
 refine⟨.lst ((ds.map (mvF (gu n bs) g)).map (DF.u fu))::G,?_⟩
 have e1:bJ 2 (iH ax) [some (.tup (ds.map (DF.u fu))),some (.ref lb),none,none] S=some (.nx,[some (.tup (ds.map (DF.u fu))),some (.ref lb),some (.ref S.length),none],S++[.lst []]):=rfl
 have e2:lB (iTp (ak 0)) (gNm 3) (bh f) [some (.tup (ds.map (DF.u fu))),some (.ref lb),some (.ref S.length),none] (S++[.lst []])=some (.nx,[some (.tup (ds.map (DF.u fu))),some (.ref lb),some (.ref S.length),r3],S++(.lst ((ds.map (mvF (gu n bs) g)).map (DF.u fu))::G)):=h
 obtain⟨T,hT⟩:∃T,T=S++(.lst ((ds.map (mvF (gu n bs) g)).map (DF.u fu))::G):=⟨_,rfl⟩
 have gT:T[S.length]?=some (.lst ((ds.map (mvF (gu n bs) g)).map (DF.u fu))):=by rw[hT,ga0];rfl
 have e3:fe [.ref S.length] T=some (.tup ((ds.map (mvF (gu n bs) g)).map (DF.u fu)),T):=by simp only[fe,gT]
 unfold eR
 rw[jg e1,jg e2,<-hT]
 have v:ae (ak 2) ax [some (.tup (ds.map (DF.u fu))),some (.ref lb),some (.ref S.length),r3] T=some ([.ref S.length],T):=rfl
 rw[Bw,Ik,v,Option.bind_some,yC,e3]
 rfl
theorem wN(hb:bs.length=n.toNat):∀(J j:Nat),j<=J->∀(ds:List (Dl j)) (S:Sto),OkL n w j ds->S[lb]?=some (.lst (bs.map U.int))->∃G,uW J [.tup (ds.map (Dl.u j)),.ref lb] S=some (.tup ((mvL (gu n bs) j ds).map (Dl.u j)),S++G)
 |0,0,_,ds,S,h,hS=>Dz (α:=Empty) (w:=w) (fu:=fun x=>nomatch x) (g:=fun x=>x) (k:=fun _=>False) hb (fun a S z=>z.elim) hS h.2 (Nat.le_trans h.1 (by omega))
 |J+1,0,_,ds,S,h,hS=>Dz (α:=Empty) (w:=w) (fu:=fun x=>nomatch x) (g:=fun x=>x) (k:=fun _=>False) hb (fun a S z=>z.elim) hS h.2 (Nat.le_trans h.1 (by omega))
 |J+1,j+1,hj,ds,S,h,hS=>Dz (α:=Dl j) (w:=w) (fu:=Dl.u j) (g:=mvL (gu n bs) j) (k:=OkL n w j) hb (fun a S ka hS=>wN hb J j (by omega) a S ka hS) hS h.2 (Nat.le_trans h.1 (by omega))
end
def qy:Fn:=fnU 3 2 (cS dQ)
theorem pW:∀(ls:List Int) (k:Nat),(ls.map U.int).eraseIdx k=(ls.eraseIdx k).map U.int
 |[],_=>rfl
 |_::_,0=>rfl
 |x::r,k+1=>by
  show U.int x::(r.map U.int).eraseIdx k=U.int x::(r.eraseIdx k).map U.int
  rw[pW r k]
theorem F3{Y:Sto}{l:Nat}{ls:List Int}{k:Int}(h:Y[l]?=some (.lst (ls.map U.int)))(k0:0<=k)(k1:k<(ls.length:Int))(hl:ls.length<=900):f7 (.ref l) [.int k] Y=some (.int (ls.getD k.toNat 0),Y.set l (.lst ((ls.eraseIdx k.toNat).map U.int))):=by
 have hk:k.toNat<ls.length:=by omega
 have hc:0<=k/\k<((ls.map U.int).length:Int)/\(ls.map U.int).length<=LIM:=by rw[List.length_map];exact⟨k0,k1,by unfold LIM;omega⟩
 have he:(ls.map U.int).eraseIdx k.toNat=(ls.eraseIdx k.toNat).map U.int:=pW _ _
 simp only[f7,h]
 rw[if_pos hc,List.getElem?_map,List.getElem?_eq_getElem hk,he,List.getD_eq_getElem?_getD,List.getElem?_eq_getElem hk]
 rfl
theorem nX:∀{ls:List Int} {k:Nat},k<ls.length->(ls.getD k 0::ls.eraseIdx k).Perm ls
 |x::r,0,_=>List.Perm.refl _
 |x::r,k+1,h=>by
  have ih:=nX (ls:=r) (k:=k) (by rw[List.length_cons]at h;omega)
  exact(List.Perm.swap x (r.getD k 0) (r.eraseIdx k)).trans (ih.cons x)
theorem pI(ns:List Int)(T:Sto):∀(us:List U) (r:Option U) (ys ls:List Int) {a c:Int},0<=a->0<=c->us.length=ls.length->ys.length+ls.length<=900->
  ∃(zs:List Int) (a' c':Int),gj (fun _=>True) (gNm 0) (cBM f7 (ak 1) (ae (cCB dQ (ae (ak 2) (ae (cCB fU (ae (ak 1) ax)) ax))) ax)) (T.length+1+1+1) us [r,some (.ref (T.length+1+1)),some (.ref 1)] (scr ns::pen a c::(T++[.lst (ls.map U.int),.lst (ys.map U.int)]))
   = some (scr ns::pen a' c'::(T++[.lst [],.lst (zs.map U.int)]))/\zs.Perm (ys++ls)/\0<=a'/\0<=c'
 |[],r,ys,ls,a,c,ha,hc,hl,_=>by
  have:ls=[]:=List.eq_nil_of_length_eq_zero hl.symm
  subst this
  exact⟨ys,a,c,jA trivial,by rw[List.append_nil],ha,hc⟩
 |u::us,r,ys,ls,a,c,ha,hc,hl,hy=>by
  rw[List.length_cons]at hl
  obtain⟨k,a1,c1,h1,p1,q1,ha1,hc1⟩:=bF ns (T++[.lst (ls.map U.int),.lst (ys.map U.int)]) (m:=(ls.length:Int)) ha hc (by omega) (l9 (by omega) (by omega))
  have hk:k.toNat<ls.length:=by omega
  obtain⟨zs,a2,c2,h2,pz,ha2,hc2⟩:=pI ns T us (some u) (ys++[ls.getD k.toNat 0]) (ls.eraseIdx k.toNat) ha1 hc1 (by rw[List.length_eraseIdx];split<;>omega) (by rw[List.length_append,List.length_singleton,List.length_eraseIdx];split<;>omega)
  refine⟨zs,a2,c2,?_,pz.trans ?_,ha2,hc2⟩
  ·have ll:((ls.map U.int).length:Int)=(ls.length:Int):=by rw[List.length_map]
   have gl:(scr ns::pen a1 c1::(T++[O.lst (ls.map U.int),.lst (ys.map U.int)]))[T.length+1+1]?=some (.lst (ls.map U.int)):=by
    simp only[List.getElem?_cons_succ]
    rw[ga0];rfl
   have hp:=F3 gl p1 q1 (by omega)
   have es:(scr ns::pen a1 c1::(T++[O.lst (ls.map U.int),.lst (ys.map U.int)])).set (T.length+1+1) (.lst ((ls.eraseIdx k.toNat).map U.int))=scr ns::pen a1 c1::(T++[.lst ((ls.eraseIdx k.toNat).map U.int),.lst (ys.map U.int)]):=by
    simp only[List.set_cons_succ]
    rw[gs0];rfl
   rw[es]at hp
   refine(hV (ρ0:=[some u,some (.ref (T.length+1+1)),some (.ref 1)]) (S0:=scr ns::pen a c::(T++[.lst (ls.map U.int),.lst (ys.map U.int)])) (S1:=scr ns::pen a1 c1::(T++[.lst ((ls.eraseIdx k.toNat).map U.int),.lst (ys.map U.int)])) (x:=.int (ls.getD k.toNat 0)) (ys:=ys.map U.int) trivial rfl ?_ ?_ (by unfold LIM;rw[List.length_map];omega)).trans ?_
   ·rwa[ll,h1,hp]
   ·simp only[List.getElem?_cons_succ]
    rw[ga];rfl
   ·rw[<-h2]
    congr 1
    simp only[List.set_cons_succ]
    rw[gs,List.map_append]
    rfl
  ·rw[List.append_assoc]
   exact List.Perm.append_left _ (nX hk)
theorem vN(ns:List Int)(T:Sto){a c:Int}{m:Int}(m0:0<=m)(hm:m<=100)(ha:0<=a)(hc:0<=c) :
  ∃(zs:List Int) (a' c':Int),qy [.ref 1,.int m] (scr ns::pen a c::T)=some (.ref (T.length+1+1+1),scr ns::pen a' c'::(T++[.lst [],.lst (zs.map U.int)]))/\zs.Perm ((List.range m.toNat).map fun i:Nat=>(i:Int))/\0<=a'/\0<=c':=by
 unfold qy
 rw[mO]
 obtain⟨zs,a',c',h,pz,ha',hc'⟩:=pI ns T (cP 0 m.toNat) none [] ((List.range m.toNat).map fun i:Nat=>(i:Int)) ha hc (by simp[cP]) (by simp;omega)
 refine⟨zs,a',c',?_,by rw[List.nil_append]at pz;exact pz,ha',hc'⟩
 have er:cP 0 m.toNat=((List.range m.toNat).map fun i:Nat=>(i:Int)).map U.int:=by
  unfold cP
  rw[List.map_map]
  exact List.map_congr_left fun i _=>by simp
 have s1:bJ 2 (gq (ae (ak 1) ax)) [some (.ref 1),some (.int m),none] (scr ns::pen a c::T)=some (.nx,[some (.ref 1),some (.int m),some (.ref (T.length+1+1))],scr ns::pen a c::(T++[.lst (((List.range m.toNat).map fun i:Nat=>(i:Int)).map U.int)])):=by
  have v:ae (ak 1) ax [some (.ref 1),some (.int m),none] (scr ns::pen a c::T)=some ([.int m],scr ns::pen a c::T):=rfl
  have e:gq (ae (ak 1) ax) [some (.ref 1),some (.int m),none] (scr ns::pen a c::T)=some (.ref (T.length+1+1),scr ns::pen a c::(T++[.lst (((List.range m.toNat).map fun i:Nat=>(i:Int)).map U.int)])):=by
   unfold gq
   rw[v,Option.bind_some]
   dsimp only
   rw[if_pos ⟨by omega,by omega⟩,er]
   rfl
  rw[qC,e]
  rfl
 have hr:-(2^62)<=m/\m<2^62:=by omega
 unfold cS
 rw[jg s1]
 have hi:cN (ae (ak 1) ax) [some (.ref 1),some (.int m),some (.ref (T.length+1+1))] (scr ns::pen a c::(T++[.lst (((List.range m.toNat).map fun i:Nat=>(i:Int)).map U.int)]))=some (cP 0 m.toNat,fun _=>True,scr ns::pen a c::(T++[.lst (((List.range m.toNat).map fun i:Nat=>(i:Int)).map U.int)])):=by
  rwa[cN,hr,if_true,and_self]
 have ec:gH (cN (ae (ak 1) ax)) (gNm 0) (cBM f7 (ak 1) (ae (cCB dQ (ae (ak 2) (ae (cCB fU (ae (ak 1) ax)) ax))) ax)) 1 [2,0] [some (.ref 1),some (.int m),some (.ref (T.length+1+1))] (scr ns::pen a c::(T++[.lst (((List.range m.toNat).map fun i:Nat=>(i:Int)).map U.int)]))=some (.ref (T.length+1+1+1),scr ns::pen a' c'::(T++[.lst [],.lst (zs.map U.int)])):=by
  unfold gH
  rw[hi,Option.bind_some]
  have hrho:qQ 1 [2,0] [some (.ref 1),some (.int m),some (.ref (T.length+1+1))]=[none,some (.ref (T.length+1+1)),some (.ref 1)]:=rfl
  have hlen:(scr ns::pen a c::(T++[O.lst (((List.range m.toNat).map fun i:Nat=>(i:Int)).map U.int)])).length=T.length+1+1+1:=by simp
  dsimp only
  rw[hrho,hlen]
  have happ:(scr ns::pen a c::(T++[O.lst (((List.range m.toNat).map fun i:Nat=>(i:Int)).map U.int)]))++[O.lst []]=scr ns::pen a c::(T++[.lst (((List.range m.toNat).map fun i:Nat=>(i:Int)).map U.int),.lst []]):=by simp
  rw[happ]
  have h':gj (fun _=>True) (gNm 0) (cBM f7 (ak 1) (ae (cCB dQ (ae (ak 2) (ae (cCB fU (ae (ak 1) ax)) ax))) ax)) (T.length+1+1+1) (cP 0 m.toNat) [none,some (.ref (T.length+1+1)),some (.ref 1)] (scr ns::pen a c::(T++[.lst (((List.range m.toNat).map fun i:Nat=>(i:Int)).map U.int),.lst []]))=_:=h
  rw[h',Option.bind_some]
 rw[Bw,ec]
 rfl
def rng(N:Nat):List Int:=(List.range N).map fun i:Nat=>(i:Int)
structure Ord(n:Int)(bs:List Int):Prop where
 nd:bs.Nodup
 len:bs.length=n.toNat
 mem:∀c,c∈bs↔0<=c/\c<n
theorem Ord.of{n:Int}{bs:List Int}(n0:0<=n)(h:bs.Perm ((List.range n.toNat).map fun i:Nat=>(i:Int))):Ord n bs:=by
 have nd:((List.range n.toNat).map fun i:Nat=>(i:Int)).Nodup:=List.pairwise_map.mpr (List.Pairwise.imp (fun h e=>h (Int.ofNat.inj e)) List.nodup_range)
 refine⟨h.nodup_iff.mpr nd,by rw[h.length_eq];simp,fun c=>?_⟩
 rw[h.mem_iff,List.mem_map]
 constructor
 ·rintro⟨i,hi,rfl⟩
  have:=List.mem_range.mp hi
  omega
 ·rintro⟨h1,h2⟩
  exact⟨c.toNat,List.mem_range.mpr (by omega),by omega⟩
def lj(n:Int)(bs:List Int)(c:Int):Int:=if 0<=c/\c<n then(bs.idxOf c:Int)else c
section
variable{n w:Int}{bs os:List Int}
theorem Ord.at_(h:Ord n bs){b:Int}(b0:0<=b)(b1:b<n):gu n bs b∈bs/\bs.idxOf (gu n bs b)=b.toNat:=by
 have hk:b.toNat<bs.length:=by rw[h.len];omega
 have e:gu n bs b=bs[b.toNat]:=by
  unfold gu
  rw[if_pos ⟨b0,b1⟩,List.getD_eq_getElem?_getD,List.getElem?_eq_getElem hk]
  rfl
 rw[e]
 exact⟨List.getElem_mem hk,h.nd.idxOf_getElem _ hk⟩
theorem Ord.rng(h:Ord n bs){b:Int}(b0:0<=b)(b1:b<n):0<=gu n bs b/\gu n bs b<n:=(h.mem _).mp (h.at_ b0 b1).1
theorem oO{b:Int}(h:¬(0<=b/\b<n)):gu n bs b=b:=by unfold gu;rw[if_neg h]
theorem Ord.inj(h:Ord n bs)(a b:Int)(e:gu n bs a=gu n bs b):a=b:=by
 by_cases ca:0<=a/\a<n
 ·by_cases cb:0<=b/\b<n
  ·have h1:=(h.at_ ca.1 ca.2).2
   have h2:=(h.at_ cb.1 cb.2).2
   rw[e,h2]at h1
   omega
  ·have h1:=h.rng ca.1 ca.2
   rw[e,oO cb]at h1
   exact absurd h1 cb
 ·by_cases cb:0<=b/\b<n
  ·have h1:=h.rng cb.1 cb.2
   rw[<-e,oO ca]at h1
   exact absurd h1 ca
  ·rw[oO ca,oO cb]at e
   exact e
theorem Ord.back(h:Ord n bs){c:Int}(c0:0<=c)(c1:c<n):∃k:Nat,lj n bs c=(k:Int)/\(k:Int)<n/\bs.getD k 0=c:=by
 have hm:=(h.mem c).mpr ⟨c0,c1⟩
 have hl:=List.idxOf_lt_length_of_mem hm
 refine⟨bs.idxOf c,by unfold lj;rw[if_pos ⟨c0,c1⟩],by rw[h.len]at hl;omega,?_⟩
 rw[List.getD_eq_getElem?_getD,List.getElem?_eq_getElem hl]
 exact List.getElem_idxOf hl
theorem lD{b:Int}(h:¬(0<=b/\b<n)):lj n bs b=b:=by unfold lj;rw[if_neg h]
theorem Ord.binj(h:Ord n bs)(a b:Int)(e:lj n bs a=lj n bs b):a=b:=by
 by_cases ca:0<=a/\a<n
 ·obtain⟨k,e1,k1,g1⟩:=h.back ca.1 ca.2
  by_cases cb:0<=b/\b<n
  ·obtain⟨k',e2,k2,g2⟩:=h.back cb.1 cb.2
   rw[e1,e2]at e
   have:k=k':=by omega
   subst this
   rw[<-g1,g2]
  ·rw[e1,lD cb]at e
   exact absurd (by omega:0<=b/\b<n) cb
 ·by_cases cb:0<=b/\b<n
  ·obtain⟨k',e2,k2,g2⟩:=h.back cb.1 cb.2
   rw[e2,lD ca]at e
   exact absurd (by omega:0<=a/\a<n) ca
  ·rw[lD ca,lD cb]at e
   exact e
theorem Cr{Ds Ds':List (List (Dl 2))}(hb:Ord n bs)(ho:Ord (Ds.length:Int) os)(ok:∀d∈Ds,OkL n w 2 d)(hl:Ds'.length=Ds.length)(hd:∀k:Nat,k<Ds.length->Ds'.getD k []=mvL (gu n bs) 2 (Ds.getD (os.getD k 0).toNat [])):rT (gu n bs) (lj (Ds.length:Int) os) n w Ds Ds' where
 inj:=hb.inj
 rng:=fun b b0 b1=>hb.rng b0 b1
 len:=hl
 sin:=ho.binj
 sat:=fun i hi=>by
  obtain⟨k,e1,k1,g1⟩:=ho.back (c:=(i:Int)) (by omega) (by omega)
  refine⟨by omega,by omega,?_⟩
  rw[e1,Int.toNat_natCast,hd k (by omega),g1,Int.toNat_natCast]
 sur:=fun i hi=>by
  have hk:i<os.length:=by rw[ho.len];omega
  have hm:=(ho.mem _).mp (List.getElem_mem hk)
  refine⟨os[i].toNat,by omega,?_⟩
  have e:((os[i].toNat:Nat):Int)=os[i]:=Int.toNat_of_nonneg hm.1
  rw[e]
  unfold lj
  rw[if_pos hm,ho.nd.idxOf_getElem _ hk]
 ok:=ok
theorem Ku{s:List Int}(hb:Ord n bs)(hs:s.length=n.toNat):Mv (gu n bs) n s ((List.range n.toNat).map fun c:Nat=>s.getD (bs.idxOf (c:Int)) 0) where
 l1:=hs
 l2:=by simp
 at_:=fun b b0 b1=>by
  obtain⟨r0,r1⟩:=hb.rng b0 b1
  have hk:(gu n bs b).toNat<n.toNat:=by omega
  rw[List.getD_eq_getElem?_getD,List.getElem?_map,List.getElem?_range hk]
  show s.getD (bs.idxOf (((gu n bs b).toNat:Nat):Int)) 0=_
  rw[Int.toNat_of_nonneg r0,(hb.at_ b0 b1).2]
end
section
variable{n w:Int}{bs s:List Int}{lb:Nat}{S:Sto}
theorem xj{xs:List Int}{k:Nat}(h:k<xs.length):atI (xs.map U.int) (k:Int)=some (.int (xs.getD k 0)):=by
 refine kN (by omega) ?_
 rw[Int.toNat_natCast,List.getElem?_map,List.getElem?_eq_getElem h,List.getD_eq_getElem?_getD,List.getElem?_eq_getElem h]
 rfl
theorem sU(hb:Ord n bs)(hS:S[lb]?=some (.lst (bs.map U.int)))(hs:s.length=n.toNat)(hn:bs.length<=900):∀(cs:List Nat) (r:Option U) (ys:List Int),(∀c∈cs,(c:Int)<n)->ys.length+cs.length<=900->
  gj (fun _=>True) (gNm 0) (cOp fIx (ak 1) (cBM jw (ak 2) (ae (ak 0) ax))) S.length (cs.map fun c:Nat=>U.int (0+(c:Nat))) [r,some (.tup (s.map U.int)),some (.ref lb)] (S++[.lst (ys.map U.int)])=some (S++[.lst ((ys++cs.map fun c:Nat=>s.getD (bs.idxOf (c:Int)) 0).map U.int)])
 |[],r,ys,_,_=>by rw[List.map_nil,List.map_nil,List.append_nil];exact jA trivial
 |c::cs,r,ys,hc,hy=>by
  rw[List.length_cons]at hy
  have ih:=sU hb hS hs hn cs (some (.int (0+(c:Int)))) (ys++[s.getD (bs.idxOf (c:Int)) 0]) (fun x hx=>hc x (List.mem_cons_of_mem _ hx)) (by rw[List.length_append,List.length_singleton];omega)
  have hcm:(c:Int)∈bs:=(hb.mem _).mpr ⟨by omega,hc c List.mem_cons_self⟩
  have gl:(S++[O.lst (ys.map U.int)])[lb]?=some (.lst (bs.map U.int)):=aL hS
  have hL:bs.length<=LIM:=by unfold LIM;omega
  have hx:jw (.ref lb) [.int (0+(c:Int))] (S++[.lst (ys.map U.int)])=some (.int (bs.idxOf (c:Int):Nat),S++[.lst (ys.map U.int)]):=by
   rw[Int.zero_add]
   simp only[jw,gl,jv,Option.bind_some,hcm,hL,and_self,if_true]
  have hi:=List.idxOf_lt_length_of_mem hcm
  have ha:=xj (xs:=s) (k:=bs.idxOf (c:Int)) (by rw[hs,<-hb.len];exact hi)
  rw[List.map_cons]
  refine(hV (ρ0:=[some (.int (0+(c:Int))),some (.tup (s.map U.int)),some (.ref lb)]) (S0:=S++[.lst (ys.map U.int)]) (S1:=S++[.lst (ys.map U.int)]) (x:=.int (s.getD (bs.idxOf (c:Int)) 0)) (ys:=ys.map U.int) trivial rfl ?_ (by rw[ga0];rfl) (by unfold LIM;rw[List.length_map];omega)).trans ?_
  ·rwa[gl,hx,ha]
  ·rw[gs0,List.map_cons]
   have e:(ys.map U.int++[U.int (s.getD (bs.idxOf (c:Int)) 0)])=(ys++[s.getD (bs.idxOf (c:Int)) 0]).map U.int:=by rw[List.map_append];rfl
   rw[e]
   rw[List.append_assoc]at ih
   exact ih
theorem sP{Ds:List (List (Dl 2))}{ld lo:Nat}{us:List U}(hb:bs.length=n.toNat)(ok:∀d∈Ds,OkL n w 2 d):∀(os:List Int) (r:Option U) (ys:List (List (Dl 2))) (G:Sto),(∀o∈os,0<=o/\o<(Ds.length:Int))->ys.length+os.length<=900->S[lb]?=some (.lst (bs.map U.int))->S[ld]?=some (.lst (Ds.map dlU))->S[lo]?=some (.lst us)->
  ∃G',gj (fun S=>S[lo]?=some (.lst us)) (gNm 0) (cCB (uW 3) (ae (cOp fIx (ak 2) (ak 0)) (ae (ak 1) ax))) S.length (os.map U.int) [r,some (.ref lb),some (.ref ld)] (S++(.lst (ys.map dlU)::G))=some (S++(.lst ((ys++os.map fun o=>mvL (gu n bs) 2 (Ds.getD o.toNat [])).map dlU)::G'))
 |[],r,ys,G,_,_,_,_,h3=>⟨G,by rw[List.map_nil,List.map_nil,List.append_nil];exact jA (aL h3)⟩
 |o::os,r,ys,G,ho,hy,h1,h2,h3=>by
  obtain⟨o0,o1⟩:=ho o List.mem_cons_self
  rw[List.length_cons]at hy
  obtain⟨G1,e1⟩:=wN (w:=w) (lb:=lb) hb 3 2 (by omega) (Ds.getD o.toNat []) (S++(.lst (ys.map dlU)::G)) (D1 ok o0 o1) (aL h1)
  obtain⟨G2,ih⟩:=sP hb ok os (some (.int o)) (ys++[mvL (gu n bs) 2 (Ds.getD o.toNat [])]) (G++G1) (fun x hx=>ho x (List.mem_cons_of_mem _ hx)) (by rw[List.length_append,List.length_singleton];omega) h1 h2 h3
  refine⟨G2,?_⟩
  have ea:=HH o0 o1
  have gd:(S++(.lst (ys.map dlU)::G))[ld]?=some (.lst (Ds.map dlU)):=aL h2
  rw[List.map_cons,List.map_cons]
  have e1':uW 3 [dlU (Ds.getD o.toNat []),.ref lb] (S++(.lst (ys.map dlU)::G))=some (dlU (mvL (gu n bs) 2 (Ds.getD o.toNat [])),S++(.lst (ys.map dlU)::(G++G1))):=by
   have:=e1
   rw[List.append_assoc,List.cons_append]at this
   exact this
  refine(hV (ρ0:=[some (.int o),some (.ref lb),some (.ref ld)]) (S0:=S++(.lst (ys.map dlU)::G)) (S1:=S++(.lst (ys.map dlU)::(G++G1))) (x:=dlU (mvL (gu n bs) 2 (Ds.getD o.toNat []))) (ys:=ys.map dlU) (aL h3) rfl ?_ (by rw[ga0];rfl) (by unfold LIM;rw[List.length_map];omega)).trans ?_
  ·obtain⟨T,hT⟩:∃T,T=S++(O.lst (ys.map dlU)::G):=⟨_,rfl⟩
   rw[<-hT]at e1' gd ⊢
   rwa[gd,ea,e1']
  ·rw[gs0]
   have e:(ys.map dlU++[dlU (mvL (gu n bs) 2 (Ds.getD o.toNat []))])=(ys++[mvL (gu n bs) 2 (Ds.getD o.toNat [])]).map dlU:=by rw[List.map_append];rfl
   rw[e]
   rw[List.append_assoc]at ih
   exact ih
end
section
variable{n w:Int}{os:List Int}
theorem sF(h:Ord n os):∀(r:List Int),(∀a∈r,0<=a/\a<n)->((r.map (lj n os)).map fun k=>os.getD k.toNat 0)=r
 |[],_=>rfl
 |a::r,hr=>by
  obtain⟨a0,a1⟩:=hr a List.mem_cons_self
  obtain⟨k,e,_,g⟩:=h.back a0 a1
  rw[List.map_cons,List.map_cons,sF h r fun x hx=>hr x (List.mem_cons_of_mem _ hx),e,Int.toNat_natCast,g]
theorem pL{Ds:List (List (Dl 2))}:∀(r:List Int) (k:Nat) (st st':List Int),follow w Ds r st=some st'->yw w Ds r k st=.done st'
 |[],k,st,st',h=>by cases h;rfl
 |o::r,k,st,st',h=>by
  unfold follow goD at h
  unfold yw
  cases er:mr w st 2 (Ds.getD o.toNat []) m0 with
  |mk t m=>
   rw[er]at h
   cases t with
   |false=>cases h
   |true=>exact pL r (k+1) _ st' h
end
theorem nM{S:Sto}{os:List Int}{lo lf:Nat}{us:List U}(h1:S[lo]?=some (.lst (os.map U.int)))(h2:S[lf]?=some (.lst us)):∀(ks:List Int) (r:Option U) (ys:List Int),(∀k∈ks,0<=k/\k<(os.length:Int))->ys.length+ks.length<=900->
  gj (fun S=>S[lf]?=some (.lst us)) (gNm 0) (cOp fIx (ak 1) (ak 0)) S.length (ks.map U.int) [r,some (.ref lo)] (S++[.lst (ys.map U.int)])=some (S++[.lst ((ys++ks.map fun k=>os.getD k.toNat 0).map U.int)])
 |[],r,ys,_,_=>by rw[List.map_nil,List.map_nil,List.append_nil];exact jA (aL h2)
 |k::ks,r,ys,hk,hy=>by
  rw[List.length_cons]at hy
  obtain⟨k0,k1⟩:=hk k List.mem_cons_self
  have ih:=nM h1 h2 ks (some (.int k)) (ys++[os.getD k.toNat 0]) (fun x hx=>hk x (List.mem_cons_of_mem _ hx)) (by rw[List.length_append,List.length_singleton];omega)
  have gl:(S++[O.lst (ys.map U.int)])[lo]?=some (.lst (os.map U.int)):=aL h1
  have ha:=xj (xs:=os) (k:=k.toNat) (by omega)
  rw[Int.toNat_of_nonneg k0]at ha
  rw[List.map_cons,List.map_cons]
  refine(hV (ρ0:=[some (.int k),some (.ref lo)]) (S0:=S++[.lst (ys.map U.int)]) (S1:=S++[.lst (ys.map U.int)]) (x:=.int (os.getD k.toNat 0)) (ys:=ys.map U.int) (aL h2) rfl ?_ (by rw[ga0];rfl) (by unfold LIM;rw[List.length_map];omega)).trans ?_
  ·rwa[gl,ha]
  ·rw[gs0]
   have e:(ys.map U.int++[U.int (os.getD k.toNat 0)])=(ys++[os.getD k.toNat 0]).map U.int:=by rw[List.map_append];rfl
   rw[e]
   rw[List.append_assoc]at ih
   exact ih
end OQ
namespace OL
open PySem PySem.Spec PyProof.Rows L2 OG OP OQ
abbrev fL(cD:Cl)(f:Fn->Fn->Fn->Fn->Fn->Fn->Fn->Fn->CS):CS:=f jZ yu qx qy (uW 3) (e8 (ba cD)) (cL (ba cD)) (rX cD)
def L1(b:Bool):Str:=if b then "all" else "never"
section
variable{cD:Cl}{n w:Int}{Ds Ds':List (List (Dl 2))}{st st' bs os:List Int}{ld lo lt:Nat}{S:Sto}
theorem MP(hns:cD.ns.length=4)(n0:1<=n)(n1:n<=6)(w0:2<=w):jF n w (ba cD):=fun d st S od hs=>by
 obtain⟨_,G,l,h,_⟩:=t7 (cD:=cD) (j:=2) (by omega) S hns d od hs n0 n1 w0
 exact⟨G,l,h⟩
theorem yn(hf:jF n w (ba cD))(hN:Ds.length<=6)(hs:st.length=n.toNat)(ok:∀d∈Ds,OkL n w 2 d)(hz:S[ld]?=some (.lst (Ds.map dlU))) :
  ∃G l,cL (ba cD) [.tup [.int n,.int w],.tup (st.map U.int),.ref ld] S=some (.tup [.str (L1 (AE w Ds st)),.ref l],S++G):=by
 obtain⟨v,G,e,l,_,D⟩:=rS hf hN hs ok hz
 unfold AE
 cases hq:(dh w Ds st).find? (Bc Ds.length)with
 |none=>rw[hq]at D;obtain⟨rfl,_⟩:=D;exact⟨G,l,e⟩
 |some q=>rw[hq]at D;obtain⟨rfl,_⟩:=D;exact⟨G,l,e⟩
theorem qL(hf:jF n w (ba cD))(hN:Ds.length<=6)(hs:st.length=n.toNat)(ok:∀d∈Ds,OkL n w 2 d)(hz:S[ld]?=some (.lst (Ds.map dlU)))(h:oY w Ds st=none) :
  ∃G l,e8 (ba cD) [.tup [.int n,.int w],.tup (st.map U.int),.ref ld] S=some (.tup [.str "free",.ref l],S++G):=by
 obtain⟨v,G,e,l,_,D⟩:=sk hf (fun z=>tZ) hN hs ok hz
 unfold oY at h
 cases hq:(dh w Ds st).find? (stk w Ds)with
 |none=>rw[hq]at D;obtain⟨rfl,_⟩:=D;exact⟨G,l,e⟩
 |some q=>rw[hq]at h;cases h
theorem qK(hf:jF n w (ba cD))(hN:Ds.length<=6)(hs:st.length=n.toNat)(ok:∀d∈Ds,OkL n w 2 d)(hz:S[ld]?=some (.lst (Ds.map dlU))){k:Nat}(h:oY w Ds st=some k) :
  ∃G l q,(dh w Ds st).find? (stk w Ds)=some q/\q.2.length=k/\e8 (ba cD) [.tup [.int n,.int w],.tup (st.map U.int),.ref ld] S=some (.tup [.str "stuck",.ref l],S++G)/\(S++G)[l]?=some (.lst (q.2.map U.int)):=by
 obtain⟨v,G,e,l,_,D⟩:=sk hf (fun z=>tZ) hN hs ok hz
 unfold oY at h
 cases hq:(dh w Ds st).find? (stk w Ds)with
 |none=>rw[hq]at h;cases h
 |some q=>
  rw[hq]at D h
  obtain⟨rfl,g⟩:=D
  injection h with h
  exact⟨G,l,q,rfl,h,e,g⟩
theorem tU(h:S[ld]?=some (.lst (Ds.map dlU)))(hN:Ds.length<=6):∃S1 le,eI (.ref ld) (.ref S.length) (S++[.lst [.tup []]])=some (.ref le,S1)/\S1[le]?=some (.lst ((Ds++[[]]).map dlU))/\∃X,S1=S++X:=by
 have h1:(S++[O.lst [.tup []]])[ld]?=some (.lst (Ds.map dlU)):=aL h
 have h2:(S++[O.lst [.tup []]])[S.length]?=some (.lst [.tup []]):=by rw[ga0];rfl
 have hL:(Ds.map dlU).length + [U.tup []].length<=LIM:=by unfold LIM;rw[List.length_map,List.length_singleton];omega
 refine⟨S++[.lst [.tup []]]++[.lst (Ds.map dlU++[.tup []])],(S++[O.lst [.tup []]]).length,?_,?_,⟨_,List.append_assoc ..⟩⟩
 ·simp only[eI,i8,h1,h2]
  rw[if_pos hL]
 ·rw[ga0,List.map_append];rfl
theorem sS(ok:∀d∈Ds,OkL n w 2 d):∀d∈Ds++[[]],OkL n w 2 d:=fun d hd=>by
 rcases List.mem_append.mp hd with h|h
 ·exact ok d h
 ·rw[List.mem_singleton.mp h]
  exact⟨by simp,fun d hd=>nomatch hd⟩
theorem CD:decide (("stuck":Str)="stuck")=true:=by decide +kernel
theorem J3:decide (("free":Str)="free")=true:=by decide +kernel
theorem J2:decide (("free":Str)="stuck")=false:=by decide +kernel
theorem CF:decide (("done":Str)="done")=true:=by decide +kernel
theorem FK(hns:cD.ns.length=4)(n0:1<=n)(n1:n<=6)(w0:2<=w)(hN:Ds.length<=6)(ok:∀d∈Ds,OkL n w 2 d)(hs:st.length=n.toNat)(T:rT (gu n bs) (lj (Ds.length:Int) os) n w Ds Ds')(hm:Mv (gu n bs) n st st')(ho:Ord (Ds.length:Int) os){q:Pl×List Int}(hq:(dh w Ds' st').find? (stk w Ds')=some q){lf:Nat}(h5:S[ld]?=some (.lst (Ds.map dlU)))(h8:S[lo]?=some (.lst (os.map U.int)))(hf:S[lf]?=some (.lst (q.2.map U.int))) :
  ∃row G l,gj (fun S=>S[lf]?=some (.lst (q.2.map U.int))) (gNm 0) (cOp fIx (ak 1) (ak 0)) S.length (q.2.map U.int) [none,some (.ref lo)] (S++[.lst []])=some (S++[.lst row])
   /\rX cD [.tup [.int n,.int w],.ref ld,.tup (st.map U.int),.ref S.length] (S++[.lst row])=some (.tup [.str "done",l],S++[.lst row]++G):=by
 obtain⟨hp,_⟩:=iC hq
 obtain⟨r,p,er,hr,_⟩:=my T hm hp
 have hb:∀a∈r,0<=a/\a<(Ds.length:Int):=hr.ok.bd
 have lq:=hp.few (by rw[T.len];exact hN)
 have hk:∀k∈q.2,0<=k/\k<(os.length:Int):=fun k hk=>by
  have:=hp.ok.bd k hk
  rw[T.len]at this
  rw[ho.len,Int.toNat_natCast]
  exact this
 have e:=nM (S:=S) h8 hf q.2 none [] hk (by rw[List.length_nil];have:=T.len;omega)
 rw[List.nil_append,er,sF ho r hb,<-er]at e
 have hg:(S++[O.lst (r.map U.int)])[S.length]?=some (.lst (r.map U.int)):=by rw[ga0];rfl
 obtain⟨X,l,_,_,e2⟩:=z8 (cD:=cD) (j:=2) (by omega) hns n0 n1 w0 ok r st (S++[.lst (r.map U.int)]) (aL h5) hg hb hs
 rw[pL r 0 st _ hr.follow]at e2
 exact⟨_,X,_,e,e2⟩
theorem xN{d:fD}{β:Int->Int}(rng:∀b,0<=b->b<n->0<=β b/\β b<n)(h:d.ok n w):(mvD β d).ok n w:=by
 cases d with
 |look a b=>obtain⟨h1,h2,h3,h4⟩:=h;exact⟨h1,h2,(rng b h3 h4).1,(rng b h3 h4).2⟩
 |put b a=>obtain⟨h1,h2,h3,h4⟩:=h;exact⟨h1,h2,(rng b h3 h4).1,(rng b h3 h4).2⟩
 |set _ _=>exact h
 |plus _ _=>exact h
 |leap _ _=>exact h
 |wait=>exact h
theorem wM{β:Int->Int}(rng:∀b,0<=b->b<n->0<=β b/\β b<n):∀(j:Nat) (d:List (Dl j)),OkL n w j d->OkL n w j (mvL β j d)
 |0,ds,h=>by
  refine⟨Nat.le_trans (Nat.le_of_eq (List.length_map ..)) h.1,fun d hd=>?_⟩
  obtain⟨x,hx,rfl⟩:=List.mem_map.mp hd
  have:=h.2 x hx
  cases x with
  |pl x=>exact xN rng this
  |tr a b=>exact nomatch this.1
 |j+1,ds,h=>by
  refine⟨Nat.le_trans (Nat.le_of_eq (List.length_map ..)) h.1,fun d hd=>?_⟩
  obtain⟨x,hx,rfl⟩:=List.mem_map.mp hd
  have:=h.2 x hx
  cases x with
  |pl x=>exact xN rng this
  |tr a b=>exact⟨wM rng j a this.1,wM rng j b this.2⟩
def Lu(cD:Cl):CS:=
 (bb (bJ 10 (iH (ae (cCB (cL (ba cD)) (ae (ak 2) (ae (ak 4) (ae (ak 5) ax)))) (ae (cCB (e8 (ba cD)) (ae (ak 2) (ae (ak 4) (ae (ak 5) ax)))) ax))))
  (bb (dF (aH (cOp fNe (cOp fIx (cCB (cL (ba cD)) (ae (ak 2) (ae (ak 7) (ae (ak 9) ax)))) (cC (.int 0))) (cOp fIx (cOp fIx (ak 10) (cC (.int 0))) (cC (.int 0))))) (dU (cC (.bl false))) bU)
  (bb (bJ 11 (cCB (e8 (ba cD)) (ae (ak 2) (ae (ak 7) (ae (ak 9) ax)))))
  (bb (dF (cOr (aH (cOp fNe (cOp fIx (ak 11) (cC (.int 0))) (cOp fIx (cOp fIx (ak 10) (cC (.int 1))) (cC (.int 0))))) (lC (aH (cOp fEq (cOp fIx (ak 11) (cC (.int 0))) (cC (.str "stuck")))) (aH (cOp fNe (cCB fU (ae (cOp fIx (ak 11) (cC (.int 1))) ax)) (cCB fU (ae (cOp fIx (cOp fIx (ak 10) (cC (.int 1))) (cC (.int 1))) ax)))))) (dU (cC (.bl false))) bU)
  (bb (dF (aH (cOp fEq (cOp fIx (ak 11) (cC (.int 0))) (cC (.str "stuck")))) (bb (bJ 12 (gH (iTp (cOp fIx (ak 11) (cC (.int 1)))) (gNm 0) (cOp fIx (ak 1) (ak 0)) 1 [8]))
  (dF (aH (cOp fNe (cOp fIx (cCB (rX cD) (ae (ak 2) (ae (ak 5) (ae (ak 4) (ae (ak 12) ax))))) (cC (.int 0))) (cC (.str "done")))) (dU (cC (.bl false))) bU)) bU)
  (bb (dF (aH (cOp fNe (cOp fIx (cCB (cL (ba cD)) (ae (ak 2) (ae (ak 4) (ae (cOp eI (ak 5) (iH (ae (cu ax) ax))) ax)))) (cC (.int 0))) (cOp fIx (cOp fIx (ak 10) (cC (.int 0))) (cC (.int 0))))) (dU (cC (.bl false))) bU)
  (bb (bJ 11 (cCB (e8 (ba cD)) (ae (ak 2) (ae (ak 4) (ae (cOp eI (ak 5) (iH (ae (cu ax) ax))) ax)))))
  (dF (cOr (aH (cOp fNe (cOp fIx (ak 11) (cC (.int 0))) (cOp fIx (cOp fIx (ak 10) (cC (.int 1))) (cC (.int 0))))) (lC (aH (cOp fEq (cOp fIx (ak 11) (cC (.int 0))) (cC (.str "stuck")))) (aH (cOp fNe (cCB fU (ae (cOp fIx (ak 11) (cC (.int 1))) ax)) (cOp eI (cCB fU (ae (cOp fIx (cOp fIx (ak 10) (cC (.int 1))) (cC (.int 1))) ax)) (cC (.int 1))))))) (dU (cC (.bl false))) bU))))))))
theorem kO{A B C:Sto}(h:∃X,B=A++X)(k:∃X,C=B++X):∃X,C=A++X:=by
 obtain⟨X,rfl⟩:=h
 obtain⟨Y,rfl⟩:=k
 exact⟨X++Y,List.append_assoc ..⟩
theorem cm{A B:Sto}(h:∃X,B=A++X){i:Nat}{o:O}(g:A[i]?=some o):B[i]?=some o:=by
 obtain⟨X,rfl⟩:=h
 exact aL g
theorem Ft(hns:cD.ns.length=4)(n0:1<=n)(n1:n<=6)(w0:2<=w)(hN:Ds.length+1<=6)(ok:∀d∈Ds,OkL n w 2 d)(ok':∀d∈Ds',OkL n w 2 d)(hs:st.length=n.toNat)(hs':st'.length=n.toNat)(T:rT (gu n bs) (lj (Ds.length:Int) os) n w Ds Ds')(hm:Mv (gu n bs) n st st')(ho:Ord (Ds.length:Int) os)(h5:S[ld]?=some (.lst (Ds.map dlU)))(h8:S[lo]?=some (.lst (os.map U.int)))(h9:S[lt]?=some (.lst (Ds'.map dlU))){x3 x6 r10 r11 r12:Option U} :
  ∃Y q10 q11 q12,Lu cD [none,some (.ref 1),some (.tup [.int n,.int w]),x3,some (.tup (st.map U.int)),some (.ref ld),x6,some (.tup (st'.map U.int)),some (.ref lo),some (.ref lt),r10,r11,r12] S
   = some (.nx,[none,some (.ref 1),some (.tup [.int n,.int w]),x3,some (.tup (st.map U.int)),some (.ref ld),x6,some (.tup (st'.map U.int)),some (.ref lo),some (.ref lt),q10,q11,q12],Y)/\∃X,Y=S++X:=by
 have hf:=MP (cD:=cD) hns n0 n1 w0
 have hN':Ds'.length<=6:=by rw[T.len];omega
 have hNe:(Ds++[[]]).length<=6:=by rw[List.length_append];exact hN
 obtain⟨x,hx⟩:∃x,x=L1 (AE w Ds st):=⟨_,rfl⟩
 have dx:decide (x=x)=true:=decide_eq_true rfl
 obtain⟨Ga,la,ea⟩:=yn (st:=st) hf (by omega) hs ok h5
 rw[<-hx]at ea
 obtain⟨Sa,hSa⟩:∃Sa,Sa=S++Ga:=⟨_,rfl⟩
 rw[<-hSa]at ea
 have pa:∃X,Sa=S++X:=⟨_,hSa⟩
 clear hSa
 unfold Lu
 cases hk:oY w Ds st with
 |none=>
  obtain⟨Gb,lb,eb⟩:=qL (st:=st) hf (by omega) hs ok (cm pa h5) hk
  obtain⟨Sb,hSb⟩:∃Sb,Sb=Sa++Gb:=⟨_,rfl⟩
  rw[<-hSb]at eb
  have pb:=kO pa ⟨_,hSb⟩
  clear hSb
  obtain⟨Sc,hSc⟩:∃Sc,Sc=Sb++[O.lst [.tup [.str x,.ref la],.tup [.str "free",.ref lb]]]:=⟨_,rfl⟩
  have pc:=kO pb ⟨_,hSc⟩
  obtain⟨lc,hlc⟩:∃lc,lc=Sb.length:=⟨_,rfl⟩
  have gc:Sc[lc]?=some (.lst [.tup [.str x,.ref la],.tup [.str "free",.ref lb]]):=by rw[hSc,hlc,ga0];rfl
  have s1:bJ 10 (iH (ae (cCB (cL (ba cD)) (ae (ak 2) (ae (ak 4) (ae (ak 5) ax)))) (ae (cCB (e8 (ba cD)) (ae (ak 2) (ae (ak 4) (ae (ak 5) ax)))) ax))) [none,some (.ref 1),some (.tup [.int n,.int w]),x3,some (.tup (st.map U.int)),some (.ref ld),x6,some (.tup (st'.map U.int)),some (.ref lo),some (.ref lt),r10,r11,r12] S=some (.nx,[none,some (.ref 1),some (.tup [.int n,.int w]),x3,some (.tup (st.map U.int)),some (.ref ld),x6,some (.tup (st'.map U.int)),some (.ref lo),some (.ref lt),some (.ref lc),r11,r12],Sc):=by
   rw[hSc,hlc]
   rwa[ea,eb]
  clear hSc hlc
  rw[jg s1]
  obtain⟨Gd,l2,ed⟩:=yn (st:=st') hf hN' hs' ok' (cm pc h9)
  rw[t8 T hm (by omega),<-hx]at ed
  obtain⟨Sd,hSd⟩:∃Sd,Sd=Sc++Gd:=⟨_,rfl⟩
  rw[<-hSd]at ed
  have pcd:∃X,Sd=Sc++X:=⟨_,hSd⟩
  have pd:=kO pc pcd
  clear hSd
  have gd:=cm pcd gc
  obtain⟨Ge,l3,ee⟩:=qL (st:=st') hf hN' hs' ok' (cm pd h9) (by rw[tP T hm (by omega)];exact hk)
  obtain⟨Se,hSe⟩:∃Se,Se=Sd++Ge:=⟨_,rfl⟩
  rw[<-hSe]at ee
  have pde:∃X,Se=Sd++X:=⟨_,hSe⟩
  have pe:=kO pd pde
  clear hSe
  have ge:=cm pde gd
  obtain⟨Sf,lf,ef,gf,pf⟩:=tU (cm pe h5) (by omega)
  have pef:=pf
  have pf:=kO pe pf
  obtain⟨Gg,l4,eg⟩:=yn (st:=st) hf hNe hs (sS ok) gf
  rw[yp hN,<-hx]at eg
  obtain⟨Sg,hSg⟩:∃Sg,Sg=Sf++Gg:=⟨_,rfl⟩
  rw[<-hSg]at eg
  have pfg:∃X,Sg=Sf++X:=⟨_,hSg⟩
  have pg:=kO pf pfg
  have gg:=cm (kO pef pfg) ge
  clear hSg
  obtain⟨Sh,lh,eh,gh,ph⟩:=tU (cm pg h5) (by omega)
  have pgh:=ph
  have ph:=kO pg ph
  obtain⟨Gi,l5,ei⟩:=qL (st:=st) hf hNe hs (sS ok) gh (by rw[xw hN,hk];rfl)
  obtain⟨Si,hSi⟩:∃Si,Si=Sh++Gi:=⟨_,rfl⟩
  rw[<-hSi]at ei
  have phi:∃X,Si=Sh++X:=⟨_,hSi⟩
  have pi:=kO ph phi
  have gi:=cm (kO pgh phi) gg
  clear hSi
  refine⟨Si,some (.ref lc),some (.tup [.str "free",.ref l5]),r12,?_,pi⟩
  rwa[dx,ed,gd,ee,ge,J3,J2,ef,eg,gg,eh,ei,gi]
 |some k=>
  obtain⟨Gb,lb,q,hq,lq,eb,gb⟩:=qK (st:=st) hf (by omega) hs ok (cm pa h5) hk
  obtain⟨Sb,hSb⟩:∃Sb,Sb=Sa++Gb:=⟨_,rfl⟩
  rw[<-hSb]at eb gb
  have pb:=kO pa ⟨_,hSb⟩
  clear hSb
  obtain⟨Sc,hSc⟩:∃Sc,Sc=Sb++[O.lst [.tup [.str x,.ref la],.tup [.str "stuck",.ref lb]]]:=⟨_,rfl⟩
  have pbc:∃X,Sc=Sb++X:=⟨_,hSc⟩
  have pc:=kO pb pbc
  have bc:=cm pbc gb
  obtain⟨lc,hlc⟩:∃lc,lc=Sb.length:=⟨_,rfl⟩
  have gc:Sc[lc]?=some (.lst [.tup [.str x,.ref la],.tup [.str "stuck",.ref lb]]):=by rw[hSc,hlc,ga0];rfl
  have s1:bJ 10 (iH (ae (cCB (cL (ba cD)) (ae (ak 2) (ae (ak 4) (ae (ak 5) ax)))) (ae (cCB (e8 (ba cD)) (ae (ak 2) (ae (ak 4) (ae (ak 5) ax)))) ax))) [none,some (.ref 1),some (.tup [.int n,.int w]),x3,some (.tup (st.map U.int)),some (.ref ld),x6,some (.tup (st'.map U.int)),some (.ref lo),some (.ref lt),r10,r11,r12] S=some (.nx,[none,some (.ref 1),some (.tup [.int n,.int w]),x3,some (.tup (st.map U.int)),some (.ref ld),x6,some (.tup (st'.map U.int)),some (.ref lo),some (.ref lt),some (.ref lc),r11,r12],Sc):=by
   rw[hSc,hlc]
   rwa[ea,eb]
  clear hSc hlc
  rw[jg s1]
  obtain⟨Gd,l2,ed⟩:=yn (st:=st') hf hN' hs' ok' (cm pc h9)
  rw[t8 T hm (by omega),<-hx]at ed
  obtain⟨Sd,hSd⟩:∃Sd,Sd=Sc++Gd:=⟨_,rfl⟩
  rw[<-hSd]at ed
  have pcd:∃X,Sd=Sc++X:=⟨_,hSd⟩
  have pd:=kO pc pcd
  clear hSd
  have gd:=cm pcd gc
  obtain⟨Ge,l3,q',hq',lq',ee,he⟩:=qK (st:=st') hf hN' hs' ok' (cm pd h9) (by rw[tP T hm (by omega)];exact hk)
  obtain⟨Se,hSe⟩:∃Se,Se=Sd++Ge:=⟨_,rfl⟩
  rw[<-hSe]at ee he
  have pde:∃X,Se=Sd++X:=⟨_,hSe⟩
  have pe:=kO pd pde
  clear hSe
  have ge:=cm pde gd
  have be:=cm (kO pcd pde) bc
  obtain⟨row,Gr,lr,er,er2⟩:=FK (cD:=cD) hns n0 n1 w0 (by omega) ok hs T hm ho hq' (cm pe h5) (cm pe h8) he
  obtain⟨Sr,hSr⟩:∃Sr,Sr=Se++[O.lst row]:=⟨_,rfl⟩
  have s12:∀{r11:Option U},bJ 12 (gH (iTp (cOp fIx (ak 11) (cC (.int 1)))) (gNm 0) (cOp fIx (ak 1) (ak 0)) 1 [8]) [none,some (.ref 1),some (.tup [.int n,.int w]),x3,some (.tup (st.map U.int)),some (.ref ld),x6,some (.tup (st'.map U.int)),some (.ref lo),some (.ref lt),some (.ref lc),some (.tup [.str "stuck",.ref l3]),r12] Se=some (.nx,[none,some (.ref 1),some (.tup [.int n,.int w]),x3,some (.tup (st.map U.int)),some (.ref ld),x6,some (.tup (st'.map U.int)),some (.ref lo),some (.ref lt),some (.ref lc),some (.tup [.str "stuck",.ref l3]),some (.ref Se.length)],Sr):=by
   intro _
   have es:sC (.ref l3) Se=some (q'.2.map U.int,fun S=>S[l3]?=some (.lst (q'.2.map U.int))):=by simp only[sC,he]
   have ei:iTp (cOp fIx (ak 11) (cC (.int 1))) [none,some (.ref 1),some (.tup [.int n,.int w]),x3,some (.tup (st.map U.int)),some (.ref ld),x6,some (.tup (st'.map U.int)),some (.ref lo),some (.ref lt),some (.ref lc),some (.tup [.str "stuck",.ref l3]),r12] Se=some (q'.2.map U.int,fun S=>S[l3]?=some (.lst (q'.2.map U.int)),Se):=by
    unfold iTp
    rwa[es,he]
   have ec:gH (iTp (cOp fIx (ak 11) (cC (.int 1)))) (gNm 0) (cOp fIx (ak 1) (ak 0)) 1 [8] [none,some (.ref 1),some (.tup [.int n,.int w]),x3,some (.tup (st.map U.int)),some (.ref ld),x6,some (.tup (st'.map U.int)),some (.ref lo),some (.ref lt),some (.ref lc),some (.tup [.str "stuck",.ref l3]),r12] Se=some (.ref Se.length,Sr):=by
    unfold gH
    rw[ei,Option.bind_some]
    have hrho:qQ 1 [8] [none,some (.ref 1),some (.tup [.int n,.int w]),x3,some (.tup (st.map U.int)),some (.ref ld),x6,some (.tup (st'.map U.int)),some (.ref lo),some (.ref lt),some (.ref lc),some (.tup [.str "stuck",.ref l3]),r12]=[none,some (.ref lo)]:=rfl
    dsimp only
    rw[hrho,er,Option.bind_some,hSr]
   rw[qC,ec]
   rfl
  rw[<-hSr]at er2
  have per:∃X,Sr=Se++X:=⟨_,hSr⟩
  clear hSr
  obtain⟨N,hNn⟩:∃N,N=Se.length:=⟨_,rfl⟩
  rw[<-hNn]at er2 s12
  clear hNn er
  obtain⟨Ss,hSs⟩:∃Ss,Ss=Sr++Gr:=⟨_,rfl⟩
  rw[<-hSs]at er2
  have pes:=kO per ⟨_,hSs⟩
  have ps:=kO pe pes
  have gs':=cm pes ge
  have bs':=cm pes be
  clear hSs
  obtain⟨Sf,lf,ef,gf,pf⟩:=tU (cm ps h5) (by omega)
  have pef:=pf
  have pf:=kO ps pf
  obtain⟨Gg,l4,eg⟩:=yn (st:=st) hf hNe hs (sS ok) gf
  rw[yp hN,<-hx]at eg
  obtain⟨Sg,hSg⟩:∃Sg,Sg=Sf++Gg:=⟨_,rfl⟩
  rw[<-hSg]at eg
  have pfg:∃X,Sg=Sf++X:=⟨_,hSg⟩
  have pg:=kO pf pfg
  have gg:=cm (kO pef pfg) gs'
  have bg:=cm (kO pef pfg) bs'
  clear hSg
  obtain⟨Sh,lh,eh,gh,ph⟩:=tU (cm pg h5) (by omega)
  have pgh:=ph
  have ph:=kO pg ph
  obtain⟨Gi,l5,q'',hq'',lq'',ei,hi⟩:=qK (st:=st) (k:=k+1) hf hNe hs (sS ok) gh (by rw[xw hN,hk];rfl)
  obtain⟨Si,hSi⟩:∃Si,Si=Sh++Gi:=⟨_,rfl⟩
  rw[<-hSi]at ei hi
  have phi:∃X,Si=Sh++X:=⟨_,hSi⟩
  have pi:=kO ph phi
  have gi:=cm (kO pgh phi) gg
  have bi:=cm (kO pgh phi) bg
  clear hSi
  have d1:decide (((q'.2.map U.int).length:Int)=((q.2.map U.int).length:Int))=true:=decide_eq_true (by rw[List.length_map,List.length_map,lq,lq'])
  have d2:decide (((q''.2.map U.int).length:Int)=((q.2.map U.int).length:Int)+1)=true:=decide_eq_true (by rw[List.length_map,List.length_map,lq,lq''];omega)
  refine⟨Si,some (.ref lc),some (.tup [.str "stuck",.ref l5]),some (.ref N),?_,pi⟩
  have i2:dF (aH (cOp fNe (cOp fIx (cCB (cL (ba cD)) (ae (ak 2) (ae (ak 7) (ae (ak 9) ax)))) (cC (.int 0))) (cOp fIx (cOp fIx (ak 10) (cC (.int 0))) (cC (.int 0))))) (dU (cC (.bl false))) bU [none,some (.ref 1),some (.tup [.int n,.int w]),x3,some (.tup (st.map U.int)),some (.ref ld),x6,some (.tup (st'.map U.int)),some (.ref lo),some (.ref lt),some (.ref lc),r11,r12] Sc=some (.nx,[none,some (.ref 1),some (.tup [.int n,.int w]),x3,some (.tup (st.map U.int)),some (.ref ld),x6,some (.tup (st'.map U.int)),some (.ref lo),some (.ref lt),some (.ref lc),r11,r12],Sd):=by rwa[dx,ed,gd]
  rw[jg i2]
  rw[jg (ρ':=[none,some (.ref 1),some (.tup [.int n,.int w]),x3,some (.tup (st.map U.int)),some (.ref ld),x6,some (.tup (st'.map U.int)),some (.ref lo),some (.ref lt),some (.ref lc),some (.tup [.str "stuck",.ref l3]),r12]) (S':=Se) (by rwa[ee])]
  rw[jg (ρ':=[none,some (.ref 1),some (.tup [.int n,.int w]),x3,some (.tup (st.map U.int)),some (.ref ld),x6,some (.tup (st'.map U.int)),some (.ref lo),some (.ref lt),some (.ref lc),some (.tup [.str "stuck",.ref l3]),r12]) (S':=Se) (by rwa[CD,ge,he,be,d1])]
  rw[jg (ρ':=[none,some (.ref 1),some (.tup [.int n,.int w]),x3,some (.tup (st.map U.int)),some (.ref ld),x6,some (.tup (st'.map U.int)),some (.ref lo),some (.ref lt),some (.ref lc),some (.tup [.str "stuck",.ref l3]),some (.ref N)]) (S':=Ss) (by
   rw[BK]
   have t:aH (cOp fEq (cOp fIx (ak 11) (cC (.int 0))) (cC (.str "stuck"))) [none,some (.ref 1),some (.tup [.int n,.int w]),x3,some (.tup (st.map U.int)),some (.ref ld),x6,some (.tup (st'.map U.int)),some (.ref lo),some (.ref lt),some (.ref lc),some (.tup [.str "stuck",.ref l3]),r12] Se=some (true,Se):=by rwa[CD]
   rw[t,Option.bind_some]
   rw[AN]
   rw[jg (s12 (r11:=none))]
   rwa[er2,CF])]
  rwa[dx,CD,ef,eg,gg,eh,ei,gi,bi,hi,d2]
theorem vC(hns:cD.ns.length=4)(ns:List Int)(n0:1<=n)(n1:n<=6)(w0:2<=w)(w1:w<=1000)(T:Sto){a c:Int}(u:U)(r4 r5 r6 r7 r8 r9 r10 r11 r12:Option U)(ha:0<=a)(hc:0<=c) :
  ∃a' c' T' q4 q5 q6 q7 q8 q9 q10 q11 q12,fL cD jY [none,some (.ref 1),some (.tup [.int n,.int w]),some u,r4,r5,r6,r7,r8,r9,r10,r11,r12] (scr ns::pen a c::T)=some (.nx,[none,some (.ref 1),some (.tup [.int n,.int w]),some u,q4,q5,q6,q7,q8,q9,q10,q11,q12],scr ns::pen a' c'::T')/\0<=a'/\0<=c':=by
 obtain⟨st,a1,c1,G1,e1,hs,ha1,hc1⟩:=HC ns T ha hc n0 n1 w0 w1
 obtain⟨Ds,a2,c2,G2,e2,hN,ok,ha2,hc2⟩:=y9 ns (T++G1) (y:=5) (by omega) (by omega) ha1 hc1 n0 n1 w0 w1
 obtain⟨T2,hT2⟩:∃T2,T2=T++G1++.lst (Ds.map dlU)::G2:=⟨_,rfl⟩
 obtain⟨ld,hld⟩:∃ld,ld=(T++G1).length+1+1:=⟨_,rfl⟩
 have g2:∀x y:O,(x::y::T2)[ld]?=some (.lst (Ds.map dlU)):=fun x y=>by
  rw[hT2,hld]
  simp only[List.getElem?_cons_succ]
  rw[ga0];rfl
 rw[<-hT2,<-hld]at e2
 clear hT2 hld
 obtain⟨bs,a3,c3,e3,pb,ha3,hc3⟩:=vN ns T2 (m:=n) (by omega) (by omega) ha2 hc2
 have hb:Ord n bs:=Ord.of (by omega) pb
 obtain⟨T3,hT3⟩:∃T3,T3=T2++[.lst [],.lst (bs.map U.int)]:=⟨_,rfl⟩
 obtain⟨lb,hlb⟩:∃lb,lb=T2.length+1+1+1:=⟨_,rfl⟩
 rw[<-hT3,<-hlb]at e3
 have g3:∀x y:O,(x::y::T3)[lb]?=some (.lst (bs.map U.int)):=fun x y=>by
  rw[hT3,hlb]
  simp only[List.getElem?_cons_succ]
  rw[ga];rfl
 have g23:∀x y:O,(x::y::T3)[ld]?=some (.lst (Ds.map dlU)):=fun x y=>by
  rw[hT3];exact aL (l:=x::y::T2) (g2 x y)
 clear hT3 hlb
 have lbs:bs.length<=900:=by rw[hb.len];omega
 obtain⟨mv,hmv⟩:∃mv,mv=(List.range n.toNat).map fun c:Nat=>st.getD (bs.idxOf (c:Int)) 0:=⟨_,rfl⟩
 have hM:Mv (gu n bs) n st mv:=by rw[hmv];exact Ku hb hs
 have e4:=sU (s:=st) (S:=scr ns::pen a3 c3::T3) hb (g3 _ _) hs lbs (List.range n.toNat) none [] (fun c hc=>by have:=List.mem_range.mp hc;omega) (by rw[List.length_nil,List.length_range];omega)
 rw[List.nil_append,<-hmv]at e4
 clear hmv
 obtain⟨os,a5,c5,e5,po,ha5,hc5⟩:=vN ns (T3++[.lst (mv.map U.int)]) (m:=(Ds.length:Int)) (by omega) (by omega) ha3 hc3
 have ho:Ord (Ds.length:Int) os:=Ord.of (by omega) po
 obtain⟨T5,hT5⟩:∃T5,T5=(T3++[.lst (mv.map U.int)])++[.lst [],.lst (os.map U.int)]:=⟨_,rfl⟩
 obtain⟨lo,hlo⟩:∃lo,lo=(T3++[O.lst (mv.map U.int)]).length+1+1+1:=⟨_,rfl⟩
 rw[<-hT5,<-hlo]at e5
 have g5:(scr ns::pen a5 c5::T5)[lo]?=some (.lst (os.map U.int)):=by
  rw[hT5,hlo]
  simp only[List.getElem?_cons_succ]
  rw[ga];rfl
 have g25:(scr ns::pen a5 c5::T5)[ld]?=some (.lst (Ds.map dlU)):=by
  rw[hT5,List.append_assoc];exact aL (l:=scr ns::pen a5 c5::T3) (g23 _ _)
 have g35:(scr ns::pen a5 c5::T5)[lb]?=some (.lst (bs.map U.int)):=by
  rw[hT5,List.append_assoc];exact aL (l:=scr ns::pen a5 c5::T3) (g3 _ _)
 clear hT5 hlo
 obtain⟨S5,hS5⟩:∃S5,S5=scr ns::pen a5 c5::T5:=⟨_,rfl⟩
 rw[<-hS5]at e5 g5 g25 g35
 obtain⟨G6,e6⟩:=sP (S:=S5) (lb:=lb) (ld:=ld) (lo:=lo) (us:=os.map U.int) hb.len ok os none [] [] (fun o h=>(ho.mem o).mp h) (by rw[List.length_nil,ho.len];omega) g35 g25 g5
 obtain⟨Es,hEs⟩:∃Es,Es=os.map fun o=>mvL (gu n bs) 2 (Ds.getD o.toNat []):=⟨_,rfl⟩
 rw[List.nil_append,<-hEs]at e6
 have lE:Es.length=Ds.length:=by rw[hEs,List.length_map,ho.len,Int.toNat_natCast]
 have hT:rT (gu n bs) (lj (Ds.length:Int) os) n w Ds Es:=Cr hb ho ok lE fun k hk=>by
  have h:k<os.length:=by rw[ho.len];omega
  rw[hEs,List.getD_eq_getElem?_getD,List.getElem?_map,List.getElem?_eq_getElem h,List.getD_eq_getElem?_getD (l:=os),List.getElem?_eq_getElem h]
  rfl
 have ok':∀d∈Es,OkL n w 2 d:=fun d hd=>by
  rw[hEs]at hd
  obtain⟨o,hm,rfl⟩:=List.mem_map.mp hd
  obtain⟨o0,o1⟩:=(ho.mem o).mp hm
  exact wM (fun b b0 b1=>hb.rng b0 b1) 2 _ (D1 ok o0 o1)
 clear hEs
 obtain⟨lt,hlt⟩:∃lt,lt=S5.length:=⟨_,rfl⟩
 obtain⟨S6,hS6⟩:∃S6,S6=S5++(O.lst (Es.map dlU)::G6):=⟨_,rfl⟩
 have g6:S6[lt]?=some (.lst (Es.map dlU)):=by rw[hS6,hlt,ga0];rfl
 have p6:∃X,S6=S5++X:=⟨_,hS6⟩
 obtain⟨Y,q10,q11,q12,e7,p7⟩:=Ft (cD:=cD) (S:=S6) (x3:=some u) (x6:=some (.ref lb)) (r10:=r10) (r11:=r11) (r12:=r12) hns n0 n1 w0 (by omega) ok ok' hs hM.l2 hT hM ho (cm p6 g25) (cm p6 g5) g6
 obtain⟨X,hX⟩:=kO p6 p7
 rw[hS5]at hX
 refine⟨a5,c5,T5++X,some (.tup (st.map U.int)),some (.ref ld),some (.ref lb),some (.tup (mv.map U.int)),some (.ref lo),some (.ref lt),q10,q11,q12,?_,ha5,hc5⟩
 have eY:scr ns::pen a5 c5::(T5++X)=Y:=hX.symm
 rw[eY]
 show jY jZ yu qx qy (uW 3) (e8 (ba cD)) (cL (ba cD)) (rX cD) _ _=_
 unfold jY
 rw[jg (ρ':=[none,some (.ref 1),some (.tup [.int n,.int w]),some u,some (.tup (st.map U.int)),r5,r6,r7,r8,r9,r10,r11,r12]) (S':=scr ns::pen a1 c1::(T++G1)) (by rwa[e1])]
 rw[jg (ρ':=[none,some (.ref 1),some (.tup [.int n,.int w]),some u,some (.tup (st.map U.int)),some (.ref ld),r6,r7,r8,r9,r10,r11,r12]) (S':=scr ns::pen a2 c2::T2) (by rwa[e2])]
 rw[jg (ρ':=[none,some (.ref 1),some (.tup [.int n,.int w]),some u,some (.tup (st.map U.int)),some (.ref ld),some (.ref lb),r7,r8,r9,r10,r11,r12]) (S':=scr ns::pen a3 c3::T3) (by rwa[e3])]
 have hr:-(2^62)<=n/\n<2^62:=by omega
 have i4:cN (ae (cOp fIx (ak 2) (cC (.int 0))) ax) [none,some (.ref 1),some (.tup [.int n,.int w]),some u,some (.tup (st.map U.int)),some (.ref ld),some (.ref lb),r7,r8,r9,r10,r11,r12] (scr ns::pen a3 c3::T3)=some (cP 0 n.toNat,fun _=>True,scr ns::pen a3 c3::T3):=by
  rwa[cN,hr,if_true,and_self]
 obtain⟨S3,hS3⟩:∃S3,S3=scr ns::pen a3 c3::T3:=⟨_,rfl⟩
 have eS3:scr ns::pen a3 c3::(T3++[.lst (mv.map U.int)])=S3++[.lst (mv.map U.int)]:=by rw[hS3];rfl
 rw[eS3]at e5
 rw[<-hS3]at i4 e4
 have c4:gH (cN (ae (cOp fIx (ak 2) (cC (.int 0))) ax)) (gNm 0) (cOp fIx (ak 1) (cBM jw (ak 2) (ae (ak 0) ax))) 1 [4,6] [none,some (.ref 1),some (.tup [.int n,.int w]),some u,some (.tup (st.map U.int)),some (.ref ld),some (.ref lb),r7,r8,r9,r10,r11,r12] S3=some (.ref S3.length,S3++[.lst (mv.map U.int)]):=by
  unfold gH
  rw[i4,Option.bind_some]
  have hrho:qQ 1 [4,6] [none,some (.ref 1),some (.tup [.int n,.int w]),some u,some (.tup (st.map U.int)),some (.ref ld),some (.ref lb),r7,r8,r9,r10,r11,r12]=[none,some (.tup (st.map U.int)),some (.ref lb)]:=rfl
  dsimp only
  rw[hrho]
  have e4':gj (fun _=>True) (gNm 0) (cOp fIx (ak 1) (cBM jw (ak 2) (ae (ak 0) ax))) S3.length (cP 0 n.toNat) [none,some (.tup (st.map U.int)),some (.ref lb)] (S3++[.lst []])=_:=e4
  rw[e4',Option.bind_some]
 have gm:(S3++[O.lst (mv.map U.int)])[S3.length]?=some (.lst (mv.map U.int)):=by rw[ga0];rfl
 have t4:fe [.ref S3.length] (S3++[.lst (mv.map U.int)])=some (.tup (mv.map U.int),S3++[.lst (mv.map U.int)]):=by simp only[fe,gm]
 rw[<-hS3]
 rw[jg (ρ':=[none,some (.ref 1),some (.tup [.int n,.int w]),some u,some (.tup (st.map U.int)),some (.ref ld),some (.ref lb),some (.tup (mv.map U.int)),r8,r9,r10,r11,r12]) (S':=S3++[.lst (mv.map U.int)]) (by
  rw[qC,Ik,vc,c4,Option.bind_some,qF,BA,Option.bind_some,qE,Option.bind_some,yC,t4]
  rfl)]
 have g24:(S3++[O.lst (mv.map U.int)])[ld]?=some (.lst (Ds.map dlU)):=by rw[hS3];exact aL (g23 _ _)
 have ll:((Ds.map dlU).length:Int)=(Ds.length:Int):=by rw[List.length_map]
 obtain⟨S4,hS4⟩:∃S4,S4=S3++[O.lst (mv.map U.int)]:=⟨_,rfl⟩
 rw[<-hS4]at e5 g24 ⊢
 rw[jg (ρ':=[none,some (.ref 1),some (.tup [.int n,.int w]),some u,some (.tup (st.map U.int)),some (.ref ld),some (.ref lb),some (.tup (mv.map U.int)),some (.ref lo),r9,r10,r11,r12]) (S':=S5) (by rwa[g24,ll,e5])]
 have es:sC (.ref lo) S5=some (os.map U.int,fun S=>S[lo]?=some (.lst (os.map U.int))):=by simp only[sC,g5]
 have i6:iTp (ak 8) [none,some (.ref 1),some (.tup [.int n,.int w]),some u,some (.tup (st.map U.int)),some (.ref ld),some (.ref lb),some (.tup (mv.map U.int)),some (.ref lo),r9,r10,r11,r12] S5=some (os.map U.int,fun S=>S[lo]?=some (.lst (os.map U.int)),S5):=by
  unfold iTp
  rwa[es,g5]
 have c6:gH (iTp (ak 8)) (gNm 0) (cCB (uW 3) (ae (cOp fIx (ak 2) (ak 0)) (ae (ak 1) ax))) 1 [6,5] [none,some (.ref 1),some (.tup [.int n,.int w]),some u,some (.tup (st.map U.int)),some (.ref ld),some (.ref lb),some (.tup (mv.map U.int)),some (.ref lo),r9,r10,r11,r12] S5=some (.ref lt,S6):=by
  unfold gH
  rw[i6,Option.bind_some]
  have hrho:qQ 1 [6,5] [none,some (.ref 1),some (.tup [.int n,.int w]),some u,some (.tup (st.map U.int)),some (.ref ld),some (.ref lb),some (.tup (mv.map U.int)),some (.ref lo),r9,r10,r11,r12]=[none,some (.ref lb),some (.ref ld)]:=rfl
  dsimp only
  rw[hrho]
  have e6':gj (fun S=>S[lo]?=some (.lst (os.map U.int))) (gNm 0) (cCB (uW 3) (ae (cOp fIx (ak 2) (ak 0)) (ae (ak 1) ax))) S5.length (os.map U.int) [none,some (.ref lb),some (.ref ld)] (S5++[.lst []])=_:=e6
  rw[e6',Option.bind_some,hlt,hS6]
 rw[jg (ρ':=[none,some (.ref 1),some (.tup [.int n,.int w]),some u,some (.tup (st.map U.int)),some (.ref ld),some (.ref lb),some (.tup (mv.map U.int)),some (.ref lo),some (.ref lt),r10,r11,r12]) (S':=S6) (by rw[qC,c6];rfl)]
 exact e7
theorem pB(hns:cD.ns.length=4)(ns:List Int)(n0:1<=n)(n1:n<=6)(w0:2<=w)(w1:w<=1000):∀(us:List U) (T:Sto) (a c:Int) (r3 r4 r5 r6 r7 r8 r9 r10 r11 r12:Option U),0<=a->0<=c->
  ∃ρ S',cy (fun _=>True) (gNm 3) (fL cD jY) us [none,some (.ref 1),some (.tup [.int n,.int w]),r3,r4,r5,r6,r7,r8,r9,r10,r11,r12] (scr ns::pen a c::T)=some (.nx,ρ,S')
 |[],T,a,c,r3,r4,r5,r6,r7,r8,r9,r10,r11,r12,_,_=>⟨_,_,eE trivial⟩
 |u::us,T,a,c,r3,r4,r5,r6,r7,r8,r9,r10,r11,r12,ha,hc=>by
  obtain⟨a',c',T',q4,q5,q6,q7,q8,q9,q10,q11,q12,e,ha',hc'⟩:=vC (cD:=cD) hns ns n0 n1 w0 w1 T u r4 r5 r6 r7 r8 r9 r10 r11 r12 ha hc
  obtain⟨ρ',S',ih⟩:=pB hns ns n0 n1 w0 w1 us T' a' c' (some u) q4 q5 q6 q7 q8 q9 q10 q11 q12 ha' hc'
  exact⟨ρ',S',(cB trivial rfl e).trans ih⟩
theorem GK{cD:Cl}(hns:cD.ns.length=4)(ns:List Int)(a c:Int)(ha:0<=a)(hc:0<=c):∃ρ' S',(fL cD yc) [none,some (.ref 1),none,none,none,none,none,none,none,none,none,none,none] [.lst (ns.map U.int),.lst [.ref 0,.int a,.int c]]=some (.rt (.bl true),ρ',S'):=by
 obtain⟨n,w,a1,c1,G,e1,n0,n1,w0,w1,ha1,hc1⟩:=yP ns [] ha hc
 obtain⟨ρ,S',e6⟩:=pB (cD:=cD) hns ns n0 n1 w0 w1 (cP 0 2) ([]++G) a1 c1 none none none none none none none none none none ha1 hc1
 refine⟨ρ,S',?_⟩
 have s2:bJ 2 (cCB jZ (ae (ak 1) ax)) [none,some (.ref 1),none,none,none,none,none,none,none,none,none,none,none] [scr ns,pen a c]=some (.nx,[none,some (.ref 1),some (.tup [.int n,.int w]),none,none,none,none,none,none,none,none,none,none],scr ns::pen a1 c1::([]++G)):=by rwa[e1]
 have r2:cN (ae (cC (.int 2)) ax)=fun ρ S=>some (cP 0 2,fun _=>True,S):=rfl
 have e7:lB (cN (ae (cC (.int 2)) ax)) (gNm 3) (fL cD jY) [none,some (.ref 1),some (.tup [.int n,.int w]),none,none,none,none,none,none,none,none,none,none] (scr ns::pen a1 c1::([]++G))=some (.nx,ρ,S'):=by
  rw[r2];exact e6
 show yc jZ yu qx qy (uW 3) (e8 (ba cD)) (cL (ba cD)) (rX cD) _ [scr ns,pen a c]=_
 unfold yc
 rw[jg s2,jg e7]
 rfl
end
section
variable{P:Program}{w:World}{K:PySem.W.Frag}{mg:Str->Option Value}{base:Heap}
theorem mh:aN ["script"] ["script"] (ay jK):=⟨rfl,rfl,rfl,by decide +kernel,rfl,by decide +kernel,by decide +kernel⟩
theorem DQ{k:Nat}(B:Blt mg)(d:Def K mg "_law_pen" jK ["script"]):Has P w K mg base "_law_pen" (k+1) ["script"] (AS K):=by
 refine d.has mh (fun vs H Q E h=>?_) (fun f cdv A outer s H vs Q E hr h=>?_)
 ·obtain⟨a,ns,rfl,_⟩:=h;rfl
 obtain⟨a,ns,rfl,hS,q⟩:=h
 have nd:=mh.nd
 refine⟨_,(se (vh (vm (gB (nz kM rfl B.list OG.ib (gB (o9 vM (wpv 0) sg (sf af)) lF)) (gB af (gB af lF)))))),?_⟩
 refine⟨_,rfl,_,rfl,a,_,rfl,hS,fun p hp=>⟨p,_,rfl,.inl (SqL.of aV),fun l hl=>⟨(by show 3<=sizeLine;decide),fun r hr'=>?_⟩⟩⟩
 obtain⟨ms,em⟩:∃ms:List Int,xT (ns.map V.int) none (some 63)=ms.map V.int:=⟨_,Av _ _ _⟩
 rw[em]at hl hr' ⊢
 refine q r l _ (((dJ hp _).trans (dJ hl _)).trans (dJ hr' _)) ⟨ms,0,0,aV,?_,cM aV hr',by decide,by decide⟩ ?_
 ·rw[bD (cM aV hr')];exact aV
 ·exact(((dJ hp _).trans (dJ hl _))).free hr'
end
theorem HW{l:PySem.W.OpenLaw}{w:World}{K:PySem.W.Frag}{h:Heap}{mg:Str->Option Value}{fa:Addr}(X:K.In h)(G:h.Ns mainGlobals mg)(hfa:mg "law"=some (.ref fa))
  {CDoing:Addr}
  (ds:Ib K [("_law_take",iV),("_law_world",gW),("_law_size",iW),("_law_plain_deed",dW),("_law_dealing",fR),("with_at",mi),("onwards",mj),("goes_through",fQ),("alone",qO),("in_row",oz),("_law_keen",iX),("_law_some_dealings",de),("_law_few_state",eW),("_law_moved",gX),("_law_shuffled",fk),("ways_from",iU),("rows_to_places",eV),("is_stuck",jI),("all_done",jJ),("stuck",qN),("_law_pen",jK),("law",CL)])
  (cl_Doing:Ih K "Doing" CDoing ["wheel","held","puts","part"] [("__init__","Doing.__init__",gY),("deed","Doing.deed",g8),("asks","Doing.asks",g9),("hold","Doing.hold",gZ),("part_behind","Doing.part_behind",dv),("go_behind","Doing.go_behind",dZ),("hear","Doing.hear",g7),("enter_try","Doing.enter_try",d3),("goes_back","Doing.goes_back",dY),("do_deed","Doing.do_deed",fq),("put_pairs","Doing.put_pairs",dX)])
  (zs:IG K L0) :
  ∃fd:FuncData,(∀(s:Shared) (v:Value),BindsTo s fd ⟨[v],[]⟩ [("script",v)])/\∀base:Heap,K.In base->base.Ns mainGlobals mg->kT l.prog w K mg base CX0 9 fa fd ["script"] (y6 K):=by
 obtain⟨d__law_take,d__law_world,d__law_size,d__law_plain_deed,d__law_dealing,d_with_at,d_onwards,d_goes_through,d_alone,d_in_row,d__law_keen,d__law_some_dealings,d__law_few_state,d__law_moved,d__law_shuffled,d_ways_from,d_rows_to_places,d_is_stuck,d_all_done,d_stuck,d__law_pen,d_law,-⟩:=ds
 obtain⟨m_Doing_init,m_Doing_deed,m_Doing_asks,m_Doing_hold,m_Doing_part_behind,m_Doing_go_behind,m_Doing_hear,m_Doing_enter_try,m_Doing_goes_back,m_Doing_do_deed,m_Doing_put_pairs,-⟩:=cl_Doing.ms
 have TDoing:=cl_Doing.tc
 have B:=zs.blt X G
 refine GL d_law X G hfa fun fd F_law base=>?_
 have Gp:=DQ (P:=l.prog) (w:=w) (base:=base) (k:=0) B (d__law_pen.df X G)
 have aw:=rB (P:=l.prog) (w:=w) (base:=base) (k:=0) (d__law_take.df X G) B 
 have iq:=p9 (P:=l.prog) (w:=w) (base:=base) (k:=1) (d__law_world.df X G) B aw
 have kS:c8 l.prog w K mg base "_law_size" 1 ["dealing"] (uU 0):=iZ (P:=l.prog) (w:=w) (base:=base) (k:=0) (d__law_size.df X G) B ((d__law_size.df X G (ps:=["dealing"])).no)
 have kR:c8 l.prog w K mg base "_law_size" 2 ["dealing"] (uU 1):=iZ (P:=l.prog) (w:=w) (base:=base) (k:=1) (d__law_size.df X G) B kS
 have qB:c8 l.prog w K mg base "_law_size" 3 ["dealing"] (uU 2):=iZ (P:=l.prog) (w:=w) (base:=base) (k:=2) (d__law_size.df X G) B kR
 have bP:=jM (P:=l.prog) (w:=w) (base:=base) (k:=1) (d__law_plain_deed.df X G) B aw
 have mZ:c8 l.prog w K mg base "_law_dealing" 3 ["pen","world","room","tries"] (oX 0):=eF (P:=l.prog) (w:=w) (base:=base) (k:=2) (d__law_dealing.df X G) B (Has.mono aw (by decide)) bP ((d__law_dealing.df X G (ps:=["pen","world","room","tries"])).no) ((d__law_size.df X G (ps:=["dealing"])).no)
 have mY:c8 l.prog w K mg base "_law_dealing" 4 ["pen","world","room","tries"] (oX 1):=eF (P:=l.prog) (w:=w) (base:=base) (k:=3) (d__law_dealing.df X G) B (Has.mono aw (by decide)) (Has.mono bP (by decide)) mZ (Has.mono kS (by decide))
 have mX:c8 l.prog w K mg base "_law_dealing" 5 ["pen","world","room","tries"] (oX 2):=eF (P:=l.prog) (w:=w) (base:=base) (k:=4) (d__law_dealing.df X G) B (Has.mono aw (by decide)) (Has.mono bP (by decide)) mY (Has.mono kR (by decide))
 have mW:c8 l.prog w K mg base "_law_dealing" 6 ["pen","world","room","tries"] (oX 3):=eF (P:=l.prog) (w:=w) (base:=base) (k:=5) (d__law_dealing.df X G) B (Has.mono aw (by decide)) (Has.mono bP (by decide)) mX (Has.mono qB (by decide))
 have gv:=xo (P:=l.prog) (w:=w) (base:=base) (k:=0) (d_with_at.df X G) B 
 have dn:=xp (P:=l.prog) (w:=w) (base:=base) (k:=0) (fuel:=100) (d_onwards.df X G) B 
 have M_Doing_deed:=qe (P:=l.prog) (w:=w) (base:=base) (k:=0) (m_Doing_deed.mt) B TDoing
 have M_Doing_asks:=qf (P:=l.prog) (w:=w) (base:=base) (k:=1) (m_Doing_asks.mt) B TDoing M_Doing_deed
 have M_Doing_hold:=qc (P:=l.prog) (w:=w) (base:=base) (k:=1) (m_Doing_hold.mt) B TDoing gv
 have M_Doing_part_behind:=i0 (P:=l.prog) (w:=w) (base:=base) (k:=0) (m_Doing_part_behind.mt) B TDoing
 have M_Doing_go_behind:=jP (P:=l.prog) (w:=w) (base:=base) (k:=1) (m_Doing_go_behind.mt) B TDoing dn M_Doing_part_behind
 have M_Doing_hear:=qd (P:=l.prog) (w:=w) (base:=base) (k:=2) (m_Doing_hear.mt) B TDoing M_Doing_hold (M_Doing_deed.mono (by decide)) M_Doing_go_behind
 have M_Doing_enter_try:=jQ (P:=l.prog) (w:=w) (base:=base) (k:=1) (m_Doing_enter_try.mt) B TDoing dn M_Doing_part_behind
 have M_Doing_goes_back:=jO (P:=l.prog) (w:=w) (base:=base) (k:=0) (m_Doing_goes_back.mt) B TDoing
 have M_Doing_do_deed:=mL (P:=l.prog) (w:=w) (base:=base) (k:=2) (m_Doing_do_deed.mt) B TDoing (Has.mono gv (by decide)) (M_Doing_deed.mono (by decide)) (M_Doing_goes_back.mono (by decide)) M_Doing_enter_try M_Doing_hold M_Doing_go_behind
 have M_Doing_put_pairs:=jN (P:=l.prog) (w:=w) (base:=base) (k:=0) (m_Doing_put_pairs.mt) B TDoing
 have M_Doing_init:=qb (P:=l.prog) (w:=w) (base:=base) (k:=1) (cl_Doing.mkd m_Doing_init X G) B TDoing dn
 have fV:=nh (P:=l.prog) (w:=w) (base:=base) (k:=3) (fuel:=20000000) (d_goes_through.df X G) B TDoing (M_Doing_deed.mono (by decide)) (M_Doing_asks.mono (by decide)) M_Doing_hear M_Doing_do_deed
 have j5:=DS (P:=l.prog) (w:=w) (base:=base) (k:=3) (d_alone.df X G) B TDoing fV (M_Doing_put_pairs.mono (by decide)) (M_Doing_init.mono (by decide))
 have oS:=Ab (P:=l.prog) (w:=w) (base:=base) (k:=5) (d_in_row.df X G) B j5
 have jc:=rC (P:=l.prog) (w:=w) (base:=base) (k:=1) (d__law_keen.df X G) B aw
 have dg:=iF (P:=l.prog) (w:=w) (base:=base) (k:=6) (d__law_some_dealings.df X G) B (Has.mono aw (by decide)) mW (Has.mono jc (by decide))
 have fb:=k7 (P:=l.prog) (w:=w) (base:=base) (k:=1) (d__law_few_state.df X G) B aw
 have oW:c8 l.prog w K mg base "_law_moved" 1 ["dealing","boxes"] (uW 0):=fM (P:=l.prog) (w:=w) (base:=base) (k:=0) (d__law_moved.df X G) B ((d__law_moved.df X G (ps:=["dealing","boxes"])).no)
 have oV:c8 l.prog w K mg base "_law_moved" 2 ["dealing","boxes"] (uW 1):=fM (P:=l.prog) (w:=w) (base:=base) (k:=1) (d__law_moved.df X G) B oW
 have oU:c8 l.prog w K mg base "_law_moved" 3 ["dealing","boxes"] (uW 2):=fM (P:=l.prog) (w:=w) (base:=base) (k:=2) (d__law_moved.df X G) B oV
 have oT:c8 l.prog w K mg base "_law_moved" 4 ["dealing","boxes"] (uW 3):=fM (P:=l.prog) (w:=w) (base:=base) (k:=3) (d__law_moved.df X G) B oU
 have dR:=mK (P:=l.prog) (w:=w) (base:=base) (k:=1) (d__law_shuffled.df X G) B aw
 have eB:=rA (P:=l.prog) (w:=w) (base:=base) (k:=5) (d_ways_from.df X G) B j5
 have bV:=kZ (P:=l.prog) (w:=w) (base:=base) (k:=6) (fuel:=3000) (d_rows_to_places.df X G) B eB
 have j4:=uE (P:=l.prog) (w:=w) (base:=base) (k:=6) (d_is_stuck.df X G) B eB
 have gx:=uF (P:=l.prog) (w:=w) (base:=base) (k:=7) (d_all_done.df X G) B bV
 have mV:=DR (P:=l.prog) (w:=w) (base:=base) (k:=7) (d_stuck.df X G) B bV j4
 exact Lc (P:=l.prog) (w:=w) (base:=base) (k:=8) F_law B (Has.mono Gp (by decide)) (Has.mono iq (by decide)) (Has.mono fb (by decide)) (Has.mono dg (by decide)) (Has.mono dR (by decide)) (Has.mono oT (by decide)) mV gx (Has.mono oS (by decide)) fun ns a c ha hc=>GK (cD:=⟨CDoing,_⟩) rfl ns a c ha hc
theorem My{l:PySem.W.OpenLaw}{q:Program}{loose:List Str}{XP:(Str->Option Value)->Heap->Prop}{YP:World->Heap->Prop}{d:DefRec}{K:Params->PySem.W.Frag}(hn:l.most=some 63)(hdf:d.params.defaults=[])
  (hY:∀(w:World) (h:Heap),YP w h->(K w.params).In h)
  (F:∀(w:World) (mg:Str->Option Value) (fa:Addr) (h:Heap),(K w.params).In h->h.Ns mainGlobals mg->mg d.name=some (.ref fa)->
   ∃fd:FuncData,(∀(s:Shared) (u:Value),BindsTo s fd ⟨[u],[]⟩ [("script",u)])/\∀base:Heap,(K w.params).In base->base.Ns mainGlobals mg->kT l.prog w (K w.params) mg base CX0 9 fa fd ["script"] (y6 (K w.params))) :
  PySem.W.WalkO q loose XP YP l.row.toRowW d [] (fun f vs=>PySem.call f vs):=
 L2.Cp (n:=63) (k:=9) (x:="script") (CX:=fun _=>CX0) (sp:=fun w=>y6 (K w.params)) hn (by decide) hdf ⟨rfl,by decide,by decide,rfl⟩ hY F (fun _ _ a ns hl _ hS=>⟨a,ns,rfl,hS,hl,fun _=>rfl⟩) fun _ _ _ _ _ z=>z
end OL
namespace PySem.W.Fast
def tw373981095865172400:=0
def tw17804379077906743098:=0
def tw8787753797993905567:=0
def tw18207741341428166024:=0
def tw5192880843887887691:=0
def tw7488454540845469632:=0
def tw5562547836044289550:=0
def tw3208146570567433215:=0
def tw8903699365891007571:=0
def tw15378238534500984822:=0
def tw11669745398023830408:=0
def tw4902098904974392714:=0
def tw7017857711986443857:=0
def tw831565957263095085:=0
def tw615443040625659812:=0
def tw262713451069226956:=0
def tw6654673855890584089:=0
def tw7575874000943792975:=0
def tw16669509339049667959:=0
def tw3916656982482652388:=0
def tw17735235180513247414:=0
def tw14118531433885393740:=0
def tw12799515933332110290:=0
def tw5520998247329548078:=0
def tw15731199997465551670:=0
def tw6001949812293004836:=0
def tw10533777205496395183:=0
def tw4199519840019159399:=0
def tw7009374415447482626:=0
def tw12024057474706109860:=0
def tw12699440998154446160:=0
def tw9123629573536038534:=0
def tw2673088476181859061:=0
def tw12802479071302545581:=0
def tw10255879426161364334:=0
def tw3350766244150047626:=0
def tw6482247387211674056:=0
def tw14187191191759457224:=0
def tw3807536569524353135:=0
def tw2861811347919084474:=0
def tw17275106356738170914:=0
def tw14191531022155833081:=0
def tw6968455306073238368:=0
def tw4366020775524766087:=0
def tw17797251629032451247:=0
def tw14685320172834323078:=0
def tw14969841746755783738:=0
def tw15089442664448626571:=0
def tw12415835323050680456:=0
def tw17318685769725964198:=0
def tw5964401446793362782:=0
def tw14987210511069997373:=0
def tw12925983259708996802:=0
def tw165891228714801469:=0
def tw11551999383824359058:=0
def tw16233569225780144964:=0
def tw13872417167107466619:=0
def tw4470468666692243908:=0
def tw937067448094957306:=0
def tw2736217160677190718:=0
def tw4224198599447767960:=0
def tw9723168582747187887:=0
def tw7561898472747700010:=0
def tw9147235271761744605:=0
def tw9352551173568607047:=0
def tw1877159795428287614:=0
def tw11607707676009555306:=0
def tw6344726596048579297:=0
def tw3921802544660244431:=0
def tw1936613901160560164:=0
def tw11933143165505112613:=0
def tw14569340463341250540:=0
def tw902231787942500690:=0
def tw84141920997923814:=0
def tw4531555111301699718:=0
def tw9384348352888255066:=0
def tw17699543811764823652:=0
def tw1113632273191404579:=0
def tw1833466014628683421:=0
def tw2606240333400875453:=0
def tw13533928980834778609:=0
def tw1473305647980097103:=0
def tw10082703953955866191:=0
def tw16525122818695895017:=0
def tw1168192386398852110:=0
def tw1609149996396686775:=0
def tw6616586009244975479:=0
def tw5018205732449314925:=0
def tw2200984243981675366:=0
def tw10773812544326515022:=0
def tw13962911435457830434:=0
def tw9228407846707115985:=0
def tw12657908058091769300:=0
def tw824813556169216059:=0
def tw16346988055759672162:=0
def tw713960959345942547:=0
def tw249690702823843484:=0
def tw16994424418199271933:=0
def tw14251374150246908162:=0
def tw18192058264369968291:=0
def tw15854585752798829955:=0
def tw15397865804235016086:=0
def tw3645616218951398230:=0
def tw8176174893382170370:=0
def tw16364640541472832588:=0
def tw17274062134586822127:=0
def tw1164446401542785700:=0
def tw8913172001479291785:=0
def tw4905445799464716911:=0
def tw1734016010315962422:=0
def tw8940503091940893336:=0
def tw1319401582570116813:=0
def tw11378145447513691626:=0
def tw8018168230500242170:=0
def tw1363022830627913361:=0
def tw18108564682797137869:=0
def tw9151869439044301852:=0
def tw16968372480499510310:=0
def tw11964112921402800650:=0
def tw12372005229711133944:=0
def tw17009494083012202261:=0
def tw12736098499110500045:=0
def tw7400994573402931434:=0
def tw6183769011398830279:=0
def tw14222420103709856982:=0
def tw17158125722852607494:=0
def tw5537328058962761209:=0
def tw17235812972323421109:=0
def tw12913949925158844342:=0
def tw16091009737955547454:=0
def tw17384890520104953915:=0
def tw2547810973525528656:=0
def tw12492362238870921090:=0
def tw12728433475026335475:=0
def tw9527970057211102431:=0
def tw7040324605493539177:=0
def tw1573979883543096815:=0
def tw4112340370293559939:=0
def tw18049428390531727637:=0
def tw14190290533681036017:=0
def tw1487096195772624074:=0
def tw14071201599674228470:=0
def tw15490447572776006284:=0
def tw2239819138441907236:=0
end PySem.W.Fast
open PySem PySem.W PyProof.Rows
open OP in
set_option maxRecDepth 100000 in
set_option maxHeartbeats 0 in
theorem PySem.Challenge.cw_oneglance_k59_whole_waits_put_otherwise_holds : PySem.Challenge.rw_oneglance_k59_whole_waits_put_otherwise.Holds := by
 w_on; o_law; k_head; (case hw => w_witness2)
 k_fill
 refine OL.My (l := PySem.Challenge.rw_oneglance_k59_whole_waits_put_otherwise) rfl rfl (fun w h Y => PySem.W.kIn_of Y) ?F
 case F =>
  intro w mg fa h KX G hmg
  refine' OL.HW KX G hmg ?ds ?cl_Doing ?zs
  (case ds => (repeat (refine' ⟨MN ?a ?l ?c ?k, ?_⟩; (case a => k_is); (case l => k_is); (case c => k_is); (case k => k_is))); exact trivial)
  (case cl_Doing => (refine' ⟨?a, ?b, ?c, ?d, ?e, ?f, ?g, ?n, ?m⟩; (case a => k_is); (case b => k_is); (case c => k_is); (case d => k_is); (case e => k_is); (case f => k_is); (case g => k_is); (case n => (repeat (refine' ⟨?a, ?_⟩; (case a => k_is))); exact trivial); (case m => (repeat (refine' ⟨ME ?a ?i ?l ?c ?k, ?_⟩; (case a => k_is); (case i => k_is); (case l => k_is); (case c => k_is); (case k => k_is))); exact trivial)))
  (case zs => (repeat (refine' ⟨?a, ?_⟩; (case a => k_is))); exact trivial)
