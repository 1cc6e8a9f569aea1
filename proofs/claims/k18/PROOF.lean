import PyProof.Rows.All
import Wide.All
import OpenK.AllK
import Wide.FinOn
import Lean
import PyProof.EqAt
import PyProof.EqKinds
import PyProof.TupleCall
import PySem.Challenge.RW_oneglance_k18_whole_weavings_of_a_log
set_option maxHeartbeats 4000000
set_option Elab.async false
set_option linter.all false
set_option maxRecDepth 100000
noncomputable section
namespace L2
open PySem PySem.Spec PyProof.Rows
abbrev Key:=Sum Int Str
def t6:Key->Value->Bool
 |.inl k,v=>Value.isInt k v
 |.inr x,v=>Value.isStrOf x v
def Nr(w:World):Key->Int
 |.inl k=>hashInt k
 |.inr x=>hashStr w x
theorem bM:∀{k:Key} {v:Value},t6 k v=true->(∃i t,k=Sum.inl i/\v=Value.int i t)\/(∃x t,k=Sum.inr x/\v=Value.str x t)
 |.inl i,v,h=>by
  obtain⟨t,e⟩:=Value.isInt_shape (k:=i) (v:=v) h
  exact .inl ⟨i,t,rfl,e⟩
 |.inr x,v,h=>by
  obtain⟨t,e⟩:=Value.isStrOf_shape (x:=x) (v:=v) h
  exact .inr ⟨x,t,rfl,e⟩
theorem y4(i:Int)(t:Tok):t6 (.inl i) (.int i t)=true:=by simp[t6,Value.isInt]
theorem y3(x:Str)(t:Tok):t6 (.inr x) (.str x t)=true:=by simp[t6,Value.isStrOf]
theorem Jq(a b:Int):decide ((Sum.inl a:Key)=Sum.inl b)=(a == b):=by
 by_cases e:a=b
 ·subst e;simp
 ·have h:¬(Sum.inl a:Key)=Sum.inl b:=fun q=>e (Sum.inl.inj q)
  rw[decide_eq_false h]
  exact(beq_eq_false_iff_ne.mpr e).symm
theorem Jn(a b:Str):decide ((Sum.inr a:Key)=Sum.inr b)=decide (a=b):=by
 by_cases e:a=b
 ·subst e;simp
 ·have h:¬(Sum.inr a:Key)=Sum.inr b:=fun q=>e (Sum.inr.inj q)
  rw[decide_eq_false h,decide_eq_false e]
theorem Jp(a:Int)(b:Str):decide ((Sum.inl a:Key)=Sum.inr b)=false:=decide_eq_false (fun q=>nomatch q)
theorem Jo(a:Str)(b:Int):decide ((Sum.inr a:Key)=Sum.inl b)=false:=decide_eq_false (fun q=>nomatch q)
def cG(prog:Program)(w:World):PySem.KeyKind prog w Key where
 is:=t6
 hash:=Nr w
 inj:=fun v a b ha hb=>by
  rcases bM ha with⟨i,t,rfl,rfl⟩|⟨x,t,rfl,rfl⟩
  ·rcases bM hb with⟨j,u,rfl,e⟩|⟨y,u,rfl,e⟩
   ·injection e with e1 _;rw[e1]
   ·exact nomatch e
  ·rcases bM hb with⟨j,u,rfl,e⟩|⟨y,u,rfl,e⟩
   ·exact nomatch e
   ·injection e with e1 _;rw[e1]
 byValue:=fun k v h=>by
  rcases bM h with⟨i,t,rfl,rfl⟩|⟨x,t,rfl,rfl⟩<;>rfl
 pyHash:=fun hv h=>by
  rcases bM hv with⟨i,t,rfl,rfl⟩|⟨x,t,rfl,rfl⟩
  ·exact wpAny_pyHash_int h
  ·exact wpAny_pyHash_str h
 eqBool:=fun hu hv h=>by
  rcases bM hu with⟨i,t,rfl,rfl⟩|⟨x,t,rfl,rfl⟩
  ·rcases bM hv with⟨j,u,rfl,rfl⟩|⟨y,u,rfl,rfl⟩
   ·rw[Jq]at h;exact wpAny_eqBool_int h
   ·rw[Jp]at h;exact SeqAt.EqAt.int_str i t y u _ _ _ _ h
  ·rcases bM hv with⟨j,u,rfl,rfl⟩|⟨y,u,rfl,rfl⟩
   ·rw[Jo]at h;exact SeqAt.EqAt.str_int x t j u _ _ _ _ h
   ·rw[Jn]at h;exact wpAny_eqBool_str h
 «strs»:=fun k x t v h=>by
  rcases bM h with⟨i,u,rfl,e⟩|⟨y,u,rfl,e⟩
  ·exact nomatch e
  ·injection e with e1 _
   subst e1
   cases v<;>rfl
theorem tY(prog:Program)(w:World)(i:Int)(t:Tok):(cG prog w).is (.inl i) (.int i t)=true:=y4 i t
theorem tX(prog:Program)(w:World)(x:Str)(t:Tok):(cG prog w).is (.inr x) (.str x t)=true:=y3 x t
inductive V where
 |non|bl (b:Bool)|int (i:Int)|str (x:Str)|byt (b:Array UInt8)|flt (b:UInt64)|ref (a:Addr)|ty (n:String)
 deriving DecidableEq
def cR:V->Value->Prop
 |.non,u=>u=Value.none
 |.bl b,u=>u=Value.bool b
 |.int i,u=>∃t,u=Value.int i t
 |.str x,u=>∃t,u=Value.str x t
 |.byt b,u=>∃t,u=Value.bytes b t
 |.flt b,u=>∃t,u=Value.float b t
 |.ref a,u=>u=Value.ref a
 |.ty n,u=>u=Value.type n
abbrev bW:List V->List Value->Prop:=Paired cR
theorem bW.length{xs:List V}{us:List Value}(r:bW xs us):xs.length=us.length:=Paired.length r
theorem bW.get:∀{xs:List V} {us:List Value} {i:Nat} {x:V},bW xs us->xs[i]?=some x->∃u,us[i]?=some u/\cR x u
 |_,_,_,_,.nil,e=>by simp at e
 |_,_,0,_,.cons r _,e=>by simp at e;subst e;exact⟨_,rfl,r⟩
 |_,_,i+1,x,.cons _ t,e=>by
  obtain⟨u,h1,h2⟩:=bW.get (i:=i) (x:=x) t (by simpa using e)
  exact⟨u,by simpa using h1,h2⟩
theorem bW.set{x:V}{u:Value}(r:cR x u):∀{xs:List V} {us:List Value} (i:Nat),bW xs us->bW (xs.set i x) (us.set i u)
 |_,_,_,.nil=>.nil
 |_,_,0,.cons _ t=>.cons r t
 |_,_,i+1,.cons q t=>.cons q (bW.set r i t)
theorem bW.append:∀{xs ys:List V} {us ws:List Value},bW xs us->bW ys ws->bW (xs++ys) (us++ws)
 |_,_,_,_,.nil,s=>s
 |_,_,_,_,.cons r t,s=>.cons r (bW.append t s)
theorem bW.take:∀{xs:List V} {us:List Value} (n:Nat),bW xs us->bW (xs.take n) (us.take n)
 |_,_,0,_=>.nil
 |_,_,_+1,.nil=>.nil
 |_,_,n+1,.cons r t=>.cons r (bW.take n t)
theorem bW.drop:∀{xs:List V} {us:List Value} (n:Nat),bW xs us->bW (xs.drop n) (us.drop n)
 |_,_,0,r=>r
 |_,_,_+1,.nil=>.nil
 |_,_,n+1,.cons _ t=>bW.drop n t
def qZ:Option V->Option Value->Prop
 |some v,some u=>cR v u
 |none,none=>True
 |_,_=>False
def KV{κ:Type}:List (κ×V)->List (κ×Value)->Prop:=Paired fun(p:κ×V) (q:κ×Value)=>p.1=q.1/\cR p.2 q.2
def kV:Key->V
 |.inl i=>.int i
 |.inr x=>.str x
inductive HO where
 |lst (xs:List V)
 |tup (xs:List V)
 |dK (kvs:List (Key×V))|dT (kvs:List (List Key×V))
 |set (S:Int->Bool) (n:Nat)
 |ins (C dx:Addr) (fs:List (Str×V))
 |own (x:Addr)
 |xd (fs:List (Str×V))
 |met (f x:Addr)
 |rng (lo hi:Int)
 |frz (o:Obj) (u:HO)
 |tbl (ps:Array Value)
 |ext (φ:Heap->Prop)
abbrev Hp:=Addr->Option HO
def upd(H:Hp)(a:Addr)(o:HO):Hp:=fun b=>if b=a then some o else H b
theorem aJ{H:Hp}{a:Addr}{o:HO}:upd H a o a=some o:=by unfold upd;rw[if_pos rfl]
theorem bu{H:Hp}{a b:Addr}{o:HO}(h:b≠a):upd H a o b=H b:=by unfold upd;rw[if_neg h]
theorem LM{H:Hp}{a b:Addr}{o u:HO}(h:H a=some o)(h':H b=some u)(d:o≠u):a≠b:=by
 intro e;subst e;rw[h]at h';exact d (Option.some.inj h')
theorem cV{H:Hp}{a b:Addr}{o:HO}(h:H a=some o)(h':H b=none):a≠b:=by
 intro e;subst e;rw[h]at h';cases h'
section
variable(P:Program)(w:World)
def cT(H:Hp)(h:Heap)(a:Addr):HO->Prop
 |.lst xs=>xs.length<=sizeLine/\∃(its:List Value) (n:Nat),bW xs its/\h.get? a=some { cls:=.type "list",data:=.seq its.toArray n }
 |.tup xs=>xs.length<=sizeLine/\∃its:List Value,bW xs its/\IsTup h a its.toArray
 |.dK kvs=>kvs.length<=sizeLine/\(a == sysModules)=false/\∃vs,KV kvs vs/\h.DictOf (cG P w) a vs
 | .dT kvs=>kvs.length<=sizeLine/\(a == sysModules)=false/\∃xs:List (List Key×Addr×Value),
   Paired (fun(p:List Key×V) (q:List Key×Addr×Value)=>p.1=q.1/\H q.2.1=some (.tup (p.1.map kV))/\cR p.2 q.2.2) kvs xs/\
   ∃o es ep,h.get? a=some o/\o.ExactDict/\o.data=.dict es ep/\es.toList=xs.map (entryOfKey (tupleKind (cG P w)))/\(xs.map (·.1)).Nodup
 |.set S n=>h.SetOf (intKind P w) a S n
 | .ins C dx fs=>H dx=some (.own a)/\fs.length<=1000/\dx≠a/\h.get? a=some (PySem.W.instObj C dx)/\
   ∃mA,h.Ns1 dx mA/\(∀f,qZ (fs.lookup f) (mA f))/\PySem.Within mA (fs.map (·.1))
 |.own _=>∃o,h.get? a=some o
 |.xd fs=>∃mA,h.Ns1 a mA/\∀f,qZ (fs.lookup f) (mA f)
 |.rng lo hi=>∃t u v,h.get? a=some { cls:=.type "range",data:=.fields #[.int lo t,.int hi u,.int 1 v] }
 |.frz o u=>h.get? a=some o/\cT H h a u
 |.tbl ps=>h.get? a=some { cls:=.none,data:=.fields ps }
 |.met f x=>h.get? a=some (PySem.W.methodObj (.ref f) (.ref x))
 |.ext φ=>φ h/\(∃o,h.get? a=some o)/\∀h1 h2:Heap,φ h1->(∀o,h1.get? a=some o->h2.get? a=some o)->φ h2
def HOk(H:Hp)(h:Heap):Prop:=∀a o,H a=some o->cT P w H h a o
end
section
variable{P:Program}{w:World}{H H':Hp}{h h':Heap}{a:Addr}{o:HO}
theorem cT.lt(x:cT P w H h a o):a<h.objs.size:=by
 cases o with
 |lst xs=>obtain⟨_,_,_,_,e⟩:=x;exact Heap.lt_size e
 |tup xs=>obtain⟨_,_,_,p⟩:=x;exact p.lt
 |dK kvs=>obtain⟨_,_,_,_,o,_,_,e,_⟩:=x;exact Heap.lt_size e
 |dT kvs=>obtain⟨_,_,_,_,o,_,_,e,_⟩:=x;exact Heap.lt_size e
 |set S n=>obtain⟨o,_,_,_,e,_⟩:=x;exact Heap.lt_size e
 |ins C dx fs=>obtain⟨_,_,_,e,_⟩:=x;exact Heap.lt_size e
 |own y=>obtain⟨_,e⟩:=x;exact Heap.lt_size e
 |xd fs=>obtain⟨_,⟨_,_,_,e,_⟩,_⟩:=x;exact Heap.lt_size e
 |rng lo hi=>obtain⟨_,_,_,e⟩:=x;exact Heap.lt_size e
 |frz ob u=>obtain⟨e,_⟩:=x;exact Heap.lt_size e
 |tbl ps=>exact Heap.lt_size (show h.get? a=some _ from x)
 |met f y=>exact Heap.lt_size (show h.get? a=some _ from x)
 |ext φ=>obtain⟨_,⟨_,e⟩,_⟩:=x;exact Heap.lt_size e
theorem Paired.mapP{α β:Type}{F G:α->β->Prop}:∀{l₁:List α} {l₂:List β},Paired F l₁ l₂->(∀a b,F a b->G a b)->Paired G l₁ l₂
 |_,_,.nil,_=>.nil
 |_,_,.cons r t,f=>.cons (f _ _ r) (Paired.mapP t f)
theorem cT.stay(x:cT P w H h a o)(k:∀b u,(b=a\/H b=some (.own a))->h.get? b=some u->h'.get? b=some u)
  (ho:∀b,H b=some (.own a)->H' b=some (.own a)) (ht:∀b xs,H b=some (.tup xs)->H' b=some (.tup xs)):cT P w H' h' a o:=by
 induction o with
 |lst xs=>obtain⟨z,its,n,r,e⟩:=x;exact⟨z,its,n,r,k _ _ (.inl rfl) e⟩
 |tup xs=>obtain⟨z,its,r,ob,e,c⟩:=x;exact⟨z,its,r,ob,k _ _ (.inl rfl) e,c⟩
 |dK kvs=>obtain⟨z,y,vs,r,ob,es,ep,e,c⟩:=x;exact⟨z,y,vs,r,ob,es,ep,k _ _ (.inl rfl) e,c⟩
 |dT kvs=>
  obtain⟨z,y,xs,r,ob,es,ep,e,c⟩:=x
  exact⟨z,y,xs,Paired.mapP r fun p q z=>⟨z.1,ht _ _ z.2.1,z.2.2⟩,ob,es,ep,k _ _ (.inl rfl) e,c⟩
 |set S n=>obtain⟨ob,es,ep,t,e,c⟩:=x;exact⟨ob,es,ep,t,k _ _ (.inl rfl) e,c⟩
 |ins C dx fs=>
  obtain⟨d,z,ne,e,mA,⟨od,es,ep,e2,c⟩,r⟩:=x
  exact⟨ho _ d,z,ne,k _ _ (.inl rfl) e,mA,⟨od,es,ep,k _ _ (.inr d) e2,c⟩,r⟩
 |own y=>obtain⟨ob,e⟩:=x;exact⟨ob,k _ _ (.inl rfl) e⟩
 |xd fs=>obtain⟨mA,⟨od,es,ep,e,c⟩,r⟩:=x;exact⟨mA,⟨od,es,ep,k _ _ (.inl rfl) e,c⟩,r⟩
 |rng lo hi=>obtain⟨t,u,v,e⟩:=x;exact⟨t,u,v,k _ _ (.inl rfl) e⟩
 |frz ob u ih=>obtain⟨e,q⟩:=x;exact⟨k _ _ (.inl rfl) e,ih q⟩
 |tbl ps=>
  have e:h.get? a=some { cls:=.none,data:=.fields ps }:=x
  show h'.get? a=some { cls:=.none,data:=.fields ps }
  exact k a _ (.inl rfl) e
 |met f y=>
  have e:h.get? a=some (PySem.W.methodObj (.ref f) (.ref y)):=x
  show h'.get? a=some (PySem.W.methodObj (.ref f) (.ref y))
  exact k a _ (.inl rfl) e
 |ext φ=>obtain⟨p,⟨o,e⟩,st⟩:=x;exact⟨st _ _ p fun o q=>k _ _ (.inl rfl) q,⟨o,k _ _ (.inl rfl) e⟩,st⟩
theorem HOk.lt(x:HOk P w H h)(e:H a=some o):a<h.objs.size:=(x a o e).lt
theorem HOk.fresh(x:HOk P w H h)(e:h.objs.size<=a):H a=none:=by
 cases q:H a with
 |none=>rfl
 |some u=>exact absurd (Nat.lt_of_lt_of_le (x.lt q) e) (Nat.lt_irrefl _)
theorem HOk.kept(x:HOk P w H h)(k:∀b u,h.get? b=some u->h'.get? b=some u):HOk P w H h':=fun a o e=>
 (x a o e).stay (fun b u _ q=>k b u q) (fun _ q=>q) fun _ _ q=>q
theorem HOk.laid(x:HOk P w H h)(k:∀b u,h.get? b=some u->h'.get? b=some u)(hp:h.objs.size<=a)(new:cT P w (upd H a o) h' a o):HOk P w (upd H a o) h':=fun b u e=>by
 have hn:=x.fresh hp
 by_cases hb:b=a
 ·subst hb;rw[aJ]at e;cases e;exact new
 ·rw[bu hb]at e
  exact(x b u e).stay (fun c v _ q=>k c v q) (fun c q=>by rw[bu (cV q hn)];exact q) fun c xs q=>by rw[bu (cV q hn)];exact q
end
def Rd(H:Hp)(a:Addr)(u:HO):Prop:=H a=some u\/∃o,H a=some (.frz o u)
theorem Rd.ok{P:Program}{w:World}{H:Hp}{h:Heap}{a:Addr}{u:HO}(r:Rd H a u)(x:HOk P w H h):cT P w H h a u:=by
 rcases r with r|⟨o,r⟩
 ·exact x a u r
 ·obtain⟨_,q⟩:=x a _ r
  exact q
def Mut:Option HO->Prop
 |some (.lst _)=>True
 |some (.dK _)=>True
 |some (.dT _)=>True
 |some (.set _ _)=>True
 |some (.ins _ _ _)=>True
 |some (.ext _)=>True
 |_=>False
section
variable{P:Program}{w:World}{H:Hp}{h h':Heap}{x e:Addr}{o':HO}
theorem HOk.write(ok:HOk P w H h)(mu:Mut (H x))(he:e=x\/H e=some (.own x))(k:∀b u,b≠e->h.get? b=some u->h'.get? b=some u)(heo:∃u,h'.get? e=some u)
  (new:cT P w (upd H x o') h' x o'):HOk P w (upd H x o') h':=fun b u q=>by
 have nown:∀c y,H c=some (.own y)->c≠x:=fun c y r z=>by subst z;rw[r]at mu;exact mu
 have ntup:∀c xs,H c=some (.tup xs)->c≠x:=fun c xs r z=>by subst z;rw[r]at mu;exact mu
 by_cases hb:b=x
 ·subst hb;rw[aJ]at q;cases q;exact new
 ·rw[bu hb]at q
  by_cases hbe:b=e
  ·have q':H b=some (.own x):=by
    rcases he with z|z
    ·exact absurd (hbe.trans z) hb
    ·rw[hbe];exact z
   rw[q]at q';cases q'
   obtain⟨v,hv⟩:=heo
   exact⟨v,by rw[hbe];exact hv⟩
  ·refine(ok b u q).stay (fun c v hc r=>k c v ?_ r) (fun c r=>by rw[bu (nown c b r)];exact r) fun c xs r=>by rw[bu (ntup c xs r)];exact r
   rcases hc with rfl|hc
   ·exact hbe
   ·rintro rfl
    rcases he with z|z
    ·exact nown c b hc z
    ·rw[hc]at z;cases z;exact hb rfl
end
structure Un(fs ex:List Addr)(H H':Hp)(h h':Heap):Prop where
 keep:∀b o,h.get? b=some o->H b=none->b∉fs->b∉ex->h'.get? b=some o
 slot:∀b o,h.get? b=some o->H b=none->b∈fs->b∉ex->∃sl,h'.get? b=some { o with slots:=sl }
 free:∀b o,h.get? b=some o->H b=none->b∉ex->H' b=none
 there:∀b o,h.get? b=some o->b∉ex->∃o',h'.get? b=some o'
 tups:∀b xs,H b=some (.tup xs)->H' b=some (.tup xs)
 frzs:∀b o u,H b=some (.frz o u)->H' b=some (.frz o u)
 tbls:∀b ps,H b=some (.tbl ps)->∃more,H' b=some (.tbl (ps++more))
section
variable{fs fs' ex ex':List Addr}{H H1 H2:Hp}{h h1 h2 h':Heap}{a x e:Addr}{o:HO}
theorem Un.any(u:Un fs ex H H1 h h1){b:Addr}{ob:Obj}(q:h.get? b=some ob)(n:H b=none)(hx:b∉ex):∃sl,h1.get? b=some { ob with slots:=sl }:=by
 by_cases hb:b∈fs
 ·exact u.slot b ob q n hb hx
 ·exact⟨ob.slots,u.keep b ob q n hb hx⟩
theorem Un.kept(k:∀b u,h.get? b=some u->h'.get? b=some u):Un fs ex H H h h':=
 ⟨fun b ob q _ _ _=>k b ob q,fun b ob q _ _ _=>⟨ob.slots,k b ob q⟩,fun _ _ _ n _=>n,fun b ob q _=>⟨ob,k b ob q⟩,fun _ _ q=>q,fun _ _ _ q=>q,fun _ ps q=>⟨#[],by rw[q];simp⟩⟩
theorem Un.refl:Un fs ex H H h h:=Un.kept fun _ _ q=>q
theorem Un.laid(k:∀b u,h.get? b=some u->h'.get? b=some u)(hp:h.objs.size<=a)(hn:H a=none):Un fs ex H (upd H a o) h h' where
 keep:=fun b u q _ _ _=>k b u q
 slot:=fun b u q _ _ _=>⟨u.slots,k b u q⟩
 free:=fun b u q n _=>by rw[bu (Nat.ne_of_lt (Nat.lt_of_lt_of_le (Heap.lt_size q) hp))];exact n
 there:=fun b u q _=>⟨u,k b u q⟩
 tups:=fun b xs q=>by rw[bu (cV q hn)];exact q
 frzs:=fun b u xs q=>by rw[bu (cV q hn)];exact q
 tbls:=fun b ps q=>⟨#[],by rw[bu (cV q hn),q];simp⟩
theorem Un.write(mu:Mut (H x))(he:e=x\/H e=some (.own x))(k:∀b u,b≠e->h.get? b=some u->h'.get? b=some u)(heo:∃u,h'.get? e=some u):Un fs ex H (upd H x o) h h':=by
 have hx:∀b,H b=none->b≠x:=fun b n z=>by subst z;rw[n]at mu;exact mu
 have hb:∀b,H b=none->b≠e:=fun b n z=>by
  subst z
  rcases he with r|r
  ·exact hx b n r
  ·rw[n]at r;cases r
 have hm:∀b u,H b=some u->¬Mut (some u)->b≠x:=fun b u q nm z=>by subst z;rw[q]at mu;exact nm mu
 refine⟨fun b u q n _ _=>k b u (hb b n) q,fun b u q n _ _=>⟨u.slots,k b u (hb b n) q⟩,fun b u q n _=>by rw[bu (hx b n)];exact n,fun b u q _=>?_,
  fun b xs q=>by rw[bu (hm b _ q fun z=>z)];exact q,fun b u xs q=>by rw[bu (hm b _ q fun z=>z)];exact q,fun b ps q=>⟨#[],by rw[bu (hm b _ q fun z=>z),q];simp⟩⟩
 by_cases hbe:b=e
 ·subst hbe;exact heo
 ·exact⟨u,k b u hbe q⟩
end
def trk(h:Heap)(H:Hp):List Addr:=(List.range h.objs.size).filter fun a=>(H a).isSome
def B7(h:Heap)(H:Hp):Heap:=PySem.W.hideAll h (trk h H)
theorem zj(h:Heap)(H:Hp):(B7 h H).objs.size=h.objs.size:=PySem.W.hideAll_size _ _
theorem B6{h:Heap}{H:Hp}{b:Addr}{o:Obj}(e:h.get? b=some o)(n:H b=none):(B7 h H).get? b=some o:=
 PySem.W.hideAll_get _ e fun hm=>by
  have q:(H b).isSome=true:=(List.mem_filter.mp hm).2
  rw[n]at q;simp at q
theorem Fl{h:Heap}{H:Hp}{b:Addr}{o:Obj}(e:(B7 h H).get? b=some o):h.get? b=some o/\H b=none:=by
 have e':h.get? b=some o:=PySem.W.of_hideAll (trk h H) e
 refine⟨e',?_⟩
 cases q:H b with
 |none=>rfl
 |some x=>
  have hm:b∈trk h H:=List.mem_filter.mpr ⟨List.mem_range.mpr (Heap.lt_size e'),by simp[q]⟩
  have z:(B7 h H).get? b=none:=PySem.W.hideAll_none (trk h H) hm
  rw[z]at e;cases e
structure Mod(K:PySem.W.Frag)(mg:Str->Option Value)(base:Heap):Prop where
 kin:K.In base
 glob:base.Ns mainGlobals mg
 blt:∃mb,base.Ns builtinsNs mb/\∀x:Str,x≠"__name__"->mb x=bootBuiltins x
 nolimit:base.NoLimit
structure Cx where
 prog:Program
 w:World
 K:PySem.W.Frag
 mg:Str->Option Value
 base:Heap
 A:Around
 N:List Str
 s₀:Shared
 H₀:Hp
 env:Env
 outer:List Env
 stack:List Env
 ex:List Addr
 fn:Str->Bool
 calm:Bool
 pn:List (Addr×Obj)
 xe:Value->Shared->Prop
def frs(l:List Env):List Addr:=l.filterMap (·.frame)
abbrev Cx.fs(X:Cx):List Addr:=frs X.outer
def Vis(sc:Scope)(x:Str):Prop:=sc.names.lookup x=some .local\/sc.names.lookup x=some .cell\/sc.names.lookup x=some .free
def Loc(sc:Scope)(x:Str):Prop:=sc.names.lookup x=some .local\/sc.names.lookup x=some .cell
def Ny(env:Env)(h:Heap)(m:Str->Option Value)(x:Str)(u:Value):Prop:=
 (env.kindOf x=some .local/\m x=some u)\/((env.kindOf x=some .cell\/env.kindOf x=some .free)/\∃c,env.cells.lookup x=some c/\h.IsCell c (some u))
structure Cx.Ok(X:Cx):Prop where
 mod:Mod X.K X.mg X.base
 kind:X.env.scope.kind=.function
 glob:X.env.globals=mainGlobals
 blt:X.env.builtins=builtinsNs
 above:X.s₀.heap.objs.size<=X.env.locals
 inj:∀x y c,X.env.cells.lookup x=some c->X.env.cells.lookup y=some c->x=y
 has:∀x,(X.env.kindOf x=some .cell\/X.env.kindOf x=some .free)->∃c,X.env.cells.lookup x=some c
 cab:∀x c,X.fn x=true->X.env.cells.lookup x=some c->X.s₀.heap.objs.size<=c
 hd:X.calm=true->X.A.handled=none
 frames:X.A.frames=some X.stack
 stk:X.stack=X.outer\/(X.stack=X.env::X.outer/\X.env.frame=some X.env.locals)
 exf:∀b∈X.ex,b≠X.env.locals/\∀x c,X.env.cells.lookup x=some c->c≠b
 bs:∀b o,X.base.get? b=some o->X.s₀.heap.get? b=some o/\X.H₀ b=none
 bsz:X.base.objs.size<=X.s₀.heap.objs.size
 noex:∀b o,X.base.get? b=some o->b∉X.ex
 exfs:∀b∈X.ex,b∉X.fs
 funs:X.s₀.heap.FunFrames X.base X.outer
 frf:∀b∈X.fs,X.H₀ b=none
structure Inv(X:Cx)(pins:List (Addr×Obj))(σ:List (Option V))(H:Hp)(s:Shared):Prop where
 ok:X.Ok
 os:s.os=X.s₀.os
 bare:AllBare s.gens
 base:Un X.fs X.ex X.H₀ H X.s₀.heap s.heap
 loc:∃m,s.heap.Ns X.env.locals m/\∀(i:Nat) (x:Str) (v:V),X.N[i]?=some x->σ[i]?=some (some v)->Vis X.env.scope x->∃u,cR v u/\Ny X.env s.heap m x u
 cell:∀x c,X.env.cells.lookup x=some c->∃v,s.heap.IsCell c v
 free:H X.env.locals=none
 freeC:∀x c,X.env.cells.lookup x=some c->H c=none
 pin:∀p∈X.pn++pins,s.heap.get? p.1=some p.2/\H p.1=none/\p.1≠X.env.locals/\p.1∉X.fs/\∀v,p.2.data≠.cell v
 hok:HOk X.prog X.w H s.heap
 len:σ.length=X.N.length
section
variable{X:Cx}{pins:List (Addr×Obj)}{σ:List (Option V)}{H H':Hp}{s:Shared}{h':Heap}
theorem Cx.Ok.nofr(ok:X.Ok){b:Addr}{o:Obj}(e:X.base.get? b=some o):b∉X.fs:=fun hb=>by
 have:=(ok.funs.mem hb).1
 rw[e]at this;cases this
theorem Inv.bs(I:Inv X pins σ H s):∀b o,X.base.get? b=some o->s.heap.get? b=some o/\H b=none:=fun b o e=>
 ⟨I.base.keep b o (I.ok.bs b o e).1 (I.ok.bs b o e).2 (I.ok.nofr e) (I.ok.noex b o e),I.base.free b o (I.ok.bs b o e).1 (I.ok.bs b o e).2 (I.ok.noex b o e)⟩
theorem Inv.bk(I:Inv X pins σ H s):∀b o,X.base.get? b=some o->s.heap.get? b=some o:=fun b o e=>(I.bs b o e).1
theorem Inv.mod(I:Inv X pins σ H s):Mod X.K X.mg X.base:=I.ok.mod
theorem Inv.kIn(I:Inv X pins σ H s):X.K.In s.heap:=I.ok.mod.kin.keeps I.bk
theorem Inv.lt(I:Inv X pins σ H s):X.env.locals<s.heap.objs.size:=let ⟨_,hn,_⟩:=I.loc;hn.lt
theorem Inv.sz(I:Inv X pins σ H s):X.s₀.heap.objs.size<=s.heap.objs.size:=Nat.le_trans I.ok.above (Nat.le_of_lt I.lt)
theorem Inv.nofs(I:Inv X pins σ H s){a:Addr}(h:s.heap.objs.size<=a):a∉X.fs:=fun hb=>by
 obtain⟨_,o,ho,_⟩:=I.ok.funs.mem hb
 exact absurd (Nat.lt_of_lt_of_le (Heap.lt_size ho) (Nat.le_trans I.sz h)) (Nat.lt_irrefl _)
theorem Inv.cne(I:Inv X pins σ H s):∀x c,X.env.cells.lookup x=some c->c≠X.env.locals:=fun x c e z=>by
 obtain⟨v,o,ho,hd⟩:=I.cell x c e
 obtain⟨m,⟨o',es,ep,ho',hd',_⟩,_⟩:=I.loc
 rw[z,ho']at ho;cases ho;rw[hd']at hd;cases hd
theorem Inv.funs(I:Inv X pins σ H s):s.heap.FunFrames X.base X.outer:=by
 have all:∀(l:List Env),(∀b∈frs l,b∈X.fs)->X.s₀.heap.FunFrames X.base l->s.heap.FunFrames X.base l:=by
  intro l
  induction l with
  |nil=>intro _ _;trivial
  |cons env r ih=>
   intro hs hl
   obtain⟨hk,⟨L,o,hf,hn,ho,hd⟩,hr⟩:=hl
   have hL:L∈X.fs:=hs L (by unfold frs;rw[List.filterMap_cons,hf];exact List.mem_cons_self)
   obtain⟨sl,e⟩:=I.base.slot L o ho (I.ok.frf L hL) hL fun z=>I.ok.exfs L z hL
   exact⟨hk,⟨L,_,hf,hn,e,hd⟩,ih (fun b hb=>hs b (by unfold frs;rw[List.filterMap_cons,hf];exact List.mem_cons_of_mem _ hb)) hr⟩
 exact all X.outer (fun _ hb=>hb) I.ok.funs
theorem Inv.stack(I:Inv X pins σ H s):s.heap.FunFrames X.base X.stack:=by
 rcases I.ok.stk with e|⟨e,hf⟩
 ·rw[e];exact I.funs
 ·rw[e]
  obtain⟨m,hn,_⟩:=I.loc
  refine .cons (by rw[I.ok.kind];decide) hf hn ?_ I.funs
  exact Heap.get?_none_of_le (Nat.le_trans I.ok.bsz I.ok.above)
theorem Inv.stkSub(I:Inv X pins σ H s):∀b∈frs X.stack,b∈X.env.locals::X.fs:=fun b hb=>by
 rcases I.ok.stk with e|⟨e,hf⟩
 ·rw[e]at hb;exact List.mem_cons_of_mem _ hb
 ·rw[e]at hb
  unfold frs at hb
  rw[List.filterMap_cons,hf]at hb
  exact hb
theorem Inv.stkFree(I:Inv X pins σ H s):∀b∈frs X.stack,H b=none:=fun b hb=>by
 rcases List.mem_cons.mp (I.stkSub b hb)with e|hb
 ·rw[e];exact I.free
 ·obtain⟨_,o,ho,_⟩:=I.ok.funs.mem hb
  exact I.base.free b o ho (I.ok.frf b hb) fun z=>I.ok.exfs b z hb
theorem Inv.step{g':Array GenState}{t':Nat}{d':Drawn}{ch:List Addr}(I:Inv X pins σ H s)
  (hch:∀b∈ch,(b∈X.ex\/X.s₀.heap.objs.size<=b)/\b≠X.env.locals/\(∀x c,X.env.cells.lookup x=some c->c≠b)/\∀p∈X.pn++pins,p.1≠b)
  (keep:∀b o,b≠X.env.locals->b∉X.fs->b∉ch->s.heap.get? b=some o->H b=none->h'.get? b=some o)
  (slot:∀b o,b≠X.env.locals->b∈X.fs->b∉ch->s.heap.get? b=some o->H b=none->∃sl,h'.get? b=some { o with slots:=sl }) (free:∀b o,b∉ch->s.heap.get? b=some o->H b=none->H' b=none)
  (there:∀b o,b∉ch->s.heap.get? b=some o->∃o',h'.get? b=some o')
  (tups:∀b xs,H b=some (.tup xs)->H' b=some (.tup xs)) (frzs:∀b o u,H b=some (.frz o u)->H' b=some (.frz o u)) (tbls:∀b ps,H b=some (.tbl ps)->∃more,H' b=some (.tbl (ps++more)))
  (ns:∀m,s.heap.Ns X.env.locals m->h'.Ns X.env.locals m) (hok:HOk X.prog X.w H' h') (hg:AllBare g') :
  Inv X pins σ H' { s with heap:=h',gens:=g',drawn:=d',toks:=t' }:=by
 have neL:∀b o,X.s₀.heap.get? b=some o->b≠X.env.locals:=fun b o e=>Nat.ne_of_lt (Nat.lt_of_lt_of_le (Heap.lt_size e) I.ok.above)
 have neC:∀b o,X.s₀.heap.get? b=some o->b∉X.ex->b∉ch:=fun b o e hx hb=>by
  rcases(hch b hb).1 with z|z
  ·exact hx z
  ·exact absurd (Nat.lt_of_lt_of_le (Heap.lt_size e) z) (Nat.lt_irrefl _)
 have cellK:∀x c,X.env.cells.lookup x=some c->∀v,s.heap.IsCell c v->h'.IsCell c v:=fun x c e v ⟨o,ho,hd⟩=>by
  have nch:c∉ch:=fun z=>(hch c z).2.2.1 x c e rfl
  by_cases hc:c∈X.fs
  ·obtain⟨sl,q⟩:=slot c o (I.cne x c e) hc nch ho (I.freeC x c e)
   exact⟨_,q,hd⟩
  ·exact⟨o,keep c o (I.cne x c e) hc nch ho (I.freeC x c e),hd⟩
 refine⟨I.ok,I.os,hg,⟨fun b o e n hb hx=>?_,fun b o e n hb hx=>?_,fun b o e n hx=>?_,fun b o e hx=>?_,fun b xs e=>tups b xs (I.base.tups b xs e),fun b o xs e=>frzs b o xs (I.base.frzs b o xs e),fun b ps e=>?_⟩,?_,fun x c e=>?_,?_,fun x c e=>?_,fun p hp=>?_,hok,I.len⟩
 ·exact keep b o (neL b o e) hb (neC b o e hx) (I.base.keep b o e n hb hx) (I.base.free b o e n hx)
 ·obtain⟨sl,e1⟩:=I.base.slot b o e n hb hx
  obtain⟨sl',e2⟩:=slot b _ (neL b o e) hb (neC b o e hx) e1 (I.base.free b o e n hx)
  exact⟨sl',e2⟩
 ·obtain⟨o',e1⟩:=I.base.there b o e hx
  exact free b o' (neC b o e hx) e1 (I.base.free b o e n hx)
 ·obtain⟨o',e1⟩:=I.base.there b o e hx
  exact there b o' (neC b o e hx) e1
 ·obtain⟨m1,e1⟩:=I.base.tbls b ps e
  obtain⟨m2,e2⟩:=tbls b _ e1
  exact⟨m1++m2,by rw[e2,Array.append_assoc]⟩
 ·obtain⟨m,hn,hl⟩:=I.loc
  refine⟨m,ns m hn,fun i x v e1 e2 e3=>?_⟩
  obtain⟨u,r,l⟩:=hl i x v e1 e2 e3
  refine⟨u,r,?_⟩
  rcases l with l|⟨k,c,e,z⟩
  ·exact .inl l
  ·exact .inr ⟨k,c,e,cellK x c e _ z⟩
 ·obtain⟨v,z⟩:=I.cell x c e
  exact⟨v,cellK x c e v z⟩
 ·obtain⟨m,⟨o,_,_,ho,_⟩,_⟩:=I.loc
  exact free _ o (fun z=>(hch _ z).2.1 rfl) ho I.free
 ·obtain⟨v,o,ho,hd⟩:=I.cell x c e
  exact free c o (fun z=>(hch c z).2.2.1 x c e rfl) ho (I.freeC x c e)
 ·obtain⟨e,n,ne,nf,d⟩:=I.pin p hp
  have nch:p.1∉ch:=fun z=>(hch p.1 z).2.2.2 p hp rfl
  exact⟨keep p.1 p.2 ne nf nch e n,free p.1 p.2 nch e n,ne,nf,d⟩
theorem Inv.un{t':Nat}(I:Inv X pins σ H s)(u:Un X.fs [] H H' s.heap h')(hok:HOk X.prog X.w H' h'):Inv X pins σ H' { s with heap:=h',toks:=t' }:=by
 obtain⟨m,⟨o,es,ep,ho,r⟩,_⟩:=id I.loc
 obtain⟨sl,hL⟩:=u.any ho I.free (by simp)
 exact I.step (g':=s.gens) (d':=s.drawn) (ch:=[]) (fun _ z=>nomatch z) (fun b o _ hb _ e n=>u.keep b o e n hb (by simp)) (fun b o _ hb _ e n=>u.slot b o e n hb (by simp)) (fun b o _ e n=>u.free b o e n (by simp)) (fun b o _ e=>u.there b o e (by simp)) u.tups u.frzs u.tbls (fun m' hm=>by
  obtain⟨o',es',ep',ho',r'⟩:=hm
  rw[ho]at ho';cases ho'
  exact⟨_,es',ep',hL,r'⟩) hok I.bare
theorem Inv.call{g':Array GenState}{t':Nat}{d':Drawn}{ch:List Addr}(I:Inv X pins σ H s)(u:Un (frs X.stack) ch H H' s.heap h')(hok:HOk X.prog X.w H' h')(hg:AllBare g')
  (hch:∀b∈ch,(b∈X.ex\/X.s₀.heap.objs.size<=b)/\b≠X.env.locals/\(∀x c,X.env.cells.lookup x=some c->c≠b)/\∀p∈X.pn++pins,p.1≠b) :
  Inv X pins σ H' { s with heap:=h',gens:=g',drawn:=d',toks:=t' }:=by
 obtain⟨m,⟨o,es,ep,ho,r⟩,_⟩:=id I.loc
 obtain⟨sl,hL⟩:=u.any ho I.free fun z=>(hch _ z).2.1 rfl
 exact I.step (ch:=ch) hch (fun b o hL hb hc e n=>u.keep b o e n (fun z=>(List.mem_cons.mp (I.stkSub b z)).elim hL hb) hc) (fun b o _ _ hc e n=>u.any e n hc) (fun b o hc e n=>u.free b o e n hc) (fun b o hc e=>u.there b o e hc) u.tups u.frzs u.tbls (fun m' hm=>by
  obtain⟨o',es',ep',ho',r'⟩:=hm
  rw[ho]at ho';cases ho'
  exact⟨_,es',ep',hL,r'⟩) hok hg
theorem Inv.turned{t':Nat}{it:Addr}(I:Inv X pins σ H s)(k:∀b o,b≠it->s.heap.get? b=some o->h'.get? b=some o)(hn:H it=none)(hL:it≠X.env.locals)
  (h1:it∈X.ex\/X.s₀.heap.objs.size<=it) (h2:∀x c,X.env.cells.lookup x=some c->c≠it) (h3:∀p∈X.pn++pins,p.1≠it):Inv X pins σ H { s with heap:=h',toks:=t' }:=by
 have nit:∀b u,H b=some u->b≠it:=fun b u e z=>by rw[z,hn]at e;cases e
 refine I.step (g':=s.gens) (d':=s.drawn) (ch:=[it]) (fun b hb=>?_) (fun b o _ _ hc e _=>k b o (fun z=>hc (by simp[z])) e) (fun b o _ _ hc e _=>⟨o.slots,k b o (fun z=>hc (by simp[z])) e⟩) (fun _ _ _ _ n=>n)
  (fun b o hc e=>⟨o,k b o (fun z=>hc (by simp[z])) e⟩) (fun _ _ e=>e) (fun _ _ _ e=>e) (fun b ps e=>⟨#[],by rw[e];simp⟩) (fun m hm=>?_) (fun b u e=>?_) I.bare
 ·have e:b=it:=by simpa using hb
  subst e
  exact⟨h1,hL,h2,h3⟩
 ·obtain⟨o,es,ep,ho,r⟩:=hm
  exact⟨o,es,ep,k _ o (Ne.symm hL) ho,r⟩
 ·refine(I.hok b u e).stay (fun c v hc q=>k c v ?_ q) (fun _ q=>q) fun _ _ q=>q
  rcases hc with z|z
  ·rw[z];exact nit b u e
  ·exact nit c _ z
theorem Inv.tok(I:Inv X pins σ H s)(t:Nat):Inv X pins σ H { s with toks:=t }:=I.un (h':=s.heap) (t':=t) Un.refl I.hok
theorem Inv.kept{t':Nat}(I:Inv X pins σ H s)(k:∀b u,s.heap.get? b=some u->h'.get? b=some u):Inv X pins σ H { s with heap:=h',toks:=t' }:=I.un (Un.kept k) (I.hok.kept k)
theorem Inv.laid{a:Addr}{o:HO}{t':Nat}(I:Inv X pins σ H s)(k:∀b u,s.heap.get? b=some u->h'.get? b=some u)(hp:s.heap.objs.size<=a)(new:cT X.prog X.w (upd H a o) h' a o) :
  Inv X pins σ (upd H a o) { s with heap:=h',toks:=t' }:=I.un (Un.laid k hp (I.hok.fresh hp)) (I.hok.laid k hp new)
theorem Inv.write{x e:Addr}{o:HO}{t':Nat}(I:Inv X pins σ H s)(mu:Mut (H x))(he:e=x\/H e=some (.own x))(k:∀b u,b≠e->s.heap.get? b=some u->h'.get? b=some u)(heo:∃u,h'.get? e=some u)
  (new:cT X.prog X.w (upd H x o) h' x o):Inv X pins σ (upd H x o) { s with heap:=h',toks:=t' }:=I.un (Un.write mu he k heo) (I.hok.write mu he k heo new)
theorem Inv.pins_of{pins':List (Addr×Obj)}(I:Inv X pins σ H s)(h:∀p∈pins',s.heap.get? p.1=some p.2/\H p.1=none/\p.1≠X.env.locals/\p.1∉X.fs/\∀v,p.2.data≠.cell v):Inv X pins' σ H s:=
 ⟨I.ok,I.os,I.bare,I.base,I.loc,I.cell,I.free,I.freeC,fun p hp=>(List.mem_append.mp hp).elim (fun z=>I.pin p (List.mem_append_left _ z)) (h p),I.hok,I.len⟩
theorem uZ{N:List Str}(hN:N.Nodup){i j:Nat}{x:Str}(a:N[i]?=some x)(b:N[j]?=some x):i=j:=by
 obtain⟨h1,e1⟩:=List.getElem?_eq_some_iff.mp a
 obtain⟨h2,e2⟩:=List.getElem?_eq_some_iff.mp b
 exact(List.getElem_inj hN).mp (e1.trans e2.symm)
theorem rE{M:Model}{A:Around}{E:Value->Shared->Prop}{i:Nat}{x:Str}{v:V}{u:Value}{Q:Unit->Shared->Prop}(I:Inv X pins σ H s)(hN:X.N.Nodup)(hi:X.N[i]?=some x)(hx:Loc X.env.scope x)(r:cR v u)
  (h:∀s',Inv X pins (σ.set i (some v)) H s'->(∃a,Heap.SameBut a s.heap s'.heap/\(a=X.env.locals\/X.env.cells.lookup x=some a))->Q () s') (hf:X.fn x=true\/X.env.scope.names.lookup x=some .local:=by first|exact .inl rfl|exact .inr rfl|assumption):wpAny M A (storeName X.env x u) Q E s:=by
 obtain⟨m,hn,hl⟩:=id I.loc
 have hcls:(X.env.scope.kind == .class||(X.env.scope.kind == .module&&X.env.locals !=X.env.globals))=false:=by rw[I.ok.kind];rfl
 have hiσ:i < σ.length:=by rw[I.len];exact(List.getElem?_eq_some_iff.mp hi).1
 have cne:=I.cne
 have tracked:∀{a:Addr} {h':Heap},(∃o,s.heap.get? a=some o/\H a=none)->Heap.SameBut a s.heap h'->HOk X.prog X.w H h':=fun{a h'} ha hs b ob e=>by
  obtain⟨_,_,hfree⟩:=ha
  refine(I.hok b ob e).stay (fun c w' hc q=>(hs.2 c ?_).trans q) (fun _ q=>q) fun _ _ q=>q
  rintro rfl
  rcases hc with rfl|hc
  ·rw[hfree]at e;cases e
  ·rw[hfree]at hc;cases hc
 rcases hx with hk|hk
 ·refine wpAny_storeName_local hk hn (fun h' hn' hs=>?_) hcls
  obtain⟨oL,_,_,hoL,_⟩:=id hn
  refine h _ ⟨I.ok,I.os,I.bare,⟨fun b o e n hb hx=>?_,fun b o e n hb hx=>?_,I.base.free,fun b o e hx=>?_,I.base.tups,I.base.frzs,I.base.tbls⟩,⟨_,hn',fun j y v' e1 e2 e3=>?_⟩,fun y c e=>?_,I.free,I.freeC,fun p hp=>?_,tracked ⟨oL,hoL,I.free⟩ hs,by simpa using I.len⟩ ⟨_,hs,.inl rfl⟩
  ·exact(hs.2 b (Nat.ne_of_lt (Nat.lt_of_lt_of_le (Heap.lt_size e) I.ok.above))).trans (I.base.keep b o e n hb hx)
  ·obtain⟨sl,e1⟩:=I.base.slot b o e n hb hx
   exact⟨sl,(hs.2 b (Nat.ne_of_lt (Nat.lt_of_lt_of_le (Heap.lt_size e) I.ok.above))).trans e1⟩
  ·obtain⟨o',e1⟩:=I.base.there b o e hx
   exact⟨o',(hs.2 b (Nat.ne_of_lt (Nat.lt_of_lt_of_le (Heap.lt_size e) I.ok.above))).trans e1⟩
  ·by_cases hj:j=i
   ·subst hj
    rw[hi]at e1;cases e1
    rw[List.getElem?_set_self hiσ]at e2
    cases e2
    exact⟨u,r,.inl ⟨hk,by simp⟩⟩
   ·rw[List.getElem?_set_ne (Ne.symm hj)]at e2
    obtain⟨u',r',q⟩:=hl j y v' e1 e2 e3
    refine⟨u',r',?_⟩
    rcases q with⟨k,e⟩|⟨k,c,e,z⟩
    ·refine .inl ⟨k,?_⟩
     have:y≠x:=fun e=>hj (uZ hN e1 (e▸hi))
     simp[this,e]
    ·exact .inr ⟨k,c,e,z.sameBut hs (cne y c e)⟩
  ·obtain⟨w',z⟩:=I.cell y c e
   exact⟨w',z.sameBut hs (cne y c e)⟩
  ·obtain⟨e,n,ne,nf,d⟩:=I.pin p hp
   exact⟨(hs.2 p.1 ne).trans e,n,ne,nf,d⟩
 ·have hfn:X.fn x=true:=by
   rcases hf with z|z
   ·exact z
   ·rw[z]at hk;cases hk
  obtain⟨c,hc⟩:=I.ok.has x (.inl hk)
  obtain⟨w',z⟩:=I.cell x c hc
  refine wpAny_storeName_cell I.ok.kind hk hc z (fun h' hc' hs=>?_)
  obtain⟨oc,hoc,hocd⟩:=id z
  refine h { s with heap:=h' } ⟨I.ok,I.os,I.bare,⟨fun b o e n hb hx=>?_,fun b o e n hb hx=>?_,I.base.free,fun b o e hx=>?_,I.base.tups,I.base.frzs,I.base.tbls⟩,⟨m,hn.sameBut hs (Ne.symm (cne x c hc)),fun j y v' e1 e2 e3=>?_⟩,fun y c' e=>?_,I.free,I.freeC,fun p hp=>?_,tracked ⟨oc,hoc,I.freeC x c hc⟩ hs,by simpa using I.len⟩ ⟨c,hs,.inr hc⟩
  ·exact(hs.2 b (Nat.ne_of_lt (Nat.lt_of_lt_of_le (Heap.lt_size e) (I.ok.cab x c hfn hc)))).trans (I.base.keep b o e n hb hx)
  ·obtain⟨sl,e1⟩:=I.base.slot b o e n hb hx
   exact⟨sl,(hs.2 b (Nat.ne_of_lt (Nat.lt_of_lt_of_le (Heap.lt_size e) (I.ok.cab x c hfn hc)))).trans e1⟩
  ·obtain⟨o',e1⟩:=I.base.there b o e hx
   exact⟨o',(hs.2 b (Nat.ne_of_lt (Nat.lt_of_lt_of_le (Heap.lt_size e) (I.ok.cab x c hfn hc)))).trans e1⟩
  ·by_cases hj:j=i
   ·subst hj
    rw[hi]at e1;cases e1
    rw[List.getElem?_set_self hiσ]at e2
    cases e2
    exact⟨u,r,.inr ⟨.inl hk,c,hc,hc'⟩⟩
   ·rw[List.getElem?_set_ne (Ne.symm hj)]at e2
    obtain⟨u',r',q⟩:=hl j y v' e1 e2 e3
    refine⟨u',r',?_⟩
    rcases q with q|⟨k,c',e,z'⟩
    ·exact .inl q
    ·refine .inr ⟨k,c',e,z'.sameBut hs ?_⟩
     rintro rfl
     exact hj (uZ hN e1 (I.ok.inj _ _ _ e hc▸hi))
  ·by_cases hcc:c'=c
   ·subst hcc;exact⟨_,hc'⟩
   ·obtain⟨w2,z2⟩:=I.cell y c' e
    exact⟨w2,z2.sameBut hs hcc⟩
  ·obtain⟨e,n,ne,nf,d⟩:=I.pin p hp
   refine⟨(hs.2 p.1 ?_).trans e,n,ne,nf,d⟩
   intro q
   rw[q,hoc]at e
   have q':oc=p.2:=Option.some.inj e
   exact d w' (by rw[<-q'];exact hocd)
theorem uH{M:Model}{A:Around}{E:Value->Shared->Prop}{i:Nat}{x:Str}{v:V}{u:Value}{Q:Unit->Shared->Prop}(I:Inv X pins σ H s)(hN:X.N.Nodup)(hi:X.N[i]?=some x)(hx:Loc X.env.scope x)(r:cR v u)
  (h:∀s',Inv X pins (σ.set i (some v)) H s'->Q () s') (hf:X.fn x=true\/X.env.scope.names.lookup x=some .local:=by first|exact .inl rfl|exact .inr rfl|assumption):wpAny M A (storeName X.env x u) Q E s:=
 rE I hN hi hx r (fun s' I' _=>h s' I') hf
theorem Inv.call'{s':Shared}{ch:List Addr}(I:Inv X pins σ H s)(ho:s'.os=s.os)(u:Un (frs X.stack) ch H H' s.heap s'.heap)(hok:HOk X.prog X.w H' s'.heap)(hg:AllBare s'.gens)
  (hch:∀b∈ch,(b∈X.ex\/X.s₀.heap.objs.size<=b)/\b≠X.env.locals/\(∀x c,X.env.cells.lookup x=some c->c≠b)/\∀p∈X.pn++pins,p.1≠b):Inv X pins σ H' s':=by
 obtain⟨h',g',d',t',o'⟩:=s'
 have e:o'=s.os:=ho
 subst e
 exact I.call (g':=g') (t':=t') (d':=d') u hok hg hch
end
abbrev XK:=Value->Option Addr->Hp->Prop
abbrev St:=List (Option V)
abbrev VK:=V->Hp->Prop
abbrev TE:=St->Hp->VK->Prop
abbrev TT:=St->Hp->(Bool->Hp->Prop)->Prop
abbrev TA:=St->Hp->(List V->Hp->Prop)->Prop
structure xc where
 nx:St->Hp->Prop
 rt:VK
 bk:St->Hp->Prop:=fun _ _=>False
 ct:St->Hp->Prop:=fun _ _=>False
abbrev TS:=xc->St->Hp->Prop
def EP(X:Cx)(pins:List (Addr×Obj))(σ:St)(Q:VK)(u:Value)(s':Shared):Prop:=∃v H',Inv X pins σ H' s'/\cR v u/\Q v H'
def TP(X:Cx)(pins:List (Addr×Obj))(σ:St)(Q:Bool->Hp->Prop)(b:Bool)(s':Shared):Prop:=∃H',Inv X pins σ H' s'/\Q b H'
def AP(X:Cx)(pins:List (Addr×Obj))(σ:St)(Q:List V->Hp->Prop)(us:List Value)(s':Shared):Prop:=∃vs H',Inv X pins σ H' s'/\bW vs us/\Q vs H'
def SP(X:Cx)(pins:List (Addr×Obj))(D:xc)(f:Flow)(s':Shared):Prop:=
 match f with
 |.next=>∃σ' H',Inv X pins σ' H' s'/\D.nx σ' H'
 |.brk=>∃σ' H',Inv X pins σ' H' s'/\D.bk σ' H'
 |.cont=>∃σ' H',Inv X pins σ' H' s'/\D.ct σ' H'
 |.ret u=>∃v σ' H',Inv X pins σ' H' s'/\cR v u/\D.rt v H'
def PE(X:Cx)(e:Expr)(t:TE):Prop:=
 ∀(pins:List (Addr×Obj)) (s:Shared) (σ:St) (H:Hp) (Q:VK),Inv X pins σ H s->t σ H Q->wpAny (model X.prog X.w) X.A (eval e X.env) (EP X pins σ Q) X.xe s
def PT(X:Cx)(e:Expr)(t:TT):Prop:=
 ∀(pins:List (Addr×Obj)) (s:Shared) (σ:St) (H:Hp) (Q:Bool->Hp->Prop),Inv X pins σ H s->t σ H Q->wpAny (model X.prog X.w) X.A (isTrue e X.env (eval e X.env)) (TP X pins σ Q) X.xe s
def PW(X:Cx)(e:Expr)(t:TT):Prop:=
 ∀(whole:Sem Value) (pins:List (Addr×Obj)) (s:Shared) (σ:St) (H:Hp) (Q:Bool->Hp->Prop),Inv X pins σ H s->t σ H Q->wpAny (model X.prog X.w) X.A (isTrue e X.env whole) (TP X pins σ Q) X.xe s
theorem PW.pt{X:Cx}{e:Expr}{t:TT}(h:PW X e t):PT X e t:=h _
def PA(X:Cx)(es:List Expr)(t:TA):Prop:=
 ∀(pos:Pos) (pins:List (Addr×Obj)) (s:Shared) (σ:St) (H:Hp) (Q:List V->Hp->Prop),Inv X pins σ H s->t σ H Q->wpAny (model X.prog X.w) X.A (spliced (backTo pos (starEach es X.env))) (AP X pins σ Q) X.xe s
def PS(X:Cx)(st:Stmt)(t:TS):Prop:=
 ∀(pins:List (Addr×Obj)) (s:Shared) (σ:St) (H:Hp) (D:xc),Inv X pins σ H s->t D σ H->wpAny (model X.prog X.w) X.A (exec st X.env) (SP X pins D) X.xe s
def PSs(X:Cx)(st:List Stmt)(t:TS):Prop:=
 ∀(pins:List (Addr×Obj)) (s:Shared) (σ:St) (H:Hp) (D:xc),Inv X pins σ H s->t D σ H->wpAny (model X.prog X.w) X.A (execs st X.env) (SP X pins D) X.xe s
theorem thn{α:Type}{t:Sem α}{Q Q':α->Shared->Prop}{M:Model}{A:Around}{E:Value->Shared->Prop}{s:Shared}(h:wpAny M A t Q E s)(hQ:∀a s,Q a s->Q' a s):wpAny M A t Q' E s:=wpAny_mono h hQ fun _ _ x=>x
section
variable{X:Cx}
def J6(i:Nat):TE:=fun σ H Q=>∃v,σ[i]?=some (some v)/\Q v H
def tC(v:V):TE:=fun _ H Q=>Q v H
theorem IE{i:Nat}{x:Str}{pos:Pos}(hN:X.N[i]?=some x)(hv:Vis X.env.scope x)(hd:(x == ("__debug__":Str))=false:=by decide)(hcd:(x == ("__classdict__":Str))=false:=by decide):PE X (.Name x pos) (J6 i):=by
 intro pins s σ H Q I h
 obtain⟨v,e,h⟩:=h
 obtain⟨m,hn,hl⟩:=I.loc
 obtain⟨u,r,l⟩:=hl i x v hN e hv
 have fin:EP X pins σ Q u s:=⟨v,H,I,r,h⟩
 rcases l with⟨hk,hm⟩|⟨hk,c,hc,hcell⟩
 ·exact wpAny_Name (wpAny_loadName_local I.ok.kind hk hn hm fin) hd
 ·rcases hk with hk|hk
  ·exact wpAny_Name (wpAny_loadName_cell I.ok.kind hk hc hcell fin) hd
  ·exact wpAny_Name (wpAny_loadName_free I.ok.kind hk hc hcell fin hcd) hd
theorem IK{i j pos}:PE X (.Constant (.int i) j pos) (tC (.int i)):=fun _ _ _ H _ I h=>wpAny_Constant_int ⟨.int i,H,I.tok _,⟨_,rfl⟩,h⟩
theorem LG{b j pos}:PE X (.Constant (.bool b) j pos) (tC (.bl b)):=fun _ _ _ H _ I h=>Constant_bool ⟨.bl b,H,I,rfl,h⟩
theorem IG{x j pos}:PE X (.Constant (.str x) j pos) (tC (.str x)):=fun _ _ _ H _ I h=>Calls.Constant_str ⟨.str x,H,I.tok _,⟨_,rfl⟩,h⟩
def Gl(X:Cx)(x:Str):Prop:=X.env.kindOf x=some .globalImplicit
theorem qm{E:Value->Shared->Prop}{pins:List (Addr×Obj)}{s:Shared}{σ:St}{H:Hp}{x:Str}{u:Value}{pos:Pos}{Q:Value->Shared->Prop}(I:Inv X pins σ H s)(hg:Gl X x)(hm:X.mg x=some u)(h:Q u s)
  (hd:(x == ("__debug__":Str))=false:=by decide):wpAny (model X.prog X.w) X.A (eval (.Name x pos) X.env) Q E s:=
 Calls.Name_function_global I.ok.kind hg (Calls.loadGlobal_global (by rw[I.ok.glob];exact I.mod.glob.keeps I.bk) hm h) hd
theorem nO{E:Value->Shared->Prop}{pins:List (Addr×Obj)}{s:Shared}{σ:St}{H:Hp}{x:Str}{u:Value}{pos:Pos}{Q:Value->Shared->Prop}(I:Inv X pins σ H s)(hg:Gl X x)(hm:X.mg x=none)(hv:bootBuiltins x=some u)(h:Q u s)
  (hn:x≠"__name__":=by decide) (hd:(x == ("__debug__":Str))=false:=by decide):wpAny (model X.prog X.w) X.A (eval (.Name x pos) X.env) Q E s:=by
 obtain⟨mb,h1,h2⟩:=I.mod.blt
 exact Calls.Name_function_global I.ok.kind hg (Calls.loadGlobal_builtin (by rw[I.ok.glob];exact I.mod.glob.keeps I.bk) hm (by rw[I.ok.blt];exact h1.keeps I.bk) ((h2 x hn).trans hv) h) hd
theorem E4{x:Str}{v:V}{u:Value}{pos:Pos}(hg:Gl X x)(hm:X.mg x=some u)(r:cR v u)(hd:(x == ("__debug__":Str))=false:=by decide):PE X (.Name x pos) (tC v):=
 fun _ _ _ H _ I h=>qm I hg hm ⟨v,H,I,r,h⟩ hd
theorem E8{x:Str}{v:V}{u:Value}{pos:Pos}(hg:Gl X x)(hm:X.mg x=none)(hv:bootBuiltins x=some u)(r:cR v u)(hn:x≠"__name__":=by decide)(hd:(x == ("__debug__":Str))=false:=by decide):PE X (.Name x pos) (tC v):=
 fun _ _ _ H _ I h=>nO I hg hm hv ⟨v,H,I,r,h⟩ hn hd
variable{a b:Expr}{ta tb:TE}{pos:Pos}
def PC(X:Cx)(op:CmpOp)(a b:Expr)(t:TE):Prop:=
 ∀(pins:List (Addr×Obj)) (s:Shared) (σ:St) (H:Hp) (Q:VK),Inv X pins σ H s->t σ H Q->
  wpAny (model X.prog X.w) X.A (eval a X.env) (fun v s₁=>wpAny (model X.prog X.w) X.A (eval b X.env) (fun u s₂=>wpAny (model X.prog X.w) X.A (compareOp op v u) (EP X pins σ Q) X.xe s₂) X.xe s₁) X.xe s
def tB(t:TE):TT:=fun σ H Q=>t σ H fun x H1=>∃c,x=.bl c/\Q c H1
theorem IM{op:CmpOp}{t:TE}(h:PC X op a b t)(h1:behindInMarks op b=false:=by first|exact nobehind _ (by decide) (by decide)|rfl):PE X (.Compare a [op] [b] pos) t:=fun pins s σ H Q I hw=>wpAny_Compare1 (h pins s σ H Q I hw) h1
theorem Ip{op:CmpOp}{t:TE}(h:PC X op a b t)(h1:behindInMarks op b=false:=by first|exact nobehind _ (by decide) (by decide)|rfl):PT X (.Compare a [op] [b] pos) (tB t):=by
 intro pins s σ H Q I hw
 refine wpAny_isTrue_Compare1 (thn (h pins s σ H _ I hw) fun v s1 h1=>thn h1 fun u s2 h2=>thn h2 fun c s3 hz=>?_) h1
 obtain⟨x,H1,I1,r1,q1⟩:=hz
 obtain⟨d,rfl,q⟩:=q1
 cases r1
 exact wpAny_truthy_bool ⟨H1,I1,q⟩
theorem Im{e:Expr}{t:TE}(h:PE X e t)(he:∀whole,isTrue e X.env whole=(do let v <-whole;standAt e.pos;holding [v] (truthy v)):=by intro _;rfl):PT X e (tB t):=by
 intro pins s σ H Q I hw
 refine isTrue_plain (thn (h pins s σ H _ I hw) fun v s1 ⟨x,H1,I1,r1,q1⟩=>?_) (he _)
 obtain⟨d,rfl,q⟩:=q1
 cases r1
 exact wpAny_truthy_bool ⟨H1,I1,q⟩
variable{tA tB':TT}{rest:List Expr}
def My(t u:TT):TT:=fun σ H Q=>t σ H fun c H1=>if c=true then u σ H1 Q else Q false H1
def tOr(t u:TT):TT:=fun σ H Q=>t σ H fun c H1=>if c=true then Q true H1 else u σ H1 Q
def Mt(t:TT):TT:=fun σ H Q=>t σ H fun c H1=>Q (!c) H1
theorem EK(ha:PT X a tA):PW X (.BoolOp .And [a] pos) tA:=by
 intro wh pins s σ H Q I h
 refine isTrue_and (thn (ha pins s σ H Q I h) fun c s1 e=>?_)
 cases c with
 |true=>exact isTrue_and_nil e
 |false=>exact e
theorem Ik(ha:PT X a tA):PW X (.BoolOp .Or [a] pos) tA:=by
 intro wh pins s σ H Q I h
 refine isTrue_or (thn (ha pins s σ H Q I h) fun c s1 e=>?_)
 cases c with
 |false=>exact isTrue_or_nil e
 |true=>exact e
theorem Il(ha:PT X a tA)(hb:PW X (.BoolOp .And (b::rest) pos) tB'):PW X (.BoolOp .And (a::b::rest) pos) (My tA tB'):=by
 intro wh pins s σ H Q I h
 refine isTrue_and (thn (ha pins s σ H _ I h) fun c s1 ⟨H1,I1,q1⟩=>?_)
 cases c with
 |true=>exact hb wh pins s1 σ H1 Q I1 q1
 |false=>exact⟨H1,I1,q1⟩
theorem Lx(ha:PT X a tA)(hb:PW X (.BoolOp .Or (b::rest) pos) tB'):PW X (.BoolOp .Or (a::b::rest) pos) (tOr tA tB'):=by
 intro wh pins s σ H Q I h
 refine isTrue_or (thn (ha pins s σ H _ I h) fun c s1 ⟨H1,I1,q1⟩=>?_)
 cases c with
 |true=>exact⟨H1,I1,q1⟩
 |false=>exact hb wh pins s1 σ H1 Q I1 q1
theorem Io(ha:PT X a tA):PT X (.UnaryOp .Not a pos) (Mt tA):=by
 intro pins s σ H Q I h
 exact isTrue_not (ha pins s σ H (fun c H1=>Q (!c) H1) I h)
def HW(ta tb:TE):TE:=fun σ H Q=>ta σ H fun x H1=>∃c,x=.bl c/\if c=true then tb σ H1 Q else Q (.bl false) H1
def Ms(ta tb:TE):TE:=fun σ H Q=>ta σ H fun x H1=>∃c,x=.bl c/\if c=true then Q (.bl true) H1 else tb σ H1 Q
def HM(ta:TE):TE:=fun σ H Q=>ta σ H fun x H1=>∃c,x=.bl c/\Q (.bl (!c)) H1
theorem IH{op}{t:TE}(h:PE X a t):PE X (.BoolOp op [a] pos) t:=fun pins s σ H Q I hw=>BoolOp_one (h pins s σ H Q I hw)
theorem IQ(ha:PE X a ta)(hb:PE X (.BoolOp .And (b::rest) pos) tb):PE X (.BoolOp .And (a::b::rest) pos) (HW ta tb):=by
 intro pins s σ H Q I h
 refine BoolOp_and (thn (ha pins s σ H _ I h) fun v s1 hz=>?_)
 obtain⟨x,H1,I1,r1,q1⟩:=hz
 obtain⟨c,rfl,q1⟩:=q1
 cases r1
 refine wpAny_truthy_bool ?_
 cases c with
 |true=>exact hb pins s1 σ H1 Q I1 q1
 |false=>exact⟨.bl false,H1,I1,rfl,q1⟩
theorem LB(ha:PE X a ta)(hb:PE X (.BoolOp .Or (b::rest) pos) tb):PE X (.BoolOp .Or (a::b::rest) pos) (Ms ta tb):=by
 intro pins s σ H Q I h
 refine BoolOp_or (thn (ha pins s σ H _ I h) fun v s1 hz=>?_)
 obtain⟨x,H1,I1,r1,q1⟩:=hz
 obtain⟨c,rfl,q1⟩:=q1
 cases r1
 refine wpAny_truthy_bool ?_
 cases c with
 |false=>exact hb pins s1 σ H1 Q I1 q1
 |true=>exact⟨.bl true,H1,I1,rfl,q1⟩
theorem II(ha:PE X a ta):PE X (.UnaryOp .Not a pos) (HM ta):=by
 intro pins s σ H Q I h
 refine UnaryOp_ (thn (ha pins s σ H _ I h) fun v s1 hz=>?_)
 obtain⟨x,H1,I1,r1,q1⟩:=hz
 obtain⟨c,rfl,q1⟩:=q1
 cases r1
 exact not_of (wpAny_truthy_bool ⟨.bl (!c),H1,I1,rfl,q1⟩)
end
def SqL(K:PySem.W.Frag)(H:Hp)(a:Addr)(xs:List V):Prop:=
 Rd H a (.lst xs)\/
  ∃(o:Obj) (its:Array Value) (n:Nat),K.lookup a=some o/\o.cls=.type "list"/\o.dict=none/\o.data=.seq its n/\its.size<=sizeLine/\bW xs its.toList
def SqT(K:PySem.W.Frag)(H:Hp)(a:Addr)(xs:List V):Prop:=
 Rd H a (.tup xs)\/
  ∃(o:Obj) (its:Array Value) (n:Nat),K.lookup a=some o/\o.cls=.type "tuple"/\o.data=.seq its n/\its.size<=sizeLine/\bW xs its.toList
def Nx:Value->Option V
 |.none=>some .non
 |.bool b=>some (.bl b)
 |.int i _=>some (.int i)
 |.str x _=>some (.str x)
 |.bytes b _=>some (.byt b)
 |.float b _=>some (.flt b)
 |.ref a=>some (.ref a)
 |.type n=>some (.ty n)
 |_=>none
theorem cR.abs{x:V}{u:Value}(r:cR x u):Nx u=some x:=by
 cases x with
 |non=>cases r;rfl
 |bl _=>cases r;rfl
 |int _=>obtain⟨t,rfl⟩:=r;rfl
 |str _=>obtain⟨t,rfl⟩:=r;rfl
 |byt _=>obtain⟨t,rfl⟩:=r;rfl
 |flt _=>obtain⟨t,rfl⟩:=r;rfl
 |ref _=>cases r;rfl
 |ty _=>cases r;rfl
theorem cR.inj{x y:V}{u:Value}(r:cR x u)(q:cR y u):x=y:=Option.some.inj (r.abs.symm.trans q.abs)
theorem bW.inj:∀{xs ys:List V} {us:List Value},bW xs us->bW ys us->xs=ys
 |_,_,_,.nil,.nil=>rfl
 |_,_,_,.cons r t,.cons r' t'=>by rw[r.inj r',bW.inj t t']
section
variable{X:Cx}{pins:List (Addr×Obj)}{σ:St}{H:Hp}{s:Shared}{a:Addr}{xs ys:List V}
theorem SqL.of{K:PySem.W.Frag}(h:H a=some (.lst xs)):SqL K H a xs:=.inl (.inl h)
theorem SqT.of{K:PySem.W.Frag}(h:H a=some (.tup xs)):SqT K H a xs:=.inl (.inl h)
theorem Inv.list(I:Inv X pins σ H s)(h:SqL X.K H a xs):∃its:List Value,bW xs its/\PlainL s.heap a its.toArray/\xs.length<=sizeLine:=by
 rcases h with h|⟨o,its,n,hk,hc,hd,hs,hz,r⟩
 ·obtain⟨z,its,n,r,e⟩:=h.ok I.hok
  exact⟨its,r,⟨_,n,e,rfl,rfl,rfl⟩,z⟩
 ·refine⟨its.toList,r,⟨o,n,I.kIn a o hk,hc,hd,by simpa using hs⟩,?_⟩
  have e:=r.length
  simp only[Array.length_toList]at e
  omega
theorem Inv.tuple(I:Inv X pins σ H s)(h:SqT X.K H a xs):∃its:List Value,bW xs its/\IsTup s.heap a its.toArray/\xs.length<=sizeLine:=by
 rcases h with h|⟨o,its,n,hk,hc,hs,hz,r⟩
 ·obtain⟨z,its,r,p⟩:=h.ok I.hok
  exact⟨its,r,p,z⟩
 ·refine⟨its.toList,r,⟨o,I.kIn a o hk,hc,n,by simpa using hs⟩,?_⟩
  have e:=r.length
  simp only[Array.length_toList]at e
  omega
theorem Inv.list_inj(I:Inv X pins σ H s)(h:SqL X.K H a xs)(h':SqL X.K H a ys):xs=ys:=by
 obtain⟨its,r,⟨o,n,e,_,_,d⟩,_⟩:=I.list h
 obtain⟨its',r',⟨o',n',e',_,_,d'⟩,_⟩:=I.list h'
 rw[e]at e';cases e'
 rw[d]at d'
 injection d' with d1 _
 have:its=its':=by simpa using congrArg Array.toList d1
 subst this
 exact r.inj r'
theorem Inv.tuple_inj(I:Inv X pins σ H s)(h:SqT X.K H a xs)(h':SqT X.K H a ys):xs=ys:=by
 obtain⟨its,r,⟨o,e,_,n,d⟩,_⟩:=I.tuple h
 obtain⟨its',r',⟨o',e',_,n',d'⟩,_⟩:=I.tuple h'
 rw[e]at e';cases e'
 rw[d]at d'
 injection d' with d1 _
 have:its=its':=by simpa using congrArg Array.toList d1
 subst this
 exact r.inj r'
end
abbrev Cx.wish(X:Cx)(E:Value->Shared->Prop):Cx:={ X with xe:=E }
abbrev Cx.nox(X:Cx):Cx:=X.wish fun _ _=>False
theorem Cx.Ok.wish{X:Cx}(ok:X.Ok)(E:Value->Shared->Prop):(X.wish E).Ok:=
 ⟨ok.mod,ok.kind,ok.glob,ok.blt,ok.above,ok.inj,ok.has,ok.cab,ok.hd,ok.frames,ok.stk,ok.exf,ok.bs,ok.bsz,ok.noex,ok.exfs,ok.funs,ok.frf⟩
theorem Cx.Ok.unwish{X:Cx}{E:Value->Shared->Prop}(ok:(X.wish E).Ok):X.Ok:=
 ⟨ok.mod,ok.kind,ok.glob,ok.blt,ok.above,ok.inj,ok.has,ok.cab,ok.hd,ok.frames,ok.stk,ok.exf,ok.bs,ok.bsz,ok.noex,ok.exfs,ok.funs,ok.frf⟩
section
variable{X:Cx}{pins:List (Addr×Obj)}{σ:St}{H:Hp}{s:Shared}{E:Value->Shared->Prop}
theorem Inv.wish(I:Inv X pins σ H s)(E:Value->Shared->Prop):Inv (X.wish E) pins σ H s:=⟨I.ok.wish E,I.os,I.bare,I.base,I.loc,I.cell,I.free,I.freeC,I.pin,I.hok,I.len⟩
theorem Inv.unwish(I:Inv (X.wish E) pins σ H s):Inv X pins σ H s:=⟨I.ok.unwish,I.os,I.bare,I.base,I.loc,I.cell,I.free,I.freeC,I.pin,I.hok,I.len⟩
theorem SP.unwish{D:xc}{f:Flow}{s':Shared}(h:SP (X.wish E) pins D f s'):SP X pins D f s':=by
 cases f with
 |next=>obtain⟨σ',H',I,q⟩:=h;exact⟨σ',H',I.unwish,q⟩
 |brk=>obtain⟨σ',H',I,q⟩:=h;exact⟨σ',H',I.unwish,q⟩
 |cont=>obtain⟨σ',H',I,q⟩:=h;exact⟨σ',H',I.unwish,q⟩
 |ret u=>obtain⟨v,σ',H',I,r,q⟩:=h;exact⟨v,σ',H',I.unwish,r,q⟩
theorem PSs.nox{st:List Stmt}{t:TS}(h:PSs X.nox st t):PSs X st t:=fun pins s σ H D I hw=>
 wpAny_mono (h pins s σ H D (I.wish _) hw) (fun _ _ q=>q.unwish) fun _ _ z=>False.elim z
end
section
variable{X:Cx}{st:Stmt}{rest:List Stmt}{t u:TS}{e:Expr}{te:TE}{pos:Pos}
def HN:TS:=fun D σ H=>D.nx σ H
def Mq(t u:TS):TS:=fun D σ H=>t { D with nx:=u D } σ H
theorem EN:PSs X [] HN:=fun _ _ σ H _ I h=>wpAny_execs_nil ⟨σ,H,I,h⟩
theorem Bk(h1:PS X st t)(h2:PSs X rest u):PSs X (st::rest) (Mq t u):=by
 intro pins s σ H D I h
 refine wpAny_execs_cons (thn (h1 pins s σ H { D with nx:=u D } I h) fun f s1 q=>?_)
 cases f with
 |next=>
  obtain⟨σ',H',I',q⟩:=q
  exact h2 pins s1 σ' H' D I' q
 |ret v=>exact q
 |brk=>exact q
 |cont=>exact q
theorem EM(h1:PS X st t):PSs X [st] t:=by
 intro pins s σ H D I h
 refine wpAny_execs_cons (thn (h1 pins s σ H D I h) fun f s1 q=>?_)
 cases f with
 |next=>exact wpAny_execs_nil q
 |ret v=>exact q
 |brk=>exact q
 |cont=>exact q
theorem Inv.quiet{pins:List (Addr×Obj)}{σ:St}{H:Hp}{s:Shared}(I:Inv X pins σ H s):interactive X.env=false:=by simp[interactive,I.ok.kind]
def HQ(te:TE):TS:=fun D σ H=>te σ H fun _ H1=>D.nx σ H1
theorem EO(he:PE X e te)(hs:swapsWith e none pos.line X.env=pure false:=by rfl):PS X (.Expr e pos) (HQ te):=by
 intro pins s σ H D I h
 exact wpAny_Expr_any (thn (he pins s σ H _ I h) fun v s1 ⟨x,H1,I1,r1,q1⟩=>⟨σ,H1,I1,q1⟩) I.quiet hs
def Mr(te:TE):TS:=fun D σ H=>te σ H D.rt
theorem Ir(he:PE X e te):PS X (.Return (some e) pos) (Mr te):=by
 intro pins s σ H D I h
 exact wpAny_Return_some (thn (he pins s σ H _ I h) fun v s1 ⟨x,H1,I1,r1,q1⟩=>⟨x,σ,H1,I1,r1,q1⟩)
def Mv(c:TT)(t u:TS):TS:=fun D σ H=>c σ H fun b H1=>if b=true then t D σ H1 else u D σ H1
theorem Ly{c:Expr}{a b:List Stmt}{tc:TT}(hc:PT X c tc)(ha:PSs X a t)(hb:PSs X b u):PS X (.If c a b pos) (Mv tc t u):=by
 intro pins s σ H D I h
 refine wpAny_If (thn (hc pins s σ H _ I h) fun d s1 ⟨H1,I1,q1⟩=>?_)
 cases d with
 |true=>exact ha pins s1 σ H1 D I1 q1
 |false=>exact hb pins s1 σ H1 D I1 q1
end
abbrev TG:=V->St->Hp->(St->Hp->Prop)->Prop
abbrev TGs:=List V->St->Hp->(St->Hp->Prop)->Prop
def PG(X:Cx)(target:Expr)(t:TG):Prop:=
 ∀(pins:List (Addr×Obj)) (s:Shared) (σ:St) (H:Hp) (v:V) (u:Value) (Q:St->Hp->Prop),Inv X pins σ H s->cR v u->t v σ H Q->
  wpAny (model X.prog X.w) X.A (assign target X.env u) (fun _ s'=>∃σ' H',Inv X pins σ' H' s'/\Q σ' H') X.xe s
def PGs(X:Cx)(ts:List Expr)(t:TGs):Prop:=
 ∀(pins:List (Addr×Obj)) (s:Shared) (σ:St) (H:Hp) (vs:List V) (us:List Value) (Q:St->Hp->Prop),Inv X pins σ H s->bW vs us->t vs σ H Q->
  wpAny (model X.prog X.w) X.A (assignInOrder ((assignEach ts X.env).map (·.2)) us) (fun _ s'=>∃σ' H',Inv X pins σ' H' s'/\Q σ' H') X.xe s
abbrev Kk:=V->V->V->Hp->(Hp->Prop)->Prop
def Mj(X:Cx)(t:Kk):Prop:=
 ∀(pins:List (Addr×Obj)) (s:Shared) (σ:St) (H:Hp) (o i v:V) (ov iv u:Value) (Q:Hp->Prop),Inv X pins σ H s->cR o ov->cR i iv->cR v u->t o i v H Q->
  wpAny (model X.prog X.w) X.A (setItem ov iv u) (fun _ s'=>∃H',Inv X pins σ H' s'/\Q H') X.xe s
section
variable{X:Cx}{pos:Pos}
def wI(i:Nat):TG:=fun v σ H Q=>Q (σ.set i (some v)) H
theorem EX{i:Nat}{x:Str}(hN:X.N.Nodup)(hi:X.N[i]?=some x)(hx:Loc X.env.scope x)(hf:X.fn x=true\/X.env.scope.names.lookup x=some .local:=by first|exact .inl rfl|exact .inr rfl|assumption):PG X (.Name x pos) (wI i):=by
 intro pins s σ H v u Q I r h
 exact wpAny_assign_Name (uH I hN hi hx r (fun s' I'=>⟨_,H,I',h⟩) hf)
def MR:TGs:=fun vs σ H Q=>vs=[]/\Q σ H
def JI(t:TG)(u:TGs):TGs:=fun vs σ H Q=>∃v r,vs=v::r/\t v σ H fun σ' H'=>u r σ' H' Q
theorem EW:PGs X [] MR:=by
 intro pins s σ H vs us Q I r h
 obtain⟨e,h⟩:=h
 subst e
 cases r
 exact assignInOrder_nil ⟨σ,H,I,h⟩
theorem Bp{e:Expr}{es:List Expr}{t:TG}{u:TGs}(h1:PG X e t)(h2:PGs X es u)
  (hs:(assignEach (e::es) X.env).map (·.2)=assign e X.env::(assignEach es X.env).map (·.2):=by rfl):PGs X (e::es) (JI t u):=by
 intro pins s σ H vs us Q I r h
 obtain⟨v,vr,e1,h⟩:=h
 subst e1
 cases r with
 |cons r rr=>
  rw[hs]
  refine assignInOrder_cons (thn (h1 pins s σ H _ _ _ I r h) fun _ s1 hz=>?_)
  obtain⟨σ1,H1,I1,q1⟩:=hz
  exact h2 pins s1 σ1 H1 _ _ Q I1 rr q1
def MP(K:PySem.W.Frag)(n:Nat)(t:TGs):TG:=fun v σ H Q=>∃a xs,v=.ref a/\SqT K H a xs/\xs.length=n/\t xs σ H Q
theorem IC{es:List Expr}{k:Nat}{t:TGs}{n:Nat}(hc:X.calm=true)(h:PGs X es t)
  (hn:(assignEach es X.env).length=n:=by rfl) (hst:(assignEach es X.env).findIdx? (·.1)=none:=by rfl):PG X (.Tuple es k pos) (MP X.K n t):=by
 intro pins s σ H v u Q I r hw
 obtain⟨a,xs,e1,hq,hl,hw⟩:=hw
 subst e1
 cases r
 obtain⟨its,rv,ht,hz⟩:=I.tuple hq
 refine assign_Tuple_tuple (I.ok.hd hc) ht (by simp[hn,<-hl,rv.length]) hst fun h' hx=>?_
 have I1:Inv X pins σ H { s with heap:=h' }:=I.kept (t':=s.toks) fun b o e=>hx b o (Nat.ne_of_lt (Heap.lt_size e)) e
 exact h pins _ σ H xs _ Q I1 (by simpa using rv) hw
def MQ(to ti:TE)(t:Kk):TG:=fun v σ H Q=>to σ H fun o H1=>ti σ H1 fun i H2=>t o i v H2 fun H3=>Q σ H3
theorem ID{o i:Expr}{to ti:TE}{t:Kk}(ho:PE X o to)(hi:PE X i ti)(hs:Mj X t)
  (ha:∀v,assign (.Subscript o i pos) X.env v=(do
   let ov <-holding [v] (eval o X.env)
   let iv <-holding [v,ov] (eval i X.env)
   standAt pos
   holding [v,ov,iv] (setItem ov iv v)
   release [v,ov,iv] []):=by intro _;rfl):PG X (.Subscript o i pos) (MQ to ti t):=by
 intro pins s σ H v u Q I r h
 rw[ha]
 refine wpAny_bind (wpAny_holding (thn (ho pins s σ H _ I h) fun ov s1 hz=>?_))
 obtain⟨x,H1,I1,r1,q1⟩:=hz
 refine wpAny_bind (wpAny_holding (thn (hi pins s1 σ H1 _ I1 q1) fun iv s2 hz=>?_))
 obtain⟨y,H2,I2,r2,q2⟩:=hz
 refine wpAny_bind (wpAny_standAt (wpAny_bind (wpAny_holding (thn (hs pins s2 σ H2 x y v ov iv u _ I2 r1 r2 r q2) fun _ s3 ⟨H3,I3,q3⟩=>?_))))
 exact wpAny_release ⟨σ,H3,I3,q3⟩
def HV(te:TE)(g:TG):TS:=fun D σ H=>te σ H fun x H1=>g x σ H1 D.nx
theorem Iy{tg e:Expr}{te:TE}{g:TG}(he:PE X e te)(hg:PG X tg g)(hs:swapsWithSole [tg] e pos.line X.env=pure false:=by rfl)(hw:swappedStores [tg] e X.env=pure none:=by rfl)
  (h1:(assignEach [tg] X.env).map (·.2)=[assign tg X.env]:=by rfl):PS X (.Assign [tg] e pos) (HV te g):=by
 intro pins s σ H D I h
 refine wpAny_Assign_stores (thn (he pins s σ H _ I h) fun v s1 hz=>?_) hs hw
 obtain⟨x,H1,I1,r1,q1⟩:=hz
 rw[h1]
 exact thn (hg pins s1 σ H1 x v _ I1 r1 q1) fun _ s2 q=>q
theorem Iq{i:Nat}{x:Str}{e:Expr}{te:TE}{pos':Pos}(hN:X.N.Nodup)(hi:X.N[i]?=some x)(hx:Loc X.env.scope x)(he:PE X e te)(hs:swapsWith e (some (.Name x pos')) pos.line X.env=pure false:=by rfl)(hf:X.fn x=true\/X.env.scope.names.lookup x=some .local:=by first|exact .inl rfl|exact .inr rfl|assumption) :
  PS X (.Assign [.Name x pos'] e pos) (HV te (wI i)):=by
 intro pins s σ H D I h
 refine wpAny_Assign_Name (thn (he pins s σ H _ I h) fun v s1 hz=>?_) hs
 obtain⟨y,H1,I1,r1,q1⟩:=hz
 exact uH I1 hN hi hx r1 (fun s2 I2=>⟨_,H1,I2,q1⟩) hf
end
structure It where
 go:Nat->Hp->Prop
 yld:Nat->Hp->V->Hp->Prop
 stop:Nat->Hp->Prop
def xb(X:Cx)(pins:List (Addr×Obj))(H:Hp)(b:Addr):Prop:=
 H b=none/\b≠X.env.locals/\b∉X.fs/\(b∈X.ex\/X.s₀.heap.objs.size<=b)/\(∀x c,X.env.cells.lookup x=some c->c≠b)/\∀p∈X.pn++pins,p.1≠b
theorem Inv.fpOk{X:Cx}{pins:List (Addr×Obj)}{σ:St}{H H':Hp}{s:Shared}{b:Addr}(I:Inv X pins σ H s)(hb:s.heap.objs.size<=b)(hn:H' b=none):xb X pins H' b:=by
 refine⟨hn,Nat.ne_of_gt (Nat.lt_of_lt_of_le I.lt hb),I.nofs hb,.inr (Nat.le_trans I.sz hb),fun x c e z=>?_,fun p hp z=>?_⟩
 ·obtain⟨v,q⟩:=I.cell x c e
  exact absurd (Nat.lt_of_lt_of_le q.lt (by rw[z];exact hb)) (Nat.lt_irrefl _)
 ·exact absurd (Nat.lt_of_lt_of_le (Heap.lt_size (I.pin p hp).1) (by rw[z];exact hb)) (Nat.lt_irrefl _)
structure Gm(P:Program)(w:World)(K:PySem.W.Frag)(tg:Expr)(J:It)(fp:List Addr)(it:Addr)(tn:Nat->Heap->Prop):Prop where
 mem:it∈fp
 obj:∀i h,tn i h->∀b∈fp,∃o,h.get? b=some o/\∀v,o.data≠.cell v
 keep:∀i h h',tn i h->(∀b∈fp,∀o,h.get? b=some o->h'.get? b=some o)->tn i h'
 item:∀(X:Cx),X.prog=P->X.w=w->X.K=K->X.calm=true->∀(i:Nat) (pins:List (Addr×Obj)) (s:Shared) (σ:St) (H:Hp) (E:Value->Shared->Prop),Inv X pins σ H s->(∀b∈fp,xb X pins H b)->tn i s.heap->J.go i H->
  wpAny (model P w) X.A (pyNext (.ref it)) (fun r s1=>∃u,r=some u/\
   wpAny (model P w) X.A (letOwnedTupleGo tg (.ref it) u) (fun _ s2=>∃x H',Inv X pins σ H' s2/\cR x u/\J.yld i H x H'/\tn (i+1) s2.heap/\∀b∈fp,H' b=none) E s1) E s
 done:∀(X:Cx),X.prog=P->X.w=w->X.K=K->X.calm=true->∀(i:Nat) (pins:List (Addr×Obj)) (s:Shared) (σ:St) (H:Hp) (E:Value->Shared->Prop),Inv X pins σ H s->(∀b∈fp,xb X pins H b)->tn i s.heap->J.stop i H->
  wpAny (model P w) X.A (pyNext (.ref it)) (fun r s1=>r=none/\Inv X pins σ H s1) E s
 self:∀(A:Around) (i:Nat) (s:Shared) (Q:Value->Shared->Prop) (E:Value->Shared->Prop),tn i s.heap->Q (.ref it) s->wpAny (model P w) A (pyIter (.ref it)) Q E s
abbrev TI:=St->Hp->(It->Hp->Prop)->Prop
def PIE(X:Cx)(pins:List (Addr×Obj))(σ:St)(tg:Expr)(R:It->Hp->Prop)(itv:Value)(s2:Shared):Prop:=
 ∃(it:Addr) (fp:List Addr) (tn:Nat->Heap->Prop) (J:It) (H':Hp),itv=.ref it/\Inv X pins σ H' s2/\Gm X.prog X.w X.K tg J fp it tn/\tn 0 s2.heap/\(∀b∈fp,xb X pins H' b)/\R J H'
def PI(X:Cx)(tg iter:Expr)(wi:TI):Prop:=
 ∀(pins:List (Addr×Obj)) (s:Shared) (σ:St) (H:Hp) (R:It->Hp->Prop),Inv X pins σ H s->wi σ H R->
  wpAny (model X.prog X.w) X.A (eval iter X.env) (fun v s1=>wpAny (model X.prog X.w) X.A (pyIter v) (PIE X pins σ tg R) X.xe s1) X.xe s
theorem zq {M : Model} {A : Around} {E : Value -> Shared -> Prop} {s : Shared} {tg : Expr} {it : Addr} {u : Value} {o : Obj} {n : String} {vs : Array Value} {Q : Unit -> Shared -> Prop} (ho : s.heap.get? it = some o) (hc : o.cls = .type n) (hd : o.data = .fields vs)
    (hn:["enumerate","zip","dict_itemiterator","dict_reverseitemiterator","odict_iterator","itertools.zip_longest","itertools.pairwise"].contains n=false) (hQ:Q () s):wpAny M A (letOwnedTupleGo tg (.ref it) u) Q E s:=by
  unfold letOwnedTupleGo
  cases tg<;>first
    |exact wpAny_pure hQ
    | (cases u <;> first
        |exact wpAny_pure hQ
        | (refine wpAny_bind (wpAny_load ho ?_)
           rw[hc,hd]
           show wpAny M A (if (["enumerate","zip","dict_itemiterator","dict_reverseitemiterator","odict_iterator","itertools.zip_longest","itertools.pairwise"].contains n&&vs[0]? == some (rawInt _))=true then _ else _) Q E s
           rw[if_neg (by intro h;rw[hn,Bool.false_and]at h;cases h)]
           exact wpAny_pure hQ))
def Itl(K:PySem.W.Frag)(a:Addr):It:=
 ⟨fun i H=>∃xs x,SqL K H a xs/\xs[i]?=some x,fun i H x H'=>H'=H/\∀xs,SqL K H a xs->xs[i]?=some x,fun i H=>∃xs,SqL K H a xs/\xs.length<=i⟩
def Itt(K:PySem.W.Frag)(a:Addr):It:=
 ⟨fun i H=>∃xs x,SqT K H a xs/\xs[i]?=some x,fun i H x H'=>H'=H/\∀xs,SqT K H a xs->xs[i]?=some x,fun i H=>∃xs,SqT K H a xs/\xs.length<=i⟩
def Itr(lo:Int)(n:Nat):It:=⟨fun i _=>i<n,fun i H x H'=>H'=H/\x=.int (lo+i),fun i _=>n<=i⟩
theorem xO{P:Program}{w:World}{K:PySem.W.Frag}{tg:Expr}(a it:Addr):Gm P w K tg (Itl K a) [it] it (fun i h=>h.IsListIter it a i) where
 mem:=by simp
 obj:=fun i h st b hb=>by
  have e:b=it:=by simpa using hb
  subst e
  obtain⟨o,e,c,d⟩:=st
  exact⟨o,e,fun v z=>by rw[d]at z;cases z⟩
 keep:=fun i h h' st k=>st.at fun o e=>k it (by simp) o e
 item:=by
  intro X hP hw hK hc i pins s σ H E I hf st hg
  subst hP hw hK
  obtain⟨xs,x,hq,hx⟩:=hg
  obtain⟨its,rv,p,hz⟩:=I.list hq
  obtain⟨u,hu,ru⟩:=rv.get hx
  obtain⟨f0,f1,f2,f3,f4,f5⟩:=hf it (by simp)
  refine wpAny_pyNext_list_item st p.isList (x:=u) (by simpa using hu) fun h' st' sb=>?_
  have I1:Inv X pins σ H { s with heap:=h' }:=I.turned (t':=s.toks) (fun b o hb e=>(sb.2 b hb).trans e) f0 f1 f3 f4 f5
  obtain⟨o,e,c,d⟩:=id st'
  exact⟨u,rfl,zq (s:={ s with heap:=h' }) e c d (by decide) ⟨x,H,I1,ru,⟨rfl,fun ys hy=>by rw[I.list_inj hy hq];exact hx⟩,st',fun b hb=>(hf b hb).1⟩⟩
 done:=by
  intro X hP hw hK hc i pins s σ H E I hf st hg
  subst hP hw hK
  obtain⟨xs,hq,hx⟩:=hg
  obtain⟨its,rv,p,hz⟩:=I.list hq
  obtain⟨f0,f1,f2,f3,f4,f5⟩:=hf it (by simp)
  have hl:=rv.length
  exact wpAny_pyNext_list_end (I.ok.hd hc) st p.isList (by simp;omega) fun h' eb=>⟨rfl,I.turned (t':=s.toks) (fun b o hb e=>eb b o hb e) f0 f1 f3 f4 f5⟩
 self:=fun _ _ _ _ _ st h=>wpAny_pyIter_listiter st h
theorem vS{P:Program}{w:World}{K:PySem.W.Frag}{tg:Expr}(a it:Addr):Gm P w K tg (Itt K a) [it] it (fun i h=>h.IsTupleIter it a i) where
 mem:=by simp
 obj:=fun i h st b hb=>by
  have e:b=it:=by simpa using hb
  subst e
  obtain⟨o,e,c,d⟩:=st
  exact⟨o,e,fun v z=>by rw[d]at z;cases z⟩
 keep:=fun i h h' st k=>st.at fun o e=>k it (by simp) o e
 item:=by
  intro X hP hw hK hc i pins s σ H E I hf st hg
  subst hP hw hK
  obtain⟨xs,x,hq,hx⟩:=hg
  obtain⟨its,rv,p,hz⟩:=I.tuple hq
  obtain⟨u,hu,ru⟩:=rv.get hx
  obtain⟨f0,f1,f2,f3,f4,f5⟩:=hf it (by simp)
  refine wpAny_pyNext_tuple_item st (show s.heap.IsTuple a its.toArray from p) (x:=u) (by simpa using hu) fun h' st' sb=>?_
  have I1:Inv X pins σ H { s with heap:=h' }:=I.turned (t':=s.toks) (fun b o hb e=>(sb.2 b hb).trans e) f0 f1 f3 f4 f5
  obtain⟨o,e,c,d⟩:=id st'
  exact⟨u,rfl,zq (s:={ s with heap:=h' }) e c d (by decide) ⟨x,H,I1,ru,⟨rfl,fun ys hy=>by rw[I.tuple_inj hy hq];exact hx⟩,st',fun b hb=>(hf b hb).1⟩⟩
 done:=by
  intro X hP hw hK hc i pins s σ H E I hf st hg
  subst hP hw hK
  obtain⟨xs,hq,hx⟩:=hg
  obtain⟨its,rv,p,hz⟩:=I.tuple hq
  obtain⟨f0,f1,f2,f3,f4,f5⟩:=hf it (by simp)
  have hl:=rv.length
  exact wpAny_pyNext_tuple_end (I.ok.hd hc) st (show s.heap.IsTuple a its.toArray from p) (by simp;omega) fun h' eb=>⟨rfl,I.turned (t':=s.toks) (fun b o hb e=>eb b o hb e) f0 f1 f3 f4 f5⟩
 self:=fun _ _ _ _ _ st h=>wpAny_pyIter_tupleiter st h
theorem vT{P:Program}{w:World}{K:PySem.W.Frag}{tg:Expr}(it:Addr)(lo:Int)(n:Nat):Gm P w K tg (Itr lo n) [it] it (fun i h=>IsRangeIter h it (lo+(i:Nat)*1) ((n:Int)-(i:Nat)) 1) where
 mem:=by simp
 obj:=fun i h st b hb=>by
  have e:b=it:=by simpa using hb
  subst e
  exact⟨_,st,fun v z=>by
   have z':Data.fields _=Data.cell v:=z
   cases z'⟩
 keep:=fun i h h' st k=>k it (by simp) _ st
 item:=by
  intro X hP hw hK hc i pins s σ H E I hf st hg
  subst hP hw hK
  obtain⟨f0,f1,f2,f3,f4,f5⟩:=hf it (by simp)
  have W:=Walks.range (prog:=X.prog) (w:=X.w) (I.ok.hd hc) it lo 1 n
  refine W.item i s _ _ hg st fun v h' tk hv st' kk=>?_
  obtain⟨t,rfl⟩:=hv
  have I1:Inv X pins σ H { s with heap:=h',toks:=tk }:=I.turned (fun b o hb e=>kk b o (by simpa using hb) e) f0 f1 f3 f4 f5
  refine⟨_,rfl,zq (s:={ s with heap:=h',toks:=tk }) (n:="range_iterator") st' rfl rfl (by decide) ⟨.int (lo+i),H,I1,⟨t,?_⟩,⟨rfl,rfl⟩,st',fun b hb=>(hf b hb).1⟩⟩
  rw[Int.mul_one]
 done:=by
  intro X hP hw hK hc i pins s σ H E I hf st hg
  subst hP hw hK
  obtain⟨f0,f1,f2,f3,f4,f5⟩:=hf it (by simp)
  exact wpAny_pyNext_range_end (I.ok.hd hc) st (by have:n<=i:=hg;omega) fun h' eb=>⟨rfl,I.turned (t':=s.toks) (fun b o hb e=>eb b o hb e) f0 f1 f3 f4 f5⟩
 self:=fun _ _ _ _ _ st h=>wpAny_pyIter_rangeiter st h
section
variable{X:Cx}{tg:Expr}
def JE(K:PySem.W.Frag)(tl:TE):TI:=fun σ H R=>tl σ H fun x H1=>∃a,x=.ref a/\(∃xs,SqL K H1 a xs)/\R (Itl K a) H1
def MO(K:PySem.W.Frag)(tl:TE):TI:=fun σ H R=>tl σ H fun x H1=>∃a,x=.ref a/\(∃xs,SqT K H1 a xs)/\R (Itt K a) H1
theorem EV{l:Expr}{tl:TE}(hl:PE X l tl):PI X tg l (JE X.K tl):=by
 intro pins s σ H R I h
 refine thn (hl pins s σ H _ I h) fun v s1 hz=>?_
 obtain⟨x,H1,I1,r1,q1⟩:=hz
 obtain⟨a,e,⟨xs,hq⟩,q⟩:=q1
 subst e
 cases r1
 obtain⟨its,rv,p,hz⟩:=I1.list hq
 refine wpAny_pyIter_list p.isList ?_
 refine⟨s1.heap.objs.size,[s1.heap.objs.size],_,_,H1,rfl,I1.kept (t':=s1.toks) fun b o e=>Heap.get?_push_of_some _ e,xO a _,⟨_,Heap.get?_push_size _ rfl,rfl,rfl⟩,fun b hb=>?_,q⟩
 have e:b=s1.heap.objs.size:=by simpa using hb
 subst e
 exact I1.fpOk (Nat.le_refl _) (I1.hok.fresh (Nat.le_refl _))
theorem IB{l:Expr}{tl:TE}(hl:PE X l tl):PI X tg l (MO X.K tl):=by
 intro pins s σ H R I h
 refine thn (hl pins s σ H _ I h) fun v s1 hz=>?_
 obtain⟨x,H1,I1,r1,q1⟩:=hz
 obtain⟨a,e,⟨xs,hq⟩,q⟩:=q1
 subst e
 cases r1
 obtain⟨its,rv,p,hz⟩:=I1.tuple hq
 refine wpAny_pyIter_tuple (show s1.heap.IsTuple a its.toArray from p) ?_
 refine⟨s1.heap.objs.size,[s1.heap.objs.size],_,_,H1,rfl,I1.kept (t':=s1.toks) fun b o e=>Heap.get?_push_of_some _ e,vS a _,⟨_,Heap.get?_push_size _ rfl,rfl,rfl⟩,fun b hb=>?_,q⟩
 have e:b=s1.heap.objs.size:=by simpa using hb
 subst e
 exact I1.fpOk (Nat.le_refl _) (I1.hok.fresh (Nat.le_refl _))
theorem A9{pins:List (Addr×Obj)}{σ:St}{H:Hp}{s:Shared}{R:It->Hp->Prop}{E:Value->Shared->Prop}{lo hi:Int}{t u v:Tok}{tk:Nat}(I:Inv X pins σ H s)(h1:-(2^62)<=lo)(h2:lo<2^62)(h3:-(2^62)<=hi)(h4:hi<2^62)
  (q:R (Itr lo (hi-lo).toNat) H):wpAny (model X.prog X.w) X.A (pyIter (.ref s.heap.objs.size)) (PIE X pins σ tg R) E { s with heap:=s.heap.push { cls:=.type "range",data:=.fields #[.int lo t,.int hi u,.int 1 v] },toks:=tk }:=by
 refine wpAny_pyIter_range (IsRange.new ..) (small_one h1 h2 h3 h4) ?_
 have I1:Inv X pins σ H { s with heap:=s.heap.push { cls:=.type "range",data:=.fields #[.int lo t,.int hi u,.int 1 v] },toks:=tk }:=I.kept fun b o e=>Heap.get?_push_of_some _ e
 refine⟨(s.heap.push { cls:=.type "range",data:=.fields #[.int lo t,.int hi u,.int 1 v] }).objs.size,[(s.heap.push { cls:=.type "range",data:=.fields #[.int lo t,.int hi u,.int 1 v] }).objs.size],_,_,H,rfl,
  I1.kept (t':=tk) fun b o e=>Heap.get?_push_of_some _ e,vT _ lo (hi-lo).toNat,?_,fun b hb=>?_,q⟩
 ·have e1:lo+((0:Nat):Int)*1=lo:=by simp
  have e2:(((hi-lo).toNat:Nat):Int)-((0:Nat):Int)=Builtin.Range.rangeSize lo hi 1:=by rw[rangeSize_one];split<;>omega
  show IsRangeIter _ _ (lo+((0:Nat):Int)*1) ((((hi-lo).toNat:Nat):Int)-((0:Nat):Int)) 1
  rw[e1,e2]
  exact Heap.get?_push_size _ rfl
 ·have e:b=(s.heap.push { cls:=.type "range",data:=.fields #[.int lo t,.int hi u,.int 1 v] }).objs.size:=by simpa using hb
  subst e
  exact I1.fpOk (Nat.le_refl _) (I1.hok.fresh (Nat.le_refl _))
def JD(ta:TA):TI:=fun σ H R=>ta σ H fun vs H1=>∃j:Int,vs=[.int j]/\-(2^62)<=j/\j<2^62/\R (Itr 0 j.toNat) H1
theorem yx{a:Expr}{ta:TA}{p pos:Pos}(hg:Gl X "range")(hm:X.mg "range"=none)(ha:PA X [a] ta)(hs:starEach [a] X.env=[(false,eval a X.env)]:=by rfl):PI X tg (.Call (.Name "range" p) [a] [] pos) (JD ta):=by
 intro pins s σ H R I h
 refine Call_ (nO I hg hm boot_range (PyProof.Rows.callWith_type1 (thn (ha pos pins s σ H _ I h) fun us s1 ⟨vs,H1,I1,r1,q1⟩=>?_) hs rfl))
 obtain⟨j,e,q1,q2,q⟩:=q1
 subst e
 cases r1 with
 |cons r rr=>
  cases rr
  obtain⟨t,rfl⟩:=r
  exact call_range_1 (A9 I1 (by omega) (by omega) q1 q2 (by simpa using q))
def HP(wi:TI)(g:TG)(tb:TS):TS:=fun D σ H=>wi σ H fun J H1=>∃W:Nat->Nat->St->Hp->Prop,(∃m,W 0 m σ H1)/\∀i m σ H,W i m σ H->
 (J.stop i H/\D.nx σ H)\/(J.go i H/\∃N:St->Hp->Prop,(∀σ' H',N σ' H'->∃m',m'<m/\W (i+1) m' σ' H')/\∀x H',J.yld i H x H'->g x σ H' fun σ2 H2=>tb { D with nx:=N,ct:=N,bk:=D.nx } σ2 H2)
def uS(fp:List Addr)(h:Heap):List (Addr×Obj):=fp.filterMap fun b=>(h.get? b).map fun o=>(b,o)
theorem fV{fp:List Addr}{h:Heap}{b:Addr}{o:Obj}(hb:b∈fp)(e:h.get? b=some o):(b,o)∈uS fp h:=List.mem_filterMap.mpr ⟨b,hb,by rw[e];rfl⟩
theorem yH{fp:List Addr}{h:Heap}{p:Addr×Obj}(hp:p∈uS fp h):p.1∈fp/\h.get? p.1=some p.2:=by
 obtain⟨b,hb,e⟩:=List.mem_filterMap.mp hp
 cases q:h.get? b with
 |none=>rw[q]at e;cases e
 |some o=>
  rw[q]at e
  have e':(b,o)=p:=Option.some.inj e
  subst e'
  exact⟨hb,q⟩
theorem Inv.pinned{pins:List (Addr×Obj)}{σ:St}{H:Hp}{s:Shared}{fp:List Addr}(I:Inv X pins σ H s)(hf:∀b∈fp,xb X pins H b)(ho:∀b∈fp,∃o,s.heap.get? b=some o/\∀v,o.data≠.cell v):Inv X (pins++uS fp s.heap) σ H s:=
 I.pins_of fun p hp=>(List.mem_append.mp hp).elim (fun z=>I.pin p (List.mem_append_right _ z)) fun z=>by
  obtain⟨hb,e⟩:=yH z
  obtain⟨f0,f1,f2,_⟩:=hf p.1 hb
  obtain⟨o,e',d⟩:=ho p.1 hb
  rw[e]at e';cases e'
  exact⟨e,f0,f1,f2,d⟩
theorem Inv.unpinned{pins pl:List (Addr×Obj)}{σ:St}{H:Hp}{s:Shared}(I:Inv X (pins++pl) σ H s):Inv X pins σ H s:=I.pins_of fun p hp=>I.pin p (List.mem_append_right _ (List.mem_append_left _ hp))
theorem Iu{iter:Expr}{body:List Stmt}{wi:TI}{g:TG}{tb:TS}{pos:Pos}(hp:PassesOwn (model X.prog X.w) X.A X.env X.xe)(hc:X.calm=true)(hi:PI X tg iter wi)(hg:PG X tg g)(hb:PSs X body tb)
  (hs:∀x,foldedSetIterable iter X.env x=pure x:=by intro _;rfl):PS X (.For tg iter body [] pos) (HP wi g tb):=by
 intro pins s σ H D I h
 refine wpAny_For (thn (hi pins s σ H _ I h) fun v s1 h1=>thn h1 fun itv s2 h2=>?_) hs
 obtain⟨it,fp,tn,J,H2,e,I2,T,st2,f2,W,⟨m0,w0⟩,turn⟩:=h2
 subst e
 have stat:∀{H':Hp},(∀b∈fp,H' b=none)->∀b∈fp,xb X pins H' b:=fun hn b hb=>⟨hn b hb,(f2 b hb).2⟩
 refine codeAny_forLoop_any (fun n s'=>∃i σ' H',Inv X pins σ' H' s'/\tn i s'.heap/\(∀b∈fp,H' b=none)/\W i n σ' H') ?_ m0 ⟨0,σ,H2,I2,st2,fun b hb=>(f2 b hb).1,w0⟩
 rintro n s3 ⟨i,σ3,H3,I3,st3,fr3,w3⟩
 rcases turn i n σ3 H3 w3 with⟨stop,qn⟩|⟨go,N,hN,step⟩
 ·refine wpAny_passesOwn hp (thn (T.done X rfl rfl rfl hc i pins s3 σ3 H3 X.xe I3 (stat fr3) st3 stop) fun r s4 ⟨hr,I4⟩=>?_)
  subst hr
  exact wpAny_execs_nil ⟨σ3,H3,I4,qn⟩
 ·refine wpAny_passesOwn hp (thn (T.item X rfl rfl rfl hc i pins s3 σ3 H3 X.xe I3 (stat fr3) st3 go) fun r s4 ⟨u,hr,h4⟩=>?_)
  subst hr
  refine wpAny_passesOwn hp (thn h4 fun _ s5 hz=>?_)
  obtain⟨x,H5,I5,r5,y5,st5,fr5⟩:=hz
  have I5':=I5.pinned (stat fr5) (T.obj _ _ st5)
  refine wpAny_passesOwn hp (thn (hg _ s5 σ3 H5 x u _ I5' r5 (step x H5 y5)) fun _ s6 hz=>?_)
  obtain⟨σ6,H6,I6,q6⟩:=hz
  refine wpAny_passesOwn hp (thn (hb _ s6 σ6 H6 _ I6 q6) fun f s7 q7=>?_)
  have again:∀{σ7:St} {H7:Hp},Inv X (pins++uS fp s5.heap) σ7 H7 s7->N σ7 H7->∃m,m<n/\∃i σ' H',Inv X pins σ' H' s7/\tn i s7.heap/\(∀b∈fp,H' b=none)/\W i m σ' H':=fun{σ7 H7} I7 n7=>by
   obtain⟨m',hm,w7⟩:=hN σ7 H7 n7
   refine⟨m',hm,i+1,σ7,H7,I7.unpinned,T.keep _ _ _ st5 fun b hb o e=>(I7.pin (b,o) (List.mem_append_right _ (List.mem_append_right _ (fV hb e)))).1,fun b hb=>?_,w7⟩
   obtain⟨o,e,d⟩:=T.obj _ _ st5 b hb
   exact(I7.pin (b,o) (List.mem_append_right _ (List.mem_append_right _ (fV hb e)))).2.1
  cases f with
  |next=>obtain⟨σ7,H7,I7,n7⟩:=q7;exact again I7 n7
  |cont=>obtain⟨σ7,H7,I7,n7⟩:=q7;exact again I7 n7
  |brk=>obtain⟨σ7,H7,I7,q7⟩:=q7;exact⟨σ7,H7,I7.unpinned,q7⟩
  |ret v=>obtain⟨x7,σ7,H7,I7,r7,q7⟩:=q7;exact⟨x7,σ7,H7,I7.unpinned,r7,q7⟩
end
abbrev R2:=V->V->Hp->VK->Prop
def OpR(X:Cx)(f:Value->Value->Sem Value)(r:R2):Prop:=
 ∀(pins:List (Addr×Obj)) (s:Shared) (σ:St) (H:Hp) (x y:V) (v u:Value) (Q:VK),Inv X pins σ H s->cR x v->cR y u->r x y H Q->
  wpAny (model X.prog X.w) X.A (f v u) (EP X pins σ Q) X.xe s
def UnR(X:Cx)(f:Value->Sem Value)(r:V->Hp->VK->Prop):Prop:=
 ∀(pins:List (Addr×Obj)) (s:Shared) (σ:St) (H:Hp) (x:V) (v:Value) (Q:VK),Inv X pins σ H s->cR x v->r x H Q->
  wpAny (model X.prog X.w) X.A (f v) (EP X pins σ Q) X.xe s
def gQ(X:Cx)(f:Value)(r:List V->Hp->VK->Prop):Prop:=
 ∀(pins:List (Addr×Obj)) (s:Shared) (σ:St) (H:Hp) (xs:List V) (us:List Value) (Q:VK),Inv X pins σ H s->bW xs us->r xs H Q->
  wpAny (model X.prog X.w) X.A (call f us) (EP X pins σ Q) X.xe s
def tOp(r:R2)(ta tb:TE):TE:=fun σ H Q=>ta σ H fun x H1=>tb σ H1 fun y H2=>r x y H2 Q
def tUn(r:V->Hp->VK->Prop)(ta:TE):TE:=fun σ H Q=>ta σ H fun x H1=>r x H1 Q
def rI(C:Int->Int->Prop)(g:Int->Int->V):R2:=fun x y H Q=>∃i j,x=.int i/\y=.int j/\C i j/\Q (g i j) H
def rI0(g:Int->Int->V):R2:=fun x y H Q=>∃i j,x=.int i/\y=.int j/\Q (g i j) H
def rU(g:Int->V):V->Hp->VK->Prop:=fun x H Q=>∃i,x=.int i/\Q (g i) H
section
variable{X:Cx}{a b c:Expr}{ta tb tc:TE}{pos:Pos}
theorem Mc(ha:PE X a ta)(hb:PE X b tb){pins:List (Addr×Obj)}{s:Shared}{σ:St}{H:Hp}{R:V->V->Hp->Prop}(I:Inv X pins σ H s)
  (h:ta σ H fun x H1=>tb σ H1 fun y H2=>R x y H2) {Q:Value->Shared->Prop} {f:Value->Value->Sem Value}
  (hf:∀v u s2 x y H2,Inv X pins σ H2 s2->cR x v->cR y u->R x y H2->wpAny (model X.prog X.w) X.A (f v u) Q X.xe s2) :
  wpAny (model X.prog X.w) X.A (eval a X.env) (fun v s₁=>wpAny (model X.prog X.w) X.A (eval b X.env) (fun u s₂=>wpAny (model X.prog X.w) X.A (f v u) Q X.xe s₂) X.xe s₁) X.xe s:=by
 refine thn (ha pins s σ H _ I h) fun v s1 hz=>?_
 obtain⟨x,H1,I1,r1,q1⟩:=hz
 refine thn (hb pins s1 σ H1 _ I1 q1) fun u s2 hz=>?_
 obtain⟨y,H2,I2,r2,q2⟩:=hz
 exact hf v u s2 x y H2 I2 r1 r2 q2
theorem LC{op:Operator}{r:R2}(ho:OpR X (binaryOp op) r)(ha:PE X a ta)(hb:PE X b tb):PE X (.BinOp a op b pos) (tOp r ta tb):=by
 intro pins s σ H Q I h
 exact wpAny_BinOp (Mc ha hb I h fun v u s2 x y H2 I2 rx ry q=>ho pins s2 σ H2 x y v u Q I2 rx ry q)
theorem LA{op:UnaryOp}{r:V->Hp->VK->Prop}(ho:UnR X (unaryOp op) r)(ha:PE X a ta):PE X (.UnaryOp op a pos) (tUn r ta):=by
 intro pins s σ H Q I h
 exact UnaryOp_ (thn (ha pins s σ H _ I h) fun v s1 ⟨x,H1,I1,r1,q1⟩=>ho pins s1 σ H1 x v Q I1 r1 q1)
theorem opI{f:Value->Value->Sem Value}{C:Int->Int->Prop}{g:Int->Int->Int}
  (rule:∀(i j:Int) (t u:Tok) (s:Shared) (Q:Value->Shared->Prop) (E:Value->Shared->Prop),C i j->Q (.int (g i j) s.toks) { s with toks:=s.toks+1 }->wpAny (model X.prog X.w) X.A (f (.int i t) (.int j u)) Q E s) :
  OpR X f (rI C fun i j=>.int (g i j)):=by
 intro pins s σ H x y v u Q I rx ry h
 obtain⟨i,j,rfl,rfl,hc,q⟩:=h
 obtain⟨t,rfl⟩:=rx
 obtain⟨t',rfl⟩:=ry
 exact rule i j t t' s _ _ hc ⟨.int (g i j),H,I.tok _,⟨_,rfl⟩,q⟩
theorem MD{f:Value->Value->Sem Value}{g:Int->Int->Int}
  (rule:∀(i j:Int) (t u:Tok) (s:Shared) (Q:Value->Shared->Prop) (E:Value->Shared->Prop),Q (.int (g i j) s.toks) { s with toks:=s.toks+1 }->wpAny (model X.prog X.w) X.A (f (.int i t) (.int j u)) Q E s) :
  OpR X f (rI0 fun i j=>.int (g i j)):=by
 intro pins s σ H x y v u Q I rx ry h
 obtain⟨i,j,rfl,rfl,q⟩:=h
 obtain⟨t,rfl⟩:=rx
 obtain⟨t',rfl⟩:=ry
 exact rule i j t t' s _ _ ⟨.int (g i j),H,I.tok _,⟨_,rfl⟩,q⟩
theorem Kc{f:Value->Value->Sem Value}{g:Int->Int->Bool}
  (rule:∀(i j:Int) (t u:Tok) (s:Shared) (Q:Value->Shared->Prop) (E:Value->Shared->Prop),Q (.bool (g i j)) s->wpAny (model X.prog X.w) X.A (f (.int i t) (.int j u)) Q E s) :
  OpR X f (rI0 fun i j=>.bl (g i j)):=by
 intro pins s σ H x y v u Q I rx ry h
 obtain⟨i,j,rfl,rfl,q⟩:=h
 obtain⟨t,rfl⟩:=rx
 obtain⟨t',rfl⟩:=ry
 exact rule i j t t' s _ _ ⟨.bl (g i j),H,I,rfl,q⟩
def GD(i j:Int):Prop:=0<=j/\j<=1000000/\i.natAbs<2^64
def DM(i j:Int):Prop:=(-(2^64)<i/\i<2^64)\/(-(2^64)<j/\j<2^64)
theorem DM.ok{i j:Int}(h:DM i j):IntMulOk i j:=by
 rcases h with⟨h1,h2⟩|⟨h1,h2⟩
 ·exact .of_left (intBits_le_64 h1 h2)
 ·exact .of_right (intBits_le_64 h1 h2)
theorem Ja:OpR X (binaryOp .Add) (rI0 fun i j=>.int (i+j)):=MD fun _ _ _ _ _ _ _ q=>add_int q
theorem uX:OpR X (binaryOp .Sub) (rI0 fun i j=>.int (i-j)):=MD fun _ _ _ _ _ _ _ q=>sub_int q
theorem kZ:OpR X (binaryOp .Mult) (rI DM fun i j=>.int (i*j)):=opI fun _ _ _ _ _ _ _ hc q=>mul_int q hc.ok
theorem nF:OpR X (binaryOp .Mod) (rI (fun _ j=>0<j) fun i j=>.int (i % j)):=opI fun i j _ _ _ _ _ hc q=>by
 have h1:(0:Int)<j:=hc
 exact mod_int' (by omega) (by rw[Int.fmod_eq_emod_of_nonneg i (by omega)];exact q)
theorem Dg:OpR X (binaryOp .Pow) (rI GD fun i j=>.int (i^j.toNat)):=opI fun _ _ _ _ _ _ _ hc q=>pow_int_small hc.1 hc.2.1 hc.2.2 q
theorem unI{f:Value->Sem Value}{g:Int->Int}
  (rule:∀(i:Int) (t:Tok) (s:Shared) (Q:Value->Shared->Prop) (E:Value->Shared->Prop),Q (.int (g i) s.toks) { s with toks:=s.toks+1 }->wpAny (model X.prog X.w) X.A (f (.int i t)) Q E s) :
  UnR X f (rU fun i=>.int (g i)):=by
 intro pins s σ H x v Q I rx h
 obtain⟨i,rfl,q⟩:=h
 obtain⟨t,rfl⟩:=rx
 exact rule i t s _ _ ⟨.int (g i),H,I.tok _,⟨_,rfl⟩,q⟩
theorem CV:UnR X (unaryOp .USub) (rU fun i=>.int (-i)):=unI fun _ _ _ _ _ q=>neg_int q
end
def Ll:V->V->Bool
 |.non,.non=>true|.non,.int _=>true|.int _,.non=>true|.non,.bl _=>true|.bl _,.non=>true|.non,.str _=>true|.str _,.non=>true
 |.int _,.int _=>true|.bl _,.bl _=>true|.str _,.str _=>true|.byt _,.byt _=>true
 |.int _,.str _=>true|.str _,.int _=>true|.bl _,.str _=>true|.str _,.bl _=>true
 |_,_=>false
def rEq:R2:=fun x y H Q=>Ll x y=true/\Q (.bl (decide (x=y))) H
def rNe:R2:=fun x y H Q=>Ll x y=true/\Q (.bl (!decide (x=y))) H
theorem zR{i j:Int}:decide (V.int i=V.int j)=(i == j):=by
 rw[Bool.eq_iff_iff]
 simp
theorem DC{i j:Bool}:decide (V.bl i=V.bl j)=(i == j):=by
 rw[Bool.eq_iff_iff]
 simp
theorem zQ{i j:Str}:decide (V.str i=V.str j)=(i == j):=by
 rw[Bool.eq_iff_iff]
 simp
theorem zS{i j:Array UInt8}:decide (V.byt i=V.byt j)=(i.toList == j.toList):=by
 rw[Bool.eq_iff_iff]
 cases i
 cases j
 simp
section
variable{X:Cx}{a b c:Expr}{ta tb tc:TE}{pos:Pos}
theorem bR{pins:List (Addr×Obj)}{σ:St}{H:Hp}{s:Shared}{Q:VK}{k k':Bool}(I:Inv X pins σ H s)(q:Q (.bl k) H)(e:k=k'):EP X pins σ Q (.bool k') s:=by
 subst e
 exact⟨.bl k,H,I,rfl,q⟩
theorem lh:OpR X (compareOp .Eq) rEq:=by
 intro pins s σ H x y v u Q I rx ry h
 obtain⟨hs,q⟩:=h
 cases x with
 |non=>
  cases rx
  cases y with
  |non=>cases ry;exact PySem.EqNone.eq_none_none (bR I q (by simp))
  |bl j=>cases ry;exact PySem.EqNone.eq_none_bool (bR I q (by simp))
  |int j=>obtain⟨t',rfl⟩:=ry;exact PySem.EqNone.eq_none_int (bR I q (by simp))
  |str j=>obtain⟨t',rfl⟩:=ry;exact PySem.EqNone.eq_none_str (bR I q (by simp))
  |_=>exact absurd (show false=true from hs) Bool.false_ne_true
 |bl i=>
  cases rx
  cases y with
  |non=>cases ry;exact PySem.EqNone.eq_bool_none (bR I q (by simp))
  |bl j=>cases ry;exact eq_bool (bR I q DC)
  |str j=>obtain⟨t',rfl⟩:=ry;exact PySem.EqMixed.eq_bool_str (bR I q (by simp))
  |_=>exact absurd (show false=true from hs) Bool.false_ne_true
 |int i=>
  obtain⟨t,rfl⟩:=rx
  cases y with
  |non=>cases ry;exact PySem.EqNone.eq_int_none (bR I q (by simp))
  |int j=>obtain⟨t',rfl⟩:=ry;exact eq_int (bR I q zR)
  |str j=>obtain⟨t',rfl⟩:=ry;exact PySem.EqMixed.eq_int_str (bR I q (by simp))
  |_=>exact absurd (show false=true from hs) Bool.false_ne_true
 |str i=>
  obtain⟨t,rfl⟩:=rx
  cases y with
  |non=>cases ry;exact PySem.EqNone.eq_str_none (bR I q (by simp))
  |bl j=>cases ry;exact PySem.EqMixed.eq_str_bool (bR I q (by simp))
  |int j=>obtain⟨t',rfl⟩:=ry;exact PySem.EqMixed.eq_str_int (bR I q (by simp))
  |str j=>obtain⟨t',rfl⟩:=ry;exact eq_str (bR I q zQ)
  |_=>exact absurd (show false=true from hs) Bool.false_ne_true
 |byt i=>
  obtain⟨t,rfl⟩:=rx
  cases y with
  |byt j=>obtain⟨t',rfl⟩:=ry;exact PySem.W.eq_bytes (bR I q zS)
  |_=>exact absurd (show false=true from hs) Bool.false_ne_true
 |_=>cases y<;>exact absurd (show false=true from hs) Bool.false_ne_true
theorem vZ:OpR X (compareOp .NotEq) rNe:=by
 intro pins s σ H x y v u Q I rx ry h
 obtain⟨hs,q⟩:=h
 cases x with
 |non=>
  cases rx
  cases y with
  |non=>cases ry;exact PySem.EqNone.ne_none_none (bR I q (by simp))
  |bl j=>cases ry;exact PySem.EqNone.ne_none_bool (bR I q (by simp))
  |int j=>obtain⟨t',rfl⟩:=ry;exact PySem.EqNone.ne_none_int (bR I q (by simp))
  |str j=>obtain⟨t',rfl⟩:=ry;exact PySem.EqNone.ne_none_str (bR I q (by simp))
  |_=>exact absurd (show false=true from hs) Bool.false_ne_true
 |bl i=>
  cases rx
  cases y with
  |non=>cases ry;exact PySem.EqNone.ne_bool_none (bR I q (by simp))
  |bl j=>cases ry;exact ne_bool (bR I q (congrArg not DC))
  |str j=>obtain⟨t',rfl⟩:=ry;exact PySem.EqMixed.ne_bool_str (bR I q (by simp))
  |_=>exact absurd (show false=true from hs) Bool.false_ne_true
 |int i=>
  obtain⟨t,rfl⟩:=rx
  cases y with
  |non=>cases ry;exact PySem.EqNone.ne_int_none (bR I q (by simp))
  |int j=>obtain⟨t',rfl⟩:=ry;exact ne_int (bR I q (congrArg not zR))
  |str j=>obtain⟨t',rfl⟩:=ry;exact PySem.EqMixed.ne_int_str (bR I q (by simp))
  |_=>exact absurd (show false=true from hs) Bool.false_ne_true
 |str i=>
  obtain⟨t,rfl⟩:=rx
  cases y with
  |non=>cases ry;exact PySem.EqNone.ne_str_none (bR I q (by simp))
  |bl j=>cases ry;exact PySem.EqMixed.ne_str_bool (bR I q (by simp))
  |int j=>obtain⟨t',rfl⟩:=ry;exact PySem.EqMixed.ne_str_int (bR I q (by simp))
  |str j=>obtain⟨t',rfl⟩:=ry;exact ne_str (bR I q (congrArg not zQ))
  |_=>exact absurd (show false=true from hs) Bool.false_ne_true
 |byt i=>
  obtain⟨t,rfl⟩:=rx
  cases y with
  |byt j=>obtain⟨t',rfl⟩:=ry;exact PySem.W.ne_bytes (bR I q (congrArg not zS))
  |_=>exact absurd (show false=true from hs) Bool.false_ne_true
 |_=>cases y<;>exact absurd (show false=true from hs) Bool.false_ne_true
theorem BJ:OpR X (compareOp .Lt) (rI0 fun i j=>.bl (decide (i<j))):=Kc fun _ _ _ _ _ _ _ q=>lt_int q
theorem IY:OpR X (compareOp .LtE) (rI0 fun i j=>.bl (decide (i<=j))):=Kc fun _ _ _ _ _ _ _ q=>le_int q
theorem Fh:OpR X (compareOp .Gt) (rI0 fun i j=>.bl (decide (j<i))):=Kc fun _ _ _ _ _ _ _ q=>gt_int q
theorem LK:OpR X (compareOp .GtE) (rI0 fun i j=>.bl (decide (j<=i))):=Kc fun _ _ _ _ _ _ _ q=>ge_int q
theorem OpR.or{f:Value->Value->Sem Value}{r r':R2}(h:OpR X f r)(h':OpR X f r'):OpR X f (fun x y H Q=>r x y H Q\/r' x y H Q):=by
 intro pins s σ H x y v u Q I rx ry q
 rcases q with q|q
 ·exact h pins s σ H x y v u Q I rx ry q
 ·exact h' pins s σ H x y v u Q I rx ry q
theorem bA(b:Expr){op:CmpOp}(h:op≠.In:=by decide)(h2:op≠.NotIn:=by decide):behindInMarks op b=false:=by
 have e1:(op == CmpOp.In)=false:=by cases op<;>first|rfl|exact absurd rfl h
 have e2:(op == CmpOp.NotIn)=false:=by cases op<;>first|rfl|exact absurd rfl h2
 cases b<;>simp[behindInMarks,e1,e2]
theorem E6{op:CmpOp}{r:R2}(ho:OpR X (compareOp op) r)(ha:PE X a ta)(hb:PE X b tb)(hm:behindInMarks op b=false):PE X (.Compare a [op] [b] pos) (tOp r ta tb):=by
 intro pins s σ H Q I h
 exact wpAny_Compare1 (Mc ha hb I h fun v u s2 x y H2 I2 rx ry q=>ho pins s2 σ H2 x y v u Q I2 rx ry q) hm
def HK(t:TE):TT:=fun σ H Q=>t σ H fun x H'=>∃k,x=.bl k/\Q k H'
theorem EL{op:CmpOp}{r:R2}(ho:OpR X (compareOp op) r)(ha:PE X a ta)(hb:PE X b tb)(hm:behindInMarks op b=false):PT X (.Compare a [op] [b] pos) (HK (tOp r ta tb)):=by
 intro pins s σ H Q I h
 refine wpAny_isTrue_Compare1 (thn (ha pins s σ H _ I h) fun v s1 ⟨x,H1,I1,r1,q1⟩=>thn (hb pins s1 σ H1 _ I1 q1) fun u s2 ⟨y,H2,I2,r2,q2⟩=>
  thn (ho pins s2 σ H2 x y v u _ I2 r1 r2 q2) fun c s3 ⟨z,H3,I3,r3,k,e,q3⟩=>?_) hm
 subst e
 cases r3
 exact wpAny_truthy_bool ⟨H3,I3,q3⟩
def xU(r r':R2)(ta tb tc:TE):TE:=fun σ H Q=>ta σ H fun x H1=>tb σ H1 fun y H2=>r x y H2 fun z H3=>∃k,z=.bl k/\
 (if k=true then tc σ H3 fun w' H4=>r' y w' H4 Q else Q (.bl false) H3)
theorem Bw{op op':CmpOp}{r r':R2}(ho:OpR X (compareOp op) r)(ho':OpR X (compareOp op') r')(ha:PE X a ta)(hb:PE X b tb)(hc:PE X c tc)
  (hm:lastMarks [op,op'] [b,c]=false:=by with_unfolding_all rfl):PE X (.Compare a [op,op'] [b,c] pos) (xU r r' ta tb tc):=by
 intro pins s σ H Q I h
 refine Compare_chain (thn (ha pins s σ H _ I h) fun v s1 ⟨x,H1,I1,r1,q1⟩=>chain_link (thn (hb pins s1 σ H1 _ I1 q1) fun u s2 ⟨y,H2,I2,r2,q2⟩=>
  thn (ho pins s2 σ H2 x y v u _ I2 r1 r2 q2) fun d s3 ⟨z,H3,I3,r3,k,e,q3⟩=>?_)) hm
 subst e
 cases r3
 refine wpAny_truthy_bool ?_
 cases k with
 |false=>exact ite_ff ⟨.bl false,H3,I3,rfl,q3⟩
 |true=>exact ite_tt (chain_last (thn (hc pins s3 σ H3 _ I3 q3) fun w' s4 ⟨z',H4,I4,r4,q4⟩=>ho' pins s4 σ H4 y z' u w' Q I4 r2 r4 q4))
theorem va:(sizeLine:Nat)<2^63:=by rw[sizeLine_eq];decide
theorem wa:OpR X (binaryOp .Add) (fun x y H Q=>∃i j,x=.str i/\y=.str j/\i.length+j.length<=sizeLine/\Q (.str (i++j)) H):=by
 intro pins s σ H x y v u Q I rx ry h
 obtain⟨i,j,rfl,rfl,hz,q⟩:=h
 obtain⟨t,rfl⟩:=rx
 obtain⟨t',rfl⟩:=ry
 exact add_str (fun t' tk=>⟨.str (i++j),H,I.tok _,⟨_,rfl⟩,q⟩) hz
theorem m7{x:V}{us:List Value}(r:bW [x] us):∃u,us=[u]/\cR x u:=by
 cases r with
 |cons r1 r2=>cases r2;exact⟨_,rfl,r1⟩
theorem HI{x y:V}{us:List Value}(r:bW [x,y] us):∃u w',us=[u,w']/\cR x u/\cR y w':=by
 cases r with
 |cons r1 r2=>
  cases r2 with
  |cons r3 r4=>cases r4;exact⟨_,_,rfl,r1,r3⟩
theorem z6:gQ X (.type "int") (fun xs H Q=>(∃i,xs=[.int i]/\Q (.int i) H)\/∃k,xs=[.bl k]/\Q (.int (if k then 1 else 0)) H):=by
 intro pins s σ H xs us Q I r h
 rcases h with⟨i,rfl,q⟩|⟨k,rfl,q⟩
 ·obtain⟨u,rfl,t,rfl⟩:=m7 r
  exact call_int_int ⟨.int i,H,I,⟨_,rfl⟩,q⟩
 ·obtain⟨u,rfl,r1⟩:=m7 r
  cases r1
  exact call_int_bool ⟨.int (if k then 1 else 0),H,I.tok _,⟨_,rfl⟩,q⟩
end
structure Gq(h:Heap)(x dx C:Addr)(mA:Str->Option Value):Prop where
 obj:h.get? x=some (PySem.W.instObj C dx)
 ns:h.Ns1 dx mA
 ne:dx≠x
theorem yU{h:Heap}{dx:Addr}{mA:Str->Option Value}(n:h.Ns1 dx mA):∃od,h.get? dx=some od/\∀name,PySem.W.lookIn name od=some (mA name):=by
 obtain⟨o,es,ep,ho,hd,hk,_,hm⟩:=n
 refine⟨o,ho,fun name=>?_⟩
 have e:=hm name
 unfold nsFind findBy at e
 rw[<-Array.find?_toList]at e
 unfold PySem.W.lookIn
 rw[hd]
 dsimp only
 split
 ·rename_i y q
  rw[q]at e
  exact congrArg some e
 ·rename_i q
  rw[q]at e
  have a:es.toList.any (·.refKey)=false:=by
   rw[List.any_eq_false]
   intro y hy
   obtain⟨z,t,hkey⟩:=hk y (Array.mem_toList_iff.mp hy)
   simp[DictEntry.refKey,hkey]
  have a':¬es.toList.any (·.refKey)=true:=by rw[a];exact Bool.false_ne_true
  rw[if_neg a']
  exact congrArg some e
theorem Gq.look{h:Heap}{x dx C:Addr}{mA:Str->Option Value}(I:Gq h x dx C mA):∃od,PySem.W.InstAt h x (PySem.W.instObj C dx) C (some od)/\∀name,PySem.W.lookIn name od=some (mA name):=
 let ⟨od,ho,hl⟩:=yU I.ns
 ⟨od,⟨I.obj,rfl,rfl,ho⟩,hl⟩
section
variable{prog:Program}{w:World}{A:Around}{E:Value->Shared->Prop}{s:Shared}{K:PySem.W.Frag}{x dx C f:Addr}{mA:Str->Option Value}{name:Str}{v:Value}
theorem FP{expr:Bool}{Q:Value->Shared->Prop}(X:K.In s.heap)(I:Gq s.heap x dx C mA)(hg:PySem.W.plainGet K C name=true)(hh:PySem.W.hasDictIn K C=true)
  (ha:PySem.W.findIn K (.ref C) name=some none) (hv:mA name=some v) (hv':PySem.W.handedIn v=true) (h:Q v { s with toks:=s.toks+1 }) :
  wpAny (model prog w) A (getAttr (.ref x) name expr) Q E s:=by
 obtain⟨od,J,hl⟩:=I.look
 exact PySem.W.get_value X J (PySem.W.plainGet_of hg).1 (PySem.W.findObj_own hh ha rfl (by rw[hl,hv])) hv' h
theorem Ca{pl:Sem Bool}{Q:Value×List Value->Shared->Prop}(X:K.In s.heap)(I:Gq s.heap x dx C mA)(hg:PySem.W.plainGet K C name=true)
  (hf:PySem.W.findIn K (.ref C) name=some (some (.ref f))) (ht:PySem.W.isFn K (.ref f)=true) (hv:mA name=none) (h:Q (.ref f,[.ref x]) s) :
  wpAny (model prog w) A (getMethod (.ref x) name pl) Q E s:=by
 obtain⟨od,J,hl⟩:=I.look
 exact PySem.W.method_fn X J (PySem.W.plainGet_of hg).1 (PySem.W.plainGet_of hg).2 hf (beq_iff_eq.mp ht) (by show(PySem.W.lookIn name od).map (·.isSome)=some false;rw[hl,hv];rfl) h
theorem EA{ns:List Str}{Q:Unit->Shared->Prop}(X:K.In s.heap)(I:Gq s.heap x dx C mA)
  (hs:PySem.W.findIn K (.ref C) "__setattr__"=some (some (.builtin "object.__setattr__"))) (hp:PySem.W.plainOver K C=true) (ht:PySem.W.takerIn K C name=some none) (hh:PySem.W.hasDictIn K C=true)
  (hw:PySem.Within mA ns) (hsz:ns.length<=sizeLine)
  (h:∀h',Gq h' x dx C (fun y=>if y=name then some v else mA y)->Heap.SameBut dx s.heap h'->Q () { s with heap:=h',toks:=s.toks+2 }) :
  wpAny (model prog w) A (setAttr (.ref x) name v) Q E s:=by
 obtain⟨od,J,hl⟩:=I.look
 refine PySem.W.set_plain X J hs (PySem.W.osa_open (s:={ s with toks:=s.toks+1 }) (r:=none) X J hp ht fun b=>?_)
 obtain⟨cd,hc,hd'⟩:=PySem.W.any_some hh
 have hx:s.heap.get? x=some ⟨.ref C,some dx,.plain,#[]⟩:=I.obj
 refine wpAny_bind (wpAny_pure (wpAny_bind (wpAny_bind (wpAny_loadPart hx (wpAny_bind (PySem.W.Looks.here (s:={ s with toks:=s.toks+1 }) (PySem.W.looks_clsIn X hc) ?_))))))
 rw[hd']
 refine wpAny_pure (a:=some dx) (wpAny_bind (wpAny_pure (wpAny_bind ?_)))
 refine wpAny_nsSet1 (s:={ s with toks:=s.toks+1 }) I.ns fun h' hn2 hs2=>?_
 obtain⟨oD,esD,epD,hoD,hdD,hcD⟩:=hn2.count (PySem.Within.cons name v hw)
 refine wpAny_bind (wpAny_lookBehind hoD (by rw[hdD];exact pastItsLine_dict (Nat.le_trans hcD (by rw[List.length_cons];omega))) ?_)
 exact wpAny_pure (h _ ⟨(hs2.2 _ (Ne.symm I.ne)).trans I.obj,hn2,I.ne⟩ hs2)
theorem BU{R:Result->Shared->Prop}{vs:List Value}{kw:List (Str×Value)}(X:K.In s.heap)(hm:PySem.W.makesIn K C=true)
  (hi:PySem.W.findIn K (.ref C) "__init__"=some (some (.ref f))) (hf:PySem.W.typeIn K (.ref f)=some (.type "function"))
  (h:codeAny (model prog w) (A.under (.builtin "type.__call__" ⟨.ref C::vs,kw⟩)) (.call (.ref f) ⟨.ref (s.heap.objs.size+1)::vs,kw⟩) (PySem.W.InitBack (s.heap.objs.size+1) R)
   { s with heap:=(s.heap.push PySem.W.emptyDict).push (PySem.W.instObj C s.heap.objs.size) }) :
  codeAny (model prog w) A (.call (.ref C) ⟨vs,kw⟩) R s:=by
 obtain⟨hh,g,d,t,os⟩:=s
 exact PySem.W.make_core (PySem.W.makes_of X hm) (PySem.W.looks_findIn X hi) (fun self=>PySem.W.bind_fn X self hf) (.inl rfl) h
end
def oH(f:Str)(v:V):List (Str×V)->List (Str×V)
 |[]=>[(f,v)]
 |(g,x)::r=>if g=f then(g,v)::r else(g,x)::oH f v r
theorem ky(f g:Str)(v:V):∀fs:List (Str×V),(oH f v fs).lookup g=if g=f then some v else fs.lookup g
 |[]=>by
  show List.lookup g [(f,v)]=_
  by_cases h:g=f
  ·have hb:(g == f)=true:=beq_iff_eq.mpr h
   simp only[List.lookup,hb,if_pos h]
  ·have hb:(g == f)=false:=beq_eq_false_iff_ne.mpr h
   simp only[List.lookup,hb,if_neg h]
 |(k,x)::r=>by
  have ih:=ky f g v r
  rw[show oH f v ((k,x)::r)=(if k=f then(k,v)::r else(k,x)::oH f v r)from rfl]
  by_cases hk:k=f
  ·rw[if_pos hk]
   by_cases h:g=k
   ·have hb:(g == k)=true:=beq_iff_eq.mpr h
    simp only[List.lookup,hb,if_pos (h.trans hk)]
   ·have hb:(g == k)=false:=beq_eq_false_iff_ne.mpr h
    simp only[List.lookup,hb,if_neg (fun e:g=f=>h (e.trans hk.symm))]
  ·rw[if_neg hk]
   by_cases h:g=k
   ·have hb:(g == k)=true:=beq_iff_eq.mpr h
    simp only[List.lookup,hb,if_neg (fun e:g=f=>hk (h.symm.trans e))]
   ·have hb:(g == k)=false:=beq_eq_false_iff_ne.mpr h
    simp only[List.lookup,hb]
    exact ih
theorem gC(f:Str)(v:V):∀fs:List (Str×V),f∈(oH f v fs).map (·.1)/\∀g,g∈fs.map (·.1)->g∈(oH f v fs).map (·.1)
 |[]=>⟨by simp[oH],fun g h=>by simp at h⟩
 |(k,x)::r=>by
  obtain⟨i1,i2⟩:=gC f v r
  rw[show oH f v ((k,x)::r)=(if k=f then(k,v)::r else(k,x)::oH f v r)from rfl]
  by_cases hk:k=f
  ·rw[if_pos hk]
   subst hk
   exact⟨by simp,fun g h=>by simpa using h⟩
  ·rw[if_neg hk]
   refine⟨?_,fun g h=>?_⟩
   ·rw[List.map_cons]
    exact List.mem_cons_of_mem _ i1
   ·rw[List.map_cons]at h ⊢
    rcases List.mem_cons.mp h with e|e
    ·exact List.mem_cons.mpr (.inl e)
    ·exact List.mem_cons_of_mem _ (i2 g e)
theorem nN(f:Str)(v:V):∀fs:List (Str×V),(oH f v fs).length<=fs.length+1
 |[]=>by simp[oH]
 |(k,x)::r=>by
  have ih:=nN f v r
  rw[show oH f v ((k,x)::r)=(if k=f then(k,v)::r else(k,x)::oH f v r)from rfl]
  by_cases hk:k=f
  ·rw[if_pos hk,List.length_cons,List.length_cons];omega
  ·rw[if_neg hk,List.length_cons,List.length_cons];omega
theorem qZ.some_of{v:V}{o:Option Value}(r:qZ (some v) o):∃u,o=some u/\cR v u:=by
 cases o with
 |none=>exact(show False from r).elim
 |some u=>exact⟨u,rfl,r⟩
theorem qZ.none_of{o:Option Value}(r:qZ none o):o=none:=by
 cases o with
 |none=>rfl
 |some u=>exact(show False from r).elim
theorem zm{v:V}{u:Value}(r:cR v u):PySem.W.handedIn u=true:=by
 cases v with
 |non=>cases (show u=Value.none from r);rfl
 |bl b=>cases (show u=Value.bool b from r);rfl
 |int i=>obtain⟨t,e⟩:=(show ∃t,u=Value.int i t from r);cases e;rfl
 |str x=>obtain⟨t,e⟩:=(show ∃t,u=Value.str x t from r);cases e;rfl
 |byt b=>obtain⟨t,e⟩:=(show ∃t,u=Value.bytes b t from r);cases e;rfl
 |flt b=>obtain⟨t,e⟩:=(show ∃t,u=Value.float b t from r);cases e;rfl
 |ref a=>cases (show u=Value.ref a from r);rfl
 |ty n=>cases (show u=Value.type n from r);rfl
section
variable{P:Program}{w:World}{H H':Hp}{h h':Heap}{a C dx:Addr}{fs fs':List (Str×V)}
theorem qo(hok:HOk P w H h)(e:H a=some (.ins C dx fs)):∃mA,Gq h a dx C mA/\(∀f,qZ (fs.lookup f) (mA f))/\PySem.Within mA (fs.map (·.1))/\fs.length<=1000/\H dx=some (.own a):=by
 obtain⟨d,z,ne,ob,mA,n,r,q⟩:=(show cT P w H h a (.ins C dx fs)from hok a _ e)
 exact⟨mA,⟨ob,n,ne⟩,r,q,z,d⟩
end
structure Cls(K:PySem.W.Frag)(C:Addr):Prop where
 pg:PySem.W.plainGet K C Str.empty=true
 hd:PySem.W.hasDictIn K C=true
 po:PySem.W.plainOver K C=true
 sa:PySem.W.findIn K (.ref C) "__setattr__"=some (some (.builtin "object.__setattr__"))
theorem Cls.get{K:PySem.W.Frag}{C:Addr}(c:Cls K C)(f:Str):PySem.W.plainGet K C f=true:=c.pg
def km(K:PySem.W.Frag)(C:Addr)(f:Str):Prop:=PySem.W.findIn K (.ref C) f=some none
theorem km.taker{K:PySem.W.Frag}{C:Addr}{f:Str}(n:km K C f):PySem.W.takerIn K C f=some none:=by
 unfold PySem.W.takerIn
 rw[show PySem.W.findIn K (.ref C) f=some none from n]
 rfl
structure tj(K:PySem.W.Frag)(C:Addr)(m:Str)(f:Addr):Prop where
 at_:PySem.W.findIn K (.ref C) m=some (some (.ref f))
 fn:PySem.W.isFn K (.ref f)=true
 kp:PySem.W.keepIn K (.ref f)=true
section
variable{X:Cx}{pins:List (Addr×Obj)}{σ:St}{H:Hp}{s:Shared}{a C dx:Addr}{fs:List (Str×V)}{f:Str}{v:V}{A:Around}{E:Value->Shared->Prop}
theorem wH{b:Bool}{Q:Value->Shared->Prop}(I:Inv X pins σ H s)(e:H a=some (.ins C dx fs))(c:Cls X.K C)(n:km X.K C f)(l:fs.lookup f=some v)
  (h:∀u s',Inv X pins σ H s'->cR v u->Q u s'):wpAny (model X.prog X.w) A (getAttr (.ref a) f b) Q E s:=by
 obtain⟨mA,O,r,_,_,_⟩:=qo I.hok e
 obtain⟨u,hu,ru⟩:=qZ.some_of (v:=v) (o:=mA f) (by rw[<-l];exact r f)
 exact FP I.kIn O (c.get f) c.hd n hu (zm ru) (h u _ (I.tok _) ru)
theorem wG{m:Str}{g:Addr}{pl:Sem Bool}{Q:Value×List Value->Shared->Prop}(I:Inv X pins σ H s)(e:H a=some (.ins C dx fs))(c:Cls X.K C)(k:tj X.K C m g)(l:fs.lookup m=none)
  (h:Q (.ref g,[.ref a]) s):wpAny (model X.prog X.w) A (getMethod (.ref a) m pl) Q E s:=by
 obtain⟨mA,O,r,_,_,_⟩:=qo I.hok e
 have hn:mA m=none:=qZ.none_of (by rw[<-l];exact r m)
 exact Ca I.kIn O (c.get m) k.at_ k.fn hn h
theorem vV{y:V}{u:Value}{Q:Unit->Shared->Prop}(I:Inv X pins σ H s)(e:H a=some (.ins C dx fs))(c:Cls X.K C)(n:km X.K C f)(hl:fs.length<1000)(ry:cR y u)
  (h:∀s',Inv X pins σ (upd H a (.ins C dx (oH f y fs))) s'->Q () s'):wpAny (model X.prog X.w) A (setAttr (.ref a) f u) Q E s:=by
 obtain⟨mA,O,r,wi,_,ho⟩:=qo I.hok e
 have hz:(fs.map (·.1)).length<=sizeLine:=by rw[List.length_map,sizeLine_eq];omega
 refine EA I.kIn O c.sa c.po n.taker c.hd wi hz fun h' O' sb=>h _ ?_
 have hd:∃o,h'.get? dx=some o:=let ⟨o,_,_,e',_⟩:=O'.ns;⟨o,e'⟩
 refine I.write (x:=a) (e:=dx) (by rw[e];exact True.intro) (.inr ho) (fun b q hb z=>(sb.2 b hb).trans z) hd ?_
 refine⟨by rw[bu O.ne];exact ho,?_,O.ne,O'.obj,_,O'.ns,fun g=>?_,fun g hg=>?_⟩
 ·have:=nN f y fs;omega
 ·show qZ ((oH f y fs).lookup g) (if g=f then some u else mA g)
  rw[ky]
  by_cases q:g=f
  ·rw[if_pos q,if_pos q];exact ry
  ·rw[if_neg q,if_neg q];exact r g
 ·by_cases q:g=f
  ·rw[q];exact(gC f y fs).1
  ·refine(gC f y fs).2 g (wi g fun z=>hg ?_)
   show(if g=f then some u else mA g)=none
   rw[if_neg q];exact z
theorem Inv.made(I:Inv X pins σ H s):Inv X pins σ (upd (upd H s.heap.objs.size (.own (s.heap.objs.size+1))) (s.heap.objs.size+1) (.ins C s.heap.objs.size []))
  { s with heap:=(s.heap.push PySem.W.emptyDict).push (PySem.W.instObj C s.heap.objs.size) }:=by
 have e1:(s.heap.push PySem.W.emptyDict).get? s.heap.objs.size=some PySem.W.emptyDict:=Heap.get?_push_size s.heap rfl
 have e2:((s.heap.push PySem.W.emptyDict).push (PySem.W.instObj C s.heap.objs.size)).get? (s.heap.objs.size+1)=some (PySem.W.instObj C s.heap.objs.size):=by
  have:=Heap.get?_push_size (s.heap.push PySem.W.emptyDict) (o:=PySem.W.instObj C s.heap.objs.size) rfl
  rwa[Heap.size_push]at this
 have e3:(s.heap.push PySem.W.emptyDict).Ns s.heap.objs.size (fun _=>none):=⟨PySem.W.emptyDict,#[],_,e1,rfl,(fun e he=>absurd he (by simp)),fun _=>rfl⟩
 have I1:=I.laid (a:=s.heap.objs.size) (o:=.own (s.heap.objs.size+1)) (h':=s.heap.push PySem.W.emptyDict) (t':=s.toks) (fun b u q=>Heap.get?_push_of_some _ q) (Nat.le_refl _) ⟨_,e1⟩
 refine I1.laid (a:=s.heap.objs.size+1) (o:=.ins C s.heap.objs.size []) (t':=s.toks) (fun b u q=>Heap.get?_push_of_some _ q) (Nat.le_of_eq (Heap.size_push _ _)) ?_
 have ne:s.heap.objs.size≠s.heap.objs.size+1:=Nat.ne_of_lt (Nat.lt_succ_self _)
 refine⟨by rw[bu ne,aJ],Nat.zero_le _,ne,e2,fun _=>none,(Heap.Ns1.of_empty e3).at fun o q=>Heap.get?_push_of_some _ q,fun _=>True.intro,fun y hy=>absurd rfl hy⟩
theorem Gi{prog:Program}{w:World}{env:Env}{e:Expr}{f:Str}{pos:Pos}{s:Shared}{Q:Value->Shared->Prop}(hb:attributeBase e f env (eval e env)=eval e env)
  (h:wpAny (model prog w) A (eval e env) (fun o s₁=>wpAny (model prog w) A (getAttr o f true) Q E s₁) E s):wpAny (model prog w) A (eval (.Attribute e f pos) env) Q E s:=
 Attribute_any_ h (by rw[arm_eval_Attribute,hb])
end
def Mw(K:PySem.W.Frag)(ta:TE)(f:Str):TE:=fun σ H Q=>ta σ H fun x H1=>∃a C dx fs v,x=.ref a/\H1 a=some (.ins C dx fs)/\Cls K C/\km K C f/\fs.lookup f=some v/\Q v H1
def Mz(K:PySem.W.Frag)(ta tv:TE)(f:Str):TS:=fun D σ H=>tv σ H fun y H1=>ta σ H1 fun x H2=>∃a C dx fs,x=.ref a/\H2 a=some (.ins C dx fs)/\Cls K C/\km K C f/\fs.length<1000/\
 D.nx σ (upd H2 a (.ins C dx (oH f y fs)))
section
variable{X:Cx}{o e value:Expr}{f:Str}{pos pos' tpos:Pos}{ta tv:TE}
theorem IL(he:PE X e ta)(hb:attributeBase e f X.env (eval e X.env)=eval e X.env):PE X (.Attribute e f pos) (Mw X.K ta f):=by
 intro pins s σ H Q I h
 refine Gi hb (thn (he pins s σ H _ I h) fun u s1 hz=>?_)
 obtain⟨x,H1,I1,rx,a,C,dx,fs,v,ex,ea,c,n,l,q⟩:=hz
 subst ex
 obtain rfl:u=Value.ref a:=rx
 exact wH I1 ea c n l fun u' s2 I2 ru=>⟨v,H1,I2,ru,q⟩
theorem Iw(ha:PE X o ta)(hv:PE X value tv)(hs:swapsWith value (some (.Attribute o f pos')) pos.line X.env=pure false):PS X (.Assign [.Attribute o f pos'] value pos) (Mz X.K ta tv f):=by
 intro pins s σ H D I h
 refine plainObj_wpAny_Assign_Attribute (thn (hv pins s σ H _ I h) fun u s1 ⟨y,H1,I1,ry,q⟩=>thn (ha pins s1 σ H1 _ I1 q) fun ov s2 hz=>?_) hs
 obtain⟨x,H2,I2,rx,a,C,dx,fs,ex,ea,c,n,l,q2⟩:=hz
 subst ex
 obtain rfl:ov=Value.ref a:=rx
 exact vV I2 ea c n l ry fun s3 I3=>⟨σ,_,I3,q2⟩
end
section
variable{X:Cx}{pins:List (Addr×Obj)}{σ:St}{H:Hp}{s:Shared}{A:Around}{E:Value->Shared->Prop}{Q:Value->Shared->Prop}{c:Value}{b:Bool}
inductive vM(K:PySem.W.Frag)(H:Hp):V->Value->Prop where
 |non:vM K H .non (.type "NoneType")
 |bl (x:Bool):vM K H (.bl x) (.type "bool")
 |int (i:Int):vM K H (.int i) (.type "int")
 |str (x:Str):vM K H (.str x) (.type "str")
 |flt (x:UInt64):vM K H (.flt x) (.type "float")
 |lst {a:Addr} {xs:List V} (e:H a=some (.lst xs)):vM K H (.ref a) (.type "list")
 |frz {a:Addr} {o:Obj} {xs:List V} (e:H a=some (.frz o (.lst xs))):vM K H (.ref a) (.type "list")
 |tup {a:Addr} {xs:List V} (e:H a=some (.tup xs)):vM K H (.ref a) (.type "tuple")
 |dK {a:Addr} {kvs:List (Key×V)} (e:H a=some (.dK kvs)):vM K H (.ref a) (.type "dict")
 |dT {a:Addr} {kvs:List (List Key×V)} (e:H a=some (.dT kvs)):vM K H (.ref a) (.type "dict")
 | ins {a C dx:Addr} {fs:List (Str×V)} (e:H a=some (.ins C dx fs)) (cl:Cls K C) (ha:PySem.W.findIn K (.ref C) "__class__"=some (some (.builtin "object.__class__")))
   (hn:PySem.W.specialIn K (.builtin "object.__class__") "__get__"=some (some (.builtin "getset_descriptor.__get__"))) (htk:PySem.W.takesIn K (.builtin "object.__class__")=some true)
   (hm:PySem.W.mroIn K C (.type "object")=some true):vM K H (.ref a) (.ref C)
theorem ze{x:V}{u t:Value}(I:Inv X pins σ H s)(rx:cR x u)(ty:vM X.K H x t)(e:PySem.W.kitOne X.K t c=some b)(h:∀tk,Q (.bool b) { s with toks:=tk }) :
  wpAny (model X.prog X.w) A (call (.builtin "isinstance") [u,c]) Q E s:=by
 cases ty with
 |non=>cases (show u=Value.none from rx);exact PySem.W.kia_one PySem.W.kitx_none I.kIn True.intro e (fun z=>nomatch z) h
 |bl y=>cases (show u=Value.bool y from rx);exact PySem.W.kia_one PySem.W.kitx_bool I.kIn True.intro e (fun z=>nomatch z) h
 |int i=>obtain⟨t,q⟩:=(show ∃t,u=Value.int i t from rx);cases q;exact PySem.W.kia_one PySem.W.kitx_int I.kIn True.intro e (fun z=>nomatch z) h
 |str y=>obtain⟨t,q⟩:=(show ∃t,u=Value.str y t from rx);cases q;exact PySem.W.kia_one PySem.W.kitx_str I.kIn True.intro e (fun z=>nomatch z) h
 |flt y=>obtain⟨t,q⟩:=(show ∃t,u=Value.float y t from rx);cases q;exact PySem.W.kia_one PySem.W.kitx_float I.kIn True.intro e (fun z=>nomatch z) h
 |@lst a xs ea=>
  cases (show u=Value.ref a from rx)
  obtain⟨_,_,n,_,h1⟩:=(show cT X.prog X.w H s.heap a (.lst xs)from I.hok a _ ea)
  exact PySem.W.kia_one PySem.W.kitx_list I.kIn ⟨_,h1,rfl⟩ e (fun z=>nomatch z) h
 |@frz a ob xs ea=>
  cases (show u=Value.ref a from rx)
  obtain⟨_,_,_,n,_,h1⟩:=(show cT X.prog X.w H s.heap a (.frz ob (.lst xs))from I.hok a _ ea)
  exact PySem.W.kia_one PySem.W.kitx_list I.kIn ⟨_,h1,rfl⟩ e (fun z=>nomatch z) h
 |@tup a xs ea=>
  cases (show u=Value.ref a from rx)
  obtain⟨_,_,_,p⟩:=(show cT X.prog X.w H s.heap a (.tup xs)from I.hok a _ ea)
  obtain⟨o,h1,h2,_⟩:=p
  exact PySem.W.kia_one PySem.W.kitx_tuple I.kIn ⟨o,h1,h2⟩ e (fun z=>nomatch z) h
 |@dK a kvs ea=>
  cases (show u=Value.ref a from rx)
  obtain⟨_,_,vs,_,p⟩:=(show cT X.prog X.w H s.heap a (.dK kvs)from I.hok a _ ea)
  obtain⟨o,es,ep,h1,h2,_⟩:=p
  exact PySem.W.kia_one PySem.W.kitx_dict I.kIn ⟨o,h1,h2.1⟩ e (fun z=>nomatch z) h
 |@dT a kvs ea=>
  cases (show u=Value.ref a from rx)
  obtain⟨_,_,xs,_,o,es,ep,h1,h2,_⟩:=(show cT X.prog X.w H s.heap a (.dT kvs)from I.hok a _ ea)
  exact PySem.W.kia_one PySem.W.kitx_dict I.kIn ⟨o,h1,h2.1⟩ e (fun z=>nomatch z) h
 |@ins a C dx fs ea cl ha hn htk hm=>
  cases (show u=Value.ref a from rx)
  obtain⟨mA,O,_⟩:=qo I.hok ea
  obtain⟨od,J,_⟩:=O.look
  exact PySem.W.kia_one (PySem.W.kitx_own (cl.get _) cl.hd ha hn htk hm) I.kIn J e (fun z=>nomatch z) h
end
structure jg(k:Nat)(A:Around):Prop where
 hd:A.handled=none
 dp:A.depth+3*k+5<recursionLimit
 un:A.units+16*k+200<cLine
 gd:A.guards=some []
theorem jg.mono{j k:Nat}{A:Around}(r:jg k A)(h:j<=k):jg j A:=⟨r.hd,by have:=r.dp;omega,by have:=r.un;omega,r.gd⟩
theorem jg.deeper{k:Nat}{A:Around}(r:jg (k+1) A)(env:Env):jg k (A.deeper env):=
 ⟨r.hd,by have:=r.dp;show A.depth+1+3*k+5<_;omega,by have:=r.un;show A.units+3+16*k+200<_;omega,r.gd⟩
theorem wg{A:Around}{C:Addr}{us:List Value}{kw:List (Str×Value)}:(A.under (.builtin "type.__call__" ⟨.ref C::us,kw⟩)).depth=A.depth+1:=by
 first|rfl|simp[Around.under,Code.weight,Code.isCreation,Code.isGuard,Code.isCaller,Code.frames,Code.isFrame,guardIds]
theorem we{A:Around}{C:Addr}{us:List Value}{kw:List (Str×Value)}:(A.under (.builtin "type.__call__" ⟨.ref C::us,kw⟩)).units=A.units+1:=by
 first|rfl|simp[Around.under,Code.cUnits,Code.frames,Code.isFrame]
theorem jg.make{k:Nat}{A:Around}(r:jg (k+1) A)(C:Addr)(us:List Value)(kw:List (Str×Value)):jg k (A.under (.builtin "type.__call__" ⟨.ref C::us,kw⟩)):=
 ⟨r.hd,by have:=r.dp;rw[wg];omega,by have:=r.un;rw[we];omega,r.gd⟩
theorem jg.depth{k:Nat}{A:Around}(r:jg k A):A.depth<recursionLimit:=by have:=r.dp;omega
theorem jg.units{k:Nat}{A:Around}(r:jg k A):A.units+64<cLine:=by have:=r.un;omega
def J7:TA:=fun _ H Q=>Q [] H
def HS(ta:TE)(tr:TA):TA:=fun σ H Q=>ta σ H fun x H1=>tr σ H1 fun xs H2=>Q (x::xs) H2
section
variable{X:Cx}{e:Expr}{es:List Expr}{te:TE}{t:TA}{pos:Pos}
theorem IT:PA X [] J7:=fun _ _ _ _ H Q I h=>Calls.spliced_nil ⟨[],H,I,.nil,h⟩
theorem Fb(ha:PE X e te)(hr:PA X es t)(hs:starEach (e::es) X.env=(false,eval e X.env)::starEach es X.env:=by rfl):PA X (e::es) (HS te t):=by
 intro pos pins s σ H Q I h
 rw[hs]
 show wpAny _ _ (spliced ((false,eval e X.env)::backTo pos (starEach es X.env))) _ _ s
 refine Calls.spliced_cons (thn (ha pins s σ H _ I h) fun u s1 hz=>?_)
 obtain⟨x,H1,I1,r1,q1⟩:=hz
 exact thn (hr pos pins s1 σ H1 _ I1 q1) fun us s2 ⟨xs,H2,I2,r2,q2⟩=>⟨x::xs,H2,I2,.cons r1 r2,q2⟩
def Mp(t:TA):TE:=fun σ H Q=>t σ H fun xs H1=>xs.length<=sizeLine/\∀p,H1 p=none->Q (.ref p) (upd H1 p (.tup xs))
def Mu(t:TA):TE:=fun σ H Q=>t σ H fun xs H1=>xs.length<=sizeLine/\∀p,H1 p=none->Q (.ref p) (upd H1 p (.lst xs))
theorem IF{x1}(h:PA X es t):PE X (.Tuple es x1 pos) (Mp t):=by
 intro pins s σ H Q I hq
 refine wpAny_Tuple_spliced (thn (h pos pins s σ H _ I hq) fun us s1 ⟨xs,H1,I1,r,z,q⟩=>⟨by rw[<-r.length];exact z,?_⟩)
 have hf:H1 s1.heap.objs.size=none:=I1.hok.fresh (Nat.le_refl _)
 refine⟨.ref s1.heap.objs.size,upd H1 s1.heap.objs.size (.tup xs),I1.laid (t':=s1.toks) (fun b u e=>Heap.get?_push_of_some _ e) (Nat.le_refl _) ?_,rfl,q _ hf⟩
 exact⟨z,us,r,⟨_,Heap.get?_push_size _ rfl,rfl,_,rfl⟩⟩
theorem IJ(h:PA X es t):PE X (.List es pos) (Mu t):=by
 intro pins s σ H Q I hq
 refine wpAny_List_spliced (thn (h pos pins s σ H _ I hq) fun us s1 ⟨xs,H1,I1,r,z,q⟩=>⟨by rw[<-r.length];exact z,?_⟩)
 have hf:H1 s1.heap.objs.size=none:=I1.hok.fresh (Nat.le_refl _)
 refine⟨.ref s1.heap.objs.size,upd H1 s1.heap.objs.size (.lst xs),I1.laid (t':=s1.toks) (fun b u e=>Heap.get?_push_of_some _ e) (Nat.le_refl _) ?_,rfl,q _ hf⟩
 exact⟨z,us,0,r,Heap.get?_push_size _ rfl⟩
end
abbrev Sp:=List V->Hp->VK->XK->Prop
abbrev CXT:=List Env->Hp->Shared->XK->Value->Shared->Prop
structure Gu(P:Program)(w:World)(K:PySem.W.Frag)(mg:Str->Option Value)(base:Heap)(A:Around)(outer:List Env)(s:Shared)(H:Hp):Prop where
 frames:A.frames=some outer
 mod:Mod K mg base
 bs:∀b o,base.get? b=some o->s.heap.get? b=some o/\H b=none
 bsz:base.objs.size<=s.heap.objs.size
 funs:s.heap.FunFrames base outer
 frf:∀b∈frs outer,H b=none
 hok:HOk P w H s.heap
 bare:AllBare s.gens
def CE(outer:List Env)(P:Program)(w:World)(H:Hp)(s:Shared)(Q:VK)(u:Value)(s':Shared):Prop:=
 ∃v H',s'.os=s.os/\AllBare s'.gens/\Un (frs outer) [] H H' s.heap s'.heap/\HOk P w H' s'.heap/\cR v u/\Q v H'
def CR(CX:CXT)(outer:List Env)(P:Program)(w:World)(H:Hp)(s:Shared)(Q:VK)(E:XK)(r:Result)(s':Shared):Prop:=
 match r with
 |.ok (.ret u)=>CE outer P w H s Q u s'
 |.ok _=>False
 |.error e=>CX outer H s E e s'
structure mY(P:Program)(w:World)(K:PySem.W.Frag)(mg:Str->Option Value)(base:Heap)(CX:CXT)(k:Nat)(f:Addr)(fd:FuncData)(ps:List Str)(sp:Sp):Prop where
 len:∀vs H Q E,sp vs H Q E->vs.length=ps.length
 run:∀(A:Around) (outer:List Env) (s:Shared) (H:Hp) (args:Args) (us:List Value) (vs:List V) (Q:VK) (E:XK),jg k A->Gu P w K mg base A outer s H->BindsTo s fd args (ps.zip us)->bW vs us->sp vs H Q E->
  codeAny (model P w) A (.call (.ref f) args) (CR CX outer P w H s Q E) s
theorem mY.mono{P:Program}{w:World}{K:PySem.W.Frag}{mg:Str->Option Value}{base:Heap}{CX:CXT}{j k:Nat}{f:Addr}{fd:FuncData}{ps:List Str}{sp:Sp}(F:mY P w K mg base CX j f fd ps sp)(h:j<=k) :
  mY P w K mg base CX k f fd ps sp:=⟨F.len,fun A outer s H args us vs Q E hr=>F.run A outer s H args us vs Q E (hr.mono h)⟩
theorem Gu.make{P:Program}{w:World}{K:PySem.W.Frag}{mg:Str->Option Value}{base:Heap}{A:Around}{outer:List Env}{s:Shared}{H:Hp}(e:Gu P w K mg base A outer s H)(C:Addr)(us:List Value)(kw:List (Str×Value)) :
  Gu P w K mg base (A.under (.builtin "type.__call__" ⟨.ref C::us,kw⟩)) outer s H:=⟨by first|exact e.frames|(simpa [Around.under,Code.envs,Code.isFrame,pushEnvs] using e.frames),e.mod,e.bs,e.bsz,e.funs,e.frf,e.hok,e.bare⟩
section
variable{X:Cx}{pins:List (Addr×Obj)}{σ:St}{H:Hp}{s s':Shared}
theorem Inv.env0(I:Inv X pins σ H s):Gu X.prog X.w X.K X.mg X.base X.A X.stack s H:=
 ⟨I.ok.frames,I.ok.mod,I.bs,Nat.le_trans I.ok.bsz I.sz,I.stack,I.stkFree,I.hok,I.bare⟩
theorem Inv.after{Q:VK}{u:Value}(I:Inv X pins σ H s)(h:CE X.stack X.prog X.w H s Q u s'):EP X pins σ Q u s':=by
 obtain⟨v,H',os,bare,un,hok,r,q⟩:=h
 obtain⟨hh,g,d,t,os'⟩:=s'
 obtain rfl:os'=s.os:=os
 exact⟨v,H',I.call (h':=hh) (g':=g) (d':=d) (t':=t) (ch:=[]) un hok bare (fun b z=>absurd z (by simp)),r,q⟩
end
def HU(sp:Sp)(dvs:List V)(E:XK)(t:TA):TE:=fun σ H Q=>t σ H fun vs H1=>sp (vs++dvs) H1 Q E
def Eu(C:Addr)(m:Str)(sp:Sp)(dvs:List V)(E:XK)(ta:TE)(t:TA):TE:=fun σ H Q=>ta σ H fun x H1=>∃a dx fs,x=.ref a/\H1 a=some (.ins C dx fs)/\fs.lookup m=none/\
 t σ H1 fun vs H2=>sp (x::(vs++dvs)) H2 Q E
def xT(C:Addr)(sp:Sp)(dvs:List V)(E:XK)(t:TA):TE:=fun σ H Q=>t σ H fun vs H1=>∀x dx,H1 x=none->H1 dx=none->dx≠x->
 sp (.ref x::(vs++dvs)) (upd (upd H1 dx (.own x)) x (.ins C dx [])) (fun v H2=>v=.non/\Q (.ref x) H2) E
def fU(K:PySem.W.Frag)(fd:FuncData)(ps:List Str)(ds:List Value):Prop:=
 ∀(s:Shared) (us:List Value),K.In s.heap->(us++ds).length=ps.length->BindsTo s fd ⟨us,[]⟩ (ps.zip (us++ds))
theorem fU.all{K:PySem.W.Frag}{fd:FuncData}{ps:List Str}(h:∀us:List Value,us.length=ps.length->bindArgs fd ⟨us,[]⟩=pure (ps.zip us)):fU K fd ps []:=fun s us _ hl=>by
 rw[List.append_nil]at hl ⊢
 exact .of_eq (h us hl)
def kj(CX:CXT)(X:Cx)(E:XK):Prop:=∀(pins:List (Addr×Obj)) (σ:St) (H:Hp) (s:Shared) (e:Value) (s':Shared),Inv X pins σ H s->CX X.stack H s E e s'->X.xe e s'
section
variable{X:Cx}{CX:CXT}{k:Nat}{f C:Addr}{fd:FuncData}{ps:List Str}{sp:Sp}{dvs:List V}{ds:List Value}{E:XK}{x m:Str}{p pos apos:Pos}{e o:Expr}{es:List Expr}{ta:TE}{t:TA}
theorem C8{pins:List (Addr×Obj)}{σ:St}{H:Hp}{s:Shared}{Q:VK}{us:List Value}{vs:List V}(F:mY X.prog X.w X.K X.mg X.base CX k f fd ps sp)(hr:jg k X.A)(hb:fU X.K fd ps ds)(hd:bW dvs ds)(hx:kj CX X E)
  (I:Inv X pins σ H s) (r:bW vs us) (h:sp (vs++dvs) H Q E):wpAny (model X.prog X.w) X.A (call (.ref f) us) (EP X pins σ Q) X.xe s:=by
 have r2:bW (vs++dvs) (us++ds):=r.append hd
 have hl:(us++ds).length=ps.length:=by rw[<-r2.length];exact F.len _ _ _ _ h
 refine wpAny_call (codeAny_mono (F.run X.A X.stack s H ⟨us,[]⟩ (us++ds) (vs++dvs) Q E hr I.env0 (hb s us I.kIn hl) r2 h) fun r s' hq=>?_)
 cases r with
 |error e=>exact hx pins σ H s e s' I hq
 |ok fl=>
  cases fl with
  |ret u=>exact I.after hq
  |next=>exact False.elim hq
  |brk=>exact False.elim hq
  |cont=>exact False.elim hq
theorem E7(F:mY X.prog X.w X.K X.mg X.base CX k f fd ps sp)(hr:jg k X.A)(hg:Gl X x)(hm:X.mg x=some (.ref f))(hk:PySem.W.keepIn X.K (.ref f)=true)(hb:fU X.K fd ps ds)(hd:bW dvs ds)(hx:kj CX X E)
  (ha:PA X (e::es) t) (hdb:(x == ("__debug__":Str))=false:=by decide) (he:starEach (e::es) X.env=(false,eval e X.env)::starEach es X.env:=by rfl) (hpl:(backTo pos (starEach es X.env)).any (·.1)=false:=by rfl) :
  PE X (.Call (.Name x p) (e::es) [] pos) (HU sp dvs E t):=by
 intro pins s σ H Q I h
 refine wpAny_Call_Name_kw (qm I hg hm ?_ hdb)
 refine PySem.W.callWith_K (h₀:=X.base) I.ok.mod.kin hk (thn (ha pos pins s σ H _ I h) fun us s1 ⟨vs,H1,I1,r,q⟩=>⟨I1.kIn,?_⟩) he hpl
 exact C8 F hr hb hd hx I1 r q
theorem EY{pl:Sem Bool}(he:PE X o ta)(c:Cls X.K C)(hm:tj X.K C m f)(F:mY X.prog X.w X.K X.mg X.base CX k f fd ps sp)(hr:jg k X.A)(hb:fU X.K fd ps ds)(hd:bW dvs ds)(hx:kj CX X E)(ha:PA X (e::es) t)
  (hst:starEach (e::es) X.env=(false,eval e X.env)::starEach es X.env:=by rfl) (hpl:(backTo pos (starEach es X.env)).any (·.1)=false:=by rfl)
  (ht:eval (.Call (.Attribute o m apos) (e::es) [] pos) X.env=(do
   let ov <-eval o X.env
   standAt apos.atName
   let (f,first) <-holding [ov] (getMethod ov m pl)
   callWith pos f first (backTo pos (starEach (e::es) X.env)) (backToKw pos (keywordEach [] X.env))):=by rfl) :
  PE X (.Call (.Attribute o m apos) (e::es) [] pos) (Eu C m sp dvs E ta t):=by
 intro pins s σ H Q I h
 refine PySem.W.methodCall_KW (pl:=pl) (thn (he pins s σ H _ I h) fun u s1 hz=>?_) ht
 obtain⟨x,H1,I1,rx,a,dx,fs,ex,ea,l,q⟩:=hz
 subst ex
 obtain rfl:u=Value.ref a:=rx
 refine wG I1 ea c hm l ?_
 refine PySem.W.callWith_K (first:=[.ref a]) (h₀:=X.base) I.ok.mod.kin hm.kp (thn (ha pos pins s1 σ H1 _ I1 q) fun us s2 ⟨vs,H2,I2,r,q2⟩=>⟨I2.kIn,?_⟩) hst hpl
 exact C8 (us:=.ref a::us) (vs:=.ref a::vs) F hr hb hd hx I2 (.cons rfl r) q2
structure Mk(K:PySem.W.Frag)(C f:Addr):Prop where
 makes:PySem.W.makesIn K C=true
 init:PySem.W.findIn K (.ref C) "__init__"=some (some (.ref f))
 fn:PySem.W.isFn K (.ref f)=true
 kp:PySem.W.keepIn K (.ref C)=true
theorem uL{pins:List (Addr×Obj)}{σ:St}{H:Hp}{s:Shared}{Q:VK}{us:List Value}{vs:List V}(M:Mk X.K C f)(F:mY X.prog X.w X.K X.mg X.base CX k f fd ps sp)(hr:jg (k+1) X.A)(hb:fU X.K fd ps ds)(hd:bW dvs ds)
  (hx:kj CX X E) (I:Inv X pins σ H s) (r:bW vs us)
  (h:∀x dx,H x=none->H dx=none->dx≠x->sp (.ref x::(vs++dvs)) (upd (upd H dx (.own x)) x (.ins C dx [])) (fun v H2=>v=.non/\Q (.ref x) H2) E) :
  wpAny (model X.prog X.w) X.A (call (.ref C) us) (EP X pins σ Q) X.xe s:=by
 have hq:=h (s.heap.objs.size+1) s.heap.objs.size (I.hok.fresh (Nat.le_succ _)) (I.hok.fresh (Nat.le_refl _)) (Nat.ne_of_lt (Nat.lt_succ_self _))
 have I2:=Inv.made (C:=C) I
 have r2:bW (V.ref (s.heap.objs.size+1)::(vs++dvs)) (Value.ref (s.heap.objs.size+1)::(us++ds)):=.cons rfl (r.append hd)
 have hl:(Value.ref (s.heap.objs.size+1)::us++ds).length=ps.length:=by
  have e:=r2.length
  rw[F.len _ _ _ _ hq]at e
  exact e.symm
 refine wpAny_call (BU (f:=f) I.kIn M.makes M.init (beq_iff_eq.mp M.fn) (codeAny_mono (F.run _ X.stack _ _ ⟨Value.ref (s.heap.objs.size+1)::us,[]⟩ (Value.ref (s.heap.objs.size+1)::(us++ds)) _ _ E (hr.make C us [])
  (I2.env0.make C us []) (hb _ (Value.ref (s.heap.objs.size+1)::us) I2.kIn hl) r2 hq) fun r s' hq'=>?_))
 cases r with
 |error e=>exact hx pins σ _ _ e s' I2 hq'
 |ok fl=>
  cases fl with
  |ret u=>
   obtain⟨v,H',I3,rv,ev,q3⟩:=I2.after hq'
   subst ev
   exact⟨rv,⟨V.ref (s.heap.objs.size+1),H',I3,rfl,q3⟩⟩
  |next=>exact False.elim hq'
  |brk=>exact False.elim hq'
  |cont=>exact False.elim hq'
theorem EZ(M:Mk X.K C f)(F:mY X.prog X.w X.K X.mg X.base CX k f fd ps sp)(hr:jg (k+1) X.A)(hg:Gl X x)(hm:X.mg x=some (.ref C))(hb:fU X.K fd ps ds)(hd:bW dvs ds)(hx:kj CX X E)
  (ha:PA X (e::es) t) (hdb:(x == ("__debug__":Str))=false:=by decide) (he:starEach (e::es) X.env=(false,eval e X.env)::starEach es X.env:=by rfl) (hpl:(backTo pos (starEach es X.env)).any (·.1)=false:=by rfl) :
  PE X (.Call (.Name x p) (e::es) [] pos) (xT C sp dvs E t):=by
 intro pins s σ H Q I h
 refine wpAny_Call_Name_kw (qm I hg hm ?_ hdb)
 refine PySem.W.callWith_K (h₀:=X.base) I.ok.mod.kin M.kp (thn (ha pos pins s σ H _ I h) fun us s1 ⟨vs,H1,I1,r,q⟩=>⟨I1.kIn,?_⟩) he hpl
 exact uL M F hr hb hd hx I1 r q
theorem Br(M:Mk X.K C f)(F:mY X.prog X.w X.K X.mg X.base CX k f fd ps sp)(hr:jg (k+1) X.A)(hg:Gl X x)(hm:X.mg x=some (.ref C))(hb:fU X.K fd ps ds)(hd:bW dvs ds)(hx:kj CX X E)
  (hdb:(x == ("__debug__":Str))=false:=by decide):PE X (.Call (.Name x p) [] [] pos) (xT C sp dvs E J7):=by
 intro pins s σ H Q I h
 refine wpAny_Call_Name_kw (qm I hg hm ?_ hdb)
 exact PySem.W.callWith_K0 I.kIn M.kp (uL (us:=[]) M F hr hb hd hx I .nil h)
end
structure aR(N P:List Str)(sc:Scope):Prop where
 kind:sc.kind=.function
 co:sc.isCoroutine=false
 gen:sc.isGenerator=false
 nd:N.Nodup
 pre:N.take P.length=P
 par:∀x∈P,sc.names.lookup x=some .local\/sc.names.lookup x=some .cell
 nofree:∀y∈sc.names,y.2≠.free
theorem sR{kindOf:Str->Option NameKind}{x:Str}:∀{binds:List (Str×Value)} {m:Str->Option Value},(∀v,(x,v)∉binds)->bindL kindOf binds m x=m x
 |[],_,_=>rfl
 |(n,v)::r,m,h=>by
  unfold bindL
  rw[sR fun w hw=>h w (List.mem_cons_of_mem _ hw)]
  split
  ·have:x≠n:=by rintro rfl;exact h v List.mem_cons_self
   simp[this]
  ·rfl
theorem sT{kindOf:Str->Option NameKind}{x:Str}:∀{binds:List (Str×Value)} {m:Str->Option Value},(∀v,(x,v)∉binds)->bindC kindOf binds m x=m x
 |[],_,_=>rfl
 |(n,v)::r,m,h=>by
  unfold bindC
  rw[sT fun w hw=>h w (List.mem_cons_of_mem _ hw)]
  split
  ·rfl
  ·have:x≠n:=by rintro rfl;exact h v List.mem_cons_self
   simp[this]
theorem sS{kindOf:Str->Option NameKind}{x:Str}{v:Value}:∀{P:List Str} {vs:List Value} {i:Nat} {m:Str->Option Value},P.Nodup->P[i]?=some x->vs[i]?=some v->kindOf x=some .local->
  bindL kindOf (P.zip vs) m x=some v
 |[],_,_,_,_,h,_,_=>by simp at h
 |_::_,[],_,_,_,_,h,_=>by simp at h
 |p::P,w::vs,0,m,nd,h1,h2,hk=>by
  simp at h1 h2;subst h1;subst h2
  show bindL kindOf ((p,w)::P.zip vs) m p=_
  unfold bindL
  rw[sR fun v hv=>(List.nodup_cons.mp nd).1 (List.of_mem_zip hv).1,if_pos hk]
  simp
 |p::P,w::vs,i+1,m,nd,h1,h2,hk=>by
  show bindL kindOf ((p,w)::P.zip vs) m x=_
  unfold bindL
  exact sS (i:=i) (List.nodup_cons.mp nd).2 (by simpa using h1) (by simpa using h2) hk
theorem sU{kindOf:Str->Option NameKind}{x:Str}{v:Value}:∀{P:List Str} {vs:List Value} {i:Nat} {m:Str->Option Value},P.Nodup->P[i]?=some x->vs[i]?=some v->kindOf x≠some .local->
  bindC kindOf (P.zip vs) m x=some v
 |[],_,_,_,_,h,_,_=>by simp at h
 |_::_,[],_,_,_,_,h,_=>by simp at h
 |p::P,w::vs,0,m,nd,h1,h2,hk=>by
  simp at h1 h2;subst h1;subst h2
  show bindC kindOf ((p,w)::P.zip vs) m p=_
  unfold bindC
  rw[sT fun v hv=>(List.nodup_cons.mp nd).1 (List.of_mem_zip hv).1,if_neg hk]
  simp
 |p::P,w::vs,i+1,m,nd,h1,h2,hk=>by
  show bindC kindOf ((p,w)::P.zip vs) m x=_
  unfold bindC
  exact sU (i:=i) (List.nodup_cons.mp nd).2 (by simpa using h1) (by simpa using h2) hk
def kK(N:List Str)(vs:List V):St:=vs.map some++List.replicate (N.length-vs.length) none
def w9(CX:CXT)(P:Program)(w:World)(K:PySem.W.Frag)(mg:Str->Option Value)(base:Heap)(N:List Str)(qual:Str)(scope:Scope)(f:Addr)(cd:Value)(A:Around)(outer:List Env)(s:Shared)(H:Hp)(E:XK):Cx where
 prog:=P
 w:=w
 K:=K
 mg:=mg
 base:=base
 A:=A.deeper (envOfC qual scope s.heap.objs.size f cd)
 N:=N
 s₀:=s
 H₀:=H
 env:=envOfC qual scope s.heap.objs.size f cd
 outer:=outer
 stack:=envOfC qual scope s.heap.objs.size f cd::outer
 ex:=[]
 calm:=true
 fn:=fun _=>true
 pn:=[]
 xe:=fun e s'=>wpAny (model P w) (A.deeper (envOfC qual scope s.heap.objs.size f cd)) (leaving (envOfC qual scope s.heap.objs.size f cd) e) (fun _ s''=>CX outer H s E e s'') (fun e' s''=>CX outer H s E e' s'') s'
theorem vD{sc:Scope}{n:Nat}{x:Str}(h:sc.names.lookup x=some .cell):∃c,(cellsFrom n sc.names []).lookup x=some c:=by
 have q:=PySem.W.cellsFrom_some sc.names n [] (.inl h)
 exact Option.isSome_iff_exists.mp q
theorem zg{CX:CXT}{P:Program}{w:World}{K:PySem.W.Frag}{mg:Str->Option Value}{base:Heap}{N ps:List Str}{qual:Str}{scope:Scope}{f:Addr}{cd:Value}{A:Around}{outer:List Env}{s s1:Shared}{H:Hp}{E:XK}{us:List Value}{vs:List V}
  (S:aR N ps scope) (hd:A.handled=none) (e0:Gu P w K mg base A outer s H) (hl:vs.length=ps.length) (r:bW vs us)
  (x:InCallC s s.heap.objs.size (bindL (envOfC qual scope s.heap.objs.size f cd).kindOf (ps.zip us) fun _=>none) (cellsFrom (s.heap.objs.size+1) scope.names []) (bindC (envOfC qual scope s.heap.objs.size f cd).kindOf (ps.zip us) fun _=>none) s1) :
  Inv (w9 CX P w K mg base N qual scope f cd A outer s H E) [] (kK N vs) H s1:=by
 have hpl:ps.length<=N.length:=by have:=congrArg List.length S.pre;rw[List.length_take]at this;omega
 obtain⟨h1,tk,rfl,hk⟩:=x.done
 have noA:∀b:Addr,b∉(w9 CX P w K mg base N qual scope f cd A outer s H E).ex:=fun b z=>absurd (show b∈([]:List Addr)from z) (by simp)
 refine⟨⟨e0.mod,S.kind,rfl,rfl,Nat.le_refl _,fun y z c h1 h2=>?_,fun y hy=>?_,fun y c _ h=>?_,fun _=>hd,Around.frames_deeper e0.frames,.inr ⟨rfl,rfl⟩,fun b z=>absurd z (noA b),e0.bs,e0.bsz,fun b _ _=>noA b,fun b z=>absurd z (noA b),e0.funs,e0.frf⟩,
  rfl,e0.bare,Un.kept hk,⟨_,x.toInCall.ns,fun i y v h1 h2 h3=>?_⟩,fun y c h=>⟨_,x.cell y c h⟩,e0.hok.fresh (Nat.le_refl _),fun y c h=>?_,fun p hp=>absurd (show p∈([]:List (Addr×Obj))from hp) (by simp),e0.hok.kept hk,?_⟩
 ·exact name_of_addr x.apart (PySem.mem_of_lookup h1) (PySem.mem_of_lookup h2)
 ·have hy:scope.names.lookup y=some .cell\/scope.names.lookup y=some .free:=hy
  rcases hy with hy|hy
  ·exact vD hy
  ·exact absurd rfl (S.nofree _ (PySem.mem_of_lookup hy))
 ·exact Nat.le_of_lt (x.above y c (PySem.mem_of_lookup h))
 ·have hi:i<vs.length:=by
   unfold kK at h2
   by_cases hi:i<vs.length
   ·exact hi
   ·rw[List.getElem?_append_right (by simpa using hi)]at h2
    rw[List.getElem?_replicate]at h2
    split at h2<;>cases h2
  have ha:vs[i]?=some v:=by
   unfold kK at h2
   rw[List.getElem?_append_left (by simpa using hi),List.getElem?_map]at h2
   cases e:vs[i]? with
   |none=>rw[e]at h2;cases h2
   |some a=>rw[e]at h2;cases h2;rfl
  obtain⟨u,hu,rv⟩:=r.get ha
  have hp:ps[i]?=some y:=by
   rw[<-S.pre,List.getElem?_take_of_lt (by omega)];exact h1
  have ndP:ps.Nodup:=by rw[<-S.pre];exact S.nd.sublist (List.take_sublist _ _)
  refine⟨u,rv,?_⟩
  rcases S.par y (List.mem_of_getElem? hp)with k|k
  ·exact .inl ⟨k,sS ndP hp hu k⟩
  ·obtain⟨c,e⟩:=vD (n:=s.heap.objs.size+1) k
   refine .inr ⟨.inl k,c,e,?_⟩
   have q:=x.cell y c e
   rw[sU ndP hp hu (by show scope.names.lookup y≠_;rw[k];decide)]at q
   exact q
 ·exact e0.hok.fresh (Nat.le_of_lt (x.above y c (PySem.mem_of_lookup h)))
 ·unfold kK
  show _=N.length
  rw[List.length_append,List.length_map,List.length_replicate]
  omega
theorem L7{CX:CXT}{P:Program}{w:World}{K:PySem.W.Frag}{mg:Str->Option Value}{base:Heap}{k:Nat}{f:Addr}{name qual:Str}{params:Arguments}{body:List Stmt}{scope:Scope}{dV kV doc pm cdv ct oc:Value}{an od:Option Addr}
  {osl:Array (Option Value)} {N ps:List Str} {sp:Sp} (lk:K.lookup f=some ⟨oc,od,.func (PySem.W.fnOf name qual params body scope dV kV doc pm an cdv ct),osl⟩) (hcd:PySem.W.codeIn K cdv qual=true) (S:aR N ps scope)
  (len:∀vs H Q E,sp vs H Q E->vs.length=ps.length)
  (hbody:∀(A:Around) (outer:List Env) (s:Shared) (H:Hp) (vs:List V) (Q:VK) (E:XK),jg k (A.deeper (envOfC qual scope s.heap.objs.size f cdv))->sp vs H Q E->
   ∃t,PSs (w9 CX P w K mg base N qual scope f cdv A outer s H E) body t/\t { nx:=fun _ H'=>Q .non H',rt:=Q } (kK N vs) H) :
  mY P w K mg base CX (k+1) f (PySem.W.fnOf name qual params body scope dV kV doc pm an cdv ct) ps sp:=by
 refine⟨len,fun A outer s H args us vs Q E hr e0 hb r hsp=>?_⟩
 have hl:=len _ _ _ _ hsp
 have KX:K.In s.heap:=e0.mod.kin.keeps fun b o e=>(e0.bs b o e).1
 have lim:s.heap.NoLimit:=e0.mod.nolimit.keeps fun b o e=>(e0.bs b o e).1
 have hkind:∀y∈ps.zip us,scope.names.lookup y.1=some .local\/(scope.names.lookup y.1=some .cell/\((cellsFrom (s.heap.objs.size+1) scope.names []).lookup y.1).isSome=true):=fun⟨n,v⟩ hy=>by
  rcases S.par n (List.of_mem_zip hy).1 with q|q
  ·exact .inl q
  ·exact .inr ⟨q,PySem.W.cellsFrom_some _ _ _ (.inl q)⟩
 refine codeAny_call_function hr.depth (KX _ _ lk) rfl S.co S.gen rfl (PySem.W.codeRec_of KX hcd) (hb _ _ _ _ ?_)
 refine wpAny_newFunctionEnv_cells S.kind hkind fun env he s1 x=>?_
 subst he
 refine⟨lim.keeps x.toInCall.keep,codeAny_func ?_⟩
 obtain⟨t,ht,hq⟩:=hbody A outer s H vs Q E (hr.deeper _) hsp
 have I:Inv (w9 CX P w K mg base N qual scope f cdv A outer s H E) [] (kK N vs) H s1:=zg S hr.hd e0 hl r x
 refine wpAny_mono (ht [] s1 (kK N vs) H _ I hq) (fun fl s' hs=>?_) fun e s' hs=>hs
 have fin:∀{σ':St} {H':Hp} {v:V} {u:Value},Inv (w9 CX P w K mg base N qual scope f cdv A outer s H E) [] σ' H' s'->cR v u->Q v H'->CE outer P w H s Q u s':=
  fun{σ' H' v u} J rv q=>⟨v,H',J.os,J.bare,J.base,J.hok,rv,q⟩
 cases fl with
 |ret u=>
  obtain⟨v,σ',H',J,rv,q⟩:=hs
  exact fin J rv q
 |next=>
  obtain⟨σ',H',J,q⟩:=hs
  exact fin (v:=V.non) (u:=Value.none) J rfl q
 |brk=>
  obtain⟨_,_,_,q⟩:=hs
  exact False.elim q
 |cont=>
  obtain⟨_,_,_,q⟩:=hs
  exact False.elim q
section
variable{X:Cx}{x:Str}{p pos:Pos}{e:Expr}{es:List Expr}{t:TA}{id T:String}{r:List V->Hp->VK->Prop}
def tCB(r:List V->Hp->VK->Prop)(t:TA):TE:=fun σ H Q=>t σ H fun vs H1=>r vs H1 Q
theorem Bx(hc:gQ X (.builtin id) r)(hg:Gl X x)(hm:X.mg x=none)(hv:bootBuiltins x=some (.builtin id))(ha:PA X (e::es) t)(hn:x≠"__name__":=by decide)(hdb:(x == ("__debug__":Str))=false:=by decide)
  (he:starEach (e::es) X.env=(false,eval e X.env)::starEach es X.env:=by rfl) (hpl:(backTo pos (starEach es X.env)).any (·.1)=false:=by rfl):PE X (.Call (.Name x p) (e::es) [] pos) (tCB r t):=by
 intro pins s σ H Q I h
 refine wpAny_Call_Name_kw (nO I hg hm hv ?_ hn hdb)
 exact PyProof.Rows.callWith_builtin1 (thn (ha pos pins s σ H _ I h) fun us s1 ⟨vs,H1,I1,r1,q1⟩=>hc pins s1 σ H1 vs us Q I1 r1 q1) he hpl
theorem yy(hc:gQ X (.type T) r)(hg:Gl X x)(hm:X.mg x=none)(hv:bootBuiltins x=some (.type T))(ha:PA X (e::es) t)(hn:x≠"__name__":=by decide)(hdb:(x == ("__debug__":Str))=false:=by decide)
  (he:starEach (e::es) X.env=(false,eval e X.env)::starEach es X.env:=by rfl) (hpl:(backTo pos (starEach es X.env)).any (·.1)=false:=by rfl):PE X (.Call (.Name x p) (e::es) [] pos) (tCB r t):=by
 intro pins s σ H Q I h
 refine wpAny_Call_Name_kw (nO I hg hm hv ?_ hn hdb)
 exact PyProof.Rows.callWith_type1 (thn (ha pos pins s σ H _ I h) fun us s1 ⟨vs,H1,I1,r1,q1⟩=>hc pins s1 σ H1 vs us Q I1 r1 q1) he hpl
end
end L2
namespace HT
open PySem PyProof.Rows
section
variable{prog:Program}{w:World}{A:Around}{E:Value->Shared->Prop}{s:Shared}
theorem cat_tup{t b:Addr}{vs ws:List Value}{Q:Value->Shared->Prop}(ht:IsTup s.heap t vs.toArray)(hb:IsTup s.heap b ws.toArray)(hv:vs≠[])
  (h1:ws=[]->Q (.ref t) s) (h2:ws≠[]->Q (.ref s.heap.objs.size) { s with heap:=s.heap.push { cls:=.type "tuple",data:=.seq (vs++ws).toArray } })
  (hsz:vs.length+ws.length<=sizeLine):wpAny (model prog w) A (binaryOp .Add (.ref t) (.ref b)) Q E s:=by
 obtain⟨⟨cls,dd,data,sl⟩,ho,hc,n,hd⟩:=id ht
 obtain⟨⟨cls2,dd2,data2,sl2⟩,ho2,hc2,n2,hd2⟩:=id hb
 simp only at hc hd hc2 hd2
 subst hc hd hc2 hd2
 have e:vs.toArray++ws.toArray=(vs++ws).toArray:=by simp
 by_cases hw:ws=[]
 ·exact concat_meets ⟨_,ho,rfl⟩ ⟨_,ho2,rfl⟩ noFill_tuple_add seq_tuple_add PySem.F.slot_tuple_add PySem.F.entry_tuple_add (PySem.F.args_tuple_add_2 _ _)
   (tuple_addW1 t b vs.toArray ws.toArray n n2 dd dd2 sl sl2 (by simpa using hv) (by simp[hw])) ⟨ho,ho2,h1 hw⟩
 ·refine concat_meets ⟨_,ho,rfl⟩ ⟨_,ho2,rfl⟩ noFill_tuple_add seq_tuple_add PySem.F.slot_tuple_add PySem.F.entry_tuple_add (PySem.F.args_tuple_add_2 _ _)
   (tuple_addW2 t b vs.toArray ws.toArray n n2 dd dd2 sl sl2 (by simpa using hv) (by simpa using hw) (by rw[List.size_toArray,List.size_toArray];exact hsz)) ⟨ho,ho2,?_⟩
  rw[e]
  exact h2 hw
def sIx(n d:Nat):Option Int->Nat
 |none=>d
 |some v=>if v<0 then(v+(n:Int)).toNat else min v.toNat n
theorem H0(n d:Nat)(hd:d<=n)(o:Option Int):sIx n d o<=n:=by
 cases o with
 |none=>exact hd
 |some v=>
  show(if v<0 then(v+(n:Int)).toNat else min v.toNat n)<=n
  by_cases hv:v<0
  ·rw[if_pos hv];omega
  ·rw[if_neg hv];exact Nat.min_le_right _ _
theorem zZ(v:Int)(n d:Nat):(if v<0 then max (v+(n:Int)) 0 else min v (n:Int))=((sIx n d (some v):Nat):Int):=by
 show(if v<0 then max (v+(n:Int)) 0 else min v (n:Int))=(((if v<0 then(v+(n:Int)).toNat else min v.toNat n):Nat):Int)
 by_cases hv:v<0
 ·simp only[if_pos hv];omega
 ·simp only[if_neg hv];omega
theorem wX(lo hi:Option Int)(n:Nat):Builtin.Slice.sliceAdjust lo hi 1 (n:Int)=(((sIx n 0 lo:Nat):Int),((sIx n n hi:Nat):Int)):=by
 have h1:¬((1:Int)<0):=by omega
 unfold Builtin.Slice.sliceAdjust
 simp only[h1,if_false]
 refine Prod.ext ?_ ?_
 ·cases lo with
  |none=>rfl
  |some v=>exact zZ v n 0
 ·cases hi with
  |none=>rfl
  |some v=>exact zZ v n n
theorem vX(i j:Nat):Builtin.Slice.slicePlaces (i:Int) (j:Int) 1=j-i:=by
 unfold Builtin.Slice.slicePlaces
 have h1:(1:Int)>0:=by omega
 simp only[h1,if_true,Int.ediv_one]
 split<;>omega
theorem oX{v:Value}{o:Option Int}{Q:Option Int->Shared->Prop}(p:IsPart v o)(h:Q o s):wpAny (model prog w) A (Builtin.Slice.slicePartIndex v) Q E s:=by
 cases p with
 |none=>exact slicePart_none h
 |int i t=>exact slicePart_int h
theorem mG{sl:Addr}{vl vu:Value}{lo hi:Option Int}{n:Nat}{Q:Int×Int×Nat->Shared->Prop}(hs:s.heap.IsSliceOf sl vl vu .none)(pl:IsPart vl lo)(pu:IsPart vu hi)
  (h:Q (((sIx n 0 lo:Nat):Int),1,sIx n n hi-sIx n 0 lo) s):wpAny (model prog w) A (Builtin.Slice.sliceApplied (.ref sl) (pure (n:Int))) Q E s:=by
 obtain⟨os,hos,hcs,hds⟩:=id hs
 unfold Builtin.Slice.sliceApplied Builtin.Slice.sliceFields
 refine wpAny_bind (wpAny_bind (wpAny_field hos hds (x:=vl) rfl (wpAny_bind (wpAny_field hos hds (x:=vu) rfl (wpAny_bind (wpAny_field hos hds (x:=.none) rfl (wpAny_pure ?_)))))))
 refine wpAny_bind (slicePart_none ?_)
 show wpAny _ _ (if ((1:Int) == 0)=true then _ else _) _ _ s
 rw[if_neg (by decide)]
 refine wpAny_bind (oX pl (wpAny_bind (oX pu (wpAny_bind (wpAny_pure ?_)))))
 show wpAny _ _ (match Builtin.Slice.sliceAdjust lo hi 1 (n:Int)with|(lo,hi)=>pure (lo,(1:Int),Builtin.Slice.slicePlaces lo hi 1)) _ _ s
 rw[wX lo hi n]
 show wpAny _ _ (pure (((sIx n 0 lo:Nat):Int),(1:Int),Builtin.Slice.slicePlaces ((sIx n 0 lo:Nat):Int) ((sIx n n hi:Nat):Int) 1)) _ _ s
 rw[vX]
 exact wpAny_pure h
theorem Bo(xs:Array Value)(i k:Nat):((List.range k).filterMap fun(m:Nat)=>xs[((i:Int)+(m:Int)*1).toNat]?).toArray=((xs.toList.drop i).take k).toArray:=by
 have e:(fun(m:Nat)=>xs[((i:Int)+(m:Int)*1).toNat]?)=fun m=>xs[i+m]?:=by
  funext m
  have:((i:Int)+(m:Int)*1).toNat=i+m:=by omega
  rw[this]
 rw[e]
 have:=pick_run xs i k
 rw[List.filterMap_map]at this
 have e2:((fun x=>xs[x]?) ∘ fun x=>i+x)=fun m=>xs[i+m]?:=rfl
 rw[e2]at this
 rw[this]
theorem getItem_tuple_cut{t sl:Addr}{items:Array Value}{vl vu:Value}{lo hi:Option Int}{Q:Value->Shared->Prop}(ht:IsTup s.heap t items)(hs:s.heap.IsSliceOf sl vl vu .none)(pl:IsPart vl lo)(pu:IsPart vu hi)
  (hw:¬(sIx items.size 0 lo=0/\sIx items.size items.size hi=items.size))
  (h:Q (.ref s.heap.objs.size) { s with heap:=s.heap.push { cls:=.type "tuple",data:=.seq ((items.toList.drop (sIx items.size 0 lo)).take (sIx items.size items.size hi-sIx items.size 0 lo)).toArray } })
  (hsz:items.size<=sizeLine):wpAny (model prog w) A (getItem (.ref t) (.ref sl)) Q E s:=by
 have htake:sizeOk (.seq ((items.toList.drop (sIx items.size 0 lo)).take (sIx items.size items.size hi-sIx items.size 0 lo)).toArray):=by
  show((items.toList.drop (sIx items.size 0 lo)).take (sIx items.size items.size hi-sIx items.size 0 lo)).toArray.size<=sizeLine
  rw[List.size_toArray,List.length_take,List.length_drop,Array.length_toList]
  omega
 have hj:sIx items.size items.size hi<=items.size:=H0 _ _ (Nat.le_refl _) hi
 obtain⟨os,hos,hcs,hds⟩:=id hs
 have hTs:s.TypeIs (.ref sl) "slice":=⟨os,hos,hcs⟩
 unfold getItem
 try with_reducible refine wpAny_holding ?_
 first|refine wpAny_bind (wpAny_pure ?_)|skip
 refine wpAny_bind (wpAny_sequenceKey ht.typeIs (by decide) ?_)
 refine wpAny_bind (wpAny_callSpecial?_slot (name:=Str.ofString "__getitem__") ht.typeIs PyProof.Rows.slot_tuple_getitem
  (wpAny_call_entry PyProof.Rows.slot_tuple_getitem ht.typeIs entry_tuple_getitem ?_ (args_tuple_getitem _ _)))
 show wpAny _ _ (Builtin.Tuple.tupleItemsOf (.ref t) >>= _) _ _ s
 refine wpAny_bind (tupleItemsOf_ ht ?_)
 refine wpAny_bind (wpAny_typeOf hTs ?_)
 rw[if_pos (by decide)]
 refine wpAny_bind (mG hs pl pu ?_)
 have hno:¬((((sIx items.size 0 lo:Nat):Int) == 0&&(1:Int) == 1&&(sIx items.size items.size hi-sIx items.size 0 lo) == items.size)=true):=by
  intro q
  rw[Bool.and_eq_true,Bool.and_eq_true]at q
  have q1:((sIx items.size 0 lo:Nat):Int)=0:=eq_of_beq q.1.1
  have q2:sIx items.size items.size hi-sIx items.size 0 lo=items.size:=eq_of_beq q.2
  exact hw ⟨by omega,by omega⟩
 show wpAny _ _ (if (((sIx items.size 0 lo:Nat):Int) == 0&&(1:Int) == 1&&(sIx items.size items.size hi-sIx items.size 0 lo) == items.size)=true then _ else _) _ _ s
 rw[if_neg hno,Bo]
 first
  |exact wpAny_bind (m:=Builtin.Tuple.tupleExact _) (wpAny_newObj_type (wpAny_pure ⟨_,rfl,wpAny_pure h⟩) htake)
  |exact wpAny_bind (m:=Builtin.Tuple.tupleExact _) (wpAny_newObj_type (wpAny_bind (wpAny_pure (wpAny_pure ⟨_,rfl,wpAny_pure h⟩))) htake)
  |exact wpAny_bind (wpAny_bind (m:=Builtin.Tuple.tupleExact _) (wpAny_newObj_type (wpAny_pure (wpAny_pure ⟨_,rfl,wpAny_pure h⟩)) htake))
  |exact wpAny_bind (wpAny_bind (m:=Builtin.Tuple.tupleExact _) (wpAny_newObj_type (wpAny_pure ⟨_,rfl,wpAny_pure h⟩) htake))
end
end HT
namespace L2
open PySem PySem.Spec PyProof.Rows
abbrev TO:=St->Hp->(Option Int->Hp->Prop)->Prop
def PO(X:Cx)(e:Option Expr)(t:TO):Prop:=
 ∀(pins:List (Addr×Obj)) (s:Shared) (σ:St) (H:Hp) (Q:Option Int->Hp->Prop),Inv X pins σ H s->t σ H Q->
  wpAny (model X.prog X.w) X.A (evalPart e X.env) (fun u s'=>∃o H',Inv X pins σ H' s'/\IsPart u o/\Q o H') X.xe s
def xS:TO:=fun _ H Q=>Q none H
def HL(t:TE):TO:=fun σ H Q=>t σ H fun x H1=>∃i,x=.int i/\Q (some i) H1
section
variable{X:Cx}{e:Expr}{te:TE}{lo hi:Option Expr}{tl th:TO}{pos p2:Pos}
theorem EU:PO X none xS:=by
 intro pins s σ H Q I h
 rw[evalPart_none]
 exact wpAny_pure ⟨none,H,I,.none,h⟩
theorem ET(h:PE X e te):PO X (some e) (HL te):=by
 intro pins s σ H Q I hw
 rw[evalPart_some]
 refine thn (h pins s σ H _ I hw) fun u s1 hz=>?_
 obtain⟨x,H1,I1,r1,q1⟩:=hz
 obtain⟨i,rfl,q⟩:=q1
 obtain⟨t,rfl⟩:=r1
 exact⟨some i,H1,I1,.int i t,q⟩
def SlR(X:Cx)(r:V->Option Int->Option Int->Hp->VK->Prop):Prop:=
 ∀(pins:List (Addr×Obj)) (s:Shared) (σ:St) (H:Hp) (x:V) (v vl vu:Value) (lo hi:Option Int) (sl:Addr) (Q:VK),Inv X pins σ H s->cR x v->s.heap.IsSliceOf sl vl vu .none->IsPart vl lo->IsPart vu hi->r x lo hi H Q->
  ∃T id,typeLookup (.type T) "__getitem__"=pure (some (.builtin id))/\s.TypeIs v T/\wpAny (model X.prog X.w) X.A (getItem v (.ref sl)) (EP X pins σ Q) X.xe s
theorem SlR.or{r r':V->Option Int->Option Int->Hp->VK->Prop}(h:SlR X r)(h':SlR X r'):SlR X (fun x lo hi H Q=>r x lo hi H Q\/r' x lo hi H Q):=by
 intro pins s σ H x v vl vu lo hi sl Q I rx hs pl pu q
 rcases q with q|q
 ·exact h pins s σ H x v vl vu lo hi sl Q I rx hs pl pu q
 ·exact h' pins s σ H x v vl vu lo hi sl Q I rx hs pl pu q
def tSl(r:V->Option Int->Option Int->Hp->VK->Prop)(te:TE)(tl th:TO):TE:=fun σ H Q=>te σ H fun x H1=>tl σ H1 fun l H2=>th σ H2 fun u H3=>r x l u H3 Q
theorem Bq{r:V->Option Int->Option Int->Hp->VK->Prop}(hr:SlR X r)(he:PE X e te)(hl:PO X lo tl)(hu:PO X hi th):PE X (.Subscript e (.Slice lo hi none p2) pos) (tSl r te tl th):=by
 intro pins s σ H Q I h
 refine Subscript_ (thn (he pins s σ H _ I h) fun v s1 hz=>?_)
 obtain⟨x,H1,I1,r1,q1⟩:=hz
 refine wpAny_Slice (thn (hl pins s1 σ H1 _ I1 q1) fun vl s2 ⟨l,H2,I2,pl,q2⟩=>thn (hu pins s2 σ H2 _ I2 q2) fun vu s3 hz=>?_)
 obtain⟨u,H3,I3,pu,q3⟩:=hz
 rw[evalPart_none]
 refine wpAny_pure ?_
 have I4:Inv X pins σ H3 { s3 with heap:=s3.heap.push { cls:=.type "slice",data:=.fields #[vl,vu,.none] } }:=I3.kept (t':=s3.toks) fun b ob q=>Heap.get?_push_of_some _ q
 obtain⟨T,id,hT,ht,hg⟩:=hr pins { s3 with heap:=s3.heap.push { cls:=.type "slice",data:=.fields #[vl,vu,.none] } } σ H3 x v vl vu l u s3.heap.objs.size Q I4 r1 (Heap.IsSliceOf.new ..) pl pu q3
 show wpAny (model X.prog X.w) X.A (subscriptTail e (.Slice lo hi none p2) v (.ref s3.heap.objs.size)) (EP X pins σ Q) X.xe { s3 with heap:=s3.heap.push { cls:=.type "slice",data:=.fields #[vl,vu,.none] } }
 exact tail_any (ops:=[.ref s3.heap.objs.size,v]) ht hT hg (by with_unfolding_all rfl)
def zW(xs:List V)(lo hi:Option Int):List V:=(xs.drop (HT.sIx xs.length 0 lo)).take (HT.sIx xs.length xs.length hi-HT.sIx xs.length 0 lo)
theorem n6(xs:List V)(lo hi:Option Int):(zW xs lo hi).length<=xs.length:=by
 unfold zW
 rw[List.length_take,List.length_drop]
 omega
def Ng(K:PySem.W.Frag):V->Option Int->Option Int->Hp->VK->Prop:=fun x lo hi H Q=>∃a xs,x=.ref a/\SqT K H a xs/\
 ¬(HT.sIx xs.length 0 lo=0/\HT.sIx xs.length xs.length hi=xs.length)/\∀p,H p=none->Q (.ref p) (upd H p (.tup (zW xs lo hi)))
theorem HY:SlR X (Ng X.K):=by
 intro pins s σ H x v vl vu lo hi sl Q I rx hs pl pu h
 obtain⟨a,xs,rfl,hx,hw,q⟩:=h
 cases rx
 obtain⟨its,r,ht,hz⟩:=I.tuple hx
 have gK:its.toArray.size=xs.length:=by rw[List.size_toArray];exact r.length.symm
 refine⟨"tuple",_,PyProof.Rows.slot_tuple_getitem.lookup,ht.typeIs,?_⟩
 refine HT.getItem_tuple_cut ht hs pl pu (by rw[gK];exact hw) ?_ (by rw[gK];exact hz)
 rw[gK]
 refine⟨.ref s.heap.objs.size,_,I.laid (t':=s.toks) (o:=.tup (zW xs lo hi)) (fun b ob q=>Heap.get?_push_of_some _ q) (Nat.le_refl _) ?_,rfl,q _ (I.hok.fresh (Nat.le_refl _))⟩
 exact⟨Nat.le_trans (n6 xs lo hi) hz,_,(r.drop (HT.sIx xs.length 0 lo)).take (HT.sIx xs.length xs.length hi-HT.sIx xs.length 0 lo),IsTup.new _ _⟩
def Lp(K:PySem.W.Frag):R2:=fun x y H Q=>∃a b xs ys,x=.ref a/\y=.ref b/\SqT K H a xs/\SqT K H b ys/\xs≠[]/\xs.length+ys.length<=sizeLine/\
 (ys=[]->Q (.ref a) H)/\(ys≠[]->∀p,H p=none->Q (.ref p) (upd H p (.tup (xs++ys))))
theorem bW.nil_iff{xs:List V}{us:List Value}(r:bW xs us):us=[]↔xs=[]:=by
 cases r with
 |nil=>simp
 |cons _ _=>simp
theorem Fi:OpR X (binaryOp .Add) (Lp X.K):=by
 intro pins s σ H x y v u Q I rx ry h
 obtain⟨a,b,xs,ys,rfl,rfl,ha,hb,hx,hz,q1,q2⟩:=h
 cases rx
 cases ry
 obtain⟨its,r1,p1,_⟩:=I.tuple ha
 obtain⟨its2,r2,p2,_⟩:=I.tuple hb
 refine HT.cat_tup p1 p2 (fun z=>hx (r1.nil_iff.mp z)) (fun z=>⟨.ref a,H,I,rfl,q1 (r2.nil_iff.mp z)⟩) (fun z=>?_) (by rw[<-r1.length,<-r2.length];exact hz)
 refine⟨.ref s.heap.objs.size,_,I.laid (t':=s.toks) (o:=.tup (xs++ys)) (fun b ob q=>Heap.get?_push_of_some _ q) (Nat.le_refl _) ?_,rfl,q2 (fun w=>z (r2.nil_iff.mpr w)) _ (I.hok.fresh (Nat.le_refl _))⟩
 exact⟨by rw[List.length_append];exact hz,_,r1.append r2,IsTup.new _ _⟩
end
def ixN(n:Nat)(i:Int):Option Nat:=if 0<=i then(if i<n then some i.toNat else none)else if -(n:Int)<=i then some (i+n).toNat else none
def atI{α:Type}(xs:List α)(i:Int):Option α:=(ixN xs.length i).bind fun j=>xs[j]?
theorem zb{n:Nat}{i:Int}{j:Nat}(h:ixN n i=some j):seqIndex? i n=some j/\j<n/\-(n:Int)<=i/\i<n:=by
 unfold ixN at h
 by_cases h0:0<=i
 ·rw[if_pos h0]at h
  by_cases h1:i<n
  ·rw[if_pos h1]at h
   have e:i.toNat=j:=Option.some.inj h
   exact⟨by rw[seqIndex_of h0 h1,e],by omega,by omega,h1⟩
  ·rw[if_neg h1]at h;cases h
 ·rw[if_neg h0]at h
  by_cases h1:-(n:Int)<=i
  ·rw[if_pos h1]at h
   have e:(i+n).toNat=j:=Option.some.inj h
   exact⟨by rw[seqIndex_neg (by omega) h1,e],by omega,h1,by omega⟩
  ·rw[if_neg h1]at h;cases h
theorem Am{α:Type}{xs:List α}{i:Int}{v:α}(h:atI xs i=some v):∃j,seqIndex? i xs.length=some j/\xs[j]?=some v/\j<xs.length/\-(xs.length:Int)<=i/\i<xs.length:=by
 unfold atI at h
 cases e:ixN xs.length i with
 |none=>rw[e]at h;cases h
 |some j=>
  rw[e]at h
  obtain⟨h1,h2,h3,h4⟩:=zb e
  exact⟨j,h1,h,h2,h3,h4⟩
theorem iY{α:Type}{xs:List α}{j:Nat}{v:α}(h:xs[j]?=some v):atI xs (j:Int)=some v:=by
 have hj:j<xs.length:=(List.getElem?_eq_some_iff.mp h).1
 have e:ixN xs.length (j:Int)=some j:=by
  unfold ixN
  rw[if_pos (by omega),if_pos (by omega)];simp
 unfold atI;rw[e];exact h
def uo(b:Expr):Prop:=∀o i,subscripted b false o i=operate [o,i] (getItem o i)
def IxR(X:Cx)(r:R2):Prop:=
 ∀(value slice:Expr) (pins:List (Addr×Obj)) (s:Shared) (σ:St) (H:Hp) (x y:V) (v u:Value) (Q:VK),Inv X pins σ H s->cR x v->cR y u->r x y H Q->
  subscripted slice false v u=operate [v,u] (getItem v u)->wpAny (model X.prog X.w) X.A (subscriptTail value slice v u) (EP X pins σ Q) X.xe s
def MtR(X:Cx)(id:String)(r:V->List V->Hp->VK->Prop):Prop:=
 ∀(pins:List (Addr×Obj)) (s:Shared) (σ:St) (H:Hp) (x:V) (xs:List V) (v:Value) (us:List Value) (Q:VK),Inv X pins σ H s->cR x v->bW xs us->r x xs H Q->
  wpAny (model X.prog X.w) X.A (call (.builtin id) (v::us)) (EP X pins σ Q) X.xe s
section
variable{X:Cx}{a b:Expr}{ta tb:TE}{pos:Pos}
theorem IxR.or{r r':R2}(h:IxR X r)(h':IxR X r'):IxR X (fun x y H Q=>r x y H Q\/r' x y H Q):=by
 intro value slice pins s σ H x y v u Q I rx ry q hs
 rcases q with q|q
 ·exact h value slice pins s σ H x y v u Q I rx ry q hs
 ·exact h' value slice pins s σ H x y v u Q I rx ry q hs
theorem LD{r:R2}(hr:IxR X r)(ha:PE X a ta)(hb:PE X b tb)(hs:uo b):PE X (.Subscript a b pos) (tOp r ta tb):=by
 intro pins s σ H Q I h
 exact Subscript_ (Mc ha hb I h fun v u s2 x y H2 I2 rx ry q=>hr a b pins s2 σ H2 x y v u Q I2 rx ry q (hs _ _))
def Nj(K:PySem.W.Frag):R2:=fun x y H Q=>∃p xs i v,x=.ref p/\y=.int i/\SqL K H p xs/\atI xs i=some v/\Q v H
def Ni(K:PySem.W.Frag):R2:=fun x y H Q=>∃p xs i v,x=.ref p/\y=.int i/\SqT K H p xs/\atI xs i=some v/\Q v H
theorem FE:IxR X (Nj X.K):=by
 intro value slice pins s σ H x y v u Q I rx ry h hs
 obtain⟨p,xs,i,z,rfl,rfl,hq,he,q⟩:=h
 cases rx
 obtain⟨t,rfl⟩:=ry
 obtain⟨its,r,pl,hz⟩:=I.list hq
 obtain⟨j,h1,h2,h3,h4,h5⟩:=Am he
 obtain⟨w,ew,rw'⟩:=r.get h2
 have hl:=r.length
 have hn:=va
 have fin:EP X pins σ Q w s:=⟨z,H,I,rw',q⟩
 by_cases h0:0<=i
 ·have hj:i.toNat=j:=by
   rw[seqIndex_of h0 h5]at h1
   exact Option.some.inj h1
  exact item_listR pl.isList h0 (by omega) (by rw[hj];simpa using ew) fin hs
 ·have hj:(i+(its.toArray.size:Int)).toNat=j:=by
   rw[seqIndex_neg (by omega) h4]at h1
   rw[List.size_toArray,<-hl]
   exact Option.some.inj h1
  exact subscriptTail_builtinR (x:=w) pl.isList.typeIs slot_list_getitem.lookup
   (wpAny_getItem_list_neg (Q:=fun r s'=>r=w/\EP X pins σ Q r s') pl.isList (by omega) (by rw[List.size_toArray]<;>omega) (by omega) (by rw[hj];simpa using ew) ⟨rfl,fin⟩) hs
theorem Jx:IxR X (Ni X.K):=by
 intro value slice pins s σ H x y v u Q I rx ry h hs
 obtain⟨p,xs,i,z,rfl,rfl,hq,he,q⟩:=h
 cases rx
 obtain⟨t,rfl⟩:=ry
 obtain⟨its,r,pl,hz⟩:=I.tuple hq
 obtain⟨j,h1,h2,h3,h4,h5⟩:=Am he
 obtain⟨w,ew,rw'⟩:=r.get h2
 have hl:=r.length
 have hn:=va
 have fin:EP X pins σ Q w s:=⟨z,H,I,rw',q⟩
 exact subscriptTail_builtinR (x:=w) pl.typeIs slot_tuple_getitem.lookup
  (getItem_tuple (j:=j) (Q:=fun r s'=>r=w/\EP X pins σ Q r s') pl (by omega) (by omega) (by rw[List.size_toArray,<-hl];exact h1) (by simpa using ew) ⟨rfl,fin⟩) hs
theorem wc(its:List Value)(n j:Nat)(u:Value):Obj.mapSeq (·.setIfInBounds j u) { cls:=.type "list",data:=.seq its.toArray n }={ cls:=.type "list",data:=.seq (its.set j u).toArray n }:=by
 simp[Obj.mapSeq]
theorem Inv.lst{pins:List (Addr×Obj)}{σ:St}{H:Hp}{s:Shared}{p:Addr}{xs:List V}(I:Inv X pins σ H s)(h:H p=some (.lst xs)) :
  ∃(its:List Value) (n:Nat),bW xs its/\s.heap.get? p=some { cls:=.type "list",data:=.seq its.toArray n }/\xs.length<=sizeLine:=by
 obtain⟨z,its,n,r,e⟩:=I.hok p _ h
 exact⟨its,n,r,e,z⟩
theorem Inv.lstUpd{pins:List (Addr×Obj)}{σ:St}{H:Hp}{s:Shared}{p:Addr}{xs ys:List V}{its its':List Value}{n n':Nat}{f:Obj->Obj}(I:Inv X pins σ H s)(h:H p=some (.lst xs))
  (ho:s.heap.get? p=some { cls:=.type "list",data:=.seq its.toArray n }) (hf:f { cls:=.type "list",data:=.seq its.toArray n }={ cls:=.type "list",data:=.seq its'.toArray n' }) (r:bW ys its') (hz:ys.length<=sizeLine) (t:Nat) :
  Inv X pins σ (upd H p (.lst ys)) { s with heap:=s.heap.update p f,toks:=t }:=by
 have e:(s.heap.update p f).get? p=some { cls:=.type "list",data:=.seq its'.toArray n' }:=by
  rw[Heap.get?_update_self f ho (by rw[hf]<;>rfl),hf]
 refine I.write (x:=p) (e:=p) (by rw[h];trivial) (.inl rfl) (fun b u hb q=>(Heap.get?_update_other _ _ (Ne.symm hb)).trans q) ⟨_,e⟩ ?_
 exact⟨hz,its',n',r,e⟩
def Lm:V->V->V->Hp->(Hp->Prop)->Prop:=fun o i v H Q=>∃p xs k j,o=.ref p/\i=.int k/\H p=some (.lst xs)/\ixN xs.length k=some j/\Q (upd H p (.lst (xs.set j v)))
theorem A6:Mj X Lm:=by
 intro pins s σ H o i v ov iv u Q I ro ri rv h
 obtain⟨p,xs,k,j,rfl,rfl,hp,hj,q⟩:=h
 cases ro
 obtain⟨t,rfl⟩:=ri
 obtain⟨its,n,r,ho,hz⟩:=I.lst hp
 obtain⟨h1,h2,h3,h4⟩:=zb hj
 have hl:=r.length
 have hn:=va
 have I':Inv X pins σ (upd H p (.lst (xs.set j v))) { s with heap:=s.heap.update p (Obj.mapSeq (·.setIfInBounds j u)) }:=
  I.lstUpd hp ho (wc its n j u) (r.set rv j) (by rw[List.length_set];exact hz) s.toks
 by_cases h0:0<=k
 ·have hk:k.toNat=j:=by
   rw[seqIndex_of h0 h4]at h1
   exact Option.some.inj h1
  exact PySem.W.ki_setAt ho h0 (by omega) (by rw[List.size_toArray,<-hl];exact h4) (by rw[hk];exact⟨_,I',q⟩)
 ·have hk:(k+(its.toArray.size:Int)).toNat=j:=by
   rw[seqIndex_neg (by omega) h3]at h1
   rw[List.size_toArray,<-hl]
   exact Option.some.inj h1
  exact PySem.W.ki_setBack ho (by omega) (by rw[List.size_toArray,<-hl];exact h3) (by omega) (by rw[hk];exact⟨_,I',q⟩)
theorem rH(lo hi:Option Int)(n:Nat):(sliceBounds lo hi none n).1=((HT.sIx n 0 lo:Nat):Int)/\(sliceBounds lo hi none n).2.1=((HT.sIx n n hi:Nat):Int)/\(sliceBounds lo hi none n).2.2=1:=by
 refine⟨?_,?_,rfl⟩
 ·cases lo with
  |none=>simp[sliceBounds,HT.sIx]
  |some i=>
   simp only[sliceBounds,HT.sIx,Option.getD_none,show(1:Int)>0 by decide,if_true]
   by_cases h:i<0
   ·simp only[h,if_true]<;>omega
   ·simp only[h,if_false]<;>omega
 ·cases hi with
  |none=>simp[sliceBounds,HT.sIx]
  |some i=>
   simp only[sliceBounds,HT.sIx,Option.getD_none,show(1:Int)>0 by decide,if_true]
   by_cases h:i<0
   ·simp only[h,if_true]<;>omega
   ·simp only[h,if_false]<;>omega
theorem pV(its:List Value)(lo hi:Option Int):slicePick its.toArray lo hi none=((its.drop (HT.sIx its.length 0 lo)).take (HT.sIx its.length its.length hi-HT.sIx its.length 0 lo)).toArray:=by
 obtain⟨h1,h2,h3⟩:=rH lo hi its.toArray.size
 unfold slicePick
 rw[h1,h2,h3]
 simp only[sliceRange_one,pick_run,List.size_toArray]<;>rfl
def Nh(K:PySem.W.Frag):V->Option Int->Option Int->Hp->VK->Prop:=fun x lo hi H Q=>∃a xs,x=.ref a/\SqL K H a xs/\∀p,H p=none->Q (.ref p) (upd H p (.lst (zW xs lo hi)))
theorem xZ:SlR X (Nh X.K):=by
 intro pins s σ H x v vl vu lo hi sl Q I rx hs pl pu h
 obtain⟨a,xs,rfl,hx,q⟩:=h
 cases rx
 obtain⟨its,r,ht,hz⟩:=I.list hx
 have gK:=r.length
 refine⟨"list",_,slot_list_getitem.lookup,ht.isList.typeIs,?_⟩
 refine wpAny_getItem_list_slice ht.isList hs pl pu .none (by simp) ?_ (by rw[List.size_toArray]<;>omega)
 rw[pV,<-gK]
 refine⟨.ref s.heap.objs.size,_,I.laid (t':=s.toks) (o:=.lst (zW xs lo hi)) (fun b ob q=>Heap.get?_push_of_some _ q) (Nat.le_refl _) ?_,rfl,q _ (I.hok.fresh (Nat.le_refl _))⟩
 exact⟨Nat.le_trans (n6 xs lo hi) hz,_,0,(r.drop (HT.sIx xs.length 0 lo)).take (HT.sIx xs.length xs.length hi-HT.sIx xs.length 0 lo),Heap.get?_push_size _ rfl⟩
def oK:V->Bool
 |.non=>true
 |.bl _=>true
 |.int _=>true
 |.str _=>true
 |_=>false
def eqV:V->V->Bool
 |.non,.non=>true
 |.bl a,.bl b=>a == b
 |.bl a,.int b=>(if a then 1 else 0) == b
 |.int a,.bl b=>a == (if b then 1 else 0)
 |.int a,.int b=>a == b
 |.str a,.str b=>a == b
 |_,_=>false
theorem JO{A:Around}{s:Shared}{y x:V}{u v:Value}(ry:cR y u)(rx:cR x v)(fy:oK y=true)(fx:oK x=true):SeqAt.EqAt A s u v (eqV y x):=by
 cases y with
 |non=>
  cases ry
  cases x with
  |non=>cases rx;exact SeqAt.EqAt.same _
  |bl b=>cases rx;exact SeqAt.EqAt.none_bool b
  |int b=>obtain⟨t,rfl⟩:=rx;exact SeqAt.EqAt.none_int b t
  |str b=>obtain⟨t,rfl⟩:=rx;exact SeqAt.EqAt.none_str b t
  |_=>exact absurd (show false=true from fx) Bool.false_ne_true
 |bl a=>
  cases ry
  cases x with
  |non=>cases rx;exact SeqAt.EqAt.bool_none a
  |bl b=>cases rx;exact SeqAt.EqAt.bool_bool a b
  |int b=>obtain⟨t,rfl⟩:=rx;exact SeqAt.EqAt.bool_int a b t
  |str b=>obtain⟨t,rfl⟩:=rx;exact SeqAt.EqAt.bool_str a b t
  |_=>exact absurd (show false=true from fx) Bool.false_ne_true
 |int a=>
  obtain⟨t',rfl⟩:=ry
  cases x with
  |non=>cases rx;exact SeqAt.EqAt.int_none a t'
  |bl b=>cases rx;exact SeqAt.EqAt.int_bool a t' b
  |int b=>obtain⟨t,rfl⟩:=rx;exact SeqAt.EqAt.int_int a t' b t
  |str b=>obtain⟨t,rfl⟩:=rx;exact SeqAt.EqAt.int_str a t' b t
  |_=>exact absurd (show false=true from fx) Bool.false_ne_true
 |str a=>
  obtain⟨t',rfl⟩:=ry
  cases x with
  |non=>cases rx;exact SeqAt.EqAt.str_none a t'
  |bl b=>cases rx;exact SeqAt.EqAt.str_bool a t' b
  |int b=>obtain⟨t,rfl⟩:=rx;exact SeqAt.EqAt.str_int a t' b t
  |str b=>obtain⟨t,rfl⟩:=rx;exact SeqAt.EqAt.str_str a t' b t
  |_=>exact absurd (show false=true from fx) Bool.false_ne_true
 |_=>exact absurd (show false=true from fy) Bool.false_ne_true
def eqU(x:V)(u:Value):Bool:=match u with
 |.none=>eqV .non x
 |.bool b=>eqV (.bl b) x
 |.int i _=>eqV (.int i) x
 |.str z _=>eqV (.str z) x
 |_=>false
theorem Dz{x y:V}{u:Value}(r:cR y u)(f:oK y=true):eqU x u=eqV y x:=by
 cases y with
 |non=>cases r;rfl
 |bl b=>cases r;rfl
 |int i=>obtain⟨t,rfl⟩:=r;rfl
 |str z=>obtain⟨t,rfl⟩:=r;rfl
 |_=>exact absurd (show false=true from f) Bool.false_ne_true
theorem ox{x:V}:∀{xs:List V} {us:List Value},bW xs us->xs.all oK=true->us.any (eqU x)=xs.any fun y=>eqV y x
 |_,_,.nil,_=>rfl
 |y::xs,u::us,.cons r t,f=>by
  rw[List.all_cons,Bool.and_eq_true]at f
  rw[List.any_cons,List.any_cons,Dz r f.1,ox t f.2]
theorem lq{A:Around}{s:Shared}{x:V}{v:Value}(rx:cR x v)(fx:oK x=true):∀{xs:List V} {us:List Value},bW xs us->xs.all oK=true->∀u∈us,SeqAt.EqAt A s u v (eqU x u)
 |_,_,.nil,_=>fun u hu=>by cases hu
 |y::xs,u::us,.cons r t,f=>fun u' hu=>by
  rw[List.all_cons,Bool.and_eq_true]at f
  rcases List.mem_cons.mp hu with rfl|hu
  ·rw[Dz r f.1];exact JO r rx f.1 fx
  ·exact lq rx fx t f.2 u' hu
def inV(x:V)(xs:List V):Bool:=xs.any fun y=>eqV y x
def rIn(K:PySem.W.Frag)(neg:Bool):R2:=fun x y H Q=>∃p xs,y=.ref p/\(SqL K H p xs\/SqT K H p xs)/\oK x=true/\xs.all oK=true/\Q (.bl (if neg then !inV x xs else inV x xs)) H
theorem rP:OpR X (compareOp .In) (rIn X.K false):=by
 intro pins s σ H x y v u Q I rx ry h
 obtain⟨p,xs,rfl,hq,fx,fs,q⟩:=h
 cases ry
 rcases hq with hq|hq
 ·obtain⟨its,r,pl,hz⟩:=I.list hq
  refine SeqAt.in_listAt (eqU x) pl.isList (fun w hw=>lq rx fx r fs w (by simpa using hw)) ⟨.bl _,H,I,rfl,?_⟩
  rw[show its.toArray.any (eqU x)=its.any (eqU x)by simp,ox r fs]
  exact q
 ·obtain⟨its,r,pl,hz⟩:=I.tuple hq
  refine SeqAt.in_tupleAt (eqU x) pl (fun w hw=>lq rx fx r fs w (by simpa using hw)) ⟨.bl _,H,I,rfl,?_⟩
  rw[show its.toArray.any (eqU x)=its.any (eqU x)by simp,ox r fs]
  exact q
theorem mx:OpR X (compareOp .NotIn) (rIn X.K true):=by
 intro pins s σ H x y v u Q I rx ry h
 obtain⟨p,xs,rfl,hq,fx,fs,q⟩:=h
 cases ry
 rcases hq with hq|hq
 ·obtain⟨its,r,pl,hz⟩:=I.list hq
  refine SeqAt.notIn_listAt (eqU x) pl.isList (fun w hw=>lq rx fx r fs w (by simpa using hw)) ⟨.bl _,H,I,rfl,?_⟩
  rw[show its.toArray.any (eqU x)=its.any (eqU x)by simp,ox r fs]
  exact q
 ·obtain⟨its,r,pl,hz⟩:=I.tuple hq
  refine SeqAt.notIn_tupleAt (eqU x) pl (fun w hw=>lq rx fx r fs w (by simpa using hw)) ⟨.bl _,H,I,rfl,?_⟩
  rw[show its.toArray.any (eqU x)=its.any (eqU x)by simp,ox r fs]
  exact q
theorem sP:gQ X (.builtin "len") (fun xs H Q=>∃p ys,xs=[.ref p]/\(SqL X.K H p ys\/SqT X.K H p ys)/\Q (.int ys.length) H):=by
 intro pins s σ H xs us Q I r h
 obtain⟨p,ys,rfl,hq,q⟩:=h
 obtain⟨u,rfl,rx⟩:=m7 r
 cases rx
 have hn:=va
 rcases hq with hq|hq
 ·obtain⟨its,r',pl,hz⟩:=I.list hq
  have gK:=r'.length
  exact Calls.call_len_list pl.isList (by simp only[List.size_toArray]<;>omega) ⟨.int ys.length,H,I.tok _,⟨s.toks+1,by rw[List.size_toArray,gK]⟩,q⟩
 ·obtain⟨its,r',pl,hz⟩:=I.tuple hq
  have gK:=r'.length
  exact len_tuple pl (by simp only[List.size_toArray]<;>omega) ⟨.int ys.length,H,I.tok _,⟨s.toks+1,by rw[List.size_toArray,gK]⟩,q⟩
theorem gQ.or{f:Value}{r r':List V->Hp->VK->Prop}(h:gQ X f r)(h':gQ X f r'):gQ X f (fun xs H Q=>r xs H Q\/r' xs H Q):=by
 intro pins s σ H xs us Q I rs q
 rcases q with q|q
 ·exact h pins s σ H xs us Q I rs q
 ·exact h' pins s σ H xs us Q I rs q
theorem mD:gQ X (.type "list") (fun xs H Q=>∃p ys,xs=[.ref p]/\(SqL X.K H p ys\/SqT X.K H p ys)/\∀l,H l=none->Q (.ref l) (upd H l (.lst ys))):=by
 intro pins s σ H xs us Q I r h
 obtain⟨p,ys,rfl,hq,q⟩:=h
 obtain⟨u,rfl,rx⟩:=m7 r
 cases rx
 have fin:∀(its:List Value),bW ys its->ys.length<=sizeLine->∀(h':Heap) (c':Nat),(∀b o',s.heap.get? b=some o'->h'.get? b=some o')->
   h'.get? s.heap.objs.size=some { cls:=.type "list",dict:=none,data:=.seq its.toArray c',slots:=#[] }->EP X pins σ Q (.ref s.heap.objs.size) { s with heap:=h' }:=fun its r' hz h' c' kp e=>
  ⟨.ref s.heap.objs.size,_,I.laid (t':=s.toks) kp (Nat.le_refl _) (show cT X.prog X.w _ h' _ (.lst ys)from⟨hz,its,c',r',e⟩),rfl,q _ (I.hok.fresh (Nat.le_refl _))⟩
 rcases hq with hq|hq
 ·obtain⟨its,r',pl,hz⟩:=I.list hq
  have gK:=r'.length
  obtain⟨o,ho,hc,n,hd⟩:=pl.isList
  exact call_list_seq p (.inl rfl) ho hc hd (fun h' c' kp e=>fin its r' hz h' c' kp e) (by simp only[List.size_toArray]<;>omega)
 ·obtain⟨its,r',pl,hz⟩:=I.tuple hq
  have gK:=r'.length
  obtain⟨o,ho,hc,n,hd⟩:=pl
  exact call_list_seq p (.inr rfl) ho hc hd (fun h' c' kp e=>fin its r' hz h' c' kp e) (by simp only[List.size_toArray]<;>omega)
theorem iU:gQ X (.type "tuple") (fun xs H Q=>∃p ys,xs=[.ref p]/\((SqL X.K H p ys/\∀l,H l=none->Q (.ref l) (upd H l (.tup ys)))\/(SqT X.K H p ys/\Q (.ref p) H))):=by
 intro pins s σ H xs us Q I r h
 obtain⟨p,ys,rfl,h⟩:=h
 obtain⟨u,rfl,rx⟩:=m7 r
 cases rx
 rcases h with⟨hq,q⟩|⟨hq,q⟩
 ·obtain⟨its,r',pl,hz⟩:=I.list hq
  have gK:=r'.length
  refine call_tuple_list pl.isList (fun h' kp=>?_) (by simp only[List.size_toArray]<;>omega)
  have I1:Inv X pins σ H { s with heap:=h' }:=I.kept (t':=s.toks) kp
  have I2:Inv X pins σ (upd H h'.objs.size (.tup ys)) { s with heap:=h'.push { cls:=.type "tuple",data:=.seq its.toArray } }:=
   I1.laid (t':=s.toks) (fun b o e=>Heap.get?_push_of_some _ e) (Nat.le_refl _) (show cT X.prog X.w _ _ _ (.tup ys)from⟨hz,its,r',IsTup.new _ _⟩)
  exact⟨.ref h'.objs.size,_,I2,rfl,q _ (I1.hok.fresh (Nat.le_refl _))⟩
 ·obtain⟨its,r',pl,hz⟩:=I.tuple hq
  exact call_tuple_same pl ⟨.ref p,H,I,rfl,q⟩
def tyV(K:PySem.W.Frag)(T:String)(x:V)(H:Hp):Prop:=match x with
 |.str _=>T="str"
 |.int _=>T="int"
 | .ref p=>(T="list"/\∃xs,SqL K H p xs)\/(T="tuple"/\∃o,K.lookup p=some o/\o.cls=.type "tuple"/\o.dict=none)\/
   (T="dict"/\((∃kvs,H p=some (.dK kvs))\/∃kvs,H p=some (.dT kvs)))\/(T="set"/\∃S n,H p=some (.set S n))
 |_=>False
theorem CW{pins:List (Addr×Obj)}{σ:St}{H:Hp}{s:Shared}{T:String}{x:V}{v:Value}(I:Inv X pins σ H s)(r:cR x v)(ty:tyV X.K T x H) :
  s.TypeIs v T/\∀a,v=.ref a->∃ob,s.heap.get? a=some ob/\ob.dict=none:=by
 cases x with
 |str z=>
  obtain⟨t,rfl⟩:=r
  cases (show T="str" from ty)
  exact⟨typeIs_str s z t,fun _ e=>nomatch e⟩
 |int i=>
  obtain⟨t,rfl⟩:=r
  cases (show T="int" from ty)
  exact⟨typeIs_int s i t,fun _ e=>nomatch e⟩
 |ref p=>
  cases r
  rcases ty with⟨rfl,xs,hq⟩|⟨rfl,o,hk,hc,hd⟩|⟨rfl,hk⟩|⟨rfl,S,n,hk⟩
  ·obtain⟨its,_,pl,_⟩:=I.list hq
   refine⟨pl.isList.typeIs,fun a e=>?_⟩
   cases e
   obtain⟨o,n,e,c,hd,_⟩:=pl
   exact⟨o,e,hd⟩
  ·refine⟨⟨o,I.kIn p o hk,hc⟩,fun a e=>?_⟩
   cases e
   exact⟨o,I.kIn _ o hk,hd⟩
  ·have z:∃o,s.heap.get? p=some o/\o.ExactDict:=by
    rcases hk with⟨kvs,hk⟩|⟨kvs,hk⟩
    ·obtain⟨_,_,_,_,o,_,_,e,ex,_⟩:=I.hok p _ hk
     exact⟨o,e,ex⟩
    ·obtain⟨_,_,_,_,o,_,_,e,ex,_⟩:=I.hok p _ hk
     exact⟨o,e,ex⟩
   obtain⟨o,e,ex⟩:=z
   refine⟨⟨o,e,ex.1⟩,fun a e2=>?_⟩
   cases e2
   exact⟨o,e,ex.2.1⟩
  ·obtain⟨o,_,_,_,e,ex,_⟩:=I.hok p _ hk
   refine⟨⟨o,e,ex.1⟩,fun a e2=>?_⟩
   cases e2
   exact⟨o,e,ex.2.1⟩
 |_=>exact False.elim ty
def Mx(K:PySem.W.Frag)(T:String)(r:V->List V->Hp->VK->Prop)(to:TE):TE:=fun σ H Q=>to σ H fun x H1=>tyV K T x H1/\r x [] H1 Q
def tBM(K:PySem.W.Frag)(T:String)(r:V->List V->Hp->VK->Prop)(to:TE)(t:TA):TE:=fun σ H Q=>to σ H fun x H1=>tyV K T x H1/\t σ H1 fun xs H2=>r x xs H2 Q
variable{o e:Expr}{es:List Expr}{to:TE}{t:TA}{name:Str}{apos cpos:Pos}{T id:String}{r:V->List V->Hp->VK->Prop}
theorem IP(pa:PlainAttrs T)(slot:Slot T name id)(hty:typeOf (.builtin id)=pure (.type "method_descriptor"))(hm:MtR X id r)(ho:PE X o to)
  (hbase:attributeBase o name X.env (eval o X.env)=eval o X.env:=by rfl) (hline:(apos.endLine == cpos.line)=true:=by rfl):PE X (.Call (.Attribute o name apos) [] [] cpos) (Mx X.K T r to):=by
 intro pins s σ H Q I h
 refine wpAny_Call_method0_late hbase hline (thn (ho pins s σ H _ I h) fun v s1 hz=>?_)
 obtain⟨x,H1,I1,r1,ty,q1⟩:=hz
 obtain⟨h1,h2⟩:=CW I1 r1 ty
 exact⟨T,id,pa,slot,hty,h1,h2,Calls.callWith_builtin rfl (PySem.evalArgs_none (hm pins s1 σ H1 x [] v [] Q I1 r1 .nil q1))⟩
theorem LF(pa:PlainAttrs T)(slot:Slot T name id)(hty:typeOf (.builtin id)=pure (.type "method_descriptor"))(hm:MtR X id r)(ho:PE X o to)(ha:PA X (e::es) t)
  (hbase:attributeBase o name X.env (eval o X.env)=eval o X.env:=by rfl)
  (hfew:((backTo cpos (starEach (e::es) X.env)).all (fun x=>!x.1)&&(backToKw cpos (keywordEach [] X.env)).all (fun x=>x.1.isSome)
   && decide ((e::es).length+([]:List Keyword).length+(if ([]:List Keyword).isEmpty then 0 else 1)<30))=true:=by rfl)
  (hline:(apos.endLine == cpos.line)=true:=by rfl) (hs:starEach (e::es) X.env=(false,eval e X.env)::starEach es X.env:=by rfl) (hplain:(backTo cpos (starEach es X.env)).any (·.1)=false:=by rfl) :
  PE X (.Call (.Attribute o name apos) (e::es) [] cpos) (tBM X.K T r to t):=by
 intro pins s σ H Q I h
 refine wpAny_Call_method_late hbase hfew hline rfl (thn (ho pins s σ H _ I h) fun v s1 hz=>?_)
 obtain⟨x,H1,I1,r1,ty,q1⟩:=hz
 obtain⟨h1,h2⟩:=CW I1 r1 ty
 refine⟨T,id,pa,slot,hty,h1,h2,?_⟩
 have hA:=ha cpos pins s1 σ H1 _ I1 q1
 rw[hs]at hA ⊢
 refine Calls.callWith_builtin (by show(false||(backTo cpos (starEach es X.env)).any (·.1))=false;rw[hplain]<;>rfl) (Calls.evalArgs_plain ?_)
 exact thn hA fun us s2 ⟨vs,H2,I2,r2,q2⟩=>hm pins s2 σ H2 x vs v us Q I2 r1 r2 q2
end
def MtM(X:Cx)(id:String)(r:V->List V->Hp->VK->Prop):Prop:=
 ∀(pins:List (Addr×Obj)) (s:Shared) (σ:St) (H:Hp) (x:V) (xs:List V) (v:Value) (us:List Value) (Q:VK),Inv X pins σ H s->cR x v->bW xs us->r x xs H Q->
  wpAny (model X.prog X.w) X.A (call (.builtin id) (v::us)) (EP X pins σ Q) X.xe s
theorem bW.one:∀{x:V} {us:List Value},bW [x] us->∃u,us=[u]/\cR x u
 |_,_,.cons r .nil=>⟨_,rfl,r⟩
theorem bW.zero:∀{us:List Value},bW [] us->us=[]
 |_,.nil=>rfl
theorem bW.dropLast{xs:List V}{us:List Value}(h:bW xs us):bW xs.dropLast us.dropLast:=by
 induction h with
 |nil=>exact .nil
 |cons r t ih=>
  cases t with
  |nil=>exact .nil
  |cons q t'=>exact .cons r ih
theorem bW.eraseIdx:∀{xs:List V} {us:List Value} (i:Nat),bW xs us->bW (xs.eraseIdx i) (us.eraseIdx i)
 |_,_,_,.nil=>.nil
 |_,_,0,.cons _ t=>t
 |_,_,i+1,.cons r t=>.cons r (bW.eraseIdx i t)
theorem wL{α:Type}(l:List α):l.eraseIdx (l.length-1)=l.dropLast:=by
 induction l with
 |nil=>rfl
 |cons a r ih=>
  cases r with
  |nil=>rfl
  |cons b r=>
   have e:(a::b::r).length-1=((b::r).length-1)+1:=by
    have h1:(a::b::r).length=r.length+2:=rfl
    have h2:(b::r).length=r.length+1:=rfl
    omega
   rw[e,List.eraseIdx_cons_succ,ih]
   all_goals rfl
theorem rW{α:Type}:∀(l:List α) (i:Nat),(l.eraseIdx i).length<=l.length
 |[],_=>Nat.le_refl _
 |_::_,0=>Nat.le_succ _
 |_::r,i+1=>Nat.succ_le_succ (rW r i)
section
variable{X:Cx}{pins:List (Addr×Obj)}{σ:St}{H:Hp}{s:Shared}{l b:Addr}{xs ys zs:List V}
theorem Inv.lset{its its':List Value}{n:Nat}{f:Array Value->Array Value}{t':Nat}(I:Inv X pins σ H s)(hH:H l=some (.lst xs))
  (e:s.heap.get? l=some { cls:=.type "list",data:=.seq its.toArray n }) (hf:f its.toArray=its'.toArray) (hv:bW ys its') (hz:ys.length<=sizeLine) :
  Inv X pins σ (upd H l (.lst ys)) { s with heap:=s.heap.update l (Obj.mapSeq f),toks:=t' }:=by
 have q:=PySem.IsL.update e f
 rw[hf]at q
 refine I.write (x:=l) (e:=l) (by rw[hH];exact trivial) (.inl rfl) (fun b' u hb hu=>(Heap.get?_update_other s.heap (Obj.mapSeq f) (Ne.symm hb)).trans hu) ⟨_,q⟩ ?_
 exact⟨hz,its',_,hv,q⟩
theorem Inv.lnew{its:List Value}{t':Nat}(I:Inv X pins σ H s)(hv:bW ys its)(hz:ys.length<=sizeLine) :
  Inv X pins σ (upd H s.heap.objs.size (.lst ys)) { s with heap:=s.heap.push { cls:=.type "list",data:=.seq its.toArray },toks:=t' }:=
 I.laid (fun _ _ q=>Heap.get?_push_of_some _ q) (Nat.le_refl _) ⟨hz,its,0,hv,Heap.get?_push_size _ rfl⟩
theorem Inv.fresh(I:Inv X pins σ H s):H s.heap.objs.size=none:=I.hok.fresh (Nat.le_refl _)
theorem Inv.lstM(I:Inv X pins σ H s)(hH:H l=some (.lst xs)):xs.length<=sizeLine/\∃(its:List Value) (n:Nat),bW xs its/\xs.length=its.length/\s.heap.get? l=some { cls:=.type "list",data:=.seq its.toArray n }:=by
 obtain⟨z,its,n,r,e⟩:=I.hok l _ hH
 exact⟨z,its,n,r,r.length,e⟩
theorem BM{n:Nat}(h:n<=sizeLine):Builtin.List.listTooLong n=false:=by
 unfold Builtin.List.listTooLong
 exact decide_eq_false (by omega)
end
section
variable{X:Cx}
def yd:V->List V->Hp->VK->Prop:=fun x vs H Q=>∃l xs y,x=.ref l/\vs=[y]/\H l=some (.lst xs)/\xs.length<sizeLine/\Q .non (upd H l (.lst (xs++[y])))
theorem nG:MtM X "list.append" yd:=by
 intro pins s σ H x vs v us Q I rx rv h
 obtain⟨l,xs,y,rfl,rfl,hH,hz,q⟩:=h
 cases rx
 obtain⟨u,rfl,ru⟩:=rv.one
 obtain⟨z,its,n,r,hl,e⟩:=I.lstM hH
 refine call_meets F.slot_list_append ⟨_,e,rfl⟩ F.entry_list_append (F.args_list_append_2 _ _) (PySem.list_append l its.toArray n u (by rw[List.size_toArray];omega)) ⟨e,?_⟩
 refine⟨.non,_,I.lset (its':=its++[u]) hH e (by simp) (r.append (.cons ru .nil)) ?_,rfl,q⟩
 rw[List.length_append,List.length_singleton]
 omega
def yc:V->List V->Hp->VK->Prop:=fun x vs H Q=>∃l b xs zs,x=.ref l/\vs=[.ref b]/\H l=some (.lst xs)/\H b=some (.lst zs)/\xs.length+zs.length<=sizeLine/\Q .non (upd H l (.lst (xs++zs)))
theorem yO:MtM X "list.extend" yc:=by
 intro pins s σ H x vs v us Q I rx rv h
 obtain⟨l,b,xs,zs,rfl,rfl,hH,hB,hz,q⟩:=h
 cases rx
 obtain⟨u,rfl,ru⟩:=rv.one
 cases ru
 obtain⟨z,its,n,r,hl,e⟩:=I.lstM hH
 obtain⟨z2,its2,n2,r2,hl2,e2⟩:=I.lstM hB
 have hsz:its.toArray.size+its2.toArray.size<=sizeLine:=by rw[List.size_toArray,List.size_toArray];omega
 have hlong:¬(!its.toArray.isEmpty&&Builtin.List.listTooLong (its.toArray.size+its2.toArray.size))=true:=by
  rw[BM hsz,Bool.and_false]
  exact Bool.false_ne_true
 refine call_meets F.slot_list_extend ⟨_,e,rfl⟩ F.entry_list_extend (F.args_list_extend_2 _ _)
  (AutoSeq1.list_extend_list_list_0 l its.toArray n b its2.toArray n2 hlong (by rw[List.size_toArray];omega) (by omega)) ⟨e,e2,?_⟩
 refine⟨.non,_,I.lset (its':=its++its2) hH e (by simp) (r.append r2) ?_,rfl,q⟩
 rw[List.length_append]
 omega
def MA:V->List V->Hp->VK->Prop:=fun x vs H Q=>∃l xs y,x=.ref l/\vs=[]/\H l=some (.lst xs)/\xs[xs.length-1]?=some y/\Q y (upd H l (.lst xs.dropLast))
theorem Jd:MtM X "list.pop" MA:=by
 intro pins s σ H x vs v us Q I rx rv h
 obtain⟨l,xs,y,rfl,rfl,hH,hy,q⟩:=h
 cases rx
 have hus:=rv.zero
 subst hus
 obtain⟨z,its,n,r,hl,e⟩:=I.lstM hH
 obtain⟨u,hu,ru⟩:=r.get hy
 have hy':its.toArray[its.toArray.size-1]?=some u:=by
  show its.toArray[its.length-1]?=some u
  rw[<-Array.getElem?_toList,<-hl]
  exact hu
 refine call_meets F.slot_list_pop ⟨_,e,rfl⟩ F.entry_list_pop (F.args_list_pop_1 _) (MeetsSeq.list_pop_last l its.toArray n u hy' (by rw[List.size_toArray];omega)) ⟨e,?_⟩
 refine⟨y,_,I.lset (its':=its.dropLast) hH e ?_ r.dropLast ?_,ru,q⟩
 ·show its.toArray.eraseIdxIfInBounds (its.toArray.size-1)=its.dropLast.toArray
  rw[List.size_toArray,List.eraseIdxIfInBounds_toArray,wL]
 ·rw[List.length_dropLast]
  omega
def C9:V->List V->Hp->VK->Prop:=fun x vs H Q=>∃l xs i k y,x=.ref l/\vs=[.int i]/\H l=some (.lst xs)/\-(2^63)<=i/\i<2^63/\seqIndex? i xs.length=some k/\xs[k]?=some y/\Q y (upd H l (.lst (xs.eraseIdx k)))
theorem BO:MtM X "list.pop" C9:=by
 intro pins s σ H x vs v us Q I rx rv h
 obtain⟨l,xs,i,k,y,rfl,rfl,hH,h1,h2,hk,hy,q⟩:=h
 cases rx
 obtain⟨u,rfl,ru⟩:=rv.one
 obtain⟨t,rfl⟩:=ru
 obtain⟨z,its,n,r,hl,e⟩:=I.lstM hH
 obtain⟨w,hw,rw'⟩:=r.get hy
 refine call_meets F.slot_list_pop ⟨_,e,rfl⟩ F.entry_list_pop (F.args_list_pop_2 _ _)
  (MeetsSeq.list_pop_at l its.toArray n i t k w (fitsIndex_both h1 h2) (by rw[List.size_toArray,<-hl];exact hk) (by rw[<-Array.getElem?_toList];exact hw) (by rw[List.size_toArray];omega)) ⟨e,?_⟩
 refine⟨y,_,I.lset (its':=its.eraseIdx k) hH e ?_ (r.eraseIdx k) ?_,rw',q⟩
 ·show its.toArray.eraseIdxIfInBounds k=(its.eraseIdx k).toArray
  rw[List.eraseIdxIfInBounds_toArray]
 ·have:=rW xs k
  omega
def J9:R2:=fun x y H Q=>∃l b xs zs,x=.ref l/\y=.ref b/\H l=some (.lst xs)/\H b=some (.lst zs)/\xs.length+zs.length<=sizeLine/\∀p,H p=none->Q (.ref p) (upd H p (.lst (xs++zs)))
theorem I0:OpR X (binaryOp .Add) J9:=by
 intro pins s σ H x y v u Q I rx ry h
 obtain⟨l,b,xs,zs,rfl,rfl,hH,hB,hz,q⟩:=h
 cases rx
 cases ry
 obtain⟨z,its,n,r,hl,e⟩:=I.lstM hH
 obtain⟨z2,its2,n2,r2,hl2,e2⟩:=I.lstM hB
 refine PySem.P.add_list e e2 ?_ (by rw[List.size_toArray,List.size_toArray];omega)
 have ea:its.toArray++its2.toArray=(its++its2).toArray:=by simp
 rw[ea]
 exact⟨.ref _,_,I.lnew (t':=s.toks) (r.append r2) (by rw[List.length_append];omega),rfl,q _ I.fresh⟩
end
section
variable{κ:Type}[DecidableEq κ]
def oW(kvs:List (κ×V))(k:κ):Option V:=(kvs.find? fun kv=>decide (kv.1=k)).map (·.2)
def tf(kvs:List (κ×V))(k:κ)(v:V):List (κ×V):=
 if (kvs.any fun kv=>decide (kv.1=k))=true then kvs.map (fun kv=>if kv.1=k then(kv.1,v)else kv)else kvs++[(k,v)]
theorem pL{p:κ×V}{r:List (κ×V)}{k:κ}(e:p.1=k):oW (p::r) k=some p.2:=by simp[oW,List.find?_cons,e]
theorem pM{p:κ×V}{r:List (κ×V)}{k:κ}(e:¬p.1=k):oW (p::r) k=oW r k:=by simp[oW,List.find?_cons,e]
theorem uF(k:κ):∀kvs:List (κ×V),(kvs.any fun kv=>decide (kv.1=k))=(oW kvs k).isSome
 |[]=>rfl
 |p::r=>by
  rw[List.any_cons]
  by_cases e:p.1=k
  ·simp only[pL e,decide_eq_true e,Bool.true_or,Option.isSome_some]
  ·rw[pM e,decide_eq_false e,Bool.false_or];exact uF k r
theorem nM(kvs:List (κ×V))(k:κ)(v:V):(tf kvs k v).length<=kvs.length+1:=by
 unfold tf
 split
 ·rw[List.length_map];omega
 ·rw[List.length_append,List.length_cons,List.length_nil];omega
theorem qZ.isSome_eq{o:Option V}{u:Option Value}(r:qZ o u):o.isSome=u.isSome:=by
 cases o with
 |none=>cases u with
  |none=>rfl
  |some _=>exact(show False from r).elim
 |some _=>cases u with
  |none=>exact(show False from r).elim
  |some _=>rfl
theorem qZ.getD{o:Option V}{u:Option Value}{d:V}{d':Value}(r:qZ o u)(rd:cR d d'):cR (o.getD d) (u.getD d'):=by
 cases o with
 |none=>cases u with
  |none=>exact rd
  |some _=>exact(show False from r).elim
 |some _=>cases u with
  |none=>exact(show False from r).elim
  |some _=>exact r
theorem KV.val{kvs:List (κ×V)}{vs:List (κ×Value)}(r:KV kvs vs)(k:κ):qZ (oW kvs k) (valueAt vs k):=by
 unfold KV at r
 induction r with
 |nil=>exact True.intro
 |@cons p q ps qs h t ih=>
  obtain⟨h1,h2⟩:=h
  by_cases e:p.1=k
  ·have e':q.1=k:=h1.symm.trans e
   have b:valueAt (q::qs) k=some q.2:=by simp[valueAt,List.find?_cons,e']
   rw[pL e,b];exact h2
  ·have e':¬q.1=k:=fun z=>e (h1.trans z)
   have b:valueAt (q::qs) k=valueAt qs k:=by simp[valueAt,List.find?_cons,e']
   rw[pM e,b];exact ih
theorem KV.any{kvs:List (κ×V)}{vs:List (κ×Value)}(r:KV kvs vs)(k:κ):(kvs.any fun kv=>decide (kv.1=k))=vs.any fun kv=>decide (kv.1=k):=by
 unfold KV at r
 induction r with
 |nil=>rfl
 |cons h t ih=>rw[List.any_cons,List.any_cons,ih,h.1]
theorem KV.repl{kvs:List (κ×V)}{vs:List (κ×Value)}(r:KV kvs vs)(k:κ){y:V}{u:Value}(ry:cR y u) :
  KV (kvs.map fun kv=>if kv.1=k then(kv.1,y)else kv) (vs.map fun kv=>if kv.1=k then(kv.1,u)else kv):=by
 unfold KV at r ⊢
 induction r with
 |nil=>exact .nil
 |@cons p q ps qs h t ih=>
  rw[List.map_cons,List.map_cons]
  refine .cons ?_ ih
  obtain⟨h1,h2⟩:=h
  by_cases e:p.1=k
  ·rw[if_pos e,if_pos (h1.symm.trans e)];exact⟨h1,ry⟩
  ·rw[if_neg e,if_neg (fun z=>e (h1.trans z))];exact⟨h1,h2⟩
theorem KV.put{kvs:List (κ×V)}{vs:List (κ×Value)}(r:KV kvs vs)(k:κ){y:V}{u:Value}(ry:cR y u):KV (tf kvs k y) (stored vs k u):=by
 unfold tf stored
 rw[r.any k]
 by_cases e:(vs.any fun kv=>decide (kv.1=k))=true
 ·rw[if_pos e,if_pos e];exact r.repl k ry
 ·rw[if_neg e,if_neg e];exact Paired.snoc r ⟨rfl,ry⟩
theorem KV.length{kvs:List (κ×V)}{vs:List (κ×Value)}(r:KV kvs vs):kvs.length=vs.length:=Paired.length r
end
theorem t7{P:Program}{w:World}{k:Key}{u:Value}(r:cR (kV k) u):(cG P w).is k u=true:=by
 cases k with
 |inl i=>obtain⟨t,e⟩:=(show ∃t,u=Value.int i t from r);subst e;exact tY P w i t
 |inr x=>obtain⟨t,e⟩:=(show ∃t,u=Value.str x t from r);subst e;exact tX P w x t
theorem rY{P:Program}{w:World}:∀{ks:List Key} {us:List Value},bW (ks.map kV) us->ItemsAre (cG P w) ks us
 |[],_,r=>by rw[List.map_nil]at r;cases r;exact .nil
 |k::ks,_,r=>by
  rw[List.map_cons]at r
  cases r with
  |cons h t=>exact .cons (t7 h) (rY t)
abbrev KT(H:Hp):List (List Key×V)->List (List Key×Addr×Value)->Prop:=Paired fun p q=>p.1=q.1/\H q.2.1=some (.tup (p.1.map kV))/\cR p.2 q.2.2
theorem KT.val{H:Hp}{kvs:List (List Key×V)}{xs:List (List Key×Addr×Value)}(r:KT H kvs xs)(k:List Key):qZ (oW kvs k) ((atKey xs k).map (·.2)):=by
 induction r with
 |nil=>exact True.intro
 |@cons p q ps qs h t ih=>
  obtain⟨h1,_,h2⟩:=h
  by_cases e:p.1=k
  ·have e':q.1=k:=h1.symm.trans e
   have b:atKey (q::qs) k=some q.2:=by simp[atKey,List.find?_cons,e']
   rw[pL e,b];exact h2
  ·have e':¬q.1=k:=fun z=>e (h1.trans z)
   have b:atKey (q::qs) k=atKey qs k:=by simp[atKey,List.find?_cons,e']
   rw[pM e,b];exact ih
theorem KT.repl{H:Hp}{kvs:List (List Key×V)}{xs:List (List Key×Addr×Value)}(r:KT H kvs xs)(k:List Key){y:V}{u:Value}(ry:cR y u) :
  KT H (kvs.map fun kv=>if kv.1=k then(kv.1,y)else kv) (xs.map (putAt k u)):=by
 induction r with
 |nil=>exact .nil
 |@cons p q ps qs h t ih=>
  rw[List.map_cons,List.map_cons]
  refine .cons ?_ ih
  obtain⟨h1,h2,h3⟩:=h
  unfold putAt
  by_cases e:p.1=k
  ·rw[if_pos e,if_pos (h1.symm.trans e)];exact⟨h1,h2,ry⟩
  ·rw[if_neg e,if_neg (fun z=>e (h1.trans z))];exact⟨h1,h2,h3⟩
theorem KT.put{H:Hp}{kvs:List (List Key×V)}{xs:List (List Key×Addr×Value)}(r:KT H kvs xs)(k:List Key){b:Addr}{y:V}{u:Value}(hb:H b=some (.tup (k.map kV)))(ry:cR y u) :
  KT H (tf kvs k y) (storedH xs k b u):=by
 have e:(kvs.any fun kv=>decide (kv.1=k))=(atKey xs k).isSome:=by
  rw[uF,(r.val k).isSome_eq,Option.isSome_map]
 unfold tf storedH
 rw[e]
 by_cases q:(atKey xs k).isSome=true
 ·rw[if_pos q,if_pos q];exact r.repl k ry
 ·rw[if_neg q,if_neg q];exact Paired.snoc r ⟨rfl,hb,ry⟩
theorem KT.keeps{H H':Hp}{kvs:List (List Key×V)}{xs:List (List Key×Addr×Value)}(r:KT H kvs xs)(ht:∀b ys,H b=some (.tup ys)->H' b=some (.tup ys)):KT H' kvs xs:=
 Paired.mapP r fun _ _ z=>⟨z.1,ht _ _ z.2.1,z.2.2⟩
section
variable{P:Program}{w:World}{H:Hp}{h:Heap}{a:Addr}
theorem Ib{u:HO}(ok:HOk P w H h)(e:Rd H a u):cT P w H h a u:=e.ok ok
theorem qI{kvs:List (Key×V)}(ok:HOk P w H h)(e:Rd H a (.dK kvs)):kvs.length<=sizeLine/\(a == sysModules)=false/\∃vs,KV kvs vs/\h.DictOf (cG P w) a vs:=
 show cT P w H h a (.dK kvs)from Ib ok e
theorem zO{kvs:List (Key×V)}(ok:HOk P w H h)(e:H a=some (.dK kvs)):kvs.length<=sizeLine/\(a == sysModules)=false/\∃vs,KV kvs vs/\h.DictOf (cG P w) a vs:=qI ok (.inl e)
theorem nQ{ks:List Key}(ok:HOk P w H h)(e:H a=some (.tup (ks.map kV))):(tupleKind (cG P w)).is h ks a:=by
 obtain⟨_,its,r,o,h1,h2,n,h3⟩:=(show cT P w H h a (.tup (ks.map kV))from ok a _ e)
 exact⟨o,its.toArray,n,h1,h2,h3,by simpa using rY r⟩
theorem sH{kvs:List (List Key×V)}(ok:HOk P w H h)(e:Rd H a (.dT kvs)):kvs.length<=sizeLine/\(a == sysModules)=false/\
  ∃xs,KT H kvs xs/\h.DictOfH (tupleKind (cG P w)) a xs:=by
 obtain⟨z,y,xs,r,o,es,ep,h1,h2,h3,h4,h5⟩:=(show cT P w H h a (.dT kvs)from Ib ok e)
 refine⟨z,y,xs,r,o,es,ep,h1,h2,h3,h4,fun x hx=>?_,h5⟩
 have all:∀{l:List (List Key×V)} {m:List (List Key×Addr×Value)},KT H l m->∀x∈m,(tupleKind (cG P w)).is h x.1 x.2.1:=by
  intro l m q
  induction q with
  |nil=>intro x hx;exact nomatch hx
  |@cons p q ps qs hq t ih=>
   intro x hx
   rcases List.mem_cons.mp hx with e|hx
   ·subst e
    exact nQ ok (by rw[<-hq.1];exact hq.2.1)
   ·exact ih x hx
 exact all r x hx
theorem Ma{kvs:List (List Key×V)}(ok:HOk P w H h)(e:H a=some (.dT kvs)):kvs.length<=sizeLine/\(a == sysModules)=false/\
  ∃xs,KT H kvs xs/\h.DictOfH (tupleKind (cG P w)) a xs:=sH ok (.inl e)
end
def DGet(H:Hp)(a:Addr)(y:V)(r:Option V):Prop:=
 (∃kvs k,Rd H a (.dK kvs)/\y=kV k/\r=oW kvs k)\/∃kvs k b,Rd H a (.dT kvs)/\y=.ref b/\H b=some (.tup (k.map kV))/\r=oW kvs k
def DL(H:Hp)(a:Addr)(y v:V)(H':Hp):Prop:=
 (∃kvs k,H a=some (.dK kvs)/\y=kV k/\kvs.length<sizeLine/\H'=upd H a (.dK (tf kvs k v)))\/
 ∃kvs k b,H a=some (.dT kvs)/\y=.ref b/\H b=some (.tup (k.map kV))/\kvs.length<sizeLine/\H'=upd H a (.dT (tf kvs k v))
theorem DGet.k{H:Hp}{a:Addr}{kvs:List (Key×V)}{k:Key}(e:H a=some (.dK kvs)):DGet H a (kV k) (oW kvs k):=.inl ⟨kvs,k,.inl e,rfl,rfl⟩
theorem DL.k{H:Hp}{a:Addr}{kvs:List (Key×V)}{k:Key}{v:V}(e:H a=some (.dK kvs))(hl:kvs.length<sizeLine):DL H a (kV k) v (upd H a (.dK (tf kvs k v))):=.inl ⟨kvs,k,e,rfl,hl,rfl⟩
theorem DL.t{H:Hp}{a b:Addr}{kvs:List (List Key×V)}{k:List Key}{v:V}(e:H a=some (.dT kvs))(eb:H b=some (.tup (k.map kV)))(hl:kvs.length<sizeLine) :
  DL H a (.ref b) v (upd H a (.dT (tf kvs k v))):=.inr ⟨kvs,k,b,e,rfl,eb,hl,rfl⟩
section
variable{X:Cx}{pins:List (Addr×Obj)}{σ:St}{H:Hp}{s:Shared}{a:Addr}{y v:V}{u r:Value}{o:Option V}{A:Around}{E:Value->Shared->Prop}
theorem Inv.big(I:Inv X pins σ H s):sysModules<s.heap.objs.size:=by
 have h:mainGlobals<s.heap.objs.size:=(I.mod.glob.keeps I.bk).lt
 exact Nat.lt_trans (by decide) h
theorem zV{Q:Value->Shared->Prop}(hu:A.units+1<cLine)(I:Inv X pins σ H s)(g:DGet H a y (some v))(ry:cR y u)(h:∀w' s',Inv X pins σ H s'->cR v w'->Q w' s') :
  wpAny (model X.prog X.w) A (getItem (.ref a) u) Q E s:=by
 rcases g with⟨kvs,k,e,ey,l⟩|⟨kvs,k,b,e,ey,eb,l⟩
 ·subst ey
  obtain⟨z,hd,vs,rel,dd⟩:=qI I.hok e
  obtain⟨w',hw,rw'⟩:=qZ.some_of (v:=v) (o:=valueAt vs k) (by rw[l];exact rel.val k)
  exact wpAny_getItem_of (t7 ry) dd.mapOf hw (h w' _ (I.tok _) rw')
 ·subst ey
  cases (show u=Value.ref b from ry)
  obtain⟨z,hd,xs,rel,dd⟩:=sH I.hok e
  obtain⟨w',hw,rw'⟩:=qZ.some_of (v:=v) (o:=(atKey xs k).map (·.2)) (by rw[l];exact rel.val k)
  obtain⟨p,hp,hp2⟩:=Option.map_eq_some_iff.mp hw
  refine wpAny_getItem_heap (tupleKind_room_in1 hu) (nQ I.hok eb) dd hp ?_
  rw[hp2]
  exact h w' _ (I.tok _) rw'
theorem Nv{Q:Value->Shared->Prop}(hu:A.units+1<cLine)(I:Inv X pins σ H s)(g:DGet H a y o)(ry:cR y u)(h:∀s',Inv X pins σ H s'->Q (.bool o.isSome) s') :
  wpAny (model X.prog X.w) A (compareOp .In u (.ref a)) Q E s:=by
 rcases g with⟨kvs,k,e,ey,l⟩|⟨kvs,k,b,e,ey,eb,l⟩
 ·subst ey
  obtain⟨z,hd,vs,rel,dd⟩:=qI I.hok e
  refine wpAny_in_of (t7 ry) hd dd.mapOf ?_
  rw[<-(rel.val k).isSome_eq,<-l]
  exact h _ (I.tok _)
 ·subst ey
  cases (show u=Value.ref b from ry)
  obtain⟨z,hd,xs,rel,dd⟩:=sH I.hok e
  refine wpAny_in_heap (tupleKind_room_in1 hu) (nQ I.hok eb) hd dd ?_
  have q:=(rel.val k).isSome_eq
  rw[Option.isSome_map]at q
  rw[<-q,<-l]
  exact h _ (I.tok _)
theorem F6{Q:Value->Shared->Prop}(hu:A.units+1<cLine)(I:Inv X pins σ H s)(g:DGet H a y o)(ry:cR y u)(h:∀s',Inv X pins σ H s'->Q (.bool (!o.isSome)) s') :
  wpAny (model X.prog X.w) A (compareOp .NotIn u (.ref a)) Q E s:=by
 rcases g with⟨kvs,k,e,ey,l⟩|⟨kvs,k,b,e,ey,eb,l⟩
 ·subst ey
  obtain⟨z,hd,vs,rel,dd⟩:=qI I.hok e
  refine wpAny_notIn_of (t7 ry) hd dd.mapOf ?_
  rw[<-(rel.val k).isSome_eq,<-l]
  exact h _ (I.tok _)
 ·subst ey
  cases (show u=Value.ref b from ry)
  obtain⟨z,hd,xs,rel,dd⟩:=sH I.hok e
  refine wpAny_notIn_heap (tupleKind_room_in1 hu) (nQ I.hok eb) hd dd ?_
  have q:=(rel.val k).isSome_eq
  rw[Option.isSome_map]at q
  rw[<-q,<-l]
  exact h _ (I.tok _)
theorem zT{h':Heap}{t':Nat}{ob:HO}(I:Inv X pins σ H s)(mu:Mut (H a))(hs:Heap.SameBut a s.heap h')(he:∃q,h'.get? a=some q)(new:cT X.prog X.w (upd H a ob) h' a ob) :
  Inv X pins σ (upd H a ob) { s with heap:=h',toks:=t' }:=
 I.write (x:=a) (e:=a) mu (.inl rfl) (fun b q hb z=>(hs.2 b hb).trans z) he new
theorem JR{P:Program}{w:World}{H':Hp}{h':Heap}{kvs:List (Key×V)}{vs:List (Key×Value)}(z:kvs.length<=sizeLine)(hd:(a == sysModules)=false)(rel:KV kvs vs)(dd:h'.DictOf (cG P w) a vs) :
  cT P w H' h' a (.dK kvs):=⟨z,hd,vs,rel,dd⟩
theorem zU{H':Hp}{Q:Unit->Shared->Prop}(hu:A.units+1<cLine)(I:Inv X pins σ H s)(g:DL H a y v H')(ry:cR y u)(rv:cR v r)(h:∀s',Inv X pins σ H' s'->Q () s') :
  wpAny (model X.prog X.w) A (setItem (.ref a) u r) Q E s:=by
 rcases g with⟨kvs,k,e,ey,l,eH⟩|⟨kvs,k,b,e,ey,eb,l,eH⟩
 ·subst ey eH
  obtain⟨z,hd,vs,rel,dd⟩:=zO I.hok e
  have hz:vs.length<=sizeLine:=by rw[<-rel.length];exact z
  have hl:(tf kvs k v).length<=sizeLine:=by have:=nM kvs k v;omega
  refine wpAny_setItem_pairs (hsz:=hz) (t7 ry) dd fun h' dd' hs=>h _ ?_
  have he:∃q,h'.get? a=some q:=let ⟨q,_,_,hq,_⟩:=dd';⟨q,hq⟩
  exact zT I (by rw[e];exact True.intro) hs he (JR hl hd (rel.put k rv) dd')
 ·subst ey eH
  cases (show u=Value.ref b from ry)
  obtain⟨z,hd,xs,rel,dd⟩:=Ma I.hok e
  have hz:xs.length<=sizeLine:=by rw[<-Paired.length rel];exact z
  have hl:(tf kvs k v).length<=sizeLine:=by have:=nM kvs k v;omega
  refine wpAny_setItem_heap (hsz:=hz) (tupleKind_room_in1 hu) (nQ I.hok eb) dd fun h' dd' hs=>h _ ?_
  obtain⟨q,es,ep,hq,h2,h3,h4,_,h5⟩:=dd'
  refine zT I (by rw[e];exact True.intro) hs ⟨q,hq⟩ ⟨hl,hd,_,(rel.put k eb rv).keeps fun c ys ec=>?_,q,es,ep,hq,h2,h3,h4,h5⟩
  rw[bu (LM ec e (fun z=>nomatch z))]
  exact ec
end
section
variable{X:Cx}{pins:List (Addr×Obj)}{σ:St}{H:Hp}{s:Shared}{a:Addr}{kvs:List (Key×V)}{k:Key}{u:Value}{A:Around}{E:Value->Shared->Prop}
theorem Mb{Q:Value->Shared->Prop}(I:Inv X pins σ H s)(e:Rd H a (.dK kvs))(h:∀t s',Inv X pins σ H s'->Q (.int kvs.length t) s'):wpAny (model X.prog X.w) A (call (.builtin "len") [.ref a]) Q E s:=by
 obtain⟨z,hd,vs,rel,dd⟩:=qI I.hok e
 refine call_len_dict hd dd (by rw[<-rel.length];rw[sizeLine_eq]at z;omega) ?_
 rw[<-rel.length]
 exact h _ _ (I.tok _)
end
def Km(i:Expr):Prop:=∀ov iv,subscripted i false ov iv=operate [ov,iv] (getItem ov iv)
theorem Ex{prog:Program}{w:World}{A:Around}{E:Value->Shared->Prop}{s:Shared}{env:Env}{value slice:Expr}{pos:Pos}{T id:String}{Q:Value->Shared->Prop}
  (hl:typeLookup (.type T) "__getitem__"=pure (some (.builtin id))) (hs:Km slice)
  (h:wpAny (model prog w) A (eval value env) (fun o s₁=>wpAny (model prog w) A (eval slice env) (fun i s₂=>s₂.TypeIs o T/\wpAny (model prog w) A (getItem o i) Q E s₂) E s₁) E s) :
  wpAny (model prog w) A (eval (.Subscript value slice pos) env) Q E s:=by
 refine Subscript_ (wpAny_mono h (fun o s₁ h₁=>wpAny_mono h₁ (fun i s₂ h₂=>?_) fun _ _ x=>x) fun _ _ x=>x)
 obtain⟨hT,h₂⟩:=h₂
 unfold subscriptTail
 refine wpAny_bind ?_
 rw[getitemInPython_of_ne hT.not_modules]
 refine wpAny_bind (wpAny_specialOf hT hl ?_)
 have fin:wpAny (model prog w) A (subscripted slice false o i) (fun r s₃=>wpAny (model prog w) A (letTemporaryGo value o r >>= fun _=>pure r) Q E s₃) E s₂:=by
  rw[hs o i]
  exact wpAny_operating (wpAny_mono h₂ (fun r s₃ h₃=>wpAny_bind (wpAny_letTemporaryGo (wpAny_pure h₃))) fun _ _ x=>x)
 first
  |exact wpAny_pure (wpAny_bind fin)
  |exact wpAny_bind (wpAny_pure (wpAny_bind fin))
  |exact wpAny_bind fin
theorem uh{X:Cx}{pins:List (Addr×Obj)}{σ:St}{H:Hp}{s:Shared}{a:Addr}{y:V}{o:Option V}(I:Inv X pins σ H s)(g:DGet H a y o):s.TypeIs (.ref a) "dict":=by
 rcases g with⟨kvs,k,e,_,_⟩|⟨kvs,k,b,e,_,_,_⟩
 ·obtain⟨_,_,vs,_,dd⟩:=qI I.hok e
  exact dd.typeIs
 ·obtain⟨_,_,xs,_,dd⟩:=sH I.hok e
  exact dd.typeIs
def HR(td ty:TE):TE:=fun σ H Q=>td σ H fun x H1=>ty σ H1 fun y H2=>∃a v,x=.ref a/\DGet H2 a y (some v)/\Q v H2
def J8(ty td:TE):TE:=fun σ H Q=>ty σ H fun y H1=>td σ H1 fun x H2=>∃a o,x=.ref a/\DGet H2 a y o/\Q (.bl o.isSome) H2
def pQ(ty td:TE):TE:=fun σ H Q=>ty σ H fun y H1=>td σ H1 fun x H2=>∃a o,x=.ref a/\DGet H2 a y o/\Q (.bl (!o.isSome)) H2
def Ia(td ty tv:TE):TS:=fun D σ H=>tv σ H fun v H1=>td σ H1 fun x H2=>ty σ H2 fun y H3=>∃a H4,x=.ref a/\DL H3 a y v H4/\D.nx σ H4
section
variable{X:Cx}{o i e value:Expr}{pos pos' tpos:Pos}{td ty tv:TE}
theorem E5(hu:X.A.units+1<cLine)(ho:PE X o td)(hi:PE X i ty)(hs:Km i):PE X (.Subscript o i pos) (HR td ty):=by
 intro pins s σ H Q I h
 refine Ex PySem.F.slot_dict_getitem.lookup hs (thn (ho pins s σ H _ I h) fun u s1 ⟨x,H1,I1,rx,q1⟩=>thn (hi pins s1 σ H1 _ I1 q1) fun iv s2 hz=>?_)
 obtain⟨y,H2,I2,ry,a,v,ex,g,q2⟩:=hz
 subst ex
 obtain rfl:u=Value.ref a:=rx
 exact⟨uh I2 g,zV hu I2 g ry fun w' s3 I3 rw'=>⟨v,H2,I3,rw',q2⟩⟩
theorem IS(hu:X.A.units+1<cLine)(hi:PE X i ty)(ho:PE X o td):PC X .In i o (J8 ty td):=by
 intro pins s σ H Q I h
 refine thn (hi pins s σ H _ I h) fun iv s1 ⟨y,H1,I1,ry,q1⟩=>thn (ho pins s1 σ H1 _ I1 q1) fun u s2 hz=>?_
 obtain⟨x,H2,I2,rx,a,ov,ex,g,q2⟩:=hz
 subst ex
 obtain rfl:u=Value.ref a:=rx
 exact Nv hu I2 g ry fun s3 I3=>⟨.bl ov.isSome,H2,I3,rfl,q2⟩
theorem yz(hu:X.A.units+1<cLine)(hi:PE X i ty)(ho:PE X o td):PC X .NotIn i o (pQ ty td):=by
 intro pins s σ H Q I h
 refine thn (hi pins s σ H _ I h) fun iv s1 ⟨y,H1,I1,ry,q1⟩=>thn (ho pins s1 σ H1 _ I1 q1) fun u s2 hz=>?_
 obtain⟨x,H2,I2,rx,a,ov,ex,g,q2⟩:=hz
 subst ex
 obtain rfl:u=Value.ref a:=rx
 exact F6 hu I2 g ry fun s3 I3=>⟨.bl (!ov.isSome),H2,I3,rfl,q2⟩
theorem ER(hu:X.A.units+1<cLine)(ho:PE X o td)(hi:PE X i ty)(hv:PE X value tv)(hs:swapsWith value (some (.Subscript o i pos')) pos.line X.env=pure false) :
  PS X (.Assign [.Subscript o i pos'] value pos) (Ia td ty tv):=by
 intro pins s σ H D I h
 refine wpAny_Assign_Subscript (thn (hv pins s σ H _ I h) fun r s1 ⟨v,H1,I1,rv,q1⟩=>thn (ho pins s1 σ H1 _ I1 q1) fun u s2 ⟨x,H2,I2,rx,q2⟩=>thn (hi pins s2 σ H2 _ I2 q2) fun iv s3 hz=>?_) hs
 obtain⟨y,H3,I3,ry,a,H4,ex,g,q3⟩:=hz
 subst ex
 obtain rfl:u=Value.ref a:=rx
 exact zU hu I3 g ry rv fun s4 I4=>⟨σ,H4,I4,q3⟩
end
theorem Cn{P:Program}{w:World}{H:Hp}(h:Heap)(hb:sysModules<h.objs.size):cT P w H (h.push { cls:=.type "dict",data:=.dict #[] }) h.objs.size (.dK []):=
 ⟨Nat.zero_le _,beq_eq_false_iff_ne.mpr (Ne.symm (Nat.ne_of_lt hb)),[],.nil,Heap.DictOf.new h⟩
theorem Cm{P:Program}{w:World}{H:Hp}(h:Heap)(hb:sysModules<h.objs.size):cT P w H (h.push { cls:=.type "dict",data:=.dict #[] }) h.objs.size (.dT []):=
 ⟨Nat.zero_le _,beq_eq_false_iff_ne.mpr (Ne.symm (Nat.ne_of_lt hb)),[],.nil,_,#[],0,Heap.get?_push_size _ rfl,⟨rfl,rfl,rfl⟩,rfl,rfl,List.nodup_nil⟩
def CZ:TE:=fun _ H Q=>∀p,H p=none->Q (.ref p) (upd H p (.dK []))
def CY:TE:=fun _ H Q=>∀p,H p=none->Q (.ref p) (upd H p (.dT []))
section
variable{X:Cx}{pos:Pos}
theorem Bt:PE X (.Dict [] [] pos) CZ:=fun pins s σ H Q I h=>
 wpAny_Dict_empty ⟨.ref s.heap.objs.size,_,I.laid (a:=s.heap.objs.size) (o:=.dK []) (t':=s.toks) (fun _ _ q=>Heap.get?_push_of_some _ q) (Nat.le_refl _) (Cn s.heap I.big),rfl,h _ (I.hok.fresh (Nat.le_refl _))⟩
theorem Bs:PE X (.Dict [] [] pos) CY:=fun pins s σ H Q I h=>
 wpAny_Dict_empty ⟨.ref s.heap.objs.size,_,I.laid (a:=s.heap.objs.size) (o:=.dT []) (t':=s.toks) (fun _ _ q=>Heap.get?_push_of_some _ q) (Nat.le_refl _) (Cm s.heap I.big),rfl,h _ (I.hok.fresh (Nat.le_refl _))⟩
end
structure M1(X:Cx)(o:Expr)(m:Str)(apos:Pos)(e:Expr)(cpos:Pos):Prop where
 base:attributeBase o m X.env (eval o X.env)=eval o X.env
 few:((backTo cpos (starEach [e] X.env)).all (fun x=>!x.1)&&(backToKw cpos (keywordEach [] X.env)).all (fun x=>x.1.isSome)
  && decide (([e]:List Expr).length+([]:List Keyword).length+(if ([]:List Keyword).isEmpty then 0 else 1)<30))=true
 line:(apos.endLine == cpos.line)=true
 trees:backTo cpos (starEach [e] X.env)=[(false,eval e X.env)]
structure M2(X:Cx)(o:Expr)(m:Str)(apos:Pos)(e f:Expr)(cpos:Pos):Prop where
 base:attributeBase o m X.env (eval o X.env)=eval o X.env
 few:((backTo cpos (starEach [e,f] X.env)).all (fun x=>!x.1)&&(backToKw cpos (keywordEach [] X.env)).all (fun x=>x.1.isSome)
  && decide (([e,f]:List Expr).length+([]:List Keyword).length+(if ([]:List Keyword).isEmpty then 0 else 1)<30))=true
 line:(apos.endLine == cpos.line)=true
 trees:backTo cpos (starEach [e,f] X.env)=[(false,eval e X.env),(false,eval f X.env)]
def IsD(H:Hp)(a:Addr):Prop:=(∃kvs,Rd H a (.dK kvs))\/∃kvs,Rd H a (.dT kvs)
theorem Du{X:Cx}{pins:List (Addr×Obj)}{σ:St}{H:Hp}{s:Shared}{a:Addr}(I:Inv X pins σ H s)(d:IsD H a) :
  s.TypeIs (.ref a) "dict"/\(∀b,Value.ref a=.ref b->∃ob,s.heap.get? b=some ob/\ob.dict=none)/\(a == sysModules)=false:=by
 rcases d with⟨kvs,e⟩|⟨kvs,e⟩
 ·obtain⟨_,hd,vs,_,dd⟩:=qI I.hok e
  refine⟨dd.typeIs,fun b q=>?_,hd⟩
  cases q
  obtain⟨ob,_,_,h1,h2,_⟩:=dd
  exact⟨ob,h1,h2.2.1⟩
 ·obtain⟨_,hd,xs,_,dd⟩:=sH I.hok e
  refine⟨dd.typeIs,fun b q=>?_,hd⟩
  cases q
  obtain⟨ob,_,_,h1,h2,_⟩:=dd
  exact⟨ob,h1,h2.2.1⟩
section
variable{X:Cx}{pins:List (Addr×Obj)}{σ:St}{H:Hp}{s:Shared}{a:Addr}{y d:V}{u r:Value}{o:Option V}{A:Around}{E:Value->Shared->Prop}
theorem JU{Q:Value->Shared->Prop}(hu:A.units+1<cLine)(I:Inv X pins σ H s)(g:DGet H a y o)(ry:cR y u)(h:∀w' s',Inv X pins σ H s'->cR (o.getD .non) w'->Q w' s') :
  wpAny (model X.prog X.w) A (call (.builtin "dict.get") [.ref a,u]) Q E s:=by
 rcases g with⟨kvs,k,e,ey,l⟩|⟨kvs,k,b,e,ey,eb,l⟩
 ·subst ey
  obtain⟨z,hd,vs,rel,dd⟩:=qI I.hok e
  refine call_meetsIn PySem.F.slot_dict_get dd.typeIs PySem.F.entry_dict_get (PySem.F.args_dict_get_2 _ _) (meets_dict_get (cG X.prog X.w) a (t7 ry) hd) ⟨_,dd.mapOf,h _ _ (I.tok _) ?_⟩
  rw[l]
  exact(rel.val k).getD rfl
 ·subst ey
  cases (show u=Value.ref b from ry)
  obtain⟨z,hd,xs,rel,dd⟩:=sH I.hok e
  refine call_meetsIn PySem.F.slot_dict_get dd.typeIs PySem.F.entry_dict_get (PySem.F.args_dict_get_2 _ _) (meetsH_dict_get (tupleKind (cG X.prog X.w)) a b hd) ⟨tupleKind_room_in1 hu,k,xs,nQ I.hok eb,dd,h _ _ (I.tok _) ?_⟩
  rw[l]
  exact(rel.val k).getD rfl
theorem JT{Q:Value->Shared->Prop}(hu:A.units+1<cLine)(I:Inv X pins σ H s)(g:DGet H a y o)(ry:cR y u)(rd:cR d r)(h:∀w' s',Inv X pins σ H s'->cR (o.getD d) w'->Q w' s') :
  wpAny (model X.prog X.w) A (call (.builtin "dict.get") [.ref a,u,r]) Q E s:=by
 rcases g with⟨kvs,k,e,ey,l⟩|⟨kvs,k,b,e,ey,eb,l⟩
 ·subst ey
  obtain⟨z,hd,vs,rel,dd⟩:=qI I.hok e
  refine call_meetsIn PySem.F.slot_dict_get dd.typeIs PySem.F.entry_dict_get (PySem.F.args_dict_get_3 _ _ _) (meets_dict_get_default (cG X.prog X.w) a (t7 ry) hd r) ⟨_,dd.mapOf,h _ _ (I.tok _) ?_⟩
  rw[l]
  exact(rel.val k).getD rd
 ·subst ey
  cases (show u=Value.ref b from ry)
  obtain⟨z,hd,xs,rel,dd⟩:=sH I.hok e
  refine call_meetsIn PySem.F.slot_dict_get dd.typeIs PySem.F.entry_dict_get (PySem.F.args_dict_get_3 _ _ _) (meetsH_dict_get_default (tupleKind (cG X.prog X.w)) a b hd r) ⟨tupleKind_room_in1 hu,k,xs,nQ I.hok eb,dd,h _ _ (I.tok _) ?_⟩
  rw[l]
  exact(rel.val k).getD rd
end
def C4(td ty:TE):TE:=fun σ H Q=>td σ H fun x H1=>∃a,x=.ref a/\IsD H1 a/\ty σ H1 fun y H2=>∃o,DGet H2 a y o/\Q (o.getD .non) H2
def C3(td ty tx:TE):TE:=fun σ H Q=>td σ H fun x H1=>∃a,x=.ref a/\IsD H1 a/\ty σ H1 fun y H2=>tx σ H2 fun z H3=>∃o,DGet H3 a y o/\Q (o.getD z) H3
section
variable{X:Cx}{o e f:Expr}{apos cpos:Pos}{td ty tx:TE}
theorem Bv(hu:X.A.units+1<cLine)(ho:PE X o td)(he:PE X e ty)(m:M1 X o "get" apos e cpos):PE X (.Call (.Attribute o "get" apos) [e] [] cpos) (C4 td ty):=by
 intro pins s σ H Q I h
 refine wpAny_Call_method m.base m.few m.line PySem.F.plainAttrs_dict PySem.F.slot_dict_get PySem.F.type_dict_get (thn (ho pins s σ H _ I h) fun u s1 hz=>?_)
 obtain⟨x,H1,I1,rx,a,ex,d,q1⟩:=hz
 subst ex
 obtain rfl:u=Value.ref a:=rx
 obtain⟨t1,t2,_⟩:=Du I1 d
 refine⟨t1,t2,?_⟩
 rw[m.trees]
 refine Calls.callWith_builtin rfl (Calls.evalArgs_plain (Calls.spliced_cons (thn (he pins s1 σ H1 _ I1 q1) fun iv s2 ⟨y,H2,I2,ry,ov,g,q2⟩=>Calls.spliced_nil ?_)))
 exact JU hu I2 g ry fun w' s3 I3 rw'=>⟨_,H2,I3,rw',q2⟩
theorem Bu(hu:X.A.units+1<cLine)(ho:PE X o td)(he:PE X e ty)(hf:PE X f tx)(m:M2 X o "get" apos e f cpos):PE X (.Call (.Attribute o "get" apos) [e,f] [] cpos) (C3 td ty tx):=by
 intro pins s σ H Q I h
 refine wpAny_Call_method m.base m.few m.line PySem.F.plainAttrs_dict PySem.F.slot_dict_get PySem.F.type_dict_get (thn (ho pins s σ H _ I h) fun u s1 hz=>?_)
 obtain⟨x,H1,I1,rx,a,ex,d,q1⟩:=hz
 subst ex
 obtain rfl:u=Value.ref a:=rx
 obtain⟨t1,t2,_⟩:=Du I1 d
 refine⟨t1,t2,?_⟩
 rw[m.trees]
 refine Calls.callWith_builtin rfl (Calls.evalArgs_plain (Calls.spliced_cons (thn (he pins s1 σ H1 _ I1 q1) fun iv s2 ⟨y,H2,I2,ry,q2⟩=>
  Calls.spliced_cons (thn (hf pins s2 σ H2 _ I2 q2) fun fv s3 ⟨z,H3,I3,rz,ov,g,q3⟩=>Calls.spliced_nil ?_))))
 exact JT hu I3 g ry rz fun w' s4 I4 rw'=>⟨_,H3,I4,rw',q3⟩
end
end L2
namespace Att
open PySem PySem.W PySem.Calls PyProof.Rows
theorem nR{P:Params}{h:Heap}:∀(ns:List Int) (vs:List Value),WellAll P h vs (ns.map WData.int)->IntsAre vs ns:=by
 intro ns
 induction ns with
 |nil=>
  intro vs w
  rw[List.map_nil]at w
  cases w
  exact .nil
 |cons n ns ih=>
  intro vs w
  rw[List.map_cons]at w
  cases w with
  |cons a b=>
   cases a
   exact .cons _ _ (ih _ b)
theorem x5{l:OpenLaw}{n:Nat}(hn:l.most=some n){P:Params}{h:Heap}{args:List WData}{vals:List Value}
  (hpre:l.row.toRowW.claim.pre args=true) (hwl:WellAll P h vals args) :
  ∃a vs ns,vals=[Value.ref a]/\args=[WData.list (ns.map WData.int)]/\h.get? a=some { cls:=.type "list",data:=.seq vs.toArray }/\IntsAre vs ns/\ns.length<=n:=by
 have hsh:WShape.hasAll [] args [.list .int]=true:=(pre_splitW hpre).1
 have hc:l.pre.holds [] { args:=args }=true:=(pre_splitW hpre).2
 obtain⟨d,r,rfl,h1,h2⟩:=hasAllW_cons hsh
 obtain rfl:=hasAllW_nil h2
 obtain⟨xs,rfl,h3⟩:=hasW_list h1
 obtain⟨ns,rfl⟩:=items_int h3
 have gK:ns.length<=n:=by
  unfold OpenLaw.pre at hc
  have h4:(WTm.not (.lt (.lit (.int (n:Int))) (.len (.arg 0)))).holds [] { args:=[.list (ns.map .int)] }=true:=by
   have h4:=(holds_andW hc).1
   rw[hn]at h4
   exact h4
  have h5:=condW_of h4 (w_not (w_lt w_lit (w_len_list (w_arg rfl))))
  rw[List.length_map]at h5
  refine Nat.le_of_not_lt fun q=>?_
  have q':(n:Int)<((ns.length:Nat):Int):=by omega
  first
   |(rw[decide_eq_true q']at h5;exact absurd h5 (by decide))
   |(simp at h5;omega)
 cases hwl with
 |cons w1 w2=>
  cases w2
  cases w1 with
  |list ho hall=>exact⟨_,_,ns,rfl,rfl,ho,nR ns _ hall,gK⟩
theorem yw(l:OpenLaw)(args:List WData):l.row.toRowW.claim.post args (.bool true) args=true:=
 postW_of (r:=l.row.toRowW) (X:=(true == true))
  (show WShape.has [] (.bool true) .bool=true by first|rfl|decide|simp[WShape.has,WShape.arms,WShape.armsAll])
  (show(WTm.eq .res (.lit (.bool true))).value [] { args:=args,res:=some (.bool true),after:=args }=some (.bool (true == true))from w_eq_bool (w_res rfl) w_lit) rfl
theorem attach_call{l:OpenLaw}{n:Nat}{q:Program}{loose:List Str}{XP:(Str->Option Value)->Heap->Prop}{YP:World->Heap->Prop}{d:DefRec}
  (hn:l.most=some n) (hdf:d.params.defaults=[])
  (call:∀(w:World) (s₀ s₁:Shared) (mg mb:Str->Option Value) (fa:Addr) (o:Obj) (pm cd doc:Value) (a:Addr) (vs:List Value) (ns:List Int),
   Ground q loose [] XP w s₀ mg mb s₁.heap->YP w s₁.heap->
   s₁.heap.get? fa=some o->o.data=.func (docDef d.name d.params d.body d.scope pm cd doc)->s₁.heap.CodeRec cd d.name->mg d.name=some (.ref fa)->
   s₁.heap.get? a=some { cls:=.type "list",data:=.seq vs.toArray }->IntsAre vs ns->ns.length<=n->s₁.gens=#[]->
   codeAny (model l.prog w) callerA (.call (.ref fa) ⟨[.ref a],[]⟩) (fun r s'=>r=.ok (.ret (.bool true))/\OldK s₁.heap s'.heap/\s'.os=s₁.os/\AllBare s'.gens) s₁) :
  WalkO q loose XP YP l.row.toRowW d [] (fun f vs=>PySem.call f vs):=by
 intro w s₀ s₁ mg mb G Y fa o pm cd doc dV kV ho hd hcd hD hmg hg args vals as hpre hlay hrd hwl hlo
 obtain rfl:dV=.none:=Dflts.none hD hdf
 obtain rfl:kV=.none:=Dflts.noKw hD
 obtain⟨a,vs,ns,rfl,rfl,hobj,hints,gK⟩:=x5 hn hpre hwl
 refine enter_call (codeAny_mono (call w s₀ s₁ mg mb fa o pm cd doc a vs ns G Y ho (fd_plain hd) hcd hmg hobj hints gK hg) fun r s' hq=>?_)
 obtain⟨rfl,h2,h3,h4⟩:=hq
 exact⟨.inl ⟨.bool true,.bool true,[],rfl,fun _=>rfl,.bool true,yw l _,fun _=>⟨List.Pairwise.nil,fun _ hm=>(nomatch hm)⟩⟩,h2,h3,h4⟩
end Att
namespace L2
open PySem PySem.Spec PyProof.Rows
theorem jq:∀{vs:List Value} {ns:List Int},IntsAre vs ns->bW (ns.map V.int) vs
 |_,_,.nil=>.nil
 |_,_,.cons n t h=>.cons ⟨t,rfl⟩ (jq h)
def Ml(H:Hp):Prop:=∀b,H b=none\/∃o xs,H b=some (.frz o (.lst xs))
theorem BY{P:Program}{w:World}{K:PySem.W.Frag}{mg mb:Str->Option Value}{CX:CXT}{k:Nat}{fa a:Addr}{fd:FuncData}{x:Str}{sp:Sp}{s₁:Shared}{vs:List Value}{ns:List Int}
  (KX:K.In s₁.heap) (hns:s₁.heap.Ns mainGlobals mg) (hb:s₁.heap.Ns builtinsNs mb) (hbb:∀x:Str,x≠"__name__"->mb x=bootBuiltins x) (hlim:s₁.heap.NoLimit) (hg:s₁.gens=#[])
  (ha:s₁.heap.get? a=some { cls:=.type "list",data:=.seq vs.toArray }) (hi:IntsAre vs ns) (hl:ns.length<=sizeLine) (hr:jg k callerA)
  (F:∀base:Heap,K.In base->base.Ns mainGlobals mg->mY P w K mg base CX k fa fd [x] sp) (hbind:∀(s:Shared) (u:Value),BindsTo s fd ⟨[u],[]⟩ [(x,u)])
  (hsp:∀H:Hp,Ml H->SqL K H a (ns.map V.int)->sp [.ref a] H (fun v _=>v=.bl true) fun _ _ _=>False)
  (hCX:∀H e s',CX [] H s₁ (fun _ _ _=>False) e s'->False) :
  codeAny (model P w) callerA (.call (.ref fa) ⟨[.ref a],[]⟩) (fun r s'=>r=.ok (.ret (.bool true))/\OldK s₁.heap s'.heap/\s'.os=s₁.os/\AllBare s'.gens) s₁:=by
 have rv:=jq hi
 have lenV:=hi.length
 have core:∀H:Hp,Ml H->SqL K H a (ns.map V.int)->HOk P w H s₁.heap->(∀b,H b≠none->b=a)->(H a≠none->K.lookup a=none)->
   codeAny (model P w) callerA (.call (.ref fa) ⟨[.ref a],[]⟩) (fun r s'=>r=.ok (.ret (.bool true))/\OldK s₁.heap s'.heap/\s'.os=s₁.os/\AllBare s'.gens) s₁:=by
  intro H hO hS hok hA hK
  have base_of:∀{b:Addr} {o:Obj},s₁.heap.get? b=some o->H b=none->(B7 s₁.heap H).get? b=some o:=fun e n=>B6 e n
  have noA:∀{b:Addr} {o:Obj} {es:Array DictEntry} {ep:Nat},s₁.heap.get? b=some o->o.data=.dict es ep->H b=none:=fun{b o es ep} e d=>by
   cases q:H b with
   |none=>rfl
   |some u=>
    have e':b=a:=hA b (by rw[q];simp)
    subst e'
    rw[ha]at e;cases e
    have d':Data.seq vs.toArray _=Data.dict es ep:=d
    cases d'
  have nsK:∀{b:Addr} {m:Str->Option Value},s₁.heap.Ns b m->(B7 s₁.heap H).Ns b m:=fun{b m} ⟨o,es,ep,e,d,r⟩=>⟨o,es,ep,base_of e (noA e d),d,r⟩
  have hKb:K.In (B7 s₁.heap H):=fun b o e=>base_of (KX b o e) (by
   cases q:H b with
   |none=>rfl
   |some u=>
    have e':b=a:=hA b (by rw[q];simp)
    subst e'
    rw[hK (by rw[q];simp)]at e;cases e)
  have hM:Mod K mg (B7 s₁.heap H):=⟨hKb,nsK hns,⟨mb,nsK hb,hbb⟩,let ⟨mc,h1,h2⟩:=hlim;⟨mc,nsK h1,h2⟩⟩
  have e0:Gu P w K mg (B7 s₁.heap H) callerA [] s₁ H:=⟨rfl,hM,fun b o e=>Fl e,Nat.le_of_eq (zj _ _),trivial,fun b hb=>absurd (show b∈([]:List Addr)from hb) (by simp),hok,.of_eq hg⟩
  refine codeAny_mono ((F _ hKb (nsK hns)).run callerA [] s₁ H ⟨[.ref a],[]⟩ [.ref a] [.ref a] _ _ hr e0 (hbind s₁ (.ref a)) (.cons rfl .nil) (hsp H hO hS)) fun r s' h=>?_
  cases r with
  |error e=>exact(hCX H e s' h).elim
  |ok fl=>
   cases fl with
   |next=>exact False.elim h
   |brk=>exact False.elim h
   |cont=>exact False.elim h
   |ret u=>
    obtain⟨v,H',os,bare,un,hok',r',q⟩:=h
    have q':v=.bl true:=q
    subst q'
    obtain rfl:u=Value.bool true:=r'
    refine⟨rfl,OldK.of_keep fun b o e=>?_,os,bare⟩
    cases q:H b with
    |none=>exact un.keep b o e q (by intro z;exact absurd (show b∈([]:List Addr)from z) (by simp)) (by simp)
    |some u=>
     rcases hO b with z|⟨ob,xs,z⟩
     ·rw[q]at z;cases z
     ·have z2:=un.frzs b ob _ z
      obtain⟨e1,_⟩:=hok b _ z
      obtain⟨e2,_⟩:=hok' b _ z2
      rw[e]at e1;cases e1
      exact e2
 cases hk:K.lookup a with
 |some o=>
  have e:=KX a o hk
  rw[ha]at e
  cases e
  refine core (fun _=>none) (fun _=>.inl rfl) (.inr ⟨_,vs.toArray,_,hk,rfl,rfl,rfl,by rw[List.size_toArray,lenV];exact hl,by simpa using rv⟩) (fun b u z=>by have z':(none:Option HO)=some u:=z;cases z') (fun b z=>absurd rfl z) fun z=>absurd rfl z
 |none=>
  refine core (fun b=>if b=a then some (.frz { cls:=.type "list",data:=.seq vs.toArray } (.lst (ns.map V.int)))else none) (fun b=>?_) (.inl (.inr ⟨{ cls:=.type "list",data:=.seq vs.toArray },if_pos rfl⟩)) (fun b u z=>?_) (fun b z=>?_) fun _=>hk
  ·by_cases hb:b=a
   ·exact .inr ⟨_,_,if_pos hb⟩
   ·exact .inl (if_neg hb)
  ·by_cases hb:b=a
   ·have z':=(if_pos hb).symm.trans z
    cases z'
    subst hb
    exact⟨ha,by rw[List.length_map];exact hl,vs,_,rv,ha⟩
   ·have z':=(if_neg hb).symm.trans z
    cases z'
  ·by_cases hb:b=a
   ·exact hb
   ·exact absurd (if_neg hb) z
theorem Er{l:PySem.W.OpenLaw}{n k:Nat}{q:Program}{loose:List Str}{XP:(Str->Option Value)->Heap->Prop}{YP:World->Heap->Prop}{d:DefRec}{K:Params->PySem.W.Frag}{CX:World->CXT}{sp:World->Sp}{x:Str}
  (hn:l.most=some n) (hn2:n<=sizeLine) (hdf:d.params.defaults=[]) (hr:jg k callerA)
  (hY:∀(w:World) (h:Heap),YP w h->(K w.params).In h)
  (F:∀(w:World) (mg:Str->Option Value) (fa:Addr) (h:Heap),(K w.params).In h->h.Ns mainGlobals mg->mg d.name=some (.ref fa)->
   ∃fd:FuncData,(∀(s:Shared) (u:Value),BindsTo s fd ⟨[u],[]⟩ [(x,u)])/\
    ∀base:Heap,(K w.params).In base->base.Ns mainGlobals mg->mY l.prog w (K w.params) mg base (CX w) k fa fd [x] (sp w))
  (hsp:∀(w:World) (H:Hp) (a:Addr) (ns:List Int),ns.length<=n->Ml H->SqL (K w.params) H a (ns.map V.int)->sp w [.ref a] H (fun v _=>v=.bl true) fun _ _ _=>False)
  (hCX:∀(w:World) (H:Hp) (s:Shared) (e:Value) (s':Shared),CX w [] H s (fun _ _ _=>False) e s'->False) :
  PySem.W.WalkO q loose XP YP l.row.toRowW d [] (fun f vs=>PySem.call f vs):=by
 refine Att.attach_call hn hdf fun w s₀ s₁ mg mb fa o pm cd doc a vs ns G Y ho hd hcd hmg hobj hints gK hg=>?_
 have KX:=hY w _ Y
 obtain⟨fd,hb,hF⟩:=F w mg fa _ KX G.T.g hmg
 exact BY KX G.T.g G.T.b G.T.builtins G.T.nolimit hg hobj hints (Nat.le_trans gK hn2) hr hF hb (fun H hO hS=>hsp w H a ns gK hO hS) fun H e s'=>hCX w H s₁ e s'
def jC(s:Stmt)(j:Nat):Stmt:=match s with
 |.ClassDef _ _ _ body _ _ _ _ _ _ _=>body.getD j (.Pass ⟨0,0,0,0⟩)
 |_=>.Pass ⟨0,0,0,0⟩
def aT(s:Stmt):Arguments:=match s with
 |.FunctionDef _ a _ _ _ _ _ _ _ _=>a
 |_=>{ posonlyargs:=[],args:=[],vararg:=none,kwonlyargs:=[],kw_defaults:=[],kwarg:=none,defaults:=[] }
def aL(s:Stmt):List Stmt:=match s with
 |.FunctionDef _ _ b _ _ _ _ _ _ _=>b
 |_=>[]
def av(s:Stmt):Scope:=match s with
 |.FunctionDef _ _ _ _ _ _ sc _ _ _=>sc
 |_=>{ kind:=.function,names:=[],isGenerator:=false,isCoroutine:=false }
abbrev CX0:CXT:=fun _ _ _ _ _ _=>False
abbrev E0:XK:=fun _ _ _=>False
theorem By{X:Cx}:kj CX0 X E0:=fun _ _ _ _ _ _ _ h=>h.elim
structure Fun(K:PySem.W.Frag)(x qual:Str)(st:Stmt)(f:Addr)(fd:FuncData):Prop where
 ex:∃(oc:Value) (od:Option Addr) (kV doc pm:Value) (an:Option Addr) (cdv ct:Value) (osl:Array (Option Value)),
  fd=PySem.W.fnOf x qual (aT st) (aL st) (av st) .none kV doc pm an cdv ct/\K.lookup f=some ⟨oc,od,.func fd,osl⟩/\PySem.W.codeIn K cdv qual=true
 kp:PySem.W.keepIn K (.ref f)=true
section
variable{P:Program}{w:World}{K:PySem.W.Frag}{mg:Str->Option Value}{base:Heap}
theorem Fun.ok{x qual:Str}{st:Stmt}{f:Addr}{fd:FuncData}{N ps:List Str}{k:Nat}{sp:Sp}(F:Fun K x qual st f fd)(S:aR N ps (av st))(len:∀vs H Q E,sp vs H Q E->vs.length=ps.length)
  (hbody:∀(cdv:Value) (A:Around) (outer:List Env) (s:Shared) (H:Hp) (vs:List V) (Q:VK) (E:XK),jg k (A.deeper (envOfC qual (av st) s.heap.objs.size f cdv))->sp vs H Q E->
   ∃t,PSs (w9 CX0 P w K mg base N qual (av st) f cdv A outer s H E).nox (aL st) t/\t { nx:=fun _ H'=>Q .non H',rt:=Q } (kK N vs) H):mY P w K mg base CX0 (k+1) f fd ps sp:=by
 obtain⟨oc,od,kV,doc,pm,an,cdv,ct,osl,rfl,lk,hcd⟩:=F.ex
 refine L7 lk hcd S len fun A outer s H vs Q E hr hsp=>?_
 obtain⟨t,h,q⟩:=hbody cdv A outer s H vs Q E hr hsp
 exact⟨t,h.nox,q⟩
theorem Fun.binds{x qual:Str}{st:Stmt}{f:Addr}{fd:FuncData}{ps:List Str}(F:Fun K x qual st f fd)
  (h:∀(kV doc pm:Value) (an:Option Addr) (cdv ct:Value) (us:List Value),us.length=ps.length->bindArgs (PySem.W.fnOf x qual (aT st) (aL st) (av st) .none kV doc pm an cdv ct) ⟨us,[]⟩=pure (ps.zip us)):fU K fd ps []:=by
 obtain⟨oc,od,kV,doc,pm,an,cdv,ct,osl,rfl,lk,hcd⟩:=F.ex
 exact .all (h kV doc pm an cdv ct)
theorem bJ{x qual:Str}{st:Stmt}{f:Addr}{oc:Value}{od an:Option Addr}{osl:Array (Option Value)}{kV doc pm cdv ct:Value}(l:K.lookup f=some ⟨oc,od,.func (PySem.W.fnOf x qual (aT st) (aL st) (av st) .none kV doc pm an cdv ct),osl⟩)
  (c:PySem.W.codeIn K cdv qual=true) (k:PySem.W.keepIn K (.ref f)=true):Fun K x qual st f (PySem.W.fnOf x qual (aT st) (aL st) (av st) .none kV doc pm an cdv ct):=⟨⟨oc,od,kV,doc,pm,an,cdv,ct,osl,rfl,l,c⟩,k⟩
end
theorem dR{A:Around}{k:Nat}(hr:jg k A):A.units+1<cLine:=Nat.lt_of_le_of_lt (Nat.add_le_add_left (by decide:1<=64) _) hr.units
theorem xY{n:Nat}(h:n<=1000):n<sizeLine:=Nat.lt_of_le_of_lt h (by decide)
section
variable{X:Cx}
theorem pv(i:Nat){x:Str}{pos:Pos}(hN:X.N[i]?=some x:=by rfl)(hv:Vis X.env.scope x:=by first|exact Or.inl rfl|exact Or.inr (Or.inl rfl)|exact Or.inr (Or.inr rfl))(hd:(x == ("__debug__":Str))=false:=by decide)
  (hcd:(x == ("__classdict__":Str))=false:=by decide):PE X (.Name x pos) (J6 i):=IE hN hv hd hcd
theorem z5:gQ X (.builtin "len") (fun xs H Q=>∃a kvs,xs=[V.ref a]/\H a=some (.dK kvs)/\Q (.int kvs.length) H):=by
 intro pins s σ H xs us Q I r h
 obtain⟨a,kvs,rfl,ha,q⟩:=h
 obtain⟨u,rfl,ru⟩:=m7 r
 cases ru
 exact Mb I (.inl ha) fun t s' I'=>⟨.int kvs.length,H,I',⟨t,rfl⟩,q⟩
end
theorem GA{A B:Prop}(h:B):if false=true then A else B:=by
 rw[if_neg Bool.false_ne_true]
 exact h
theorem Gz{A B:Prop}(h:A):if true=true then A else B:=by
 rw[if_pos rfl]
 exact h
def qY(H H':Hp):Prop:=∀b o,H b=some o->H' b=some o
theorem qY.refl(H:Hp):qY H H:=fun _ _ h=>h
theorem qY.trans{H H1 H2:Hp}(a:qY H H1)(b:qY H1 H2):qY H H2:=fun c o h=>b c o (a c o h)
theorem qY.free{H H':Hp}(e:qY H H'){l:Addr}(h:H' l=Option.none):H l=Option.none:=by
 cases q:H l with
 |none=>rfl
 |some o=>
  rw[e l o q]at h
  cases h
end L2
namespace OG
open PySem PySem.Spec PyProof.Rows L2
structure WE(X:Cx)(e:Expr)(t:TE):Prop where
 h:PE X e t
structure WT(X:Cx)(e:Expr)(t:TT):Prop where
 h:PT X e t
structure WW(X:Cx)(e:Expr)(t:TT):Prop where
 h:PW X e t
structure WA(X:Cx)(es:List Expr)(t:TA):Prop where
 h:PA X es t
structure WS(X:Cx)(st:Stmt)(t:TS):Prop where
 h:PS X st t
structure WSs(X:Cx)(st:List Stmt)(t:TS):Prop where
 h:PSs X st t
structure WI(X:Cx)(tg iter:Expr)(wi:TI):Prop where
 h:PI X tg iter wi
structure WG(X:Cx)(target:Expr)(t:TG):Prop where
 h:PG X target t
structure WGs(X:Cx)(ts:List Expr)(t:TGs):Prop where
 h:PGs X ts t
structure WC(X:Cx)(op:CmpOp)(a b:Expr)(t:TE):Prop where
 h:PC X op a b t
structure WO(X:Cx)(e:Option Expr)(t:TO):Prop where
 h:PO X e t
section
variable{X:Cx}
theorem ar{i j pos}:WE X (.Constant (.int i) j pos) (tC (.int i)):=⟨IK ⟩
end
section
variable{X:Cx}
theorem dc{b j pos}:WE X (.Constant (.bool b) j pos) (tC (.bl b)):=⟨LG ⟩
end
section
variable{X:Cx}
theorem aX{x j pos}:WE X (.Constant (.str x) j pos) (tC (.str x)):=⟨IG ⟩
end
section
variable{X:Cx}
variable{a b:Expr}{ta tb:TE}{pos:Pos}
theorem xD{op:CmpOp}{t:TE}(h:WC X op a b t)(h1:behindInMarks op b=false:=by first|exact nobehind _ (by decide) (by decide)|rfl):WE X (.Compare a [op] [b] pos) t:=⟨IM h.h h1⟩
end
section
variable{X:Cx}
variable{a b:Expr}{ta tb:TE}{pos:Pos}
theorem xm{op:CmpOp}{t:TE}(h:WC X op a b t)(h1:behindInMarks op b=false:=by first|exact nobehind _ (by decide) (by decide)|rfl):WT X (.Compare a [op] [b] pos) (tB t):=⟨Ip h.h h1⟩
end
section
variable{X:Cx}
variable{a b:Expr}{ta tb:TE}{pos:Pos}
theorem Ee{e:Expr}{t:TE}(h:WE X e t)(he:∀whole,isTrue e X.env whole=(do let v <-whole;standAt e.pos;holding [v] (truthy v)):=by intro _;rfl):WT X e (tB t):=⟨Im h.h he⟩
end
section
variable{X:Cx}
variable{a b:Expr}{ta tb:TE}{pos:Pos}
variable{tA tB':TT}{rest:List Expr}
theorem AK(ha:WT X a tA):WW X (.BoolOp .And [a] pos) tA:=⟨EK ha.h⟩
end
section
variable{X:Cx}
variable{a b:Expr}{ta tb:TE}{pos:Pos}
variable{tA tB':TT}{rest:List Expr}
theorem Ec(ha:WT X a tA):WW X (.BoolOp .Or [a] pos) tA:=⟨Ik ha.h⟩
end
section
variable{X:Cx}
variable{a b:Expr}{ta tb:TE}{pos:Pos}
variable{tA tB':TT}{rest:List Expr}
theorem Ed(ha:WT X a tA)(hb:WW X (.BoolOp .And (b::rest) pos) tB'):WW X (.BoolOp .And (a::b::rest) pos) (My tA tB'):=⟨Il ha.h hb.h⟩
end
section
variable{X:Cx}
variable{a b:Expr}{ta tb:TE}{pos:Pos}
variable{tA tB':TT}{rest:List Expr}
theorem HB(ha:WT X a tA)(hb:WW X (.BoolOp .Or (b::rest) pos) tB'):WW X (.BoolOp .Or (a::b::rest) pos) (tOr tA tB'):=⟨Lx ha.h hb.h⟩
end
section
variable{X:Cx}
variable{a b:Expr}{ta tb:TE}{pos:Pos}
variable{tA tB':TT}{rest:List Expr}
theorem Ef(ha:WT X a tA):WT X (.UnaryOp .Not a pos) (Mt tA):=⟨Io ha.h⟩
end
section
variable{X:Cx}
variable{a b:Expr}{ta tb:TE}{pos:Pos}
variable{tA tB':TT}{rest:List Expr}
theorem Ek{op}{t:TE}(h:WE X a t):WE X (.BoolOp op [a] pos) t:=⟨IH h.h⟩
end
section
variable{X:Cx}
variable{a b:Expr}{ta tb:TE}{pos:Pos}
variable{tA tB':TT}{rest:List Expr}
theorem En(ha:WE X a ta)(hb:WE X (.BoolOp .And (b::rest) pos) tb):WE X (.BoolOp .And (a::b::rest) pos) (HW ta tb):=⟨IQ ha.h hb.h⟩
end
section
variable{X:Cx}
variable{a b:Expr}{ta tb:TE}{pos:Pos}
variable{tA tB':TT}{rest:List Expr}
theorem HE(ha:WE X a ta)(hb:WE X (.BoolOp .Or (b::rest) pos) tb):WE X (.BoolOp .Or (a::b::rest) pos) (Ms ta tb):=⟨LB ha.h hb.h⟩
end
section
variable{X:Cx}
variable{a b:Expr}{ta tb:TE}{pos:Pos}
variable{tA tB':TT}{rest:List Expr}
theorem El(ha:WE X a ta):WE X (.UnaryOp .Not a pos) (HM ta):=⟨II ha.h⟩
end
section
variable{X:Cx}{st:Stmt}{rest:List Stmt}{t u:TS}{e:Expr}{te:TE}{pos:Pos}
theorem AL :WSs X [] HN:=⟨EN ⟩
end
section
variable{X:Cx}{st:Stmt}{rest:List Stmt}{t u:TS}{e:Expr}{te:TE}{pos:Pos}
theorem rp(h1:WS X st t)(h2:WSs X rest u):WSs X (st::rest) (Mq t u):=⟨Bk h1.h h2.h⟩
end
section
variable{X:Cx}{st:Stmt}{rest:List Stmt}{t u:TS}{e:Expr}{te:TE}{pos:Pos}
theorem uw(h1:WS X st t):WSs X [st] t:=⟨EM h1.h⟩
end
section
variable{X:Cx}{st:Stmt}{rest:List Stmt}{t u:TS}{e:Expr}{te:TE}{pos:Pos}
theorem AM(he:WE X e te)(hs:swapsWith e none pos.line X.env=pure false:=by rfl):WS X (.Expr e pos) (HQ te):=⟨EO he.h hs⟩
end
section
variable{X:Cx}{st:Stmt}{rest:List Stmt}{t u:TS}{e:Expr}{te:TE}{pos:Pos}
theorem xo(he:WE X e te):WS X (.Return (some e) pos) (Mr te):=⟨Ir he.h⟩
end
section
variable{X:Cx}{st:Stmt}{rest:List Stmt}{t u:TS}{e:Expr}{te:TE}{pos:Pos}
theorem HC{c:Expr}{a b:List Stmt}{tc:TT}(hc:WT X c tc)(ha:WSs X a t)(hb:WSs X b u):WS X (.If c a b pos) (Mv tc t u):=⟨Ly hc.h ha.h hb.h⟩
end
section
variable{X:Cx}{pos:Pos}
theorem aK{i:Nat}{x:Str}(hN:X.N.Nodup)(hi:X.N[i]?=some x)(hx:Loc X.env.scope x)(hf:X.fn x=true\/X.env.scope.names.lookup x=some .local:=by first|exact .inl rfl|exact .inr rfl|assumption):WG X (.Name x pos) (wI i):=⟨EX hN hi hx hf⟩
end
section
variable{X:Cx}{pos:Pos}
theorem AO :WGs X [] MR:=⟨EW ⟩
end
section
variable{X:Cx}{pos:Pos}
theorem xq{e:Expr}{es:List Expr}{t:TG}{u:TGs}(h1:WG X e t)(h2:WGs X es u)(hs:(assignEach (e::es) X.env).map (·.2)=assign e X.env::(assignEach es X.env).map (·.2):=by rfl):WGs X (e::es) (JI t u):=⟨Bp h1.h h2.h hs⟩
end
section
variable{X:Cx}{pos:Pos}
theorem xt{es:List Expr}{k:Nat}{t:TGs}{n:Nat}(hc:X.calm=true)(h:WGs X es t)(hn:(assignEach es X.env).length=n:=by rfl)(hst:(assignEach es X.env).findIdx? (·.1)=none:=by rfl):WG X (.Tuple es k pos) (MP X.K n t):=⟨IC hc h.h hn hst⟩
end
section
variable{X:Cx}{pos:Pos}
theorem Ei {o i : Expr} {to ti : TE} {t : Kk} (ho : WE X o to) (hi : WE X i ti) (hs : Mj X t) (ha : ∀ v, assign (.Subscript o i pos) X.env v = (do
   let ov <-holding [v] (eval o X.env)
   let iv <-holding [v,ov] (eval i X.env)
   standAt pos
   holding [v,ov,iv] (setItem ov iv v)
   release [v,ov,iv] []):=by intro _;rfl):WG X (.Subscript o i pos) (MQ to ti t):=⟨ID ho.h hi.h hs ha⟩
end
section
variable{X:Cx}{pos:Pos}
theorem xp{tg e:Expr}{te:TE}{g:TG}(he:WE X e te)(hg:WG X tg g)(hs:swapsWithSole [tg] e pos.line X.env=pure false:=by rfl)(hw:swappedStores [tg] e X.env=pure none:=by rfl)(h1:(assignEach [tg] X.env).map (·.2)=[assign tg X.env]:=by rfl):WS X (.Assign [tg] e pos) (HV te g):=⟨Iy he.h hg.h hs hw h1⟩
end
section
variable{X:Cx}{pos:Pos}
theorem xn{i:Nat}{x:Str}{e:Expr}{te:TE}{pos':Pos}(hN:X.N.Nodup)(hi:X.N[i]?=some x)(hx:Loc X.env.scope x)(he:WE X e te)(hs:swapsWith e (some (.Name x pos')) pos.line X.env=pure false:=by rfl)(hf:X.fn x=true\/X.env.scope.names.lookup x=some .local:=by first|exact .inl rfl|exact .inr rfl|assumption):WS X (.Assign [.Name x pos'] e pos) (HV te (wI i)):=⟨Iq hN hi hx he.h hs hf⟩
end
section
variable{X:Cx}{tg:Expr}
theorem AN{l:Expr}{tl:TE}(hl:WE X l tl):WI X tg l (JE X.K tl):=⟨EV hl.h⟩
end
section
variable{X:Cx}{tg:Expr}
theorem Eh{l:Expr}{tl:TE}(hl:WE X l tl):WI X tg l (MO X.K tl):=⟨IB hl.h⟩
end
section
variable{X:Cx}{tg:Expr}
theorem vQ{a:Expr}{ta:TA}{p pos:Pos}(hg:Gl X "range")(hm:X.mg "range"=none)(ha:WA X [a] ta)(hs:starEach [a] X.env=[(false,eval a X.env)]:=by rfl):WI X tg (.Call (.Name "range" p) [a] [] pos) (JD ta):=⟨yx hg hm ha.h hs⟩
end
section
variable{X:Cx}{tg:Expr}
theorem tu{iter:Expr}{body:List Stmt}{wi:TI}{g:TG}{tb:TS}{pos:Pos}(hp:PassesOwn (model X.prog X.w) X.A X.env X.xe)(hc:X.calm=true)(hi:WI X tg iter wi)(hg:WG X tg g)(hb:WSs X body tb)(hs:∀x,foldedSetIterable iter X.env x=pure x:=by intro _;rfl):WS X (.For tg iter body [] pos) (HP wi g tb):=⟨Iu hp hc hi.h hg.h hb.h hs⟩
end
section
variable{X:Cx}{a b c:Expr}{ta tb tc:TE}{pos:Pos}
theorem HF{op:Operator}{r:R2}(ho:OpR X (binaryOp op) r)(ha:WE X a ta)(hb:WE X b tb):WE X (.BinOp a op b pos) (tOp r ta tb):=⟨LC ho ha.h hb.h⟩
end
section
variable{X:Cx}{a b c:Expr}{ta tb tc:TE}{pos:Pos}
theorem HD{op:UnaryOp}{r:V->Hp->VK->Prop}(ho:UnR X (unaryOp op) r)(ha:WE X a ta):WE X (.UnaryOp op a pos) (tUn r ta):=⟨LA ho ha.h⟩
end
section
variable{X:Cx}{a b c:Expr}{ta tb tc:TE}{pos:Pos}
theorem pJ{op:CmpOp}{r:R2}(ho:OpR X (compareOp op) r)(ha:WE X a ta)(hb:WE X b tb)(hm:behindInMarks op b=false):WE X (.Compare a [op] [b] pos) (tOp r ta tb):=⟨E6 ho ha.h hb.h hm⟩
end
section
variable{X:Cx}{a b c:Expr}{ta tb tc:TE}{pos:Pos}
theorem pI{op:CmpOp}{r:R2}(ho:OpR X (compareOp op) r)(ha:WE X a ta)(hb:WE X b tb)(hm:behindInMarks op b=false):WT X (.Compare a [op] [b] pos) (HK (tOp r ta tb)):=⟨EL ho ha.h hb.h hm⟩
end
section
variable{X:Cx}{a b c:Expr}{ta tb tc:TE}{pos:Pos}
theorem xE{op op':CmpOp}{r r':R2}(ho:OpR X (compareOp op) r)(ho':OpR X (compareOp op') r')(ha:WE X a ta)(hb:WE X b tb)(hc:WE X c tc)(hm:lastMarks [op,op'] [b,c]=false:=by with_unfolding_all rfl):WE X (.Compare a [op,op'] [b,c] pos) (xU r r' ta tb tc):=⟨Bw ho ho' ha.h hb.h hc.h hm⟩
end
section
variable{X:Cx}{o e value:Expr}{f:Str}{pos pos' tpos:Pos}{ta tv:TE}
theorem Em(he:WE X e ta)(hb:attributeBase e f X.env (eval e X.env)=eval e X.env):WE X (.Attribute e f pos) (Mw X.K ta f):=⟨IL he.h hb⟩
end
section
variable{X:Cx}{o e value:Expr}{f:Str}{pos pos' tpos:Pos}{ta tv:TE}
theorem Eg(ha:WE X o ta)(hv:WE X value tv)(hs:swapsWith value (some (.Attribute o f pos')) pos.line X.env=pure false):WS X (.Assign [.Attribute o f pos'] value pos) (Mz X.K ta tv f):=⟨Iw ha.h hv.h hs⟩
end
section
variable{X:Cx}{e:Expr}{es:List Expr}{te:TE}{t:TA}{pos:Pos}
theorem kn :WA X [] J7:=⟨IT ⟩
end
section
variable{X:Cx}{e:Expr}{es:List Expr}{te:TE}{t:TA}{pos:Pos}
theorem fq(ha:WE X e te)(hr:WA X es t)(hs:starEach (e::es) X.env=(false,eval e X.env)::starEach es X.env:=by rfl):WA X (e::es) (HS te t):=⟨Fb ha.h hr.h hs⟩
end
section
variable{X:Cx}{e:Expr}{es:List Expr}{te:TE}{t:TA}{pos:Pos}
theorem xv{x1}(h:WA X es t):WE X (.Tuple es x1 pos) (Mp t):=⟨IF h.h⟩
end
section
variable{X:Cx}{e:Expr}{es:List Expr}{te:TE}{t:TA}{pos:Pos}
theorem xx(h:WA X es t):WE X (.List es pos) (Mu t):=⟨IJ h.h⟩
end
section
variable{X:Cx}{CX:CXT}{k:Nat}{f C:Addr}{fd:FuncData}{ps:List Str}{sp:Sp}{dvs:List V}{ds:List Value}{E:XK}{x m:Str}{p pos apos:Pos}{e o:Expr}{es:List Expr}{ta:TE}{t:TA}
theorem AQ {pl : Sem Bool} (he : WE X o ta) (c : Cls X.K C) (hm : tj X.K C m f) (F : mY X.prog X.w X.K X.mg X.base CX k f fd ps sp) (hr : jg k X.A) (hb : fU X.K fd ps ds) (hd : bW dvs ds) (hx : kj CX X E) (ha : WA X (e :: es) t) (hst : starEach (e :: es) X.env = (false, eval e X.env) :: starEach es X.env := by rfl) (hpl : (backTo pos (starEach es X.env)).any (·.1) = false := by rfl) (ht : eval (.Call (.Attribute o m apos) (e :: es) [] pos) X.env = (do
   let ov <-eval o X.env
   standAt apos.atName
   let (f,first) <-holding [ov] (getMethod ov m pl)
   callWith pos f first (backTo pos (starEach (e::es) X.env)) (backToKw pos (keywordEach [] X.env))):=by rfl):WE X (.Call (.Attribute o m apos) (e::es) [] pos) (Eu C m sp dvs E ta t):=⟨EY he.h c hm F hr hb hd hx ha.h hst hpl ht⟩
end
section
variable{X:Cx}{CX:CXT}{k:Nat}{f C:Addr}{fd:FuncData}{ps:List Str}{sp:Sp}{dvs:List V}{ds:List Value}{E:XK}{x m:Str}{p pos apos:Pos}{e o:Expr}{es:List Expr}{ta:TE}{t:TA}
theorem AR(M:Mk X.K C f)(F:mY X.prog X.w X.K X.mg X.base CX k f fd ps sp)(hr:jg (k+1) X.A)(hg:Gl X x)(hm:X.mg x=some (.ref C))(hb:fU X.K fd ps ds)(hd:bW dvs ds)(hx:kj CX X E)(ha:WA X (e::es) t)(hdb:(x == ("__debug__":Str))=false:=by decide)(he:starEach (e::es) X.env=(false,eval e X.env)::starEach es X.env:=by rfl)(hpl:(backTo pos (starEach es X.env)).any (·.1)=false:=by rfl):WE X (.Call (.Name x p) (e::es) [] pos) (xT C sp dvs E t):=⟨EZ M F hr hg hm hb hd hx ha.h hdb he hpl⟩
end
section
variable{X:Cx}{CX:CXT}{k:Nat}{f C:Addr}{fd:FuncData}{ps:List Str}{sp:Sp}{dvs:List V}{ds:List Value}{E:XK}{x m:Str}{p pos apos:Pos}{e o:Expr}{es:List Expr}{ta:TE}{t:TA}
theorem xw(M:Mk X.K C f)(F:mY X.prog X.w X.K X.mg X.base CX k f fd ps sp)(hr:jg (k+1) X.A)(hg:Gl X x)(hm:X.mg x=some (.ref C))(hb:fU X.K fd ps ds)(hd:bW dvs ds)(hx:kj CX X E)(hdb:(x == ("__debug__":Str))=false:=by decide):WE X (.Call (.Name x p) [] [] pos) (xT C sp dvs E J7):=⟨Br M F hr hg hm hb hd hx hdb⟩
end
section
variable{X:Cx}{x:Str}{p pos:Pos}{e:Expr}{es:List Expr}{t:TA}{id T:String}{r:List V->Hp->VK->Prop}
theorem mZ(hc:gQ X (.builtin id) r)(hg:Gl X x)(hm:X.mg x=none)(hv:bootBuiltins x=some (.builtin id))(ha:WA X (e::es) t)(hn:x≠"__name__":=by decide)(hdb:(x == ("__debug__":Str))=false:=by decide)(he:starEach (e::es) X.env=(false,eval e X.env)::starEach es X.env:=by rfl)(hpl:(backTo pos (starEach es X.env)).any (·.1)=false:=by rfl):WE X (.Call (.Name x p) (e::es) [] pos) (tCB r t):=⟨Bx hc hg hm hv ha.h hn hdb he hpl⟩
end
section
variable{X:Cx}{x:Str}{p pos:Pos}{e:Expr}{es:List Expr}{t:TA}{id T:String}{r:List V->Hp->VK->Prop}
theorem oU(hc:gQ X (.type T) r)(hg:Gl X x)(hm:X.mg x=none)(hv:bootBuiltins x=some (.type T))(ha:WA X (e::es) t)(hn:x≠"__name__":=by decide)(hdb:(x == ("__debug__":Str))=false:=by decide)(he:starEach (e::es) X.env=(false,eval e X.env)::starEach es X.env:=by rfl)(hpl:(backTo pos (starEach es X.env)).any (·.1)=false:=by rfl):WE X (.Call (.Name x p) (e::es) [] pos) (tCB r t):=⟨yy hc hg hm hv ha.h hn hdb he hpl⟩
end
section
variable{X:Cx}{e:Expr}{te:TE}{lo hi:Option Expr}{tl th:TO}{pos p2:Pos}
theorem uz :WO X none xS:=⟨EU ⟩
end
section
variable{X:Cx}{e:Expr}{te:TE}{lo hi:Option Expr}{tl th:TO}{pos p2:Pos}
theorem uy(h:WE X e te):WO X (some e) (HL te):=⟨ET h.h⟩
end
section
variable{X:Cx}{e:Expr}{te:TE}{lo hi:Option Expr}{tl th:TO}{pos p2:Pos}
theorem rq{r:V->Option Int->Option Int->Hp->VK->Prop}(hr:SlR X r)(he:WE X e te)(hl:WO X lo tl)(hu:WO X hi th):WE X (.Subscript e (.Slice lo hi none p2) pos) (tSl r te tl th):=⟨Bq hr he.h hl.h hu.h⟩
end
section
variable{X:Cx}{a b:Expr}{ta tb:TE}{pos:Pos}
theorem HG{r:R2}(hr:IxR X r)(ha:WE X a ta)(hb:WE X b tb)(hs:uo b):WE X (.Subscript a b pos) (tOp r ta tb):=⟨LD hr ha.h hb.h hs⟩
end
section
variable{X:Cx}{a b:Expr}{ta tb:TE}{pos:Pos}
variable{o e:Expr}{es:List Expr}{to:TE}{t:TA}{name:Str}{apos cpos:Pos}{T id:String}{r:V->List V->Hp->VK->Prop}
theorem xF(pa:PlainAttrs T)(slot:Slot T name id)(hty:typeOf (.builtin id)=pure (.type "method_descriptor"))(hm:MtR X id r)(ho:WE X o to)(hbase:attributeBase o name X.env (eval o X.env)=eval o X.env:=by rfl)(hline:(apos.endLine == cpos.line)=true:=by rfl):WE X (.Call (.Attribute o name apos) [] [] cpos) (Mx X.K T r to):=⟨IP pa slot hty hm ho.h hbase hline⟩
end
section
variable{X:Cx}{a b:Expr}{ta tb:TE}{pos:Pos}
variable{o e:Expr}{es:List Expr}{to:TE}{t:TA}{name:Str}{apos cpos:Pos}{T id:String}{r:V->List V->Hp->VK->Prop}
theorem xG (pa : PlainAttrs T) (slot : Slot T name id) (hty : typeOf (.builtin id) = pure (.type "method_descriptor")) (hm : MtR X id r) (ho : WE X o to) (ha : WA X (e :: es) t) (hbase : attributeBase o name X.env (eval o X.env) = eval o X.env := by rfl) (hfew : ((backTo cpos (starEach (e :: es) X.env)).all (fun x => !x.1) && (backToKw cpos (keywordEach [] X.env)).all (fun x => x.1.isSome)
   && decide ((e::es).length+([]:List Keyword).length+(if ([]:List Keyword).isEmpty then 0 else 1)<30))=true:=by rfl) (hline:(apos.endLine == cpos.line)=true:=by rfl) (hs:starEach (e::es) X.env=(false,eval e X.env)::starEach es X.env:=by rfl) (hplain:(backTo cpos (starEach es X.env)).any (·.1)=false:=by rfl):WE X (.Call (.Attribute o name apos) (e::es) [] cpos) (tBM X.K T r to t):=⟨LF pa slot hty hm ho.h ha.h hbase hfew hline hs hplain⟩
end
section
variable{X:Cx}{o i e value:Expr}{pos pos' tpos:Pos}{td ty tv:TE}
theorem AS(hu:X.A.units+1<cLine)(ho:WE X o td)(hi:WE X i ty)(hs:Km i):WE X (.Subscript o i pos) (HR td ty):=⟨E5 hu ho.h hi.h hs⟩
end
section
variable{X:Cx}{o i e value:Expr}{pos pos' tpos:Pos}{td ty tv:TE}
theorem xH(hu:X.A.units+1<cLine)(hi:WE X i ty)(ho:WE X o td):WC X .In i o (J8 ty td):=⟨IS hu hi.h ho.h⟩
end
section
variable{X:Cx}{o i e value:Expr}{pos pos' tpos:Pos}{td ty tv:TE}
theorem oV(hu:X.A.units+1<cLine)(hi:WE X i ty)(ho:WE X o td):WC X .NotIn i o (pQ ty td):=⟨yz hu hi.h ho.h⟩
end
section
variable{X:Cx}{o i e value:Expr}{pos pos' tpos:Pos}{td ty tv:TE}
theorem ux(hu:X.A.units+1<cLine)(ho:WE X o td)(hi:WE X i ty)(hv:WE X value tv)(hs:swapsWith value (some (.Subscript o i pos')) pos.line X.env=pure false):WS X (.Assign [.Subscript o i pos'] value pos) (Ia td ty tv):=⟨ER hu ho.h hi.h hv.h hs⟩
end
section
variable{X:Cx}{pos:Pos}
theorem xA :WE X (.Dict [] [] pos) CZ:=⟨Bt ⟩
end
section
variable{X:Cx}{pos:Pos}
theorem xy :WE X (.Dict [] [] pos) CY:=⟨Bs ⟩
end
section
variable{X:Cx}{o e f:Expr}{apos cpos:Pos}{td ty tx:TE}
theorem xC(hu:X.A.units+1<cLine)(ho:WE X o td)(he:WE X e ty)(m:M1 X o "get" apos e cpos):WE X (.Call (.Attribute o "get" apos) [e] [] cpos) (C4 td ty):=⟨Bv hu ho.h he.h m⟩
end
section
variable{X:Cx}{o e f:Expr}{apos cpos:Pos}{td ty tx:TE}
theorem xB(hu:X.A.units+1<cLine)(ho:WE X o td)(he:WE X e ty)(hf:WE X f tx)(m:M2 X o "get" apos e f cpos):WE X (.Call (.Attribute o "get" apos) [e,f] [] cpos) (C3 td ty tx):=⟨Bu hu ho.h he.h hf.h m⟩
end
section
variable{X:Cx}
theorem wpv(i:Nat){x:Str}{pos:Pos}(hN:X.N[i]?=some x:=by rfl)(hv:Vis X.env.scope x:=by first|exact Or.inl rfl|exact Or.inr (Or.inl rfl)|exact Or.inr (Or.inr rfl))(hd:(x == ("__debug__":Str))=false:=by decide)(hcd:(x == ("__classdict__":Str))=false:=by decide):WE X (.Name x pos) (J6 i):=⟨pv i hN hv hd hcd⟩
end
theorem WW.pt{X:Cx}{e:Expr}{t:TT}(h:WW X e t):WT X e t:=⟨h.h.pt⟩
section
variable{X:Cx}{a b c e:Expr}{ta tb tc:TE}{pos:Pos}
def w4(i j:Int):Prop:=0<j/\j.natAbs.log2<9000
theorem qg:OpR X (binaryOp .FloorDiv) (rI w4 fun i j=>.int (i / j)):=opI fun i j _ _ _ _ _ hc q=>by
 refine PyProof.Rows.floordiv_int (by have:=hc.1;omega) ?_ (.inl (PyProof.noPylong_of_log2 hc.2))
 rw[Int.fdiv_eq_ediv_of_nonneg i (Int.le_of_lt hc.1)]
 exact q
theorem tV:OpR X (compareOp .IsNot) (fun x y H Q=>∃k l,x=.bl k/\y=.bl l/\Q (.bl (k !=l)) H):=by
 rintro pins s σ H x y v u Q I rx ry ⟨k,l,rfl,rfl,q⟩
 cases rx;cases ry
 exact PyProof.Rows.isnot_bool ⟨.bl (k !=l),H,I,rfl,q⟩
theorem ui:gQ X (.builtin "isinstance") (fun xs H Q=>∃(x:V) (T:String) (t:Value) (k:Bool),xs=[x,.ty T]/\vM X.K H x t/\PySem.W.kitOne X.K t (.type T)=some k/\Q (.bl k) H):=by
 rintro pins s σ H xs us Q I r ⟨x,T,t,k,rfl,ty,e,q⟩
 obtain⟨u,w',rfl,ru,rw'⟩:=HI r
 cases rw'
 exact ze I ru ty e fun tk=>⟨.bl k,H,I.tok tk,rfl,q⟩
end
theorem dX{H:Hp}{p:Addr}(h:H p=none)(o:HO):qY H (upd H p o):=fun b u q=>by rw[bu (cV q h)];exact q
def Def(K:PySem.W.Frag)(mg:Str->Option Value)(x:Str)(st:Stmt)(ps:List Str):Prop:=
 ∃f fd,Fun K x x st f fd/\fU K fd ps []/\mg x=some (.ref f)
def Has(P:Program)(w:World)(K:PySem.W.Frag)(mg:Str->Option Value)(base:Heap)(x:Str)(k:Nat)(ps:List Str)(sp:Sp):Prop:=
 ∃f fd,mY P w K mg base CX0 k f fd ps sp/\fU K fd ps []/\PySem.W.keepIn K (.ref f)=true/\mg x=some (.ref f)
section
variable{P:Program}{w:World}{K:PySem.W.Frag}{mg:Str->Option Value}{base:Heap}{x:Str}{st:Stmt}{ps N:List Str}{k j:Nat}{sp sp':Sp}
theorem Has.mono(h:Has P w K mg base x j ps sp)(l:j<=k):Has P w K mg base x k ps sp:=by
 obtain⟨f,fd,a,b,c,d⟩:=h
 exact⟨f,fd,a.mono l,b,c,d⟩
theorem Def.has(d:Def K mg x st ps)(S:aR N ps (av st))(len:∀vs H Q E,sp vs H Q E->vs.length=ps.length)
  (hbody:∀(f:Addr) (cdv:Value) (A:Around) (outer:List Env) (s:Shared) (H:Hp) (vs:List V) (Q:VK) (E:XK),jg k (A.deeper (envOfC x (av st) s.heap.objs.size f cdv))->sp vs H Q E->
   ∃t,WSs (w9 CX0 P w K mg base N x (av st) f cdv A outer s H E).nox (aL st) t/\t { nx:=fun _ H'=>Q .non H',rt:=Q } (kK N vs) H):Has P w K mg base x (k+1) ps sp:=by
 obtain⟨f,fd,F,b,m⟩:=d
 exact⟨f,fd,F.ok S len (fun cdv A outer s H vs Q E hr h=>let ⟨t,a,b⟩:=hbody f cdv A outer s H vs Q E hr h;⟨t,a.h,b⟩),b,F.kp,m⟩
end
theorem CP{X:Cx}{k:Nat}{ps:List Str}{sp:Sp}{x:Str}{p pos:Pos}{e:Expr}{es:List Expr}{t:TA}(F:Has X.prog X.w X.K X.mg X.base x k ps sp)(hr:jg k X.A)(hg:Gl X x)
  (ha:WA X (e::es) t) (hdb:(x == ("__debug__":Str))=false:=by decide) (he:starEach (e::es) X.env=(false,eval e X.env)::starEach es X.env:=by rfl) (hpl:(backTo pos (starEach es X.env)).any (·.1)=false:=by rfl) :
  WE X (.Call (.Name x p) (e::es) [] pos) (HU sp [] E0 t):=by
 obtain⟨f,fd,a,b,c,d⟩:=F
 exact⟨E7 a hr hg d c b .nil By ha.h hdb he hpl⟩
structure Blt(mg:Str->Option Value):Prop where
 len:mg "len"=none
 isinstance:mg "isinstance"=none
 int:mg "int"=none
 bool:mg "bool"=none
 str:mg "str"=none
 tuple:mg "tuple"=none
 list:mg "list"=none
 range:mg "range"=none
 min:mg "min"=none
 sum:mg "sum"=none
 all:mg "all"=none
 zip:mg "zip"=none
 sorted:mg "sorted"=none
 dict:mg "dict"=none
 enumerate:mg "enumerate"=none
 any:mg "any"=none
 max:mg "max"=none
 set:mg "set"=none
theorem C6{n:Nat}(h:n<=1000):n<=sizeLine:=Nat.le_of_lt (xY h)
theorem wj{n:Nat}(h:n<2^60):n.log2<1920:=by
 by_cases e:n=0
 ·subst e;decide
 ·have:=(Nat.log2_lt e).mpr h;omega
theorem Co(ns:List Int)(lo hi:Option Int):zW (ns.map V.int) lo hi=((ns.drop (HT.sIx (ns.map V.int).length 0 lo)).take (HT.sIx (ns.map V.int).length (ns.map V.int).length hi-HT.sIx (ns.map V.int).length 0 lo)).map V.int:=by
 unfold zW
 rw[List.map_take,List.map_drop]
def A5(K:PySem.W.Frag):Sp:=fun vs H Q _=>∃(a:Addr) (ns:List Int),vs=[.ref a]/\SqL K H a (ns.map V.int)/\ns.length<=63/\∀H',Q (.bl true) H'
theorem vH:bootBuiltins "int"=some (.type "int"):=rfl
theorem Af:bootBuiltins "bool"=some (.type "bool"):=rfl
theorem jW:bootBuiltins "tuple"=some (.type "tuple"):=rfl
theorem lL:bootBuiltins "list"=some (.type "list"):=rfl
theorem oj:bootBuiltins "isinstance"=some (.builtin "isinstance"):=rfl
theorem vI:bootBuiltins "all"=some (.builtin "all"):=rfl
theorem gH:bootBuiltins "sorted"=some (.builtin "sorted"):=rfl
theorem uA{X:Cx}{x:Str}{T:String}{pos:Pos}(hg:Gl X x)(hm:X.mg x=none)(hv:bootBuiltins x=some (.type T))(hn:x≠"__name__":=by decide)(hd:(x == ("__debug__":Str))=false:=by decide):WE X (.Name x pos) (tC (.ty T)):=
 ⟨E8 hg hm hv rfl hn hd⟩
theorem uB{X:Cx}{x:Str}{i:Int}{pos:Pos}(hg:Gl X x)(hm:∃t,X.mg x=some (.int i t))(hd:(x == ("__debug__":Str))=false:=by decide):WE X (.Name x pos) (tC (.int i)):=by
 obtain⟨t,hm⟩:=hm
 exact⟨E4 hg hm ⟨t,rfl⟩ hd⟩
theorem Ak{α:Type}{xs:List α}{k:Int}{v:α}(h0:0<=k)(h:xs[k.toNat]?=some v):atI xs k=some v:=by
 have ek:k=((k.toNat:Nat):Int):=by omega
 rw[ek];exact iY h
theorem Fun.okW{P:Program}{w:World}{K:PySem.W.Frag}{mg:Str->Option Value}{base:Heap}{x qual:Str}{st:Stmt}{f:Addr}{fd:FuncData}{N ps:List Str}{k:Nat}{sp:Sp}(F:Fun K x qual st f fd)(S:aR N ps (av st))(len:∀vs H Q E,sp vs H Q E->vs.length=ps.length)
  (hbody:∀(cdv:Value) (A:Around) (outer:List Env) (s:Shared) (H:Hp) (vs:List V) (Q:VK) (E:XK),jg k (A.deeper (envOfC qual (av st) s.heap.objs.size f cdv))->sp vs H Q E->
   ∃t,WSs (w9 CX0 P w K mg base N qual (av st) f cdv A outer s H E).nox (aL st) t/\t { nx:=fun _ H'=>Q .non H',rt:=Q } (kK N vs) H):mY P w K mg base CX0 (k+1) f fd ps sp:=
 F.ok S len fun cdv A outer s H vs Q E hr h=>let ⟨t,a,b⟩:=hbody cdv A outer s H vs Q E hr h;⟨t,a.h,b⟩
def vN(env:Env):List (Str×Addr)->Prop
 |[]=>True
 |p::r=>env.cells.lookup p.1=some p.2/\vN env r
theorem vN.look{env:Env}:∀{cl:List (Str×Addr)} {y:Str} {c:Addr},vN env cl->cl.lookup y=some c->env.cells.lookup y=some c
 |[],_,_,_,h=>by simp at h
 |(n,d)::r,y,c,a,h=>by
  obtain⟨a1,a2⟩:=a
  rw[List.lookup_cons]at h
  by_cases e:(y == n)=true
  ·rw[e]at h
   have e':y=n:=by simpa using e
   subst e'
   cases h
   exact a1
  ·have e':(y == n)=false:=by simpa using e
   rw[e']at h
   exact vN.look a2 h
abbrev cxC(X:Cx)(Nc:List Str)(scope:Scope)(cl:List (Str×Addr))(s3:Shared)(H3:Hp)(fp:List Addr):Cx where
 prog:=X.prog
 w:=X.w
 K:=X.K
 mg:=X.mg
 base:=X.base
 A:=X.A
 N:=Nc
 s₀:=s3
 H₀:=H3
 env:=compEnvC scope cl s3.heap.objs.size X.env
 outer:=X.stack
 stack:=X.stack
 ex:=fp
 fn:=fun _=>false
 calm:=X.calm
 pn:=[]
 xe:=fun _ _=>False
def stC(n:Nat)(caps:List Nat)(σ:L2.St):L2.St:=List.replicate n none++caps.map fun i=>(σ[i]?).getD none
def Ew(wi:TI)(g:TG)(te:TE)(n:Nat)(caps:List Nat):TE:=fun σ H Q=>wi σ H fun J H1=>∀l,H1 l=none->∃W:Nat->Nat->L2.St->Hp->Prop,(∃m,W 0 m (stC n caps σ) (upd H1 l (.lst [])))/\
 ∀i m σ' H2,W i m σ' H2->(J.stop i H2/\Q (.ref l) H2)\/(J.go i H2/\∃N:L2.St->Hp->Prop,(∀σ'' H',N σ'' H'->∃m',m'<m/\W (i+1) m' σ'' H')/\
  ∀x H3,J.yld i H2 x H3->g x σ' H3 fun σ2 H4=>te σ2 H4 fun v H5=>∃ys,H5 l=some (.lst ys)/\ys.length<sizeLine/\N σ2 (upd H5 l (.lst (ys++[v]))))
theorem sL{prog:Program}{w:World}{A:Around}{R:Result->Shared->Prop}{s:Shared}{elt target iter:Expr}{scope:Scope}{pos:Pos}{it acc:Value}{env:Env}(I:Nat->Shared->Prop)
  (turn:∀n s,I n s->wpAny (model prog w) A (pyNext it) (fun r s₁=>match r with
   |none=>R (.ok .next) s₁
   | some v=>wpAny (model prog w) A (letOwnedTupleGo target it v) (fun _ s₁'=>wpAny (model prog w) A (assign target env v) (fun _ s₂=>wpAny (model prog w) A (eval elt env) (fun x s₃=>
     wpAny (model prog w) A (call (.builtin "list.append") [acc,x]) (fun _ s₄=>∃m,m<n/\I m s₄) (fun _ _=>False) s₃)
     (fun _ _=>False) s₂) (fun _ _=>False) s₁') (fun _ _=>False) s₁) (fun _ _=>False) s)
  (n:Nat) (h:I n s) :
  codeAny (model prog w) A (.compLoop (.ListComp elt [⟨target,iter,[],0⟩] scope pos) 0 it acc env) R s:=by
 refine codeAny_loop rfl I (fun n s hI=>?_) n h
 show wpAny _ _ ((compTurn (.ListComp elt [⟨target,iter,[],0⟩] scope pos) 0 it acc env).onRaise (fun x=>do noteFrame x env;theTreesLotGoes x)) _ _ s
 refine wpAny_noted ?_
 rw[compTurn_list1]
 refine wpAny_bind (wpAny_standAt (wpAny_bind (wpAny_mono (turn n s hI) (fun r s₁ h₁=>?_) fun _ _ h'=>h'.elim)))
 cases r with
 |none=>exact wpAny_pure h₁
 |some v=>
  refine wpAny_bind (wpAny_mono h₁ (fun _ s₁' h₁'=>?_) fun _ _ h'=>h'.elim)
  exact wpAny_bind (wpAny_mono h₁' (fun _ s₂ h₂=>wpAny_bind (wpAny_bind (wpAny_mono h₂ (fun x s₃ h₃=>wpAny_bind (wpAny_mono h₃
   (fun _ s₄ h₄=>wpAny_pure (wpAny_pure ⟨rfl,h₄⟩)) fun _ _ h'=>h'.elim)) fun _ _ h'=>h'.elim))) fun _ _ h'=>h'.elim)
section
variable{X:Cx}{pins:List (Addr×Obj)}{σ:L2.St}{H:Hp}{s:Shared}{Nc capN:List Str}{scope:Scope}{cl:List (Str×Addr)}{fp:List Addr}{n:Nat}{caps:List Nat}{tg iter elt:Expr}{pos:Pos}{wi:TI}{g:TG}{te:TE}
def Cap(X:Cx)(scope:Scope)(cl:List (Str×Addr))(i:Nat)(y:Str):Prop:=X.N[i]?=some y/\X.env.scope.names.lookup y=some .cell/\(relabel scope X.env).names.lookup y=some .cell/\∃c,cl.lookup y=some c
theorem Inv.comp{h1:Heap}{t':Nat}(I:Inv X pins σ H s)(hc:X.calm=true)(f2:∀b∈fp,xb X pins H b)(fo:∀b∈fp,b<s.heap.objs.size)(hkind:scope.kind=.function)(hcl:vN X.env cl)
  (hhas:((relabel scope X.env).names.all fun p=>!(p.2 == .cell||p.2 == .free)||(cl.lookup p.1).isSome)=true)
  (hcap:Paired (Cap X scope cl) caps capN) (tn:List Str) (hN:Nc=tn++capN) (hn:tn.length=n)
  (hns:h1.Ns s.heap.objs.size (fun _=>none)) (hk:∀b o,s.heap.get? b=some o->h1.get? b=some o) :
  Inv (cxC X Nc scope cl s H fp) [] (stC n caps σ) H { s with heap:=h1,toks:=t' }:=by
 have lkc:∀y c,cl.lookup y=some c->X.env.cells.lookup y=some c:=fun y c e=>hcl.look e
 refine⟨⟨I.ok.mod,?_,I.ok.glob,I.ok.blt,Nat.le_refl _,fun x y c a b=>I.ok.inj x y c (lkc _ _ a) (lkc _ _ b),fun x hx=>?_,fun x c z=>(nomatch z),I.ok.hd,I.ok.frames,.inl rfl,fun b hb=>⟨Nat.ne_of_lt (fo b hb),fun x c e=>(f2 b hb).2.2.2.2.1 x c (lkc _ _ e)⟩,I.bs,Nat.le_trans I.ok.bsz I.sz,
  fun b o e hb=>?_,fun b hb z=>?_,I.stack,I.stkFree⟩,rfl,I.bare,Un.kept hk,⟨_,hns,fun i y v h1' h2 h3=>?_⟩,fun y c e=>?_,I.hok.fresh (Nat.le_refl _),fun y c e=>I.freeC y c (lkc _ _ e),fun p hp=>(by simp at hp),I.hok.kept hk,?_⟩
 ·exact hkind
 ·have hx':(relabel scope X.env).names.lookup x=some .cell\/(relabel scope X.env).names.lookup x=some .free:=hx
  have mem:∀{k},(relabel scope X.env).names.lookup x=some k->(x,k)∈(relabel scope X.env).names:=fun{k} e=>by
   generalize (relabel scope X.env).names=L at e
   induction L with
   |nil=>simp at e
   |cons p r ih=>
    obtain⟨a,b⟩:=p
    rw[List.lookup_cons]at e
    by_cases q:(x == a)=true
    ·rw[q]at e;cases e
     have:x=a:=by simpa using q
     subst this;exact List.mem_cons_self
    ·rw[show(x == a)=false by simpa using q]at e
     exact List.mem_cons_of_mem _ (ih e)
  have fin:∀{k},(k=NameKind.cell\/k=.free)->(relabel scope X.env).names.lookup x=some k->∃c,cl.lookup x=some c:=fun{k} hk' e=>by
   have:=List.all_eq_true.mp hhas _ (mem e)
   dsimp only at this
   have q:(cl.lookup x).isSome=true:=by
    rcases hk' with z|z<;>subst z<;>simpa using this
   exact Option.isSome_iff_exists.mp q
  rcases hx' with e|e
  ·exact fin (.inl rfl) e
  ·exact fin (.inr rfl) e
 ·rcases(f2 b hb).2.2.2.1 with z|z
  ·exact I.ok.noex b o e z
  ·exact absurd (Nat.lt_of_lt_of_le (Heap.lt_size e) I.ok.bsz) (Nat.not_lt.mpr z)
 ·rcases List.mem_cons.mp (I.stkSub b z)with q|q
  ·exact(f2 b hb).2.1 q
  ·exact(f2 b hb).2.2.1 q
 ·obtain⟨m,hm,hl⟩:=I.loc
  have h2':(stC n caps σ)[i]?=some (some v):=h2
  have h1'':Nc[i]?=some y:=h1'
  unfold stC at h2'
  by_cases hi:i<n
  ·rw[List.getElem?_append_left (by simpa using hi),List.getElem?_replicate,if_pos hi]at h2'
   cases h2'
  ·rw[List.getElem?_append_right (by simp;omega),List.length_replicate,List.getElem?_map]at h2'
   rw[hN,List.getElem?_append_right (by omega),hn]at h1''
   have key:∀(j:Nat) {caps:List Nat} {capN:List Str},Paired (Cap X scope cl) caps capN->capN[j]?=some y->(Option.map (fun i=>(σ[i]?).getD none) caps[j]?)=some (some v)->∃k,Cap X scope cl k y/\σ[k]?=some (some v):=by
    intro j
    induction j with
    |zero=>
     intro caps capN P e1 e2
     cases P with
     |nil=>simp at e1
     |@cons a b l r p t=>
      simp at e1 e2
      subst e1
      cases q:σ[a]? with
      |none=>rw[q]at e2;simp at e2
      |some w'=>rw[q]at e2;simp at e2;subst e2;exact⟨a,p,q⟩
    |succ j ih=>
     intro caps capN P e1 e2
     cases P with
     |nil=>simp at e1
     |cons p t=>exact ih t (by simpa using e1) (by simpa using e2)
   obtain⟨k,⟨c1,c2,c3,c,c4⟩,e⟩:=key _ hcap h1'' h2'
   obtain⟨u,r,lk⟩:=hl k y v c1 e (.inr (.inl c2))
   refine⟨u,r,.inr ⟨.inl c3,c,c4,?_⟩⟩
   rcases lk with⟨z,_⟩|⟨_,c',e',o,ho,hd⟩
   ·have z':X.env.scope.names.lookup y=some .local:=z
    rw[c2]at z';cases z'
   ·rw[lkc _ _ c4]at e'
    cases e'
    exact⟨o,hk _ _ ho,hd⟩
 ·obtain⟨v,o,ho,hd⟩:=I.cell y c (lkc _ _ e)
  exact⟨v,o,hk _ _ ho,hd⟩
 ·show(stC n caps σ).length=Nc.length
  have pl:caps.length=capN.length:=Paired.length hcap
  unfold stC
  rw[List.length_append,List.length_replicate,List.length_map,hN,List.length_append,hn,pl]
end
theorem Cr{X:Cx}{Nc capN tn:List Str}{scope:Scope}{cl:List (Str×Addr)}{n:Nat}{caps:List Nat}{tg iter elt:Expr}{pos:Pos}{wi:TI}{g:TG}{te:TE}
  (hc:X.calm=true) (hi:WI X tg iter wi) (hg:∀s3 H3 fp,WG (cxC X Nc scope cl s3 H3 fp) tg g) (he:∀s3 H3 fp,WE (cxC X Nc scope cl s3 H3 fp) elt te)
  (hclos:closureFor scope X.env=pure cl) (hkind:scope.kind=.function) (hnl:∀x∈scope.names,x.2=.local->scope.names.lookup x.1=some .local) (hcell:∀x∈scope.names,x.2≠.cell)
  (hcl:vN X.env cl) (hhas:((relabel scope X.env).names.all fun p=>!(p.2 == .cell||p.2 == .free)||(cl.lookup p.1).isSome)=true)
  (hcap:Paired (Cap X scope cl) caps capN) (hN:Nc=tn++capN) (hn:tn.length=n)
  {use:Option (Value->Sem Unit)} {pins:List (Addr×Obj)} {σ:L2.St} {H:Hp} {s:Shared} {Q:VK} {Qf:Value->Shared->Prop} (I:Inv X pins σ H s) (h:Ew wi g te n caps σ H Q)
  (hend:∀(D C:Addr) (s6:Shared) (H5:Hp) (m:Str->Option Value),Inv X pins σ H5 s6->s6.heap.Ns C m->H5 C=none->C≠X.env.locals->X.s₀.heap.objs.size<=C->(∀x c,X.env.cells.lookup x=some c->c≠C)->(∀p∈X.pn++pins,p.1≠C)->Q (.ref D) H5->compPost (model X.prog X.w) X.A X.xe use Qf (.ref D) C (.ok .next) s6)
  (hs:∀x,foldedSetIterable iter X.env x=pure x) :
  wpAny (model X.prog X.w) X.A (comprehension (.ListComp elt [⟨tg,iter,[],0⟩] scope pos) scope X.env (firstIterPos [⟨tg,iter,[],0⟩] pos) (newList []) (firstAsync [⟨tg,iter,[],0⟩]) (firstIter [⟨tg,iter,[],0⟩] X.env) use) Qf X.xe s:=by
 refine wpAny_comprehension_free (use:=use) (g:=⟨tg,iter,[],0⟩) (gs:=[]) rfl hs hclos hkind hnl (thn (hi.h pins s σ H _ I h) fun v s1 h1=>thn h1 fun itv s2 h2=>?_)
 obtain⟨it,fp,tnn,J,H2,rfl,I2,T,st2,f2,hW⟩:=h2
 have hD:=I2.fresh
 obtain⟨W,⟨m0,w0⟩,turn⟩:=hW _ hD
 refine wpAny_newObj_type (wpAny_newFunctionEnv hcell (by intro y hy;simp at hy) (fun h₁ hns₁ hsb₁=>?_) hkind)
 dsimp only at hns₁ hsb₁ ⊢
 have I3:Inv X pins σ (upd H2 s2.heap.objs.size (.lst [])) { s2 with heap:=s2.heap.push { cls:=.type "list",dict:=none,data:=.seq ([]:List Value).toArray },toks:=s2.toks }:=I2.lnew (its:=[]) .nil (Nat.zero_le _)
 generalize hs3:({ s2 with heap:=s2.heap.push { cls:=.type "list",dict:=none,data:=.seq ([]:List Value).toArray },toks:=s2.toks }:Shared)=s3 at I3
 have es3:s3.heap=s2.heap.push { cls:=.type "list",dict:=none,data:=.seq ([]:List Value).toArray }:=by rw[<-hs3]
 generalize hDD:s2.heap.objs.size=D at *
 have kept:∀b o,s3.heap.get? b=some o->h₁.get? b=some o:=fun b o e=>by
  have lt:=Heap.lt_size e
  rw[es3]at lt e
  exact hsb₁.extBut b o (Nat.ne_of_lt lt) (Heap.get?_push_of_some _ e)
 have old:∀b o,s2.heap.get? b=some o->s3.heap.get? b=some o:=fun b o e=>by rw[es3];exact Heap.get?_push_of_some _ e
 have ltD:∀b∈fp,b<D:=fun b hb=>by
  obtain⟨o,e,_⟩:=T.obj 0 _ st2 b hb
  rw[<-hDD];exact Heap.lt_size e
 have fo:∀b∈fp,b<s3.heap.objs.size:=fun b hb=>by
  obtain⟨o,e,_⟩:=T.obj 0 _ st2 b hb
  exact Heap.lt_size (old _ _ e)
 have f3:∀b∈fp,xb X pins (upd H2 D (.lst [])) b:=fun b hb=>by
  refine⟨?_,(f2 b hb).2⟩
  rw[bu (Nat.ne_of_lt (ltD b hb))]
  exact(f2 b hb).1
 rw[<-es3]at hns₁ hsb₁ ⊢
 have Ic:=fun t'=>Inv.comp (h1:=h₁) (t':=t') (Nc:=Nc) (n:=n) I3 hc f3 fo hkind hcl hhas hcap tn hN hn hns₁ kept
 have stat:∀{H':Hp},(∀b∈fp,H' b=none)->∀b∈fp,xb (cxC X Nc scope cl s3 (upd H2 D (.lst [])) fp) [] H' b:=fun hn' b hb=>by
  refine⟨hn' b hb,Nat.ne_of_lt (fo b hb),fun z=>?_,.inl hb,fun x c e=>(f2 b hb).2.2.2.2.1 x c (hcl.look e),fun p hp=>(by simp at hp)⟩
  rcases List.mem_cons.mp (I3.stkSub b z)with q|q
  ·exact(f2 b hb).2.1 q
  ·exact(f2 b hb).2.2.1 q
 have loop:∀s4:Shared,(∃t',s4={ s3 with heap:=h₁,toks:=t' })->codeAny (model X.prog X.w) X.A (.compLoop (.ListComp elt [⟨tg,iter,[],0⟩] scope pos) 0 (.ref it) (.ref D) (compEnvC scope cl s3.heap.objs.size X.env))
   (compPost (model X.prog X.w) X.A X.xe use Qf (.ref D) s3.heap.objs.size) s4:=by
  rintro s4 ⟨t',rfl⟩
  refine sL (fun n' s'=>∃i σ' H',Inv (cxC X Nc scope cl s3 (upd H2 D (.lst [])) fp) [] σ' H' s'/\tnn i s'.heap/\(∀b∈fp,H' b=none)/\W i n' σ' H') ?_ m0
   ⟨0,_,_,Ic t',T.keep 0 _ _ st2 fun b hb o e=>kept _ _ (old _ _ e),fun b hb=>(f3 b hb).1,w0⟩
  rintro n' s5 ⟨i,σ5,H5,I5,st5,fr5,w5⟩
  rcases turn i n' σ5 H5 w5 with⟨stop,qn⟩|⟨go,N,hN',step⟩
  ·refine thn (T.done (cxC X Nc scope cl s3 (upd H2 D (.lst [])) fp) rfl rfl rfl hc i [] s5 σ5 H5 (fun _ _=>False) I5 (stat fr5) st5 stop) fun r s6 ⟨hr,I6⟩=>?_
   subst hr
   obtain⟨m,hm,_⟩:=I6.loc
   have I7:Inv X pins σ H5 s6:=Inv.call' (ch:=fp) I3 I6.os I6.base I6.hok I6.bare fun b hb=>⟨(f2 b hb).2.2.2.1,(f2 b hb).2.1,(f2 b hb).2.2.2.2.1,(f2 b hb).2.2.2.2.2⟩
   exact hend D _ s6 H5 m I7 hm I6.free (Ne.symm (Nat.ne_of_lt I3.lt)) I3.sz (fun x c e=>by
     obtain⟨v',o,ho,_⟩:=I3.cell x c e
     exact Nat.ne_of_lt (Heap.lt_size ho)) (fun p hp=>Nat.ne_of_lt (Heap.lt_size (I3.pin p hp).1)) qn
  ·refine thn (T.item (cxC X Nc scope cl s3 (upd H2 D (.lst [])) fp) rfl rfl rfl hc i [] s5 σ5 H5 (fun _ _=>False) I5 (stat fr5) st5 go) fun r s6 ⟨u,hr,h6⟩=>?_
   subst hr
   refine thn h6 fun _ s7 hz=>?_
   obtain⟨x,H7,I7,r7,y7,st7,fr7⟩:=hz
   have I7':=I7.pinned (stat fr7) (T.obj _ _ st7)
   refine thn ((hg s3 (upd H2 D (.lst [])) fp).h _ s7 σ5 H7 x u _ I7' r7 (step x H7 y7)) fun _ s8 hz=>?_
   obtain⟨σ8,H8,I8,q8⟩:=hz
   refine thn ((he s3 (upd H2 D (.lst [])) fp).h _ s8 σ8 H8 _ I8 q8) fun v9 s9 hz=>?_
   obtain⟨x9,H9,I9,r9,ys,hy,hlt,q9⟩:=hz
   refine thn (nG (X:=cxC X Nc scope cl s3 (upd H2 D (.lst [])) fp) _ s9 σ8 H9 (.ref D) [x9] (.ref D) [v9] (fun _ H'=>N σ8 H') I9 rfl (.cons r9 .nil) ⟨D,ys,x9,rfl,rfl,hy,hlt,q9⟩) fun _ s10 hz=>?_
   obtain⟨_,H10,I10,_,q10⟩:=hz
   obtain⟨m',hm,w10⟩:=hN' σ8 H10 q10
   refine⟨m',hm,i+1,σ8,H10,I10.unpinned,T.keep _ _ _ st7 fun b hb o e=>(I10.pin (b,o) (List.mem_append_right _ (List.mem_append_right _ (fV hb e)))).1,fun b hb=>?_,w10⟩
   obtain⟨o,e,d⟩:=T.obj _ _ st7 b hb
   exact(I10.pin (b,o) (List.mem_append_right _ (List.mem_append_right _ (fV hb e)))).2.1
 have e4:∀t',({ s2 with heap:=h₁,toks:=t' }:Shared)={ s3 with heap:=h₁,toks:=t' }:=fun t'=>by rw[<-hs3]
 refine codeAny_compStart_list (loop _ ⟨_,e4 _⟩) (T.self _ 0 _ _ _ (T.keep 0 _ _ st2 fun b hb o e=>kept _ _ (old _ _ e)) (loop _ ⟨_,e4 _⟩))
theorem AU{X:Cx}{Nc capN tn:List Str}{scope:Scope}{cl:List (Str×Addr)}{n:Nat}{caps:List Nat}{tg iter elt:Expr}{pos:Pos}{wi:TI}{g:TG}{te:TE}
  (hc:X.calm=true) (hi:WI X tg iter wi) (hg:∀s3 H3 fp,WG (cxC X Nc scope cl s3 H3 fp) tg g) (he:∀s3 H3 fp,WE (cxC X Nc scope cl s3 H3 fp) elt te)
  (hclos:closureFor scope X.env=pure cl) (hkind:scope.kind=.function) (hnl:∀x∈scope.names,x.2=.local->scope.names.lookup x.1=some .local) (hcell:∀x∈scope.names,x.2≠.cell)
  (hcl:vN X.env cl) (hhas:((relabel scope X.env).names.all fun p=>!(p.2 == .cell||p.2 == .free)||(cl.lookup p.1).isSome)=true)
  (hcap:Paired (Cap X scope cl) caps capN) (hN:Nc=tn++capN) (hn:tn.length=n)
  (hs:∀x,foldedSetIterable iter X.env x=pure x:=by intro _;rfl) :
  WE X (.ListComp elt [⟨tg,iter,[],0⟩] scope pos) (Ew wi g te n caps):=by
 constructor
 intro pins s σ H Q I h
 rw[eval_ListComp]
 refine Cr hc hi hg he hclos hkind hnl hcell hcl hhas hcap hN hn I h (fun D C s6 H5 m I7 hm fr nl sz cn pn qn=>⟨m,hm,fun h' hs'=>?_⟩) hs
 exact⟨.ref D,H5,I7.turned (t':=s6.toks) (it:=C) (fun b o hb e=>hs'.extBut b o hb e) fr nl (.inr sz) cn pn,rfl,qn⟩
section
variable{X:Cx}
theorem xM:∀{bs:List Bool} {us:List Value} {i:Nat} {v:Value},bW (bs.map V.bl) us->us[i]?=some v->∃b,bs[i]?=some b/\v=.bool b
 |[],_,_,_,r,e=>by cases r;simp at e
 |b::bs,_,0,_,.cons r _,e=>by
  have r':_=Value.bool b:=r
  simp at e;subst e;exact⟨b,by simp,r'⟩
 |b::bs,_,i+1,v,.cons _ t,e=>by
  obtain⟨b',e1,e2⟩:=xM (i:=i) (v:=v) t (by simpa using e)
  exact⟨b',by simpa using e1,e2⟩
theorem Cy(bs:List Bool):(List.range bs.length).all (fun i=>(bs[i]?).getD true)=bs.all id:=by
 rw[Bool.eq_iff_iff,List.all_eq_true,List.all_eq_true]
 constructor
 ·intro h b hb
  obtain⟨i,hi,e⟩:=List.mem_iff_getElem.mp hb
  have:=h i (List.mem_range.mpr hi)
  rw[List.getElem?_eq_getElem hi,Option.getD_some,e]at this
  exact this
 ·intro h i hi
  have hi':=List.mem_range.mp hi
  have:=h _ (List.getElem_mem hi')
  rw[List.getElem?_eq_getElem hi',Option.getD_some]
  exact this
theorem Fo{h:Heap}{b:Addr}{o:Obj}(e:h.get? b=some o):¬b∈[h.objs.size]:=fun z=>by
 have z':b=h.objs.size:=by simpa using z
 exact absurd (Heap.lt_size e) (by rw[z'];exact Nat.lt_irrefl _)
theorem vF(hc:X.calm=true):gQ X (.builtin "all") (fun xs H Q=>∃(p:Addr) (bs:List Bool),xs=[.ref p]/\SqL X.K H p (bs.map V.bl)/\Q (.bl (bs.all id)) H):=by
 intro pins s σ H xs us Q I r h
 obtain⟨p,bs,rfl,hq,q⟩:=h
 obtain⟨u,rfl,rx⟩:=m7 r
 cases rx
 obtain⟨its,rv,pl,hz⟩:=I.list hq
 have gK:=rv.length
 rw[List.length_map]at gK
 refine call_all_walk (wpAny_pyIter_list pl.isList ?_)
 have lt:p<s.heap.objs.size:=by obtain⟨o,e,_⟩:=pl.isList;exact Heap.lt_size e
 refine⟨s.heap.objs.size,_,_,_,_,_,fun i=>(bs[i]?).getD true,rfl,Walks.list (show X.A.in1.handled=none from I.ok.hd hc) s.heap.objs.size p (Nat.ne_of_lt lt) its.toArray,⟨⟨_,Heap.get?_push_size _ rfl,rfl,rfl⟩,pl.isList.at fun o e=>Heap.get?_push_of_some _ e⟩,?_,fun h' tk hk=>?_⟩
 ·intro i v s' Q' E' hP hQ
  have hP':its.toArray[i]?=some v:=hP
  obtain⟨b,e1,e2⟩:=xM rv (by simpa using hP')
  subst e2
  dsimp only at hQ
  rw[e1,Option.getD_some]at hQ
  exact wpAny_truthy_bool hQ
 ·have e:(List.range its.toArray.size).all (fun i=>(bs[i]?).getD true)=bs.all id:=by
   rw[List.size_toArray,<-gK];exact Cy bs
  rw[e]
  exact⟨.bl (bs.all id),H,I.kept fun b o e=>hk b o (Fo e) (Heap.get?_push_of_some _ e),rfl,q⟩
end
open PySem.AutoSeq1 (wpAny_loadPart')
theorem Ct{prog:Program}{w:World}{A:Around}{E:Value->Shared->Prop}{s:Shared}{t b:Addr}{vs ws:List Value}{Q:Value->Shared->Prop}(ht:IsTup s.heap t vs.toArray)(hb:IsTup s.heap b ws.toArray)(hv:vs=[])
  (h1:Q (.ref b) s):wpAny (model prog w) A (binaryOp .Add (.ref t) (.ref b)) Q E s:=by
 obtain⟨⟨cls,dd,data,sl⟩,ho,hc,n,hd⟩:=id ht
 obtain⟨⟨cls2,dd2,data2,sl2⟩,ho2,hc2,n2,hd2⟩:=id hb
 simp only at hc hd hc2 hd2
 subst hc hd hc2 hd2
 exact concat_meets ⟨_,ho,rfl⟩ ⟨_,ho2,rfl⟩ noFill_tuple_add seq_tuple_add PySem.F.slot_tuple_add PySem.F.entry_tuple_add (PySem.F.args_tuple_add_2 _ _)
   (tuple_addW0 t b vs.toArray ws.toArray n n2 dd dd2 sl sl2 (by simp[hv])) ⟨ho,ho2,h1⟩
structure MS(H:Hp)(p xs:Addr):Prop where
 ex:∃(ns:List Int) (at' cur:Int),H p=some (.lst [.ref xs,.int at',.int cur])/\H xs=some (.lst (ns.map V.int))/\xs≠p/\0<=at'/\0<=cur
def C5(K:PySem.W.Frag):Sp:=fun vs H Q _=>∃(a:Addr) (ns:List Int),vs=[.ref a]/\SqL K H a (ns.map V.int)/\∀(q xs:Addr) (H':Hp),qY H H'->MS H' q xs->H q=none->Q (.ref q) H'
theorem yW{m:Int}(h0:0<=m)(h:m<2^60):m.natAbs.log2<9000:=by
 have:=wj (n:=m.natAbs) (by omega)
 omega
end OG
namespace OP
open PySem PySem.Spec PyProof.Rows L2 OG
inductive U where
 |non|bl (b:Bool)|int (i:Int)|str (x:Str)|tup (us:List U)|ref (l:Nat)|kl (ns:List Int)
structure Cl where
 C:Addr
 ns:List Str
inductive O where
 |lst (us:List U)|dic (kvs:List (Key×U))|ins (c:Cl) (fs:List (Option U))|fdc (ep:Nat) (kvs:List (Key×U))|dit (kvs:List (List Key×U))|fdt (ep:Nat) (kvs:List (List Key×U))
abbrev Sto:=List O
abbrev Rho:=List (Option U)
def KL(K:PySem.W.Frag)(H:Hp)(a:Addr)(ns:List Int):Prop:=
 (∃o,H a=some (.frz o (.lst (ns.map V.int))))\/
  ∃(o:Obj) (its:Array Value) (n:Nat),K.lookup a=some o/\o.cls=.type "list"/\o.dict=none/\o.data=.seq its n/\its.size<=sizeLine/\bW (ns.map V.int) its.toList
theorem KL.sq{K:PySem.W.Frag}{H:Hp}{a:Addr}{ns:List Int}(h:KL K H a ns):SqL K H a (ns.map V.int):=by
 rcases h with h|h
 ·exact .inl (.inr h)
 ·exact .inr h
mutual
def Is(K:PySem.W.Frag)(m:List Addr)(H:Hp):V->U->Prop
 |v,.non=>v=.non
 |v,.bl b=>v=.bl b
 |v,.int i=>v=.int i
 |v,.str x=>v=.str x
 |v,.tup us=>∃a xs,v=.ref a/\SqT K H a xs/\IsL K m H xs us
 |v,.ref l=>∃a,m[l]?=some a/\v=.ref a
 |v,.kl ns=>∃a,v=.ref a/\KL K H a ns
def IsL(K:PySem.W.Frag)(m:List Addr)(H:Hp):List V->List U->Prop
 |xs,[]=>xs=[]
 |xs,u::us=>∃x r,xs=x::r/\Is K m H x u/\IsL K m H r us
end
structure AE(K:PySem.W.Frag)(H H':Hp):Prop where
 t:∀a xs,SqT K H a xs->SqT K H' a xs
 l:∀a ns,KL K H a ns->KL K H' a ns
structure Ext(K:PySem.W.Frag)(m:List Addr)(H:Hp)(m':List Addr)(H':Hp):Prop where
 pre:∃t,m'=m++t
 keep:AE K H H'
section
variable{K:PySem.W.Frag}{m m' m'':List Addr}{H H' H'':Hp}{v x:V}{u:U}{xs ys:List V}{us ws:List U}{a q:Addr}{o:HO}
theorem Ext.refl:Ext K m H m H:=⟨⟨[],by simp⟩,fun _ _ h=>h,fun _ _ h=>h⟩
theorem Ext.trans(a:Ext K m H m' H')(b:Ext K m' H' m'' H''):Ext K m H m'' H'':=by
 obtain⟨t,rfl⟩:=a.pre
 obtain⟨t',rfl⟩:=b.pre
 exact⟨⟨t++t',by simp⟩,fun c ys h=>b.keep.t c ys (a.keep.t c ys h),fun c ys h=>b.keep.l c ys (a.keep.l c ys h)⟩
theorem Ext.of(k:AE K H H'):Ext K m H m H':=⟨⟨[],by simp⟩,k⟩
theorem Ext.new(k:AE K H H'):Ext K m H (m++[q]) H':=⟨⟨[q],rfl⟩,k⟩
theorem Ext.get{l:Nat}(e:Ext K m H m' H')(h:m[l]?=some a):m'[l]?=some a:=by
 obtain⟨t,rfl⟩:=e.pre
 rw[List.getElem?_append_left (List.getElem?_eq_some_iff.mp h).1]
 exact h
mutual
theorem Is.mono(e:Ext K m H m' H'):∀{v:V} {u:U},Is K m H v u->Is K m' H' v u
 |v,.non,h=>by unfold Is at h ⊢;exact h
 |v,.bl b,h=>by unfold Is at h ⊢;exact h
 |v,.int i,h=>by unfold Is at h ⊢;exact h
 |v,.str x,h=>by unfold Is at h ⊢;exact h
 |v,.tup us,h=>by
  unfold Is at h ⊢
  obtain⟨a,xs,e1,k,l⟩:=h
  exact⟨a,xs,e1,e.keep.t _ _ k,IsL.mono e l⟩
 |v,.ref l,h=>by
  unfold Is at h ⊢
  obtain⟨a,k,e1⟩:=h
  exact⟨a,e.get k,e1⟩
 |v,.kl ns,h=>by
  unfold Is at h ⊢
  obtain⟨a,e1,k⟩:=h
  exact⟨a,e1,e.keep.l _ _ k⟩
theorem IsL.mono(e:Ext K m H m' H'):∀{xs:List V} {us:List U},IsL K m H xs us->IsL K m' H' xs us
 |xs,[],h=>by unfold IsL at h ⊢;exact h
 |xs,u::us,h=>by
  unfold IsL at h ⊢
  obtain⟨x,r,e1,k,l⟩:=h
  exact⟨x,r,e1,Is.mono e k,IsL.mono e l⟩
end
theorem Is.int_{i:Int}:Is K m H (.int i) (.int i):=by unfold Is;rfl
theorem Is.bl_{b:Bool}:Is K m H (.bl b) (.bl b):=by unfold Is;rfl
theorem Is.non_:Is K m H .non .non:=by unfold Is;rfl
theorem Is.str_{x:Str}:Is K m H (.str x) (.str x):=by unfold Is;rfl
theorem Is.of_int{i:Int}(h:Is K m H v (.int i)):v=.int i:=by unfold Is at h;exact h
theorem Is.of_bl{b:Bool}(h:Is K m H v (.bl b)):v=.bl b:=by unfold Is at h;exact h
theorem Is.of_non(h:Is K m H v .non):v=.non:=by unfold Is at h;exact h
theorem Is.of_str{x:Str}(h:Is K m H v (.str x)):v=.str x:=by unfold Is at h;exact h
theorem Is.of_tup(h:Is K m H v (.tup us)):∃a xs,v=.ref a/\SqT K H a xs/\IsL K m H xs us:=by unfold Is at h;exact h
theorem Is.of_ref{l:Nat}(h:Is K m H v (.ref l)):∃a,m[l]?=some a/\v=.ref a:=by unfold Is at h;exact h
theorem Is.of_kl{ns:List Int}(h:Is K m H v (.kl ns)):∃a,v=.ref a/\KL K H a ns:=by unfold Is at h;exact h
theorem Is.tup_(e:SqT K H a xs)(h:IsL K m H xs us):Is K m H (.ref a) (.tup us):=by unfold Is;exact⟨a,xs,rfl,e,h⟩
theorem Is.ref_{l:Nat}(e:m[l]?=some a):Is K m H (.ref a) (.ref l):=by unfold Is;exact⟨a,e,rfl⟩
theorem IsL.nil_:IsL K m H [] []:=by unfold IsL;rfl
theorem IsL.cons_(h:Is K m H x u)(t:IsL K m H xs us):IsL K m H (x::xs) (u::us):=by unfold IsL;exact⟨x,xs,rfl,h,t⟩
theorem IsL.of_nil(h:IsL K m H xs []):xs=[]:=by unfold IsL at h;exact h
theorem IsL.of_cons(h:IsL K m H xs (u::us)):∃x r,xs=x::r/\Is K m H x u/\IsL K m H r us:=by unfold IsL at h;exact h
theorem IsL.length:∀{xs:List V} {us:List U},IsL K m H xs us->xs.length=us.length
 |xs,[],h=>by rw[h.of_nil];rfl
 |xs,d::ds,h=>by
  obtain⟨x,r,rfl,_,t⟩:=h.of_cons
  rw[List.length_cons,List.length_cons,IsL.length t]
theorem IsL.getD:∀{xs:List V} {us:List U} {i:Nat} {u:U},IsL K m H xs us->us[i]?=some u->∃x,xs[i]?=some x/\Is K m H x u
 |xs,[],i,x,h,e=>by simp at e
 |xs,d::ds,0,x,h,e=>by
  obtain⟨y,r,rfl,k,t⟩:=h.of_cons
  simp at e;subst e;exact⟨y,by simp,k⟩
 |xs,d::ds,i+1,x,h,e=>by
  obtain⟨y,r,rfl,k,t⟩:=h.of_cons
  obtain⟨d',e1,e2⟩:=IsL.getD (i:=i) (u:=x) t (by simpa using e)
  exact⟨d',by simpa using e1,e2⟩
theorem IsL.append:∀{xs:List V} {us:List U},IsL K m H xs us->IsL K m H ys ws->IsL K m H (xs++ys) (us++ws)
 |xs,[],h,k=>by rw[h.of_nil];exact k
 |xs,d::ds,h,k=>by
  obtain⟨y,r,rfl,z,t⟩:=h.of_cons
  exact .cons_ z (IsL.append t k)
theorem IsL.set:∀{xs:List V} {us:List U} {j:Nat},IsL K m H xs us->Is K m H x u->IsL K m H (xs.set j x) (us.set j u)
 |xs,[],j,h,k=>by rw[h.of_nil];exact .nil_
 |xs,d::ds,0,h,k=>by
  obtain⟨y,r,rfl,z,t⟩:=h.of_cons
  exact .cons_ k t
 |xs,d::ds,j+1,h,k=>by
  obtain⟨y,r,rfl,z,t⟩:=h.of_cons
  exact .cons_ z (IsL.set t k)
theorem IsL.drop:∀{xs:List V} {us:List U} (n:Nat),IsL K m H xs us->IsL K m H (xs.drop n) (us.drop n)
 |xs,us,0,h=>h
 |xs,[],n+1,h=>by rw[h.of_nil];exact .nil_
 |xs,d::ds,n+1,h=>by
  obtain⟨y,r,rfl,z,t⟩:=h.of_cons
  exact IsL.drop n t
theorem IsL.take:∀{xs:List V} {us:List U} (n:Nat),IsL K m H xs us->IsL K m H (xs.take n) (us.take n)
 |xs,us,0,h=>.nil_
 |xs,[],n+1,h=>by rw[h.of_nil];exact .nil_
 |xs,d::ds,n+1,h=>by
  obtain⟨y,r,rfl,z,t⟩:=h.of_cons
  exact .cons_ z (IsL.take n t)
theorem IsL.erase:∀{xs:List V} {us:List U} (n:Nat),IsL K m H xs us->IsL K m H (xs.eraseIdx n) (us.eraseIdx n)
 |xs,[],n,h=>by rw[h.of_nil];exact .nil_
 |xs,d::ds,0,h=>by
  obtain⟨y,r,rfl,z,t⟩:=h.of_cons
  exact t
 |xs,d::ds,n+1,h=>by
  obtain⟨y,r,rfl,z,t⟩:=h.of_cons
  exact .cons_ z (IsL.erase n t)
theorem ve(h:H a=some o)(nt:∀xs,o≠.tup xs)(nf:∀ob xs,o≠.frz ob (.tup xs))(nl:∀ob xs,o≠.frz ob (.lst xs))(o':HO):AE K H (upd H a o'):=by
 refine⟨fun b xs q=>?_,fun b ns q=>?_⟩
 ·rcases q with(q|⟨ob,q⟩)|q
  ·have n:b≠a:=fun z=>by subst z;rw[q]at h;cases h;exact nt _ rfl
   exact .inl (.inl (by rw[bu n];exact q))
  ·have n:b≠a:=fun z=>by subst z;rw[q]at h;cases h;exact nf _ _ rfl
   exact .inl (.inr ⟨ob,by rw[bu n];exact q⟩)
  ·exact .inr q
 ·rcases q with⟨ob,q⟩|q
  ·have n:b≠a:=fun z=>by subst z;rw[q]at h;cases h;exact nl _ _ rfl
   exact .inl ⟨ob,by rw[bu n];exact q⟩
  ·exact .inr q
theorem gD(s:qY H H'):AE K H H':=by
 refine⟨fun b xs q=>?_,fun b ns q=>?_⟩
 ·rcases q with(q|⟨ob,q⟩)|q
  ·exact .inl (.inl (s _ _ q))
  ·exact .inl (.inr ⟨ob,s _ _ q⟩)
  ·exact .inr q
 ·rcases q with⟨ob,q⟩|q
  ·exact .inl ⟨ob,s _ _ q⟩
  ·exact .inr q
theorem cg(h:H q=none)(o':HO):AE K H (upd H q o'):=gD (dX h o')
end
def IsP{κ:Type}(K:PySem.W.Frag)(m:List Addr)(H:Hp)(kvs:List (κ×V))(kus:List (κ×U)):Prop:=kvs.map (·.1)=kus.map (·.1)/\IsL K m H (kvs.map (·.2)) (kus.map (·.2))
def Rf(K:PySem.W.Frag)(m:List Addr)(H:Hp):Option V->Option U->Prop
 |some v,some u=>Is K m H v u
 |none,none=>True
 |_,_=>False
structure InF(K:PySem.W.Frag)(m:List Addr)(H:Hp)(c:Cl)(fs:List (Str×V))(fus:List (Option U)):Prop where
 nd:c.ns.Nodup
 few:c.ns.length<1000
 knd:(fs.map (·.1)).Nodup
 sub:∀x∈fs.map (·.1),x∈c.ns
 len:fus.length=c.ns.length
 at_:∀(i:Nat) (x:Str),c.ns[i]?=some x->Rf K m H (fs.lookup x) ((fus[i]?).join)
theorem Rf.mono{K:PySem.W.Frag}{m m':List Addr}{H H':Hp}{v:Option V}{u:Option U}(e:Ext K m H m' H')(h:Rf K m H v u):Rf K m' H' v u:=by
 cases v with
 |none=>cases u with
  |none=>trivial
  |some u=>exact h.elim
 |some v=>cases u with
  |none=>exact h.elim
  |some u=>exact Is.mono e h
theorem InF.mono{K:PySem.W.Frag}{m m':List Addr}{H H':Hp}{c:Cl}{fs:List (Str×V)}{fus:List (Option U)}(e:Ext K m H m' H')(h:InF K m H c fs fus):InF K m' H' c fs fus:=⟨h.nd,h.few,h.knd,h.sub,h.len,fun i x q=>(h.at_ i x q).mono e⟩
def Ob(K:PySem.W.Frag)(m:List Addr)(H:Hp)(a:Addr):O->Prop
 |.lst us=>∃xs,H a=some (.lst xs)/\IsL K m H xs us
 |.dic kus=>∃kvs,H a=some (.dK kvs)/\IsP K m H kvs kus
 |.ins c fus=>∃dx fs,H a=some (.ins c.C dx fs)/\InF K m H c fs fus
 |.fdc ep kus=>∃ob es kvs,H a=some (.frz ob (.dK kvs))/\ob.data=.dict es ep/\IsP K m H kvs kus
 |.dit kus=>∃kvs,H a=some (.dT kvs)/\IsP K m H kvs kus
 |.fdt ep kus=>∃ob es kvs,H a=some (.frz ob (.dT kvs))/\ob.data=.dict es ep/\IsP K m H kvs kus
structure Sr(K:PySem.W.Frag)(m:List Addr)(S:Sto)(H:Hp):Prop where
 len:m.length=S.length
 nd:m.Nodup
 ob:∀(l:Nat) (a:Addr) (o:O),m[l]?=some a->S[l]?=some o->Ob K m H a o
structure Lr(K:PySem.W.Frag)(m:List Addr)(H:Hp)(ρ:Rho)(σ:L2.St):Prop where
 len:ρ.length=σ.length
 at_:∀(i:Nat) (u:U),ρ[i]?=some (some u)->∃v,σ[i]?=some (some v)/\Is K m H v u
section
variable{κ:Type}{K:PySem.W.Frag}{m m':List Addr}{H H':Hp}{S S':Sto}{ρ:Rho}{σ:L2.St}{a q:Addr}{l:Nat}{o:O}{ho:HO}{us:List U}{v:V}{u:U}{kvs:List (κ×V)}{kus:List (κ×U)}
theorem IsP.mono(e:Ext K m H m' H')(h:IsP K m H kvs kus):IsP K m' H' kvs kus:=⟨h.1,h.2.mono e⟩
theorem IsP.length(h:IsP K m H kvs kus):kvs.length=kus.length:=by have:=h.2.length;simpa using this
theorem IsP.nil_:IsP (κ:=κ) K m H [] []:=⟨rfl,.nil_⟩
theorem IsP.cons_{k:κ}(h:Is K m H v u)(t:IsP K m H kvs kus):IsP K m H ((k,v)::kvs) ((k,u)::kus):=⟨by simp[t.1],.cons_ h t.2⟩
theorem IsP.ind{P:List (κ×V)->List (κ×U)->Prop}(h0:P [] [])(h1:∀k v u kvs kus,Is K m H v u->IsP K m H kvs kus->P kvs kus->P ((k,v)::kvs) ((k,u)::kus)):∀{kvs:List (κ×V)} {kus:List (κ×U)},IsP K m H kvs kus->P kvs kus
 |[],[],_=>h0
 |[],p::r,h=>by have:=h.length;simp at this
 |p::r,[],h=>by have:=h.length;simp at this
 |(k,v)::r,(k',u)::r',h=>by
  obtain⟨e,i⟩:=h
  simp only[List.map_cons,List.cons.injEq]at e
  obtain⟨e1,e2⟩:=e
  subst e1
  obtain⟨x,t,e3,iu,it⟩:=i.of_cons
  cases e3
  exact h1 k v u r r' iu ⟨e2,it⟩ (IsP.ind h0 h1 (⟨e2,it⟩:IsP K m H r r'))
theorem Ob.mono(e:Ext K m H m' H')(h1:H' a=H a)(h:Ob K m H a o):Ob K m' H' a o:=by
 cases o with
 |lst us=>obtain⟨xs,k,i⟩:=h;exact⟨xs,h1.trans k,i.mono e⟩
 |dic kus=>obtain⟨xs,k,i⟩:=h;exact⟨xs,h1.trans k,i.mono e⟩
 |ins C fus=>obtain⟨dx,fs,k,i⟩:=h;exact⟨dx,fs,h1.trans k,i.mono e⟩
 |fdc ep kus=>obtain⟨ob,es,kvs,k,d,i⟩:=h;exact⟨ob,es,kvs,h1.trans k,d,i.mono e⟩
 |dit kus=>obtain⟨xs,k,i⟩:=h;exact⟨xs,h1.trans k,i.mono e⟩
 |fdt ep kus=>obtain⟨ob,es,kvs,k,d,i⟩:=h;exact⟨ob,es,kvs,h1.trans k,d,i.mono e⟩
theorem Ob.some(h:Ob K m H a o):∃ho,H a=some ho/\(∀xs,ho≠.tup xs)/\(∀ob xs,ho≠.frz ob (.tup xs))/\(∀ob xs,ho≠.frz ob (.lst xs)):=by
 cases o with
 |lst us=>obtain⟨xs,k,i⟩:=h;exact⟨_,k,by simp,by simp,by simp⟩
 |dic kus=>obtain⟨xs,k,i⟩:=h;exact⟨_,k,by simp,by simp,by simp⟩
 |ins C fus=>obtain⟨dx,fs,k,i⟩:=h;exact⟨_,k,by simp,by simp,by simp⟩
 |fdc ep kus=>obtain⟨ob,es,kvs,k,d,i⟩:=h;exact⟨_,k,by simp,by simp,by simp⟩
 |dit kus=>obtain⟨xs,k,i⟩:=h;exact⟨_,k,by simp,by simp,by simp⟩
 |fdt ep kus=>obtain⟨ob,es,kvs,k,d,i⟩:=h;exact⟨_,k,by simp,by simp,by simp⟩
theorem Lr.mono(e:Ext K m H m' H')(h:Lr K m H ρ σ):Lr K m' H' ρ σ:=⟨h.len,fun i u e1=>let ⟨v,e2,e3⟩:=h.at_ i u e1;⟨v,e2,e3.mono e⟩⟩
theorem Lr.set(h:Lr K m H ρ σ)(i:Nat)(hv:Is K m H v u):Lr K m H (ρ.set i (some u)) (σ.set i (some v)):=by
 refine⟨by simp[h.len],fun j w e=>?_⟩
 by_cases c:i=j
 ·subst c
  rw[List.getElem?_set_self' ]at e
  rw[List.getElem?_set_self']
  have hl:=h.len
  cases e1:ρ[i]? with
  |none=>rw[e1]at e;simp at e
  |some z=>
   rw[e1]at e
   simp at e
   subst e
   have:i < σ.length:=by rw[<-hl];exact(List.getElem?_eq_some_iff.mp e1).1
   rw[List.getElem?_eq_getElem this]
   exact⟨v,rfl,hv⟩
 ·rw[List.getElem?_set_ne c]at e
  rw[List.getElem?_set_ne c]
  exact h.at_ j w e
theorem Sr.get(r:Sr K m S H)(h:S[l]?=some o):∃a,m[l]?=some a/\Ob K m H a o:=by
 have hl:l<m.length:=by rw[r.len];exact(List.getElem?_eq_some_iff.mp h).1
 exact⟨_,List.getElem?_eq_getElem hl,r.ob _ _ _ (List.getElem?_eq_getElem hl) h⟩
theorem Sr.at_(r:Sr K m S H)(h:m[l]?=some a):∃o,S[l]?=some o/\Ob K m H a o:=by
 have hl:l<S.length:=by rw[<-r.len];exact(List.getElem?_eq_some_iff.mp h).1
 exact⟨_,List.getElem?_eq_getElem hl,r.ob _ _ _ h (List.getElem?_eq_getElem hl)⟩
theorem Sr.same(r:Sr K m S H)(s:qY H H'):Sr K m S H':=⟨r.len,r.nd,fun l a o h1 h2=>by
 have q:=r.ob l a o h1 h2
 obtain⟨ho,e,_⟩:=q.some
 exact q.mono (.of (gD s)) (by rw[s _ _ e,e])⟩
theorem Sr.new(r:Sr K m S H)(h:H q=none)(n:Ob K (m++[q]) (upd H q ho) q o):Sr K (m++[q]) (S++[o]) (upd H q ho):=by
 have hq:q∉m:=fun z=>by
  obtain⟨l,e⟩:=List.getElem?_of_mem z
  obtain⟨o,_,k⟩:=r.at_ e
  obtain⟨ho,e2,_⟩:=k.some
  rw[h]at e2;cases e2
 refine⟨by simp[r.len],?_,fun l a o' h1 h2=>?_⟩
 ·rw[List.nodup_append]
  exact⟨r.nd,by simp,fun x hx y hy z=>by simp at hy;subst hy;subst z;exact hq hx⟩
 ·by_cases c:l<m.length
  ·rw[List.getElem?_append_left c]at h1
   rw[List.getElem?_append_left (by rw[<-r.len];exact c)]at h2
   have q':=r.ob l a o' h1 h2
   obtain⟨ho',e,_⟩:=q'.some
   exact q'.mono (.new (cg h _)) (by rw[bu (cV e h)])
  ·have e:l=m.length:=by
    have:=(List.getElem?_eq_some_iff.mp h1).1
    simp at this;omega
   subst e
   rw[List.getElem?_append_right (Nat.le_refl _)]at h1
   rw[List.getElem?_append_right (by rw[r.len];exact Nat.le_refl _)]at h2
   simp[r.len]at h1 h2
   subst h1;subst h2
   exact n
theorem Sr.put(r:Sr K m S H)(h:m[l]?=some a)(n:Ob K m (upd H a ho) a o):Sr K m (S.set l o) (upd H a ho):=by
 obtain⟨o0,h0,k0⟩:=r.at_ h
 obtain⟨ho',e,nt,nf,nl⟩:=k0.some
 refine⟨by simp[r.len],r.nd,fun l' a' o' h1 h2=>?_⟩
 by_cases c:l=l'
 ·subst c
  rw[h]at h1;cases h1
  rw[List.getElem?_set_self (List.getElem?_eq_some_iff.mp h0).1]at h2
  cases h2
  exact n
 ·rw[List.getElem?_set_ne c]at h2
  have na:a'≠a:=fun z=>by
   subst z
   obtain⟨p1,e1⟩:=List.getElem?_eq_some_iff.mp h
   obtain⟨p2,e2⟩:=List.getElem?_eq_some_iff.mp h1
   exact c ((List.getElem_inj r.nd).mp (e1.trans e2.symm))
  exact(r.ob l' a' o' h1 h2).mono (.of (ve e nt nf nl _)) (by rw[bu na])
theorem Sr.keep(r:Sr K m S H)(h:m[l]?=some a)(ho:HO):AE K H (upd H a ho):=by
 obtain⟨o0,h0,k0⟩:=r.at_ h
 obtain⟨ho',e,nt,nf,nl⟩:=k0.some
 exact ve e nt nf nl _
end
def lZ(K:PySem.W.Frag)(m:List Addr)(H:Hp)(Q:VK)(u:U)(S':Sto):Prop:=∀m' v H',Ext K m H m' H'->Sr K m' S' H'->Is K m' H' v u->Q v H'
abbrev CE:=Rho->Sto->Option (U×Sto)
abbrev CT:=Rho->Sto->Option (Bool×Sto)
abbrev CA:=Rho->Sto->Option (List U×Sto)
inductive Out where
 |nx|rt (u:U)|bk|ct
abbrev CS:=Rho->Sto->Option (Out×Rho×Sto)
def Cz(K:PySem.W.Frag)(m:List Addr)(H:Hp)(Q:Bool->Hp->Prop)(b:Bool)(S':Sto):Prop:=∀m' H',Ext K m H m' H'->Sr K m' S' H'->Q b H'
def Mi(K:PySem.W.Frag)(m:List Addr)(H:Hp)(Q:List V->Hp->Prop)(us:List U)(S':Sto):Prop:=∀m' vs H',Ext K m H m' H'->Sr K m' S' H'->IsL K m' H' vs us->Q vs H'
def jh(K:PySem.W.Frag)(m:List Addr)(H:Hp)(Q:L2.St->Hp->Prop)(ρ':Rho)(S':Sto):Prop:=∀m' σ' H',Ext K m H m' H'->Sr K m' S' H'->Lr K m' H' ρ' σ'->Q σ' H'
def wY(K:PySem.W.Frag)(m:List Addr)(H:Hp)(D:xc):Out->Rho->Sto->Prop
 |.nx,ρ',S'=>jh K m H D.nx ρ' S'
 |.bk,ρ',S'=>jh K m H D.bk ρ' S'
 |.ct,ρ',S'=>jh K m H D.ct ρ' S'
 |.rt u,_,S'=>lZ K m H D.rt u S'
theorem mC{α β γ δ ε:Type}{A B C D:α->β->γ->δ->ε->Prop}{p:Prop}(h:∃a b c d e,A a b c d e/\B a b c d e/\C a b c d e/\D a b c d e)(f:∀a b c d e,A a b c d e->B a b c d e->C a b c d e->D a b c d e->p):p:=by
 obtain⟨a,b,c,d,e,h1,h2,h3,h4⟩:=h
 exact f a b c d e h1 h2 h3 h4
theorem wK{α β γ δ ε ζ:Type}{A B C D:α->β->γ->δ->ε->ζ->Prop}{p:Prop}(h:∃a b c d e g,A a b c d e g/\B a b c d e g/\C a b c d e g/\D a b c d e g)(f:∀a b c d e g,A a b c d e g->B a b c d e g->C a b c d e g->D a b c d e g->p):p:=by
 obtain⟨a,b,c,d,e,g,h1,h2,h3,h4⟩:=h
 exact f a b c d e g h1 h2 h3 h4
theorem L8{α β γ δ ε ζ:Type}{A B C D E:α->β->γ->δ->ε->ζ->Prop}{p:Prop}(h:∃a b c d e g,A a b c d e g/\B a b c d e g/\C a b c d e g/\D a b c d e g/\E a b c d e g)(f:∀a b c d e g,A a b c d e g->B a b c d e g->C a b c d e g->D a b c d e g->E a b c d e g->p):p:=by
 obtain⟨a,b,c,d,e,g,h1,h2,h3,h4,h5⟩:=h
 exact f a b c d e g h1 h2 h3 h4 h5
def tE(K:PySem.W.Frag)(c:CE):TE:=fun σ H Q=>∃m ρ S u S',Sr K m S H/\Lr K m H ρ σ/\c ρ S=some (u,S')/\lZ K m H Q u S'
def tT(K:PySem.W.Frag)(c:CT):TT:=fun σ H Q=>∃m ρ S u S',Sr K m S H/\Lr K m H ρ σ/\c ρ S=some (u,S')/\Cz K m H Q u S'
def tA(K:PySem.W.Frag)(c:CA):TA:=fun σ H Q=>∃m ρ S u S',Sr K m S H/\Lr K m H ρ σ/\c ρ S=some (u,S')/\Mi K m H Q u S'
def tS(K:PySem.W.Frag)(c:CS):TS:=fun D σ H=>∃m ρ S o ρ' S',Sr K m S H/\Lr K m H ρ σ/\c ρ S=some (o,ρ',S')/\wY K m H D o ρ' S'
abbrev QE(X:Cx)(e:Expr)(c:CE):Prop:=WE X e (tE X.K c)
abbrev QT(X:Cx)(e:Expr)(c:CT):Prop:=WT X e (tT X.K c)
abbrev QW(X:Cx)(e:Expr)(c:CT):Prop:=WW X e (tT X.K c)
abbrev QS(X:Cx)(e:Stmt)(c:CS):Prop:=WS X e (tS X.K c)
abbrev QSs(X:Cx)(e:List Stmt)(c:CS):Prop:=WSs X e (tS X.K c)
structure QA(X:Cx)(es:List Expr)(c:CA):Prop where
 h:WA X es (tA X.K c)
 len:∀ρ S us S',c ρ S=some (us,S')->us.length=es.length
section
variable{X:Cx}{e:Expr}{es:List Expr}{st:Stmt}{sts:List Stmt}
theorem _root_.OG.WE.imp{t t':TE}(h:WE X e t)(i:∀σ H Q,t' σ H Q->t σ H Q):WE X e t':=⟨fun pins s σ H Q I k=>h.h pins s σ H Q I (i σ H Q k)⟩
theorem _root_.OG.WT.imp{t t':TT}(h:WT X e t)(i:∀σ H Q,t' σ H Q->t σ H Q):WT X e t':=⟨fun pins s σ H Q I k=>h.h pins s σ H Q I (i σ H Q k)⟩
theorem _root_.OG.WW.imp{t t':TT}(h:WW X e t)(i:∀σ H Q,t' σ H Q->t σ H Q):WW X e t':=⟨fun wh pins s σ H Q I k=>h.h wh pins s σ H Q I (i σ H Q k)⟩
theorem _root_.OG.WA.imp{t t':TA}(h:WA X es t)(i:∀σ H Q,t' σ H Q->t σ H Q):WA X es t':=⟨fun pos pins s σ H Q I k=>h.h pos pins s σ H Q I (i σ H Q k)⟩
theorem _root_.OG.WS.imp{t t':TS}(h:WS X st t)(i:∀D σ H,t' D σ H->t D σ H):WS X st t':=⟨fun pins s σ H D I k=>h.h pins s σ H D I (i D σ H k)⟩
theorem _root_.OG.WSs.imp{t t':TS}(h:WSs X sts t)(i:∀D σ H,t' D σ H->t D σ H):WSs X sts t':=⟨fun pins s σ H D I k=>h.h pins s σ H D I (i D σ H k)⟩
theorem _root_.OG.WI.imp{tg:Expr}{t t':TI}(h:WI X tg e t)(i:∀σ H R,t' σ H R->t σ H R):WI X tg e t':=⟨fun pins s σ H R I k=>h.h pins s σ H R I (i σ H R k)⟩
theorem _root_.OG.WG.imp{t t':TG}(h:WG X e t)(i:∀v σ H Q,t' v σ H Q->t v σ H Q):WG X e t':=⟨fun pins s σ H v u Q I r k=>h.h pins s σ H v u Q I r (i v σ H Q k)⟩
theorem _root_.OG.WGs.imp{t t':TGs}(h:WGs X es t)(i:∀v σ H Q,t' v σ H Q->t v σ H Q):WGs X es t':=⟨fun pins s σ H v u Q I r k=>h.h pins s σ H v u Q I r (i v σ H Q k)⟩
theorem _root_.OG.WE.or{t t':TE}(h:WE X e t)(h':WE X e t'):WE X e (fun σ H Q=>t σ H Q\/t' σ H Q):=⟨fun pins s σ H Q I k=>k.elim (h.h pins s σ H Q I) (h'.h pins s σ H Q I)⟩
theorem _root_.OG.WT.or{t t':TT}(h:WT X e t)(h':WT X e t'):WT X e (fun σ H Q=>t σ H Q\/t' σ H Q):=⟨fun pins s σ H Q I k=>k.elim (h.h pins s σ H Q I) (h'.h pins s σ H Q I)⟩
theorem _root_.OG.WS.or{t t':TS}(h:WS X st t)(h':WS X st t'):WS X st (fun D σ H=>t D σ H\/t' D σ H):=⟨fun pins s σ H D I k=>k.elim (h.h pins s σ H D I) (h'.h pins s σ H D I)⟩
theorem _root_.OG.WI.or{tg:Expr}{t t':TI}(h:WI X tg e t)(h':WI X tg e t'):WI X tg e (fun σ H D=>t σ H D\/t' σ H D):=⟨fun pins s σ H D I k=>k.elim (h.h pins s σ H D I) (h'.h pins s σ H D I)⟩
end
section
variable{K:PySem.W.Frag}{m m':List Addr}{H H':Hp}{Q:VK}{R:L2.St->Hp->Prop}{D:xc}{u:U}{o:Out}{S':Sto}{ρ':Rho}
theorem lZ.mono(e:Ext K m H m' H')(p:lZ K m H Q u S'):lZ K m' H' Q u S':=fun m2 v H2 e2 r i=>p m2 v H2 (e.trans e2) r i
theorem Cz.mono{Q:Bool->Hp->Prop}{b:Bool}(e:Ext K m H m' H')(p:Cz K m H Q b S'):Cz K m' H' Q b S':=fun m2 H2 e2 r=>p m2 H2 (e.trans e2) r
theorem jh.mono(e:Ext K m H m' H')(p:jh K m H R ρ' S'):jh K m' H' R ρ' S':=fun m2 v H2 e2 r i=>p m2 v H2 (e.trans e2) r i
theorem wY.mono(e:Ext K m H m' H')(p:wY K m H D o ρ' S'):wY K m' H' D o ρ' S':=by
 cases o with
 |nx=>exact jh.mono e p
 |rt u=>exact lZ.mono e p
 |bk=>exact jh.mono e p
 |ct=>exact jh.mono e p
end
def LIM:Nat:=100000
theorem lim{n:Nat}(h:n<=LIM):n<=sizeLine:=Nat.le_trans h (by unfold LIM sizeLine;decide)
theorem Jj{n:Nat}(h:n<LIM):n<sizeLine:=Nat.lt_of_lt_of_le h (by unfold LIM sizeLine;decide)
def ah(i:Nat):CE:=fun ρ S=>match ρ[i]? with
 |some (some u)=>some (u,S)
 |_=>none
def cC(u:U):CE:=fun _ S=>some (u,S)
section
variable{X:Cx}{e a b c:Expr}{ca cb cc:CE}{pos:Pos}
theorem af{i:Nat}(h:WE X e (J6 i)):QE X e (ah i):=h.imp fun σ H Q hz=>mC hz fun m ρ S u S' sr lr hc post=>by
 unfold ah at hc
 split at hc
 ·rename_i u' e
  cases hc
  obtain⟨v,e1,e2⟩:=lr.at_ i u e
  exact⟨v,e1,post m v H .refl sr e2⟩
 ·cases hc
theorem q_c{v:V}{u:U}(h:WE X e (tC v))(hi:∀m H,Is X.K m H v u):QE X e (cC u):=h.imp fun σ H Q hz=>mC hz fun m ρ S u' S' sr lr hc post=>by
 cases hc
 exact post m v H .refl sr (hi m H)
theorem aD{i:Int}(h:WE X e (tC (.int i))):QE X e (cC (.int i)):=q_c h fun _ _=>.int_
theorem nA{i:Bool}(h:WE X e (tC (.bl i))):QE X e (cC (.bl i)):=q_c h fun _ _=>.bl_
theorem dF{i:Str}(h:WE X e (tC (.str i))):QE X e (cC (.str i)):=q_c h fun _ _=>.str_
def cOp(f:U->U->Sto->Option (U×Sto))(ca cb:CE):CE:=fun ρ S=>(ca ρ S).bind fun p=>(cb ρ p.2).bind fun q=>f p.1 q.1 q.2
def OpP(K:PySem.W.Frag)(r:R2)(f:U->U->Sto->Option (U×Sto)):Prop:=
 ∀m S H x y v w u S' Q,Sr K m S H->Is K m H v x->Is K m H w y->f x y S=some (u,S')->lZ K m H Q u S'->r v w H Q
theorem yF{K:PySem.W.Frag}{r:R2}{f:U->U->Sto->Option (U×Sto)}(hp:OpP K r f):∀σ H Q,tE K (cOp f ca cb) σ H Q->tOp r (tE K ca) (tE K cb) σ H Q:=by
 rintro σ H Q ⟨m,ρ,S,u,S',sr,lr,hc,post⟩
 obtain⟨⟨x,S1⟩,h1,h⟩:=Option.bind_eq_some_iff.mp hc
 obtain⟨⟨y,S2⟩,h2,h3⟩:=Option.bind_eq_some_iff.mp h
 exact⟨m,ρ,S,x,S1,sr,lr,h1,fun m1 v1 H1 e1 sr1 i1=>⟨m1,ρ,S1,y,S2,sr1,lr.mono e1,h2,fun m2 v2 H2 e2 sr2 i2=>hp m2 S2 H2 x y v1 v2 u S' Q sr2 (i1.mono e2) i2 h3 (post.mono (e1.trans e2))⟩⟩
theorem gM{op:Operator}{r:R2}{f:U->U->Sto->Option (U×Sto)}(ho:OpR X (binaryOp op) r)(hp:OpP X.K r f)(ha:QE X a ca)(hb:QE X b cb):QE X (.BinOp a op b pos) (cOp f ca cb):=(HF ho ha hb).imp (yF hp)
theorem Be{op:CmpOp}{r:R2}{f:U->U->Sto->Option (U×Sto)}(ho:OpR X (compareOp op) r)(hp:OpP X.K r f)(ha:QE X a ca)(hb:QE X b cb)(hm:behindInMarks op b=false):QE X (.Compare a [op] [b] pos) (cOp f ca cb):=(pJ ho ha hb hm).imp (yF hp)
def aI(c:CE):CT:=fun ρ S=>(c ρ S).bind fun p=>match p.1 with
 |.bl b=>some (b,p.2)
 |_=>none
theorem mP{K:PySem.W.Frag}{c:CE}{t:TE}(h:∀σ H Q,tE K c σ H Q->t σ H Q):∀σ H Q,tT K (aI c) σ H Q->t σ H fun x H'=>∃k,x=.bl k/\Q k H':=by
 rintro σ H Q ⟨m,ρ,S,u,S',sr,lr,hc,post⟩
 obtain⟨⟨x,S1⟩,h1,h2⟩:=Option.bind_eq_some_iff.mp hc
 refine h σ H _ ⟨m,ρ,S,x,S1,sr,lr,h1,fun m1 v1 H1 e1 sr1 i1=>?_⟩
 cases x<;>simp at h2
 obtain⟨rfl,rfl⟩:=h2
 exact⟨_,i1.of_bl,post m1 H1 e1 sr1⟩
theorem bD{op:CmpOp}{r:R2}{f:U->U->Sto->Option (U×Sto)}(ho:OpR X (compareOp op) r)(hp:OpP X.K r f)(ha:QE X a ca)(hb:QE X b cb)(hm:behindInMarks op b=false):QT X (.Compare a [op] [b] pos) (aI (cOp f ca cb)):=(pI ho ha hb hm).imp (mP (yF hp))
theorem jb(h:QE X e ca)(he:∀whole,isTrue e X.env whole=(do let v <-whole;standAt e.pos;holding [v] (truthy v)):=by intro _;rfl):QT X e (aI ca):=(Ee h he).imp (mP fun _ _ _ z=>z)
variable{ta tb:CT}{rest:List Expr}
def Ge(ta tb:CT):CT:=fun ρ S=>(ta ρ S).bind fun p=>if p.1=true then tb ρ p.2 else some (false,p.2)
def cOr(ta tb:CT):CT:=fun ρ S=>(ta ρ S).bind fun p=>if p.1=true then some (true,p.2)else tb ρ p.2
def z9(ta:CT):CT:=fun ρ S=>(ta ρ S).bind fun p=>some (!p.1,p.2)
theorem yi(h:QW X e ta):QT X e ta:=WW.pt h
theorem yo(ha:QT X a ta):QW X (.BoolOp .And [a] pos) ta:=AK ha
theorem rM(ha:QT X a ta):QW X (.BoolOp .Or [a] pos) ta:=Ec ha
theorem EJ(ha:QT X a ta)(hb:QW X (.BoolOp .And (b::rest) pos) tb):QW X (.BoolOp .And (a::b::rest) pos) (Ge ta tb):=(Ed ha hb).imp fun σ H Q hz=>mC hz fun m ρ S u S' sr lr hc post=>by
 obtain⟨⟨x,S1⟩,h1,h2⟩:=Option.bind_eq_some_iff.mp hc
 refine⟨m,ρ,S,x,S1,sr,lr,h1,fun m1 H1 e1 sr1=>?_⟩
 cases x with
 |true=>exact Gz ⟨m1,ρ,S1,u,S',sr1,lr.mono e1,h2,post.mono e1⟩
 |false=>cases h2;exact GA (post m1 H1 e1 sr1)
theorem Bc(ha:QT X a ta)(hb:QW X (.BoolOp .Or (b::rest) pos) tb):QW X (.BoolOp .Or (a::b::rest) pos) (cOr ta tb):=(HB ha hb).imp fun σ H Q hz=>mC hz fun m ρ S u S' sr lr hc post=>by
 obtain⟨⟨x,S1⟩,h1,h2⟩:=Option.bind_eq_some_iff.mp hc
 refine⟨m,ρ,S,x,S1,sr,lr,h1,fun m1 H1 e1 sr1=>?_⟩
 cases x with
 |true=>cases h2;exact Gz (post m1 H1 e1 sr1)
 |false=>exact GA ⟨m1,ρ,S1,u,S',sr1,lr.mono e1,h2,post.mono e1⟩
theorem kR(ha:QT X a ta):QT X (.UnaryOp .Not a pos) (z9 ta):=(Ef ha).imp fun σ H Q hz=>mC hz fun m ρ S u S' sr lr hc post=>by
 obtain⟨⟨x,S1⟩,h1,h2⟩:=Option.bind_eq_some_iff.mp hc
 cases h2
 exact⟨m,ρ,S,x,_,sr,lr,h1,fun m1 H1 e1 sr1=>post m1 H1 e1 sr1⟩
def uk(ca cb:CE):CE:=fun ρ S=>(ca ρ S).bind fun p=>match p.1 with
 |.bl true=>cb ρ p.2
 |.bl false=>some (.bl false,p.2)
 |_=>none
def Kj(ca cb:CE):CE:=fun ρ S=>(ca ρ S).bind fun p=>match p.1 with
 |.bl false=>cb ρ p.2
 |.bl true=>some (.bl true,p.2)
 |_=>none
def Cu(ca:CE):CE:=fun ρ S=>(ca ρ S).bind fun p=>match p.1 with
 |.bl b=>some (.bl (!b),p.2)
 |_=>none
theorem yl{op}(h:QE X a ca):QE X (.BoolOp op [a] pos) ca:=Ek h
theorem uQ(ha:QE X a ca)(hb:QE X (.BoolOp .And (b::rest) pos) cb):QE X (.BoolOp .And (a::b::rest) pos) (uk ca cb):=(En ha hb).imp fun σ H Q hz=>mC hz fun m ρ S u S' sr lr hc post=>by
 obtain⟨⟨x,S1⟩,h1,h2⟩:=Option.bind_eq_some_iff.mp hc
 refine⟨m,ρ,S,x,S1,sr,lr,h1,fun m1 v1 H1 e1 sr1 i1=>?_⟩
 cases x with
 |bl k=>
  refine⟨k,i1.of_bl,?_⟩
  cases k with
  |true=>exact Gz ⟨m1,ρ,S1,u,S',sr1,lr.mono e1,h2,post.mono e1⟩
  |false=>cases h2;exact GA (post m1 _ H1 e1 sr1 .bl_)
 |_=>simp at h2
theorem Lw(ha:QE X a ca)(hb:QE X (.BoolOp .Or (b::rest) pos) cb):QE X (.BoolOp .Or (a::b::rest) pos) (Kj ca cb):=(HE ha hb).imp fun σ H Q hz=>mC hz fun m ρ S u S' sr lr hc post=>by
 obtain⟨⟨x,S1⟩,h1,h2⟩:=Option.bind_eq_some_iff.mp hc
 refine⟨m,ρ,S,x,S1,sr,lr,h1,fun m1 v1 H1 e1 sr1 i1=>?_⟩
 cases x with
 |bl k=>
  refine⟨k,i1.of_bl,?_⟩
  cases k with
  |false=>exact GA ⟨m1,ρ,S1,u,S',sr1,lr.mono e1,h2,post.mono e1⟩
  |true=>cases h2;exact Gz (post m1 _ H1 e1 sr1 .bl_)
 |_=>simp at h2
theorem Ig(ha:QE X a ca):QE X (.UnaryOp .Not a pos) (Cu ca):=(El ha).imp fun σ H Q hz=>mC hz fun m ρ S u S' sr lr hc post=>by
 obtain⟨⟨x,S1⟩,h1,h2⟩:=Option.bind_eq_some_iff.mp hc
 refine⟨m,ρ,S,x,S1,sr,lr,h1,fun m1 v1 H1 e1 sr1 i1=>?_⟩
 cases x with
 |bl k=>cases h2;exact⟨k,i1.of_bl,post m1 _ H1 e1 sr1 .bl_⟩
 |_=>simp at h2
def cIf(t:CT)(ca cb:CE):CE:=fun ρ S=>(t ρ S).bind fun p=>if p.1=true then ca ρ p.2 else cb ρ p.2
def sQ(f f':U->U->Sto->Option (U×Sto))(ca cb cc:CE):CE:=fun ρ S=>(ca ρ S).bind fun p=>(cb ρ p.2).bind fun q=>(f p.1 q.1 q.2).bind fun r=>match r.1 with
 |.bl true=>(cc ρ r.2).bind fun z=>f' q.1 z.1 z.2
 |.bl false=>some (.bl false,r.2)
 |_=>none
theorem z4{K:PySem.W.Frag}{r r':R2}{f f':U->U->Sto->Option (U×Sto)}(hp:OpP K r f)(hp':OpP K r' f'):∀σ H Q,tE K (sQ f f' ca cb cc) σ H Q->xU r r' (tE K ca) (tE K cb) (tE K cc) σ H Q:=by
 rintro σ H Q ⟨m,ρ,S,u,S',sr,lr,hc,post⟩
 obtain⟨⟨x,S1⟩,h1,h⟩:=Option.bind_eq_some_iff.mp hc
 obtain⟨⟨y,S2⟩,h2,h⟩:=Option.bind_eq_some_iff.mp h
 obtain⟨⟨z,S3⟩,h3,h4⟩:=Option.bind_eq_some_iff.mp h
 refine⟨m,ρ,S,x,S1,sr,lr,h1,fun m1 v1 H1 e1 sr1 i1=>⟨m1,ρ,S1,y,S2,sr1,lr.mono e1,h2,fun m2 v2 H2 e2 sr2 i2=>hp m2 S2 H2 x y v1 v2 z S3 _ sr2 (i1.mono e2) i2 h3 fun m3 v3 H3 e3 sr3 i3=>?_⟩⟩
 have e03:=(e1.trans e2).trans e3
 cases z with
 |bl k=>
  refine⟨k,i3.of_bl,?_⟩
  cases k with
  |true=>
   obtain⟨⟨w,S4⟩,h5,h6⟩:=Option.bind_eq_some_iff.mp h4
   exact Gz ⟨m3,ρ,S3,w,S4,sr3,lr.mono e03,h5,fun m4 v4 H4 e4 sr4 i4=>hp' m4 S4 H4 y w v2 v4 u S' Q sr4 (i2.mono (e3.trans e4)) i4 h6 (post.mono (e03.trans e4))⟩
  |false=>cases h4;exact GA (post m3 _ H3 e03 sr3 .bl_)
 |_=>simp at h4
theorem EI{op op':CmpOp}{r r':R2}{f f':U->U->Sto->Option (U×Sto)}(ho:OpR X (compareOp op) r)(hp:OpP X.K r f)(ho':OpR X (compareOp op') r')(hp':OpP X.K r' f')(ha:QE X a ca)(hb:QE X b cb)(hc:QE X c cc)
  (hm:lastMarks [op,op'] [b,c]=false:=by with_unfolding_all rfl):QE X (.Compare a [op,op'] [b,c] pos) (sQ f f' ca cb cc):=(xE ho ho' ha hb hc hm).imp (z4 hp hp')
variable{es:List Expr}{cr:CA}
def aC:CA:=fun _ S=>some ([],S)
def ab(ca:CE)(cr:CA):CA:=fun ρ S=>(ca ρ S).bind fun p=>(cr ρ p.2).bind fun q=>some (p.1::q.1,q.2)
theorem aA:QA X [] aC:=⟨kn.imp fun σ H Q hz=>mC hz fun m ρ S u S' sr lr hc post=>by cases hc;exact post m [] H .refl sr .nil_,fun ρ S us S' h=>by cases h;rfl⟩
theorem ag(ha:QE X e ca)(hr:QA X es cr)(hs:starEach (e::es) X.env=(false,eval e X.env)::starEach es X.env:=by rfl):QA X (e::es) (ab ca cr):=⟨(fq ha hr.h hs).imp fun σ H Q hz=>mC hz fun m ρ S u S' sr lr hc post=>by
 obtain⟨⟨x,S1⟩,h1,h⟩:=Option.bind_eq_some_iff.mp hc
 obtain⟨⟨y,S2⟩,h2,h3⟩:=Option.bind_eq_some_iff.mp h
 cases h3
 exact⟨m,ρ,S,x,S1,sr,lr,h1,fun m1 v1 H1 e1 sr1 i1=>⟨m1,ρ,S1,y,S2,sr1,lr.mono e1,h2,fun m2 v2 H2 e2 sr2 i2=>post m2 _ H2 (e1.trans e2) sr2 (.cons_ (i1.mono e2) i2)⟩⟩,
 fun ρ S us S' h=>by
 obtain⟨⟨x,S1⟩,h1,h⟩:=Option.bind_eq_some_iff.mp h
 obtain⟨⟨y,S2⟩,h2,h3⟩:=Option.bind_eq_some_iff.mp h
 cases h3
 simp[hr.len ρ S1 y S2 h2]⟩
def jV(cr:CA):CE:=fun ρ S=>(cr ρ S).bind fun p=>some (.tup p.1,p.2)
def iV(cr:CA):CE:=fun ρ S=>(cr ρ S).bind fun p=>some (.ref p.2.length,p.2++[.lst p.1])
theorem fu{m:List Addr}{S:Sto}{q:Addr}(h:m.length=S.length):(m++[q])[S.length]?=some q:=by rw[List.getElem?_append_right (by omega)];simp[h]
theorem p9{K:PySem.W.Frag}{m:List Addr}{H:Hp}{S:Sto}{us:List U}{xs:List V}{Q:VK}{p:Addr}(sr:Sr K m S H)(i:IsL K m H xs us)(post:lZ K m H Q (.tup us) S)(hp:H p=none):Q (.ref p) (upd H p (.tup xs)):=
 post m _ _ (.of (cg hp _)) (sr.same (dX hp _)) (.tup_ (SqT.of aJ) (i.mono (.of (cg hp _))))
theorem ft{K:PySem.W.Frag}{m:List Addr}{H:Hp}{S:Sto}{us:List U}{xs:List V}{Q:VK}{p:Addr}(sr:Sr K m S H)(i:IsL K m H xs us)(post:lZ K m H Q (.ref S.length) (S++[.lst us]))(hp:H p=none):Q (.ref p) (upd H p (.lst xs)):=
 post (m++[p]) _ _ (.new (cg hp _)) (sr.new hp ⟨xs,aJ,i.mono (.new (cg hp _))⟩) (.ref_ (fu sr.len))
theorem kx{x1}(h:QA X es cr)(hl:es.length<=1000:=by exact Nat.le_of_ble_eq_true rfl):QE X (.Tuple es x1 pos) (jV cr):=(xv h.h).imp fun σ H Q hz=>mC hz fun m ρ S u S' sr lr hc post=>by
 obtain⟨⟨us,S1⟩,h1,h2⟩:=Option.bind_eq_some_iff.mp hc
 cases h2
 refine⟨m,ρ,S,us,_,sr,lr,h1,fun m1 v1 H1 e1 sr1 i1=>⟨C6 ?_,fun p hp=>p9 sr1 i1 (post.mono e1) hp⟩⟩
 rw[i1.length,h.len _ _ _ _ h1];exact hl
theorem jd(h:QA X es cr)(hl:es.length<=1000:=by exact Nat.le_of_ble_eq_true rfl):QE X (.List es pos) (iV cr):=(xx h.h).imp fun σ H Q hz=>mC hz fun m ρ S u S' sr lr hc post=>by
 obtain⟨⟨us,S1⟩,h1,h2⟩:=Option.bind_eq_some_iff.mp hc
 cases h2
 refine⟨m,ρ,S,us,_,sr,lr,h1,fun m1 v1 H1 e1 sr1 i1=>⟨C6 ?_,fun p hp=>ft sr1 i1 (post.mono e1) hp⟩⟩
 rw[i1.length,h.len _ _ _ _ h1];exact hl
def cCB(f:List U->Sto->Option (U×Sto))(cr:CA):CE:=fun ρ S=>(cr ρ S).bind fun p=>f p.1 p.2
def oS(K:PySem.W.Frag)(r:List V->Hp->VK->Prop)(f:List U->Sto->Option (U×Sto)):Prop:=
 ∀m S H us vs u S' Q,Sr K m S H->IsL K m H vs us->f us S=some (u,S')->lZ K m H Q u S'->r vs H Q
theorem DG{K:PySem.W.Frag}{r:List V->Hp->VK->Prop}{f:List U->Sto->Option (U×Sto)}(hp:oS K r f):∀σ H Q,tE K (cCB f cr) σ H Q->tCB r (tA K cr) σ H Q:=by
 rintro σ H Q ⟨m,ρ,S,u,S',sr,lr,hc,post⟩
 obtain⟨⟨us,S1⟩,h1,h2⟩:=Option.bind_eq_some_iff.mp hc
 exact⟨m,ρ,S,us,S1,sr,lr,h1,fun m1 v1 H1 e1 sr1 i1=>hp m1 S1 H1 us v1 u S' Q sr1 i1 h2 (post.mono e1)⟩
theorem cW{id:String}{x:Str}{p:Pos}{r:List V->Hp->VK->Prop}{f:List U->Sto->Option (U×Sto)}(hc:gQ X (.builtin id) r)(hp:oS X.K r f)(hg:Gl X x)(hm:X.mg x=none)(hv:bootBuiltins x=some (.builtin id))(ha:QA X (e::es) cr)(hn:x≠"__name__":=by decide)(hdb:(x == ("__debug__":Str))=false:=by decide)(he:starEach (e::es) X.env=(false,eval e X.env)::starEach es X.env:=by rfl)(hpl:(backTo pos (starEach es X.env)).any (·.1)=false:=by rfl) :
  QE X (.Call (.Name x p) (e::es) [] pos) (cCB f cr):=(mZ hc hg hm hv ha.h hn hdb he hpl).imp (DG hp)
theorem kX{id:String}{x:Str}{p:Pos}{r:List V->Hp->VK->Prop}{f:List U->Sto->Option (U×Sto)}(hc:gQ X (.type id) r)(hp:oS X.K r f)(hg:Gl X x)(hm:X.mg x=none)(hv:bootBuiltins x=some (.type id))(ha:QA X (e::es) cr)(hn:x≠"__name__":=by decide)(hdb:(x == ("__debug__":Str))=false:=by decide)(he:starEach (e::es) X.env=(false,eval e X.env)::starEach es X.env:=by rfl)(hpl:(backTo pos (starEach es X.env)).any (·.1)=false:=by rfl) :
  QE X (.Call (.Name x p) (e::es) [] pos) (cCB f cr):=(oU hc hg hm hv ha.h hn hdb he hpl).imp (DG hp)
end
def A4(K:PySem.W.Frag)(f:List U->Sto->Option (U×Sto)):Sp:=fun vs H Q _=>∃m us S u S',IsL K m H vs us/\Sr K m S H/\f us S=some (u,S')/\lZ K m H Q u S'
abbrev Fn:=List U->Sto->Option (U×Sto)
abbrev d9(P:Program)(w:World)(K:PySem.W.Frag)(mg:Str->Option Value)(base:Heap)(x:Str)(k:Nat)(ps:List Str)(f:Fn):Prop:=Has P w K mg base x k ps (A4 K f)
def rF(n:Nat)(us:List U):Rho:=us.map some++List.replicate (n-us.length) none
def fnU(n k:Nat)(c:CS):Fn:=fun us S=>if us.length=k then(c (rF n us) S).bind fun r=>match r.1 with
 |.rt u=>some (u,r.2.2)
 |.nx=>some (.non,r.2.2)
 |_=>none else none
section
variable{P:Program}{w:World}{K:PySem.W.Frag}{mg:Str->Option Value}{base:Heap}{x:Str}{st:Stmt}{ps N:List Str}{k:Nat}{c:CS}{f:Fn}
theorem BW{m:List Addr}{H:Hp}{vs:List V}{us:List U}(i:IsL K m H vs us):Lr K m H (rF N.length us) (L2.kK N vs):=by
 have hl:=i.length
 refine⟨by simp[rF,L2.kK,hl],fun j u e=>?_⟩
 unfold rF at e
 unfold L2.kK
 by_cases c:j<us.length
 ·rw[List.getElem?_append_left (by simpa using c),List.getElem?_map]at e
  rw[List.getElem?_append_left (by simpa [hl] using c),List.getElem?_map]
  rw[List.getElem?_eq_getElem c]at e
  simp at e
  obtain⟨v,e1,e2⟩:=i.getD (List.getElem?_eq_getElem c)
  rw[e1]
  subst e
  exact⟨v,rfl,e2⟩
 ·rw[List.getElem?_append_right (by simpa using c),List.getElem?_replicate]at e
  split at e<;>cases e
theorem zw{X:Cx}{body:List Stmt}{Q:VK}{E:XK}{vs:List V}{H:Hp}(hK:X.K=K)(h:A4 K (fnU N.length ps.length c) vs H Q E):tS X.K c { nx:=fun _ H'=>Q .non H',rt:=Q } (L2.kK N vs) H:=by
 subst hK
 obtain⟨m,us,S,u,S',i,sr,hf,post⟩:=h
 unfold fnU at hf
 split at hf
 ·obtain⟨⟨o,ρ',S2⟩,h1,h2⟩:=Option.bind_eq_some_iff.mp hf
  refine⟨m,_,S,o,ρ',S2,sr,BW i,h1,?_⟩
  cases o with
  |rt v=>cases h2;exact post
  |nx=>cases h2;exact fun m1 σ1 H1 e1 sr1 _=>post m1 _ H1 e1 sr1 .non_
  |bk=>simp at h2
  |ct=>simp at h2
 ·cases hf
theorem uI{vs:List V}{H:Hp}{Q:VK}{E:XK}{n k:Nat}(h:A4 K (fnU n k c) vs H Q E):vs.length=k:=by
 obtain⟨m,us,S,u,S',i,sr,hf,post⟩:=h
 unfold fnU at hf
 split at hf
 ·rename_i e
  rw[i.length,e]
 ·cases hf
theorem _root_.OG.Def.pure(d:Def K mg x st ps)(S:aR N ps (av st))
  (hb:∀(f:Addr) (cdv:Value) (A:Around) (outer:List Env) (s:Shared) (H:Hp) (E:XK),jg k (A.deeper (envOfC x (av st) s.heap.objs.size f cdv))->
   WSs (w9 CX0 P w K mg base N x (av st) f cdv A outer s H E).nox (aL st) (tS K c)):d9 P w K mg base x (k+1) ps (fnU N.length ps.length c):=
 d.has S (fun vs H Q E h=>uI h) fun f cdv A outer s H vs Q E hr h=>⟨_,hb f cdv A outer s H E hr,zw (X:=(w9 CX0 P w K mg base N x (av st) f cdv A outer s H E).nox) (body:=[]) (ps:=ps) rfl h⟩
theorem aS{X:Cx}{e:Expr}{es:List Expr}{cr:CA}{p pos:Pos}(F:Has X.prog X.w X.K X.mg X.base x k ps (A4 X.K f))(hr:jg k X.A)(hg:Gl X x)(ha:QA X (e::es) cr)
  (hdb:(x == ("__debug__":Str))=false:=by decide) (he:starEach (e::es) X.env=(false,eval e X.env)::starEach es X.env:=by rfl) (hpl:(backTo pos (starEach es X.env)).any (·.1)=false:=by rfl) :
  QE X (.Call (.Name x p) (e::es) [] pos) (cCB f cr):=(CP F hr hg ha.h hdb he hpl).imp fun σ H Q hz=>mC hz fun m ρ S u S' sr lr hc post=>by
 obtain⟨⟨us,S1⟩,h1,h2⟩:=Option.bind_eq_some_iff.mp hc
 exact⟨m,ρ,S,us,S1,sr,lr,h1,fun m1 v1 H1 e1 sr1 i1=>⟨m1,us,S1,u,S',by simpa using i1,sr1,h2,post.mono e1⟩⟩
end
section
variable{X:Cx}{e a b c:Expr}{ca cb cc:CE}{pos:Pos}{st:Stmt}{sts:List Stmt}{c1 c2:CS}
def dJ:CS:=fun ρ S=>some (.nx,ρ,S)
def bL(c1 c2:CS):CS:=fun ρ S=>(c1 ρ S).bind fun r=>match r.1 with
 |.nx=>c2 r.2.1 r.2.2
 |o=>some (o,r.2.1,r.2.2)
theorem cD:QSs X [] dJ:=AL.imp fun D σ H hz=>wK hz fun m ρ S o ρ' S' sr lr hc post=>by cases hc;exact post m σ H .refl sr lr
theorem ay(h1:QS X st c1)(h2:QSs X sts c2):QSs X (st::sts) (bL c1 c2):=(rp h1 h2).imp fun D σ H hz=>wK hz fun m ρ S o ρ' S' sr lr hc post=>by
 obtain⟨⟨o1,ρ1,S1⟩,h1,h2⟩:=Option.bind_eq_some_iff.mp hc
 refine⟨m,ρ,S,o1,ρ1,S1,sr,lr,h1,?_⟩
 cases o1 with
 |nx=>exact fun m1 σ1 H1 e1 sr1 lr1=>⟨m1,ρ1,S1,o,ρ',S',sr1,lr1,h2,post.mono e1⟩
 |rt u=>cases h2;exact post
 |bk=>cases h2;exact post
 |ct=>cases h2;exact post
theorem aB(h1:QS X st c1):QSs X [st] c1:=uw h1
def jf(ca:CE):CS:=fun ρ S=>(ca ρ S).bind fun p=>some (.nx,ρ,p.2)
theorem fK(he:QE X e ca)(hs:swapsWith e none pos.line X.env=pure false:=by rfl):QS X (.Expr e pos) (jf ca):=(AM he hs).imp fun D σ H hz=>wK hz fun m ρ S o ρ' S' sr lr hc post=>by
 obtain⟨⟨u,S1⟩,h1,h2⟩:=Option.bind_eq_some_iff.mp hc
 cases h2
 exact⟨m,ρ,S,u,_,sr,lr,h1,fun m1 v1 H1 e1 sr1 i1=>post m1 σ H1 e1 sr1 (lr.mono e1)⟩
def fO(ca:CE):CS:=fun ρ S=>(ca ρ S).bind fun p=>some (.rt p.1,ρ,p.2)
theorem aW(he:QE X e ca):QS X (.Return (some e) pos) (fO ca):=(xo he).imp fun D σ H hz=>wK hz fun m ρ S o ρ' S' sr lr hc post=>by
 obtain⟨⟨u,S1⟩,h1,h2⟩:=Option.bind_eq_some_iff.mp hc
 cases h2
 exact⟨m,ρ,S,u,_,sr,lr,h1,post⟩
def hU(t:CT)(c1 c2:CS):CS:=fun ρ S=>(t ρ S).bind fun p=>if p.1=true then c1 ρ p.2 else c2 ρ p.2
theorem dP{t:CT}{s1 s2:List Stmt}(hc:QT X c t)(h1:QSs X s1 c1)(h2:QSs X s2 c2):QS X (.If c s1 s2 pos) (hU t c1 c2):=(HC hc h1 h2).imp fun D σ H hz=>wK hz fun m ρ S o ρ' S' sr lr hc post=>by
 obtain⟨⟨x,S1⟩,h1,h2⟩:=Option.bind_eq_some_iff.mp hc
 refine⟨m,ρ,S,x,S1,sr,lr,h1,fun m1 H1 e1 sr1=>?_⟩
 cases x with
 |true=>exact Gz ⟨m1,ρ,S1,o,ρ',S',sr1,lr.mono e1,h2,post.mono e1⟩
 |false=>exact GA ⟨m1,ρ,S1,o,ρ',S',sr1,lr.mono e1,h2,post.mono e1⟩
abbrev CG:=U->Rho->Sto->Option (Rho×Sto)
def tG(K:PySem.W.Frag)(g:CG):TG:=fun v σ H Q=>∃m ρ S u ρ' S',Sr K m S H/\Lr K m H ρ σ/\Is K m H v u/\g u ρ S=some (ρ',S')/\jh K m H Q ρ' S'
abbrev QG(X:Cx)(e:Expr)(g:CG):Prop:=WG X e (tG X.K g)
def gNm(i:Nat):CG:=fun u ρ S=>some (ρ.set i (some u),S)
theorem bC{i:Nat}(h:WG X e (wI i)):QG X e (gNm i):=h.imp fun v σ H Q hz=>L8 hz fun m ρ S u ρ' S' sr lr iu hc post=>by
 cases hc
 exact post m _ H .refl sr (lr.set i iu)
def gU:List Nat->List U->Rho->Option Rho
 |[],[],ρ=>some ρ
 |i::is,u::us,ρ=>gU is us (ρ.set i (some u))
 |_,_,_=>none
def tGs(K:PySem.W.Frag)(is:List Nat):TGs:=fun vs σ H Q=>∃m ρ S us ρ',Sr K m S H/\Lr K m H ρ σ/\IsL K m H vs us/\gU is us ρ=some ρ'/\jh K m H Q ρ' S
abbrev QGs(X:Cx)(es:List Expr)(is:List Nat):Prop:=WGs X es (tGs X.K is)
theorem pX:QGs X [] []:=AO.imp fun v σ H Q ⟨m,ρ,S,us,ρ',sr,lr,iu,hc,post⟩=>by
 cases us with
 |nil=>cases hc;exact⟨iu.of_nil,post m σ H .refl sr lr⟩
 |cons a r=>simp[gU]at hc
theorem fR{i:Nat}{is:List Nat}{es:List Expr}(h:WG X e (wI i))(h2:QGs X es is)(hs:(assignEach (e::es) X.env).map (·.2)=assign e X.env::(assignEach es X.env).map (·.2):=by rfl):QGs X (e::es) (i::is):=(xq h h2 hs).imp fun v σ H Q ⟨m,ρ,S,us,ρ',sr,lr,iu,hc,post⟩=>by
 cases us with
 |nil=>simp[gU]at hc
 |cons u r=>
  obtain⟨x,xr,rfl,i1,i2⟩:=iu.of_cons
  exact⟨x,xr,rfl,m,ρ.set i (some u),S,r,ρ',sr,lr.set i i1,i2,hc,post⟩
def gTp(is:List Nat):CG:=fun u ρ S=>match u with
 |.tup us=>(gU is us ρ).bind fun ρ'=>some (ρ',S)
 |_=>none
theorem jQ:∀{is:List Nat} {us:List U} {ρ ρ':Rho},gU is us ρ=some ρ'->us.length=is.length
 |[],[],_,_,_=>rfl
 |[],_::_,_,_,h=>by simp[gU]at h
 |_::_,[],_,_,h=>by simp[gU]at h
 |i::is,u::us,ρ,ρ',h=>by
  have:=jQ (is:=is) (us:=us) h
  simp[this]
theorem yh{is:List Nat}{es:List Expr}{k:Nat}(hc:X.calm=true)(h:QGs X es is)(hn:(assignEach es X.env).length=is.length:=by rfl)(hst:(assignEach es X.env).findIdx? (·.1)=none:=by rfl):QG X (.Tuple es k pos) (gTp is):=(xt hc h hn hst).imp fun v σ H Q hz=>L8 hz fun m ρ S u ρ' S' sr lr iu hc post=>by
 cases u with
 |tup us=>
  obtain⟨ρ2,h1,h2⟩:=Option.bind_eq_some_iff.mp hc
  cases h2
  obtain⟨a,xs,rfl,sq,il⟩:=iu.of_tup
  refine⟨a,xs,rfl,sq,?_,m,ρ,S,us,ρ',sr,lr,il,h1,post⟩
  rw[il.length];exact jQ h1
 |_=>simp[gTp]at hc
def F9(ca:CE)(g:CG):CS:=fun ρ S=>(ca ρ S).bind fun p=>(g p.1 ρ p.2).bind fun q=>some (.nx,q.1,q.2)
theorem Gj{K:PySem.W.Frag}{g:CG}:∀D σ H,tS K (F9 ca g) D σ H->HV (tE K ca) (tG K g) D σ H:=by
 rintro D σ H ⟨m,ρ,S,o,ρ',S',sr,lr,hc,post⟩
 obtain⟨⟨u,S1⟩,h1,h2⟩:=Option.bind_eq_some_iff.mp hc
 obtain⟨⟨ρ2,S2⟩,h3,h4⟩:=Option.bind_eq_some_iff.mp h2
 cases h4
 exact⟨m,ρ,S,u,S1,sr,lr,h1,fun m1 v1 H1 e1 sr1 i1=>⟨m1,ρ,S1,u,_,_,sr1,lr.mono e1,i1,h3,jh.mono e1 post⟩⟩
theorem Dc{tg:Expr}{g:CG}(he:QE X e ca)(hg:QG X tg g)(hs:swapsWithSole [tg] e pos.line X.env=pure false:=by rfl)(hw:swappedStores [tg] e X.env=pure none:=by rfl)
  (h1:(assignEach [tg] X.env).map (·.2)=[assign tg X.env]:=by rfl):QS X (.Assign [tg] e pos) (F9 ca g):=(xp he hg hs hw h1).imp Gj
def eR(i:Nat)(ca:CE):CS:=fun ρ S=>(ca ρ S).bind fun p=>some (.nx,ρ.set i (some p.1),p.2)
theorem bc{i:Nat}{x:Str}{pos':Pos}(hN:X.N.Nodup)(hi:X.N[i]?=some x)(hx:Loc X.env.scope x)(he:QE X e ca)(hs:swapsWith e (some (.Name x pos')) pos.line X.env=pure false:=by rfl)(hf:X.fn x=true\/X.env.scope.names.lookup x=some .local:=by first|exact .inl rfl|exact .inr rfl|assumption) :
  QS X (.Assign [.Name x pos'] e pos) (eR i ca):=(xn hN hi hx he hs hf).imp fun D σ H hz=>wK hz fun m ρ S o ρ' S' sr lr hc post=>by
 obtain⟨⟨u,S1⟩,h1,h2⟩:=Option.bind_eq_some_iff.mp hc
 cases h2
 exact⟨m,ρ,S,u,_,sr,lr,h1,fun m1 v1 H1 e1 sr1 i1=>post m1 _ H1 e1 sr1 ((lr.mono e1).set i i1)⟩
abbrev CI:=Rho->Sto->Option (List U×(Sto->Prop)×Sto)
def AF(K:PySem.W.Frag)(J:It)(m:List Addr)(H:Hp)(us:List U)(ok:Sto->Prop):Prop:=∀m2 S2 H2 i,Ext K m H m2 H2->Sr K m2 S2 H2->ok S2->
 (∀u,us[i]?=some u->J.go i H2/\∀x H3,J.yld i H2 x H3->Ext K m2 H2 m2 H3/\Sr K m2 S2 H3/\Is K m2 H3 x u)/\(us.length<=i->J.stop i H2)
def tI(K:PySem.W.Frag)(ci:CI):TI:=fun σ H R=>∃m ρ S us ok S',Sr K m S H/\Lr K m H ρ σ/\ci ρ S=some (us,ok,S')/\∀m' H' J,Ext K m H m' H'->Sr K m' S' H'->AF K J m' H' us ok->R J H'
abbrev QI(X:Cx)(tg iter:Expr)(ci:CI):Prop:=WI X tg iter (tI X.K ci)
open Classical in
def eA(ok:Sto->Prop)(g:CG)(cb:CS):List U->CS
 |[]=>fun ρ S=>if ok S then some (.nx,ρ,S)else none
 |u::us=>fun ρ S=>if ok S then(g u ρ S).bind fun p=>(cb p.1 p.2).bind fun r=>match r.1 with
  |.nx=>eA ok g cb us r.2.1 r.2.2
  |.ct=>eA ok g cb us r.2.1 r.2.2
  |.bk=>some (.nx,r.2.1,r.2.2)
  |.rt v=>some (.rt v,r.2.1,r.2.2)else none
def kC(ci:CI)(g:CG)(cb:CS):CS:=fun ρ S=>(ci ρ S).bind fun p=>eA p.2.1 g cb p.1 ρ p.2.2
theorem n5{α:Type}{us:List α}{i:Nat}{u:α}(h:us[i]?=some u):us.drop i=u::us.drop (i+1):=by
 obtain⟨hl,e⟩:=List.getElem?_eq_some_iff.mp h
 rw[List.drop_eq_getElem_cons hl,e]
theorem qk{K:PySem.W.Frag}{g:CG}{cb:CS}{J:It}{us:List U}{ok:Sto->Prop}{D:xc}{m1:List Addr}{H1:Hp}{ρ ρ':Rho}{σ:L2.St}{S1 S':Sto}{o:Out}(sr1:Sr K m1 S1 H1)(lr1:Lr K m1 H1 ρ σ)(ito:AF K J m1 H1 us ok)(h2:eA ok g cb us ρ S1=some (o,ρ',S'))(post:wY K m1 H1 D o ρ' S') :
  ∃W:Nat->Nat->L2.St->Hp->Prop,(∃n,W 0 n σ H1)/\∀i n σ H,W i n σ H->
   (J.stop i H/\D.nx σ H)\/(J.go i H/\∃N:L2.St->Hp->Prop,(∀σ' H',N σ' H'->∃n',n'<n/\W (i+1) n' σ' H')/\∀x H',J.yld i H x H'->tG K g x σ H' fun σ2 H2=>tS K cb { D with nx:=N,ct:=N,bk:=D.nx } σ2 H2):=by
 let W:Nat->Nat->L2.St->Hp->Prop:=fun i n σ2 H2=>n=us.length-i/\i<=us.length/\∃m2 ρ2 S2,Ext K m1 H1 m2 H2/\Sr K m2 S2 H2/\Lr K m2 H2 ρ2 σ2/\eA ok g cb (us.drop i) ρ2 S2=some (o,ρ',S')
 refine⟨W,⟨us.length,by simp,Nat.zero_le _,m1,ρ,S1,.refl,sr1,lr1,by simpa using h2⟩,?_⟩
 rintro i n σ2 H2 ⟨rfl,hi,m2,ρ2,S2,e2,sr2,lr2,hl⟩
 by_cases hlt:i<us.length
 ·have hu:=List.getElem?_eq_getElem hlt
  rw[n5 hu]at hl
  unfold eA at hl
  split at hl
  ·rename_i hok
   obtain⟨⟨ρ3,S3⟩,h3,hl⟩:=Option.bind_eq_some_iff.mp hl
   obtain⟨⟨o4,ρ4,S4⟩,h4,hl⟩:=Option.bind_eq_some_iff.mp hl
   obtain⟨hgo,hy⟩:=(ito m2 S2 H2 i e2 sr2 hok).1 _ hu
   refine .inr ⟨hgo,W (i+1) (us.length-(i+1)),fun σ' H' w'=>⟨_,by omega,w'⟩,fun x H3 y=>?_⟩
   obtain⟨e3,sr3,ix⟩:=hy x H3 y
   refine⟨m2,ρ2,S2,_,ρ3,S3,sr3,lr2.mono e3,ix,h3,fun m4 σ4 H4 e4 sr4 lr4=>⟨m4,ρ3,S3,o4,ρ4,S4,sr4,lr4,h4,?_⟩⟩
   have e14:=(e2.trans e3).trans e4
   have nxt:eA ok g cb (us.drop (i+1)) ρ4 S4=some (o,ρ',S')->jh K m4 H4 (W (i+1) (us.length-(i+1))) ρ4 S4:=fun hn m5 σ5 H5 e5 sr5 lr5=>⟨rfl,hlt,m5,ρ4,S4,e14.trans e5,sr5,lr5,hn⟩
   cases o4 with
   |nx=>exact nxt hl
   |ct=>exact nxt hl
   |bk=>cases hl;exact jh.mono e14 post
   |rt v=>cases hl;exact lZ.mono e14 post
  ·cases hl
 ·have e:i=us.length:=by omega
  subst e
  rw[List.drop_length]at hl
  unfold eA at hl
  split at hl
  ·rename_i hok
   cases hl
   exact .inl ⟨(ito m2 _ H2 _ e2 sr2 hok).2 (Nat.le_refl _),post m2 σ2 H2 e2 sr2 lr2⟩
  ·cases hl
theorem FQ{K:PySem.W.Frag}{ci:CI}{g:CG}{cb:CS}:∀D σ H,tS K (kC ci g cb) D σ H->HP (tI K ci) (tG K g) (tS K cb) D σ H:=by
 rintro D σ H ⟨m,ρ,S,o,ρ',S',sr,lr,hc,post⟩
 obtain⟨⟨us,ok,S1⟩,h1,h2⟩:=Option.bind_eq_some_iff.mp hc
 exact⟨m,ρ,S,us,ok,S1,sr,lr,h1,fun m1 H1 J e1 sr1 ito=>qk sr1 (lr.mono e1) ito h2 (wY.mono e1 post)⟩
theorem jv{tg iter:Expr}{body:List Stmt}{ci:CI}{g:CG}{cb:CS}(hp:PassesOwn (model X.prog X.w) X.A X.env X.xe)(hc:X.calm=true)(hi:QI X tg iter ci)(hg:QG X tg g)(hb:QSs X body cb)(hs:∀x,foldedSetIterable iter X.env x=pure x:=by intro _;rfl):QS X (.For tg iter body [] pos) (kC ci g cb):=(tu hp hc hi hg hb hs).imp FQ
def iTp(ca:CE):CI:=fun ρ S=>(ca ρ S).bind fun p=>match p.1 with
 |.tup us=>some (us,fun _=>True,p.2)
 |.ref l=>match p.2[l]? with
  |some (.lst us)=>some (us,fun S=>S[l]?=some (.lst us),p.2)
  |_=>none
 |_=>none
theorem Jy{K:PySem.W.Frag}{m:List Addr}{H:Hp}{us:List U}{a:Addr}{xs:List V}(sq:SqT K H a xs)(il:IsL K m H xs us):AF K (Itt K a) m H us (fun _=>True):=by
 intro m2 S2 H2 i e2 sr2 _
 have sq2:=e2.keep.t _ _ sq
 have il2:=il.mono e2
 refine⟨fun u hu=>?_,fun hi=>⟨xs,sq2,by rw[il2.length];exact hi⟩⟩
 obtain⟨x,hx,ix⟩:=il2.getD hu
 refine⟨⟨xs,x,sq2,hx⟩,fun y H3 hy=>?_⟩
 obtain⟨rfl,hy⟩:=hy
 have:=hy xs sq2
 rw[hx]at this;cases this
 exact⟨.refl,sr2,ix⟩
theorem Jz{K:PySem.W.Frag}{m:List Addr}{H:Hp}{us:List U}{a:Addr}{l:Nat}(hl:m[l]?=some a):AF K (Itl K a) m H us (fun S=>S[l]?=some (.lst us)):=by
 intro m2 S2 H2 i e2 sr2 hok
 obtain⟨a',ha',xs,hx,il⟩:=sr2.get hok
 rw[e2.get hl]at ha'
 cases ha'
 refine⟨fun u hu=>?_,fun hi=>⟨xs,SqL.of hx,by rw[il.length];exact hi⟩⟩
 obtain⟨x,hx',ix⟩:=il.getD hu
 refine⟨⟨xs,x,SqL.of hx,hx'⟩,fun y H3 hy=>?_⟩
 obtain⟨rfl,hy⟩:=hy
 have:=hy xs (SqL.of hx)
 rw[hx']at this;cases this
 exact⟨.refl,sr2,ix⟩
theorem eQ{tg:Expr}(h:QE X e ca):QI X tg e (iTp ca):=((Eh h).or (AN h)).imp fun σ H R hz=>wK hz fun m ρ S us ok S' sr lr hc post=>by
 obtain⟨⟨u,S1⟩,h1,h2⟩:=Option.bind_eq_some_iff.mp hc
 cases u with
 |tup ws=>
  cases h2
  refine .inl ⟨m,ρ,S,.tup us,_,sr,lr,h1,fun m1 v1 H1 e1 sr1 i1=>?_⟩
  obtain⟨a,xs,rfl,sq,il⟩:=i1.of_tup
  exact⟨a,rfl,⟨xs,sq⟩,post m1 H1 _ e1 sr1 (Jy sq il)⟩
 |ref l=>
  simp only at h2
  split at h2
  ·rename_i us' hS
   cases h2
   refine .inr ⟨m,ρ,S,.ref l,_,sr,lr,h1,fun m1 v1 H1 e1 sr1 i1=>?_⟩
   obtain⟨a,hl,rfl⟩:=i1.of_ref
   obtain⟨a',ha',xs,hx,il⟩:=sr1.get hS
   rw[hl]at ha';cases ha'
   exact⟨a,rfl,⟨xs,SqL.of hx⟩,post m1 H1 _ e1 sr1 (Jz hl)⟩
  ·cases h2
 |_=>simp at h2
def dv(lo:Int)(n:Nat):List U:=(List.range n).map fun i=>.int (lo+(i:Nat))
theorem B1{K:PySem.W.Frag}{m:List Addr}{H:Hp}{lo:Int}{n:Nat}:AF K (Itr lo n) m H (dv lo n) (fun _=>True):=by
 intro m2 S2 H2 i e2 sr2 _
 refine⟨fun u hu=>?_,fun hi=>by show n<=i;simpa [dv] using hi⟩
 unfold dv at hu
 rw[List.getElem?_map]at hu
 by_cases c:i<n
 ·rw[List.getElem?_range c]at hu
  simp at hu
  subst hu
  refine⟨c,fun y H3 hy=>?_⟩
  obtain⟨rfl,rfl⟩:=hy
  exact⟨.refl,sr2,.int_⟩
 ·rw[List.getElem?_eq_none (by simpa using c)]at hu
  cases hu
def dQ(cr:CA):CI:=fun ρ S=>(cr ρ S).bind fun p=>match p.1 with
 |[.int j]=>if -(2^62)<=j/\j<2^62 then some (dv 0 j.toNat,fun _=>True,p.2)else none
 |_=>none
theorem jx{tg:Expr}{cr:CA}{p:Pos}(hg:Gl X "range")(hm:X.mg "range"=none)(ha:QA X [a] cr)(hs:starEach [a] X.env=[(false,eval a X.env)]:=by rfl):QI X tg (.Call (.Name "range" p) [a] [] pos) (dQ cr):=(vQ hg hm ha.h hs).imp fun σ H R hz=>wK hz fun m ρ S us ok S' sr lr hc post=>by
 obtain⟨⟨ws,S1⟩,h1,h2⟩:=Option.bind_eq_some_iff.mp hc
 simp only at h2
 split at h2
 ·rename_i j
  split at h2
  ·rename_i hj
   cases h2
   refine⟨m,ρ,S,_,S',sr,lr,h1,fun m1 v1 H1 e1 sr1 i1=>?_⟩
   obtain⟨x,r,rfl,ix,ir⟩:=i1.of_cons
   rw[ir.of_nil,ix.of_int]
   exact⟨j,rfl,hj.1,hj.2,post m1 H1 _ e1 sr1 B1⟩
  ·cases h2
 ·cases h2
end
def fI(g:Int->Int->Option U):U->U->Sto->Option (U×Sto)
 |.int i,.int j,S=>(g i j).bind fun u=>some (u,S)
 |_,_,_=>none
section
variable{X:Cx}{K:PySem.W.Frag}
theorem Ka{C:Int->Int->Prop}{gV:Int->Int->V}{g:Int->Int->Option U}(h:∀i j u,g i j=some u->C i j/\∀m H,Is K m H (gV i j) u):OpP K (rI C gV) (fI g):=by
 intro m S H x y v w u S' Q sr ix iy hf post
 cases x<;>cases y<;>simp only[fI]at hf<;>try cases hf
 rename_i i j
 obtain⟨u1,h1,h2⟩:=Option.bind_eq_some_iff.mp hf
 cases h2
 obtain⟨hc,hi⟩:=h i j u h1
 exact⟨i,j,ix.of_int,iy.of_int,hc,post m _ H .refl sr (hi m H)⟩
theorem yC{gV:Int->Int->V}{g:Int->Int->Option U}(h:∀i j u,g i j=some u->∀m H,Is K m H (gV i j) u):OpP K (rI0 gV) (fI g):=by
 intro m S H x y v w u S' Q sr ix iy hf post
 cases x<;>cases y<;>simp only[fI]at hf<;>try cases hf
 rename_i i j
 obtain⟨u1,h1,h2⟩:=Option.bind_eq_some_iff.mp hf
 cases h2
 exact⟨i,j,ix.of_int,iy.of_int,post m _ H .refl sr (h i j u h1 m H)⟩
def Bb(K:PySem.W.Frag):R2:=fun x y H Q=>∃a b xs ys,x=.ref a/\y=.ref b/\SqT K H a xs/\SqT K H b ys/\xs.length+ys.length<=sizeLine/\∀q H',qY H H'->SqT K H' q (xs++ys)->Q (.ref q) H'
theorem Fj:OpR X (binaryOp .Add) (Bb X.K):=by
 intro pins s σ H x y v u Q I rx ry h
 obtain⟨a,b,xs,ys,rfl,rfl,ha,hb,hz,q⟩:=h
 by_cases e:xs=[]
 ·cases rx
  cases ry
  obtain⟨its,r1,p1,_⟩:=I.tuple ha
  obtain⟨its2,r2,p2,_⟩:=I.tuple hb
  refine Ct p1 p2 (r1.nil_iff.mpr e) ⟨.ref b,H,I,rfl,q b H (.refl _) (by rw[e];exact hb)⟩
 ·refine Fi pins s σ H _ _ v u Q I rx ry ⟨a,b,xs,ys,rfl,rfl,ha,hb,e,hz,fun z=>q a H (.refl _) (by rw[z,List.append_nil];exact ha),fun _ p hp=>q p _ (dX hp _) (SqT.of aJ)⟩
def zB:U->U->Sto->Option (U×Sto)
 |.tup a,.tup b,S=>if a.length+b.length<=LIM then some (.tup (a++b),S)else none
 |_,_,_=>none
theorem BA:OpP K (Bb K) zB:=by
 intro m S H x y v w u S' Q sr ix iy hf post
 cases x<;>cases y<;>simp only[zB]at hf<;>try cases hf
 split at hf<;>try cases hf
 rename_i hl
 obtain⟨a,xs,rfl,sa,la⟩:=ix.of_tup
 obtain⟨b,ys,rfl,sb,lb⟩:=iy.of_tup
 refine⟨a,b,xs,ys,rfl,rfl,sa,sb,lim (by rw[la.length,lb.length];exact hl),fun q H' s sq=>?_⟩
 exact post m _ H' (.of (gD s)) (sr.same s) (.tup_ sq ((la.append lb).mono (.of (gD s))))
def nX:U->U->Sto->Option (U×Sto)
 |.ref l,.ref k,S=>match S[l]?,S[k]? with
  |some (.lst a),some (.lst b)=>if a.length+b.length<=LIM then some (.ref S.length,S++[.lst (a++b)])else none
  |_,_=>none
 |_,_,_=>none
theorem BD:OpP K J9 nX:=by
 intro m S H x y v w u S' Q sr ix iy hf post
 cases x<;>cases y<;>simp only[nX]at hf<;>try cases hf
 rename_i l k
 split at hf<;>try cases hf
 rename_i a b h1 h2
 split at hf<;>try cases hf
 rename_i hl
 obtain⟨p,hp,rfl⟩:=ix.of_ref
 obtain⟨q,hq,rfl⟩:=iy.of_ref
 obtain⟨p',hp',xs,hx,il⟩:=sr.get h1
 obtain⟨q',hq',ys,hy,il'⟩:=sr.get h2
 rw[hp]at hp';cases hp'
 rw[hq]at hq';cases hq'
 exact⟨p,q,xs,ys,rfl,rfl,hx,hy,lim (by rw[il.length,il'.length];exact hl),fun r hr=>ft sr (il.append il') post hr⟩
def zC:U->U->Sto->Option (U×Sto)
 |.str a,.str b,S=>if a.length+b.length<=LIM then some (.str (a++b),S)else none
 |_,_,_=>none
theorem BC:OpP K (fun x y H Q=>∃i j,x=.str i/\y=.str j/\i.length+j.length<=sizeLine/\Q (.str (i++j)) H) zC:=by
 intro m S H x y v w u S' Q sr ix iy hf post
 cases x<;>cases y<;>simp only[zC]at hf<;>try cases hf
 split at hf<;>try cases hf
 rename_i hl
 exact⟨_,_,ix.of_str,iy.of_str,lim hl,post m _ H .refl sr .str_⟩
def fN:U->U->Sto->Option (U×Sto)
 |.int i,.int j,S=>some (.int (i+j),S)
 |.tup a,.tup b,S=>if a.length+b.length<=LIM then some (.tup (a++b),S)else none
 |.str a,.str b,S=>if a.length+b.length<=LIM then some (.str (a++b),S)else none
 |.ref l,.ref k,S=>nX (.ref l) (.ref k) S
 |_,_,_=>none
theorem iC:OpR X (binaryOp .Add) (fun x y H Q=>rI0 (fun i j=>.int (i+j)) x y H Q\/(J9 x y H Q\/(Bb X.K x y H Q\/∃i j,x=.str i/\y=.str j/\i.length+j.length<=sizeLine/\Q (.str (i++j)) H))):=Ja.or (I0.or (Fj.or wa))
theorem iw:OpP K (fun x y H Q=>rI0 (fun i j=>.int (i+j)) x y H Q\/(J9 x y H Q\/(Bb K x y H Q\/∃i j,x=.str i/\y=.str j/\i.length+j.length<=sizeLine/\Q (.str (i++j)) H))) fN:=by
 intro m S H x y v w u S' Q sr ix iy hf post
 cases x<;>cases y<;>simp only[fN]at hf<;>try cases hf
 ·exact .inl ⟨_,_,ix.of_int,iy.of_int,post m _ H .refl sr .int_⟩
 ·exact .inr (.inr (.inr (BC m S H _ _ v w u S' Q sr ix iy hf post)))
 ·exact .inr (.inr (.inl (BA m S H _ _ v w u S' Q sr ix iy hf post)))
 ·exact .inr (.inl (BD m S H _ _ v w u S' Q sr ix iy hf post))
def FU:=fI fun i j=>some (.int (i-j))
theorem BB:OpP K (rI0 fun i j=>.int (i-j)) FU:=yC fun i j u h m H=>by cases h;exact .int_
instance {i j:Int}:Decidable (DM i j):=by unfold DM;exact inferInstance
def lW:=fI fun i j=>if DM i j then some (.int (i*j))else none
theorem qe:OpP K (rI DM fun i j=>.int (i*j)) lW:=Ka fun i j u h=>by
 split at h
 ·rename_i c;cases h;exact⟨c,fun m H=>.int_⟩
 ·cases h
instance {i j:Int}:Decidable (w4 i j):=by unfold w4;exact inferInstance
def Cd:=fI fun i j=>if w4 i j then some (.int (i / j))else none
theorem Fe:OpP K (rI w4 fun i j=>.int (i / j)) Cd:=Ka fun i j u h=>by
 split at h
 ·rename_i c;cases h;exact⟨c,fun m H=>.int_⟩
 ·cases h
def sv:=fI fun i j=>if 0<j then some (.int (i % j))else none
theorem tP:OpP K (rI (fun _ j=>0<j) fun i j=>.int (i % j)) sv:=Ka fun i j u h=>by
 split at h
 ·rename_i c;cases h;exact⟨c,fun m H=>.int_⟩
 ·cases h
instance {i j:Int}:Decidable (GD i j):=by unfold GD;exact inferInstance
def GB:=fI fun i j=>if GD i j then some (.int (i^j.toNat))else none
theorem IU:OpP K (rI GD fun i j=>.int (i^j.toNat)) GB:=Ka fun i j u h=>by
 split at h
 ·rename_i c;cases h;exact⟨c,fun m H=>.int_⟩
 ·cases h
def fLt:=fI fun i j=>some (.bl (decide (i<j)))
def fLe:=fI fun i j=>some (.bl (decide (i<=j)))
def fGt:=fI fun i j=>some (.bl (decide (j<i)))
def fGe:=fI fun i j=>some (.bl (decide (j<=i)))
theorem Kb:OpP K (rI0 fun i j=>.bl (decide (i<j))) fLt:=yC fun i j u h m H=>by cases h;exact .bl_
theorem MC:OpP K (rI0 fun i j=>.bl (decide (i<=j))) fLe:=yC fun i j u h m H=>by cases h;exact .bl_
theorem LJ:OpP K (rI0 fun i j=>.bl (decide (j<i))) fGt:=yC fun i j u h m H=>by cases h;exact .bl_
theorem Nn:OpP K (rI0 fun i j=>.bl (decide (j<=i))) fGe:=yC fun i j u h m H=>by cases h;exact .bl_
def eqS:U->U->Option Bool
 |.int i,.int j=>some (decide (i=j))
 |.bl i,.bl j=>some (decide (i=j))
 |.str i,.str j=>some (decide (i=j))
 |.non,.non=>some true
 |.non,.int _=>some false|.int _,.non=>some false
 |.non,.bl _=>some false|.bl _,.non=>some false
 |.non,.str _=>some false|.str _,.non=>some false
 |.int _,.str _=>some false|.str _,.int _=>some false
 |.bl _,.str _=>some false|.str _,.bl _=>some false
 |_,_=>none
def fEq:U->U->Sto->Option (U×Sto):=fun x y S=>(eqS x y).bind fun b=>some (.bl b,S)
def fNe:U->U->Sto->Option (U×Sto):=fun x y S=>(eqS x y).bind fun b=>some (.bl (!b),S)
theorem DB{m:List Addr}{H:Hp}{x y:U}{v w:V}{b:Bool}(ix:Is K m H v x)(iy:Is K m H w y)(h:eqS x y=some b):Ll v w=true/\decide (v=w)=b:=by
 cases x<;>cases y<;>simp only[eqS]at h<;>(first|cases h|skip)
 all_goals
  (first|(have e1:=ix.of_int)|(have e1:=ix.of_bl)|(have e1:=ix.of_str)|(have e1:=ix.of_non))
  (first|(have e2:=iy.of_int)|(have e2:=iy.of_bl)|(have e2:=iy.of_str)|(have e2:=iy.of_non))
  subst e1 e2
  exact⟨rfl,by simp⟩
theorem uU:OpP K rEq fEq:=by
 intro m S H x y v w u S' Q sr ix iy hf post
 obtain⟨b,h1,h2⟩:=Option.bind_eq_some_iff.mp hf
 cases h2
 obtain⟨e1,e2⟩:=DB ix iy h1
 exact⟨e1,by rw[e2];exact post m _ H .refl sr .bl_⟩
theorem Gy:OpP K rNe fNe:=by
 intro m S H x y v w u S' Q sr ix iy hf post
 obtain⟨b,h1,h2⟩:=Option.bind_eq_some_iff.mp hf
 cases h2
 obtain⟨e1,e2⟩:=DB ix iy h1
 exact⟨e1,by rw[e2];exact post m _ H .refl sr .bl_⟩
def qy:U->U->Sto->Option (U×Sto)
 |.bl a,.bl b,S=>some (.bl (a !=b),S)
 |_,_,_=>none
theorem BE:OpP K (fun x y H Q=>∃k l,x=.bl k/\y=.bl l/\Q (.bl (k !=l)) H) qy:=by
 intro m S H x y v w u S' Q sr ix iy hf post
 cases x<;>cases y<;>simp only[qy]at hf<;>cases hf
 exact⟨_,_,ix.of_bl,iy.of_bl,post m _ H .refl sr .bl_⟩
section
variable{κ:Type}[DecidableEq κ]
def aP{α:Type}(kvs:List (κ×α))(k:κ):Option α:=(kvs.find? fun kv=>decide (kv.1=k)).map (·.2)
def ik{α:Type}(kvs:List (κ×α))(k:κ)(v:α):List (κ×α):=
 if (kvs.any fun kv=>decide (kv.1=k))=true then kvs.map (fun kv=>if kv.1=k then(kv.1,v)else kv)else kvs++[(k,v)]
variable{m:List Addr}{H:Hp}{kvs:List (κ×V)}{kus:List (κ×U)}{k:κ}{v:V}{u:U}
theorem IsP.val(h:IsP K m H kvs kus):Rf K m H (oW kvs k) (aP kus k):=by
 refine IsP.ind (P:=fun kvs kus=>Rf K m H (oW kvs k) (aP kus k)) trivial (fun k' v u kvs kus i _ ih=>?_) h
 by_cases e:k'=k
 ·subst e
  simp[oW,aP,List.find?_cons,Rf,i]
 ·simp only[oW,aP,List.find?_cons,decide_eq_false e]at ih ⊢
  exact ih
theorem IsP.any_(h:IsP K m H kvs kus):(kvs.any fun kv=>decide (kv.1=k))=(kus.any fun kv=>decide (kv.1=k)):=
 IsP.ind (P:=fun kvs kus=>(kvs.any fun kv=>decide (kv.1=k))=(kus.any fun kv=>decide (kv.1=k))) rfl (fun k' v u kvs kus i _ ih=>by simp only[List.any_cons,ih]) h
theorem IsP.append{kvs':List (κ×V)}{kus':List (κ×U)}(h:IsP K m H kvs kus)(h':IsP K m H kvs' kus'):IsP K m H (kvs++kvs') (kus++kus'):=⟨by simp[h.1,h'.1],by simpa using h.2.append h'.2⟩
theorem IsP.put(h:IsP K m H kvs kus)(i:Is K m H v u):IsP K m H (tf kvs k v) (ik kus k u):=by
 unfold tf ik
 rw[h.any_]
 split
 ·refine IsP.ind (P:=fun kvs kus=>IsP K m H (kvs.map fun kv=>if kv.1=k then(kv.1,v)else kv) (kus.map fun kv=>if kv.1=k then(kv.1,u)else kv)) .nil_ (fun k' v' u' kvs kus i' _ ih=>?_) h
  simp only[List.map_cons]
  by_cases e:k'=k
  ·simp only[e,if_true];exact .cons_ i ih
  ·simp only[e,if_false];exact .cons_ i' ih
 ·exact h.append (.cons_ i .nil_)
end
def my:U->Option Key
 |.int i=>some (.inl i)
 |.str x=>some (.inr x)
 |_=>none
theorem jB{m:List Addr}{H:Hp}{x:U}{v:V}{k:Key}(ix:Is K m H v x)(h:my x=some k):v=kV k:=by
 cases x<;>simp only[my]at h<;>cases h
 ·exact ix.of_int
 ·exact ix.of_str
def mK:U->Bool
 |.non=>true|.bl _=>true|.int _=>true|.str _=>true|_=>false
def eqF:U->U->Bool
 |.non,.non=>true
 |.bl a,.bl b=>a == b
 |.bl a,.int b=>(if a then 1 else 0) == b
 |.int a,.bl b=>a == (if b then 1 else 0)
 |.int a,.int b=>a == b
 |.str a,.str b=>a == b
 |_,_=>false
def inU(x:U)(us:List U):Bool:=us.any fun y=>eqF y x
theorem uc{m:List Addr}{H:Hp}{x:U}{v:V}(ix:Is K m H v x)(h:mK x=true):oK v=true:=by
 cases x with
 |non=>rw[ix.of_non];rfl
 |bl b=>rw[ix.of_bl];rfl
 |int i=>rw[ix.of_int];rfl
 |str i=>rw[ix.of_str];rfl
 |tup us=>cases h
 |ref l=>cases h
 |kl l=>cases h
theorem JN{m:List Addr}{H:Hp}{x y:U}{v w:V}(ix:Is K m H v x)(iy:Is K m H w y)(hx:mK x=true)(hy:mK y=true):eqV v w=eqF x y:=by
 cases x<;>(first|cases hx|skip)<;>cases y<;>(first|cases hy|skip)
 all_goals
  (first|(have e1:=ix.of_int)|(have e1:=ix.of_bl)|(have e1:=ix.of_str)|(have e1:=ix.of_non))
  (first|(have e2:=iy.of_int)|(have e2:=iy.of_bl)|(have e2:=iy.of_str)|(have e2:=iy.of_non))
  subst e1 e2
  rfl
theorem qx{m:List Addr}{H:Hp}:∀{xs:List V} {us:List U},IsL K m H xs us->us.all mK=true->xs.all oK=true
 |xs,[],h,_=>by rw[h.of_nil];rfl
 |xs,u::us,h,k=>by
  obtain⟨x,r,rfl,i,t⟩:=h.of_cons
  rw[List.all_cons,Bool.and_eq_true]at k ⊢
  exact⟨uc i k.1,qx t k.2⟩
theorem zh{m:List Addr}{H:Hp}{x:U}{v:V}(ix:Is K m H v x)(hx:mK x=true):∀{xs:List V} {us:List U},IsL K m H xs us->us.all mK=true->inV v xs=inU x us
 |xs,[],h,_=>by rw[h.of_nil];rfl
 |xs,u::us,h,k=>by
  obtain⟨y,r,rfl,i,t⟩:=h.of_cons
  rw[List.all_cons,Bool.and_eq_true]at k
  have ih:=zh ix hx t k.2
  unfold inV inU at ih ⊢
  rw[List.any_cons,List.any_cons,ih,JN i ix k.1 hx]
theorem _root_.L2.DGet.kz{H:Hp}{a:Addr}{ob:Obj}{kvs:List (Key×V)}{k:Key}(e:H a=some (.frz ob (.dK kvs))):DGet H a (kV k) (oW kvs k):=.inl ⟨kvs,k,.inr ⟨ob,e⟩,rfl,rfl⟩
def fIn(neg:Bool):U->U->Sto->Option (U×Sto):=fun x y S=>match y with
 |.tup us=>if mK x=true/\us.all mK=true then some (.bl (if neg then !inU x us else inU x us),S)else none
 |.ref l=>match S[l]? with
  |some (.lst us)=>if mK x=true/\us.all mK=true then some (.bl (if neg then !inU x us else inU x us),S)else none
  |some (.dic kus)=>(my x).bind fun k=>some (.bl (if neg then !(aP kus k).isSome else(aP kus k).isSome),S)
  |some (.fdc ep kus)=>(my x).bind fun k=>some (.bl (if neg then !(aP kus k).isSome else(aP kus k).isSome),S)
  |_=>none
 |_=>none
theorem Rf.isSome{m:List Addr}{H:Hp}{v:Option V}{u:Option U}(h:Rf K m H v u):v.isSome=u.isSome:=by
 cases v<;>cases u<;>first|rfl|exact h.elim
theorem vt{ca cb:CE}{neg:Bool}(t2:TE->TE->TE)(h2:∀ta tb σ H Q,(ta σ H fun y H1=>tb σ H1 fun x H2=>∃a o,x=.ref a/\DGet H2 a y o/\Q (.bl (if neg then !o.isSome else o.isSome)) H2)->t2 ta tb σ H Q):∀σ H Q,tE K (cOp (fIn neg) ca cb) σ H Q->tOp (rIn K neg) (tE K ca) (tE K cb) σ H Q\/t2 (tE K ca) (tE K cb) σ H Q:=by
 rintro σ H Q ⟨m,ρ,S,u,S',sr,lr,hc,post⟩
 obtain⟨⟨x,S1⟩,h1,h⟩:=Option.bind_eq_some_iff.mp hc
 obtain⟨⟨y,S2⟩,h3,h4⟩:=Option.bind_eq_some_iff.mp h
 cases y with
 |tup us=>
  simp only[fIn]at h4
  split at h4<;>try cases h4
  rename_i hf
  refine .inl ⟨m,ρ,S,x,S1,sr,lr,h1,fun m1 v1 H1 e1 sr1 i1=>⟨m1,ρ,S1,.tup us,S',sr1,lr.mono e1,h3,fun m2 v2 H2 e2 sr2 i2=>?_⟩⟩
  obtain⟨a,xs,rfl,sa,la⟩:=i2.of_tup
  refine⟨a,xs,rfl,.inr sa,uc (i1.mono e2) hf.1,qx la hf.2,?_⟩
  rw[zh (i1.mono e2) hf.1 la hf.2]
  exact post m2 _ H2 (e1.trans e2) sr2 .bl_
 |ref l=>
  simp only[fIn]at h4
  split at h4<;>try cases h4
  ·rename_i us hS
   split at h4<;>try cases h4
   rename_i hf
   refine .inl ⟨m,ρ,S,x,S1,sr,lr,h1,fun m1 v1 H1 e1 sr1 i1=>⟨m1,ρ,S1,.ref l,S',sr1,lr.mono e1,h3,fun m2 v2 H2 e2 sr2 i2=>?_⟩⟩
   obtain⟨a,ha,rfl⟩:=i2.of_ref
   obtain⟨a',ha',xs,hx,la⟩:=sr2.get hS
   rw[ha]at ha';cases ha'
   refine⟨a,xs,rfl,.inl (SqL.of hx),uc (i1.mono e2) hf.1,qx la hf.2,?_⟩
   rw[zh (i1.mono e2) hf.1 la hf.2]
   exact post m2 _ H2 (e1.trans e2) sr2 .bl_
  ·rename_i kus hS
   obtain⟨k,hk,h5⟩:=Option.bind_eq_some_iff.mp h4
   cases h5
   refine .inr (h2 _ _ _ _ _ ⟨m,ρ,S,x,S1,sr,lr,h1,fun m1 v1 H1 e1 sr1 i1=>⟨m1,ρ,S1,.ref l,S',sr1,lr.mono e1,h3,fun m2 v2 H2 e2 sr2 i2=>?_⟩⟩)
   obtain⟨a,ha,rfl⟩:=i2.of_ref
   obtain⟨a',ha',kvs,hx,ip⟩:=sr2.get hS
   rw[ha]at ha';cases ha'
   have ek:=jB (i1.mono e2) hk
   subst ek
   refine⟨a,_,rfl,DGet.k hx,?_⟩
   rw[(IsP.val ip).isSome]
   exact post m2 _ H2 (e1.trans e2) sr2 .bl_
  ·rename_i ep kus hS
   obtain⟨k,hk,h5⟩:=Option.bind_eq_some_iff.mp h4
   cases h5
   refine .inr (h2 _ _ _ _ _ ⟨m,ρ,S,x,S1,sr,lr,h1,fun m1 v1 H1 e1 sr1 i1=>⟨m1,ρ,S1,.ref l,S',sr1,lr.mono e1,h3,fun m2 v2 H2 e2 sr2 i2=>?_⟩⟩)
   obtain⟨a,ha,rfl⟩:=i2.of_ref
   obtain⟨a',ha',ob,es,kvs,hx,hd,ip⟩:=sr2.get hS
   rw[ha]at ha';cases ha'
   have ek:=jB (i1.mono e2) hk
   subst ek
   refine⟨a,_,rfl,DGet.kz hx,?_⟩
   rw[(IsP.val ip).isSome]
   exact post m2 _ H2 (e1.trans e2) sr2 .bl_
 |_=>simp[fIn]at h4
variable{e a b c:Expr}{ca cb cc:CE}{pos:Pos}
theorem Nl(hu:X.A.units+1<cLine)(ha:QE X a ca)(hb:QE X b cb)(hm:behindInMarks .In b=false):QE X (.Compare a [.In] [b] pos) (cOp (fIn false) ca cb):=
 ((pJ rP ha hb hm).or (xD (xH hu ha hb) hm)).imp (vt (neg:=false) J8 fun _ _ _ _ _ h=>h)
theorem EE(hu:X.A.units+1<cLine)(ha:QE X a ca)(hb:QE X b cb)(hm:behindInMarks .In b=false):QT X (.Compare a [.In] [b] pos) (aI (cOp (fIn false) ca cb)):=
 ((pI rP ha hb hm).or (xm (xH hu ha hb) hm)).imp (mP (vt (neg:=false) J8 fun _ _ _ _ _ h=>h))
theorem EF(hu:X.A.units+1<cLine)(ha:QE X a ca)(hb:QE X b cb)(hm:behindInMarks .NotIn b=false):QE X (.Compare a [.NotIn] [b] pos) (cOp (fIn true) ca cb):=
 ((pJ mx ha hb hm).or (xD (oV hu ha hb) hm)).imp (vt (neg:=true) pQ fun _ _ _ _ _ h=>h)
theorem uN(hu:X.A.units+1<cLine)(ha:QE X a ca)(hb:QE X b cb)(hm:behindInMarks .NotIn b=false):QT X (.Compare a [.NotIn] [b] pos) (aI (cOp (fIn true) ca cb)):=
 ((pI mx ha hb hm).or (xm (oV hu ha hb) hm)).imp (mP (vt (neg:=true) pQ fun _ _ _ _ _ h=>h))
def fIx:U->U->Sto->Option (U×Sto):=fun x y S=>match x with
 |.tup us=>match y with
  |.int i=>(atI us i).bind fun u=>some (u,S)
  |_=>none
 |.ref l=>match S[l]? with
  |some (.lst us)=>(match y with
   |.int i=>(atI us i).bind fun u=>some (u,S)
   |_=>none)
  |some (.dic kus)=>(my y).bind fun k=>(aP kus k).bind fun u=>some (u,S)
  |some (.fdc ep kus)=>(my y).bind fun k=>(aP kus k).bind fun u=>some (u,S)
  |_=>none
 |.kl ns=>match y with
  |.int i=>(atI (ns.map U.int) i).bind fun u=>some (u,S)
  |_=>none
 |_=>none
theorem vn{K:PySem.W.Frag}{m:List Addr}{H:Hp}:∀ns:List Int,IsL K m H (ns.map V.int) (ns.map U.int)
 |[]=>.nil_
 |n::ns=>.cons_ .int_ (vn ns)
theorem Aj{m:List Addr}{H:Hp}{xs:List V}{us:List U}{i:Int}{u:U}(l:IsL K m H xs us)(h:atI us i=some u):∃v,atI xs i=some v/\Is K m H v u:=by
 unfold atI at h ⊢
 rw[l.length]
 obtain⟨j,e1,e2⟩:=Option.bind_eq_some_iff.mp h
 rw[e1]
 obtain⟨v,e3,e4⟩:=l.getD e2
 exact⟨v,e3,e4⟩
theorem cE(hu:X.A.units+1<cLine)(ha:QE X a ca)(hb:QE X b cb)(hs:uo b)(hs2:Km b):QE X (.Subscript a b pos) (cOp fIx ca cb):=
 ((HG (FE.or Jx) ha hb hs).or (AS hu ha hb hs2)).imp fun σ H Q hz=>mC hz fun m ρ S u S' sr lr hc post=>by
 obtain⟨⟨x,S1⟩,h1,h⟩:=Option.bind_eq_some_iff.mp hc
 obtain⟨⟨y,S2⟩,h3,h4⟩:=Option.bind_eq_some_iff.mp h
 cases x with
 |tup us=>
  simp only[fIx]at h4
  split at h4<;>try cases h4
  rename_i i
  obtain⟨w,hw,h5⟩:=Option.bind_eq_some_iff.mp h4
  cases h5
  refine .inl ⟨m,ρ,S,_,S1,sr,lr,h1,fun m1 v1 H1 e1 sr1 i1=>⟨m1,ρ,S1,_,S',sr1,lr.mono e1,h3,fun m2 v2 H2 e2 sr2 i2=>.inr ?_⟩⟩
  obtain⟨a,xs,rfl,sa,la⟩:=(i1.mono e2).of_tup
  obtain⟨z,ez,iz⟩:=Aj la hw
  exact⟨a,xs,i,z,rfl,i2.of_int,sa,ez,post m2 _ H2 (e1.trans e2) sr2 iz⟩
 |ref l=>
  simp only[fIx]at h4
  split at h4<;>try cases h4
  ·rename_i us hS
   split at h4<;>try cases h4
   rename_i i
   obtain⟨w,hw,h5⟩:=Option.bind_eq_some_iff.mp h4
   cases h5
   refine .inl ⟨m,ρ,S,_,S1,sr,lr,h1,fun m1 v1 H1 e1 sr1 i1=>⟨m1,ρ,S1,_,S',sr1,lr.mono e1,h3,fun m2 v2 H2 e2 sr2 i2=>.inl ?_⟩⟩
   obtain⟨a,ha,rfl⟩:=(i1.mono e2).of_ref
   obtain⟨a',ha',xs,hx,la⟩:=sr2.get hS
   rw[ha]at ha';cases ha'
   obtain⟨z,ez,iz⟩:=Aj la hw
   exact⟨a,xs,i,z,rfl,i2.of_int,SqL.of hx,ez,post m2 _ H2 (e1.trans e2) sr2 iz⟩
  ·rename_i kus hS
   obtain⟨k,hk,h5⟩:=Option.bind_eq_some_iff.mp h4
   obtain⟨w,hw,h6⟩:=Option.bind_eq_some_iff.mp h5
   cases h6
   refine .inr ⟨m,ρ,S,_,S1,sr,lr,h1,fun m1 v1 H1 e1 sr1 i1=>⟨m1,ρ,S1,_,S',sr1,lr.mono e1,h3,fun m2 v2 H2 e2 sr2 i2=>?_⟩⟩
   obtain⟨a,ha,rfl⟩:=(i1.mono e2).of_ref
   obtain⟨a',ha',kvs,hx,ip⟩:=sr2.get hS
   rw[ha]at ha';cases ha'
   have ek:=jB i2 hk
   subst ek
   have rf:=IsP.val (k:=k) ip
   rw[hw]at rf
   cases hv:oW kvs k with
   |none=>rw[hv]at rf;exact rf.elim
   |some z=>
    rw[hv]at rf
    exact⟨a,z,rfl,by have:=DGet.k (k:=k) hx;rw[hv]at this;exact this,post m2 _ H2 (e1.trans e2) sr2 rf⟩
  ·rename_i ep kus hS
   obtain⟨k,hk,h5⟩:=Option.bind_eq_some_iff.mp h4
   obtain⟨w,hw,h6⟩:=Option.bind_eq_some_iff.mp h5
   cases h6
   refine .inr ⟨m,ρ,S,_,S1,sr,lr,h1,fun m1 v1 H1 e1 sr1 i1=>⟨m1,ρ,S1,_,S',sr1,lr.mono e1,h3,fun m2 v2 H2 e2 sr2 i2=>?_⟩⟩
   obtain⟨a,ha,rfl⟩:=(i1.mono e2).of_ref
   obtain⟨a',ha',ob,es,kvs,hx,hd,ip⟩:=sr2.get hS
   rw[ha]at ha';cases ha'
   have ek:=jB i2 hk
   subst ek
   have rf:=IsP.val (k:=k) ip
   rw[hw]at rf
   cases hv:oW kvs k with
   |none=>rw[hv]at rf;exact rf.elim
   |some z=>
    rw[hv]at rf
    exact⟨a,z,rfl,by have:=DGet.kz (k:=k) hx;rw[hv]at this;exact this,post m2 _ H2 (e1.trans e2) sr2 rf⟩
 |kl ns=>
  simp only[fIx]at h4
  split at h4<;>try cases h4
  rename_i i
  obtain⟨w,hw,h5⟩:=Option.bind_eq_some_iff.mp h4
  cases h5
  refine .inl ⟨m,ρ,S,_,S1,sr,lr,h1,fun m1 v1 H1 e1 sr1 i1=>⟨m1,ρ,S1,_,S',sr1,lr.mono e1,h3,fun m2 v2 H2 e2 sr2 i2=>.inl ?_⟩⟩
  obtain⟨a,rfl,ka⟩:=(i1.mono e2).of_kl
  obtain⟨z,ez,iz⟩:=Aj (vn (K:=X.K) (m:=m2) (H:=H2) ns) hw
  exact⟨a,_,i,z,rfl,i2.of_int,ka.sq,ez,post m2 _ H2 (e1.trans e2) sr2 iz⟩
 |_=>simp[fIx]at h4
def nW:U->U->U->Sto->Option Sto:=fun o i v S=>match o with
 |.ref l=>match S[l]? with
  |some (.lst us)=>(match i with
   |.int k=>(ixN us.length k).bind fun j=>some (S.set l (.lst (us.set j v)))
   |_=>none)
  |some (.dic kus)=>(my i).bind fun k=>if kus.length<LIM then some (S.set l (.dic (ik kus k v)))else none
  |_=>none
 |_=>none
def dW(co ci cv:CE):CS:=fun ρ S=>(cv ρ S).bind fun p=>(co ρ p.2).bind fun q=>(ci ρ q.2).bind fun r=>(nW q.1 r.1 p.1 r.2).bind fun S'=>some (.nx,ρ,S')
theorem cf{o i:Expr}{co ci cv:CE}{pos':Pos}(hu:X.A.units+1<cLine)(ho:QE X o co)(hi:QE X i ci)(hv:QE X e cv)
  (hs0:swapsWithSole [.Subscript o i pos'] e pos.line X.env=pure false:=by rfl) (hw:swappedStores [.Subscript o i pos'] e X.env=pure none:=by rfl)
  (h1:(assignEach [.Subscript o i pos'] X.env).map (·.2)=[assign (.Subscript o i pos') X.env]:=by rfl)
  (hs:swapsWith e (some (.Subscript o i pos')) pos.line X.env=pure false:=by rfl)
  (ha:∀v,assign (.Subscript o i pos') X.env v=(do
   let ov <-holding [v] (eval o X.env)
   let iv <-holding [v,ov] (eval i X.env)
   standAt pos'
   holding [v,ov,iv] (setItem ov iv v)
   release [v,ov,iv] []):=by intro _;rfl):QS X (.Assign [.Subscript o i pos'] e pos) (dW co ci cv):=
 ((xp hv (Ei ho hi A6 ha) hs0 hw h1).or (ux hu ho hi hv hs)).imp fun D σ H hz=>wK hz fun m ρ S o ρ' S' sr lr hc post=>by
 obtain⟨⟨v,S1⟩,h1,h⟩:=Option.bind_eq_some_iff.mp hc
 obtain⟨⟨ou,S2⟩,h2,h⟩:=Option.bind_eq_some_iff.mp h
 obtain⟨⟨iu,S3⟩,h3,h⟩:=Option.bind_eq_some_iff.mp h
 obtain⟨S4,h4,h⟩:=Option.bind_eq_some_iff.mp h
 cases h
 cases ou with
 |ref l=>
  simp only[nW]at h4
  split at h4<;>try cases h4
  ·rename_i us hS
   split at h4<;>try cases h4
   rename_i k
   obtain⟨j,hj,h5⟩:=Option.bind_eq_some_iff.mp h4
   cases h5
   refine .inl ⟨m,ρ,S,v,S1,sr,lr,h1,fun m1 v1 H1 e1 sr1 i1=>⟨m1,ρ,S1,_,S2,sr1,lr.mono e1,h2,fun m2 v2 H2 e2 sr2 i2=>⟨m2,ρ,S2,_,S3,sr2,lr.mono (e1.trans e2),h3,fun m3 v3 H3 e3 sr3 i3=>?_⟩⟩⟩
   obtain⟨a,ha,rfl⟩:=(i2.mono e3).of_ref
   obtain⟨a',ha',xs,hx,la⟩:=sr3.get hS
   rw[ha]at ha';cases ha'
   have e13:=(e1.trans e2).trans e3
   have ek:Ext X.K m3 H3 m3 (upd H3 a (.lst (xs.set j v1))):=.of (sr3.keep ha _)
   refine⟨a,xs,k,j,rfl,i3.of_int,hx,by rw[la.length];exact hj,post m3 σ _ (e13.trans ek) (sr3.put ha ⟨_,aJ,((la.set (i1.mono (e2.trans e3)))).mono ek⟩) (lr.mono (e13.trans ek))⟩
  ·rename_i kus hS
   obtain⟨k,hk,h5⟩:=Option.bind_eq_some_iff.mp h4
   split at h5<;>try cases h5
   have gK:kus.length<LIM:=by assumption
   refine .inr ⟨m,ρ,S,v,S1,sr,lr,h1,fun m1 v1 H1 e1 sr1 i1=>⟨m1,ρ,S1,_,S2,sr1,lr.mono e1,h2,fun m2 v2 H2 e2 sr2 i2=>⟨m2,ρ,S2,_,S3,sr2,lr.mono (e1.trans e2),h3,fun m3 v3 H3 e3 sr3 i3=>?_⟩⟩⟩
   obtain⟨a,ha,rfl⟩:=(i2.mono e3).of_ref
   obtain⟨a',ha',kvs,hx,ip⟩:=sr3.get hS
   rw[ha]at ha';cases ha'
   have ek:=jB i3 hk
   subst ek
   have e13:=(e1.trans e2).trans e3
   have ee:Ext X.K m3 H3 m3 (upd H3 a (.dK (tf kvs k v1))):=.of (sr3.keep ha _)
   exact⟨a,_,rfl,DL.k hx (Jj (by rw[IsP.length ip];exact gK)),post m3 σ _ (e13.trans ee) (sr3.put ha ⟨_,aJ,(IsP.put ip (i1.mono (e2.trans e3))).mono ee⟩) (lr.mono (e13.trans ee))⟩
 |_=>simp[nW]at h4
end
theorem lj{α:Type}[DecidableEq α]:∀{l l':List α},l.Nodup->(∀x∈l,x∈l')->l.length<=l'.length
 |[],_,_,_=>Nat.zero_le _
 |x::r,l',nd,s=>by
  obtain⟨h1,h2⟩:=List.nodup_cons.mp nd
  have hx:=s x List.mem_cons_self
  have:=lj (l:=r) (l':=l'.erase x) h2 fun y hy=>(List.mem_erase_of_ne (fun z=>h1 (by rw[<-z];exact hy))).mpr (s y (List.mem_cons_of_mem _ hy))
  rw[List.length_erase_of_mem hx]at this
  have hp:=List.length_pos_of_mem hx
  rw[List.length_cons]
  omega
theorem gC(f:Str)(v:V):∀fs:List (Str×V),(oH f v fs).map (·.1)=if f∈fs.map (·.1)then fs.map (·.1)else fs.map (·.1)++[f]
 |[]=>by simp[oH]
 |(g,x)::r=>by
  unfold oH
  by_cases e:g=f
  ·simp[e]
  ·have ih:=gC f v r
   rw[if_neg e,List.map_cons,List.map_cons,ih]
   by_cases c:f∈r.map (·.1)
   ·rw[if_pos c,if_pos (List.mem_cons_of_mem _ c)]
   ·rw[if_neg c,if_neg (fun z=>by rcases List.mem_cons.mp z with z|z;exact e z.symm;exact c z)]
    rfl
section
variable{X:Cx}{K:PySem.W.Frag}{m:List Addr}{H:Hp}{c:Cl}{fs:List (Str×V)}{fus:List (Option U)}
theorem InF.room(h:InF K m H c fs fus):fs.length<1000:=by
 have:=lj h.knd h.sub
 rw[List.length_map]at this
 have:=h.few
 omega
theorem nI{f:Str}:∀{fs:List (Str×V)},f∉fs.map (·.1)->fs.lookup f=none
 |[],_=>rfl
 |(g,x)::r,h=>by
  rw[List.lookup_cons]
  have h1:(f == g)=false:=by
   apply beq_eq_false_iff_ne.mpr
   intro z;exact h (by rw[z];exact List.mem_cons_self)
  rw[h1]
  exact nI fun z=>h (List.mem_cons_of_mem _ z)
theorem InF.none_{f:Str}(h:InF K m H c fs fus)(hf:f∉c.ns):fs.lookup f=none:=nI fun z=>hf (h.sub f z)
theorem InF.put{f:Str}{i:Nat}{v:V}{u:U}(h:InF K m H c fs fus)(hi:c.ns[i]?=some f)(hv:Is K m H v u):InF K m H c (oH f v fs) (fus.set i (some u)):=by
 have hfm:f∈c.ns:=List.mem_of_getElem? hi
 refine⟨h.nd,h.few,?_,fun x hx=>?_,by simp[h.len],fun j x hj=>?_⟩
 ·rw[gC]
  split
  ·exact h.knd
  ·rename_i hn
   rw[List.nodup_append]
   exact⟨h.knd,by simp,fun a ha b hb z=>by simp at hb;subst hb;subst z;exact hn ha⟩
 ·rw[gC]at hx
  split at hx
  ·exact h.sub x hx
  ·rcases List.mem_append.mp hx with z|z
   ·exact h.sub x z
   ·simp at z;subst z;exact hfm
 ·rw[ky]
  by_cases e:i=j
  ·subst e
   rw[hi]at hj;cases hj
   rw[if_pos rfl]
   have:i<fus.length:=by rw[h.len];exact(List.getElem?_eq_some_iff.mp hi).1
   rw[List.getElem?_set_self this]
   exact hv
  ·have ne:x≠f:=fun z=>by
    subst z
    obtain⟨p1,e1⟩:=List.getElem?_eq_some_iff.mp hi
    obtain⟨p2,e2⟩:=List.getElem?_eq_some_iff.mp hj
    exact e ((List.getElem_inj h.nd).mp (e1.trans e2.symm))
   rw[if_neg ne,List.getElem?_set_ne e]
   exact h.at_ j x hj
theorem InF.new(nd:c.ns.Nodup)(few:c.ns.length<1000):InF K m H c [] (List.replicate c.ns.length none):=by
 refine⟨nd,few,by simp,fun x hx=>by simp at hx,by simp,fun i x hi=>?_⟩
 rw[List.getElem?_replicate]
 split<;>exact trivial
open Classical in
def JL(c:Cl)(i:Nat)(x:U)(S:Sto):Option (U×Sto):=match x with
 |.ref l=>match S[l]? with
  |some (.ins c' fus)=>if c'=c then(fus[i]?).join.bind fun u=>some (u,S)else none
  |_=>none
 |_=>none
def fA(c:Cl)(i:Nat)(ca:CE):CE:=fun ρ S=>(ca ρ S).bind fun p=>JL c i p.1 p.2
open Classical in
def zD(c:Cl)(i:Nat)(x v:U)(S:Sto):Option Sto:=match x with
 |.ref l=>match S[l]? with
  |some (.ins c' fus)=>if c'=c then some (S.set l (.ins c (fus.set i (some v))))else none
  |_=>none
 |_=>none
def oP(c:Cl)(i:Nat)(ca cv:CE):CS:=fun ρ S=>(cv ρ S).bind fun p=>(ca ρ p.2).bind fun q=>(zD c i q.1 p.1 q.2).bind fun S'=>some (.nx,ρ,S')
variable{e:Expr}{ca cv:CE}{pos:Pos}{f:Str}{i:Nat}
theorem dS(hcl:Cls X.K c.C)(hna:km X.K c.C f)(hi:c.ns[i]?=some f)(h:QE X e ca)(hb:attributeBase e f X.env (eval e X.env)=eval e X.env:=by rfl):QE X (.Attribute e f pos) (fA c i ca):=(Em h hb).imp fun σ H Q hz=>mC hz fun m ρ S u S' sr lr hc post=>by
 obtain⟨⟨x,S1⟩,h1,h2⟩:=Option.bind_eq_some_iff.mp hc
 refine⟨m,ρ,S,x,S1,sr,lr,h1,fun m1 v1 H1 e1 sr1 i1=>?_⟩
 cases x with
 |ref l=>
  simp only[JL]at h2
  split at h2<;>try cases h2
  rename_i c' fus hS
  split at h2<;>try cases h2
  rename_i hc'
  subst hc'
  obtain⟨w,hw,h3⟩:=Option.bind_eq_some_iff.mp h2
  cases h3
  obtain⟨a,ha,rfl⟩:=i1.of_ref
  obtain⟨a',ha',dx,fs,hx,inf⟩:=sr1.get hS
  rw[ha]at ha';cases ha'
  have rf:=inf.at_ i f hi
  rw[hw]at rf
  cases hv:fs.lookup f with
  |none=>rw[hv]at rf;exact rf.elim
  |some z=>
   rw[hv]at rf
   exact⟨a,_,dx,fs,z,rfl,hx,hcl,hna,hv,post m1 _ H1 e1 sr1 rf⟩
 |_=>simp[JL]at h2
theorem ju{o:Expr}{co:CE}{pos':Pos}(hcl:Cls X.K c.C)(hna:km X.K c.C f)(hi:c.ns[i]?=some f)(ho:QE X o co)(hv:QE X e cv)(hs:swapsWith e (some (.Attribute o f pos')) pos.line X.env=pure false:=by rfl):QS X (.Assign [.Attribute o f pos'] e pos) (oP c i co cv):=(Eg ho hv hs).imp fun D σ H hz=>wK hz fun m ρ S o ρ' S' sr lr hc post=>by
 obtain⟨⟨v,S1⟩,h1,h⟩:=Option.bind_eq_some_iff.mp hc
 obtain⟨⟨x,S2⟩,h2,h⟩:=Option.bind_eq_some_iff.mp h
 obtain⟨S3,h3,h⟩:=Option.bind_eq_some_iff.mp h
 cases h
 refine⟨m,ρ,S,v,S1,sr,lr,h1,fun m1 v1 H1 e1 sr1 i1=>⟨m1,ρ,S1,x,S2,sr1,lr.mono e1,h2,fun m2 v2 H2 e2 sr2 i2=>?_⟩⟩
 cases x with
 |ref l=>
  simp only[zD]at h3
  split at h3<;>try cases h3
  rename_i c' fus hS
  split at h3<;>try cases h3
  have hc':c'=c:=by assumption
  subst hc'
  obtain⟨a,ha,rfl⟩:=i2.of_ref
  obtain⟨a',ha',dx,fs,hx,inf⟩:=sr2.get hS
  rw[ha]at ha';cases ha'
  have ee:Ext X.K m2 H2 m2 (upd H2 a (.ins c'.C dx (oH f v1 fs))):=.of (sr2.keep ha _)
  have e12:=e1.trans e2
  exact⟨a,_,dx,fs,rfl,hx,hcl,hna,inf.room,post m2 σ _ (e12.trans ee) (sr2.put ha ⟨dx,_,aJ,(inf.put hi (i1.mono e2)).mono ee⟩) (lr.mono (e12.trans ee))⟩
 |_=>simp[zD]at h3
structure sY(P:Program)(w:World)(K:PySem.W.Frag)(mg:Str->Option Value)(base:Heap)(c:Cl)(mn:Str)(k:Nat)(ps:List Str)(f:Fn):Prop where
 ex:∃fa fd,tj K c.C mn fa/\mY P w K mg base CX0 k fa fd ps (A4 K f)/\fU K fd ps []
theorem sY.mono{P:Program}{w:World}{mg:Str->Option Value}{base:Heap}{mn:Str}{j k:Nat}{ps:List Str}{f:Fn}(h:sY P w K mg base c mn j ps f)(l:j<=k):sY P w K mg base c mn k ps f:=by
 obtain⟨fa,fd,a,b,d⟩:=h.ex
 exact⟨fa,fd,a,b.mono l,d⟩
open Classical in
def zE(c:Cl)(f:Fn)(x:U)(S:Sto)(args:Sto->Option (List U×Sto)):Option (U×Sto):=match x with
 |.ref l=>match S[l]? with
  |some (.ins c' _)=>if c'=c then(args S).bind fun q=>f (.ref l::q.1) q.2 else none
  |_=>none
 |_=>none
def oQ(c:Cl)(f:Fn)(ca:CE)(cr:CA):CE:=fun ρ S=>(ca ρ S).bind fun p=>zE c f p.1 p.2 (cr ρ)
theorem BQ{mn:Str}{g:Fn}{co:CE}{cr:CA}(hmn:mn∉c.ns):∀σ H Q,tE K (oQ c g co cr) σ H Q->Eu c.C mn (A4 K g) [] E0 (tE K co) (tA K cr) σ H Q:=by
 rintro σ H Q ⟨m,ρ,S,u,S',sr,lr,hc,post⟩
 obtain⟨⟨x,S1⟩,h1,h2⟩:=Option.bind_eq_some_iff.mp hc
 refine⟨m,ρ,S,x,S1,sr,lr,h1,fun m1 v1 H1 e1 sr1 i1=>?_⟩
 cases x with
 |ref l=>
  simp only[zE]at h2
  split at h2<;>try cases h2
  rename_i c' fus hS
  split at h2<;>try cases h2
  rename_i hc'
  subst hc'
  obtain⟨⟨us,S2⟩,h3,h4⟩:=Option.bind_eq_some_iff.mp h2
  obtain⟨a,ha,rfl⟩:=i1.of_ref
  obtain⟨a',ha',dx,fs,hx,inf⟩:=sr1.get hS
  rw[ha]at ha';cases ha'
  refine⟨a,dx,fs,rfl,hx,inf.none_ hmn,m1,ρ,S1,us,S2,sr1,lr.mono e1,h3,fun m2 vs H2 e2 sr2 i2=>?_⟩
  exact⟨m2,_,S2,u,S',.cons_ (i1.mono e2) (by simpa using i2),sr2,h4,post.mono (e1.trans e2)⟩
 |_=>simp[zE]at h2
theorem nz{mn:Str}{g:Fn}{k:Nat}{ps:List Str}{o:Expr}{es:List Expr}{co:CE}{cr:CA}{apos:Pos}{pl:Sem Bool}(hcl:Cls X.K c.C)(F:sY X.prog X.w X.K X.mg X.base c mn k ps g)(hr:jg k X.A)(hmn:mn∉c.ns)(ho:QE X o co)(ha:QA X (e::es) cr)
  (hst:starEach (e::es) X.env=(false,eval e X.env)::starEach es X.env:=by rfl) (hpl:(backTo pos (starEach es X.env)).any (·.1)=false:=by rfl) (ht:eval (.Call (.Attribute o mn apos) (e::es) [] pos) X.env=(do
   let ov <-eval o X.env
   standAt apos.atName
   let (f,first) <-holding [ov] (getMethod ov mn pl)
   callWith pos f first (backTo pos (starEach (e::es) X.env)) (backToKw pos (keywordEach [] X.env))):=by rfl):QE X (.Call (.Attribute o mn apos) (e::es) [] pos) (oQ c g co cr):=by
 obtain⟨fa,fd,hm,F,hb⟩:=F.ex
 exact(AQ ho hcl hm F hr hb .nil By ha.h hst hpl ht).imp (BQ hmn)
structure CMk(P:Program)(w:World)(K:PySem.W.Frag)(mg:Str->Option Value)(base:Heap)(c:Cl)(x:Str)(k:Nat)(ps:List Str)(f:Fn):Prop where
 ex:∃fa fd,Mk K c.C fa/\mY P w K mg base CX0 k fa fd ps (A4 K f)/\fU K fd ps []/\mg x=some (.ref c.C)
 nd:c.ns.Nodup
 few:c.ns.length<1000
theorem CMk.mono{P:Program}{w:World}{mg:Str->Option Value}{base:Heap}{x:Str}{j k:Nat}{ps:List Str}{f:Fn}(h:CMk P w K mg base c x j ps f)(l:j<=k):CMk P w K mg base c x k ps f:=by
 obtain⟨fa,fd,a,b,d⟩:=h.ex
 exact⟨⟨fa,fd,a,b.mono l,d⟩,h.nd,h.few⟩
def oM(c:Cl)(f:Fn):Fn:=fun us S=>(f (.ref S.length::us) (S++[.ins c (List.replicate c.ns.length none)])).bind fun p=>match p.1 with
 |.non=>some (.ref S.length,p.2)
 |_=>none
theorem u6{g:Fn}{cr:CA}(nd:c.ns.Nodup)(few:c.ns.length<1000):∀σ H Q,tE K (cCB (oM c g) cr) σ H Q->xT c.C (A4 K g) [] E0 (tA K cr) σ H Q:=by
 rintro σ H Q ⟨m,ρ,S,u,S',sr,lr,hc,post⟩
 obtain⟨⟨us,S1⟩,h1,h2⟩:=Option.bind_eq_some_iff.mp hc
 obtain⟨⟨w,S2⟩,h3,h4⟩:=Option.bind_eq_some_iff.mp h2
 refine⟨m,ρ,S,us,S1,sr,lr,h1,fun m1 vs H1 e1 sr1 i1 x dx hx hdx ne=>?_⟩
 cases w with
 |non=>
  cases h4
  have s1:qY H1 (upd H1 dx (.own x)):=dX hdx _
  have hx2:(upd H1 dx (.own x)) x=none:=by rw[bu (Ne.symm ne)];exact hx
  have ee:Ext K m1 H1 (m1++[x]) (upd (upd H1 dx (.own x)) x (.ins c.C dx [])):=.new ⟨fun b xs q=>(cg hx2 _).t b xs ((gD s1).t b xs q),fun b xs q=>(cg hx2 _).l b xs ((gD s1).l b xs q)⟩
  refine⟨m1++[x],.ref S1.length::us,S1++[.ins c (List.replicate c.ns.length none)],.non,S2,.cons_ (.ref_ (fu sr1.len)) (by simpa using i1.mono ee),(sr1.same s1).new (o:=.ins c (List.replicate c.ns.length none)) hx2 ⟨dx,[],aJ,InF.new nd few⟩,h3,fun m2 v2 H2 e2 sr2 i2=>⟨i2.of_non,?_⟩⟩
  exact post m2 _ H2 ((e1.trans ee).trans e2) sr2 (.ref_ (e2.get (fu sr1.len)))
 |_=>simp at h4
theorem Ih{x:Str}{g:Fn}{k:Nat}{ps:List Str}{es:List Expr}{cr:CA}{p:Pos}(M:CMk X.prog X.w X.K X.mg X.base c x k ps g)(hr:jg (k+1) X.A)(hg:Gl X x)(ha:QA X (e::es) cr)
  (hdb:(x == ("__debug__":Str))=false:=by decide) (he:starEach (e::es) X.env=(false,eval e X.env)::starEach es X.env:=by rfl) (hpl:(backTo pos (starEach es X.env)).any (·.1)=false:=by rfl):QE X (.Call (.Name x p) (e::es) [] pos) (cCB (oM c g) cr):=by
 obtain⟨fa,fd,hm,F,hb,hx⟩:=M.ex
 exact(AR hm F hr hg hx hb .nil By ha.h hdb he hpl).imp (u6 M.nd M.few)
theorem ym{x:Str}{g:Fn}{k:Nat}{ps:List Str}{p:Pos}(M:CMk X.prog X.w X.K X.mg X.base c x k ps g)(hr:jg (k+1) X.A)(hg:Gl X x)
  (hdb:(x == ("__debug__":Str))=false:=by decide):QE X (.Call (.Name x p) [] [] pos) (cCB (oM c g) aC):=by
 obtain⟨fa,fd,hm,F,hb,hx⟩:=M.ex
 refine(xw hm F hr hg hx hb .nil By hdb).imp fun σ H Q h=>?_
 obtain⟨m,ρ,S,us,S',sr,lr,hc,k⟩:=u6 M.nd M.few σ H Q h
 cases hc
 exact k m [] H .refl sr .nil_
def mN:CE:=fun _ S=>some (.ref S.length,S++[.dic []])
theorem kS:QE X (.Dict [] [] pos) mN:=xA.imp fun σ H Q hz=>mC hz fun m ρ S u S' sr lr hc post=>by
 cases hc
 exact fun p hp=>post (m++[p]) _ _ (.new (cg hp _)) (sr.new hp ⟨[],aJ,.nil_⟩) (.ref_ (fu sr.len))
def qL(cd ck cx:CE):CE:=fun ρ S=>(cd ρ S).bind fun p=>match p.1 with
 |.ref l=>match p.2[l]? with
  |some (.dic _)=>(ck ρ p.2).bind fun q=>(cx ρ q.2).bind fun r=>match r.2[l]? with
   |some (.dic kus)=>(my q.1).bind fun k=>some ((aP kus k).getD r.1,r.2)
   |_=>none
  |_=>none
 |_=>none
theorem uP{o e f:Expr}{cd ck cx:CE}{apos:Pos}(hu:X.A.units+1<cLine)(ho:QE X o cd)(he:QE X e ck)(hf:QE X f cx)(hm:M2 X o "get" apos e f pos):QE X (.Call (.Attribute o "get" apos) [e,f] [] pos) (qL cd ck cx):=(xB hu ho he hf hm).imp fun σ H Q hz=>mC hz fun m ρ S u S' sr lr hc post=>by
 obtain⟨⟨x,S1⟩,h1,h⟩:=Option.bind_eq_some_iff.mp hc
 refine⟨m,ρ,S,x,S1,sr,lr,h1,fun m1 v1 H1 e1 sr1 i1=>?_⟩
 cases x with
 |ref l=>
  simp only at h
  split at h<;>try cases h
  rename_i kus0 hS
  obtain⟨⟨ku,S2⟩,h2,h⟩:=Option.bind_eq_some_iff.mp h
  obtain⟨⟨xu,S3⟩,h3,h⟩:=Option.bind_eq_some_iff.mp h
  simp only at h
  split at h<;>try cases h
  rename_i kus hS3
  obtain⟨k,hk,h⟩:=Option.bind_eq_some_iff.mp h
  cases h
  obtain⟨a,ha,rfl⟩:=i1.of_ref
  obtain⟨a',ha',kvs0,hx0,_⟩:=sr1.get hS
  rw[ha]at ha';cases ha'
  refine⟨a,rfl,.inl ⟨kvs0,.inl hx0⟩,m1,ρ,S1,ku,S2,sr1,lr.mono e1,h2,fun m2 v2 H2 e2 sr2 i2=>⟨m2,ρ,S2,xu,_,sr2,lr.mono (e1.trans e2),h3,fun m3 v3 H3 e3 sr3 i3=>?_⟩⟩
  obtain⟨a',ha',kvs,hx,ip⟩:=sr3.get hS3
  rw[(e2.trans e3).get ha]at ha';cases ha'
  have ek:=jB (i2.mono e3) hk
  subst ek
  have rf:=IsP.val (k:=k) ip
  refine⟨_,DGet.k hx,post m3 _ H3 ((e1.trans e2).trans e3) sr3 ?_⟩
  cases hv:oW kvs k with
  |none=>
   cases hw:aP kus k with
   |none=>exact i3
   |some w=>rw[hv,hw]at rf;exact rf.elim
  |some v=>
   cases hw:aP kus k with
   |none=>rw[hv,hw]at rf;exact rf.elim
   |some w=>rw[hv,hw]at rf;exact rf
 |_=>simp at h
end
def mQ(n:Nat)(caps:List Nat)(ρ:Rho):Rho:=List.replicate n none++caps.map fun i=>(ρ[i]?).getD none
open Classical in
def iT(ok:Sto->Prop)(g:CG)(ce:CE)(l:Nat):List U->Rho->Sto->Option Sto
 |[],_,S=>if ok S then some S else none
 |u::us,ρ,S=>if ok S then(g u ρ S).bind fun p=>(ce p.1 p.2).bind fun r=>match r.2[l]? with
  |some (.lst ys)=>if ys.length<LIM then iT ok g ce l us p.1 (r.2.set l (.lst (ys++[r.1])))else none
  |_=>none else none
def fT(ci:CI)(g:CG)(ce:CE)(n:Nat)(caps:List Nat):CE:=fun ρ S=>(ci ρ S).bind fun p=>(iT p.2.1 g ce p.2.2.length p.1 (mQ n caps ρ) (p.2.2++[.lst []])).bind fun S'=>some (.ref p.2.2.length,S')
section
variable{X:Cx}{K:PySem.W.Frag}
theorem yT{m:List Addr}{H:Hp}{ρ:Rho}{σ:L2.St}{n:Nat}{caps:List Nat}(lr:Lr K m H ρ σ):Lr K m H (mQ n caps ρ) (OG.stC n caps σ):=by
 refine⟨by simp[mQ,OG.stC],fun j u e=>?_⟩
 unfold mQ at e
 unfold OG.stC
 by_cases c:j<n
 ·rw[List.getElem?_append_left (by simpa using c),List.getElem?_replicate]at e
  split at e<;>cases e
 ·rw[List.getElem?_append_right (by simp;omega),List.getElem?_map]at e ⊢
  simp only[List.length_replicate]at e ⊢
  cases q:caps[j-n]? with
  |none=>rw[q]at e;simp at e
  |some i=>
   rw[q]at e
   simp only[Option.map_some,Option.some.injEq]at e ⊢
   have e2:ρ[i]?=some (some u):=by
    cases z:ρ[i]? with
    |none=>rw[z]at e;simp at e
    |some y=>rw[z]at e;simp at e;rw[e]
   obtain⟨v,h1,h2⟩:=lr.at_ i u e2
   exact⟨v,by rw[h1];rfl,h2⟩
theorem zY{g:CG}{ce:CE}{n:Nat}{caps:List Nat}{J:It}{us:List U}{ok:Sto->Prop}{Q:VK}{m1:List Addr}{H1:Hp}{S1 S':Sto}{ρ:Rho}{σ:L2.St}{l:Addr}(sr1:Sr K m1 S1 H1)(lr:Lr K m1 H1 ρ σ)(ito:AF K J m1 H1 us ok)(hl:H1 l=none)(h2:iT ok g ce S1.length us (mQ n caps ρ) (S1++[.lst []])=some S')
  (post:∀m2 H2,Ext K (m1++[l]) (upd H1 l (.lst [])) m2 H2->Sr K m2 S' H2->Q (.ref l) H2) :
  ∃W:Nat->Nat->L2.St->Hp->Prop,(∃m,W 0 m (OG.stC n caps σ) (upd H1 l (.lst [])))/\
 ∀i m σ' H2,W i m σ' H2->(J.stop i H2/\Q (.ref l) H2)\/(J.go i H2/\∃N:L2.St->Hp->Prop,(∀σ'' H',N σ'' H'->∃m',m'<m/\W (i+1) m' σ'' H')/\
  ∀x H3,J.yld i H2 x H3->tG K g x σ' H3 fun σ2 H4=>tE K ce σ2 H4 fun v H5=>∃ys,H5 l=some (.lst ys)/\ys.length<sizeLine/\N σ2 (upd H5 l (.lst (ys++[v])))):=by
 have ee:Ext K m1 H1 (m1++[l]) (upd H1 l (.lst [])):=.new (cg hl _)
 let W:Nat->Nat->L2.St->Hp->Prop:=fun i k σ2 H2=>k=us.length-i/\i<=us.length/\∃m2 ρ2 S2,Ext K (m1++[l]) (upd H1 l (.lst [])) m2 H2/\Sr K m2 S2 H2/\Lr K m2 H2 ρ2 σ2/\iT ok g ce S1.length (us.drop i) ρ2 S2=some S'
 refine⟨W,⟨us.length,by simp,Nat.zero_le _,m1++[l],mQ n caps ρ,S1++[.lst []],.refl,sr1.new (o:=.lst []) hl ⟨[],aJ,.nil_⟩,yT (lr.mono ee),by simpa using h2⟩,?_⟩
 rintro i k σ2 H2 ⟨rfl,hi,m2,ρ2,S2,e2,sr2,lr2,hl2⟩
 by_cases hlt:i<us.length
 ·have hu:=List.getElem?_eq_getElem hlt
  rw[n5 hu]at hl2
  unfold iT at hl2
  split at hl2
  ·rename_i hok
   obtain⟨⟨ρ3,S3⟩,h3,hl2⟩:=Option.bind_eq_some_iff.mp hl2
   obtain⟨⟨u4,S4⟩,h4,hl2⟩:=Option.bind_eq_some_iff.mp hl2
   simp only at hl2
   split at hl2<;>try cases hl2
   rename_i ys hys
   split at hl2<;>try cases hl2
   rename_i gK
   obtain⟨hgo,hy⟩:=(ito m2 S2 H2 i (ee.trans e2) sr2 hok).1 _ hu
   refine .inr ⟨hgo,W (i+1) (us.length-(i+1)),fun σ' H' w'=>⟨_,by omega,w'⟩,fun x H3 y=>?_⟩
   obtain⟨e3,sr3,ix⟩:=hy x H3 y
   refine⟨m2,ρ2,S2,_,ρ3,S3,sr3,lr2.mono e3,ix,h3,fun m4 σ4 H4 e4 sr4 lr4=>⟨m4,ρ3,S3,u4,S4,sr4,lr4,h4,fun m5 v5 H5 e5 sr5 i5=>?_⟩⟩
   obtain⟨a',ha',xs,hx,il⟩:=sr5.get hys
   have ha:m5[S1.length]?=some l:=(((e2.trans e3).trans e4).trans e5).get (fu sr1.len)
   rw[ha]at ha';cases ha'
   have eu:Ext K m5 H5 m5 (upd H5 l (.lst (xs++[v5]))):=.of (sr5.keep ha _)
   refine⟨xs,hx,Jj (by rw[il.length];exact gK),rfl,hlt,m5,ρ3,_,((((e2.trans e3).trans e4).trans e5).trans eu),sr5.put (o:=.lst (ys++[u4])) ha ⟨_,aJ,(il.append (.cons_ i5 .nil_)).mono eu⟩,(lr4.mono (e5.trans eu)),hl2⟩
  ·cases hl2
 ·have e:i=us.length:=by omega
  subst e
  rw[List.drop_length]at hl2
  unfold iT at hl2
  split at hl2
  ·rename_i hok
   cases hl2
   exact .inl ⟨(ito m2 _ H2 _ (ee.trans e2) sr2 hok).2 (Nat.le_refl _),post m2 H2 e2 sr2⟩
  ·cases hl2
theorem Cq{ci:CI}{g:CG}{ce:CE}{n:Nat}{caps:List Nat}:∀σ H Q,tE K (fT ci g ce n caps) σ H Q->Ew (tI K ci) (tG K g) (tE K ce) n caps σ H Q:=by
 rintro σ H Q ⟨m,ρ,S,u,S',sr,lr,hc,post⟩
 obtain⟨⟨us,ok,S1⟩,h1,h2⟩:=Option.bind_eq_some_iff.mp hc
 obtain⟨S2,h2,h3⟩:=Option.bind_eq_some_iff.mp h2
 cases h3
 refine⟨m,ρ,S,us,ok,S1,sr,lr,h1,fun m1 H1 J e1 sr1 ito l hl=>?_⟩
 have ee:Ext K m1 H1 (m1++[l]) (upd H1 l (.lst [])):=.new (cg hl _)
 exact zY sr1 (lr.mono e1) ito hl h2 fun m2 H2 e2 sr2=>post m2 _ H2 ((e1.trans ee).trans e2) sr2 (.ref_ (e2.get (fu sr1.len)))
theorem mw{Nc capN tn:List Str}{scope:Scope}{cl:List (Str×Addr)}{n:Nat}{caps:List Nat}{tg iter elt:Expr}{pos:Pos}{ci:CI}{g:CG}{ce:CE}
  (hc:X.calm=true) (hi:QI X tg iter ci) (hg:∀s3 H3 fp,WG (cxC X Nc scope cl s3 H3 fp) tg (tG X.K g)) (he:∀s3 H3 fp,WE (cxC X Nc scope cl s3 H3 fp) elt (tE X.K ce))
  (hclos:closureFor scope X.env=pure cl) (hkind:scope.kind=.function) (hnl:∀x∈scope.names,x.2=.local->scope.names.lookup x.1=some .local) (hcell:∀x∈scope.names,x.2≠.cell)
  (hcl:vN X.env cl) (hhas:((relabel scope X.env).names.all fun p=>!(p.2 == .cell||p.2 == .free)||(cl.lookup p.1).isSome)=true)
  (hcap:Paired (Cap X scope cl) caps capN) (hN:Nc=tn++capN) (hn:tn.length=n)
  (hs:∀x,foldedSetIterable iter X.env x=pure x:=by intro _;rfl) :
  QE X (.ListComp elt [⟨tg,iter,[],0⟩] scope pos) (fT ci g ce n caps):=(AU hc hi hg he hclos hkind hnl hcell hcl hhas hcap hN hn hs).imp Cq
def kB:Fn
 |[.tup us],S=>some (.int us.length,S)
 |[.ref l],S=>match S[l]? with
  |some (.lst us)=>some (.int us.length,S)
  |some (.dic us)=>some (.int us.length,S)
  |_=>none
 |[.kl ns],S=>some (.int ns.length,S)
 |_,_=>none
abbrev MB(K:PySem.W.Frag):List V->Hp->VK->Prop:=fun xs H Q=>(∃p ys,xs=[.ref p]/\(SqL K H p ys\/SqT K H p ys)/\Q (.int ys.length) H)\/∃a kvs,xs=[V.ref a]/\H a=some (.dK kvs)/\Q (.int kvs.length) H
theorem mI:gQ X (.builtin "len") (MB X.K):=sP.or z5
theorem IsL.one{m:List Addr}{H:Hp}{vs:List V}{u:U}(h:IsL K m H vs [u]):∃v,vs=[v]/\Is K m H v u:=by
 obtain⟨x,r,rfl,i,t⟩:=h.of_cons
 rw[t.of_nil];exact⟨x,rfl,i⟩
theorem mH:oS K (MB K) kB:=by
 intro m S H us vs u S' Q sr i hf post
 match us,hf with
 |[.tup ws],hf=>
  cases hf
  obtain⟨v,rfl,iv⟩:=i.one
  obtain⟨a,xs,rfl,sa,la⟩:=iv.of_tup
  exact .inl ⟨a,xs,rfl,.inr sa,by rw[la.length];exact post m _ H .refl sr .int_⟩
 |[.ref l],hf=>
  obtain⟨v,rfl,iv⟩:=i.one
  obtain⟨a,ha,rfl⟩:=iv.of_ref
  simp only[kB]at hf
  split at hf<;>try cases hf
  ·rename_i ws hS
   obtain⟨a',ha',xs,hx,la⟩:=sr.get hS
   rw[ha]at ha';cases ha'
   exact .inl ⟨a,xs,rfl,.inl (SqL.of hx),by rw[la.length];exact post m _ H .refl sr .int_⟩
  ·rename_i ws hS
   obtain⟨a',ha',xs,hx,la⟩:=sr.get hS
   rw[ha]at ha';cases ha'
   exact .inr ⟨a,xs,rfl,hx,by rw[IsP.length la];exact post m _ H .refl sr .int_⟩
 |[.kl ns],hf=>
  cases hf
  obtain⟨v,rfl,iv⟩:=i.one
  obtain⟨a,rfl,ka⟩:=iv.of_kl
  exact .inl ⟨a,_,rfl,.inl ka.sq,by rw[List.length_map];exact post m _ H .refl sr .int_⟩
def ud:Fn
 |[.tup us],S=>some (.ref S.length,S++[.lst us])
 |[.ref l],S=>match S[l]? with
  |some (.lst us)=>some (.ref S.length,S++[.lst us])
  |_=>none
 |_,_=>none
theorem IV:oS K (fun xs H Q=>∃p ys,xs=[.ref p]/\(SqL K H p ys\/SqT K H p ys)/\∀l,H l=none->Q (.ref l) (upd H l (.lst ys))) ud:=by
 intro m S H us vs u S' Q sr i hf post
 match us,hf with
 |[.tup ws],hf=>
  cases hf
  obtain⟨v,rfl,iv⟩:=i.one
  obtain⟨a,xs,rfl,sa,la⟩:=iv.of_tup
  exact⟨a,xs,rfl,.inr sa,fun l hl=>ft sr la post hl⟩
 |[.ref l],hf=>
  obtain⟨v,rfl,iv⟩:=i.one
  obtain⟨a,ha,rfl⟩:=iv.of_ref
  simp only[ud]at hf
  split at hf<;>try cases hf
  rename_i ws hS
  obtain⟨a',ha',xs,hx,la⟩:=sr.get hS
  rw[ha]at ha';cases ha'
  exact⟨a,xs,rfl,.inl (SqL.of hx),fun l hl=>ft sr la post hl⟩
def mz:Fn
 |[.tup us],S=>some (.tup us,S)
 |[.ref l],S=>match S[l]? with
  |some (.lst us)=>some (.tup us,S)
  |_=>none
 |_,_=>none
theorem tN:oS K (fun xs H Q=>∃p ys,xs=[.ref p]/\((SqL K H p ys/\∀l,H l=none->Q (.ref l) (upd H l (.tup ys)))\/(SqT K H p ys/\Q (.ref p) H))) mz:=by
 intro m S H us vs u S' Q sr i hf post
 match us,hf with
 |[.tup ws],hf=>
  cases hf
  obtain⟨v,rfl,iv⟩:=i.one
  obtain⟨a,xs,rfl,sa,la⟩:=iv.of_tup
  exact⟨a,xs,rfl,.inr ⟨sa,post m _ H .refl sr iv⟩⟩
 |[.ref l],hf=>
  obtain⟨v,rfl,iv⟩:=i.one
  obtain⟨a,ha,rfl⟩:=iv.of_ref
  simp only[mz]at hf
  split at hf<;>try cases hf
  rename_i ws hS
  obtain⟨a',ha',xs,hx,la⟩:=sr.get hS
  rw[ha]at ha';cases ha'
  exact⟨a,xs,rfl,.inl ⟨SqL.of hx,fun l hl=>p9 sr la post hl⟩⟩
def FW:Fn
 |[.int i],S=>some (.int i,S)
 |[.bl b],S=>some (.int (if b then 1 else 0),S)
 |_,_=>none
theorem LI:oS K (fun xs H Q=>(∃i,xs=[.int i]/\Q (.int i) H)\/∃k,xs=[.bl k]/\Q (.int (if k then 1 else 0)) H) FW:=by
 intro m S H us vs u S' Q sr i hf post
 match us,hf with
 |[.int j],hf=>
  cases hf
  obtain⟨v,rfl,iv⟩:=i.one
  exact .inl ⟨j,by rw[iv.of_int],post m _ H .refl sr .int_⟩
 |[.bl j],hf=>
  cases hf
  obtain⟨v,rfl,iv⟩:=i.one
  exact .inr ⟨j,by rw[iv.of_bl],post m _ H .refl sr .int_⟩
def wq:List U->Option (List Int)
 |[]=>some []
 |.int i::r=>(wq r).map (i::·)
 |_=>none
def GC:List U->Option (List Bool)
 |[]=>some []
 |.bl i::r=>(GC r).map (i::·)
 |_=>none
theorem vo:∀{us:List U} {ns:List Int},wq us=some ns->us=ns.map U.int
 |[],ns,h=>by cases h;rfl
 |u::r,ns,h=>by
  cases u<;>simp only[wq]at h<;>try cases h
  obtain⟨ms,e,h⟩:=Option.map_eq_some_iff.mp h
  subst h
  rw[vo e];rfl
theorem sd:∀(ns:List Int),wq (ns.map U.int)=some ns
 |[]=>rfl
 |n::r=>by simp[wq,sd r]
theorem Ag:∀{us:List U} {ns:List Bool},GC us=some ns->us=ns.map U.bl
 |[],ns,h=>by cases h;rfl
 |u::r,ns,h=>by
  cases u<;>simp only[GC]at h<;>try cases h
  obtain⟨ms,e,h⟩:=Option.map_eq_some_iff.mp h
  subst h
  rw[Ag e];rfl
theorem qM:∀(ns:List Bool),GC (ns.map U.bl)=some ns
 |[]=>rfl
 |n::r=>by simp[GC,qM r]
theorem IsL.ints{m:List Addr}{H:Hp}:∀{xs:List V} {ns:List Int},IsL K m H xs (ns.map U.int)->xs=ns.map V.int
 |xs,[],h=>h.of_nil
 |xs,n::ns,h=>by
  obtain⟨x,r,rfl,i,t⟩:=h.of_cons
  rw[IsL.ints t,i.of_int];rfl
theorem IsL.bls{m:List Addr}{H:Hp}:∀{xs:List V} {ns:List Bool},IsL K m H xs (ns.map U.bl)->xs=ns.map V.bl
 |xs,[],h=>h.of_nil
 |xs,n::ns,h=>by
  obtain⟨x,r,rfl,i,t⟩:=h.of_cons
  rw[IsL.bls t,i.of_bl];rfl
theorem jT{m:List Addr}{H:Hp}:∀(ns:List Int),IsL K m H (ns.map V.int) (ns.map U.int)
 |[]=>.nil_
 |n::ns=>.cons_ .int_ (jT ns)
def Dy:Fn
 |[.ref l],S=>match S[l]? with
  |some (.lst us)=>(GC us).bind fun bs=>some (.bl (bs.all id),S)
  |_=>none
 |_,_=>none
theorem IW:oS K (fun xs H Q=>∃(p:Addr) (bs:List Bool),xs=[.ref p]/\SqL K H p (bs.map V.bl)/\Q (.bl (bs.all id)) H) Dy:=by
 intro m S H us vs u S' Q sr i hf post
 match us,hf with
 |[.ref l],hf=>
  obtain⟨v,rfl,iv⟩:=i.one
  obtain⟨a,ha,rfl⟩:=iv.of_ref
  simp only[Dy]at hf
  split at hf<;>try cases hf
  rename_i ws hS
  obtain⟨bs,hb,h⟩:=Option.bind_eq_some_iff.mp hf
  cases h
  obtain⟨a',ha',xs,hx,la⟩:=sr.get hS
  rw[ha]at ha';cases ha'
  rw[Ag hb]at la
  rw[la.bls]at hx
  exact⟨a,bs,rfl,SqL.of hx,post m _ H .refl sr .bl_⟩
inductive Ty where
 |non|bool|int|str|tuple|list|dict
def Ty.nm:Ty->String
 |.non=>"NoneType"|.bool=>"bool"|.int=>"int"|.str=>"str"|.tuple=>"tuple"|.list=>"list"|.dict=>"dict"
def tyU:U->Sto->Option Ty
 |.non,_=>some .non|.bl _,_=>some .bool|.int _,_=>some .int|.str _,_=>some .str|.tup _,_=>some .tuple
 |.ref l,S=>match S[l]? with
  |some (.lst _)=>some .list
  |some (.dic _)=>some .dict
  |_=>none
 |.kl _,_=>none
def AA:Ty->Ty->Bool
 |.non,.non=>true|.bool,.bool=>true|.bool,.int=>true|.int,.int=>true|.str,.str=>true|.tuple,.tuple=>true|.list,.list=>true|.dict,.dict=>true
 |_,_=>false
theorem nP(a b:Ty)(hb:b≠.non):PySem.W.kitOne K (.type a.nm) (.type b.nm)=some (AA a b):=by
 cases b<;>first|exact absurd rfl hb|(cases a<;>rfl)
abbrev Nk(K:PySem.W.Frag):List V->Hp->VK->Prop:=fun xs H Q=>(∃(x:V) (T:String) (t:Value) (k:Bool),xs=[x,.ty T]/\vM K H x t/\PySem.W.kitOne K t (.type T)=some k/\Q (.bl k) H)\/
 ∃(a:Addr) (ys:List V) (T:String) (k:Bool),xs=[.ref a,.ty T]/\SqT K H a ys/\PySem.W.kitOne K (.type "tuple") (.type T)=some k/\Q (.bl k) H
theorem LL:gQ X (.builtin "isinstance") (Nk X.K):=by
 refine ui.or ?_
 rintro pins s σ H xs us Q I r ⟨a,ys,T,k,rfl,sq,e,q⟩
 obtain⟨u,w',rfl,ru,rw'⟩:=HI r
 cases rw'
 cases ru
 obtain⟨its,rv,ht,hz⟩:=I.tuple sq
 obtain⟨o,h1,h2,_⟩:=ht
 exact PySem.W.kia_one PySem.W.kitx_tuple I.kIn ⟨o,h1,h2⟩ e (fun z=>nomatch z) fun tk=>⟨.bl k,H,I.tok tk,rfl,q⟩
def Cv(T:Ty)(ca:CE):CE:=fun ρ S=>(ca ρ S).bind fun p=>(tyU p.1 p.2).bind fun t=>some (.bl (AA t T),p.2)
theorem Bd{T:Ty}{e eT:Expr}{ca:CE}{p pos:Pos}(hT0:T≠.non)(he:QE X e ca)(hT:WE X eT (tC (.ty T.nm)))(hg:Gl X "isinstance")(hm:X.mg "isinstance"=none)
  (h1:starEach [e,eT] X.env=(false,eval e X.env)::starEach [eT] X.env:=by rfl) (h2:starEach [eT] X.env=(false,eval eT X.env)::starEach [] X.env:=by rfl) (hpl:(backTo pos (starEach [eT] X.env)).any (·.1)=false:=by rfl) :
  QE X (.Call (.Name "isinstance" p) [e,eT] [] pos) (Cv T ca):=(mZ LL hg hm OG.oj (fq he (fq hT kn h2) h1) (by decide) (by decide) h1 hpl).imp fun σ H Q hz=>mC hz fun m ρ S u S' sr lr hc post=>by
 obtain⟨⟨x,S1⟩,h1,h2⟩:=Option.bind_eq_some_iff.mp hc
 obtain⟨t,ht,h3⟩:=Option.bind_eq_some_iff.mp h2
 cases h3
 refine⟨m,ρ,S,x,_,sr,lr,h1,fun m1 v1 H1 e1 sr1 i1=>?_⟩
 have fin:=post m1 _ H1 e1 sr1 (Is.bl_ (b:=AA t T))
 cases x with
 |non=>cases ht;rw[i1.of_non];exact .inl ⟨_,_,_,_,rfl,.non,nP .non T hT0,fin⟩
 |bl b=>cases ht;rw[i1.of_bl];exact .inl ⟨_,_,_,_,rfl,.bl b,nP .bool T hT0,fin⟩
 |int i=>cases ht;rw[i1.of_int];exact .inl ⟨_,_,_,_,rfl,.int i,nP .int T hT0,fin⟩
 |str i=>cases ht;rw[i1.of_str];exact .inl ⟨_,_,_,_,rfl,.str i,nP .str T hT0,fin⟩
 |tup us=>
  cases ht
  obtain⟨a,xs,rfl,sa,la⟩:=i1.of_tup
  exact .inr ⟨a,xs,_,_,rfl,sa,nP .tuple T hT0,fin⟩
 |ref l=>
  obtain⟨a,ha,rfl⟩:=i1.of_ref
  simp only[tyU]at ht
  split at ht<;>try cases ht
  ·rename_i ws hS
   obtain⟨a',ha',xs,hx,la⟩:=sr1.get hS
   rw[ha]at ha';cases ha'
   exact .inl ⟨_,_,_,_,rfl,.lst hx,nP .list T hT0,fin⟩
  ·rename_i ws hS
   obtain⟨a',ha',xs,hx,la⟩:=sr1.get hS
   rw[ha]at ha';cases ha'
   exact .inl ⟨_,_,_,_,rfl,.dK hx,nP .dict T hT0,fin⟩
 |kl ns=>cases ht
def cBM(f:U->List U->Sto->Option (U×Sto))(co:CE)(cr:CA):CE:=fun ρ S=>(co ρ S).bind fun p=>match p.1 with
 |.ref l=>match p.2[l]? with
  |some (.lst _)=>(cr ρ p.2).bind fun q=>f p.1 q.1 q.2
  |_=>none
 |_=>none
def MtP(K:PySem.W.Frag)(r:V->List V->Hp->VK->Prop)(f:U->List U->Sto->Option (U×Sto)):Prop:=
 ∀m S H x v us vs u S' Q,Sr K m S H->Is K m H v x->IsL K m H vs us->f x us S=some (u,S')->lZ K m H Q u S'->r v vs H Q
theorem vJ{r:V->List V->Hp->VK->Prop}{f:U->List U->Sto->Option (U×Sto)}{co:CE}{cr:CA}(hp:MtP K r f):∀σ H Q,tE K (cBM f co cr) σ H Q->tBM K "list" r (tE K co) (tA K cr) σ H Q:=by
 rintro σ H Q ⟨m,ρ,S,u,S',sr,lr,hc,post⟩
 obtain⟨⟨x,S1⟩,h1,h2⟩:=Option.bind_eq_some_iff.mp hc
 refine⟨m,ρ,S,x,S1,sr,lr,h1,fun m1 v1 H1 e1 sr1 i1=>?_⟩
 cases x with
 |ref l=>
  simp only at h2
  split at h2<;>try cases h2
  rename_i ws hS
  obtain⟨⟨us,S2⟩,h3,h4⟩:=Option.bind_eq_some_iff.mp h2
  obtain⟨a,ha,rfl⟩:=id i1.of_ref
  obtain⟨a',ha',xs,hx,la⟩:=sr1.get hS
  rw[ha]at ha';cases ha'
  exact⟨.inl ⟨rfl,xs,SqL.of hx⟩,m1,ρ,S1,us,S2,sr1,lr.mono e1,h3,fun m2 vs H2 e2 sr2 i2=>hp m2 S2 H2 _ _ us vs u S' Q sr2 (i1.mono e2) i2 h4 (post.mono (e1.trans e2))⟩
 |_=>simp at h2
def fi:U->List U->Sto->Option (U×Sto)
 |.ref l,[u],S=>match S[l]? with
  |some (.lst us)=>if us.length<LIM then some (.non,S.set l (.lst (us++[u])))else none
  |_=>none
 |_,_,_=>none
theorem BG:MtP K yd fi:=by
 intro m S H x v us vs u S' Q sr ix i hf post
 match x,us,hf with
 |.ref l,[w],hf=>
  simp only[fi]at hf
  split at hf<;>try cases hf
  rename_i ws hS
  split at hf<;>try cases hf
  rename_i hl
  obtain⟨a,ha,rfl⟩:=ix.of_ref
  obtain⟨a',ha',xs,hx,la⟩:=sr.get hS
  rw[ha]at ha';cases ha'
  obtain⟨y,rfl,iy⟩:=i.one
  have eu:Ext K m H m (upd H a (.lst (xs++[y]))):=.of (sr.keep ha _)
  exact⟨a,xs,y,rfl,rfl,hx,Jj (by rw[la.length];exact hl),post m _ _ eu (sr.put ha ⟨_,aJ,(la.append (.cons_ iy .nil_)).mono eu⟩) .non_⟩
variable{e:Expr}{es:List Expr}{co:CE}{cr:CA}{o:Expr}{apos cpos:Pos}
theorem kY (ho : QE X o co) (ha : QA X (e :: es) cr) (hbase : attributeBase o "append" X.env (eval o X.env) = eval o X.env := by rfl) (hfew : ((backTo cpos (starEach (e :: es) X.env)).all (fun x => !x.1) && (backToKw cpos (keywordEach [] X.env)).all (fun x => x.1.isSome)
   && decide ((e::es).length+([]:List Keyword).length+(if ([]:List Keyword).isEmpty then 0 else 1)<30))=true:=by rfl) (hline:(apos.endLine == cpos.line)=true:=by rfl) (hs:starEach (e::es) X.env=(false,eval e X.env)::starEach es X.env:=by rfl) (hplain:(backTo cpos (starEach es X.env)).any (·.1)=false:=by rfl) :
  QE X (.Call (.Attribute o "append" apos) (e::es) [] cpos) (cBM fi co cr):=(xG PySem.F.plainAttrs_list PySem.F.slot_list_append PySem.F.type_list_append nG ho ha.h hbase hfew hline hs hplain).imp (vJ BG)
end
structure TC(K:PySem.W.Frag)(c:Cl)(NS:List Str):Prop where
 cl:Cls K c.C
 ns:c.ns=NS
 nas:∀f∈NS,km K c.C f
section
variable{K:PySem.W.Frag}{c:Cl}{NS:List Str}
theorem TC.ix(T:TC K c NS){i:Nat}{f:Str}(h:NS[i]?=some f):c.ns[i]?=some f:=by rw[T.ns];exact h
theorem TC.na(T:TC K c NS)(i:Nat){f:Str}(h:NS[i]?=some f):km K c.C f:=T.nas f (List.mem_of_getElem? h)
theorem TC.nm(T:TC K c NS){f:Str}(h:f∉NS):f∉c.ns:=by rw[T.ns];exact h
end
theorem _root_.L2.Fun.pure{P:Program}{w:World}{K:PySem.W.Frag}{mg:Str->Option Value}{base:Heap}{x qual:Str}{st:Stmt}{f:Addr}{fd:FuncData}{N ps:List Str}{k:Nat}{c:CS}(F:Fun K x qual st f fd)(S:aR N ps (av st))
  (hb:∀(cdv:Value) (A:Around) (outer:List Env) (s:Shared) (H:Hp) (E:XK),jg k (A.deeper (envOfC qual (av st) s.heap.objs.size f cdv))->
   WSs (w9 CX0 P w K mg base N qual (av st) f cdv A outer s H E).nox (aL st) (tS K c)):mY P w K mg base CX0 (k+1) f fd ps (A4 K (fnU N.length ps.length c)):=
 Fun.okW F S (fun vs H Q E h=>uI h) fun cdv A outer s H vs Q E hr h=>⟨_,hb cdv A outer s H E hr,zw (X:=(w9 CX0 P w K mg base N qual (av st) f cdv A outer s H E).nox) (body:=[]) (ps:=ps) rfl h⟩
def SI:Bool->Heap->Addr->Addr->Nat->Prop
 |true,h,it,a,i=>h.IsListIter it a i
 |false,h,it,a,i=>h.IsTupleIter it a i
def SA:Bool->Heap->Addr->Array Value->Prop
 |true,h,a,xs=>h.IsList a xs
 |false,h,a,xs=>h.IsTuple a xs
theorem SI.at_{b:Bool}{h h':Heap}{it a:Addr}{i:Nat}(x:SI b h it a i)(k:∀o,h.get? it=some o->h'.get? it=some o):SI b h' it a i:=by
 cases b with
 |true=>obtain⟨o,e,r⟩:=x;exact⟨o,k o e,r⟩
 |false=>obtain⟨o,e,r⟩:=x;exact⟨o,k o e,r⟩
theorem SA.at_{b:Bool}{h h':Heap}{a:Addr}{xs:Array Value}(x:SA b h a xs)(k:∀o,h.get? a=some o->h'.get? a=some o):SA b h' a xs:=by
 cases b with
 |true=>obtain⟨o,e,r⟩:=x;exact⟨o,k o e,r⟩
 |false=>obtain⟨o,e,r⟩:=x;exact⟨o,k o e,r⟩
theorem SI.obj{b:Bool}{h:Heap}{it a:Addr}{i:Nat}(x:SI b h it a i):∃o,h.get? it=some o/\∀v,o.data≠.cell v:=by
 cases b with
 |true=>obtain⟨o,e,c,d⟩:=x;exact⟨o,e,fun v z=>by rw[d]at z;cases z⟩
 |false=>obtain⟨o,e,c,d⟩:=x;exact⟨o,e,fun v z=>by rw[d]at z;cases z⟩
theorem SA.lt{b:Bool}{h:Heap}{a:Addr}{xs:Array Value}(x:SA b h a xs):a<h.objs.size:=by
 cases b with
 |true=>obtain⟨o,e,_⟩:=x;exact Heap.lt_size e
 |false=>obtain⟨o,e,_⟩:=x;exact Heap.lt_size e
section
variable{prog:Program}{w:World}{A:Around}{E:Value->Shared->Prop}{s:Shared}
theorem A0{I t:Addr}{j:Nat}{ys:Array Value}{y:Value}{Q:Value->Shared->Prop}(hI:s.heap.IsTupleIter I t j)(hT:s.heap.IsTuple t ys)(hy:ys[j]?=some y)
  (k:∀h',h'.IsTupleIter I t (j+1)->Heap.SameBut I s.heap h'->Q y { s with heap:=h' }):wpAny (model prog w) A (Builtin.SmallTypes.nextOf (.ref I)) Q E s:=by
 obtain⟨oi,gi,ci,di⟩:=id hI
 obtain⟨ot,gt,_,nt,dt⟩:=hT
 unfold Builtin.SmallTypes.nextOf
 refine wpAny_bind (wpAny_callSpecial?_slot (name:=Str.ofString "__next__") hI.typeIs PySem.F.slot_tuple_iterator_next (wpAny_call_entry PySem.F.slot_tuple_iterator_next hI.typeIs PySem.F.entry_tuple_iterator_next ?_ (PySem.F.args_tuple_iterator_next_1 _)))
 show wpAny _ _ (field (.ref I) 0 >>= _) _ _ s
 refine wpAny_bind (wpAny_field gi di (x:=.ref t) rfl ?_)
 show wpAny _ _ (ite ((Value.ref t == Value.none)=true) _ _) _ _ s
 rw[if_neg (by exact Bool.false_ne_true)]
 show wpAny _ _ (field (.ref I) 1 >>= _) _ _ s
 refine wpAny_bind (wpAny_field gi di (x:=.int j 0) rfl ?_)
 show wpAny _ _ (seqItems? (.ref t) >>= _) _ _ s
 refine wpAny_bind (wpAny_seqItems gt dt ?_)
 simp only[hy,Int.toNat_natCast]
 refine wpAny_bind (wpAny_setField gi di (by simp) (wpAny_pure ⟨y,rfl,wpAny_pure (k _ ⟨_,Heap.get?_update_self _ gi (Obj.isFreed_of_fields (Obj.data_mapFields di _)),(Obj.cls_mapFields ..).trans ci,?_⟩ (Heap.SameBut.update ..))⟩))
 rw[Obj.data_mapFields di];simp[rawInt]
theorem rB{I t:Addr}{j:Nat}{ys:Array Value}{Q:Value->Shared->Prop}(hh:A.handled=none)(hI:s.heap.IsTupleIter I t j)(hT:s.heap.IsTuple t ys)(hy:ys[j]?=none)
  (k:∀h' e,Heap.ExtBut I s.heap h'->(∃o,h'.get? e=some o/\o.cls=.type "StopIteration")->E (.ref e) { s with heap:=h' }):wpAny (model prog w) A (Builtin.SmallTypes.nextOf (.ref I)) Q E s:=by
 obtain⟨oi,gi,ci,di⟩:=id hI
 obtain⟨ot,gt,_,nt,dt⟩:=hT
 unfold Builtin.SmallTypes.nextOf
 refine wpAny_bind (wpAny_callSpecial?_slot (name:=Str.ofString "__next__") hI.typeIs PySem.F.slot_tuple_iterator_next (wpAny_call_entry PySem.F.slot_tuple_iterator_next hI.typeIs PySem.F.entry_tuple_iterator_next ?_ (PySem.F.args_tuple_iterator_next_1 _)))
 show wpAny _ _ (field (.ref I) 0 >>= _) _ _ s
 refine wpAny_bind (wpAny_field gi di (x:=.ref t) rfl ?_)
 show wpAny _ _ (ite ((Value.ref t == Value.none)=true) _ _) _ _ s
 rw[if_neg (by exact Bool.false_ne_true)]
 show wpAny _ _ (field (.ref I) 1 >>= _) _ _ s
 refine wpAny_bind (wpAny_field gi di (x:=.int j 0) rfl ?_)
 show wpAny _ _ (seqItems? (.ref t) >>= _) _ _ s
 refine wpAny_bind (wpAny_seqItems gt dt ?_)
 simp only[hy,Int.toNat_natCast]
 refine wpAny_bind (wpAny_rule (wpAny_bind (wpAny_setField gi di (by simp) ?_)))
 show wpAny _ _ (newExc (.type "StopIteration") [] >>= _) _ _ _
 simp only[newExc,newTuple];refine wpAny_bind ?_
 refine wpAny_bind (wpAny_newObj_type ?_ (by(size_fits)))
 refine wpAny_bind (m:=firstArgMember _ _) (wpAny_of_eq (a:=Value.none) (by simp only[firstArgMember]<;>rfl) ?_)
 refine wpAny_newObj_type ?_ (by(size_fits))
 simp only[raiseNew]
 refine wpAny_bind (wpAny_handled ?_)
 rw[show A.in1.handled=none from hh]
 exact wpAny_bind (wpAny_pure (wpAny_throw (k _ _ (((Heap.SameBut.update ..).extBut.push _).push _) ⟨_,Heap.get?_push_size _ rfl,rfl⟩)))
theorem Ey{b:Bool}{I t:Addr}{j:Nat}{ys:Array Value}{y:Value}{Q:Value->Shared->Prop}(hI:SI b s.heap I t j)(hT:SA b s.heap t ys)(hy:ys[j]?=some y)
  (k:∀h',SI b h' I t (j+1)->Heap.SameBut I s.heap h'->Q y { s with heap:=h' }):wpAny (model prog w) A (Builtin.SmallTypes.nextOf (.ref I)) Q E s:=by
 cases b with
 |true=>exact wpAny_nextOf_list_item hI hT hy k
 |false=>exact A0 hI hT hy k
theorem m9{b:Bool}{I t:Addr}{j:Nat}{ys:Array Value}{Q:Value->Shared->Prop}(hh:A.handled=none)(hI:SI b s.heap I t j)(hT:SA b s.heap t ys)(hy:ys[j]?=none)
  (k:∀h' e,Heap.ExtBut I s.heap h'->(∃o,h'.get? e=some o/\o.cls=.type "StopIteration")->E (.ref e) { s with heap:=h' }):wpAny (model prog w) A (Builtin.SmallTypes.nextOf (.ref I)) Q E s:=by
 cases b with
 |true=>exact wpAny_nextOf_list_end hh hI hT hy k
 |false=>exact rB hh hI hT hy k
def itO(b:Bool)(a:Addr):Obj:={ cls:=.type (if b then "list_iterator" else "tuple_iterator"),data:=.fields #[.ref a,.int 0 0] }
theorem JA{b:Bool}{a i:Addr}{h:Heap}(e:h.get? i=some (itO b a)):SI b h i a 0:=by
 cases b with
 |true=>exact⟨_,e,rfl,rfl⟩
 |false=>exact⟨_,e,rfl,rfl⟩
end
def Sq(K:PySem.W.Frag):Bool->Hp->Addr->List V->Prop
 |true,H,a,xs=>SqL K H a xs
 |false,H,a,xs=>SqT K H a xs
section
variable{X:Cx}{pins:List (Addr×Obj)}{σ:L2.St}{H:Hp}{s:Shared}{h':Heap}
theorem _root_.L2.Inv.turnedL{t':Nat}{ch:List Addr}(I:Inv X pins σ H s)(k:∀b o,b∉ch->s.heap.get? b=some o->h'.get? b=some o)(hf:∀b∈ch,xb X pins H b):Inv X pins σ H { s with heap:=h',toks:=t' }:=by
 have nit:∀b u,H b=some u->b∉ch:=fun b u e z=>by rw[(hf b z).1]at e;cases e
 refine I.step (g':=s.gens) (d':=s.drawn) (ch:=ch) (fun b hb=>⟨(hf b hb).2.2.2.1,(hf b hb).2.1,(hf b hb).2.2.2.2.1,(hf b hb).2.2.2.2.2⟩) (fun b o _ _ hc e _=>k b o hc e) (fun b o _ _ hc e _=>⟨o.slots,k b o hc e⟩) (fun _ _ _ _ n=>n)
  (fun b o hc e=>⟨o,k b o hc e⟩) (fun _ _ e=>e) (fun _ _ _ e=>e) (fun b ps e=>⟨#[],by rw[e];simp⟩) (fun m hm=>?_) (fun b u e=>?_) I.bare
 ·obtain⟨o,es,ep,ho,r⟩:=hm
  exact⟨o,es,ep,k _ o (fun z=>(hf _ z).2.1 rfl) ho,r⟩
 ·refine(I.hok b u e).stay (fun c v hc q=>k c v ?_ q) (fun _ q=>q) fun _ _ q=>q
  rcases hc with z|z
  ·rw[z];exact nit b u e
  ·exact nit c _ z
theorem _root_.L2.Inv.sq{b:Bool}{a:Addr}{xs:List V}(I:Inv X pins σ H s)(h:Sq X.K b H a xs):∃its:List Value,bW xs its/\SA b s.heap a its.toArray:=by
 cases b with
 |true=>obtain⟨its,r,p,_⟩:=I.list h;exact⟨its,r,p.isList⟩
 |false=>obtain⟨its,r,p,_⟩:=I.tuple h;exact⟨its,r,p⟩
theorem _root_.L2.Inv.sq_inj{b:Bool}{a:Addr}{xs ys:List V}(I:Inv X pins σ H s)(h:Sq X.K b H a xs)(h2:Sq X.K b H a ys):xs=ys:=by
 cases b with
 |true=>exact I.list_inj h h2
 |false=>exact I.tuple_inj h h2
end
theorem Bj{h:Heap}{ob o:Obj}{e:Addr}(q:(h.push ob).get? e=some o)(ne:e≠h.objs.size):h.get? e=some o:=(Heap.get?_push_ne h e ob ne).symm.trans q
theorem Bz{P:Program}{w:World}{H:Hp}{h:Heap}{a:Addr}{x y:V}{u v:Value}(e:h.get? a=some { cls:=.type "tuple",data:=.seq #[u,v] })(rx:cR x u)(ry:cR y v):cT P w H h a (.tup [x,y]):=
 ⟨by show 2<=sizeLine;decide,[u,v],.cons rx (.cons ry .nil),⟨_,e,rfl,_,rfl⟩⟩
section
variable{X:Cx}{pos:Pos}
def Gw:U->Sto->Option (List U×(Sto->Prop))
 |.tup us,_=>some (us,fun _=>True)
 |.ref l,S=>match S[l]? with
  |some (.lst us)=>some (us,fun S=>S[l]?=some (.lst us))
  |_=>none
 |_,_=>none
theorem HZ{K:PySem.W.Frag}{m:List Addr}{S:Sto}{H:Hp}{u:U}{v:V}{us:List U}{ok:Sto->Prop}(sr:Sr K m S H)(iu:Is K m H v u)(h:Gw u S=some (us,ok)) :
  ∃b a,v=.ref a/\(∃xs,Sq K b H a xs)/\∀m2 S2 H2,Ext K m H m2 H2->Sr K m2 S2 H2->ok S2->∃xs,Sq K b H2 a xs/\IsL K m2 H2 xs us:=by
 cases u with
 |tup ws=>
  cases h
  obtain⟨a,xs,rfl,sq,il⟩:=iu.of_tup
  exact⟨false,a,rfl,⟨xs,sq⟩,fun m2 S2 H2 e _ _=>⟨xs,e.keep.t _ _ sq,il.mono e⟩⟩
 |ref l=>
  simp only[Gw]at h
  split at h<;>try cases h
  rename_i us hS
  obtain⟨a,ha,rfl⟩:=iu.of_ref
  obtain⟨a',ha',xs,hx,il⟩:=sr.get hS
  rw[ha]at ha';cases ha'
  refine⟨true,a,rfl,⟨xs,SqL.of hx⟩,fun m2 S2 H2 e sr2 hok=>?_⟩
  obtain⟨a',ha',xs,hx,il⟩:=sr2.get hok
  rw[e.get ha]at ha';cases ha'
  exact⟨xs,SqL.of hx,il⟩
 |_=>simp[Gw]at h
end
theorem F5{b:Bool}{prog:Program}{w:World}{A:Around}(hh:A.handled=none)(it a:Addr)(hne:a≠it)(ys:Array Value) :
  Draws prog w A it [it,a] ys.size (fun i v=>ys[i]?=some v) (fun i h=>SI b h it a i/\SA b h a ys) where
 live:=fun _ _ st=>let ⟨o,ho,_⟩:=st.1.obj;⟨o,ho⟩
 frame:=fun _ _ _ st hk=>⟨st.1.at_ fun o e=>hk it (by simp) o e,st.2.at_ fun o e=>hk a (by simp) o e⟩
 item:=fun i s Q E hi st hQ=>Ey st.1 st.2 (y:=ys[i]) (by simp[hi]) fun h' it' s'=>hQ _ h' s.toks (by simp[hi]) ⟨it',st.2.at_ fun o e=>s'.extBut _ _ hne e⟩ s'
 done:=fun s Q E st hE=>m9 hh st.1 st.2 (by simp) hE
structure ESt(b:Bool)(h:Heap)(e it a:Addr)(n:Nat):Prop where
 he:∃old,IsEnum h e it n old
 hi:SI b h it a n
theorem zH(l:Addr)(ys:Array Value)(n:Nat)(dct:Option Addr)(sl:Array (Option Value)) :
  Meets (Builtin.«enumerate.__new__» ⟨[.type "enumerate",.ref l],[]⟩) (fun _ R s=>s.heap.get? l=some { cls:=.type "tuple",dict:=dct,data:=.seq ys n,slots:=sl }/\
   R (.ok (.ret (.ref (s.heap.push (itO false l)).objs.size))) { s with heap:=(s.heap.push (itO false l)).push { cls:=.type "enumerate",data:=.fields #[.none,.bool false,.ref s.heap.objs.size,rawInt 0,.none,.none] } }):=
 .of_wp fun prog w A R s q=>by
  obtain⟨hp,g,d,tk,os⟩:=s
  obtain⟨gl,q⟩:=q
  have sb:=sub_enumerate
  have tl:Heap.IsTuple (Shared.heap ⟨hp,g,d,tk,os⟩) l ys:=⟨_,gl,rfl,n,rfl⟩
  wp_walk using wpAny_loadPart' gl
  refine wpAny_stack_any (fun st=>wpAny_pure ?_)
  split
  ·rename_i c _ _ _ _ _
   cases (c == Value.type "enumerate")<;>(wp_walk using wpAny_loadPart' gl,wpAny_pyIter_tuple tl;exact⟨_,rfl,q⟩)
  ·wp_walk using wpAny_loadPart' gl,wpAny_pyIter_tuple tl
   exact⟨_,rfl,q⟩
theorem zI{b:Bool}{prog:Program}{w:World}{A:Around}{E:Value->Shared->Prop}{s:Shared}{a:Addr}{ys:Array Value}{Q:Value->Shared->Prop}(ha:SA b s.heap a ys)
  (k:∀h' e it,e≠it->s.heap.objs.size<=e->s.heap.objs.size<=it->ESt b h' e it a 0->(∀c o,s.heap.get? c=some o->h'.get? c=some o)->Q (.ref e) { s with heap:=h' }) :
  wpAny (model prog w) A (call (.type "enumerate") [.ref a]) Q E s:=by
 cases b with
 |true=>exact call_enumerate_list ha fun h' e1 e2 sz up=>k h' _ _ (by omega) (Nat.le_add_right _ _) (Nat.le_refl _) ⟨⟨_,e1⟩,e2⟩ up
 |false=>
  obtain⟨⟨c,dct,dt,sl⟩,gl,hc,n,hd⟩:=ha
  simp only at hc hd
  subst hc hd
  refine callType_new PySem.F.called_enumerate (by decide) (PySem.F.typeCall_enumerate_1 _) (PySem.F.newCall_enumerate_1 _) (fun obj=>PySem.F.args_object_init_2 obj _) PySem.F.entry_enumerate_new (zH a ys n dct sl) ⟨gl,?_⟩
  have n1:(s.heap.push (itO false a)).objs.size=s.heap.objs.size+1:=Heap.size_push ..
  have p2:=Heap.get?_push_size (s.heap.push (itO false a)) (o:={ cls:=.type "enumerate",data:=.fields #[.none,.bool false,.ref s.heap.objs.size,rawInt 0,.none,.none] }) rfl
  have p1:((s.heap.push (itO false a)).push { cls:=.type "enumerate",data:=.fields #[.none,.bool false,.ref s.heap.objs.size,rawInt 0,.none,.none] }).get? s.heap.objs.size=some (itO false a):=Heap.get?_push_of_some _ (Heap.get?_push_size _ rfl)
  rw[n1]at p2
  show _/\_
  rw[n1]
  exact⟨⟨_,p2,rfl⟩,k _ (s.heap.objs.size+1) s.heap.objs.size (Nat.ne_of_gt (Nat.lt_succ_self _)) (Nat.le_add_right _ _) (Nat.le_refl _) ⟨⟨_,p2⟩,JA p1⟩ fun c o x=>Heap.get?_push_of_some _ (Heap.get?_push_of_some _ x)⟩
theorem Cg{b:Bool}{prog:Program}{w:World}{A:Around}{E:Value->Shared->Prop}{s:Shared}{e it a:Addr}{i:Int}{j:Nat}{ys:Array Value}{old:Value}{Q:Option Value->Shared->Prop}(hh:A.in1.handled=none)(he:IsEnum s.heap e it i old)(hi:SI b s.heap it a j)(ha:SA b s.heap a ys)(hx:ys[j]?=none)
  (k:∀h',Heap.ExtBut it s.heap h'->Q none { s with heap:=h' }):wpAny (model prog w) A (pyNext (.ref e)) Q E s:=by
 have ty:s.TypeIs (.ref e) "enumerate":=⟨_,he,rfl⟩
 unfold pyNext
 refine wpAny_bind (wpAny_attempt (wpAny_callSpecial?_slot (name:=Str.ofString "__next__") ty PySem.F.slot_enumerate_next (wpAny_call_entry PySem.F.slot_enumerate_next ty PySem.F.entry_enumerate_next ?_ (PySem.F.args_enumerate_next_1 _))))
 show wpAny _ _ (field (.ref e) 2 >>= fun _=>_) _ _ _
 refine wpAny_bind (wpAny_field he rfl (x:=.ref it) rfl (wpAny_bind (m9 hh hi ha hx fun h' x he' hx'=>?_)))
 obtain⟨o,ho,co⟩:=hx'
 exact wpAny_bind (wpAny_isInstance (T:="StopIteration") (b:=true) ⟨o,ho,co⟩ isSubtype_stop (wpAny_pure (k _ he')))
def Ite(K:PySem.W.Frag)(b:Bool)(a:Addr):It:=
  ⟨fun i H=>∃xs x,Sq K b H a xs/\xs[i]?=some x,
   fun i H v H'=>∃p x,v=.ref p/\H p=none/\H'=upd H p (.tup [.int i,x])/\∀xs,Sq K b H a xs->xs[i]?=some x,
   fun i H=>∃xs,Sq K b H a xs/\xs.length<=i⟩
theorem xP{P:Program}{w:World}{K:PySem.W.Frag}{es:List Expr}{k:Nat}{pos:Pos}{b:Bool}{e it a:Addr}(ne:e≠it)(nae:a≠e)(nai:a≠it) :
  Gm P w K (.Tuple es k pos) (Ite K b a) [e,it] e (fun n h=>ESt b h e it a n) where
 mem:=by simp
 obj:=fun n h st c hc=>by
  obtain⟨⟨old,he⟩,hi⟩:=st
  simp only[List.mem_cons,List.not_mem_nil,or_false]at hc
  rcases hc with rfl|rfl
  ·exact⟨_,he,fun v q=>by cases q⟩
  ·exact hi.obj
 keep:=fun n h h' st kp=>let ⟨old,he⟩:=st.he;⟨⟨old,kp e (by simp) _ he⟩,st.hi.at_ fun o q=>kp it (by simp) o q⟩
 item:=by
  intro X hP hw hK hc n pins s σ H E Iv hf st hg
  subst hP hw hK
  obtain⟨xs,x,qa,hx⟩:=hg
  obtain⟨ia,ra,sa⟩:=Iv.sq qa
  obtain⟨u,hu,ru⟩:=ra.get hx
  obtain⟨⟨old,he⟩,hi⟩:=st
  have hlt:n<ia.toArray.size:=by simpa using (List.getElem?_eq_some_iff.mp hu).1
  refine wpAny_pyNext_enum_itemD (F5 (b:=b) (show X.A.in1.handled=none from Iv.ok.hd hc) it a nai ia.toArray) he ⟨hi,sa⟩ hlt ne (by simp[ne,Ne.symm nae]) fun y h1 tk py out1 st1 T1 sz1 up1=>⟨_,rfl,wpAny_letOwnedTupleGo_enum out1 fun h2 e2 s2=>?_⟩
  have ey:y=u:=by
   have p':ia.toArray[n]?=some y:=py
   rw[List.getElem?_toArray,hu]at p';cases p';rfl
  subst ey
  have hfr:H s.heap.objs.size=none:=Iv.hok.fresh (Nat.le_refl _)
  have elt:e<s.heap.objs.size:=Heap.lt_size he
  have ilt:it<s.heap.objs.size:=by obtain⟨o,q,_⟩:=hi.obj;exact Heap.lt_size q
  have sz:∀c∈[e,it],c<s.heap.objs.size:=fun c hc=>by
   simp only[List.mem_cons,List.not_mem_nil,or_false]at hc
   rcases hc with rfl|rfl
   ·exact elt
   ·exact ilt
  have T2:h2.get? s.heap.objs.size=some { cls:=.type "tuple",data:=.seq #[.int n tk,y] }:=s2.extBut _ _ (Nat.ne_of_gt elt) T1
  have I1:Inv X pins σ (upd H s.heap.objs.size (.tup [.int n,x])) { s with heap:=s.heap.push { cls:=.type "tuple",data:=.seq #[.int n tk,y] },toks:=s.toks }:=
   Iv.laid (fun b o e=>Heap.get?_push_of_some _ e) (Nat.le_refl _) (Bz (Heap.get?_push_size _ rfl) ⟨tk,rfl⟩ ru)
  have fr2:∀c∈[e,it],(upd H s.heap.objs.size (.tup [.int n,x])) c=none:=fun c hc=>by rw[bu (Nat.ne_of_lt (sz c hc))];exact(hf c hc).1
  have I2:Inv X pins σ (upd H s.heap.objs.size (.tup [.int n,x])) { s with heap:=h2,toks:=tk+1 }:=
   Inv.turnedL (s:={ s with heap:=s.heap.push { cls:=.type "tuple",data:=.seq #[.int n tk,y] },toks:=s.toks }) (h':=h2) (t':=tk+1) (ch:=[e,it]) I1 (fun c o hn q=>by
    by_cases ce:c=s.heap.objs.size
    ·subst ce
     have q':(s.heap.push { cls:=.type "tuple",data:=.seq #[.int n tk,y] }).get? s.heap.objs.size=some o:=q
     rw[Heap.get?_push_size _ rfl]at q'
     cases q';exact T2
    ·have q':s.heap.get? c=some o:=Bj q ce
     simp only[List.mem_cons,List.not_mem_nil,or_false,not_or]at hn
     exact s2.extBut _ _ hn.1 (up1 c o hn.1 hn.2 q')) fun c hc=>⟨fr2 c hc,(hf c hc).2⟩
  refine⟨.ref s.heap.objs.size,_,I2,rfl,⟨_,x,rfl,hfr,rfl,fun xs' q=>by rw[Iv.sq_inj q qa];exact hx⟩,⟨⟨_,by simpa using e2⟩,st1.1.at_ fun o q=>s2.extBut _ _ (Ne.symm ne) q⟩,fr2⟩
 done:=by
  intro X hP hw hK hc n pins s σ H E Iv hf st hg
  subst hP hw hK
  obtain⟨xs,qa,hx⟩:=hg
  obtain⟨ia,ra,sa⟩:=Iv.sq qa
  have la:=ra.length
  obtain⟨⟨old,he⟩,hi⟩:=st
  refine Cg (show X.A.in1.handled=none from Iv.ok.hd hc) he hi sa (by simp;omega) fun h1 up1=>⟨rfl,?_⟩
  exact Iv.turnedL (t':=s.toks) (ch:=[e,it]) (fun c o hn q=>by
   simp only[List.mem_cons,List.not_mem_nil,or_false,not_or]at hn
   exact up1 c o hn.2 q) hf
 self:=fun _ _ _ _ _ st h=>let ⟨old,he⟩:=st.he;wpAny_pyIter_enum he h
def JF(K:PySem.W.Frag)(ta:TA):TI:=fun σ H R=>ta σ H fun vs H2=>∃b a,vs=[.ref a]/\(∃xs,Sq K b H2 a xs)/\R (Ite K b a) H2
theorem Ae:bootBuiltins "enumerate"=some (.type "enumerate"):=rfl
section
variable{X:Cx}{pos:Pos}
theorem Eo{es:List Expr}{k:Nat}{tp p:Pos}{a:Expr}{ta:TA}(hg:Gl X "enumerate")(hm:X.mg "enumerate"=none)(ha:WA X [a] ta)
  (hs:starEach [a] X.env=(false,eval a X.env)::starEach [] X.env:=by rfl) (hpl:(backTo pos (starEach [] X.env)).any (·.1)=false:=by rfl):WI X (.Tuple es k tp) (.Call (.Name "enumerate" p) [a] [] pos) (JF X.K ta):=by
 constructor
 intro pins s σ H R I h
 refine wpAny_Call_Name_kw (nO I hg hm OP.Ae ?_)
 refine PyProof.Rows.callWith_type1 (thn (ha.h pos pins s σ H _ I h) fun us s1 hz=>?_) hs hpl
 obtain⟨vs,H1,I1,r1,q1⟩:=hz
 obtain⟨b,aa,rfl,⟨xs,qa⟩,q⟩:=q1
 obtain⟨u,rfl,ru⟩:=m7 r1
 cases ru
 obtain⟨ia,ra,sa⟩:=I1.sq qa
 refine zI sa fun h1 e it ne he hi st up=>?_
 obtain⟨old,hE⟩:=st.he
 refine wpAny_pyIter_enum hE ⟨e,[e,it],_,_,H1,rfl,I1.kept (t':=s1.toks) up,xP ne (Nat.ne_of_lt (Nat.lt_of_lt_of_le sa.lt he)) (Nat.ne_of_lt (Nat.lt_of_lt_of_le sa.lt hi)),st,fun c hc=>?_,q⟩
 simp only[List.mem_cons,List.not_mem_nil,or_false]at hc
 rcases hc with rfl|rfl
 ·exact I1.fpOk he (I1.hok.fresh he)
 ·exact I1.fpOk hi (I1.hok.fresh hi)
def wM(us:List U):List U:=us.zipIdx.map fun p=>.tup [.int p.2,p.1]
def zi(ca:CE):CI:=fun ρ S=>(ca ρ S).bind fun p=>(Gw p.1 p.2).bind fun x=>some (wM x.1,x.2,p.2)
theorem yg{es:List Expr}{k:Nat}{tp p:Pos}{a:Expr}{ca:CE}(hg:Gl X "enumerate")(hm:X.mg "enumerate"=none)(ha:QE X a ca)
  (hs:starEach [a] X.env=(false,eval a X.env)::starEach [] X.env:=by rfl) (hpl:(backTo pos (starEach [] X.env)).any (·.1)=false:=by rfl) :
  QI X (.Tuple es k tp) (.Call (.Name "enumerate" p) [a] [] pos) (zi ca):=(Eo hg hm (fq ha kn hs) hs hpl).imp fun σ H R hz=>wK hz fun m ρ S us ok S' sr lr hf post=>by
 obtain⟨⟨x,S1⟩,h1,h⟩:=Option.bind_eq_some_iff.mp hf
 obtain⟨⟨xs,okx⟩,h3,h⟩:=Option.bind_eq_some_iff.mp h
 cases h
 refine⟨m,ρ,S,x,_,sr,lr,h1,fun m1 v1 H1 e1 sr1 i1=>?_⟩
 obtain⟨b,aa,rfl,q1,k1⟩:=HZ sr1 i1 h3
 refine⟨b,aa,rfl,q1,post m1 H1 _ e1 sr1 fun m3 S3 H3 i e3 sr3 hok=>?_⟩
 obtain⟨vs,sq1,l1⟩:=k1 m3 S3 H3 e3 sr3 hok
 have n1:=l1.length
 refine⟨fun u hu=>?_,fun hi=>⟨vs,sq1,?_⟩⟩
 ·simp only[wM,List.getElem?_map,Option.map_eq_some_iff,List.getElem?_zipIdx]at hu
  obtain⟨⟨p,q⟩,⟨y,hp,e⟩,rfl⟩:=hu
  cases e
  obtain⟨vp,ep,ip⟩:=l1.getD hp
  refine⟨⟨vs,vp,sq1,ep⟩,fun v H4 hy=>?_⟩
  obtain⟨r,x',rfl,hr,rfl,f1⟩:=hy
  have:=f1 vs sq1
  rw[ep]at this;cases this
  have ee:Ext X.K m3 H3 m3 (upd H3 r (.tup [.int i,vp])):=.of (cg hr _)
  exact⟨ee,sr3.same (dX hr _),.tup_ (SqT.of aJ) (.cons_ (by simp only[Nat.zero_add];exact .int_) (.cons_ (ip.mono ee) .nil_))⟩
 ·simp only[wM,List.length_map,List.length_zipIdx]at hi
  omega
def nE:List (CE×CE)->Rho->Sto->Option (List (Key×U)×Sto)
 |[],_,S=>some ([],S)
 |(ck,cv)::r,ρ,S=>(ck ρ S).bind fun p=>(cv ρ p.2).bind fun q=>(my p.1).bind fun k=>(nE r ρ q.2).bind fun z=>some ((k,q.1)::z.1,z.2)
def Je(kus:List (Key×U))(au:List (Key×U)):List (Key×U):=kus.foldl (fun acc kv=>ik acc kv.1 kv.2) au
def yQ(kus:List (Key×U)):List (Key×U):=Je kus []
def JX(prs:List (CE×CE)):CE:=fun ρ S=>(nE prs ρ (S++[.dic []])).bind fun q=>match q.2[S.length]? with
 |some (.dic [])=>some (.ref S.length,q.2.set S.length (.dic (yQ q.1)))
 |_=>none
end
theorem rZ:∀{vs:List Value} {ns:List Int},IntsAre vs ns->bW (ns.map V.int) vs
 |_,_,.nil=>.nil
 |_,_,.cons n t r=>.cons ⟨t,rfl⟩ (rZ r)
theorem jq:∀{ns:List Int} {vs:List Value},bW (ns.map V.int) vs->IntsAre vs ns
 |[],_,h=>by cases h;exact .nil
 |n::ns,_,.cons r t=>by
  obtain⟨k,rfl⟩:=r
  exact .cons n k (jq t)
def yb(K:PySem.W.Frag):List V->Hp->VK->Prop:=fun xs H Q=>∃(p:Addr) (ns:List Int),xs=[.ref p]/\(SqL K H p (ns.map V.int)\/∃kvs,H p=some (.dK kvs)/\kvs.map (·.1)=ns.map Sum.inl)/\ns.length<64/\
 ∀(l:Addr) (ms:List Int),H l=none->ms.Perm ns->ms.Pairwise (·<=·)->Q (.ref l) (upd H l (.lst (ms.map V.int)))
theorem y0{κ:Type}:∀{kvs:List (κ×V)} {vs:List (κ×Value)},KV kvs vs->vs.map (·.1)=kvs.map (·.1)
 |_,_,.nil=>rfl
 |_,_,.cons r t=>by rw[List.map_cons,List.map_cons,y0 t,r.1]
theorem yS{P:Program}{w:World}{H:Hp}{h:Heap}{a:Addr}{ms:List Int}{out:Array Value}{e:Nat}(g:h.get? a=some (seqObj "list" out e))(hI:IntsAre out.toList ms)(hl:ms.length<64):cT P w H h a (.lst (ms.map V.int)):=
 ⟨by rw[List.length_map];exact Nat.le_of_lt (Nat.lt_of_lt_of_le hl (by unfold sizeLine;decide)),out.toList,e,rZ hI,by rw[Array.toArray_toList];exact g⟩
theorem qh{X:Cx}(hc:X.calm=true):gQ X (.builtin "sorted") (yb X.K):=by
 rintro pins s σ H xs us Q I r ⟨p,ns,rfl,src,h64,q⟩
 obtain⟨u,rfl,ru⟩:=m7 r
 cases ru
 rcases src with hL|⟨kvs,hD,hk⟩
 ·obtain⟨its,rv,pl,hz⟩:=I.list hL
  have hI:=jq rv
  have gK:=rv.length
  rw[List.length_map]at gK
  refine sorted_ints pl.isList hI (by omega) fun out ms a1 a2 a3=>?_
  obtain⟨e,ge⟩:=sortedAll_at s.heap its out
  have hf:=I.hok.fresh (Nat.le_succ s.heap.objs.size)
  exact⟨.ref (s.heap.objs.size+1),_,I.laid (t':=s.toks) (fun b o e=>sortedAll_old e) (Nat.le_succ _) (yS ge a1 (by rw[a2.length_eq];exact h64)),rfl,q _ ms hf a2 a3⟩
 ·obtain⟨z,hd,vs,rel,dd⟩:=zO I.hok hD
  obtain⟨ep,da⟩:=dd.dictAt
  have lkv:kvs.length=ns.length:=by have:=congrArg List.length hk;simpa using this
  have lv:vs.length=ns.length:=by rw[<-Paired.length rel];exact lkv
  have ks:vs.map (·.1)=ns.map Sum.inl:=by
   rw[<-hk];exact y0 rel
  refine Calls.call_function_entry kind_sorted plain_sorted entry_sorted (args_sorted1 _) ?_
  unfold Builtin.«sorted»
  refine wpAny_bind (m:=checkCount "sorted" 1 1 _) (wpAny_pure (wpAny_bind (PySem.W.kdu_collect (PySem.W.kdl_dict (kvs:=vs) (ep:=ep) hd) (show X.A.in1.handled=none from I.ok.hd hc) da (by rw[lv,<-lkv];exact z) fun h1 tk acc up hac=>?_)))
  have hla:acc.toList.length=ns.length:=by rw[Array.length_toList,hac.1,lv]
  have hI:IntsAre acc.toList ns:=by
   have key:∀(i:Nat) (v:Value),acc.toList[i]?=some v->∃(n:Int) (t:Tok),ns[i]?=some n/\v=Value.int n t:=fun i v e=>by
    obtain⟨k,x,e1,e2⟩:=hac.2 i v (by rw[<-Array.getElem?_toList];exact e)
    have e3:(vs.map (·.1))[i]?=some k:=by rw[List.getElem?_map,e1];rfl
    rw[ks,List.getElem?_map]at e3
    obtain⟨n,e4,e5⟩:=Option.map_eq_some_iff.mp e3
    subst e5
    rcases bM (k:=Sum.inl n) e2 with⟨j,t,e6,e7⟩|⟨j,t,e6,e7⟩
    ·cases e6;exact⟨n,t,e4,e7⟩
    ·cases e6
   clear hac
   generalize acc.toList=L at key hla
   clear ks lv lkv h64 q hk
   induction L generalizing ns with
   |nil=>cases ns with
    |nil=>exact .nil
    |cons a b=>simp at hla
   |cons a b ih=>cases ns with
    |nil=>simp at hla
    |cons c d=>
     obtain⟨n,t,e1,e2⟩:=key 0 a (by simp)
     simp at e1;subst e1;subst e2
     exact .cons _ t (ih _ (fun i v e=>by have:=key (i+1) v (by simpa using e);simpa using this) (by simpa using hla))
  refine wpAny_bind (wpAny_newList ?_ (by rw[hla,<-lkv];exact z))
  have gL:(h1.push { cls:=.type "list",data:=.seq acc.toList.toArray }).get? h1.objs.size=some (seqObj "list" acc.toList.toArray 0):=Heap.get?_push_size _ rfl
  refine wpAny_bind (wpAny_holding (wpAny_call_entry slot_list_sort ⟨_,gL,rfl⟩ entry_list_sort (list_sort_tree (s:={ s with heap:=h1.push { cls:=.type "list",data:=.seq acc.toList.toArray },toks:=tk }) gL hI (by omega) fun out ms a1 a2 a3=>⟨_,rfl,?_⟩) (args_list_sort _)))
  obtain⟨e,ge⟩:=sortedHeap_at (out:=out) gL
  have I1:Inv X pins σ H { s with heap:=h1,toks:=tk }:=I.kept up
  have hf:=I1.hok.fresh (Nat.le_refl h1.objs.size)
  refine wpAny_pure ⟨_,rfl,.ref h1.objs.size,_,Inv.laid (s:={ s with heap:=h1,toks:=tk }) (h':=sortedHeap (h1.push { cls:=.type "list",data:=.seq acc.toList.toArray }) h1.objs.size acc.toList out) (t':=tk) I1 (fun b o g1=>?_) (Nat.le_refl _) (yS ge a1 (by rw[a2.length_eq];exact h64)),rfl,q _ ms hf a2 a3⟩
  have g1:h1.get? b=some o:=g1
  have lt1:=Heap.lt_size g1
  rw[sortedHeap_old (Nat.ne_of_lt lt1) (by rw[Heap.size_push];exact Nat.lt_succ_of_lt lt1)]
  exact Heap.get?_push_of_some _ g1
def bS(ns:List Int):List Int:=ns.mergeSort (fun a b=>decide (a<=b))
theorem cu(ns:List Int):(bS ns).Perm ns:=List.mergeSort_perm ..
theorem ml(ns:List Int):(bS ns).Pairwise (·<=·):=by
 have:=List.pairwise_mergeSort (le:=fun(a b:Int)=>decide (a<=b)) (fun a b c h1 h2=>by simp at h1 h2 ⊢;omega) (fun a b=>by simp;omega) ns
 exact this.imp fun h=>by simpa using h
theorem pT{ns ms:List Int}(p:ms.Perm ns)(s:ms.Pairwise (·<=·)):ms=bS ns:=PySem.W.lks_uniq (p.trans (cu ns).symm) s (ml ns)
def wk:List (Key×U)->Option (List Int)
 |[]=>some []
 |(.inl n,_)::r=>(wk r).map (n::·)
 |_=>none
theorem vd:∀{kus:List (Key×U)} {ns:List Int},wk kus=some ns->kus.map (·.1)=ns.map Sum.inl
 |[],ns,h=>by cases h;rfl
 |(k,u)::r,ns,h=>by
  cases k<;>simp only[wk]at h<;>try cases h
  obtain⟨ms,e,h⟩:=Option.map_eq_some_iff.mp h
  subst h
  simp[vd e]
def fh:Fn
 |[.ref l],S=>match S[l]? with
  |some (.lst us)=>(wq us).bind fun ns=>if ns.length<64 then some (.ref S.length,S++[.lst ((bS ns).map U.int)])else none
  |some (.dic kus)=>(wk kus).bind fun ns=>if ns.length<64 then some (.ref S.length,S++[.lst ((bS ns).map U.int)])else none
  |_=>none
 |_,_=>none
theorem qd{K:PySem.W.Frag}:oS K (yb K) fh:=by
 intro m S H us vs u S' Q sr i hf post
 match us,hf with
 |[.ref l],hf=>
  obtain⟨v,rfl,iv⟩:=i.one
  obtain⟨a,ha,rfl⟩:=iv.of_ref
  simp only[fh]at hf
  split at hf<;>try cases hf
  ·rename_i ws hS
   obtain⟨ns,hn,h⟩:=Option.bind_eq_some_iff.mp hf
   split at h<;>try cases h
   have hc:ns.length<64:=by assumption
   obtain⟨a',ha',xs,hx,la⟩:=sr.get hS
   rw[ha]at ha';cases ha'
   rw[vo hn]at la
   rw[la.ints]at hx
   refine⟨a,ns,rfl,.inl (SqL.of hx),hc,fun p ms hp pm sm=>?_⟩
   rw[pT pm sm]
   exact ft sr (jT _) post hp
  ·rename_i ws hS
   obtain⟨ns,hn,h⟩:=Option.bind_eq_some_iff.mp hf
   split at h<;>try cases h
   have hc:ns.length<64:=by assumption
   obtain⟨a',ha',kvs,hx,ip⟩:=sr.get hS
   rw[ha]at ha';cases ha'
   refine⟨a,ns,rfl,.inr ⟨kvs,hx,by rw[ip.1,vd hn]⟩,hc,fun p ms hp pm sm=>?_⟩
   rw[pT pm sm]
   exact ft sr (jT _) post hp
section
variable{ρ:Rho}{S:Sto}{c1 c2:CS}{t ta tb:CT}{ca cb cc:CE}{cr:CA}{u x y:U}{us:List U}{i l:Nat}{f g:U->U->Sto->Option (U×Sto)}{b:Bool}
def ME(S:Sto):Option (Option U)->Option (U×Sto)
 |some (some u)=>some (u,S)
 |_=>none
theorem Kn:ah i ρ S=ME S (ρ[i]?):=rfl
theorem GG:ME S (some (some u))=some (u,S):=rfl
theorem x_c:cC u ρ S=some (u,S):=rfl
def LR(f:U->U->Sto->Option (U×Sto))(x:U)(q:U×Sto):=f x q.1 q.2
def MJ(f:U->U->Sto->Option (U×Sto))(cb:CE)(ρ:Rho)(p:U×Sto):=(cb ρ p.2).bind (LR f p.1)
theorem rg:cOp f ca cb ρ S=(ca ρ S).bind (MJ f cb ρ):=rfl
theorem jk:MJ f cb ρ (x,S)=(cb ρ S).bind (LR f x):=rfl
theorem jj:LR f x (y,S)=f x y S:=rfl
def Jr:U×Sto->Option (Bool×Sto)
 |(.bl b,S)=>some (b,S)
 |_=>none
theorem i8:aI ca ρ S=(ca ρ S).bind Jr:=by
 unfold aI;congr 1;funext p;obtain⟨u,S⟩:=p;cases u<;>rfl
theorem xf:Jr (.bl b,S)=some (b,S):=rfl
def L3(tb:CT)(ρ:Rho)(p:Bool×Sto):=if p.1=true then tb ρ p.2 else some (false,p.2)
def kOr(tb:CT)(ρ:Rho)(p:Bool×Sto):=if p.1=true then some (true,p.2)else tb ρ p.2
def MK(p:Bool×Sto):Option (Bool×Sto):=some (!p.1,p.2)
theorem Hy:Ge ta tb ρ S=(ta ρ S).bind (L3 tb ρ):=rfl
theorem CO:L3 tb ρ (true,S)=tb ρ S:=rfl
theorem Hx:L3 tb ρ (false,S)=some (false,S):=rfl
theorem KA:cOr ta tb ρ S=(ta ρ S).bind (kOr tb ρ):=rfl
theorem G5:kOr tb ρ (true,S)=some (true,S):=rfl
theorem DT:kOr tb ρ (false,S)=tb ρ S:=rfl
theorem KC:z9 ta ρ S=(ta ρ S).bind MK:=rfl
theorem Hb:MK (b,S)=some (!b,S):=rfl
def FD(cb:CE)(ρ:Rho):U×Sto->Option (U×Sto)
 |(.bl true,S)=>cb ρ S
 |(.bl false,S)=>some (.bl false,S)
 |_=>none
def LQ(cb:CE)(ρ:Rho):U×Sto->Option (U×Sto)
 |(.bl false,S)=>cb ρ S
 |(.bl true,S)=>some (.bl true,S)
 |_=>none
def Ju:U×Sto->Option (U×Sto)
 |(.bl b,S)=>some (.bl (!b),S)
 |_=>none
theorem Hw:uk ca cb ρ S=(ca ρ S).bind (FD cb ρ):=by
 unfold uk;congr 1;funext p;obtain⟨u,S⟩:=p;cases u with
 |bl b=>cases b<;>rfl
 |_=>rfl
theorem Ea:FD cb ρ (.bl true,S)=cb ρ S:=rfl
theorem D9:FD cb ρ (.bl false,S)=some (.bl false,S):=rfl
theorem Kz:Kj ca cb ρ S=(ca ρ S).bind (LQ cb ρ):=by
 unfold Kj;congr 1;funext p;obtain⟨u,S⟩:=p;cases u with
 |bl b=>cases b<;>rfl
 |_=>rfl
theorem GZ:LQ cb ρ (.bl false,S)=cb ρ S:=rfl
theorem GY:LQ cb ρ (.bl true,S)=some (.bl true,S):=rfl
theorem Ha:Cu ca ρ S=(ca ρ S).bind Ju:=by
 unfold Cu;congr 1;funext p;obtain⟨u,S⟩:=p;cases u<;>rfl
theorem DU:Ju (.bl b,S)=some (.bl (!b),S):=rfl
def y8(u:U)(q:List U×Sto):Option (List U×Sto):=some (u::q.1,q.2)
def Dr(cr:CA)(ρ:Rho)(p:U×Sto):=(cr ρ p.2).bind (y8 p.1)
theorem rj:aC ρ S=some ([],S):=rfl
theorem mj:ab ca cr ρ S=(ca ρ S).bind (Dr cr ρ):=rfl
theorem jn:Dr cr ρ (u,S)=(cr ρ S).bind (y8 u):=rfl
theorem jm:y8 u (us,S)=some (u::us,S):=rfl
def MF(p:List U×Sto):Option (U×Sto):=some (.tup p.1,p.2)
def ML(p:List U×Sto):Option (U×Sto):=some (.ref p.2.length,p.2++[.lst p.1])
theorem Ko:jV cr ρ S=(cr ρ S).bind MF:=rfl
theorem GK:MF (us,S)=some (.tup us,S):=rfl
theorem KN:iV cr ρ S=(cr ρ S).bind ML:=rfl
theorem Hf:ML (us,S)=some (.ref S.length,S++[.lst us]):=rfl
def kCB(f:Fn)(p:List U×Sto):=f p.1 p.2
theorem Gv{f:Fn}:cCB f cr ρ S=(cr ρ S).bind (kCB f):=rfl
theorem vP{f:Fn}:kCB f (us,S)=f us S:=rfl
def MM(T:Ty)(p:U×Sto):Option (U×Sto):=(tyU p.1 p.2).bind fun t=>some (.bl (AA t T),p.2)
theorem AH{T:Ty}:Cv T ca ρ S=(ca ρ S).bind (MM T):=rfl
theorem uv{T:Ty}:MM T (u,S)=(tyU u S).bind fun t=>some (.bl (AA t T),S):=rfl
def Js(c2:CS):Out×Rho×Sto->Option (Out×Rho×Sto)
 |(.nx,ρ,S)=>c2 ρ S
 |(o,ρ,S)=>some (o,ρ,S)
theorem GL:dJ ρ S=some (.nx,ρ,S):=rfl
theorem GS:bL c1 c2 ρ S=(c1 ρ S).bind (Js c2):=by
 unfold bL;congr 1;funext p;obtain⟨o,ρ,S⟩:=p;cases o<;>rfl
theorem CD:Js c2 (.nx,ρ,S)=c2 ρ S:=rfl
theorem GR:Js c2 (.rt u,ρ,S)=some (.rt u,ρ,S):=rfl
theorem GQ:Js c2 (.bk,ρ,S)=some (.bk,ρ,S):=rfl
theorem GP:Js c2 (.ct,ρ,S)=some (.ct,ρ,S):=rfl
def Jw(ρ:Rho)(p:U×Sto):Option (Out×Rho×Sto):=some (.nx,ρ,p.2)
def MI(ρ:Rho)(p:U×Sto):Option (Out×Rho×Sto):=some (.rt p.1,ρ,p.2)
theorem CM:jf ca ρ S=(ca ρ S).bind (Jw ρ):=rfl
theorem D5:Jw ρ (u,S)=some (.nx,ρ,S):=rfl
theorem GV:fO ca ρ S=(ca ρ S).bind (MI ρ):=rfl
theorem GU:MI ρ (u,S)=some (.rt u,ρ,S):=rfl
def LS(c1 c2:CS)(ρ:Rho)(p:Bool×Sto):=if p.1=true then c1 ρ p.2 else c2 ρ p.2
theorem AI:hU t c1 c2 ρ S=(t ρ S).bind (LS c1 c2 ρ):=rfl
theorem CJ:LS c1 c2 ρ (true,S)=c1 ρ S:=rfl
theorem xl:LS c1 c2 ρ (false,S)=c2 ρ S:=rfl
def kIf(ca cb:CE)(ρ:Rho)(p:Bool×Sto):=if p.1=true then ca ρ p.2 else cb ρ p.2
theorem M9:cIf t ca cb ρ S=(t ρ S).bind (kIf ca cb ρ):=rfl
theorem KZ:kIf ca cb ρ (true,S)=ca ρ S:=rfl
theorem KY:kIf ca cb ρ (false,S)=cb ρ S:=rfl
def MG(i:Nat)(ρ:Rho)(p:U×Sto):Option (Out×Rho×Sto):=some (.nx,ρ.set i (some p.1),p.2)
theorem xh:eR i ca ρ S=(ca ρ S).bind (MG i ρ):=rfl
theorem GO:MG i ρ (u,S)=some (.nx,ρ.set i (some u),S):=rfl
def FC(q:Rho×Sto):Option (Out×Rho×Sto):=some (.nx,q.1,q.2)
def MN(g:CG)(ρ:Rho)(p:U×Sto):=(g p.1 ρ p.2).bind FC
theorem Hv{g:CG}:F9 ca g ρ S=(ca ρ S).bind (MN g ρ):=rfl
theorem CN{g:CG}:MN g ρ (u,S)=(g u ρ S).bind FC:=rfl
theorem Hu:FC (ρ,S)=some (.nx,ρ,S):=rfl
theorem K1:gNm i u ρ S=some (ρ.set i (some u),S):=rfl
theorem K0{is:List Nat}:gTp is (.tup us) ρ S=(gU is us ρ).bind fun ρ'=>some (ρ',S):=rfl
theorem HA:gU [] [] ρ=some ρ:=rfl
theorem Hz{is:List Nat}:gU (i::is) (u::us) ρ=gU is us (ρ.set i (some u)):=rfl
def Jt(ρ:Rho)(S':Sto):Option (Out×Rho×Sto):=some (.nx,ρ,S')
def LO(o v:U)(ρ:Rho)(r:U×Sto):=(nW o r.1 v r.2).bind (Jt ρ)
def LP(ci:CE)(v:U)(ρ:Rho)(q:U×Sto):=(ci ρ q.2).bind (LO q.1 v ρ)
def kSI(co ci:CE)(ρ:Rho)(p:U×Sto):=(co ρ p.2).bind (LP ci p.1 ρ)
theorem Kt:dW ca cb cc ρ S=(cc ρ S).bind (kSI ca cb ρ):=rfl
theorem DS:kSI ca cb ρ (u,S)=(ca ρ S).bind (LP cb u ρ):=rfl
theorem DR:LP cb y ρ (u,S)=(cb ρ S).bind (LO u y ρ):=rfl
theorem DQ:LO x y ρ (u,S)=(nW x u y S).bind (Jt ρ):=rfl
theorem Ks:Jt ρ S=some (.nx,ρ,S):=rfl
def kIx(y:U)(S:Sto):Option O->Option (U×Sto)
 | some (.lst us)=>(match y with
   |.int i=>(atI us i).bind fun u=>some (u,S)
   |_=>none)
 |some (.dic kus)=>(my y).bind fun k=>(aP kus k).bind fun u=>some (u,S)
 |some (.fdc _ kus)=>(my y).bind fun k=>(aP kus k).bind fun u=>some (u,S)
 |_=>none
theorem D4{j:Int}:fIx (.tup us) (.int j) S=(atI us j).bind fun u=>some (u,S):=rfl
theorem KQ:fIx (.ref l) y S=kIx y S S[l]?:=by
 unfold fIx kIx;dsimp only<;>(generalize S[l]?=q;rcases q with _|o<;>first|rfl|(cases o<;>rfl))
theorem KR{j:Int}:kIx (.int j) S (some (.lst us))=(atI us j).bind fun u=>some (u,S):=rfl
theorem Hl{ep:Nat}{kus:List (Key×U)}:kIx y S (some (.fdc ep kus))=(my y).bind fun k=>(aP kus k).bind fun u=>some (u,S):=rfl
theorem KS{kus:List (Key×U)}:kIx y S (some (.dic kus))=(my y).bind fun k=>(aP kus k).bind fun u=>some (u,S):=rfl
def Kd(l:Nat)(i v:U)(S:Sto):Option O->Option Sto
 | some (.lst us)=>(match i with
   |.int k=>(ixN us.length k).bind fun j=>some (S.set l (.lst (us.set j v)))
   |_=>none)
 |some (.dic kus)=>(my i).bind fun k=>if kus.length<LIM then some (S.set l (.dic (ik kus k v)))else none
 |_=>none
theorem DP:nW (.ref l) x y S=Kd l x y S S[l]?:=by
 unfold nW Kd;dsimp only<;>(generalize S[l]?=q;rcases q with _|o<;>first|rfl|(cases o<;>rfl))
theorem xg{j:Int}:Kd l (.int j) y S (some (.lst us))=(ixN us.length j).bind fun j=>some (S.set l (.lst (us.set j y))):=rfl
theorem GN{kus:List (Key×U)}:Kd l x y S (some (.dic kus))=(my x).bind fun k=>if kus.length<LIM then some (S.set l (.dic (ik kus k y)))else none:=rfl
theorem at0{α:Type}{a:α}{r:List α}:atI (a::r) 0=some a:=by show atI _ ((0:Nat):Int)=_;exact iY rfl
theorem at1{α:Type}{a b:α}{r:List α}:atI (a::b::r) 1=some b:=by show atI _ ((1:Nat):Int)=_;exact iY rfl
theorem at2{α:Type}{a b c:α}{r:List α}:atI (a::b::c::r) 2=some c:=by show atI _ ((2:Nat):Int)=_;exact iY rfl
theorem at3{α:Type}{a b c d:α}{r:List α}:atI (a::b::c::d::r) 3=some d:=by show atI _ ((3:Nat):Int)=_;exact iY rfl
theorem ix0{n:Nat}:ixN (n+1) 0=some 0:=by simp[ixN]
theorem ix1{n:Nat}:ixN (n+1+1) 1=some 1:=by simp[ixN];omega
theorem ix2{n:Nat}:ixN (n+1+1+1) 2=some 2:=by simp[ixN];omega
def Kh(S:Sto):Option O->Option (U×Sto)
 |some (.lst us)=>some (.int us.length,S)
 |some (.dic us)=>some (.int us.length,S)
 |_=>none
theorem Hh:kB [.ref l] S=Kh S S[l]?:=by
 unfold kB Kh;dsimp only<;>(generalize S[l]?=q;rcases q with _|o<;>first|rfl|(cases o<;>rfl))
theorem Hi:Kh S (some (.lst us))=some (.int us.length,S):=rfl
theorem Hj{kus:List (Key×U)}:Kh S (some (.dic kus))=some (.int kus.length,S):=rfl
theorem Hg:kB [.tup us] S=some (.int us.length,S):=rfl
variable{j k:Int}
theorem Le:fN (.int j) (.int k) S=some (.int (j+k),S):=rfl
theorem Kq:FU (.int j) (.int k) S=some (.int (j-k),S):=rfl
theorem DV(h:DM j k):lW (.int j) (.int k) S=some (.int (j*k),S):=by simp[lW,fI,h]
theorem D6(h:w4 j k):Cd (.int j) (.int k) S=some (.int (j / k),S):=by simp[Cd,fI,h]
theorem vO(h:0<k):sv (.int j) (.int k) S=some (.int (j % k),S):=by simp[sv,fI,h]
theorem Kx(h:GD j k):GB (.int j) (.int k) S=some (.int (j^k.toNat),S):=by simp[GB,fI,h]
theorem M8:fLt (.int j) (.int k) S=some (.bl (decide (j<k)),S):=rfl
theorem KO:fLe (.int j) (.int k) S=some (.bl (decide (j<=k)),S):=rfl
theorem Mn:fGt (.int j) (.int k) S=some (.bl (decide (k<j)),S):=rfl
theorem Na:fGe (.int j) (.int k) S=some (.bl (decide (k<=j)),S):=rfl
theorem K4:fEq (.int j) (.int k) S=some (.bl (decide (j=k)),S):=rfl
theorem Hd:fNe (.int j) (.int k) S=some (.bl (!decide (j=k)),S):=rfl
theorem Hn{a c:Str}:fEq (.str a) (.str c) S=some (.bl (decide (a=c)),S):=rfl
theorem Hc{a c:Str}:fNe (.str a) (.str c) S=some (.bl (!decide (a=c)),S):=rfl
theorem K5{a c:Bool}:fEq (.bl a) (.bl c) S=some (.bl (decide (a=c)),S):=rfl
theorem KD{a c:Bool}:fNe (.bl a) (.bl c) S=some (.bl (!decide (a=c)),S):=rfl
def kFn:Out×Rho×Sto->Option (U×Sto)
 |(.rt u,_,S)=>some (u,S)
 |(.nx,_,S)=>some (.non,S)
 |_=>none
theorem j7{n k:Nat}(h:us.length=k):fnU n k c1 us S=(c1 (rF n us) S).bind kFn:=by
 unfold fnU;rw[if_pos h];congr 1;funext p;obtain⟨o,ρ,S⟩:=p;cases o<;>rfl
theorem K3:kFn (.rt u,ρ,S)=some (u,S):=rfl
theorem K2:kFn (.nx,ρ,S)=some (.non,S):=rfl
end
section
variable{ρ:Rho}{S:Sto}{c1 c2:CS}{t ta tb:CT}{ca cb cc:CE}{cr:CA}{u x y:U}{us:List U}{i l:Nat}{b:Bool}{c:Cl}{fus:List (Option U)}{g:Fn}
open Classical in
def BZ(c:Cl)(i:Nat)(S:Sto):Option O->Option (U×Sto)
 |some (.ins c' fus)=>if c'=c then(fus[i]?).join.bind fun u=>some (u,S)else none
 |_=>none
def jc(c:Cl)(i:Nat)(p:U×Sto):=JL c i p.1 p.2
theorem Hm:fA c i ca ρ S=(ca ρ S).bind (jc c i):=rfl
theorem CL:jc c i (.ref l,S)=BZ c i S S[l]?:=by
 unfold jc JL BZ;dsimp only<;>(generalize S[l]?=q;rcases q with _|o<;>first|rfl|(cases o<;>rfl))
theorem CK:BZ c i S (some (.ins c fus))=((fus[i]?).join).bind fun u=>some (u,S):=by
 unfold BZ;dsimp only;rw[if_pos rfl]
open Classical in
def Ke(c:Cl)(i l:Nat)(v:U)(S:Sto):Option O->Option Sto
 |some (.ins c' fus)=>if c'=c then some (S.set l (.ins c (fus.set i (some v))))else none
 |_=>none
def Kf(c:Cl)(i:Nat)(v:U)(ρ:Rho)(q:U×Sto):=(zD c i q.1 v q.2).bind (Jt ρ)
def MH(c:Cl)(i:Nat)(ca:CE)(ρ:Rho)(p:U×Sto):=(ca ρ p.2).bind (Kf c i p.1 ρ)
theorem MT:oP c i ca cb ρ S=(cb ρ S).bind (MH c i ca ρ):=rfl
theorem Kw:MH c i ca ρ (u,S)=(ca ρ S).bind (Kf c i u ρ):=rfl
theorem Kv:Kf c i u ρ (.ref l,S)=(Ke c i l u S S[l]?).bind (Jt ρ):=by
 unfold Kf zD Ke;dsimp only<;>(generalize S[l]?=q;rcases q with _|o<;>first|rfl|(cases o<;>rfl))
theorem Ku:Ke c i l u S (some (.ins c fus))=some (S.set l (.ins c (fus.set i (some u)))):=by
 unfold Ke;dsimp only;rw[if_pos rfl]
def y6(g:Fn)(l:Nat)(q:List U×Sto):=g (.ref l::q.1) q.2
open Classical in
def vh(c:Cl)(g:Fn)(cr:CA)(ρ:Rho)(l:Nat)(S:Sto):Option O->Option (U×Sto)
 |some (.ins c' _)=>if c'=c then(cr ρ S).bind (y6 g l)else none
 |_=>none
def Fz(c:Cl)(g:Fn)(cr:CA)(ρ:Rho)(p:U×Sto):=zE c g p.1 p.2 (cr ρ)
theorem He:oQ c g ca cr ρ S=(ca ρ S).bind (Fz c g cr ρ):=rfl
theorem DY:Fz c g cr ρ (.ref l,S)=vh c g cr ρ l S S[l]?:=by
 unfold Fz zE vh;dsimp only<;>(generalize S[l]?=q;rcases q with _|o<;>first|rfl|(cases o<;>rfl))
theorem DX:vh c g cr ρ l S (some (.ins c fus))=(cr ρ S).bind (y6 g l):=by
 unfold vh;dsimp only;rw[if_pos rfl]
theorem DW:y6 g l (us,S)=g (.ref l::us) S:=rfl
def Jv(n:Nat):U×Sto->Option (U×Sto)
 |(.non,S)=>some (.ref n,S)
 |_=>none
theorem CF:oM c g us S=(g (.ref S.length::us) (S++[.ins c (List.replicate c.ns.length none)])).bind (Jv S.length):=by
 unfold oM;congr 1;funext p;obtain⟨u,S⟩:=p;cases u<;>rfl
theorem DZ:Jv i (.non,S)=some (.ref i,S):=rfl
def kIn(neg:Bool)(x:U)(S:Sto):Option O->Option (U×Sto)
 |some (.lst us)=>if mK x=true/\us.all mK=true then some (.bl (if neg then !inU x us else inU x us),S)else none
 |some (.dic kus)=>(my x).bind fun k=>some (.bl (if neg then !(aP kus k).isSome else(aP kus k).isSome),S)
 |some (.fdc _ kus)=>(my x).bind fun k=>some (.bl (if neg then !(aP kus k).isSome else(aP kus k).isSome),S)
 |_=>none
theorem KU{neg:Bool}:fIn neg x (.ref l) S=kIn neg x S S[l]?:=by
 unfold fIn kIn;dsimp only<;>(generalize S[l]?=q;rcases q with _|o<;>first|rfl|(cases o<;>rfl))
theorem KW{neg:Bool}{kus:List (Key×U)}:kIn neg x S (some (.dic kus))=(my x).bind fun k=>some (.bl (if neg then !(aP kus k).isSome else(aP kus k).isSome),S):=rfl
theorem KP{j:Int}:my (.int j)=some (.inl j):=rfl
theorem Hk{z:Str}:my (.str z)=some (.inr z):=rfl
def LY(f:U->List U->Sto->Option (U×Sto))(x:U)(q:List U×Sto):=f x q.1 q.2
def LZ(f:U->List U->Sto->Option (U×Sto))(cr:CA)(ρ:Rho)(x:U)(S:Sto):Option O->Option (U×Sto)
 |some (.lst _)=>(cr ρ S).bind (LY f x)
 |_=>none
def kBM(f:U->List U->Sto->Option (U×Sto))(cr:CA)(ρ:Rho):U×Sto->Option (U×Sto)
 |(.ref l,S)=>LZ f cr ρ (.ref l) S S[l]?
 |_=>none
variable{fm:U->List U->Sto->Option (U×Sto)}
theorem Mo:cBM fm ca cr ρ S=(ca ρ S).bind (kBM fm cr ρ):=by
 unfold cBM;congr 1;funext p;obtain⟨u,S⟩:=p
 cases u<;>try rfl
theorem Ht:kBM fm cr ρ (.ref l,S)=LZ fm cr ρ (.ref l) S S[l]?:=rfl
theorem Hs:LZ fm cr ρ x S (some (.lst us))=(cr ρ S).bind (LY fm x):=rfl
theorem Hr:LY fm x (us,S)=fm x us S:=rfl
def Ki(l:Nat)(u:U)(S:Sto):Option O->Option (U×Sto)
 |some (.lst us)=>if us.length<LIM then some (.non,S.set l (.lst (us++[u])))else none
 |_=>none
theorem Ld:fi (.ref l) [u] S=Ki l u S S[l]?:=by
 unfold fi Ki;dsimp only<;>(generalize S[l]?=q;rcases q with _|o<;>first|rfl|(cases o<;>rfl))
theorem rm(h:us.length<LIM):Ki l u S (some (.lst us))=some (.non,S.set l (.lst (us++[u]))):=by
 unfold Ki;dsimp only;rw[if_pos h]
def LU(ku xu:U)(S:Sto):Option O->Option (U×Sto)
 |some (.dic kus)=>(my ku).bind fun k=>some ((aP kus k).getD xu,S)
 |_=>none
def LV(l:Nat)(ku:U)(r:U×Sto):=LU ku r.1 r.2 r.2[l]?
def LW(l:Nat)(cx:CE)(ρ:Rho)(q:U×Sto):=(cx ρ q.2).bind (LV l q.1)
def LX(l:Nat)(ck cx:CE)(ρ:Rho)(S:Sto):Option O->Option (U×Sto)
 |some (.dic _)=>(ck ρ S).bind (LW l cx ρ)
 |_=>none
def kDG(ck cx:CE)(ρ:Rho):U×Sto->Option (U×Sto)
 |(.ref l,S)=>LX l ck cx ρ S S[l]?
 |_=>none
theorem Nb:qL ca cb cc ρ S=(ca ρ S).bind (kDG cb cc ρ):=by
 unfold qL;congr 1;funext p;obtain⟨u,S⟩:=p
 cases u<;>try rfl
theorem La:kDG cb cc ρ (.ref l,S)=LX l cb cc ρ S S[l]?:=rfl
theorem K9{kus:List (Key×U)}:LX l cb cc ρ S (some (.dic kus))=(cb ρ S).bind (LW l cc ρ):=rfl
theorem K8:LW l cc ρ (u,S)=(cc ρ S).bind (LV l u):=rfl
theorem K7:LV l u (x,S)=LU u x S S[l]?:=rfl
theorem K6{kus:List (Key×U)}:LU u x S (some (.dic kus))=(my u).bind fun k=>some ((aP kus k).getD x,S):=rfl
theorem Ho:mN ρ S=some (.ref S.length,S++[.dic []]):=rfl
def kP3(k:Key)(u:U)(z:List (Key×U)×Sto):Option (List (Key×U)×Sto):=some ((k,u)::z.1,z.2)
def kP2(r:List (CE×CE))(ρ:Rho)(x:U)(q:U×Sto):=(my x).bind fun k=>(nE r ρ q.2).bind (kP3 k q.1)
def kP1(cv:CE)(r:List (CE×CE))(ρ:Rho)(p:U×Sto):=(cv ρ p.2).bind (kP2 r ρ p.1)
variable{pr:List (CE×CE)}
theorem MX:nE [] ρ S=some ([],S):=rfl
theorem x_p:nE ((ca,cb)::pr) ρ S=(ca ρ S).bind (kP1 cb pr ρ):=rfl
theorem MW:kP1 cb pr ρ (u,S)=(cb ρ S).bind (kP2 pr ρ u):=rfl
theorem MV:kP2 pr ρ x (u,S)=(my x).bind fun k=>(nE pr ρ S).bind (kP3 k u):=rfl
theorem MU{k:Key}{z:List (Key×U)}:kP3 k u (z,S)=some ((k,u)::z,S):=rfl
def kD1(n:Nat)(kus:List (Key×U))(S:Sto):Option O->Option (U×Sto)
 |some (.dic [])=>some (.ref n,S.set n (.dic (yQ kus)))
 |_=>none
def kD(n:Nat)(q:List (Key×U)×Sto):=kD1 n q.1 q.2 q.2[n]?
theorem Hq:JX pr ρ S=(nE pr ρ (S++[.dic []])).bind (kD S.length):=by
 unfold JX;congr 1
theorem D8{z:List (Key×U)}:kD i (z,S)=kD1 i z S S[i]?:=rfl
theorem D7{z:List (Key×U)}:kD1 i z S (some (.dic []))=some (.ref i,S.set i (.dic (yQ z))):=rfl
theorem GH:mz [.tup us] S=some (.tup us,S):=rfl
def LN(S:Sto):Option O->Option (U×Sto)
 |some (.lst us)=>some (.tup us,S)
 |_=>none
theorem GI:mz [.ref l] S=LN S S[l]?:=by
 unfold mz LN;dsimp only<;>(generalize S[l]?=q;rcases q with _|o<;>first|rfl|(cases o<;>rfl))
theorem GJ:LN S (some (.lst us))=some (.tup us,S):=rfl
theorem D1:ud [.tup us] S=some (.ref S.length,S++[.lst us]):=rfl
def kLs(S:Sto):Option O->Option (U×Sto)
 |some (.lst us)=>some (.ref S.length,S++[.lst us])
 |_=>none
theorem xk:ud [.ref l] S=kLs S S[l]?:=by
 unfold ud kLs;dsimp only<;>(generalize S[l]?=q;rcases q with _|o<;>first|rfl|(cases o<;>rfl))
theorem D3:kLs S (some (.lst us))=some (.ref S.length,S++[.lst us]):=rfl
theorem CH:FW [.bl b] S=some (.int (if b then 1 else 0),S):=rfl
theorem ga{X:Sto}{n:Nat}:(S++X)[S.length+n]?=X[n]?:=by rw[List.getElem?_append_right (Nat.le_add_right _ _),Nat.add_sub_cancel_left]
theorem ga0{X:Sto}:(S++X)[S.length]?=X[0]?:=ga (n:=0)
theorem gs{X:Sto}{n:Nat}{o:O}:(S++X).set (S.length+n) o=S++X.set n o:=by rw[List.set_append_right _ _ (Nat.le_add_right _ _),Nat.add_sub_cancel_left]
theorem gs0{X:Sto}{o:O}:(S++X).set S.length o=S++X.set 0 o:=gs (n:=0)
section
variable{ok:Sto->Prop}{gg:CG}{cbd:CS}{ρ0 ρ1:Rho}{S0 S1:Sto}
theorem cX(h:ok S):eA ok gg cbd [] ρ S=some (.nx,ρ,S):=by unfold eA;rw[if_pos h]
theorem eC(h:ok S)(hg:gg u ρ S=some (ρ0,S0))(hb:cbd ρ0 S0=some (.nx,ρ1,S1)):eA ok gg cbd (u::us) ρ S=eA ok gg cbd us ρ1 S1:=by
 rw[eA];dsimp only;rw[if_pos h,hg,Option.bind_some];dsimp only;rw[hb,Option.bind_some]
theorem qj(h:ok S)(hg:gg u ρ S=some (ρ0,S0))(hb:cbd ρ0 S0=some (.rt x,ρ1,S1)):eA ok gg cbd (u::us) ρ S=some (.rt x,ρ1,S1):=by
 rw[eA];dsimp only;rw[if_pos h,hg,Option.bind_some];dsimp only;rw[hb,Option.bind_some]
theorem jF{ce:CE}{ys:List U}(h:ok S)(hg:gg u ρ S=some (ρ0,S0))(he:ce ρ0 S0=some (x,S1))(hl:S1[l]?=some (.lst ys))(hn:ys.length<LIM):iT ok gg ce l (u::us) ρ S=iT ok gg ce l us ρ0 (S1.set l (.lst (ys++[x]))):=by
 rw[iT,if_pos h,hg,Option.bind_some];dsimp only;rw[he,Option.bind_some];dsimp only;rw[hl];dsimp only;rw[if_pos hn]
theorem lJ{ce:CE}(h:ok S):iT ok gg ce l [] ρ S=some S:=by rw[iT,if_pos h]
end
end
theorem Fv{K:PySem.W.Frag}{H:Hp}{p xs:Addr}{c:CS}{r:Rho}{σ:L2.St}{v0:Option V}{Q:VK}{nx bk ct:L2.St->Hp->Prop}(P:MS H p xs)
  (ok:∀(ns:List Int) (a b:Int),0<=a->0<=b->∃ρ' S',c (none::some (.ref 1)::r) [.lst (ns.map U.int),.lst [.ref 0,.int a,.int b]]=some (.rt (.bl true),ρ',S')) (q:∀H',Q (.bl true) H')
  (hr:r=List.replicate r.length none:=by rfl) (hl:σ.length=r.length:=by rfl):tS K c { nx:=nx,rt:=Q,bk:=bk,ct:=ct } (v0::some (.ref p)::σ) H:=by
 obtain⟨ns,a,b,h1,h2,h3,h4,h5⟩:=P
 obtain⟨ρ',S',e⟩:=ok ns a b h4 h5
 refine⟨[xs,p],_,_,_,ρ',S',⟨rfl,by simp[h3],fun l ad o e1 e2=>?_⟩,⟨by simp[hl],fun i u e1=>?_⟩,e,fun m' v H' _ _ iv=>by rw[iv.of_bl];exact q H'⟩
 ·match l,e1,e2 with
  |0,e1,e2=>
   simp at e1 e2
   subst e1;subst e2
   exact⟨_,h2,jT ns⟩
  |1,e1,e2=>
   simp at e1 e2
   subst e1;subst e2
   exact⟨_,h1,.cons_ (.ref_ rfl) (.cons_ .int_ (.cons_ .int_ .nil_))⟩
  |l+2,e1,e2=>simp at e1
 ·match i,e1 with
  |0,e1=>simp at e1
  |1,e1=>
   simp at e1
   subst e1
   exact⟨.ref p,rfl,.ref_ rfl⟩
  |i+2,e1=>
   simp at e1
   rw[hr,List.getElem?_replicate]at e1
   split at e1<;>cases e1
theorem jX{p:List Value->Prop}(h:p [])(us:List Value)(e:us.length=0):p us:=by rw[List.length_eq_zero_iff.mp e];exact h
theorem cS{n:Nat}{p:List Value->Prop}(h:∀a us,us.length=n->p (a::us))(us:List Value)(e:us.length=n+1):p us:=by
 cases us with
 |nil=>cases e
 |cons a us=>exact h a us (Nat.succ.inj e)
def Mm(H:Hp)(a:Addr)(ep:Nat)(ks:List Key):Prop:=∃ob es kvs,H a=some (.frz ob (.dK kvs))/\ob.data=.dict es ep/\kvs.map (·.1)=ks
def Itd(a:Addr)(ep:Nat)(ks:List Key):It:=
 ⟨fun i H=>i<ks.length/\Mm H a ep ks,fun i H x H'=>H'=H/\∃k,ks[i]?=some k/\x=kV k,fun i H=>ks.length<=i/\Mm H a ep ks⟩
theorem Dx{P:Program}{w:World}{H:Hp}{h:Heap}{a:Addr}{ob:Obj}{kvs:List (Key×V)}{es:Array DictEntry}{ep:Nat}(ok:HOk P w H h)(e:H a=some (.frz ob (.dK kvs)))(d:ob.data=.dict es ep):∃vs,KV kvs vs/\h.DictAt (cG P w) a vs ep:=by
 obtain⟨e1,_,_,vs,r,o,es',ep',e2,e3,e4,rest⟩:=(show cT P w H h a (.frz ob (.dK kvs))from ok a _ e)
 rw[e1]at e2;cases e2
 rw[d]at e4;cases e4
 exact⟨vs,r,ob,es,e1,e3,d,rest⟩
theorem Dq{κ:Type}:∀{kvs:List (κ×V)} {vs:List (κ×Value)} {i:Nat} {k:κ} {v:V},KV kvs vs->kvs[i]?=some (k,v)->∃u,vs[i]?=some (k,u)
 |_,_,i,k,v,.nil,h=>by simp at h
 |_,_,0,k,v,.cons (b:=(k',u)) r t,h=>by
  simp at h;subst h
  have:k=k':=r.1
  subst this
  exact⟨u,by simp⟩
 |_,_,i+1,k,v,.cons r t,h=>by
  obtain⟨u,e⟩:=Dq (i:=i) t (by simpa using h)
  exact⟨u,by simpa using e⟩
theorem Fy{k:Key}{u:Value}(h:t6 k u=true):cR (kV k) u:=by
 rcases bM h with⟨i,t,rfl,rfl⟩|⟨i,t,rfl,rfl⟩
 ·exact⟨t,rfl⟩
 ·exact⟨t,rfl⟩
theorem xQ{P:Program}{w:World}{K:PySem.W.Frag}{tg:Expr}(a it:Addr){ks:List Key}{ep:Nat} :
  Gm P w K tg (Itd a ep ks) [it] it (fun n h=>h.IsKeyIter it a n ks.length ep) where
 mem:=by simp
 obj:=fun n h st c hc=>by
  simp only[List.mem_cons,List.not_mem_nil,or_false]at hc
  subst hc
  obtain⟨o,e,_,q⟩:=st
  exact⟨o,e,fun v z=>by rw[q]at z;cases z⟩
 keep:=fun n h h' st kp=>Heap.IsKeyIter.at st fun o q=>kp it (by simp) o q
 item:=by
  intro X hP hw hK hc n pins s σ H E Iv hf st hg
  subst hP hw hK
  obtain⟨hi,ob,es,kvs,hq,d,ek⟩:=hg
  obtain⟨vs,rv,da⟩:=Dx Iv.hok hq d
  have hl:ks.length=vs.length:=by rw[<-ek,List.length_map];exact Paired.length rv
  have hi':n<kvs.length:=by rw[<-ek,List.length_map]at hi;exact hi
  have hx:kvs[n]?=some ((kvs[n]).1,(kvs[n]).2):=List.getElem?_eq_getElem hi'
  obtain⟨u,hu⟩:=Dq rv hx
  obtain⟨f0,f1,f2,f3⟩:=hf it (by simp)
  have st':s.heap.IsKeyIter it a n vs.length ep:=by rw[<-hl];exact st
  refine wpAny_pyNext_dict_item st' da hu fun key h1 hk st1 sb=>⟨key,rfl,?_⟩
  have I1:Inv X pins σ H { s with heap:=h1 }:=Iv.turned (t':=s.toks) (fun b o hb e=>(sb.2 b hb).trans e) f0 f1 f3.1 f3.2.1 f3.2.2
  have st2:h1.IsKeyIter it a (n+1) ks.length ep:=by rw[hl];exact st1
  obtain⟨o,e,c,q⟩:=id st2
  exact zq (s:={ s with heap:=h1 }) e c q (by decide) ⟨kV (kvs[n]).1,H,I1,Fy hk,⟨rfl,_,by rw[<-ek,List.getElem?_map,hx];rfl,rfl⟩,st2,fun b hb=>(hf b hb).1⟩
 done:=by
  intro X hP hw hK hc n pins s σ H E Iv hf st hg
  subst hP hw hK
  obtain⟨hi,ob,es,kvs,hq,d,ek⟩:=hg
  obtain⟨vs,rv,da⟩:=Dx Iv.hok hq d
  have hl:ks.length=vs.length:=by rw[<-ek,List.length_map];exact Paired.length rv
  obtain⟨f0,f1,f2,f3⟩:=hf it (by simp)
  have st':s.heap.IsKeyIter it a n vs.length ep:=by rw[<-hl];exact st
  exact wpAny_pyNext_dict_end (Iv.ok.hd hc) st' da (by rw[List.getElem?_eq_none_iff];omega) fun h1 eb=>⟨rfl,Iv.turned (t':=s.toks) (fun b o hb e=>eb b o hb e) f0 f1 f3.1 f3.2.1 f3.2.2⟩
 self:=fun _ _ _ _ _ st h=>wpAny_pyIter_keyiter st h
theorem mS{X:Cx}{pins:List (Addr×Obj)}{σ:L2.St}{H:Hp}{s:Shared}{a:Addr}{o u:HO}(I:Inv X pins σ H s)(e:H a=some o)(nt:∀xs,o≠.tup xs)(no:∀x,o≠.own x)(nb:∀ps,o≠.tbl ps)
  (nf:∀ob u,X.H₀ a≠some (.frz ob u)) (new:cT X.prog X.w (upd H a u) s.heap a u):Inv X pins σ (upd H a u) s:=by
 have nn:∀b,H b=none->upd H a u b=none:=fun b q=>by rw[bu (Ne.symm (cV e q))];exact q
 have ho:∀b x,H b=some (.own x)->upd H a u b=some (.own x):=fun b x q=>by
  rw[bu];exact q
  intro z;subst z;rw[e]at q;cases q;exact no _ rfl
 have ht:∀b xs,H b=some (.tup xs)->upd H a u b=some (.tup xs):=fun b x q=>by
  rw[bu];exact q
  intro z;subst z;rw[e]at q;cases q;exact nt _ rfl
 refine⟨I.ok,I.os,I.bare,⟨I.base.keep,I.base.slot,fun b ob q1 q2 q3=>nn _ (I.base.free b ob q1 q2 q3),I.base.there,fun b xs q=>ht _ _ (I.base.tups b xs q),fun b ob v q=>?_,fun b ps q=>?_⟩,I.loc,I.cell,nn _ I.free,fun x c q=>nn _ (I.freeC x c q),fun p hp=>?_,fun b v q=>?_,I.len⟩
 ·rw[bu];exact I.base.frzs b ob v q
  intro z;subst z;exact nf _ _ q
 ·obtain⟨more,q'⟩:=I.base.tbls b ps q
  refine⟨more,?_⟩
  rw[bu];exact q'
  intro z;subst z;rw[e]at q';cases q';exact nb _ rfl
 ·obtain⟨p1,p2,p3⟩:=I.pin p hp
  exact⟨p1,nn _ p2,p3⟩
 ·by_cases hb:b=a
  ·subst hb;rw[aJ]at q;cases q;exact new
  ·rw[bu hb]at q
   exact(I.hok b v q).stay (fun _ _ _ g=>g) (fun c g=>ho c b g) fun c xs g=>ht c xs g
def q5(X:Cx)(a:Addr):Prop:=∀ob u,X.H₀ a≠some (.frz ob u)
def FK(X:Cx)(tl:TE):TI:=fun σ H R=>tl σ H fun x H1=>∃a kvs,x=.ref a/\H1 a=some (.dK kvs)/\∀ob es ep,q5 X a->ob.data=.dict es ep->R (Itd a ep (kvs.map (·.1))) (upd H1 a (.frz ob (.dK kvs)))
theorem xI{X:Cx}{tg l:Expr}{tl:TE}(hl:WE X l tl):WI X tg l (FK X tl):=by
 constructor
 intro pins s σ H R I h
 refine thn (hl.h pins s σ H _ I h) fun v s1 hz=>?_
 obtain⟨x,H1,I1,r1,q1⟩:=hz
 obtain⟨a,kvs,rfl,hq,q⟩:=q1
 cases r1
 obtain⟨hz,hs,vs,rv,ob,es,ep,e1,e2,e3,rest⟩:=zO I1.hok hq
 have da:s1.heap.DictAt (cG X.prog X.w) a vs ep:=⟨ob,es,e1,e2,e3,rest⟩
 have hl:kvs.length=vs.length:=Paired.length rv
 have nf:q5 X a:=fun ob' u' z=>by have:=I1.base.frzs a ob' u' z;rw[hq]at this;cases this
 have I2:Inv X pins σ (upd H1 a (.frz ob (.dK kvs))) s1:=mS I1 hq (by simp) (by simp) (by simp) nf ⟨e1,hz,hs,vs,rv,ob,es,ep,e1,e2,e3,rest⟩
 refine wpAny_pyIter_dict hs da ?_
 refine⟨s1.heap.objs.size,[s1.heap.objs.size],_,_,_,rfl,I2.kept (t':=s1.toks) fun b o g=>Heap.get?_push_of_some _ g,xQ a _,⟨_,Heap.get?_push_size _ rfl,rfl,by rw[List.length_map,hl];rfl⟩,fun b hb=>?_,q ob es ep nf e3⟩
 simp only[List.mem_cons,List.not_mem_nil,or_false]at hb
 subst hb
 exact I2.fpOk (Nat.le_refl _) (I2.hok.fresh (Nat.le_refl _))
def J3(X:Cx)(D:xc):xc where
 nx:=fun σ H=>∃a ob kvs,q5 X a/\H a=some (.frz ob (.dK kvs))/\D.nx σ (upd H a (.dK kvs))
 rt:=fun v H=>∃a ob kvs,q5 X a/\H a=some (.frz ob (.dK kvs))/\D.rt v (upd H a (.dK kvs))
 bk:=fun σ H=>∃a ob kvs,q5 X a/\H a=some (.frz ob (.dK kvs))/\D.bk σ (upd H a (.dK kvs))
 ct:=fun σ H=>∃a ob kvs,q5 X a/\H a=some (.frz ob (.dK kvs))/\D.ct σ (upd H a (.dK kvs))
theorem lC{X:Cx}{pins:List (Addr×Obj)}{σ:L2.St}{H:Hp}{s:Shared}{a:Addr}{ob:Obj}{kvs:List (Key×V)}(I:Inv X pins σ H s)(nf:q5 X a)(e:H a=some (.frz ob (.dK kvs))):Inv X pins σ (upd H a (.dK kvs)) s:=
 mS I e (by simp) (by simp) (by simp) nf (show cT X.prog X.w H s.heap a (.frz ob (.dK kvs))from I.hok a _ e).2
theorem Eb{X:Cx}{st:Stmt}{t:TS}(h:WS X st t):WS X st (fun D σ H=>t (J3 X D) σ H):=by
 constructor
 intro pins s σ H D I k
 refine thn (h.h pins s σ H _ I k) fun f s1 q=>?_
 cases f with
 |next=>obtain⟨σ1,H1,I1,a,ob,kvs,nf,e,r⟩:=q;exact⟨σ1,_,lC I1 nf e,r⟩
 |brk=>obtain⟨σ1,H1,I1,a,ob,kvs,nf,e,r⟩:=q;exact⟨σ1,_,lC I1 nf e,r⟩
 |cont=>obtain⟨σ1,H1,I1,a,ob,kvs,nf,e,r⟩:=q;exact⟨σ1,_,lC I1 nf e,r⟩
 |ret u=>obtain⟨v,σ1,H1,I1,rv,a,ob,kvs,nf,e,r⟩:=q;exact⟨v,σ1,_,lC I1 nf e,rv,r⟩
def kU:Key->U
 |.inl i=>.int i
 |.inr x=>.str x
theorem Ds{K:PySem.W.Frag}{m:List Addr}{H:Hp}(k:Key):Is K m H (kV k) (kU k):=by
 cases k with
 |inl i=>exact .int_
 |inr x=>exact .str_
open Classical in
def uni{α:Type}(F:Nat->Option α):Option α:=if h:∃r,∀n,F n=some r then some h.choose else none
theorem xN{α:Type}{F:Nat->Option α}{r:α}(h:∀n,F n=some r):uni F=some r:=by
 have hx:∃r,∀n,F n=some r:=⟨r,h⟩
 unfold uni
 rw[dif_pos hx]
 have:=hx.choose_spec 0
 rw[h 0]at this
 exact this.symm
theorem pO{α:Type}{F:Nat->Option α}{r:α}(h:uni F=some r)(n:Nat):F n=some r:=by
 unfold uni at h
 split at h
 ·rename_i hx
  cases h
  exact hx.choose_spec n
 ·cases h
def Ab(ce:CE)(g:CG)(cb:CS):CS:=fun ρ S=>(ce ρ S).bind fun p=>match p.1 with
 |.ref l=>match p.2[l]? with
  |some (.dic kus)=>uni fun ep=>(eA (fun S'=>S'[l]?=some (.fdc ep kus)) g cb (kus.map fun q=>kU q.1) ρ (p.2.set l (.fdc ep kus))).bind fun r=>match r.2.2[l]? with
   |some (.fdc _ kus')=>some (r.1,r.2.1,r.2.2.set l (.dic kus'))
   |_=>none
  |_=>none
 |_=>none
theorem zc{K:PySem.W.Frag}{m:List Addr}{H:Hp}{a:Addr}{l ep:Nat}{kus:List (Key×U)}(ha:m[l]?=some a):AF K (Itd a ep (kus.map (·.1))) m H (kus.map fun q=>kU q.1) (fun S'=>S'[l]?=some (.fdc ep kus)):=by
 intro m2 S2 H2 i e sr hok
 obtain⟨a',ha',ob,es,kvs,hx,hd,ip⟩:=sr.get hok
 have ha2:=e.get ha
 rw[ha2]at ha';cases ha'
 have hz:Mm H2 a ep (kus.map (·.1)):=⟨ob,es,kvs,hx,hd,ip.1⟩
 refine⟨fun u hu=>?_,fun hu=>⟨by simpa using hu,hz⟩⟩
 have hi:i<kus.length:=by have:=(List.getElem?_eq_some_iff.mp hu).1;simpa using this
 refine⟨⟨by simpa using hi,hz⟩,?_⟩
 rintro x H3 ⟨rfl,k,hk,rfl⟩
 refine⟨.refl,sr,?_⟩
 rw[List.getElem?_map]at hk hu
 rw[List.getElem?_eq_getElem hi]at hk hu
 cases hk;cases hu
 exact Ds _
theorem Cc{X:Cx}{ce:CE}{g:CG}{cb:CS}:∀D σ H,tS X.K (Ab ce g cb) D σ H->HP (FK X (tE X.K ce)) (tG X.K g) (tS X.K cb) (J3 X D) σ H:=by
 rintro D σ H ⟨m,ρ,S,o,ρ',S',sr,lr,hc,post⟩
 obtain⟨⟨x,S1⟩,h1,h⟩:=Option.bind_eq_some_iff.mp hc
 refine⟨m,ρ,S,x,S1,sr,lr,h1,fun m1 v1 H1 e1 sr1 i1=>?_⟩
 cases x with
 |ref l=>
  simp only at h
  split at h<;>try cases h
  rename_i kus hS
  obtain⟨a,ha,rfl⟩:=i1.of_ref
  obtain⟨a',ha',kvs,hx,ip⟩:=sr1.get hS
  rw[ha]at ha';cases ha'
  refine⟨a,kvs,rfl,hx,fun ob es ep nf hd=>?_⟩
  obtain⟨⟨o1,ρ1,S2⟩,h2,h3⟩:=Option.bind_eq_some_iff.mp (pO h ep)
  simp only at h3
  split at h3<;>try cases h3
  rename_i ep' kus' hS2
  have kp:AE X.K H1 (upd H1 a (.frz ob (.dK kvs))):=sr1.keep ha _
  have ee:Ext X.K m1 H1 m1 (upd H1 a (.frz ob (.dK kvs))):=.of kp
  have sr2:Sr X.K m1 (S1.set l (.fdc ep kus)) (upd H1 a (.frz ob (.dK kvs))):=sr1.put ha ⟨ob,es,kvs,aJ,hd,ip.mono ee⟩
  rw[ip.1]
  refine qk sr2 (lr.mono (e1.trans ee)) (zc ha) h2 ?_
  have back:∀m3 H3,Ext X.K m1 (upd H1 a (.frz ob (.dK kvs))) m3 H3->Sr X.K m3 S2 H3->∃ob' kvs',H3 a=some (.frz ob' (.dK kvs'))/\Ext X.K m3 H3 m3 (upd H3 a (.dK kvs'))/\Sr X.K m3 (S2.set l (.dic kus')) (upd H3 a (.dK kvs')):=fun m3 H3 e3 sr3=>by
   obtain⟨a3,ha3,ob3,es3,kvs3,hx3,hd3,ip3⟩:=sr3.get hS2
   rw[e3.get ha]at ha3;cases ha3
   have e4:Ext X.K m3 H3 m3 (upd H3 a (.dK kvs3)):=.of (sr3.keep (e3.get ha) _)
   exact⟨ob3,kvs3,hx3,e4,sr3.put (e3.get ha) ⟨kvs3,aJ,ip3.mono e4⟩⟩
  have nxt:∀(R:L2.St->Hp->Prop),jh X.K m H R ρ' (S2.set l (.dic kus'))->jh X.K m1 (upd H1 a (.frz ob (.dK kvs))) (fun σ H=>∃a ob kvs,q5 X a/\H a=some (.frz ob (.dK kvs))/\R σ (upd H a (.dK kvs))) ρ' S2:=fun R p m3 σ3 H3 e3 sr3 lr3=>by
   obtain⟨ob3,kvs3,hx3,e4,sr4⟩:=back m3 H3 e3 sr3
   exact⟨a,ob3,kvs3,nf,hx3,p m3 σ3 _ (((e1.trans ee).trans e3).trans e4) sr4 (lr3.mono e4)⟩
  cases o with
  |nx=>exact nxt _ post
  |bk=>exact nxt _ post
  |ct=>exact nxt _ post
  | rt v=>
    intro m3 v3 H3 e3 sr3 i3
    obtain⟨ob3,kvs3,hx3,e4,sr4⟩:=back m3 H3 e3 sr3
    exact⟨a,ob3,kvs3,nf,hx3,post m3 v3 _ (((e1.trans ee).trans e3).trans e4) sr4 (i3.mono e4)⟩
 |_=>cases h
theorem ED{X:Cx}{tg iter:Expr}{body:List Stmt}{ce:CE}{g:CG}{cb:CS}{pos:Pos}(hp:PassesOwn (model X.prog X.w) X.A X.env X.xe)(hc:X.calm=true)(hi:QE X iter ce)(hg:QG X tg g)(hb:QSs X body cb)(hs:∀x,foldedSetIterable iter X.env x=pure x:=by intro _;rfl):QS X (.For tg iter body [] pos) (Ab ce g cb):=
 (Eb (tu hp hc (xI hi) hg hb hs)).imp Cc
end OP
namespace OG
open PySem PySem.Spec PyProof.Rows L2
def pR(wi:TI)(g:TG)(tt:TT)(te:TE)(n:Nat)(caps:List Nat):TE:=fun σ H Q=>wi σ H fun J H1=>∀l,H1 l=none->∃W:Nat->Nat->L2.St->Hp->Prop,(∃m,W 0 m (stC n caps σ) (upd H1 l (.lst [])))/\
 ∀i m σ' H2,W i m σ' H2->(J.stop i H2/\Q (.ref l) H2)\/(J.go i H2/\∃N:L2.St->Hp->Prop,(∀σ'' H',N σ'' H'->∃m',m'<m/\W (i+1) m' σ'' H')/\
  ∀x H3,J.yld i H2 x H3->g x σ' H3 fun σ2 H4=>tt σ2 H4 fun b H5=>match b with
   |true=>te σ2 H5 fun v H6=>∃ys,H6 l=some (.lst ys)/\ys.length<sizeLine/\N σ2 (upd H6 l (.lst (ys++[v])))
   |false=>N σ2 H5)
theorem oO{prog:Program}{w:World}{A:Around}{R:Result->Shared->Prop}{s:Shared}{elt target iter c:Expr}{scope:Scope}{pos:Pos}{it acc:Value}{env:Env}(I:Nat->Shared->Prop)
  (turn:∀n s,I n s->wpAny (model prog w) A (pyNext it) (fun r s₁=>match r with
   |none=>R (.ok .next) s₁
   |some v=>wpAny (model prog w) A (letOwnedTupleGo target it v) (fun _ s₁'=>wpAny (model prog w) A (assign target env v) (fun _ s₂=>wpAny (model prog w) A (PySem.isTrue c env (eval c env)) (fun b s₂'=>match b with
    |true=>wpAny (model prog w) A (eval elt env) (fun x s₃=>
     wpAny (model prog w) A (call (.builtin "list.append") [acc,x]) (fun _ s₄=>∃m,m<n/\I m s₄) (fun _ _=>False) s₃)
     (fun _ _=>False) s₂'
    |false=>∃m,m<n/\I m s₂') (fun _ _=>False) s₂) (fun _ _=>False) s₁') (fun _ _=>False) s₁) (fun _ _=>False) s)
  (n:Nat) (h:I n s) :
  codeAny (model prog w) A (.compLoop (.ListComp elt [⟨target,iter,[c],0⟩] scope pos) 0 it acc env) R s:=by
 refine codeAny_loop rfl I (fun n s hI=>?_) n h
 show wpAny _ _ ((compTurn (.ListComp elt [⟨target,iter,[c],0⟩] scope pos) 0 it acc env).onRaise (fun x=>do noteFrame x env;theTreesLotGoes x)) _ _ s
 refine wpAny_noted ?_
 rw[compTurn_list]
 refine wpAny_bind (wpAny_standAt (wpAny_bind (wpAny_mono (turn n s hI) (fun r s₁ h₁=>?_) fun _ _ h'=>h'.elim)))
 cases r with
 |none=>exact wpAny_pure h₁
 |some v=>
  refine wpAny_bind (wpAny_mono h₁ (fun _ s₁' h₁'=>?_) fun _ _ h'=>h'.elim)
  refine wpAny_bind (wpAny_mono h₁' (fun _ s₂ h₂=>?_) fun _ _ h'=>h'.elim)
  dsimp only
  simp only[List.forIn_cons,List.forIn_nil,if_true,bind_assoc,pure_bind]
  refine wpAny_bind (wpAny_mono h₂ (fun b s₂' h₂'=>?_) fun _ _ h'=>h'.elim)
  cases b with
  |true=>
   rw[if_pos rfl]
   exact wpAny_bind (wpAny_mono h₂' (fun x s₃ h₃=>wpAny_bind (wpAny_mono h₃
    (fun _ s₄ h₄=>wpAny_pure ⟨rfl,h₄⟩) fun _ _ h'=>h'.elim)) fun _ _ h'=>h'.elim)
  |false=>
   rw[if_neg Bool.false_ne_true]
   exact wpAny_pure ⟨rfl,h₂'⟩
theorem pE{X:Cx}{Nc capN tn:List Str}{scope:Scope}{cl:List (Str×Addr)}{n:Nat}{caps:List Nat}{tg iter elt:Expr}{pos:Pos}{wi:TI}{g:TG}{te:TE}{tt:TT}{c:Expr}
  (hc:X.calm=true) (hi:WI X tg iter wi) (hg:∀s3 H3 fp,WG (cxC X Nc scope cl s3 H3 fp) tg g) (he:∀s3 H3 fp,WE (cxC X Nc scope cl s3 H3 fp) elt te)
  (ht:∀s3 H3 fp,WT (cxC X Nc scope cl s3 H3 fp) c tt)
  (hclos:closureFor scope X.env=pure cl) (hkind:scope.kind=.function) (hnl:∀x∈scope.names,x.2=.local->scope.names.lookup x.1=some .local) (hcell:∀x∈scope.names,x.2≠.cell)
  (hcl:vN X.env cl) (hhas:((relabel scope X.env).names.all fun p=>!(p.2 == .cell||p.2 == .free)||(cl.lookup p.1).isSome)=true)
  (hcap:Paired (Cap X scope cl) caps capN) (hN:Nc=tn++capN) (hn:tn.length=n)
  {use:Option (Value->Sem Unit)} {pins:List (Addr×Obj)} {σ:L2.St} {H:Hp} {s:Shared} {Q:VK} {Qf:Value->Shared->Prop} (I:Inv X pins σ H s) (h:pR wi g tt te n caps σ H Q)
  (hend:∀(D C:Addr) (s6:Shared) (H5:Hp) (m:Str->Option Value),Inv X pins σ H5 s6->s6.heap.Ns C m->H5 C=none->C≠X.env.locals->X.s₀.heap.objs.size<=C->(∀x c,X.env.cells.lookup x=some c->c≠C)->(∀p∈X.pn++pins,p.1≠C)->Q (.ref D) H5->compPost (model X.prog X.w) X.A X.xe use Qf (.ref D) C (.ok .next) s6)
  (hs:∀x,foldedSetIterable iter X.env x=pure x) :
  wpAny (model X.prog X.w) X.A (comprehension (.ListComp elt [⟨tg,iter,[c],0⟩] scope pos) scope X.env (firstIterPos [⟨tg,iter,[c],0⟩] pos) (newList []) (firstAsync [⟨tg,iter,[c],0⟩]) (firstIter [⟨tg,iter,[c],0⟩] X.env) use) Qf X.xe s:=by
 refine wpAny_comprehension_free (use:=use) (g:=⟨tg,iter,[c],0⟩) (gs:=[]) rfl hs hclos hkind hnl (thn (hi.h pins s σ H _ I h) fun v s1 h1=>thn h1 fun itv s2 h2=>?_)
 obtain⟨it,fp,tnn,J,H2,rfl,I2,T,st2,f2,hW⟩:=h2
 have hD:=I2.fresh
 obtain⟨W,⟨m0,w0⟩,turn⟩:=hW _ hD
 refine wpAny_newObj_type (wpAny_newFunctionEnv hcell (by intro y hy;simp at hy) (fun h₁ hns₁ hsb₁=>?_) hkind)
 dsimp only at hns₁ hsb₁ ⊢
 have I3:Inv X pins σ (upd H2 s2.heap.objs.size (.lst [])) { s2 with heap:=s2.heap.push { cls:=.type "list",dict:=none,data:=.seq ([]:List Value).toArray },toks:=s2.toks }:=I2.lnew (its:=[]) .nil (Nat.zero_le _)
 generalize hs3:({ s2 with heap:=s2.heap.push { cls:=.type "list",dict:=none,data:=.seq ([]:List Value).toArray },toks:=s2.toks }:Shared)=s3 at I3
 have es3:s3.heap=s2.heap.push { cls:=.type "list",dict:=none,data:=.seq ([]:List Value).toArray }:=by rw[<-hs3]
 generalize hDD:s2.heap.objs.size=D at *
 have kept:∀b o,s3.heap.get? b=some o->h₁.get? b=some o:=fun b o e=>by
  have lt:=Heap.lt_size e
  rw[es3]at lt e
  exact hsb₁.extBut b o (Nat.ne_of_lt lt) (Heap.get?_push_of_some _ e)
 have old:∀b o,s2.heap.get? b=some o->s3.heap.get? b=some o:=fun b o e=>by rw[es3];exact Heap.get?_push_of_some _ e
 have ltD:∀b∈fp,b<D:=fun b hb=>by
  obtain⟨o,e,_⟩:=T.obj 0 _ st2 b hb
  rw[<-hDD];exact Heap.lt_size e
 have fo:∀b∈fp,b<s3.heap.objs.size:=fun b hb=>by
  obtain⟨o,e,_⟩:=T.obj 0 _ st2 b hb
  exact Heap.lt_size (old _ _ e)
 have f3:∀b∈fp,xb X pins (upd H2 D (.lst [])) b:=fun b hb=>by
  refine⟨?_,(f2 b hb).2⟩
  rw[bu (Nat.ne_of_lt (ltD b hb))]
  exact(f2 b hb).1
 rw[<-es3]at hns₁ hsb₁ ⊢
 have Ic:=fun t'=>Inv.comp (h1:=h₁) (t':=t') (Nc:=Nc) (n:=n) I3 hc f3 fo hkind hcl hhas hcap tn hN hn hns₁ kept
 have stat:∀{H':Hp},(∀b∈fp,H' b=none)->∀b∈fp,xb (cxC X Nc scope cl s3 (upd H2 D (.lst [])) fp) [] H' b:=fun hn' b hb=>by
  refine⟨hn' b hb,Nat.ne_of_lt (fo b hb),fun z=>?_,.inl hb,fun x c e=>(f2 b hb).2.2.2.2.1 x c (hcl.look e),fun p hp=>(by simp at hp)⟩
  rcases List.mem_cons.mp (I3.stkSub b z)with q|q
  ·exact(f2 b hb).2.1 q
  ·exact(f2 b hb).2.2.1 q
 have loop:∀s4:Shared,(∃t',s4={ s3 with heap:=h₁,toks:=t' })->codeAny (model X.prog X.w) X.A (.compLoop (.ListComp elt [⟨tg,iter,[c],0⟩] scope pos) 0 (.ref it) (.ref D) (compEnvC scope cl s3.heap.objs.size X.env))
   (compPost (model X.prog X.w) X.A X.xe use Qf (.ref D) s3.heap.objs.size) s4:=by
  rintro s4 ⟨t',rfl⟩
  refine oO (fun n' s'=>∃i σ' H',Inv (cxC X Nc scope cl s3 (upd H2 D (.lst [])) fp) [] σ' H' s'/\tnn i s'.heap/\(∀b∈fp,H' b=none)/\W i n' σ' H') ?_ m0
   ⟨0,_,_,Ic t',T.keep 0 _ _ st2 fun b hb o e=>kept _ _ (old _ _ e),fun b hb=>(f3 b hb).1,w0⟩
  rintro n' s5 ⟨i,σ5,H5,I5,st5,fr5,w5⟩
  rcases turn i n' σ5 H5 w5 with⟨stop,qn⟩|⟨go,N,hN',step⟩
  ·refine thn (T.done (cxC X Nc scope cl s3 (upd H2 D (.lst [])) fp) rfl rfl rfl hc i [] s5 σ5 H5 (fun _ _=>False) I5 (stat fr5) st5 stop) fun r s6 ⟨hr,I6⟩=>?_
   subst hr
   obtain⟨m,hm,_⟩:=I6.loc
   have I7:Inv X pins σ H5 s6:=Inv.call' (ch:=fp) I3 I6.os I6.base I6.hok I6.bare fun b hb=>⟨(f2 b hb).2.2.2.1,(f2 b hb).2.1,(f2 b hb).2.2.2.2.1,(f2 b hb).2.2.2.2.2⟩
   exact hend D _ s6 H5 m I7 hm I6.free (Ne.symm (Nat.ne_of_lt I3.lt)) I3.sz (fun x c e=>by
     obtain⟨v',o,ho,_⟩:=I3.cell x c e
     exact Nat.ne_of_lt (Heap.lt_size ho)) (fun p hp=>Nat.ne_of_lt (Heap.lt_size (I3.pin p hp).1)) qn
  ·refine thn (T.item (cxC X Nc scope cl s3 (upd H2 D (.lst [])) fp) rfl rfl rfl hc i [] s5 σ5 H5 (fun _ _=>False) I5 (stat fr5) st5 go) fun r s6 ⟨u,hr,h6⟩=>?_
   subst hr
   refine thn h6 fun _ s7 hz=>?_
   obtain⟨x,H7,I7,r7,y7,st7,fr7⟩:=hz
   have I7':=I7.pinned (stat fr7) (T.obj _ _ st7)
   refine thn ((hg s3 (upd H2 D (.lst [])) fp).h _ s7 σ5 H7 x u _ I7' r7 (step x H7 y7)) fun _ s8 hz=>?_
   obtain⟨σ8,H8,I8,q8⟩:=hz
   have fin:∀{s10:Shared} {H10:Hp},Inv (cxC X Nc scope cl s3 (upd H2 D (.lst [])) fp) _ σ8 H10 s10->N σ8 H10->∃m',m'<n'/\∃i' σ' H',Inv (cxC X Nc scope cl s3 (upd H2 D (.lst [])) fp) [] σ' H' s10/\tnn i' s10.heap/\(∀b∈fp,H' b=none)/\W i' m' σ' H':=fun{s10 H10} I10 q10=>by
    obtain⟨m',hm,w10⟩:=hN' σ8 H10 q10
    refine⟨m',hm,i+1,σ8,H10,Inv.unpinned I10,T.keep _ _ _ st7 fun b hb o e=>(Inv.pin I10 (b,o) (List.mem_append_right _ (List.mem_append_right _ (fV hb e)))).1,fun b hb=>?_,w10⟩
    obtain⟨o,e,d⟩:=T.obj _ _ st7 b hb
    exact(Inv.pin I10 (b,o) (List.mem_append_right _ (List.mem_append_right _ (fV hb e)))).2.1
   refine thn ((ht s3 (upd H2 D (.lst [])) fp).h _ s8 σ8 H8 _ I8 q8) fun b9 s9' h9=>?_
   obtain⟨H9',I9',q9'⟩:=h9
   cases b9 with
   |false=>exact fin I9' q9'
   |true=>
    refine thn ((he s3 (upd H2 D (.lst [])) fp).h _ s9' σ8 H9' _ I9' q9') fun v9 s9 hz=>?_
    obtain⟨x9,H9,I9,r9,ys,hy,hlt,q9⟩:=hz
    exact thn (nG (X:=cxC X Nc scope cl s3 (upd H2 D (.lst [])) fp) _ s9 σ8 H9 (.ref D) [x9] (.ref D) [v9] (fun _ H'=>N σ8 H') I9 rfl (.cons r9 .nil) ⟨D,ys,x9,rfl,rfl,hy,hlt,q9⟩) fun _ s10 ⟨_,H10,I10,_,q10⟩=>fin I10 q10
 have e4:∀t',({ s2 with heap:=h₁,toks:=t' }:Shared)={ s3 with heap:=h₁,toks:=t' }:=fun t'=>by rw[<-hs3]
 refine codeAny_compStart_list (loop _ ⟨_,e4 _⟩) (T.self _ 0 _ _ _ (T.keep 0 _ _ st2 fun b hb o e=>kept _ _ (old _ _ e)) (loop _ ⟨_,e4 _⟩))
theorem oT{X:Cx}{Nc capN tn:List Str}{scope:Scope}{cl:List (Str×Addr)}{n:Nat}{caps:List Nat}{tg iter elt:Expr}{pos:Pos}{wi:TI}{g:TG}{te:TE}{tt:TT}{c:Expr}
  (hc:X.calm=true) (hi:WI X tg iter wi) (hg:∀s3 H3 fp,WG (cxC X Nc scope cl s3 H3 fp) tg g) (he:∀s3 H3 fp,WE (cxC X Nc scope cl s3 H3 fp) elt te)
  (ht:∀s3 H3 fp,WT (cxC X Nc scope cl s3 H3 fp) c tt)
  (hclos:closureFor scope X.env=pure cl) (hkind:scope.kind=.function) (hnl:∀x∈scope.names,x.2=.local->scope.names.lookup x.1=some .local) (hcell:∀x∈scope.names,x.2≠.cell)
  (hcl:vN X.env cl) (hhas:((relabel scope X.env).names.all fun p=>!(p.2 == .cell||p.2 == .free)||(cl.lookup p.1).isSome)=true)
  (hcap:Paired (Cap X scope cl) caps capN) (hN:Nc=tn++capN) (hn:tn.length=n)
  (hs:∀x,foldedSetIterable iter X.env x=pure x:=by intro _;rfl) :
  WE X (.ListComp elt [⟨tg,iter,[c],0⟩] scope pos) (pR wi g tt te n caps):=by
 constructor
 intro pins s σ H Q I h
 rw[eval_ListComp]
 refine pE hc hi hg he ht hclos hkind hnl hcell hcl hhas hcap hN hn I h (fun D C s6 H5 m I7 hm fr nl sz cn pn qn=>⟨m,hm,fun h' hs'=>?_⟩) hs
 exact⟨.ref D,H5,I7.turned (t':=s6.toks) (it:=C) (fun b o hb e=>hs'.extBut b o hb e) fr nl (.inr sz) cn pn,rfl,qn⟩
end OG
namespace OP
open PySem PySem.Spec PyProof.Rows L2 OG
open Classical in
def cQ(ok:Sto->Prop)(g:CG)(ct:CT)(ce:CE)(l:Nat):List U->Rho->Sto->Option Sto
 |[],_,S=>if ok S then some S else none
 |u::us,ρ,S=>if ok S then(g u ρ S).bind fun p=>(ct p.1 p.2).bind fun q=>if q.1=true then(ce p.1 q.2).bind fun r=>match r.2[l]? with
  |some (.lst ys)=>if ys.length<LIM then cQ ok g ct ce l us p.1 (r.2.set l (.lst (ys++[r.1])))else none
  |_=>none else cQ ok g ct ce l us p.1 q.2 else none
def bT(ci:CI)(g:CG)(ct:CT)(ce:CE)(n:Nat)(caps:List Nat):CE:=fun ρ S=>(ci ρ S).bind fun p=>(cQ p.2.1 g ct ce p.2.2.length p.1 (mQ n caps ρ) (p.2.2++[.lst []])).bind fun S'=>some (.ref p.2.2.length,S')
section
variable{X:Cx}{K:PySem.W.Frag}
theorem n9{g:CG}{ct:CT}{ce:CE}{n:Nat}{caps:List Nat}{J:It}{us:List U}{ok:Sto->Prop}{Q:VK}{m1:List Addr}{H1:Hp}{S1 S':Sto}{ρ:Rho}{σ:L2.St}{l:Addr}(sr1:Sr K m1 S1 H1)(lr:Lr K m1 H1 ρ σ)(ito:AF K J m1 H1 us ok)(hl:H1 l=none)(h2:cQ ok g ct ce S1.length us (mQ n caps ρ) (S1++[.lst []])=some S')
  (post:∀m2 H2,Ext K (m1++[l]) (upd H1 l (.lst [])) m2 H2->Sr K m2 S' H2->Q (.ref l) H2) :
  ∃W:Nat->Nat->L2.St->Hp->Prop,(∃m,W 0 m (OG.stC n caps σ) (upd H1 l (.lst [])))/\
 ∀i m σ' H2,W i m σ' H2->(J.stop i H2/\Q (.ref l) H2)\/(J.go i H2/\∃N:L2.St->Hp->Prop,(∀σ'' H',N σ'' H'->∃m',m'<m/\W (i+1) m' σ'' H')/\
  ∀x H3,J.yld i H2 x H3->tG K g x σ' H3 fun σ2 H4=>tT K ct σ2 H4 fun b H5=>match b with
   |true=>tE K ce σ2 H5 fun v H6=>∃ys,H6 l=some (.lst ys)/\ys.length<sizeLine/\N σ2 (upd H6 l (.lst (ys++[v])))
   |false=>N σ2 H5):=by
 have ee:Ext K m1 H1 (m1++[l]) (upd H1 l (.lst [])):=.new (cg hl _)
 let W:Nat->Nat->L2.St->Hp->Prop:=fun i k σ2 H2=>k=us.length-i/\i<=us.length/\∃m2 ρ2 S2,Ext K (m1++[l]) (upd H1 l (.lst [])) m2 H2/\Sr K m2 S2 H2/\Lr K m2 H2 ρ2 σ2/\cQ ok g ct ce S1.length (us.drop i) ρ2 S2=some S'
 refine⟨W,⟨us.length,by simp,Nat.zero_le _,m1++[l],mQ n caps ρ,S1++[.lst []],.refl,sr1.new (o:=.lst []) hl ⟨[],aJ,.nil_⟩,yT (lr.mono ee),by simpa using h2⟩,?_⟩
 rintro i k σ2 H2 ⟨rfl,hi,m2,ρ2,S2,e2,sr2,lr2,hl2⟩
 by_cases hlt:i<us.length
 ·have hu:=List.getElem?_eq_getElem hlt
  rw[n5 hu]at hl2
  unfold cQ at hl2
  split at hl2
  ·rename_i hok
   obtain⟨⟨ρ3,S3⟩,h3,hl2⟩:=Option.bind_eq_some_iff.mp hl2
   obtain⟨⟨b4,S4⟩,h4,hl2⟩:=Option.bind_eq_some_iff.mp hl2
   obtain⟨hgo,hy⟩:=(ito m2 S2 H2 i (ee.trans e2) sr2 hok).1 _ hu
   refine .inr ⟨hgo,W (i+1) (us.length-(i+1)),fun σ' H' w'=>⟨_,by omega,w'⟩,fun x H3 y=>?_⟩
   obtain⟨e3,sr3,ix⟩:=hy x H3 y
   refine⟨m2,ρ2,S2,_,ρ3,S3,sr3,lr2.mono e3,ix,h3,fun m4 σ4 H4 e4 sr4 lr4=>⟨m4,ρ3,S3,b4,S4,sr4,lr4,h4,fun m4' H4' e4' sr4'=>?_⟩⟩
   cases b4 with
   |false=>
    rw[if_neg Bool.false_ne_true]at hl2
    exact⟨rfl,hlt,m4',ρ3,_,(((e2.trans e3).trans e4).trans e4'),sr4',lr4.mono e4',hl2⟩
   |true=>
    rw[if_pos rfl]at hl2
    obtain⟨⟨u5,S5⟩,h5,hl2⟩:=Option.bind_eq_some_iff.mp hl2
    simp only at hl2
    split at hl2<;>try cases hl2
    rename_i ys hys
    split at hl2<;>try cases hl2
    rename_i gK
    refine⟨m4',ρ3,S4,u5,S5,sr4',lr4.mono e4',h5,fun m5 v5 H5 e5 sr5 i5=>?_⟩
    obtain⟨a',ha',xs,hx,il⟩:=sr5.get hys
    have ha:m5[S1.length]?=some l:=((((e2.trans e3).trans e4).trans e4').trans e5).get (fu sr1.len)
    rw[ha]at ha';cases ha'
    have eu:Ext K m5 H5 m5 (upd H5 l (.lst (xs++[v5]))):=.of (sr5.keep ha _)
    exact⟨xs,hx,Jj (by rw[il.length];exact gK),rfl,hlt,m5,ρ3,_,(((((e2.trans e3).trans e4).trans e4').trans e5).trans eu),sr5.put (o:=.lst (ys++[u5])) ha ⟨_,aJ,(il.append (.cons_ i5 .nil_)).mono eu⟩,(lr4.mono ((e4'.trans e5).trans eu)),hl2⟩
  ·cases hl2
 ·have e:i=us.length:=by omega
  subst e
  rw[List.drop_length]at hl2
  unfold cQ at hl2
  split at hl2
  ·rename_i hok
   cases hl2
   exact .inl ⟨(ito m2 _ H2 _ (ee.trans e2) sr2 hok).2 (Nat.le_refl _),post m2 H2 e2 sr2⟩
  ·cases hl2
theorem pC{ci:CI}{g:CG}{ct:CT}{ce:CE}{n:Nat}{caps:List Nat}:∀σ H Q,tE K (bT ci g ct ce n caps) σ H Q->pR (tI K ci) (tG K g) (tT K ct) (tE K ce) n caps σ H Q:=by
 rintro σ H Q ⟨m,ρ,S,u,S',sr,lr,hc,post⟩
 obtain⟨⟨us,ok,S1⟩,h1,h2⟩:=Option.bind_eq_some_iff.mp hc
 obtain⟨S2,h2,h3⟩:=Option.bind_eq_some_iff.mp h2
 cases h3
 refine⟨m,ρ,S,us,ok,S1,sr,lr,h1,fun m1 H1 J e1 sr1 ito l hl=>?_⟩
 have ee:Ext K m1 H1 (m1++[l]) (upd H1 l (.lst [])):=.new (cg hl _)
 exact n9 sr1 (lr.mono e1) ito hl h2 fun m2 H2 e2 sr2=>post m2 _ H2 ((e1.trans ee).trans e2) sr2 (.ref_ (e2.get (fu sr1.len)))
theorem kW{Nc capN tn:List Str}{scope:Scope}{cl:List (Str×Addr)}{n:Nat}{caps:List Nat}{tg iter elt:Expr}{pos:Pos}{ci:CI}{g:CG}{ct:CT}{ce:CE}{c:Expr}
  (hc:X.calm=true) (hi:QI X tg iter ci) (hg:∀s3 H3 fp,WG (cxC X Nc scope cl s3 H3 fp) tg (tG X.K g)) (ht:∀s3 H3 fp,WT (cxC X Nc scope cl s3 H3 fp) c (tT X.K ct)) (he:∀s3 H3 fp,WE (cxC X Nc scope cl s3 H3 fp) elt (tE X.K ce))
  (hclos:closureFor scope X.env=pure cl) (hkind:scope.kind=.function) (hnl:∀x∈scope.names,x.2=.local->scope.names.lookup x.1=some .local) (hcell:∀x∈scope.names,x.2≠.cell)
  (hcl:vN X.env cl) (hhas:((relabel scope X.env).names.all fun p=>!(p.2 == .cell||p.2 == .free)||(cl.lookup p.1).isSome)=true)
  (hcap:Paired (Cap X scope cl) caps capN) (hN:Nc=tn++capN) (hn:tn.length=n)
  (hs:∀x,foldedSetIterable iter X.env x=pure x:=by intro _;rfl) :
  QE X (.ListComp elt [⟨tg,iter,[c],0⟩] scope pos) (bT ci g ct ce n caps):=(oT hc hi hg he ht hclos hkind hnl hcell hcl hhas hcap hN hn hs).imp pC
end
end OP
namespace OP
open PySem PySem.Spec PyProof PyProof.Rows L2 OG
mutual
inductive RdV(K:PySem.W.Frag)(H:Hp):V->PyData->Prop
 |non:RdV K H .non .none
 |bl (b:Bool):RdV K H (.bl b) (.bool b)
 |int (i:Int):RdV K H (.int i) (.int i)
 |str (x:Str):RdV K H (.str x) (.str x)
 |lst {a:Addr} {xs:List V} {ds:List PyData}:SqL K H a xs->Ar K H xs ds->RdV K H (.ref a) (.list ds)
 |tup {a:Addr} {xs:List V} {ds:List PyData}:SqT K H a xs->Ar K H xs ds->RdV K H (.ref a) (.tuple ds)
inductive Ar(K:PySem.W.Frag)(H:Hp):List V->List PyData->Prop
 |nil:Ar K H [] []
 |cons {x:V} {xs:List V} {d:PyData} {ds:List PyData}:RdV K H x d->Ar K H xs ds->Ar K H (x::xs) (d::ds)
end
mutual
inductive Dt(S:Sto):U->PyData->Prop
 |non:Dt S .non .none
 |bl (b:Bool):Dt S (.bl b) (.bool b)
 |int (i:Int):Dt S (.int i) (.int i)
 |str (x:Str):Dt S (.str x) (.str x)
 |lst {l:Nat} {us:List U} {ds:List PyData}:S[l]?=some (.lst us)->DtL S us ds->Dt S (.ref l) (.list ds)
 |tup {us:List U} {ds:List PyData}:DtL S us ds->Dt S (.tup us) (.tuple ds)
inductive DtL(S:Sto):List U->List PyData->Prop
 |nil:DtL S [] []
 |cons {x:U} {xs:List U} {d:PyData} {ds:List PyData}:Dt S x d->DtL S xs ds->DtL S (x::xs) (d::ds)
end
section
variable{X:Cx}{K:PySem.W.Frag}{pins:List (Addr×Obj)}{σ:L2.St}{H:Hp}{s:Shared}
mutual
theorem RdV.reads(I:Inv X pins σ H s):∀{x:V} {d:PyData} {v:Value},RdV X.K H x d->cR x v->∃as,Reads s.heap v d as
 |_,_,_,.non,r=>by cases r;exact⟨_,.none⟩
 |_,_,_,.bl b,r=>by cases r;exact⟨_,.bool b⟩
 |_,_,_,.int i,r=>by obtain⟨t,rfl⟩:=r;exact⟨_,.int i t⟩
 |_,_,_,.str i,r=>by obtain⟨t,rfl⟩:=r;exact⟨_,.str i t⟩
 |_,_,_,.lst (a:=a) h t,r=>by
  cases r
  obtain⟨its,rv,pl,_⟩:=I.list h
  obtain⟨as,k⟩:=Ar.reads I t rv
  obtain⟨o,h1,h2,n,h3⟩:=pl.isList
  exact⟨_,.list h1 h2 h3 (by simpa using k)⟩
 |_,_,_,.tup (a:=a) h t,r=>by
  cases r
  obtain⟨its,rv,pl,_⟩:=I.tuple h
  obtain⟨as,k⟩:=Ar.reads I t rv
  obtain⟨o,h1,h2,n,h3⟩:=pl
  exact⟨_,.tuple h1 h2 h3 (by simpa using k)⟩
theorem Ar.reads(I:Inv X pins σ H s):∀{xs:List V} {ds:List PyData} {vs:List Value},Ar X.K H xs ds->bW xs vs->∃as,ReadsAll s.heap vs ds as
 |_,_,_,.nil,r=>by cases r;exact⟨_,.nil⟩
 |_,_,_,.cons h t,.cons r rs=>by
  obtain⟨as,a⟩:=RdV.reads I h r
  obtain⟨bs,b⟩:=Ar.reads I t rs
  exact⟨_,.cons a b⟩
end
mutual
theorem Dt.rd{m:List Addr}{S:Sto}(sr:Sr K m S H):∀{u:U} {d:PyData} {v:V},Dt S u d->Is K m H v u->RdV K H v d
 |_,_,_,.non,i=>by rw[i.of_non];exact .non
 |_,_,_,.bl b,i=>by rw[i.of_bl];exact .bl b
 |_,_,_,.int b,i=>by rw[i.of_int];exact .int b
 |_,_,_,.str b,i=>by rw[i.of_str];exact .str b
 |_,_,_,.lst h t,i=>by
  obtain⟨a,ha,rfl⟩:=i.of_ref
  obtain⟨a',ha',xs,hx,il⟩:=sr.get h
  rw[ha]at ha';cases ha'
  exact .lst (SqL.of hx) (DtL.rd sr t il)
 |_,_,_,.tup t,i=>by
  obtain⟨a,xs,rfl,sa,la⟩:=i.of_tup
  exact .tup sa (DtL.rd sr t la)
theorem DtL.rd{m:List Addr}{S:Sto}(sr:Sr K m S H):∀{us:List U} {ds:List PyData} {vs:List V},DtL S us ds->IsL K m H vs us->Ar K H vs ds
 |_,_,_,.nil,i=>by rw[i.of_nil];exact .nil
 |_,_,_,.cons h t,i=>by
  obtain⟨x,r,rfl,i1,i2⟩:=i.of_cons
  exact .cons (Dt.rd sr h i1) (DtL.rd sr t i2)
end
mutual
theorem Dt.uniq{S:Sto}:∀{u:U} {d e:PyData},Dt S u d->Dt S u e->d=e
 |_,_,_,.non,.non=>rfl
 |_,_,_,.bl _,.bl _=>rfl
 |_,_,_,.int _,.int _=>rfl
 |_,_,_,.str _,.str _=>rfl
 |_,_,_,.lst h t,.lst h' t'=>by
  rw[h]at h';cases h'
  rw[DtL.uniq t t']
 |_,_,_,.tup t,.tup t'=>by rw[DtL.uniq t t']
theorem DtL.uniq{S:Sto}:∀{us:List U} {ds es:List PyData},DtL S us ds->DtL S us es->ds=es
 |_,_,_,.nil,.nil=>rfl
 |_,_,_,.cons h t,.cons h' t'=>by rw[Dt.uniq h h',DtL.uniq t t']
end
def sZ(d:PyData):Prop:=d.canLay0=true/\d.depth<=60
def Lo(K:PySem.W.Frag)(neg:Bool):R2:=fun x y H Q=>(∃dx dy,RdV K H x dx/\RdV K H y dy/\sZ dx/\sZ dy/\Q (.bl (if neg then !dx.eqv dy else dx.eqv dy)) H)\/
 ∃a b xs ys,x=.ref a/\y=.ref b/\SqL K H a xs/\SqL K H b ys/\xs.length≠ys.length/\Q (.bl neg) H
theorem IZ(hu:X.A.units+64<cLine):OpR X (compareOp .Eq) (Lo X.K false):=by
 rintro pins s σ H x y v u Q I rx ry (⟨dx,dy,hx,hy,lx,ly,q⟩|⟨a,b,xs,ys,rfl,rfl,ha,hb,ne,q⟩)
 ·obtain⟨as,hx⟩:=hx.reads I rx
  obtain⟨bs,hy⟩:=hy.reads I ry
  exact SeqAt.compareEq_reads hx hy lx.1 ly.1 (by have:=lx.2;omega) ⟨.bl _,H,I,rfl,q⟩
 ·cases rx
  cases ry
  obtain⟨i1,r1,p1,_⟩:=I.list ha
  obtain⟨i2,r2,p2,_⟩:=I.list hb
  have l1:=r1.length
  have l2:=r2.length
  exact SeqAt.RcAt.lists_lengths p1.isList p2.isList (by simp;omega) (by omega) X.prog X.w X.xe _ ⟨.bl false,H,I,rfl,q⟩
theorem o9(hu:X.A.units+64<cLine):OpR X (compareOp .NotEq) (Lo X.K true):=by
 rintro pins s σ H x y v u Q I rx ry (⟨dx,dy,hx,hy,lx,ly,q⟩|⟨a,b,xs,ys,rfl,rfl,ha,hb,ne,q⟩)
 ·obtain⟨as,hx⟩:=hx.reads I rx
  obtain⟨bs,hy⟩:=hy.reads I ry
  exact SeqAt.compareNe_reads hx hy lx.1 ly.1 (by have:=lx.2;omega) ⟨.bl _,H,I,rfl,q⟩
 ·cases rx
  cases ry
  obtain⟨i1,r1,p1,_⟩:=I.list ha
  obtain⟨i2,r2,p2,_⟩:=I.list hb
  have l1:=r1.length
  have l2:=r2.length
  exact SeqAt.RcNeAt.lists_lengths p1.isList p2.isList (by simp;omega) (by omega) X.prog X.w X.xe _ ⟨.bl true,H,I,rfl,q⟩
def AG(x y:U)(S:Sto)(b:Bool):Prop:=(∃dx dy,Dt S x dx/\Dt S y dy/\sZ dx/\sZ dy/\b=dx.eqv dy)\/∃l l' us vs,x=.ref l/\y=.ref l'/\S[l]?=some (.lst us)/\S[l']?=some (.lst vs)/\us.length≠vs.length/\b=false
theorem DtL.length{S:Sto}:∀{us:List U} {ds:List PyData},DtL S us ds->us.length=ds.length
 |_,_,.nil=>rfl
 |_,_,.cons _ t=>by rw[List.length_cons,List.length_cons,DtL.length t]
theorem AG.mix{l l':Nat}{us vs:List U}{S:Sto}{dx dy:PyData}(h1:Dt S (.ref l) dx)(h2:Dt S (.ref l') dy)(k1:S[l]?=some (.lst us))(k2:S[l']?=some (.lst vs))(ne:us.length≠vs.length):dx.eqv dy=false:=by
 cases h1 with
 |lst a1 t1=>
  cases h2 with
  |lst a2 t2=>
   rw[k1]at a1;cases a1
   rw[k2]at a2;cases a2
   show PyData.eqvAll _ _=false
   exact SeqAt.eqvAll_other_length (by rw[<-t1.length,<-t2.length];exact ne)
theorem AG.uniq{x y:U}{S:Sto}{b c:Bool}(h:AG x y S b)(k:AG x y S c):b=c:=by
 rcases h with⟨dx,dy,h1,h2,_,_,rfl⟩|⟨l,l',us,vs,rfl,rfl,h1,h2,ne,rfl⟩
 ·rcases k with⟨ex,ey,k1,k2,_,_,rfl⟩|⟨l,l',us,vs,rfl,rfl,k1,k2,ne,rfl⟩
  ·rw[h1.uniq k1,h2.uniq k2]
  ·exact AG.mix h1 h2 k1 k2 ne
 ·rcases k with⟨ex,ey,k1,k2,_,_,rfl⟩|⟨_,_,_,_,_,_,_,_,_,rfl⟩
  ·exact(AG.mix k1 k2 h1 h2 ne).symm
  ·rfl
open Classical in
def nY(neg:Bool):U->U->Sto->Option (U×Sto):=fun x y S=>if h:∃b,AG x y S b then some (.bl (if neg then !h.choose else h.choose),S)else none
theorem qz{x y:U}{S:Sto}{b:Bool}(neg:Bool)(h:AG x y S b):nY neg x y S=some (.bl (if neg then !b else b),S):=by
 unfold nY
 rw[dif_pos ⟨b,h⟩]
 have e:(⟨b,h⟩:∃b,AG x y S b).choose=b:=(Exists.choose_spec (⟨b,h⟩:∃b,AG x y S b)).uniq h
 rw[e]
theorem tQ{neg:Bool}:OpP K (Lo K neg) (nY neg):=by
 intro m S H x y v w u S' Q sr ix iy hf post
 unfold nY at hf
 split at hf<;>try cases hf
 rename_i h
 have hb:=h.choose_spec
 generalize h.choose=b at hb post
 rcases hb with⟨dx,dy,h1,h2,l1,l2,rfl⟩|⟨l,l',us,vs,rfl,rfl,h1,h2,ne,rfl⟩
 ·exact .inl ⟨dx,dy,h1.rd sr ix,h2.rd sr iy,l1,l2,post m _ H .refl sr .bl_⟩
 ·obtain⟨a,ha,rfl⟩:=ix.of_ref
  obtain⟨a',ha',xs,hx,la⟩:=sr.get h1
  rw[ha]at ha';cases ha'
  obtain⟨c,hc,rfl⟩:=iy.of_ref
  obtain⟨c',hc',ys,hy,lc⟩:=sr.get h2
  rw[hc]at hc';cases hc'
  refine .inr ⟨a,c,xs,ys,rfl,rfl,SqL.of hx,SqL.of hy,by rw[la.length,lc.length];exact ne,?_⟩
  have e:(if neg=true then !false else false)=neg:=by cases neg<;>rfl
  have:=post m _ H .refl sr (Is.bl_ (b:=if neg=true then !false else false))
  rw[e]at this
  exact this
def Ln(K:PySem.W.Frag)(neg:Bool):R2:=fun x y H Q=>∃dx dys,RdV K H x dx/\(RdV K H y (.list dys)\/RdV K H y (.tuple dys))/\sZ dx/\PyData.canLayAll0 dys=true/\Q (.bl (if neg then !(dys.any fun z=>z.eqv dx)else dys.any fun z=>z.eqv dx)) H
theorem Dh(hu:X.A.units+64<cLine):OpR X (compareOp .In) (Ln X.K false):=by
 rintro pins s σ H x y v u Q I rx ry ⟨dx,dys,hx,hy,lx,ly,q⟩
 obtain⟨as,hx⟩:=hx.reads I rx
 rcases hy with hy|hy
 ·obtain⟨bs,hy⟩:=hy.reads I ry
  exact SeqAt.in_list_reads hy hx ly lx.1 (by have:=lx.2;omega) ⟨.bl _,H,I,rfl,q⟩
 ·obtain⟨bs,hy⟩:=hy.reads I ry
  exact SeqAt.in_tuple_reads hy hx ly lx.1 (by have:=lx.2;omega) ⟨.bl _,H,I,rfl,q⟩
def Gs(x y:U)(S:Sto)(b:Bool):Prop:=∃dx dys,Dt S x dx/\(Dt S y (.list dys)\/Dt S y (.tuple dys))/\sZ dx/\PyData.canLayAll0 dys=true/\b=dys.any fun z=>z.eqv dx
theorem Gs.uniq{x y:U}{S:Sto}{b c:Bool}(h:Gs x y S b)(k:Gs x y S c):b=c:=by
 obtain⟨dx,dy,h1,h2,_,_,rfl⟩:=h
 obtain⟨ex,ey,k1,k2,_,_,rfl⟩:=k
 rw[h1.uniq k1]
 rcases h2 with h2|h2<;>rcases k2 with k2|k2<;>cases h2.uniq k2<;>rfl
open Classical in
def vy(neg:Bool):U->U->Sto->Option (U×Sto):=fun x y S=>if h:∃b,Gs x y S b then some (.bl (if neg then !h.choose else h.choose),S)else none
theorem zF{x y:U}{S:Sto}{b:Bool}(neg:Bool)(h:Gs x y S b):vy neg x y S=some (.bl (if neg then !b else b),S):=by
 unfold vy
 rw[dif_pos ⟨b,h⟩]
 have e:(⟨b,h⟩:∃b,Gs x y S b).choose=b:=(Exists.choose_spec (⟨b,h⟩:∃b,Gs x y S b)).uniq h
 rw[e]
theorem Fd{neg:Bool}:OpP K (Ln K neg) (vy neg):=by
 intro m S H x y v w u S' Q sr ix iy hf post
 unfold vy at hf
 split at hf<;>try cases hf
 rename_i h
 have hb:=h.choose_spec
 generalize h.choose=b at hb post
 obtain⟨dx,dy,h1,h2,l1,l2,rfl⟩:=hb
 exact⟨dx,dy,h1.rd sr ix,h2.elim (fun z=>.inl (z.rd sr iy)) (fun z=>.inr (z.rd sr iy)),l1,l2,post m _ H .refl sr .bl_⟩
def AB(us:List U)(lo hi:Option Int):List U:=(us.drop (HT.sIx us.length 0 lo)).take (HT.sIx us.length us.length hi-HT.sIx us.length 0 lo)
theorem DD{m:List Addr}{xs:List V}{us:List U}{lo hi:Option Int}(i:IsL K m H xs us):IsL K m H (zW xs lo hi) (AB us lo hi):=by
 unfold zW AB
 rw[i.length]
 exact(i.drop _).take _
def fSl(x:U)(lo hi:Option Int)(S:Sto):Option (U×Sto):=match x with
 |.tup us=>if HT.sIx us.length 0 lo=0/\HT.sIx us.length us.length hi=us.length then none else some (.tup (AB us lo hi),S)
 |.ref l=>match S[l]? with
  |some (.lst us)=>some (.ref S.length,S++[.lst (AB us lo hi)])
  |_=>none
 |_=>none
def qK:Option CE->Rho->Sto->Option (Option Int×Sto)
 |none,_,S=>some (none,S)
 |some c,ρ,S=>(c ρ S).bind fun p=>match p.1 with
  |.int i=>some (some i,p.2)
  |_=>none
def cSl(ca:CE)(cl ch:Option CE):CE:=fun ρ S=>(ca ρ S).bind fun p=>(qK cl ρ p.2).bind fun q=>(qK ch ρ q.2).bind fun r=>fSl p.1 q.1 r.1 r.2
def Mh(K:PySem.W.Frag)(m:List Addr)(H:Hp)(Q:Option Int->Hp->Prop)(o:Option Int)(S':Sto):Prop:=∀m' H',Ext K m H m' H'->Sr K m' S' H'->Q o H'
def tO(K:PySem.W.Frag)(c:Option CE):TO:=fun σ H Q=>∃m ρ S o S',Sr K m S H/\Lr K m H ρ σ/\qK c ρ S=some (o,S')/\Mh K m H Q o S'
abbrev QO(X:Cx)(e:Option Expr)(c:Option CE):Prop:=WO X e (tO X.K c)
theorem yf:QO X none none:=⟨fun pins s σ H Q I hz=>mC hz fun m ρ S o S' sr lr hc post=>uz.h pins s σ H Q I (by cases hc;exact post m H .refl sr)⟩
theorem pW{e:Expr}{ca:CE}(h:QE X e ca):QO X (some e) (some ca):=⟨fun pins s σ H Q I hz=>mC hz fun m ρ S o S' sr lr hc post=>(uy h).h pins s σ H Q I (by
 obtain⟨⟨x,S1⟩,h1,h2⟩:=Option.bind_eq_some_iff.mp hc
 refine⟨m,ρ,S,x,S1,sr,lr,h1,fun m1 v1 H1 e1 sr1 i1=>?_⟩
 cases x<;>simp at h2
 obtain⟨rfl,rfl⟩:=h2
 exact⟨_,i1.of_int,post m1 H1 e1 sr1⟩)⟩
theorem Lu{e:Expr}{lo hi:Option Expr}{ca:CE}{cl ch:Option CE}{pos p2:Pos}(ha:QE X e ca)(hl:QO X lo cl)(hh:QO X hi ch):QE X (.Subscript e (.Slice lo hi none p2) pos) (cSl ca cl ch):=(rq (xZ.or HY) ha hl hh).imp fun σ H Q hz=>mC hz fun m ρ S u S' sr lr hc post=>by
 obtain⟨⟨x,S1⟩,h1,ha⟩:=Option.bind_eq_some_iff.mp hc
 obtain⟨⟨l,S2⟩,h2,hb⟩:=Option.bind_eq_some_iff.mp ha
 obtain⟨⟨k,S3⟩,h3,h⟩:=Option.bind_eq_some_iff.mp hb
 clear ha hb hc
 refine⟨m,ρ,S,x,S1,sr,lr,h1,fun m1 v1 H1 e1 sr1 i1=>⟨m1,ρ,S1,l,S2,sr1,lr.mono e1,h2,fun m2 H2 e2 sr2=>⟨m2,ρ,S2,k,S3,sr2,lr.mono (e1.trans e2),h3,fun m3 H3 e3 sr3=>?_⟩⟩⟩
 have i3:=i1.mono (e2.trans e3)
 have e03:=(e1.trans e2).trans e3
 cases x with
 |tup us=>
  simp only[fSl]at h
  split at h<;>try cases h
  rename_i hw
  obtain⟨a,xs,rfl,sa,la⟩:=i3.of_tup
  exact .inr ⟨a,xs,rfl,sa,by rw[la.length];exact hw,fun p hp=>p9 sr3 (DD la) (post.mono e03) hp⟩
 |ref r=>
  simp only[fSl]at h
  split at h<;>try cases h
  rename_i us hS
  obtain⟨a,ha,rfl⟩:=i3.of_ref
  obtain⟨a',ha',xs,hx,la⟩:=sr3.get hS
  rw[ha]at ha';cases ha'
  exact .inl ⟨a,xs,rfl,SqL.of hx,fun p hp=>ft sr3 (DD la) (post.mono e03) hp⟩
 |_=>simp[fSl]at h
end
section
variable{X:Cx}{K:PySem.W.Frag}
instance {us:List U}:Decidable (us≠[]):=match us with
 |[]=>.isFalse fun h=>h rfl
 |_::_=>.isTrue fun h=>by cases h
end
end OP
namespace OG
open PySem PySem.Spec PyProof.Rows L2
theorem Jb{C a:Addr}{m:Str->Option Value}{h h':Heap}(n:h.Ns C m)(s:Heap.SameBut a h h')(ne:C≠a):h'.Ns C m:=by
 obtain⟨o,es,ep,e,r⟩:=n
 exact⟨o,es,ep,(s.2 C ne).trans e,r⟩
theorem rn{X:Cx}{Nc capN tn:List Str}{scope:Scope}{cl:List (Str×Addr)}{n:Nat}{caps:List Nat}{tg iter elt:Expr}{pos:Pos}{wi:TI}{g:TG}{te:TE}{tt:TT}{c:Expr}
  (hc:X.calm=true) (hi:WI X tg iter wi) (hg:∀s3 H3 fp,WG (cxC X Nc scope cl s3 H3 fp) tg g) (he:∀s3 H3 fp,WE (cxC X Nc scope cl s3 H3 fp) elt te)
  (ht:∀s3 H3 fp,WT (cxC X Nc scope cl s3 H3 fp) c tt)
  (hclos:closureFor scope X.env=pure cl) (hkind:scope.kind=.function) (hnl:∀x∈scope.names,x.2=.local->scope.names.lookup x.1=some .local) (hcell:∀x∈scope.names,x.2≠.cell)
  (hcl:vN X.env cl) (hhas:((relabel scope X.env).names.all fun p=>!(p.2 == .cell||p.2 == .free)||(cl.lookup p.1).isSome)=true)
  (hcap:Paired (Cap X scope cl) caps capN) (hN:Nc=tn++capN) (hn:tn.length=n)
  {i₀:Nat} {x₀:Str} {pos₀ pos':Pos} (hN0:X.N.Nodup) (hi0:X.N[i₀]?=some x₀) (hx0:X.env.scope.names.lookup x₀=some .local)
  (hsw:swapsWith (.ListComp elt [⟨tg,iter,[c],0⟩] scope pos) (some (.Name x₀ pos')) pos₀.line X.env=pure true)
  (hs:∀x,foldedSetIterable iter X.env x=pure x:=by intro _;rfl) :
  WS X (.Assign [.Name x₀ pos'] (.ListComp elt [⟨tg,iter,[c],0⟩] scope pos) pos₀) (fun D σ H=>pR wi g tt te n caps σ H fun v H'=>D.nx (σ.set i₀ (some v)) H'):=by
 constructor
 intro pins s σ H Dn I h
 rw[exec_Assign_arm]
 refine wpAny_bind (wpAny_standAt ?_)
 have hsw':swapsWithSole [.Name x₀ pos'] (.ListComp elt [⟨tg,iter,[c],0⟩] scope pos) pos₀.line X.env=pure true:=hsw
 rw[hsw']
 refine wpAny_bind (wpAny_pure ?_)
 rw[if_pos rfl,arm_evalThenUse_ListComp]
 refine wpAny_bind (wpAny_bind (pE (Qf:=fun _ s'=>wpAny (model X.prog X.w) X.A (pure ()) (fun _ s'=>wpAny (model X.prog X.w) X.A (pure Flow.next) (SP X pins Dn) X.xe s') X.xe s') hc hi hg he ht hclos hkind hnl hcell hcl hhas hcap hN hn I h (fun D C s6 H5 m I7 hm fr nl sz cn pn qn=>?_) hs))
 show wpAny _ _ (assign (.Name x₀ pos') X.env (.ref D)) _ _ s6
 rw[arm_assign_Name]
 refine wpAny_bind (wpAny_standAt (wpAny_bindName (rE (v:=.ref D) I7 hN0 hi0 (.inl hx0) rfl (fun s7 I7' hsb=>?_) (.inr hx0))))
 obtain⟨a7,hsb,ha7⟩:=hsb
 have cNe:C≠a7:=by
  rcases ha7 with z|z
  ·rw[z];exact nl
  ·exact Ne.symm (cn _ _ z)
 refine⟨m,Jb hm hsb cNe,fun h' hs'=>wpAny_pure (wpAny_pure ⟨_,H5,?_,qn⟩)⟩
 exact I7'.turned (t':=s7.toks) (it:=C) (fun b o hb e=>hs'.extBut b o hb e) fr nl (.inr sz) cn pn
end OG
namespace OP
open PySem PySem.Spec PyProof.Rows L2 OG
section
variable{X:Cx}{K:PySem.W.Frag}
theorem rL{i₀:Nat}{x₀:Str}{pos₀ pos':Pos}{Nc capN tn:List Str}{scope:Scope}{cl:List (Str×Addr)}{n:Nat}{caps:List Nat}{tg iter elt:Expr}{pos:Pos}{ci:CI}{g:CG}{ct:CT}{ce:CE}{c:Expr}
  (hc:X.calm=true) (hi:QI X tg iter ci) (hg:∀s3 H3 fp,WG (cxC X Nc scope cl s3 H3 fp) tg (tG X.K g)) (ht:∀s3 H3 fp,WT (cxC X Nc scope cl s3 H3 fp) c (tT X.K ct)) (he:∀s3 H3 fp,WE (cxC X Nc scope cl s3 H3 fp) elt (tE X.K ce))
  (hclos:closureFor scope X.env=pure cl) (hkind:scope.kind=.function) (hnl:∀x∈scope.names,x.2=.local->scope.names.lookup x.1=some .local) (hcell:∀x∈scope.names,x.2≠.cell)
  (hcl:vN X.env cl) (hhas:((relabel scope X.env).names.all fun p=>!(p.2 == .cell||p.2 == .free)||(cl.lookup p.1).isSome)=true)
  (hcap:Paired (Cap X scope cl) caps capN) (hN:Nc=tn++capN) (hn:tn.length=n)
  (hN0:X.N.Nodup) (hi0:X.N[i₀]?=some x₀) (hx0:X.env.scope.names.lookup x₀=some .local)
  (hsw:swapsWith (.ListComp elt [⟨tg,iter,[c],0⟩] scope pos) (some (.Name x₀ pos')) pos₀.line X.env=pure true)
  (hs:∀x,foldedSetIterable iter X.env x=pure x:=by intro _;rfl) :
  QS X (.Assign [.Name x₀ pos'] (.ListComp elt [⟨tg,iter,[c],0⟩] scope pos) pos₀) (eR i₀ (bT ci g ct ce n caps)):=(rn hc hi hg he ht hclos hkind hnl hcell hcl hhas hcap hN hn hN0 hi0 hx0 hsw hs).imp fun D σ H hz=>wK hz fun m ρ S o ρ' S' sr lr hc post=>by
 obtain⟨⟨u,S1⟩,h1,h2⟩:=Option.bind_eq_some_iff.mp hc
 cases h2
 exact pC _ _ _ ⟨m,ρ,S,u,_,sr,lr,h1,fun m1 v1 H1 e1 sr1 i1=>post m1 _ H1 e1 sr1 ((lr.mono e1).set i₀ i1)⟩
end
end OP
namespace OP
open PySem PySem.Spec PyProof PyProof.Rows L2 OG
theorem Ad{a:Addr}{h h' h'':Heap}(x:Heap.SameBut a h h')(y:Heap.SameBut a h' h''):Heap.SameBut a h h'':=⟨y.1.trans x.1,fun b hb=>(y.2 b hb).trans (x.2 b hb)⟩
theorem sI{prog:Program}{w:World}{A:Around}{E:Value->Shared->Prop}{it l:Addr}{items:Array Value}(ne:l≠it):∀(n i:Nat) (s:Shared) (Q:List Value->Shared->Prop),s.heap.IsListIter it l i->s.heap.IsList l items->i+n<=items.size->
  (∀h',h'.IsListIter it l (i+n)->Heap.SameBut it s.heap h'->Q ((items.toList.drop i).take n) { s with heap:=h' })->wpAny (model prog w) A (draw (.ref it) n) Q E s
 |0,i,s,Q,hi,hl,hn,q=>by
  unfold draw
  exact wpAny_pure (by have:=q s.heap hi ⟨rfl,fun _ _=>rfl⟩;simpa using this)
 |n+1,i,s,Q,hi,hl,hn,q=>by
  unfold draw
  have hx:items[i]?=some items[i]:=Array.getElem?_eq_getElem (by omega)
  refine wpAny_bind (wpAny_pyNext_list_item hi hl hx fun h1 hi1 s1=>?_)
  dsimp only
  refine wpAny_bind (wpAny_holding (sI ne n (i+1) _ _ hi1 (hl.at fun o e=>(s1.2 l ne).trans e) (by omega) fun h2 hi2 s2=>?_))
  refine wpAny_pure ?_
  have:=q h2 (by rw[show i+(n+1)=i+1+n by omega];exact hi2) (Ad s1 s2)
  have e:(items.toList.drop i).take (n+1)=items[i]::(items.toList.drop (i+1)).take n:=by
   rw[List.drop_eq_getElem_cons (by simp;omega),List.take_succ_cons];simp
  rw[e]at this
  exact this
theorem tH{prog:Program}{w:World}{A:Around}{E:Value->Shared->Prop}{s:Shared}{l:Addr}{items:Array Value}{targets:List (Bool×(Value->Sem Unit))}{Q:Unit->Shared->Prop}(hh:A.handled=none)(hl:s.heap.IsList l items)(hn:targets.length=items.size)(hst:targets.findIdx? (·.1)=none)
  (q:∀h',Heap.ExtBut s.heap.objs.size s.heap h'->wpAny (model prog w) A (assignInOrder (targets.map (·.2)) items.toList) Q E { s with heap:=h' }):wpAny (model prog w) A (unpack (.ref l) targets) Q E s:=by
 unfold unpack
 refine wpAny_bind (wpAny_holding ?_)
 unfold unpackItems
 have lt:l<s.heap.objs.size:=by obtain⟨o,e,_⟩:=hl;exact Heap.lt_size e
 refine wpAny_bind ?_
 unfold notIterableAtAll
 refine wpAny_bind (wpAny_specialOf hl.typeIs F.slot_list_iter.lookup ?_)
 rw[if_pos (by rfl)]
 refine wpAny_pure ?_
 dsimp only
 rw[if_neg Bool.false_ne_true]
 refine wpAny_bind (wpAny_holding (wpAny_pyIter_list hl ?_))
 rw[hst]
 dsimp only
 refine wpAny_bind (wpAny_holding (sI (items:=items) (Nat.ne_of_lt lt) targets.length 0 _ _ ⟨_,Heap.get?_push_size _ rfl,rfl,rfl⟩ (hl.at fun o e=>Heap.get?_push_of_some _ e) (by omega) fun h1 hi1 s1=>?_))
 have e:(items.toList.drop 0).take targets.length=items.toList:=by rw[List.drop_zero,List.take_of_length_le (by simp;omega)]
 rw[e]
 rw[if_neg (by simp;omega)]
 have hl1:h1.IsList l items:=hl.at fun o e=>(s1.2 l (Nat.ne_of_lt lt)).trans (Heap.get?_push_of_some _ e)
 refine wpAny_bind (wpAny_holding (wpAny_pyNext_list_end hh hi1 hl1 (by rw[Nat.zero_add];exact Array.getElem?_eq_none (by omega)) fun h2 x2=>?_))
 rw[if_neg (by simp)]
 refine wpAny_pure (q h2 ?_)
 intro b o hb eo
 exact x2 b o hb ((s1.2 b hb).trans (Heap.get?_push_of_some _ eo))
def Nu(K:PySem.W.Frag)(n:Nat)(t:TGs):TG:=fun v σ H Q=>∃a xs,v=.ref a/\SqL K H a xs/\xs.length=n/\t xs σ H Q
theorem Ej{X:Cx}{pos:Pos}{es:List Expr}{k:Nat}{t:TGs}{n:Nat}(hc:X.calm=true)(h:WGs X es t)(hn:(assignEach es X.env).length=n:=by rfl)(hst:(assignEach es X.env).findIdx? (·.1)=none:=by rfl):WG X (.Tuple es k pos) (Nu X.K n t):=by
 constructor
 intro pins s σ H v u Q I r hw
 obtain⟨a,xs,e1,hq,hl,hw⟩:=hw
 subst e1
 cases r
 obtain⟨its,rv,ht,hz⟩:=I.list hq
 rw[PyProof.Rows.assign_Tuple]
 refine wpAny_bind (wpAny_standAt (tH (I.ok.hd hc) ht.isList (by simp[hn,<-hl,rv.length]) hst fun h' hx=>?_))
 have I1:Inv X pins σ H { s with heap:=h' }:=I.kept (t':=s.toks) fun b o e=>hx b o (Nat.ne_of_lt (Heap.lt_size e)) e
 exact h.h pins _ σ H xs _ Q I1 (by simpa using rv) hw
def gSq(is:List Nat):CG:=fun u ρ S=>match u with
 |.tup us=>(gU is us ρ).bind fun ρ'=>some (ρ',S)
 |.ref l=>match S[l]? with
  |some (.lst us)=>(gU is us ρ).bind fun ρ'=>some (ρ',S)
  |_=>none
 |_=>none
theorem _root_.OG.WG.or{X:Cx}{e:Expr}{t t':TG}(h:WG X e t)(h':WG X e t'):WG X e (fun v σ H Q=>t v σ H Q\/t' v σ H Q):=⟨fun pins s σ H v u Q I r k=>k.elim (h.h pins s σ H v u Q I r) (h'.h pins s σ H v u Q I r)⟩
theorem Ls{X:Cx}{pos:Pos}{is:List Nat}{es:List Expr}{k:Nat}(hc:X.calm=true)(h:QGs X es is)(hn:(assignEach es X.env).length=is.length:=by rfl)(hst:(assignEach es X.env).findIdx? (·.1)=none:=by rfl):QG X (.Tuple es k pos) (gSq is):=((xt hc h hn hst).or (Ej hc h hn hst)).imp fun v σ H Q hz=>L8 hz fun m ρ S u ρ' S' sr lr iu hc post=>by
 cases u with
 |tup us=>
  obtain⟨ρ2,h1,h2⟩:=Option.bind_eq_some_iff.mp hc
  cases h2
  obtain⟨a,xs,rfl,sq,il⟩:=iu.of_tup
  refine .inl ⟨a,xs,rfl,sq,?_,m,ρ,S,us,ρ',sr,lr,il,h1,post⟩
  rw[il.length];exact jQ h1
 |ref l=>
  simp only[gSq]at hc
  split at hc<;>try cases hc
  rename_i us hS
  obtain⟨ρ2,h1,h2⟩:=Option.bind_eq_some_iff.mp hc
  cases h2
  obtain⟨a,ha,rfl⟩:=iu.of_ref
  obtain⟨a',ha',xs,hx,il⟩:=sr.get hS
  rw[ha]at ha';cases ha'
  refine .inr ⟨a,xs,rfl,SqL.of hx,?_,m,ρ,S,us,ρ',sr,lr,il,h1,post⟩
  rw[il.length];exact jQ h1
 |_=>simp[gSq]at hc
section
variable{X:Cx}{K:PySem.W.Frag}
def uj(ca:CE):CE:=fun ρ S=>(ca ρ S).bind fun p=>match p.1 with
 |.int i=>some (.int (-i),p.2)
 |_=>none
theorem CV:UnR X (unaryOp .USub) (fun x H Q=>∃i,x=.int i/\Q (.int (-i)) H):=by
 rintro pins s σ H x v Q I rx ⟨i,rfl,q⟩
 obtain⟨t,rfl⟩:=rx
 exact PyProof.Rows.neg_int ⟨.int (-i),H,I.tok _,⟨_,rfl⟩,q⟩
theorem vW{a:Expr}{ca:CE}{pos:Pos}(ha:QE X a ca):QE X (.UnaryOp .USub a pos) (uj ca):=(HD CV ha).imp fun σ H Q hz=>mC hz fun m ρ S u S' sr lr hc post=>by
 obtain⟨⟨x,S1⟩,h1,h2⟩:=Option.bind_eq_some_iff.mp hc
 refine⟨m,ρ,S,x,S1,sr,lr,h1,fun m1 v1 H1 e1 sr1 i1=>?_⟩
 cases x<;>simp at h2
 obtain⟨rfl,rfl⟩:=h2
 exact⟨_,i1.of_int,post m1 _ H1 e1 sr1 .int_⟩
def iS:U->List U->Sto->Option (U×Sto)
 |.ref l,[.ref b],S=>match S[l]?,S[b]? with
  |some (.lst us),some (.lst vs)=>if us.length+vs.length<=LIM then some (.non,S.set l (.lst (us++vs)))else none
  |_,_=>none
 |_,_,_=>none
theorem BF:MtP K yc iS:=by
 intro m S H x v us vs u S' Q sr ix i hf post
 match x,us,hf with
 |.ref l,[.ref b],hf=>
  simp only[iS]at hf
  split at hf<;>try cases hf
  rename_i xs0 ys0 hS hB
  split at hf<;>try cases hf
  rename_i hl
  obtain⟨a,ha,rfl⟩:=ix.of_ref
  obtain⟨a',ha',xs,hx,la⟩:=sr.get hS
  rw[ha]at ha';cases ha'
  obtain⟨y,rfl,iy⟩:=i.one
  obtain⟨c,hc,rfl⟩:=iy.of_ref
  obtain⟨c',hc',ys,hy,lb⟩:=sr.get hB
  rw[hc]at hc';cases hc'
  have eu:Ext K m H m (upd H a (.lst (xs++ys))):=.of (sr.keep ha _)
  exact⟨a,c,xs,ys,rfl,rfl,hx,hy,lim (by rw[la.length,lb.length];exact hl),post m _ _ eu (sr.put ha ⟨_,aJ,(la.append lb).mono eu⟩) .non_⟩
def FV:U->List U->Sto->Option (U×Sto)
 |.ref l,[],S=>match S[l]? with
  |some (.lst us)=>(us[us.length-1]?).bind fun u=>some (u,S.set l (.lst us.dropLast))
  |_=>none
 |_,_,_=>none
theorem IsL.dropLast{m:List Addr}{H:Hp}{xs:List V}{us:List U}(h:IsL K m H xs us):IsL K m H xs.dropLast us.dropLast:=by
 rw[List.dropLast_eq_take,List.dropLast_eq_take,h.length]
 exact h.take _
theorem LH:MtP K MA FV:=by
 intro m S H x v us vs u S' Q sr ix i hf post
 match x,us,hf with
 |.ref l,[],hf=>
  simp only[FV]at hf
  split at hf<;>try cases hf
  rename_i ws hS
  obtain⟨w,hw,h⟩:=Option.bind_eq_some_iff.mp hf
  cases h
  obtain⟨a,ha,rfl⟩:=ix.of_ref
  obtain⟨a',ha',xs,hx,la⟩:=sr.get hS
  rw[ha]at ha';cases ha'
  obtain⟨y,hy,iy⟩:=la.getD hw
  have eu:Ext K m H m (upd H a (.lst xs.dropLast)):=.of (sr.keep ha _)
  exact⟨a,xs,y,rfl,i.of_nil,hx,by rw[la.length];exact hy,post m _ _ eu (sr.put ha ⟨_,aJ,la.dropLast.mono eu⟩) (iy.mono eu)⟩
def mB:U->List U->Sto->Option (U×Sto)
 |.ref l,[.int i],S=>match S[l]? with
  |some (.lst us)=>if 0<=i/\i<us.length/\us.length<=LIM then(us[i.toNat]?).bind fun u=>some (u,S.set l (.lst (us.eraseIdx i.toNat)))else none
  |_=>none
 |_,_,_=>none
theorem Fc:MtP K C9 mB:=by
 intro m S H x v us vs u S' Q sr ix i hf post
 match x,us,hf with
 |.ref l,[.int k],hf=>
  simp only[mB]at hf
  split at hf<;>try cases hf
  rename_i ws hS
  split at hf<;>try cases hf
  rename_i hk
  obtain⟨w,hw,h⟩:=Option.bind_eq_some_iff.mp hf
  cases h
  obtain⟨a,ha,rfl⟩:=ix.of_ref
  obtain⟨a',ha',xs,hx,la⟩:=sr.get hS
  rw[ha]at ha';cases ha'
  obtain⟨y,hy,iy⟩:=la.getD hw
  obtain⟨z,rfl,iz⟩:=i.one
  have eu:Ext K m H m (upd H a (.lst (xs.eraseIdx k.toNat))):=.of (sr.keep ha _)
  have hL:ws.length<=100000:=hk.2.2
  exact⟨a,xs,k,k.toNat,y,rfl,by rw[iz.of_int],hx,by omega,by omega,seqIndex_of hk.1 (by rw[la.length];exact hk.2.1),hy,post m _ _ eu (sr.put ha ⟨_,aJ,(la.erase _).mono eu⟩) (iy.mono eu)⟩
variable{e:Expr}{es:List Expr}{co:CE}{cr:CA}{o:Expr}{apos cpos:Pos}
theorem uO (ho : QE X o co) (ha : QA X (e :: es) cr) (hbase : attributeBase o "extend" X.env (eval o X.env) = eval o X.env := by rfl) (hfew : ((backTo cpos (starEach (e :: es) X.env)).all (fun x => !x.1) && (backToKw cpos (keywordEach [] X.env)).all (fun x => x.1.isSome)
   && decide ((e::es).length+([]:List Keyword).length+(if ([]:List Keyword).isEmpty then 0 else 1)<30))=true:=by rfl) (hline:(apos.endLine == cpos.line)=true:=by rfl) (hs:starEach (e::es) X.env=(false,eval e X.env)::starEach es X.env:=by rfl) (hplain:(backTo cpos (starEach es X.env)).any (·.1)=false:=by rfl) :
  QE X (.Call (.Attribute o "extend" apos) (e::es) [] cpos) (cBM iS co cr):=(xG PySem.F.plainAttrs_list PySem.F.slot_list_extend PySem.F.type_list_extend yO ho ha.h hbase hfew hline hs hplain).imp (vJ BF)
theorem yk (ho : QE X o co) (ha : QA X (e :: es) cr) (hbase : attributeBase o "pop" X.env (eval o X.env) = eval o X.env := by rfl) (hfew : ((backTo cpos (starEach (e :: es) X.env)).all (fun x => !x.1) && (backToKw cpos (keywordEach [] X.env)).all (fun x => x.1.isSome)
   && decide ((e::es).length+([]:List Keyword).length+(if ([]:List Keyword).isEmpty then 0 else 1)<30))=true:=by rfl) (hline:(apos.endLine == cpos.line)=true:=by rfl) (hs:starEach (e::es) X.env=(false,eval e X.env)::starEach es X.env:=by rfl) (hplain:(backTo cpos (starEach es X.env)).any (·.1)=false:=by rfl) :
  QE X (.Call (.Attribute o "pop" apos) (e::es) [] cpos) (cBM mB co cr):=(xG PySem.F.plainAttrs_list PySem.F.slot_list_pop PySem.F.type_list_pop BO ho ha.h hbase hfew hline hs hplain).imp (vJ Fc)
theorem Lv(ho:QE X o co)(hbase:attributeBase o "pop" X.env (eval o X.env)=eval o X.env:=by rfl)(hline:(apos.endLine == cpos.line)=true:=by rfl) :
  QE X (.Call (.Attribute o "pop" apos) [] [] cpos) (cBM FV co aC):=(xF PySem.F.plainAttrs_list PySem.F.slot_list_pop PySem.F.type_list_pop Jd ho hbase hline).imp fun σ H Q h=>by
 obtain⟨m,ρ,S,u,S',sr,lr,hc,k⟩:=vJ (cr:=aC) LH σ H Q h
 refine⟨m,ρ,S,u,S',sr,lr,hc,fun m1 v1 H1 e1 sr1 i1=>?_⟩
 obtain⟨ty,m2,ρ2,S2,us,S3,sr2,lr2,h4,h5⟩:=k m1 v1 H1 e1 sr1 i1
 cases h4
 exact⟨ty,h5 m2 [] H1 .refl sr2 .nil_⟩
def lX(cr:CA):CE:=fun ρ S=>(cr ρ S).bind fun p=>match p.1 with
 |[.int j]=>if 0<=j/\j<=1000 then some (.ref p.2.length,p.2++[.lst (dv 0 j.toNat)])else none
 |_=>none
theorem ph:∀(n:Nat) (a:Int) (vs:List Value),vs.length=n->(∀(j:Nat) (v:Value),vs[j]?=some v->∃t,v=Value.int (a+(j:Int)) t)->bW ((List.range n).map fun i:Nat=>V.int (a+(i:Nat))) vs
 |0,a,vs,hl,h=>by
  rw[List.length_eq_zero_iff.mp hl];exact .nil
 |n+1,a,[],hl,h=>by simp at hl
 |n+1,a,v::vs,hl,h=>by
  rw[List.range_succ_eq_map,List.map_cons,List.map_map]
  refine .cons ?_ ?_
  ·obtain⟨t,e⟩:=h 0 v rfl
   exact⟨t,by simpa using e⟩
  ·have:=ph n (a+1) vs (by simpa using hl) fun j x hx=>by
    obtain⟨t,e⟩:=h (j+1) x (by simpa using hx)
    exact⟨t,by rw[e];congr 1;omega⟩
   have e:(List.range n).map (fun i:Nat=>V.int (a+1+(i:Nat)))=(List.range n).map ((fun i:Nat=>V.int (a+(i:Nat))) ∘ Nat.succ):=List.map_congr_left fun i _=>by
    simp only[Function.comp];congr 1;omega
   rw[<-e];exact this
theorem rA{a:Expr}{ta:TA}{p1 p2 pos1 pos2:Pos}(hc:X.calm=true)(hgl:Gl X "list")(hml:X.mg "list"=none)(hg:Gl X "range")(hm:X.mg "range"=none)(ha:WA X [a] ta)(hs:starEach [a] X.env=[(false,eval a X.env)])
  (hs1:starEach [Expr.Call (.Name "range" p2) [a] [] pos2] X.env=[(false,eval (.Call (.Name "range" p2) [a] [] pos2) X.env)]) :
  WE X (.Call (.Name "list" p1) [.Call (.Name "range" p2) [a] [] pos2] [] pos1) (fun σ H Q=>ta σ H fun vs H1=>∃j:Int,vs=[.int j]/\0<=j/\j<=1000/\∀p,H1 p=none->Q (.ref p) (upd H1 p (.lst ((List.range j.toNat).map fun i:Nat=>V.int (0+(i:Nat)))))):=by
 constructor
 intro pins s σ H Q I h
 refine wpAny_Call_Name_kw (nO I hgl hml OG.lL ?_ (by decide) (by decide))
 refine PyProof.Rows.callWith_type1 ?_ hs1 rfl
 rw[hs1]
 show wpAny _ _ (spliced [(false,eval (.Call (.Name "range" p2) [a] [] pos2) X.env)]) _ _ s
 refine Calls.spliced_cons ?_
 refine Call_ (nO I hg hm boot_range (PyProof.Rows.callWith_type1 (thn (ha.h pos2 pins s σ H _ I h) fun us s1 ⟨vs,H1,I1,r1,q1⟩=>?_) hs rfl))
 obtain⟨j,e,j0,j1,q⟩:=q1
 subst e
 cases r1 with
 |cons r rr=>
  cases rr
  obtain⟨t,rfl⟩:=r
  refine call_range_1 ?_
  refine Calls.spliced_nil ?_
  have hsz:Builtin.Range.rangeSize 0 j 1=((j.toNat:Nat):Int):=by
   unfold Builtin.Range.rangeSize
   simp
   omega
  refine call_list_range (n:=j.toNat) (I1.ok.hd hc) (Heap.get?_push_size _ rfl) ?_ hsz (by omega) fun h' tk acc c' hk hg' hi=>?_
  ·unfold Builtin.Range.small
   rw[hsz]
   unfold Builtin.Range.rangeFitsLong
   simp
   omega
  ·have hv:bW ((List.range j.toNat).map fun i:Nat=>V.int (0+(i:Nat))) acc.toList:=ph j.toNat 0 acc.toList (by simpa using hi.1) fun k v hv=>by
    obtain⟨t,e⟩:=hi.2 k v (by simpa using hv)
    exact⟨t,by rw[e];congr 1;omega⟩
   refine⟨.ref _,_,I1.laid (t':=tk) (o:=.lst ((List.range j.toNat).map fun i:Nat=>V.int (0+(i:Nat)))) (fun b ob q=>hk b ob (Heap.get?_push_of_some _ q)) (by rw[Heap.size_push];omega) ?_,rfl,q _ (I1.hok.fresh (by rw[Heap.size_push];omega))⟩
   exact⟨by rw[List.length_map,List.length_range];exact Nat.le_trans (by omega) (show 1000<=sizeLine by decide),_,_,hv,by simpa using hg'⟩
theorem zf{m:List Addr}{H:Hp}(n:Nat):IsL K m H ((List.range n).map fun i:Nat=>V.int (0+(i:Nat))) (dv 0 n):=by
 unfold dv
 generalize List.range n=l
 induction l with
 |nil=>exact .nil_
 |cons a r ih=>exact .cons_ .int_ ih
theorem tL{a:Expr}{cr:CA}{p1 p2 pos1 pos2:Pos}(hc:X.calm=true)(hgl:Gl X "list")(hml:X.mg "list"=none)(hg:Gl X "range")(hm:X.mg "range"=none)(ha:QA X [a] cr)(hs:starEach [a] X.env=[(false,eval a X.env)])
  (hs1:starEach [Expr.Call (.Name "range" p2) [a] [] pos2] X.env=[(false,eval (.Call (.Name "range" p2) [a] [] pos2) X.env)]) :
  QE X (.Call (.Name "list" p1) [.Call (.Name "range" p2) [a] [] pos2] [] pos1) (lX cr):=(rA hc hgl hml hg hm ha.h hs hs1).imp fun σ H Q hz=>mC hz fun m ρ S u S' sr lr hc post=>by
 obtain⟨⟨ws,S1⟩,h1,h2⟩:=Option.bind_eq_some_iff.mp hc
 simp only at h2
 split at h2<;>try cases h2
 rename_i j
 split at h2<;>try cases h2
 rename_i hj
 refine⟨m,ρ,S,_,S1,sr,lr,h1,fun m1 v1 H1 e1 sr1 i1=>?_⟩
 obtain⟨x,rfl,ix⟩:=i1.one
 rw[ix.of_int]
 exact⟨j,rfl,hj.1,hj.2,fun p hp=>ft sr1 (zf _) (post.mono e1) hp⟩
end
section
variable{X:Cx}{K:PySem.W.Frag}
theorem Ep{e:Expr}{t:TE}(h:WE X e t):WE X e (fun σ H Q=>t σ H fun v H'=>∃a ob kvs,q5 X a/\H' a=some (.frz ob (.dK kvs))/\Q v (upd H' a (.dK kvs))):=
 ⟨fun pins s σ H Q I k=>thn (h.h pins s σ H _ I k) fun u s1 ⟨v,H1,I1,r1,a,ob,kvs,nf,e,q⟩=>⟨v,_,lC I1 nf e,r1,q⟩⟩
def z8(ce:CE)(f:(Sto->Prop)->Nat->List U->Rho->Sto->Option Sto)(n:Nat)(caps:List Nat):CE:=fun ρ S=>(ce ρ S).bind fun p=>match p.1 with
 |.ref l=>match p.2[l]? with
  |some (.dic kus)=>uni fun ep=>(f (fun S'=>S'[l]?=some (.fdc ep kus)) p.2.length (kus.map fun q=>kU q.1) (mQ n caps ρ) (p.2.set l (.fdc ep kus)++[.lst []])).bind fun S'=>match S'[l]? with
   |some (.fdc _ kus')=>some (.ref p.2.length,S'.set l (.dic kus'))
   |_=>none
  |_=>none
 |_=>none
def mV(ce:CE)(g:CG)(ct:CT)(el:CE)(n:Nat)(caps:List Nat):CE:=z8 ce (fun ok l=>cQ ok g ct el l) n caps
theorem xK{ce:CE}{f:(Sto->Prop)->Nat->List U->Rho->Sto->Option Sto}{n:Nat}{caps:List Nat}{G:It->Hp->L2.St->VK->Prop}
  (core:∀{J:It} {us:List U} {ok:Sto->Prop} {Q:VK} {m1:List Addr} {H1:Hp} {S1 S':Sto} {ρ:Rho} {σ:L2.St},Sr X.K m1 S1 H1->Lr X.K m1 H1 ρ σ->AF X.K J m1 H1 us ok->f ok S1.length us (mQ n caps ρ) (S1++[.lst []])=some S'->
   (∀l,H1 l=none->∀m2 H2,Ext X.K (m1++[l]) (upd H1 l (.lst [])) m2 H2->Sr X.K m2 S' H2->Q (.ref l) H2)->G J H1 σ Q) :
  ∀σ H Q,tE X.K (z8 ce f n caps) σ H Q->FK X (tE X.K ce) σ H fun J H1=>G J H1 σ fun v H'=>∃a ob kvs,q5 X a/\H' a=some (.frz ob (.dK kvs))/\Q v (upd H' a (.dK kvs)):=by
 rintro σ H Q ⟨m,ρ,S,u,S',sr,lr,hc,post⟩
 obtain⟨⟨x,S1⟩,h1,h⟩:=Option.bind_eq_some_iff.mp hc
 refine⟨m,ρ,S,x,S1,sr,lr,h1,fun m1 v1 H1 e1 sr1 i1=>?_⟩
 cases x with
 |ref l=>
  simp only at h
  split at h<;>try cases h
  rename_i kus hS
  obtain⟨a,ha,rfl⟩:=i1.of_ref
  obtain⟨a',ha',kvs,hx,ip⟩:=sr1.get hS
  rw[ha]at ha';cases ha'
  refine⟨a,kvs,rfl,hx,fun ob es ep nf hd=>?_⟩
  obtain⟨S2,h2,h3⟩:=Option.bind_eq_some_iff.mp (pO h ep)
  try simp only at h3
  split at h3<;>try cases h3
  rename_i ep' kus' hS2
  have kp:AE X.K H1 (upd H1 a (.frz ob (.dK kvs))):=sr1.keep ha _
  have ee:Ext X.K m1 H1 m1 (upd H1 a (.frz ob (.dK kvs))):=.of kp
  have sr2:Sr X.K m1 (S1.set l (.fdc ep kus)) (upd H1 a (.frz ob (.dK kvs))):=sr1.put ha ⟨ob,es,kvs,aJ,hd,ip.mono ee⟩
  rw[ip.1]
  have hln:(S1.set l (.fdc ep kus)).length=S1.length:=by simp
  refine core sr2 (lr.mono (e1.trans ee)) (zc ha) (by rw[hln];exact h2) fun p hp m3 H3 e3 sr3=>?_
  have en:Ext X.K m1 (upd H1 a (.frz ob (.dK kvs))) (m1++[p]) (upd (upd H1 a (.frz ob (.dK kvs))) p (.lst [])):=.new (cg hp _)
  have e03:=en.trans e3
  obtain⟨a3,ha3,ob3,es3,kvs3,hx3,hd3,ip3⟩:=sr3.get hS2
  rw[e03.get ha]at ha3;cases ha3
  have e4:Ext X.K m3 H3 m3 (upd H3 a (.dK kvs3)):=.of (sr3.keep (e03.get ha) _)
  refine⟨a,ob3,kvs3,nf,hx3,post m3 _ _ (((e1.trans ee).trans e03).trans e4) (sr3.put (e03.get ha) ⟨kvs3,aJ,ip3.mono e4⟩) ?_⟩
  have lg:(m1++[p])[S1.length]?=some p:=fu sr1.len
  exact .ref_ (e3.get lg)
 |_=>cases h
variable{Nc capN tn:List Str}{scope:Scope}{cl:List (Str×Addr)}{n:Nat}{caps:List Nat}{tg iter elt c:Expr}{pos:Pos}{ci:CE}{g:CG}{ct:CT}{ce:CE}
theorem yn(hc:X.calm=true)(hi:QE X iter ci)(hg:∀s3 H3 fp,WG (cxC X Nc scope cl s3 H3 fp) tg (tG X.K g))(ht:∀s3 H3 fp,WT (cxC X Nc scope cl s3 H3 fp) c (tT X.K ct))(he:∀s3 H3 fp,WE (cxC X Nc scope cl s3 H3 fp) elt (tE X.K ce))
  (hclos:closureFor scope X.env=pure cl) (hkind:scope.kind=.function) (hnl:∀x∈scope.names,x.2=.local->scope.names.lookup x.1=some .local) (hcell:∀x∈scope.names,x.2≠.cell)
  (hcl:vN X.env cl) (hhas:((relabel scope X.env).names.all fun p=>!(p.2 == .cell||p.2 == .free)||(cl.lookup p.1).isSome)=true)
  (hcap:Paired (Cap X scope cl) caps capN) (hN:Nc=tn++capN) (hn:tn.length=n)
  (hs:∀x,foldedSetIterable iter X.env x=pure x:=by intro _;rfl) :
  QE X (.ListComp elt [⟨tg,iter,[c],0⟩] scope pos) (mV ci g ct ce n caps):=
 (Ep (oT hc (xI hi) hg he ht hclos hkind hnl hcell hcl hhas hcap hN hn hs)).imp (xK (G:=fun J H1 σ Q=>∀l,H1 l=none->∃W:Nat->Nat->L2.St->Hp->Prop,(∃m,W 0 m (OG.stC n caps σ) (upd H1 l (.lst [])))/\
  ∀i m σ' H2,W i m σ' H2->(J.stop i H2/\Q (.ref l) H2)\/(J.go i H2/\∃N:L2.St->Hp->Prop,(∀σ'' H',N σ'' H'->∃m',m'<m/\W (i+1) m' σ'' H')/\
  ∀x H3,J.yld i H2 x H3->tG X.K g x σ' H3 fun σ2 H4=>tT X.K ct σ2 H4 fun b H5=>match b with
   |true=>tE X.K ce σ2 H5 fun v H6=>∃ys,H6 l=some (.lst ys)/\ys.length<sizeLine/\N σ2 (upd H6 l (.lst (ys++[v])))
   |false=>N σ2 H5)) fun sr lr ito h2 post l hl=>n9 sr lr ito hl h2 (post l hl))
def J5:List U->Option (List Key)
 |[]=>some []
 |u::r=>(my u).bind fun k=>(J5 r).map (k::·)
theorem xR{m:List Addr}{H:Hp}:∀{us:List U} {xs:List V} {ks:List Key},IsL K m H xs us->J5 us=some ks->xs=ks.map kV
 |[],xs,ks,i,h=>by cases h;exact i.of_nil
 |u::r,xs,ks,i,h=>by
  obtain⟨x,t,rfl,ix,it⟩:=i.of_cons
  obtain⟨k,hk,h⟩:=Option.bind_eq_some_iff.mp h
  obtain⟨ks',h',rfl⟩:=Option.map_eq_some_iff.mp h
  rw[jB ix hk,xR it h'];rfl
def Ac:CE:=fun _ S=>some (.ref S.length,S++[.dit []])
theorem EG{pos:Pos}:QE X (.Dict [] [] pos) Ac:=xy.imp fun σ H Q hz=>mC hz fun m ρ S u S' sr lr hc post=>by
 cases hc
 exact fun p hp=>post (m++[p]) _ _ (.new (cg hp _)) (sr.new hp ⟨[],aJ,.nil_⟩) (.ref_ (fu sr.len))
def og(co:CE)(cr:CA)(cv:CE):CS:=fun ρ S=>(cv ρ S).bind fun p=>(co ρ p.2).bind fun q=>(cr ρ q.2).bind fun r=>match q.1 with
 |.ref l=>match r.2[l]? with
  |some (.dit kus)=>(J5 r.1).bind fun k=>if kus.length<LIM/\r.1.length<=LIM then some (.nx,ρ,r.2.set l (.dit (ik kus k p.1)))else none
  |_=>none
 |_=>none
theorem ye{o:Expr}{es:List Expr}{e:Expr}{co cv:CE}{cr:CA}{k2:Nat}{p2 pos pos':Pos}(hu:X.A.units+1<cLine)(ho:QE X o co)(hi:QA X es cr)(hv:QE X e cv)
  (hs:swapsWith e (some (.Subscript o (.Tuple es k2 p2) pos')) pos.line X.env=pure false:=by rfl):QS X (.Assign [.Subscript o (.Tuple es k2 p2) pos'] e pos) (og co cr cv):=
 (ux hu ho (xv hi.h) hv hs).imp fun D σ H hz=>wK hz fun m ρ S oo ρ' S' sr lr hc post=>by
 obtain⟨⟨v,S1⟩,h1,ha⟩:=Option.bind_eq_some_iff.mp hc
 obtain⟨⟨ou,S2⟩,h2,hb⟩:=Option.bind_eq_some_iff.mp ha
 obtain⟨⟨ius,S3⟩,h3,h⟩:=Option.bind_eq_some_iff.mp hb
 clear ha hb hc
 cases ou with
 |ref l=>
  simp only at h
  split at h<;>try cases h
  rename_i kus hS
  obtain⟨k,hk,h4⟩:=Option.bind_eq_some_iff.mp h
  split at h4<;>try cases h4
  rename_i gK
  refine⟨m,ρ,S,v,S1,sr,lr,h1,fun m1 v1 H1 e1 sr1 i1=>⟨m1,ρ,S1,_,S2,sr1,lr.mono e1,h2,fun m2 v2 H2 e2 sr2 i2=>⟨m2,ρ,S2,ius,S3,sr2,lr.mono (e1.trans e2),h3,fun m3 vs H3 e3 sr3 i3=>?_⟩⟩⟩
  refine⟨lim (by rw[i3.length];exact gK.2),fun p hp=>?_⟩
  obtain⟨a,ha,rfl⟩:=(i2.mono e3).of_ref
  obtain⟨a',ha',kvs,hx,ip⟩:=sr3.get hS
  rw[ha]at ha';cases ha'
  have hvs:=xR i3 hk
  subst hvs
  have s3:qY H3 (upd H3 p (.tup (k.map kV))):=dX hp _
  have en:Ext X.K m3 H3 m3 (upd H3 p (.tup (k.map kV))):=.of (cg hp _)
  have srn:=sr3.same s3
  have hxn:(upd H3 p (.tup (k.map kV))) a=some (.dT kvs):=s3 _ _ hx
  have e13:=((e1.trans e2).trans e3).trans en
  have ee:Ext X.K m3 (upd H3 p (.tup (k.map kV))) m3 (upd (upd H3 p (.tup (k.map kV))) a (.dT (tf kvs k v1))):=.of (srn.keep ha _)
  exact⟨a,_,rfl,DL.t hxn aJ (Jj (by rw[IsP.length ip];exact gK.1)),post m3 σ _ (e13.trans ee) (srn.put ha ⟨_,aJ,(IsP.put (ip.mono en) (i1.mono ((e2.trans e3).trans en))).mono ee⟩) (lr.mono (e13.trans ee))⟩
 |_=>cases h
end
end OP
namespace OP
open PySem PySem.Spec PyProof PyProof.Rows L2 OG PySem.W
section
variable{cmp:Nat->Nat->(Bool->Shared->Prop)->Shared->Prop}{s:Shared}{n:Nat}{lt:Nat->Nat->Bool}
structure CC(n:Nat)(lt:Nat->Nat->Bool):Prop where
 tr:∀{i j k},i<n->j<n->k<n->lt i j=true->lt j k=true->lt i k=true
 tot:∀{i j},i<n->j<n->i≠j->lt i j=false->lt j i=true
 asym:∀{i j},i<n->j<n->lt i j=true->lt j i=false
def GF(cmp:Nat->Nat->(Bool->Shared->Prop)->Shared->Prop)(n:Nat)(lt:Nat->Nat->Bool)(s:Shared):Prop:=∀i j C,i<n->j<n->C (lt i j) s->cmp i j C s
structure Pm(n:Nat)(p:Array Nat):Prop where
 sz:p.size=n
 bd:∀i,i<n->p.getD i 0<n
 ne:∀i j,i<j->j<n->p.getD i 0≠p.getD j 0
def Asc(lt:Nat->Nat->Bool)(p:Array Nat)(k:Nat):Prop:=∀i j,i<j->j<k->lt (p.getD i 0) (p.getD j 0)=true
def Dsc(lt:Nat->Nat->Bool)(p:Array Nat)(k:Nat):Prop:=∀i j,i<j->j<k->lt (p.getD j 0) (p.getD i 0)=true
variable{p:Array Nat}
theorem Pm.ne'(P:Pm n p){i j:Nat}(hi:i<n)(hj:j<n)(h:i≠j):p.getD i 0≠p.getD j 0:=by
 rcases Nat.lt_or_gt_of_ne h with z|z
 ·exact P.ne i j z hj
 ·exact Ne.symm (P.ne j i z hi)
theorem Asc.snoc(O:CC n lt)(P:Pm n p){m:Nat}(h1:1<=m)(hm:m<n)(h:Asc lt p m)(h2:lt (p.getD (m-1) 0) (p.getD m 0)=true):Asc lt p (m+1):=fun i j hij hj=>by
 by_cases e:j=m
 ·subst e
  by_cases e2:i=j-1
  ·subst e2;exact h2
  ·exact O.tr (P.bd _ (by omega)) (P.bd _ (by omega)) (P.bd _ (by omega)) (h i (j-1) (by omega) (by omega)) h2
 ·exact h i j hij (by omega)
theorem Dsc.snoc(O:CC n lt)(P:Pm n p){m:Nat}(h1:1<=m)(hm:m<n)(h:Dsc lt p m)(h2:lt (p.getD m 0) (p.getD (m-1) 0)=true):Dsc lt p (m+1):=fun i j hij hj=>by
 by_cases e:j=m
 ·subst e
  by_cases e2:i=j-1
  ·subst e2;exact h2
  ·exact O.tr (P.bd _ (by omega)) (P.bd _ (by omega)) (P.bd _ (by omega)) h2 (h i (j-1) (by omega) (by omega))
 ·exact h i j hij (by omega)
theorem An(O:CC n lt)(A:GF cmp n lt s)(P:Pm n p):∀(f m:Nat) {Q:Nat->Shared->Prop},1<=m->m+f<=n->Asc lt p m->(∀m',m<=m'->m'<=m+f->Asc lt p m'->(m'=m+f\/lt (p.getD m' 0) (p.getD (m'-1) 0)=true)->Q m' s)->(kas_asc p f m).kasWp cmp Q s
 |0,m,Q,h1,h2,h3,q=>q m (Nat.le_refl _) (by omega) h3 (.inl rfl)
 |f+1,m,Q,h1,h2,h3,q=>by
  refine A _ _ _ (P.bd _ (by omega)) (P.bd _ (by omega)) ?_
  cases hc:lt (p.getD m 0) (p.getD (m-1) 0)with
  |true=>exact q m (Nat.le_refl _) (by omega) h3 (.inr hc)
  |false=>
   have h4:=h3.snoc O P h1 (by omega) (O.tot (P.bd _ (by omega)) (P.bd _ (by omega)) (P.ne' (by omega) (by omega) (by omega)) hc)
   exact An O A P f (m+1) (by omega) (by omega) h4 fun m' a b c d=>q m' (by omega) (by omega) c (by rcases d with d|d;exact .inl (by omega);exact .inr d)
theorem zP(O:CC n lt)(A:GF cmp n lt s)(P:Pm n p):∀(f m:Nat) {Q:Array Nat×Nat×Nat->Shared->Prop},1<=m->m+f<=n->Dsc lt p m->(∀m',m<=m'->m'<=m+f->Dsc lt p m'->Q (p,m',0) s)->(kas_desc f p m 0).kasWp cmp Q s
 |0,m,Q,h1,h2,h3,q=>q m (Nat.le_refl _) (by omega) h3
 |f+1,m,Q,h1,h2,h3,q=>by
  refine A _ _ _ (P.bd _ (by omega)) (P.bd _ (by omega)) ?_
  cases hc:lt (p.getD m 0) (p.getD (m-1) 0)with
  |true=>exact zP O A P f (m+1) (by omega) (by omega) (h3.snoc O P h1 (by omega) hc) fun m' a b c=>q m' (by omega) (by omega) c
  |false=>
   refine A _ _ _ (P.bd _ (by omega)) (P.bd _ (by omega)) ?_
   rw[O.tot (P.bd _ (by omega)) (P.bd _ (by omega)) (P.ne' (by omega) (by omega) (by omega)) hc]
   exact q m (Nat.le_refl _) (by omega) h3
theorem nU{p q:Array Nat}{i j:Nat}(h:p[i]?=q[j]?):p.getD i 0=q.getD j 0:=by
 rw[Array.getD_eq_getD_getElem?,Array.getD_eq_getD_getElem?,h]
theorem ny{m k:Nat}(hm:m<=p.size):(kas_rev p 0 m).getD k 0=if k<m then p.getD (m-1-k) 0 else p.getD k 0:=by
 unfold kas_rev
 have h:=getElem?_mirror_all (i:=0) hm k
 split
 ·rename_i c
  rw[if_pos ⟨Nat.zero_le _,c⟩]at h
  exact nU (by rw[h];congr 1;omega)
 ·rename_i c
  rw[if_neg (by omega)]at h
  exact nU h
theorem Pm.rev(P:Pm n p){m:Nat}(hm:m<=n):Pm n (kas_rev p 0 m) where
 sz:=by rw[kas_rev_size];exact P.sz
 bd:=fun i hi=>by
  rw[ny (by rw[P.sz];exact hm)]
  split<;>exact P.bd _ (by omega)
 ne:=fun i j hij hj=>by
  rw[ny (by rw[P.sz];exact hm),ny (by rw[P.sz];exact hm)]
  split<;>split<;>exact P.ne' (by omega) (by omega) (by omega)
theorem Dsc.rev{m:Nat}(P:Pm n p)(hm:m<=n)(h:Dsc lt p m):Asc lt (kas_rev p 0 m) m:=fun i j hij hj=>by
 rw[ny (by rw[P.sz];exact hm),ny (by rw[P.sz];exact hm),if_pos (by omega),if_pos hj]
 exact h _ _ (by omega) (by omega)
theorem Cp(O:CC n lt)(A:GF cmp n lt s)(P:Pm n p){Q:Nat×Array Nat->Shared->Prop}(h1:1<=n)(q:∀m p',1<=m->m<=n->Pm n p'->Asc lt p' m->Q (m,p') s):(kas_count n p).kasWp cmp Q s:=by
 unfold kas_count
 rw[KasT.kasWp_bind]
 refine An O A P (n-1) 1 (Nat.le_refl _) (by omega) (fun i j a b=>by omega) fun m a b c d=>?_
 by_cases e:m=n
 ·rw[if_pos (by rw[e];exact beq_self_eq_true n)]
  exact q m p a (by omega) P c
 rw[if_neg (by simpa using e)]
 have d':lt (p.getD m 0) (p.getD (m-1) 0)=true:=by
  rcases d with d|d
  ·omega
  ·exact d
 by_cases g:m>1
 ·rw[if_pos g]
  refine A _ _ _ (P.bd _ (by omega)) (P.bd _ (by omega)) ?_
  rw[c 0 (m-1) (by omega) (by omega)]
  exact q m p a (by omega) P c
 ·rw[if_neg g]
  have m1:m=1:=by omega
  subst m1
  unfold kas_descPart
  rw[KasT.kasWp_bind]
  have d2:Dsc lt p 2:=fun i j a b=>by
   have e1:i=0:=by omega
   have e2:j=1:=by omega
   subst e1;subst e2;exact d'
  refine zP O A P (n-(1+1)) (1+1) (by omega) (by omega) d2 fun m' a' b' c'=>?_
  rw[if_neg (by simp)]
  unfold kas_tail3
  rw[KasT.kasWp_bind]
  have hm':m'<=n:=by omega
  exact An O A (P.rev hm') (n-m') m' (by omega) (by omega) (c'.rev P hm') fun m2 a2 b2 c2 _=>q m2 _ (by omega) (by omega) (P.rev hm') c2
theorem qb(O:CC n lt)(A:GF cmp n lt s)(P:Pm n p){k:Nat}(hk:k<n)(hs:Asc lt p k):∀(f l r:Nat) {Q:Nat->Shared->Prop},l<=r->r<=k->r-l<=f->(∀i,i<l->lt (p.getD i 0) (p.getD k 0)=true)->(∀i,r<=i->i<k->lt (p.getD k 0) (p.getD i 0)=true)->
  (∀l',l'<=k->(∀i,i<l'->lt (p.getD i 0) (p.getD k 0)=true)->(∀i,l'<=i->i<k->lt (p.getD k 0) (p.getD i 0)=true)->Q l' s)->(kas_place p k f l r).kasWp cmp Q s
 |0,l,r,Q,h1,h2,h3,h4,h5,q=>q l (by omega) h4 fun i a b=>h5 i (by omega) b
 |f+1,l,r,Q,h1,h2,h3,h4,h5,q=>by
  unfold kas_place
  by_cases e:l≥r
  ·rw[if_pos e]
   exact q l (by omega) h4 fun i a b=>h5 i (by omega) b
  ·rw[if_neg e]
   have hM:(l+r) / 2<k:=by omega
   refine A _ _ _ (P.bd _ hk) (P.bd _ (by omega)) ?_
   cases hc:lt (p.getD k 0) (p.getD ((l+r) / 2) 0)with
   |true=>
    refine qb O A P hk hs f l ((l+r) / 2) (by omega) (by omega) (by omega) h4 (fun i a b=>?_) q
    by_cases e2:i=(l+r) / 2
    ·subst e2;exact hc
    ·exact O.tr (P.bd _ hk) (P.bd _ (by omega)) (P.bd _ (by omega)) hc (hs _ i (by omega) b)
   |false=>
    have hc':=O.tot (P.bd _ hk) (P.bd _ (show(l+r) / 2<n by omega)) (P.ne' hk (by omega) (by omega)) hc
    refine qb O A P hk hs f ((l+r) / 2+1) r (by omega) (by omega) (by omega) (fun i a=>?_) h5 q
    by_cases e2:i=(l+r) / 2
    ·subst e2;exact hc'
    ·exact O.tr (P.bd _ (by omega)) (P.bd _ (by omega)) (P.bd _ hk) (hs i ((l+r) / 2) (by omega) hM) hc'
theorem oh{k l i:Nat}(hk:k<p.size)(hl:l<=k):(bubble p k (k-l)).getD i 0=if i=l then p.getD k 0 else if l<i/\i<=k then p.getD (i-1) 0 else p.getD i 0:=by
 have h:=getElem?_bubble hk (k-l) (by omega) i
 rw[show k-(k-l)=l by omega]at h
 by_cases c:i=l
 ·rw[if_pos c]at h ⊢;exact nU h
 ·rw[if_neg c]at h ⊢
  by_cases d:l<i/\i<=k
  ·rw[if_pos d]at h ⊢;exact nU h
  ·rw[if_neg d]at h ⊢;exact nU h
theorem Pm.bub(P:Pm n p){k l:Nat}(hk:k<n)(hl:l<=k):Pm n (bubble p k (k-l)) where
 sz:=by rw[bubble_size];exact P.sz
 bd:=fun i hi=>by
  rw[oh (by rw[P.sz];exact hk) hl]
  repeat' split
  all_goals exact P.bd _ (by omega)
 ne:=fun i j hij hj=>by
  rw[oh (by rw[P.sz];exact hk) hl,oh (by rw[P.sz];exact hk) hl]
  repeat' split
  all_goals first|(exfalso;omega)|exact P.ne' (by omega) (by omega) (by omega)
theorem Asc.bub(P:Pm n p){k l:Nat}(hk:k<n)(hl:l<=k)(h:Asc lt p k)(h1:∀i,i<l->lt (p.getD i 0) (p.getD k 0)=true)(h2:∀i,l<=i->i<k->lt (p.getD k 0) (p.getD i 0)=true):Asc lt (bubble p k (k-l)) (k+1):=fun i j hij hj=>by
 rw[oh (by rw[P.sz];exact hk) hl,oh (by rw[P.sz];exact hk) hl]
 repeat' split
 all_goals first|(exfalso;omega)|exact h1 _ (by omega)|exact h2 _ (by omega) (by omega)|exact h _ _ (by omega) (by omega)
theorem DH(O:CC n lt)(A:GF cmp n lt s):∀(f:Nat) (p:Array Nat) (k:Nat) {Q:Array Nat->Shared->Prop},Pm n p->k+f=n->Asc lt p k->(∀p',Pm n p'->Asc lt p' n->Q p' s)->(kas_bin f p k).kasWp cmp Q s
 |0,p,k,Q,P,h1,h2,q=>q p P (by rw[<-h1];exact h2)
 |f+1,p,k,Q,P,h1,h2,q=>by
  unfold kas_bin
  rw[KasT.kasWp_bind]
  refine qb O A P (k:=k) (by omega) h2 k 0 k (Nat.zero_le _) (Nat.le_refl _) (by omega) (fun i a=>by omega) (fun i a b=>by omega) fun l a b c=>?_
  exact DH O A f _ (k+1) (P.bub (by omega) a) (by omega) (h2.bub P (by omega) a b c) q
theorem uR:Pm n (List.toArray (List.range n)):=by
 have g:∀i,i<n->(List.toArray (List.range n)).getD i 0=i:=fun i hi=>by simp[Array.getD,hi]
 exact⟨by simp,fun i hi=>by rw[g i hi];exact hi,fun i j hij hj=>by rw[g i (by omega),g j hj];omega⟩
theorem Ez(O:CC n lt)(A:GF cmp n lt s){Q:Array Nat->Shared->Prop}(h1:1<=n)(q:∀p',Pm n p'->Asc lt p' n->Q p' s):(kas_sort n).kasWp cmp Q s:=by
 unfold kas_sort
 rw[KasT.kasWp_bind]
 refine Cp O A uR h1 fun m p' a b P c=>?_
 by_cases e:m<n
 ·rw[if_pos e]
  rw[show max m 1=m by omega]
  exact DH O A _ _ _ P (by omega) c q
 ·rw[if_neg e]
  exact q p' P (by rw[show n=m by omega];exact c)
end
end OP
namespace OP
open PySem PySem.Spec PyProof PyProof.Rows L2 OG
section
variable{prog:Program}{w:World}{A:Around}{E:Value->Shared->Prop}{s:Shared}{d it:Addr}{o:Obj}{es:Array DictEntry}{ep i:Nat}
theorem A7{Q:Value->Shared->Prop}(hd:(d == sysModules)=false)(ho:s.heap.get? d=some o)(hc:o.ExactDict)(he:o.data=.dict es ep)
  (q:Q (.ref s.heap.objs.size) { s with heap:=s.heap.push { cls:=.type "dict_keyiterator",data:=.fields #[.ref d,.int 0 0,.int es.size 0,.int ep 0] } }):wpAny (model prog w) A (pyIter (.ref d)) Q E s:=by
 have T:s.TypeIs (.ref d) "dict":=⟨o,ho,hc.1⟩
 refine wpAny_pyIter_slot T F.slot_dict_iter (wpAny_call_entry F.slot_dict_iter T F.entry_dict_iter ?_ (F.args_dict_iter_1 _))
 unfold Builtin.«dict.__iter__»;refine wpAny_bind ?_
 unfold Builtin.Dict.dictSlotNone;refine wpAny_bind (wpAny_notOrdered_dict T ?_)
 refine wpAny_pure (show wpAny _ _ (Builtin.Dict.showsAll d >>= _) _ _ s from ?_)
 unfold Builtin.Dict.showsAll;rw[if_neg (by rw[hd];exact Bool.false_ne_true)]
 refine wpAny_bind (wpAny_pure (wpAny_bind (wpAny_dictEntries ho he (wpAny_bind (wpAny_dictEpoch ho he ?_)))))
 refine wpAny_bind (wpAny_newObj_type (wpAny_pure ⟨_,rfl,"dict_keyiterator",_,⟨_,Heap.get?_push_size _ rfl,rfl⟩,F.slot_dict_keyiterator_next.lookup,q⟩))
theorem A8{Q:Option Value->Shared->Prop}(hit:s.heap.IsKeyIter it d i es.size ep)(ho:s.heap.get? d=some o)(he:o.data=.dict es ep)(hi:i<es.size)
  (q:∀h',h'.IsKeyIter it d (i+1) es.size ep->Heap.SameBut it s.heap h'->Q (some es[i].key) { s with heap:=h' }):wpAny (model prog w) A (pyNext (.ref it)) Q E s:=by
 obtain⟨io,hio,ic,id'⟩:=id hit
 unfold pyNext;refine wpAny_bind (wpAny_attempt (wpAny_callSpecial?_slot (name:=Str.ofString "__next__") hit.typeIs F.slot_dict_keyiterator_next (wpAny_call_entry F.slot_dict_keyiterator_next hit.typeIs F.entry_dict_keyiterator_next ?_ (F.args_dict_keyiterator_next_1 _))))
 refine wpAny_bind (wpAny_pure (wpAny_bind (wpAny_bind ?_)))
 first|refine wpAny_bind (wpAny_typeNameOfWhole_keyiter hit.typeIs (wpAny_pure (wpAny_bind (wpAny_fieldsOf hio id' ?_))))|refine wpAny_bind (wpAny_typeNameOf_keyiter hit.typeIs (wpAny_pure (wpAny_bind (wpAny_fieldsOf hio id' ?_))))
 simp only[show Builtin.Dict_items.ownsTuple "dict_keyiterator"=false by decide,Bool.false_eq_true,if_false]
 refine(show wpAny _ _ (if (Value.ref d == Value.none)=true then _ else _) _ _ s from ?_)
 rw[if_neg (show ¬((Value.ref d == Value.none)=true)from Bool.false_ne_true)];refine wpAny_bind (wpAny_pure (wpAny_bind (wpAny_dictEntries ho he ?_)))
 rw[if_neg (by simp)];refine wpAny_bind (wpAny_pure (wpAny_bind (wpAny_dictEpoch ho he ?_)))
 rw[if_neg (by simp)];refine wpAny_pure ?_
 simp only[show ¬((i:Int)<0)by omega,if_false,Int.toNat_natCast,Array.getElem?_eq_getElem hi];refine wpAny_bind ?_
 first|refine wpAny_bind (wpAny_typeNameOfWhole_keyiter hit.typeIs (wpAny_pure (wpAny_bind (wpAny_isOneOf_keyiter hit.typeIs ?_))))|refine wpAny_bind (wpAny_typeNameOf_keyiter hit.typeIs (wpAny_pure (wpAny_bind (wpAny_isOneOf_keyiter hit.typeIs ?_))))
 refine(show wpAny _ _ (setField (.ref it) 1 (rawInt ((i:Int)+1)) >>= _) _ _ s from wpAny_bind (wpAny_setField hio id' (by simp) ?_))
 have hit2:(s.heap.update it (Obj.mapFields (·.setIfInBounds 1 (rawInt ((i:Int)+1))))).IsKeyIter it d (i+1) es.size ep:=⟨_,Heap.get?_update_self _ hio (Obj.isFreed_of_fields (Obj.data_mapFields id' _)),(Obj.cls_mapFields ..).trans ic,by rw[Obj.data_mapFields id'];simp[rawInt]⟩
 refine wpAny_bind (wpAny_holding (wpAny_bind (wpAny_isOneOf_keyiter (s:={ s with heap:=s.heap.update it (Obj.mapFields (·.setIfInBounds 1 (rawInt ((i:Int)+1)))) }) hit2.typeIs ?_)))
 exact(show wpAny _ _ (pure es[i].key) _ _ _ from wpAny_pure (wpAny_pure ⟨_,rfl,wpAny_pure (q _ hit2 (Heap.SameBut.update ..))⟩))
theorem EB{Q:Option Value->Shared->Prop}(hh:A.handled=none)(hit:s.heap.IsKeyIter it d i es.size ep)(ho:s.heap.get? d=some o)(he:o.data=.dict es ep)(hi:es.size<=i)
  (q:∀h',Heap.ExtBut it s.heap h'->Q none { s with heap:=h' }):wpAny (model prog w) A (pyNext (.ref it)) Q E s:=by
 obtain⟨io,hio,ic,id'⟩:=id hit
 unfold pyNext;refine wpAny_bind (wpAny_attempt (wpAny_callSpecial?_slot (name:=Str.ofString "__next__") hit.typeIs F.slot_dict_keyiterator_next (wpAny_call_entry F.slot_dict_keyiterator_next hit.typeIs F.entry_dict_keyiterator_next ?_ (F.args_dict_keyiterator_next_1 _))))
 refine wpAny_bind (wpAny_pure (wpAny_bind (wpAny_bind ?_)))
 first|refine wpAny_bind (wpAny_typeNameOfWhole_keyiter hit.typeIs (wpAny_pure (wpAny_bind (wpAny_fieldsOf hio id' ?_))))|refine wpAny_bind (wpAny_typeNameOf_keyiter hit.typeIs (wpAny_pure (wpAny_bind (wpAny_fieldsOf hio id' ?_))))
 simp only[show Builtin.Dict_items.ownsTuple "dict_keyiterator"=false by decide,Bool.false_eq_true,if_false]
 refine(show wpAny _ _ (if (Value.ref d == Value.none)=true then _ else _) _ _ s from ?_)
 rw[if_neg (show ¬((Value.ref d == Value.none)=true)from Bool.false_ne_true)];refine wpAny_bind (wpAny_pure (wpAny_bind (wpAny_dictEntries ho he ?_)))
 rw[if_neg (by simp)];refine wpAny_bind (wpAny_pure (wpAny_bind (wpAny_dictEpoch ho he ?_)))
 rw[if_neg (by simp)];refine wpAny_pure ?_
 simp only[show ¬((i:Int)<0)by omega,if_false,Int.toNat_natCast,Array.getElem?_eq_none hi];refine wpAny_bind ?_
 first|refine wpAny_bind (wpAny_typeNameOfWhole_keyiter hit.typeIs (wpAny_pure ?_));skip|refine wpAny_bind (wpAny_typeNameOf_keyiter hit.typeIs (wpAny_pure ?_));skip
 refine(show wpAny _ _ (setField (.ref it) 0 .none >>= _) _ _ s from wpAny_bind (wpAny_setField hio id' (by simp) ?_))
 refine(show wpAny _ _ (newExc (.type "StopIteration") [] >>= _) _ _ _ from wpAny_bind ?_)
 simp only[newExc,newTuple];refine wpAny_bind (wpAny_newObj_type ?_ (by size_fits));refine wpAny_bind (m:=firstArgMember _ _) (wpAny_of_eq (a:=Value.none) (by first|rfl|(simp only[firstArgMember];rfl)) (wpAny_newObj_type ?_ (by size_fits)))
 simp only[raiseNew];refine wpAny_bind (wpAny_handled ?_);rw[show A.in1.handled=none from hh]
 refine wpAny_bind (wpAny_pure (wpAny_throw ?_));refine wpAny_bind (wpAny_isInstance (T:="StopIteration") (b:=true) ⟨_,Heap.get?_push_size _ rfl,rfl⟩ isSubtype_stop ?_);exact wpAny_pure (q _ (((Heap.SameBut.update ..).extBut.push _).push _))
end
def FzT(H:Hp)(a:Addr)(ep:Nat)(ks:List (List Key)):Prop:=∃ob es kvs,H a=some (.frz ob (.dT kvs))/\ob.data=.dict es ep/\kvs.map (·.1)=ks
def Itt(a:Addr)(ep:Nat)(ks:List (List Key)):It:=
 ⟨fun i H=>i<ks.length/\FzT H a ep ks,fun i H x H'=>H'=H/\∃k p,ks[i]?=some k/\x=.ref p/\H p=some (.tup (k.map kV)),fun i H=>ks.length<=i/\FzT H a ep ks⟩
theorem zt{P:Program}{w:World}{H:Hp}{h:Heap}{a:Addr}{ob:Obj}{kvs:List (List Key×V)}{es:Array DictEntry}{ep:Nat}(ok:HOk P w H h)(e:H a=some (.frz ob (.dT kvs)))(d:ob.data=.dict es ep) :
  h.get? a=some ob/\es.size=kvs.length/\∀(i:Nat) (hi:i<es.size),∃k p,(kvs.map (·.1))[i]?=some k/\es[i].key=.ref p/\H p=some (.tup (k.map kV)):=by
 obtain⟨e1,_,_,xs,r,o,es',ep',e2,e3,e4,e5,_⟩:=(show cT P w H h a (.frz ob (.dT kvs))from ok a _ e)
 rw[e1]at e2;cases e2
 rw[d]at e4;cases e4
 have hl:kvs.length=xs.length:=Paired.length r
 have hs:es.size=xs.length:=size_of_entries e5
 refine⟨e1,by omega,fun i hi=>?_⟩
 have key:∀{l:List (List Key×V)} {m:List (List Key×Addr×Value)} {i:Nat} {x:List Key×Addr×Value},Paired (fun(p:List Key×V) (q:List Key×Addr×Value)=>p.1=q.1/\H q.2.1=some (.tup (p.1.map kV))/\cR p.2 q.2.2) l m->m[i]?=some x->∃k,(l.map (·.1))[i]?=some k/\H x.2.1=some (.tup (k.map kV)):=by
  intro l m i x q
  induction q generalizing i with
  |nil=>intro z;simp at z
  |@cons p q ps qs hq t ih=>
   intro z
   cases i with
   |zero=>simp at z;subst z;exact⟨p.1,by simp,hq.2.1⟩
   |succ i=>obtain⟨k,k1,k2⟩:=ih (by simpa using z);exact⟨k,by simpa using k1,k2⟩
 have hx:xs[i]?=some xs[i]:=List.getElem?_eq_getElem (by omega)
 obtain⟨k,k1,k2⟩:=key r hx
 refine⟨k,(xs[i]).2.1,k1,?_,k2⟩
 have h1:=entry_at e5 i
 rw[hx,Array.getElem?_eq_getElem hi]at h1
 have h2:=Option.some.inj h1
 rw[h2];rfl
theorem vU{P:Program}{w:World}{K:PySem.W.Frag}{tg:Expr}(a it:Addr){ks:List (List Key)}{ep:Nat} :
  Gm P w K tg (Itt a ep ks) [it] it (fun n h=>h.IsKeyIter it a n ks.length ep) where
 mem:=by simp
 obj:=fun n h st c hc=>by
  simp only[List.mem_cons,List.not_mem_nil,or_false]at hc
  subst hc
  obtain⟨o,e,_,q⟩:=st
  exact⟨o,e,fun v z=>by rw[q]at z;cases z⟩
 keep:=fun n h h' st kp=>Heap.IsKeyIter.at st fun o q=>kp it (by simp) o q
 item:=by
  intro X hP hw hK hc n pins s σ H E Iv hf st hg
  subst hP hw hK
  obtain⟨hi,ob,es,kvs,hq,d,ek⟩:=hg
  obtain⟨g1,g2,g3⟩:=zt Iv.hok hq d
  have hl:ks.length=es.size:=by rw[<-ek,List.length_map,g2]
  have hi':n<es.size:=by omega
  obtain⟨k,p,k1,k2,k3⟩:=g3 n hi'
  obtain⟨f0,f1,f2,f3⟩:=hf it (by simp)
  refine A8 (by rw[<-hl];exact st) g1 d hi' fun h1 st1 sb=>⟨_,rfl,?_⟩
  have I1:Inv X pins σ H { s with heap:=h1 }:=Iv.turned (t':=s.toks) (fun b o hb e=>(sb.2 b hb).trans e) f0 f1 f3.1 f3.2.1 f3.2.2
  have st2:h1.IsKeyIter it a (n+1) ks.length ep:=by rw[hl];exact st1
  obtain⟨o,e,c,q⟩:=id st2
  exact zq (s:={ s with heap:=h1 }) e c q (by decide) ⟨.ref p,H,I1,by rw[k2];rfl,⟨rfl,k,p,by rw[<-ek];exact k1,rfl,k3⟩,st2,fun b hb=>(hf b hb).1⟩
 done:=by
  intro X hP hw hK hc n pins s σ H E Iv hf st hg
  subst hP hw hK
  obtain⟨hi,ob,es,kvs,hq,d,ek⟩:=hg
  obtain⟨g1,g2,g3⟩:=zt Iv.hok hq d
  have hl:ks.length=es.size:=by rw[<-ek,List.length_map,g2]
  obtain⟨f0,f1,f2,f3⟩:=hf it (by simp)
  exact EB (Iv.ok.hd hc) (by rw[<-hl];exact st) g1 d (by omega) fun h1 eb=>⟨rfl,Iv.turned (t':=s.toks) (fun b o hb e=>eb b o hb e) f0 f1 f3.1 f3.2.1 f3.2.2⟩
 self:=fun _ _ _ _ _ st h=>wpAny_pyIter_keyiter st h
def Dw(X:Cx)(tl:TE):TI:=fun σ H R=>tl σ H fun x H1=>∃a kvs,x=.ref a/\H1 a=some (.dT kvs)/\∀ob es ep,q5 X a->ob.data=.dict es ep->R (Itt a ep (kvs.map (·.1))) (upd H1 a (.frz ob (.dT kvs)))
theorem AW{X:Cx}{tg l:Expr}{tl:TE}(hl:WE X l tl):WI X tg l (Dw X tl):=by
 constructor
 intro pins s σ H R I h
 refine thn (hl.h pins s σ H _ I h) fun v s1 hz=>?_
 obtain⟨x,H1,I1,r1,q1⟩:=hz
 obtain⟨a,kvs,rfl,hq,q⟩:=q1
 have hq0:=hq
 cases r1
 obtain⟨hz,hs,xs,rv,ob,es,ep,e1,e2,e3,e4,e5⟩:=(show cT X.prog X.w H1 s1.heap a (.dT kvs)from I1.hok a _ hq)
 have hl:kvs.length=es.size:=by rw[size_of_entries e4];exact Paired.length rv
 have nf:q5 X a:=fun ob' u' z=>by have:=I1.base.frzs a ob' u' z;rw[hq]at this;cases this
 have mono:∀{l:List (List Key×V)} {m:List (List Key×Addr×Value)} (fz:HO),Paired (fun(p:List Key×V) (q:List Key×Addr×Value)=>p.1=q.1/\H1 q.2.1=some (.tup (p.1.map kV))/\cR p.2 q.2.2) l m->Paired (fun(p:List Key×V) (q:List Key×Addr×Value)=>p.1=q.1/\(upd H1 a fz) q.2.1=some (.tup (p.1.map kV))/\cR p.2 q.2.2) l m:=by
  intro l m fz z
  induction z with
  |nil=>exact .nil
  |cons hq t ih=>exact .cons ⟨hq.1,by rw[bu (fun e=>by rw[e,hq0]at hq;cases hq.2.1)];exact hq.2.1,hq.2.2⟩ ih
 have rv2:=mono (.frz ob (.dT kvs)) rv
 have I2:Inv X pins σ (upd H1 a (.frz ob (.dT kvs))) s1:=mS I1 hq (by simp) (by simp) (by simp) nf ⟨e1,hz,hs,xs,rv2,ob,es,ep,e1,e2,e3,e4,e5⟩
 refine A7 hs e1 e2 e3 ?_
 refine⟨s1.heap.objs.size,[s1.heap.objs.size],_,_,_,rfl,I2.kept (t':=s1.toks) fun b o g=>Heap.get?_push_of_some _ g,vU a _,⟨_,Heap.get?_push_size _ rfl,rfl,by rw[List.length_map,hl];rfl⟩,fun b hb=>?_,q ob es ep nf e3⟩
 simp only[List.mem_cons,List.not_mem_nil,or_false]at hb
 subst hb
 exact I2.fpOk (Nat.le_refl _) (I2.hok.fresh (Nat.le_refl _))
def DK(X:Cx)(D:xc):xc where
 nx:=fun σ H=>∃a ob kvs,q5 X a/\H a=some (.frz ob (.dT kvs))/\D.nx σ (upd H a (.dT kvs))
 rt:=fun v H=>∃a ob kvs,q5 X a/\H a=some (.frz ob (.dT kvs))/\D.rt v (upd H a (.dT kvs))
 bk:=fun σ H=>∃a ob kvs,q5 X a/\H a=some (.frz ob (.dT kvs))/\D.bk σ (upd H a (.dT kvs))
 ct:=fun σ H=>∃a ob kvs,q5 X a/\H a=some (.frz ob (.dT kvs))/\D.ct σ (upd H a (.dT kvs))
theorem lB{X:Cx}{pins:List (Addr×Obj)}{σ:L2.St}{H:Hp}{s:Shared}{a:Addr}{ob:Obj}{kvs:List (List Key×V)}(I:Inv X pins σ H s)(nf:q5 X a)(e:H a=some (.frz ob (.dT kvs))):Inv X pins σ (upd H a (.dT kvs)) s:=by
 obtain⟨_,hz,hs,xs,rv,rest⟩:=(show cT X.prog X.w H s.heap a (.frz ob (.dT kvs))from I.hok a _ e)
 have mono:∀{l:List (List Key×V)} {m:List (List Key×Addr×Value)} (fz:HO),Paired (fun(p:List Key×V) (q:List Key×Addr×Value)=>p.1=q.1/\H q.2.1=some (.tup (p.1.map kV))/\cR p.2 q.2.2) l m->Paired (fun(p:List Key×V) (q:List Key×Addr×Value)=>p.1=q.1/\(upd H a fz) q.2.1=some (.tup (p.1.map kV))/\cR p.2 q.2.2) l m:=by
  intro l m fz z
  induction z with
  |nil=>exact .nil
  |cons hq t ih=>exact .cons ⟨hq.1,by rw[bu (fun q=>by rw[q,e]at hq;cases hq.2.1)];exact hq.2.1,hq.2.2⟩ ih
 exact mS I e (by simp) (by simp) (by simp) nf ⟨hz,hs,xs,mono _ rv,rest⟩
theorem AJ{X:Cx}{st:Stmt}{t:TS}(h:WS X st t):WS X st (fun D σ H=>t (DK X D) σ H):=by
 constructor
 intro pins s σ H D I k
 refine thn (h.h pins s σ H _ I k) fun f s1 q=>?_
 cases f with
 |next=>obtain⟨σ1,H1,I1,a,ob,kvs,nf,e,r⟩:=q;exact⟨σ1,_,lB I1 nf e,r⟩
 |brk=>obtain⟨σ1,H1,I1,a,ob,kvs,nf,e,r⟩:=q;exact⟨σ1,_,lB I1 nf e,r⟩
 |cont=>obtain⟨σ1,H1,I1,a,ob,kvs,nf,e,r⟩:=q;exact⟨σ1,_,lB I1 nf e,r⟩
 |ret u=>obtain⟨v,σ1,H1,I1,rv,a,ob,kvs,nf,e,r⟩:=q;exact⟨v,σ1,_,lB I1 nf e,rv,r⟩
def Aa(ce:CE)(g:CG)(cb:CS):CS:=fun ρ S=>(ce ρ S).bind fun p=>match p.1 with
 |.ref l=>match p.2[l]? with
  |some (.dit kus)=>uni fun ep=>(eA (fun S'=>S'[l]?=some (.fdt ep kus)) g cb (kus.map fun q=>.tup (q.1.map kU)) ρ (p.2.set l (.fdt ep kus))).bind fun r=>match r.2.2[l]? with
   |some (.fdt _ kus')=>some (r.1,r.2.1,r.2.2.set l (.dit kus'))
   |_=>none
  |_=>none
 |_=>none
theorem vm{K:PySem.W.Frag}{m:List Addr}{H:Hp}:∀ks:List Key,IsL K m H (ks.map kV) (ks.map kU)
 |[]=>.nil_
 |k::r=>.cons_ (Ds k) (vm r)
theorem B2{K:PySem.W.Frag}{m:List Addr}{H:Hp}{a:Addr}{l ep:Nat}{kus:List (List Key×U)}(ha:m[l]?=some a):AF K (Itt a ep (kus.map (·.1))) m H (kus.map fun q=>.tup (q.1.map kU)) (fun S'=>S'[l]?=some (.fdt ep kus)):=by
 intro m2 S2 H2 i e sr hok
 obtain⟨a',ha',ob,es,kvs,hx,hd,ip⟩:=sr.get hok
 have ha2:=e.get ha
 rw[ha2]at ha';cases ha'
 have hz:FzT H2 a ep (kus.map (·.1)):=⟨ob,es,kvs,hx,hd,ip.1⟩
 refine⟨fun u hu=>?_,fun hu=>⟨by simpa using hu,hz⟩⟩
 have hi:i<kus.length:=by have:=(List.getElem?_eq_some_iff.mp hu).1;simpa using this
 refine⟨⟨by simpa using hi,hz⟩,?_⟩
 rintro x H3 ⟨rfl,k,p,hk,rfl,hp⟩
 refine⟨.refl,sr,?_⟩
 rw[List.getElem?_map]at hk hu
 rw[List.getElem?_eq_getElem hi]at hk hu
 cases hk;cases hu
 exact .tup_ (.inl (.inl hp)) (vm _)
theorem Cb{X:Cx}{ce:CE}{g:CG}{cb:CS}:∀D σ H,tS X.K (Aa ce g cb) D σ H->HP (Dw X (tE X.K ce)) (tG X.K g) (tS X.K cb) (DK X D) σ H:=by
 rintro D σ H ⟨m,ρ,S,o,ρ',S',sr,lr,hc,post⟩
 obtain⟨⟨x,S1⟩,h1,h⟩:=Option.bind_eq_some_iff.mp hc
 refine⟨m,ρ,S,x,S1,sr,lr,h1,fun m1 v1 H1 e1 sr1 i1=>?_⟩
 cases x with
 |ref l=>
  simp only at h
  split at h<;>try cases h
  rename_i kus hS
  obtain⟨a,ha,rfl⟩:=i1.of_ref
  obtain⟨a',ha',kvs,hx,ip⟩:=sr1.get hS
  rw[ha]at ha';cases ha'
  refine⟨a,kvs,rfl,hx,fun ob es ep nf hd=>?_⟩
  obtain⟨⟨o1,ρ1,S2⟩,h2,h3⟩:=Option.bind_eq_some_iff.mp (pO h ep)
  simp only at h3
  split at h3<;>try cases h3
  rename_i ep' kus' hS2
  have kp:AE X.K H1 (upd H1 a (.frz ob (.dT kvs))):=sr1.keep ha _
  have ee:Ext X.K m1 H1 m1 (upd H1 a (.frz ob (.dT kvs))):=.of kp
  have sr2:Sr X.K m1 (S1.set l (.fdt ep kus)) (upd H1 a (.frz ob (.dT kvs))):=sr1.put ha ⟨ob,es,kvs,aJ,hd,ip.mono ee⟩
  rw[ip.1]
  refine qk sr2 (lr.mono (e1.trans ee)) (B2 ha) h2 ?_
  have back:∀m3 H3,Ext X.K m1 (upd H1 a (.frz ob (.dT kvs))) m3 H3->Sr X.K m3 S2 H3->∃ob' kvs',H3 a=some (.frz ob' (.dT kvs'))/\Ext X.K m3 H3 m3 (upd H3 a (.dT kvs'))/\Sr X.K m3 (S2.set l (.dit kus')) (upd H3 a (.dT kvs')):=fun m3 H3 e3 sr3=>by
   obtain⟨a3,ha3,ob3,es3,kvs3,hx3,hd3,ip3⟩:=sr3.get hS2
   rw[e3.get ha]at ha3;cases ha3
   have e4:Ext X.K m3 H3 m3 (upd H3 a (.dT kvs3)):=.of (sr3.keep (e3.get ha) _)
   exact⟨ob3,kvs3,hx3,e4,sr3.put (e3.get ha) ⟨kvs3,aJ,ip3.mono e4⟩⟩
  have nxt:∀(R:L2.St->Hp->Prop),jh X.K m H R ρ' (S2.set l (.dit kus'))->jh X.K m1 (upd H1 a (.frz ob (.dT kvs))) (fun σ H=>∃a ob kvs,q5 X a/\H a=some (.frz ob (.dT kvs))/\R σ (upd H a (.dT kvs))) ρ' S2:=fun R p m3 σ3 H3 e3 sr3 lr3=>by
   obtain⟨ob3,kvs3,hx3,e4,sr4⟩:=back m3 H3 e3 sr3
   exact⟨a,ob3,kvs3,nf,hx3,p m3 σ3 _ (((e1.trans ee).trans e3).trans e4) sr4 (lr3.mono e4)⟩
  cases o with
  |nx=>exact nxt _ post
  |bk=>exact nxt _ post
  |ct=>exact nxt _ post
  | rt v=>
    intro m3 v3 H3 e3 sr3 i3
    obtain⟨ob3,kvs3,hx3,e4,sr4⟩:=back m3 H3 e3 sr3
    exact⟨a,ob3,kvs3,nf,hx3,post m3 v3 _ (((e1.trans ee).trans e3).trans e4) sr4 (i3.mono e4)⟩
 |_=>cases h
theorem EC{X:Cx}{tg iter:Expr}{body:List Stmt}{ce:CE}{g:CG}{cb:CS}{pos:Pos}(hp:PassesOwn (model X.prog X.w) X.A X.env X.xe)(hc:X.calm=true)(hi:QE X iter ce)(hg:QG X tg g)(hb:QSs X body cb)(hs:∀x,foldedSetIterable iter X.env x=pure x:=by intro _;rfl):QS X (.For tg iter body [] pos) (Aa ce g cb):=
 (AJ (tu hp hc (AW hi) hg hb hs)).imp Cb
end OP
namespace OP
open PySem PySem.Spec PyProof PyProof.Rows L2 OG PySem.W
theorem ql{prog:Program}{w:World}{A:Around}{E:Value->Shared->Prop}{s:Shared}{a:Addr}{vs:List Value}{n:Nat}{P:PySem.Fin->Shared->Prop}
  (g:s.heap.get? a=some (seqObj "list" vs.toArray n)) (h2:2<=vs.length) (h64:vs.length<64)
  (ask:∀h':Heap,(∀b o,b≠a->s.heap.get? b=some o->h'.get? b=some o)->wpAny (model prog w) A (keyKind' vs.toArray) (fun κ s'=>s'={ s with heap:=h' }/\KasT.kasWp (kas_ask prog w A κ vs) (kas_sort vs.length)
   (fun p s''=>s''={ s with heap:=h' }/\P (Fin.done (Flow.ret Value.none)) { s with heap:=sortedHeap s.heap a vs (p.toList.map fun i=>vs.getD i Value.none).toArray }) { s with heap:=h' }) E { s with heap:=h' }) :
  wpAny (model prog w) A (Builtin.«list.sort» { pos:=[Value.ref a] }) P E s:=by
 rw[list_sort_plain]
 have hS:vs.toArray.size=vs.length:=by simp
 have hz:vs.length<=sizeLine:=by unfold sizeLine;omega
 have lt:=Heap.lt_size g
 refine wpAny_bind (listItems_at g rfl (wpAny_bind (listUpdate_at g rfl ?_ (by rw[hS];exact hz) (by simp))))
 obtain⟨e1,g1⟩:∃e1,(s.heap.update a (Obj.mapSeq fun _=>#[])).get? a=some (seqObj "list" #[] e1):=⟨_,get?_update_seq g fun _=>#[]⟩
 refine wpAny_bind (seqEpoch_at g1 rfl (wpAny_bind (wpAny_newTuple (wpAny_bind (wpAny_newList (wpAny_holding ?_) (by simp))) (by simpa using hz))))
 have hu:(s.heap.update a (Obj.mapSeq fun _=>#[])).objs.size=s.heap.objs.size:=Heap.size_update ..
 have g2:(((s.heap.update a (Obj.mapSeq fun _=>#[])).push (seqObj "tuple" vs.toArray 0)).push (seqObj "list" #[] 0)).get? a=some (seqObj "list" #[] e1):=
  Heap.get?_push_of_some _ (Heap.get?_push_of_some _ g1)
 have n2:¬vs.toArray.size<2:=by rw[hS];omega
 dsimp only
 rw[if_neg n2]
 have hk:∀b o,b≠a->s.heap.get? b=some o->(((s.heap.update a (Obj.mapSeq fun _=>#[])).push (seqObj "tuple" vs.toArray 0)).push (seqObj "list" #[] 0)).get? b=some o:=fun b o hb ho=>by
  refine Heap.get?_push_of_some _ (Heap.get?_push_of_some _ ?_)
  rw[Heap.get?_update_ne _ _ _ _ hb];exact ho
 refine wpAny_bind (wpAny_mono (ask _ hk) (fun κ s' hs'=>?_) fun _ _ h'=>h')
 obtain⟨rfl,hrun⟩:=hs'
 rw[if_neg n2]
 refine wpAny_bind (wpAny_mono (kat_run (ks:=vs) (Q:=fun st' s'=>∃p:Array Nat,p.size=vs.length/\arrOf st'=Array.map (kas_item (vs.toArray.zip vs.toArray)) p/\failedOf st'=none/\s'=_/\P (Fin.done (Flow.ret Value.none)) { s with heap:=sortedHeap s.heap a vs (p.toList.map fun i=>vs.getD i Value.none).toArray }) rfl h2 h64 (fun p st' s' hp harr hfail hG=>⟨p,hp,harr,hfail,hG⟩) hrun) (fun r s' hr=>?_) fun _ _ h'=>h')
 obtain⟨u,st'⟩:=r
 obtain⟨p,hp,harr,hfail,rfl,hP⟩:=hr
 have hout:Array.map (fun x=>x.snd) (arrOf st')=(p.toList.map fun i=>vs.getD i Value.none).toArray:=kat_snds rfl harr
 refine wpAny_bind (seqEpoch_at g2 rfl (wpAny_bind (listUpdate_at g2 rfl ?_ (by simp) ?_)))
 ·dsimp only at hfail ⊢
  rw[hfail]
  simp only[bne_self_eq_false,Bool.false_eq_true,if_false]
  have hP':=hP
  rw[<-hout]at hP'
  exact wpAny_pure hP'
 ·dsimp only
  rw[hout]
  simp
  unfold sizeLine
  omega
def oy(h:Heap)(v:Value)(p:Int×Int):Prop:=∃b o t1 t2 e,v=Value.ref b/\h.get? b=some o/\o.cls=Value.type "tuple"/\o.data=Data.seq #[Value.int p.1 t1,Value.int p.2 t2] e
def ltP(p q:Int×Int):Bool:=decide (p.1<q.1\/p.1=q.1/\p.2<q.2)
section
variable{prog:Program}{w:World}{A:Around}{E:Value->Shared->Prop}{s:Shared}
theorem pd{b:Bool}{x y:Int}{t u:Tok}{Q:Bool->Shared->Prop}(h:Q (decide (x<y)) s):wpAny (model prog w) A (oneLt' b (Value.int x t) (Value.int y u)) Q E s:=by
 cases b with
 |true=>exact oneLt_int h
 |false=>
  rw[oneLt'_eq]
  dsimp only
  rw[if_neg Bool.false_ne_true]
  exact wpAny_bind (wpAny_lt_int (wpAny_truthy_bool h))
theorem E9{v v':Value}{p p':Int×Int}{C:Bool->Shared->Prop}(h:oy s.heap v p)(h':oy s.heap v' p')(c:C (ltP p p') s):wpAny (model prog w) A (keyLt' (tuples' true) v v') C E s:=by
 obtain⟨b,o,t1,t2,e,rfl,g,_,d⟩:=h
 obtain⟨b',o',t1',t2',e',rfl,g',_,d'⟩:=h'
 refine kat_lt g d g' d' (kat_cons (wpAny_eqBool_int ?_))
 by_cases e1:p.1=p'.1
 ·rw[e1,beq_self_eq_true]
  refine kat_yes (kat_cons (wpAny_eqBool_int ?_))
  by_cases e2:p.2=p'.2
  ·rw[e2,beq_self_eq_true]
   refine kat_yes (kat_nil ?_)
   have:ltP p p'=false:=by simp[ltP,e1,e2]
   rw[this]at c
   exact c
  ·rw[beq_eq_false_iff_ne.mpr e2]
   refine kat_no (pd ?_)
   have:ltP p p'=decide (p.2<p'.2):=by simp[ltP,e1]
   rw[this]at c
   exact c
 ·rw[beq_eq_false_iff_ne.mpr e1]
  refine kat_no (pd ?_)
  have:ltP p p'=decide (p.1<p'.1):=by simp[ltP,e1]
  rw[this]at c
  exact c
def eN(h:Heap):List Value->List (Int×Int)->Prop
 |[],[]=>True
 |v::vs,p::ps=>oy h v p/\eN h vs ps
 |_,_=>False
theorem nB{h:Heap}:∀{vs:List Value} {ps:List (Int×Int)},eN h vs ps->vs.length=ps.length
 |[],[],_=>rfl
 |_::_,_::_,k=>by rw[List.length_cons,List.length_cons,nB k.2]
 |[],_::_,k=>k.elim
 |_::_,[],k=>k.elim
theorem nC{h:Heap}:∀{vs:List Value} {ps:List (Int×Int)} {i:Nat},eN h vs ps->i<ps.length->oy h (vs.getD i Value.none) (ps.getD i (0,0))
 |[],[],_,_,k=>absurd k (Nat.not_lt_zero _)
 |_::_,_::_,0,k,_=>k.1
 |_::vs,_::ps,i+1,k,l=>by
  show oy h (vs.getD i Value.none) (ps.getD i (0,0))
  exact nC k.2 (by rw[List.length_cons]at l;omega)
 |[],_::_,_,k,_=>k.elim
 |_::_,[],_,k,_=>k.elim
theorem yA{h h':Heap}{v:Value}{p:Int×Int}{a:Addr}(k:oy h v p)(hv:v≠.ref a)(m:∀b o,b≠a->h.get? b=some o->h'.get? b=some o):oy h' v p:=by
 obtain⟨b,o,t1,t2,e,rfl,g,c,d⟩:=k
 exact⟨b,o,t1,t2,e,rfl,m b o (fun e=>hv (by rw[e])) g,c,d⟩
theorem jR{h h':Heap}{a:Addr}(m:∀b o,b≠a->h.get? b=some o->h'.get? b=some o):∀{vs:List Value} {ps:List (Int×Int)},eN h vs ps->(∀v∈vs,v≠.ref a)->eN h' vs ps
 |[],[],_,_=>trivial
 |v::vs,_::_,k,hv=>⟨yA k.1 (hv v List.mem_cons_self) m,jR m k.2 fun x hx=>hv x (List.mem_cons_of_mem _ hx)⟩
 |[],_::_,k,_=>k.elim
 |_::_,[],k,_=>k.elim
theorem o5{h:Heap}:∀{vs:List Value} {ps:List (Int×Int)},eN h vs ps->∃fs,KatTups h vs fs/\fs.length=vs.length/\∀f∈fs,∃i t,f=Value.int i t
 |[],[],_=>⟨[],trivial,rfl,fun f hf=>by cases hf⟩
 |v::vs,p::ps,k=>by
  obtain⟨fs,h1,h2,h3⟩:=o5 k.2
  obtain⟨b,o,t1,t2,e,hv,g,c,d⟩:=k.1
  refine⟨Value.int p.1 t1::fs,⟨⟨b,o,_,e,hv,g,c,d,rfl⟩,h1⟩,by rw[List.length_cons,List.length_cons,h2],fun f hf=>?_⟩
  rcases List.mem_cons.mp hf with z|z
  ·exact⟨_,_,z⟩
  ·exact h3 f z
 |[],_::_,k=>k.elim
 |_::_,[],k=>k.elim
theorem vY{vs:List Value}{ps:List (Int×Int)}{Q:SortKind->Shared->Prop}(h:eN s.heap vs ps)(hn:0<vs.length)(q:Q (tuples' true) s):wpAny (model prog w) A (keyKind' vs.toArray) Q E s:=by
 obtain⟨fs,h1,h2,h3⟩:=o5 h
 refine kat_kind (T:=Value.type "int") h1 (by omega) (fun v hv A Q E s' _ q=>?_) (by decide +kernel) (by exact q)
 obtain⟨i,t,rfl⟩:=h3 v hv
 exact wpAny_typeOf (typeIs_int s' i t) q
end
theorem Jg{ps:List (Int×Int)}(nd:ps.Nodup):CC ps.length fun i j=>ltP (ps.getD i (0,0)) (ps.getD j (0,0)) where
 tr:=fun{i j k} hi hj hk h1 h2=>by simp only[ltP,decide_eq_true_eq]at *;omega
 asym:=fun{i j} hi hj h=>by simp only[ltP,decide_eq_true_eq,decide_eq_false_iff_not]at *;omega
 tot:=fun{i j} hi hj hne h=>by
  simp only[ltP,decide_eq_true_eq,decide_eq_false_iff_not]at *
  have hd:ps.getD i (0,0)≠ps.getD j (0,0):=by
   rw[List.getD_eq_getElem?_getD,List.getD_eq_getElem?_getD,List.getElem?_eq_getElem hi,List.getElem?_eq_getElem hj]
   simp only[Option.getD_some]
   exact fun e=>hne ((List.getElem_inj nd).mp e)
  have:¬((ps.getD i (0,0)).1=(ps.getD j (0,0)).1/\(ps.getD i (0,0)).2=(ps.getD j (0,0)).2):=fun e=>hd (Prod.ext e.1 e.2)
  omega
theorem nL{prog:Program}{w:World}{A:Around}{E:Value->Shared->Prop}{s:Shared}{a:Addr}{vs:List Value}{n:Nat}{P:PySem.Fin->Shared->Prop}
  (g:s.heap.get? a=some (seqObj "list" vs.toArray n)) (h2:vs.length<2) (hP:P (Fin.done (Flow.ret Value.none)) { s with heap:=sortedHeap s.heap a vs vs.toArray }) :
  wpAny (model prog w) A (Builtin.«list.sort» { pos:=[Value.ref a] }) P E s:=by
 rw[list_sort_plain]
 have hS:vs.toArray.size=vs.length:=by simp
 have hz:vs.length<=sizeLine:=by unfold sizeLine;omega
 refine wpAny_bind (listItems_at g rfl (wpAny_bind (listUpdate_at g rfl ?_ (by rw[hS];exact hz) (by simp))))
 obtain⟨e1,g1⟩:∃e1,(s.heap.update a (Obj.mapSeq fun _=>#[])).get? a=some (seqObj "list" #[] e1):=⟨_,get?_update_seq g fun _=>#[]⟩
 refine wpAny_bind (seqEpoch_at g1 rfl (wpAny_bind (wpAny_newTuple (wpAny_bind (wpAny_newList (wpAny_holding ?_) (by simp))) (by simpa using hz))))
 have g2:(((s.heap.update a (Obj.mapSeq fun _=>#[])).push (seqObj "tuple" vs.toArray 0)).push (seqObj "list" #[] 0)).get? a=some (seqObj "list" #[] e1):=
  Heap.get?_push_of_some _ (Heap.get?_push_of_some _ g1)
 have n2:vs.toArray.size<2:=by rw[hS];omega
 dsimp only
 rw[if_pos n2]
 refine wpAny_bind (wpAny_pure ?_)
 rw[if_pos n2]
 refine wpAny_bind (wpAny_pure ?_)
 have hout:Array.map (fun x=>x.snd) (arrOf (SortSt.mk' general' (vs.toArray.zip vs.toArray) #[] 7 none))=vs.toArray:=by
  show Array.map (fun x=>x.snd) (vs.toArray.zip vs.toArray)=vs.toArray
  simp[List.map_snd_zip]
 refine wpAny_bind (seqEpoch_at g2 rfl (wpAny_bind (listUpdate_at g2 rfl ?_ (by simp) ?_)))
 ·have hfail:failedOf (SortSt.mk' general' (vs.toArray.zip vs.toArray) #[] 7 none)=none:=rfl
  dsimp only at hfail ⊢
  simp only[hfail,bne_self_eq_false,Bool.false_eq_true,if_false]
  have hP':=hP
  rw[<-hout]at hP'
  exact wpAny_pure hP'
 ·dsimp only
  rw[hout]
  rw[hS]
  omega
def J4(ps:List (Int×Int))(q:Array Nat):Prop:=Pm ps.length q/\Asc (fun i j=>ltP (ps.getD i (0,0)) (ps.getD j (0,0))) q ps.length
theorem jA{prog:Program}{w:World}{A:Around}{E:Value->Shared->Prop}{s:Shared}{a:Addr}{vs:List Value}{ps:List (Int×Int)}{n:Nat}{P:PySem.Fin->Shared->Prop}
  (g:s.heap.get? a=some (seqObj "list" vs.toArray n)) (hp:eN s.heap vs ps) (hv:∀v∈vs,v≠.ref a) (nd:ps.Nodup) (h64:ps.length<64)
  (k:∀q:Array Nat,J4 ps q->P (Fin.done (Flow.ret Value.none)) { s with heap:=sortedHeap s.heap a vs (q.toList.map fun i=>vs.getD i Value.none).toArray }) :
  wpAny (model prog w) A (Builtin.«list.sort» { pos:=[Value.ref a] }) P E s:=by
 have hl:=nB hp
 by_cases h2:vs.length<2
 ·have hr:((List.range ps.length).toArray.toList.map fun i=>vs.getD i Value.none)=vs:=by
   rw[<-hl]
   refine List.ext_getElem? fun i=>?_
   by_cases hi:i<vs.length
   ·simp[List.getElem?_range hi,List.getElem?_eq_getElem hi]
   ·simp[List.getElem?_eq_none (Nat.le_of_not_lt hi),hi]
  have:=k (List.range ps.length).toArray ⟨uR,fun i j hij hj=>by omega⟩
  rw[hr]at this
  exact nL g h2 this
 ·refine ql g (by omega) (by omega) fun h' m=>?_
  have hp':eN ({ s with heap:=h' }:Shared).heap vs ps:=jR m hp hv
  refine vY hp' (by omega) ⟨rfl,?_⟩
  have hl':vs.length=ps.length:=hl
  rw[hl']
  refine Ez (Jg nd) (fun i j C hi hj c=>?_) (by omega) fun q P1 P2=>⟨rfl,k q ⟨P1,P2⟩⟩
  exact E9 (nC hp' hi) (nC hp' hj) c
theorem jS{h:Heap}:∀{vs:List Value} {ps:List (Int×Int)},eN h vs ps->∀v∈vs,∀a,h.objs.size<=a->v≠.ref a
 |[],[],_,v,hv,_,_=>by cases hv
 |_::_,_::_,k,v,hv,a,ha=>by
  rcases List.mem_cons.mp hv with z|z
  ·obtain⟨b,o,t1,t2,e,e1,g,_⟩:=k.1
   rw[z,e1]
   intro e2
   cases e2
   exact absurd (Heap.lt_size g) (Nat.not_lt.mpr ha)
  ·exact jS k.2 v z a ha
 |[],_::_,k,_,_,_,_=>k.elim
 |_::_,[],k,_,_,_,_=>k.elim
theorem rG{prog:Program}{w:World}{A:Around}{E:Value->Shared->Prop}{s:Shared}{l:Addr}{vs:List Value}{ps:List (Int×Int)}{Q:Value->Shared->Prop}
  (hL:s.heap.IsList l vs.toArray) (hp:eN s.heap vs ps) (nd:ps.Nodup) (h64:ps.length<64)
  (k:∀q:Array Nat,J4 ps q->Q (Value.ref (s.heap.objs.size+1)) { s with heap:=sortedAll s.heap vs (q.toList.map fun i=>vs.getD i Value.none).toArray }) :
  wpAny (model prog w) A (call (Value.builtin "sorted") [Value.ref l]) Q E s:=by
 have hl:=nB hp
 have hz:vs.length<=sizeLine:=by unfold sizeLine;omega
 refine Calls.call_function_entry kind_sorted plain_sorted entry_sorted (args_sorted1 _) ?_
 unfold Builtin.«sorted»
 refine wpAny_bind (m:=checkCount "sorted" 1 1 _) (wpAny_pure (wpAny_bind (collect_list hL (wpAny_bind (wpAny_newList ?_ hz)) hz)))
 have hsz:((s.heap.push (seqObj "list" #[] 0)).update s.heap.objs.size (Obj.mapSeq fun x=>x++vs.toArray)).objs.size=s.heap.objs.size+1:=by
  rw[Heap.size_update,size_push']
 have gL:(((s.heap.push (seqObj "list" #[] 0)).update s.heap.objs.size (Obj.mapSeq fun x=>x++vs.toArray)).push (seqObj "list" vs.toArray 0)).get? (s.heap.objs.size+1)=some (seqObj "list" vs.toArray 0):=by
  rw[<-hsz];exact Heap.get?_push_size _ rfl
 have old:∀b o,s.heap.get? b=some o->(((s.heap.push (seqObj "list" #[] 0)).update s.heap.objs.size (Obj.mapSeq fun x=>x++vs.toArray)).push (seqObj "list" vs.toArray 0)).get? b=some o:=fun b o g=>by
  refine Heap.get?_push_of_some _ ?_
  rw[Heap.get?_update_ne _ _ _ _ (Nat.ne_of_lt (Heap.lt_size g))]
  exact Heap.get?_push_of_some _ g
 show wpAny _ _ _ _ _ { s with heap:=((s.heap.push (seqObj "list" #[] 0)).update s.heap.objs.size (Obj.mapSeq fun x=>x++vs.toArray)).push (seqObj "list" vs.toArray 0) }
 rw[show Value.ref ((s.heap.push (seqObj "list" #[] 0)).update s.heap.objs.size (Obj.mapSeq fun x=>x++vs.toArray)).objs.size=Value.ref (s.heap.objs.size+1)from by rw[hsz]]
 refine wpAny_bind (wpAny_holding (wpAny_call_entry slot_list_sort ⟨_,gL,rfl⟩ entry_list_sort (jA (n:=0) gL (jR (a:=s.heap.objs.size+1) (fun b o _ g=>old b o g) hp fun v hv=>jS hp v hv _ (by omega)) (fun v hv=>jS hp v hv _ (by omega)) nd h64 fun q hq=>⟨_,rfl,?_⟩) (args_list_sort _)))
 exact wpAny_pure ⟨_,rfl,k q hq⟩
def PrL(K:PySem.W.Frag)(H:Hp):List V->List (Int×Int)->Prop
 |[],[]=>True
 |x::xs,p::ps=>(∃a,x=.ref a/\SqT K H a [.int p.1,.int p.2])/\PrL K H xs ps
 |_,_=>False
def uM(K:PySem.W.Frag):List V->Hp->VK->Prop:=fun xs H Q=>∃(p:Addr) (ys:List V) (ps:List (Int×Int)),xs=[.ref p]/\SqL K H p ys/\PrL K H ys ps/\ps.Nodup/\ps.length<64/\
 ∀(l:Addr) (q:Array Nat),H l=none->J4 ps q->Q (.ref l) (upd H l (.lst (q.toList.map fun i=>ys.getD i .non)))
theorem yu{K:PySem.W.Frag}{H:Hp}:∀{ys:List V} {ps:List (Int×Int)},PrL K H ys ps->ys.length=ps.length
 |[],[],_=>rfl
 |_::_,_::_,k=>by rw[List.length_cons,List.length_cons,yu k.2]
 |[],_::_,k=>k.elim
 |_::_,[],k=>k.elim
theorem De{X:Cx}{pins:List (Addr×Obj)}{σ:L2.St}{H:Hp}{s:Shared}(I:Inv X pins σ H s):∀{ys:List V} {ps:List (Int×Int)} {vs:List Value},PrL X.K H ys ps->bW ys vs->eN s.heap vs ps
 |[],[],_,_,r=>by cases r;trivial
 |_::_,p::ps,_,k,r=>by
  cases r with
  |cons r1 r2=>
   refine⟨?_,De I k.2 r2⟩
   obtain⟨a,rfl,hs⟩:=k.1
   obtain⟨its,rv,⟨o,g,c,n,d⟩,_⟩:=I.tuple hs
   cases r1
   cases rv with
   |cons u1 u2=>cases u2 with
    |cons u3 u4=>
     cases u4
     obtain⟨t1,rfl⟩:=u1
     obtain⟨t2,rfl⟩:=u3
     exact⟨a,o,t1,t2,n,rfl,g,c,d⟩
 |[],_::_,_,k,_=>k.elim
 |_::_,[],_,k,_=>k.elim
theorem AZ{ys:List V}{vs:List Value}(r:bW ys vs){i:Nat}(hi:i<ys.length):cR (ys.getD i .non) (vs.getD i Value.none):=by
 induction r generalizing i with
 |nil=>simp at hi
 |cons r1 r2 ih=>
  cases i with
  |zero=>exact r1
  |succ i=>exact ih (by simpa using hi)
theorem pK{ys:List V}{vs:List Value}(r:bW ys vs):∀(is:List Nat),(∀i∈is,i<ys.length)->bW (is.map fun i=>ys.getD i .non) (is.map fun i=>vs.getD i Value.none)
 |[],_=>.nil
 |i::is,h=>.cons (AZ r (h i List.mem_cons_self)) (pK r is fun j hj=>h j (List.mem_cons_of_mem _ hj))
theorem o3{n:Nat}{q:Array Nat}(P:Pm n q):∀i∈q.toList,i<n:=fun i hi=>by
 obtain⟨j,hj,e⟩:=List.mem_iff_getElem.mp hi
 have hj':j<q.size:=by simpa using hj
 have:=P.bd j (by rw[<-P.sz];exact hj')
 rw[Array.getD_eq_getD_getElem?,Array.getElem?_eq_getElem hj']at this
 rw[Array.getElem_toList]at e
 rw[<-e];exact this
theorem yI{X:Cx}:gQ X (.builtin "sorted") (uM X.K):=by
 rintro pins s σ H xs us Q I r ⟨p,ys,ps,rfl,hL,hp,nd,h64,q⟩
 obtain⟨u,rfl,ru⟩:=m7 r
 cases ru
 obtain⟨its,rv,pl,hz⟩:=I.list hL
 have gK:=yu hp
 refine rG pl.isList (De I hp rv) nd h64 fun qa a1=>?_
 obtain⟨e,ge⟩:=sortedAll_at s.heap its (qa.toList.map fun i=>its.getD i Value.none).toArray
 have hf:=I.hok.fresh (Nat.le_succ s.heap.objs.size)
 have hq:qa.toList.length=ps.length:=by rw[Array.length_toList,a1.1.sz]
 refine⟨.ref (s.heap.objs.size+1),_,I.laid (o:=.lst (qa.toList.map fun i=>ys.getD i .non)) (t':=s.toks) (fun b o e=>sortedAll_old e) (Nat.le_succ _) ⟨by rw[List.length_map,hq];unfold sizeLine;omega,_,e,pK rv qa.toList (by rw[gK];exact o3 a1.1),ge⟩,rfl,q _ qa hf a1⟩
theorem Ax{X:Cx}{pins:List (Addr×Obj)}{σ:List (Option V)}{H H':Hp}{s:Shared}{h':Heap}{t':Nat}(I:Inv X pins σ H s)(k:∀b u,s.heap.get? b=some u->h'.get? b=some u)
  (same:∀b,b<s.heap.objs.size->H' b=H b) (new:∀b u,s.heap.objs.size<=b->H' b=some u->cT X.prog X.w H' h' b u):Inv X pins σ H' { s with heap:=h',toks:=t' }:=by
 have up:∀b u,H b=some u->H' b=some u:=fun b u e=>by
  rw[same b (Nat.lt_of_not_le fun z=>by rw[I.hok.fresh z]at e;cases e)];exact e
 refine I.un ⟨fun b u q _ _ _=>k b u q,fun b u q _ _ _=>⟨u.slots,k b u q⟩,fun b u q n _=>?_,fun b u q _=>⟨u,k b u q⟩,fun b xs q=>up b _ q,fun b u xs q=>up b _ q,fun b ps q=>⟨#[],by rw[up b _ q];simp⟩⟩ fun b u e=>?_
 ·rw[same b (Heap.lt_size q)];exact n
 ·by_cases hb:b<s.heap.objs.size
  ·rw[same b hb]at e
   exact(I.hok b u e).stay (fun c v _ q=>k c v q) (fun c q=>up c _ q) fun c xs q=>up c _ q
  ·exact new b u (Nat.le_of_not_lt hb) e
def AY(a d:Addr):HO:=.ext fun h=>h.IsItemsView a d
def Ie:V->List V->Hp->VK->Prop:=fun x xs H Q=>∃d kvs,x=.ref d/\xs=[]/\H d=some (.dK kvs)/\∀l,H l=none->Q (.ref l) (upd H l (AY l d))
theorem BP{X:Cx}:MtR X "dict.items" Ie:=by
 rintro pins s σ H x xs v us Q I r1 rs ⟨d,kvs,rfl,rfl,hD,q⟩
 cases r1
 cases rs
 obtain⟨z,hd,vs,rel,dd⟩:=zO I.hok hD
 have gv:(s.heap.push { cls:=Value.type "dict_items",data:=Data.fields #[Value.ref d] }).get? s.heap.objs.size=some { cls:=Value.type "dict_items",data:=Data.fields #[Value.ref d] }:=Heap.get?_push_size _ rfl
 have hf:=I.hok.fresh (Nat.le_refl s.heap.objs.size)
 refine call_meetsIn PySem.F.slot_dict_items (Heap.DictOf.typeIs dd) PySem.F.entry_dict_items (PySem.F.args_dict_items_1 (Value.ref d)) (meets_dict_items (cG X.prog X.w) d hd) ⟨⟨vs,dd⟩,?_⟩
 refine⟨.ref s.heap.objs.size,_,I.laid (o:=AY s.heap.objs.size d) (t':=s.toks) (fun b o e=>Heap.get?_push_of_some _ e) (Nat.le_refl _) ⟨⟨_,gv,rfl,rfl⟩,⟨_,gv⟩,fun h1 h2 ⟨o,g,c,e⟩ m=>⟨o,m o g,c,e⟩⟩,rfl,q _ hf⟩
def Ba:List V->Hp->VK->Prop:=fun xs H Q=>∃(v d:Addr) (ps:List (Int×Int)),xs=[.ref v]/\H v=some (AY v d)/\H d=some (.dK (ps.map fun p=>(.inl p.1,.int p.2)))/\ps.Nodup/\ps.length<64/\
 ∀(as:List Addr) (l:Addr) (q:Array Nat) (H2:Hp),qY H H2->H2 l=none->as.length=ps.length->(∀(i:Nat) (a:Addr) (p:Int×Int),as[i]?=some a->ps[i]?=some p->H2 a=some (.tup [.int p.1,.int p.2]))->J4 ps q->
  Q (.ref l) (upd H2 l (.lst (q.toList.map fun i=>.ref (as.getD i 0))))
def Dp(H:Hp)(zs:List (Addr×(Int×Int))):Hp:=fun b=>match zs.find? (fun z=>decide (z.1=b))with
 |some z=>some (.tup [.int z.2.1,.int z.2.2])
 |none=>H b
theorem Fu{H:Hp}:∀{zs:List (Addr×(Int×Int))} {i:Nat} {z:Addr×(Int×Int)},(zs.map (·.1)).Nodup->zs[i]?=some z->Dp H zs z.1=some (.tup [.int z.2.1,.int z.2.2]):=fun{zs i z} nd h=>by
 unfold Dp
 have hf:zs.find? (fun y=>decide (y.1=z.1))=some z:=by
  induction zs generalizing i with
  |nil=>simp at h
  |cons y r ih=>
   rw[List.map_cons,List.nodup_cons]at nd
   cases i with
   |zero=>simp at h;subst h;simp
   |succ i=>
    simp at h
    have hm:z∈r:=List.mem_of_getElem? h
    have:y.1≠z.1:=fun e=>nd.1 (List.mem_map.mpr ⟨z,hm,e.symm⟩)
    rw[List.find?_cons,decide_eq_false this]
    exact ih nd.2 h
 rw[hf]
theorem t5{H:Hp}{zs:List (Addr×(Int×Int))}{b:Addr}(h:b∉zs.map (·.1)):Dp H zs b=H b:=by
 unfold Dp
 rw[List.find?_eq_none.mpr fun z hz=>by simp only[decide_eq_true_eq];exact fun e=>h (List.mem_map.mpr ⟨z,hz,e⟩)]
theorem Jm{κ:Type}:∀{kvs:List (κ×V)} {vs:List (κ×Value)} {i:Nat} {k:κ} {x:Value},KV kvs vs->vs[i]?=some (k,x)->∃y,kvs[i]?=some (k,y)/\cR y x
 |_,_,i,k,x,.nil,e=>by simp at e
 |(k1,y1)::_,(k2,x2)::_,0,k,x,.cons r t,e=>by
  simp at e
  obtain⟨rfl,rfl⟩:=e
  obtain⟨r1,r2⟩:=r
  dsimp only at r1 r2
  subst r1
  exact⟨y1,rfl,r2⟩
 |_::_,_::_,i+1,k,x,.cons r t,e=>by
  simp at e
  obtain⟨y,e1,e2⟩:=Jm t e
  exact⟨y,by simpa using e1,e2⟩
theorem uT{h:Heap}:∀{as:List Addr} {ps:List (Int×Int)},as.length=ps.length->(∀(i:Nat) (a:Addr) (p:Int×Int),as[i]?=some a->ps[i]?=some p->∃t1 t2,h.get? a=some { cls:=Value.type "tuple",data:=Data.seq #[Value.int p.1 t1,Value.int p.2 t2] })->eN h (as.map Value.ref) ps
 |[],[],_,_=>trivial
 |a::as,p::ps,l,k=>by
  obtain⟨t1,t2,g⟩:=k 0 a p rfl rfl
  exact⟨⟨a,_,t1,t2,0,rfl,g,rfl,rfl⟩,uT (by simpa using l) fun i a p h1 h2=>k (i+1) a p (by simpa using h1) (by simpa using h2)⟩
 |[],_::_,l,_=>by simp at l
 |_::_,[],l,_=>by simp at l
theorem uC:∀as:List Addr,bW (as.map V.ref) (as.map Value.ref)
 |[]=>.nil
 |a::r=>.cons rfl (uC r)
theorem yJ{X:Cx}(hc:X.calm=true):gQ X (.builtin "sorted") Ba:=by
 rintro pins s σ H xs us Q I r ⟨v,d,ps,rfl,hV,hD,nd,h64,q⟩
 obtain⟨u,rfl,ru⟩:=m7 r
 cases ru
 obtain⟨hview,_,_⟩:cT X.prog X.w H s.heap v (AY v d):=I.hok v _ hV
 obtain⟨z,hd,vs,rel,dd⟩:=zO I.hok hD
 obtain⟨ep,da⟩:=dd.dictAt
 have lv:vs.length=ps.length:=by rw[<-Paired.length rel,List.length_map]
 refine Calls.call_function_entry kind_sorted plain_sorted entry_sorted (args_sorted1 _) ?_
 unfold Builtin.«sorted»
 refine wpAny_bind (m:=checkCount "sorted" 1 1 _) (wpAny_pure (wpAny_bind (kdx_collect (show X.A.in1.handled=none from I.ok.hd hc) hview da (by rw[lv];unfold sizeLine;omega) fun h1 tk as up la G=>?_)))
 have lap:as.length=ps.length:=by rw[la,lv]
 have hp:∀(i:Nat) (a:Addr) (p:Int×Int),as[i]?=some a->ps[i]?=some p->∃t1 t2,h1.get? a=some { cls:=Value.type "tuple",data:=Data.seq #[Value.int p.1 t1,Value.int p.2 t2] }:=fun i a p ha hi=>by
  obtain⟨key,k,x,e1,e2,e3⟩:=G.pairs i a ha
  obtain⟨y,hkx,hk2⟩:=Jm rel e1
  rw[List.getElem?_map,hi]at hkx
  cases hkx
  obtain⟨t2,rfl⟩:=hk2
  rcases bM (k:=Sum.inl p.1) e2 with⟨j,t,e6,e7⟩|⟨j,t,e6,e7⟩
  ·cases e6;subst e7;exact⟨t,t2,e3⟩
  ·cases e6
 have nda:as.Nodup:=G.rise.imp fun h=>Nat.ne_of_lt h
 have hpairs:eN h1 (as.map Value.ref) ps:=uT lap hp
 have hlt:∀a∈as,a<h1.objs.size:=fun a ha=>by
  obtain⟨i,hi⟩:=List.getElem?_of_mem ha
  have hip:i<ps.length:=by rw[<-lap];exact(List.getElem?_eq_some_iff.mp hi).1
  obtain⟨t1,t2,g⟩:=hp i a _ hi (List.getElem?_eq_getElem hip)
  exact Heap.lt_size g
 refine wpAny_bind (wpAny_newList ?_ (by rw[List.length_map,lap];unfold sizeLine;omega))
 have gL:(h1.push { cls:=.type "list",data:=.seq (as.map Value.ref).toArray }).get? h1.objs.size=some (seqObj "list" (as.map Value.ref).toArray 0):=Heap.get?_push_size _ rfl
 have hv':∀v∈as.map Value.ref,v≠.ref h1.objs.size:=fun v hv=>jS hpairs v hv _ (Nat.le_refl _)
 refine wpAny_bind (wpAny_holding (wpAny_call_entry slot_list_sort ⟨_,gL,rfl⟩ entry_list_sort (jA (s:={ s with heap:=h1.push { cls:=.type "list",data:=.seq (as.map Value.ref).toArray },toks:=tk }) gL (jR (a:=h1.objs.size) (fun b o _ g=>Heap.get?_push_of_some _ g) hpairs hv') hv' nd h64 fun qa a1=>⟨_,rfl,?_⟩) (args_list_sort _)))
 obtain⟨e,ge⟩:=sortedHeap_at (out:=(qa.toList.map fun i=>(as.map Value.ref).getD i Value.none).toArray) gL
 have old:∀b o,h1.get? b=some o->(sortedHeap (h1.push { cls:=.type "list",data:=.seq (as.map Value.ref).toArray }) h1.objs.size (as.map Value.ref) (qa.toList.map fun i=>(as.map Value.ref).getD i Value.none).toArray).get? b=some o:=fun b o g1=>by
  have lt1:=Heap.lt_size g1
  rw[sortedHeap_old (Nat.ne_of_lt lt1) (by rw[Heap.size_push];exact Nat.lt_succ_of_lt lt1)]
  exact Heap.get?_push_of_some _ g1
 have zk:(as.zip ps).map (·.1)=as:=List.map_fst_zip (by omega)
 have lay:∀(i:Nat) (a:Addr) (p:Int×Int),as[i]?=some a->ps[i]?=some p->Dp H (as.zip ps) a=some (.tup [.int p.1,.int p.2]):=fun i a p h1 h2=>by
  have:=Fu (H:=H) (zs:=as.zip ps) (i:=i) (z:=(a,p)) (by rw[zk];exact nda) (by rw[List.getElem?_zip_eq_some];exact⟨h1,h2⟩)
  exact this
 have hsame:qY H (Dp H (as.zip ps)):=fun b o hb=>by
  rw[t5];exact hb
  rw[zk]
  intro hm
  have:=G.above b hm
  rw[I.hok.fresh (Nat.le_of_lt this)]at hb
  cases hb
 have I2:Inv X pins σ (Dp H (as.zip ps)) { s with heap:=h1,toks:=tk }:=Ax I up (fun b hb=>t5 (by rw[zk];exact fun hm=>absurd (G.above b hm) (Nat.not_lt.mpr (Nat.le_of_lt hb)))) fun b u hb hu=>by
  by_cases e2:b∈as
  ·obtain⟨i,hi⟩:=List.getElem?_of_mem e2
   have hip:i<ps.length:=by rw[<-lap];exact(List.getElem?_eq_some_iff.mp hi).1
   obtain⟨t1,t2,g⟩:=hp i b _ hi (List.getElem?_eq_getElem hip)
   rw[lay i b _ hi (List.getElem?_eq_getElem hip)]at hu
   cases hu
   exact⟨by unfold sizeLine;simp,[Value.int _ t1,Value.int _ t2],.cons ⟨t1,rfl⟩ (.cons ⟨t2,rfl⟩ .nil),_,g,rfl,0,rfl⟩
  ·rw[t5 (by rw[zk];exact e2),I.hok.fresh hb]at hu
   cases hu
 have hl0:Dp H (as.zip ps) h1.objs.size=none:=I2.hok.fresh (Nat.le_refl _)
 have hq:qa.toList.length=ps.length:=by rw[Array.length_toList,a1.1.sz]
 have rv:=uC as
 have gd:∀i,i<as.length->(as.map V.ref).getD i .non=.ref (as.getD i 0):=fun i hi=>by
  simp[List.getD_eq_getElem?_getD,List.getElem?_eq_getElem hi]
 have el:(qa.toList.map fun i=>(as.map V.ref).getD i .non)=qa.toList.map fun i=>V.ref (as.getD i 0):=List.map_congr_left fun i hi=>gd i (by rw[lap];exact o3 a1.1 i hi)
 refine wpAny_pure ⟨_,rfl,.ref h1.objs.size,_,Inv.laid (s:={ s with heap:=h1,toks:=tk }) (o:=.lst (qa.toList.map fun i=>.ref (as.getD i 0))) (t':=tk) I2 old (Nat.le_refl _) ⟨by rw[List.length_map,hq];unfold sizeLine;omega,_,e,?_,ge⟩,rfl,q as _ qa _ hsame hl0 lap lay a1⟩
 rw[<-el]
 exact pK rv qa.toList (by rw[List.length_map,lap];exact o3 a1.1)
theorem tZ{p:Int×Int}:ltP p p=false:=by simp[ltP]
theorem BV{p q:Int×Int}(h:ltP p q=true)(k:ltP q p=true):False:=by simp only[ltP,decide_eq_true_eq]at h k;omega
theorem vL:∀{L M:List (Int×Int)},L.Pairwise (fun a b=>ltP a b=true)->M.Pairwise (fun a b=>ltP a b=true)->(∀x,x∈L↔x∈M)->L=M
 |[],[],_,_,_=>rfl
 |[],m::M,_,_,h=>by have:=(h m).mpr List.mem_cons_self;cases this
 |l::L,[],_,_,h=>by have:=(h l).mp List.mem_cons_self;cases this
 |l::L,m::M,h1,h2,h=>by
  obtain⟨a1,b1⟩:=List.pairwise_cons.mp h1
  obtain⟨a2,b2⟩:=List.pairwise_cons.mp h2
  have e:l=m:=by
   rcases List.mem_cons.mp ((h l).mp List.mem_cons_self)with z|z
   ·exact z
   ·rcases List.mem_cons.mp ((h m).mpr List.mem_cons_self)with y|y
    ·exact y.symm
    ·exact(BV (a2 l z) (a1 m y)).elim
  subst e
  congr 1
  refine vL b1 b2 fun x=>⟨fun hx=>?_,fun hx=>?_⟩
  ·rcases List.mem_cons.mp ((h x).mp (List.mem_cons_of_mem _ hx))with z|z
   ·subst z;have:=a1 x hx;rw[tZ]at this;cases this
   ·exact z
  ·rcases List.mem_cons.mp ((h x).mpr (List.mem_cons_of_mem _ hx))with z|z
   ·subst z;have:=a2 x hx;rw[tZ]at this;cases this
   ·exact z
open Classical in
def fQ(ps:List (Int×Int)):List (Int×Int):=if h:∃L:List (Int×Int),L.Pairwise (fun a b=>ltP a b=true)/\∀x,x∈L↔x∈ps then h.choose else[]
theorem pS{L ps:List (Int×Int)}(h1:L.Pairwise (fun a b=>ltP a b=true))(h2:∀x,x∈L↔x∈ps):fQ ps=L:=by
 have h:∃L:List (Int×Int),L.Pairwise (fun a b=>ltP a b=true)/\∀x,x∈L↔x∈ps:=⟨L,h1,h2⟩
 unfold fQ
 rw[dif_pos h]
 obtain⟨k1,k2⟩:=h.choose_spec
 exact vL k1 h1 fun x=>(k2 x).trans (h2 x).symm
theorem sW{ps:List (Int×Int)}{q:Array Nat}(h:J4 ps q):fQ ps=q.toList.map fun i=>ps.getD i (0,0):=by
 obtain⟨P,A⟩:=h
 have hl:q.toList.length=ps.length:=by rw[Array.length_toList,P.sz]
 have gd:∀i (hi:i<q.toList.length),q.getD i 0=q.toList[i]:=fun i hi=>by
  have hi':i<q.size:=by simpa using hi
  rw[Array.getD_eq_getD_getElem?,Array.getElem?_eq_getElem hi',Array.getElem_toList];rfl
 have h1:(q.toList.map fun i=>ps.getD i (0,0)).Pairwise (fun a b=>ltP a b=true):=by
  rw[List.pairwise_iff_getElem]
  intro i j hi hj hij
  rw[List.length_map]at hi hj
  rw[List.getElem_map,List.getElem_map,<-gd i hi,<-gd j hj]
  exact A i j hij (by omega)
 have nd:(q.toList.map fun i=>ps.getD i (0,0)).Nodup:=h1.imp fun{a b} h e=>by subst e;rw[tZ]at h;cases h
 have sub:∀x∈q.toList.map fun i=>ps.getD i (0,0),x∈ps:=fun x hx=>by
  obtain⟨i,hi,rfl⟩:=List.mem_map.mp hx
  have:=o3 P i hi
  rw[List.getD_eq_getElem?_getD,List.getElem?_eq_getElem this]
  exact List.getElem_mem this
 refine pS h1 fun x=>⟨sub x,fun hx=>?_⟩
 refine Classical.byContradiction fun hn=>?_
 have:=List.Nodup.length_le_of_subset (List.nodup_cons.mpr ⟨hn,nd⟩) (l₂:=ps) fun y hy=>by
  rcases List.mem_cons.mp hy with z|z
  ·rw[z];exact hx
  ·exact sub y z
 rw[List.length_cons,List.length_map,hl]at this
 omega
def pP(p:Int×Int):U:=.tup [.int p.1,.int p.2]
def o7:List U->Option (List (Int×Int))
 |[]=>some []
 |.tup [.int a,.int b]::r=>(o7 r).map ((a,b)::·)
 |_=>none
theorem o6:∀ps:List (Int×Int),o7 (ps.map pP)=some ps
 |[]=>rfl
 |p::ps=>by rw[List.map_cons,pP,o7,o6 ps];rfl
theorem rN:∀{us:List U} {ps:List (Int×Int)},o7 us=some ps->us=ps.map pP
 |[],ps,h=>by cases h;rfl
 |u::us,ps,h=>by
  unfold o7 at h
  split at h
  ·rename_i e;cases e
  ·rename_i e
   injection e with e1 e2
   subst e1;subst e2
   obtain⟨qs,e,h⟩:=Option.map_eq_some_iff.mp h
   subst h
   rw[List.map_cons,<-rN e];rfl
  ·cases h
section
variable{K:PySem.W.Frag}{m:List Addr}{H:Hp}
theorem Dd:∀{ys:List V} {ps:List (Int×Int)},IsL K m H ys (ps.map pP)->PrL K H ys ps
 |ys,[],h=>by rw[h.of_nil];trivial
 |ys,p::ps,h=>by
  obtain⟨y,r,rfl,i,t⟩:=h.of_cons
  obtain⟨a,xs,rfl,hs,il⟩:=i.of_tup
  have e:xs=[p.1,p.2].map V.int:=IsL.ints (ns:=[p.1,p.2]) il
  subst e
  exact⟨⟨a,rfl,hs⟩,Dd t⟩
theorem yv:∀{ys:List V} {ps:List (Int×Int)} {i:Nat},PrL K H ys ps->i<ps.length->Is K m H (ys.getD i .non) (pP (ps.getD i (0,0)))
 |[],[],i,_,h=>by simp at h
 |y::ys,p::ps,0,k,_=>by
  obtain⟨a,e,hs⟩:=k.1
  show Is K m H y (pP p)
  rw[e]
  exact .tup_ hs (jT [p.1,p.2])
 |y::ys,p::ps,i+1,k,h=>by
  show Is K m H (ys.getD i .non) (pP (ps.getD i (0,0)))
  exact yv k.2 (by simpa using h)
 |[],_::_,_,k,_=>k.elim
 |_::_,[],_,k,_=>k.elim
theorem yt{ys:List V}{ps:List (Int×Int)}(k:PrL K H ys ps):∀is:List Nat,(∀i∈is,i<ps.length)->IsL K m H (is.map fun i=>ys.getD i .non) (is.map fun i=>pP (ps.getD i (0,0)))
 |[],_=>.nil_
 |i::is,h=>.cons_ (yv k (h i List.mem_cons_self)) (yt k is fun j hj=>h j (List.mem_cons_of_mem _ hj))
end
open Classical in
def lG:Fn
 |[.ref l],S=>match S[l]? with
  |some (.lst us)=>(o7 us).bind fun ps=>if ps.Nodup/\ps.length<64 then some (.ref S.length,S++[.lst ((fQ ps).map pP)])else none
  |_=>none
 |_,_=>none
theorem yB{K:PySem.W.Frag}:oS K (uM K) lG:=by
 intro m S H us vs u S' Q sr i hf post
 match us,hf with
 |[.ref l],hf=>
  obtain⟨v,rfl,iv⟩:=i.one
  obtain⟨a,ha,rfl⟩:=iv.of_ref
  simp only[lG]at hf
  split at hf<;>try cases hf
  rename_i ws hS
  obtain⟨ps,hn,h⟩:=Option.bind_eq_some_iff.mp hf
  split at h<;>try cases h
  have hc:ps.Nodup/\ps.length<64:=by assumption
  obtain⟨a',ha',xs,hx,la⟩:=sr.get hS
  rw[ha]at ha';cases ha'
  rw[rN hn]at la
  have pr:=Dd la
  refine⟨a,xs,ps,rfl,SqL.of hx,pr,hc.1,hc.2,fun p q hp aq=>?_⟩
  have il:=yt (m:=m) pr q.toList (o3 aq.1)
  have e:(q.toList.map fun i=>pP (ps.getD i (0,0)))=(fQ ps).map pP:=by rw[sW aq,List.map_map];rfl
  rw[e]at il
  exact ft sr il post hp
def nD:List (Key×U)->Option (List (Int×Int))
 |[]=>some []
 |(.inl a,.int b)::r=>(nD r).map ((a,b)::·)
 |_=>none
theorem o8:∀ps:List (Int×Int),nD (ps.map fun p=>(.inl p.1,.int p.2))=some ps
 |[]=>rfl
 |p::ps=>by rw[List.map_cons,nD,o8 ps];rfl
theorem rO:∀{kus:List (Key×U)} {ps:List (Int×Int)},nD kus=some ps->kus=ps.map fun p=>(.inl p.1,.int p.2)
 |[],ps,h=>by cases h;rfl
 |u::us,ps,h=>by
  unfold nD at h
  split at h
  ·rename_i e;cases e
  ·rename_i e
   injection e with e1 e2
   subst e1;subst e2
   obtain⟨qs,e,h⟩:=Option.map_eq_some_iff.mp h
   subst h
   rw[List.map_cons,<-rO e]
  ·cases h
open Classical in
def mU(co:CE):CE:=fun ρ S=>(co ρ S).bind fun p=>match p.1 with
 |.ref l=>match p.2[l]? with
  |some (.dic kus)=>(nD kus).bind fun ps=>if ps.Nodup/\ps.length<64 then some (.ref p.2.length,p.2++[.lst ((fQ ps).map pP)])else none
  |_=>none
 |_=>none
theorem vj{K:PySem.W.Frag}{m:List Addr}{H:Hp}:∀{kvs:List (Key×V)} {ps:List (Int×Int)},IsP K m H kvs (ps.map fun p=>(.inl p.1,.int p.2))->kvs=ps.map fun p=>(.inl p.1,.int p.2)
 |[],[],_=>rfl
 |(k,v)::kvs,p::ps,h=>by
  obtain⟨h1,h2⟩:=h
  simp only[List.map_cons]at h1 h2
  injection h1 with e1 e2
  obtain⟨y,r,e3,i,t⟩:=h2.of_cons
  injection e3 with e4 e5
  subst e4;subst e5
  rw[i.of_int,e1,vj (kvs:=kvs) (ps:=ps) ⟨e2,t⟩]
  rfl
 |[],_::_,h=>by have:=congrArg List.length h.1;simp at this
 |_::_,[],h=>by have:=congrArg List.length h.1;simp at this
theorem yj{X:Cx}{o:Expr}{co:CE}{p1 apos cpos pos:Pos}(hcm:X.calm=true)(hg:Gl X "sorted")(hm:X.mg "sorted"=none)(hv:bootBuiltins "sorted"=some (.builtin "sorted"))(ho:QE X o co)
  (hbase:attributeBase o "items" X.env (eval o X.env)=eval o X.env:=by rfl) (hline:(apos.endLine == cpos.line)=true:=by rfl)
  (he:starEach [.Call (.Attribute o "items" apos) [] [] cpos] X.env=(false,eval (.Call (.Attribute o "items" apos) [] [] cpos) X.env)::starEach [] X.env:=by rfl) (hpl:(backTo pos (starEach [] X.env)).any (·.1)=false:=by rfl) :
  QE X (.Call (.Name "sorted" p1) [.Call (.Attribute o "items" apos) [] [] cpos] [] pos) (mU co):=
 (mZ (yJ hcm) hg hm hv (fq (xF PySem.F.plainAttrs_dict PySem.F.slot_dict_items PySem.F.type_dict_items BP ho hbase hline) kn he) (by decide) (by decide) he hpl).imp fun σ H Q hz=>mC hz fun m ρ S u S' sr lr hc post=>by
  obtain⟨⟨x,S1⟩,h1,h⟩:=Option.bind_eq_some_iff.mp hc
  refine⟨m,ρ,S,x,S1,sr,lr,h1,fun m1 v1 H1 e1 sr1 i1=>?_⟩
  cases x with
  |ref l=>
   simp only at h
   split at h<;>try cases h
   rename_i kus hS
   obtain⟨ps,hn,h⟩:=Option.bind_eq_some_iff.mp h
   split at h<;>try cases h
   have hcc:ps.Nodup/\ps.length<64:=by assumption
   obtain⟨a,ha,rfl⟩:=i1.of_ref
   obtain⟨a',ha',kvs,hx,ip⟩:=sr1.get hS
   rw[ha]at ha';cases ha'
   rw[rO hn]at ip
   have hk:=vj ip
   subst hk
   refine⟨.inr (.inr (.inl ⟨rfl,.inl ⟨_,hx⟩⟩)),a,_,rfl,rfl,hx,fun v hvn=>?_⟩
   have ne:a≠v:=fun z=>by subst z;rw[hvn]at hx;cases hx
   refine⟨v,a,ps,rfl,aJ,by rw[bu ne];exact hx,hcc.1,hcc.2,fun as l q H2 sm hl la lay aq=>?_⟩
   have s2:qY H1 H2:=(dX hvn _).trans sm
   have sr2:=sr1.same s2
   have il:IsL X.K m1 H2 (q.toList.map fun i=>V.ref (as.getD i 0)) ((fQ ps).map pP):=by
    have e:(fQ ps).map pP=q.toList.map fun i=>pP (ps.getD i (0,0)):=by rw[sW aq,List.map_map];rfl
    rw[e]
    have bd:=o3 aq.1
    clear aq e
    generalize q.toList=is at bd
    induction is with
    |nil=>exact .nil_
    |cons i r ih=>
     have hi:=bd i List.mem_cons_self
     have hia:i<as.length:=by rw[la];exact hi
     refine .cons_ ?_ (ih fun j hj=>bd j (List.mem_cons_of_mem _ hj))
     have e1:as.getD i 0=as[i]:=by rw[List.getD_eq_getElem?_getD,List.getElem?_eq_getElem hia];rfl
     have e2:ps.getD i (0,0)=ps[i]:=by rw[List.getD_eq_getElem?_getD,List.getElem?_eq_getElem hi];rfl
     dsimp only
     rw[e1,e2]
     exact .tup_ (SqT.of (lay i _ _ (List.getElem?_eq_getElem hia) (List.getElem?_eq_getElem hi))) (jT [ps[i].1,ps[i].2])
   exact ft sr2 il (post.mono (e1.trans (.of (gD s2)))) hl
  |_=>cases h
section
variable{X:Cx}{K:PySem.W.Frag}{a b o e:Expr}{es:List Expr}{ca cb co:CE}{cr:CA}{pos apos cpos:Pos}
def Nz:U->U->Sto->Option (U×Sto)
 |.str a,.str b,S=>some (.bl (decide (a=b)),S)
 |.non,.str _,S=>some (.bl false,S)
 |.bl _,.str _,S=>some (.bl false,S)
 |.int _,.str _,S=>some (.bl false,S)
 |.tup _,.str _,S=>some (.bl false,S)
 |.ref l,.str _,S=>match S[l]? with
  |some (.lst _)=>some (.bl false,S)
  |_=>none
 |_,_,_=>none
end
section
variable{X:Cx}{K:PySem.W.Frag}
def vG(cd ck:CE):CE:=fun ρ S=>(cd ρ S).bind fun p=>match p.1 with
 |.ref l=>match p.2[l]? with
  |some (.dic _)=>(ck ρ p.2).bind fun q=>match q.2[l]? with
   |some (.dic kus)=>(my q.1).bind fun k=>some ((aP kus k).getD .non,q.2)
   |_=>none
  |_=>none
 |_=>none
theorem EH{o e:Expr}{cd ck:CE}{apos pos:Pos}(hu:X.A.units+1<cLine)(ho:QE X o cd)(he:QE X e ck)(hm:M1 X o "get" apos e pos):QE X (.Call (.Attribute o "get" apos) [e] [] pos) (vG cd ck):=(xC hu ho he hm).imp fun σ H Q hz=>mC hz fun m ρ S u S' sr lr hc post=>by
 obtain⟨⟨x,S1⟩,h1,h⟩:=Option.bind_eq_some_iff.mp hc
 refine⟨m,ρ,S,x,S1,sr,lr,h1,fun m1 v1 H1 e1 sr1 i1=>?_⟩
 cases x with
 |ref l=>
  simp only at h
  split at h<;>try cases h
  rename_i kus0 hS
  obtain⟨⟨ku,S2⟩,h2,h⟩:=Option.bind_eq_some_iff.mp h
  simp only at h
  split at h<;>try cases h
  rename_i kus hS2
  obtain⟨k,hk,h⟩:=Option.bind_eq_some_iff.mp h
  cases h
  obtain⟨a,ha,rfl⟩:=i1.of_ref
  obtain⟨a',ha',kvs0,hx0,_⟩:=sr1.get hS
  rw[ha]at ha';cases ha'
  refine⟨a,rfl,.inl ⟨kvs0,.inl hx0⟩,m1,ρ,S1,ku,_,sr1,lr.mono e1,h2,fun m2 v2 H2 e2 sr2 i2=>?_⟩
  obtain⟨a',ha',kvs,hx,ip⟩:=sr2.get hS2
  rw[e2.get ha]at ha';cases ha'
  have ek:=jB i2 hk
  subst ek
  have rf:=IsP.val (k:=k) ip
  refine⟨_,DGet.k hx,post m2 _ H2 (e1.trans e2) sr2 ?_⟩
  cases hv:oW kvs k with
  |none=>
   cases hw:aP kus k with
   |none=>exact .non_
   |some w=>rw[hv,hw]at rf;exact rf.elim
  |some v=>
   cases hw:aP kus k with
   |none=>rw[hv,hw]at rf;exact rf.elim
   |some w=>rw[hv,hw]at rf;exact rf
 |_=>simp at h
end
end OP
namespace OP
open PySem PySem.Spec PyProof.Rows L2 OG
section
variable{X:Cx}
theorem yE(hu:X.A.units+64<cLine):OpR X (compareOp .NotIn) (Ln X.K true):=by
 rintro pins s σ H x y v u Q I rx ry ⟨dx,dys,hx,hy,lx,ly,q⟩
 obtain⟨as,hx⟩:=hx.reads I rx
 rcases hy with hy|hy
 ·obtain⟨bs,hy⟩:=hy.reads I ry
  exact SeqAt.notIn_list_reads hy hx ly lx.1 (by have:=lx.2;omega) ⟨.bl _,H,I,rfl,q⟩
 ·obtain⟨bs,hy⟩:=hy.reads I ry
  exact SeqAt.notIn_tuple_reads hy hx ly lx.1 (by have:=lx.2;omega) ⟨.bl _,H,I,rfl,q⟩
end
end OP
namespace OQ
open PySem PySem.Spec PyProof.Rows L2 OG OP
def fk:CS:=
 (bL (hU (aI (cOp fEq (cOp fIx (ah 0) (cC (.int 2))) (cC (.int 0)))) (bL (eR 2 (cOp fIx (ah 0) (cC (.int 1))))
  (bL (dW (ah 0) (cC (.int 1)) (cOp fN (ah 2) (cC (.int 1))))
  (bL (eR 3 (cC (.int 0)))
  (bL (hU (aI (cOp fLt (ah 2) (cCB kB (ab (cOp fIx (ah 0) (cC (.int 0))) aC)))) (eR 3 (cOp fIx (cOp fIx (ah 0) (cC (.int 0))) (ah 2))) (hU (aI (cOp fGt (cCB kB (ab (cOp fIx (ah 0) (cC (.int 0))) aC)) (cC (.int 0)))) (eR 3 (cOp fN (cOp sv (cOp fIx (cOp fIx (ah 0) (cC (.int 0))) (cOp sv (cOp lW (ah 2) (cC (.int 3))) (cCB kB (ab (cOp fIx (ah 0) (cC (.int 0))) aC)))) (cC (.int 1000003))) (cOp lW (cC (.int 97)) (ah 2)))) dJ))
  (bL (eR 4 (cOp sv (cOp lW (cOp fN (cOp fN (cOp sv (ah 3) (cC (.int 998244353))) (cOp lW (cC (.int 53)) (ah 2))) (cC (.int 1))) (cC (.int 48271))) (cC (.int 2147483647))))
  (bL (eR 5 (cOp sv (cOp fN (cOp fN (cOp lW (ah 4) (ah 4)) (cOp lW (cC (.int 69621)) (ah 2))) (cC (.int 5))) (cC (.int 1000000007))))
  (bL (eR 6 (cOp sv (cOp fN (cOp lW (ah 5) (ah 5)) (ah 4)) (cC (.int 998244353))))
  (bL (dW (ah 0) (cC (.int 2)) (cOp fN (cOp Cd (cOp fN (cOp lW (ah 5) (cC (.int 998244353))) (ah 6)) (cC (.int 16))) (cC (.int 1))))
  (hU (aI (cOp fGe (ah 3) (cOp GB (cC (.int 10)) (cC (.int 18))))) (dW (ah 0) (cC (.int 2)) (cOp Cd (ah 3) (cOp GB (cC (.int 10)) (cC (.int 18))))) dJ))))))))) dJ)
  (bL (eR 7 (cOp sv (cOp fIx (ah 0) (cC (.int 2))) (ah 1)))
  (bL (dW (ah 0) (cC (.int 2)) (cOp Cd (cOp fIx (ah 0) (cC (.int 2))) (ah 1)))
  (fO (ah 7)))))
theorem ug{a0 a1:U}{S:Sto}:fnU 8 2 (fk ) [a0,a1] S=((fk ) [some a0,some a1,none,none,none,none,none,none] S).bind kFn:=j7 rfl
def fF(ao:Fn):CS:=
 (fO (jV (ab (cOp fN (cC (.int 1)) (cCB ao (ab (ah 0) (ab (cC (.int 6)) aC)))) (ab (cOp fIx (iV (ab (cC (.int 2)) (ab (cC (.int 3)) (ab (cC (.int 5)) (ab (cC (.int 10)) (ab (cOp fN (cC (.int 2)) (cCB ao (ab (ah 0) (ab (cC (.int 999)) aC)))) aC)))))) (cCB ao (ab (ah 0) (ab (cC (.int 5)) aC)))) aC))))
theorem sC{ao:Fn}{a0:U}{S:Sto}:fnU 1 1 (fF ao) [a0] S=((fF ao) [some a0] S).bind kFn:=j7 rfl
def fG(ao:Fn):CS:=
 (fO (cCB mz (ab (fT (dQ (ab (cOp fIx (ah 1) (cC (.int 0))) aC)) (gNm 0) (cCB ao (ab (ah 1) (ab (cOp fIx (ah 2) (cC (.int 1))) aC))) 1 [0,1]) aC)))
theorem sD{ao:Fn}{a0 a1:U}{S:Sto}:fnU 2 2 (fG ao) [a0,a1] S=((fG ao) [some a0,some a1] S).bind kFn:=j7 rfl
def ie(ao:Fn):CS:=
 (jf (cBM fi (ah 3) (ab (cBM mB (ah 2) (ab (cCB ao (ab (ah 0) (ab (cCB kB (ab (ah 2) aC)) aC))) aC)) aC)))
def fH(ao:Fn):CS:=
 (bL (eR 2 (lX (ab (cC (.int 200)) aC)))
  (bL (eR 3 (iV aC))
  (bL (kC (dQ (ab (ah 1) aC)) (gNm 4) (ie ao))
  (fO (ah 3)))))
theorem sE{ao:Fn}{a0 a1:U}{S:Sto}:fnU 5 2 (fH ao) [a0,a1] S=((fH ao) [some a0,some a1,none,none,none] S).bind kFn:=j7 rfl
def eF:CS:=
 (fO (cCB mz (ab (fT (zi (ah 0)) (gTp [0,1]) (qL (ah 2) (ah 0) (ah 1)) 2 [1]) aC)))
theorem qD{a0 a1:U}{S:Sto}:fnU 2 2 (eF ) [a0,a1] S=((eF ) [some a0,some a1] S).bind kFn:=j7 rfl
def dz(ao:Fn):CS:=
 (bL (eR 6 (cCB ao (ab (ah 0) (ab (cC (.int 12)) aC))))
  (bL (eR 7 (cCB ao (ab (ah 0) (ab (cOp fIx (ah 1) (cC (.int 0))) aC))))
  (bL (hU (aI (cOp fLt (ah 6) (cC (.int 5)))) (bL (eR 8 (cOp fIx (iV (ab (cOp fIx (ah 3) (ah 7)) (ab (cOp fIx (ah 3) (ah 7)) (ab (cOp fIx (ah 5) (ah 7)) (ab (cCB ao (ab (ah 0) (ab (cOp fIx (ah 1) (cC (.int 1))) aC))) aC))))) (cCB ao (ab (ah 0) (ab (cC (.int 4)) aC)))))
  (fO (jV (ab (cC (.str "look")) (ab (ah 2) (ab (ah 7) (ab (qL (ah 4) (ah 7) (ah 8)) aC))))))) dJ)
  (bL (hU (aI (cOp fLt (ah 6) (cC (.int 8)))) (fO (jV (ab (cC (.str "put")) (ab (ah 2) (ab (ah 7) (ab (cCB ao (ab (ah 0) (ab (cOp fIx (ah 1) (cC (.int 1))) aC))) aC)))))) dJ)
  (fO (jV (ab (cOp fIx (iV (ab (cC (.str "done")) (ab (cC (.str "done")) (ab (cC (.str "done")) (ab (cC (.str "fall")) aC))))) (cOp FU (ah 6) (cC (.int 8)))) (ab (ah 2) aC))))))))
theorem sG{ao:Fn}{a0 a1 a2 a3 a4 a5:U}{S:Sto}:fnU 9 6 (dz ao) [a0,a1,a2,a3,a4,a5] S=((dz ao) [some a0,some a1,some a2,some a3,some a4,some a5,none,none,none] S).bind kFn:=j7 rfl
def g5(b5 ao b6 bP:Fn):CS:=
 (hU (Ge (aI (cOp (nY true) (ah 5) (iV aC))) (cOr (aI (cOp (nY false) (ah 8) (iV aC))) (aI (cOp fEq (cCB ao (ab (ah 0) (ab (cC (.int 4)) aC))) (cC (.int 0)))))) (bL (jf (cBM fi (ah 8) (ab (jV (ab (cBM FV (ah 5) aC) (ab (ah 7) (ab mN aC)))) aC)))
  (jf (cBM fi (ah 6) (ab (jV (ab (cC (.str "begin")) (ab (cOp fIx (cOp fIx (ah 8) (uj (cC (.int 1)))) (cC (.int 0))) aC))) aC)))) (hU (aI (cOp (nY true) (ah 8) (iV aC))) (bL (eR 10 (cCB ao (ab (ah 0) (ab (cCB kB (ab (ah 8) aC)) aC))))
  (bL (F9 (cOp fIx (ah 8) (ah 10)) (gTp [11,12,13]))
  (bL (jf (cBM fi (ah 6) (ab (cCB b6 (ab (ah 0) (ab (ah 1) (ab (ah 11) (ab (ah 12) (ab (ah 13) (ab (ah 7) aC))))))) aC)))
  (bL (hU (aI (cOp fEq (cOp fIx (cOp fIx (ah 6) (uj (cC (.int 1)))) (cC (.int 0))) (cC (.str "put")))) (dW (ah 13) (cOp fIx (cOp fIx (ah 6) (uj (cC (.int 1)))) (cC (.int 2))) (cOp fIx (cOp fIx (ah 6) (uj (cC (.int 1)))) (cC (.int 3)))) (hU (aI (cOp fEq (cOp fIx (cOp fIx (ah 6) (uj (cC (.int 1)))) (cC (.int 0))) (cC (.str "done")))) (eR 7 (cCB bP (ab (ah 7) (ab (ah 13) aC)))) dJ))
  (hU (aI (cOp (fIn false) (cOp fIx (cOp fIx (ah 6) (uj (cC (.int 1)))) (cC (.int 0))) (jV (ab (cC (.str "done")) (ab (cC (.str "fall")) aC))))) (jf (cBM mB (ah 8) (ab (ah 10) aC))) dJ))))) dJ))
def iI(b5 ao b6 bP:Fn):CS:=
 (bL (eR 5 (cCB b5 (ab (ah 0) (ab (cCB ao (ab (ah 0) (ab (cOp fN (ah 3) (cC (.int 1))) aC))) aC))))
  (bL (eR 6 (iV aC))
  (bL (eR 7 (ah 2))
  (bL (eR 8 (iV aC))
  (bL (kC (dQ (ab (cCB ao (ab (ah 0) (ab (cOp fN (ah 4) (cC (.int 1))) aC))) aC)) (gNm 9) (g5 b5 ao b6 bP))
  (fO (ah 6)))))))
theorem wV{b5 ao b6 bP:Fn}{a0 a1 a2 a3 a4:U}{S:Sto}:fnU 14 5 (iI b5 ao b6 bP) [a0,a1,a2,a3,a4] S=((iI b5 ao b6 bP) [some a0,some a1,some a2,some a3,some a4,none,none,none,none,none,none,none,none,none] S).bind kFn:=j7 rfl
def bK(ae:Cl):CS:=
 (hU (aI (cOp (fIn true) (ah 2) (cOp fIx (fA ae 3 (ah 0)) (ah 1)))) (bL (jf (cBM fi (cOp fIx (fA ae 1 (ah 0)) (ah 1)) (ab (jV (ab (ah 2) (ab (ah 3) aC))) aC)))
  (og (cOp fIx (fA ae 2 (ah 0)) (ah 1)) (ab (ah 2) (ab (ah 3) aC)) (cC (.bl true)))) dJ)
theorem lI{ae:Cl}{a0 a1 a2 a3:U}{S:Sto}:fnU 4 4 (bK ae) [a0,a1,a2,a3] S=((bK ae) [some a0,some a1,some a2,some a3] S).bind kFn:=j7 rfl
def dU(ae:Cl):CS:=
 (bL (dW (fA ae 4 (ah 0)) (ah 1) (mV (fA ae 0 (ah 0)) (gNm 0) (aI (cOp fNe (cOp fIx (fA ae 0 (ah 1)) (ah 0)) (cC (.str "open")))) (ah 0) 1 [0]))
  (bL (dW (fA ae 0 (ah 0)) (ah 1) (cC (.str "open")))
  (bL (dW (fA ae 1 (ah 0)) (ah 1) (iV aC))
  (bL (dW (fA ae 2 (ah 0)) (ah 1) Ac)
  (dW (fA ae 3 (ah 0)) (ah 1) mN)))))
theorem oN{ae:Cl}{a0 a1:U}{S:Sto}:fnU 2 2 (dU ae) [a0,a1] S=((dU ae) [some a0,some a1] S).bind kFn:=j7 rfl
def aM(b7 bj:Fn)(ae:Cl):CS:=
 (bL (eR 2 (cOp fIx (ah 1) (cC (.int 1))))
  (hU (aI (cOp fEq (cOp fIx (ah 1) (cC (.int 0))) (cC (.str "begin")))) (jf (oQ ae b7 (ah 0) (ab (ah 2) aC))) (hU (aI (cOp fEq (cOp fIx (ah 1) (cC (.int 0))) (cC (.str "look")))) (jf (oQ ae bj (ah 0) (ab (ah 2) (ab (cOp fIx (ah 1) (cC (.int 2))) (ab (cOp fIx (ah 1) (cC (.int 3))) aC))))) (hU (aI (cOp fEq (cOp fIx (ah 1) (cC (.int 0))) (cC (.str "put")))) (dW (cOp fIx (fA ae 3 (ah 0)) (ah 2)) (cOp fIx (ah 1) (cC (.int 2))) (cOp fIx (ah 1) (cC (.int 3)))) (dW (fA ae 0 (ah 0)) (ah 2) (cOp fIx (ah 1) (cC (.int 0))))))))
theorem jD{b7 bj:Fn}{ae:Cl}{a0 a1:U}{S:Sto}:fnU 3 2 (aM b7 bj ae) [a0,a1] S=((aM b7 bj ae) [some a0,some a1,none] S).bind kFn:=j7 rfl
def eJ(ae:Cl):CS:=
 (bL (oP ae 0 (ah 0) mN)
  (bL (oP ae 1 (ah 0) mN)
  (bL (oP ae 2 (ah 0) mN)
  (bL (oP ae 3 (ah 0) mN)
  (oP ae 4 (ah 0) mN)))))
theorem qF{ae:Cl}{a0:U}{S:Sto}:fnU 1 1 (eJ ae) [a0] S=((eJ ae) [some a0] S).bind kFn:=j7 rfl
def iX(aE aH:Fn)(ae:Cl):CS:=
 (jf (oQ ae aE (ah 1) (ab (ah 2) aC)))
def gG(aE aH:Fn)(ae:Cl):CS:=
 (bL (eR 1 (cCB (oM ae aH) aC))
  (bL (kC (iTp (ah 0)) (gNm 2) (iX aE aH ae))
  (fO (ah 1))))
theorem uf{aE aH:Fn}{ae:Cl}{a0:U}{S:Sto}:fnU 3 1 (gG aE aH ae) [a0] S=((gG aE aH ae) [some a0,none,none] S).bind kFn:=j7 rfl
def eE(aw:Fn)(ae:Cl):CS:=
 (fO (cOp fIx (fA ae 1 (cCB aw (ab (ah 0) aC))) (ah 1)))
theorem qC{aw:Fn}{ae:Cl}{a0 a1:U}{S:Sto}:fnU 2 2 (eE aw ae) [a0,a1] S=((eE aw ae) [some a0,some a1] S).bind kFn:=j7 rfl
def lM(ae:Cl):CS:=
 (hU (aI (cOp fNe (cOp fIx (ah 2) (cOp fIx (ah 3) (cC (.int 0)))) (cOp fIx (ah 3) (cC (.int 1))))) (fO (cC (.bl false))) dJ)
def pF(ae:Cl):CS:=
 (bL (Aa (cOp fIx (fA ae 2 (ah 0)) (ah 1)) (gNm 3) (lM ae))
  (fO (cC (.bl true))))
theorem JQ{ae:Cl}{a0 a1 a2:U}{S:Sto}:fnU 4 3 (pF ae) [a0,a1,a2] S=((pF ae) [some a0,some a1,some a2,none] S).bind kFn:=j7 rfl
def d7(ae:Cl):CS:=
 (bL (hU (aI (cOp fNe (cOp fIx (fA ae 0 (ah 0)) (ah 1)) (cC (.str "done")))) (fO (ah 2)) dJ)
  (fO (cCB mz (ab (fT (zi (ah 2)) (gTp [0,1]) (qL (cOp fIx (fA ae 3 (ah 3)) (ah 2)) (ah 0) (ah 1)) 2 [1,0]) aC))))
theorem sA{ae:Cl}{a0 a1 a2:U}{S:Sto}:fnU 3 3 (d7 ae) [a0,a1,a2] S=((d7 ae) [some a0,some a1,some a2] S).bind kFn:=j7 rfl
def lN(aw:Fn)(ae:Cl):CS:=
 (jf (cBM iS (ah 2) (ab (fT (iTp (cOp fIx (ah 1) (ah 3))) (gNm 0) (jV (ab (ah 0) (ab (ah 1) aC))) 1 [3]) aC)))
def oa(aw:Fn)(ae:Cl):CS:=
 (bL (eR 1 (fA ae 4 (cCB aw (ab (ah 0) aC))))
  (bL (eR 2 (iV aC))
  (bL (Ab (ah 1) (gNm 3) (lN aw ae))
  (fO (cCB lG (ab (ah 2) aC))))))
theorem FZ{aw:Fn}{ae:Cl}{a0:U}{S:Sto}:fnU 4 1 (oa aw ae) [a0] S=((oa aw ae) [some a0,none,none,none] S).bind kFn:=j7 rfl
def fj:CS:=
 (fO (uk (Cv .int (ah 0)) (Cu (Cv .bool (ah 0)))))
theorem pz{a0:U}{S:Sto}:fnU 1 1 (fj ) [a0] S=((fj ) [some a0] S).bind kFn:=j7 rfl
def fX(ae:Cl):CS:=
 (fO (Kj (ah 1) (cOp fEq (cOp fIx (fA ae 0 (ah 0)) (ah 2)) (cC (.str "done")))))
theorem wQ{ae:Cl}{a0 a1 a2:U}{S:Sto}:fnU 3 3 (fX ae) [a0,a1,a2] S=((fX ae) [some a0,some a1,some a2] S).bind kFn:=j7 rfl
def iH(ba:Fn)(ae:Cl):CS:=
 (fO (bT (iTp (cCB fh (ab (fA ae 0 (ah 0)) aC))) (gNm 0) (aI (cCB ba (ab (ah 1) (ab (ah 2) (ab (ah 0) aC))))) (ah 0) 1 [0,1]))
theorem wU{ba:Fn}{ae:Cl}{a0 a1:U}{S:Sto}:fnU 2 2 (iH ba ae) [a0,a1] S=((iH ba ae) [some a0,some a1] S).bind kFn:=j7 rfl
def eM(dI ba:Fn)(aG ae:Cl):CS:=
 (dW (fA aG 2 (ah 0)) (ah 3) (bT (iTp (cOp fIx (fA ae 4 (ah 1)) (ah 3))) (gNm 0) (aI (cCB ba (ab (ah 1) (ab (ah 2) (ab (ah 0) aC))))) (ah 0) 1 [1,2]))
def eK(dI ba:Fn)(aG ae:Cl):CS:=
 (bL (oP aG 0 (ah 0) (ah 1))
  (bL (oP aG 1 (ah 0) (cCB dI (ab (ah 1) (ab (ah 2) aC))))
  (bL (oP aG 2 (ah 0) mN)
  (kC (iTp (fA aG 1 (ah 0))) (gNm 3) (eM dI ba aG ae)))))
theorem qG{dI ba:Fn}{aG ae:Cl}{a0 a1 a2:U}{S:Sto}:fnU 4 3 (eK dI ba aG ae) [a0,a1,a2] S=((eK dI ba aG ae) [some a0,some a1,some a2,none] S).bind kFn:=j7 rfl
def br(nV:Fn)(aG:Cl):CS:=
 (fO (uk (cCB Dy (ab (fT (iTp (cOp fIx (fA aG 2 (ah 0)) (ah 1))) (gNm 0) (cOp (fIn false) (ah 0) (ah 1)) 1 [2]) aC)) (cCB nV (ab (fA aG 0 (ah 0)) (ab (ah 1) (ab (ah 3) aC))))))
theorem j5{nV:Fn}{aG:Cl}{a0 a1 a2 a3:U}{S:Sto}:fnU 4 4 (br nV aG) [a0,a1,a2,a3] S=((br nV aG) [some a0,some a1,some a2,some a3] S).bind kFn:=j7 rfl
def cY(bZ aQ:Fn)(aG:Cl):CS:=
 (bL (hU (z9 (aI (oQ aG aQ (ah 0) (ab (ah 5) (ab (ah 3) (ab (ah 4) aC)))))) (fO (cC (.bl false))) dJ)
  (bL (dW (ah 3) (ah 5) (cC (.bl true)))
  (eR 4 (cCB bZ (ab (fA aG 0 (ah 0)) (ab (ah 5) (ab (ah 4) aC)))))))
def bO(bZ aQ:Fn)(aG:Cl):CS:=
 (bL (hU (aI (cOp (nY true) (cCB fh (ab (ah 1) aC)) (fA aG 1 (ah 0)))) (fO (cC (.bl false))) dJ)
  (bL (eR 3 mN)
  (bL (eR 4 (ah 2))
  (bL (kC (iTp (ah 1)) (gNm 5) (cY bZ aQ aG))
  (fO (cC (.bl true)))))))
theorem mM{bZ aQ:Fn}{aG:Cl}{a0 a1 a2:U}{S:Sto}:fnU 6 3 (bO bZ aQ aG) [a0,a1,a2] S=((bO bZ aQ aG) [some a0,some a1,some a2,none,none,none] S).bind kFn:=j7 rfl
def iF(bw aw bN cP:Fn)(aG:Cl):CS:=
 (bL (hU (z9 (aI (cCB Dy (ab (fT (iTp (ah 4)) (gNm 0) (cCB bw (ab (ah 0) aC)) 1 []) aC)))) (fO (cC (.bl false))) dJ)
  (fO (oQ aG bN (cCB (oM aG cP) (ab (cCB aw (ab (ah 2) aC)) (ab (ah 3) aC))) (ab (ah 4) (ab (ah 1) aC)))))
theorem wN{bw aw bN cP:Fn}{aG:Cl}{a0 a1 a2 a3 a4:U}{S:Sto}:fnU 5 5 (iF bw aw bN cP aG) [a0,a1,a2,a3,a4] S=((iF bw aw bN cP aG) [some a0,some a1,some a2,some a3,some a4] S).bind kFn:=j7 rfl
def b8(bw:Fn):CS:=
 (fO (uk (cCB bw (ab (ah 0) aC)) (sQ fLe fLe (ah 1) (ah 0) (ah 2))))
theorem ue{bw:Fn}{a0 a1 a2:U}{S:Sto}:fnU 3 3 (b8 bw) [a0,a1,a2] S=((b8 bw) [some a0,some a1,some a2] S).bind kFn:=j7 rfl
def aN(ae:Cl):CS:=
 (bL (eR 2 (cOp fIx (ah 1) (cC (.int 1))))
  (bL (hU (aI (cOp fEq (cOp fIx (ah 1) (cC (.int 0))) (cC (.str "begin")))) (fO (cOp (fIn true) (ah 2) (fA ae 0 (ah 0)))) dJ)
  (bL (hU (aI (cOp fNe (vG (fA ae 0 (ah 0)) (ah 2)) (cC (.str "open")))) (fO (cC (.bl false))) dJ)
  (bL (hU (aI (cOp fEq (cOp fIx (ah 1) (cC (.int 0))) (cC (.str "look")))) (fO (cOp fEq (qL (cOp fIx (fA ae 3 (ah 0)) (ah 2)) (cOp fIx (ah 1) (cC (.int 2))) (cOp fIx (ah 1) (cC (.int 3)))) (cOp fIx (ah 1) (cC (.int 3))))) dJ)
  (fO (cC (.bl true)))))))
theorem n4{ae:Cl}{a0 a1:U}{S:Sto}:fnU 3 2 (aN ae) [a0,a1] S=((aN ae) [some a0,some a1,none] S).bind kFn:=j7 rfl
def bz(cN:Fn):CS:=
 (bL (hU (cOr (z9 (aI (Cv .tuple (ah 1)))) (cOr (aI (cOp fLt (cCB kB (ab (ah 1) aC)) (cC (.int 2)))) (z9 (aI (cCB cN (ab (cOp fIx (ah 1) (cC (.int 1))) (ab (cC (.int 0)) (ab (cC (.int 199)) aC)))))))) (fO (cC (.bl false))) dJ)
  (bL (hU (aI (cOp (vy false) (cOp fIx (ah 1) (cC (.int 0))) (jV (ab (cC (.str "begin")) (ab (cC (.str "done")) (ab (cC (.str "fall")) aC)))))) (fO (cOp fEq (cCB kB (ab (ah 1) aC)) (cC (.int 2)))) dJ)
  (bL (hU (Ge (aI (cOp (vy false) (cOp fIx (ah 1) (cC (.int 0))) (jV (ab (cC (.str "look")) (ab (cC (.str "put")) aC))))) (aI (cOp fEq (cCB kB (ab (ah 1) aC)) (cC (.int 4))))) (fO (uk (cCB cN (ab (cOp fIx (ah 1) (cC (.int 2))) (ab (cC (.int 0)) (ab (cOp FU (cOp fIx (ah 0) (cC (.int 0))) (cC (.int 1))) aC)))) (cCB cN (ab (cOp fIx (ah 1) (cC (.int 3))) (ab (cC (.int 0)) (ab (cOp FU (cOp fIx (ah 0) (cC (.int 1))) (cC (.int 1))) aC)))))) dJ)
  (fO (cC (.bl false))))))
theorem wO{cN:Fn}{a0 a1:U}{S:Sto}:fnU 2 2 (bz cN) [a0,a1] S=((bz cN) [some a0,some a1] S).bind kFn:=j7 rfl
def iJ(dH bo aE aH:Fn)(ae:Cl):CS:=
 (bL (hU (cOr (z9 (aI (cCB dH (ab (ah 0) (ab (ah 3) aC))))) (z9 (aI (oQ ae bo (ah 2) (ab (ah 3) aC))))) (fO (cC (.bl false))) dJ)
  (jf (oQ ae aE (ah 2) (ab (ah 3) aC))))
def gZ(dH bo aE aH:Fn)(ae:Cl):CS:=
 (bL (hU (cOr (z9 (aI (Cv .list (ah 1)))) (aI (cOp fGt (cCB kB (ab (ah 1) aC)) (cC (.int 2000))))) (fO (cC (.bl false))) dJ)
  (bL (eR 2 (cCB (oM ae aH) aC))
  (bL (kC (iTp (ah 1)) (gNm 3) (iJ dH bo aE aH ae))
  (fO (cC (.bl true))))))
theorem Cj{dH bo aE aH:Fn}{ae:Cl}{a0 a1:U}{S:Sto}:fnU 4 2 (gZ dH bo aE aH ae) [a0,a1] S=((gZ dH bo aE aH ae) [some a0,some a1,none,none] S).bind kFn:=j7 rfl
end OQ
namespace OL
open PySem PySem.Spec PyProof.Rows L2 OG OP OQ
def top(i:Nat):Stmt:=PySem.Challenge.pw_oneglance_k18_whole_weavings_of_a_log.main.body.getD i (.Pass ⟨0,0,0,0⟩)
abbrev eS:Stmt:=top 1
abbrev dZ:Stmt:=top 2
abbrev dD:Stmt:=jC (top 6) 0
abbrev cy:Stmt:=jC (top 6) 1
abbrev cw:Stmt:=jC (top 6) 2
abbrev cU:Stmt:=jC (top 6) 3
abbrev bH:Stmt:=jC (top 6) 4
abbrev d0:Stmt:=top 7
abbrev iP:Stmt:=top 8
abbrev eW:Stmt:=top 9
abbrev eZ:Stmt:=top 10
abbrev iQ:Stmt:=top 11
abbrev cI:Stmt:=top 12
abbrev gu:Stmt:=top 13
abbrev kr:Stmt:=top 14
abbrev dE:Stmt:=jC (top 16) 0
abbrev bq:Stmt:=jC (top 16) 1
abbrev bV:Stmt:=jC (top 16) 2
abbrev eX:Stmt:=top 17
abbrev fb:Stmt:=top 18
abbrev nv:Stmt:=top 19
abbrev dh:Stmt:=top 20
abbrev eU:Stmt:=top 21
abbrev fc:Stmt:=top 23
abbrev d5:Stmt:=top 24
abbrev dj:Stmt:=top 25
abbrev dk:Stmt:=top 26
abbrev dq:Stmt:=top 27
abbrev cK:Stmt:=top 28
abbrev du:Stmt:=top 29
abbrev ff:Stmt:=top 30
abbrev dr:Stmt:=top 31
abbrev cL:Stmt:=top 32
abbrev oG:Stmt:=top 33
section
variable{P:Program}{w:World}{K:PySem.W.Frag}{mg:Str->Option Value}{base:Heap}
theorem mv:aR ["pen","many","at","cell","one","two","three","found"] ["pen","many"] (av d5):=⟨rfl,rfl,rfl,by decide +kernel,rfl,by decide +kernel,by decide +kernel⟩
theorem ua{k:Nat}(d:Def K mg "_law_take" d5 ["pen","many"])(B:Blt mg):d9 P w K mg base "_law_take" (k+1) ["pen","many"] (fnU 8 2 (fk )):=
 d.pure mv fun f cdv A outer s H E hr=>by
  have hu:=dR hr
  have nd:=mv.nd
  exact(ay (dP (bD lh uU (cE hu (af (wpv 0)) (aD ar) (fun _ _=>rfl) (fun _ _=>rfl)) (aD ar) (bA _)) (ay (bc (i:=2) nd rfl (by first|exact Or.inl rfl|exact Or.inr rfl) (cE hu (af (wpv 0)) (aD ar) (fun _ _=>rfl) (fun _ _=>rfl)))
   (ay (cf hu (af (wpv 0)) (aD ar) (gM iC iw (af (wpv 2)) (aD ar)))
   (ay (bc (i:=3) nd rfl (by first|exact Or.inl rfl|exact Or.inr rfl) (aD ar))
   (ay (dP (bD BJ Kb (af (wpv 2)) (cW mI mH rfl B.len PySem.boot_len (ag (cE hu (af (wpv 0)) (aD ar) (fun _ _=>rfl) (fun _ _=>rfl)) aA)) (bA _)) (aB (bc (i:=3) nd rfl (by first|exact Or.inl rfl|exact Or.inr rfl) (cE hu (cE hu (af (wpv 0)) (aD ar) (fun _ _=>rfl) (fun _ _=>rfl)) (af (wpv 2)) (fun _ _=>rfl) (fun _ _=>rfl)))) (aB (dP (bD Fh LJ (cW mI mH rfl B.len PySem.boot_len (ag (cE hu (af (wpv 0)) (aD ar) (fun _ _=>rfl) (fun _ _=>rfl)) aA)) (aD ar) (bA _)) (aB (bc (i:=3) nd rfl (by first|exact Or.inl rfl|exact Or.inr rfl) (gM iC iw (gM nF tP (cE hu (cE hu (af (wpv 0)) (aD ar) (fun _ _=>rfl) (fun _ _=>rfl)) (gM nF tP (gM kZ qe (af (wpv 2)) (aD ar)) (cW mI mH rfl B.len PySem.boot_len (ag (cE hu (af (wpv 0)) (aD ar) (fun _ _=>rfl) (fun _ _=>rfl)) aA))) (fun _ _=>rfl) (fun _ _=>rfl)) (aD ar)) (gM kZ qe (aD ar) (af (wpv 2)))))) cD)))
   (ay (bc (i:=4) nd rfl (by first|exact Or.inl rfl|exact Or.inr rfl) (gM nF tP (gM kZ qe (gM iC iw (gM iC iw (gM nF tP (af (wpv 3)) (aD ar)) (gM kZ qe (aD ar) (af (wpv 2)))) (aD ar)) (aD ar)) (aD ar)))
   (ay (bc (i:=5) nd rfl (by first|exact Or.inl rfl|exact Or.inr rfl) (gM nF tP (gM iC iw (gM iC iw (gM kZ qe (af (wpv 4)) (af (wpv 4))) (gM kZ qe (aD ar) (af (wpv 2)))) (aD ar)) (aD ar)))
   (ay (bc (i:=6) nd rfl (by first|exact Or.inl rfl|exact Or.inr rfl) (gM nF tP (gM iC iw (gM kZ qe (af (wpv 5)) (af (wpv 5))) (af (wpv 4))) (aD ar)))
   (ay (cf hu (af (wpv 0)) (aD ar) (gM iC iw (gM qg Fe (gM iC iw (gM kZ qe (af (wpv 5)) (aD ar)) (af (wpv 6))) (aD ar)) (aD ar)))
   (aB (dP (bD LK Nn (af (wpv 3)) (gM Dg IU (aD ar) (aD ar)) (bA _)) (aB (cf hu (af (wpv 0)) (aD ar) (gM qg Fe (af (wpv 3)) (gM Dg IU (aD ar) (aD ar))))) cD)))))))))) cD)
   (ay (bc (i:=7) nd rfl (by first|exact Or.inl rfl|exact Or.inr rfl) (gM nF tP (cE hu (af (wpv 0)) (aD ar) (fun _ _=>rfl) (fun _ _=>rfl)) (af (wpv 1))))
   (ay (cf hu (af (wpv 0)) (aD ar) (gM qg Fe (cE hu (af (wpv 0)) (aD ar) (fun _ _=>rfl) (fun _ _=>rfl)) (af (wpv 1))))
   (aB (aW (af (wpv 7)))))))
theorem kM:aR ["pen"] ["pen"] (av dj):=⟨rfl,rfl,rfl,by decide +kernel,rfl,by decide +kernel,by decide +kernel⟩
theorem sf{k:Nat}{ao:Fn}(d:Def K mg "_law_world" dj ["pen"])(B:Blt mg)(aF:d9 P w K mg base "_law_take" (k) ["pen","many"] ao):d9 P w K mg base "_law_world" (k+1) ["pen"] (fnU 1 1 (fF ao)):=
 d.pure kM fun f cdv A outer s H E hr=>by
  have hu:=dR hr
  have nd:=kM.nd
  exact(aB (aW (kx (ag (gM iC iw (aD ar) (aS aF hr rfl (ag (af (wpv 0)) (ag (aD ar) aA)))) (ag (cE hu (jd (ag (aD ar) (ag (aD ar) (ag (aD ar) (ag (aD ar) (ag (gM iC iw (aD ar) (aS aF hr rfl (ag (af (wpv 0)) (ag (aD ar) aA)))) aA)))))) (aS aF hr rfl (ag (af (wpv 0)) (ag (aD ar) aA))) (fun _ _=>rfl) (fun _ _=>rfl)) aA)))))
theorem kN:aR ["pen","world"] ["pen","world"] (av dk):=⟨rfl,rfl,rfl,by decide +kernel,rfl,by decide +kernel,by decide +kernel⟩
theorem sg{k:Nat}{ao:Fn}(d:Def K mg "_law_state" dk ["pen","world"])(B:Blt mg)(aF:d9 P w K mg base "_law_take" (k) ["pen","many"] ao):d9 P w K mg base "_law_state" (k+1) ["pen","world"] (fnU 2 2 (fG ao)):=
 d.pure kN fun f cdv A outer s H E hr=>by
  have hu:=dR hr
  have nd:=kN.nd
  exact(aB (aW (kX iU tN rfl B.tuple OG.jW (ag (mw (Nc:=["box","pen","world"]) (tn:=["box"]) (capN:=["pen","world"]) (caps:=[0,1]) rfl (jx rfl B.range (ag (cE hu (af (wpv 1)) (aD ar) (fun _ _=>rfl) (fun _ _=>rfl)) aA)) (fun _ _ _=>(bC (aK (i:=0) (show(["box","pen","world"]:List Str).Nodup by decide +kernel) rfl (by first|exact Or.inl rfl|exact Or.inr rfl)))) (fun _ _ _=>(aS aF hr rfl (ag (af (wpv 1)) (ag (cE hu (af (wpv 2)) (aD ar) (fun _ _=>rfl) (fun _ _=>rfl)) aA)))) rfl rfl (by decide +kernel) (by decide +kernel) ⟨rfl,rfl,trivial⟩ rfl (.cons ⟨rfl,rfl,rfl,_,rfl⟩ (.cons ⟨rfl,rfl,rfl,_,rfl⟩ .nil)) rfl rfl) aA))))
theorem kO:aR ["pen","many","left","found","k"] ["pen","many"] (av dq):=⟨rfl,rfl,rfl,by decide +kernel,rfl,by decide +kernel,by decide +kernel⟩
theorem sh{k:Nat}{ao:Fn}(d:Def K mg "_law_names" dq ["pen","many"])(B:Blt mg)(aF:d9 P w K mg base "_law_take" (k) ["pen","many"] ao):d9 P w K mg base "_law_names" (k+1) ["pen","many"] (fnU 5 2 (fH ao)):=
 d.pure kO fun f cdv A outer s H E hr=>by
  have hu:=dR hr
  have nd:=kO.nd
  exact(ay (bc (i:=2) nd rfl (by first|exact Or.inl rfl|exact Or.inr rfl) (tL rfl rfl B.list rfl B.range (ag (aD ar) aA) rfl rfl))
   (ay (bc (i:=3) nd rfl (by first|exact Or.inl rfl|exact Or.inr rfl) (jd aA))
   (ay (jv PassesOwn.never rfl (jx rfl B.range (ag (af (wpv 1)) aA)) (bC (aK (i:=4) nd rfl (by first|exact Or.inl rfl|exact Or.inr rfl))) (aB (fK (kY (af (wpv 3)) (ag (yk (af (wpv 2)) (ag (aS aF hr rfl (ag (af (wpv 0)) (ag (cW mI mH rfl B.len PySem.boot_len (ag (af (wpv 2)) aA)) aA))) aA)) aA)))))
   (aB (aW (af (wpv 3)))))))
theorem ke:aR ["state","puts"] ["state","puts"] (av cK):=⟨rfl,rfl,rfl,by decide +kernel,rfl,by decide +kernel,by decide +kernel⟩
theorem qq{k:Nat}(d:Def K mg "_law_put_in" cK ["state","puts"])(B:Blt mg):d9 P w K mg base "_law_put_in" (k+1) ["state","puts"] (fnU 2 2 (eF )):=
 d.pure ke fun f cdv A outer s H E hr=>by
  have hu:=dR hr
  have nd:=ke.nd
  exact(aB (aW (kX iU tN rfl B.tuple OG.jW (ag (mw (Nc:=["box","number","puts"]) (tn:=["box","number"]) (capN:=["puts"]) (caps:=[1]) rfl (yg rfl B.enumerate (af (wpv 0))) (fun _ _ _=>(yh rfl (fR (aK (i:=0) (show(["box","number","puts"]:List Str).Nodup by decide +kernel) rfl (by first|exact Or.inl rfl|exact Or.inr rfl)) (fR (aK (i:=1) (show(["box","number","puts"]:List Str).Nodup by decide +kernel) rfl (by first|exact Or.inl rfl|exact Or.inr rfl)) pX)))) (fun _ _ _=>(uP hu (af (wpv 2)) (af (wpv 0)) (af (wpv 1)) ⟨rfl,rfl,rfl,rfl⟩)) rfl rfl (by decide +kernel) (by decide +kernel) ⟨rfl,trivial⟩ rfl (.cons ⟨rfl,rfl,rfl,_,rfl⟩ .nil) rfl rfl) aA))))
theorem kQ:aR ["pen","world","a","seen","puts","now","way","box","number"] ["pen","world","a","seen","puts","now"] (av du):=⟨rfl,rfl,rfl,by decide +kernel,rfl,by decide +kernel,by decide +kernel⟩
theorem sk{k:Nat}{ao:Fn}(d:Def K mg "_law_event" du ["pen","world","a","seen","puts","now"])(B:Blt mg)(aF:d9 P w K mg base "_law_take" (k) ["pen","many"] ao):d9 P w K mg base "_law_event" (k+1) ["pen","world","a","seen","puts","now"] (fnU 9 6 (dz ao)):=
 d.pure kQ fun f cdv A outer s H E hr=>by
  have hu:=dR hr
  have nd:=kQ.nd
  exact(ay (bc (i:=6) nd rfl (by first|exact Or.inl rfl|exact Or.inr rfl) (aS aF hr rfl (ag (af (wpv 0)) (ag (aD ar) aA))))
   (ay (bc (i:=7) nd rfl (by first|exact Or.inl rfl|exact Or.inr rfl) (aS aF hr rfl (ag (af (wpv 0)) (ag (cE hu (af (wpv 1)) (aD ar) (fun _ _=>rfl) (fun _ _=>rfl)) aA))))
   (ay (dP (bD BJ Kb (af (wpv 6)) (aD ar) (bA _)) (ay (bc (i:=8) nd rfl (by first|exact Or.inl rfl|exact Or.inr rfl) (cE hu (jd (ag (cE hu (af (wpv 3)) (af (wpv 7)) (fun _ _=>rfl) (fun _ _=>rfl)) (ag (cE hu (af (wpv 3)) (af (wpv 7)) (fun _ _=>rfl) (fun _ _=>rfl)) (ag (cE hu (af (wpv 5)) (af (wpv 7)) (fun _ _=>rfl) (fun _ _=>rfl)) (ag (aS aF hr rfl (ag (af (wpv 0)) (ag (cE hu (af (wpv 1)) (aD ar) (fun _ _=>rfl) (fun _ _=>rfl)) aA))) aA))))) (aS aF hr rfl (ag (af (wpv 0)) (ag (aD ar) aA))) (fun _ _=>rfl) (fun _ _=>rfl)))
   (aB (aW (kx (ag (dF aX) (ag (af (wpv 2)) (ag (af (wpv 7)) (ag (uP hu (af (wpv 4)) (af (wpv 7)) (af (wpv 8)) ⟨rfl,rfl,rfl,rfl⟩) aA)))))))) cD)
   (ay (dP (bD BJ Kb (af (wpv 6)) (aD ar) (bA _)) (aB (aW (kx (ag (dF aX) (ag (af (wpv 2)) (ag (af (wpv 7)) (ag (aS aF hr rfl (ag (af (wpv 0)) (ag (cE hu (af (wpv 1)) (aD ar) (fun _ _=>rfl) (fun _ _=>rfl)) aA))) aA))))))) cD)
   (aB (aW (kx (ag (cE hu (jd (ag (dF aX) (ag (dF aX) (ag (dF aX) (ag (dF aX) aA))))) (gM uX BB (af (wpv 6)) (aD ar)) (fun _ _=>rfl) (fun _ _=>rfl)) (ag (af (wpv 2)) aA)))))))))
theorem nu:aR ["pen","world","state","most","size","names","log","now","going","k","at","a","seen","puts"] ["pen","world","state","most","size"] (av ff):=⟨rfl,rfl,rfl,by decide +kernel,rfl,by decide +kernel,by decide +kernel⟩
theorem wF{k:Nat}{b5 ao b6 bP:Fn}(d:Def K mg "_law_log" ff ["pen","world","state","most","size"])(B:Blt mg)(jN:d9 P w K mg base "_law_names" (k) ["pen","many"] b5)(aF:d9 P w K mg base "_law_take" (k) ["pen","many"] ao)(jO:d9 P w K mg base "_law_event" (k) ["pen","world","a","seen","puts","now"] b6)(i6:d9 P w K mg base "_law_put_in" (k) ["state","puts"] bP):d9 P w K mg base "_law_log" (k+1) ["pen","world","state","most","size"] (fnU 14 5 (iI b5 ao b6 bP)):=
 d.pure nu fun f cdv A outer s H E hr=>by
  have hu:=dR hr
  have nd:=nu.nd
  exact(ay (bc (i:=5) nd rfl (by first|exact Or.inl rfl|exact Or.inr rfl) (aS jN hr rfl (ag (af (wpv 0)) (ag (aS aF hr rfl (ag (af (wpv 0)) (ag (gM iC iw (af (wpv 3)) (aD ar)) aA))) aA))))
   (ay (bc (i:=6) nd rfl (by first|exact Or.inl rfl|exact Or.inr rfl) (jd aA))
   (ay (bc (i:=7) nd rfl (by first|exact Or.inl rfl|exact Or.inr rfl) (af (wpv 2)))
   (ay (bc (i:=8) nd rfl (by first|exact Or.inl rfl|exact Or.inr rfl) (jd aA))
   (ay (jv PassesOwn.never rfl (jx rfl B.range (ag (aS aF hr rfl (ag (af (wpv 0)) (ag (gM iC iw (af (wpv 4)) (aD ar)) aA))) aA)) (bC (aK (i:=9) nd rfl (by first|exact Or.inl rfl|exact Or.inr rfl))) (aB (dP (yi (EJ (bD (o9 hr.units) tQ (af (wpv 5)) (jd aA) (bA _)) (yo (yi (Bc (bD (IZ hr.units) tQ (af (wpv 8)) (jd aA) (bA _)) (rM (bD lh uU (aS aF hr rfl (ag (af (wpv 0)) (ag (aD ar) aA))) (aD ar) (bA _)))))))) (ay (fK (kY (af (wpv 8)) (ag (kx (ag (Lv (af (wpv 5))) (ag (af (wpv 7)) (ag kS aA)))) aA)))
   (aB (fK (kY (af (wpv 6)) (ag (kx (ag (dF aX) (ag (cE hu (cE hu (af (wpv 8)) (vW (aD ar)) (fun _ _=>rfl) (fun _ _=>rfl)) (aD ar) (fun _ _=>rfl) (fun _ _=>rfl)) aA))) aA))))) (aB (dP (bD (o9 hr.units) tQ (af (wpv 8)) (jd aA) (bA _)) (ay (bc (i:=10) nd rfl (by first|exact Or.inl rfl|exact Or.inr rfl) (aS aF hr rfl (ag (af (wpv 0)) (ag (cW mI mH rfl B.len PySem.boot_len (ag (af (wpv 8)) aA)) aA))))
   (ay (Dc (cE hu (af (wpv 8)) (af (wpv 10)) (fun _ _=>rfl) (fun _ _=>rfl)) (yh rfl (fR (aK (i:=11) nd rfl (by first|exact Or.inl rfl|exact Or.inr rfl)) (fR (aK (i:=12) nd rfl (by first|exact Or.inl rfl|exact Or.inr rfl)) (fR (aK (i:=13) nd rfl (by first|exact Or.inl rfl|exact Or.inr rfl)) pX)))))
   (ay (fK (kY (af (wpv 6)) (ag (aS jO hr rfl (ag (af (wpv 0)) (ag (af (wpv 1)) (ag (af (wpv 11)) (ag (af (wpv 12)) (ag (af (wpv 13)) (ag (af (wpv 7)) aA))))))) aA)))
   (ay (dP (bD lh uU (cE hu (cE hu (af (wpv 6)) (vW (aD ar)) (fun _ _=>rfl) (fun _ _=>rfl)) (aD ar) (fun _ _=>rfl) (fun _ _=>rfl)) (dF aX) (bA _)) (aB (cf hu (af (wpv 13)) (cE hu (cE hu (af (wpv 6)) (vW (aD ar)) (fun _ _=>rfl) (fun _ _=>rfl)) (aD ar) (fun _ _=>rfl) (fun _ _=>rfl)) (cE hu (cE hu (af (wpv 6)) (vW (aD ar)) (fun _ _=>rfl) (fun _ _=>rfl)) (aD ar) (fun _ _=>rfl) (fun _ _=>rfl)))) (aB (dP (bD lh uU (cE hu (cE hu (af (wpv 6)) (vW (aD ar)) (fun _ _=>rfl) (fun _ _=>rfl)) (aD ar) (fun _ _=>rfl) (fun _ _=>rfl)) (dF aX) (bA _)) (aB (bc (i:=7) nd rfl (by first|exact Or.inl rfl|exact Or.inr rfl) (aS i6 hr rfl (ag (af (wpv 7)) (ag (af (wpv 13)) aA))))) cD)))
   (aB (dP (EE hu (cE hu (cE hu (af (wpv 6)) (vW (aD ar)) (fun _ _=>rfl) (fun _ _=>rfl)) (aD ar) (fun _ _=>rfl) (fun _ _=>rfl)) (kx (ag (dF aX) (ag (dF aX) aA))) (by with_unfolding_all rfl)) (aB (fK (yk (af (wpv 8)) (ag (af (wpv 10)) aA)))) cD)))))) cD)))))
   (aB (aW (af (wpv 6)))))))))
theorem nc:aR ["thing"] ["thing"] (av eS):=⟨rfl,rfl,rfl,by decide +kernel,rfl,by decide +kernel,by decide +kernel⟩
theorem wt{k:Nat}(d:Def K mg "is_whole" eS ["thing"])(B:Blt mg):d9 P w K mg base "is_whole" (k+1) ["thing"] (fnU 1 1 (fj )):=
 d.pure nc fun f cdv A outer s H E hr=>by
  have hu:=dR hr
  have nd:=nc.nd
  exact(aB (aW (uQ (Bd (T:=.int) (by intro z;cases z) (af (wpv 0)) (uA rfl B.int OG.vH) rfl B.isinstance) (yl (Ig (Bd (T:=.bool) (by intro z;cases z) (af (wpv 0)) (uA rfl B.bool OG.Af) rfl B.isinstance))))))
theorem mq:aR ["thing","least","most"] ["thing","least","most"] (av dZ):=⟨rfl,rfl,rfl,by decide +kernel,rfl,by decide +kernel,by decide +kernel⟩
theorem t8{k:Nat}{bw:Fn}(d:Def K mg "is_within" dZ ["thing","least","most"])(B:Blt mg)(fY:d9 P w K mg base "is_whole" (k) ["thing"] bw):d9 P w K mg base "is_within" (k+1) ["thing","least","most"] (fnU 3 3 (b8 bw)):=
 d.pure mq fun f cdv A outer s H E hr=>by
  have hu:=dR hr
  have nd:=mq.nd
  exact(aB (aW (uQ (aS fY hr rfl (ag (af (wpv 0)) aA)) (yl (EI IY MC IY MC (af (wpv 1)) (af (wpv 0)) (af (wpv 2)))))))
theorem gp:aR ["self","a","box","number"] ["self","a","box","number"] (av bH):=⟨rfl,rfl,rfl,by decide +kernel,rfl,by decide +kernel,by decide +kernel⟩
theorem lD{k:Nat}{ae:Cl}{fa:Addr}{fd:FuncData}(F:Fun K "note_look" "Course.note_look" bH fa fd)(bi:fU K fd ["self","a","box","number"] [])(mt:tj K ae.C "note_look" fa)(B:Blt mg)(TCourse:TC K ae ["ends","looks","needs","puts","before"]):sY P w K mg base ae "note_look" (k+1) ["self","a","box","number"] (fnU 4 4 (bK ae)):=
 ⟨⟨fa,fd,mt,F.pure gp fun cdv A outer s H E hr=>(by
  have hu:=dR hr
  have nd:=gp.nd
  exact(aB (dP (uN hu (af (wpv 2)) (cE hu (dS TCourse.cl (TCourse.na 3 rfl) (TCourse.ix rfl) (af (wpv 0))) (af (wpv 1)) (fun _ _=>rfl) (fun _ _=>rfl)) (by with_unfolding_all rfl)) (ay (fK (kY (cE hu (dS TCourse.cl (TCourse.na 1 rfl) (TCourse.ix rfl) (af (wpv 0))) (af (wpv 1)) (fun _ _=>rfl) (fun _ _=>rfl)) (ag (kx (ag (af (wpv 2)) (ag (af (wpv 3)) aA))) aA)))
   (aB (ye hu (cE hu (dS TCourse.cl (TCourse.na 2 rfl) (TCourse.ix rfl) (af (wpv 0))) (af (wpv 1)) (fun _ _=>rfl) (fun _ _=>rfl)) (ag (af (wpv 2)) (ag (af (wpv 3)) aA)) (nA dc)))) cD))),bi⟩⟩
theorem jt:aR ["self","a"] ["self","a"] (av cU):=⟨rfl,rfl,rfl,by decide +kernel,rfl,by decide +kernel,by decide +kernel⟩
theorem oJ{k:Nat}{ae:Cl}{fa:Addr}{fd:FuncData}(F:Fun K "enter" "Course.enter" cU fa fd)(bi:fU K fd ["self","a"] [])(mt:tj K ae.C "enter" fa)(B:Blt mg)(TCourse:TC K ae ["ends","looks","needs","puts","before"]):sY P w K mg base ae "enter" (k+1) ["self","a"] (fnU 2 2 (dU ae)):=
 ⟨⟨fa,fd,mt,F.pure jt fun cdv A outer s H E hr=>(by
  have hu:=dR hr
  have nd:=jt.nd
  exact(ay (cf hu (dS TCourse.cl (TCourse.na 4 rfl) (TCourse.ix rfl) (af (wpv 0))) (af (wpv 1)) (yn (Nc:=["one","self"]) (tn:=["one"]) (capN:=["self"]) (caps:=[0]) rfl (dS TCourse.cl (TCourse.na 0 rfl) (TCourse.ix rfl) (af (wpv 0))) (fun _ _ _=>(bC (aK (i:=0) (show(["one","self"]:List Str).Nodup by decide +kernel) rfl (by first|exact Or.inl rfl|exact Or.inr rfl)))) (fun _ _ _=>(bD vZ Gy (cE hu (dS TCourse.cl (TCourse.na 0 rfl) (TCourse.ix rfl) (af (wpv 1))) (af (wpv 0)) (fun _ _=>rfl) (fun _ _=>rfl)) (dF aX) (bA _))) (fun _ _ _=>(af (wpv 0))) rfl rfl (by decide +kernel) (by decide +kernel) ⟨rfl,trivial⟩ rfl (.cons ⟨rfl,rfl,rfl,_,rfl⟩ .nil) rfl rfl))
   (ay (cf hu (dS TCourse.cl (TCourse.na 0 rfl) (TCourse.ix rfl) (af (wpv 0))) (af (wpv 1)) (dF aX))
   (ay (cf hu (dS TCourse.cl (TCourse.na 1 rfl) (TCourse.ix rfl) (af (wpv 0))) (af (wpv 1)) (jd aA))
   (ay (cf hu (dS TCourse.cl (TCourse.na 2 rfl) (TCourse.ix rfl) (af (wpv 0))) (af (wpv 1)) EG)
   (aB (cf hu (dS TCourse.cl (TCourse.na 3 rfl) (TCourse.ix rfl) (af (wpv 0))) (af (wpv 1)) kS))))))),bi⟩⟩
theorem i9:aR ["self","event","a"] ["self","event"] (av cw):=⟨rfl,rfl,rfl,by decide +kernel,rfl,by decide +kernel,by decide +kernel⟩
theorem nS{k:Nat}{b7 bj:Fn}{ae:Cl}{fa:Addr}{fd:FuncData}(F:Fun K "follow" "Course.follow" cw fa fd)(bi:fU K fd ["self","event"] [])(mt:tj K ae.C "follow" fa)(B:Blt mg)(TCourse:TC K ae ["ends","looks","needs","puts","before"])(M_Course_enter:sY P w K mg base ae "enter" (k) ["self","a"] b7)(M_Course_note_look:sY P w K mg base ae "note_look" (k) ["self","a","box","number"] bj):sY P w K mg base ae "follow" (k+1) ["self","event"] (fnU 3 2 (aM b7 bj ae)):=
 ⟨⟨fa,fd,mt,F.pure i9 fun cdv A outer s H E hr=>(by
  have hu:=dR hr
  have nd:=i9.nd
  exact(ay (bc (i:=2) nd rfl (by first|exact Or.inl rfl|exact Or.inr rfl) (cE hu (af (wpv 1)) (aD ar) (fun _ _=>rfl) (fun _ _=>rfl)))
   (aB (dP (bD lh uU (cE hu (af (wpv 1)) (aD ar) (fun _ _=>rfl) (fun _ _=>rfl)) (dF aX) (bA _)) (aB (fK (nz TCourse.cl M_Course_enter hr (TCourse.nm (by decide +kernel)) (af (wpv 0)) (ag (af (wpv 2)) aA)))) (aB (dP (bD lh uU (cE hu (af (wpv 1)) (aD ar) (fun _ _=>rfl) (fun _ _=>rfl)) (dF aX) (bA _)) (aB (fK (nz TCourse.cl M_Course_note_look hr (TCourse.nm (by decide +kernel)) (af (wpv 0)) (ag (af (wpv 2)) (ag (cE hu (af (wpv 1)) (aD ar) (fun _ _=>rfl) (fun _ _=>rfl)) (ag (cE hu (af (wpv 1)) (aD ar) (fun _ _=>rfl) (fun _ _=>rfl)) aA)))))) (aB (dP (bD lh uU (cE hu (af (wpv 1)) (aD ar) (fun _ _=>rfl) (fun _ _=>rfl)) (dF aX) (bA _)) (aB (cf hu (cE hu (dS TCourse.cl (TCourse.na 3 rfl) (TCourse.ix rfl) (af (wpv 0))) (af (wpv 2)) (fun _ _=>rfl) (fun _ _=>rfl)) (cE hu (af (wpv 1)) (aD ar) (fun _ _=>rfl) (fun _ _=>rfl)) (cE hu (af (wpv 1)) (aD ar) (fun _ _=>rfl) (fun _ _=>rfl)))) (aB (cf hu (dS TCourse.cl (TCourse.na 0 rfl) (TCourse.ix rfl) (af (wpv 0))) (af (wpv 2)) (cE hu (af (wpv 1)) (aD ar) (fun _ _=>rfl) (fun _ _=>rfl)))))))))))),bi⟩⟩
theorem kg:aR ["self"] ["self"] (av dD):=⟨rfl,rfl,rfl,by decide +kernel,rfl,by decide +kernel,by decide +kernel⟩
theorem qt{k:Nat}{ae:Cl}{fa:Addr}{fd:FuncData}(F:Fun K "__init__" "Course.__init__" dD fa fd)(bi:fU K fd ["self"] [])(mk:Mk K ae.C fa)(hmg:mg "Course"=some (.ref ae.C))(B:Blt mg)(TCourse:TC K ae ["ends","looks","needs","puts","before"]):CMk P w K mg base ae "Course" (k+1) ["self"] (fnU 1 1 (eJ ae)):=
 ⟨⟨fa,fd,mk,F.pure kg fun cdv A outer s H E hr=>(by
  have hu:=dR hr
  have nd:=kg.nd
  exact(ay (ju TCourse.cl (TCourse.na 0 rfl) (TCourse.ix rfl) (af (wpv 0)) kS)
   (ay (ju TCourse.cl (TCourse.na 1 rfl) (TCourse.ix rfl) (af (wpv 0)) kS)
   (ay (ju TCourse.cl (TCourse.na 2 rfl) (TCourse.ix rfl) (af (wpv 0)) kS)
   (ay (ju TCourse.cl (TCourse.na 3 rfl) (TCourse.ix rfl) (af (wpv 0)) kS)
   (aB (ju TCourse.cl (TCourse.na 4 rfl) (TCourse.ix rfl) (af (wpv 0)) kS))))))),bi,hmg⟩,by rw[TCourse.ns];decide +kernel,by rw[TCourse.ns];decide⟩
theorem ja:aR ["self","event","a"] ["self","event"] (av cy):=⟨rfl,rfl,rfl,by decide +kernel,rfl,by decide +kernel,by decide +kernel⟩
theorem nT{k:Nat}{ae:Cl}{fa:Addr}{fd:FuncData}(F:Fun K "allows" "Course.allows" cy fa fd)(bi:fU K fd ["self","event"] [])(mt:tj K ae.C "allows" fa)(B:Blt mg)(TCourse:TC K ae ["ends","looks","needs","puts","before"]):sY P w K mg base ae "allows" (k+1) ["self","event"] (fnU 3 2 (aN ae)):=
 ⟨⟨fa,fd,mt,F.pure ja fun cdv A outer s H E hr=>(by
  have hu:=dR hr
  have nd:=ja.nd
  exact(ay (bc (i:=2) nd rfl (by first|exact Or.inl rfl|exact Or.inr rfl) (cE hu (af (wpv 1)) (aD ar) (fun _ _=>rfl) (fun _ _=>rfl)))
   (ay (dP (bD lh uU (cE hu (af (wpv 1)) (aD ar) (fun _ _=>rfl) (fun _ _=>rfl)) (dF aX) (bA _)) (aB (aW (EF hu (af (wpv 2)) (dS TCourse.cl (TCourse.na 0 rfl) (TCourse.ix rfl) (af (wpv 0))) (by with_unfolding_all rfl)))) cD)
   (ay (dP (bD vZ Gy (EH hu (dS TCourse.cl (TCourse.na 0 rfl) (TCourse.ix rfl) (af (wpv 0))) (af (wpv 2)) ⟨rfl,rfl,rfl,rfl⟩) (dF aX) (bA _)) (aB (aW (nA dc))) cD)
   (ay (dP (bD lh uU (cE hu (af (wpv 1)) (aD ar) (fun _ _=>rfl) (fun _ _=>rfl)) (dF aX) (bA _)) (aB (aW (Be lh uU (uP hu (cE hu (dS TCourse.cl (TCourse.na 3 rfl) (TCourse.ix rfl) (af (wpv 0))) (af (wpv 2)) (fun _ _=>rfl) (fun _ _=>rfl)) (cE hu (af (wpv 1)) (aD ar) (fun _ _=>rfl) (fun _ _=>rfl)) (cE hu (af (wpv 1)) (aD ar) (fun _ _=>rfl) (fun _ _=>rfl)) ⟨rfl,rfl,rfl,rfl⟩) (cE hu (af (wpv 1)) (aD ar) (fun _ _=>rfl) (fun _ _=>rfl)) (bA _)))) cD)
   (aB (aW (nA dc)))))))),bi⟩⟩
theorem nh:aR ["world","thing"] ["world","thing"] (av eW):=⟨rfl,rfl,rfl,by decide +kernel,rfl,by decide +kernel,by decide +kernel⟩
theorem wz{k:Nat}{cN:Fn}(d:Def K mg "is_event" eW ["world","thing"])(B:Blt mg)(C_LAST_ATTEMPT:∃t,mg "LAST_ATTEMPT"=some (.int (199) t))(gJ:d9 P w K mg base "is_within" (k) ["thing","least","most"] cN):d9 P w K mg base "is_event" (k+1) ["world","thing"] (fnU 2 2 (bz cN)):=
 d.pure nh fun f cdv A outer s H E hr=>by
  have hu:=dR hr
  have nd:=nh.nd
  exact(ay (dP (yi (Bc (kR (jb (Bd (T:=.tuple) (by intro z;cases z) (af (wpv 1)) (uA rfl B.tuple OG.jW) rfl B.isinstance))) (Bc (bD BJ Kb (cW mI mH rfl B.len PySem.boot_len (ag (af (wpv 1)) aA)) (aD ar) (bA _)) (rM (kR (jb (aS gJ hr rfl (ag (cE hu (af (wpv 1)) (aD ar) (fun _ _=>rfl) (fun _ _=>rfl)) (ag (aD ar) (ag (aD (uB rfl C_LAST_ATTEMPT)) aA)))))))))) (aB (aW (nA dc))) cD)
   (ay (dP (bD (Dh hr.units) Fd (cE hu (af (wpv 1)) (aD ar) (fun _ _=>rfl) (fun _ _=>rfl)) (kx (ag (dF aX) (ag (dF aX) (ag (dF aX) aA)))) (by with_unfolding_all rfl)) (aB (aW (Be lh uU (cW mI mH rfl B.len PySem.boot_len (ag (af (wpv 1)) aA)) (aD ar) (bA _)))) cD)
   (ay (dP (yi (EJ (bD (Dh hr.units) Fd (cE hu (af (wpv 1)) (aD ar) (fun _ _=>rfl) (fun _ _=>rfl)) (kx (ag (dF aX) (ag (dF aX) aA))) (by with_unfolding_all rfl)) (yo (bD lh uU (cW mI mH rfl B.len PySem.boot_len (ag (af (wpv 1)) aA)) (aD ar) (bA _))))) (aB (aW (uQ (aS gJ hr rfl (ag (cE hu (af (wpv 1)) (aD ar) (fun _ _=>rfl) (fun _ _=>rfl)) (ag (aD ar) (ag (gM uX BB (cE hu (af (wpv 0)) (aD ar) (fun _ _=>rfl) (fun _ _=>rfl)) (aD ar)) aA)))) (yl (aS gJ hr rfl (ag (cE hu (af (wpv 1)) (aD ar) (fun _ _=>rfl) (fun _ _=>rfl)) (ag (aD ar) (ag (gM uX BB (cE hu (af (wpv 0)) (aD ar) (fun _ _=>rfl) (fun _ _=>rfl)) (aD ar)) aA)))))))) cD)
   (aB (aW (nA dc))))))
theorem rJ:aR ["world","thing","course","event"] ["world","thing"] (av iP):=⟨rfl,rfl,rfl,by decide +kernel,rfl,by decide +kernel,by decide +kernel⟩
theorem B8{k:Nat}{dH bo aE aH:Fn}{ae:Cl}(d:Def K mg "is_log" iP ["world","thing"])(B:Blt mg)(C_MOST_EVENTS:∃t,mg "MOST_EVENTS"=some (.int (2000) t))(TCourse:TC K ae ["ends","looks","needs","puts","before"])(mf:d9 P w K mg base "is_event" (k+1) ["world","thing"] dH)(M_Course_allows:sY P w K mg base ae "allows" (k+1) ["self","event"] bo)(M_Course_follow:sY P w K mg base ae "follow" (k+1) ["self","event"] aE)(M_Course:CMk P w K mg base ae "Course" k ["self"] aH):d9 P w K mg base "is_log" (k+1+1) ["world","thing"] (fnU 4 2 (gZ dH bo aE aH ae)):=
 d.pure rJ fun f cdv A outer s H E hr=>by
  have hu:=dR hr
  have nd:=rJ.nd
  exact(ay (dP (yi (Bc (kR (jb (Bd (T:=.list) (by intro z;cases z) (af (wpv 1)) (uA rfl B.list OG.lL) rfl B.isinstance))) (rM (bD Fh LJ (cW mI mH rfl B.len PySem.boot_len (ag (af (wpv 1)) aA)) (aD (uB rfl C_MOST_EVENTS)) (bA _))))) (aB (aW (nA dc))) cD)
   (ay (bc (i:=2) nd rfl (by first|exact Or.inl rfl|exact Or.inr rfl) (ym M_Course hr rfl))
   (ay (jv PassesOwn.never rfl (eQ (af (wpv 1))) (bC (aK (i:=3) nd rfl (by first|exact Or.inl rfl|exact Or.inr rfl))) (ay (dP (yi (Bc (kR (jb (aS mf hr rfl (ag (af (wpv 0)) (ag (af (wpv 3)) aA))))) (rM (kR (jb (nz TCourse.cl M_Course_allows hr (TCourse.nm (by decide +kernel)) (af (wpv 2)) (ag (af (wpv 3)) aA))))))) (aB (aW (nA dc))) cD)
   (aB (fK (nz TCourse.cl M_Course_follow hr (TCourse.nm (by decide +kernel)) (af (wpv 2)) (ag (af (wpv 3)) aA))))))
   (aB (aW (nA dc))))))
theorem mr:aR ["log","course","event"] ["log"] (av d0):=⟨rfl,rfl,rfl,by decide +kernel,rfl,by decide +kernel,by decide +kernel⟩
theorem t9{k:Nat}{aE aH:Fn}{ae:Cl}(d:Def K mg "course_of" d0 ["log"])(B:Blt mg)(TCourse:TC K ae ["ends","looks","needs","puts","before"])(M_Course_follow:sY P w K mg base ae "follow" (k+1) ["self","event"] aE)(M_Course:CMk P w K mg base ae "Course" k ["self"] aH):d9 P w K mg base "course_of" (k+1+1) ["log"] (fnU 3 1 (gG aE aH ae)):=
 d.pure mr fun f cdv A outer s H E hr=>by
  have hu:=dR hr
  have nd:=mr.nd
  exact(ay (bc (i:=1) nd rfl (by first|exact Or.inl rfl|exact Or.inr rfl) (ym M_Course hr rfl))
   (ay (jv PassesOwn.never rfl (eQ (af (wpv 0))) (bC (aK (i:=2) nd rfl (by first|exact Or.inl rfl|exact Or.inr rfl))) (aB (fK (nz TCourse.cl M_Course_follow hr (TCourse.nm (by decide +kernel)) (af (wpv 1)) (ag (af (wpv 2)) aA)))))
   (aB (aW (af (wpv 1))))))
theorem nj:aR ["log"] ["log"] (av eZ):=⟨rfl,rfl,rfl,by decide +kernel,rfl,by decide +kernel,by decide +kernel⟩
def iG(aw:Fn)(ae:Cl):CS:=
 (fO (cCB fh (ab (fA ae 0 (cCB aw (ab (ah 0) aC))) aC)))
theorem wR{aw:Fn}{ae:Cl}{a0:U}{S:Sto}:fnU 1 1 (iG aw ae) [a0] S=((iG aw ae) [some a0] S).bind kFn:=j7 rfl
theorem wC{k:Nat}{aw:Fn}{ae:Cl}(d:Def K mg "attempts" eZ ["log"])(B:Blt mg)(TCourse:TC K ae ["ends","looks","needs","puts","before"])(aV:d9 P w K mg base "course_of" (k) ["log"] aw):d9 P w K mg base "attempts" (k+1) ["log"] (fnU 1 1 (iG aw ae)):=
 d.pure nj fun f cdv A outer s H E hr=>by
  have hu:=dR hr
  have nd:=nj.nd
  exact(aB (aW (cW (qh rfl) qd rfl B.sorted OG.gH (ag (dS TCourse.cl (TCourse.na 0 rfl) (TCourse.ix rfl) (aS aV hr rfl (ag (af (wpv 0)) aA))) aA))))
theorem rK:aR ["log","a"] ["log","a"] (av iQ):=⟨rfl,rfl,rfl,by decide +kernel,rfl,by decide +kernel,by decide +kernel⟩
def lK(aw:Fn)(ae:Cl):CS:=
 (fO (cOp fIx (fA ae 0 (cCB aw (ab (ah 0) aC))) (ah 1)))
theorem Ck{aw:Fn}{ae:Cl}{a0 a1:U}{S:Sto}:fnU 2 2 (lK aw ae) [a0,a1] S=((lK aw ae) [some a0,some a1] S).bind kFn:=j7 rfl
theorem B9{k:Nat}{aw:Fn}{ae:Cl}(d:Def K mg "end_of" iQ ["log","a"])(B:Blt mg)(TCourse:TC K ae ["ends","looks","needs","puts","before"])(aV:d9 P w K mg base "course_of" (k) ["log"] aw):d9 P w K mg base "end_of" (k+1) ["log","a"] (fnU 2 2 (lK aw ae)):=
 d.pure rK fun f cdv A outer s H E hr=>by
  have hu:=dR hr
  have nd:=rK.nd
  exact(aB (aW (cE hu (dS TCourse.cl (TCourse.na 0 rfl) (TCourse.ix rfl) (aS aV hr rfl (ag (af (wpv 0)) aA))) (af (wpv 1)) (fun _ _=>rfl) (fun _ _=>rfl))))
theorem j9:aR ["log","a"] ["log","a"] (av cI):=⟨rfl,rfl,rfl,by decide +kernel,rfl,by decide +kernel,by decide +kernel⟩
theorem qp{k:Nat}{aw:Fn}{ae:Cl}(d:Def K mg "outer_looks" cI ["log","a"])(B:Blt mg)(TCourse:TC K ae ["ends","looks","needs","puts","before"])(aV:d9 P w K mg base "course_of" (k) ["log"] aw):d9 P w K mg base "outer_looks" (k+1) ["log","a"] (fnU 2 2 (eE aw ae)):=
 d.pure j9 fun f cdv A outer s H E hr=>by
  have hu:=dR hr
  have nd:=j9.nd
  exact(aB (aW (cE hu (dS TCourse.cl (TCourse.na 1 rfl) (TCourse.ix rfl) (aS aV hr rfl (ag (af (wpv 0)) aA))) (af (wpv 1)) (fun _ _=>rfl) (fun _ _=>rfl))))
theorem oY:aR ["log","a"] ["log","a"] (av gu):=⟨rfl,rfl,rfl,by decide +kernel,rfl,by decide +kernel,by decide +kernel⟩
def jG(aw:Fn)(ae:Cl):CS:=
 (fO (mU (cOp fIx (fA ae 3 (cCB aw (ab (ah 0) aC))) (ah 1))))
theorem zM{aw:Fn}{ae:Cl}{a0 a1:U}{S:Sto}:fnU 2 2 (jG aw ae) [a0,a1] S=((jG aw ae) [some a0,some a1] S).bind kFn:=j7 rfl
theorem zo{k:Nat}{aw:Fn}{ae:Cl}(d:Def K mg "puts_of" gu ["log","a"])(B:Blt mg)(TCourse:TC K ae ["ends","looks","needs","puts","before"])(aV:d9 P w K mg base "course_of" (k) ["log"] aw):d9 P w K mg base "puts_of" (k+1) ["log","a"] (fnU 2 2 (jG aw ae)):=
 d.pure oY fun f cdv A outer s H E hr=>by
  have hu:=dR hr
  have nd:=oY.nd
  exact(aB (aW (yj rfl rfl B.sorted OG.gH (cE hu (dS TCourse.cl (TCourse.na 3 rfl) (TCourse.ix rfl) (aS aV hr rfl (ag (af (wpv 0)) aA))) (af (wpv 1)) (fun _ _=>rfl) (fun _ _=>rfl)))))
theorem uK:aR ["log","before","pairs","other"] ["log"] (av kr):=⟨rfl,rfl,rfl,by decide +kernel,rfl,by decide +kernel,by decide +kernel⟩
theorem FN{k:Nat}{aw:Fn}{ae:Cl}(d:Def K mg "ahead" kr ["log"])(B:Blt mg)(TCourse:TC K ae ["ends","looks","needs","puts","before"])(aV:d9 P w K mg base "course_of" (k) ["log"] aw):d9 P w K mg base "ahead" (k+1) ["log"] (fnU 4 1 (oa aw ae)):=
 d.pure uK fun f cdv A outer s H E hr=>by
  have hu:=dR hr
  have nd:=uK.nd
  exact(ay (bc (i:=1) nd rfl (by first|exact Or.inl rfl|exact Or.inr rfl) (dS TCourse.cl (TCourse.na 4 rfl) (TCourse.ix rfl) (aS aV hr rfl (ag (af (wpv 0)) aA))))
   (ay (bc (i:=2) nd rfl (by first|exact Or.inl rfl|exact Or.inr rfl) (jd aA))
   (ay (ED PassesOwn.never rfl (af (wpv 1)) (bC (aK (i:=3) nd rfl (by first|exact Or.inl rfl|exact Or.inr rfl))) (aB (fK (uO (af (wpv 2)) (ag (mw (Nc:=["one","other"]) (tn:=["one"]) (capN:=["other"]) (caps:=[3]) rfl (eQ (cE hu (af (wpv 1)) (af (wpv 3)) (fun _ _=>rfl) (fun _ _=>rfl))) (fun _ _ _=>(bC (aK (i:=0) (show(["one","other"]:List Str).Nodup by decide +kernel) rfl (by first|exact Or.inl rfl|exact Or.inr rfl)))) (fun _ _ _=>(kx (ag (af (wpv 0)) (ag (af (wpv 1)) aA)))) rfl rfl (by decide +kernel) (by decide +kernel) ⟨rfl,trivial⟩ rfl (.cons ⟨rfl,rfl,rfl,_,rfl⟩ .nil) rfl rfl) aA)))))
   (aB (aW (cW yI yB rfl B.sorted OG.gH (ag (af (wpv 2)) aA)))))))
theorem ni:aR ["course","every","a"] ["course","every","a"] (av eX):=⟨rfl,rfl,rfl,by decide +kernel,rfl,by decide +kernel,by decide +kernel⟩
theorem wB{k:Nat}{ae:Cl}(d:Def K mg "is_asked" eX ["course","every","a"])(B:Blt mg)(TCourse:TC K ae ["ends","looks","needs","puts","before"]):d9 P w K mg base "is_asked" (k+1) ["course","every","a"] (fnU 3 3 (fX ae)):=
 d.pure ni fun f cdv A outer s H E hr=>by
  have hu:=dR hr
  have nd:=ni.nd
  exact(aB (aW (Lw (af (wpv 1)) (yl (Be lh uU (cE hu (dS TCourse.cl (TCourse.na 0 rfl) (TCourse.ix rfl) (af (wpv 0))) (af (wpv 2)) (fun _ _=>rfl) (fun _ _=>rfl)) (dF aX) (bA _))))))
theorem nq:aR ["course","every"] ["course","every"] (av fb):=⟨rfl,rfl,rfl,by decide +kernel,rfl,by decide +kernel,by decide +kernel⟩
theorem wD{k:Nat}{ba:Fn}{ae:Cl}(d:Def K mg "asked_in" fb ["course","every"])(B:Blt mg)(TCourse:TC K ae ["ends","looks","needs","puts","before"])(fZ:d9 P w K mg base "is_asked" (k) ["course","every","a"] ba):d9 P w K mg base "asked_in" (k+1) ["course","every"] (fnU 2 2 (iH ba ae)):=
 d.pure nq fun f cdv A outer s H E hr=>by
  have hu:=dR hr
  have nd:=nq.nd
  exact(aB (aW (kW (Nc:=["a","course","every"]) (tn:=["a"]) (capN:=["course","every"]) (caps:=[0,1]) rfl (eQ (cW (qh rfl) qd rfl B.sorted OG.gH (ag (dS TCourse.cl (TCourse.na 0 rfl) (TCourse.ix rfl) (af (wpv 0))) aA))) (fun _ _ _=>(bC (aK (i:=0) (show(["a","course","every"]:List Str).Nodup by decide +kernel) rfl (by first|exact Or.inl rfl|exact Or.inr rfl)))) (fun _ _ _=>(jb (aS fZ hr rfl (ag (af (wpv 1)) (ag (af (wpv 2)) (ag (af (wpv 0)) aA)))))) (fun _ _ _=>(af (wpv 0))) rfl rfl (by decide +kernel) (by decide +kernel) ⟨rfl,rfl,trivial⟩ rfl (.cons ⟨rfl,rfl,rfl,_,rfl⟩ (.cons ⟨rfl,rfl,rfl,_,rfl⟩ .nil)) rfl rfl)))
theorem x6:aR ["course","a","state","need"] ["course","a","state"] (av nv):=⟨rfl,rfl,rfl,by decide +kernel,rfl,by decide +kernel,by decide +kernel⟩
theorem JG{k:Nat}{ae:Cl}(d:Def K mg "fits" nv ["course","a","state"])(B:Blt mg)(TCourse:TC K ae ["ends","looks","needs","puts","before"]):d9 P w K mg base "fits" (k+1) ["course","a","state"] (fnU 4 3 (pF ae)):=
 d.pure x6 fun f cdv A outer s H E hr=>by
  have hu:=dR hr
  have nd:=x6.nd
  exact(ay (EC PassesOwn.never rfl (cE hu (dS TCourse.cl (TCourse.na 2 rfl) (TCourse.ix rfl) (af (wpv 0))) (af (wpv 1)) (fun _ _=>rfl) (fun _ _=>rfl)) (bC (aK (i:=3) nd rfl (by first|exact Or.inl rfl|exact Or.inr rfl))) (aB (dP (bD vZ Gy (cE hu (af (wpv 2)) (cE hu (af (wpv 3)) (aD ar) (fun _ _=>rfl) (fun _ _=>rfl)) (fun _ _=>rfl) (fun _ _=>rfl)) (cE hu (af (wpv 3)) (aD ar) (fun _ _=>rfl) (fun _ _=>rfl)) (bA _)) (aB (aW (nA dc))) cD)))
   (aB (aW (nA dc))))
theorem kL:aR ["course","a","state"] ["course","a","state"] (av dh):=⟨rfl,rfl,rfl,by decide +kernel,rfl,by decide +kernel,by decide +kernel⟩
theorem se{k:Nat}{ae:Cl}(d:Def K mg "state_with" dh ["course","a","state"])(B:Blt mg)(TCourse:TC K ae ["ends","looks","needs","puts","before"]):d9 P w K mg base "state_with" (k+1) ["course","a","state"] (fnU 3 3 (d7 ae)):=
 d.pure kL fun f cdv A outer s H E hr=>by
  have hu:=dR hr
  have nd:=kL.nd
  exact(ay (dP (bD vZ Gy (cE hu (dS TCourse.cl (TCourse.na 0 rfl) (TCourse.ix rfl) (af (wpv 0))) (af (wpv 1)) (fun _ _=>rfl) (fun _ _=>rfl)) (dF aX) (bA _)) (aB (aW (af (wpv 2)))) cD)
   (aB (aW (kX iU tN rfl B.tuple OG.jW (ag (mw (Nc:=["box","number","a","course"]) (tn:=["box","number"]) (capN:=["a","course"]) (caps:=[1,0]) rfl (yg rfl B.enumerate (af (wpv 2))) (fun _ _ _=>(yh rfl (fR (aK (i:=0) (show(["box","number","a","course"]:List Str).Nodup by decide +kernel) rfl (by first|exact Or.inl rfl|exact Or.inr rfl)) (fR (aK (i:=1) (show(["box","number","a","course"]:List Str).Nodup by decide +kernel) rfl (by first|exact Or.inl rfl|exact Or.inr rfl)) pX)))) (fun _ _ _=>(uP hu (cE hu (dS TCourse.cl (TCourse.na 3 rfl) (TCourse.ix rfl) (af (wpv 3))) (af (wpv 2)) (fun _ _=>rfl) (fun _ _=>rfl)) (af (wpv 0)) (af (wpv 1)) ⟨rfl,rfl,rfl,rfl⟩)) rfl rfl (by decide +kernel) (by decide +kernel) ⟨rfl,rfl,trivial⟩ rfl (.cons ⟨rfl,rfl,rfl,_,rfl⟩ (.cons ⟨rfl,rfl,rfl,_,rfl⟩ .nil)) rfl rfl) aA)))))
theorem kh:aR ["self","course","every","a"] ["self","course","every"] (av dE):=⟨rfl,rfl,rfl,by decide +kernel,rfl,by decide +kernel,by decide +kernel⟩
theorem qu{k:Nat}{dI ba:Fn}{aG ae:Cl}{fa:Addr}{fd:FuncData}(F:Fun K "__init__" "Asking.__init__" dE fa fd)(bi:fU K fd ["self","course","every"] [])(mk:Mk K aG.C fa)(hmg:mg "Asking"=some (.ref aG.C))(B:Blt mg)(TAsking:TC K aG ["course","ones","needed"])(TCourse:TC K ae ["ends","looks","needs","puts","before"])(mh:d9 P w K mg base "asked_in" (k) ["course","every"] dI)(fZ:d9 P w K mg base "is_asked" (k) ["course","every","a"] ba):CMk P w K mg base aG "Asking" (k+1) ["self","course","every"] (fnU 4 3 (eK dI ba aG ae)):=
 ⟨⟨fa,fd,mk,F.pure kh fun cdv A outer s H E hr=>(by
  have hu:=dR hr
  have nd:=kh.nd
  exact(ay (ju TAsking.cl (TAsking.na 0 rfl) (TAsking.ix rfl) (af (wpv 0)) (af (wpv 1)))
   (ay (ju TAsking.cl (TAsking.na 1 rfl) (TAsking.ix rfl) (af (wpv 0)) (aS mh hr rfl (ag (af (wpv 1)) (ag (af (wpv 2)) aA))))
   (ay (ju TAsking.cl (TAsking.na 2 rfl) (TAsking.ix rfl) (af (wpv 0)) kS)
   (aB (jv PassesOwn.never rfl (eQ (dS TAsking.cl (TAsking.na 1 rfl) (TAsking.ix rfl) (af (wpv 0)))) (bC (aK (i:=3) nd rfl (by first|exact Or.inl rfl|exact Or.inr rfl))) (aB (cf hu (dS TAsking.cl (TAsking.na 2 rfl) (TAsking.ix rfl) (af (wpv 0))) (af (wpv 3)) (kW (Nc:=["one","course","every"]) (tn:=["one"]) (capN:=["course","every"]) (caps:=[1,2]) rfl (eQ (cE hu (dS TCourse.cl (TCourse.na 4 rfl) (TCourse.ix rfl) (af (wpv 1))) (af (wpv 3)) (fun _ _=>rfl) (fun _ _=>rfl))) (fun _ _ _=>(bC (aK (i:=0) (show(["one","course","every"]:List Str).Nodup by decide +kernel) rfl (by first|exact Or.inl rfl|exact Or.inr rfl)))) (fun _ _ _=>(jb (aS fZ hr rfl (ag (af (wpv 1)) (ag (af (wpv 2)) (ag (af (wpv 0)) aA)))))) (fun _ _ _=>(af (wpv 0))) rfl rfl (by decide +kernel) (by decide +kernel) ⟨rfl,rfl,trivial⟩ rfl (.cons ⟨rfl,rfl,rfl,_,rfl⟩ (.cons ⟨rfl,rfl,rfl,_,rfl⟩ .nil)) rfl rfl))))))))),bi,hmg⟩,by rw[TAsking.ns];decide +kernel,by rw[TAsking.ns];decide⟩
theorem fD:aR ["self","a","gone","state"] ["self","a","gone","state"] (av bq):=⟨rfl,rfl,rfl,by decide +kernel,rfl,by decide +kernel,by decide +kernel⟩
theorem j2{k:Nat}{nV:Fn}{aG:Cl}{fa:Addr}{fd:FuncData}(F:Fun K "may_be_next" "Asking.may_be_next" bq fa fd)(bi:fU K fd ["self","a","gone","state"] [])(mt:tj K aG.C "may_be_next" fa)(B:Blt mg)(TAsking:TC K aG ["course","ones","needed"])(Ay:d9 P w K mg base "fits" (k) ["course","a","state"] nV):sY P w K mg base aG "may_be_next" (k+1) ["self","a","gone","state"] (fnU 4 4 (br nV aG)):=
 ⟨⟨fa,fd,mt,F.pure fD fun cdv A outer s H E hr=>(by
  have hu:=dR hr
  have nd:=fD.nd
  exact(aB (aW (uQ (cW (vF rfl) IW rfl B.all OG.vI (ag (mw (Nc:=["one","gone"]) (tn:=["one"]) (capN:=["gone"]) (caps:=[2]) rfl (eQ (cE hu (dS TAsking.cl (TAsking.na 2 rfl) (TAsking.ix rfl) (af (wpv 0))) (af (wpv 1)) (fun _ _=>rfl) (fun _ _=>rfl))) (fun _ _ _=>(bC (aK (i:=0) (show(["one","gone"]:List Str).Nodup by decide +kernel) rfl (by first|exact Or.inl rfl|exact Or.inr rfl)))) (fun _ _ _=>(Nl hu (af (wpv 0)) (af (wpv 1)) (by with_unfolding_all rfl))) rfl rfl (by decide +kernel) (by decide +kernel) ⟨rfl,trivial⟩ rfl (.cons ⟨rfl,rfl,rfl,_,rfl⟩ .nil) rfl rfl) aA)) (yl (aS Ay hr rfl (ag (dS TAsking.cl (TAsking.na 0 rfl) (TAsking.ix rfl) (af (wpv 0))) (ag (af (wpv 1)) (ag (af (wpv 3)) aA))))))))),bi⟩⟩
theorem iq:aR ["self","order","state","gone","reached","a"] ["self","order","state"] (av bV):=⟨rfl,rfl,rfl,by decide +kernel,rfl,by decide +kernel,by decide +kernel⟩
theorem mJ{k:Nat}{bZ aQ:Fn}{aG:Cl}{fa:Addr}{fd:FuncData}(F:Fun K "is_good" "Asking.is_good" bV fa fd)(bi:fU K fd ["self","order","state"] [])(mt:tj K aG.C "is_good" fa)(B:Blt mg)(TAsking:TC K aG ["course","ones","needed"])(jK:d9 P w K mg base "state_with" (k) ["course","a","state"] bZ)(M_Asking_may_be_next:sY P w K mg base aG "may_be_next" (k) ["self","a","gone","state"] aQ):sY P w K mg base aG "is_good" (k+1) ["self","order","state"] (fnU 6 3 (bO bZ aQ aG)):=
 ⟨⟨fa,fd,mt,F.pure iq fun cdv A outer s H E hr=>(by
  have hu:=dR hr
  have nd:=iq.nd
  exact(ay (dP (bD (o9 hr.units) tQ (cW (qh rfl) qd rfl B.sorted OG.gH (ag (af (wpv 1)) aA)) (dS TAsking.cl (TAsking.na 1 rfl) (TAsking.ix rfl) (af (wpv 0))) (bA _)) (aB (aW (nA dc))) cD)
   (ay (bc (i:=3) nd rfl (by first|exact Or.inl rfl|exact Or.inr rfl) kS)
   (ay (bc (i:=4) nd rfl (by first|exact Or.inl rfl|exact Or.inr rfl) (af (wpv 2)))
   (ay (jv PassesOwn.never rfl (eQ (af (wpv 1))) (bC (aK (i:=5) nd rfl (by first|exact Or.inl rfl|exact Or.inr rfl))) (ay (dP (kR (jb (nz TAsking.cl M_Asking_may_be_next hr (TAsking.nm (by decide +kernel)) (af (wpv 0)) (ag (af (wpv 5)) (ag (af (wpv 3)) (ag (af (wpv 4)) aA)))))) (aB (aW (nA dc))) cD)
   (ay (cf hu (af (wpv 3)) (af (wpv 5)) (nA dc))
   (aB (bc (i:=4) nd rfl (by first|exact Or.inl rfl|exact Or.inr rfl) (aS jK hr rfl (ag (dS TAsking.cl (TAsking.na 0 rfl) (TAsking.ix rfl) (af (wpv 0))) (ag (af (wpv 5)) (ag (af (wpv 4)) aA)))))))))
   (aB (aW (nA dc)))))))),bi⟩⟩
theorem ng:aR ["world","state","log","every","order"] ["world","state","log","every","order"] (av eU):=⟨rfl,rfl,rfl,by decide +kernel,rfl,by decide +kernel,by decide +kernel⟩
theorem wy{k:Nat}{bw aw bN cP:Fn}{aG:Cl}(d:Def K mg "is_order" eU ["world","state","log","every","order"])(B:Blt mg)(TAsking:TC K aG ["course","ones","needed"])(fY:d9 P w K mg base "is_whole" (k+1) ["thing"] bw)(aV:d9 P w K mg base "course_of" (k+1) ["log"] aw)(M_Asking_is_good:sY P w K mg base aG "is_good" (k+1) ["self","order","state"] bN)(M_Asking:CMk P w K mg base aG "Asking" k ["self","course","every"] cP):d9 P w K mg base "is_order" (k+1+1) ["world","state","log","every","order"] (fnU 5 5 (iF bw aw bN cP aG)):=
 d.pure ng fun f cdv A outer s H E hr=>by
  have hu:=dR hr
  have nd:=ng.nd
  exact(ay (dP (kR (jb (cW (vF rfl) IW rfl B.all OG.vI (ag (mw (Nc:=["a"]) (tn:=["a"]) (capN:=[]) (caps:=[]) rfl (eQ (af (wpv 4))) (fun _ _ _=>(bC (aK (i:=0) (show(["a"]:List Str).Nodup by decide +kernel) rfl (by first|exact Or.inl rfl|exact Or.inr rfl)))) (fun _ _ _=>(aS fY hr rfl (ag (af (wpv 0)) aA))) rfl rfl (by decide +kernel) (by decide +kernel) trivial rfl .nil rfl rfl) aA)))) (aB (aW (nA dc))) cD)
   (aB (aW (nz TAsking.cl M_Asking_is_good hr (TAsking.nm (by decide +kernel)) (Ih M_Asking hr rfl (ag (aS aV hr rfl (ag (af (wpv 2)) aA)) (ag (af (wpv 3)) aA))) (ag (af (wpv 4)) (ag (af (wpv 1)) aA))))))
theorem kP:aR ["log"] ["log"] (av dr):=⟨rfl,rfl,rfl,by decide +kernel,rfl,by decide +kernel,by decide +kernel⟩
def fJ(aY gF cM iR:Fn):CS:=
 (fO (fT (iTp (cCB aY (ab (ah 0) aC))) (gNm 0) (jV (ab (ah 0) (ab (cCB iR (ab (ah 1) (ab (ah 0) aC))) (ab (cCB cM (ab (ah 1) (ab (ah 0) aC))) (ab (cCB gF (ab (ah 1) (ab (ah 0) aC))) aC))))) 1 [0]))
theorem sF{aY gF cM iR:Fn}{a0:U}{S:Sto}:fnU 1 1 (fJ aY gF cM iR) [a0] S=((fJ aY gF cM iR) [some a0] S).bind kFn:=j7 rfl
theorem sj{k:Nat}{aY gF cM iR:Fn}(d:Def K mg "_law_facts" dr ["log"])(B:Blt mg)(gh:d9 P w K mg base "attempts" (k) ["log"] aY)(oA:d9 P w K mg base "puts_of" (k) ["log","a"] gF)(iZ:d9 P w K mg base "outer_looks" (k) ["log","a"] cM)(qX:d9 P w K mg base "end_of" (k) ["log","a"] iR):d9 P w K mg base "_law_facts" (k+1) ["log"] (fnU 1 1 (fJ aY gF cM iR)):=
 d.pure kP fun f cdv A outer s H E hr=>by
  have hu:=dR hr
  have nd:=kP.nd
  exact(aB (aW (mw (Nc:=["a","log"]) (tn:=["a"]) (capN:=["log"]) (caps:=[0]) rfl (eQ (aS gh hr rfl (ag (af (wpv 0)) aA))) (fun _ _ _=>(bC (aK (i:=0) (show(["a","log"]:List Str).Nodup by decide +kernel) rfl (by first|exact Or.inl rfl|exact Or.inr rfl)))) (fun _ _ _=>(kx (ag (af (wpv 0)) (ag (aS qX hr rfl (ag (af (wpv 1)) (ag (af (wpv 0)) aA))) (ag (aS iZ hr rfl (ag (af (wpv 1)) (ag (af (wpv 0)) aA))) (ag (aS oA hr rfl (ag (af (wpv 1)) (ag (af (wpv 0)) aA))) aA)))))) rfl rfl (by decide +kernel) (by decide +kernel) ⟨rfl,trivial⟩ rfl (.cons ⟨rfl,rfl,rfl,_,rfl⟩ .nil) rfl rfl)))
theorem kf:aR ["some","found","a","more","order"] ["some"] (av cL):=⟨rfl,rfl,rfl,by decide +kernel,rfl,by decide +kernel,by decide +kernel⟩
def dC:CS:=
 (jf (cBM iS (ah 3) (ab (fT (dQ (ab (cOp fN (cCB kB (ab (ah 4) aC)) (cC (.int 1))) aC)) (gNm 0) (cOp fN (cOp fN (cSl (ah 1) none (some (ah 0))) (iV (ab (ah 2) aC))) (cSl (ah 1) (some (ah 0)) none)) 1 [4,2]) aC)))
def dB:CS:=
 (bL (eR 3 (iV aC))
  (bL (kC (iTp (ah 1)) (gNm 4) (dC ))
  (eR 1 (ah 3))))
def eG:CS:=
 (bL (eR 1 (iV (ab (iV aC) aC)))
  (bL (kC (iTp (ah 0)) (gNm 2) (dB ))
  (fO (ah 1))))
theorem qE{a0:U}{S:Sto}:fnU 5 1 (eG ) [a0] S=((eG ) [some a0,none,none,none,none] S).bind kFn:=j7 rfl
theorem qr{k:Nat}(d:Def K mg "_law_orders" cL ["some"])(B:Blt mg):d9 P w K mg base "_law_orders" (k+1) ["some"] (fnU 5 1 (eG )):=
 d.pure kf fun f cdv A outer s H E hr=>by
  have hu:=dR hr
  have nd:=kf.nd
  exact(ay (bc (i:=1) nd rfl (by first|exact Or.inl rfl|exact Or.inr rfl) (jd (ag (jd aA) aA)))
   (ay (jv PassesOwn.never rfl (eQ (af (wpv 0))) (bC (aK (i:=2) nd rfl (by first|exact Or.inl rfl|exact Or.inr rfl))) (ay (bc (i:=3) nd rfl (by first|exact Or.inl rfl|exact Or.inr rfl) (jd aA))
   (ay (jv PassesOwn.never rfl (eQ (af (wpv 1))) (bC (aK (i:=4) nd rfl (by first|exact Or.inl rfl|exact Or.inr rfl))) (aB (fK (uO (af (wpv 3)) (ag (mw (Nc:=["at","order","a"]) (tn:=["at"]) (capN:=["order","a"]) (caps:=[4,2]) rfl (jx rfl B.range (ag (gM iC iw (cW mI mH rfl B.len PySem.boot_len (ag (af (wpv 4)) aA)) (aD ar)) aA)) (fun _ _ _=>(bC (aK (i:=0) (show(["at","order","a"]:List Str).Nodup by decide +kernel) rfl (by first|exact Or.inl rfl|exact Or.inr rfl)))) (fun _ _ _=>(gM iC iw (gM iC iw (Lu (af (wpv 1)) yf (pW (af (wpv 0)))) (jd (ag (af (wpv 2)) aA))) (Lu (af (wpv 1)) (pW (af (wpv 0))) yf))) rfl rfl (by decide +kernel) (by decide +kernel) ⟨rfl,rfl,trivial⟩ rfl (.cons ⟨rfl,rfl,rfl,_,rfl⟩ (.cons ⟨rfl,rfl,rfl,_,rfl⟩ .nil)) rfl rfl) aA)))))
   (aB (bc (i:=1) nd rfl (by first|exact Or.inl rfl|exact Or.inr rfl) (af (wpv 3)))))))
   (aB (aW (af (wpv 1))))))
theorem C7:aR ["script","pen","world","state","log","woven","k","at","one","other","flat","facts","times","order"] ["script"] (av oG):=⟨rfl,rfl,rfl,by decide +kernel,rfl,by decide +kernel,by decide +kernel⟩
def kE(bE bF cH ao bt eD fg bh aY bQ:Fn):CS:=
 (bL (eR 7 (cCB ao (ab (ah 1) (ab (cOp FU (cCB kB (ab (ah 4) aC)) (cC (.int 1))) aC))))
  (bL (F9 (cSl (ah 5) (some (ah 7)) (some (cOp fN (ah 7) (cC (.int 2))))) (gSq [8,9]))
  (hU (Ge (aI (cOp fNe (cOp fIx (ah 8) (cC (.int 1))) (cOp fIx (ah 9) (cC (.int 1))))) (cOr (aI (cOp fNe (cOp fIx (ah 8) (cC (.int 0))) (cC (.str "begin")))) (aI (cOp (fIn true) (cOp fIx (ah 9) (cC (.int 0))) (jV (ab (cC (.str "done")) (ab (cC (.str "fall")) aC))))))) (bL (dW (ah 5) (ah 7) (ah 9))
  (dW (ah 5) (cOp fN (ah 7) (cC (.int 1))) (ah 8))) dJ)))
def qO(bE bF cH ao bt eD fg bh aY bQ:Fn):CS:=
 (hU (cOr (aI (cOp qy (cCB eD (ab (ah 2) (ab (ah 9) aC))) (cC (.bl true)))) (aI (cOp (nY true) (cCB bt (ab (ah 9) aC)) (ah 11)))) (fO (cC (.bl false))) dJ)
def lY(bE bF cH ao bt eD fg bh aY bQ:Fn):CS:=
 (hU (aI (cCB bQ (ab (ah 2) (ab (ah 3) (ab (ah 4) (ab (cC (.bl true)) (ab (ah 13) aC))))))) (hU (cOr (z9 (aI (cCB bQ (ab (ah 2) (ab (ah 3) (ab (ah 5) (ab (cC (.bl true)) (ab (ah 13) aC)))))))) (z9 (aI (cCB bQ (ab (ah 2) (ab (ah 3) (ab (ah 10) (ab (cC (.bl true)) (ab (ah 13) aC))))))))) (fO (cC (.bl false))) dJ) dJ)
def z7(bE bF cH ao bt eD fg bh aY bQ:Fn):CS:=
 (bL (eR 2 (cCB bE (ab (ah 1) aC)))
  (bL (eR 3 (cCB bF (ab (ah 1) (ab (ah 2) aC))))
  (bL (eR 4 (cCB cH (ab (ah 1) (ab (ah 2) (ab (ah 3) (ab (cC (.int 4)) (ab (cC (.int 24)) aC)))))))
  (bL (eR 5 (cCB ud (ab (ah 4) aC)))
  (bL (kC (dQ (ab (cOp lW (cCB ao (ab (ah 1) (ab (cC (.int 20)) aC))) (cCB FW (ab (cOp fGt (cCB kB (ab (ah 4) aC)) (cC (.int 1))) aC))) aC)) (gNm 6) (kE bE bF cH ao bt eD fg bh aY bQ))
  (bL (eR 10 (bT (iTp (ah 4)) (gNm 0) (aI (cOp fEq (cOp fIx (ah 0) (cC (.int 0))) (cC (.str "begin")))) (ah 0) 1 []))
  (bL (eR 10 (cOp fN (ah 10) (bT (iTp (ah 4)) (gNm 0) (aI (cOp (fIn false) (cOp fIx (ah 0) (cC (.int 0))) (jV (ab (cC (.str "look")) (ab (cC (.str "put")) aC))))) (ah 0) 1 [])))
  (bL (eR 10 (cOp fN (ah 10) (bT (iTp (ah 4)) (gNm 0) (aI (cOp (fIn false) (cOp fIx (ah 0) (cC (.int 0))) (jV (ab (cC (.str "done")) (ab (cC (.str "fall")) aC))))) (ah 0) 1 [])))
  (bL (eR 11 (cCB bt (ab (ah 4) aC)))
  (bL (kC (iTp (iV (ab (ah 5) (ab (ah 10) aC)))) (gNm 9) (qO bE bF cH ao bt eD fg bh aY bQ))
  (bL (eR 12 (cCB fg (ab (ah 4) aC)))
  (bL (hU (cOr (aI (cOp (nY true) (bT (iTp (cCB fg (ab (ah 5) aC))) (gNm 0) (aI (cOp (vy true) (ah 0) (ah 1))) (ah 0) 1 [12]) (iV aC))) (aI (cOp (nY true) (cCB fg (ab (ah 10) aC)) (iV aC)))) (fO (cC (.bl false))) dJ)
  (bL (kC (iTp (cCB bh (ab (cCB aY (ab (ah 4) aC)) aC))) (gNm 13) (lY bE bF cH ao bt eD fg bh aY bQ))
  (fO (cC (.bl true))))))))))))))))
theorem L4{k:Nat}{bE bF cH ao bt eD fg bh aY bQ:Fn}{fa:Addr}{fd:FuncData}(F:Fun K "law" "law" oG fa fd)(B:Blt mg)(wZ:Has P w K mg base "_law_pen" k ["script"] (C5 K))(jL:d9 P w K mg base "_law_world" k ["pen"] bE)(jM:d9 P w K mg base "_law_state" k ["pen","world"] bF)(mi:d9 P w K mg base "_law_log" k ["pen","world","state","most","size"] cH)(aF:d9 P w K mg base "_law_take" k ["pen","many"] ao)(g8:d9 P w K mg base "_law_facts" k ["log"] bt)(qW:d9 P w K mg base "is_log" k ["world","thing"] eD)(oB:d9 P w K mg base "ahead" k ["log"] fg)(i7:d9 P w K mg base "_law_orders" k ["some"] bh)(gh:d9 P w K mg base "attempts" k ["log"] aY)(iL:d9 P w K mg base "is_order" k ["world","state","log","every","order"] bQ)
  (ok:∀(ns:List Int) (a c:Int),0<=a->0<=c->∃ρ' S',z7 bE bF cH ao bt eD fg bh aY bQ [none,some (.ref 1),none,none,none,none,none,none,none,none,none,none,none,none] [.lst (ns.map U.int),.lst [.ref 0,.int a,.int c]]=some (.rt (.bl true),ρ',S')):mY P w K mg base CX0 (k+1) fa fd ["script"] (A5 K):=by
 refine Fun.okW F C7 (fun vs H Q E h=>(by obtain⟨a,ns,rfl,_⟩:=h;rfl)) fun cdv A outer s H vs Q E hr h=>?_
 obtain⟨a,ns,rfl,hS,gK,q⟩:=h
 have hu:=dR hr
 have nd:=C7.nd
 refine⟨_,rp (u:=tS K (z7 bE bF cH ao bt eD fg bh aY bQ)) (xn (i:=1) nd rfl (by first|exact Or.inl rfl|exact Or.inr rfl) (CP wZ hr rfl (fq (wpv 0) kn))) (ay (bc (i:=2) nd rfl (by first|exact Or.inl rfl|exact Or.inr rfl) (aS jL hr rfl (ag (af (wpv 1)) aA)))
   (ay (bc (i:=3) nd rfl (by first|exact Or.inl rfl|exact Or.inr rfl) (aS jM hr rfl (ag (af (wpv 1)) (ag (af (wpv 2)) aA))))
   (ay (bc (i:=4) nd rfl (by first|exact Or.inl rfl|exact Or.inr rfl) (aS mi hr rfl (ag (af (wpv 1)) (ag (af (wpv 2)) (ag (af (wpv 3)) (ag (aD ar) (ag (aD ar) aA)))))))
   (ay (bc (i:=5) nd rfl (by first|exact Or.inl rfl|exact Or.inr rfl) (kX mD IV rfl B.list OG.lL (ag (af (wpv 4)) aA)))
   (ay (jv PassesOwn.never rfl (jx rfl B.range (ag (gM kZ qe (aS aF hr rfl (ag (af (wpv 1)) (ag (aD ar) aA))) (kX z6 LI rfl B.int OG.vH (ag (Be Fh LJ (cW mI mH rfl B.len PySem.boot_len (ag (af (wpv 4)) aA)) (aD ar) (bA _)) aA))) aA)) (bC (aK (i:=6) nd rfl (by first|exact Or.inl rfl|exact Or.inr rfl))) (ay (bc (i:=7) nd rfl (by first|exact Or.inl rfl|exact Or.inr rfl) (aS aF hr rfl (ag (af (wpv 1)) (ag (gM uX BB (cW mI mH rfl B.len PySem.boot_len (ag (af (wpv 4)) aA)) (aD ar)) aA))))
   (ay (Dc (Lu (af (wpv 5)) (pW (af (wpv 7))) (pW (gM iC iw (af (wpv 7)) (aD ar)))) (Ls rfl (fR (aK (i:=8) nd rfl (by first|exact Or.inl rfl|exact Or.inr rfl)) (fR (aK (i:=9) nd rfl (by first|exact Or.inl rfl|exact Or.inr rfl)) pX))))
   (aB (dP (yi (EJ (bD vZ Gy (cE hu (af (wpv 8)) (aD ar) (fun _ _=>rfl) (fun _ _=>rfl)) (cE hu (af (wpv 9)) (aD ar) (fun _ _=>rfl) (fun _ _=>rfl)) (bA _)) (yo (yi (Bc (bD vZ Gy (cE hu (af (wpv 8)) (aD ar) (fun _ _=>rfl) (fun _ _=>rfl)) (dF aX) (bA _)) (rM (uN hu (cE hu (af (wpv 9)) (aD ar) (fun _ _=>rfl) (fun _ _=>rfl)) (kx (ag (dF aX) (ag (dF aX) aA))) (by with_unfolding_all rfl)))))))) (ay (cf hu (af (wpv 5)) (af (wpv 7)) (af (wpv 9)))
   (aB (cf hu (af (wpv 5)) (gM iC iw (af (wpv 7)) (aD ar)) (af (wpv 8))))) cD)))))
   (ay (rL (Nc:=["event"]) (tn:=["event"]) (capN:=[]) (caps:=[]) rfl (eQ (af (wpv 4))) (fun _ _ _=>(bC (aK (i:=0) (show(["event"]:List Str).Nodup by decide +kernel) rfl (by first|exact Or.inl rfl|exact Or.inr rfl)))) (fun _ _ _=>(bD lh uU (cE hu (af (wpv 0)) (aD ar) (fun _ _=>rfl) (fun _ _=>rfl)) (dF aX) (bA _))) (fun _ _ _=>(af (wpv 0))) rfl rfl (by decide +kernel) (by decide +kernel) trivial rfl .nil rfl rfl nd rfl rfl rfl)
   (ay (bc (i:=10) nd rfl (by first|exact Or.inl rfl|exact Or.inr rfl) (gM iC iw (af (wpv 10)) (kW (Nc:=["event"]) (tn:=["event"]) (capN:=[]) (caps:=[]) rfl (eQ (af (wpv 4))) (fun _ _ _=>(bC (aK (i:=0) (show(["event"]:List Str).Nodup by decide +kernel) rfl (by first|exact Or.inl rfl|exact Or.inr rfl)))) (fun _ _ _=>(EE hu (cE hu (af (wpv 0)) (aD ar) (fun _ _=>rfl) (fun _ _=>rfl)) (kx (ag (dF aX) (ag (dF aX) aA))) (by with_unfolding_all rfl))) (fun _ _ _=>(af (wpv 0))) rfl rfl (by decide +kernel) (by decide +kernel) trivial rfl .nil rfl rfl)))
   (ay (bc (i:=10) nd rfl (by first|exact Or.inl rfl|exact Or.inr rfl) (gM iC iw (af (wpv 10)) (kW (Nc:=["event"]) (tn:=["event"]) (capN:=[]) (caps:=[]) rfl (eQ (af (wpv 4))) (fun _ _ _=>(bC (aK (i:=0) (show(["event"]:List Str).Nodup by decide +kernel) rfl (by first|exact Or.inl rfl|exact Or.inr rfl)))) (fun _ _ _=>(EE hu (cE hu (af (wpv 0)) (aD ar) (fun _ _=>rfl) (fun _ _=>rfl)) (kx (ag (dF aX) (ag (dF aX) aA))) (by with_unfolding_all rfl))) (fun _ _ _=>(af (wpv 0))) rfl rfl (by decide +kernel) (by decide +kernel) trivial rfl .nil rfl rfl)))
   (ay (bc (i:=11) nd rfl (by first|exact Or.inl rfl|exact Or.inr rfl) (aS g8 hr rfl (ag (af (wpv 4)) aA)))
   (ay (jv PassesOwn.never rfl (eQ (jd (ag (af (wpv 5)) (ag (af (wpv 10)) aA)))) (bC (aK (i:=9) nd rfl (by first|exact Or.inl rfl|exact Or.inr rfl))) (aB (dP (yi (Bc (bD tV BE (aS qW hr rfl (ag (af (wpv 2)) (ag (af (wpv 9)) aA))) (nA dc) (bA _)) (rM (bD (o9 hr.units) tQ (aS g8 hr rfl (ag (af (wpv 9)) aA)) (af (wpv 11)) (bA _))))) (aB (aW (nA dc))) cD)))
   (ay (bc (i:=12) nd rfl (by first|exact Or.inl rfl|exact Or.inr rfl) (aS oB hr rfl (ag (af (wpv 4)) aA)))
   (ay (dP (yi (Bc (bD (o9 hr.units) tQ (kW (Nc:=["pair","times"]) (tn:=["pair"]) (capN:=["times"]) (caps:=[12]) rfl (eQ (aS oB hr rfl (ag (af (wpv 5)) aA))) (fun _ _ _=>(bC (aK (i:=0) (show(["pair","times"]:List Str).Nodup by decide +kernel) rfl (by first|exact Or.inl rfl|exact Or.inr rfl)))) (fun _ _ _=>(bD (yE hr.units) Fd (af (wpv 0)) (af (wpv 1)) (by with_unfolding_all rfl))) (fun _ _ _=>(af (wpv 0))) rfl rfl (by decide +kernel) (by decide +kernel) ⟨rfl,trivial⟩ rfl (.cons ⟨rfl,rfl,rfl,_,rfl⟩ .nil) rfl rfl) (jd aA) (bA _)) (rM (bD (o9 hr.units) tQ (aS oB hr rfl (ag (af (wpv 10)) aA)) (jd aA) (bA _))))) (aB (aW (nA dc))) cD)
   (ay (jv PassesOwn.never rfl (eQ (aS i7 hr rfl (ag (aS gh hr rfl (ag (af (wpv 4)) aA)) aA))) (bC (aK (i:=13) nd rfl (by first|exact Or.inl rfl|exact Or.inr rfl))) (aB (dP (jb (aS iL hr rfl (ag (af (wpv 2)) (ag (af (wpv 3)) (ag (af (wpv 4)) (ag (nA dc) (ag (af (wpv 13)) aA))))))) (aB (dP (yi (Bc (kR (jb (aS iL hr rfl (ag (af (wpv 2)) (ag (af (wpv 3)) (ag (af (wpv 5)) (ag (nA dc) (ag (af (wpv 13)) aA)))))))) (rM (kR (jb (aS iL hr rfl (ag (af (wpv 2)) (ag (af (wpv 3)) (ag (af (wpv 10)) (ag (nA dc) (ag (af (wpv 13)) aA))))))))))) (aB (aW (nA dc))) cD)) cD)))
   (aB (aW (nA dc)))))))))))))))),?_⟩
 refine⟨_,rfl,a,ns,rfl,hS,fun p xs H1 s1 P1 n1=>?_⟩
 exact Fv P1 ok q
end
end OL
local macro_rules
 | `(tactic| rwa $s:rwRuleSeq) => do
  let ts : Array (Lean.TSyntax `term) := s.raw[1].getSepArgs.map fun r => ⟨r[1]⟩
  let us : Array (Lean.TSyntax `term) := (("Kn GG x_c rg jk jj i8 xf Hy CO Hx KA G5 DT KC Hb Hw Ea D9 Kz GZ GY Ha DU rj mj jn jm Ko GK KN Hf Gv vP AH uv GL GS CD GR GQ GP CM D5 GV GU AI CJ xl M9 KZ KY xh GO Hv CN Hu K1 K0 HA Hz Kt DS DR DQ Ks D4 KQ KR KS DP xg GN Hh Hi Hj Hg Le Kq M8 KO Mn Na K4 Hd Hn Hc K5 KD K3 K2 at0 at1 at2 at3 ix0 ix1 ix2 Option.bind_some List.getElem?_cons_zero List.getElem?_cons_succ List.set_cons_zero List.set_cons_succ List.length_cons List.length_nil List.map_cons List.map_nil decide_true decide_false Bool.not_true Bool.not_false Hm CL CK MT Kw Kv Ku He DY DX DW DZ KU KW KP Hk Mo Ht Hs Hr Ld Nb La K9 K8 K7 K6 Ho MX x_p MW MV MU Hq D8 D7 GH GI GJ D1 xk D3 CH ga ga0 gs gs0 Option.join_some Nat.add_zero List.cons_append List.nil_append List.append_assoc" : String).splitOn " ").toArray.map fun x => ⟨(Lean.mkIdent ((x.splitOn ".").foldl Lean.Name.str Lean.Name.anonymous)).raw⟩
  let vs:=ts++us
  `(tactic| simp only [$[$vs:term],*])
namespace OQ
open PySem PySem.Spec PyProof.Rows L2 OG OP
def pen(a c:Int):O:=.lst [.ref 0,.int a,.int c]
section
variable{S:Sto}{j k:Int}
theorem xj(h:-(2^64)<k/\k<2^64):lW (.int j) (.int k) S=some (.int (j*k),S):=DV (.inr h)
theorem rl(h:-(2^64)<j/\j<2^64):lW (.int j) (.int k) S=some (.int (j*k),S):=DV (.inl h)
theorem M7:lW (.int j) (.int 3) S=some (.int (j*3),S):=xj (by decide)
theorem KI:lW (.int 97) (.int k) S=some (.int (97*k),S):=rl (by decide)
theorem KJ:lW (.int 53) (.int k) S=some (.int (53*k),S):=rl (by decide)
theorem M6:lW (.int j) (.int 48271) S=some (.int (j*48271),S):=xj (by decide)
theorem M5:lW (.int 69621) (.int k) S=some (.int (69621*k),S):=rl (by decide)
theorem M4:lW (.int j) (.int 998244353) S=some (.int (j*998244353),S):=xj (by decide)
theorem KH:lW (.int (j % 2147483647)) (.int k) S=some (.int (j % 2147483647*k),S):=rl (by have:=Int.emod_nonneg j (show(2147483647:Int)≠0 by decide);have:=Int.emod_lt_of_pos j (show(0:Int)<2147483647 by decide);omega)
theorem KG:lW (.int (j % 1000000007)) (.int k) S=some (.int (j % 1000000007*k),S):=rl (by have:=Int.emod_nonneg j (show(1000000007:Int)≠0 by decide);have:=Int.emod_lt_of_pos j (show(0:Int)<1000000007 by decide);omega)
theorem M3:sv (.int j) (.int 998244353) S=some (.int (j % 998244353),S):=vO (by decide)
theorem M0:sv (.int j) (.int 2147483647) S=some (.int (j % 2147483647),S):=vO (by decide)
theorem MZ:sv (.int j) (.int 1000000007) S=some (.int (j % 1000000007),S):=vO (by decide)
theorem MY:sv (.int j) (.int 1000003) S=some (.int (j % 1000003),S):=vO (by decide)
theorem Lc:Cd (.int j) (.int 16) S=some (.int (j / 16),S):=D6 ⟨by decide,by decide +kernel⟩
theorem GX:GB (.int 10) (.int 18) S=some (.int 1000000000000000000,S):=Kx (j:=10) (k:=18) ⟨by decide,by decide,by decide⟩
theorem Lb:Cd (.int j) (.int 1000000000000000000) S=some (.int (j / 1000000000000000000),S):=D6 ⟨by decide,by decide +kernel⟩
theorem atU{ns:List Int}{k:Int}(h0:0<=k)(h1:k<(ns.length:Int)):∃v:Int,atI (ns.map U.int) k=some (.int v):=by
 have hk:k.toNat<ns.length:=by omega
 exact⟨ns[k.toNat],Ak h0 (by rw[List.getElem?_map,List.getElem?_eq_getElem hk];rfl)⟩
end
def d8:Fn:=fnU 8 2 fk
theorem dM(ns:List Int)(T:Sto){a c m:Int}(ha:0<=a)(hc:0<=c)(hm:0<m)(hb:m.natAbs.log2<9000) :
  ∃f a' c',d8 [.ref 1,.int m] (.lst (ns.map U.int)::pen a c::T)=some (.int f,.lst (ns.map U.int)::pen a' c'::T)/\0<=f/\f<m/\0<=a'/\0<=c':=by
 unfold d8
 rw[ug]
 have dm:∀{j:Int} {S:Sto},Cd (.int j) (.int m) S=some (.int (j / m),S):=D6 ⟨hm,hb⟩
 have mm:∀{j:Int} {S:Sto},sv (.int j) (.int m) S=some (.int (j % m),S):=vO hm
 have fin:∀{a' c':Int},0<=a'->0<=c'->0<=c' % m/\c' % m<m/\0<=a'/\0<=c' / m:=fun h1 h2=>⟨Int.emod_nonneg _ (by omega),Int.emod_lt_of_pos _ hm,h1,Int.ediv_nonneg h2 (by omega)⟩
 by_cases c0:c=0
 ·subst c0
  have cell : ∃ z : Int, (hU (aI (cOp fLt (ah 2) (cCB kB (ab (cOp fIx (ah 0) (cC (U.int 0))) aC))))
              (eR 3 (cOp fIx (cOp fIx (ah 0) (cC (U.int 0))) (ah 2)))
              (hU
               (aI (cOp fGt (cCB kB (ab (cOp fIx (ah 0) (cC (U.int 0))) aC)) (cC (U.int 0))))
               (eR 3
                (cOp fN
                 (cOp sv
                  (cOp fIx (cOp fIx (ah 0) (cC (U.int 0)))
                   (cOp sv (cOp lW (ah 2) (cC (U.int 3)))
                    (cCB kB (ab (cOp fIx (ah 0) (cC (U.int 0))) aC))))
                  (cC (U.int 1000003)))
                 (cOp lW (cC (U.int 97)) (ah 2))))
               dJ)) [some (.ref 1),some (.int m),some (.int a),some (.int 0),none,none,none,none] (O.lst (ns.map U.int)::.lst [.ref 0,.int (a+1),.int 0]::T)=some (.nx,[some (.ref 1),some (.int m),some (.int a),some (.int z),none,none,none,none],O.lst (ns.map U.int)::.lst [.ref 0,.int (a+1),.int 0]::T):=by
   by_cases h1:a<(ns.length:Int)
   ·obtain⟨z,hz⟩:=atU ha h1
    exact⟨z,by rwa[hz,h1,List.length_map]⟩
   ·by_cases h2:(0:Int)<(ns.length:Int)
    ·obtain⟨z,hz⟩:=atU (ns:=ns) (k:=a*3 % (ns.length:Int)) (Int.emod_nonneg _ (by omega)) (Int.emod_lt_of_pos _ h2)
     exact⟨z % 1000003+97*a,by rwa[h1,h2,M7,vO h2,hz,MY,KI,List.length_map]⟩
    ·exact⟨0,by rwa[h1,h2,List.length_map]⟩
  obtain⟨z,hz⟩:=cell
  rwa[fk,pen,hz,M3,M0,MZ,KJ,M6,M5,M4,KH,KG,Lc,GX]
  by_cases h3:(1000000000000000000:Int)<=z
  ·rwa[h3,GX,Lb,mm,dm]
   exact⟨_,_,_,rfl,fin (by omega) (Int.ediv_nonneg (by omega) (by omega))⟩
  ·rwa[h3,mm,dm]
   refine⟨_,_,_,rfl,fin (by omega) ?_⟩
   exact Int.add_nonneg (Int.ediv_nonneg (Int.add_nonneg (Int.mul_nonneg (Int.emod_nonneg _ (by decide)) (by decide)) (Int.emod_nonneg _ (by decide))) (by decide)) (by decide)
 ·rwa[fk,pen,c0,mm,dm]
  exact⟨_,_,_,rfl,fin ha hc⟩
theorem l9{m:Int}(h0:0<=m)(h:m<2^60):m.natAbs.log2<9000:=yW h0 h
abbrev scr(ns:List Int):O:=.lst (ns.map U.int)
theorem Lz{f g:Int}(g0:0<=g)(g1:g<999)(f0:0<=f)(f1:f<5):∃v:Int,atI [U.int 2,U.int 3,U.int 5,U.int 10,U.int (2+g)] f=some (.int v)/\2<=v/\v<=1000:=by
 have:f=0\/f=1\/f=2\/f=3\/f=4:=by omega
 rcases this with rfl|rfl|rfl|rfl|rfl
 ·exact⟨2,rfl,by omega,by omega⟩
 ·exact⟨3,rfl,by omega,by omega⟩
 ·exact⟨5,rfl,by omega,by omega⟩
 ·exact⟨10,rfl,by omega,by omega⟩
 ·exact⟨2+g,rfl,by omega,by omega⟩
def uq:Fn:=fnU 1 1 (fF d8)
theorem AV(ns:List Int)(T:Sto){a c:Int}(ha:0<=a)(hc:0<=c) :
  ∃n w a' c' G,uq [.ref 1] (scr ns::pen a c::T)=some (.tup [.int n,.int w],scr ns::pen a' c'::(T++G))/\1<=n/\n<=6/\2<=w/\w<=1000/\0<=a'/\0<=c':=by
 unfold uq
 rw[sC]
 obtain⟨f1,a1,c1,h1,p1,q1,ha1,hc1⟩:=dM ns T (m:=6) ha hc (by decide) (by decide +kernel)
 obtain⟨f2,a2,c2,h2,p2,q2,ha2,hc2⟩:=dM ns T (m:=999) ha1 hc1 (by decide) (by decide +kernel)
 obtain⟨f3,a3,c3,h3,p3,q3,ha3,hc3⟩:=dM ns (T++[.lst [.int 2,.int 3,.int 5,.int 10,.int (2+f2)]]) (m:=5) ha2 hc2 (by decide) (by decide +kernel)
 obtain⟨v,hv,v0,v1⟩:=Lz p2 q2 p3 q3
 refine⟨1+f1,v,a3,c3,[.lst [.int 2,.int 3,.int 5,.int 10,.int (2+f2)]],?_,by omega,by omega,v0,v1,ha3,hc3⟩
 rwa[fF,h1,h2,h3,hv]
def ur:Fn:=fnU 2 2 (fG d8)
theorem xW(ns:List Int)(T:Sto){n w:Int}(w0:2<=w)(w1:w<=1000):∀(us:List U) (r:Option U) (ys:List Int) {a c:Int},0<=a->0<=c->ys.length+us.length<=1000->
  ∃zs a' c',iT (fun _=>True) (gNm 0) (cCB d8 (ab (ah 1) (ab (cOp fIx (ah 2) (cC (.int 1))) aC))) (T.length+1+1) us [r,some (.ref 1),some (.tup [.int n,.int w])] (scr ns::pen a c::(T++[.lst (ys.map U.int)]))
   = some (scr ns::pen a' c'::(T++[.lst ((ys++zs).map U.int)]))/\zs.length=us.length/\(∀z∈zs,0<=z/\z<w)/\0<=a'/\0<=c'
 |[],r,ys,a,c,ha,hc,hl=>⟨[],a,c,by simp[iT],rfl,by simp,ha,hc⟩
 |u::us,r,ys,a,c,ha,hc,hl=>by
  obtain⟨f,a1,c1,h1,p1,q1,ha1,hc1⟩:=dM ns (T++[.lst (ys.map U.int)]) (m:=w) ha hc (by omega) (l9 (by omega) (by omega))
  obtain⟨zs,a2,c2,h2,e2,b2,ha2,hc2⟩:=xW ns T (n:=n) w0 w1 us (some u) (ys++[f]) ha1 hc1 (by simp at hl ⊢;omega)
  refine⟨f::zs,a2,c2,?_,by simp[e2],fun z hz=>?_,ha2,hc2⟩
  ·have gK:(ys.map U.int).length<LIM:=by unfold LIM;simp at hl ⊢;omega
   unfold iT
   rwa[h1,if_true,gK]
   rw[List.map_append]at h2
   simp only[List.map_cons,List.map_nil]at h2
   rw[h2]
   simp
  ·rcases List.mem_cons.mp hz with rfl|hz
   ·exact⟨p1,q1⟩
   ·exact b2 z hz
theorem A3(ns:List Int)(T:Sto){a c n w:Int}(ha:0<=a)(hc:0<=c)(n0:1<=n)(n1:n<=6)(w0:2<=w)(w1:w<=1000) :
  ∃(zs:List Int) (a' c':Int) (G:Sto),ur [.ref 1,.tup [.int n,.int w]] (scr ns::pen a c::T)=some (.tup (zs.map U.int),scr ns::pen a' c'::(T++G))/\zs.length=n.toNat/\(∀z∈zs,0<=z/\z<w)/\0<=a'/\0<=c':=by
 unfold ur
 rw[sD]
 obtain⟨zs,a',c',h,e,b,ha',hc'⟩:=xW ns T (n:=n) w0 w1 (dv 0 n.toNat) none [] ha hc (by simp[dv];omega)
 refine⟨zs,a',c',[.lst (zs.map U.int)],?_,by rw[e];simp[dv],b,ha',hc'⟩
 have hr:-(2^62)<=n/\n<2^62:=by omega
 simp only[List.map_nil,List.nil_append]at h
 rwa[fG,fT,dQ,mQ,hr,h,if_true,and_self,List.replicate,Option.getD_some]
def Mg(lk:List Int)(b:Int):List Int:=if b∈lk then lk else lk++[b]
def jU(ps:List (Int×Int)):List (Key×U):=ps.map fun p=>(.inl p.1,.int p.2)
theorem iN(b:Int):∀ps:List (Int×Int),aP (jU ps) (.inl b)=(aP ps b).map U.int
 |[]=>rfl
 |(k,v)::r=>by
  have ih:=iN b r
  unfold aP jU at ih ⊢
  simp only[List.map_cons,List.find?_cons]
  by_cases e:k=b
  ·subst e;simp
  ·rw[decide_eq_false (fun z:(Sum.inl k:Key)=Sum.inl b=>e (Sum.inl.inj z)),decide_eq_false e]
   exact ih
theorem Cw(b:Int)(ps:List (Int×Int)):((jU ps).any fun kv=>decide (kv.1=Sum.inl b))=ps.any fun kv=>decide (kv.1=b):=by
 unfold jU
 induction ps with
 |nil=>rfl
 |cons p r ih=>
  simp only[List.map_cons,List.any_cons,ih]
  by_cases e:p.1=b
  ·rw[decide_eq_true e,decide_eq_true (by rw[e])]
  ·rw[decide_eq_false e,decide_eq_false (fun z:(Sum.inl p.1:Key)=Sum.inl b=>e (Sum.inl.inj z))]
theorem pY(b v:Int)(ps:List (Int×Int)):ik (jU ps) (.inl b) (.int v)=jU (ik ps b v):=by
 unfold ik
 rw[Cw]
 split
 ·unfold jU
  rw[List.map_map,List.map_map]
  refine List.map_congr_left fun p _=>?_
  simp only[Function.comp]
  by_cases e:p.1=b
  ·simp[e]
  ·rw[if_neg e,if_neg (fun z:(Sum.inl p.1:Key)=Sum.inl b=>e (Sum.inl.inj z))]
 ·simp[jU]
theorem mR{κ α:Type}[DecidableEq κ](ps:List (κ×α))(b:κ)(v:α):(ik ps b v).length<=ps.length+1:=by
 unfold ik;split<;>simp
theorem atF{first:List Int}{b n:Int}(l:first.length=n.toNat)(h0:0<=b)(h1:b<n):atI (first.map U.int) b=some (.int (first.getD b.toNat 0)):=by
 have hk:b.toNat<first.length:=by omega
 refine Ak h0 ?_
 rw[List.getElem?_map,List.getElem?_eq_getElem hk,List.getD_eq_getElem?_getD,List.getElem?_eq_getElem hk];rfl
theorem few:∀(n:Nat) (l:List Int),l.Nodup->(∀k∈l,0<=k/\k<n)->l.length<=n
 |0,l,_,h=>by
  cases l with
  |nil=>simp
  |cons a r=>have:=h a (by simp);omega
 |n+1,l,nd,h=>by
  have ih:=few n (l.erase (n:Int)) (nd.erase _) fun k hk=>by
   have h1:=h k (List.mem_of_mem_erase hk)
   have h2:k≠(n:Int):=fun z=>by subst z;exact(nd.not_mem_erase) hk
   omega
  rw[List.length_erase]at ih
  split at ih<;>omega
theorem yq(b v:Int)(ps:List (Int×Int)):(ik ps b v).map (·.1)=Mg (ps.map (·.1)) b:=by
 have ha:(ps.any fun kv=>decide (kv.1=b))=decide (b∈ps.map (·.1)):=by
  induction ps with
  |nil=>rfl
  |cons p r ih=>
   simp only[List.any_cons,ih,List.map_cons]
   by_cases e:p.1=b
   ·simp[e]
   ·simp[e,Ne.symm e]
 unfold ik Mg
 rw[ha]
 by_cases c:b∈ps.map (·.1)
 ·rw[if_pos (decide_eq_true c),if_pos c,List.map_map]
  refine List.map_congr_left fun p _=>?_
  simp only[Function.comp]
  split<;>rfl
 ·rw[if_neg (by simpa using c),if_neg c]
  simp
theorem dw{α:Type}{l:List α}{k:Nat}{x:α}(h:l[k]?=some x):k<l.length:=(List.getElem?_eq_some_iff.mp h).1
theorem ak{α:Type}{l r:List α}{k:Nat}{x:α}(h:l[k]?=some x):(l++r)[k]?=some x:=by rw[List.getElem?_append_left (dw h)];exact h
def beh(first:List Int)(ps:List (Int×Int))(k:Nat):List Int:=(first.zipIdx k).map fun p=>(aP ps (p.2:Int)).getD p.1
theorem JJ{ls:List Nat}{S0 S':Sto}(len:S0.length<=S'.length)(old:∀l,l<S0.length->S'[l]?=S0[l]?):∃G,S'=S0++G:=by
 refine⟨S'.drop S0.length,List.ext_getElem? fun l=>?_⟩
 by_cases c:l<S0.length
 ·rw[old l c,List.getElem?_append_left c]
 ·rw[List.getElem?_append_right (by omega),List.getElem?_drop];congr 1;omega
theorem Ai(first:List Int)(ps:List (Int×Int))(k:Nat):(beh first ps k).length=first.length:=by simp[beh]
def pU(p:Int×Int):U:=.tup [.int p.1,.int p.2]
theorem pB{ok:Sto->Prop}{g:CG}{ct:CT}{ce:CE}{l:Nat}{ρ:Rho}{S:Sto}(h:ok S):cQ ok g ct ce l [] ρ S=some S:=by rw[cQ,if_pos h]
theorem sM{ok:Sto->Prop}{g:CG}{ct:CT}{ce:CE}{l:Nat}{ρ ρ0:Rho}{S S0 S1:Sto}{u:U}{us:List U}(h:ok S)(hg:g u ρ S=some (ρ0,S0))(ht:ct ρ0 S0=some (false,S1)):cQ ok g ct ce l (u::us) ρ S=cQ ok g ct ce l us ρ0 S1:=by
 rw[cQ,if_pos h,hg,Option.bind_some,ht,Option.bind_some,if_neg Bool.false_ne_true]
theorem pA{ok:Sto->Prop}{g:CG}{ct:CT}{ce:CE}{l:Nat}{ρ ρ0:Rho}{S S0 S1 S2:Sto}{u x:U}{us ys:List U}(h:ok S)(hg:g u ρ S=some (ρ0,S0))(ht:ct ρ0 S0=some (true,S1))(he:ce ρ0 S1=some (x,S2))(hl:S2[l]?=some (.lst ys))(hn:ys.length<LIM) :
  cQ ok g ct ce l (u::us) ρ S=cQ ok g ct ce l us ρ0 (S2.set l (.lst (ys++[x]))):=by
 rw[cQ,if_pos h,hg,Option.bind_some,ht,Option.bind_some,if_pos rfl,he,Option.bind_some]
 simp only[hl,hn,if_true]
def Lay(k:Nat)(S:Sto)(u:U):Prop:=∃d,Dt S u d/\d.canLay0=true/\d.depth<=k
def j6(k:Nat)(S:Sto)(u v:U):Prop:=∃d,Dt S u d/\Dt S v d/\d.canLay0=true/\d.depth<=k
def iK(k:Nat)(S:Sto)(us vs:List U):Prop:=∃ds,DtL S us ds/\DtL S vs ds/\PyData.canLayAll0 ds=true/\PyData.depthAll ds<=k
section
variable{k j:Nat}{S:Sto}{u v:U}{us vs:List U}
theorem Lay.int{i:Int}:Lay k S (.int i):=⟨_,.int i,rfl,Nat.zero_le _⟩
theorem Lay.str{x:Str}(h:PyData.strOk x=true):Lay k S (.str x):=⟨_,.str x,h,Nat.zero_le _⟩
theorem j6.refl(h:Lay k S u):j6 k S u u:=by obtain⟨d,a,b,c⟩:=h;exact⟨d,a,a,b,c⟩
theorem iK.nil:iK k S [] []:=⟨[],.nil,.nil,rfl,Nat.zero_le _⟩
theorem iK.cons(h:j6 k S u v)(t:iK k S us vs):iK k S (u::us) (v::vs):=by
 obtain⟨d,a,b,c,e⟩:=h
 obtain⟨ds,a',b',c',e'⟩:=t
 refine⟨d::ds,.cons a a',.cons b b',by unfold PyData.canLayAll0;rw[c,c'];rfl,?_⟩
 unfold PyData.depthAll
 exact Nat.max_le.mpr ⟨e,e'⟩
theorem iK.all:∀{us:List U},(∀u∈us,Lay k S u)->iK k S us us
 |[],_=>.nil
 |u::us,h=>.cons (.refl (h u List.mem_cons_self)) (iK.all fun x hx=>h x (List.mem_cons_of_mem _ hx))
theorem j6.tup(h:iK k S us vs):j6 (k+1) S (.tup us) (.tup vs):=by
 obtain⟨ds,a,b,c,e⟩:=h
 refine⟨.tuple ds,.tup a,.tup b,by unfold PyData.canLay0;exact c,?_⟩
 unfold PyData.depth
 omega
theorem j6.lst{l l':Nat}(h1:S[l]?=some (.lst us))(h2:S[l']?=some (.lst vs))(h:iK k S us vs):j6 (k+1) S (.ref l) (.ref l'):=by
 obtain⟨ds,a,b,c,e⟩:=h
 refine⟨.list ds,.lst h1 a,.lst h2 b,by unfold PyData.canLay0;exact c,?_⟩
 unfold PyData.depth
 omega
theorem Lay.tup(h:∀u∈us,Lay k S u):Lay (k+1) S (.tup us):=by
 obtain⟨d,a,_,b,c⟩:=j6.tup (iK.all h)
 exact⟨d,a,b,c⟩
theorem j6.ne(h:j6 k S u v)(hk:k<=60):nY true u v S=some (.bl false,S):=by
 obtain⟨d,a,b,c,e⟩:=h
 exact qz true (.inl ⟨d,d,a,b,⟨c,Nat.le_trans e hk⟩,⟨c,Nat.le_trans e hk⟩,(SeqAt.eqv_refl d c).symm⟩)
end
section
variable{S:Sto}{l l':Nat}{us:List U}{u:U}{i:Int}
def vf(l:Nat)(i:Int)(S:Sto):Option O->Option (U×Sto)
 |some (.lst us)=>if 0<=i/\i<us.length/\us.length<=LIM then(us[i.toNat]?).bind fun u=>some (u,S.set l (.lst (us.eraseIdx i.toNat)))else none
 |_=>none
theorem tq:mB (.ref l) [.int i] S=vf l i S S[l]?:=by
 unfold mB vf;rfl
theorem pH(h0:0<=i)(h1:i<us.length)(hL:us.length<=LIM)(hu:us[i.toNat]?=some u):vf l i S (some (.lst us))=some (u,S.set l (.lst (us.eraseIdx i.toNat))):=by
 simp only[vf]
 rw[if_pos ⟨h0,h1,hL⟩,hu,Option.bind_some]
def Kg(l:Nat)(S:Sto):Option O->Option (U×Sto)
 |some (.lst us)=>(us[us.length-1]?).bind fun u=>some (u,S.set l (.lst us.dropLast))
 |_=>none
theorem Ky:FV (.ref l) [] S=Kg l S S[l]?:=by
 unfold FV Kg;rfl
theorem GW{vs:List U}:Kg l S (some (.lst (vs++[u])))=some (u,S.set l (.lst vs)):=by
 unfold Kg
 simp
def kNg:U×Sto->Option (U×Sto)
 |(.int i,S)=>some (.int (-i),S)
 |_=>none
theorem xi{ca:CE}{ρ:Rho}:uj ca ρ S=(ca ρ S).bind kNg:=by
 unfold uj
 congr 1
 funext p
 obtain⟨x,S⟩:=p
 cases x<;>rfl
theorem rk:kNg (.int i,S)=some (.int (-i),S):=rfl
theorem ow{vs:List U}:atI (vs++[u]) (-1)=some u:=by
 unfold atI ixN
 rw[if_neg (by omega),if_pos (by rw[List.length_append,List.length_singleton];omega)]
 simp only[Option.bind_some]
 have e:((-1:Int)+((vs++[u]).length:Int)).toNat=vs.length:=by rw[List.length_append,List.length_singleton];omega
 rw[e]
 simp
theorem rR(neg:Bool)(h:S[l]?=some (.lst us))(h':S[l']?=some (.lst [])):nY neg (.ref l) (.ref l') S=some (.bl (if neg then !decide (us=[])else decide (us=[])),S):=by
 by_cases e:us=[]
 ·subst e
  have k:=(j6.lst (k:=0) h h' .nil)
  obtain⟨d,a,b,c,e⟩:=k
  rw[decide_eq_true rfl]
  exact qz neg (.inl ⟨d,d,a,b,⟨c,Nat.le_trans e (by omega)⟩,⟨c,Nat.le_trans e (by omega)⟩,(SeqAt.eqv_refl d c).symm⟩)
 ·rw[decide_eq_false e]
  exact qz neg (.inr ⟨l,l',us,[],rfl,rfl,h,h',by simpa using e,rfl⟩)
end
theorem pw{α:Type}{l:List α}{k:Nat}(h:k<l.length):(l[k]::l.eraseIdx k).Perm l:=by
 rw[List.eraseIdx_eq_take_drop_succ]
 refine(List.perm_middle.symm).trans ?_
 rw[List.getElem_cons_drop h,List.take_append_drop]
theorem nH{α β:Type}(f:α->β)(l:List α)(k:Nat):(l.eraseIdx k).map f=(l.map f).eraseIdx k:=by
 rw[List.eraseIdx_eq_take_drop_succ,List.eraseIdx_eq_take_drop_succ,List.map_append,List.map_take,List.map_drop]
def md:Fn:=fnU 5 2 (fH d8)
theorem pf(ns:List Int)(T:Sto){x1:Option U}:∀(us:List U) (r4:Option U) (left found:List Int) {a c:Int},0<=a->0<=c->left.length+found.length=200->us.length+found.length<=100->(found++left).Nodup->(∀x∈found++left,0<=x/\x<200)->
  ∃(r4':Option U) (left' found':List Int) (a' c':Int),eA (fun _=>True) (gNm 4) (ie d8) us [some (.ref 1),x1,some (.ref (T.length+1+1)),some (.ref (T.length+1+1+1)),r4] (scr ns::pen a c::(T++[.lst (left.map U.int),.lst (found.map U.int)]))
   = some (.nx,[some (.ref 1),x1,some (.ref (T.length+1+1)),some (.ref (T.length+1+1+1)),r4'],scr ns::pen a' c'::(T++[.lst (left'.map U.int),.lst (found'.map U.int)]))/\found'.length=found.length+us.length/\found'.Nodup/\(∀x∈found',0<=x/\x<200)/\0<=a'/\0<=c'
 |[],r4,left,found,a,c,ha,hc,hl,hu,hd,hb=>⟨r4,left,found,a,c,cX trivial,by simp,(List.nodup_append.mp hd).1,fun x hx=>hb x (List.mem_append_left _ hx),ha,hc⟩
 |u::us,r4,left,found,a,c,ha,hc,hl,hu,hd,hb=>by
  simp only[List.length_cons]at hu
  obtain⟨f,a1,c1,e1,p1,q1,ha1,hc1⟩:=dM ns (T++[.lst (left.map U.int),.lst (found.map U.int)]) (m:=(left.length:Int)) ha hc (by omega) (l9 (by omega) (by omega))
  have hk:f.toNat<left.length:=by omega
  have hp:(found++[left[f.toNat]]++left.eraseIdx f.toNat).Perm (found++left):=by
   rw[List.append_assoc]
   refine List.Perm.append_left _ ?_
   exact pw hk
  obtain⟨r4',left',found',a',c',ih,k1,k2⟩:=pf ns T (x1:=x1) us (some u) (left.eraseIdx f.toNat) (found++[left[f.toNat]]) ha1 hc1 (by rw[List.length_eraseIdx_of_lt hk,List.length_append,List.length_singleton];omega) (by rw[List.length_append,List.length_singleton];omega) (hp.nodup_iff.mpr hd) (fun x hx=>hb x (hp.mem_iff.mp hx))
  refine⟨r4',left',found',a',c',(eC trivial rfl ?_).trans ih,by rw[k1,List.length_append,List.length_singleton,List.length_cons];omega,k2⟩
  have hg:(left.map U.int)[f.toNat]?=some (.int left[f.toNat]):=by rw[List.getElem?_map,List.getElem?_eq_getElem hk];rfl
  have h1:(left.map U.int).length<=LIM:=by unfold LIM;rw[List.length_map];omega
  have h2:(found.map U.int).length<LIM:=by unfold LIM;rw[List.length_map];omega
  rwa[ie,e1,tq,pH p1 (show f<((left.map U.int).length:Int)by rw[List.length_map];exact q1) h1 hg,rm h2,List.length_map]
  rw[List.map_append,nH]
  rfl
theorem ya(n:Nat):dv 0 n=((List.range n).map fun i:Nat=>(i:Int)).map U.int:=by
 unfold dv
 rw[List.map_map]
 refine List.map_congr_left fun i _=>?_
 simp
theorem BN(ns:List Int)(T:Sto){a c m:Int}(ha:0<=a)(hc:0<=c)(m0:0<=m)(m1:m<=100) :
  ∃(left names:List Int) (a' c':Int),md [.ref 1,.int m] (scr ns::pen a c::T)=some (.ref (T.length+1+1+1),scr ns::pen a' c'::(T++[.lst (left.map U.int),.lst (names.map U.int)]))/\names.length=m.toNat/\names.Nodup/\(∀x∈names,0<=x/\x<200)/\0<=a'/\0<=c':=by
 unfold md
 rw[sE]
 have hL:(((List.range 200).map fun i:Nat=>(i:Int))).Nodup:=List.Pairwise.map _ (fun a b h e=>h (by omega)) List.nodup_range
 obtain⟨r4,left,names,a',c',e,k1,k2,k3,k4,k5⟩:=pf ns T (x1:=some (.int m)) (dv 0 m.toNat) none ((List.range 200).map fun i:Nat=>(i:Int)) [] ha hc (by simp) (by simp[dv];omega) (by rw[List.nil_append];exact hL) (fun x hx=>by
  rw[List.nil_append]at hx
  obtain⟨i,hi,rfl⟩:=List.mem_map.mp hx
  have:=List.mem_range.mp hi
  omega)
 refine⟨left,names,a',c',?_,by rw[k1];simp[dv],k2,k3,k4,k5⟩
 have hr:-(2^62)<=m/\m<2^62:=by omega
 have hR:lX (ab (cC (.int 200)) aC) [some (.ref 1),some (.int m),none,none,none] (scr ns::pen a c::T)=some (.ref (T.length+1+1),scr ns::pen a c::(T++[.lst (((List.range 200).map fun i:Nat=>(i:Int)).map U.int)])):=by
  rw[<-ya]
  rfl
 simp only[List.map_nil]at e
 rwa[fH,hR,kC,dQ,hr,if_true,and_self,List.length_append,e]
inductive Ev where
 |beg (a:Int)|look (a b x:Int)|put (a b x:Int)|fin (d:Bool) (a:Int)
def px(d:Bool):Str:=if d then "done" else "fall"
def Ev.u:Ev->U
 |.beg a=>.tup [.str "begin",.int a]
 |.look a b x=>.tup [.str "look",.int a,.int b,.int x]
 |.put a b x=>.tup [.str "put",.int a,.int b,.int x]
 |.fin d a=>.tup [.str (px d),.int a]
structure Att where
 en:Option Bool
 lk:List (Int×Int)
 nd:List (Int×Int)
 ps:List (Int×Int)
 bf:List Int
abbrev St:=List (Int×Att)
def oR(st:St):Att:=⟨none,[],[],[],(st.filter fun p=>p.2.en.isSome).map (·.1)⟩
def xa(nd:List (Int×Int))(p:Int×Int):List (Int×Int):=if p∈nd then nd else nd++[p]
def Att.ev(t:Att):Ev->Att
 |.beg _=>t
 |.look _ b x=>if (aP t.ps b).isSome then t else { t with lk:=t.lk++[(b,x)],nd:=xa t.nd (b,x) }
 |.put _ b x=>{ t with ps:=ik t.ps b x }
 |.fin d _=>{ t with en:=some d }
def Ev.at:Ev->Int
 |.beg a=>a|.look a _ _=>a|.put a _ _=>a|.fin _ a=>a
def Az(st:St)(a:Int)(f:Att->Att):St:=st.map fun p=>if p.1=a then(p.1,f p.2)else p
def stp(st:St):Ev->St
 |.beg a=>st++[(a,oR st)]
 |e=>Az st e.at fun t=>t.ev e
def ax(st:St):List Int:=st.map (·.1)
def mF(n w:Int)(st:St):Ev->Prop
 |.beg a=>0<=a/\a<200/\a∉ax st
 |.look a b x=>(0<=b/\b<n/\0<=x/\x<w)/\∃t,aP st a=some t/\t.en=none/\(∀y,aP t.ps b=some y->y=x)
 |.put a b x=>(0<=b/\b<n/\0<=x/\x<w)/\∃t,aP st a=some t/\t.en=none
 |.fin _ a=>∃t,aP st a=some t/\t.en=none
def jJ(n w:Int):St->List Ev->Prop
 |_,[]=>True
 |st,e::r=>mF n w st e/\jJ n w (stp st e) r
def aU(st:St)(es:List Ev):St:=es.foldl stp st
theorem nK{n w:Int}{e:Ev}:∀{es:List Ev} {st:St},jJ n w st (es++[e])↔jJ n w st es/\mF n w (aU st es) e
 |[],st=>by simp[jJ,aU]
 |x::es,st=>by
  have ih:=nK (n:=n) (w:=w) (e:=e) (es:=es) (st:=stp st x)
  simp only[List.cons_append,jJ,aU,List.foldl_cons]at ih ⊢
  rw[ih,and_assoc]
theorem bY{st:St}{es:List Ev}{e:Ev}:aU st (es++[e])=stp (aU st es) e:=by
 unfold aU;rw[List.foldl_append];rfl
theorem kI{κ α:Type}[DecidableEq κ]{ps:List (κ×α)}{k:κ}{v:α}(h:aP ps k=some v):(k,v)∈ps:=by
 unfold aP at h
 obtain⟨p,hp,rfl⟩:=Option.map_eq_some_iff.mp h
 have:=List.find?_some hp
 have e:p.1=k:=by simpa using this
 subst e
 exact List.mem_of_find?_eq_some hp
theorem cq{κ α:Type}[DecidableEq κ]{ps:List (κ×α)}{k:κ}:aP ps k=none↔k∉ps.map (·.1):=by
 unfold aP
 rw[Option.map_eq_none_iff,List.find?_eq_none]
 simp only[decide_eq_true_eq,List.mem_map,not_exists,not_and]
theorem y2{st:St}{a:Int}{f:Att->Att}:ax (Az st a f)=ax st:=by
 unfold ax Az
 rw[List.map_map]
 refine List.map_congr_left fun p _=>?_
 simp only[Function.comp]
 split<;>rfl
theorem uD{st:St}{a:Int}{f:Att->Att}{b:Int}:aP (Az st a f) b=if b=a then(aP st b).map f else aP st b:=by
 unfold aP Az
 induction st with
 |nil=>simp
 |cons p r ih=>
  simp only[List.map_cons,List.find?_cons]
  by_cases e:p.1=b
  ·subst e
   by_cases e2:p.1=a
   ·subst e2;simp
   ·simp[e2]
  ·have e3:(if p.1=a then(p.1,f p.2)else p).1=p.1:=by split<;>rfl
   rw[e3,decide_eq_false e]
   exact ih
theorem kJ{κ α:Type}[DecidableEq κ]{ps qs:List (κ×α)}{k:κ}:aP (ps++qs) k=(aP ps k).or (aP qs k):=by
 unfold aP
 rw[List.find?_append]
 cases List.find? (fun kv=>decide (kv.1=k)) ps<;>simp
theorem lz{st:St}{e:Ev}:ax (stp st e)=match e with
  |.beg a=>ax st++[a]
  |_=>ax st:=by
 cases e with
 |beg a=>simp[stp,ax]
 |_=>simp only[stp,y2]
theorem bB{st:St}{e:Ev}{b:Int}(h:b≠e.at):aP (stp st e) b=aP st b:=by
 cases e with
 |beg a=>
  have h':a≠b:=Ne.symm h
  simp[stp,kJ]
  cases aP st b with
  |some t=>rfl
  |none=>simp[aP,h']
 |_=>simp only[stp,uD,if_neg h]
theorem aZ{st:St}{e:Ev}{t:Att}(h:aP st e.at=some t):aP (stp st e) e.at=some (t.ev e):=by
 cases e with
 |beg a=>simp only[stp,kJ,Ev.at]at h ⊢;rw[h];rfl
 |_=>simp only[stp,uD,if_pos];rw[h];rfl
theorem dg{st:St}{a:Int}(h:a∉ax st):aP (stp st (.beg a)) a=some (oR st):=by
 simp only[stp,kJ]
 rw[cq.mpr h]
 simp[aP]
theorem gy{n w:Int}{st:St}{e:Ev}(h:(ax st).Nodup)(ok:mF n w st e):(ax (stp st e)).Nodup:=by
 rw[lz]
 cases e with
 |beg a=>
  refine List.nodup_append.mpr ⟨h,by simp,fun x hx y hy e=>?_⟩
  simp at hy
  subst hy;subst e
  exact ok.2.2 hx
 |_=>exact h
def kG:Fn:=fnU 9 6 (dz d8)
theorem Ce(ns:List Int)(T:Sto){a c n w at_:Int}{seen now:List Int}{r:Nat}{ps:List (Int×Int)}(ha:0<=a)(hc:0<=c)(n0:1<=n)(n1:n<=6)(w0:2<=w)(w1:w<=1000)(hr:T[r]?=some (.dic (jU ps)))(hs:seen.length=n.toNat)(bs:∀z∈seen,0<=z/\z<w)(hn:now.length=n.toNat)(bn:∀z∈now,0<=z/\z<w)(bp:∀p∈ps,0<=p.2/\p.2<w) :
  ∃(e:Ev) (a' c':Int) (G:Sto),kG [.ref 1,.tup [.int n,.int w],.int at_,.tup (seen.map U.int),.ref (r+1+1),.tup (now.map U.int)] (scr ns::pen a c::T)=some (e.u,scr ns::pen a' c'::(T++G))/\e.at=at_/\(∀{st:St} {t:Att},aP st at_=some t->t.en=none->t.ps=ps->mF n w st e)/\(∀x,e≠.beg x)/\0<=a'/\0<=c':=by
 unfold kG
 rw[sG]
 obtain⟨way,a1,c1,e1,p1,q1,ha1,hc1⟩:=dM ns T (m:=12) ha hc (by decide) (by decide +kernel)
 obtain⟨box,a2,c2,e2,p2,q2,ha2,hc2⟩:=dM ns T (m:=n) ha1 hc1 (by omega) (l9 (by omega) (by omega))
 by_cases c5:way<5
 ·obtain⟨f,a3,c3,e3,p3,q3,ha3,hc3⟩:=dM ns T (m:=w) ha2 hc2 (by omega) (l9 (by omega) (by omega))
  obtain⟨sb,hsb⟩:∃z,z=seen.getD box.toNat 0:=⟨_,rfl⟩
  obtain⟨nb,hnb⟩:∃z,z=now.getD box.toNat 0:=⟨_,rfl⟩
  obtain⟨g,a4,c4,e4,p4,q4,ha4,hc4⟩:=dM ns (T++[.lst [.int sb,.int sb,.int nb,.int f]]) (m:=4) ha3 hc3 (by decide) (by decide +kernel)
  have k1:=atF hs p2 q2
  have k2:=atF hn p2 q2
  have hb1:box.toNat<seen.length:=by omega
  have hb2:box.toNat<now.length:=by omega
  have b1:0<=sb/\sb<w:=by
   rw[hsb,List.getD_eq_getElem?_getD,List.getElem?_eq_getElem hb1];exact bs _ (List.getElem_mem hb1)
  have b2:0<=nb/\nb<w:=by
   rw[hnb,List.getD_eq_getElem?_getD,List.getElem?_eq_getElem hb2];exact bn _ (List.getElem_mem hb2)
  rw[<-hsb]at k1
  rw[<-hnb]at k2
  have pick:∃z:Int,atI [U.int sb,U.int sb,U.int nb,U.int f] g=some (.int z)/\0<=z/\z<w:=by
   have:g=0\/g=1\/g=2\/g=3:=by omega
   rcases this with rfl|rfl|rfl|rfl
   ·exact⟨sb,rfl,b1⟩
   ·exact⟨sb,rfl,b1⟩
   ·exact⟨nb,rfl,b2⟩
   ·exact⟨f,rfl,p3,q3⟩
  obtain⟨z,hz,z0,z1⟩:=pick
  have hr':∀G:Sto,(T++G)[r]?=some (.dic (jU ps)):=fun G=>ak hr
  obtain⟨v,hv⟩:∃v,v=(aP ps box).getD z:=⟨_,rfl⟩
  have hv2:((aP ps box).map U.int).getD (.int z)=.int v:=by rw[hv];cases aP ps box<;>rfl
  refine⟨.look at_ box v,a4,c4,[.lst [.int sb,.int sb,.int nb,.int f]],?_,rfl,fun h1 h2 h3=>⟨⟨p2,q2,?_⟩,_,h1,h2,fun y hy=>?_⟩,(fun x h=>by cases h),ha4,hc4⟩
  ·rwa[dz,e1,e2,e3,e4,c5,k1,k2,hz,hr',iN,hv2,Ev.u]
  ·rw[hv]
   cases hq:aP ps box with
   |none=>exact⟨z0,z1⟩
   |some y=>exact bp _ (kI hq)
  ·rw[h3]at hy
   rw[hv,hy];rfl
 by_cases c8:way<8
 ·obtain⟨f,a3,c3,e3,p3,q3,ha3,hc3⟩:=dM ns T (m:=w) ha2 hc2 (by omega) (l9 (by omega) (by omega))
  refine⟨.put at_ box f,a3,c3,[],?_,rfl,fun h1 h2 h3=>⟨⟨p2,q2,p3,q3⟩,_,h1,h2⟩,(fun x h=>by cases h),ha3,hc3⟩
  rwa[dz,e1,e2,e3,c5,c8,Ev.u,List.append_nil]
 have pick:∃d:Bool,atI [U.str "done",U.str "done",U.str "done",U.str "fall"] (way-8)=some (.str (px d)):=by
  have:way=8\/way=9\/way=10\/way=11:=by omega
  rcases this with rfl|rfl|rfl|rfl
  ·exact⟨true,rfl⟩
  ·exact⟨true,rfl⟩
  ·exact⟨true,rfl⟩
  ·exact⟨false,rfl⟩
 obtain⟨d,hd⟩:=pick
 refine⟨.fin d at_,a2,c2,[.lst [.str "done",.str "done",.str "done",.str "fall"]],?_,rfl,fun h1 h2 h3=>⟨_,h1,h2⟩,(fun x h=>by cases h),ha2,hc2⟩
 rwa[dz,e1,e2,c5,c8,hd,Ev.u]
def kF:Fn:=fnU 2 2 eF
theorem oZ{S:Sto}{r:Nat}{ps:List (Int×Int)}(hr:S[r]?=some (.dic (jU ps))):∀(xs:List Int) (k:Nat) (ys:List Int) (r0 r1:Option U),ys.length+xs.length<=1000->
  ∃zs,iT (fun _=>True) (gTp [0,1]) (qL (ah 2) (ah 0) (ah 1)) S.length (((xs.map U.int).zipIdx k).map fun p=>.tup [.int p.2,p.1]) [r0,r1,some (.ref r)] (S++[.lst (ys.map U.int)])=some (S++[.lst ((ys++zs).map U.int)])/\zs=beh xs ps k
 |[],k,ys,r0,r1,hl=>⟨[],by simp only[List.map_nil,List.zipIdx_nil,List.append_nil];exact lJ trivial,rfl⟩
 |x::xs,k,ys,r0,r1,hl=>by
  obtain⟨v,hv⟩:∃v,v=(aP ps (k:Int)).getD x:=⟨_,rfl⟩
  have hv2:((aP ps (k:Int)).map U.int).getD (.int x)=.int v:=by rw[hv];cases aP ps (k:Int)<;>rfl
  obtain⟨zs,h2,e2⟩:=oZ hr xs (k+1) (ys++[v]) (some (.int k)) (some (.int x)) (by simp at hl ⊢;omega)
  refine⟨v::zs,?_,by rw[e2,hv];rfl⟩
  have hr':∀G:Sto,(S++G)[r]?=some (.dic (jU ps)):=fun G=>ak hr
  simp only[List.map_cons,List.zipIdx_cons]
  refine(jF (ρ0:=[some (.int k),some (.int x),some (.ref r)]) (S0:=S++[.lst (ys.map U.int)]) (S1:=S++[.lst (ys.map U.int)]) (x:=.int v) (ys:=ys.map U.int) trivial rfl ?_ ?_ (by unfold LIM;simp at hl ⊢;omega)).trans ?_
  ·rwa[hr',iN,hv2]
  ·rwa[]
  ·have e5:(S++[O.lst (ys.map U.int)]).set S.length (.lst (ys.map U.int++[U.int v]))=S++[.lst ((ys++[v]).map U.int)]:=by
    rwa[List.map_append,List.map_cons,List.map_nil]
   rw[e5,h2]
   simp
theorem Bf{S:Sto}{r:Nat}{ps:List (Int×Int)}{now:List Int}(hr:S[r]?=some (.dic (jU ps)))(hl:now.length<=1000) :
  kF [.tup (now.map U.int),.ref r] S=some (.tup ((beh now ps 0).map U.int),S++[.lst ((beh now ps 0).map U.int)]):=by
 unfold kF
 rw[qD]
 obtain⟨zs,h,e⟩:=oZ hr now 0 [] none none (by simpa using hl)
 subst e
 simp only[List.map_nil,List.nil_append]at h
 have es:Gw (.tup (now.map U.int)) S=some (now.map U.int,fun _=>True):=rfl
 rwa[eF,fT,zi,es,wM,mQ,List.replicate,Option.getD_some,h]
structure Go where
 a:Int
 seen:List Int
 r:Nat
def Go.u(g:Go):U:=.tup [.int g.a,.tup (g.seen.map U.int),.ref (g.r+1+1)]
structure LgI(n w:Int)(N:Nat)(T0 T:Sto)(ln ll lg:Nat)(names:List Int)(evs:List Ev)(g:List Go)(now:List Int):Prop where
 hn:T[ln]?=some (.lst (names.map U.int))
 hl:T[ll]?=some (.lst (evs.map Ev.u))
 hg:T[lg]?=some (.lst (g.map Go.u))
 bn:T0.length<=ln
 bl:T0.length<=ll
 bg:T0.length<=lg
 n1:ln≠ll
 n2:ln≠lg
 n3:ll≠lg
 go:∀x∈g,(T0.length<=x.r/\x.r≠ln/\x.r≠ll/\x.r≠lg/\x.seen.length=n.toNat/\(∀z∈x.seen,0<=z/\z<w))/\∃t,aP (aU [] evs) x.a=some t/\t.en=none/\T[x.r]?=some (.dic (jU t.ps))
 gd:g.Pairwise fun x y=>x.r≠y.r/\x.a≠y.a
 nd:names.Nodup
 nb:∀x∈names,0<=x/\x<200/\x∉ax (aU [] evs)
 lo:jJ n w [] evs
 kd:(ax (aU [] evs)).Nodup
 cnt:(aU [] evs).length+names.length<=N
 gl:g.length<=(aU [] evs).length
 nw:now.length=n.toNat
 nwb:∀z∈now,0<=z/\z<w
 pb:∀a t,aP (aU [] evs) a=some t->t.ps.length<=evs.length/\∀p∈t.ps,(0<=p.1/\p.1<n)/\0<=p.2/\p.2<w
 fr:∀i,i<T0.length->T[i]?=T0[i]?
 le:T0.length<=T.length
section
variable{n w:Int}{N:Nat}{T0 T T':Sto}{ln ll lg:Nat}{names:List Int}{evs:List Ev}{g:List Go}{now:List Int}
theorem LgI.app(h:LgI n w N T0 T ln ll lg names evs g now)(G:Sto):LgI n w N T0 (T++G) ln ll lg names evs g now:=
 { h with
  hn:=ak h.hn,hl:=ak h.hl,hg:=ak h.hg
  go:=fun x hx=>by obtain⟨k,t,h1,h2,h3⟩:=h.go x hx;exact⟨k,t,h1,h2,ak h3⟩
  fr:=fun i hi=>by rw[List.getElem?_append_left (Nat.lt_of_lt_of_le hi h.le)];exact h.fr i hi
  le:=by rw[List.length_append];have:=h.le;omega }
theorem BR{κ α:Type}[DecidableEq κ]{ps:List (κ×α)}{b:κ}{v:α}{p:κ×α}(h:p∈ik ps b v):p∈ps\/p=(b,v):=by
 unfold ik at h
 split at h
 ·obtain⟨q,hq,rfl⟩:=List.mem_map.mp h
  split
  ·rename_i e
   right
   rw[<-e]
  ·exact .inl hq
 ·rcases List.mem_append.mp h with z|z
  ·exact .inl z
  ·simp at z;exact .inr z
theorem yY{st:St}{e:Ev}(h:∀x,e≠.beg x):(stp st e).length=st.length:=by
 cases e with
 |beg a=>exact absurd rfl (h a)
 |_=>simp[stp,Az]
theorem LgI.begin{a0:Int}(h:LgI n w N T0 T ln ll lg (names++[a0]) evs g now)(hn:T'[ln]?=some (.lst (names.map U.int)))(hl:T'[ll]?=some (.lst ((evs++[Ev.beg a0]).map Ev.u)))(hg:T'[lg]?=some (.lst ((g++[Go.mk a0 now T.length]).map Go.u)))
  (hd:T'[T.length]?=some (.dic [])) (old:∀i,i≠ln->i≠ll->i≠lg->i<T.length->T'[i]?=T[i]?) (le:T.length<=T'.length):LgI n w N T0 T' ln ll lg names (evs++[.beg a0]) (g++[⟨a0,now,T.length⟩]) now:=by
 have ha:a0∈names++[a0]:=by simp
 obtain⟨a1,a2,a3⟩:=h.nb a0 ha
 have ok:mF n w (aU [] evs) (.beg a0):=⟨a1,a2,a3⟩
 have hb:=h.le
 have dn:=List.nodup_append.mp h.nd
 have oth:∀{x:Int},x∈ax (aU [] evs)->x≠a0:=fun hx e=>a3 (e▸hx)
 have vk:∀{x:Int} {t:Att},aP (aU [] evs) x=some t->x∈ax (aU [] evs):=fun e=>List.mem_map.mpr ⟨_,kI e,rfl⟩
 refine { h with hn:=hn,hl:=hl,hg:=hg,nd:=dn.1,lo:=nK.mpr ⟨h.lo,ok⟩,kd:=by rw[bY];exact gy h.kd ok,go:=?go,gd:=?gd,nb:=?nb,cnt:=?cnt,gl:=?gl,pb:=?pb,fr:=?fr,le:=?le }
 case go=>
  intro x hx
  rcases List.mem_append.mp hx with hx|hx
  ·obtain⟨⟨k1,k2,k3,k4,k5⟩,t,h1,h2,h3⟩:=h.go x hx
   refine⟨⟨k1,k2,k3,k4,k5⟩,t,?_,h2,?_⟩
   ·rw[bY,bB (show x.a≠(Ev.beg a0).at from oth (vk h1))];exact h1
   ·rw[old _ k2 k3 k4 (dw h3)];exact h3
  ·simp at hx
   subst hx
   have z1:=dw h.hn
   have z2:=dw h.hl
   have z3:=dw h.hg
   refine⟨⟨hb,by dsimp only;omega,by dsimp only;omega,by dsimp only;omega,h.nw,h.nwb⟩,oR (aU [] evs),?_,rfl,hd⟩
   rw[bY];exact dg a3
 case gd=>
  refine List.pairwise_append.mpr ⟨h.gd,by simp,fun x hx y hy=>?_⟩
  simp at hy
  subst hy
  obtain⟨_,t,h1,h2,h3⟩:=h.go x hx
  have:=dw h3
  exact⟨by dsimp only;omega,oth (vk h1)⟩
 case nb=>
  intro x hx
  obtain⟨b1,b2,b3⟩:=h.nb x (List.mem_append_left _ hx)
  refine⟨b1,b2,?_⟩
  rw[bY,lz]
  simp only[List.mem_append,List.mem_singleton,not_or]
  exact⟨b3,dn.2.2 x hx a0 (by simp)⟩
 case cnt=>
  have:=h.cnt
  rw[bY]
  simp[stp]at this ⊢
  omega
 case gl=>
  have:=h.gl
  rw[bY]
  simp[stp]
  omega
 case pb=>
  intro a t e
  rw[bY]at e
  by_cases c:a=a0
  ·subst c
   rw[dg a3]at e
   cases e
   simp[oR]
  ·rw[bB (show a≠(Ev.beg a0).at from c)]at e
   obtain⟨k1,k2⟩:=h.pb a t e
   exact⟨by rw[List.length_append];omega,k2⟩
 case fr=>
  intro i hi
  have:=h.bn;have:=h.bl;have:=h.bg
  rw[old i (by omega) (by omega) (by omega) (by omega)]
  exact h.fr i hi
 case le=>
  omega
theorem LgI.ev{e:Ev}{x:Go}{t:Att}{g':List Go}{now':List Int}(h:LgI n w N T0 T ln ll lg names evs g now)(ht:aP (aU [] evs) x.a=some t)(ea:e.at=x.a)(ok:mF n w (aU [] evs) e)(nb:∀y,e≠.beg y)(sub:g'.Sublist g)
  (hn:T'[ln]?=T[ln]?) (hl:T'[ll]?=some (.lst ((evs++[e]).map Ev.u))) (hg:T'[lg]?=some (.lst (g'.map Go.u)))
  (oth:∀y∈g',(y=x/\(t.ev e).en=none/\T'[y.r]?=some (.dic (jU (t.ev e).ps)))\/(y.a≠x.a/\T'[y.r]?=T[y.r]?))
  (fr:∀i,i<T0.length->T'[i]?=T[i]?) (le:T.length<=T'.length) (nw:now'.length=n.toNat) (nwb:∀z∈now',0<=z/\z<w):LgI n w N T0 T' ln ll lg names (evs++[e]) g' now':=by
 have hb:=h.le
 have ks:ax (stp (aU [] evs) e)=ax (aU [] evs):=by
  rw[lz]
  cases e with
  |beg a=>exact absurd rfl (nb a)
  |_=>rfl
 refine { h with hn:=by rw[hn];exact h.hn,hl:=hl,hg:=hg,lo:=nK.mpr ⟨h.lo,ok⟩,kd:=by rw[bY];exact gy h.kd ok,nw:=nw,nwb:=nwb,gd:=h.gd.sublist sub,nb:=fun y hy=>by rw[bY,ks];exact h.nb y hy,fr:=fun i hi=>by rw[fr i hi];exact h.fr i hi,le:=by omega,cnt:=by rw[bY,yY nb];exact h.cnt,gl:=by rw[bY,yY nb];have:=h.gl;have:=sub.length_le;omega,go:=?go,pb:=?pb }
 case go=>
  intro y hy
  obtain⟨k,u,h1,h2,h3⟩:=h.go y (sub.subset hy)
  refine⟨k,?_⟩
  rcases oth y hy with⟨rfl,o1,o2⟩|⟨o1,o2⟩
  ·refine⟨t.ev e,?_,o1,o2⟩
   rw[bY,<-ea]
   exact aZ (by rw[ea];exact ht)
  ·refine⟨u,?_,h2,by rw[o2];exact h3⟩
   rw[bY,bB (by rw[ea];exact o1)]
   exact h1
 case pb=>
  intro a u e1
  rw[bY]at e1
  by_cases c:a=e.at
  ·subst c
   rw[aZ (by rw[ea];exact ht)]at e1
   cases e1
   obtain⟨k1,k2⟩:=h.pb _ _ ht
   rw[List.length_append,List.length_singleton]
   cases e with
   |beg a=>exact absurd rfl (nb a)
   |look a b v=>
    simp only[Att.ev]
    split
    ·exact⟨by omega,k2⟩
    ·exact⟨by dsimp only;omega,k2⟩
   |put a b v=>
    obtain⟨⟨b1,b2,b3,b4⟩,_⟩:=ok
    refine⟨Nat.le_trans (mR t.ps b v) (by omega),fun p hp=>?_⟩
    rcases BR hp with z|z
    ·exact k2 p z
    ·subst z;exact⟨⟨b1,b2⟩,b3,b4⟩
   |fin d a=>exact⟨by simp only[Att.ev];omega,k2⟩
  ·rw[bB c]at e1
   obtain⟨k1,k2⟩:=h.pb a u e1
   exact⟨by rw[List.length_append];omega,k2⟩
end
theorem gss{S:Sto}{i:Nat}{o:O}:(S.set i o)[i]?=(S[i]?).map fun _=>o:=by
 by_cases h:i<S.length
 ·rw[List.getElem?_set_self h,List.getElem?_eq_getElem h];rfl
 ·rw[List.getElem?_eq_none (by simpa using h),List.getElem?_eq_none (by simpa using h)];rfl
theorem gsn{S:Sto}{i j:Nat}{o:O}(h:i≠j):(S.set i o)[j]?=S[j]?:=List.getElem?_set_ne h
def Lq:CS:=(bL (jf (cBM fi (ah 8) (ab (jV (ab (cBM FV (ah 5) aC) (ab (ah 7) (ab mN aC)))) aC)))
  (jf (cBM fi (ah 6) (ab (jV (ab (cC (.str "begin")) (ab (cOp fIx (cOp fIx (ah 8) (uj (cC (.int 1)))) (cC (.int 0))) aC))) aC))))
def Gx:CS:=(bL (hU (aI (cOp fEq (cOp fIx (cOp fIx (ah 6) (uj (cC (.int 1)))) (cC (.int 0))) (cC (.str "put")))) (dW (ah 13) (cOp fIx (cOp fIx (ah 6) (uj (cC (.int 1)))) (cC (.int 2))) (cOp fIx (cOp fIx (ah 6) (uj (cC (.int 1)))) (cC (.int 3)))) (hU (aI (cOp fEq (cOp fIx (cOp fIx (ah 6) (uj (cC (.int 1)))) (cC (.int 0))) (cC (.str "done")))) (eR 7 (cCB kF (ab (ah 7) (ab (ah 13) aC)))) dJ))
  (hU (aI (cOp (fIn false) (cOp fIx (cOp fIx (ah 6) (uj (cC (.int 1)))) (cC (.int 0))) (jV (ab (cC (.str "done")) (ab (cC (.str "fall")) aC))))) (jf (cBM mB (ah 8) (ab (ah 10) aC))) dJ))
def rEv:CS:=(bL (eR 10 (cCB d8 (ab (ah 0) (ab (cCB kB (ab (ah 8) aC)) aC))))
  (bL (F9 (cOp fIx (ah 8) (ah 10)) (gTp [11,12,13]))
  (bL (jf (cBM fi (ah 6) (ab (cCB kG (ab (ah 0) (ab (ah 1) (ab (ah 11) (ab (ah 12) (ab (ah 13) (ab (ah 7) aC))))))) aC))) Gx)))
theorem Mf:g5 md d8 kG kF=hU (Ge (aI (cOp (nY true) (ah 5) (iV aC))) (cOr (aI (cOp (nY false) (ah 8) (iV aC))) (aI (cOp fEq (cCB d8 (ab (ah 0) (ab (cC (.int 4)) aC))) (cC (.int 0)))))) Lq (hU (aI (cOp (nY true) (ah 8) (iV aC))) rEv dJ):=rfl
section
variable{n w:Int}{N:Nat}{T0 T T':Sto}{ln ll lg:Nat}{names:List Int}{evs:List Ev}{g:List Go}{now:List Int}{x2 x3 x4 x9 x10 x11 x12 x13:Option U}
abbrev oF(n w:Int)(ln ll lg:Nat)(now:List Int)(x2 x3 x4 x9 x10 x11 x12 x13:Option U):Rho:=[some (.ref 1),some (.tup [.int n,.int w]),x2,x3,x4,some (.ref (ln+1+1)),some (.ref (ll+1+1)),some (.tup (now.map U.int)),some (.ref (lg+1+1)),x9,x10,x11,x12,x13]
theorem DI(ns:List Int){a c:Int}{a0:Int}(h:LgI n w N T0 T ln ll lg (names++[a0]) evs g now)(hN:N<=100)(hE:evs.length<=1000) :
  ∃T',Lq (oF n w ln ll lg now x2 x3 x4 x9 x10 x11 x12 x13) (scr ns::pen a c::T)=some (.nx,oF n w ln ll lg now x2 x3 x4 x9 x10 x11 x12 x13,scr ns::pen a c::T')/\LgI n w N T0 T' ln ll lg names (evs++[.beg a0]) (g++[⟨a0,now,T.length⟩]) now:=by
 have z1:=dw h.hn
 have z2:=dw h.hl
 have z3:=dw h.hg
 have hG:(g.map Go.u).length<LIM:=by have:=h.gl;have:=h.cnt;unfold LIM;rw[List.length_map];omega
 have hV:(evs.map Ev.u).length<LIM:=by unfold LIM;rw[List.length_map];omega
 have u:Go.u ⟨a0,now,T.length⟩=.tup [.int a0,.tup (now.map U.int),.ref (T.length+1+1)]:=rfl
 have hn:=h.hn
 rw[List.map_append,List.map_cons,List.map_nil]at hn
 have e1:(T.set ln (.lst (names.map U.int))++[O.dic []])[lg]?=some (.lst (g.map Go.u)):=ak (by rw[gsn h.n2];exact h.hg)
 have e2:((T.set ln (.lst (names.map U.int))++[O.dic []]).set lg (.lst (g.map Go.u++[.tup [.int a0,.tup (now.map U.int),.ref (T.length+1+1)]])))[ll]?=some (.lst (evs.map Ev.u)):=by
  rw[gsn (Ne.symm h.n3)];exact ak (by rw[gsn h.n1];exact h.hl)
 have e3:((T.set ln (.lst (names.map U.int))++[O.dic []]).set lg (.lst (g.map Go.u++[.tup [.int a0,.tup (now.map U.int),.ref (T.length+1+1)]])))[lg]?=some (.lst (g.map Go.u++[.tup [.int a0,.tup (now.map U.int),.ref (T.length+1+1)]])):=by
  rw[gss,e1];rfl
 refine⟨((T.set ln (.lst (names.map U.int))++[O.dic []]).set lg (.lst (g.map Go.u++[U.tup [.int a0,.tup (now.map U.int),.ref (T.length+1+1)]]))).set ll (.lst (evs.map Ev.u++[U.tup [.str "begin",.int a0]])),?_,?_⟩
 ·rwa[Lq,oF,h.hg,h.hl,hn,e1,e2,e3,Ky,GW,rm hG,rm hV,xi,rk,ow,List.length_set]
 ·refine h.begin ?_ ?_ ?_ ?_ (fun i i1 i2 i3 hi=>?_) (by simp)
  ·rw[gsn (Ne.symm h.n1),gsn (Ne.symm h.n2)]
   refine ak ?_
   rw[gss,h.hn];rfl
  ·rw[gss,e2,List.map_append];rfl
  ·rw[gsn h.n3,e3,List.map_append,<-u];rfl
  ·rw[gsn (by omega),gsn (by omega)]
   have:(T.set ln (O.lst (names.map U.int))).length=T.length:=List.length_set
   rw[<-this]
   exact ga0
  ·rw[gsn (Ne.symm i2),gsn (Ne.symm i3),List.getElem?_append_left (by simpa using hi),gsn (Ne.symm i1)]
theorem zr:∀{x y:Go},(x.r≠y.r/\x.a≠y.a)->(y.r≠x.r/\y.a≠x.a):=fun h=>⟨Ne.symm h.1,Ne.symm h.2⟩
theorem L5{k:Nat}(hk:k<g.length)(h:g.Pairwise fun x y=>x.r≠y.r/\x.a≠y.a):(∀y∈g,y=g[k]\/(y.r≠g[k].r/\y.a≠g[k].a))/\∀y∈g.eraseIdx k,y.r≠g[k].r/\y.a≠g[k].a:=by
 have hp:=pw hk
 have h1:(g[k]::g.eraseIdx k).Pairwise fun x y=>x.r≠y.r/\x.a≠y.a:=(hp.pairwise_iff zr).mpr h
 have h2:=(List.pairwise_cons.mp h1).1
 refine⟨fun y hy=>?_,fun y hy=>zr (h2 y hy)⟩
 rcases List.mem_cons.mp (hp.mem_iff.mpr hy)with z|z
 ·exact .inl z
 ·exact .inr (zr (h2 y z))
theorem vR:decide (("look":Str)="put")=false:=by decide +kernel
theorem tw:decide (("look":Str)="done")=false:=by decide +kernel
theorem lP:decide (("done":Str)="put")=false:=by decide +kernel
theorem lO:decide (("fall":Str)="put")=false:=by decide +kernel
theorem tD:decide (("fall":Str)="done")=false:=by decide +kernel
theorem j8{x:Str}:decide (x=x)=true:=decide_eq_true rfl
theorem vv{x:Str}{S:Sto}:fIn false (.str x) (.tup [.str "done",.str "fall"]) S=some (.bl (inU (.str x) [.str "done",.str "fall"]),S):=rfl
theorem FH:inU (.str "look") [.str "done",.str "fall"]=false:=by decide +kernel
theorem JC:inU (.str "put") [.str "done",.str "fall"]=false:=by decide +kernel
theorem FJ:inU (.str "done") [.str "done",.str "fall"]=true:=by decide +kernel
theorem FI:inU (.str "fall") [.str "done",.str "fall"]=true:=by decide +kernel
theorem JZ{now:List Int}{ps:List (Int×Int)}{w:Int}(h:∀z∈now,0<=z/\z<w)(hp:∀p∈ps,0<=p.2/\p.2<w)(k:Nat):∀z∈beh now ps k,0<=z/\z<w:=fun z hz=>by
 unfold beh at hz
 obtain⟨p,hp',rfl⟩:=List.mem_map.mp hz
 cases hv:aP ps (p.2:Int)with
 |some y=>exact hp _ (kI hv)
 |none=>exact h _ (List.fst_mem_of_mem_zipIdx hp')
theorem JM(ns:List Int){a c:Int}(ha:0<=a)(hc:0<=c)(n0:1<=n)(n1:n<=6)(w0:2<=w)(w1:w<=1000)(h:LgI n w N T0 T ln ll lg names evs g now)(hN:N<=100)(hE:evs.length<=1000)(hg:g≠[]) :
  ∃T' a' c' e g' now' y10 y11 y12 y13,rEv (oF n w ln ll lg now x2 x3 x4 x9 x10 x11 x12 x13) (scr ns::pen a c::T)=some (.nx,oF n w ln ll lg now' x2 x3 x4 x9 y10 y11 y12 y13,scr ns::pen a' c'::T')/\LgI n w N T0 T' ln ll lg names (evs++[e]) g' now'/\0<=a'/\0<=c':=by
 have hgl:=h.gl
 have hct:=h.cnt
 have gpos:0<g.length:=List.length_pos_iff.mpr hg
 obtain⟨f,a1,c1,e1,p1,q1,ha1,hc1⟩:=dM ns T (m:=(g.length:Int)) ha hc (by omega) (l9 (by omega) (by omega))
 have hk:f.toNat<g.length:=by omega
 obtain⟨o1,o2⟩:=L5 hk h.gd
 have hx:g[f.toNat]∈g:=List.getElem_mem hk
 generalize hX:g[f.toNat]=x at o1 o2 hx
 obtain⟨⟨k1,k2,k3,k4,k5,k6⟩,t,t1,t2,t3⟩:=h.go x hx
 obtain⟨pl,pb⟩:=h.pb _ _ t1
 have hat:atI (g.map Go.u) f=some (.tup [.int x.a,.tup (x.seen.map U.int),.ref (x.r+1+1)]):=Ak p1 (by rw[List.getElem?_map,List.getElem?_eq_getElem hk,hX];rfl)
 obtain⟨e,a2,c2,G,e2,ea,ok,nb,ha2,hc2⟩:=Ce ns T (at_:=x.a) ha1 hc1 n0 n1 w0 w1 t3 k5 k6 h.nw h.nwb fun p hp=>(pb p hp).2
 have okE:=ok t1 t2 rfl
 have hV:(evs.map Ev.u).length<LIM:=by unfold LIM;rw[List.length_map];omega
 have hGL:(g.map Go.u).length<=LIM:=by unfold LIM;rw[List.length_map];omega
 have hPL:(jU t.ps).length<LIM:=by unfold LIM jU;rw[List.length_map];omega
 have A:=h.app G
 have pre:rEv (oF n w ln ll lg now x2 x3 x4 x9 x10 x11 x12 x13) (scr ns::pen a c::T)=Gx (oF n w ln ll lg now x2 x3 x4 x9 (some (.int f)) (some (.int x.a)) (some (.tup (x.seen.map U.int))) (some (.ref (x.r+1+1)))) (scr ns::pen a2 c2::((T++G).set ll (.lst (evs.map Ev.u++[e.u])))):=by
  rwa[rEv,oF,h.hg,h.hl,A.hl,e1,e2,hat,rm hV,List.length_map]
 rw[pre]
 have L0:((T++G).set ll (.lst (evs.map Ev.u++[e.u])))[ll]?=some (.lst (evs.map Ev.u++[e.u])):=by rw[gss,A.hl];rfl
 have D0:((T++G).set ll (.lst (evs.map Ev.u++[e.u])))[x.r]?=some (.dic (jU t.ps)):=by rw[gsn (Ne.symm k3)];exact ak t3
 have G0:((T++G).set ll (.lst (evs.map Ev.u++[e.u])))[lg]?=some (.lst (g.map Go.u)):=by rw[gsn h.n3];exact A.hg
 have N0:((T++G).set ll (.lst (evs.map Ev.u++[e.u])))[ln]?=T[ln]?:=by rw[gsn (Ne.symm h.n1)];rw[A.hn,h.hn]
 have F0:∀i,i<T0.length->((T++G).set ll (.lst (evs.map Ev.u++[e.u])))[i]?=T[i]?:=fun i hi=>by
  have:=h.bl;have:=h.le
  rw[gsn (by omega),List.getElem?_append_left (by omega)]
 have Y0:∀y∈g,((T++G).set ll (.lst (evs.map Ev.u++[e.u])))[y.r]?=T[y.r]?:=fun y hy=>by
  obtain⟨⟨_,_,j3,_⟩,u,_,_,u3⟩:=h.go y hy
  rw[gsn (Ne.symm j3),u3];exact ak u3
 have Z0:T.length<=((T++G).set ll (.lst (evs.map Ev.u++[e.u]))).length:=by simp
 have m1:(evs++[e]).map Ev.u=evs.map Ev.u++[e.u]:=by simp
 generalize (T++G).set ll (.lst (evs.map Ev.u++[e.u]))=T1 at L0 D0 G0 N0 F0 Y0 Z0 ⊢
 have hP:(g.map Go.u)[f.toNat]?=some (Go.u x):=by rw[List.getElem?_map,List.getElem?_eq_getElem hk,hX];rfl
 have hpf:f<((g.map Go.u).length:Int):=by rw[List.length_map];exact q1
 cases e with
 |beg b=>exact absurd rfl (nb b)
 |look b1 b2 b3=>
  refine⟨T1,a2,c2,.look b1 b2 b3,g,now,some (.int f),some (.int x.a),some (.tup (x.seen.map U.int)),some (.ref (x.r+1+1)),?_,h.ev t1 ea okE nb (List.Sublist.refl g) N0 (by rw[m1];exact L0) G0 (fun y hy=>?_) F0 Z0 h.nw h.nwb,ha2,hc2⟩
  ·simp only[Ev.u]at L0
   rwa[Gx,oF,L0,xi,rk,ow,vR,tw,vv,FH]
  ·rcases o1 y hy with rfl|z
   ·refine .inl ⟨rfl,?_,?_⟩
    ·simp only[Att.ev];split<;>exact t2
    ·rw[D0];simp only[Att.ev];split<;>rfl
   ·exact .inr ⟨z.2,Y0 y hy⟩
 |put b1 b2 b3=>
  refine⟨T1.set x.r (.dic (jU (ik t.ps b2 b3))),a2,c2,.put b1 b2 b3,g,now,some (.int f),some (.int x.a),some (.tup (x.seen.map U.int)),some (.ref (x.r+1+1)),?_,h.ev t1 ea okE nb (List.Sublist.refl g) (by rw[gsn k2];exact N0) (by rw[m1,gsn k3];exact L0) (by rw[gsn k4];exact G0) (fun y hy=>?_) (fun i hi=>by rw[gsn (by omega)];exact F0 i hi) (by simpa using Z0) h.nw h.nwb,ha2,hc2⟩
  ·simp only[Ev.u]at L0
   have L1:(T1.set x.r (.dic (jU (ik t.ps b2 b3))))[ll]?=some (.lst (evs.map Ev.u++[U.tup [.str "put",.int b1,.int b2,.int b3]])):=by rw[gsn k3];exact L0
   rwa[Gx,oF,L0,L1,D0,hPL,if_true,pY,xi,rk,ow,j8,vv,JC]
  ·rcases o1 y hy with rfl|z
   ·exact .inl ⟨rfl,t2,by rw[gss,D0];rfl⟩
   ·exact .inr ⟨z.2,by rw[gsn (Ne.symm z.1)];exact Y0 y hy⟩
 |fin d b1=>
  have bb:∀z∈beh now t.ps 0,0<=z/\z<w:=JZ h.nwb (fun p hp=>(pb p hp).2) 0
  have sub:(g.eraseIdx f.toNat).Sublist g:=List.eraseIdx_sublist ..
  cases d with
  |true=>
   have eP:=Bf (S:=scr ns::pen a2 c2::T1) (r:=x.r+1+1) (ps:=t.ps) (now:=now) (by simp only[List.getElem?_cons_succ];exact D0) (by have:=h.nw;omega)
   have L1:(T1++[O.lst ((beh now t.ps 0).map U.int)])[ll]?=some (.lst (evs.map Ev.u++[U.tup [.str "done",.int b1]])):=ak L0
   have G1:(T1++[O.lst ((beh now t.ps 0).map U.int)])[lg]?=some (.lst (g.map Go.u)):=ak G0
   have gl:∀i,i<T.length->(T1++[O.lst ((beh now t.ps 0).map U.int)])[i]?=T1[i]?:=fun i hi=>List.getElem?_append_left (by omega)
   refine⟨(T1++[O.lst ((beh now t.ps 0).map U.int)]).set lg (.lst ((g.map Go.u).eraseIdx f.toNat)),a2,c2,.fin true b1,g.eraseIdx f.toNat,beh now t.ps 0,some (.int f),some (.int x.a),some (.tup (x.seen.map U.int)),some (.ref (x.r+1+1)),?_,h.ev t1 ea okE nb sub (by rw[gsn (Ne.symm h.n2),gl _ (dw h.hn)];exact N0) (by rw[m1,gsn (Ne.symm h.n3)];exact L1) (by rw[gss,G1,nH];rfl) (fun y hy=>?_) (fun i hi=>?_) (by simp;omega) (by rw[Ai];exact h.nw) bb,ha2,hc2⟩
   ·simp only[Ev.u,px,if_true]at L0
    rwa[Gx,oF,L0,L1,G1,eP,xi,rk,ow,lP,j8,vv,FJ,tq,pH p1 hpf hGL hP]
   ·have hy':=sub.subset hy
    obtain⟨z1,z2⟩:=o2 y hy
    obtain⟨⟨_,_,_,j4,_⟩,u,_,_,u3⟩:=h.go y hy'
    exact .inr ⟨z2,by rw[gsn (Ne.symm j4),gl _ (dw u3)];exact Y0 y hy'⟩
   ·have:=h.bg;have:=h.le
    rw[gsn (by omega),gl i (by omega)];exact F0 i hi
  |false=>
   refine⟨T1.set lg (.lst ((g.map Go.u).eraseIdx f.toNat)),a2,c2,.fin false b1,g.eraseIdx f.toNat,now,some (.int f),some (.int x.a),some (.tup (x.seen.map U.int)),some (.ref (x.r+1+1)),?_,h.ev t1 ea okE nb sub (by rw[gsn (Ne.symm h.n2)];exact N0) (by rw[m1,gsn (Ne.symm h.n3)];exact L0) (by rw[gss,G0,nH];rfl) (fun y hy=>?_) (fun i hi=>?_) (by simpa using Z0) h.nw h.nwb,ha2,hc2⟩
   ·simp only[Ev.u,px,Bool.false_eq_true,if_false]at L0
    rwa[Gx,oF,L0,G0,xi,rk,ow,lO,tD,vv,FI,tq,pH p1 hpf hGL hP]
   ·have hy':=sub.subset hy
    obtain⟨z1,z2⟩:=o2 y hy
    obtain⟨⟨_,_,_,j4,_⟩,u,_,_,u3⟩:=h.go y hy'
    exact .inr ⟨z2,by rw[gsn (Ne.symm j4)];exact Y0 y hy'⟩
   ·have:=h.bg;have:=h.le
    rw[gsn (by omega)];exact F0 i hi
end
section
variable{n w:Int}{N:Nat}{T0:Sto}{ln ll lg:Nat}{x2 x3 x4:Option U}
theorem u7(ns:List Int)(n0:1<=n)(n1:n<=6)(w0:2<=w)(w1:w<=1000)(hN:N<=100):∀(us:List U) (T:Sto) (names:List Int) (evs:List Ev) (g:List Go) (now:List Int) (x9 x10 x11 x12 x13:Option U) {a c:Int},0<=a->0<=c->LgI n w N T0 T ln ll lg names evs g now->evs.length+us.length<=1000->
  ∃(T':Sto) (names':List Int) (evs':List Ev) (g':List Go) (now':List Int) (y9 y10 y11 y12 y13:Option U) (a' c':Int),
   eA (fun _=>True) (gNm 9) (g5 md d8 kG kF) us (oF n w ln ll lg now x2 x3 x4 x9 x10 x11 x12 x13) (scr ns::pen a c::T)
    = some (.nx,oF n w ln ll lg now' x2 x3 x4 y9 y10 y11 y12 y13,scr ns::pen a' c'::T')/\LgI n w N T0 T' ln ll lg names' evs' g' now'/\evs'.length<=evs.length+us.length/\0<=a'/\0<=c'
 |[],T,names,evs,g,now,x9,x10,x11,x12,x13,a,c,ha,hc,I,hl=>⟨T,names,evs,g,now,x9,x10,x11,x12,x13,a,c,cX trivial,I,by simp,ha,hc⟩
 |u::us,T,names,evs,g,now,x9,x10,x11,x12,x13,a,c,ha,hc,I,hl=>by
  rw[List.length_cons]at hl
  have key:∃(T1:Sto) (names1:List Int) (evs1:List Ev) (g1:List Go) (now1:List Int) (z10 z11 z12 z13:Option U) (a1 c1:Int),
    g5 md d8 kG kF (oF n w ln ll lg now x2 x3 x4 (some u) x10 x11 x12 x13) (scr ns::pen a c::T)=some (.nx,oF n w ln ll lg now1 x2 x3 x4 (some u) z10 z11 z12 z13,scr ns::pen a1 c1::T1)/\LgI n w N T0 T1 ln ll lg names1 evs1 g1 now1/\evs1.length<=evs.length+1/\0<=a1/\0<=c1:=by
   rw[Mf]
   have E1:=rR true (S:=scr ns::pen a c::(T++[.lst []])) (l:=ln+1+1) (l':=T.length+1+1) (us:=names.map U.int) (by simp only[List.getElem?_cons_succ];exact ak I.hn) (by simp only[List.getElem?_cons_succ,ga0];rfl)
   have E2:∀neg:Bool,nY neg (.ref (lg+1+1)) (.ref (T.length+1+1+1)) (scr ns::pen a c::(T++[.lst [],.lst []]))=some (.bl (if neg then !decide (g.map Go.u=[])else decide (g.map Go.u=[])),scr ns::pen a c::(T++[.lst [],.lst []])):=fun neg=>rR neg (by simp only[List.getElem?_cons_succ];exact ak I.hg) (by simp only[List.getElem?_cons_succ,ga];rfl)
   have dG:decide (g.map Go.u=[])=decide (g=[]):=by cases g<;>simp
   have dN:decide (names.map U.int=[])=decide (names=[]):=by cases names<;>simp
   rw[dN]at E1
   rw[dG]at E2
   have sub:(scr ns::pen a c::(T++[.lst []])).length=T.length+1+1+1:=by simp
   rcases List.eq_nil_or_concat names with rfl|⟨names',a0,rfl⟩
   ·by_cases gE:g=[]
    ·subst gE
     refine⟨T++[.lst [],.lst []],[],evs,[],now,x10,x11,x12,x13,a,c,?_,I.app _,by omega,ha,hc⟩
     rwa[oF,E1,E2,if_true,decide_true,List.length_append]
    ·have J:=I.app [.lst [],.lst []]
     obtain⟨T',a',c',e,g',now',y10,y11,y12,y13,h1,h2,h3,h4⟩:=JM (x2:=x2) (x3:=x3) (x4:=x4) (x9:=some u) (x10:=x10) (x11:=x11) (x12:=x12) (x13:=x13) ns ha hc n0 n1 w0 w1 J hN (by omega) gE
     refine⟨T',_,_,_,_,y10,y11,y12,y13,a',c',?_,h2,by simp,h3,h4⟩
     rw[<-h1]
     rwa[oF,E1,E2,gE,if_true,decide_true,List.length_append]
   ·have ne:names'.concat a0≠[]:=by simp
    by_cases gE:g=[]
    ·have J:=I.app [.lst [],.lst []]
     rw[List.concat_eq_append]at J
     obtain⟨T',h1,h2⟩:=DI (x2:=x2) (x3:=x3) (x4:=x4) (x9:=some u) (x10:=x10) (x11:=x11) (x12:=x12) (x13:=x13) ns (a:=a) (c:=c) J hN (by omega)
     refine⟨T',_,_,_,_,x10,x11,x12,x13,a,c,?_,h2,by simp,ha,hc⟩
     rw[<-h1]
     rwa[oF,E1,E2,ne,gE,if_true,decide_true,List.length_append,Bool.false_eq_true,if_false]
    ·obtain⟨f,a1,c1,e1,p1,q1,ha1,hc1⟩:=dM ns (T++[.lst [],.lst []]) (m:=4) ha hc (by decide) (by decide +kernel)
     by_cases fE:f=0
     ·have J:=I.app [.lst [],.lst []]
      rw[List.concat_eq_append]at J
      obtain⟨T',h1,h2⟩:=DI (x2:=x2) (x3:=x3) (x4:=x4) (x9:=some u) (x10:=x10) (x11:=x11) (x12:=x12) (x13:=x13) ns (a:=a1) (c:=c1) J hN (by omega)
      refine⟨T',_,_,_,_,x10,x11,x12,x13,a1,c1,?_,h2,by simp,ha1,hc1⟩
      rw[<-h1]
      rwa[oF,E1,E2,ne,gE,e1,fE,if_true,decide_true,List.length_append,Bool.false_eq_true,if_false]
     ·have J:=I.app [.lst [],.lst [],.lst []]
      have E3:nY true (.ref (lg+1+1)) (.ref (T.length+1+1+1+1)) (scr ns::pen a1 c1::(T++[.lst [],.lst [],.lst []]))=some (.bl true,scr ns::pen a1 c1::(T++[.lst [],.lst [],.lst []])):=by
       have z:=rR true (S:=scr ns::pen a1 c1::(T++[.lst [],.lst [],.lst []])) (l:=lg+1+1) (l':=T.length+1+1+1+1) (us:=g.map Go.u) (by simp only[List.getElem?_cons_succ];exact ak I.hg) (by
        simp only[List.getElem?_cons_succ]
        rw[show T.length+1+1=T.length+2 from rfl,ga];rfl)
       rw[dG,decide_eq_false gE]at z
       exact z
      obtain⟨T',a',c',e,g',now',y10,y11,y12,y13,h1,h2,h3,h4⟩:=JM (x2:=x2) (x3:=x3) (x4:=x4) (x9:=some u) (x10:=x10) (x11:=x11) (x12:=x12) (x13:=x13) ns ha1 hc1 n0 n1 w0 w1 J hN (by omega) gE
      refine⟨T',_,_,_,_,y10,y11,y12,y13,a',c',?_,h2,by simp,h3,h4⟩
      rw[<-h1]
      rwa[oF,E1,E2,E3,ne,gE,e1,fE,if_true,decide_true,List.length_append,Bool.false_eq_true,if_false]
  obtain⟨T1,names1,evs1,g1,now1,z10,z11,z12,z13,a1,c1,h1,I1,l1,ha1,hc1⟩:=key
  obtain⟨T',names',evs',g',now',y9,y10,y11,y12,y13,a',c',h2,I2,l2,ha2,hc2⟩:=u7 ns n0 n1 w0 w1 hN us T1 names1 evs1 g1 now1 (some u) z10 z11 z12 z13 ha1 hc1 I1 (by omega)
  exact⟨T',names',evs',g',now',y9,y10,y11,y12,y13,a',c',(eC trivial rfl h1).trans h2,I2,by rw[List.length_cons];omega,ha2,hc2⟩
end
def Gn:Fn:=fnU 14 5 (iI md d8 kG kF)
structure ji(n w:Int)(N:Nat)(evs:List Ev):Prop where
 lo:jJ n w [] evs
 kd:(ax (aU [] evs)).Nodup
 cnt:(aU [] evs).length<=N
 pb:∀a t,aP (aU [] evs) a=some t->t.ps.length<=evs.length/\∀p∈t.ps,(0<=p.1/\p.1<n)/\0<=p.2/\p.2<w
theorem Jh (ns : List Int) (T : Sto) {a c n w most size : Int} {state : List Int} (ha : 0 <= a) (hc : 0 <= c) (n0 : 1 <= n) (n1 : n <= 6) (w0 : 2 <= w) (w1 : w <= 1000) (hs : state.length = n.toNat) (bs : ∀ z ∈ state, 0 <= z /\ z < w) (m0 : 0 <= most) (m1 : most <= 99) (s0 : 0 <= size) (s1 : size <= 900) :
    ∃(evs:List Ev) (a' c':Int) (G:Sto) (k:Nat),Gn [.ref 1,.tup [.int n,.int w],.tup (state.map U.int),.int most,.int size] (scr ns::pen a c::T)=some (.ref (T.length+k+1+1),scr ns::pen a' c'::(T++G))/\G[k]?=some (.lst (evs.map Ev.u))/\ji n w most.toNat evs/\evs.length<=size.toNat/\0<=a'/\0<=c':=by
  unfold Gn
  rw[wV]
  obtain⟨f,a1,c1,e1,p1,q1,ha1,hc1⟩:=dM ns T (m:=most+1) ha hc (by omega) (l9 (by omega) (by omega))
  obtain⟨left,names,a2,c2,e2,l2,d2,b2,ha2,hc2⟩:=BN ns T ha1 hc1 p1 (by omega)
  obtain⟨h,a3,c3,e3,p3,q3,ha3,hc3⟩:=dM ns (T++[.lst (left.map U.int),.lst (names.map U.int),.lst [],.lst []]) (m:=size+1) ha2 hc2 (by omega) (l9 (by omega) (by omega))
  have I:LgI n w most.toNat T (T++[.lst (left.map U.int),.lst (names.map U.int),.lst [],.lst []]) (T.length+1) (T.length+2) (T.length+3) names [] [] state:=
    { hn:=ga,hl:=ga,hg:=ga,bn:=by omega,bl:=by omega,bg:=by omega,n1:=by omega,n2:=by omega,n3:=by omega
      go:=fun x hx=>by cases hx
      gd:=.nil,nd:=d2,nb:=fun x hx=>⟨(b2 x hx).1,(b2 x hx).2,by simp[aU,ax]⟩,lo:=trivial,kd:=by simp[aU,ax],cnt:=by simp[aU];omega,gl:=by simp,nw:=hs,nwb:=bs
      pb:=fun a t e=>by simp[aU,aP]at e
      fr:=fun i hi=>List.getElem?_append_left hi,le:=by simp }
  obtain⟨T',names',evs',g',now',y9,y10,y11,y12,y13,a',c',e4,I4,l4,ha4,hc4⟩:=u7 (x2:=some (.tup (state.map U.int))) (x3:=some (.int most)) (x4:=some (.int size)) ns n0 n1 w0 w1 (by omega) (dv 0 h.toNat) _ _ _ _ _ none none none none none ha3 hc3 I (by simp[dv];omega)
  obtain⟨G,rfl⟩:=JJ (ls:=[]) I4.le I4.fr
  have hl:=I4.hl
  rw[ga]at hl
  refine⟨evs',a',c',G,2,?_,hl,⟨I4.lo,I4.kd,by have:=I4.cnt;omega,I4.pb⟩,by simp[dv]at l4;omega,ha4,hc4⟩
  have hr:-(2^62)<=h/\h<2^62:=by omega
  simp only[oF]at e4
  rwa[iI,e1,e2,e3,kC,dQ,hr,if_true,and_self,e4,List.length_append]
section
variable{c:Cl}{B:Nat}{E L N P F E':List (Key×U)}{X Y S:Sto}{k:Nat}{o:O}
def hd(c:Cl)(B:Nat)(E L N P F:List (Key×U)):Sto:=[.ins c [some (.ref (B+1)),some (.ref (B+2)),some (.ref (B+3)),some (.ref (B+4)),some (.ref (B+5))],.dic E,.dic L,.dic N,.dic P,.dic F]
theorem hd0:(S++(hd c B E L N P F++X))[S.length]?=some (.ins c [some (.ref (B+1)),some (.ref (B+2)),some (.ref (B+3)),some (.ref (B+4)),some (.ref (B+5))]):=by rw[ga0];rfl
theorem hd1:(S++(hd c B E L N P F++X))[S.length+1]?=some (.dic E):=by rw[ga];rfl
theorem hd2:(S++(hd c B E L N P F++X))[S.length+2]?=some (.dic L):=by rw[ga];rfl
theorem hd3:(S++(hd c B E L N P F++X))[S.length+3]?=some (.dic N):=by rw[ga];rfl
theorem hd4:(S++(hd c B E L N P F++X))[S.length+4]?=some (.dic P):=by rw[ga];rfl
theorem hd5:(S++(hd c B E L N P F++X))[S.length+5]?=some (.dic F):=by rw[ga];rfl
theorem hs1:(S++(hd c B E L N P F++X)).set (S.length+1) (.dic E')=S++(hd c B E' L N P F++X):=by rw[gs];rfl
theorem hs2:(S++(hd c B E L N P F++X)).set (S.length+2) (.dic E')=S++(hd c B E E' N P F++X):=by rw[gs];rfl
theorem hs3:(S++(hd c B E L N P F++X)).set (S.length+3) (.dic E')=S++(hd c B E L E' P F++X):=by rw[gs];rfl
theorem hs4:(S++(hd c B E L N P F++X)).set (S.length+4) (.dic E')=S++(hd c B E L N E' F++X):=by rw[gs];rfl
theorem hs5:(S++(hd c B E L N P F++X)).set (S.length+5) (.dic E')=S++(hd c B E L N P E'++X):=by rw[gs];rfl
theorem gK:(S++(hd c B E L N P F++X)).length=S.length+(6+X.length):=by simp[hd];omega
theorem hgx:(S++(hd c B E L N P F++X))[S.length+(6+k)]?=X[k]?:=by
 rw[ga,List.getElem?_append_right (by simp[hd])]
 congr 1
 simp[hd]
theorem hsx:(S++(hd c B E L N P F++X)).set (S.length+(6+k)) o=S++(hd c B E L N P F++X.set k o):=by
 rw[gs,List.set_append_right _ _ (by simp[hd])]
 congr 3
 simp[hd]
theorem Nt:S++(hd c B E L N P F++X)++Y=S++(hd c B E L N P F++(X++Y)):=by simp only[List.append_assoc]
end
def enS:Option Bool->Str
 |none=>"open"
 |some d=>px d
def eO(st:St):List (Key×U):=st.map fun p=>(.inl p.1,.str (enS p.2.en))
def d6(B j:Nat)(st:St)(i:Nat):List (Key×U):=match st with
 |[]=>[]
 |p::r=>(.inl p.1,.ref (B+(6+(4*i+j))))::d6 B j r (i+1)
def sy(nd:List (Int×Int)):List (List Key×U):=nd.map fun p=>([.inl p.1,.inl p.2],.bl true)
def blk(t:Att):Sto:=[.lst (t.bf.map U.int),.lst (t.lk.map pU),.dit (sy t.nd),.dic (jU t.ps)]
def om:St->Sto
 |[]=>[]
 |p::r=>blk p.2++om r
def crs(c:Cl)(S:Sto)(st:St):Sto:=S++(hd c S.length (eO st) (d6 S.length 1 st 0) (d6 S.length 2 st 0) (d6 S.length 3 st 0) (d6 S.length 0 st 0)++om st)
theorem g4:∀st:St,(om st).length=4*st.length
 |[]=>rfl
 |p::r=>by rw[om,List.length_append,g4 r,List.length_cons];simp[blk];omega
theorem iW:∀s r:St,om (s++r)=om s++om r
 |[],r=>rfl
 |p::s,r=>by rw[List.cons_append,om,om,iW s r,List.append_assoc]
theorem lH{B j:Nat}:∀(s r:St) (i:Nat),d6 B j (s++r) i=d6 B j s i++d6 B j r (i+s.length)
 |[],r,i=>rfl
 |p::s,r,i=>by
  rw[List.cons_append,d6,d6,lH s r (i+1),List.cons_append,List.length_cons]
  congr 3
  omega
theorem nZ{B j:Nat}:∀(s:St) (i:Nat),(d6 B j s i).map (·.1)=(ax s).map Sum.inl
 |[],i=>rfl
 |p::s,i=>by rw[d6,List.map_cons,nZ s (i+1)];rfl
theorem iD{s:St}:(eO s).map (·.1)=(ax s).map Sum.inl:=by
 unfold eO ax;rw[List.map_map,List.map_map];rfl
theorem lT{ks:List Int}{a:Int}(h:a∉ks):(Sum.inl a:Key)∉ks.map Sum.inl:=fun z=>by
 obtain⟨b,hb,e⟩:=List.mem_map.mp z
 cases e
 exact h hb
theorem m8{κ α:Type}[DecidableEq κ]{ps qs:List (κ×α)}{k:κ}{v:α}(h:k∉ps.map (·.1)):aP (ps++(k,v)::qs) k=some v:=by
 rw[kJ,cq.mpr h]
 simp[aP]
theorem pZ{κ α:Type}[DecidableEq κ]{ps:List (κ×α)}{k:κ}{v:α}(h:k∉ps.map (·.1)):ik ps k v=ps++[(k,v)]:=by
 unfold ik
 rw[if_neg]
 simp only[List.any_eq_true,decide_eq_true_eq,not_exists,not_and]
 intro p hp e
 exact h (List.mem_map.mpr ⟨p,hp,e⟩)
theorem Bi{κ α:Type}[DecidableEq κ]{ps qs:List (κ×α)}{k:κ}{v v':α}(h:(ps++(k,v)::qs).map (·.1) |>.Nodup):ik (ps++(k,v)::qs) k v'=ps++(k,v')::qs:=by
 unfold ik
 rw[if_pos (by simp)]
 rw[List.map_append,List.map_cons]at h
 have h1:=List.nodup_append.mp h
 have h2:=List.nodup_cons.mp h1.2.1
 have keep:∀{l:List (κ×α)},k∉l.map (·.1)->(l.map fun p=>if p.1=k then(p.1,v')else p)=l:=fun{l} hl=>by
  rw[List.map_congr_left (g:=id) fun p hp=>?_,List.map_id]
  rw[if_neg fun e=>hl (List.mem_map.mpr ⟨p,hp,e⟩)];rfl
 rw[List.map_append,List.map_cons]
 rw[keep fun z=>h1.2.2 k z k List.mem_cons_self rfl,keep h2.1,if_pos rfl]
section
variable{c:Cl}{S:Sto}{s1 s2 st:St}{a:Int}{t t':Att}
theorem yN(h:(ax (s1++(a,t)::s2)).Nodup):a∉ax s1:=fun z=>by
 unfold ax at h z
 rw[List.map_append,List.map_cons]at h
 exact(List.nodup_append.mp h).2.2 a z a List.mem_cons_self rfl
theorem fP{j:Nat}(h:(ax (s1++(a,t)::s2)).Nodup):aP (d6 S.length j (s1++(a,t)::s2) 0) (.inl a)=some (.ref (S.length+(6+(4*s1.length+j)))):=by
 rw[lH,d6,Nat.zero_add]
 exact m8 (by rw[nZ];exact lT (yN h))
theorem iO(h:(ax (s1++(a,t)::s2)).Nodup):aP (eO (s1++(a,t)::s2)) (.inl a)=some (.str (enS t.en)):=by
 have e:eO (s1++(a,t)::s2)=eO s1++(Sum.inl a,U.str (enS t.en))::eO s2:=by unfold eO;rw[List.map_append,List.map_cons]
 rw[e]
 exact m8 (by rw[iD];exact lT (yN h))
theorem sx{j:Nat}:d6 S.length j (s1++(a,t)::s2) 0=d6 S.length j (s1++(a,t')::s2) 0:=by
 rw[lH,lH];rfl
theorem zK(h:t.en=t'.en):eO (s1++(a,t)::s2)=eO (s1++(a,t')::s2):=by
 unfold eO;rw[List.map_append,List.map_cons,List.map_append,List.map_cons,h]
theorem Bh{d:Bool}(h:(ax (s1++(a,t)::s2)).Nodup)(e:t'.en=some d):ik (eO (s1++(a,t)::s2)) (.inl a) (.str (px d))=eO (s1++(a,t')::s2):=by
 have e1:∀t:Att,eO (s1++(a,t)::s2)=eO s1++(Sum.inl a,U.str (enS t.en))::eO s2:=fun t=>by unfold eO;rw[List.map_append,List.map_cons]
 rw[e1,e1,e]
 refine Bi ?_
 rw[<-e1,iD]
 exact List.Pairwise.map _ (fun a b h e=>h (by cases e;rfl)) h
theorem Gg{j:Nat}(hj:j<4):(om (s1++(a,t)::s2))[4*s1.length+j]?=(blk t)[j]?:=by
 rw[iW,om,List.getElem?_append_right (by rw[g4];omega),g4,Nat.add_sub_cancel_left,List.getElem?_append_left (by simp[blk];omega)]
theorem Gf{j:Nat}{o:O}(hj:j<4)(h:(blk t).set j o=blk t'):(om (s1++(a,t)::s2)).set (4*s1.length+j) o=om (s1++(a,t')::s2):=by
 rw[iW,iW,om,om,List.set_append_right _ _ (by rw[g4];omega),g4,Nat.add_sub_cancel_left,List.set_append_left _ _ (by simp[blk];omega),h]
theorem jE{j:Nat}(hj:j<4):(crs c S (s1++(a,t)::s2))[S.length+(6+(4*s1.length+j))]?=(blk t)[j]?:=by
 unfold crs;rw[hgx,Gg hj]
theorem qJ{j:Nat}{o:O}(hj:j<4)(he:t.en=t'.en)(h:(blk t).set j o=blk t'):(crs c S (s1++(a,t)::s2)).set (S.length+(6+(4*s1.length+j))) o=crs c S (s1++(a,t')::s2):=by
 unfold crs
 rw[hsx,Gf hj h,zK he]
 simp only[sx (t:=t) (t':=t')]
theorem zX{d:Bool}(h:(ax (s1++(a,t)::s2)).Nodup):(crs c S (s1++(a,t)::s2)).set (S.length+1) (.dic (ik (eO (s1++(a,t)::s2)) (.inl a) (.str (px d))))=crs c S (s1++(a,{ t with en:=some d })::s2):=by
 unfold crs
 rw[hs1,Bh (t':={ t with en:=some d }) h rfl]
 simp only[sx (t:=t) (t':={ t with en:=some d })]
 congr 2
 rw[iW,iW];rfl
theorem fC{f:Att->Att}(h:(ax (s1++(a,t)::s2)).Nodup):Az (s1++(a,t)::s2) a f=s1++(a,f t)::s2:=by
 have h0:=h
 unfold ax at h
 rw[List.map_append,List.map_cons]at h
 have h1:=List.nodup_append.mp h
 have h2:=List.nodup_cons.mp h1.2.1
 unfold Az
 have keep:∀{l:St},a∉l.map (·.1)->(l.map fun p=>if p.1=a then(p.1,f p.2)else p)=l:=fun{l} hl=>by
  rw[List.map_congr_left (g:=id) fun p hp=>?_,List.map_id]
  rw[if_neg fun e=>hl (List.mem_map.mpr ⟨p,hp,e⟩)];rfl
 rw[List.map_append,List.map_cons,keep fun z=>h1.2.2 a z a List.mem_cons_self rfl,keep h2.1,if_pos rfl]
theorem bX{st:St}(h:aP st a=some t):∃s1 s2,st=s1++(a,t)::s2:=List.append_of_mem (kI h)
theorem cm{i:Nat}{u:U}{fus:List (Option U)}{Z:Sto}{l:Nat}(h:Z[l]?=some (.ins c fus))(hu:fus[i]?=some (some u)):jc c i (.ref l,Z)=some (u,Z):=by
 rw[CL,h,CK,hu];rfl
theorem Kr{co cv:CE}{cr:CA}{ρ:Rho}{Z Z1 Z2 Z3:Sto}{u:U}{l:Nat}{us:List U}{ks:List Key}{kus:List (List Key×U)}(h1:cv ρ Z=some (u,Z1))(h2:co ρ Z1=some (.ref l,Z2))(h3:cr ρ Z2=some (us,Z3))(h4:Z3[l]?=some (.dit kus))(h5:J5 us=some ks)(h6:kus.length<LIM)(h7:us.length<=LIM) :
  og co cr cv ρ Z=some (.nx,ρ,Z3.set l (.dit (ik kus ks u))):=by
 unfold og
 rw[h1,Option.bind_some,h2,Option.bind_some,h3,Option.bind_some]
 simp only[h4,h5,Option.bind_some]
 rw[if_pos ⟨h6,h7⟩]
theorem Bg(nd:List (Int×Int))(b x:Int):ik (sy nd) [.inl b,.inl x] (.bl true)=sy (xa nd (b,x)):=by
 have kk:∀p:Int×Int,([Sum.inl p.1,Sum.inl p.2]:List Key)=[.inl b,.inl x]↔p=(b,x):=fun p=>by
  obtain⟨p1,p2⟩:=p
  simp
 unfold ik xa
 have ha:((sy nd).any fun kv=>decide (kv.1=[Sum.inl b,Sum.inl x]))=decide ((b,x)∈nd):=by
  unfold sy
  induction nd with
  |nil=>rfl
  |cons p r ih=>
   simp only[List.map_cons,List.any_cons,ih,List.mem_cons,kk]
   by_cases e:p=(b,x)
   ·simp[e]
   ·simp[e,Ne.symm e]
 rw[ha]
 by_cases m:(b,x)∈nd
 ·rw[if_pos (decide_eq_true m),if_pos m]
  unfold sy
  rw[List.map_map]
  refine List.map_congr_left fun p _=>?_
  simp only[Function.comp]
  split<;>simp_all
 ·rw[if_neg (by simpa using m),if_neg m]
  simp[sy]
def As(c:Cl):Fn:=fnU 4 4 (bK c)
theorem yL{b x:Int}(h:(ax (s1++(a,t)::s2)).Nodup)(hl:t.lk.length<=10000)(hn:t.nd.length<=10000):As c [.ref S.length,.int a,.int b,.int x] (crs c S (s1++(a,t)::s2))=some (.non,crs c S (s1++(a,t.ev (.look a b x))::s2)):=by
 unfold As
 rw[lI]
 have g3:=jE (c:=c) (S:=S) (s1:=s1) (s2:=s2) (a:=a) (t:=t) (j:=3) (by omega)
 have g1:=jE (c:=c) (S:=S) (s1:=s1) (s2:=s2) (a:=a) (t:=t) (j:=1) (by omega)
 have v1:=fP (S:=S) (j:=1) h
 have v2:=fP (S:=S) (j:=2) h
 have v3:=fP (S:=S) (j:=3) h
 have f0:∀st:St,(crs c S st)[S.length]?=some (.ins c [some (.ref (S.length+1)),some (.ref (S.length+2)),some (.ref (S.length+3)),some (.ref (S.length+4)),some (.ref (S.length+5))]):=fun st=>hd0
 have f2:∀st:St,(crs c S st)[S.length+2]?=some (.dic (d6 S.length 1 st 0)):=fun st=>hd2
 have f3:∀st:St,(crs c S st)[S.length+3]?=some (.dic (d6 S.length 2 st 0)):=fun st=>hd3
 have f4:∀st:St,(crs c S st)[S.length+4]?=some (.dic (d6 S.length 3 st 0)):=fun st=>hd4
 have F1:∀st:St,jc c 1 (.ref S.length,crs c S st)=some (.ref (S.length+2),crs c S st):=fun st=>cm (f0 st) rfl
 have F2:∀st:St,jc c 2 (.ref S.length,crs c S st)=some (.ref (S.length+3),crs c S st):=fun st=>cm (f0 st) rfl
 have F3:∀st:St,jc c 3 (.ref S.length,crs c S st)=some (.ref (S.length+4),crs c S st):=fun st=>cm (f0 st) rfl
 have g3':(crs c S (s1++(a,t)::s2))[S.length+(6+(4*s1.length+3))]?=some (.dic (jU t.ps)):=g3
 have g1':(crs c S (s1++(a,t)::s2))[S.length+(6+(4*s1.length+1))]?=some (.lst (t.lk.map pU)):=g1
 cases hv:aP t.ps b with
 |some y=>
  have e:t.ev (.look a b x)=t:=by simp[Att.ev,hv]
  rw[e]
  rwa[bK,F3,f4,v3,g3',iN,hv,Option.map_some,Option.isSome_some,if_true]
 |none=>
  have e:t.ev (.look a b x)={ t with lk:=t.lk++[(b,x)],nd:=xa t.nd (b,x) }:=by simp[Att.ev,hv]
  rw[e]
  have hL:(t.lk.map pU).length<LIM:=by unfold LIM;rw[List.length_map];omega
  have s1':=qJ (c:=c) (S:=S) (s1:=s1) (s2:=s2) (a:=a) (t:=t) (t':={ t with lk:=t.lk++[(b,x)] }) (j:=1) (o:=.lst (t.lk.map pU++[pU (b,x)])) (by omega) rfl (by unfold blk;rw[List.map_append];rfl)
  have h':(ax (s1++(a,({ t with lk:=t.lk++[(b,x)] }:Att))::s2)).Nodup:=by unfold ax at h ⊢;rw[List.map_append,List.map_cons]at h ⊢;exact h
  have v2':=fP (S:=S) (j:=2) h'
  have g2:=jE (c:=c) (S:=S) (s1:=s1) (s2:=s2) (a:=a) (t:={ t with lk:=t.lk++[(b,x)] }) (j:=2) (by omega)
  have g2':(crs c S (s1++(a,({ t with lk:=t.lk++[(b,x)] }:Att))::s2))[S.length+(6+(4*s1.length+2))]?=some (.dit (sy t.nd)):=g2
  have s2':=qJ (c:=c) (S:=S) (s1:=s1) (s2:=s2) (a:=a) (t:={ t with lk:=t.lk++[(b,x)] }) (t':={ t with lk:=t.lk++[(b,x)],nd:=xa t.nd (b,x) }) (j:=2) (o:=.dit (sy (xa t.nd (b,x)))) (by omega) rfl rfl
  have e3:og (cOp fIx (fA c 2 (ah 0)) (ah 1)) (ab (ah 2) (ab (ah 3) aC)) (cC (.bl true)) [some (.ref S.length),some (.int a),some (.int b),some (.int x)] (crs c S (s1++(a,({ t with lk:=t.lk++[(b,x)] }:Att))::s2))=some (.nx,[some (.ref S.length),some (.int a),some (.int b),some (.int x)],crs c S (s1++(a,({ t with lk:=t.lk++[(b,x)],nd:=xa t.nd (b,x) }:Att))::s2)):=by
   rw[Kr (u:=.bl true) (us:=[.int b,.int x]) (ks:=[.inl b,.inl x]) (kus:=sy t.nd) (l:=S.length+(6+(4*s1.length+2))) (Z1:=crs c S (s1++(a,({ t with lk:=t.lk++[(b,x)] }:Att))::s2)) (Z2:=crs c S (s1++(a,({ t with lk:=t.lk++[(b,x)] }:Att))::s2)) (Z3:=crs c S (s1++(a,({ t with lk:=t.lk++[(b,x)] }:Att))::s2)) rfl ?_ rfl g2' rfl (by unfold LIM sy;rw[List.length_map];omega) (by unfold LIM;simp),Bg,s2']
   rwa[F2,f3,v2']
  have pu:pU (b,x)=.tup [.int b,.int x]:=rfl
  rw[pu]at s1'
  rwa[bK,F1,F3,f2,f4,v1,v3,g1',g3',iN,hv,rm hL,s1',e3,Option.map_none,Option.isSome_none,Bool.false_eq_true,if_true,if_false]
end
section
variable{c:Cl}{S:Sto}{s1 s2 st:St}{a:Int}{t t':Att}
theorem qA{o:Option Bool}:decide (enS o=("open":Str))=!o.isSome:=by
 cases o with
 |none=>exact decide_eq_true rfl
 |some d=>cases d<;>(simp only[enS,px,if_true,if_false,Bool.false_eq_true];decide +kernel)
theorem um{ep:Nat}{E L N P F:List (Key×U)}{X:Sto}(hE:E=eO st)(hk:(ax st).Nodup):∀(p r:St) (r0:Option U) (ys:List Int),st=p++r->ys.length+r.length<=1000->
  cQ (fun S'=>S'[S.length+1]?=some (.fdc ep E)) (gNm 0) (aI (cOp fNe (cOp fIx (fA c 0 (ah 1)) (ah 0)) (cC (.str "open")))) (ah 0) (S.length+(6+X.length)) ((eO r).map fun q=>kU q.1) [r0,some (.ref S.length)] ((S++(hd c S.length E L N P F++X)).set (S.length+1) (.fdc ep E)++[.lst (ys.map U.int)])
   = some ((S++(hd c S.length E L N P F++X)).set (S.length+1) (.fdc ep E)++[.lst ((ys++(r.filter fun p=>p.2.en.isSome).map (·.1)).map U.int)])
 |p,[],r0,ys,e,hl=>by
  have ok:((S++(hd c S.length E L N P F++X)).set (S.length+1) (.fdc ep E)++[O.lst (ys.map U.int)])[S.length+1]?=some (.fdc ep E):=ak (by rw[gss,hd1];rfl)
  simp only[List.filter_nil,List.map_nil,List.append_nil]
  exact pB ok
 |p,(b,t)::r,r0,ys,e,hl=>by
  have hk':(ax (p++(b,t)::r)).Nodup:=by rw[<-e];exact hk
  have ok:∀ys:List Int,((S++(hd c S.length E L N P F++X)).set (S.length+1) (.fdc ep E)++[O.lst (ys.map U.int)])[S.length+1]?=some (.fdc ep E):=fun ys=>ak (by rw[gss,hd1];rfl)
  have i0:((S++(hd c S.length E L N P F++X)).set (S.length+1) (.fdc ep E)++[O.lst (ys.map U.int)])[S.length]?=some (.ins c [some (.ref (S.length+1)),some (.ref (S.length+2)),some (.ref (S.length+3)),some (.ref (S.length+4)),some (.ref (S.length+5))]):=ak (by rw[gsn (by omega),hd0])
  have F0:jc c 0 (.ref S.length,(S++(hd c S.length E L N P F++X)).set (S.length+1) (.fdc ep E)++[O.lst (ys.map U.int)])=some (.ref (S.length+1),(S++(hd c S.length E L N P F++X)).set (S.length+1) (.fdc ep E)++[O.lst (ys.map U.int)]):=cm i0 rfl
  have vE:aP E (.inl b)=some (.str (enS t.en)):=by rw[hE,e];exact iO hk'
  have kk:kU (Sum.inl b)=.int b:=rfl
  have tst0:∀Z:Sto,jc c 0 (.ref S.length,Z)=some (.ref (S.length+1),Z)->Z[S.length+1]?=some (.fdc ep E)->(aI (cOp fNe (cOp fIx (fA c 0 (ah 1)) (ah 0)) (cC (.str "open")))) [some (.int b),some (.ref S.length)] Z=some (t.en.isSome,Z):=fun Z z1 z2=>by
   have z:(!decide (enS t.en=("open":Str)))=t.en.isSome:=by rw[qA,Bool.not_not]
   rwa[z1,z2,Hl,vE,z]
  have tst:=tst0 _ F0 (ok ys)
  have ln:((S++(hd c S.length E L N P F++X)).set (S.length+1) (.fdc ep E)).length=S.length+(6+X.length):=by rw[List.length_set,gK]
  simp only[eO,List.map_cons,kk]
  cases hs:t.en.isSome with
  |false=>
   have ih:=um (ep:=ep) (L:=L) (N:=N) (P:=P) (F:=F) (X:=X) hE hk (p++[(b,t)]) r (some (.int b)) ys (by rw[e];simp) (by simp at hl ⊢;omega)
   refine(sM (ok ys) rfl (by rw[<-hs];exact tst)).trans ?_
   rw[List.filter_cons_of_neg (by simpa using hs)]
   exact ih
  |true=>
   have ih:=um (ep:=ep) (L:=L) (N:=N) (P:=P) (F:=F) (X:=X) hE hk (p++[(b,t)]) r (some (.int b)) (ys++[b]) (by rw[e];simp) (by simp at hl ⊢;omega)
   refine(pA (x:=.int b) (ys:=ys.map U.int) (ok ys) rfl (by rw[<-hs];exact tst) rfl (by rw[<-ln,ga0];rfl) (by unfold LIM;simp at hl ⊢;omega)).trans ?_
   rw[List.filter_cons_of_pos (by simpa using hs)]
   have e5:((S++(hd c S.length E L N P F++X)).set (S.length+1) (.fdc ep E)++[O.lst (ys.map U.int)]).set (S.length+(6+X.length)) (.lst (ys.map U.int++[U.int b]))=(S++(hd c S.length E L N P F++X)).set (S.length+1) (.fdc ep E)++[.lst ((ys++[b]).map U.int)]:=by
    rw[<-ln,gs0,List.map_append];rfl
   rw[e5]
   refine ih.trans ?_
   simp
theorem Md(hk:(ax st).Nodup)(hl:st.length<=900)(x1:Option U):mV (fA c 0 (ah 0)) (gNm 0) (aI (cOp fNe (cOp fIx (fA c 0 (ah 1)) (ah 0)) (cC (.str "open")))) (ah 0) 1 [0] [some (.ref S.length),x1] (crs c S st)=some (.ref (S.length+(6+4*st.length)),crs c S st++[.lst ((oR st).bf.map U.int)]):=by
 have i0:(crs c S st)[S.length]?=some (.ins c [some (.ref (S.length+1)),some (.ref (S.length+2)),some (.ref (S.length+3)),some (.ref (S.length+4)),some (.ref (S.length+5))]):=hd0
 have F0:jc c 0 (.ref S.length,crs c S st)=some (.ref (S.length+1),crs c S st):=cm i0 rfl
 have ce:fA c 0 (ah 0) [some (.ref S.length),x1] (crs c S st)=some (.ref (S.length+1),crs c S st):=by rwa[F0]
 have ln:(crs c S st).length=S.length+(6+4*st.length):=by unfold crs;rw[gK,g4]
 have f1:(crs c S st)[S.length+1]?=some (.dic (eO st)):=hd1
 unfold mV z8
 rw[ce,Option.bind_some]
 simp only[f1]
 refine xN fun ep=>?_
 have h:=um (c:=c) (S:=S) (ep:=ep) (L:=d6 S.length 1 st 0) (N:=d6 S.length 2 st 0) (P:=d6 S.length 3 st 0) (F:=d6 S.length 0 st 0) (X:=om st) rfl hk [] st none [] rfl (by simp;omega)
 have e1:mQ 1 [0] [some (.ref S.length),x1]=[none,some (.ref S.length)]:=rfl
 rw[g4]at h
 rw[e1,ln]
 simp only[List.map_nil,List.nil_append]at h
 have h':cQ (fun S'=>S'[S.length+1]?=some (.fdc ep (eO st))) (gNm 0) (aI (cOp fNe (cOp fIx (fA c 0 (ah 1)) (ah 0)) (cC (.str "open")))) (ah 0) (S.length+(6+4*st.length)) ((eO st).map fun q=>kU q.1) [none,some (.ref S.length)] ((crs c S st).set (S.length+1) (.fdc ep (eO st))++[.lst []])=some ((crs c S st).set (S.length+1) (.fdc ep (eO st))++[.lst ((oR st).bf.map U.int)]):=h
 rw[h',Option.bind_some]
 have g:((crs c S st).set (S.length+1) (.fdc ep (eO st))++[O.lst ((oR st).bf.map U.int)])[S.length+1]?=some (.fdc ep (eO st)):=ak (by rw[gss,f1];rfl)
 simp only[g]
 have hlt:S.length+1<(crs c S st).length:=by omega
 rw[List.set_append_left _ _ (by simpa using hlt),List.set_set]
 congr 3
 unfold crs
 rw[hs1]
def hc(c:Cl)(S:Sto)(E L N P F:List (Key×U))(X:Sto):Sto:=S++(hd c S.length E L N P F++X)
section
variable{E L N P F E':List (Key×U)}{X Y:Sto}
theorem hc0:(hc c S E L N P F X)[S.length]?=some (.ins c [some (.ref (S.length+1)),some (.ref (S.length+2)),some (.ref (S.length+3)),some (.ref (S.length+4)),some (.ref (S.length+5))]):=hd0
theorem hc1:(hc c S E L N P F X)[S.length+1]?=some (.dic E):=hd1
theorem hc2:(hc c S E L N P F X)[S.length+2]?=some (.dic L):=hd2
theorem hc3:(hc c S E L N P F X)[S.length+3]?=some (.dic N):=hd3
theorem hc4:(hc c S E L N P F X)[S.length+4]?=some (.dic P):=hd4
theorem hc5:(hc c S E L N P F X)[S.length+5]?=some (.dic F):=hd5
theorem ht1:(hc c S E L N P F X).set (S.length+1) (.dic E')=hc c S E' L N P F X:=hs1
theorem ht2:(hc c S E L N P F X).set (S.length+2) (.dic E')=hc c S E E' N P F X:=hs2
theorem ht3:(hc c S E L N P F X).set (S.length+3) (.dic E')=hc c S E L E' P F X:=hs3
theorem ht4:(hc c S E L N P F X).set (S.length+4) (.dic E')=hc c S E L N E' F X:=hs4
theorem ht5:(hc c S E L N P F X).set (S.length+5) (.dic E')=hc c S E L N P E' X:=hs5
theorem hcl:(hc c S E L N P F X).length=S.length+(6+X.length):=gK
theorem hcA:hc c S E L N P F X++Y=hc c S E L N P F (X++Y):=Nt
end
def qU(c:Cl):Fn:=fnU 2 2 (dU c)
theorem zJ{B j:Nat}{p:Int×Att}:d6 B j (st++[p]) 0=d6 B j st 0++[(.inl p.1,.ref (B+(6+(4*st.length+j))))]:=by
 rw[lH,d6,Nat.zero_add];rfl
theorem vB{B j:Nat}:∀(s:St) (i:Nat),(d6 B j s i).length=s.length
 |[],_=>rfl
 |p::s,i=>by rw[d6,List.length_cons,vB s (i+1),List.length_cons]
theorem sN(hk:(ax st).Nodup)(ha:a∉ax st)(hl:st.length<=900):qU c [.ref S.length,.int a] (crs c S st)=some (.non,crs c S (st++[(a,oR st)])):=by
 unfold qU
 rw[oN]
 have B0:=Md (c:=c) (S:=S) hk hl (some (.int a))
 have pr:∀j,ik (d6 S.length j st 0) (.inl a) (.ref (S.length+(6+(4*st.length+j))))=d6 S.length j (st++[(a,oR st)]) 0:=fun j=>by
  rw[pZ (by rw[nZ];exact lT ha),zJ]
 have pe:ik (eO st) (.inl a) (.str "open")=eO (st++[(a,oR st)]):=by
  rw[pZ (by rw[iD];exact lT ha)]
  unfold eO;rw[List.map_append];rfl
 have lR:∀j,(d6 S.length j st 0).length<LIM:=fun j=>by rw[vB];unfold LIM;omega
 have lE:(eO st).length<LIM:=by unfold eO LIM;rw[List.length_map];omega
 have l0:(om st).length=4*st.length:=g4 st
 have l1:∀o:O,(om st++[o]).length=4*st.length+1:=fun o=>by rw[List.length_append,l0];rfl
 have l2:∀o o':O,(om st++[o,o']).length=4*st.length+2:=fun o o'=>by rw[List.length_append,l0];rfl
 have l3:∀o o' o'':O,(om st++[o,o',o'']).length=4*st.length+3:=fun o o' o''=>by rw[List.length_append,l0];rfl
 have F0:∀{E L N P F:List (Key×U)} {X:Sto},jc c 0 (.ref S.length,hc c S E L N P F X)=some (.ref (S.length+1),hc c S E L N P F X):=cm hc0 rfl
 have F1:∀{E L N P F:List (Key×U)} {X:Sto},jc c 1 (.ref S.length,hc c S E L N P F X)=some (.ref (S.length+2),hc c S E L N P F X):=cm hc0 rfl
 have F2:∀{E L N P F:List (Key×U)} {X:Sto},jc c 2 (.ref S.length,hc c S E L N P F X)=some (.ref (S.length+3),hc c S E L N P F X):=cm hc0 rfl
 have F3:∀{E L N P F:List (Key×U)} {X:Sto},jc c 3 (.ref S.length,hc c S E L N P F X)=some (.ref (S.length+4),hc c S E L N P F X):=cm hc0 rfl
 have F4:∀{E L N P F:List (Key×U)} {X:Sto},jc c 4 (.ref S.length,hc c S E L N P F X)=some (.ref (S.length+5),hc c S E L N P F X):=cm hc0 rfl
 have dT:∀(ρ:Rho) (Z:Sto),Ac ρ Z=some (.ref Z.length,Z++[.dit []]):=fun _ _=>rfl
 have fin:crs c S (st++[(a,oR st)])=hc c S (eO (st++[(a,oR st)])) (d6 S.length 1 (st++[(a,oR st)]) 0) (d6 S.length 2 (st++[(a,oR st)]) 0) (d6 S.length 3 (st++[(a,oR st)]) 0) (d6 S.length 0 (st++[(a,oR st)]) 0) (om st++[.lst ((oR st).bf.map U.int),.lst [],.dit [],.dic []]):=by
  unfold crs hc;rw[iW];rfl
 rw[fin]
 have p0:=pr 0
 have p1:=pr 1
 have p2:=pr 2
 have p3:=pr 3
 rw[Nat.add_zero]at p0
 have C0:crs c S st=hc c S (eO st) (d6 S.length 1 st 0) (d6 S.length 2 st 0) (d6 S.length 3 st 0) (d6 S.length 0 st 0) (om st):=rfl
 rw[C0]at B0 ⊢
 rwa[dU,B0,hcA,F0,F1,F2,F3,F4,hc1,hc2,hc3,hc4,hc5,ht1,ht2,ht3,ht4,ht5,lR,lE,if_true,p0,p1,p2,p3,pe,dT,hcl,l1,l2,l3]
def g7(c:Cl):Fn:=fnU 3 2 (aM (qU c) (As c) c)
theorem fB:decide (("look":Str)="begin")=false:=by decide +kernel
theorem gj:decide (("put":Str)="begin")=false:=by decide +kernel
theorem jP:decide (("put":Str)="look")=false:=by decide +kernel
theorem gT:decide (("done":Str)="begin")=false:=by decide +kernel
theorem kq:decide (("done":Str)="look")=false:=by decide +kernel
theorem gR:decide (("fall":Str)="begin")=false:=by decide +kernel
theorem ko:decide (("fall":Str)="look")=false:=by decide +kernel
def Few(st:St)(m:Nat):Prop:=st.length<=m/\∀p∈st,p.2.lk.length<=m/\p.2.nd.length<=m/\p.2.ps.length<=m
theorem zu{n w:Int}{e:Ev}{m:Nat}(hk:(ax st).Nodup)(ok:mF n w st e)(fw:Few st m)(hm:m<=900):g7 c [.ref S.length,e.u] (crs c S st)=some (.non,crs c S (stp st e)):=by
 unfold g7
 rw[jD]
 have i0:∀st:St,(crs c S st)[S.length]?=some (.ins c [some (.ref (S.length+1)),some (.ref (S.length+2)),some (.ref (S.length+3)),some (.ref (S.length+4)),some (.ref (S.length+5))]):=fun _=>hd0
 cases e with
 |beg a=>
  have h:=sN (c:=c) (S:=S) hk ok.2.2 (by have:=fw.1;omega)
  rwa[aM,Ev.u,j8,h,i0,stp]
 |look a b x=>
  obtain⟨_,t,h1,h2,_⟩:=ok
  obtain⟨s1,s2,rfl⟩:=bX h1
  obtain⟨q1,q2,q3⟩:=fw.2 _ (List.mem_append_right s1 List.mem_cons_self)
  dsimp only at q1 q2
  have h:=yL (c:=c) (S:=S) (b:=b) (x:=x) hk (by omega) (by omega)
  rwa[aM,Ev.u,fB,j8,h,i0,stp,Ev.at,fC hk]
 |put a b x=>
  obtain⟨_,t,h1,h2⟩:=ok
  obtain⟨s1,s2,rfl⟩:=bX h1
  obtain⟨q1,q2,q3⟩:=fw.2 _ (List.mem_append_right s1 List.mem_cons_self)
  dsimp only at q3
  have F3:jc c 3 (.ref S.length,crs c S (s1++(a,t)::s2))=some (.ref (S.length+4),crs c S (s1++(a,t)::s2)):=cm hd0 rfl
  have f4:(crs c S (s1++(a,t)::s2))[S.length+4]?=some (.dic (d6 S.length 3 (s1++(a,t)::s2) 0)):=hd4
  have v3:=fP (S:=S) (j:=3) hk
  have g3:(crs c S (s1++(a,t)::s2))[S.length+(6+(4*s1.length+3))]?=some (.dic (jU t.ps)):=jE (by omega)
  have lp:(jU t.ps).length<LIM:=by unfold jU LIM;rw[List.length_map];omega
  have s3:=qJ (c:=c) (S:=S) (s1:=s1) (s2:=s2) (a:=a) (t:=t) (t':=t.ev (.put a b x)) (j:=3) (o:=.dic (jU (ik t.ps b x))) (by omega) rfl rfl
  rwa[aM,Ev.u,gj,jP,j8,i0,F3,f4,v3,g3,lp,if_true,pY,s3,stp,Ev.at,fC hk]
 |fin d a=>
  obtain⟨t,h1,h2⟩:=ok
  obtain⟨s1,s2,rfl⟩:=bX h1
  have F0:jc c 0 (.ref S.length,crs c S (s1++(a,t)::s2))=some (.ref (S.length+1),crs c S (s1++(a,t)::s2)):=cm hd0 rfl
  have f1:(crs c S (s1++(a,t)::s2))[S.length+1]?=some (.dic (eO (s1++(a,t)::s2))):=hd1
  have lE:(eO (s1++(a,t)::s2)).length<LIM:=by have:=fw.1;unfold eO LIM;rw[List.length_map];omega
  have ce:=zX (c:=c) (S:=S) (d:=d) hk
  cases d with
  |true=>
   simp only[px,if_true]at ce
   rwa[aM,Ev.u,px,if_true,gT,kq,lP,i0,F0,f1,lE,ce,stp,Ev.at,Att.ev,fC hk]
  |false=>
   simp only[px,Bool.false_eq_true,if_false]at ce
   rwa[aM,Ev.u,px,Bool.false_eq_true,if_true,if_false,gR,ko,lO,i0,F0,f1,lE,ce,stp,Ev.at,Att.ev,fC hk]
def kH(c:Cl):Fn:=fnU 1 1 (eJ c)
theorem vC(hns:c.ns.length=5):oM c (kH c) [] S=some (.ref S.length,crs c S []):=by
 rw[CF,hns]
 have h:kH c [.ref S.length] (S++[.ins c (List.replicate 5 none)])=some (.non,crs c S []):=by
  unfold kH
  rw[qF]
  rwa[eJ,List.replicate,List.length_append]
  rfl
 rw[h]
 rfl
theorem zy{n w:Int}{e:Ev}{m:Nat}(hk:(ax st).Nodup)(ok:mF n w st e)(fw:Few st m):Few (stp st e) (m+1):=by
  obtain⟨f1,f2⟩:=fw
  cases e with
  | beg a=>
    refine⟨by simp[stp];omega,fun p hp=>?_⟩
    rcases List.mem_append.mp hp with z|z
    · obtain⟨q1,q2,q3⟩:=f2 p z;exact⟨by omega,by omega,by omega⟩
    · simp at z;subst z;simp[oR]
  | _=>
    refine⟨by simp[stp,Az];omega,fun p hp=>?_⟩
    simp only[stp,Az]at hp
    obtain⟨q,hq,rfl⟩:=List.mem_map.mp hp
    obtain⟨q1,q2,q3⟩:=f2 q hq
    split
    · simp only[Att.ev]
      first
      | (split
         · exact⟨by omega,by omega,by omega⟩
         · refine⟨by simp;omega,?_,by dsimp only;omega⟩
           dsimp only[xa]
           split
           · omega
           · simp;omega)
      |exact⟨by omega,by omega,Nat.le_trans (mR ..) (by omega)⟩
      |exact⟨by omega,by omega,by omega⟩
    · exact⟨by omega,by omega,by omega⟩
def dY(c:Cl):Fn:=fnU 3 1 (gG (g7 c) (kH c) c)
theorem n8{n w:Int}{x0:Option U}{ok:Sto->Prop}(hok:∀st,ok (crs c S st)):∀(es:List Ev) (st:St) (m:Nat) (r2:Option U),jJ n w st es->(ax st).Nodup->Few st m->m+es.length<=900->
  ∃r2',eA ok (gNm 2) (iX (g7 c) (kH c) c) (es.map Ev.u) [x0,some (.ref S.length),r2] (crs c S st)=some (.nx,[x0,some (.ref S.length),r2'],crs c S (aU st es))
 |[],st,m,r2,_,_,_,_=>⟨r2,cX (hok st)⟩
 |e::es,st,m,r2,lf,hk,fw,hm=>by
  rw[List.length_cons]at hm
  obtain⟨oke,lf'⟩:=lf
  obtain⟨r2',ih⟩:=n8 hok es (stp st e) (m+1) (some e.u) lf' (gy hk oke) (zy hk oke fw) (by omega)
  refine⟨r2',(eC (hok st) rfl ?_).trans ih⟩
  have h:=zu (c:=c) (S:=S) hk oke fw (by omega)
  have i0:(crs c S st)[S.length]?=some (.ins c [some (.ref (S.length+1)),some (.ref (S.length+2)),some (.ref (S.length+3)),some (.ref (S.length+4)),some (.ref (S.length+5))]):=hd0
  rwa[iX,i0,h]
theorem iE{n w:Int}{N:Nat}{evs:List Ev}{l:Nat}(hns:c.ns.length=5)(hl:S[l]?=some (.lst (evs.map Ev.u)))(lo:jJ n w [] evs)(he:evs.length<=900):dY c [.ref l] S=some (.ref S.length,crs c S (aU [] evs)):=by
 unfold dY
 rw[uf]
 have hok:∀st,(crs c S st)[l]?=some (.lst (evs.map Ev.u)):=fun st=>by unfold crs;exact ak hl
 obtain⟨r2,h⟩:=n8 (c:=c) (S:=S) (x0:=some (.ref l)) (ok:=fun S=>S[l]?=some (.lst (evs.map Ev.u))) hok evs [] 0 none lo (by simp[ax]) ⟨by simp,by simp⟩ (by omega)
 rwa[gG,vC hns,kC,iTp,hok,h]
end
def Dm(st:St)(a:Int):List (Int×Int):=((aP st a).map (·.lk)).getD []
def w6(st:St)(a:Int):List (Int×Int):=((aP st a).map (·.ps)).getD []
def mL(st:St)(a:Int):Option Bool:=(aP st a).bind (·.en)
section
variable{n w:Int}{st:St}{e:Ev}{a:Int}
theorem jr(ok:mF n w st (.beg a)):aP st a=none:=cq.mpr ok.2.2
theorem BX(h:a≠e.at):Dm (stp st e) a=Dm st a/\w6 (stp st e) a=w6 st a/\mL (stp st e) a=mL st a:=by
 unfold Dm w6 mL
 rw[bB h]
 exact⟨rfl,rfl,rfl⟩
theorem Ji(ok:mF n w st (.beg a)):Dm (stp st (.beg a)) a=Dm st a/\w6 (stp st (.beg a)) a=w6 st a/\mL (stp st (.beg a)) a=mL st a:=by
 unfold Dm w6 mL
 rw[dg ok.2.2,jr ok]
 exact⟨rfl,rfl,rfl⟩
theorem t4{t:Att}(h:aP st e.at=some t):Dm (stp st e) e.at=(t.ev e).lk/\w6 (stp st e) e.at=(t.ev e).ps/\mL (stp st e) e.at=(t.ev e).en:=by
 unfold Dm w6 mL
 rw[aZ h]
 exact⟨rfl,rfl,rfl⟩
end
theorem uE{κ α:Type}[DecidableEq κ]{ps:List (κ×α)}{k b:κ}{v:α}:aP (ik ps k v) b=if b=k then some v else aP ps b:=by
 by_cases m:k∈ps.map (·.1)
 ·unfold ik
  rw[if_pos (by obtain⟨p,hp,e⟩:=List.mem_map.mp m;exact List.any_eq_true.mpr ⟨p,hp,by simp[e]⟩)]
  induction ps with
  |nil=>simp at m
  |cons p r ih=>
   unfold aP at ih ⊢
   simp only[List.map_cons,List.find?_cons]
   by_cases e1:p.1=k
   ·simp only[e1,if_true]
    by_cases e2:b=k
    ·subst e2;simp
    ·rw[decide_eq_false (Ne.symm e2),if_neg e2]
     by_cases m':k∈r.map (·.1)
     ·have:=ih m'
      rw[if_neg e2]at this
      exact this
     ·rw[List.map_congr_left (g:=id) fun q hq=>?_,List.map_id]
      rw[if_neg fun z=>m' (List.mem_map.mpr ⟨q,hq,z⟩)];rfl
   ·simp only[e1,if_false]
    have m':k∈r.map (·.1):=by
     rcases List.mem_cons.mp m with z|z
     ·exact absurd z.symm e1
     ·exact z
    by_cases e2:p.1=b
    ·rw[decide_eq_true e2]
     have:b≠k:=fun z=>e1 (e2.trans z)
     rw[if_neg this]
    ·rw[decide_eq_false e2]
     exact ih m'
 ·rw[pZ m,kJ]
  by_cases e2:b=k
  ·subst e2;rw[cq.mpr m,if_pos rfl];simp[aP]
  ·rw[if_neg e2]
   cases aP ps b with
   |some x=>rfl
   |none=>simp[aP,Ne.symm e2]
theorem fW{α:Type}{ok:Sto->Prop}{gg:CG}{ct:CT}{ce:CE}{S:Sto}{f:α->U}{p:α->Bool}{v:α->U}{Rel:Rho->Prop}(hok:∀ys G,ok (S++(.lst ys::G))) :
  ∀(xs:List α) (ys:List U) (G:Sto) (ρ:Rho),Rel ρ->ys.length+xs.length<=9999->
  (∀x∈xs,∀ys G ρ,Rel ρ->∃ρ0 G1,Rel ρ0/\gg (f x) ρ (S++(.lst ys::G))=some (ρ0,S++(.lst ys::G))/\ct ρ0 (S++(.lst ys::G))=some (p x,S++(.lst ys::(G++G1)))/\
   (p x=true->∃G2,ce ρ0 (S++(.lst ys::(G++G1)))=some (v x,S++(.lst ys::(G++G1++G2)))))->
  ∃G',cQ ok gg ct ce S.length (xs.map f) ρ (S++(.lst ys::G))=some (S++(.lst (ys++(xs.filter p).map v)::(G++G')))
 |[],ys,G,ρ,_,_,_=>⟨[],by simp only[List.map_nil,List.filter_nil,List.append_nil];exact pB (hok ys G)⟩
 |x::xs,ys,G,ρ,hr,hl,hb=>by
  rw[List.length_cons]at hl
  obtain⟨ρ0,G1,r0,h1,h2,h3⟩:=hb x List.mem_cons_self ys G ρ hr
  have hb':=fun x (hx:x∈xs)=>hb x (List.mem_cons_of_mem _ hx)
  cases hp:p x with
  |false=>
   rw[hp]at h2
   obtain⟨G',h⟩:=fW hok xs ys (G++G1) ρ0 r0 (by omega) hb'
   refine⟨G1++G',?_⟩
   rw[List.map_cons,List.filter_cons_of_neg (by simp[hp])]
   refine(sM (hok ys G) h1 h2).trans ?_
   rw[h,List.append_assoc]
  |true=>
   rw[hp]at h2
   obtain⟨G2,h4⟩:=h3 hp
   obtain⟨G',h⟩:=fW hok xs (ys++[v x]) (G++G1++G2) ρ0 r0 (by simp;omega) hb'
   refine⟨G1++(G2++G'),?_⟩
   rw[List.map_cons,List.filter_cons_of_pos hp]
   refine(pA (hok ys G) h1 h2 h4 (by rw[ga0];rfl) (by unfold LIM;omega)).trans ?_
   rw[gs0]
   simp only[List.set_cons_zero]
   rw[h]
   simp only[List.map_cons,List.append_assoc,List.cons_append,List.nil_append]
theorem mT{α:Type}{ok:Sto->Prop}{gg:CG}{ce:CE}{S:Sto}{f:α->U}{v:α->U}{Rel:Rho->Prop}(hok:∀ys G,ok (S++(.lst ys::G))) :
  ∀(xs:List α) (ys:List U) (G:Sto) (ρ:Rho),Rel ρ->ys.length+xs.length<=9999->
  (∀x∈xs,∀ys G ρ,Rel ρ->∃ρ0 G1,Rel ρ0/\gg (f x) ρ (S++(.lst ys::G))=some (ρ0,S++(.lst ys::G))/\ce ρ0 (S++(.lst ys::G))=some (v x,S++(.lst ys::(G++G1))))->
  ∃G',iT ok gg ce S.length (xs.map f) ρ (S++(.lst ys::G))=some (S++(.lst (ys++xs.map v)::(G++G')))
 |[],ys,G,ρ,_,_,_=>⟨[],by simp only[List.map_nil,List.append_nil];exact lJ (hok ys G)⟩
 |x::xs,ys,G,ρ,hr,hl,hb=>by
  rw[List.length_cons]at hl
  obtain⟨ρ0,G1,r0,h1,h2⟩:=hb x List.mem_cons_self ys G ρ hr
  obtain⟨G',h⟩:=mT hok xs (ys++[v x]) (G++G1) ρ0 r0 (by simp;omega) (fun x hx=>hb x (List.mem_cons_of_mem _ hx))
  refine⟨G1++G',?_⟩
  rw[List.map_cons]
  refine(jF (hok ys G) h1 h2 (by rw[ga0];rfl) (by unfold LIM;omega)).trans ?_
  rw[gs0]
  simp only[List.set_cons_zero]
  rw[h]
  simp only[List.map_cons,List.append_assoc,List.cons_append,List.nil_append]
def fM:Ev->Bool
 |.beg _=>true
 |_=>false
def LkI(n:Int)(st:St):Prop:=∀a t,aP st a=some t->(∀p∈t.lk,0<=p.1/\p.1<n)/\∀p,p∈t.nd↔p∈t.lk
theorem BS{nd:List (Int×Int)}{p q:Int×Int}:p∈xa nd q↔p∈nd\/p=q:=by
 unfold xa
 split
 ·exact⟨.inl,fun h=>h.elim id fun e=>e▸‹_›⟩
 ·simp
theorem Ft{n w:Int}{st:St}{e:Ev}(ok:mF n w st e)(h:LkI n st):LkI n (stp st e):=by
 intro a t ht
 by_cases ea:a=e.at
 ·cases e with
  |beg b=>
   have eb:a=b:=ea
   subst eb
   rw[dg ok.2.2]at ht
   cases ht
   simp[oR]
  |look b1 b2 b3=>
   have eb:a=b1:=ea
   subst eb
   obtain⟨bd,t0,t1,t2,t3⟩:=id ok
   have:=aZ (e:=.look a b2 b3) t1
   simp only[Ev.at]at this
   rw[this]at ht;cases ht
   obtain⟨h1,h2⟩:=h a t0 t1
   simp only[Att.ev]
   split
   ·exact⟨h1,h2⟩
   ·refine⟨fun p hp=>?_,fun p=>by rw[BS,h2];simp⟩
    rcases List.mem_append.mp hp with z|z
    ·exact h1 p z
    ·simp at z;subst z;exact⟨bd.1,bd.2.1⟩
  |put b1 b2 b3=>
   have eb:a=b1:=ea
   subst eb
   obtain⟨_,t0,t1,t2⟩:=id ok
   have:=aZ (e:=.put a b2 b3) t1
   simp only[Ev.at]at this
   rw[this]at ht;cases ht
   exact h a t0 t1
  |fin d b1=>
   have eb:a=b1:=ea
   subst eb
   obtain⟨t0,t1,t2⟩:=id ok
   have:=aZ (e:=.fin d a) t1
   simp only[Ev.at]at this
   rw[this]at ht;cases ht
   exact h a t0 t1
 ·rw[bB ea]at ht
  exact h a t ht
theorem yX{n w:Int}:∀(es:List Ev) (st:St),jJ n w st es->LkI n st->LkI n (aU st es)
 |[],st,_,h=>h
 |e::es,st,lf,h=>yX es (stp st e) lf.2 (Ft lf.1 h)
theorem Nq{n:Int}:LkI n []:=fun a t h=>by simp[aP]at h
def chg(st:St)(a:Int)(x:List Int):List Int:=if mL st a=some true then beh x (w6 st a) 0 else x
def w8(x:List Int)(p:Int×Int):Bool:=decide (x.getD p.1.toNat 0=p.2)
theorem qB{o:Option Bool}:decide (enS o=("done":Str))=decide (o=some true):=by
 rcases o with _|_|_<;>decide +kernel
theorem DO(x:List Int):wM (x.map U.int)=x.zipIdx.map fun p=>.tup [.int p.2,.int p.1]:=by
 unfold wM
 rw[List.zipIdx_map,List.map_map]
 rfl
section
variable{c:Cl}{n w:Int}{S G:Sto}{st:St}{a:Int}{t:Att}{x:List Int}
theorem cF{i:Nat}{u:U}(h:[some (U.ref (S.length+1)),some (.ref (S.length+2)),some (.ref (S.length+3)),some (.ref (S.length+4)),some (.ref (S.length+5))][i]?=some (some u)):jc c i (.ref S.length,crs c S st++G)=some (u,crs c S st++G):=cm (ak hd0) h
theorem cB{j:Nat}(hj:j<4)(h:aP st a=some t)(hk:(ax st).Nodup):∃r,aP (d6 S.length j st 0) (.inl a)=some (.ref r)/\∀G,(crs c S st++G)[r]?=(blk t)[j]?:=by
 obtain⟨s1,s2,rfl⟩:=bX h
 refine⟨_,fP hk,fun G=>?_⟩
 have:=jE (c:=c) (S:=S) (s1:=s1) (s2:=s2) (a:=a) (t:=t) hj
 have hs:∃o,(blk t)[j]?=some o:=by
  have:j<(blk t).length:=by simpa [blk] using hj
  exact⟨_,List.getElem?_eq_getElem this⟩
 obtain⟨o,ho⟩:=hs
 rw[ho]at this ⊢
 exact ak this
def Av(c:Cl):Fn:=fnU 4 3 (pF c)
def yZ(x:List Int):List (Int×Int)->Option U->Option U
 |[],r=>r
 |p::nd,_=>if w8 x p then yZ x nd (some (.tup [.int p.1,.int p.2]))else some (.tup [.int p.1,.int p.2])
theorem su{Z:Sto}{ok:Sto->Prop}(hz:ok Z){r0 r1:Option U}(hx:x.length=n.toNat):∀(nd:List (Int×Int)) (r3:Option U),(∀p∈nd,0<=p.1/\p.1<n)->
  eA ok (gNm 3) (lM c) ((sy nd).map fun q=>.tup (q.1.map kU)) [r0,r1,some (.tup (x.map U.int)),r3] Z=some (if nd.all (w8 x)then .nx else .rt (.bl false),[r0,r1,some (.tup (x.map U.int)),yZ x nd r3],Z)
 |[],r3,_=>cX hz
 |p::nd,r3,hb=>by
  obtain⟨b0,b1⟩:=hb p List.mem_cons_self
  have kk:([Sum.inl p.1,Sum.inl p.2]:List Key).map kU=[.int p.1,.int p.2]:=rfl
  have hf:atI (x.map U.int) p.1=some (.int (x.getD p.1.toNat 0)):=atF hx b0 b1
  cases e:w8 x p with
  |true=>
   have ih:=su (r0:=r0) (r1:=r1) hz hx nd (some (.tup [.int p.1,.int p.2])) (fun q hq=>hb q (List.mem_cons_of_mem _ hq))
   rw[List.all_cons,e,Bool.true_and,yZ,if_pos e]
   refine(eC hz rfl ?_).trans ih
   have de:decide (x.getD p.1.toNat 0=p.2)=true:=e
   rwa[lM,kk,hf,de]
  |false=>
   rw[List.all_cons,e,Bool.false_and,if_neg Bool.false_ne_true,yZ,if_neg (by rw[e];exact Bool.false_ne_true)]
   refine qj hz rfl ?_
   have de:decide (x.getD p.1.toNat 0=p.2)=false:=e
   rwa[lM,kk,hf,de]
theorem uJ{Z:Sto}{r:Nat}{o o':O}(h:Z[r]?=some o):(Z.set r o').set r o=Z:=by
 rw[List.set_set]
 refine List.ext_getElem? fun i=>?_
 rw[List.getElem?_set]
 split
 ·subst i
  obtain⟨h1,h2⟩:=List.getElem?_eq_some_iff.mp h
  simp[h1,h2]
 ·rfl
theorem FT(hk:(ax st).Nodup)(hv:aP st a=some t)(hb:∀p∈t.nd,0<=p.1/\p.1<n)(hx:x.length=n.toNat) :
  Av c [.ref S.length,.int a,.tup (x.map U.int)] (crs c S st++G)=some (.bl (t.nd.all (w8 x)),crs c S st++G):=by
 unfold Av
 rw[JQ]
 obtain⟨r,v2,g2⟩:=cB (c:=c) (S:=S) (j:=2) (by omega) hv hk
 have f3:(crs c S st++G)[S.length+3]?=some (.dic (d6 S.length 2 st 0)):=ak hd3
 have F2:jc c 2 (.ref S.length,crs c S st++G)=some (.ref (S.length+3),crs c S st++G):=cF rfl
 have gr:(crs c S st++G)[r]?=some (.dit (sy t.nd)):=g2 G
 have hr:r<(crs c S st++G).length:=(List.getElem?_eq_some_iff.mp gr).1
 have hfor:Aa (cOp fIx (fA c 2 (ah 0)) (ah 1)) (gNm 3) (lM c) [some (.ref S.length),some (.int a),some (.tup (x.map U.int)),none] (crs c S st++G)=some (if t.nd.all (w8 x)then .nx else .rt (.bl false),[some (.ref S.length),some (.int a),some (.tup (x.map U.int)),yZ x t.nd none],crs c S st++G):=by
  have h0:cOp fIx (fA c 2 (ah 0)) (ah 1) [some (.ref S.length),some (.int a),some (.tup (x.map U.int)),none] (crs c S st++G)=some (.ref r,crs c S st++G):=by
   rwa[F2,f3,v2]
  unfold Aa
  rw[h0,Option.bind_some]
  simp only[gr]
  refine xN fun ep=>?_
  have key:=su (c:=c) (n:=n) (x:=x) (r0:=some (.ref S.length)) (r1:=some (.int a)) (Z:=(crs c S st++G).set r (.fdt ep (sy t.nd))) (ok:=fun S'=>S'[r]?=some (.fdt ep (sy t.nd))) (by rw[List.getElem?_set,if_pos rfl,if_pos hr]) hx t.nd none hb
  rw[key,Option.bind_some]
  have e1:((crs c S st++G).set r (.fdt ep (sy t.nd)))[r]?=some (.fdt ep (sy t.nd)):=by rw[List.getElem?_set,if_pos rfl,if_pos hr]
  simp only[e1,uJ gr]
 cases hc:t.nd.all (w8 x)with
 |true=>
  rw[hc,if_pos rfl]at hfor
  rwa[pF,hfor]
 |false=>
  rw[hc,if_neg Bool.false_ne_true]at hfor
  rwa[pF,hfor]
def Kl(c:Cl):Fn:=fnU 3 3 (d7 c)
theorem Lk(hk:(ax st).Nodup)(hv:aP st a=some t)(hx:x.length<=100) :
  ∃G',Kl c [.ref S.length,.int a,.tup (x.map U.int)] (crs c S st++G)=some (.tup ((chg st a x).map U.int),crs c S st++(G++G')):=by
 unfold Kl
 rw[sA]
 have f1:∀G,(crs c S st++G)[S.length+1]?=some (.dic (eO st)):=fun G=>ak hd1
 have F0:∀G,jc c 0 (.ref S.length,crs c S st++G)=some (.ref (S.length+1),crs c S st++G):=fun G=>cF rfl
 have v0:aP (eO st) (.inl a)=some (.str (enS t.en)):=by
  obtain⟨s1,s2,rfl⟩:=bX hv
  exact iO hk
 have he:mL st a=t.en:=by unfold mL;rw[hv];rfl
 have hp:w6 st a=t.ps:=by unfold w6;rw[hv];rfl
 by_cases hd:t.en=some true
 ·have hch:chg st a x=beh x t.ps 0:=by unfold chg;rw[he,if_pos hd,hp]
  obtain⟨r,v3,g3⟩:=cB (c:=c) (S:=S) (j:=3) (by omega) hv hk
  have f4:∀G,(crs c S st++G)[S.length+4]?=some (.dic (d6 S.length 3 st 0)):=fun G=>ak hd4
  have F3:∀G,jc c 3 (.ref S.length,crs c S st++G)=some (.ref (S.length+4),crs c S st++G):=fun G=>cF rfl
  have g3':∀G,(crs c S st++G)[r]?=some (.dic (jU t.ps)):=g3
  obtain⟨G',h⟩:=mT (S:=crs c S st++G) (ok:=fun _=>True) (gg:=gTp [0,1]) (ce:=qL (cOp fIx (fA c 3 (ah 3)) (ah 2)) (ah 0) (ah 1)) (f:=fun p:Int×Nat=>.tup [.int p.2,.int p.1]) (v:=fun p=>.int ((aP t.ps (p.2:Int)).getD p.1)) (Rel:=fun ρ=>∃r0 r1,ρ=[r0,r1,some (.int a),some (.ref S.length)]) (fun _ _=>trivial) x.zipIdx [] [] [none,none,some (.int a),some (.ref S.length)] ⟨_,_,rfl⟩ (by simp;omega) (fun p hp ys G2 ρ hρ=>by
   obtain⟨r0,r1,rfl⟩:=hρ
   refine⟨[some (.int p.2),some (.int p.1),some (.int a),some (.ref S.length)],[],⟨_,_,rfl⟩,rfl,?_⟩
   have hv2:((aP t.ps (p.2:Int)).map U.int).getD (.int p.1)=.int ((aP t.ps (p.2:Int)).getD p.1):=by cases aP t.ps (p.2:Int)<;>rfl
   rwa[F3,f4,v3,g3',iN,hv2,List.append_nil])
  have eb:(x.zipIdx.map fun p=>U.int ((aP t.ps (p.2:Int)).getD p.1))=(beh x t.ps 0).map U.int:=by unfold beh;rw[List.map_map];rfl
  rw[eb,<-DO]at h
  simp only[List.nil_append,List.append_assoc]at h
  refine⟨.lst ((beh x t.ps 0).map U.int)::G',?_⟩
  have es:∀Z:Sto,Gw (.tup (x.map U.int)) Z=some (x.map U.int,fun _=>True):=fun _=>rfl
  have gz:∀Z:Sto,(crs c S st++(G++Z))[(crs c S st++G).length]?=Z[0]?:=fun Z=>by
   have:=ga0 (S:=crs c S st++G) (X:=Z)
   simp only[List.append_assoc]at this
   exact this
  rw[hch]
  rwa[d7,F0,f1,v0,qB,hd,fT,zi,es,mQ,List.replicate,Option.getD_some,h,gz]
 ·have hch:chg st a x=x:=by unfold chg;rw[he,if_neg hd]
  refine⟨[],?_⟩
  rw[hch]
  rwa[d7,F0,f1,v0,qB,hd,List.append_nil]
theorem F8{a:Int}:(chg st a x).length=x.length:=by unfold chg;split<;>simp[Ai]
end
def AD(st:St)(every:Bool)(a:Int):Bool:=every||decide (mL st a=some true)
def gN(st:St)(every:Bool):List Int:=(bS (ax st)).filter (AD st every)
def fS(st:St)(every:Bool)(t:Att):List Int:=t.bf.filter (AD st every)
section
variable{c cA:Cl}{n w:Int}{S G:Sto}{st:St}{a:Int}{t:Att}{x:List Int}{every:Bool}
theorem hJ(h:a∈ax st):∃t,aP st a=some t:=by
 cases hv:aP st a with
 |some t=>exact⟨t,rfl⟩
 |none=>exact absurd h (cq.mp hv)
theorem Es(h:aP st a=some t):a∈ax st:=Classical.byContradiction fun z=>by
 have:=cq.mpr z
 rw[h]at this;cases this
def ig(c:Cl):Fn:=fnU 3 3 (fX c)
theorem vi(hk:(ax st).Nodup)(hv:aP st a=some t):ig c [.ref S.length,.bl every,.int a] (crs c S st++G)=some (.bl (AD st every a),crs c S st++G):=by
 unfold ig
 rw[wQ]
 have f1:(crs c S st++G)[S.length+1]?=some (.dic (eO st)):=ak hd1
 have F0:jc c 0 (.ref S.length,crs c S st++G)=some (.ref (S.length+1),crs c S st++G):=cF rfl
 have v0:aP (eO st) (.inl a)=some (.str (enS t.en)):=by
  obtain⟨s1,s2,rfl⟩:=bX hv
  exact iO hk
 have he:mL st a=t.en:=by unfold mL;rw[hv];rfl
 cases every with
 |true=>
  have e:AD st true a=true:=rfl
  rw[e]
  rwa[fX]
 |false=>
  have e:AD st false a=decide (t.en=some true):=by unfold AD;rw[he,Bool.false_or]
  rw[e]
  rwa[fX,F0,f1,v0,qB]
theorem lS:∀st:St,wk (eO st)=some (ax st)
 |[]=>rfl
 |p::r=>by
  have ih:=lS r
  unfold eO ax at ih ⊢
  rw[List.map_cons,wk,ih];rfl
def jI(c:Cl):Fn:=fnU 2 2 (iH (ig c) c)
theorem wW(hk:(ax st).Nodup)(hl:st.length<64):∃G' k,jI c [.ref S.length,.bl every] (crs c S st++G)=some (.ref ((crs c S st++G).length+k),crs c S st++(G++G'))/\G'[k]?=some (.lst ((gN st every).map U.int)):=by
 unfold jI
 rw[wU]
 have f1:(crs c S st++G)[S.length+1]?=some (.dic (eO st)):=ak hd1
 have F0:jc c 0 (.ref S.length,crs c S st++G)=some (.ref (S.length+1),crs c S st++G):=cF rfl
 have hlk:(ax st).length<64:=by unfold ax;rw[List.length_map];exact hl
 have hs:fh [.ref (S.length+1)] (crs c S st++G)=some (.ref (crs c S st++G).length,crs c S st++G++[.lst ((bS (ax st)).map U.int)]):=by
  simp only[fh,f1,lS,Option.bind_some,hlk,if_true]
 have hsl:(bS (ax st)).length<64:=by rw[(cu _).length_eq];exact hlk
 obtain⟨G',h⟩:=fW (S:=crs c S st++G++[.lst ((bS (ax st)).map U.int)]) (ok:=fun Y=>Y[(crs c S st++G).length]?=some (.lst ((bS (ax st)).map U.int))) (gg:=gNm 0) (ct:=aI (cCB (ig c) (ab (ah 1) (ab (ah 2) (ab (ah 0) aC))))) (ce:=ah 0) (f:=U.int) (p:=AD st every) (v:=U.int) (Rel:=fun ρ=>∃r0,ρ=[r0,some (.ref S.length),some (.bl every)]) (fun ys G=>ak (by rw[ga0];rfl)) (bS (ax st)) [] [] [none,some (.ref S.length),some (.bl every)] ⟨_,rfl⟩ (by simp;omega) (fun b hb ys G2 ρ hρ=>by
   obtain⟨r0,rfl⟩:=hρ
   obtain⟨t,hv⟩:=hJ ((cu _).mem_iff.mp hb)
   have h1:=vi (c:=c) (S:=S) (G:=G++([.lst ((bS (ax st)).map U.int)]++(.lst ys::G2))) (every:=every) hk hv
   simp only[List.cons_append,List.nil_append]at h1
   refine⟨[some (.int b),some (.ref S.length),some (.bl every)],[],⟨_,rfl⟩,rfl,?_,fun _=>⟨[],?_⟩⟩
   ·rwa[h1,List.append_nil]
   ·rwa[List.append_nil])
 refine⟨[.lst ((bS (ax st)).map U.int)]++(.lst ((gN st every).map U.int)::G'),1,?_,rfl⟩
 have g0:(crs c S st++G++[O.lst ((bS (ax st)).map U.int)])[(crs c S st++G).length]?=some (.lst ((bS (ax st)).map U.int)):=by rw[ga0];rfl
 have hc:cCB fh (ab (fA c 0 (ah 0)) aC) [some (.ref S.length),some (.bl every)] (crs c S st++G)=some (.ref (crs c S st++G).length,crs c S st++G++[.lst ((bS (ax st)).map U.int)]):=by
  rwa[F0]
  rw[hs]
  simp only[List.append_assoc]
 have hcomp:bT (iTp (cCB fh (ab (fA c 0 (ah 0)) aC))) (gNm 0) (aI (cCB (ig c) (ab (ah 1) (ab (ah 2) (ab (ah 0) aC))))) (ah 0) 1 [0,1] [some (.ref S.length),some (.bl every)] (crs c S st++G)=some (.ref ((crs c S st++G).length+1),crs c S st++G++[.lst ((bS (ax st)).map U.int)]++(.lst ((gN st every).map U.int)::G')):=by
  unfold bT iTp
  rw[hc,Option.bind_some]
  have ln:(crs c S st++G++[O.lst ((bS (ax st)).map U.int)]).length=(crs c S st++G).length+1:=by rw[List.length_append];rfl
  rw[ln]at h
  simp only[List.nil_append]at h
  simp only[g0,Option.bind_some,mQ,List.replicate,List.map_cons,List.map_nil,List.getElem?_cons_zero,List.getElem?_cons_succ,Option.getD_some,List.cons_append,List.nil_append,ln,h]
  rfl
 rwa[iH,hcomp]
end
def BfI(st:St):Prop:=∀a t,aP st a=some t->(∀b∈t.bf,b∈ax st/\b≠a)/\t.bf.Nodup
theorem bf0{st:St}:(oR st).bf=(st.filter fun p=>p.2.en.isSome).map (·.1):=rfl
theorem Gh{n w:Int}{st:St}{e:Ev}(hk:(ax st).Nodup)(ok:mF n w st e)(h:BfI st):BfI (stp st e):=by
 have sub:∀b,b∈ax st->b∈ax (stp st e):=fun b hb=>by
  rw[lz]
  cases e with
  |beg a=>exact List.mem_append_left _ hb
  |_=>exact hb
 intro a t ht
 by_cases ea:a=e.at
 ·cases e with
  |beg b=>
   have eb:a=b:=ea
   subst eb
   rw[dg ok.2.2]at ht
   cases ht
   rw[bf0]
   refine⟨fun b hb=>?_,?_⟩
   ·obtain⟨p,hp,rfl⟩:=List.mem_map.mp hb
    have hm:p.1∈ax st:=List.mem_map.mpr ⟨p,(List.mem_filter.mp hp).1,rfl⟩
    exact⟨sub _ hm,fun z=>ok.2.2 (z▸hm)⟩
   ·have:((st.filter fun p=>p.2.en.isSome).map (·.1)).Sublist (st.map (·.1)):=List.Sublist.map _ List.filter_sublist
    exact List.Nodup.sublist this hk
  |look b1 b2 b3=>
   have eb:a=b1:=ea
   subst eb
   obtain⟨bd,t0,t1,t2,t3⟩:=id ok
   have:=aZ (e:=.look a b2 b3) t1
   simp only[Ev.at]at this
   rw[this]at ht;cases ht
   have q:=h a t0 t1
   have e1:(t0.ev (.look a b2 b3)).bf=t0.bf:=by simp only[Att.ev];split<;>rfl
   rw[e1]
   exact⟨fun b hb=>⟨sub b (q.1 b hb).1,(q.1 b hb).2⟩,q.2⟩
  |put b1 b2 b3=>
   have eb:a=b1:=ea
   subst eb
   obtain⟨_,t0,t1,t2⟩:=id ok
   have:=aZ (e:=.put a b2 b3) t1
   simp only[Ev.at]at this
   rw[this]at ht;cases ht
   have q:=h a t0 t1
   exact⟨fun b hb=>⟨sub b (q.1 b hb).1,(q.1 b hb).2⟩,q.2⟩
  |fin d b1=>
   have eb:a=b1:=ea
   subst eb
   obtain⟨t0,t1,t2⟩:=id ok
   have:=aZ (e:=.fin d a) t1
   simp only[Ev.at]at this
   rw[this]at ht;cases ht
   have q:=h a t0 t1
   exact⟨fun b hb=>⟨sub b (q.1 b hb).1,(q.1 b hb).2⟩,q.2⟩
 ·rw[bB ea]at ht
  have q:=h a t ht
  exact⟨fun b hb=>⟨sub b (q.1 b hb).1,(q.1 b hb).2⟩,q.2⟩
theorem qN{n w:Int}:∀(es:List Ev) (st:St),jJ n w st es->(ax st).Nodup->BfI st->BfI (aU st es)
 |[],st,_,_,h=>h
 |e::es,st,lf,hk,h=>qN es (stp st e) lf.2 (gy hk lf.1) (Gh hk lf.1 h)
theorem Me:BfI []:=fun a t h=>by simp[aP]at h
theorem vK{st:St}(hk:(ax st).Nodup)(h:BfI st){a:Int}{t:Att}(hv:aP st a=some t):t.bf.length<=st.length:=by
 have:=List.Nodup.length_le_of_subset (h a t hv).2 (l₂:=ax st) fun b hb=>((h a t hv).1 b hb).1
 unfold ax at this
 rwa[List.length_map]at this
section
variable{c cA:Cl}{n w:Int}{S G:Sto}{st:St}{a:Int}{t:Att}{x:List Int}{every:Bool}
def qV(c cA:Cl):Fn:=fnU 4 3 (eK (jI c) (ig c) cA c)
def Gr(st:St)(every:Bool)(B:Nat)(as:List Int)(D:List (Key×U))(R:Sto):Prop:=∀a t,a∈as->aP st a=some t->∃r,aP D (.inl a)=some (.ref (B+r))/\R[r]?=some (.lst ((fS st every t).map U.int))
theorem yM{Z R:Sto}{D:List (Key×U)}{fus:List (Option U)}{L B:Nat}(hk:(ax st).Nodup)(bi:BfI st)(hl:st.length<=100)(hv:aP st a=some t)(hZ:∃C,Z=crs c S st++C)(hL:Z[L]?=some (.ins cA fus))(hf:fus[2]?=some (some (.ref Z.length)))(hD:D.length<1000) :
  ∃R',eM (jI c) (ig c) cA c [some (.ref L),some (.ref S.length),some (.bl every),some (.int a)] (Z++(.dic D::R))=some (.nx,[some (.ref L),some (.ref S.length),some (.bl every),some (.int a)],Z++(.dic (ik D (.inl a) (.ref (Z.length+1+R.length)))::(R++(.lst ((fS st every t).map U.int)::R')))):=by
 obtain⟨C,rfl⟩:=hZ
 obtain⟨r,v0,g0⟩:=cB (c:=c) (S:=S) (j:=0) (by omega) hv hk
 have F4:jc c 4 (.ref S.length,crs c S st++(C++(.dic D::R)))=some (.ref (S.length+5),crs c S st++(C++(.dic D::R))):=cF rfl
 have f5:(crs c S st++(C++(O.dic D::R)))[S.length+5]?=some (.dic (d6 S.length 0 st 0)):=ak hd5
 have gr:∀X,(crs c S st++X)[r]?=some (.lst (t.bf.map U.int)):=g0
 have bl:=vK hk bi hv
 obtain⟨R',h⟩:=fW (S:=crs c S st++C++(.dic D::R)) (ok:=fun Y=>Y[r]?=some (.lst (t.bf.map U.int))) (gg:=gNm 0) (ct:=aI (cCB (ig c) (ab (ah 1) (ab (ah 2) (ab (ah 0) aC))))) (ce:=ah 0) (f:=U.int) (p:=AD st every) (v:=U.int) (Rel:=fun ρ=>∃r0,ρ=[r0,some (.ref S.length),some (.bl every)]) (fun ys G=>by rw[List.append_assoc,List.append_assoc];exact gr _) t.bf [] [] [none,some (.ref S.length),some (.bl every)] ⟨_,rfl⟩ (by simp;omega) (fun b hb ys G2 ρ hρ=>by
   obtain⟨r0,rfl⟩:=hρ
   obtain⟨t',hv'⟩:=hJ ((bi a t hv).1 b hb).1
   have h1:=vi (c:=c) (S:=S) (G:=C++((.dic D::R)++(.lst ys::G2))) (every:=every) hk hv'
   simp only[List.cons_append]at h1
   refine⟨[some (.int b),some (.ref S.length),some (.bl every)],[],⟨_,rfl⟩,rfl,?_,fun _=>⟨[],?_⟩⟩
   ·rwa[h1,List.append_nil]
   ·rwa[List.append_nil])
 simp only[List.nil_append]at h
 refine⟨R',?_⟩
 have hi:cOp fIx (fA c 4 (ah 1)) (ah 3) [some (.ref L),some (.ref S.length),some (.bl every),some (.int a)] (crs c S st++C++(.dic D::R))=some (.ref r,crs c S st++C++(.dic D::R)):=by
  rwa[F4,f5,v0]
 have hcomp:bT (iTp (cOp fIx (fA c 4 (ah 1)) (ah 3))) (gNm 0) (aI (cCB (ig c) (ab (ah 1) (ab (ah 2) (ab (ah 0) aC))))) (ah 0) 1 [1,2] [some (.ref L),some (.ref S.length),some (.bl every),some (.int a)] (crs c S st++C++(.dic D::R))=some (.ref (crs c S st++C++(.dic D::R)).length,crs c S st++C++(.dic D::R)++(.lst ((fS st every t).map U.int)::R')):=by
  unfold bT iTp
  rw[hi,Option.bind_some]
  have gr':(crs c S st++C++(O.dic D::R))[r]?=some (.lst (t.bf.map U.int)):=by rw[List.append_assoc];exact gr _
  simp only[gr',Option.bind_some,mQ,List.replicate,List.map_cons,List.map_nil,List.getElem?_cons_zero,List.getElem?_cons_succ,Option.getD_some,List.cons_append,List.nil_append,h]
  rfl
 have ln:(crs c S st++C++(O.dic D::R)).length=(crs c S st++C).length+1+R.length:=by rw[List.length_append,List.length_cons];omega
 rw[ln]at hcomp
 generalize hY:crs c S st++C=Y at *
 have eL:∀X,(Y++X)[L]?=some (.ins cA fus):=fun X=>ak hL
 have FA:∀X,jc cA 2 (.ref L,Y++X)=some (.ref Y.length,Y++X):=fun X=>cm (eL X) hf
 have hDL:D.length<LIM:=by unfold LIM;omega
 rwa[eM,hcomp,FA,hDL,if_true]
theorem rQ{Z:Sto}{us:List U}{fus:List (Option U)}{L jo:Nat}(hk:(ax st).Nodup)(bi:BfI st)(hl:st.length<=100)(hZ:∃C,Z=crs c S st++C)(hL:Z[L]?=some (.ins cA fus))(hf:fus[2]?=some (some (.ref Z.length)))(ho:Z[jo]?=some (.lst us)):∀(as dn:List Int) (D:List (Key×U)) (R:Sto) (r3:Option U),(∀a∈as,a∈ax st)->Gr st every (Z.length+1) dn D R->D.length+as.length<=900->
  ∃D' R' r3',eA (fun Y=>Y[jo]?=some (.lst us)) (gNm 3) (eM (jI c) (ig c) cA c) (as.map U.int) [some (.ref L),some (.ref S.length),some (.bl every),r3] (Z++(.dic D::R))=some (.nx,[some (.ref L),some (.ref S.length),some (.bl every),r3'],Z++(.dic D'::R'))/\Gr st every (Z.length+1) (dn++as) D' R'
 |[],dn,D,R,r3,_,h,_=>⟨D,R,r3,cX (ak ho),by rw[List.append_nil];exact h⟩
 |a::as,dn,D,R,r3,hm,h,hD=>by
  rw[List.length_cons]at hD
  obtain⟨t,hv⟩:=hJ (hm a List.mem_cons_self)
  obtain⟨R1,h1⟩:=yM (c:=c) (cA:=cA) (S:=S) (every:=every) (Z:=Z) (R:=R) (D:=D) (L:=L) (B:=0) hk bi hl hv hZ hL hf (by omega)
  have I':Gr st every (Z.length+1) (dn++[a]) (ik D (.inl a) (.ref (Z.length+1+R.length))) (R++(.lst ((fS st every t).map U.int)::R1)):=fun b t' hb hv'=>by
   rw[uE]
   by_cases e:b=a
   ·subst e
    rw[hv]at hv';cases hv'
    exact⟨R.length,by rw[if_pos rfl],by rw[List.getElem?_append_right (Nat.le_refl _),Nat.sub_self];rfl⟩
   ·rw[if_neg (fun z=>e (Sum.inl.inj z))]
    rcases List.mem_append.mp hb with z|z
    ·obtain⟨r,e1,e2⟩:=h b t' z hv'
     exact⟨r,e1,ak e2⟩
    ·exact absurd (List.mem_singleton.mp z) e
  have hD':(ik D (.inl a) (.ref (Z.length+1+R.length))).length<=D.length+1:=mR ..
  obtain⟨D',R',r3',ih,I2⟩:=rQ hk bi hl hZ hL hf ho as (dn++[a]) _ _ (some (.int a)) (fun b hb=>hm b (List.mem_cons_of_mem _ hb)) I' (by omega)
  refine⟨D',R',r3',(eC (ak ho) rfl h1).trans ih,?_⟩
  rw[List.append_assoc]at I2
  exact I2
structure DN(cA:Cl)(st:St)(every:Bool)(B:Nat)(Y:Sto)(L:Nat):Prop where
 ex:∃r1 r2 D,Y[L]?=some (.ins cA [some (.ref B),some (.ref r1),some (.ref r2)])/\Y[r1]?=some (.lst ((gN st every).map U.int))/\Y[r2]?=some (.dic D)/\∀a t,a∈gN st every->aP st a=some t->∃r,aP D (.inl a)=some (.ref r)/\Y[r]?=some (.lst ((fS st every t).map U.int))
theorem uY{b:Int}(h:b∈gN st every):b∈ax st:=(cu _).mem_iff.mp (List.mem_filter.mp h).1
theorem BK:(gN st every).length<=st.length:=by
 unfold gN
 refine Nat.le_trans (List.length_filter_le ..) ?_
 rw[(cu _).length_eq];unfold ax;rw[List.length_map];exact Nat.le_refl _
theorem Fp(hns:cA.ns.length=3)(hk:(ax st).Nodup)(bi:BfI st)(hl:st.length<64) :
  ∃X,oM cA (qV c cA) [.ref S.length,.bl every] (crs c S st++G)=some (.ref (crs c S st++G).length,crs c S st++(G++X))/\DN cA st every S.length (crs c S st++(G++X)) (crs c S st++G).length:=by
 rw[CF,hns]
 obtain⟨G',k,h1,g1⟩:=wW (c:=c) (S:=S) (G:=G++[.ins cA [some (.ref S.length),none,none]]) (every:=every) hk hl
 obtain⟨Y,hY⟩:∃Y,Y=crs c S st++G:=⟨_,rfl⟩
 have ln:(crs c S st++(G++[O.ins cA [some (.ref S.length),none,none]])).length+k=Y.length+(1+k):=by rw[<-List.append_assoc,<-hY,List.length_append];simp;omega
 have e1:crs c S st++(G++[O.ins cA [some (.ref S.length),none,none]])=Y++[.ins cA [some (.ref S.length),none,none]]:=by rw[hY,List.append_assoc]
 have e2:crs c S st++(G++[O.ins cA [some (.ref S.length),none,none]]++G')=Y++(.ins cA [some (.ref S.length),none,none]::G'):=by rw[hY];simp only[List.append_assoc,List.cons_append,List.nil_append]
 rw[ln,e1,e2]at h1
 obtain⟨Z,hZ⟩:∃Z,Z=Y++(.ins cA [some (.ref S.length),some (.ref (Y.length+(1+k))),some (.ref (Y.length+(1+G'.length)))]::G'):=⟨_,rfl⟩
 have zl:Z.length=Y.length+(1+G'.length):=by rw[hZ];simp;omega
 have gL:Z[Y.length]?=some (.ins cA [some (.ref S.length),some (.ref (Y.length+(1+k))),some (.ref Z.length)]):=by rw[zl,hZ,ga0];rfl
 have gO:Z[Y.length+(1+k)]?=some (.lst ((gN st every).map U.int)):=by rw[hZ,ga,Nat.add_comm 1 k,List.getElem?_cons_succ];exact g1
 have ol:=BK (st:=st) (every:=every)
 obtain⟨D,R,r3,h2,I⟩:=rQ (c:=c) (cA:=cA) (S:=S) (every:=every) (Z:=Z) (L:=Y.length) (jo:=Y.length+(1+k)) hk bi (by omega) ⟨G++(.ins cA [some (.ref S.length),some (.ref (Y.length+(1+k))),some (.ref (Y.length+(1+G'.length)))]::G'),by rw[hZ,hY,List.append_assoc]⟩ gL rfl gO (gN st every) [] [] [] none (fun b hb=>uY hb) (fun b t hb=>by cases hb) (by simp;omega)
 refine⟨.ins cA [some (.ref S.length),some (.ref (Y.length+(1+k))),some (.ref (Y.length+(1+G'.length)))]::(G'++(.dic D::R)),?_,?_⟩
 ·have hi:qV c cA [.ref Y.length,.ref S.length,.bl every] (Y++[.ins cA (List.replicate 3 none)])=some (.non,Z++(.dic D::R)):=by
   unfold qV
   rw[qG]
   have zd:Y++(O.ins cA [some (.ref S.length),some (.ref (Y.length+(1+k))),some (.ref (Y.length+(1+G'.length)))]::(G'++[.dic []]))=Z++[.dic []]:=by rw[hZ,List.append_assoc];rfl
   have gLZ:∀X,(Z++X)[Y.length]?=some (.ins cA [some (.ref S.length),some (.ref (Y.length+(1+k))),some (.ref Z.length)]):=fun X=>ak gL
   have gOZ:∀X,(Z++X)[Y.length+(1+k)]?=some (.lst ((gN st every).map U.int)):=fun X=>ak gO
   have ly:(Y++O.ins cA [some (.ref S.length),some (.ref (Y.length+(1+k))),none]::G').length=Y.length+(1+G'.length):=by simp;omega
   rwa[eK,List.replicate,h1,ly,zd,kC,iTp,gLZ,gOZ,h2]
  rw[<-hY,hi]
  have:Z++(O.dic D::R)=Y++(.ins cA [some (.ref S.length),some (.ref (Y.length+(1+k))),some (.ref (Y.length+(1+G'.length)))]::(G'++(.dic D::R))):=by rw[hZ,List.append_assoc];rfl
  rw[<-List.append_assoc,<-hY,<-this]
  rfl
 ·have:crs c S st++(G++(O.ins cA [some (.ref S.length),some (.ref (Y.length+(1+k))),some (.ref (Y.length+(1+G'.length)))]::(G'++(.dic D::R))))=Z++(.dic D::R):=by rw[<-List.append_assoc,<-hY,hZ,List.append_assoc];rfl
  rw[this,<-hY]
  refine⟨_,_,D,ak gL,ak gO,by rw[ga0];rfl,fun b t hb hv=>?_⟩
  obtain⟨r,e1,e2⟩:=I b t (by rw[List.nil_append];exact hb) hv
  refine⟨_,e1,?_⟩
  rw[Nat.add_assoc,ga,Nat.add_comm 1 r,List.getElem?_cons_succ]
  exact e2
end
theorem vA:∀ns ms:List Int,PyData.eqv (.list (ns.map PyData.int)) (.list (ms.map PyData.int))=decide (ns=ms)
 |[],[]=>rfl
 |[],_::_=>rfl
 |_::_,[]=>rfl
 |n::ns,m::ms=>by
  have e:PyData.eqv (.list ((n::ns).map PyData.int)) (.list ((m::ms).map PyData.int))=((n == m)&&PyData.eqv (.list (ns.map PyData.int)) (.list (ms.map PyData.int))):=rfl
  rw[e,vA ns ms,Bool.eq_iff_iff]
  simp
theorem qH{S:Sto}:∀ns:List Int,DtL S (ns.map U.int) (ns.map PyData.int)
 |[]=>.nil
 |n::ns=>.cons (.int n) (qH ns)
theorem vc(ns:List Int):sZ (.list (ns.map PyData.int)):=by
 have h:∀ns:List Int,PyData.canLayAll0 (ns.map PyData.int)=true/\PyData.depthAll (ns.map PyData.int)<=0:=fun ns=>by
  induction ns with
  |nil=>exact⟨rfl,Nat.le_refl _⟩
  |cons n r ih=>
   refine⟨by unfold PyData.canLayAll0;rw[List.map_cons];exact ih.1,?_⟩
   rw[List.map_cons]
   unfold PyData.depthAll
   exact Nat.max_le.mpr ⟨Nat.le_refl _,ih.2⟩
 refine⟨by unfold PyData.canLay0;exact(h ns).1,?_⟩
 unfold PyData.depth
 have:=(h ns).2
 omega
theorem B5(neg:Bool){S:Sto}{l l':Nat}{ns ms:List Int}(h:S[l]?=some (.lst (ns.map U.int)))(h':S[l']?=some (.lst (ms.map U.int))):nY neg (.ref l) (.ref l') S=some (.bl (if neg then !decide (ns=ms)else decide (ns=ms)),S):=
 qz neg (.inl ⟨_,_,.lst h (qH ns),.lst h' (qH ms),vc ns,vc ms,(vA ns ms).symm⟩)
section
variable{c cA:Cl}{n w:Int}{S G C:Sto}{st:St}{a:Int}{t:Att}{x:List Int}{every:Bool}{L:Nat}
theorem DN.app{Y:Sto}{B:Nat}(h:DN cA st every B Y L)(X:Sto):DN cA st every B (Y++X) L:=by
 obtain⟨r1,r2,D,h1,h2,h3,h4⟩:=h.ex
 exact⟨⟨r1,r2,D,ak h1,ak h2,ak h3,fun a t ha hv=>by
  obtain⟨r,e1,e2⟩:=h4 a t ha hv
  exact⟨r,e1,ak e2⟩⟩⟩
def CB(c cA:Cl):Fn:=fnU 4 4 (br (Av c) cA)
theorem Jf{g:Nat}{D:List (Key×U)}{gn:List Int}(hk:(ax st).Nodup)(bi:BfI st)(hl:st.length<=100)(ask:DN cA st every S.length (crs c S st++C) L)(ha:a∈gN st every)(hv:aP st a=some t)(hb:∀p∈t.nd,0<=p.1/\p.1<n)(hx:x.length=n.toNat)
  (hg:(crs c S st++C)[g]?=some (.dic D)) (hD:∀b,(aP D (.inl b)).isSome=decide (b∈gn)) :
  ∃C',CB c cA [.ref L,.int a,.ref g,.tup (x.map U.int)] (crs c S st++C)=some (.bl ((fS st every t).all (fun b=>decide (b∈gn))&&t.nd.all (w8 x)),crs c S st++(C++C')):=by
 unfold CB
 rw[j5]
 obtain⟨r1,r2,D2,h1,h2,h3,h4⟩:=ask.ex
 obtain⟨r,e1,e2⟩:=h4 a t ha hv
 have hb0:=vK hk bi hv
 have hnl:(fS st every t).length<=100:=by unfold fS;exact Nat.le_trans (List.length_filter_le ..) (by omega)
 obtain⟨G',h⟩:=mT (S:=crs c S st++C) (ok:=fun Y=>Y[r]?=some (.lst ((fS st every t).map U.int))) (gg:=gNm 0) (ce:=cOp (fIn false) (ah 0) (ah 1)) (f:=U.int) (v:=fun b=>.bl (decide (b∈gn))) (Rel:=fun ρ=>∃r0,ρ=[r0,some (.ref g)]) (fun ys G=>ak e2) (fS st every t) [] [] [none,some (.ref g)] ⟨_,rfl⟩ (by simp;omega) (fun b hb ys G2 ρ hρ=>by
   obtain⟨r0,rfl⟩:=hρ
   have hg':(crs c S st++(C++(.lst ys::G2)))[g]?=some (.dic D):=by rw[<-List.append_assoc];exact ak hg
   refine⟨[some (.int b),some (.ref g)],[],⟨_,rfl⟩,rfl,?_⟩
   rwa[hg',hD,Bool.false_eq_true,if_false,List.append_nil])
 simp only[List.nil_append,List.append_assoc]at h
 refine⟨.lst ((fS st every t).map fun b=>.bl (decide (b∈gn)))::G',?_⟩
 have hY:∃Y,Y=crs c S st++C:=⟨_,rfl⟩
 obtain⟨Y,hY⟩:=hY
 have F2:jc cA 2 (.ref L,crs c S st++C)=some (.ref r2,crs c S st++C):=cm h1 rfl
 have F0:∀X,jc cA 0 (.ref L,crs c S st++(C++X))=some (.ref S.length,crs c S st++(C++X)):=fun X=>by rw[<-List.append_assoc];exact cm (ak h1) rfl
 have hcomp:fT (iTp (cOp fIx (fA cA 2 (ah 0)) (ah 1))) (gNm 0) (cOp (fIn false) (ah 0) (ah 1)) 1 [2] [some (.ref L),some (.int a),some (.ref g),some (.tup (x.map U.int))] (crs c S st++C)=some (.ref (crs c S st++C).length,crs c S st++(C++(.lst ((fS st every t).map fun b=>.bl (decide (b∈gn)))::G'))):=by
  have hi:cOp fIx (fA cA 2 (ah 0)) (ah 1) [some (.ref L),some (.int a),some (.ref g),some (.tup (x.map U.int))] (crs c S st++C)=some (.ref r,crs c S st++C):=by
   rwa[F2,h3,e1]
  unfold fT iTp
  rw[hi,Option.bind_some]
  simp only[e2,Option.bind_some,mQ,List.replicate,List.map_cons,List.map_nil,List.getElem?_cons_zero,List.getElem?_cons_succ,Option.getD_some,List.cons_append,List.nil_append,h,List.append_assoc]
 have gz:∀X,(crs c S st++(C++X))[(crs c S st++C).length]?=X[0]?:=fun X=>by
  have:=ga0 (S:=crs c S st++C) (X:=X)
  simp only[List.append_assoc]at this
  exact this
 have hall:Dy [.ref (crs c S st++C).length] (crs c S st++(C++(.lst ((fS st every t).map fun b=>.bl (decide (b∈gn)))::G')))=some (.bl ((fS st every t).all fun b=>decide (b∈gn)),crs c S st++(C++(.lst ((fS st every t).map fun b=>.bl (decide (b∈gn)))::G'))):=by
  have em:((fS st every t).map fun b=>U.bl (decide (b∈gn)))=((fS st every t).map fun b=>decide (b∈gn)).map U.bl:=by rw[List.map_map];rfl
  simp only[Dy,gz,List.getElem?_cons_zero,em,qM,Option.bind_some,List.all_map]
  rfl
 have hfit:=FT (c:=c) (S:=S) (G:=C++(.lst ((fS st every t).map fun b=>.bl (decide (b∈gn)))::G')) hk hv hb hx
 cases hn:(fS st every t).all fun b=>decide (b∈gn)with
 |true=>
  rw[hn]at hall
  rwa[br,hcomp,hall,F0,hfit,Bool.true_and]
 |false=>
  rw[hn]at hall
  rwa[br,hcomp,hall,Bool.false_and]
end
def lU(st:St)(every:Bool):List Int->List Int->List Int->Bool
 |_,_,[]=>true
 |gn,x,a::os=>(match aP st a with
  |none=>false
  |some t=>(fS st every t).all (fun b=>decide (b∈gn))&&t.nd.all (w8 x))&&lU st every (a::gn) (chg st a x) os
def L6(b:Bool):Out:=if b then .nx else .rt (.bl false)
section
variable{c cA:Cl}{n w:Int}{S G C:Sto}{st:St}{a:Int}{t:Att}{x:List Int}{every:Bool}{L:Nat}
theorem so{us:List U}{lo:Nat}{x0:Option U}(hk:(ax st).Nodup)(bi:BfI st)(hl:st.length<=100)(hn:n<=100)(ask:DN cA st every S.length (crs c S st++G) L)(hlo:(crs c S st++G)[lo]?=some (.lst us))(hb:∀a t,aP st a=some t->∀p∈t.nd,0<=p.1/\p.1<n) :
  ∀(os gn:List Int) (D:List (Key×U)) (G2:Sto) (x:List Int) (r5:Option U),(∀a∈os,a∈gN st every)->(∀b,(aP D (.inl b)).isSome=decide (b∈gn))->x.length=n.toNat->D.length+os.length<=900->
  ∃r4 r5' D' G3,eA (fun Y=>Y[lo]?=some (.lst us)) (gNm 5) (cY (Kl c) (CB c cA) cA) (os.map U.int) [some (.ref L),some (.ref lo),x0,some (.ref (crs c S st++G).length),some (.tup (x.map U.int)),r5] (crs c S st++(G++(.dic D::G2)))
   = some (L6 (lU st every gn x os),[some (.ref L),some (.ref lo),x0,some (.ref (crs c S st++G).length),r4,r5'],crs c S st++(G++(.dic D'::G3)))
 |[],gn,D,G2,x,r5,_,_,_,_=>⟨_,_,_,_,cX (by rw[<-List.append_assoc];exact ak hlo)⟩
 |a::os,gn,D,G2,x,r5,hm,hD,hx,gK=>by
  rw[List.length_cons]at gK
  have ho:=hm a List.mem_cons_self
  obtain⟨t,hv⟩:=hJ (uY ho)
  have ok0:(crs c S st++(G++(O.dic D::G2)))[lo]?=some (.lst us):=by rw[<-List.append_assoc];exact ak hlo
  have gz:∀Z:Sto,(crs c S st++(G++Z))[(crs c S st++G).length]?=Z[0]?:=fun Z=>by
   have:=ga0 (S:=crs c S st++G) (X:=Z)
   simp only[List.append_assoc]at this
   exact this
  have sz:∀(Z:Sto) (o:O),(crs c S st++(G++Z)).set (crs c S st++G).length o=crs c S st++(G++Z.set 0 o):=fun Z o=>by
   have:=gs0 (S:=crs c S st++G) (X:=Z) (o:=o)
   simp only[List.append_assoc]at this
   exact this
  have askX:∀X,DN cA st every S.length (crs c S st++(G++X)) L:=fun X=>by rw[<-List.append_assoc];exact ask.app X
  obtain⟨C1,h1⟩:=Jf (c:=c) (cA:=cA) (S:=S) (C:=G++(.dic D::G2)) (x:=x) (g:=(crs c S st++G).length) (D:=D) (gn:=gn) hk bi hl (askX _) ho hv (hb a t hv) hx (by rw[gz];rfl) hD
  simp only[List.append_assoc,List.cons_append]at h1
  have eg:lU st every gn x (a::os)=(((fS st every t).all (fun b=>decide (b∈gn))&&t.nd.all (w8 x))&&lU st every (a::gn) (chg st a x) os):=by rw[lU,hv]
  obtain⟨r1,r2,D2,i1,i2,i3,i4⟩:=ask.ex
  have eI:∀X,(crs c S st++(G++X))[L]?=some (.ins cA [some (.ref S.length),some (.ref r1),some (.ref r2)]):=fun X=>by rw[<-List.append_assoc];exact ak i1
  have F0:∀X,jc cA 0 (.ref L,crs c S st++(G++X))=some (.ref S.length,crs c S st++(G++X)):=fun X=>cm (eI X) rfl
  cases hm2:((fS st every t).all (fun b=>decide (b∈gn))&&t.nd.all (w8 x))with
  |false=>
   rw[hm2]at h1
   rw[eg,hm2,Bool.false_and]
   refine⟨some (.tup (x.map U.int)),some (.int a),D,G2++C1,qj ok0 rfl (x:=.bl false) ?_⟩
   rwa[cY,eI,h1]
  |true=>
   rw[hm2]at h1
   rw[eg,hm2,Bool.true_and]
   obtain⟨C2,h2⟩:=Lk (c:=c) (S:=S) (G:=G++(.dic (ik D (.inl a) (.bl true))::(G2++C1))) (x:=x) hk hv (by omega)
   simp only[List.append_assoc,List.cons_append]at h2
   have hD':∀b,(aP (ik D (.inl a) (.bl true)) (.inl b)).isSome=decide (b∈a::gn):=fun b=>by
    rw[uE]
    by_cases e:b=a
    ·subst e;rw[if_pos rfl];simp
    ·rw[if_neg (fun z=>e (Sum.inl.inj z)),hD];simp[e]
   have hdl:(ik D (.inl a) (U.bl true)).length<=D.length+1:=mR ..
   obtain⟨r4,r5',D',G3,ih⟩:=so hk bi hl hn ask hlo hb os (a::gn) (ik D (.inl a) (.bl true)) (G2++(C1++C2)) (chg st a x) (some (.int a)) (fun b hb=>hm b (List.mem_cons_of_mem _ hb)) hD' (by rw[F8];exact hx) (by omega)
   refine⟨r4,r5',D',G3,(eC ok0 rfl ?_).trans ih⟩
   have hDL:D.length<LIM:=by unfold LIM;omega
   rwa[cY,eI,h1,gz,sz,hDL,if_true,F0,h2]
def Au(c cA:Cl):Fn:=fnU 6 3 (bO (Kl c) (CB c cA) cA)
theorem FO{lo:Nat}{os:List Int}(hk:(ax st).Nodup)(bi:BfI st)(hl:st.length<64)(hn:n<=100)(ask:DN cA st every S.length (crs c S st++G) L)(hlo:(crs c S st++G)[lo]?=some (.lst (os.map U.int)))(hol:os.length<64)(hb:∀a t,aP st a=some t->∀p∈t.nd,0<=p.1/\p.1<n)(hx:x.length=n.toNat) :
  ∃G',Au c cA [.ref L,.ref lo,.tup (x.map U.int)] (crs c S st++G)=some (.bl (decide (bS os=gN st every)&&lU st every [] x os),crs c S st++(G++G')):=by
 unfold Au
 rw[mM]
 obtain⟨r1,r2,D2,i1,i2,i3,i4⟩:=ask.ex
 have hs:fh [.ref lo] (crs c S st++G)=some (.ref (crs c S st++G).length,crs c S st++(G++[.lst ((bS os).map U.int)])):=by
  simp only[fh,hlo,sd,Option.bind_some,hol,if_true,List.append_assoc]
 have gz:∀Z:Sto,(crs c S st++(G++Z))[(crs c S st++G).length]?=Z[0]?:=fun Z=>by
  have:=ga0 (S:=crs c S st++G) (X:=Z)
  simp only[List.append_assoc]at this
  exact this
 have gx:∀(i:Nat) (o:O) (X:Sto),(crs c S st++G)[i]?=some o->(crs c S st++(G++X))[i]?=some o:=fun i o X h=>by rw[<-List.append_assoc];exact ak h
 have F1:∀X,jc cA 1 (.ref L,crs c S st++(G++X))=some (.ref r1,crs c S st++(G++X)):=fun X=>cm (gx _ _ _ i1) rfl
 have he:=B5 true (S:=crs c S st++(G++[.lst ((bS os).map U.int)])) (l:=(crs c S st++G).length) (l':=r1) (ns:=bS os) (ms:=gN st every) (by rw[gz];rfl) (gx _ _ _ i2)
 rw[if_pos rfl]at he
 cases hq:decide (bS os=gN st every)with
 |false=>
  rw[hq,Bool.not_false]at he
  refine⟨[.lst ((bS os).map U.int)],?_⟩
  rw[Bool.false_and]
  rwa[bO,hs,F1,he]
 |true=>
  rw[hq,Bool.not_true]at he
  have ho:∀a∈os,a∈gN st every:=fun a ha=>by
   rw[<-of_decide_eq_true hq];exact(cu _).mem_iff.mpr ha
  have ex:crs c S st++(G++[O.lst ((bS os).map U.int)])=crs c S st++G++[O.lst ((bS os).map U.int)]:=(List.append_assoc ..).symm
  obtain⟨r4,r5,D',G3,h⟩:=so (c:=c) (cA:=cA) (S:=S) (G:=G++[.lst ((bS os).map U.int)]) (lo:=lo) (L:=L) (us:=os.map U.int) (x0:=some (.tup (x.map U.int))) hk bi (by omega) hn (by rw[ex];exact ask.app _) (gx _ _ _ hlo) hb os [] [] [] x none ho (fun b=>by simp[aP]) hx (by simp;omega)
  rw[Bool.true_and]
  refine⟨.lst ((bS os).map U.int)::.dic D'::G3,?_⟩
  have hlo':=gx lo _ [.lst ((bS os).map U.int),.dic []] hlo
  simp only[List.append_assoc,List.cons_append,List.nil_append]at h
  cases hg:lU st every [] x os with
  |true=>
   rw[hg]at h
   simp only[L6,if_true]at h
   rwa[bO,hs,F1,he,kC,iTp,hlo',h]
  |false=>
   rw[hg]at h
   simp only[L6,Bool.false_eq_true,if_false]at h
   rwa[bO,hs,F1,he,kC,iTp,hlo',h]
end
section
variable{c cA:Cl}{n w:Int}{S G C:Sto}{st:St}{a:Int}{t:Att}{x:List Int}{every:Bool}{L:Nat}
def oz:Fn:=fnU 1 1 fj
theorem AX:oz [.int a] S=some (.bl true,S):=by
 unfold oz
 rw[pz]
 have t0:tyU (.int a) S=some .int:=rfl
 have t1:AA .int .int=true:=rfl
 have t2:AA .int .bool=false:=rfl
 rwa[fj,t0,t1,t2]
def uu(c cA:Cl):Fn:=fnU 5 5 (iF oz (dY c) (Au c cA) (qV c cA) cA)
theorem qf{N:Nat}{evs:List Ev}{l lo:Nat}{os:List Int}{wu:U}(hns:c.ns.length=5)(hna:cA.ns.length=3)(hl:S[l]?=some (.lst (evs.map Ev.u)))(hlo:S[lo]?=some (.lst (os.map U.int)))(lg:ji n w N evs)(he:evs.length<=900)(hN:N<64)(hn:n<=100)(hx:x.length=n.toNat)(hol:os.length<64) :
  ∃G',uu c cA [wu,.tup (x.map U.int),.ref l,.bl every,.ref lo] S=some (.bl (decide (bS os=gN (aU [] evs) every)&&lU (aU [] evs) every [] x os),S++G'):=by
 unfold uu
 rw[wN]
 obtain⟨G0,h0⟩:=mT (S:=S) (ok:=fun Y=>Y[lo]?=some (.lst (os.map U.int))) (gg:=gNm 0) (ce:=cCB oz (ab (ah 0) aC)) (f:=U.int) (v:=fun _=>.bl true) (Rel:=fun ρ=>∃r0,ρ=[r0]) (fun ys G=>ak hlo) os [] [] [none] ⟨_,rfl⟩ (by simp;omega) (fun b hb ys G2 ρ hρ=>by
  obtain⟨r0,rfl⟩:=hρ
  refine⟨[some (.int b)],[],⟨_,rfl⟩,rfl,?_⟩
  rwa[AX,List.append_nil])
 simp only[List.nil_append]at h0
 obtain⟨S1,hS1⟩:∃S1,S1=S++(.lst (os.map fun _=>U.bl true)::G0):=⟨_,rfl⟩
 have hcomp:fT (iTp (ah 4)) (gNm 0) (cCB oz (ab (ah 0) aC)) 1 [] [some wu,some (.tup (x.map U.int)),some (.ref l),some (.bl every),some (.ref lo)] S=some (.ref S.length,S1):=by
  have hi:ah 4 [some wu,some (.tup (x.map U.int)),some (.ref l),some (.bl every),some (.ref lo)] S=some (.ref lo,S):=rfl
  unfold fT iTp
  rw[hi,Option.bind_some]
  simp only[hlo,Option.bind_some,mQ,List.replicate,List.map_cons,List.map_nil,List.append_nil,h0,hS1]
 have hall:Dy [.ref S.length] S1=some (.bl true,S1):=by
  have em:(os.map fun _=>U.bl true)=(os.map fun _=>true).map U.bl:=by rw[List.map_map];rfl
  have ea:((os.map fun _=>true).all id)=true:=by simp
  rw[hS1]
  simp only[Dy,ga0,List.getElem?_cons_zero,em,qM,Option.bind_some,ea]
 have h1:=iE (c:=c) (S:=S1) (N:=N) hns (by rw[hS1];exact ak hl) lg.lo he
 have bi:=qN evs [] lg.lo List.nodup_nil Me
 obtain⟨X,h2,ask⟩:=Fp (c:=c) (cA:=cA) (S:=S1) (G:=[]) (every:=every) hna lg.kd bi (Nat.lt_of_le_of_lt lg.cnt hN)
 simp only[List.append_nil,List.nil_append]at h2 ask
 have hb:∀a t,aP (aU [] evs) a=some t->∀p∈t.nd,0<=p.1/\p.1<n:=fun a t hv p hp=>by
  have:=yX evs [] lg.lo Nq a t hv
  exact this.1 p ((this.2 p).mp hp)
 obtain⟨G',h3⟩:=FO (c:=c) (cA:=cA) (S:=S1) (G:=X) (x:=x) (lo:=lo) (os:=os) lg.kd bi (Nat.lt_of_le_of_lt lg.cnt hN) hn ask (by unfold crs;rw[hS1,List.append_assoc,List.append_assoc];exact ak hlo) hol hb hx
 obtain⟨r1,r2,D,i1,i2,i3,i4⟩:=ask.ex
 obtain⟨C,hC⟩:∃C,crs c S1 (aU [] evs)=S1++C:=⟨_,rfl⟩
 refine⟨(.lst (os.map fun _=>U.bl true)::G0)++(C++(X++G')),?_⟩
 rw[<-List.append_assoc,<-hS1,<-List.append_assoc,<-hC]
 rwa[iF,hcomp,hall,h1,h2,i1,h3]
def mW(st:St)(a:Int):List Int:=match aP st a with
 |some t=>t.bf
 |none=>[]
def prA(a:Int)(b:Int):Int×Int:=(b,a)
def ki(st:St)(as:List Int):List (Int×Int):=as.flatMap fun a=>(mW st a).map (prA a)
theorem qi{as:List Int}{b:Int}:(b,a)∈ki st as↔a∈as/\b∈mW st a:=by
 unfold ki
 rw[List.mem_flatMap]
 constructor
 ·rintro⟨d,h1,h2⟩
  obtain⟨e,h3,h4⟩:=List.mem_map.mp h2
  cases h4
  exact⟨h1,h3⟩
 ·rintro⟨h1,h2⟩
  exact⟨a,h1,List.mem_map.mpr ⟨b,h2,rfl⟩⟩
theorem Ah(hk:(ax st).Nodup)(bi:BfI st):(mW st a).Nodup/\(mW st a).length<=st.length:=by
 unfold mW
 cases hv:aP st a with
 |none=>exact⟨List.nodup_nil,Nat.zero_le _⟩
 |some t=>exact⟨(bi a t hv).2,vK hk bi hv⟩
theorem tM(hk:(ax st).Nodup)(bi:BfI st):∀as:List Int,as.Nodup->(ki st as).Nodup
 |[],_=>List.nodup_nil
 |a::as,h=>by
  obtain⟨h1,h2⟩:=List.nodup_cons.mp h
  have ih:=tM hk bi as h2
  unfold ki at ih ⊢
  rw[List.flatMap_cons,List.nodup_append]
  refine⟨?_,ih,fun p hp q hq e=>?_⟩
  ·exact List.Pairwise.map (prA a) (fun u v h e=>h (by cases e;rfl)) (Ah hk bi).1
  ·subst e
   obtain⟨b,hb,rfl⟩:=List.mem_map.mp hp
   exact h1 (qi.mp hq).1
theorem p7(hk:(ax st).Nodup)(bi:BfI st):∀as:List Int,(ki st as).length<=as.length*st.length
 |[]=>Nat.zero_le _
 |a::as=>by
  have ih:=p7 hk bi as
  have h:=(Ah (a:=a) hk bi).2
  unfold ki at ih ⊢
  rw[List.flatMap_cons,List.length_append,List.length_map,List.length_cons,Nat.succ_mul]
  omega
theorem Ao(p:Int×Int):∀L:List (Int×Int),L.Pairwise (fun a b=>ltP a b=true)->∃M:List (Int×Int),M.Pairwise (fun a b=>ltP a b=true)/\∀q,q∈M↔q=p\/q∈L
 |[],_=>⟨[p],List.pairwise_singleton _ _,fun q=>by simp⟩
 |y::L,h=>by
  obtain⟨h1,h2⟩:=List.pairwise_cons.mp h
  by_cases e:p=y
  ·subst e
   exact⟨p::L,h,fun q=>by simp⟩
  ·cases hp:ltP p y with
   |true=>
    refine⟨p::y::L,List.pairwise_cons.mpr ⟨fun z hz=>?_,h⟩,fun q=>by simp⟩
    rcases List.mem_cons.mp hz with rfl|m
    ·exact hp
    ·have:=h1 z m
     simp only[ltP,decide_eq_true_eq]at this hp ⊢
     omega
   |false=>
    obtain⟨M,m1,m2⟩:=Ao p L h2
    refine⟨y::M,List.pairwise_cons.mpr ⟨fun z hz=>?_,m1⟩,fun q=>?_⟩
    ·rcases(m2 z).mp hz with rfl|m
     ·have e':¬(z.1=y.1/\z.2=y.2):=fun k=>e (Prod.ext k.1 k.2)
      simp only[ltP,decide_eq_true_eq,decide_eq_false_iff_not]at hp ⊢
      omega
     ·exact h1 z m
    ·rw[List.mem_cons,m2 q,List.mem_cons]
     constructor
     ·rintro(k|k|k)
      ·exact .inr (.inl k)
      ·exact .inl k
      ·exact .inr (.inr k)
     ·rintro(k|k|k)
      ·exact .inr (.inl k)
      ·exact .inl k
      ·exact .inr (.inr k)
theorem Ap:∀ps:List (Int×Int),∃M:List (Int×Int),M.Pairwise (fun a b=>ltP a b=true)/\∀q,q∈M↔q∈ps
 |[]=>⟨[],List.Pairwise.nil,fun q=>Iff.rfl⟩
 |p::ps=>by
  obtain⟨L,h1,h2⟩:=Ap ps
  obtain⟨M,m1,m2⟩:=Ao p L h1
  exact⟨M,m1,fun q=>by rw[m2,h2,List.mem_cons]⟩
theorem rV{ps:List (Int×Int)}{q:Int×Int}:q∈fQ ps↔q∈ps:=by
 obtain⟨M,m1,m2⟩:=Ap ps
 rw[pS m1 m2,m2]
theorem rX{B j:Nat}:∀(st:St) (i:Nat),(d6 B j st i).map (fun q=>kU q.1)=(ax st).map U.int
 |[],_=>rfl
 |p::r,i=>by
  have ih:=rX (B:=B) (j:=j) r (i+1)
  rw[d6,List.map_cons,ih];rfl
theorem sJ{α:Type}{ok:Sto->Prop}{gg:CG}{ce:CE}{S:Sto}{f:α->U}{v:α->U}{Rel:Rho->Prop}(hok:∀ys G,ok (S++(.lst ys::G))) :
  ∀(xs:List α) (ys:List U) (G:Sto) (ρ:Rho),Rel ρ->ys.length+xs.length<=9999->
  (∀x∈xs,∀ys G ρ,Rel ρ->∃ρ0,Rel ρ0/\gg (f x) ρ (S++(.lst ys::G))=some (ρ0,S++(.lst ys::G))/\ce ρ0 (S++(.lst ys::G))=some (v x,S++(.lst ys::G)))->
  iT ok gg ce S.length (xs.map f) ρ (S++(.lst ys::G))=some (S++(.lst (ys++xs.map v)::G))
 |[],ys,G,ρ,_,_,_=>by simp only[List.map_nil,List.append_nil];exact lJ (hok ys G)
 |x::xs,ys,G,ρ,hr,hl,hb=>by
  rw[List.length_cons]at hl
  obtain⟨ρ0,r0,h1,h2⟩:=hb x List.mem_cons_self ys G ρ hr
  have h:=sJ hok xs (ys++[v x]) G ρ0 r0 (by simp;omega) (fun x hx=>hb x (List.mem_cons_of_mem _ hx))
  rw[List.map_cons]
  refine(jF (hok ys G) h1 h2 (by rw[ga0];rfl) (by unfold LIM;omega)).trans ?_
  rw[gs0]
  simp only[List.set_cons_zero]
  rw[h]
  simp only[List.map_cons,List.append_assoc,List.cons_append,List.nil_append]
def gI(c:Cl):Fn:=fnU 4 1 (oa (dY c) c)
def gA(st:St)(as:List Int):Sto:=as.map fun a=>.lst ((mW st a).map fun b=>pP (prA a b))
def Fx:List Int->Option U->Option U
 |[],r=>r
 |a::as,_=>Fx as (some (.int a))
theorem pG{B:Sto}{D:List (Key×U)}{ep q:Nat}{u0:Option U}(hk:(ax st).Nodup)(bi:BfI st)(hl:st.length<=7)(hB:B[q]?=some (.fdc ep D))(hv:∀a t,aP st a=some t->∃r,aP D (.inl a)=some (.ref r)/\B[r]?=some (.lst (t.bf.map U.int))) :
  ∀(as:List Int) (acc:List (Int×Int)) (G2:Sto) (r3:Option U),(∀a∈as,a∈ax st)->acc.length+as.length*7<=900->
  eA (fun Y=>Y[q]?=some (.fdc ep D)) (gNm 3) (lN (dY c) c) (as.map U.int) [u0,some (.ref q),some (.ref B.length),r3] (B++(.lst (acc.map pP)::G2))
   = some (.nx,[u0,some (.ref q),some (.ref B.length),Fx as r3],B++(.lst ((acc++ki st as).map pP)::(G2++gA st as)))
 |[],acc,G2,r3,_,_=>by
  have e1:acc++ki st []=acc:=List.append_nil _
  have e2:G2++gA st []=G2:=List.append_nil _
  rw[e1,e2];exact cX (ak hB)
 |a::as,acc,G2,r3,hm,gK=>by
  rw[List.length_cons]at gK
  obtain⟨t,ht⟩:=hJ (hm a List.mem_cons_self)
  obtain⟨r,v0,g0⟩:=hv a t ht
  have hb:=vK hk bi ht
  have eb:mW st a=t.bf:=by unfold mW;rw[ht]
  have ep0:ki st (a::as)=t.bf.map (prA a)++ki st as:=by unfold ki;rw[List.flatMap_cons,eb]
  have eg:G2++gA st (a::as)=G2++[.lst (t.bf.map fun b=>pP (prA a b))]++gA st as:=by unfold gA;rw[List.map_cons,eb,List.append_assoc];rfl
  have h:=sJ (S:=B++(.lst (acc.map pP)::G2)) (ok:=fun Y=>Y[r]?=some (.lst (t.bf.map U.int))) (gg:=gNm 0) (ce:=jV (ab (ah 0) (ab (ah 1) aC))) (f:=U.int) (v:=fun b=>pP (prA a b)) (Rel:=fun ρ=>∃r0,ρ=[r0,some (.int a)]) (fun ys G=>by rw[List.append_assoc];exact ak g0) t.bf [] [] [none,some (.int a)] ⟨_,rfl⟩ (by simp;omega) (fun b hb ys G2 ρ hρ=>by
   obtain⟨r0,rfl⟩:=hρ
   refine⟨[some (.int b),some (.int a)],⟨_,rfl⟩,rfl,?_⟩
   have e:pP (prA a b)=.tup [.int b,.int a]:=rfl
   rwa[e])
  simp only[List.nil_append]at h
  have hcomp:fT (iTp (cOp fIx (ah 1) (ah 3))) (gNm 0) (jV (ab (ah 0) (ab (ah 1) aC))) 1 [3] [u0,some (.ref q),some (.ref B.length),some (.int a)] (B++(.lst (acc.map pP)::G2))=some (.ref (B.length+(1+G2.length)),B++(.lst (acc.map pP)::(G2++[.lst (t.bf.map fun b=>pP (prA a b))]))):=by
   have hi:cOp fIx (ah 1) (ah 3) [u0,some (.ref q),some (.ref B.length),some (.int a)] (B++(.lst (acc.map pP)::G2))=some (.ref r,B++(.lst (acc.map pP)::G2)):=by
    have gB:(B++(O.lst (acc.map pP)::G2))[q]?=some (.fdc ep D):=ak hB
    rwa[gB,Hl,v0]
   have gr:(B++(O.lst (acc.map pP)::G2))[r]?=some (.lst (t.bf.map U.int)):=ak g0
   have ln:(B++(O.lst (acc.map pP)::G2)).length=B.length+(1+G2.length):=by simp;omega
   rw[ln]at h
   simp only[List.append_assoc,List.cons_append]at h
   unfold fT iTp
   rw[hi,Option.bind_some]
   simp only[gr,Option.bind_some,mQ,List.replicate,List.map_cons,List.map_nil,List.getElem?_cons_zero,List.getElem?_cons_succ,Option.getD_some,List.cons_append,List.nil_append,ln,h,List.append_assoc]
  have hmap:(acc++t.bf.map (prA a)).map pP=acc.map pP++t.bf.map fun b=>pP (prA a b):=by rw[List.map_append,List.map_map];rfl
  have hext:iS (.ref B.length) [.ref (B.length+(1+G2.length))] (B++(.lst (acc.map pP)::(G2++[.lst (t.bf.map fun b=>pP (prA a b))])))=some (.non,B++(.lst ((acc++t.bf.map (prA a)).map pP)::(G2++[.lst (t.bf.map fun b=>pP (prA a b))]))):=by
   have e1:(B++(O.lst (acc.map pP)::(G2++[.lst (t.bf.map fun b=>pP (prA a b))])))[B.length]?=some (.lst (acc.map pP)):=by rw[ga0];rfl
   have e2:(B++(O.lst (acc.map pP)::(G2++[.lst (t.bf.map fun b=>pP (prA a b))])))[B.length+(1+G2.length)]?=some (.lst (t.bf.map fun b=>pP (prA a b))):=by
    rw[ga,Nat.add_comm 1,List.getElem?_cons_succ,ga0];rfl
   have hL:(acc.map pP).length+(t.bf.map fun b=>pP (prA a b)).length<=LIM:=by unfold LIM;rw[List.length_map,List.length_map];omega
   simp only[iS,e1,e2,hL,if_true,gs0,List.set_cons_zero,hmap]
  have ih:=pG (u0:=u0) hk bi hl hB hv as (acc++t.bf.map (prA a)) (G2++[.lst (t.bf.map fun b=>pP (prA a b))]) (some (.int a)) (fun b hb=>hm b (List.mem_cons_of_mem _ hb)) (by simp;omega)
  rw[ep0,<-List.append_assoc,eg]
  refine(eC (ak hB) rfl ?_).trans ih
  have gz:∀X:Sto,(B++(O.lst (acc.map pP)::X))[B.length]?=some (.lst (acc.map pP)):=fun X=>by rw[ga0];rfl
  rwa[lN,hcomp,hext,gz]
theorem qP{N:Nat}{evs:List Ev}{l:Nat}(hns:c.ns.length=5)(hl:S[l]?=some (.lst (evs.map Ev.u)))(lg:ji n w N evs)(he:evs.length<=900)(hN:N<=7) :
  ∃G' k,gI c [.ref l] S=some (.ref (S.length+k),S++G')/\G'[k]?=some (.lst ((fQ (ki (aU [] evs) (ax (aU [] evs)))).map pP)):=by
 unfold gI
 rw[FZ]
 have h1:=iE (c:=c) (S:=S) (N:=N) hns hl lg.lo he
 have bi:=qN evs [] lg.lo List.nodup_nil Me
 obtain⟨st,hst⟩:∃st,st=aU [] evs:=⟨_,rfl⟩
 have hk:(ax st).Nodup:=by rw[hst];exact lg.kd
 have hc:st.length<=7:=by rw[hst];exact Nat.le_trans lg.cnt hN
 rw[<-hst]at h1 bi ⊢
 have F4:jc c 4 (.ref S.length,crs c S st)=some (.ref (S.length+5),crs c S st):=cm hd0 rfl
 have f5:∀X,(crs c S st++X)[S.length+5]?=some (.dic (d6 S.length 0 st 0)):=fun X=>ak hd5
 have kl:(ax st).length=st.length:=by unfold ax;rw[List.length_map]
 have hq:S.length+5<(crs c S st).length:=(List.getElem?_eq_some_iff.mp (show(crs c S st)[S.length+5]?=_ from hd5)).1
 have hfor:Ab (ah 1) (gNm 3) (lN (dY c) c) [some (.ref l),some (.ref (S.length+5)),some (.ref (crs c S st).length),none] (crs c S st++[.lst []])=some (.nx,[some (.ref l),some (.ref (S.length+5)),some (.ref (crs c S st).length),Fx (ax st) none],crs c S st++(.lst ((ki st (ax st)).map pP)::gA st (ax st))):=by
  have h0:ah 1 [some (.ref l),some (.ref (S.length+5)),some (.ref (crs c S st).length),none] (crs c S st++[.lst []])=some (.ref (S.length+5),crs c S st++[.lst []]):=rfl
  unfold Ab
  rw[h0,Option.bind_some]
  simp only[f5]
  refine xN fun ep=>?_
  have es:∀(X:Sto) (o:O),(crs c S st++X).set (S.length+5) o=(crs c S st).set (S.length+5) o++X:=fun X o=>List.set_append_left _ _ hq
  have key:=pG (c:=c) (B:=(crs c S st).set (S.length+5) (.fdc ep (d6 S.length 0 st 0))) (D:=d6 S.length 0 st 0) (ep:=ep) (q:=S.length+5) (u0:=some (.ref l)) hk bi hc (by rw[List.getElem?_set,if_pos rfl,if_pos hq]) (fun a t hv=>by
   obtain⟨r,v0,g0⟩:=cB (c:=c) (S:=S) (j:=0) (by omega) hv hk
   have g1:=g0 []
   rw[List.append_nil]at g1
   refine⟨r,v0,?_⟩
   rw[List.getElem?_set,if_neg fun e=>?_]
   ·exact g1
   ·have:=f5 []
    rw[List.append_nil,e,g1]at this
    cases this) (ax st) [] [] none (fun a h=>h) (by simp;omega)
  rw[List.length_set]at key
  simp only[List.map_nil,List.nil_append]at key
  rw[rX,es,key,Option.bind_some]
  have e1:((crs c S st).set (S.length+5) (.fdc ep (d6 S.length 0 st 0))++(O.lst ((ki st (ax st)).map pP)::gA st (ax st)))[S.length+5]?=some (.fdc ep (d6 S.length 0 st 0)):=ak (by rw[List.getElem?_set,if_pos rfl,if_pos hq])
  have e2:((crs c S st).set (S.length+5) (.fdc ep (d6 S.length 0 st 0))++(O.lst ((ki st (ax st)).map pP)::gA st (ax st))).set (S.length+5) (.dic (d6 S.length 0 st 0))=crs c S st++(.lst ((ki st (ax st)).map pP)::gA st (ax st)):=by
   rw[List.set_append_left _ _ (by rw[List.length_set];exact hq),uJ (show(crs c S st)[S.length+5]?=some (.dic (d6 S.length 0 st 0))from hd5)]
  simp only[e1,e2]
 have hsz:(ki st (ax st)).length<64:=by
  have:=p7 hk bi (ax st)
  rw[kl]at this
  have h49:st.length*st.length<=7*7:=Nat.mul_le_mul hc hc
  omega
 have hs:lG [.ref (crs c S st).length] (crs c S st++(.lst ((ki st (ax st)).map pP)::gA st (ax st)))=some (.ref ((crs c S st).length+(1+(gA st (ax st)).length)),crs c S st++(.lst ((ki st (ax st)).map pP)::(gA st (ax st)++[.lst ((fQ (ki st (ax st))).map pP)]))):=by
  have g0:(crs c S st++(O.lst ((ki st (ax st)).map pP)::gA st (ax st)))[(crs c S st).length]?=some (.lst ((ki st (ax st)).map pP)):=by rw[ga0];rfl
  have ln:(crs c S st++(O.lst ((ki st (ax st)).map pP)::gA st (ax st))).length=(crs c S st).length+(1+(gA st (ax st)).length):=by simp;omega
  simp only[lG,g0,o6,Option.bind_some,tM hk bi _ hk,hsz,and_self,if_true,ln,List.append_assoc,List.cons_append]
 obtain⟨C,hC⟩:∃C,crs c S st=S++C:=⟨_,rfl⟩
 have cl:(crs c S st).length+(1+(gA st (ax st)).length)=S.length+(C.length+(1+(gA st (ax st)).length)):=by rw[hC,List.length_append];omega
 refine⟨C++(.lst ((ki st (ax st)).map pP)::(gA st (ax st)++[.lst ((fQ (ki st (ax st))).map pP)])),C.length+(1+(gA st (ax st)).length),?_,?_⟩
 ·rw[<-cl,<-List.append_assoc,<-hC]
  rwa[oa,h1,F4,hfor,hs]
 ·rw[ga,Nat.add_comm 1,List.getElem?_cons_succ,ga0];rfl
end
section
variable{X:Type}{need need1 bf:Int->List Int}{fits:Int->X->Bool}{chg:Int->X->X}{dn:Int->Bool}{x:X}{K os:List Int}{times:List (Int×Int)}
def zp(need:Int->List Int)(fits:Int->X->Bool)(chg:Int->X->X):List Int->X->List Int->Bool
 |_,_,[]=>true
 |gn,x,a::os=>((need a).all (fun b=>decide (b∈gn))&&fits a x)&&zp need fits chg (a::gn) (chg a x) os
def zv(chg:Int->X->X)(x:X)(os:List Int):X:=os.foldl (fun x a=>chg a x) x
theorem qv:∀(os gn:List Int) (x:X),zp need fits chg gn x os=true↔∀l1 a l2,os=l1++a::l2->(∀b∈need a,b∈gn\/b∈l1)/\fits a (zv chg x l1)=true
 |[],gn,x=>⟨fun _ l1 a l2 e=>by simp at e,fun _=>rfl⟩
 |c::os,gn,x=>by
  rw[zp,Bool.and_eq_true,Bool.and_eq_true,List.all_eq_true,qv os]
  constructor
  ·rintro⟨⟨h1,h2⟩,h3⟩ l1 a l2 e
   cases l1 with
   |nil=>
    rw[List.nil_append]at e
    injection e with e1 e2
    subst e1
    exact⟨fun b hb=>.inl (of_decide_eq_true (h1 b hb)),h2⟩
   |cons d l1=>
    rw[List.cons_append]at e
    injection e with e1 e2
    subst e1
    obtain⟨k1,k2⟩:=h3 l1 a l2 e2
    exact⟨fun b hb=>by
     rcases k1 b hb with z|z
     ·rcases List.mem_cons.mp z with y|y
      ·exact .inr (by rw[y];exact List.mem_cons_self)
      ·exact .inl y
     ·exact .inr (List.mem_cons_of_mem _ z),k2⟩
  ·intro h
   refine⟨⟨fun b hb=>decide_eq_true ?_,(h [] c os rfl).2⟩,fun l1 a l2 e=>?_⟩
   ·rcases(h [] c os rfl).1 b hb with z|z
    ·exact z
    ·cases z
   ·obtain⟨k1,k2⟩:=h (c::l1) a l2 (by rw[e];rfl)
    refine⟨fun b hb=>?_,k2⟩
    rcases k1 b hb with z|z
    ·exact .inl (List.mem_cons_of_mem _ z)
    ·rcases List.mem_cons.mp z with y|y
     ·exact .inl (by rw[y];exact List.mem_cons_self)
     ·exact .inr y
end
section
variable{n w:Int}{st:St}{a:Int}{t:Att}{x os:List Int}{every:Bool}
def ndA(st:St)(every:Bool)(a:Int):List Int:=(mW st a).filter (AD st every)
def ftA(st:St)(a:Int)(x:List Int):Bool:=match aP st a with
 |some t=>t.nd.all (w8 x)
 |none=>false
theorem ub:∀(os gn x:List Int),(∀a∈os,a∈ax st)->lU st every gn x os=zp (ndA st every) (ftA st) (chg st) gn x os
 |[],_,_,_=>rfl
 |a::os,gn,x,h=>by
  obtain⟨t,hv⟩:=hJ (h a List.mem_cons_self)
  have e1:ndA st every a=fS st every t:=by unfold ndA mW fS;rw[hv]
  have e2:ftA st a x=t.nd.all (w8 x):=by unfold ftA;rw[hv]
  rw[lU,zp,ub os _ _ (fun b hb=>h b (List.mem_cons_of_mem _ hb)),hv,e1,e2]
end
def mE(es:List Ev):List Int:=(es.filter fM).map Ev.at
def oC(es:List Ev):Ev->List (Int×Int)
 |.fin _ a=>(mE es).map fun b=>(a,b)
 |_=>[]
def lQ:List Ev->List (Int×Int)
 |[]=>[]
 |e::es=>oC es e++lQ es
section
variable{n w:Int}{st:St}{e:Ev}{a b:Int}
theorem yR(hk:(ax st).Nodup):b∈(st.filter fun p=>p.2.en.isSome).map (·.1)↔(mL st b).isSome=true:=by
 constructor
 ·intro h
  obtain⟨p,hp,rfl⟩:=List.mem_map.mp h
  obtain⟨hm,he⟩:=List.mem_filter.mp hp
  obtain⟨l,r,e⟩:=List.append_of_mem hm
  have hv:aP st p.1=some p.2:=by
   unfold ax at hk
   rw[e]at hk ⊢
   refine m8 fun z=>?_
   rw[List.map_append,List.map_cons]at hk
   exact(List.nodup_append.mp hk).2.2 _ z _ List.mem_cons_self rfl
  unfold mL
  rw[hv];exact he
 ·intro h
  unfold mL at h
  cases hv:aP st b with
  |none=>rw[hv]at h;cases h
  |some t=>
   rw[hv]at h
   exact List.mem_map.mpr ⟨(b,t),List.mem_filter.mpr ⟨kI hv,h⟩,rfl⟩
theorem Di(ok:mF n w st e)(h:∀a,e≠.beg a):∃t,aP st e.at=some t/\t.en=none:=by
 cases e with
 |beg a=>exact absurd rfl (h a)
 |look a b x=>obtain⟨_,t,h1,h2,_⟩:=ok;exact⟨t,h1,h2⟩
 |put a b x=>obtain⟨_,t,h1,h2⟩:=ok;exact⟨t,h1,h2⟩
 |fin d a=>exact ok
theorem JY(hk:(ax st).Nodup)(ok:mF n w st e):b∈mW (stp st e) a↔b∈mW st a\/e=.beg a/\(mL st b).isSome=true:=by
 by_cases h:a=e.at
 ·cases e with
  |beg x=>
   have hx:a=x:=h
   subst hx
   have e1:mW (stp st (.beg a)) a=(st.filter fun p=>p.2.en.isSome).map (·.1):=by unfold mW;rw[dg ok.2.2];rfl
   have e2:mW st a=[]:=by unfold mW;rw[jr ok]
   rw[e1,e2,yR hk]
   simp
  |_=>
   obtain⟨t,h1,_⟩:=Di ok (by intro a z;cases z)
   rw[h]
   have e1:=aZ h1
   have e2:∀t:Att,∀e:Ev,(t.ev e).bf=t.bf:=fun t e=>by cases e<;>simp only[Att.ev]<;>split<;>rfl
   unfold mW
   rw[e1,h1]
   simp only[e2,reduceCtorEq,false_and,or_false]
 ·have e1:mW (stp st e) a=mW st a:=by unfold mW;rw[bB h]
  rw[e1]
  exact⟨.inl,fun z=>z.elim id fun q=>absurd (by rw[q.1];rfl) h⟩
theorem JP(ok:mF n w st e):(mL (stp st e) b).isSome=true↔(mL st b).isSome=true\/∃d,e=.fin d b:=by
 by_cases h:b=e.at
 ·cases e with
  |beg x=>
   have hx:b=x:=h
   subst hx
   rw[(Ji ok).2.2]
   exact⟨.inl,fun z=>z.elim id fun⟨d,q⟩=>by cases q⟩
  |fin d x=>
   have hx:b=x:=h
   subst hx
   obtain⟨t,h1,_⟩:=id ok
   have:=(t4 (e:=.fin d b) h1).2.2
   simp only[Ev.at]at this
   rw[this]
   exact⟨fun _=>.inr ⟨d,rfl⟩,fun _=>rfl⟩
  |look x y z=>
   have hx:b=x:=h
   subst hx
   obtain⟨_,t,h1,_⟩:=id ok
   have:=(t4 (e:=.look b y z) h1).2.2
   simp only[Ev.at]at this
   have e2:(t.ev (.look b y z)).en=t.en:=by simp only[Att.ev];split<;>rfl
   rw[this,e2]
   unfold mL
   rw[h1]
   exact⟨.inl,fun z=>z.elim id fun⟨d,q⟩=>by cases q⟩
  |put x y z=>
   have hx:b=x:=h
   subst hx
   obtain⟨_,t,h1,_⟩:=id ok
   have:=(t4 (e:=.put b y z) h1).2.2
   simp only[Ev.at]at this
   rw[this]
   unfold mL
   rw[h1]
   exact⟨.inl,fun z=>z.elim id fun⟨d,q⟩=>by cases q⟩
 ·rw[(BX h).2.2]
  exact⟨.inl,fun z=>z.elim id fun⟨d,q⟩=>absurd (by rw[q];rfl) h⟩
theorem rC:∀(es:List Ev) (st:St),jJ n w st es->(ax st).Nodup->(b∈mW (aU st es) a↔b∈mW st a\/(a∈mE es/\(mL st b).isSome=true)\/(b,a)∈lQ es)
 |[],st,_,_=>by simp[aU,mE,lQ]
 |e::es,st,lf,hk=>by
  have ih:=rC es (stp st e) lf.2 (gy hk lf.1)
  have e1:aU st (e::es)=aU (stp st e) es:=rfl
  have t1:lQ (e::es)=oC es e++lQ es:=rfl
  rw[e1,ih,JY hk lf.1,JP lf.1,t1,List.mem_append]
  cases e with
  |beg x=>
   have b1:mE (.beg x::es)=x::mE es:=rfl
   rw[b1,List.mem_cons]
   simp only[oC,List.not_mem_nil,false_or,reduceCtorEq,exists_false,or_false,Ev.beg.injEq]
   constructor
   ·rintro((h|⟨h,h'⟩)|⟨h,h'⟩|h)
    ·exact .inl h
    ·exact .inr (.inl ⟨.inl h.symm,h'⟩)
    ·exact .inr (.inl ⟨.inr h,h'⟩)
    ·exact .inr (.inr h)
   ·rintro(h|⟨h|h,h'⟩|h)
    ·exact .inl (.inl h)
    ·exact .inl (.inr ⟨h.symm,h'⟩)
    ·exact .inr (.inl ⟨h,h'⟩)
    ·exact .inr (.inr h)
  |fin d x=>
   have b1:mE (.fin d x::es)=mE es:=rfl
   have m1:(b,a)∈oC es (.fin d x)↔a∈mE es/\x=b:=by
    simp only[oC,List.mem_map,Prod.mk.injEq]
    exact⟨fun⟨y,h1,h2,h3⟩=>⟨by rw[<-h3];exact h1,h2⟩,fun⟨h1,h2⟩=>⟨a,h1,h2,rfl⟩⟩
   rw[b1,m1]
   simp only[reduceCtorEq,false_and,or_false,Ev.fin.injEq,exists_and_right,exists_eq',true_and]
   constructor
   ·rintro(h|⟨h,h'|h'⟩|h)
    ·exact .inl h
    ·exact .inr (.inl ⟨h,h'⟩)
    ·exact .inr (.inr (.inl ⟨h,h'⟩))
    ·exact .inr (.inr (.inr h))
   ·rintro(h|⟨h,h'⟩|⟨h,h'⟩|h)
    ·exact .inl h
    ·exact .inr (.inl ⟨h,.inl h'⟩)
    ·exact .inr (.inl ⟨h,.inr h'⟩)
    ·exact .inr (.inr h)
  |look x y z=>
   have b1:mE (.look x y z::es)=mE es:=rfl
   rw[b1]
   simp only[oC,List.not_mem_nil,false_or,reduceCtorEq,exists_false,or_false,false_and]
  |put x y z=>
   have b1:mE (.put x y z::es)=mE es:=rfl
   rw[b1]
   simp only[oC,List.not_mem_nil,false_or,reduceCtorEq,exists_false,or_false,false_and]
theorem jy:∀(es:List Ev) (st:St),jJ n w st es->(ax st).Nodup->(ax (aU st es)).Nodup
 |[],st,_,h=>h
 |e::es,st,lf,h=>jy es (stp st e) lf.2 (gy h lf.1)
end
def Att.str(t:Att):Att:={ t with bf:=[] }
def pN(st:St)(a:Int):Option Att:=(aP st a).map Att.str
def own:Option Att->Ev->Option Att
 |none,_=>some ⟨none,[],[],[],[]⟩
 |some t,e=>some (t.ev e)
def J1(n w:Int)(o:Option Att):Ev->Prop
 |.beg a=>0<=a/\a<200/\o=none
 |.look _ b x=>(0<=b/\b<n/\0<=x/\x<w)/\∃t,o=some t/\t.en=none/\(∀y,aP t.ps b=some y->y=x)
 |.put _ b x=>(0<=b/\b<n/\0<=x/\x<w)/\∃t,o=some t/\t.en=none
 |.fin _ _=>∃t,o=some t/\t.en=none
def J2(n w:Int):Option Att->List Ev->Prop
 |_,[]=>True
 |o,e::es=>J1 n w o e/\J2 n w (own o e) es
def Np(o:Option Att)(es:List Ev):Option Att:=es.foldl own o
def prj(a:Int)(es:List Ev):List Ev:=es.filter fun e=>decide (e.at=a)
section
variable{n w:Int}{st:St}{e:Ev}{a:Int}
theorem HX(t:Att)(e:Ev):(t.ev e).str=t.str.ev e:=by
 cases e with
 |look a b x=>
  by_cases h:(aP t.ps b).isSome=true
  ·have e1:t.ev (.look a b x)=t:=if_pos h
   have e2:t.str.ev (.look a b x)=t.str:=if_pos (show(aP t.str.ps b).isSome=true from h)
   rw[e1,e2]
  ·have e1:t.ev (.look a b x)={ t with lk:=t.lk++[(b,x)],nd:=xa t.nd (b,x) }:=if_neg h
   have e2:t.str.ev (.look a b x)={ t.str with lk:=t.str.lk++[(b,x)],nd:=xa t.str.nd (b,x) }:=if_neg (show ¬(aP t.str.ps b).isSome=true from h)
   rw[e1,e2]
   rfl
 |_=>rfl
theorem Dj:mF n w st e↔J1 n w (pN st e.at) e:=by
 have key:∀(P:Att->Prop),(∀t,P t.str↔P t)->∀a,((∃t,aP st a=some t/\P t)↔∃t,pN st a=some t/\P t):=fun P hP a=>by
  unfold pN
  constructor
  ·rintro⟨t,h,hp⟩
   exact⟨t.str,by rw[h];rfl,(hP t).mpr hp⟩
  ·rintro⟨t,h,hp⟩
   obtain⟨t',h',rfl⟩:=Option.map_eq_some_iff.mp h
   exact⟨t',h',(hP t').mp hp⟩
 cases e with
 |beg a=>
  have:a∉ax st↔pN st a=none:=by
   unfold pN
   rw[Option.map_eq_none_iff]
   exact cq.symm
  show(0<=a/\a<200/\a∉ax st)↔(0<=a/\a<200/\pN st a=none)
  rw[this]
 |look a b x=>exact and_congr_right fun _=>key (fun t=>t.en=none/\∀y,aP t.ps b=some y->y=x) (fun t=>Iff.rfl) a
 |put a b x=>exact and_congr_right fun _=>key (fun t=>t.en=none) (fun t=>Iff.rfl) a
 |fin d a=>exact key (fun t=>t.en=none) (fun t=>Iff.rfl) a
theorem tF(ok:mF n w st e)(b:Int):pN (stp st e) b=if e.at=b then own (pN st b) e else pN st b:=by
 by_cases h:e.at=b
 ·rw[if_pos h]
  subst h
  unfold pN
  cases e with
  |beg a=>
   show(aP (stp st (.beg a)) a).map Att.str=own ((aP st a).map Att.str) (.beg a)
   rw[dg ok.2.2,jr ok]
   rfl
  |_=>
   obtain⟨t,h1,_⟩:=Di ok (by intro a z;cases z)
   rw[aZ h1,h1]
   show some (Att.str _)=some _
   rw[HX]
 ·rw[if_neg h]
  unfold pN
  rw[bB (fun z=>h z.symm)]
theorem gW:prj a (e::es)=if e.at=a then e::prj a es else prj a es:=by
 unfold prj
 rw[List.filter_cons]
 by_cases h:e.at=a<;>simp[h]
theorem nJ:∀(es:List Ev) (st:St),jJ n w st es↔∀a,J2 n w (pN st a) (prj a es)
 |[],st=>⟨fun _ a=>trivial,fun _=>trivial⟩
 |e::es,st=>by
  constructor
  ·rintro⟨ok,lf⟩ a
   have ih:=(nJ es (stp st e)).mp lf a
   rw[gW]
   rw[tF ok]at ih
   by_cases h:e.at=a
   ·rw[if_pos h]at ih ⊢
    subst h
    exact⟨Dj.mp ok,ih⟩
   ·rw[if_neg h]at ih ⊢
    exact ih
  ·intro h
   have ok:mF n w st e:=by
    have:=h e.at
    rw[gW,if_pos rfl]at this
    exact Dj.mpr this.1
   refine⟨ok,(nJ es (stp st e)).mpr fun a=>?_⟩
   have:=h a
   rw[gW]at this
   rw[tF ok]
   by_cases ha:e.at=a
   ·rw[if_pos ha]at this ⊢
    exact this.2
   ·rw[if_neg ha]at this ⊢
    exact this
theorem tK:∀(es:List Ev) (st:St),jJ n w st es->∀a,pN (aU st es) a=Np (pN st a) (prj a es)
 |[],st,_,a=>rfl
 |e::es,st,lf,a=>by
  have ih:=tK es (stp st e) lf.2 a
  show pN (aU (stp st e) es) a=_
  rw[ih,tF lf.1,gW]
  by_cases h:e.at=a
  ·rw[if_pos h,if_pos h];rfl
  ·rw[if_neg h,if_neg h]
theorem Gk{es fs:List Ev}(h:∀a,prj a fs=prj a es)(lf:jJ n w [] es):jJ n w [] fs/\∀a,pN (aU [] fs) a=pN (aU [] es) a:=by
 have l2:jJ n w [] fs:=(nJ fs []).mpr fun a=>by rw[h];exact(nJ es []).mp lf a
 exact⟨l2,fun a=>by rw[tK fs [] l2,tK es [] lf,h]⟩
end
def gP:Ev->Bool
 |.fin _ _=>true
 |_=>false
def kA:Ev->Bool
 |.look _ _ _=>true
 |.put _ _ _=>true
 |_=>false
def zx(es:List Ev):List Int:=(es.filter gP).map Ev.at
section
variable{n w:Int}{a b:Int}{e f:Ev}{l m:List Ev}
theorem p8:prj a (l++m)=prj a l++prj a m:=by unfold prj;rw[List.filter_append]
theorem Bm(h:e.at≠f.at):prj a (l++f::e::m)=prj a (l++e::f::m):=by
 rw[p8,p8,gW,gW,gW,gW]
 by_cases h1:e.at=a
 ·have h2:¬f.at=a:=fun z=>h (h1.trans z.symm)
  simp only[h1,h2,if_true,if_false]
 ·simp only[h1,if_false]
theorem jY:mE (l++m)=mE l++mE m:=by unfold mE;rw[List.filter_append,List.map_append]
theorem tJ{b a:Int}{m:List Ev}:∀l:List Ev,(b,a)∈lQ (l++m)↔(b,a)∈lQ l\/(b∈zx l/\a∈mE m)\/(b,a)∈lQ m
 |[]=>by simp[lQ,zx]
 |e::l=>by
  have ih:=tJ (b:=b) (a:=a) (m:=m) l
  have e1:lQ (e::l++m)=oC (l++m) e++lQ (l++m):=rfl
  have e2:lQ (e::l)=oC l e++lQ l:=rfl
  rw[e1,e2,List.mem_append,List.mem_append,ih]
  cases e with
  |fin d x=>
   have f1:zx (.fin d x::l)=x::zx l:=rfl
   have m1:∀es:List Ev,(b,a)∈oC es (.fin d x)↔x=b/\a∈mE es:=fun es=>by
    simp only[oC,List.mem_map,Prod.mk.injEq]
    exact⟨fun⟨y,h1,h2,h3⟩=>⟨h2,by rw[<-h3];exact h1⟩,fun⟨h1,h2⟩=>⟨a,h2,h1,rfl⟩⟩
   rw[f1,m1,m1,jY,List.mem_append,List.mem_cons]
   constructor
   ·rintro(⟨h,h'|h'⟩|h|⟨h,h'⟩|h)
    ·exact .inl (.inl ⟨h,h'⟩)
    ·exact .inr (.inl ⟨.inl h.symm,h'⟩)
    ·exact .inl (.inr h)
    ·exact .inr (.inl ⟨.inr h,h'⟩)
    ·exact .inr (.inr h)
   ·rintro((⟨h,h'⟩|h)|⟨h|h,h'⟩|h)
    ·exact .inl ⟨h,.inl h'⟩
    ·exact .inr (.inl h)
    ·exact .inl ⟨h.symm,.inr h'⟩
    ·exact .inr (.inr (.inl ⟨h,h'⟩))
    ·exact .inr (.inr (.inr h))
  |beg x=>
   have f1:zx (.beg x::l)=zx l:=rfl
   rw[f1]
   simp only[oC,List.not_mem_nil,false_or]
  |look x y z=>
   have f1:zx (.look x y z::l)=zx l:=rfl
   rw[f1]
   simp only[oC,List.not_mem_nil,false_or]
  |put x y z=>
   have f1:zx (.put x y z::l)=zx l:=rfl
   rw[f1]
   simp only[oC,List.not_mem_nil,false_or]
theorem A2(h:fM e=true->gP f=false)(hp:(b,a)∈lQ (l++f::e::m)):(b,a)∈lQ (l++e::f::m):=by
 rw[tJ]at hp ⊢
 have hb:∀x,x∈mE (f::e::m)->x∈mE (e::f::m):=fun x hx=>by
  have c1:f::e::m=[f]++([e]++m):=rfl
  have c2:e::f::m=[e]++([f]++m):=rfl
  rw[c1,jY,jY,List.mem_append,List.mem_append]at hx
  rw[c2,jY,jY,List.mem_append,List.mem_append]
  rcases hx with h|h|h
  ·exact .inr (.inl h)
  ·exact .inl h
  ·exact .inr (.inr h)
 rcases hp with hp|⟨h1,h2⟩|hp
 ·exact .inl hp
 ·exact .inr (.inl ⟨h1,hb a h2⟩)
 ·refine .inr (.inr ?_)
  have e1:lQ (f::e::m)=oC (e::m) f++(oC m e++lQ m):=rfl
  have e2:lQ (e::f::m)=oC (f::m) e++(oC m f++lQ m):=rfl
  rw[e1,List.mem_append,List.mem_append]at hp
  rw[e2,List.mem_append,List.mem_append]
  have cons:∀(g:Ev) (x:Int),x∈mE m->x∈mE (g::m):=fun g x hx=>by
   have c1:g::m=[g]++m:=rfl
   rw[c1,jY];exact List.mem_append_right _ hx
  rcases hp with hp|hp|hp
  ·cases f with
   |fin d x=>
    simp only[oC,List.mem_map,Prod.mk.injEq]at hp
    obtain⟨y,h1,rfl,rfl⟩:=hp
    have hbe:fM e=false:=by
     cases hb:fM e with
     |false=>rfl
     |true=>have:=h hb;cases this
    have:mE (e::m)=mE m:=by unfold mE;rw[List.filter_cons,if_neg (by rw[hbe];decide)]
    rw[this]at h1
    exact .inr (.inl (List.mem_map.mpr ⟨y,h1,rfl⟩))
   |_=>cases hp
  ·cases e with
   |fin d x=>
    simp only[oC,List.mem_map,Prod.mk.injEq]at hp
    obtain⟨y,h1,rfl,rfl⟩:=hp
    exact .inl (List.mem_map.mpr ⟨y,cons f y h1,rfl⟩)
   |_=>cases hp
  ·exact .inr (.inr hp)
def je(es:List Ev):List Ev:=es.filter fM++es.filter kA++es.filter gP
theorem Fg{o:Att}(h:o.en.isSome=true):∀es,J2 n w (some o) es->es=[]
 |[],_=>rfl
 |e::es,hf=>by
  obtain⟨ok,_⟩:=hf
  exfalso
  cases e with
  |beg x=>exact absurd ok.2.2 (by intro z;cases z)
  |look x y z=>obtain⟨_,t,h1,h2,_⟩:=ok;cases h1;rw[h2]at h;cases h
  |put x y z=>obtain⟨_,t,h1,h2⟩:=ok;cases h1;rw[h2]at h;cases h
  |fin d x=>obtain⟨t,h1,h2⟩:=ok;cases h1;rw[h2]at h;cases h
theorem tR:∀(es:List Ev) (o:Att),J2 n w (some o) es->es.filter fM=[]/\es.filter kA++es.filter gP=es
 |[],o,_=>⟨rfl,rfl⟩
 |e::es,o,hf=>by
  obtain⟨ok,hf⟩:=hf
  cases e with
  |beg x=>exact absurd ok.2.2 (by intro z;cases z)
  |look x y z=>obtain⟨h1,h2⟩:=tR es _ hf;exact⟨h1,by show Ev.look x y z::(es.filter kA++es.filter gP)=_;rw[h2]⟩
  |put x y z=>obtain⟨h1,h2⟩:=tR es _ hf;exact⟨h1,by show Ev.put x y z::(es.filter kA++es.filter gP)=_;rw[h2]⟩
  |fin d x=>
   have:es=[]:=Fg (o:=o.ev (.fin d x)) rfl es hf
   subst this
   exact⟨rfl,rfl⟩
theorem BH:∀es:List Ev,J2 n w none es->je es=es
 |[],_=>rfl
 |e::es,hf=>by
  obtain⟨ok,hf⟩:=hf
  cases e with
  |beg x=>
   obtain⟨h1,h2⟩:=tR es _ hf
   have:je (.beg x::es)=.beg x::(es.filter fM++es.filter kA++es.filter gP):=rfl
   rw[this,h1,List.nil_append,h2]
  |look x y z=>obtain⟨_,t,h1,_⟩:=ok;cases h1
  |put x y z=>obtain⟨_,t,h1,_⟩:=ok;cases h1
  |fin d x=>obtain⟨t,h1,_⟩:=ok;cases h1
theorem Bn{es:List Ev}(lf:jJ n w [] es):prj a (je es)=prj a es:=by
 have h:=BH _ ((nJ es []).mp lf a)
 have comm:∀p:Ev->Bool,prj a (es.filter p)=(prj a es).filter p:=fun p=>by unfold prj;rw[List.filter_filter,List.filter_filter];congr 1;funext e;exact Bool.and_comm _ _
 unfold je at h ⊢
 rw[p8,p8,comm,comm,comm]
 exact h
theorem uG{es:List Ev}:lQ (je es)=[]:=by
 have nf:∀l:List Ev,(∀e∈l,gP e=false)->lQ l=[]/\zx l=[]:=fun l=>by
  induction l with
  |nil=>intro _;exact⟨rfl,rfl⟩
  |cons e l ih=>
   intro h
   obtain⟨h1,h2⟩:=ih fun x hx=>h x (List.mem_cons_of_mem _ hx)
   have he:=h e List.mem_cons_self
   cases e with
   |fin d x=>cases he
   |_=>exact⟨h1,h2⟩
 have nb:∀l:List Ev,(∀e∈l,fM e=false)->lQ l=[]/\mE l=[]:=fun l=>by
  induction l with
  |nil=>intro _;exact⟨rfl,rfl⟩
  |cons e l ih=>
   intro h
   obtain⟨h1,h2⟩:=ih fun x hx=>h x (List.mem_cons_of_mem _ hx)
   have he:=h e List.mem_cons_self
   cases e with
   |beg x=>cases he
   |fin d x=>
    have e1:lQ (.fin d x::l)=oC l (.fin d x)++lQ l:=rfl
    refine⟨?_,h2⟩
    rw[e1,h1,List.append_nil]
    simp only[oC,h2,List.map_nil]
   |_=>exact⟨h1,h2⟩
 refine List.eq_nil_iff_forall_not_mem.mpr fun p hp=>?_
 obtain⟨b,a⟩:=p
 unfold je at hp
 obtain⟨t1,f1⟩:=nf (es.filter fM++es.filter kA) fun e he=>by
  rcases List.mem_append.mp he with he|he<;>have:=(List.mem_filter.mp he).2<;>cases e<;>first|rfl|cases this
 obtain⟨t2,b2⟩:=nb (es.filter gP) fun e he=>by
  have:=(List.mem_filter.mp he).2
  cases e<;>first|rfl|cases this
 rw[tJ,t1,t2,b2]at hp
 rcases hp with h|⟨_,h⟩|h<;>cases h
end
section
variable{n w:Int}{es fs:List Ev}{a:Int}{x:List Int}
theorem sV(lf:jJ n w [] es){b:Int}:b∈mW (aU [] es) a↔(b,a)∈lQ es:=by
 have h:=rC (b:=b) (a:=a) es [] lf List.nodup_nil
 have h0:mW [] a=[]:=rfl
 have h1:mL [] b=none:=rfl
 rw[h0,h1]at h
 simp only[List.not_mem_nil,Option.isSome_none,Bool.false_eq_true,and_false,false_or]at h
 exact h
structure Wv(n w:Int)(es fs:List Ev):Prop where
 pr:∀a,prj a fs=prj a es
 tm:∀b a,(b,a)∈lQ fs->(b,a)∈lQ es
theorem Wv.refl:Wv n w es es:=⟨fun _=>rfl,fun _ _ h=>h⟩
theorem Wv.swap{l m:List Ev}{e f:Ev}(h:Wv n w es (l++e::f::m))(h1:e.at≠f.at)(h2:fM e=true->gP f=false):Wv n w es (l++f::e::m):=⟨fun a=>(Bm h1).trans (h.pr a),fun b a hp=>h.tm b a (A2 h2 hp)⟩
theorem Wv.flat(lf:jJ n w [] es):Wv n w es (je es):=⟨fun a=>Bn lf,fun b a hp=>by rw[uG]at hp;cases hp⟩
theorem Wv.lo(h:Wv n w es fs)(lf:jJ n w [] es):jJ n w [] fs:=(Gk h.pr lf).1
theorem Wv.val(h:Wv n w es fs)(lf:jJ n w [] es){t:Att}(hv:aP (aU [] es) a=some t):∃t',aP (aU [] fs) a=some t'/\t'.en=t.en/\t'.lk=t.lk/\t'.nd=t.nd/\t'.ps=t.ps:=by
 have:=(Gk h.pr lf).2 a
 unfold pN at this
 rw[hv]at this
 obtain⟨t',h1,h2⟩:=Option.map_eq_some_iff.mp this
 have e:∀u:Att,u.str.en=u.en/\u.str.lk=u.lk/\u.str.nd=u.nd/\u.str.ps=u.ps:=fun u=>⟨rfl,rfl,rfl,rfl⟩
 have e1:=e t;have e2:=e t'
 rw[h2]at e2
 exact⟨t',h1,e2.1.symm.trans e1.1,e2.2.1.symm.trans e1.2.1,e2.2.2.1.symm.trans e1.2.2.1,e2.2.2.2.symm.trans e1.2.2.2⟩
theorem Wv.key(h:Wv n w es fs)(lf:jJ n w [] es):a∈ax (aU [] fs)↔a∈ax (aU [] es):=by
 have:=(Gk h.pr lf).2 a
 unfold pN at this
 have k:∀st:St,a∈ax st↔aP st a≠none:=fun st=>by rw[Ne,cq];exact Decidable.not_not.symm
 rw[k,k]
 cases h1:aP (aU [] fs) a<;>cases h2:aP (aU [] es) a<;>rw[h1,h2]at this<;>simp at this ⊢
theorem Wv.sort(h:Wv n w es fs)(lf:jJ n w [] es):bS (ax (aU [] fs))=bS (ax (aU [] es)):=by
 have n1:=jy es [] lf List.nodup_nil
 have n2:=jy fs [] (h.lo lf) List.nodup_nil
 have p:(ax (aU [] fs)).Perm (ax (aU [] es)):=(List.perm_ext_iff_of_nodup n2 n1).mpr fun a=>h.key lf
 exact(pT (((cu _).trans p.symm)) (ml _)).symm
theorem Wv.logOk{N:Nat}(h:Wv n w es fs)(lg:ji n w N es)(hl:es.length<=fs.length):ji n w N fs:=by
 have n1:=jy es [] lg.lo List.nodup_nil
 have n2:=jy fs [] (h.lo lg.lo) List.nodup_nil
 have p:(ax (aU [] fs)).Perm (ax (aU [] es)):=(List.perm_ext_iff_of_nodup n2 n1).mpr fun a=>h.key lg.lo
 refine⟨h.lo lg.lo,n2,?_,fun a t hv=>?_⟩
 ·have:=p.length_eq
  unfold ax at this
  rw[List.length_map,List.length_map]at this
  rw[this];exact lg.cnt
 ·obtain⟨t0,h0⟩:=hJ ((h.key lg.lo).mp (Es hv))
  obtain⟨t',h1,_,_,_,h5⟩:=h.val lg.lo h0
  rw[hv]at h1
  cases h1
  have:=lg.pb a t0 h0
  rw[h5]
  exact⟨by omega,this.2⟩
theorem Wv.good(h:Wv n w es fs)(lf:jJ n w [] es){os:List Int}(hk:∀a∈os,a∈ax (aU [] es))(hg:lU (aU [] es) true [] x os=true):lU (aU [] fs) true [] x os=true:=by
 rw[ub os [] x hk,qv]at hg
 rw[ub os [] x fun a ha=>(h.key lf).mpr (hk a ha),qv]
 have ce:∀a,a∈ax (aU [] es)->∀y,chg (aU [] fs) a y=chg (aU [] es) a y:=fun a ha y=>by
  obtain⟨t,ht⟩:=hJ ha
  obtain⟨t',h1,h2,_,_,h5⟩:=h.val lf ht
  unfold chg mL w6
  rw[h1,ht]
  show(if t'.en=some true then beh y t'.ps 0 else y)=if t.en=some true then beh y t.ps 0 else y
  rw[h2,h5]
 have fe:∀l:List Int,(∀a∈l,a∈ax (aU [] es))->∀y,zv (chg (aU [] fs)) y l=zv (chg (aU [] es)) y l:=fun l=>by
  induction l with
  |nil=>intro _ y;rfl
  |cons a l ih=>
   intro hl y
   show zv (chg (aU [] fs)) (chg (aU [] fs) a y) l=zv (chg (aU [] es)) (chg (aU [] es) a y) l
   rw[ce a (hl a List.mem_cons_self),ih fun b hb=>hl b (List.mem_cons_of_mem _ hb)]
 intro l1 a l2 e
 obtain⟨g1,g2⟩:=hg l1 a l2 e
 have ha:a∈ax (aU [] es):=hk a (by rw[e];simp)
 have hl1:∀b∈l1,b∈ax (aU [] es):=fun b hb=>hk b (by rw[e];simp[hb])
 refine⟨fun b hb=>g1 b ?_,?_⟩
 ·unfold ndA at hb ⊢
  rw[List.mem_filter]at hb ⊢
  exact⟨(sV lf).mpr (h.tm b a ((sV (h.lo lf)).mp hb.1)),rfl⟩
 ·rw[fe l1 hl1]
  obtain⟨t,ht⟩:=hJ ha
  obtain⟨t',h1,_,_,h4,_⟩:=h.val lf ht
  unfold ftA at g2 ⊢
  rw[ht]at g2
  rw[h1]
  show t'.nd.all _=true
  rw[h4];exact g2
end
section
variable{S:Sto}{jo:Nat}{os row:List Int}{a:Int}
variable{many:Int}{wr lk:List (List Int)}{tm:U}
theorem sO{l k:Nat}{us vs:List U}(h1:S[l]?=some (.lst us))(h2:S[k]?=some (.lst vs))(hz:us.length+vs.length<=LIM):fN (.ref l) (.ref k) S=some (.ref S.length,S++[.lst (us++vs)]):=by
 simp only[fN,nX,h1,h2,hz,if_true]
end
theorem oE{ca cb:CS}{ρ ρ':Rho}{S S':Sto}(h:ca ρ S=some (.nx,ρ',S')):bL ca cb ρ S=cb ρ' S':=by rw[GS,h,Option.bind_some,CD]
inductive Gd(S:Sto):U->Prop
 |non:Gd S .non
 |bl (b:Bool):Gd S (.bl b)
 |int (i:Int):Gd S (.int i)
 |str (x:Str):Gd S (.str x)
 |lst {l:Nat} {us:List U} (h:S[l]?=some (.lst us)):Gd S (.ref l)
 |tup {us:List U} (h:∀u∈us,Gd S u):Gd S (.tup us)
theorem Gd.app{S:Sto}{u:U}(h:Gd S u)(X:Sto):Gd (S++X) u:=by
 induction h with
 |non=>exact .non
 |bl b=>exact .bl b
 |int i=>exact .int i
 |str x=>exact .str x
 |lst h=>exact .lst (ak h)
 |tup _ ih=>exact .tup ih
theorem Gd.mem{S:Sto}{us:List U}(h:Gd S (.tup us)):∀u∈us,Gd S u:=by
 cases h with
 |tup h=>exact h
def ej(lo hi:Int):U->Bool
 |.int i=>decide (lo<=i)&&decide (i<=hi)
 |_=>false
section
variable{n w lo hi:Int}{S:Sto}{u:U}{us r:List U}{t:Nat}
def qR:Fn:=fnU 1 1 fj
def isI:U->Bool
 |.int _=>true
 |_=>false
theorem xJ(h:Gd S u):qR [u] S=some (.bl (isI u),S):=by
 unfold qR
 rw[pz]
 cases h with
 |non=>rfl
 |bl b=>rfl
 |int i=>rfl
 |str x=>rfl
 |tup _=>rfl
 |lst h=>rwa[fj,tyU,h,AA,isI]
def qQ:Fn:=fnU 3 3 (b8 qR)
theorem Cs{ρ:Rho}{c1 c2 c3:CE}{i:Int}(h1:c1 ρ S=some (.int lo,S))(h2:c2 ρ S=some (.int i,S))(h3:c3 ρ S=some (.int hi,S)):sQ fLe fLe c1 c2 c3 ρ S=some (.bl (decide (lo<=i)&&decide (i<=hi)),S):=by
 unfold sQ
 rw[h1,Option.bind_some]
 dsimp only
 rw[h2,Option.bind_some]
 dsimp only
 rw[KO,Option.bind_some]
 cases hd:decide (lo<=i)with
 |true=>
  dsimp only
  rw[h3,Option.bind_some,KO,Bool.true_and]
 |false=>rfl
theorem m6(h:Gd S u):qQ [u,.int lo,.int hi] S=some (.bl (ej lo hi u),S):=by
 have e:=xJ h
 unfold qQ
 rw[ue]
 cases u with
 |int i=>
  have hc:=Cs (S:=S) (lo:=lo) (hi:=hi) (i:=i) (ρ:=[some (.int i),some (.int lo),some (.int hi)]) (c1:=ah 1) (c2:=ah 0) (c3:=ah 2) rfl rfl rfl
  simp only[isI]at e
  rwa[b8,e,hc,ej]
 |non=>simp only[isI]at e;rwa[b8,e,ej]
 |bl b=>simp only[isI]at e;rwa[b8,e,ej]
 |str x=>simp only[isI]at e;rwa[b8,e,ej]
 |tup x=>simp only[isI]at e;rwa[b8,e,ej]
 |ref x=>simp only[isI]at e;rwa[b8,e,ej]
 |kl x=>cases h
theorem FF{i:Nat}{ρ:Rho}(hv:ρ[i]?=some (some u))(h:Gd S u)(hn:∀us,u≠.tup us):aI (Cv .tuple (ah i)) ρ S=some (false,S):=by
 have e:ah i ρ S=some (u,S):=by unfold ah;rw[hv]
 rw[i8,AH,e,Option.bind_some,uv]
 cases h with
 |tup _=>exact absurd rfl (hn _)
 |lst h=>simp only[tyU,h,Option.bind_some,AA,xf]
 |_=>rfl
theorem B4{i:Nat}{ρ:Rho}(hv:ρ[i]?=some (some (.tup us))):aI (Cv .tuple (ah i)) ρ S=some (true,S):=by
 have e:ah i ρ S=some (.tup us,S):=by unfold ah;rw[hv]
 rw[i8,AH,e,Option.bind_some,uv]
 rfl
end
section
variable{α:Type}{n w lo hi:Int}{S:Sto}{u x a b:U}{us r:List U}{t:Nat}{rec:U->Bool}{f:α->U}{q:List α->Prop}{s:List α->Int}
theorem qc(h:ej lo hi x=true):∃i,x=.int i/\lo<=i/\i<=hi:=by
 cases x with
 |int i=>
  have h':(decide (lo<=i)&&decide (i<=hi))=true:=h
  rw[Bool.and_eq_true,decide_eq_true_iff,decide_eq_true_iff]at h'
  exact⟨i,rfl,h'⟩
 |_=>cases h
theorem gX{i:Int}(h1:lo<=i)(h2:i<=hi):ej lo hi (.int i)=true:=by
 show(decide (lo<=i)&&decide (i<=hi))=true
 rw[decide_eq_true h1,decide_eq_true h2];rfl
end
theorem wJ{c:Cl}{S:Sto}{st:St}{n w:Int}{e:Ev}{m:Nat}(hk:(ax st).Nodup)(ok:mF n w st e)(fw:Few st m)(hm:m<=9000)(h9:st.length<=900):g7 c [.ref S.length,e.u] (crs c S st)=some (.non,crs c S (stp st e)):=by
 unfold g7
 rw[jD]
 have i0:∀st:St,(crs c S st)[S.length]?=some (.ins c [some (.ref (S.length+1)),some (.ref (S.length+2)),some (.ref (S.length+3)),some (.ref (S.length+4)),some (.ref (S.length+5))]):=fun _=>hd0
 cases e with
 |beg a=>
  have h:=sN (c:=c) (S:=S) hk ok.2.2 h9
  rwa[aM,Ev.u,j8,h,i0,stp]
 |look a b x=>
  obtain⟨_,t,h1,h2,_⟩:=ok
  obtain⟨s1,s2,rfl⟩:=bX h1
  obtain⟨q1,q2,q3⟩:=fw.2 _ (List.mem_append_right s1 List.mem_cons_self)
  dsimp only at q1 q2
  have h:=yL (c:=c) (S:=S) (b:=b) (x:=x) hk (by omega) (by omega)
  rwa[aM,Ev.u,fB,j8,h,i0,stp,Ev.at,fC hk]
 |put a b x=>
  obtain⟨_,t,h1,h2⟩:=ok
  obtain⟨s1,s2,rfl⟩:=bX h1
  obtain⟨q1,q2,q3⟩:=fw.2 _ (List.mem_append_right s1 List.mem_cons_self)
  dsimp only at q3
  have F3:jc c 3 (.ref S.length,crs c S (s1++(a,t)::s2))=some (.ref (S.length+4),crs c S (s1++(a,t)::s2)):=cm hd0 rfl
  have f4:(crs c S (s1++(a,t)::s2))[S.length+4]?=some (.dic (d6 S.length 3 (s1++(a,t)::s2) 0)):=hd4
  have v3:=fP (S:=S) (j:=3) hk
  have g3:(crs c S (s1++(a,t)::s2))[S.length+(6+(4*s1.length+3))]?=some (.dic (jU t.ps)):=jE (by omega)
  have lp:(jU t.ps).length<LIM:=by unfold jU LIM;rw[List.length_map];omega
  have s3:=qJ (c:=c) (S:=S) (s1:=s1) (s2:=s2) (a:=a) (t:=t) (t':=t.ev (.put a b x)) (j:=3) (o:=.dic (jU (ik t.ps b x))) (by omega) rfl rfl
  rwa[aM,Ev.u,gj,jP,j8,i0,F3,f4,v3,g3,lp,if_true,pY,s3,stp,Ev.at,fC hk]
 |fin d a=>
  obtain⟨t,h1,h2⟩:=ok
  obtain⟨s1,s2,rfl⟩:=bX h1
  have F0:jc c 0 (.ref S.length,crs c S (s1++(a,t)::s2))=some (.ref (S.length+1),crs c S (s1++(a,t)::s2)):=cm hd0 rfl
  have f1:(crs c S (s1++(a,t)::s2))[S.length+1]?=some (.dic (eO (s1++(a,t)::s2))):=hd1
  have lE:(eO (s1++(a,t)::s2)).length<LIM:=by have:=fw.1;unfold eO LIM;rw[List.length_map];omega
  have ce:=zX (c:=c) (S:=S) (d:=d) hk
  cases d with
  |true=>
   simp only[px,if_true]at ce
   rwa[aM,Ev.u,px,if_true,gT,kq,lP,i0,F0,f1,lE,ce,stp,Ev.at,Att.ev,fC hk]
  |false=>
   simp only[px,Bool.false_eq_true,if_false]at ce
   rwa[aM,Ev.u,px,Bool.false_eq_true,if_true,if_false,gR,ko,lO,i0,F0,f1,lE,ce,stp,Ev.at,Att.ev,fC hk]
inductive Fs(S:Sto):U->Prop
 |str (x:Str) (k:PyData.strOk x=true):Fs S (.str x)
 |tup (x:Str) (k:PyData.strOk x=true):Fs S (.tup [.str x])
 |lst {l:Nat} {x:Str} (k:PyData.strOk x=true) (h:S[l]?=some (.lst [.str x])):Fs S (.ref l)
theorem Fs.app{S:Sto}{u:U}(h:Fs S u)(X:Sto):Fs (S++X) u:=by
 cases h with
 |str x k=>exact .str x k
 |tup x k=>exact .tup x k
 |lst k h=>exact .lst k (ak h)
structure GdE(S:Sto)(u:U):Prop where
 gd:Gd S u
 fs:∀x y r,u=.tup (x::y::r)->Fs S x
theorem GdE.app{S:Sto}{u:U}(h:GdE S u)(X:Sto):GdE (S++X) u:=⟨h.gd.app X,fun x y r e=>(h.fs x y r e).app X⟩
def inW(ws:List Str):U->Bool
 |.str s=>ws.any fun z=>decide (z=s)
 |_=>false
theorem zN{S:Sto}:∀ws:List Str,DtL S (ws.map U.str) (ws.map PyData.str)
 |[]=>.nil
 |w::ws=>.cons (.str w) (zN ws)
theorem vb:∀ws:List Str,(∀z∈ws,PyData.strOk z=true)->PyData.canLayAll0 (ws.map PyData.str)=true
 |[],_=>by simp[PyData.canLayAll0]
 |w::ws,h=>by simp[PyData.canLayAll0,PyData.canLay0,vb ws fun z hz=>h z (List.mem_cons_of_mem _ hz),h w List.mem_cons_self]
theorem Dv{S:Sto}{u:U}{ws:List Str}(hw:∀z∈ws,PyData.strOk z=true)(h:Fs S u):vy false u (.tup (ws.map U.str)) S=some (.bl (inW ws u),S):=by
 have key:∀{d:PyData},Dt S u d->sZ d->((ws.map PyData.str).any fun z=>z.eqv d)=inW ws u->vy false u (.tup (ws.map U.str)) S=some (.bl (inW ws u),S):=fun{d} hd hl e=>by
  have:=zF (x:=u) (y:=.tup (ws.map U.str)) (S:=S) (b:=(ws.map PyData.str).any fun z=>z.eqv d) false ⟨d,ws.map PyData.str,hd,.inr (.tup (zN ws)),hl,vb ws hw,rfl⟩
  rw[e]at this
  exact this
 have no:∀(d:PyData),(∀z,(PyData.str z).eqv d=false)->((ws.map PyData.str).any fun z=>z.eqv d)=false:=fun d hz=>by
  rw[List.any_map]
  exact List.any_eq_false.mpr fun z _=>by simp[hz]
 cases h with
 |str x k=>
  refine key (.str x) ⟨by simp[PyData.canLay0,k],by simp[PyData.depth]⟩ ?_
  rw[List.any_map]
  show ws.any _=ws.any _
  congr 1
 |tup x k=>exact key (.tup (.cons (.str x) .nil)) ⟨by simp[PyData.canLay0,PyData.canLayAll0,k],by simp[PyData.depth,PyData.depthAll]⟩ (no _ fun z=>by simp[PyData.eqv])
 |lst k h'=>exact key (.lst h' (.cons (.str _) .nil)) ⟨by simp[PyData.canLay0,PyData.canLayAll0,k],by simp[PyData.depth,PyData.depthAll]⟩ (no _ fun z=>by simp[PyData.eqv])
def wsA:List Str:=["begin","done","fall"]
def wsB:List Str:=["look","put"]
theorem okA:∀z∈wsA,PyData.strOk z=true:=by
 have:wsA.all PyData.strOk=true:=by decide +kernel
 exact List.all_eq_true.mp this
theorem okB:∀z∈wsB,PyData.strOk z=true:=by
 have:wsB.all PyData.strOk=true:=by decide +kernel
 exact List.all_eq_true.mp this
def FY(n w:Int):List U->Bool
 |[x2,x3]=>ej 0 (n-1) x2&&ej 0 (w-1) x3
 |_=>false
def vz(n w:Int):U->Bool
 |.tup (x0::x1::r)=>ej 0 199 x1&&(if inW wsA x0 then decide (r.length=0)else inW wsB x0&&FY n w r)
 |_=>false
section
variable{n w:Int}{S:Sto}{u:U}
def jH:Fn:=fnU 2 2 (bz qQ)
theorem wo(h:GdE S u):jH [.tup [.int n,.int w],u] S=some (.bl (vz n w u),S):=by
 unfold jH
 rw[wO]
 by_cases hu:∃us,u=.tup us
 ·obtain⟨us,rfl⟩:=hu
  have e1:=B4 (i:=1) (S:=S) (us:=us) (ρ:=[some (.tup [.int n,.int w]),some (.tup us)]) rfl
  match us,h with
  |[],h=>rwa[bz,e1,vz,List.length_nil];rfl
  |[x],h=>rwa[bz,e1,vz,List.length_cons,List.length_nil];rfl
  |x0::x1::r,h=>
   have gm:=h.gd.mem
   have hw:=m6 (lo:=0) (hi:=199) (gm x1 (List.mem_cons_of_mem _ List.mem_cons_self))
   have hf:=h.fs x0 x1 r rfl
   have iA:=Dv okA hf
   have iB:=Dv okB hf
   have d2:decide (((x0::x1::r).length:Int)<2)=false:=decide_eq_false (by simp;omega)
   have a0:atI (x0::x1::r) 0=some x0:=iY (j:=0) rfl
   have a1:atI (x0::x1::r) 1=some x1:=iY (j:=1) rfl
   have dA:decide (((x0::x1::r).length:Int)=2)=decide (r.length=0):=by
    have e:(((x0::x1::r).length:Int)=2)↔r.length=0:=by simp only[List.length_cons];omega
    simp only[e]
   simp only[wsA,wsB,List.map_cons,List.map_nil]at iA iB
   obtain⟨us,hus⟩:∃us,us=x0::x1::r:=⟨_,rfl⟩
   rw[<-hus]at e1 d2 a0 a1 dA ⊢
   cases hp:ej 0 199 x1 with
   |false=>
    rw[hp]at hw
    have ev:vz n w (.tup us)=false:=by rw[hus];show(ej 0 199 x1&&_)=false;rw[hp];rfl
    rw[ev]
    rwa[bz,e1,d2,a1,hw]
   |true=>
    rw[hp]at hw
    cases hA:inW wsA x0 with
    |true=>
     rw[show inW ["begin","done","fall"] x0=true from hA]at iA
     have ev:vz n w (.tup us)=decide (r.length=0):=by rw[hus];show(ej 0 199 x1&&(if inW wsA x0=true then _ else _))=_;rw[hp,hA];rfl
     rw[ev]
     rwa[bz,e1,d2,a0,a1,hw,iA,dA]
    |false=>
     rw[show inW ["begin","done","fall"] x0=false from hA]at iA
     have ev:vz n w (.tup us)=(inW wsB x0&&FY n w r):=by rw[hus];show(ej 0 199 x1&&(if inW wsA x0=true then _ else _))=_;rw[hp,hA];rfl
     rw[ev]
     cases hB:inW wsB x0 with
     |false=>
      rw[show inW ["look","put"] x0=false from hB]at iB
      rwa[bz,e1,d2,a0,a1,hw,iA,iB,Bool.false_and]
     |true=>
      rw[show inW ["look","put"] x0=true from hB]at iB
      match r,hus with
      |[x2,x3],hus=>
       have w2:=m6 (lo:=0) (hi:=n-1) (gm x2 (by simp))
       have w3:=m6 (lo:=0) (hi:=w-1) (gm x3 (by simp))
       have d4:decide ((us.length:Int)=4)=true:=decide_eq_true (by rw[hus];rfl)
       have a2:atI us 2=some x2:=by rw[hus];exact iY (j:=2) rfl
       have a3:atI us 3=some x3:=by rw[hus];exact iY (j:=3) rfl
       have eB:FY n w [x2,x3]=(ej 0 (n-1) x2&&ej 0 (w-1) x3):=rfl
       rw[eB]
       cases h2:ej 0 (n-1) x2 with
       |false=>
        rw[h2]at w2
        rwa[bz,e1,d2,d4,a0,a1,a2,hw,iA,iB,w2,Bool.true_and,Bool.false_and]
       |true=>
        rw[h2]at w2
        rwa[bz,e1,d2,d4,a0,a1,a2,a3,hw,iA,iB,w2,w3,Bool.true_and]
      |[],hus=>
       have d4:decide ((us.length:Int)=4)=false:=decide_eq_false (by rw[hus];simp)
       have eB:FY n w []=false:=rfl
       rwa[bz,e1,d2,d4,a0,a1,hw,iA,iB,eB,Bool.and_false]
      |[x2],hus=>
       have d4:decide ((us.length:Int)=4)=false:=decide_eq_false (by rw[hus];simp)
       have eB:FY n w [x2]=false:=rfl
       rwa[bz,e1,d2,d4,a0,a1,hw,iA,iB,eB,Bool.and_false]
      |x2::x3::x4::r,hus=>
       have d4:decide ((us.length:Int)=4)=false:=decide_eq_false (by rw[hus];simp;omega)
       have eB:FY n w (x2::x3::x4::r)=false:=rfl
       rwa[bz,e1,d2,d4,a0,a1,hw,iA,iB,eB,Bool.and_false]
 ·have e1:=FF (i:=1) (S:=S) (u:=u) (ρ:=[some (.tup [.int n,.int w]),some u]) rfl h.gd fun us z=>hu ⟨us,z⟩
  have er:vz n w u=false:=by
   cases u with
   |tup us=>exact absurd ⟨us,rfl⟩ hu
   |_=>rfl
  rw[er]
  rwa[bz,e1]
end
section
variable{n w lo hi:Int}{S:Sto}{u:U}
def EvB(n w:Int):Ev->Prop
 |.beg a=>0<=a/\a<200
 |.look a b x=>(0<=a/\a<200)/\0<=b/\b<n/\0<=x/\x<w
 |.put a b x=>(0<=a/\a<200)/\0<=b/\b<n/\0<=x/\x<w
 |.fin _ a=>0<=a/\a<200
theorem zG(h:vz n w u=true):∃e:Ev,u=e.u/\EvB n w e:=by
 match u,h with
 |.tup (x0::x1::r),h=>
  have h':(ej 0 199 x1&&(if inW wsA x0 then decide (r.length=0)else inW wsB x0&&FY n w r))=true:=h
  rw[Bool.and_eq_true]at h'
  obtain⟨h1,h2⟩:=h'
  obtain⟨a,rfl,a0,a1⟩:=qc h1
  cases x0 with
  |str s=>
   split at h2
   ·rename_i hA
    have hr:r=[]:=List.length_eq_zero_iff.mp (of_decide_eq_true h2)
    subst hr
    have hA':(decide (Str.ofString "begin"=s)||(decide (Str.ofString "done"=s)||(decide (Str.ofString "fall"=s)||false)))=true:=hA
    simp only[Bool.or_eq_true,decide_eq_true_eq,Bool.or_false]at hA'
    rcases hA' with rfl|rfl|rfl
    ·exact⟨.beg a,rfl,a0,by omega⟩
    ·exact⟨.fin true a,rfl,a0,by omega⟩
    ·exact⟨.fin false a,rfl,a0,by omega⟩
   ·rw[Bool.and_eq_true]at h2
    obtain⟨hB,hE⟩:=h2
    match r,hE with
    |[x2,x3],hE=>
     have hE':(ej 0 (n-1) x2&&ej 0 (w-1) x3)=true:=hE
     rw[Bool.and_eq_true]at hE'
     obtain⟨b,rfl,b0,b1⟩:=qc hE'.1
     obtain⟨x,rfl,c0,c1⟩:=qc hE'.2
     have hB':(decide (Str.ofString "look"=s)||(decide (Str.ofString "put"=s)||false))=true:=hB
     simp only[Bool.or_eq_true,decide_eq_true_eq,Bool.or_false]at hB'
     rcases hB' with rfl|rfl
     ·exact⟨.look a b x,rfl,⟨a0,by omega⟩,b0,by omega,c0,by omega⟩
     ·exact⟨.put a b x,rfl,⟨a0,by omega⟩,b0,by omega,c0,by omega⟩
  |_=>simp[inW]at h2
end
open Classical in
def okS(n w:Int)(st:St)(e:Ev):Bool:=decide (mF n w st e)
section
variable{n w:Int}{S:Sto}{u:U}{c:Cl}{st:St}{e:Ev}
theorem tW(h:mF n w st e):okS n w st e=true:=by unfold okS;exact @decide_eq_true _ (Classical.propDecidable _) h
theorem oI(h:¬mF n w st e):okS n w st e=false:=by unfold okS;exact @decide_eq_false _ (Classical.propDecidable _) h
def mX(c:Cl):Fn:=fnU 3 2 (aN c)
theorem iM{a:Int}(h:aP st a=none):aP (eO st) (.inl a)=none:=cq.mpr (by rw[iD];exact lT (cq.mp h))
theorem Aq(hk:(ax st).Nodup)(eb:EvB n w e):mX c [.ref S.length,e.u] (crs c S st)=some (.bl (okS n w st e),crs c S st):=by
 unfold mX
 rw[n4]
 have F0:jc c 0 (.ref S.length,crs c S st)=some (.ref (S.length+1),crs c S st):=cm hd0 rfl
 have f1:(crs c S st)[S.length+1]?=some (.dic (eO st)):=hd1
 have i0:(crs c S st)[S.length]?=some (.ins c [some (.ref (S.length+1)),some (.ref (S.length+2)),some (.ref (S.length+3)),some (.ref (S.length+4)),some (.ref (S.length+5))]):=hd0
 have get1:∀(x1:U) (a:Int),vG (fA c 0 (ah 0)) (ah 2) [some (.ref S.length),some x1,some (.int a)] (crs c S st)=some ((aP (eO st) (.inl a)).getD .non,crs c S st):=fun x1 a=>by
  have h0:fA c 0 (ah 0) [some (.ref S.length),some x1,some (.int a)] (crs c S st)=some (.ref (S.length+1),crs c S st):=by rw[Hm];exact F0
  unfold vG
  rw[h0,Option.bind_some]
  have hv:ah 2 [some (.ref S.length),some x1,some (.int a)] (crs c S st)=some (.int a,crs c S st):=rfl
  simp only[f1,hv,Option.bind_some]
  rfl
 have ne0:∀x:Str,fNe .non (.str x) (crs c S st)=some (.bl true,crs c S st):=fun _=>rfl
 cases e with
 |beg a=>
  have hv:(aP (eO st) (.inl a)).isSome=decide (a∈ax st):=by
   by_cases h:a∈ax st
   ·rw[decide_eq_true h]
    cases hz:aP (eO st) (.inl a)with
    |some _=>rfl
    |none=>
     have:=cq.mp hz
     rw[iD]at this
     exact absurd (List.mem_map.mpr ⟨a,h,rfl⟩) this
   ·rw[decide_eq_false h,cq.mpr (by rw[iD];exact lT h)];rfl
  have er:okS n w st (.beg a)=!decide (a∈ax st):=by
   by_cases h:a∈ax st
   ·rw[decide_eq_true h,oI (e:=.beg a) (fun z:0<=a/\a<200/\a∉ax st=>z.2.2 h)];rfl
   ·rw[decide_eq_false h,tW (e:=.beg a) (show 0<=a/\a<200/\a∉ax st from⟨eb.1,eb.2,h⟩)];rfl
  rw[er,<-hv]
  rwa[aN,Ev.u,j8,F0,f1,if_true]
 |look a b x=>
  cases hv:aP st a with
  |none=>
   have er:okS n w st (.look a b x)=false:=oI fun z=>by obtain⟨_,t,h1,_⟩:=z;rw[hv]at h1;cases h1
   have g:=get1 (Ev.look a b x).u a
   rw[iM hv,Option.getD_none]at g
   simp only[Ev.u]at g
   rw[er]
   rwa[aN,Ev.u,fB,g,ne0]
  |some t=>
   obtain⟨s1,s2,rfl⟩:=bX hv
   have g:=get1 (Ev.look a b x).u a
   rw[iO hk,Option.getD_some]at g
   simp only[Ev.u]at g
   have eo:=qA (o:=t.en)
   cases ht:t.en with
   |some d=>
    rw[ht]at eo g
    have er:okS n w (s1++(a,t)::s2) (.look a b x)=false:=oI fun z=>by obtain⟨_,t',h1,h2,_⟩:=z;rw[hv]at h1;cases h1;rw[ht]at h2;cases h2
    rw[er]
    rwa[aN,Ev.u,fB,g,eo,Option.isSome_some,Bool.not_true,Bool.not_false]
   |none=>
    rw[ht]at eo g
    have F3:jc c 3 (.ref S.length,crs c S (s1++(a,t)::s2))=some (.ref (S.length+4),crs c S (s1++(a,t)::s2)):=cm hd0 rfl
    have f4:(crs c S (s1++(a,t)::s2))[S.length+4]?=some (.dic (d6 S.length 3 (s1++(a,t)::s2) 0)):=hd4
    have v3:=fP (S:=S) (j:=3) hk
    have g3:(crs c S (s1++(a,t)::s2))[S.length+(6+(4*s1.length+3))]?=some (.dic (jU t.ps)):=jE (by omega)
    have vp:=iN b t.ps
    have er:okS n w (s1++(a,t)::s2) (.look a b x)=decide ((aP t.ps b).getD x=x):=by
     by_cases h:(aP t.ps b).getD x=x
     ·rw[decide_eq_true h]
      refine tW ⟨eb.2,t,hv,ht,fun y hy=>?_⟩
      rw[hy]at h;exact h
     ·rw[decide_eq_false h]
      refine oI fun z=>?_
      obtain⟨_,t',h1,_,h3⟩:=z
      rw[hv]at h1;cases h1
      cases hb:aP t.ps b with
      |none=>rw[hb]at h;exact h rfl
      |some y=>rw[hb]at h;exact h (h3 y hb)
    have vg:(aP (jU t.ps) (.inl b)).getD (.int x)=.int ((aP t.ps b).getD x):=by rw[vp];cases aP t.ps b<;>rfl
    rw[er]
    rwa[aN,Ev.u,fB,j8,g,eo,Option.isSome_none,Bool.not_true,Bool.not_false,F3,f4,v3,g3,vg]
 |put a b x=>
  cases hv:aP st a with
  |none=>
   have er:okS n w st (.put a b x)=false:=oI fun z=>by obtain⟨_,t,h1,_⟩:=z;rw[hv]at h1;cases h1
   have g:=get1 (Ev.put a b x).u a
   rw[iM hv,Option.getD_none]at g
   simp only[Ev.u]at g
   rw[er]
   rwa[aN,Ev.u,gj,g,ne0]
  |some t=>
   obtain⟨s1,s2,rfl⟩:=bX hv
   have g:=get1 (Ev.put a b x).u a
   rw[iO hk,Option.getD_some]at g
   simp only[Ev.u]at g
   have eo:=qA (o:=t.en)
   cases ht:t.en with
   |some d=>
    rw[ht]at eo g
    have er:okS n w (s1++(a,t)::s2) (.put a b x)=false:=oI fun z=>by obtain⟨_,t',h1,h2⟩:=z;rw[hv]at h1;cases h1;rw[ht]at h2;cases h2
    rw[er]
    rwa[aN,Ev.u,gj,g,eo,Option.isSome_some,Bool.not_true,Bool.not_false]
   |none=>
    rw[ht]at eo g
    have er:okS n w (s1++(a,t)::s2) (.put a b x)=true:=tW ⟨eb.2,t,hv,ht⟩
    rw[er]
    rwa[aN,Ev.u,gj,jP,g,eo,Option.isSome_none,Bool.not_true,Bool.not_false]
 |fin d a=>
  have wb:decide (px d=Str.ofString "begin")=false:=by cases d;exact gR;exact gT
  have wl:decide (px d=Str.ofString "look")=false:=by cases d;exact ko;exact kq
  cases hv:aP st a with
  |none=>
   have er:okS n w st (.fin d a)=false:=oI fun z=>by obtain⟨t,h1,_⟩:=z;rw[hv]at h1;cases h1
   have g:=get1 (Ev.fin d a).u a
   rw[iM hv,Option.getD_none]at g
   simp only[Ev.u]at g
   rw[er]
   rwa[aN,Ev.u,wb,g,ne0]
  |some t=>
   obtain⟨s1,s2,rfl⟩:=bX hv
   have g:=get1 (Ev.fin d a).u a
   rw[iO hk,Option.getD_some]at g
   simp only[Ev.u]at g
   have eo:=qA (o:=t.en)
   cases ht:t.en with
   |some d'=>
    rw[ht]at eo g
    have er:okS n w (s1++(a,t)::s2) (.fin d a)=false:=oI fun z=>by obtain⟨t',h1,h2⟩:=z;rw[hv]at h1;cases h1;rw[ht]at h2;cases h2
    rw[er]
    rwa[aN,Ev.u,wb,g,eo,Option.isSome_some,Bool.not_true,Bool.not_false]
   |none=>
    rw[ht]at eo g
    have er:okS n w (s1++(a,t)::s2) (.fin d a)=true:=tW ⟨t,hv,ht⟩
    rw[er]
    rwa[aN,Ev.u,wb,wl,g,eo,Option.isSome_none,Bool.not_true,Bool.not_false]
open Classical in
def nxE(n w:Int)(u:U):Option Ev:=if h:vz n w u=true then some (zG h).choose else none
theorem Fm(h:vz n w u=false):nxE n w u=none:=by
 unfold nxE
 rw[dif_neg (by rw[h];exact Bool.false_ne_true)]
theorem yK(h:vz n w u=true):∃e,nxE n w u=some e/\u=e.u/\EvB n w e:=by
 unfold nxE
 rw[dif_pos h]
 exact⟨_,rfl,(zG h).choose_spec⟩
def lV(n w:Int):St->List U->Bool
 |_,[]=>true
 |st,u::us=>match nxE n w u with
  |none=>false
  |some e=>okS n w st e&&lV n w (stp st e) us
structure StI(st:St)(m:Nat):Prop where
 nd:(ax st).Nodup
 kb:∀k∈ax st,0<=k/\k<((200:Nat):Int)
 fw:Few st m
theorem StI.len{m:Nat}(h:StI st m):st.length<=200:=by
 have:=few 200 (ax st) h.nd h.kb
 unfold ax at this
 rw[List.length_map]at this
 exact this
theorem StI.stp{m:Nat}(h:StI st m)(eb:EvB n w e)(ok:mF n w st e):StI (stp st e) (m+1):=by
 refine⟨gy h.nd ok,fun k hk=>?_,zy h.nd ok h.fw⟩
 rw[lz]at hk
 cases e with
 |beg a=>
  rcases List.mem_append.mp hk with hk|hk
  ·exact h.kb k hk
  ·rw[List.mem_singleton.mp hk];exact⟨eb.1,by have:=eb.2;omega⟩
 |_=>exact h.kb k hk
def qS(c:Cl):Fn:=fnU 4 2 (gZ jH (mX c) (g7 c) (kH c) c)
theorem pj{wx:Option U}{ok:Sto->Prop}(hok:∀st,ok (crs c S st)):∀(us:List U) (st:St) (m:Nat) (r3:Option U),StI st m->m+us.length<=9000->(∀u∈us,GdE S u)->
  ∃ρ st',eA ok (gNm 3) (iJ jH (mX c) (g7 c) (kH c) c) us [some (.tup [.int n,.int w]),wx,some (.ref S.length),r3] (crs c S st)=some (if lV n w st us then .nx else .rt (.bl false),ρ,crs c S st')
 |[],st,m,r3,_,_,_=>⟨_,st,cX (hok st)⟩
 |u::us,st,m,r3,hi,hm,hg=>by
  rw[List.length_cons]at hm
  have i0:(crs c S st)[S.length]?=some (.ins c [some (.ref (S.length+1)),some (.ref (S.length+2)),some (.ref (S.length+3)),some (.ref (S.length+4)),some (.ref (S.length+5))]):=hd0
  have h1:jH [.tup [.int n,.int w],u] (crs c S st)=some (.bl (vz n w u),crs c S st):=wo (by unfold crs;exact(hg u List.mem_cons_self).app _)
  cases he:vz n w u with
  |false=>
   rw[he]at h1
   have gb:lV n w st (u::us)=false:=by simp only[lV,Fm he]
   rw[gb]
   refine⟨[some (.tup [.int n,.int w]),wx,some (.ref S.length),some u],st,qj (hok st) rfl ?_⟩
   rwa[iJ,h1]
  |true=>
   rw[he]at h1
   obtain⟨e,hn,rfl,eb⟩:=yK he
   have h2:=Aq (c:=c) (S:=S) hi.nd eb
   have gb:lV n w st (e.u::us)=(okS n w st e&&lV n w (OQ.stp st e) us):=by simp only[lV,hn]
   obtain⟨x,hx⟩:∃x,x=e.u:=⟨_,rfl⟩
   rw[gb]
   by_cases hk:mF n w st e
   ·rw[tW hk,Bool.true_and]
    rw[tW hk]at h2
    have h3:=wJ (c:=c) (S:=S) hi.nd hk hi.fw (by omega) (by have:=hi.len;omega)
    obtain⟨ρ,st',ih⟩:=pj (wx:=wx) hok us (OQ.stp st e) (m+1) (some e.u) (hi.stp eb hk) (by omega) fun v hv=>hg v (List.mem_cons_of_mem _ hv)
    refine⟨ρ,st',(eC (hok st) rfl ?_).trans ih⟩
    rw[<-hx]at h1 h2 h3 ⊢
    rwa[iJ,i0,h1,h2,h3]
   ·rw[oI hk]at h2
    rw[oI hk,Bool.false_and]
    refine⟨[some (.tup [.int n,.int w]),wx,some (.ref S.length),some e.u],st,qj (hok st) rfl ?_⟩
    rw[<-hx]at h1 h2 ⊢
    rwa[iJ,i0,h1,h2]
def Th(S:Sto)(u:U):Prop:=(∃l us,u=.ref l/\S[l]?=some (.lst us)/\∀v∈us,GdE S v)\/(∀l,u≠.ref l)/\Gd S u
open Classical in
def Dk(n w:Int)(S:Sto)(u:U):Bool:=decide (∃l us,u=.ref l/\S[l]?=some (.lst us)/\us.length<=2000/\lV n w [] us=true)
theorem u9{l:Nat}{us:List U}(h:S[l]?=some (.lst us))(hl:us.length<=2000):Dk n w S (.ref l)=lV n w [] us:=by
 unfold Dk
 cases hg:lV n w [] us with
 |true=>exact @decide_eq_true _ (Classical.propDecidable _) ⟨l,us,rfl,h,hl,hg⟩
 |false=>
  refine @decide_eq_false _ (Classical.propDecidable _) fun z=>?_
  obtain⟨l',us',e,h',_,g⟩:=z
  cases e
  rw[h]at h';cases h'
  rw[hg]at g;cases g
theorem yV{l:Nat}{us:List U}(h:S[l]?=some (.lst us))(hl:¬us.length<=2000):Dk n w S (.ref l)=false:=by
 unfold Dk
 refine @decide_eq_false _ (Classical.propDecidable _) fun z=>?_
 obtain⟨l',us',e,h',k,_⟩:=z
 cases e
 rw[h]at h';cases h'
 exact hl k
theorem Fq(h:∀l,u≠.ref l):Dk n w S u=false:=by
 unfold Dk
 refine @decide_eq_false _ (Classical.propDecidable _) fun z=>?_
 obtain⟨l',us',e,_⟩:=z
 exact h l' e
theorem FG{i:Nat}{ρ:Rho}(hv:ρ[i]?=some (some u))(h:Gd S u)(hn:∀l,u≠.ref l):aI (Cv .list (ah i)) ρ S=some (false,S):=by
 have e:ah i ρ S=some (u,S):=by unfold ah;rw[hv]
 rw[i8,AH,e,Option.bind_some,uv]
 cases h with
 |lst _=>exact absurd rfl (hn _)
 |_=>rfl
theorem B3(hns:c.ns.length=5)(h:Th S u):∃G,qS c [.tup [.int n,.int w],u] S=some (.bl (Dk n w S u),S++G):=by
 unfold qS
 rw[Cj]
 rcases h with⟨l,us,rfl,h,g⟩|⟨h,g⟩
 ·have ty:tyU (.ref l) S=some .list:=by simp only[tyU,h]
  have sl:AA .list .list=true:=rfl
  by_cases hl:us.length<=2000
  ·have d1:decide ((2000:Int)<(us.length:Int))=false:=decide_eq_false (by omega)
   have hok:∀st,(crs c S st)[l]?=some (.lst us):=fun st=>by unfold crs;exact ak h
   obtain⟨ρ,st',hl'⟩:=pj (n:=n) (w:=w) (c:=c) (S:=S) (wx:=some (.ref l)) (ok:=fun S=>S[l]?=some (.lst us)) hok us [] 0 none ⟨by simp[ax],fun k hk=>(by cases hk),⟨by simp,by simp⟩⟩ (by omega) g
   refine⟨hd c S.length (eO st') (d6 S.length 1 st' 0) (d6 S.length 2 st' 0) (d6 S.length 3 st' 0) (d6 S.length 0 st' 0)++om st',?_⟩
   show _=some (U.bl (Dk n w S (.ref l)),crs c S st')
   have hci:=vC (S:=S) hns
   have h0:=hok []
   rw[u9 h hl]
   cases hg:lV n w [] us with
   |true=>
    rw[hg]at hl'
    rwa[gZ,ty,sl,h,d1,hci,kC,iTp,h0,hl',if_true]
   |false=>
    rw[hg]at hl'
    rwa[gZ,ty,sl,h,d1,hci,kC,iTp,h0,hl',Bool.false_eq_true,if_false]
  ·have d1:decide ((2000:Int)<(us.length:Int))=true:=decide_eq_true (by omega)
   refine⟨[],?_⟩
   rw[yV h hl,List.append_nil]
   rwa[gZ,ty,sl,h,d1]
 ·have e1:=FG (i:=1) (S:=S) (u:=u) (ρ:=[some (.tup [.int n,.int w]),some u,none,none]) rfl g h
  refine⟨[],?_⟩
  rw[Fq h,List.append_nil]
  rwa[gZ,e1]
end
section
variable{n w:Int}{S:Sto}{u:U}{c:Cl}
theorem FX{st:St}{e:Ev}(kb:∀k∈ax st,0<=k/\k<((200:Nat):Int))(ok:mF n w st e):vz n w e.u=true/\EvB n w e:=by
 have kk:∀{a:Int} {t:Att},aP st a=some t->0<=a/\a<200:=fun{a t} h=>by
  have hm:a∈ax st:=by
   apply Classical.byContradiction
   intro z
   rw[cq.mpr z]at h;cases h
  have:=kb a hm
  exact⟨this.1,by omega⟩
 have wA:∀s∈wsA,inW wsA (.str s)=true:=fun s hs=>List.any_eq_true.mpr ⟨s,hs,decide_eq_true rfl⟩
 cases e with
 |beg a=>
  obtain⟨a0,a1,_⟩:=ok
  refine⟨?_,a0,a1⟩
  show(ej 0 199 (.int a)&&(if inW wsA (.str "begin")then true else _))=true
  rw[gX a0 (by omega),if_pos (by decide +kernel)];rfl
 |fin d a=>
  obtain⟨t,hv,_⟩:=ok
  obtain⟨a0,a1⟩:=kk hv
  refine⟨?_,a0,a1⟩
  show(ej 0 199 (.int a)&&(if inW wsA (.str (px d))then true else _))=true
  rw[gX a0 (by omega),if_pos (by cases d<;>decide +kernel)];rfl
 |look a b x=>
  obtain⟨⟨b0,b1,x0,x1⟩,t,hv,_⟩:=ok
  obtain⟨a0,a1⟩:=kk hv
  refine⟨?_,⟨a0,a1⟩,b0,b1,x0,x1⟩
  show(ej 0 199 (.int a)&&(if inW wsA (.str "look")then _ else inW wsB (.str "look")&&(ej 0 (n-1) (.int b)&&ej 0 (w-1) (.int x))))=true
  rw[gX a0 (by omega),if_neg (by decide +kernel),gX b0 (by omega),gX x0 (by omega)]
  decide +kernel
 |put a b x=>
  obtain⟨⟨b0,b1,x0,x1⟩,t,hv,_⟩:=ok
  obtain⟨a0,a1⟩:=kk hv
  refine⟨?_,⟨a0,a1⟩,b0,b1,x0,x1⟩
  show(ej 0 199 (.int a)&&(if inW wsA (.str "put")then _ else inW wsB (.str "put")&&(ej 0 (n-1) (.int b)&&ej 0 (w-1) (.int x))))=true
  rw[gX a0 (by omega),if_neg (by decide +kernel),gX b0 (by omega),gX x0 (by omega)]
  decide +kernel
def dec:U->Option Ev
 |.tup [.str s,.int a]=>if s=Str.ofString "begin" then some (.beg a)else if s=Str.ofString "done" then some (.fin true a)else some (.fin false a)
 |.tup [.str s,.int a,.int b,.int x]=>if s=Str.ofString "look" then some (.look a b x)else some (.put a b x)
 |_=>none
theorem JS(e:Ev):dec e.u=some e:=by
 cases e with
 |beg a=>unfold Ev.u dec;exact if_pos rfl
 |look a b x=>unfold Ev.u dec;exact if_pos rfl
 |put a b x=>unfold Ev.u dec;exact if_neg (of_decide_eq_false jP)
 |fin d a=>
  cases d with
  |true=>unfold Ev.u dec;exact(if_neg (of_decide_eq_false gT)).trans (if_pos rfl)
  |false=>unfold Ev.u dec;exact(if_neg (of_decide_eq_false gR)).trans (if_neg (of_decide_eq_false (by decide +kernel)))
theorem Lf{e e':Ev}(h:e.u=e'.u):e=e':=by
 have:=congrArg dec h
 rw[JS,JS]at this
 injection this
theorem vw:∀(es:List Ev) (st:St) (m:Nat),StI st m->jJ n w st es->lV n w st (es.map Ev.u)=true
 |[],_,_,_,_=>rfl
 |e::es,st,m,hi,lf=>by
  obtain⟨ok,lf'⟩:=lf
  obtain⟨ht,eb⟩:=FX hi.kb ok
  obtain⟨e',hn,hu,_⟩:=yK ht
  have ee:=Lf hu
  subst ee
  rw[List.map_cons]
  simp only[lV,hn]
  rw[tW ok,Bool.true_and]
  exact vw es (stp st e) (m+1) (hi.stp eb ok) lf'
theorem JH(e:Ev)(S:Sto):GdE S e.u:=by
 have fs:∀{s:Str} {r:List U},PyData.strOk s=true->(∀v∈r,∃i:Int,v=.int i)->GdE S (.tup (.str s::r)):=fun{s r} hs hr=>⟨.tup fun v hv=>by
   rcases List.mem_cons.mp hv with rfl|hv
   ·exact .str _
   ·obtain⟨i,rfl⟩:=hr v hv;exact .int i,fun x y r' z=>by
   injection z with z
   injection z with z _
   rw[<-z];exact .str s hs⟩
 cases e with
 |beg a=>exact fs (by decide +kernel) fun v hv=>⟨a,List.mem_singleton.mp hv⟩
 |look a b x=>
  exact fs (by decide +kernel) fun v hv=>by
   simp only[List.mem_cons,List.not_mem_nil,or_false]at hv
   rcases hv with rfl|rfl|rfl<;>exact⟨_,rfl⟩
 |put a b x=>
  exact fs (by decide +kernel) fun v hv=>by
   simp only[List.mem_cons,List.not_mem_nil,or_false]at hv
   rcases hv with rfl|rfl|rfl<;>exact⟨_,rfl⟩
 |fin d a=>exact fs (by cases d<;>decide +kernel) fun v hv=>⟨a,List.mem_singleton.mp hv⟩
end
end OQ
namespace OL
open PySem PySem.Spec PyProof.Rows L2 OG OP OQ
def sX(c:Cl):Fn:=fnU 1 1 (iG (dY c) c)
def me(c:Cl):Fn:=fnU 2 2 (lK (dY c) c)
def jZ(c:Cl):Fn:=fnU 2 2 (jG (dY c) c)
def ma(c:Cl):Fn:=fnU 2 2 (eE (dY c) c)
def qT(c:Cl):Fn:=fnU 1 1 (fJ (sX c) (jZ c) (ma c) (me c))
def PsI(st:OQ.St):Prop:=∀a t,aP st a=some t->(t.ps.map (·.1)).Nodup
theorem Jc{ps:List (Int×Int)}{b x:Int}(h:(ps.map (·.1)).Nodup):((ik ps b x).map (·.1)).Nodup:=by
 rw[yq]
 unfold Mg
 split
 ·exact h
 ·rename_i hn
  refine List.nodup_append.mpr ⟨h,by simp,fun y hy z hz e=>?_⟩
  rw[List.mem_singleton.mp hz]at e
  exact hn (by rw[<-e];simpa using hy)
theorem ES{n w:Int}{st:OQ.St}{e:Ev}(ok:mF n w st e)(h:PsI st):PsI (stp st e):=by
 intro a t ht
 by_cases ea:a=e.at
 ·cases e with
  |beg b=>
   have eb:a=b:=ea
   subst eb
   rw[dg ok.2.2]at ht
   cases ht
   simp[oR]
  |look b1 b2 b3=>
   have eb:a=b1:=ea
   subst eb
   obtain⟨bd,t0,t1,t2,t3⟩:=id ok
   have:=aZ (e:=.look a b2 b3) t1
   simp only[Ev.at]at this
   rw[this]at ht;cases ht
   have:=h a t0 t1
   simp only[Att.ev]
   split<;>exact this
  |put b1 b2 b3=>
   have eb:a=b1:=ea
   subst eb
   obtain⟨_,t0,t1,t2⟩:=id ok
   have:=aZ (e:=.put a b2 b3) t1
   simp only[Ev.at]at this
   rw[this]at ht;cases ht
   exact Jc (h a t0 t1)
  |fin d b1=>
   have eb:a=b1:=ea
   subst eb
   obtain⟨t0,t1,t2⟩:=id ok
   have:=aZ (e:=.fin d a) t1
   simp only[Ev.at]at this
   rw[this]at ht;cases ht
   exact h a t0 t1
 ·rw[bB ea]at ht
  exact h a t ht
theorem yr{n w:Int}:∀(es:List Ev) (st:OQ.St),jJ n w st es->PsI st->PsI (aU st es)
 |[],st,_,h=>h
 |e::es,st,lf,h=>yr es (stp st e) lf.2 (ES lf.1 h)
theorem Nm:PsI []:=fun a t h=>by simp[aP]at h
section
variable{c:Cl}{n w:Int}{S:Sto}{evs:List Ev}{a:Int}{t:Att}{N l:Nat}
theorem cB2{st:OQ.St}{j:Nat}{o:O}(hj:j<4)(h:aP st a=some t)(hk:(ax st).Nodup)(ho:(blk t)[j]?=some o):∃k,aP (d6 S.length j st 0) (.inl a)=some (.ref (S.length+k))/\(crs c S st)[S.length+k]?=some o:=by
 obtain⟨s1,s2,rfl⟩:=bX h
 exact⟨_,fP hk,by rw[jE hj];exact ho⟩
theorem BI(hns:c.ns.length=5)(hl:S[l]?=some (.lst (evs.map Ev.u)))(lg:ji n w N evs)(he:evs.length<=900)(hv:aP (aU [] evs) a=some t) :
  ∃G k,ma c [.ref l,.int a] S=some (.ref (S.length+k),S++G)/\G[k]?=some (.lst (t.lk.map pU)):=by
 unfold ma
 rw[qC]
 have h1:=iE (c:=c) (N:=N) hns hl lg.lo he
 obtain⟨k,v1,g1⟩:=cB2 (c:=c) (S:=S) (j:=1) (by omega) hv lg.kd rfl
 obtain⟨C,hC⟩:∃C,crs c S (aU [] evs)=S++C:=⟨_,rfl⟩
 have f2:(crs c S (aU [] evs))[S.length+2]?=some (.dic (d6 S.length 1 (aU [] evs) 0)):=hd2
 have F1:jc c 1 (.ref S.length,crs c S (aU [] evs))=some (.ref (S.length+2),crs c S (aU [] evs)):=cm hd0 rfl
 refine⟨C,k,?_,?_⟩
 ·rw[<-hC]
  rwa[eE,h1,F1,f2,v1]
 ·rw[hC,ga]at g1;exact g1
theorem yp(hns:c.ns.length=5)(hl:S[l]?=some (.lst (evs.map Ev.u)))(lg:ji n w N evs)(he:evs.length<=60)(hv:aP (aU [] evs) a=some t) :
  ∃G k,jZ c [.ref l,.int a] S=some (.ref (S.length+k),S++G)/\G[k]?=some (.lst ((fQ t.ps).map pU)):=by
 unfold jZ
 rw[zM]
 have h1:=iE (c:=c) (N:=N) hns hl lg.lo (by omega)
 obtain⟨k,v3,g3⟩:=cB2 (c:=c) (S:=S) (j:=3) (by omega) hv lg.kd rfl
 obtain⟨C,hC⟩:∃C,crs c S (aU [] evs)=S++C:=⟨_,rfl⟩
 have f4:(crs c S (aU [] evs))[S.length+4]?=some (.dic (d6 S.length 3 (aU [] evs) 0)):=hd4
 have F3:jc c 3 (.ref S.length,crs c S (aU [] evs))=some (.ref (S.length+4),crs c S (aU [] evs)):=cm hd0 rfl
 have nk:=yr evs [] lg.lo Nm a t hv
 have nd:t.ps.Nodup:=(List.pairwise_map.mp nk).imp fun h e=>h (by rw[e])
 have ln:t.ps.length<64:=by have:=(lg.pb a t hv).1;omega
 have hi:cOp fIx (fA c 3 (cCB (dY c) (ab (ah 0) aC))) (ah 1) [some (.ref l),some (.int a)] S=some (.ref (S.length+k),crs c S (aU [] evs)):=by
  rwa[h1,F3,f4,v3]
 have hs:mU (cOp fIx (fA c 3 (cCB (dY c) (ab (ah 0) aC))) (ah 1)) [some (.ref l),some (.int a)] S=some (.ref (crs c S (aU [] evs)).length,crs c S (aU [] evs)++[.lst ((fQ t.ps).map pP)]):=by
  unfold mU
  rw[hi,Option.bind_some]
  simp only[g3]
  have ep:nD (jU t.ps)=some t.ps:=o8 t.ps
  rw[ep,Option.bind_some,if_pos ⟨nd,ln⟩]
 refine⟨C++[.lst ((fQ t.ps).map pU)],C.length,?_,by rw[ga0];rfl⟩
 rw[<-List.append_assoc,<-hC]
 have:(crs c S (aU [] evs)).length=S.length+C.length:=by rw[hC,List.length_append]
 rw[this]at hs
 rwa[jG,hs]
 rfl
theorem Ci(hns:c.ns.length=5)(hl:S[l]?=some (.lst (evs.map Ev.u)))(lg:ji n w N evs)(he:evs.length<=900)(hv:aP (aU [] evs) a=some t) :
  ∃G,me c [.ref l,.int a] S=some (.str (enS t.en),S++G):=by
 unfold me
 rw[Ck]
 have h1:=iE (c:=c) (N:=N) hns hl lg.lo (by omega)
 obtain⟨C,hC⟩:∃C,crs c S (aU [] evs)=S++C:=⟨_,rfl⟩
 have f1:(crs c S (aU [] evs))[S.length+1]?=some (.dic (eO (aU [] evs))):=hd1
 have F0:jc c 0 (.ref S.length,crs c S (aU [] evs))=some (.ref (S.length+1),crs c S (aU [] evs)):=cm hd0 rfl
 have v0:aP (eO (aU [] evs)) (.inl a)=some (.str (enS t.en)):=by
  obtain⟨s1,s2,e⟩:=bX hv
  have hk:=lg.kd
  rw[e]at hk ⊢
  exact iO hk
 refine⟨C,?_⟩
 rw[<-hC]
 rwa[lK,h1,F0,f1,v0]
theorem DJ(hns:c.ns.length=5)(hl:S[l]?=some (.lst (evs.map Ev.u)))(lg:ji n w N evs)(he:evs.length<=900)(hN:N<64) :
  ∃G k,sX c [.ref l] S=some (.ref (S.length+k),S++G)/\G[k]?=some (.lst ((bS (ax (aU [] evs))).map U.int)):=by
 unfold sX
 rw[wR]
 have h1:=iE (c:=c) (N:=N) hns hl lg.lo (by omega)
 obtain⟨C,hC⟩:∃C,crs c S (aU [] evs)=S++C:=⟨_,rfl⟩
 have f1:(crs c S (aU [] evs))[S.length+1]?=some (.dic (eO (aU [] evs))):=hd1
 have F0:jc c 0 (.ref S.length,crs c S (aU [] evs))=some (.ref (S.length+1),crs c S (aU [] evs)):=cm hd0 rfl
 have ln:(ax (aU [] evs)).length<64:=by unfold ax;rw[List.length_map];exact Nat.lt_of_le_of_lt lg.cnt hN
 have hs:fh [.ref (S.length+1)] (crs c S (aU [] evs))=some (.ref (crs c S (aU [] evs)).length,crs c S (aU [] evs)++[.lst ((bS (ax (aU [] evs))).map U.int)]):=by
  simp only[fh,f1,lS,Option.bind_some]
  rw[if_pos ln]
 refine⟨C++[.lst ((bS (ax (aU [] evs))).map U.int)],C.length,?_,by rw[ga0];rfl⟩
 rw[<-List.append_assoc,<-hC]
 have:(crs c S (aU [] evs)).length=S.length+C.length:=by rw[hC,List.length_append]
 rw[this]at hs
 rwa[iG,h1,F0,hs]
inductive mO(S:Sto)(st:OQ.St):List Int->List U->Prop
 |nil:mO S st [] []
 |cons {a:Int} {as:List Int} {us:List U} {t:Att} {r1 r2:Nat} (hv:aP st a=some t) (g1:S[r1]?=some (.lst (t.lk.map pU))) (g2:S[r2]?=some (.lst ((fQ t.ps).map pU))) (h:mO S st as us):mO S st (a::as) (.tup [.int a,.str (enS t.en),.ref r1,.ref r2]::us)
theorem mO.app{st:OQ.St}{as:List Int}{us:List U}(h:mO S st as us)(X:Sto):mO (S++X) st as us:=by
 induction h with
 |nil=>exact .nil
 |cons hv g1 g2 _ ih=>exact .cons hv (ak g1) (ak g2) ih
theorem pq{Z:Sto}{ok:Sto->Prop}(hok:∀G,ok (Z++G))(hns:c.ns.length=5)(hl:Z[l]?=some (.lst (evs.map Ev.u)))(lg:ji n w N evs)(he:evs.length<=60):∀(as:List Int) (ys:List U) (G:Sto) (r0:Option U),(∀a∈as,a∈ax (aU [] evs))->ys.length+as.length<=900->
  ∃zs G',iT ok (gNm 0) (jV (ab (ah 0) (ab (cCB (me c) (ab (ah 1) (ab (ah 0) aC))) (ab (cCB (ma c) (ab (ah 1) (ab (ah 0) aC))) (ab (cCB (jZ c) (ab (ah 1) (ab (ah 0) aC))) aC))))) Z.length (as.map U.int) [r0,some (.ref l)] (Z++(.lst ys::G))=some (Z++(.lst (ys++zs)::(G++G')))/\∀X,mO (Z++(.lst X::(G++G'))) (aU [] evs) as zs
 |[],ys,G,r0,_,_=>⟨[],[],by rw[List.append_nil,List.append_nil];exact lJ (hok _),fun _=>.nil⟩
 |a::as,ys,G,r0,hk,hb=>by
  rw[List.length_cons]at hb
  obtain⟨t,hv⟩:=hJ (hk a List.mem_cons_self)
  obtain⟨Y,hY⟩:∃Y,Y=Z++(O.lst ys::G):=⟨_,rfl⟩
  have gl:Y[l]?=some (.lst (evs.map Ev.u)):=by rw[hY];exact ak hl
  obtain⟨G1,e1⟩:=Ci (c:=c) (S:=Y) hns gl lg (by omega) hv
  obtain⟨Y1,hY1⟩:∃Y1,Y1=Y++G1:=⟨_,rfl⟩
  obtain⟨G2,k2,e2,g2⟩:=BI (c:=c) (S:=Y1) hns (by rw[hY1];exact ak gl) lg (by omega) hv
  obtain⟨Y2,hY2⟩:∃Y2,Y2=Y1++G2:=⟨_,rfl⟩
  obtain⟨G3,k3,e3,g3⟩:=yp (c:=c) (S:=Y2) hns (by rw[hY2,hY1];exact ak (ak gl)) lg he hv
  obtain⟨Y3,hY3⟩:∃Y3,Y3=Y2++G3:=⟨_,rfl⟩
  rw[<-hY1]at e1
  rw[<-hY2]at e2
  rw[<-hY3]at e3
  have eY3:Y3=Z++(.lst ys::(G++(G1++(G2++G3)))):=by rw[hY3,hY2,hY1,hY];simp only[List.append_assoc,List.cons_append]
  obtain⟨u,hu⟩:∃u,u=U.tup [.int a,.str (enS t.en),.ref (Y1.length+k2),.ref (Y2.length+k3)]:=⟨_,rfl⟩
  have hval:jV (ab (ah 0) (ab (cCB (me c) (ab (ah 1) (ab (ah 0) aC))) (ab (cCB (ma c) (ab (ah 1) (ab (ah 0) aC))) (ab (cCB (jZ c) (ab (ah 1) (ab (ah 0) aC))) aC)))) [some (.int a),some (.ref l)] Y=some (u,Y3):=by
   rw[hu]
   rwa[e1,e2,e3]
  obtain⟨zs,G',ih,fl⟩:=pq hok hns hl lg he as (ys++[u]) (G++(G1++(G2++G3))) (some (.int a)) (fun b hb=>hk b (List.mem_cons_of_mem _ hb)) (by rw[List.length_append,List.length_singleton];omega)
  refine⟨u::zs,G1++(G2++G3)++G',?_,fun X=>?_⟩
  ·rw[List.map_cons,<-hY]
   refine(jF (ys:=ys) (by rw[hY];exact hok _) rfl hval (by rw[eY3,ga0];rfl) (by unfold LIM;omega)).trans ?_
   rw[eY3,gs0]
   simp only[List.set_cons_zero]
   rw[ih]
   simp only[List.append_assoc,List.cons_append,List.nil_append]
  ·have f:=fl X
   rw[hu]
   have eq1:G++(G1++(G2++G3)++G')=G++(G1++(G2++G3))++G':=by simp only[List.append_assoc]
   rw[eq1]
   have low:∀{j:Nat} {o:O},Z.length+1<=j->Y3[j]?=some o->(Z++(O.lst X::(G++(G1++(G2++G3))++G')))[j]?=some o:=fun{j o} hj h=>by
    obtain⟨j',rfl⟩:∃j',j=Z.length+(j'+1):=⟨j-Z.length-1,by omega⟩
    rw[eY3,ga]at h
    rw[ga]
    exact ak (l:=G++(G1++(G2++G3))) h
   have l1:Z.length+1<=Y1.length+k2:=by rw[hY1,hY,List.length_append,List.length_append,List.length_cons];omega
   have l2:Z.length+1<=Y2.length+k3:=by rw[hY2,hY1,hY,List.length_append,List.length_append,List.length_append,List.length_cons];omega
   exact .cons hv (low l1 (by rw[hY3,hY2];exact ak (by rw[ga];exact g2))) (low l2 (by rw[hY3,ga];exact g3)) f
theorem vx(hns:c.ns.length=5)(hl:S[l]?=some (.lst (evs.map Ev.u)))(lg:ji n w N evs)(he:evs.length<=60)(hN:N<64) :
  ∃G r us,qT c [.ref l] S=some (.ref r,S++G)/\(S++G)[r]?=some (.lst us)/\mO (S++G) (aU [] evs) (bS (ax (aU [] evs))) us:=by
 unfold qT
 rw[sF]
 obtain⟨G1,k1,e1,g1⟩:=DJ (c:=c) (S:=S) hns hl lg (by omega) hN
 obtain⟨Z,hZ⟩:∃Z,Z=S++G1:=⟨_,rfl⟩
 have gk:Z[S.length+k1]?=some (.lst ((bS (ax (aU [] evs))).map U.int)):=by rw[hZ,ga];exact g1
 have ll:(bS (ax (aU [] evs))).length<=900:=by rw[(cu _).length_eq];unfold ax;rw[List.length_map];have:=lg.cnt;omega
 obtain⟨zs,G',h,f⟩:=pq (c:=c) (Z:=Z) (l:=l) (ok:=fun Y=>Y[S.length+k1]?=some (.lst ((bS (ax (aU [] evs))).map U.int))) (fun G=>ak gk) hns (by rw[hZ];exact ak hl) lg he (bS (ax (aU [] evs))) [] [] none (fun a ha=>(cu _).mem_iff.mp ha) (by rw[List.length_nil];omega)
 rw[List.nil_append,List.nil_append]at h
 refine⟨G1++(.lst zs::G'),Z.length,zs,?_,by rw[<-List.append_assoc,<-hZ,ga0];rfl,by rw[<-List.append_assoc,<-hZ];have:=f zs;rw[List.nil_append]at this;exact this⟩
 rw[<-List.append_assoc,<-hZ]
 rw[<-hZ]at e1
 have hc:fT (iTp (cCB (sX c) (ab (ah 0) aC))) (gNm 0) (jV (ab (ah 0) (ab (cCB (me c) (ab (ah 1) (ab (ah 0) aC))) (ab (cCB (ma c) (ab (ah 1) (ab (ah 0) aC))) (ab (cCB (jZ c) (ab (ah 1) (ab (ah 0) aC))) aC))))) 1 [0] [some (.ref l)] S=some (.ref Z.length,Z++(.lst zs::G')):=by
  have ei:cCB (sX c) (ab (ah 0) aC) [some (.ref l)] S=some (.ref (S.length+k1),Z):=by rwa[e1]
  have er:mQ 1 [0] [some (U.ref l)]=[none,some (.ref l)]:=rfl
  unfold fT iTp
  rw[ei,Option.bind_some]
  simp only[gk,Option.bind_some,er,h]
 unfold fJ
 rw[GV,hc]
 rfl
theorem Jk{k:Nat}{S:Sto}(p:Int×Int):Lay (k+1) S (pU p):=.tup fun u hu=>by
 simp only[List.mem_cons,List.not_mem_nil,or_false]at hu
 rcases hu with rfl|rfl
 ·exact Lay.int
 ·exact Lay.int
theorem x8{S:Sto}{l l':Nat}{ps:List (Int×Int)}(h:S[l]?=some (.lst (ps.map pU)))(h':S[l']?=some (.lst (ps.map pU))):j6 2 S (.ref l) (.ref l'):=j6.lst h h' (iK.all fun u hu=>by obtain⟨p,_,rfl⟩:=List.mem_map.mp hu;exact Jk p)
theorem L9(o:Option Bool):PyData.strOk (enS o)=true:=by
 rcases o with _|d
 ·decide +kernel
 ·cases d<;>decide +kernel
theorem zA{st st':OQ.St}(hw:∀a t t',aP st a=some t->aP st' a=some t'->t'.en=t.en/\t'.lk=t.lk/\t'.ps=t.ps){as:List Int}{us vs:List U}(h:mO S st as us)(h':mO S st' as vs):iK 3 S vs us:=by
 induction h generalizing vs with
 |nil=>cases h';exact .nil
 |cons hv g1 g2 _ ih=>
  cases h' with
  |cons hv' g1' g2' h'=>
   obtain⟨e1,e2,e3⟩:=hw _ _ _ hv hv'
   rw[e2]at g1'
   rw[e3]at g2'
   rw[e1]
   refine .cons (j6.tup (k:=2) (.cons (.refl .int) (.cons (.refl (.str ?_)) (.cons (x8 g1' g1) (.cons (x8 g2' g2) .nil))))) (ih h')
   exact L9 _
end
def wd:Ev->Str
 |.beg _=>"begin"|.look _ _ _=>"look"|.put _ _ _=>"put"|.fin d _=>px d
theorem Lg(e:Ev):∃us,e.u=.tup us/\atI us 0=some (.str (wd e))/\atI us 1=some (.int e.at):=by
 cases e<;>exact⟨_,rfl,at0,at1⟩
theorem CU(e:Ev):decide (wd e=("begin":Str))=fM e:=by
 cases e with
 |fin d a=>
  cases d with
  |false=>exact(by decide +kernel:decide (("fall":Str)=("begin":Str))=false)
  |true=>exact(by decide +kernel:decide (("done":Str)=("begin":Str))=false)
 |beg a=>exact(by decide +kernel:decide (("begin":Str)=("begin":Str))=true)
 |look a b x=>exact(by decide +kernel:decide (("look":Str)=("begin":Str))=false)
 |put a b x=>exact(by decide +kernel:decide (("put":Str)=("begin":Str))=false)
theorem CQ(e:Ev):inU (.str (wd e)) [.str "done",.str "fall"]=gP e:=by
 cases e with
 |fin d a=>
  cases d with
  |false=>exact(by decide +kernel:inU (.str "fall") [.str "done",.str "fall"]=true)
  |true=>exact(by decide +kernel:inU (.str "done") [.str "done",.str "fall"]=true)
 |beg a=>exact(by decide +kernel:inU (.str "begin") [.str "done",.str "fall"]=false)
 |look a b x=>exact(by decide +kernel:inU (.str "look") [.str "done",.str "fall"]=false)
 |put a b x=>exact(by decide +kernel:inU (.str "put") [.str "done",.str "fall"]=false)
theorem HH(e:Ev):inU (.str (wd e)) [.str "look",.str "put"]=kA e:=by
 cases e with
 |fin d a=>
  cases d with
  |false=>exact(by decide +kernel:inU (.str "fall") [.str "look",.str "put"]=false)
  |true=>exact(by decide +kernel:inU (.str "done") [.str "look",.str "put"]=false)
 |beg a=>exact(by decide +kernel:inU (.str "begin") [.str "look",.str "put"]=false)
 |look a b x=>exact(by decide +kernel:inU (.str "look") [.str "look",.str "put"]=true)
 |put a b x=>exact(by decide +kernel:inU (.str "put") [.str "look",.str "put"]=true)
def swB(e f:Ev):Bool:=!decide (e.at=f.at)&&(!fM e||!gP f)
section
variable{c cA:Cl}{n w:Int}{es:List Ev}{x:U}{jl jw:Nat}{r6 r7 r8 r9 r10 r11 r12 r13:Option U}
abbrev fL(c cA:Cl)(f:Fn->Fn->Fn->Fn->Fn->Fn->Fn->Fn->Fn->Fn->CS)(fo:Fn):CS:=f uq ur Gn d8 (qT c) (qS c) (gI c) fo (sX c) (uu c cA)
def rh(n w:Int)(x:U)(l v:Nat)(r6 r7 r8 r9 r10 r11 r12 r13:Option U):Rho:=[none,some (.ref 1),some (.tup [.int n,.int w]),some x,some (.ref l),some (.ref v),r6,r7,r8,r9,r10,r11,r12,r13]
theorem za{ρ:Rho}{S:Sto}{i:Nat}{e:Ev}(h:ρ[i]?=some (some e.u)):cOp fIx (ah i) (cC (.int 0)) ρ S=some (.str (wd e),S)/\cOp fIx (ah i) (cC (.int 1)) ρ S=some (.int e.at,S):=by
 obtain⟨us,hu,h0,h1⟩:=Lg e
 rw[hu]at h
 have v:ah i ρ S=some (.tup us,S):=by unfold ah;rw[h]
 constructor
 ·rw[rg,v,Option.bind_some,jk,x_c,Option.bind_some,jj,D4,h0];rfl
 ·rw[rg,v,Option.bind_some,jk,x_c,Option.bind_some,jj,D4,h1];rfl
theorem F7{ρ:Rho}{S:Sto}{e f:Ev}(h8:ρ[8]?=some (some e.u))(h9:ρ[9]?=some (some f.u)):Ge (aI (cOp fNe (cOp fIx (ah 8) (cC (.int 1))) (cOp fIx (ah 9) (cC (.int 1))))) (cOr (aI (cOp fNe (cOp fIx (ah 8) (cC (.int 0))) (cC (.str "begin")))) (aI (cOp (fIn true) (cOp fIx (ah 9) (cC (.int 0))) (jV (ab (cC (.str "done")) (ab (cC (.str "fall")) aC)))))) ρ S=some (swB e f,S):=by
 obtain⟨e0,e1⟩:=za (S:=S) h8
 obtain⟨f0,f1⟩:=za (S:=S) h9
 have t1:aI (cOp fNe (cOp fIx (ah 8) (cC (.int 1))) (cOp fIx (ah 9) (cC (.int 1)))) ρ S=some (!decide (e.at=f.at),S):=by
  rw[i8,rg,e1,Option.bind_some,jk,f1,Option.bind_some,jj,Hd];rfl
 have t2:aI (cOp fNe (cOp fIx (ah 8) (cC (.int 0))) (cC (.str "begin"))) ρ S=some (!fM e,S):=by
  rw[i8,rg,e0,Option.bind_some,jk,x_c,Option.bind_some,jj,Hc,CU];rfl
 have t3:aI (cOp (fIn true) (cOp fIx (ah 9) (cC (.int 0))) (jV (ab (cC (.str "done")) (ab (cC (.str "fall")) aC)))) ρ S=some (!gP f,S):=by
  have ei:fIn true (.str (wd f)) (.tup [.str "done",.str "fall"]) S=some (.bl (!inU (.str (wd f)) [.str "done",.str "fall"]),S):=rfl
  have et:jV (ab (cC (.str "done")) (ab (cC (.str "fall")) aC)) ρ S=some (.tup [.str "done",.str "fall"],S):=rfl
  rw[i8,rg,f0,Option.bind_some,jk,et,Option.bind_some,jj,ei,CQ];rfl
 rw[Hy,t1,Option.bind_some]
 unfold swB
 cases h1:decide (e.at=f.at)with
 |true=>rfl
 |false=>
  rw[Bool.not_false,CO,KA,t2,Option.bind_some]
  cases h2:fM e with
  |true=>rw[Bool.not_true,DT,t3];rfl
  |false=>rw[Bool.not_false,G5];rfl
theorem Nw{us:List U}{i:Nat}{p q:U}(h0:us[i]?=some p)(h1:us[i+1]?=some q):AB us (some (i:Int)) (some ((i:Int)+2))=[p,q]:=by
 have l1:i+1<us.length:=(List.getElem?_eq_some_iff.mp h1).1
 have e0:HT.sIx us.length 0 (some (i:Int))=i:=by unfold HT.sIx;simp only;split<;>omega
 have e1:HT.sIx us.length us.length (some ((i:Int)+2))=i+2:=by unfold HT.sIx;simp only;split<;>omega
 unfold AB
 rw[e0,e1,show i+2-i=2 by omega,List.drop_eq_getElem_cons (by omega),List.drop_eq_getElem_cons l1,(List.getElem?_eq_some_iff.mp h0).2,(List.getElem?_eq_some_iff.mp h1).2]
 rfl
theorem xV(ns:List Int){T:Sto}{fs:List Ev}{a c1:Int}{fo:Fn}(ha:0<=a)(hc:0<=c1)(hj:jl≠jw)(gl:T[jl]?=some (.lst (es.map Ev.u)))(gw:T[jw]?=some (.lst (fs.map Ev.u)))(h:Wv n w es fs)(ln:fs.length=es.length)(l2:2<=es.length)(l9:es.length<=100) :
  ∃fs' T' a' c' r7' r8' r9',(fL c cA kE fo) (rh n w x (jl+2) (jw+2) r6 r7 r8 r9 r10 r11 r12 r13) (scr ns::pen a c1::T)=some (.nx,rh n w x (jl+2) (jw+2) r6 r7' r8' r9' r10 r11 r12 r13,scr ns::pen a' c'::T')/\Wv n w es fs'/\fs'.length=es.length/\T'[jw]?=some (.lst (fs'.map Ev.u))/\(∀(j:Nat) (o:O),j≠jw->T[j]?=some o->T'[j]?=some o)/\0<=a'/\0<=c':=by
 obtain⟨i,a1,d1,e1,i0,i1,ha1,hd1⟩:=dM ns T ha hc (m:=((es.map Ev.u).length:Int)-1) (by rw[List.length_map];omega) (OQ.l9 (by rw[List.length_map];omega) (by rw[List.length_map];omega))
 rw[List.length_map]at i1
 obtain⟨k,rfl⟩:∃k:Nat,i=(k:Int):=⟨i.toNat,by omega⟩
 have k1:k+1<fs.length:=by omega
 obtain⟨l,m,e,f,hfs,hl⟩:∃l m e f,fs=l++e::f::m/\l.length=k:=by
  refine⟨fs.take k,fs.drop (k+2),fs[k],fs[k+1],?_,by rw[List.length_take];omega⟩
  conv=>lhs;rw[<-List.take_append_drop k fs]
  rw[List.drop_eq_getElem_cons (by omega),List.drop_eq_getElem_cons k1]
 have f0:(fs.map Ev.u)[k]?=some e.u:=by rw[hfs,<-hl,List.getElem?_map,List.getElem?_append_right (Nat.le_refl _),Nat.sub_self];rfl
 have f1:(fs.map Ev.u)[k+1]?=some f.u:=by rw[hfs,<-hl,List.getElem?_map,List.getElem?_append_right (by omega),Nat.add_sub_cancel_left];rfl
 obtain⟨xs,hxs⟩:∃xs,xs=es.map Ev.u:=⟨_,rfl⟩
 obtain⟨us,hus⟩:∃us,us=fs.map Ev.u:=⟨_,rfl⟩
 rw[<-hxs]at gl e1
 rw[<-hus]at gw f0 f1
 have lu:us.length=fs.length:=by rw[hus,List.length_map]
 have g0:(scr ns::pen a c1::T)[jl+2]?=some (.lst xs):=gl
 have s1:eR 7 (cCB d8 (ab (ah 1) (ab (cOp FU (cCB kB (ab (ah 4) aC)) (cC (.int 1))) aC))) (rh n w x (jl+2) (jw+2) r6 r7 r8 r9 r10 r11 r12 r13) (scr ns::pen a c1::T)=some (.nx,rh n w x (jl+2) (jw+2) r6 (some (.int k)) r8 r9 r10 r11 r12 r13,scr ns::pen a1 d1::T):=by
  generalize scr ns::pen a c1::T=Y0 at g0 e1 ⊢
  generalize scr ns::pen a1 d1::T=Y1 at e1 ⊢
  rwa[rh,g0,e1]
 obtain⟨ρ,hρ⟩:∃ρ:Rho,ρ=rh n w x (jl+2) (jw+2) r6 (some (.int k)) r8 r9 r10 r11 r12 r13:=⟨_,rfl⟩
 obtain⟨ρ2,hρ2⟩:∃ρ:Rho,ρ=rh n w x (jl+2) (jw+2) r6 (some (.int k)) (some e.u) (some f.u) r10 r11 r12 r13:=⟨_,rfl⟩
 have gw1:(scr ns::pen a1 d1::T)[jw+2]?=some (.lst us):=gw
 have s2:F9 (cSl (ah 5) (some (ah 7)) (some (cOp fN (ah 7) (cC (.int 2))))) (gSq [8,9]) ρ (scr ns::pen a1 d1::T)=some (.nx,ρ2,scr ns::pen a1 d1::(T++[.lst [e.u,f.u]])):=by
  have v5:ah 5 ρ (scr ns::pen a1 d1::T)=some (.ref (jw+2),scr ns::pen a1 d1::T):=by rw[hρ];rfl
  have p1:qK (some (ah 7)) ρ (scr ns::pen a1 d1::T)=some (some (k:Int),scr ns::pen a1 d1::T):=by rw[hρ];rfl
  have p2:qK (some (cOp fN (ah 7) (cC (.int 2)))) ρ (scr ns::pen a1 d1::T)=some (some ((k:Int)+2),scr ns::pen a1 d1::T):=by rw[hρ];rfl
  have es:cSl (ah 5) (some (ah 7)) (some (cOp fN (ah 7) (cC (.int 2)))) ρ (scr ns::pen a1 d1::T)=some (.ref (T.length+2),scr ns::pen a1 d1::(T++[.lst [e.u,f.u]])):=by
   unfold cSl
   rw[v5,Option.bind_some]
   simp only[p1,p2,Option.bind_some,fSl,gw1]
   rw[Nw f0 f1]
   rfl
  have gs2:(scr ns::pen a1 d1::(T++[O.lst [e.u,f.u]]))[T.length+2]?=some (.lst [e.u,f.u]):=by show(T++[O.lst [e.u,f.u]])[T.length]?=_;rw[ga0];rfl
  have eg:gSq [8,9] (.ref (T.length+2)) ρ (scr ns::pen a1 d1::(T++[O.lst [e.u,f.u]]))=some (ρ2,scr ns::pen a1 d1::(T++[O.lst [e.u,f.u]])):=by
   unfold gSq
   simp only[gs2]
   rw[hρ,hρ2]
   rfl
  rw[Hv,es,Option.bind_some,CN,eg]
  rfl
 have cd:=F7 (ρ:=ρ2) (S:=scr ns::pen a1 d1::(T++[O.lst [e.u,f.u]])) (e:=e) (f:=f) (by rw[hρ2];rfl) (by rw[hρ2];rfl)
 have gw2:(scr ns::pen a1 d1::(T++[O.lst [e.u,f.u]]))[jw+2]?=some (.lst us):=ak (show T[jw]?=_ from gw)
 have jwl:jw<T.length:=(List.getElem?_eq_some_iff.mp gw).1
 cases hb:swB e f with
 |false=>
  rw[hb]at cd
  refine⟨fs,T++[.lst [e.u,f.u]],a1,d1,some (.int k),some e.u,some f.u,?_,h,ln,by rw[<-hus];exact ak gw,fun j o _ h=>ak h,ha1,hd1⟩
  unfold fL kE
  rw[oE s1,<-hρ,oE s2,AI,cd,Option.bind_some,xl,hρ2]
  rfl
 |true=>
  rw[hb]at cd
  obtain⟨b1,b2⟩:=Bool.and_eq_true_iff.mp (show(!decide (e.at=f.at)&&(!fM e||!gP f))=true from hb)
  have n1:e.at≠f.at:=fun z=>by rw[decide_eq_true z]at b1;cases b1
  have n2:fM e=true->gP f=false:=fun z=>by rw[z]at b2;cases hf:gP f with|false=>rfl|true=>rw[hf]at b2;cases b2
  have h':=Wv.swap (l:=l) (m:=m) (e:=e) (f:=f) (by rw[<-hfs];exact h) n1 n2
  have es1:us.set k f.u=(l++f::f::m).map Ev.u:=by rw[hus,hfs,<-hl];simp
  have es2:(us.set k f.u).set (k+1) e.u=(l++f::e::m).map Ev.u:=by rw[es1,<-hl];simp
  obtain⟨U1,hU1⟩:∃U1,U1=us.set k f.u:=⟨_,rfl⟩
  obtain⟨U2,hU2⟩:∃U2,U2=U1.set (k+1) e.u:=⟨_,rfl⟩
  obtain⟨T2,hT2⟩:∃T2,T2=T++[O.lst [e.u,f.u]]:=⟨_,rfl⟩
  rw[<-hT2]at cd gw2 s2
  have gw2':T2[jw]?=some (.lst us):=gw2
  have jw2:jw<T2.length:=(List.getElem?_eq_some_iff.mp gw2').1
  have k0:ixN us.length (k:Int)=some k:=by unfold ixN;rw[if_pos (by omega),if_pos (by omega),Int.toNat_natCast]
  have w1:dW (ah 5) (ah 7) (ah 9) ρ2 (scr ns::pen a1 d1::T2)=some (.nx,ρ2,scr ns::pen a1 d1::T2.set jw (.lst U1)):=by
   have v5:∀S,ah 5 ρ2 S=some (.ref (jw+2),S):=fun _=>by rw[hρ2];rfl
   have v7:∀S,ah 7 ρ2 S=some (.int k,S):=fun _=>by rw[hρ2];rfl
   have v9:∀S,ah 9 ρ2 S=some (f.u,S):=fun _=>by rw[hρ2];rfl
   rw[Kt,v9,Option.bind_some,DS,v5,Option.bind_some,DR,v7,Option.bind_some,DQ,DP,gw2,xg,k0,Option.bind_some,<-hU1]
   rfl
  have g3:(T2.set jw (.lst U1))[jw]?=some (.lst U1):=by rw[List.getElem?_set,if_pos rfl,if_pos jw2]
  have g3':(scr ns::pen a1 d1::T2.set jw (.lst U1))[jw+2]?=some (.lst U1):=g3
  have lU1:U1.length=us.length:=by rw[hU1,List.length_set]
  have k1':ixN U1.length ((k:Int)+1)=some (k+1):=by
   unfold ixN
   rw[if_pos (by omega),if_pos (by omega)]
   congr 1
  have w2:dW (ah 5) (cOp fN (ah 7) (cC (.int 1))) (ah 8) ρ2 (scr ns::pen a1 d1::T2.set jw (.lst U1))=some (.nx,ρ2,scr ns::pen a1 d1::(T2.set jw (.lst U1)).set jw (.lst U2)):=by
   have v5:∀S,ah 5 ρ2 S=some (.ref (jw+2),S):=fun _=>by rw[hρ2];rfl
   have v7:∀S,cOp fN (ah 7) (cC (.int 1)) ρ2 S=some (.int ((k:Int)+1),S):=fun _=>by rw[hρ2];rfl
   have v8:∀S,ah 8 ρ2 S=some (e.u,S):=fun _=>by rw[hρ2];rfl
   rw[Kt,v8,Option.bind_some,DS,v5,Option.bind_some,DR,v7,Option.bind_some,DQ,DP,g3',xg,k1',Option.bind_some,<-hU2]
   rfl
  refine⟨l++f::e::m,(T2.set jw (.lst U1)).set jw (.lst U2),a1,d1,some (.int k),some e.u,some f.u,?_,h',?_,?_,fun j o hj h=>?_,ha1,hd1⟩
  ·unfold fL kE
   rw[oE s1,<-hρ,oE s2,AI,cd,Option.bind_some,CJ,oE w1,w2,hρ2]
  ·rw[<-ln,hfs];simp
  ·rw[List.getElem?_set,if_pos rfl,if_pos (by rw[List.length_set];exact jw2),hU2,hU1,es2]
  ·rw[List.getElem?_set_ne hj.symm,List.getElem?_set_ne hj.symm,hT2];exact ak h
theorem rD(ns:List Int){fo:Fn}(hj:jl≠jw)(l2:2<=es.length)(l9:es.length<=100):∀(us:List U) (T:Sto) (fs:List Ev) (a c1:Int) (r6 r7 r8 r9:Option U),0<=a->0<=c1->T[jl]?=some (.lst (es.map Ev.u))->T[jw]?=some (.lst (fs.map Ev.u))->Wv n w es fs->fs.length=es.length->
  ∃fs' T' a' c' r6' r7' r8' r9',eA (fun _=>True) (gNm 6) (fL c cA kE fo) us (rh n w x (jl+2) (jw+2) r6 r7 r8 r9 r10 r11 r12 r13) (scr ns::pen a c1::T)=some (.nx,rh n w x (jl+2) (jw+2) r6' r7' r8' r9' r10 r11 r12 r13,scr ns::pen a' c'::T')/\Wv n w es fs'/\fs'.length=es.length/\T'[jl]?=some (.lst (es.map Ev.u))/\T'[jw]?=some (.lst (fs'.map Ev.u))/\0<=a'/\0<=c'
 |[],T,fs,a,c1,r6,r7,r8,r9,ha,hc,gl,gw,h,ln=>⟨fs,T,a,c1,r6,r7,r8,r9,cX trivial,h,ln,gl,gw,ha,hc⟩
 |u::us,T,fs,a,c1,r6,r7,r8,r9,ha,hc,gl,gw,h,ln=>by
  obtain⟨fs1,T1,a1,d1,s7,s8,s9,e1,h1,ln1,gw1,kp,ha1,hd1⟩:=xV (c:=c) (cA:=cA) (x:=x) (r6:=some u) (r7:=r7) (r8:=r8) (r9:=r9) (r10:=r10) (r11:=r11) (r12:=r12) (r13:=r13) (fo:=fo) ns ha hc hj gl gw h ln l2 l9
  obtain⟨fs',T',a',c',q6,q7,q8,q9,ih,r⟩:=rD ns hj l2 l9 us T1 fs1 a1 d1 (some u) s7 s8 s9 ha1 hd1 (kp jl _ hj gl) gw1 h1 ln1
  exact⟨fs',T',a',c',q6,q7,q8,q9,(eC trivial rfl e1).trans ih,r⟩
theorem qw{p:Ev->Bool}{ct:CT}{ρ:Rho}{S:Sto}{l:Nat}(hl:S[l]?=some (.lst (es.map Ev.u)))(he:es.length<=900)(h4:ah 4 ρ S=some (.ref l,S))(hp:∀e S,ct [some e.u] S=some (p e,S)) :
  ∃G,bT (iTp (ah 4)) (gNm 0) ct (ah 0) 1 [] ρ S=some (.ref S.length,S++(.lst ((es.filter p).map Ev.u)::G)):=by
 obtain⟨G',h⟩:=fW (S:=S) (ok:=fun Y=>Y[l]?=some (.lst (es.map Ev.u))) (gg:=gNm 0) (ct:=ct) (ce:=ah 0) (f:=Ev.u) (p:=p) (v:=Ev.u) (Rel:=fun ρ=>∃r0,ρ=[r0]) (fun ys G=>ak hl) es [] [] [none] ⟨_,rfl⟩ (by simp;omega) (fun e he ys G ρ hρ=>by
  obtain⟨r0,rfl⟩:=hρ
  refine⟨[some e.u],[],⟨_,rfl⟩,rfl,by rw[List.append_nil];exact hp e _,fun hd=>⟨[],by simp only[List.append_nil];rfl⟩⟩)
 simp only[List.nil_append]at h
 refine⟨G',?_⟩
 unfold bT iTp
 rw[h4,Option.bind_some]
 simp only[hl,Option.bind_some,mQ,List.replicate,List.map_nil,List.append_nil,h]
theorem Lj(e:Ev)(S:Sto):aI (cOp fEq (cOp fIx (ah 0) (cC (.int 0))) (cC (.str "begin"))) [some e.u] S=some (fM e,S):=by
 rw[i8,rg,(za (i:=0) (e:=e) rfl).1,Option.bind_some,jk,x_c,Option.bind_some,jj,Hn,CU];rfl
theorem Lh(e:Ev)(S:Sto):aI (cOp (fIn false) (cOp fIx (ah 0) (cC (.int 0))) (jV (ab (cC (.str "look")) (ab (cC (.str "put")) aC)))) [some e.u] S=some (kA e,S):=by
 have ei:fIn false (.str (wd e)) (.tup [.str "look",.str "put"]) S=some (.bl (inU (.str (wd e)) [.str "look",.str "put"]),S):=rfl
 have et:jV (ab (cC (.str "look")) (ab (cC (.str "put")) aC)) [some e.u] S=some (.tup [.str "look",.str "put"],S):=rfl
 rw[i8,rg,(za (i:=0) (e:=e) rfl).1,Option.bind_some,jk,et,Option.bind_some,jj,ei,HH];rfl
theorem Li(e:Ev)(S:Sto):aI (cOp (fIn false) (cOp fIx (ah 0) (cC (.int 0))) (jV (ab (cC (.str "done")) (ab (cC (.str "fall")) aC)))) [some e.u] S=some (gP e,S):=by
 have ei:fIn false (.str (wd e)) (.tup [.str "done",.str "fall"]) S=some (.bl (inU (.str (wd e)) [.str "done",.str "fall"]),S):=rfl
 have et:jV (ab (cC (.str "done")) (ab (cC (.str "fall")) aC)) [some e.u] S=some (.tup [.str "done",.str "fall"],S):=rfl
 rw[i8,rg,(za (i:=0) (e:=e) rfl).1,Option.bind_some,jk,et,Option.bind_some,jj,ei,CQ];rfl
end
def pD(p:Int×Int):PyData:=.tuple [.int p.1,.int p.2]
theorem Ff(p:Int×Int):(pD p).canLay0=true:=by simp[pD,PyData.canLay0,PyData.canLayAll0]
theorem Df:∀ts:List (Int×Int),PyData.canLayAll0 (ts.map pD)=true
 |[]=>by simp[PyData.canLayAll0]
 |p::ts=>by rw[List.map_cons];unfold PyData.canLayAll0;rw[Ff,Df ts];rfl
theorem IX{S:Sto}:∀ts:List (Int×Int),DtL S (ts.map pP) (ts.map pD)
 |[]=>.nil
 |p::ts=>.cons (.tup (.cons (.int _) (.cons (.int _) .nil))) (IX ts)
theorem BL{S:Sto}{l:Nat}{ts:List (Int×Int)}{p:Int×Int}(h:S[l]?=some (.lst (ts.map pP)))(hp:p∈ts):vy true (pP p) (.ref l) S=some (.bl false,S):=by
 have e:((ts.map pD).any fun z=>z.eqv (pD p))=true:=List.any_eq_true.mpr ⟨pD p,List.mem_map_of_mem hp,SeqAt.eqv_refl _ (Ff p)⟩
 have:=zF (x:=pP p) (y:=.ref l) (S:=S) (b:=(ts.map pD).any fun z=>z.eqv (pD p)) true ⟨pD p,ts.map pD,.tup (.cons (.int _) (.cons (.int _) .nil)),.inl (.lst h (IX ts)),⟨Ff p,by simp[pD,PyData.depth,PyData.depthAll]⟩,Df ts,rfl⟩
 rw[e]at this
 exact this
theorem xX{ps:List (Int×Int)}(h:ps.Nodup):(fQ ps).length=ps.length:=by
 obtain⟨M,m1,m2⟩:=Ap ps
 rw[pS m1 m2]
 exact((List.perm_ext_iff_of_nodup (m1.imp fun h e=>by subst e;simp only[ltP,decide_eq_true_eq]at h;omega) h).mpr m2).length_eq
section
variable{c:Cl}{n w:Int}{S:Sto}{ρ:Rho}{es fs:List Ev}{l v:Nat}{N:Nat}
theorem IA(h:Wv n w es fs)(lf:jJ n w [] es){p:Int×Int}(hp:p∈fQ (ki (aU [] fs) (ax (aU [] fs)))):p∈fQ (ki (aU [] es) (ax (aU [] es))):=by
 obtain⟨b,a⟩:=p
 rw[rV,qi]at hp ⊢
 exact⟨(h.key lf).mp hp.1,(sV lf).mpr (h.tm b a ((sV (h.lo lf)).mp hp.2))⟩
theorem Bl(lf:jJ n w [] es):fQ (ki (aU [] (je es)) (ax (aU [] (je es))))=[]:=by
 refine List.eq_nil_iff_forall_not_mem.mpr fun p hp=>?_
 obtain⟨b,a⟩:=p
 rw[rV,qi]at hp
 have:=(sV ((Wv.flat lf).lo lf)).mp hp.2
 rw[uG]at this
 cases this
theorem A1(hns:c.ns.length=5)(h:Wv n w es fs)(lf:jJ n w [] es)(lg:ji n w N fs)(hN:N<=7)(he:fs.length<=900)(h5:ah 5 ρ S=some (.ref v,S))(er:mQ 1 [12] ρ=[none,some (.ref l)])(gv:S[v]?=some (.lst (fs.map Ev.u)))(gl:S[l]?=some (.lst ((fQ (ki (aU [] es) (ax (aU [] es)))).map pP))) :
  ∃G,aI (cOp (nY true) (bT (iTp (cCB (gI c) (ab (ah 5) aC))) (gNm 0) (aI (cOp (vy true) (ah 0) (ah 1))) (ah 0) 1 [12]) (iV aC)) ρ S=some (false,S++G):=by
 obtain⟨G1,k1,e1,g1⟩:=qP (c:=c) (S:=S) hns gv lg he hN
 obtain⟨Z,hZ⟩:∃Z,Z=S++G1:=⟨_,rfl⟩
 obtain⟨ps,hps⟩:∃ps,ps=fQ (ki (aU [] fs) (ax (aU [] fs))):=⟨_,rfl⟩
 obtain⟨ts,hts⟩:∃ts,ts=fQ (ki (aU [] es) (ax (aU [] es))):=⟨_,rfl⟩
 have hin:∀p∈ps,p∈ts:=fun p hp=>by rw[hts];rw[hps]at hp;exact IA h lf hp
 have lp:ps.length<=900:=by
  have hk:=lg.kd
  have bi:=qN fs [] lg.lo List.nodup_nil Me
  have p1:=xX (tM hk bi _ hk)
  have p2:=p7 hk bi (ax (aU [] fs))
  have p3:(ax (aU [] fs)).length=(aU [] fs).length:=by unfold ax;rw[List.length_map]
  have p4:=lg.cnt
  rw[p3]at p2
  have:(aU [] fs).length*(aU [] fs).length<=7*7:=Nat.mul_le_mul (by omega) (by omega)
  rw[hps]
  omega
 rw[<-hps]at g1
 rw[<-hts]at gl
 have gk:Z[S.length+k1]?=some (.lst (ps.map pP)):=by rw[hZ,ga];exact g1
 have gt:Z[l]?=some (.lst (ts.map pP)):=by rw[hZ];exact ak gl
 obtain⟨G',hc⟩:=fW (S:=Z) (ok:=fun Y=>Y[S.length+k1]?=some (.lst (ps.map pP))) (gg:=gNm 0) (ct:=aI (cOp (vy true) (ah 0) (ah 1))) (ce:=ah 0) (f:=pP) (p:=fun _=>false) (v:=pP) (Rel:=fun ρ=>∃r0,ρ=[r0,some (.ref l)]) (fun ys G=>ak gk) ps [] [] [none,some (.ref l)] ⟨_,rfl⟩ (by rw[List.length_nil];omega) (fun p hp ys G ρ hρ=>by
  obtain⟨r0,rfl⟩:=hρ
  have nin:=BL (S:=Z++(O.lst ys::G)) (l:=l) (p:=p) (ak gt) (hin p hp)
  refine⟨[some (pP p),some (.ref l)],[],⟨_,rfl⟩,rfl,?_,fun z=>by cases z⟩
  rw[List.append_nil]
  rwa[nin])
 have ef:ps.filter (fun _=>false)=[]:=List.filter_eq_nil_iff.mpr fun _ _ h=>by cases h
 rw[List.nil_append,List.nil_append,ef,List.map_nil]at hc
 obtain⟨V,hV⟩:∃V,V=Z++(O.lst []::G'):=⟨_,rfl⟩
 rw[<-hZ]at e1
 have hcc:bT (iTp (cCB (gI c) (ab (ah 5) aC))) (gNm 0) (aI (cOp (vy true) (ah 0) (ah 1))) (ah 0) 1 [12] ρ S=some (.ref Z.length,V):=by
  have ei:cCB (gI c) (ab (ah 5) aC) ρ S=some (.ref (S.length+k1),Z):=by rw[Gv,mj,h5,Option.bind_some,jn,rj,Option.bind_some,jm,Option.bind_some,vP,e1]
  unfold bT iTp
  rw[ei,Option.bind_some]
  simp only[gk,Option.bind_some,er,hc,hV]
 have g0:(V++[O.lst []])[Z.length]?=some (.lst []):=ak (by rw[hV,ga0];rfl)
 have g9:(V++[O.lst []])[V.length]?=some (.lst []):=by rw[ga0];rfl
 have en:=rR true g0 g9
 have el:iV aC ρ V=some (.ref V.length,V++[.lst []]):=rfl
 refine⟨G1++(.lst []::G')++[.lst []],?_⟩
 rw[<-List.append_assoc,<-List.append_assoc,<-hZ,<-hV,i8,rg,hcc,Option.bind_some,jk,el,Option.bind_some,jj,en]
 rfl
theorem FR(hns:c.ns.length=5)(lf:jJ n w [] es)(lg:ji n w N (je es))(hN:N<=7)(he:(je es).length<=900)(h10:ah 10 ρ S=some (.ref v,S))(gv:S[v]?=some (.lst ((je es).map Ev.u))) :
  ∃G,aI (cOp (nY true) (cCB (gI c) (ab (ah 10) aC)) (iV aC)) ρ S=some (false,S++G):=by
 obtain⟨G1,k1,e1,g1⟩:=qP (c:=c) (S:=S) hns gv lg he hN
 rw[Bl lf]at g1
 obtain⟨Z,hZ⟩:∃Z,Z=S++G1:=⟨_,rfl⟩
 have gk:Z[S.length+k1]?=some (.lst []):=by rw[hZ,ga];exact g1
 have g9:(Z++[O.lst []])[Z.length]?=some (.lst []):=by rw[ga0];rfl
 have en:=rR true (ak gk) g9
 have el:iV aC ρ Z=some (.ref Z.length,Z++[.lst []]):=rfl
 rw[<-hZ]at e1
 have ei:cCB (gI c) (ab (ah 10) aC) ρ S=some (.ref (S.length+k1),Z):=by rw[Gv,mj,h10,Option.bind_some,jn,rj,Option.bind_some,jm,Option.bind_some,vP,e1]
 refine⟨G1++[.lst []],?_⟩
 rw[<-List.append_assoc,<-hZ,i8,rg,ei,Option.bind_some,jk,el,Option.bind_some,jj,en]
 rfl
end
def cZ:Fn:=fnU 5 1 eG
def q0(b:Nat)(G:Sto)(A:List Int)(k:Nat)(u:U):Prop:=∃(j:Nat) (os:List Int),u=.ref (b+j)/\G[j]?=some (.lst (os.map U.int))/\os.length=k/\∀a∈os,a∈A
section
variable{b k:Nat}{G H S:Sto}{A:List Int}{u:U}{a:Int}{os:List Int}{q:Nat}
theorem q0.app(h:q0 b G A k u):q0 b (G++H) A k u:=by
 obtain⟨j,os,h1,h2,h3⟩:=h
 exact⟨j,os,h1,ak h2,h3⟩
theorem q0.shift(h:q0 (b+G.length) H A k u):q0 b (G++H) A k u:=by
 obtain⟨j,os,h1,h2,h3⟩:=h
 exact⟨G.length+j,os,by rw[h1,Nat.add_assoc],by rw[ga];exact h2,h3⟩
theorem JV{us:List U}{i:Nat}(h:i<=us.length):AB us none (some (i:Int))=us.take i:=by
 have h0:HT.sIx us.length 0 none=0:=rfl
 have h1:HT.sIx us.length us.length (some (i:Int))=i:=by
  unfold HT.sIx
  simp only
  split<;>omega
 unfold AB
 rw[h0,h1,Nat.sub_zero,List.drop_zero]
theorem JW{us:List U}{i:Nat}(h:i<=us.length):AB us (some (i:Int)) none=us.drop i:=by
 have h0:HT.sIx us.length us.length none=us.length:=rfl
 have h1:HT.sIx us.length 0 (some (i:Int))=i:=by
  unfold HT.sIx
  simp only
  split<;>omega
 unfold AB
 rw[h0,h1,List.take_of_length_le (by rw[List.length_drop];omega)]
theorem sO{S:Sto}{l m:Nat}{us vs:List U}(h1:S[l]?=some (.lst us))(h2:S[m]?=some (.lst vs))(hl:us.length+vs.length<=900):fN (.ref l) (.ref m) S=some (.ref S.length,S++[.lst (us++vs)]):=by
 unfold fN nX
 simp only[h1,h2]
 rw[if_pos (by unfold LIM;omega)]
theorem JB(hq:S[q]?=some (.lst (os.map U.int)))(ho:os.length<=9){i:Nat}(hi:i<=os.length) :
  ∃G j,(cOp fN (cOp fN (cSl (ah 1) none (some (ah 0))) (iV (ab (ah 2) aC))) (cSl (ah 1) (some (ah 0)) none)) [some (.int (i:Int)),some (.ref q),some (.int a)] S=some (.ref (S.length+j),S++G)/\G[j]?=some (.lst ((os.take i++[a]++os.drop i).map U.int)):=by
 have lu:(os.map U.int).length=os.length:=List.length_map _
 have sl1:∀{Y:Sto},Y[q]?=some (.lst (os.map U.int))->cSl (ah 1) none (some (ah 0)) [some (.int (i:Int)),some (.ref q),some (.int a)] Y=some (.ref Y.length,Y++[.lst ((os.take i).map U.int)]):=fun{Y} hY=>by
  have v1:ah 1 [some (.int (i:Int)),some (.ref q),some (.int a)] Y=some (.ref q,Y):=rfl
  have p1:qK none [some (.int (i:Int)),some (.ref q),some (.int a)] Y=some (none,Y):=rfl
  have p2:qK (some (ah 0)) [some (.int (i:Int)),some (.ref q),some (.int a)] Y=some (some (i:Int),Y):=rfl
  unfold cSl
  rw[v1,Option.bind_some]
  simp only[p1,p2,Option.bind_some,fSl,hY]
  rw[JV (by omega),<-List.map_take]
 have sl2:∀{Y:Sto},Y[q]?=some (.lst (os.map U.int))->cSl (ah 1) (some (ah 0)) none [some (.int (i:Int)),some (.ref q),some (.int a)] Y=some (.ref Y.length,Y++[.lst ((os.drop i).map U.int)]):=fun{Y} hY=>by
  have v1:ah 1 [some (.int (i:Int)),some (.ref q),some (.int a)] Y=some (.ref q,Y):=rfl
  have p1:qK none [some (.int (i:Int)),some (.ref q),some (.int a)] Y=some (none,Y):=rfl
  have p2:qK (some (ah 0)) [some (.int (i:Int)),some (.ref q),some (.int a)] Y=some (some (i:Int),Y):=rfl
  unfold cSl
  rw[v1,Option.bind_some]
  simp only[p1,p2,Option.bind_some,fSl,hY]
  rw[JW (by omega),<-List.map_drop]
 obtain⟨S1,h1⟩:∃S1,S1=S++[O.lst ((os.take i).map U.int)]:=⟨_,rfl⟩
 obtain⟨S2,h2⟩:∃S2,S2=S1++[O.lst [.int a]]:=⟨_,rfl⟩
 obtain⟨S3,h3⟩:∃S3,S3=S2++[O.lst ((os.take i).map U.int++[.int a])]:=⟨_,rfl⟩
 obtain⟨S4,h4⟩:∃S4,S4=S3++[O.lst ((os.drop i).map U.int)]:=⟨_,rfl⟩
 have q3:S3[q]?=some (.lst (os.map U.int)):=by rw[h3,h2,h1];exact ak (ak (ak hq))
 have e1:=sl1 hq
 have e4:=sl2 q3
 rw[<-h1]at e1
 rw[<-h4]at e4
 have e2:iV (ab (ah 2) aC) [some (.int (i:Int)),some (.ref q),some (.int a)] S1=some (.ref S1.length,S2):=by rw[h2];rfl
 have l1:((os.take i).map U.int).length<=9:=by rw[List.length_map,List.length_take];omega
 have l2:((os.drop i).map U.int).length<=9:=by rw[List.length_map,List.length_drop];omega
 have e3:fN (.ref S.length) (.ref S1.length) S2=some (.ref S2.length,S3):=by
  rw[h3]
  exact sO (by rw[h2,h1];exact ak (by rw[ga0];rfl)) (by rw[h2,ga0];rfl) (by rw[List.length_singleton];omega)
 have e5:fN (.ref S2.length) (.ref S3.length) S4=some (.ref S4.length,S4++[.lst ((os.take i).map U.int++[.int a]++(os.drop i).map U.int)]):=sO (by rw[h4,h3];exact ak (by rw[ga0];rfl)) (by rw[h4,ga0];rfl) (by rw[List.length_append,List.length_singleton];omega)
 have hS4:S4=S++([O.lst ((os.take i).map U.int)]++([O.lst [.int a]]++([O.lst ((os.take i).map U.int++[.int a])]++[O.lst ((os.drop i).map U.int)]))):=by rw[h4,h3,h2,h1];simp only[List.append_assoc]
 refine⟨[O.lst ((os.take i).map U.int)]++([O.lst [.int a]]++([O.lst ((os.take i).map U.int++[.int a])]++[O.lst ((os.drop i).map U.int)]))++[.lst ((os.take i).map U.int++[.int a]++(os.drop i).map U.int)],4,?_,by rw[List.map_append,List.map_append];rfl⟩
 rw[<-List.append_assoc,<-hS4]
 have l4:S4.length=S.length+4:=by rw[hS4,List.length_append];rfl
 rw[l4]at e5
 rw[rg,rg,e1,Option.bind_some,jk,e2,Option.bind_some,jj,e3,Option.bind_some,jk,e4,Option.bind_some,jj,e5]
theorem vq{ok:Sto->Prop}(hok:∀G,ok (S++G))(hq:S[q]?=some (.lst (os.map U.int)))(ho:os.length<=9)(hA:∀z∈os,z∈A)(ha:a∈A):∀(js:List Nat) (ys:List U) (G:Sto) (r0:Option U),(∀j∈js,j<=os.length)->ys.length+js.length<=900->(∀u∈ys,q0 (S.length+1) G A (os.length+1) u)->
  ∃ys' G',iT ok (gNm 0) (cOp fN (cOp fN (cSl (ah 1) none (some (ah 0))) (iV (ab (ah 2) aC))) (cSl (ah 1) (some (ah 0)) none)) S.length (js.map fun j:Nat=>U.int (j:Int)) [r0,some (.ref q),some (.int a)] (S++(.lst ys::G))=some (S++(.lst ys'::G'))/\ys'.length=ys.length+js.length/\∀u∈ys',q0 (S.length+1) G' A (os.length+1) u
 |[],ys,G,r0,_,_,h=>⟨ys,G,lJ (hok _),rfl,h⟩
 |i::js,ys,G,r0,hj,hb,h=>by
  rw[List.length_cons]at hb
  obtain⟨Y,hY⟩:∃Y,Y=S++(O.lst ys::G):=⟨_,rfl⟩
  have hi:=hj i List.mem_cons_self
  obtain⟨G1,j1,e1,g1⟩:=JB (S:=Y) (a:=a) (by rw[hY];exact ak hq) ho hi
  have o1:q0 (S.length+1) (G++G1) A (os.length+1) (.ref (Y.length+j1)):=by
   refine q0.shift ⟨j1,_,?_,g1,?_,fun z hz=>?_⟩
   ·congr 1
    rw[hY,List.length_append,List.length_cons]
    omega
   ·rw[List.length_append,List.length_append,List.length_take,List.length_drop,List.length_singleton];omega
   ·rcases List.mem_append.mp hz with hz|hz
    ·rcases List.mem_append.mp hz with hz|hz
     ·exact hA z (List.mem_of_mem_take hz)
     ·rw[List.mem_singleton.mp hz];exact ha
    ·exact hA z (List.mem_of_mem_drop hz)
  have eY:Y++G1=S++(.lst ys::(G++G1)):=by rw[hY];simp only[List.append_assoc,List.cons_append]
  obtain⟨ys',G',ih,l1,h'⟩:=vq hok hq ho hA ha js (ys++[.ref (Y.length+j1)]) (G++G1) (some (.int (i:Int))) (fun j hj'=>hj j (List.mem_cons_of_mem _ hj')) (by rw[List.length_append,List.length_singleton];omega) (fun u hu=>by
   rcases List.mem_append.mp hu with hu|hu
   ·exact(h u hu).app
   ·rw[List.mem_singleton.mp hu];exact o1)
  refine⟨ys',G',?_,by rw[l1,List.length_append,List.length_singleton,List.length_cons];omega,h'⟩
  rw[List.map_cons]
  refine(jF (ys:=ys) (hok _) rfl (by rw[<-hY];exact e1) (by rw[eY,ga0];rfl) (by unfold LIM;omega)).trans ?_
  rw[eY,gs0]
  exact ih
theorem yP{B:Sto}{vs:List U}{ru r1:Option U}(hq:(B++(O.lst vs::G))[q]?=some (.lst (os.map U.int)))(ho:os.length<=9)(hA:∀z∈os,z∈A)(ha:a∈A)(hv:∀u∈vs,q0 (B.length+1) G A (os.length+1) u)(hl:vs.length<=900) :
  ∃vs' G',dC [ru,r1,some (.int a),some (.ref B.length),some (.ref q)] (B++(.lst vs::G))=some (.nx,[ru,r1,some (.int a),some (.ref B.length),some (.ref q)],B++(.lst vs'::G'))/\vs'.length=vs.length+(os.length+1)/\∀u∈vs',q0 (B.length+1) G' A (os.length+1) u:=by
 obtain⟨S,hS⟩:∃S,S=B++(O.lst vs::G):=⟨_,rfl⟩
 rw[<-hS]at hq ⊢
 obtain⟨ys,G1,e1,l1,h1⟩:=vq (S:=S) (ok:=fun _=>True) (fun _=>trivial) hq ho hA ha (List.range (os.length+1)) [] [] none (fun j hj=>by have:=List.mem_range.mp hj;omega) (by rw[List.length_nil,List.length_range];omega) (fun u hu=>by cases hu)
 rw[List.length_nil,List.length_range,Nat.zero_add]at l1
 obtain⟨ρ,hρ⟩:∃ρ:Rho,ρ=[ru,r1,some (.int a),some (.ref B.length),some (.ref q)]:=⟨_,rfl⟩
 rw[<-hρ]
 have hcmp:fT (dQ (ab (cOp fN (cCB kB (ab (ah 4) aC)) (cC (.int 1))) aC)) (gNm 0) (cOp fN (cOp fN (cSl (ah 1) none (some (ah 0))) (iV (ab (ah 2) aC))) (cSl (ah 1) (some (ah 0)) none)) 1 [4,2] ρ S=some (.ref S.length,S++(.lst ys::G1)):=by
  have er:mQ 1 [4,2] ρ=[none,some (.ref q),some (.int a)]:=by rw[hρ];rfl
  have ei:ab (cOp fN (cCB kB (ab (ah 4) aC)) (cC (.int 1))) aC ρ S=some ([.int (((os.map U.int).length:Int)+1)],S):=by
   rw[hρ]
   obtain⟨us,hus⟩:∃us,us=os.map U.int:=⟨_,rfl⟩
   rw[<-hus]at hq ⊢
   rwa[hq]
  have em:dv 0 (((os.map U.int).length:Int)+1).toNat=(List.range (os.length+1)).map fun j:Nat=>U.int (j:Int):=by
   rw[List.length_map,show((os.length:Int)+1).toNat=os.length+1 by omega]
   unfold dv
   exact List.map_congr_left fun i _=>by rw[Int.zero_add]
  have e1':dQ (ab (cOp fN (cCB kB (ab (ah 4) aC)) (cC (.int 1))) aC) ρ S=some ((List.range (os.length+1)).map fun j:Nat=>U.int (j:Int),fun _=>True,S):=by
   unfold dQ
   rw[ei,Option.bind_some]
   simp only
   rw[if_pos (by rw[List.length_map];omega),em]
  unfold fT
  rw[e1',Option.bind_some]
  simp only[er,e1,Option.bind_some]
 obtain⟨V,hV⟩:∃V,V=S++(O.lst ys::G1):=⟨_,rfl⟩
 have eV:V=B++(.lst vs::(G++(O.lst ys::G1))):=by rw[hV,hS];simp only[List.append_assoc,List.cons_append]
 have g1:V[B.length]?=some (.lst vs):=by rw[eV,ga0];rfl
 have g2:V[S.length]?=some (.lst ys):=by rw[hV,ga0];rfl
 have hext:iS (.ref B.length) [.ref S.length] V=some (.non,B++(.lst (vs++ys)::(G++(O.lst ys::G1)))):=by
  unfold iS
  simp only[g1,g2]
  rw[if_pos (by unfold LIM;omega),eV,gs0]
  rfl
 have gS:S[B.length]?=some (.lst vs):=by rw[hS,ga0];rfl
 have v3:ah 3 ρ S=some (.ref B.length,S):=by rw[hρ];rfl
 rw[<-hV]at hcmp
 refine⟨vs++ys,G++(O.lst ys::G1),?_,by rw[List.length_append,l1],fun u hu=>?_⟩
 ·unfold dC
  generalize fT (dQ (ab (cOp fN (cCB kB (ab (ah 4) aC)) (cC (.int 1))) aC)) (gNm 0) (cOp fN (cOp fN (cSl (ah 1) none (some (ah 0))) (iV (ab (ah 2) aC))) (cSl (ah 1) (some (ah 0)) none)) 1 [4,2]=cc at hcmp ⊢
  rw[CM,Mo,v3,Option.bind_some,Ht,gS,Hs,mj,hcmp,Option.bind_some,jn,rj,Option.bind_some,jm,Option.bind_some,Hr,hext]
  rfl
 ·rcases List.mem_append.mp hu with hu|hu
  ·exact(hv u hu).app
  ·refine q0.shift ?_
   have:=h1 u hu
   obtain⟨j,os',z1,z2,z3⟩:=this
   refine⟨1+j,os',?_,by rw[Nat.add_comm,List.getElem?_cons_succ];exact z2,z3⟩
   rw[z1,hS,List.length_append,List.length_cons]
   congr 1
   omega
end
def Aw(S:Sto)(A:List Int)(k:Nat)(u:U):Prop:=q0 0 S A k u
section
variable{A:List Int}{a:Int}{S:Sto}{k:Nat}
theorem rS{B:Sto}{us0:List U}{r:Nat}{ru:Option U}(hr:B[r]?=some (.lst us0))(ha:a∈A)(hk:k<=9):∀(us:List U) (vs:List U) (G:Sto) (r4:Option U),(∀u∈us,Aw B A k u)->(∀u∈vs,q0 (B.length+1) G A (k+1) u)->vs.length+us.length*(k+1)<=900->
  ∃vs' G' r4',eA (fun Y=>Y[r]?=some (.lst us0)) (gNm 4) dC us [ru,some (.ref r),some (.int a),some (.ref B.length),r4] (B++(.lst vs::G))=some (.nx,[ru,some (.ref r),some (.int a),some (.ref B.length),r4'],B++(.lst vs'::G'))/\vs'.length=vs.length+us.length*(k+1)/\∀u∈vs',q0 (B.length+1) G' A (k+1) u
 |[],vs,G,r4,_,hv,_=>⟨vs,G,r4,cX (ak hr),by rw[List.length_nil,Nat.zero_mul];rfl,hv⟩
 |u::us,vs,G,r4,hu,hv,hl=>by
  rw[List.length_cons,Nat.succ_mul]at hl
  obtain⟨q,os,e0,g0,l0,m0⟩:=hu u List.mem_cons_self
  rw[Nat.zero_add]at e0
  subst e0
  obtain⟨vs1,G1,e1,l1,h1⟩:=yP (B:=B) (G:=G) (ru:=ru) (r1:=some (.ref r)) (ak g0) (by omega) m0 ha (by rw[l0];exact hv) (by omega)
  rw[l0]at l1 h1
  obtain⟨vs',G',r4',ih,l2,h2⟩:=rS hr ha hk us vs1 G1 (some (.ref q)) (fun u h=>hu u (List.mem_cons_of_mem _ h)) h1 (by omega)
  exact⟨vs',G',r4',(eC (ak hr) rfl e1).trans ih,by rw[l2,l1,List.length_cons,Nat.succ_mul];omega,h2⟩
theorem Aw.of{B G:Sto}{o:O}{u:U}(h:q0 (B.length+1) G A k u):Aw (B++(o::G)) A k u:=by
 obtain⟨j,os,h1,h2,h3⟩:=h
 exact⟨B.length+(j+1),os,by rw[h1];congr 1;omega,by rw[ga];exact h2,h3⟩
theorem Aw.app{S G:Sto}{u:U}(h:Aw S A k u):Aw (S++G) A k u:=q0.app h
theorem uV{l:Nat}{as0:List Int}:∀(as:List Int) (S:Sto) (r:Nat) (us:List U) (k:Nat) (r2 r3 r4:Option U),S[l]?=some (.lst (as0.map U.int))->S[r]?=some (.lst us)->(∀u∈us,Aw S A k u)->(∀a∈as,a∈A)->k+as.length<=4->us.length<=5^k->
  ∃r' us' G r2' r3' r4',eA (fun Y=>Y[l]?=some (.lst (as0.map U.int))) (gNm 2) dB (as.map U.int) [some (.ref l),some (.ref r),r2,r3,r4] S=some (.nx,[some (.ref l),some (.ref r'),r2',r3',r4'],S++G)/\(S++G)[r']?=some (.lst us')/\∀u∈us',Aw (S++G) A (k+as.length) u
 |[],S,r,us,k,r2,r3,r4,gl,gr,hu,_,_,_=>⟨r,us,[],r2,r3,r4,by rw[List.append_nil];exact cX gl,by rw[List.append_nil];exact gr,by rw[List.append_nil];exact hu⟩
 |a::as,S,r,us,k,r2,r3,r4,gl,gr,hu,hA,hk,hl=>by
  rw[List.length_cons]at hk
  have p5:5^k<=5^3:=Nat.pow_le_pow_right (by omega) (by omega)
  have p6:us.length*(k+1)<=5^k*5:=Nat.mul_le_mul hl (by omega)
  obtain⟨vs,G1,q4,e1,l1,h1⟩:=rS (B:=S) (ru:=some (.ref l)) gr (hA a List.mem_cons_self) (show k<=9 by omega) us [] [] r4 hu (fun u h=>by cases h) (by rw[List.length_nil];omega)
  rw[List.length_nil,Nat.zero_add]at l1
  have s1:eR 3 (iV aC) [some (.ref l),some (.ref r),some (.int a),r3,r4] S=some (.nx,[some (.ref l),some (.ref r),some (.int a),some (.ref S.length),r4],S++[.lst []]):=rfl
  have s2:kC (iTp (ah 1)) (gNm 4) dC [some (.ref l),some (.ref r),some (.int a),some (.ref S.length),r4] (S++[.lst []])=some (.nx,[some (.ref l),some (.ref r),some (.int a),some (.ref S.length),q4],S++(.lst vs::G1)):=by
   have v1:ah 1 [some (.ref l),some (.ref r),some (.int a),some (.ref S.length),r4] (S++[O.lst []])=some (.ref r,S++[.lst []]):=rfl
   have g1:(S++[O.lst []])[r]?=some (.lst us):=ak gr
   unfold kC iTp
   rw[v1,Option.bind_some]
   simp only[g1,Option.bind_some]
   exact e1
  have st:dB [some (.ref l),some (.ref r),some (.int a),r3,r4] S=some (.nx,[some (.ref l),some (.ref S.length),some (.int a),some (.ref S.length),q4],S++(.lst vs::G1)):=by
   unfold dB
   rw[oE s1,oE s2]
   rfl
  obtain⟨r',us',G,q2,q3,q4',ih,g',h'⟩:=uV as (S++(.lst vs::G1)) S.length vs (k+1) (some (.int a)) (some (.ref S.length)) q4 (ak gl) (by rw[ga0];rfl) (fun u hu=>Aw.of (h1 u hu)) (fun b hb=>hA b (List.mem_cons_of_mem _ hb)) (by omega) (by rw[l1,Nat.pow_succ];exact p6)
  refine⟨r',us',(.lst vs::G1)++G,q2,q3,q4',?_,by rw[<-List.append_assoc];exact g',by rw[<-List.append_assoc,List.length_cons,show k+(as.length+1)=k+1+as.length by omega];exact h'⟩
  rw[List.map_cons,<-List.append_assoc]
  exact(eC gl rfl st).trans ih
theorem yD{S:Sto}{l:Nat}{as:List Int}(gl:S[l]?=some (.lst (as.map U.int)))(hl:as.length<=4) :
  ∃r us G,cZ [.ref l] S=some (.ref r,S++G)/\(S++G)[r]?=some (.lst us)/\∀u∈us,Aw (S++G) as as.length u:=by
 unfold cZ
 rw[qE]
 obtain⟨Y,hY⟩:∃Y,Y=S++[O.lst []]++[O.lst [.ref S.length]]:=⟨_,rfl⟩
 have s1:eR 1 (iV (ab (iV aC) aC)) [some (.ref l),none,none,none,none] S=some (.nx,[some (.ref l),some (.ref (S++[O.lst []]).length),none,none,none],Y):=by rw[hY];rfl
 have gY:Y[l]?=some (.lst (as.map U.int)):=by rw[hY];exact ak (ak gl)
 obtain⟨r',us,G,q2,q3,q4,e1,g1,h1⟩:=uV (A:=as) (l:=l) (as0:=as) as Y (S++[O.lst []]).length [.ref S.length] 0 none none none gY (by rw[hY,ga0];rfl) (fun u hu=>by
  rw[List.mem_singleton.mp hu]
  exact⟨S.length,[],by rw[Nat.zero_add],by rw[hY];exact ak (by rw[ga0];rfl),rfl,fun a ha=>by cases ha⟩) (fun a ha=>ha) (by omega) (by rw[List.length_singleton];exact Nat.le_refl _)
 rw[Nat.zero_add]at h1
 have s2:kC (iTp (ah 0)) (gNm 2) dB [some (.ref l),some (.ref (S++[O.lst []]).length),none,none,none] Y=some (.nx,[some (.ref l),some (.ref r'),q2,q3,q4],Y++G):=by
  have v1:ah 0 [some (.ref l),some (.ref (S++[O.lst []]).length),none,none,none] Y=some (.ref l,Y):=rfl
  unfold kC iTp
  rw[v1,Option.bind_some]
  simp only[gY,Option.bind_some]
  exact e1
 have eY:Y++G=S++([O.lst []]++[O.lst [.ref S.length]]++G):=by rw[hY];simp only[List.append_assoc]
 refine⟨r',us,[O.lst []]++[O.lst [.ref S.length]]++G,?_,by rw[<-eY];exact g1,by rw[<-eY];exact h1⟩
 rw[<-eY]
 unfold eG
 rw[oE s1,oE s2]
 rfl
end
section
variable{c:Cl}{n w:Int}{S:Sto}{l:Nat}
theorem Nf:StI [] 0:=⟨by simp[ax],fun k hk=>by simp[ax]at hk,⟨by simp,by simp⟩⟩
theorem wm(hns:c.ns.length=5){es:List Ev}(hl:S[l]?=some (.lst (es.map Ev.u)))(lf:jJ n w [] es)(he:es.length<=900):∃G,qS c [.tup [.int n,.int w],.ref l] S=some (.bl true,S++G):=by
 obtain⟨G,e⟩:=B3 (c:=c) (n:=n) (w:=w) (S:=S) (u:=.ref l) hns (.inl ⟨l,_,rfl,hl,fun v hv=>by obtain⟨e,_,rfl⟩:=List.mem_map.mp hv;exact JH e S⟩)
 rw[u9 hl (by rw[List.length_map];omega),vw es [] 0 Nf lf]at e
 exact⟨G,e⟩
end
theorem lF:∀es:List Ev,(je es).length=es.length:=fun es=>by
 have h:∀es:List Ev,(es.filter fM).length+(es.filter kA).length+(es.filter gP).length=es.length:=fun es=>by
  induction es with
  |nil=>rfl
  |cons e es ih=>
   rw[List.filter_cons,List.filter_cons,List.filter_cons,List.length_cons]
   cases e<;>simp only[fM,kA,gP,if_true,Bool.false_eq_true,if_false,List.length_cons]<;>omega
 unfold je
 rw[List.length_append,List.length_append]
 exact h es
theorem yG{n w:Int}{es fs:List Ev}(h:Wv n w es fs)(lf:jJ n w [] es):gN (aU [] fs) true=gN (aU [] es) true:=by
 have:∀st,AD st true=fun _=>true:=fun st=>rfl
 unfold gN
 rw[this,this,h.sort lf]
section
variable{c cA:Cl}{n w:Int}{es fs:List Ev}{xs:List Int}{x:U}{L V F o:Nat}{r6 r7 r8 r9 r11 r12 r13:Option U}{S:Sto}{fo:Fn}{us:List U}
theorem zL(hns:c.ns.length=5){fa:Nat}(h:Wv n w es fs)(lg:ji n w 4 es)(ln:fs.length=es.length)(l24:es.length<=24)(go:S[o]?=some (.lst (fs.map Ev.u)))(gf:S[fa]?=some (.lst us))(hf:mO S (aU [] es) (bS (ax (aU [] es))) us) :
  ∃G,(fL c cA qO fo) (rh n w x L V r6 r7 r8 (some (.ref o)) (some (.ref F)) (some (.ref fa)) r12 r13) S=some (.nx,rh n w x L V r6 r7 r8 (some (.ref o)) (some (.ref F)) (some (.ref fa)) r12 r13,S++G):=by
 have lf:=lg.lo
 have lg':=h.logOk lg (Nat.le_of_eq ln.symm)
 obtain⟨G1,e1⟩:=wm (c:=c) (n:=n) (w:=w) hns go (h.lo lf) (by omega)
 obtain⟨S1,h1⟩:∃S1,S1=S++G1:=⟨_,rfl⟩
 obtain⟨G2,r,vs,e2,g2,f2⟩:=vx (c:=c) (S:=S1) hns (by rw[h1];exact ak go) lg' (by omega) (by omega)
 rw[h.sort lf]at f2
 have f1:mO (S1++G2) (aU [] es) (bS (ax (aU [] es))) us:=by rw[h1];exact(hf.app G1).app G2
 have gf2:(S1++G2)[fa]?=some (.lst us):=by rw[h1];exact ak (ak gf)
 have sm:=zA (fun a t t' hv hv'=>by
  obtain⟨t2,k1,k2,k3,k4,k5⟩:=h.val lf hv
  rw[hv']at k1
  cases k1
  exact⟨k2,k3,k5⟩) f1 f2
 have ne:=j6.ne (j6.lst g2 gf2 sm) (by omega)
 rw[<-h1]at e1
 refine⟨G1++G2,?_⟩
 rw[<-List.append_assoc,<-h1]
 obtain⟨S2,h2⟩:∃S2,S2=S1++G2:=⟨_,rfl⟩
 rw[<-h2]at e2 ne ⊢
 have nb:(true !=true)=false:=rfl
 rwa[fL,qO,rh,e1,e2,ne,qy,nb]
theorem HJ(hns:c.ns.length=5)(hna:cA.ns.length=3)(h:Wv n w es fs)(lg:ji n w 4 es)(ln:fs.length=es.length)(l24:es.length<=24)(hn:n<=100)(hx:xs.length=n.toNat)(gl:S[L]?=some (.lst (es.map Ev.u)))(gv:S[V]?=some (.lst (fs.map Ev.u)))(gf:S[F]?=some (.lst ((je es).map Ev.u))){q:Nat}{os:List Int}(gq:S[q]?=some (.lst (os.map U.int)))(ho:os.length<=4)(hk:∀a∈os,a∈ax (aU [] es)) :
  ∃G,(fL c cA lY fo) (rh n w (.tup (xs.map U.int)) L V r6 r7 r8 r9 (some (.ref F)) r11 r12 (some (.ref q))) S=some (.nx,rh n w (.tup (xs.map U.int)) L V r6 r7 r8 r9 (some (.ref F)) r11 r12 (some (.ref q)),S++G):=by
 have lf:=lg.lo
 have hw:=Wv.flat lf
 obtain⟨G1,e1⟩:=qf (c:=c) (cA:=cA) (S:=S) (x:=xs) (every:=true) (lo:=q) (os:=os) (wu:=.tup [.int n,.int w]) hns hna gl gq lg (by omega) (by omega) hn hx (by omega)
 obtain⟨X,hX⟩:∃X,X=xs.map U.int:=⟨_,rfl⟩
 obtain⟨S1,h1⟩:∃S1,S1=S++G1:=⟨_,rfl⟩
 rw[<-h1,<-hX]at e1
 rw[<-hX]
 cases hb:(decide (bS os=gN (aU [] es) true)&&lU (aU [] es) true [] xs os)with
 |false=>
  rw[hb]at e1
  refine⟨G1,?_⟩
  rw[<-h1]
  rwa[fL,lY,rh,e1]
 |true=>
  rw[hb]at e1
  obtain⟨b1,b2⟩:=Bool.and_eq_true_iff.mp hb
  obtain⟨G2,e2⟩:=qf (c:=c) (cA:=cA) (S:=S1) (x:=xs) (every:=true) (lo:=q) (os:=os) (wu:=.tup [.int n,.int w]) hns hna (by rw[h1];exact ak gv) (by rw[h1];exact ak gq) (h.logOk lg (Nat.le_of_eq ln.symm)) (by omega) (by omega) hn hx (by omega)
  obtain⟨S2,h2⟩:∃S2,S2=S1++G2:=⟨_,rfl⟩
  obtain⟨G3,e3⟩:=qf (c:=c) (cA:=cA) (S:=S2) (x:=xs) (every:=true) (lo:=q) (os:=os) (wu:=.tup [.int n,.int w]) hns hna (by rw[h2,h1];exact ak (ak gf)) (by rw[h2,h1];exact ak (ak gq)) (hw.logOk lg (Nat.le_of_eq (lF es).symm)) (by rw[lF];omega) (by omega) hn hx (by omega)
  obtain⟨S3,h3⟩:∃S3,S3=S2++G3:=⟨_,rfl⟩
  rw[yG h lf,b1,h.good lf hk b2,<-h2,<-hX]at e2
  rw[yG hw lf,b1,hw.good lf hk b2,<-h3,<-hX]at e3
  refine⟨G1++(G2++G3),?_⟩
  rw[<-List.append_assoc,<-h1,<-List.append_assoc,<-h2,<-h3]
  have nb:(!true)=false:=rfl
  have tt:(true&&true)=true:=rfl
  rw[tt]at e2 e3
  rwa[fL,lY,rh,e1,e2,e3,nb]
theorem uW(hns:c.ns.length=5)(hna:cA.ns.length=3)(h:Wv n w es fs)(lg:ji n w 4 es)(ln:fs.length=es.length)(l24:es.length<=24)(hn:n<=100)(hx:xs.length=n.toNat){A:List Int}{k r:Nat}{us0:List U}(hk:k<=4)(hA:∀a∈A,a∈ax (aU [] es)):∀(us:List U) (S:Sto) (r13:Option U),S[L]?=some (.lst (es.map Ev.u))->S[V]?=some (.lst (fs.map Ev.u))->S[F]?=some (.lst ((je es).map Ev.u))->S[r]?=some (.lst us0)->(∀u∈us,Aw S A k u)->
  ∃ρ' S',eA (fun Y=>Y[r]?=some (.lst us0)) (gNm 13) (fL c cA lY fo) us (rh n w (.tup (xs.map U.int)) L V r6 r7 r8 r9 (some (.ref F)) r11 r12 r13) S=some (.nx,ρ',S')
 |[],S,r13,_,_,_,gr,_=>⟨_,_,cX gr⟩
 |u::us,S,r13,gl,gv,gf,gr,hu=>by
  obtain⟨q,os,e0,g0,l0,m0⟩:=hu u List.mem_cons_self
  rw[Nat.zero_add]at e0
  subst e0
  obtain⟨G,e1⟩:=HJ (c:=c) (cA:=cA) (fo:=fo) (r6:=r6) (r7:=r7) (r8:=r8) (r9:=r9) (r11:=r11) (r12:=r12) hns hna h lg ln l24 hn hx gl gv gf g0 (by omega) (fun a ha=>hA a (m0 a ha))
  obtain⟨ρ',S',ih⟩:=uW hns hna h lg ln l24 hn hx hk hA us (S++G) (some (.ref q)) (ak gl) (ak gv) (ak gf) (ak gr) (fun u hv=>(hu u (List.mem_cons_of_mem _ hv)).app)
  exact⟨ρ',S',(eC gr rfl e1).trans ih⟩
end
section
variable{c cA:Cl}{n w:Int}{es fs:List Ev}{xs:List Int}{L V:Nat}{r6 r7 r8 r9 r10 r11 r12 r13:Option U}{S:Sto}
theorem Et(hns:c.ns.length=5)(hna:cA.ns.length=3)(h:Wv n w es fs)(lg:ji n w 4 es)(ln:fs.length=es.length)(l24:es.length<=24)(hn:n<=100)(hx:xs.length=n.toNat)(gl:S[L]?=some (.lst (es.map Ev.u)))(gv:S[V]?=some (.lst (fs.map Ev.u))) :
  ∃ρ' S',((bL (eR 10 (bT (iTp (ah 4)) (gNm 0) (aI (cOp fEq (cOp fIx (ah 0) (cC (.int 0))) (cC (.str "begin")))) (ah 0) 1 []))
  (bL (eR 10 (cOp fN (ah 10) (bT (iTp (ah 4)) (gNm 0) (aI (cOp (fIn false) (cOp fIx (ah 0) (cC (.int 0))) (jV (ab (cC (.str "look")) (ab (cC (.str "put")) aC))))) (ah 0) 1 [])))
  (bL (eR 10 (cOp fN (ah 10) (bT (iTp (ah 4)) (gNm 0) (aI (cOp (fIn false) (cOp fIx (ah 0) (cC (.int 0))) (jV (ab (cC (.str "done")) (ab (cC (.str "fall")) aC))))) (ah 0) 1 [])))
  (bL (eR 11 (cCB (qT c) (ab (ah 4) aC)))
  (bL (kC (iTp (iV (ab (ah 5) (ab (ah 10) aC)))) (gNm 9) (fL c cA qO cZ))
  (bL (eR 12 (cCB (gI c) (ab (ah 4) aC)))
  (bL (hU (cOr (aI (cOp (nY true) (bT (iTp (cCB (gI c) (ab (ah 5) aC))) (gNm 0) (aI (cOp (vy true) (ah 0) (ah 1))) (ah 0) 1 [12]) (iV aC))) (aI (cOp (nY true) (cCB (gI c) (ab (ah 10) aC)) (iV aC)))) (fO (cC (.bl false))) dJ)
  (bL (kC (iTp (cCB cZ (ab (cCB (sX c) (ab (ah 4) aC)) aC))) (gNm 13) (fL c cA lY cZ))
  (fO (cC (.bl true))))))))))):CS) (rh n w (.tup (xs.map U.int)) L V r6 r7 r8 r9 r10 r11 r12 r13) S=some (.rt (.bl true),ρ',S'):=by
 have lf:=lg.lo
 have hw:=Wv.flat lf
 have lgf:=hw.logOk lg (Nat.le_of_eq (lF es).symm)
 obtain⟨x,hxu⟩:∃x,x=U.tup (xs.map U.int):=⟨_,rfl⟩
 have l1:(es.filter fM).length<=24:=Nat.le_trans (List.length_filter_le _ _) l24
 have l2:(es.filter kA).length<=24:=Nat.le_trans (List.length_filter_le _ _) l24
 have l3:(es.filter gP).length<=24:=Nat.le_trans (List.length_filter_le _ _) l24
 have v4:∀(ra rb:Option U) (Y:Sto),ah 4 (rh n w x L V r6 r7 r8 r9 ra rb r12 r13) Y=some (.ref L,Y):=fun _ _ _=>rfl
 have v10:∀(k:Nat) (Y:Sto),ah 10 (rh n w x L V r6 r7 r8 r9 (some (.ref k)) r11 r12 r13) Y=some (.ref k,Y):=fun _ _=>rfl
 obtain⟨G1,e1⟩:=qw (p:=fM) (ρ:=rh n w x L V r6 r7 r8 r9 r10 r11 r12 r13) gl (by omega) (v4 _ _ _) Lj
 obtain⟨S1,h1⟩:∃S1,S1=S++(O.lst ((es.filter fM).map Ev.u)::G1):=⟨_,rfl⟩
 have gl1:S1[L]?=some (.lst (es.map Ev.u)):=by rw[h1];exact ak gl
 have gb1:S1[S.length]?=some (.lst ((es.filter fM).map Ev.u)):=by rw[h1,ga0];rfl
 obtain⟨G2,e2⟩:=qw (p:=kA) (ρ:=rh n w x L V r6 r7 r8 r9 (some (.ref S.length)) r11 r12 r13) gl1 (by omega) (v4 _ _ _) Lh
 obtain⟨S2,h2⟩:∃S2,S2=S1++(O.lst ((es.filter kA).map Ev.u)::G2):=⟨_,rfl⟩
 rw[<-h1]at e1
 rw[<-h2]at e2
 have c2:=sO (S:=S2) (l:=S.length) (m:=S1.length) (by rw[h2];exact ak gb1) (by rw[h2,ga0];rfl) (by rw[List.length_map,List.length_map];omega)
 rw[<-List.map_append]at c2
 obtain⟨S3,h3⟩:∃S3,S3=S2++[O.lst ((es.filter fM++es.filter kA).map Ev.u)]:=⟨_,rfl⟩
 rw[<-h3]at c2
 have gl3:S3[L]?=some (.lst (es.map Ev.u)):=by rw[h3,h2];exact ak (ak gl1)
 have gb3:S3[S2.length]?=some (.lst ((es.filter fM++es.filter kA).map Ev.u)):=by rw[h3,ga0];rfl
 obtain⟨G4,e4⟩:=qw (p:=gP) (ρ:=rh n w x L V r6 r7 r8 r9 (some (.ref S2.length)) r11 r12 r13) gl3 (by omega) (v4 _ _ _) Li
 obtain⟨S4,h4⟩:∃S4,S4=S3++(O.lst ((es.filter gP).map Ev.u)::G4):=⟨_,rfl⟩
 rw[<-h4]at e4
 have c4:=sO (S:=S4) (l:=S2.length) (m:=S3.length) (by rw[h4];exact ak gb3) (by rw[h4,ga0];rfl) (by rw[List.length_map,List.length_map,List.length_append];omega)
 rw[<-List.map_append]at c4
 obtain⟨S5,h5⟩:∃S5,S5=S4++[O.lst ((je es).map Ev.u)]:=⟨_,rfl⟩
 have c4':fN (.ref S2.length) (.ref S3.length) S4=some (.ref S4.length,S5):=by rw[h5];exact c4
 have up5:∀{j:Nat} {o:O},S[j]?=some o->S5[j]?=some o:=fun h=>by rw[h5,h4,h3,h2,h1];exact ak (ak (ak (ak (ak h))))
 obtain⟨F,hF⟩:∃F,F=S4.length:=⟨_,rfl⟩
 have gf5:S5[F]?=some (.lst ((je es).map Ev.u)):=by rw[h5,hF,ga0];rfl
 rw[<-hF]at c4'
 obtain⟨G6,fa,us,e6,g6,f6⟩:=vx (c:=c) (S:=S5) hns (up5 gl) lg (by omega) (by omega)
 obtain⟨S6,h6⟩:∃S6,S6=S5++G6:=⟨_,rfl⟩
 rw[<-h6]at e6 g6 f6
 have up6:∀{j:Nat} {o:O},S5[j]?=some o->S6[j]?=some o:=fun h=>by rw[h6];exact ak h
 obtain⟨Z,hZ⟩:∃Z,Z=S6++[O.lst [.ref V,.ref F]]:=⟨_,rfl⟩
 have upZ:∀{j:Nat} {o:O},S6[j]?=some o->Z[j]?=some o:=fun h=>by rw[hZ];exact ak h
 have gz:Z[S6.length]?=some (.lst [.ref V,.ref F]):=by rw[hZ,ga0];rfl
 obtain⟨G7,e7⟩:=zL (c:=c) (cA:=cA) (x:=x) (L:=L) (V:=V) (F:=F) (o:=V) (S:=Z) (fo:=cZ) (r6:=r6) (r7:=r7) (r8:=r8) (r12:=r12) (r13:=r13) hns h lg ln l24 (upZ (up6 (up5 gv))) (upZ g6) (by rw[hZ];exact f6.app _)
 obtain⟨G8,e8⟩:=zL (c:=c) (cA:=cA) (x:=x) (L:=L) (V:=V) (F:=F) (o:=F) (S:=Z++G7) (fo:=cZ) (r6:=r6) (r7:=r7) (r8:=r8) (r12:=r12) (r13:=r13) hns hw lg (lF es) l24 (ak (upZ (up6 gf5))) (ak (upZ g6)) (by rw[hZ];exact(f6.app _).app _)
 obtain⟨S8,h8⟩:∃S8,S8=Z++G7++G8:=⟨_,rfl⟩
 have up8:∀{j:Nat} {o:O},S5[j]?=some o->S8[j]?=some o:=fun h=>by rw[h8];exact ak (ak (upZ (up6 h)))
 obtain⟨G9,k9,e9,g9⟩:=qP (c:=c) (S:=S8) hns (up8 (up5 gl)) lg (by omega) (by omega)
 obtain⟨S9,h9⟩:∃S9,S9=S8++G9:=⟨_,rfl⟩
 obtain⟨tm,htm⟩:∃tm,tm=S8.length+k9:=⟨_,rfl⟩
 have gt9:S9[tm]?=some (.lst ((fQ (ki (aU [] es) (ax (aU [] es)))).map pP)):=by rw[h9,htm,ga];exact g9
 rw[<-h9,<-htm]at e9
 have up9:∀{j:Nat} {o:O},S5[j]?=some o->S9[j]?=some o:=fun h=>by rw[h9];exact ak (up8 h)
 obtain⟨ρ,hρ⟩:∃ρ:Rho,ρ=rh n w x L V r6 r7 r8 (some (.ref F)) (some (.ref F)) (some (.ref fa)) (some (.ref tm)) r13:=⟨_,rfl⟩
 obtain⟨Ga,ea⟩:=A1 (c:=c) (S:=S9) (ρ:=ρ) (v:=V) (l:=tm) hns h lf (h.logOk lg (Nat.le_of_eq ln.symm)) (by omega) (by omega) (by rw[hρ];rfl) (by rw[hρ];rfl) (up9 (up5 gv)) gt9
 obtain⟨Gb,eb⟩:=FR (c:=c) (S:=S9++Ga) (ρ:=ρ) (v:=F) hns lf lgf (by omega) (by rw[lF];omega) (by rw[hρ];rfl) (ak (up9 gf5))
 obtain⟨S10,h10⟩:∃S10,S10=S9++Ga++Gb:=⟨_,rfl⟩
 rw[<-h10]at eb
 have up10:∀{j:Nat} {o:O},S5[j]?=some o->S10[j]?=some o:=fun h=>by rw[h10];exact ak (ak (up9 h))
 obtain⟨Gc,kc,ec,gc⟩:=DJ (c:=c) (S:=S10) hns (up10 (up5 gl)) lg (by omega) (by omega)
 obtain⟨S11,h11⟩:∃S11,S11=S10++Gc:=⟨_,rfl⟩
 have gA:S11[S10.length+kc]?=some (.lst ((bS (ax (aU [] es))).map U.int)):=by rw[h11,ga];exact gc
 have lA:(bS (ax (aU [] es))).length<=4:=by rw[(cu _).length_eq];unfold ax;rw[List.length_map];exact lg.cnt
 obtain⟨rr,us0,Gd,ed,gd,hd⟩:=yD gA lA
 obtain⟨S12,h12⟩:∃S12,S12=S11++Gd:=⟨_,rfl⟩
 rw[<-h11]at ec
 rw[<-h12]at ed gd hd
 have up12:∀{j:Nat} {o:O},S5[j]?=some o->S12[j]?=some o:=fun h=>by rw[h12,h11];exact ak (ak (up10 h))
 obtain⟨ρ',S',el⟩:=uW (c:=c) (cA:=cA) (fo:=cZ) (xs:=xs) (L:=L) (V:=V) (F:=F) (r6:=r6) (r7:=r7) (r8:=r8) (r9:=some (.ref F)) (r11:=some (.ref fa)) (r12:=some (.ref tm)) hns hna h lg ln l24 hn hx lA (fun a ha=>(cu _).mem_iff.mp ha) us0 S12 r13 (up12 (up5 gl)) (up12 (up5 gv)) (up12 gf5) gd hd
 rw[<-hxu,<-hρ]at el
 refine⟨ρ',S',?_⟩
 rw[<-hxu]
 refine(oE (ρ':=rh n w x L V r6 r7 r8 r9 (some (.ref S.length)) r11 r12 r13) (S':=S1) (by
  rw[xh,e1,Option.bind_some];rfl)).trans ?_
 refine(oE (ρ':=rh n w x L V r6 r7 r8 r9 (some (.ref S2.length)) r11 r12 r13) (S':=S3) (by
  rw[xh,rg,v10,Option.bind_some,jk,e2,Option.bind_some,jj,c2,Option.bind_some];rfl)).trans ?_
 refine(oE (ρ':=rh n w x L V r6 r7 r8 r9 (some (.ref F)) r11 r12 r13) (S':=S5) (by
  rw[xh,rg,v10,Option.bind_some,jk,e4,Option.bind_some,jj,c4',Option.bind_some];rfl)).trans ?_
 refine(oE (ρ':=rh n w x L V r6 r7 r8 r9 (some (.ref F)) (some (.ref fa)) r12 r13) (S':=S6) (by
  rwa[rh,e6])).trans ?_
 refine(oE (ρ':=rh n w x L V r6 r7 r8 (some (.ref F)) (some (.ref F)) (some (.ref fa)) r12 r13) (S':=S8) (by
  have ei:iV (ab (ah 5) (ab (ah 10) aC)) (rh n w x L V r6 r7 r8 r9 (some (.ref F)) (some (.ref fa)) r12 r13) S6=some (.ref S6.length,Z):=by rw[hZ];rfl
  unfold kC iTp
  rw[ei,Option.bind_some]
  simp only[gz,Option.bind_some]
  refine(eC gz rfl e7).trans ((eC (ak gz) rfl e8).trans ?_)
  rw[h8]
  exact cX (ak (ak gz)))).trans ?_
 refine(oE (ρ':=rh n w x L V r6 r7 r8 (some (.ref F)) (some (.ref F)) (some (.ref fa)) (some (.ref tm)) r13) (S':=S9) (by
  rwa[rh,e9])).trans ?_
 rw[<-hρ]
 refine(oE (ρ':=ρ) (S':=S10) (by
  rw[AI,KA,ea,Option.bind_some,DT,eb,Option.bind_some,xl]
  rfl)).trans ?_
 refine(oE (ρ':=ρ') (S':=S') (by
  have ei:cCB cZ (ab (cCB (sX c) (ab (ah 4) aC)) aC) ρ S10=some (.ref rr,S12):=by
   have v:ah 4 ρ S10=some (.ref L,S10):=by rw[hρ];rfl
   rw[Gv,mj,Gv,mj,v,Option.bind_some,jn,rj,Option.bind_some,jm,Option.bind_some,vP,ec,Option.bind_some,jn,rj,Option.bind_some,jm,Option.bind_some,vP,ed]
  unfold kC iTp
  rw[ei,Option.bind_some]
  simp only[gd,Option.bind_some]
  exact el)).trans ?_
 rfl
theorem JK(ns:List Int){T:Sto}{x:U}{jl jw:Nat}{a c1:Int}(ha:0<=a)(hc:0<=c1)(hj:jl≠jw)(gl:T[jl]?=some (.lst (es.map Ev.u)))(gw:T[jw]?=some (.lst (es.map Ev.u)))(l24:es.length<=24) :
  ∃fs T' a' c' q6 q7 q8 q9,kC (dQ (ab (cOp lW (cCB d8 (ab (ah 1) (ab (cC (.int 20)) aC))) (cCB FW (ab (cOp fGt (cCB kB (ab (ah 4) aC)) (cC (.int 1))) aC))) aC)) (gNm 6) (fL c cA kE cZ) (rh n w x (jl+2) (jw+2) r6 r7 r8 r9 r10 r11 r12 r13) (scr ns::pen a c1::T)=some (.nx,rh n w x (jl+2) (jw+2) q6 q7 q8 q9 r10 r11 r12 r13,scr ns::pen a' c'::T')/\Wv n w es fs/\fs.length=es.length/\T'[jl]?=some (.lst (es.map Ev.u))/\T'[jw]?=some (.lst (fs.map Ev.u)):=by
 obtain⟨i,a1,d1,e1,i0,i1,ha1,hd1⟩:=dM ns T ha hc (m:=20) (by omega) (OQ.l9 (by omega) (by omega))
 obtain⟨bI,hb⟩:∃bI:Int,bI=if decide (((es.map Ev.u).length:Int)>1)then 1 else 0:=⟨_,rfl⟩
 have b01:bI=0\/bI=1:=by rw[hb];split<;>simp
 have ea:ab (cOp lW (cCB d8 (ab (ah 1) (ab (cC (.int 20)) aC))) (cCB FW (ab (cOp fGt (cCB kB (ab (ah 4) aC)) (cC (.int 1))) aC))) aC (rh n w x (jl+2) (jw+2) r6 r7 r8 r9 r10 r11 r12 r13) (scr ns::pen a c1::T)=some ([.int (i*bI)],scr ns::pen a1 d1::T):=by
  have g1:(scr ns::pen a1 d1::T)[jl+2]?=some (.lst (es.map Ev.u)):=gl
  obtain⟨us,hus⟩:∃us,us=es.map Ev.u:=⟨_,rfl⟩
  rw[<-hus]at g1 hb
  have v:cCB d8 (ab (ah 1) (ab (cC (.int 20)) aC)) (rh n w x (jl+2) (jw+2) r6 r7 r8 r9 r10 r11 r12 r13) (scr ns::pen a c1::T)=some (.int i,scr ns::pen a1 d1::T):=by
   generalize scr ns::pen a c1::T=Y0 at e1 ⊢
   generalize scr ns::pen a1 d1::T=Y1 at e1 ⊢
   rwa[rh,e1]
  have f:cCB FW (ab (cOp fGt (cCB kB (ab (ah 4) aC)) (cC (.int 1))) aC) (rh n w x (jl+2) (jw+2) r6 r7 r8 r9 r10 r11 r12 r13) (scr ns::pen a1 d1::T)=some (.int bI,scr ns::pen a1 d1::T):=by
   rw[hb]
   generalize scr ns::pen a1 d1::T=Y1 at g1 ⊢
   have w1:cCB kB (ab (ah 4) aC) (rh n w x (jl+2) (jw+2) r6 r7 r8 r9 r10 r11 r12 r13) Y1=some (.int us.length,Y1):=by rwa[rh,g1]
   rw[Gv,mj,rg,w1,Option.bind_some,jk,x_c,Option.bind_some,jj,Mn,Option.bind_some,jn,rj,Option.bind_some,jm,Option.bind_some,vP,CH]
  rw[mj,rg,v,Option.bind_some,jk,f,Option.bind_some,jj,DV (.inl ⟨by omega,by omega⟩),Option.bind_some,jn,rj,Option.bind_some,jm]
 have ib:0<=i*bI/\i*bI<20:=by rcases b01 with h|h<;>rw[h]<;>omega
 have ei:dQ (ab (cOp lW (cCB d8 (ab (ah 1) (ab (cC (.int 20)) aC))) (cCB FW (ab (cOp fGt (cCB kB (ab (ah 4) aC)) (cC (.int 1))) aC))) aC) (rh n w x (jl+2) (jw+2) r6 r7 r8 r9 r10 r11 r12 r13) (scr ns::pen a c1::T)=some (dv 0 (i*bI).toNat,fun _=>True,scr ns::pen a1 d1::T):=by
  unfold dQ
  rw[ea,Option.bind_some]
  simp only
  rw[if_pos (by omega)]
 have key:∃fs T' a' c' q6 q7 q8 q9,eA (fun _=>True) (gNm 6) (fL c cA kE cZ) (dv 0 (i*bI).toNat) (rh n w x (jl+2) (jw+2) r6 r7 r8 r9 r10 r11 r12 r13) (scr ns::pen a1 d1::T)=some (.nx,rh n w x (jl+2) (jw+2) q6 q7 q8 q9 r10 r11 r12 r13,scr ns::pen a' c'::T')/\Wv n w es fs/\fs.length=es.length/\T'[jl]?=some (.lst (es.map Ev.u))/\T'[jw]?=some (.lst (fs.map Ev.u)):=by
  by_cases l2:2<=es.length
  ·obtain⟨fs,T',a',c',q6,q7,q8,q9,h1,h2,h3,h4,h5,_⟩:=rD (c:=c) (cA:=cA) (x:=x) (r10:=r10) (r11:=r11) (r12:=r12) (r13:=r13) (fo:=cZ) ns hj l2 (by omega) (dv 0 (i*bI).toNat) T es a1 d1 r6 r7 r8 r9 ha1 hd1 gl gw (.refl (n:=n) (w:=w)) rfl
   exact⟨fs,T',a',c',q6,q7,q8,q9,h1,h2,h3,h4,h5⟩
  ·have b0:bI=0:=by rw[hb,decide_eq_false (by rw[List.length_map];omega)];rfl
   rw[b0,Int.mul_zero]
   exact⟨es,T,a1,d1,r6,r7,r8,r9,cX trivial,.refl,rfl,gl,gw⟩
 obtain⟨fs,T',a',c',q6,q7,q8,q9,h1,h2⟩:=key
 refine⟨fs,T',a',c',q6,q7,q8,q9,?_,h2⟩
 unfold kC
 rw[ei,Option.bind_some]
 exact h1
theorem Jl(hns:c.ns.length=5)(hna:cA.ns.length=3)(ns:List Int)(a c1:Int)(ha:0<=a)(hc:0<=c1):∃ρ' S',(fL c cA z7 cZ) [none,some (.ref 1),none,none,none,none,none,none,none,none,none,none,none,none] [.lst (ns.map U.int),.lst [.ref 0,.int a,.int c1]]=some (.rt (.bl true),ρ',S'):=by
 obtain⟨n,w,a1,d1,G,e1,n0,n1,w0,w1,ha1,hd1⟩:=AV ns [] ha hc
 rw[List.nil_append]at e1
 obtain⟨x,a2,d2,G2,e2,hx,bx,ha2,hd2⟩:=A3 ns G ha1 hd1 n0 n1 w0 w1
 obtain⟨T2,hT2⟩:∃T2,T2=G++G2:=⟨_,rfl⟩
 rw[<-hT2]at e2
 obtain⟨es,a3,d3,G3,k3,e3,g3,lg,l24,ha3,hd3⟩:=Jh ns T2 (most:=4) (size:=24) ha2 hd2 n0 n1 w0 w1 hx bx (by omega) (by omega) (by omega) (by omega)
 have l24:es.length<=24:=l24
 have lg:ji n w 4 es:=lg
 obtain⟨T3,hT3⟩:∃T3,T3=T2++G3:=⟨_,rfl⟩
 obtain⟨jl,hjl⟩:∃jl,jl=T2.length+k3:=⟨_,rfl⟩
 have gl3:T3[jl]?=some (.lst (es.map Ev.u)):=by rw[hT3,hjl,ga];exact g3
 rw[<-hT3,<-hjl]at e3
 have jlt:jl<T3.length:=(List.getElem?_eq_some_iff.mp gl3).1
 obtain⟨fs,T',a',c',q6,q7,q8,q9,e5,hw,ln,gl,gv⟩:=JK (c:=c) (cA:=cA) (n:=n) (w:=w) (x:=.tup (x.map U.int)) (r6:=none) (r7:=none) (r8:=none) (r9:=none) (r10:=none) (r11:=none) (r12:=none) (r13:=none) (T:=T3++[.lst (es.map Ev.u)]) (jl:=jl) (jw:=T3.length) ns ha3 hd3 (by omega) (ak gl3) (by rw[ga0];rfl) l24
 obtain⟨ρ',S',e6⟩:=Et (c:=c) (cA:=cA) (xs:=x) (L:=jl+2) (V:=T3.length+2) (S:=scr ns::pen a' c'::T') (r6:=q6) (r7:=q7) (r8:=q8) (r9:=q9) (r10:=none) (r11:=none) (r12:=none) (r13:=none) hns hna hw lg ln l24 (by omega) hx gl gv
 obtain⟨X3,hX3⟩:∃X3,X3=x.map U.int:=⟨_,rfl⟩
 rw[<-hX3]at e2 e3 e5 e6
 refine⟨ρ',S',?_⟩
 show fL c cA z7 cZ _ [scr ns,pen a c1]=_
 unfold fL z7
 refine(oE (ρ':=[none,some (.ref 1),some (.tup [.int n,.int w]),none,none,none,none,none,none,none,none,none,none,none]) (S':=scr ns::pen a1 d1::G) (by
  generalize scr ns::pen a1 d1::G=Y1 at e1 ⊢
  generalize scr ns::pen a c1::[]=Y0 at e1 ⊢
  rwa[e1])).trans ?_
 refine(oE (ρ':=[none,some (.ref 1),some (.tup [.int n,.int w]),some (.tup X3),none,none,none,none,none,none,none,none,none,none]) (S':=scr ns::pen a2 d2::T2) (by
  generalize scr ns::pen a1 d1::G=Y1 at e2 ⊢
  generalize scr ns::pen a2 d2::T2=Y2 at e2 ⊢
  rwa[e2])).trans ?_
 refine(oE (ρ':=[none,some (.ref 1),some (.tup [.int n,.int w]),some (.tup X3),some (.ref (jl+1+1)),none,none,none,none,none,none,none,none,none]) (S':=scr ns::pen a3 d3::T3) (by
  generalize scr ns::pen a2 d2::T2=Y1 at e3 ⊢
  generalize scr ns::pen a3 d3::T3=Y2 at e3 ⊢
  rwa[e3])).trans ?_
 refine(oE (ρ':=rh n w (.tup X3) (jl+2) (T3.length+2) none none none none none none none none) (S':=scr ns::pen a3 d3::(T3++[.lst (es.map Ev.u)])) (by
  have g0:(scr ns::pen a3 d3::T3)[jl+1+1]?=some (.lst (es.map Ev.u)):=gl3
  rw[xh]
  show(ud [.ref (jl+1+1)] (scr ns::pen a3 d3::T3)).bind _=_
  rw[xk,g0]
  rfl)).trans ?_
 exact(oE e5).trans e6
end
section
variable{P:Program}{w:World}{K:PySem.W.Frag}{mg:Str->Option Value}{base:Heap}
theorem nr:aR ["script"] ["script"] (av fc):=⟨rfl,rfl,rfl,by decide +kernel,rfl,by decide +kernel,by decide +kernel⟩
theorem FL{k:Nat}(B:Blt mg)(d:Def K mg "_law_pen" fc ["script"]):Has P w K mg base "_law_pen" (k+1) ["script"] (C5 K):=by
 refine d.has nr (fun vs H Q E h=>?_) (fun f cdv A outer s H vs Q E hr h=>?_)
 ·obtain⟨a,ns,rfl,_⟩:=h;rfl
 obtain⟨a,ns,rfl,hS,q⟩:=h
 have nd:=nr.nd
 refine⟨_,(uw (xo (xx (fq (oU mD rfl B.list OG.lL (fq (rq xZ (wpv 0) uz (uy ar)) kn)) (fq ar (fq ar kn)))))),?_⟩
 refine⟨_,rfl,_,rfl,a,_,rfl,hS,fun p hp=>⟨p,_,rfl,.inl (SqL.of aJ),fun l hl=>⟨(by show 3<=sizeLine;decide),fun r hr'=>?_⟩⟩⟩
 obtain⟨ms,em⟩:∃ms:List Int,zW (ns.map V.int) none (some 63)=ms.map V.int:=⟨_,Co _ _ _⟩
 rw[em]at hl hr' ⊢
 refine q r l _ (((dX hp _).trans (dX hl _)).trans (dX hr' _)) ⟨ms,0,0,aJ,?_,cV aJ hr',by decide,by decide⟩ ?_
 ·rw[bu (cV aJ hr')];exact aJ
 ·exact(((dX hp _).trans (dX hl _))).free hr'
end
theorem J0{l:PySem.W.OpenLaw}{w:World}{K:PySem.W.Frag}{h:Heap}{mg:Str->Option Value}{fa:Addr}(X:K.In h)(G:h.Ns mainGlobals mg)(hfa:mg "law"=some (.ref fa))
  {f1:Addr} {od1 an1:Option Addr} {sl1:Array (Option Value)} {oc1 kV1 dc1 pm1 cd1 ct1:Value}
  {f2:Addr} {od2 an2:Option Addr} {sl2:Array (Option Value)} {oc2 kV2 dc2 pm2 cd2 ct2:Value}
  {f3:Addr} {od3 an3:Option Addr} {sl3:Array (Option Value)} {oc3 kV3 dc3 pm3 cd3 ct3:Value}
  {f4:Addr} {od4 an4:Option Addr} {sl4:Array (Option Value)} {oc4 kV4 dc4 pm4 cd4 ct4:Value}
  {f5:Addr} {od5 an5:Option Addr} {sl5:Array (Option Value)} {oc5 kV5 dc5 pm5 cd5 ct5:Value}
  {f6:Addr} {od6 an6:Option Addr} {sl6:Array (Option Value)} {oc6 kV6 dc6 pm6 cd6 ct6:Value}
  {f7:Addr} {od7 an7:Option Addr} {sl7:Array (Option Value)} {oc7 kV7 dc7 pm7 cd7 ct7:Value}
  {f8:Addr} {od8 an8:Option Addr} {sl8:Array (Option Value)} {oc8 kV8 dc8 pm8 cd8 ct8:Value}
  {f9:Addr} {od9 an9:Option Addr} {sl9:Array (Option Value)} {oc9 kV9 dc9 pm9 cd9 ct9:Value}
  {f10:Addr} {od10 an10:Option Addr} {sl10:Array (Option Value)} {oc10 kV10 dc10 pm10 cd10 ct10:Value}
  {f11:Addr} {od11 an11:Option Addr} {sl11:Array (Option Value)} {oc11 kV11 dc11 pm11 cd11 ct11:Value}
  {f12:Addr} {od12 an12:Option Addr} {sl12:Array (Option Value)} {oc12 kV12 dc12 pm12 cd12 ct12:Value}
  {f13:Addr} {od13 an13:Option Addr} {sl13:Array (Option Value)} {oc13 kV13 dc13 pm13 cd13 ct13:Value}
  {f14:Addr} {od14 an14:Option Addr} {sl14:Array (Option Value)} {oc14 kV14 dc14 pm14 cd14 ct14:Value}
  {f15:Addr} {od15 an15:Option Addr} {sl15:Array (Option Value)} {oc15 kV15 dc15 pm15 cd15 ct15:Value}
  {f16:Addr} {od16 an16:Option Addr} {sl16:Array (Option Value)} {oc16 kV16 dc16 pm16 cd16 ct16:Value}
  {f17:Addr} {od17 an17:Option Addr} {sl17:Array (Option Value)} {oc17 kV17 dc17 pm17 cd17 ct17:Value}
  {f18:Addr} {od18 an18:Option Addr} {sl18:Array (Option Value)} {oc18 kV18 dc18 pm18 cd18 ct18:Value}
  {f19:Addr} {od19 an19:Option Addr} {sl19:Array (Option Value)} {oc19 kV19 dc19 pm19 cd19 ct19:Value}
  {f20:Addr} {od20 an20:Option Addr} {sl20:Array (Option Value)} {oc20 kV20 dc20 pm20 cd20 ct20:Value}
  {f21:Addr} {od21 an21:Option Addr} {sl21:Array (Option Value)} {oc21 kV21 dc21 pm21 cd21 ct21:Value}
  {f22:Addr} {od22 an22:Option Addr} {sl22:Array (Option Value)} {oc22 kV22 dc22 pm22 cd22 ct22:Value}
  {f23:Addr} {od23 an23:Option Addr} {sl23:Array (Option Value)} {oc23 kV23 dc23 pm23 cd23 ct23:Value}
  {f24:Addr} {od24 an24:Option Addr} {sl24:Array (Option Value)} {oc24 kV24 dc24 pm24 cd24 ct24:Value}
  {f25:Addr} {od25 an25:Option Addr} {sl25:Array (Option Value)} {oc25 kV25 dc25 pm25 cd25 ct25:Value}
  {f26:Addr} {od26 an26:Option Addr} {sl26:Array (Option Value)} {oc26 kV26 dc26 pm26 cd26 ct26:Value}
  {CCourse:Addr}
  {f27:Addr} {od27 an27:Option Addr} {sl27:Array (Option Value)} {oc27 kV27 dc27 pm27 cd27 ct27:Value}
  {f28:Addr} {od28 an28:Option Addr} {sl28:Array (Option Value)} {oc28 kV28 dc28 pm28 cd28 ct28:Value}
  {f29:Addr} {od29 an29:Option Addr} {sl29:Array (Option Value)} {oc29 kV29 dc29 pm29 cd29 ct29:Value}
  {f30:Addr} {od30 an30:Option Addr} {sl30:Array (Option Value)} {oc30 kV30 dc30 pm30 cd30 ct30:Value}
  {f31:Addr} {od31 an31:Option Addr} {sl31:Array (Option Value)} {oc31 kV31 dc31 pm31 cd31 ct31:Value}
  {CAsking:Addr}
  {f32:Addr} {od32 an32:Option Addr} {sl32:Array (Option Value)} {oc32 kV32 dc32 pm32 cd32 ct32:Value}
  {f33:Addr} {od33 an33:Option Addr} {sl33:Array (Option Value)} {oc33 kV33 dc33 pm33 cd33 ct33:Value}
  {f34:Addr} {od34 an34:Option Addr} {sl34:Array (Option Value)} {oc34 kV34 dc34 pm34 cd34 ct34:Value}
  {tk35:Tok}
  {tk36:Tok}
  (a1:PySem.W.nsIn K mainGlobals "_law_take"=some (some (.ref f1))) (l1:K.lookup f1=some ⟨oc1,od1,.func (PySem.W.fnOf "_law_take" "_law_take" (aT d5) (aL d5) (av d5) .none kV1 dc1 pm1 an1 cd1 ct1),sl1⟩) (c1:PySem.W.codeIn K cd1 "_law_take"=true) (k1:PySem.W.keepIn K (.ref f1)=true)
  (a2:PySem.W.nsIn K mainGlobals "_law_world"=some (some (.ref f2))) (l2:K.lookup f2=some ⟨oc2,od2,.func (PySem.W.fnOf "_law_world" "_law_world" (aT dj) (aL dj) (av dj) .none kV2 dc2 pm2 an2 cd2 ct2),sl2⟩) (c2:PySem.W.codeIn K cd2 "_law_world"=true) (k2:PySem.W.keepIn K (.ref f2)=true)
  (a3:PySem.W.nsIn K mainGlobals "_law_state"=some (some (.ref f3))) (l3:K.lookup f3=some ⟨oc3,od3,.func (PySem.W.fnOf "_law_state" "_law_state" (aT dk) (aL dk) (av dk) .none kV3 dc3 pm3 an3 cd3 ct3),sl3⟩) (c3:PySem.W.codeIn K cd3 "_law_state"=true) (k3:PySem.W.keepIn K (.ref f3)=true)
  (a4:PySem.W.nsIn K mainGlobals "_law_names"=some (some (.ref f4))) (l4:K.lookup f4=some ⟨oc4,od4,.func (PySem.W.fnOf "_law_names" "_law_names" (aT dq) (aL dq) (av dq) .none kV4 dc4 pm4 an4 cd4 ct4),sl4⟩) (c4:PySem.W.codeIn K cd4 "_law_names"=true) (k4:PySem.W.keepIn K (.ref f4)=true)
  (a5:PySem.W.nsIn K mainGlobals "_law_put_in"=some (some (.ref f5))) (l5:K.lookup f5=some ⟨oc5,od5,.func (PySem.W.fnOf "_law_put_in" "_law_put_in" (aT cK) (aL cK) (av cK) .none kV5 dc5 pm5 an5 cd5 ct5),sl5⟩) (c5:PySem.W.codeIn K cd5 "_law_put_in"=true) (k5:PySem.W.keepIn K (.ref f5)=true)
  (a6:PySem.W.nsIn K mainGlobals "_law_event"=some (some (.ref f6))) (l6:K.lookup f6=some ⟨oc6,od6,.func (PySem.W.fnOf "_law_event" "_law_event" (aT du) (aL du) (av du) .none kV6 dc6 pm6 an6 cd6 ct6),sl6⟩) (c6:PySem.W.codeIn K cd6 "_law_event"=true) (k6:PySem.W.keepIn K (.ref f6)=true)
  (a7:PySem.W.nsIn K mainGlobals "_law_log"=some (some (.ref f7))) (l7:K.lookup f7=some ⟨oc7,od7,.func (PySem.W.fnOf "_law_log" "_law_log" (aT ff) (aL ff) (av ff) .none kV7 dc7 pm7 an7 cd7 ct7),sl7⟩) (c7:PySem.W.codeIn K cd7 "_law_log"=true) (k7:PySem.W.keepIn K (.ref f7)=true)
  (a8:PySem.W.nsIn K mainGlobals "is_whole"=some (some (.ref f8))) (l8:K.lookup f8=some ⟨oc8,od8,.func (PySem.W.fnOf "is_whole" "is_whole" (aT eS) (aL eS) (av eS) .none kV8 dc8 pm8 an8 cd8 ct8),sl8⟩) (c8:PySem.W.codeIn K cd8 "is_whole"=true) (k8:PySem.W.keepIn K (.ref f8)=true)
  (a9:PySem.W.nsIn K mainGlobals "is_within"=some (some (.ref f9))) (l9:K.lookup f9=some ⟨oc9,od9,.func (PySem.W.fnOf "is_within" "is_within" (aT dZ) (aL dZ) (av dZ) .none kV9 dc9 pm9 an9 cd9 ct9),sl9⟩) (c9:PySem.W.codeIn K cd9 "is_within"=true) (k9:PySem.W.keepIn K (.ref f9)=true)
  (a10:PySem.W.nsIn K mainGlobals "is_event"=some (some (.ref f10))) (l10:K.lookup f10=some ⟨oc10,od10,.func (PySem.W.fnOf "is_event" "is_event" (aT eW) (aL eW) (av eW) .none kV10 dc10 pm10 an10 cd10 ct10),sl10⟩) (c10:PySem.W.codeIn K cd10 "is_event"=true) (k10:PySem.W.keepIn K (.ref f10)=true)
  (a11:PySem.W.nsIn K mainGlobals "is_log"=some (some (.ref f11))) (l11:K.lookup f11=some ⟨oc11,od11,.func (PySem.W.fnOf "is_log" "is_log" (aT iP) (aL iP) (av iP) .none kV11 dc11 pm11 an11 cd11 ct11),sl11⟩) (c11:PySem.W.codeIn K cd11 "is_log"=true) (k11:PySem.W.keepIn K (.ref f11)=true)
  (a12:PySem.W.nsIn K mainGlobals "course_of"=some (some (.ref f12))) (l12:K.lookup f12=some ⟨oc12,od12,.func (PySem.W.fnOf "course_of" "course_of" (aT d0) (aL d0) (av d0) .none kV12 dc12 pm12 an12 cd12 ct12),sl12⟩) (c12:PySem.W.codeIn K cd12 "course_of"=true) (k12:PySem.W.keepIn K (.ref f12)=true)
  (a13:PySem.W.nsIn K mainGlobals "attempts"=some (some (.ref f13))) (l13:K.lookup f13=some ⟨oc13,od13,.func (PySem.W.fnOf "attempts" "attempts" (aT eZ) (aL eZ) (av eZ) .none kV13 dc13 pm13 an13 cd13 ct13),sl13⟩) (c13:PySem.W.codeIn K cd13 "attempts"=true) (k13:PySem.W.keepIn K (.ref f13)=true)
  (a14:PySem.W.nsIn K mainGlobals "end_of"=some (some (.ref f14))) (l14:K.lookup f14=some ⟨oc14,od14,.func (PySem.W.fnOf "end_of" "end_of" (aT iQ) (aL iQ) (av iQ) .none kV14 dc14 pm14 an14 cd14 ct14),sl14⟩) (c14:PySem.W.codeIn K cd14 "end_of"=true) (k14:PySem.W.keepIn K (.ref f14)=true)
  (a15:PySem.W.nsIn K mainGlobals "outer_looks"=some (some (.ref f15))) (l15:K.lookup f15=some ⟨oc15,od15,.func (PySem.W.fnOf "outer_looks" "outer_looks" (aT cI) (aL cI) (av cI) .none kV15 dc15 pm15 an15 cd15 ct15),sl15⟩) (c15:PySem.W.codeIn K cd15 "outer_looks"=true) (k15:PySem.W.keepIn K (.ref f15)=true)
  (a16:PySem.W.nsIn K mainGlobals "puts_of"=some (some (.ref f16))) (l16:K.lookup f16=some ⟨oc16,od16,.func (PySem.W.fnOf "puts_of" "puts_of" (aT gu) (aL gu) (av gu) .none kV16 dc16 pm16 an16 cd16 ct16),sl16⟩) (c16:PySem.W.codeIn K cd16 "puts_of"=true) (k16:PySem.W.keepIn K (.ref f16)=true)
  (a17:PySem.W.nsIn K mainGlobals "ahead"=some (some (.ref f17))) (l17:K.lookup f17=some ⟨oc17,od17,.func (PySem.W.fnOf "ahead" "ahead" (aT kr) (aL kr) (av kr) .none kV17 dc17 pm17 an17 cd17 ct17),sl17⟩) (c17:PySem.W.codeIn K cd17 "ahead"=true) (k17:PySem.W.keepIn K (.ref f17)=true)
  (a18:PySem.W.nsIn K mainGlobals "is_asked"=some (some (.ref f18))) (l18:K.lookup f18=some ⟨oc18,od18,.func (PySem.W.fnOf "is_asked" "is_asked" (aT eX) (aL eX) (av eX) .none kV18 dc18 pm18 an18 cd18 ct18),sl18⟩) (c18:PySem.W.codeIn K cd18 "is_asked"=true) (k18:PySem.W.keepIn K (.ref f18)=true)
  (a19:PySem.W.nsIn K mainGlobals "asked_in"=some (some (.ref f19))) (l19:K.lookup f19=some ⟨oc19,od19,.func (PySem.W.fnOf "asked_in" "asked_in" (aT fb) (aL fb) (av fb) .none kV19 dc19 pm19 an19 cd19 ct19),sl19⟩) (c19:PySem.W.codeIn K cd19 "asked_in"=true) (k19:PySem.W.keepIn K (.ref f19)=true)
  (a20:PySem.W.nsIn K mainGlobals "fits"=some (some (.ref f20))) (l20:K.lookup f20=some ⟨oc20,od20,.func (PySem.W.fnOf "fits" "fits" (aT nv) (aL nv) (av nv) .none kV20 dc20 pm20 an20 cd20 ct20),sl20⟩) (c20:PySem.W.codeIn K cd20 "fits"=true) (k20:PySem.W.keepIn K (.ref f20)=true)
  (a21:PySem.W.nsIn K mainGlobals "state_with"=some (some (.ref f21))) (l21:K.lookup f21=some ⟨oc21,od21,.func (PySem.W.fnOf "state_with" "state_with" (aT dh) (aL dh) (av dh) .none kV21 dc21 pm21 an21 cd21 ct21),sl21⟩) (c21:PySem.W.codeIn K cd21 "state_with"=true) (k21:PySem.W.keepIn K (.ref f21)=true)
  (a22:PySem.W.nsIn K mainGlobals "is_order"=some (some (.ref f22))) (l22:K.lookup f22=some ⟨oc22,od22,.func (PySem.W.fnOf "is_order" "is_order" (aT eU) (aL eU) (av eU) .none kV22 dc22 pm22 an22 cd22 ct22),sl22⟩) (c22:PySem.W.codeIn K cd22 "is_order"=true) (k22:PySem.W.keepIn K (.ref f22)=true)
  (a23:PySem.W.nsIn K mainGlobals "_law_facts"=some (some (.ref f23))) (l23:K.lookup f23=some ⟨oc23,od23,.func (PySem.W.fnOf "_law_facts" "_law_facts" (aT dr) (aL dr) (av dr) .none kV23 dc23 pm23 an23 cd23 ct23),sl23⟩) (c23:PySem.W.codeIn K cd23 "_law_facts"=true) (k23:PySem.W.keepIn K (.ref f23)=true)
  (a24:PySem.W.nsIn K mainGlobals "_law_orders"=some (some (.ref f24))) (l24:K.lookup f24=some ⟨oc24,od24,.func (PySem.W.fnOf "_law_orders" "_law_orders" (aT cL) (aL cL) (av cL) .none kV24 dc24 pm24 an24 cd24 ct24),sl24⟩) (c24:PySem.W.codeIn K cd24 "_law_orders"=true) (k24:PySem.W.keepIn K (.ref f24)=true)
  (a25:PySem.W.nsIn K mainGlobals "_law_pen"=some (some (.ref f25))) (l25:K.lookup f25=some ⟨oc25,od25,.func (PySem.W.fnOf "_law_pen" "_law_pen" (aT fc) (aL fc) (av fc) .none kV25 dc25 pm25 an25 cd25 ct25),sl25⟩) (c25:PySem.W.codeIn K cd25 "_law_pen"=true) (k25:PySem.W.keepIn K (.ref f25)=true)
  (a26:PySem.W.nsIn K mainGlobals "law"=some (some (.ref f26))) (l26:K.lookup f26=some ⟨oc26,od26,.func (PySem.W.fnOf "law" "law" (aT oG) (aL oG) (av oG) .none kV26 dc26 pm26 an26 cd26 ct26),sl26⟩) (c26:PySem.W.codeIn K cd26 "law"=true) (k26:PySem.W.keepIn K (.ref f26)=true)
  (aCCourse:PySem.W.nsIn K mainGlobals "Course"=some (some (.ref CCourse))) (pgCourse:PySem.W.plainGet K CCourse Str.empty=true) (hdCourse:PySem.W.hasDictIn K CCourse=true) (poCourse:PySem.W.plainOver K CCourse=true) (saCourse:PySem.W.findIn K (.ref CCourse) "__setattr__"=some (some (.builtin "object.__setattr__"))) (mkCourse:PySem.W.makesIn K CCourse=true) (kcCourse:PySem.W.keepIn K (.ref CCourse)=true)
  (nfCourse0:PySem.W.findIn K (.ref CCourse) "ends"=some none)
  (nfCourse1:PySem.W.findIn K (.ref CCourse) "looks"=some none)
  (nfCourse2:PySem.W.findIn K (.ref CCourse) "needs"=some none)
  (nfCourse3:PySem.W.findIn K (.ref CCourse) "puts"=some none)
  (nfCourse4:PySem.W.findIn K (.ref CCourse) "before"=some none)
  (a27:PySem.W.findIn K (.ref CCourse) "__init__"=some (some (.ref f27))) (i27:PySem.W.isFn K (.ref f27)=true) (l27:K.lookup f27=some ⟨oc27,od27,.func (PySem.W.fnOf "__init__" "Course.__init__" (aT dD) (aL dD) (av dD) .none kV27 dc27 pm27 an27 cd27 ct27),sl27⟩) (c27:PySem.W.codeIn K cd27 "Course.__init__"=true) (k27:PySem.W.keepIn K (.ref f27)=true)
  (a28:PySem.W.findIn K (.ref CCourse) "note_look"=some (some (.ref f28))) (i28:PySem.W.isFn K (.ref f28)=true) (l28:K.lookup f28=some ⟨oc28,od28,.func (PySem.W.fnOf "note_look" "Course.note_look" (aT bH) (aL bH) (av bH) .none kV28 dc28 pm28 an28 cd28 ct28),sl28⟩) (c28:PySem.W.codeIn K cd28 "Course.note_look"=true) (k28:PySem.W.keepIn K (.ref f28)=true)
  (a29:PySem.W.findIn K (.ref CCourse) "enter"=some (some (.ref f29))) (i29:PySem.W.isFn K (.ref f29)=true) (l29:K.lookup f29=some ⟨oc29,od29,.func (PySem.W.fnOf "enter" "Course.enter" (aT cU) (aL cU) (av cU) .none kV29 dc29 pm29 an29 cd29 ct29),sl29⟩) (c29:PySem.W.codeIn K cd29 "Course.enter"=true) (k29:PySem.W.keepIn K (.ref f29)=true)
  (a30:PySem.W.findIn K (.ref CCourse) "follow"=some (some (.ref f30))) (i30:PySem.W.isFn K (.ref f30)=true) (l30:K.lookup f30=some ⟨oc30,od30,.func (PySem.W.fnOf "follow" "Course.follow" (aT cw) (aL cw) (av cw) .none kV30 dc30 pm30 an30 cd30 ct30),sl30⟩) (c30:PySem.W.codeIn K cd30 "Course.follow"=true) (k30:PySem.W.keepIn K (.ref f30)=true)
  (a31:PySem.W.findIn K (.ref CCourse) "allows"=some (some (.ref f31))) (i31:PySem.W.isFn K (.ref f31)=true) (l31:K.lookup f31=some ⟨oc31,od31,.func (PySem.W.fnOf "allows" "Course.allows" (aT cy) (aL cy) (av cy) .none kV31 dc31 pm31 an31 cd31 ct31),sl31⟩) (c31:PySem.W.codeIn K cd31 "Course.allows"=true) (k31:PySem.W.keepIn K (.ref f31)=true)
  (aCAsking:PySem.W.nsIn K mainGlobals "Asking"=some (some (.ref CAsking))) (pgAsking:PySem.W.plainGet K CAsking Str.empty=true) (hdAsking:PySem.W.hasDictIn K CAsking=true) (poAsking:PySem.W.plainOver K CAsking=true) (saAsking:PySem.W.findIn K (.ref CAsking) "__setattr__"=some (some (.builtin "object.__setattr__"))) (mkAsking:PySem.W.makesIn K CAsking=true) (kcAsking:PySem.W.keepIn K (.ref CAsking)=true)
  (nfAsking0:PySem.W.findIn K (.ref CAsking) "course"=some none)
  (nfAsking1:PySem.W.findIn K (.ref CAsking) "ones"=some none)
  (nfAsking2:PySem.W.findIn K (.ref CAsking) "needed"=some none)
  (a32:PySem.W.findIn K (.ref CAsking) "__init__"=some (some (.ref f32))) (i32:PySem.W.isFn K (.ref f32)=true) (l32:K.lookup f32=some ⟨oc32,od32,.func (PySem.W.fnOf "__init__" "Asking.__init__" (aT dE) (aL dE) (av dE) .none kV32 dc32 pm32 an32 cd32 ct32),sl32⟩) (c32:PySem.W.codeIn K cd32 "Asking.__init__"=true) (k32:PySem.W.keepIn K (.ref f32)=true)
  (a33:PySem.W.findIn K (.ref CAsking) "may_be_next"=some (some (.ref f33))) (i33:PySem.W.isFn K (.ref f33)=true) (l33:K.lookup f33=some ⟨oc33,od33,.func (PySem.W.fnOf "may_be_next" "Asking.may_be_next" (aT bq) (aL bq) (av bq) .none kV33 dc33 pm33 an33 cd33 ct33),sl33⟩) (c33:PySem.W.codeIn K cd33 "Asking.may_be_next"=true) (k33:PySem.W.keepIn K (.ref f33)=true)
  (a34:PySem.W.findIn K (.ref CAsking) "is_good"=some (some (.ref f34))) (i34:PySem.W.isFn K (.ref f34)=true) (l34:K.lookup f34=some ⟨oc34,od34,.func (PySem.W.fnOf "is_good" "Asking.is_good" (aT bV) (aL bV) (av bV) .none kV34 dc34 pm34 an34 cd34 ct34),sl34⟩) (c34:PySem.W.codeIn K cd34 "Asking.is_good"=true) (k34:PySem.W.keepIn K (.ref f34)=true)
  (g35:PySem.W.nsIn K mainGlobals "LAST_ATTEMPT"=some (some (.int (199) tk35)))
  (g36:PySem.W.nsIn K mainGlobals "MOST_EVENTS"=some (some (.int (2000) tk36)))
  (z37:PySem.W.nsIn K mainGlobals "len"=some none)
  (z38:PySem.W.nsIn K mainGlobals "isinstance"=some none)
  (z39:PySem.W.nsIn K mainGlobals "int"=some none)
  (z40:PySem.W.nsIn K mainGlobals "bool"=some none)
  (z41:PySem.W.nsIn K mainGlobals "str"=some none)
  (z42:PySem.W.nsIn K mainGlobals "tuple"=some none)
  (z43:PySem.W.nsIn K mainGlobals "list"=some none)
  (z44:PySem.W.nsIn K mainGlobals "range"=some none)
  (z45:PySem.W.nsIn K mainGlobals "min"=some none)
  (z46:PySem.W.nsIn K mainGlobals "sum"=some none)
  (z47:PySem.W.nsIn K mainGlobals "all"=some none)
  (z48:PySem.W.nsIn K mainGlobals "zip"=some none)
  (z49:PySem.W.nsIn K mainGlobals "sorted"=some none)
  (z50:PySem.W.nsIn K mainGlobals "dict"=some none)
  (z51:PySem.W.nsIn K mainGlobals "enumerate"=some none)
  (z52:PySem.W.nsIn K mainGlobals "any"=some none)
  (z53:PySem.W.nsIn K mainGlobals "max"=some none)
  (z54:PySem.W.nsIn K mainGlobals "set"=some none) :
  ∃fd:FuncData,(∀(s:Shared) (v:Value),BindsTo s fd ⟨[v],[]⟩ [("script",v)])/\∀base:Heap,K.In base->base.Ns mainGlobals mg->mY l.prog w K mg base CX0 6 fa fd ["script"] (A5 K):=by
 have e:=hfa.symm.trans (PySem.W.mg_of X G a26)
 cases e
 have F__law_take:=bJ (st:=d5) l1 c1 k1
 have D__law_take:Def K mg "_law_take" d5 ["pen","many"]:=⟨_,_,F__law_take,F__law_take.binds (ps:=["pen","many"]) fun _ _ _ _ _ _=>cS fun _=>cS fun _=>jX rfl,PySem.W.mg_of X G a1⟩
 have F__law_world:=bJ (st:=dj) l2 c2 k2
 have D__law_world:Def K mg "_law_world" dj ["pen"]:=⟨_,_,F__law_world,F__law_world.binds (ps:=["pen"]) fun _ _ _ _ _ _=>cS fun _=>jX rfl,PySem.W.mg_of X G a2⟩
 have F__law_state:=bJ (st:=dk) l3 c3 k3
 have D__law_state:Def K mg "_law_state" dk ["pen","world"]:=⟨_,_,F__law_state,F__law_state.binds (ps:=["pen","world"]) fun _ _ _ _ _ _=>cS fun _=>cS fun _=>jX rfl,PySem.W.mg_of X G a3⟩
 have F__law_names:=bJ (st:=dq) l4 c4 k4
 have D__law_names:Def K mg "_law_names" dq ["pen","many"]:=⟨_,_,F__law_names,F__law_names.binds (ps:=["pen","many"]) fun _ _ _ _ _ _=>cS fun _=>cS fun _=>jX rfl,PySem.W.mg_of X G a4⟩
 have F__law_put_in:=bJ (st:=cK) l5 c5 k5
 have D__law_put_in:Def K mg "_law_put_in" cK ["state","puts"]:=⟨_,_,F__law_put_in,F__law_put_in.binds (ps:=["state","puts"]) fun _ _ _ _ _ _=>cS fun _=>cS fun _=>jX rfl,PySem.W.mg_of X G a5⟩
 have F__law_event:=bJ (st:=du) l6 c6 k6
 have D__law_event:Def K mg "_law_event" du ["pen","world","a","seen","puts","now"]:=⟨_,_,F__law_event,F__law_event.binds (ps:=["pen","world","a","seen","puts","now"]) fun _ _ _ _ _ _=>cS fun _=>cS fun _=>cS fun _=>cS fun _=>cS fun _=>cS fun _=>jX rfl,PySem.W.mg_of X G a6⟩
 have F__law_log:=bJ (st:=ff) l7 c7 k7
 have D__law_log:Def K mg "_law_log" ff ["pen","world","state","most","size"]:=⟨_,_,F__law_log,F__law_log.binds (ps:=["pen","world","state","most","size"]) fun _ _ _ _ _ _=>cS fun _=>cS fun _=>cS fun _=>cS fun _=>cS fun _=>jX rfl,PySem.W.mg_of X G a7⟩
 have F_is_whole:=bJ (st:=eS) l8 c8 k8
 have D_is_whole:Def K mg "is_whole" eS ["thing"]:=⟨_,_,F_is_whole,F_is_whole.binds (ps:=["thing"]) fun _ _ _ _ _ _=>cS fun _=>jX rfl,PySem.W.mg_of X G a8⟩
 have F_is_within:=bJ (st:=dZ) l9 c9 k9
 have D_is_within:Def K mg "is_within" dZ ["thing","least","most"]:=⟨_,_,F_is_within,F_is_within.binds (ps:=["thing","least","most"]) fun _ _ _ _ _ _=>cS fun _=>cS fun _=>cS fun _=>jX rfl,PySem.W.mg_of X G a9⟩
 have F_is_event:=bJ (st:=eW) l10 c10 k10
 have D_is_event:Def K mg "is_event" eW ["world","thing"]:=⟨_,_,F_is_event,F_is_event.binds (ps:=["world","thing"]) fun _ _ _ _ _ _=>cS fun _=>cS fun _=>jX rfl,PySem.W.mg_of X G a10⟩
 have F_is_log:=bJ (st:=iP) l11 c11 k11
 have D_is_log:Def K mg "is_log" iP ["world","thing"]:=⟨_,_,F_is_log,F_is_log.binds (ps:=["world","thing"]) fun _ _ _ _ _ _=>cS fun _=>cS fun _=>jX rfl,PySem.W.mg_of X G a11⟩
 have F_course_of:=bJ (st:=d0) l12 c12 k12
 have D_course_of:Def K mg "course_of" d0 ["log"]:=⟨_,_,F_course_of,F_course_of.binds (ps:=["log"]) fun _ _ _ _ _ _=>cS fun _=>jX rfl,PySem.W.mg_of X G a12⟩
 have F_attempts:=bJ (st:=eZ) l13 c13 k13
 have D_attempts:Def K mg "attempts" eZ ["log"]:=⟨_,_,F_attempts,F_attempts.binds (ps:=["log"]) fun _ _ _ _ _ _=>cS fun _=>jX rfl,PySem.W.mg_of X G a13⟩
 have F_end_of:=bJ (st:=iQ) l14 c14 k14
 have D_end_of:Def K mg "end_of" iQ ["log","a"]:=⟨_,_,F_end_of,F_end_of.binds (ps:=["log","a"]) fun _ _ _ _ _ _=>cS fun _=>cS fun _=>jX rfl,PySem.W.mg_of X G a14⟩
 have F_outer_looks:=bJ (st:=cI) l15 c15 k15
 have D_outer_looks:Def K mg "outer_looks" cI ["log","a"]:=⟨_,_,F_outer_looks,F_outer_looks.binds (ps:=["log","a"]) fun _ _ _ _ _ _=>cS fun _=>cS fun _=>jX rfl,PySem.W.mg_of X G a15⟩
 have F_puts_of:=bJ (st:=gu) l16 c16 k16
 have D_puts_of:Def K mg "puts_of" gu ["log","a"]:=⟨_,_,F_puts_of,F_puts_of.binds (ps:=["log","a"]) fun _ _ _ _ _ _=>cS fun _=>cS fun _=>jX rfl,PySem.W.mg_of X G a16⟩
 have F_ahead:=bJ (st:=kr) l17 c17 k17
 have D_ahead:Def K mg "ahead" kr ["log"]:=⟨_,_,F_ahead,F_ahead.binds (ps:=["log"]) fun _ _ _ _ _ _=>cS fun _=>jX rfl,PySem.W.mg_of X G a17⟩
 have F_is_asked:=bJ (st:=eX) l18 c18 k18
 have D_is_asked:Def K mg "is_asked" eX ["course","every","a"]:=⟨_,_,F_is_asked,F_is_asked.binds (ps:=["course","every","a"]) fun _ _ _ _ _ _=>cS fun _=>cS fun _=>cS fun _=>jX rfl,PySem.W.mg_of X G a18⟩
 have F_asked_in:=bJ (st:=fb) l19 c19 k19
 have D_asked_in:Def K mg "asked_in" fb ["course","every"]:=⟨_,_,F_asked_in,F_asked_in.binds (ps:=["course","every"]) fun _ _ _ _ _ _=>cS fun _=>cS fun _=>jX rfl,PySem.W.mg_of X G a19⟩
 have F_fits:=bJ (st:=nv) l20 c20 k20
 have D_fits:Def K mg "fits" nv ["course","a","state"]:=⟨_,_,F_fits,F_fits.binds (ps:=["course","a","state"]) fun _ _ _ _ _ _=>cS fun _=>cS fun _=>cS fun _=>jX rfl,PySem.W.mg_of X G a20⟩
 have F_state_with:=bJ (st:=dh) l21 c21 k21
 have D_state_with:Def K mg "state_with" dh ["course","a","state"]:=⟨_,_,F_state_with,F_state_with.binds (ps:=["course","a","state"]) fun _ _ _ _ _ _=>cS fun _=>cS fun _=>cS fun _=>jX rfl,PySem.W.mg_of X G a21⟩
 have F_is_order:=bJ (st:=eU) l22 c22 k22
 have D_is_order:Def K mg "is_order" eU ["world","state","log","every","order"]:=⟨_,_,F_is_order,F_is_order.binds (ps:=["world","state","log","every","order"]) fun _ _ _ _ _ _=>cS fun _=>cS fun _=>cS fun _=>cS fun _=>cS fun _=>jX rfl,PySem.W.mg_of X G a22⟩
 have F__law_facts:=bJ (st:=dr) l23 c23 k23
 have D__law_facts:Def K mg "_law_facts" dr ["log"]:=⟨_,_,F__law_facts,F__law_facts.binds (ps:=["log"]) fun _ _ _ _ _ _=>cS fun _=>jX rfl,PySem.W.mg_of X G a23⟩
 have F__law_orders:=bJ (st:=cL) l24 c24 k24
 have D__law_orders:Def K mg "_law_orders" cL ["some"]:=⟨_,_,F__law_orders,F__law_orders.binds (ps:=["some"]) fun _ _ _ _ _ _=>cS fun _=>jX rfl,PySem.W.mg_of X G a24⟩
 have F__law_pen:=bJ (st:=fc) l25 c25 k25
 have D__law_pen:Def K mg "_law_pen" fc ["script"]:=⟨_,_,F__law_pen,F__law_pen.binds (ps:=["script"]) fun _ _ _ _ _ _=>cS fun _=>jX rfl,PySem.W.mg_of X G a25⟩
 have F_law:=bJ (st:=oG) l26 c26 k26
 have D_law:Def K mg "law" oG ["script"]:=⟨_,_,F_law,F_law.binds (ps:=["script"]) fun _ _ _ _ _ _=>cS fun _=>jX rfl,PySem.W.mg_of X G a26⟩
 have TCourse:TC K (⟨CCourse,["ends","looks","needs","puts","before"]⟩:Cl) ["ends","looks","needs","puts","before"]:=⟨⟨pgCourse,hdCourse,poCourse,saCourse⟩,rfl,fun f hf=>by
  simp only[List.mem_cons,List.not_mem_nil,or_false]at hf
  rcases hf with rfl|rfl|rfl|rfl|rfl
  ·exact nfCourse0
  ·exact nfCourse1
  ·exact nfCourse2
  ·exact nfCourse3
  ·exact nfCourse4⟩
 have mgC_Course:=PySem.W.mg_of X G aCCourse
 have F_Course_init:=bJ (st:=dD) l27 c27 k27
 have bi_Course_init:=F_Course_init.binds (ps:=["self"]) fun _ _ _ _ _ _=>cS fun _=>jX rfl
 have mk_Course:Mk K (⟨CCourse,["ends","looks","needs","puts","before"]⟩:Cl).C f27:=⟨mkCourse,a27,i27,kcCourse⟩
 have F_Course_note_look:=bJ (st:=bH) l28 c28 k28
 have bi_Course_note_look:=F_Course_note_look.binds (ps:=["self","a","box","number"]) fun _ _ _ _ _ _=>cS fun _=>cS fun _=>cS fun _=>cS fun _=>jX rfl
 have mt_Course_note_look:tj K (⟨CCourse,["ends","looks","needs","puts","before"]⟩:Cl).C "note_look" f28:=⟨a28,i28,k28⟩
 have F_Course_enter:=bJ (st:=cU) l29 c29 k29
 have bi_Course_enter:=F_Course_enter.binds (ps:=["self","a"]) fun _ _ _ _ _ _=>cS fun _=>cS fun _=>jX rfl
 have mt_Course_enter:tj K (⟨CCourse,["ends","looks","needs","puts","before"]⟩:Cl).C "enter" f29:=⟨a29,i29,k29⟩
 have F_Course_follow:=bJ (st:=cw) l30 c30 k30
 have bi_Course_follow:=F_Course_follow.binds (ps:=["self","event"]) fun _ _ _ _ _ _=>cS fun _=>cS fun _=>jX rfl
 have mt_Course_follow:tj K (⟨CCourse,["ends","looks","needs","puts","before"]⟩:Cl).C "follow" f30:=⟨a30,i30,k30⟩
 have F_Course_allows:=bJ (st:=cy) l31 c31 k31
 have bi_Course_allows:=F_Course_allows.binds (ps:=["self","event"]) fun _ _ _ _ _ _=>cS fun _=>cS fun _=>jX rfl
 have mt_Course_allows:tj K (⟨CCourse,["ends","looks","needs","puts","before"]⟩:Cl).C "allows" f31:=⟨a31,i31,k31⟩
 have TAsking:TC K (⟨CAsking,["course","ones","needed"]⟩:Cl) ["course","ones","needed"]:=⟨⟨pgAsking,hdAsking,poAsking,saAsking⟩,rfl,fun f hf=>by
  simp only[List.mem_cons,List.not_mem_nil,or_false]at hf
  rcases hf with rfl|rfl|rfl
  ·exact nfAsking0
  ·exact nfAsking1
  ·exact nfAsking2⟩
 have mgC_Asking:=PySem.W.mg_of X G aCAsking
 have F_Asking_init:=bJ (st:=dE) l32 c32 k32
 have bi_Asking_init:=F_Asking_init.binds (ps:=["self","course","every"]) fun _ _ _ _ _ _=>cS fun _=>cS fun _=>cS fun _=>jX rfl
 have mk_Asking:Mk K (⟨CAsking,["course","ones","needed"]⟩:Cl).C f32:=⟨mkAsking,a32,i32,kcAsking⟩
 have F_Asking_may_be_next:=bJ (st:=bq) l33 c33 k33
 have bi_Asking_may_be_next:=F_Asking_may_be_next.binds (ps:=["self","a","gone","state"]) fun _ _ _ _ _ _=>cS fun _=>cS fun _=>cS fun _=>cS fun _=>jX rfl
 have mt_Asking_may_be_next:tj K (⟨CAsking,["course","ones","needed"]⟩:Cl).C "may_be_next" f33:=⟨a33,i33,k33⟩
 have F_Asking_is_good:=bJ (st:=bV) l34 c34 k34
 have bi_Asking_is_good:=F_Asking_is_good.binds (ps:=["self","order","state"]) fun _ _ _ _ _ _=>cS fun _=>cS fun _=>cS fun _=>jX rfl
 have mt_Asking_is_good:tj K (⟨CAsking,["course","ones","needed"]⟩:Cl).C "is_good" f34:=⟨a34,i34,k34⟩
 have C_LAST_ATTEMPT:∃t,mg "LAST_ATTEMPT"=some (.int (199) t):=⟨_,PySem.W.mg_of X G g35⟩
 have C_MOST_EVENTS:∃t,mg "MOST_EVENTS"=some (.int (2000) t):=⟨_,PySem.W.mg_of X G g36⟩
 have B:Blt mg:=⟨PySem.W.mg_none_of X G z37,PySem.W.mg_none_of X G z38,PySem.W.mg_none_of X G z39,PySem.W.mg_none_of X G z40,PySem.W.mg_none_of X G z41,PySem.W.mg_none_of X G z42,PySem.W.mg_none_of X G z43,PySem.W.mg_none_of X G z44,PySem.W.mg_none_of X G z45,PySem.W.mg_none_of X G z46,PySem.W.mg_none_of X G z47,PySem.W.mg_none_of X G z48,PySem.W.mg_none_of X G z49,PySem.W.mg_none_of X G z50,PySem.W.mg_none_of X G z51,PySem.W.mg_none_of X G z52,PySem.W.mg_none_of X G z53,PySem.W.mg_none_of X G z54⟩
 refine⟨PySem.W.fnOf "law" "law" (aT oG) (aL oG) (av oG) .none kV26 dc26 pm26 an26 cd26 ct26,fun s v=>.of_eq rfl,fun base _ _=>?_⟩
 have Gp:=FL (P:=l.prog) (w:=w) (base:=base) (k:=0) B D__law_pen
 have aF:=ua (P:=l.prog) (w:=w) (base:=base) (k:=0) D__law_take B 
 have jL:=sf (P:=l.prog) (w:=w) (base:=base) (k:=1) D__law_world B aF
 have jM:=sg (P:=l.prog) (w:=w) (base:=base) (k:=1) D__law_state B aF
 have jN:=sh (P:=l.prog) (w:=w) (base:=base) (k:=1) D__law_names B aF
 have i6:=qq (P:=l.prog) (w:=w) (base:=base) (k:=0) D__law_put_in B 
 have jO:=sk (P:=l.prog) (w:=w) (base:=base) (k:=1) D__law_event B aF
 have mi:=wF (P:=l.prog) (w:=w) (base:=base) (k:=2) D__law_log B jN (Has.mono aF (by decide)) jO (Has.mono i6 (by decide))
 have fY:=wt (P:=l.prog) (w:=w) (base:=base) (k:=0) D_is_whole B 
 have gJ:=t8 (P:=l.prog) (w:=w) (base:=base) (k:=1) D_is_within B fY
 have M_Course_note_look:=lD (P:=l.prog) (w:=w) (base:=base) (k:=0) F_Course_note_look bi_Course_note_look mt_Course_note_look B TCourse
 have M_Course_enter:=oJ (P:=l.prog) (w:=w) (base:=base) (k:=0) F_Course_enter bi_Course_enter mt_Course_enter B TCourse
 have M_Course_follow:=nS (P:=l.prog) (w:=w) (base:=base) (k:=1) F_Course_follow bi_Course_follow mt_Course_follow B TCourse M_Course_enter M_Course_note_look
 have M_Course_init:=qt (P:=l.prog) (w:=w) (base:=base) (k:=0) F_Course_init bi_Course_init mk_Course mgC_Course B TCourse
 have M_Course_allows:=nT (P:=l.prog) (w:=w) (base:=base) (k:=0) F_Course_allows bi_Course_allows mt_Course_allows B TCourse
 have mf:=wz (P:=l.prog) (w:=w) (base:=base) (k:=2) D_is_event B C_LAST_ATTEMPT gJ
 have qW:=B8 (P:=l.prog) (w:=w) (base:=base) (k:=2) D_is_log B C_MOST_EVENTS TCourse mf (M_Course_allows.mono (by decide)) (M_Course_follow.mono (by decide)) (M_Course_init.mono (by decide))
 have aV:=t9 (P:=l.prog) (w:=w) (base:=base) (k:=1) D_course_of B TCourse M_Course_follow M_Course_init
 have gh:=wC (P:=l.prog) (w:=w) (base:=base) (k:=3) D_attempts B TCourse aV
 have qX:=B9 (P:=l.prog) (w:=w) (base:=base) (k:=3) D_end_of B TCourse aV
 have iZ:=qp (P:=l.prog) (w:=w) (base:=base) (k:=3) D_outer_looks B TCourse aV
 have oA:=zo (P:=l.prog) (w:=w) (base:=base) (k:=3) D_puts_of B TCourse aV
 have oB:=FN (P:=l.prog) (w:=w) (base:=base) (k:=3) D_ahead B TCourse aV
 have fZ:=wB (P:=l.prog) (w:=w) (base:=base) (k:=0) D_is_asked B TCourse
 have mh:=wD (P:=l.prog) (w:=w) (base:=base) (k:=1) D_asked_in B TCourse fZ
 have Ay:=JG (P:=l.prog) (w:=w) (base:=base) (k:=0) D_fits B TCourse
 have jK:=se (P:=l.prog) (w:=w) (base:=base) (k:=0) D_state_with B TCourse
 have M_Asking_init:=qu (P:=l.prog) (w:=w) (base:=base) (k:=2) F_Asking_init bi_Asking_init mk_Asking mgC_Asking B TAsking TCourse mh (Has.mono fZ (by decide))
 have M_Asking_may_be_next:=j2 (P:=l.prog) (w:=w) (base:=base) (k:=1) F_Asking_may_be_next bi_Asking_may_be_next mt_Asking_may_be_next B TAsking Ay
 have M_Asking_is_good:=mJ (P:=l.prog) (w:=w) (base:=base) (k:=2) F_Asking_is_good bi_Asking_is_good mt_Asking_is_good B TAsking (Has.mono jK (by decide)) M_Asking_may_be_next
 have iL:=wy (P:=l.prog) (w:=w) (base:=base) (k:=3) D_is_order B TAsking (Has.mono fY (by decide)) (Has.mono aV (by decide)) (M_Asking_is_good.mono (by decide)) M_Asking_init
 have g8:=sj (P:=l.prog) (w:=w) (base:=base) (k:=4) D__law_facts B gh oA iZ qX
 have i7:=qr (P:=l.prog) (w:=w) (base:=base) (k:=0) D__law_orders B 
 exact L4 (P:=l.prog) (w:=w) (base:=base) (k:=5) F_law B (Has.mono Gp (by decide)) (Has.mono jL (by decide)) (Has.mono jM (by decide)) (Has.mono mi (by decide)) (Has.mono aF (by decide)) g8 (Has.mono qW (by decide)) (Has.mono oB (by decide)) (Has.mono i7 (by decide)) (Has.mono gh (by decide)) iL fun ns a c ha hc=>Jl (c:=⟨CCourse,_⟩) (cA:=⟨CAsking,_⟩) rfl rfl ns a c ha hc
theorem Nd{l:PySem.W.OpenLaw}{q:Program}{loose:List Str}{XP:(Str->Option Value)->Heap->Prop}{YP:World->Heap->Prop}{d:DefRec}{K:Params->PySem.W.Frag}(hn:l.most=some 63)(hdf:d.params.defaults=[])
  (hY:∀(w:World) (h:Heap),YP w h->(K w.params).In h)
  (F:∀(w:World) (mg:Str->Option Value) (fa:Addr) (h:Heap),(K w.params).In h->h.Ns mainGlobals mg->mg d.name=some (.ref fa)->
   ∃fd:FuncData,(∀(s:Shared) (u:Value),BindsTo s fd ⟨[u],[]⟩ [("script",u)])/\∀base:Heap,(K w.params).In base->base.Ns mainGlobals mg->mY l.prog w (K w.params) mg base CX0 6 fa fd ["script"] (A5 (K w.params))) :
  PySem.W.WalkO q loose XP YP l.row.toRowW d [] (fun f vs=>PySem.call f vs):=
 L2.Er (n:=63) (k:=6) (x:="script") (CX:=fun _=>CX0) (sp:=fun w=>A5 (K w.params)) hn (by decide) hdf ⟨rfl,by decide,by decide,rfl⟩ hY F (fun _ _ a ns hl _ hS=>⟨a,ns,rfl,hS,hl,fun _=>rfl⟩) fun _ _ _ _ _ z=>z
end OL
namespace PySem.W.Fast
def tw18253143783320246554:=0
def tw17455563871952855310:=0
def tw3029770643608183567:=0
def tw14021484896286828860:=0
def tw13766353087645971368:=0
def tw989256204941050752:=0
def tw4841151983116538713:=0
def tw9813860036772903853:=0
def tw10628606833970793017:=0
def tw171846007011524935:=0
def tw3140080802675647195:=0
def tw8935293508040098738:=0
def tw2699153722254808387:=0
def tw8786688529275390366:=0
def tw14717133248665260481:=0
def tw2190997961962797571:=0
def tw6407700858140172611:=0
def tw15767745259756256652:=0
def tw975324721459138410:=0
def tw10827711289594496514:=0
def tw16117526975525282475:=0
def tw11008674149724144494:=0
def tw8654617940089759942:=0
def tw633283275325991600:=0
def tw3512327202318392070:=0
def tw14766648136751264589:=0
def tw6705467870742238634:=0
def tw2339243188345455069:=0
def tw114998847269624111:=0
def tw7903349141302962830:=0
def tw7998460419309059527:=0
def tw3573205014160452943:=0
def tw7210449384956376062:=0
def tw17357562105852265781:=0
def tw2799353909841489522:=0
def tw691190905826317130:=0
def tw17070824266767108280:=0
def tw5258344837740217656:=0
def tw9960822393115046442:=0
def tw1248287388446237770:=0
def tw8474174447964363216:=0
def tw1263916641944420658:=0
def tw15596637478252722713:=0
def tw5374381407366641501:=0
def tw4796991299093079805:=0
def tw5020500693946915145:=0
def tw3676235161369576388:=0
def tw11189244181065749911:=0
def tw17129133862511695772:=0
def tw15974413275500604180:=0
def tw4748525374093199093:=0
def tw4321797579331229182:=0
def tw4877345657365568496:=0
def tw1008766613845532375:=0
def tw6619818589780309897:=0
def tw3644489258664284864:=0
def tw17102279266123959600:=0
def tw835378119506100877:=0
def tw12829595131834578528:=0
def tw2482661877706790861:=0
def tw14812490663324711080:=0
def tw15811544237060825523:=0
def tw5796283745213902308:=0
def tw432430789336683956:=0
def tw1038174273541848050:=0
def tw10672679023581032916:=0
def tw11232144559078422607:=0
def tw14754698043474719364:=0
def tw783976582178703496:=0
def tw17062705029734826159:=0
def tw6306657584284387145:=0
def tw7986739528275853543:=0
def tw12251340150803562058:=0
def tw7287754171185567025:=0
def tw266359068026156702:=0
def tw16611872443264486247:=0
def tw3269476468045259541:=0
def tw7015449436315211557:=0
def tw6502828886284713046:=0
def tw1012386547374563273:=0
def tw1795017340232347777:=0
def tw10671258909612768732:=0
def tw631099772732713205:=0
def tw5251260981592004900:=0
def tw690688363983296363:=0
def tw11343961949440405789:=0
def tw4473414739856879574:=0
def tw14144601035347227748:=0
def tw8515770633181269431:=0
def tw3250925346969215902:=0
def tw6923981855158703076:=0
def tw17343136955931539706:=0
def tw6165645364567229753:=0
def tw15755589175889018390:=0
def tw6655668603693708622:=0
def tw9251690654875607190:=0
def tw11468467599636907311:=0
def tw8545810189865274230:=0
def tw71239248200494927:=0
def tw17727763043096663661:=0
def tw7160634684564207494:=0
def tw2266858973749038867:=0
def tw18318538962685201057:=0
def tw12435037756097394365:=0
def tw17536231411599358290:=0
def tw14323168794779490037:=0
def tw3911269055863006198:=0
def tw16364069851491081045:=0
def tw14331875494954740122:=0
def tw16869194907925748704:=0
def tw4749206926617448614:=0
def tw11468409785864092349:=0
def tw17401377543425626255:=0
def tw13351528546681750074:=0
def tw10156935093429291421:=0
def tw13966279358218937871:=0
def tw214964903339365892:=0
def tw11822768550408710871:=0
def tw4074072483362277942:=0
def tw13796255767736250382:=0
def tw5627822850181998683:=0
def tw3305675499352869676:=0
def tw14848964937964397177:=0
def tw6703452414161705250:=0
def tw139666077438666754:=0
def tw6496322232573530306:=0
def tw16322446859238205190:=0
def tw2621523336392831331:=0
def tw17306281716604438351:=0
def tw12055758506574027564:=0
def tw12308165100033012740:=0
def tw2433838421078145051:=0
def tw3680187926920770857:=0
def tw12640091152277422382:=0
def tw761548600668390824:=0
def tw10875056660567336662:=0
def tw12890268456918716008:=0
def tw6927607091027899073:=0
def tw6987073403677057165:=0
def tw3576816254881778782:=0
def tw16520512745472990729:=0
def tw9143712184360865443:=0
def tw1208126322405266879:=0
def tw10944939414432548613:=0
def tw6236590719472449914:=0
def tw2188034706154671672:=0
end PySem.W.Fast
open PySem PySem.W PyProof.Rows
set_option maxRecDepth 100000 in
set_option maxHeartbeats 0 in
theorem PySem.Challenge.cw_oneglance_k18_whole_weavings_of_a_log_holds : PySem.Challenge.rw_oneglance_k18_whole_weavings_of_a_log.Holds := by
 w_on; o_law; k_head; (case hw => w_witness2)
 k_fill
 refine OL.Nd (l := PySem.Challenge.rw_oneglance_k18_whole_weavings_of_a_log) rfl rfl (fun w h Y => PySem.W.kIn_of Y) ?F
 case F =>
  intro w mg fa h KX G hmg
  refine' OL.J0 KX G hmg ?a1 ?l1 ?c1 ?k1 ?a2 ?l2 ?c2 ?k2 ?a3 ?l3 ?c3 ?k3 ?a4 ?l4 ?c4 ?k4 ?a5 ?l5 ?c5 ?k5 ?a6 ?l6 ?c6 ?k6 ?a7 ?l7 ?c7 ?k7 ?a8 ?l8 ?c8 ?k8 ?a9 ?l9 ?c9 ?k9 ?a10 ?l10 ?c10 ?k10 ?a11 ?l11 ?c11 ?k11 ?a12 ?l12 ?c12 ?k12 ?a13 ?l13 ?c13 ?k13 ?a14 ?l14 ?c14 ?k14 ?a15 ?l15 ?c15 ?k15 ?a16 ?l16 ?c16 ?k16 ?a17 ?l17 ?c17 ?k17 ?a18 ?l18 ?c18 ?k18 ?a19 ?l19 ?c19 ?k19 ?a20 ?l20 ?c20 ?k20 ?a21 ?l21 ?c21 ?k21 ?a22 ?l22 ?c22 ?k22 ?a23 ?l23 ?c23 ?k23 ?a24 ?l24 ?c24 ?k24 ?a25 ?l25 ?c25 ?k25 ?a26 ?l26 ?c26 ?k26 ?aCCourse ?pgCourse ?hdCourse ?poCourse ?saCourse ?mkCourse ?kcCourse ?nfCourse0 ?nfCourse1 ?nfCourse2 ?nfCourse3 ?nfCourse4 ?a27 ?i27 ?l27 ?c27 ?k27 ?a28 ?i28 ?l28 ?c28 ?k28 ?a29 ?i29 ?l29 ?c29 ?k29 ?a30 ?i30 ?l30 ?c30 ?k30 ?a31 ?i31 ?l31 ?c31 ?k31 ?aCAsking ?pgAsking ?hdAsking ?poAsking ?saAsking ?mkAsking ?kcAsking ?nfAsking0 ?nfAsking1 ?nfAsking2 ?a32 ?i32 ?l32 ?c32 ?k32 ?a33 ?i33 ?l33 ?c33 ?k33 ?a34 ?i34 ?l34 ?c34 ?k34 ?g35 ?g36 ?z37 ?z38 ?z39 ?z40 ?z41 ?z42 ?z43 ?z44 ?z45 ?z46 ?z47 ?z48 ?z49 ?z50 ?z51 ?z52 ?z53 ?z54
  (case a1 => k_is)
  (case l1 => k_is)
  (case c1 => k_is)
  (case k1 => k_is)
  (case a2 => k_is)
  (case l2 => k_is)
  (case c2 => k_is)
  (case k2 => k_is)
  (case a3 => k_is)
  (case l3 => k_is)
  (case c3 => k_is)
  (case k3 => k_is)
  (case a4 => k_is)
  (case l4 => k_is)
  (case c4 => k_is)
  (case k4 => k_is)
  (case a5 => k_is)
  (case l5 => k_is)
  (case c5 => k_is)
  (case k5 => k_is)
  (case a6 => k_is)
  (case l6 => k_is)
  (case c6 => k_is)
  (case k6 => k_is)
  (case a7 => k_is)
  (case l7 => k_is)
  (case c7 => k_is)
  (case k7 => k_is)
  (case a8 => k_is)
  (case l8 => k_is)
  (case c8 => k_is)
  (case k8 => k_is)
  (case a9 => k_is)
  (case l9 => k_is)
  (case c9 => k_is)
  (case k9 => k_is)
  (case a10 => k_is)
  (case l10 => k_is)
  (case c10 => k_is)
  (case k10 => k_is)
  (case a11 => k_is)
  (case l11 => k_is)
  (case c11 => k_is)
  (case k11 => k_is)
  (case a12 => k_is)
  (case l12 => k_is)
  (case c12 => k_is)
  (case k12 => k_is)
  (case a13 => k_is)
  (case l13 => k_is)
  (case c13 => k_is)
  (case k13 => k_is)
  (case a14 => k_is)
  (case l14 => k_is)
  (case c14 => k_is)
  (case k14 => k_is)
  (case a15 => k_is)
  (case l15 => k_is)
  (case c15 => k_is)
  (case k15 => k_is)
  (case a16 => k_is)
  (case l16 => k_is)
  (case c16 => k_is)
  (case k16 => k_is)
  (case a17 => k_is)
  (case l17 => k_is)
  (case c17 => k_is)
  (case k17 => k_is)
  (case a18 => k_is)
  (case l18 => k_is)
  (case c18 => k_is)
  (case k18 => k_is)
  (case a19 => k_is)
  (case l19 => k_is)
  (case c19 => k_is)
  (case k19 => k_is)
  (case a20 => k_is)
  (case l20 => k_is)
  (case c20 => k_is)
  (case k20 => k_is)
  (case a21 => k_is)
  (case l21 => k_is)
  (case c21 => k_is)
  (case k21 => k_is)
  (case a22 => k_is)
  (case l22 => k_is)
  (case c22 => k_is)
  (case k22 => k_is)
  (case a23 => k_is)
  (case l23 => k_is)
  (case c23 => k_is)
  (case k23 => k_is)
  (case a24 => k_is)
  (case l24 => k_is)
  (case c24 => k_is)
  (case k24 => k_is)
  (case a25 => k_is)
  (case l25 => k_is)
  (case c25 => k_is)
  (case k25 => k_is)
  (case a26 => k_is)
  (case l26 => k_is)
  (case c26 => k_is)
  (case k26 => k_is)
  (case aCCourse => k_is)
  (case pgCourse => k_is)
  (case hdCourse => k_is)
  (case poCourse => k_is)
  (case saCourse => k_is)
  (case mkCourse => k_is)
  (case kcCourse => k_is)
  (case nfCourse0 => k_is)
  (case nfCourse1 => k_is)
  (case nfCourse2 => k_is)
  (case nfCourse3 => k_is)
  (case nfCourse4 => k_is)
  (case a27 => k_is)
  (case i27 => k_is)
  (case l27 => k_is)
  (case c27 => k_is)
  (case k27 => k_is)
  (case a28 => k_is)
  (case i28 => k_is)
  (case l28 => k_is)
  (case c28 => k_is)
  (case k28 => k_is)
  (case a29 => k_is)
  (case i29 => k_is)
  (case l29 => k_is)
  (case c29 => k_is)
  (case k29 => k_is)
  (case a30 => k_is)
  (case i30 => k_is)
  (case l30 => k_is)
  (case c30 => k_is)
  (case k30 => k_is)
  (case a31 => k_is)
  (case i31 => k_is)
  (case l31 => k_is)
  (case c31 => k_is)
  (case k31 => k_is)
  (case aCAsking => k_is)
  (case pgAsking => k_is)
  (case hdAsking => k_is)
  (case poAsking => k_is)
  (case saAsking => k_is)
  (case mkAsking => k_is)
  (case kcAsking => k_is)
  (case nfAsking0 => k_is)
  (case nfAsking1 => k_is)
  (case nfAsking2 => k_is)
  (case a32 => k_is)
  (case i32 => k_is)
  (case l32 => k_is)
  (case c32 => k_is)
  (case k32 => k_is)
  (case a33 => k_is)
  (case i33 => k_is)
  (case l33 => k_is)
  (case c33 => k_is)
  (case k33 => k_is)
  (case a34 => k_is)
  (case i34 => k_is)
  (case l34 => k_is)
  (case c34 => k_is)
  (case k34 => k_is)
  (case g35 => k_is)
  (case g36 => k_is)
  (case z37 => k_is)
  (case z38 => k_is)
  (case z39 => k_is)
  (case z40 => k_is)
  (case z41 => k_is)
  (case z42 => k_is)
  (case z43 => k_is)
  (case z44 => k_is)
  (case z45 => k_is)
  (case z46 => k_is)
  (case z47 => k_is)
  (case z48 => k_is)
  (case z49 => k_is)
  (case z50 => k_is)
  (case z51 => k_is)
  (case z52 => k_is)
  (case z53 => k_is)
  (case z54 => k_is)
