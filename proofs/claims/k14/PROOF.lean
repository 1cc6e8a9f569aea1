import PyProof.Rows.All
import Wide.All
import OpenK.AllK
import Wide.FinOn
import Lean
import PyProof.EqAt
import PyProof.EqKinds
import PyProof.TupleCall
import PySem.Challenge.RW_oneglance_k14_whole_logs_of_dealings_in
set_option maxHeartbeats 4000000
set_option Elab.async false
set_option linter.all false
set_option maxRecDepth 100000
noncomputable section
namespace L2
open PySem PySem.Spec PyProof.Rows
abbrev Key:=Sum Int Str
def vi:Key->Value->Bool
 |.inl k,v=>Value.isInt k v
 |.inr x,v=>Value.isStrOf x v
def Oy(w:World):Key->Int
 |.inl k=>hashInt k
 |.inr x=>hashStr w x
theorem bW:∀{k:Key} {v:Value},vi k v=true->(∃i t,k=Sum.inl i/\v=Value.int i t)\/(∃x t,k=Sum.inr x/\v=Value.str x t)
 |.inl i,v,h=>by
  obtain⟨t,e⟩:=Value.isInt_shape (k:=i) (v:=v) h
  exact .inl ⟨i,t,rfl,e⟩
 |.inr x,v,h=>by
  obtain⟨t,e⟩:=Value.isStrOf_shape (x:=x) (v:=v) h
  exact .inr ⟨x,t,rfl,e⟩
theorem Ai(i:Int)(t:Tok):vi (.inl i) (.int i t)=true:=by simp[vi,Value.isInt]
theorem Ah(x:Str)(t:Tok):vi (.inr x) (.str x t)=true:=by simp[vi,Value.isStrOf]
theorem Kn(a b:Int):decide ((Sum.inl a:Key)=Sum.inl b)=(a == b):=by
 by_cases e:a=b
 ·subst e;simp
 ·have h:¬(Sum.inl a:Key)=Sum.inl b:=fun q=>e (Sum.inl.inj q)
  rw[decide_eq_false h]
  exact(beq_eq_false_iff_ne.mpr e).symm
theorem Kk(a b:Str):decide ((Sum.inr a:Key)=Sum.inr b)=decide (a=b):=by
 by_cases e:a=b
 ·subst e;simp
 ·have h:¬(Sum.inr a:Key)=Sum.inr b:=fun q=>e (Sum.inr.inj q)
  rw[decide_eq_false h,decide_eq_false e]
theorem Km(a:Int)(b:Str):decide ((Sum.inl a:Key)=Sum.inr b)=false:=decide_eq_false (fun q=>nomatch q)
theorem Kl(a:Str)(b:Int):decide ((Sum.inr a:Key)=Sum.inl b)=false:=decide_eq_false (fun q=>nomatch q)
def cX(prog:Program)(w:World):PySem.KeyKind prog w Key where
 is:=vi
 hash:=Oy w
 inj:=fun v a b ha hb=>by
  rcases bW ha with⟨i,t,rfl,rfl⟩|⟨x,t,rfl,rfl⟩
  ·rcases bW hb with⟨j,u,rfl,e⟩|⟨y,u,rfl,e⟩
   ·injection e with e1 _;rw[e1]
   ·exact nomatch e
  ·rcases bW hb with⟨j,u,rfl,e⟩|⟨y,u,rfl,e⟩
   ·exact nomatch e
   ·injection e with e1 _;rw[e1]
 byValue:=fun k v h=>by
  rcases bW h with⟨i,t,rfl,rfl⟩|⟨x,t,rfl,rfl⟩<;>rfl
 pyHash:=fun hv h=>by
  rcases bW hv with⟨i,t,rfl,rfl⟩|⟨x,t,rfl,rfl⟩
  ·exact wpAny_pyHash_int h
  ·exact wpAny_pyHash_str h
 eqBool:=fun hu hv h=>by
  rcases bW hu with⟨i,t,rfl,rfl⟩|⟨x,t,rfl,rfl⟩
  ·rcases bW hv with⟨j,u,rfl,rfl⟩|⟨y,u,rfl,rfl⟩
   ·rw[Kn]at h;exact wpAny_eqBool_int h
   ·rw[Km]at h;exact SeqAt.EqAt.int_str i t y u _ _ _ _ h
  ·rcases bW hv with⟨j,u,rfl,rfl⟩|⟨y,u,rfl,rfl⟩
   ·rw[Kl]at h;exact SeqAt.EqAt.str_int x t j u _ _ _ _ h
   ·rw[Kk]at h;exact wpAny_eqBool_str h
 «strs»:=fun k x t v h=>by
  rcases bW h with⟨i,u,rfl,e⟩|⟨y,u,rfl,e⟩
  ·exact nomatch e
  ·injection e with e1 _
   subst e1
   cases v<;>rfl
theorem vc(prog:Program)(w:World)(i:Int)(t:Tok):(cX prog w).is (.inl i) (.int i t)=true:=Ai i t
theorem vb(prog:Program)(w:World)(x:Str)(t:Tok):(cX prog w).is (.inr x) (.str x t)=true:=Ah x t
inductive V where
 |non|bl (b:Bool)|int (i:Int)|str (x:Str)|byt (b:Array UInt8)|flt (b:UInt64)|ref (a:Addr)|ty (n:String)
 deriving DecidableEq
def dJ:V->Value->Prop
 |.non,u=>u=Value.none
 |.bl b,u=>u=Value.bool b
 |.int i,u=>∃t,u=Value.int i t
 |.str x,u=>∃t,u=Value.str x t
 |.byt b,u=>∃t,u=Value.bytes b t
 |.flt b,u=>∃t,u=Value.float b t
 |.ref a,u=>u=Value.ref a
 |.ty n,u=>u=Value.type n
abbrev cE:List V->List Value->Prop:=Paired dJ
theorem cE.length{xs:List V}{us:List Value}(r:cE xs us):xs.length=us.length:=Paired.length r
theorem cE.get:∀{xs:List V} {us:List Value} {i:Nat} {x:V},cE xs us->xs[i]?=some x->∃u,us[i]?=some u/\dJ x u
 |_,_,_,_,.nil,e=>by simp at e
 |_,_,0,_,.cons r _,e=>by simp at e;subst e;exact⟨_,rfl,r⟩
 |_,_,i+1,x,.cons _ t,e=>by
  obtain⟨u,h1,h2⟩:=cE.get (i:=i) (x:=x) t (by simpa using e)
  exact⟨u,by simpa using h1,h2⟩
theorem cE.set{x:V}{u:Value}(r:dJ x u):∀{xs:List V} {us:List Value} (i:Nat),cE xs us->cE (xs.set i x) (us.set i u)
 |_,_,_,.nil=>.nil
 |_,_,0,.cons _ t=>.cons r t
 |_,_,i+1,.cons q t=>.cons q (cE.set r i t)
theorem cE.append:∀{xs ys:List V} {us ws:List Value},cE xs us->cE ys ws->cE (xs++ys) (us++ws)
 |_,_,_,_,.nil,s=>s
 |_,_,_,_,.cons r t,s=>.cons r (cE.append t s)
theorem cE.take:∀{xs:List V} {us:List Value} (n:Nat),cE xs us->cE (xs.take n) (us.take n)
 |_,_,0,_=>.nil
 |_,_,_+1,.nil=>.nil
 |_,_,n+1,.cons r t=>.cons r (cE.take n t)
theorem cE.drop:∀{xs:List V} {us:List Value} (n:Nat),cE xs us->cE (xs.drop n) (us.drop n)
 |_,_,0,r=>r
 |_,_,_+1,.nil=>.nil
 |_,_,n+1,.cons _ t=>cE.drop n t
def sR:Option V->Option Value->Prop
 |some v,some u=>dJ v u
 |none,none=>True
 |_,_=>False
def KV{κ:Type}:List (κ×V)->List (κ×Value)->Prop:=Paired fun(p:κ×V) (q:κ×Value)=>p.1=q.1/\dJ p.2 q.2
def kV:Key->V
 |.inl i=>.int i
 |.inr x=>.str x
inductive HO where
 |lst (xs:List V)
 |tup (xs:List V)
 |dK (kvs:List (Key×V))|dT (kvs:List (List Key×V))
 |set (S:Int->Bool) (n:Nat)
 |ins (C dx:Addr) (fs:List (Str×V))
 |own (x:Addr)
 |xd (fs:List (Str×V))
 |met (f x:Addr)
 |rng (lo hi:Int)
 |frz (o:Obj) (u:HO)
 |tbl (ps:Array Value)
 |ext (φ:Heap->Prop)
abbrev Hp:=Addr->Option HO
def upd(H:Hp)(a:Addr)(o:HO):Hp:=fun b=>if b=a then some o else H b
theorem aX{H:Hp}{a:Addr}{o:HO}:upd H a o a=some o:=by unfold upd;rw[if_pos rfl]
theorem bN{H:Hp}{a b:Addr}{o:HO}(h:b≠a):upd H a o b=H b:=by unfold upd;rw[if_neg h]
theorem MM{H:Hp}{a b:Addr}{o u:HO}(h:H a=some o)(h':H b=some u)(d:o≠u):a≠b:=by
 intro e;subst e;rw[h]at h';exact d (Option.some.inj h')
theorem dD{H:Hp}{a b:Addr}{o:HO}(h:H a=some o)(h':H b=none):a≠b:=by
 intro e;subst e;rw[h]at h';cases h'
section
variable(P:Program)(w:World)
def dS(H:Hp)(h:Heap)(a:Addr):HO->Prop
 |.lst xs=>xs.length<=sizeLine/\∃(its:List Value) (n:Nat),cE xs its/\h.get? a=some { cls:=.type "list",data:=.seq its.toArray n }
 |.tup xs=>xs.length<=sizeLine/\∃its:List Value,cE xs its/\IsTup h a its.toArray
 |.dK kvs=>kvs.length<=sizeLine/\(a == sysModules)=false/\∃vs,KV kvs vs/\h.DictOf (cX P w) a vs
 | .dT kvs=>kvs.length<=sizeLine/\(a == sysModules)=false/\∃xs:List (List Key×Addr×Value),
   Paired (fun(p:List Key×V) (q:List Key×Addr×Value)=>p.1=q.1/\H q.2.1=some (.tup (p.1.map kV))/\dJ p.2 q.2.2) kvs xs/\
   ∃o es ep,h.get? a=some o/\o.ExactDict/\o.data=.dict es ep/\es.toList=xs.map (entryOfKey (tupleKind (cX P w)))/\(xs.map (·.1)).Nodup
 |.set S n=>h.SetOf (intKind P w) a S n
 | .ins C dx fs=>H dx=some (.own a)/\fs.length<=1000/\dx≠a/\h.get? a=some (PySem.W.instObj C dx)/\
   ∃mA,h.Ns1 dx mA/\(∀f,sR (fs.lookup f) (mA f))/\PySem.Within mA (fs.map (·.1))
 |.own _=>∃o,h.get? a=some o
 |.xd fs=>∃mA,h.Ns1 a mA/\∀f,sR (fs.lookup f) (mA f)
 |.rng lo hi=>∃t u v,h.get? a=some { cls:=.type "range",data:=.fields #[.int lo t,.int hi u,.int 1 v] }
 |.frz o u=>h.get? a=some o/\dS H h a u
 |.tbl ps=>h.get? a=some { cls:=.none,data:=.fields ps }
 |.met f x=>h.get? a=some (PySem.W.methodObj (.ref f) (.ref x))
 |.ext φ=>φ h/\(∃o,h.get? a=some o)/\∀h1 h2:Heap,φ h1->(∀o,h1.get? a=some o->h2.get? a=some o)->φ h2
def HOk(H:Hp)(h:Heap):Prop:=∀a o,H a=some o->dS P w H h a o
end
section
variable{P:Program}{w:World}{H H':Hp}{h h':Heap}{a:Addr}{o:HO}
theorem dS.lt(x:dS P w H h a o):a<h.objs.size:=by
 cases o with
 |lst xs=>obtain⟨_,_,_,_,e⟩:=x;exact Heap.lt_size e
 |tup xs=>obtain⟨_,_,_,p⟩:=x;exact p.lt
 |dK kvs=>obtain⟨_,_,_,_,o,_,_,e,_⟩:=x;exact Heap.lt_size e
 |dT kvs=>obtain⟨_,_,_,_,o,_,_,e,_⟩:=x;exact Heap.lt_size e
 |set S n=>obtain⟨o,_,_,_,e,_⟩:=x;exact Heap.lt_size e
 |ins C dx fs=>obtain⟨_,_,_,e,_⟩:=x;exact Heap.lt_size e
 |own y=>obtain⟨_,e⟩:=x;exact Heap.lt_size e
 |xd fs=>obtain⟨_,⟨_,_,_,e,_⟩,_⟩:=x;exact Heap.lt_size e
 |rng lo hi=>obtain⟨_,_,_,e⟩:=x;exact Heap.lt_size e
 |frz ob u=>obtain⟨e,_⟩:=x;exact Heap.lt_size e
 |tbl ps=>exact Heap.lt_size (show h.get? a=some _ from x)
 |met f y=>exact Heap.lt_size (show h.get? a=some _ from x)
 |ext φ=>obtain⟨_,⟨_,e⟩,_⟩:=x;exact Heap.lt_size e
theorem Paired.mapP{α β:Type}{F G:α->β->Prop}:∀{l₁:List α} {l₂:List β},Paired F l₁ l₂->(∀a b,F a b->G a b)->Paired G l₁ l₂
 |_,_,.nil,_=>.nil
 |_,_,.cons r t,f=>.cons (f _ _ r) (Paired.mapP t f)
theorem dS.stay(x:dS P w H h a o)(k:∀b u,(b=a\/H b=some (.own a))->h.get? b=some u->h'.get? b=some u)
  (ho:∀b,H b=some (.own a)->H' b=some (.own a)) (ht:∀b xs,H b=some (.tup xs)->H' b=some (.tup xs)):dS P w H' h' a o:=by
 induction o with
 |lst xs=>obtain⟨z,its,n,r,e⟩:=x;exact⟨z,its,n,r,k _ _ (.inl rfl) e⟩
 |tup xs=>obtain⟨z,its,r,ob,e,c⟩:=x;exact⟨z,its,r,ob,k _ _ (.inl rfl) e,c⟩
 |dK kvs=>obtain⟨z,y,vs,r,ob,es,ep,e,c⟩:=x;exact⟨z,y,vs,r,ob,es,ep,k _ _ (.inl rfl) e,c⟩
 |dT kvs=>
  obtain⟨z,y,xs,r,ob,es,ep,e,c⟩:=x
  exact⟨z,y,xs,Paired.mapP r fun p q z=>⟨z.1,ht _ _ z.2.1,z.2.2⟩,ob,es,ep,k _ _ (.inl rfl) e,c⟩
 |set S n=>obtain⟨ob,es,ep,t,e,c⟩:=x;exact⟨ob,es,ep,t,k _ _ (.inl rfl) e,c⟩
 |ins C dx fs=>
  obtain⟨d,z,ne,e,mA,⟨od,es,ep,e2,c⟩,r⟩:=x
  exact⟨ho _ d,z,ne,k _ _ (.inl rfl) e,mA,⟨od,es,ep,k _ _ (.inr d) e2,c⟩,r⟩
 |own y=>obtain⟨ob,e⟩:=x;exact⟨ob,k _ _ (.inl rfl) e⟩
 |xd fs=>obtain⟨mA,⟨od,es,ep,e,c⟩,r⟩:=x;exact⟨mA,⟨od,es,ep,k _ _ (.inl rfl) e,c⟩,r⟩
 |rng lo hi=>obtain⟨t,u,v,e⟩:=x;exact⟨t,u,v,k _ _ (.inl rfl) e⟩
 |frz ob u ih=>obtain⟨e,q⟩:=x;exact⟨k _ _ (.inl rfl) e,ih q⟩
 |tbl ps=>
  have e:h.get? a=some { cls:=.none,data:=.fields ps }:=x
  show h'.get? a=some { cls:=.none,data:=.fields ps }
  exact k a _ (.inl rfl) e
 |met f y=>
  have e:h.get? a=some (PySem.W.methodObj (.ref f) (.ref y)):=x
  show h'.get? a=some (PySem.W.methodObj (.ref f) (.ref y))
  exact k a _ (.inl rfl) e
 |ext φ=>obtain⟨p,⟨o,e⟩,st⟩:=x;exact⟨st _ _ p fun o q=>k _ _ (.inl rfl) q,⟨o,k _ _ (.inl rfl) e⟩,st⟩
theorem HOk.lt(x:HOk P w H h)(e:H a=some o):a<h.objs.size:=(x a o e).lt
theorem HOk.fresh(x:HOk P w H h)(e:h.objs.size<=a):H a=none:=by
 cases q:H a with
 |none=>rfl
 |some u=>exact absurd (Nat.lt_of_lt_of_le (x.lt q) e) (Nat.lt_irrefl _)
theorem HOk.kept(x:HOk P w H h)(k:∀b u,h.get? b=some u->h'.get? b=some u):HOk P w H h':=fun a o e=>
 (x a o e).stay (fun b u _ q=>k b u q) (fun _ q=>q) fun _ _ q=>q
theorem HOk.laid(x:HOk P w H h)(k:∀b u,h.get? b=some u->h'.get? b=some u)(hp:h.objs.size<=a)(new:dS P w (upd H a o) h' a o):HOk P w (upd H a o) h':=fun b u e=>by
 have hn:=x.fresh hp
 by_cases hb:b=a
 ·subst hb;rw[aX]at e;cases e;exact new
 ·rw[bN hb]at e
  exact(x b u e).stay (fun c v _ q=>k c v q) (fun c q=>by rw[bN (dD q hn)];exact q) fun c xs q=>by rw[bN (dD q hn)];exact q
end
def Rd(H:Hp)(a:Addr)(u:HO):Prop:=H a=some u\/∃o,H a=some (.frz o u)
theorem Rd.ok{P:Program}{w:World}{H:Hp}{h:Heap}{a:Addr}{u:HO}(r:Rd H a u)(x:HOk P w H h):dS P w H h a u:=by
 rcases r with r|⟨o,r⟩
 ·exact x a u r
 ·obtain⟨_,q⟩:=x a _ r
  exact q
def Mut:Option HO->Prop
 |some (.lst _)=>True
 |some (.dK _)=>True
 |some (.dT _)=>True
 |some (.set _ _)=>True
 |some (.ins _ _ _)=>True
 |some (.ext _)=>True
 |_=>False
section
variable{P:Program}{w:World}{H:Hp}{h h':Heap}{x e:Addr}{o':HO}
theorem HOk.write(ok:HOk P w H h)(mu:Mut (H x))(he:e=x\/H e=some (.own x))(k:∀b u,b≠e->h.get? b=some u->h'.get? b=some u)(heo:∃u,h'.get? e=some u)
  (new:dS P w (upd H x o') h' x o'):HOk P w (upd H x o') h':=fun b u q=>by
 have nown:∀c y,H c=some (.own y)->c≠x:=fun c y r z=>by subst z;rw[r]at mu;exact mu
 have ntup:∀c xs,H c=some (.tup xs)->c≠x:=fun c xs r z=>by subst z;rw[r]at mu;exact mu
 by_cases hb:b=x
 ·subst hb;rw[aX]at q;cases q;exact new
 ·rw[bN hb]at q
  by_cases hbe:b=e
  ·have q':H b=some (.own x):=by
    rcases he with z|z
    ·exact absurd (hbe.trans z) hb
    ·rw[hbe];exact z
   rw[q]at q';cases q'
   obtain⟨v,hv⟩:=heo
   exact⟨v,by rw[hbe];exact hv⟩
  ·refine(ok b u q).stay (fun c v hc r=>k c v ?_ r) (fun c r=>by rw[bN (nown c b r)];exact r) fun c xs r=>by rw[bN (ntup c xs r)];exact r
   rcases hc with rfl|hc
   ·exact hbe
   ·rintro rfl
    rcases he with z|z
    ·exact nown c b hc z
    ·rw[hc]at z;cases z;exact hb rfl
end
structure Un(fs ex:List Addr)(H H':Hp)(h h':Heap):Prop where
 keep:∀b o,h.get? b=some o->H b=none->b∉fs->b∉ex->h'.get? b=some o
 slot:∀b o,h.get? b=some o->H b=none->b∈fs->b∉ex->∃sl,h'.get? b=some { o with slots:=sl }
 free:∀b o,h.get? b=some o->H b=none->b∉ex->H' b=none
 there:∀b o,h.get? b=some o->b∉ex->∃o',h'.get? b=some o'
 tups:∀b xs,H b=some (.tup xs)->H' b=some (.tup xs)
 frzs:∀b o u,H b=some (.frz o u)->H' b=some (.frz o u)
 tbls:∀b ps,H b=some (.tbl ps)->∃more,H' b=some (.tbl (ps++more))
section
variable{fs fs' ex ex':List Addr}{H H1 H2:Hp}{h h1 h2 h':Heap}{a x e:Addr}{o:HO}
theorem Un.any(u:Un fs ex H H1 h h1){b:Addr}{ob:Obj}(q:h.get? b=some ob)(n:H b=none)(hx:b∉ex):∃sl,h1.get? b=some { ob with slots:=sl }:=by
 by_cases hb:b∈fs
 ·exact u.slot b ob q n hb hx
 ·exact⟨ob.slots,u.keep b ob q n hb hx⟩
theorem Un.kept(k:∀b u,h.get? b=some u->h'.get? b=some u):Un fs ex H H h h':=
 ⟨fun b ob q _ _ _=>k b ob q,fun b ob q _ _ _=>⟨ob.slots,k b ob q⟩,fun _ _ _ n _=>n,fun b ob q _=>⟨ob,k b ob q⟩,fun _ _ q=>q,fun _ _ _ q=>q,fun _ ps q=>⟨#[],by rw[q];simp⟩⟩
theorem Un.refl:Un fs ex H H h h:=Un.kept fun _ _ q=>q
theorem Un.laid(k:∀b u,h.get? b=some u->h'.get? b=some u)(hp:h.objs.size<=a)(hn:H a=none):Un fs ex H (upd H a o) h h' where
 keep:=fun b u q _ _ _=>k b u q
 slot:=fun b u q _ _ _=>⟨u.slots,k b u q⟩
 free:=fun b u q n _=>by rw[bN (Nat.ne_of_lt (Nat.lt_of_lt_of_le (Heap.lt_size q) hp))];exact n
 there:=fun b u q _=>⟨u,k b u q⟩
 tups:=fun b xs q=>by rw[bN (dD q hn)];exact q
 frzs:=fun b u xs q=>by rw[bN (dD q hn)];exact q
 tbls:=fun b ps q=>⟨#[],by rw[bN (dD q hn),q];simp⟩
theorem Un.write(mu:Mut (H x))(he:e=x\/H e=some (.own x))(k:∀b u,b≠e->h.get? b=some u->h'.get? b=some u)(heo:∃u,h'.get? e=some u):Un fs ex H (upd H x o) h h':=by
 have hx:∀b,H b=none->b≠x:=fun b n z=>by subst z;rw[n]at mu;exact mu
 have hb:∀b,H b=none->b≠e:=fun b n z=>by
  subst z
  rcases he with r|r
  ·exact hx b n r
  ·rw[n]at r;cases r
 have hm:∀b u,H b=some u->¬Mut (some u)->b≠x:=fun b u q nm z=>by subst z;rw[q]at mu;exact nm mu
 refine⟨fun b u q n _ _=>k b u (hb b n) q,fun b u q n _ _=>⟨u.slots,k b u (hb b n) q⟩,fun b u q n _=>by rw[bN (hx b n)];exact n,fun b u q _=>?_,
  fun b xs q=>by rw[bN (hm b _ q fun z=>z)];exact q,fun b u xs q=>by rw[bN (hm b _ q fun z=>z)];exact q,fun b ps q=>⟨#[],by rw[bN (hm b _ q fun z=>z),q];simp⟩⟩
 by_cases hbe:b=e
 ·subst hbe;exact heo
 ·exact⟨u,k b u hbe q⟩
end
def trk(h:Heap)(H:Hp):List Addr:=(List.range h.objs.size).filter fun a=>(H a).isSome
def Du(h:Heap)(H:Hp):Heap:=PySem.W.hideAll h (trk h H)
theorem Aw(h:Heap)(H:Hp):(Du h H).objs.size=h.objs.size:=PySem.W.hideAll_size _ _
theorem Dr{h:Heap}{H:Hp}{b:Addr}{o:Obj}(e:h.get? b=some o)(n:H b=none):(Du h H).get? b=some o:=
 PySem.W.hideAll_get _ e fun hm=>by
  have q:(H b).isSome=true:=(List.mem_filter.mp hm).2
  rw[n]at q;simp at q
theorem GU{h:Heap}{H:Hp}{b:Addr}{o:Obj}(e:(Du h H).get? b=some o):h.get? b=some o/\H b=none:=by
 have e':h.get? b=some o:=PySem.W.of_hideAll (trk h H) e
 refine⟨e',?_⟩
 cases q:H b with
 |none=>rfl
 |some x=>
  have hm:b∈trk h H:=List.mem_filter.mpr ⟨List.mem_range.mpr (Heap.lt_size e'),by simp[q]⟩
  have z:(Du h H).get? b=none:=PySem.W.hideAll_none (trk h H) hm
  rw[z]at e;cases e
structure Mod(K:PySem.W.Frag)(mg:Str->Option Value)(base:Heap):Prop where
 kin:K.In base
 glob:base.Ns mainGlobals mg
 blt:∃mb,base.Ns builtinsNs mb/\∀x:Str,x≠"__name__"->mb x=bootBuiltins x
 nolimit:base.NoLimit
structure Cx where
 prog:Program
 w:World
 K:PySem.W.Frag
 mg:Str->Option Value
 base:Heap
 A:Around
 N:List Str
 s₀:Shared
 H₀:Hp
 env:Env
 outer:List Env
 stack:List Env
 ex:List Addr
 fn:Str->Bool
 calm:Bool
 pn:List (Addr×Obj)
 xe:Value->Shared->Prop
def frs(l:List Env):List Addr:=l.filterMap (·.frame)
abbrev Cx.fs(X:Cx):List Addr:=frs X.outer
def Vis(sc:Scope)(x:Str):Prop:=sc.names.lookup x=some .local\/sc.names.lookup x=some .cell\/sc.names.lookup x=some .free
def Loc(sc:Scope)(x:Str):Prop:=sc.names.lookup x=some .local\/sc.names.lookup x=some .cell
def OE(env:Env)(h:Heap)(m:Str->Option Value)(x:Str)(u:Value):Prop:=
 (env.kindOf x=some .local/\m x=some u)\/((env.kindOf x=some .cell\/env.kindOf x=some .free)/\∃c,env.cells.lookup x=some c/\h.IsCell c (some u))
structure Cx.Ok(X:Cx):Prop where
 mod:Mod X.K X.mg X.base
 kind:X.env.scope.kind=.function
 glob:X.env.globals=mainGlobals
 blt:X.env.builtins=builtinsNs
 above:X.s₀.heap.objs.size<=X.env.locals
 inj:∀x y c,X.env.cells.lookup x=some c->X.env.cells.lookup y=some c->x=y
 has:∀x,(X.env.kindOf x=some .cell\/X.env.kindOf x=some .free)->∃c,X.env.cells.lookup x=some c
 cab:∀x c,X.fn x=true->X.env.cells.lookup x=some c->X.s₀.heap.objs.size<=c
 hd:X.calm=true->X.A.handled=none
 frames:X.A.frames=some X.stack
 stk:X.stack=X.outer\/(X.stack=X.env::X.outer/\X.env.frame=some X.env.locals)
 exf:∀b∈X.ex,b≠X.env.locals/\∀x c,X.env.cells.lookup x=some c->c≠b
 bs:∀b o,X.base.get? b=some o->X.s₀.heap.get? b=some o/\X.H₀ b=none
 bsz:X.base.objs.size<=X.s₀.heap.objs.size
 noex:∀b o,X.base.get? b=some o->b∉X.ex
 exfs:∀b∈X.ex,b∉X.fs
 funs:X.s₀.heap.FunFrames X.base X.outer
 frf:∀b∈X.fs,X.H₀ b=none
structure Inv(X:Cx)(pins:List (Addr×Obj))(σ:List (Option V))(H:Hp)(s:Shared):Prop where
 ok:X.Ok
 os:s.os=X.s₀.os
 bare:AllBare s.gens
 base:Un X.fs X.ex X.H₀ H X.s₀.heap s.heap
 loc:∃m,s.heap.Ns X.env.locals m/\∀(i:Nat) (x:Str) (v:V),X.N[i]?=some x->σ[i]?=some (some v)->Vis X.env.scope x->∃u,dJ v u/\OE X.env s.heap m x u
 cell:∀x c,X.env.cells.lookup x=some c->∃v,s.heap.IsCell c v
 free:H X.env.locals=none
 freeC:∀x c,X.env.cells.lookup x=some c->H c=none
 pin:∀p∈X.pn++pins,s.heap.get? p.1=some p.2/\H p.1=none/\p.1≠X.env.locals/\p.1∉X.fs/\∀v,p.2.data≠.cell v
 hok:HOk X.prog X.w H s.heap
 len:σ.length=X.N.length
section
variable{X:Cx}{pins:List (Addr×Obj)}{σ:List (Option V)}{H H':Hp}{s:Shared}{h':Heap}
theorem Cx.Ok.nofr(ok:X.Ok){b:Addr}{o:Obj}(e:X.base.get? b=some o):b∉X.fs:=fun hb=>by
 have:=(ok.funs.mem hb).1
 rw[e]at this;cases this
theorem Inv.bs(I:Inv X pins σ H s):∀b o,X.base.get? b=some o->s.heap.get? b=some o/\H b=none:=fun b o e=>
 ⟨I.base.keep b o (I.ok.bs b o e).1 (I.ok.bs b o e).2 (I.ok.nofr e) (I.ok.noex b o e),I.base.free b o (I.ok.bs b o e).1 (I.ok.bs b o e).2 (I.ok.noex b o e)⟩
theorem Inv.bk(I:Inv X pins σ H s):∀b o,X.base.get? b=some o->s.heap.get? b=some o:=fun b o e=>(I.bs b o e).1
theorem Inv.mod(I:Inv X pins σ H s):Mod X.K X.mg X.base:=I.ok.mod
theorem Inv.kIn(I:Inv X pins σ H s):X.K.In s.heap:=I.ok.mod.kin.keeps I.bk
theorem Inv.lt(I:Inv X pins σ H s):X.env.locals<s.heap.objs.size:=let ⟨_,hn,_⟩:=I.loc;hn.lt
theorem Inv.sz(I:Inv X pins σ H s):X.s₀.heap.objs.size<=s.heap.objs.size:=Nat.le_trans I.ok.above (Nat.le_of_lt I.lt)
theorem Inv.nofs(I:Inv X pins σ H s){a:Addr}(h:s.heap.objs.size<=a):a∉X.fs:=fun hb=>by
 obtain⟨_,o,ho,_⟩:=I.ok.funs.mem hb
 exact absurd (Nat.lt_of_lt_of_le (Heap.lt_size ho) (Nat.le_trans I.sz h)) (Nat.lt_irrefl _)
theorem Inv.cne(I:Inv X pins σ H s):∀x c,X.env.cells.lookup x=some c->c≠X.env.locals:=fun x c e z=>by
 obtain⟨v,o,ho,hd⟩:=I.cell x c e
 obtain⟨m,⟨o',es,ep,ho',hd',_⟩,_⟩:=I.loc
 rw[z,ho']at ho;cases ho;rw[hd']at hd;cases hd
theorem Inv.funs(I:Inv X pins σ H s):s.heap.FunFrames X.base X.outer:=by
 have all:∀(l:List Env),(∀b∈frs l,b∈X.fs)->X.s₀.heap.FunFrames X.base l->s.heap.FunFrames X.base l:=by
  intro l
  induction l with
  |nil=>intro _ _;trivial
  |cons env r ih=>
   intro hs hl
   obtain⟨hk,⟨L,o,hf,hn,ho,hd⟩,hr⟩:=hl
   have hL:L∈X.fs:=hs L (by unfold frs;rw[List.filterMap_cons,hf];exact List.mem_cons_self)
   obtain⟨sl,e⟩:=I.base.slot L o ho (I.ok.frf L hL) hL fun z=>I.ok.exfs L z hL
   exact⟨hk,⟨L,_,hf,hn,e,hd⟩,ih (fun b hb=>hs b (by unfold frs;rw[List.filterMap_cons,hf];exact List.mem_cons_of_mem _ hb)) hr⟩
 exact all X.outer (fun _ hb=>hb) I.ok.funs
theorem Inv.stack(I:Inv X pins σ H s):s.heap.FunFrames X.base X.stack:=by
 rcases I.ok.stk with e|⟨e,hf⟩
 ·rw[e];exact I.funs
 ·rw[e]
  obtain⟨m,hn,_⟩:=I.loc
  refine .cons (by rw[I.ok.kind];decide) hf hn ?_ I.funs
  exact Heap.get?_none_of_le (Nat.le_trans I.ok.bsz I.ok.above)
theorem Inv.stkSub(I:Inv X pins σ H s):∀b∈frs X.stack,b∈X.env.locals::X.fs:=fun b hb=>by
 rcases I.ok.stk with e|⟨e,hf⟩
 ·rw[e]at hb;exact List.mem_cons_of_mem _ hb
 ·rw[e]at hb
  unfold frs at hb
  rw[List.filterMap_cons,hf]at hb
  exact hb
theorem Inv.stkFree(I:Inv X pins σ H s):∀b∈frs X.stack,H b=none:=fun b hb=>by
 rcases List.mem_cons.mp (I.stkSub b hb)with e|hb
 ·rw[e];exact I.free
 ·obtain⟨_,o,ho,_⟩:=I.ok.funs.mem hb
  exact I.base.free b o ho (I.ok.frf b hb) fun z=>I.ok.exfs b z hb
theorem Inv.step{g':Array GenState}{t':Nat}{d':Drawn}{ch:List Addr}(I:Inv X pins σ H s)
  (hch:∀b∈ch,(b∈X.ex\/X.s₀.heap.objs.size<=b)/\b≠X.env.locals/\(∀x c,X.env.cells.lookup x=some c->c≠b)/\∀p∈X.pn++pins,p.1≠b)
  (keep:∀b o,b≠X.env.locals->b∉X.fs->b∉ch->s.heap.get? b=some o->H b=none->h'.get? b=some o)
  (slot:∀b o,b≠X.env.locals->b∈X.fs->b∉ch->s.heap.get? b=some o->H b=none->∃sl,h'.get? b=some { o with slots:=sl }) (free:∀b o,b∉ch->s.heap.get? b=some o->H b=none->H' b=none)
  (there:∀b o,b∉ch->s.heap.get? b=some o->∃o',h'.get? b=some o')
  (tups:∀b xs,H b=some (.tup xs)->H' b=some (.tup xs)) (frzs:∀b o u,H b=some (.frz o u)->H' b=some (.frz o u)) (tbls:∀b ps,H b=some (.tbl ps)->∃more,H' b=some (.tbl (ps++more)))
  (ns:∀m,s.heap.Ns X.env.locals m->h'.Ns X.env.locals m) (hok:HOk X.prog X.w H' h') (hg:AllBare g') :
  Inv X pins σ H' { s with heap:=h',gens:=g',drawn:=d',toks:=t' }:=by
 have neL:∀b o,X.s₀.heap.get? b=some o->b≠X.env.locals:=fun b o e=>Nat.ne_of_lt (Nat.lt_of_lt_of_le (Heap.lt_size e) I.ok.above)
 have neC:∀b o,X.s₀.heap.get? b=some o->b∉X.ex->b∉ch:=fun b o e hx hb=>by
  rcases(hch b hb).1 with z|z
  ·exact hx z
  ·exact absurd (Nat.lt_of_lt_of_le (Heap.lt_size e) z) (Nat.lt_irrefl _)
 have cellK:∀x c,X.env.cells.lookup x=some c->∀v,s.heap.IsCell c v->h'.IsCell c v:=fun x c e v ⟨o,ho,hd⟩=>by
  have nch:c∉ch:=fun z=>(hch c z).2.2.1 x c e rfl
  by_cases hc:c∈X.fs
  ·obtain⟨sl,q⟩:=slot c o (I.cne x c e) hc nch ho (I.freeC x c e)
   exact⟨_,q,hd⟩
  ·exact⟨o,keep c o (I.cne x c e) hc nch ho (I.freeC x c e),hd⟩
 refine⟨I.ok,I.os,hg,⟨fun b o e n hb hx=>?_,fun b o e n hb hx=>?_,fun b o e n hx=>?_,fun b o e hx=>?_,fun b xs e=>tups b xs (I.base.tups b xs e),fun b o xs e=>frzs b o xs (I.base.frzs b o xs e),fun b ps e=>?_⟩,?_,fun x c e=>?_,?_,fun x c e=>?_,fun p hp=>?_,hok,I.len⟩
 ·exact keep b o (neL b o e) hb (neC b o e hx) (I.base.keep b o e n hb hx) (I.base.free b o e n hx)
 ·obtain⟨sl,e1⟩:=I.base.slot b o e n hb hx
  obtain⟨sl',e2⟩:=slot b _ (neL b o e) hb (neC b o e hx) e1 (I.base.free b o e n hx)
  exact⟨sl',e2⟩
 ·obtain⟨o',e1⟩:=I.base.there b o e hx
  exact free b o' (neC b o e hx) e1 (I.base.free b o e n hx)
 ·obtain⟨o',e1⟩:=I.base.there b o e hx
  exact there b o' (neC b o e hx) e1
 ·obtain⟨m1,e1⟩:=I.base.tbls b ps e
  obtain⟨m2,e2⟩:=tbls b _ e1
  exact⟨m1++m2,by rw[e2,Array.append_assoc]⟩
 ·obtain⟨m,hn,hl⟩:=I.loc
  refine⟨m,ns m hn,fun i x v e1 e2 e3=>?_⟩
  obtain⟨u,r,l⟩:=hl i x v e1 e2 e3
  refine⟨u,r,?_⟩
  rcases l with l|⟨k,c,e,z⟩
  ·exact .inl l
  ·exact .inr ⟨k,c,e,cellK x c e _ z⟩
 ·obtain⟨v,z⟩:=I.cell x c e
  exact⟨v,cellK x c e v z⟩
 ·obtain⟨m,⟨o,_,_,ho,_⟩,_⟩:=I.loc
  exact free _ o (fun z=>(hch _ z).2.1 rfl) ho I.free
 ·obtain⟨v,o,ho,hd⟩:=I.cell x c e
  exact free c o (fun z=>(hch c z).2.2.1 x c e rfl) ho (I.freeC x c e)
 ·obtain⟨e,n,ne,nf,d⟩:=I.pin p hp
  have nch:p.1∉ch:=fun z=>(hch p.1 z).2.2.2 p hp rfl
  exact⟨keep p.1 p.2 ne nf nch e n,free p.1 p.2 nch e n,ne,nf,d⟩
theorem Inv.un{t':Nat}(I:Inv X pins σ H s)(u:Un X.fs [] H H' s.heap h')(hok:HOk X.prog X.w H' h'):Inv X pins σ H' { s with heap:=h',toks:=t' }:=by
 obtain⟨m,⟨o,es,ep,ho,r⟩,_⟩:=id I.loc
 obtain⟨sl,hL⟩:=u.any ho I.free (by simp)
 exact I.step (g':=s.gens) (d':=s.drawn) (ch:=[]) (fun _ z=>nomatch z) (fun b o _ hb _ e n=>u.keep b o e n hb (by simp)) (fun b o _ hb _ e n=>u.slot b o e n hb (by simp)) (fun b o _ e n=>u.free b o e n (by simp)) (fun b o _ e=>u.there b o e (by simp)) u.tups u.frzs u.tbls (fun m' hm=>by
  obtain⟨o',es',ep',ho',r'⟩:=hm
  rw[ho]at ho';cases ho'
  exact⟨_,es',ep',hL,r'⟩) hok I.bare
theorem Inv.call{g':Array GenState}{t':Nat}{d':Drawn}{ch:List Addr}(I:Inv X pins σ H s)(u:Un (frs X.stack) ch H H' s.heap h')(hok:HOk X.prog X.w H' h')(hg:AllBare g')
  (hch:∀b∈ch,(b∈X.ex\/X.s₀.heap.objs.size<=b)/\b≠X.env.locals/\(∀x c,X.env.cells.lookup x=some c->c≠b)/\∀p∈X.pn++pins,p.1≠b) :
  Inv X pins σ H' { s with heap:=h',gens:=g',drawn:=d',toks:=t' }:=by
 obtain⟨m,⟨o,es,ep,ho,r⟩,_⟩:=id I.loc
 obtain⟨sl,hL⟩:=u.any ho I.free fun z=>(hch _ z).2.1 rfl
 exact I.step (ch:=ch) hch (fun b o hL hb hc e n=>u.keep b o e n (fun z=>(List.mem_cons.mp (I.stkSub b z)).elim hL hb) hc) (fun b o _ _ hc e n=>u.any e n hc) (fun b o hc e n=>u.free b o e n hc) (fun b o hc e=>u.there b o e hc) u.tups u.frzs u.tbls (fun m' hm=>by
  obtain⟨o',es',ep',ho',r'⟩:=hm
  rw[ho]at ho';cases ho'
  exact⟨_,es',ep',hL,r'⟩) hok hg
theorem Inv.turned{t':Nat}{it:Addr}(I:Inv X pins σ H s)(k:∀b o,b≠it->s.heap.get? b=some o->h'.get? b=some o)(hn:H it=none)(hL:it≠X.env.locals)
  (h1:it∈X.ex\/X.s₀.heap.objs.size<=it) (h2:∀x c,X.env.cells.lookup x=some c->c≠it) (h3:∀p∈X.pn++pins,p.1≠it):Inv X pins σ H { s with heap:=h',toks:=t' }:=by
 have nit:∀b u,H b=some u->b≠it:=fun b u e z=>by rw[z,hn]at e;cases e
 refine I.step (g':=s.gens) (d':=s.drawn) (ch:=[it]) (fun b hb=>?_) (fun b o _ _ hc e _=>k b o (fun z=>hc (by simp[z])) e) (fun b o _ _ hc e _=>⟨o.slots,k b o (fun z=>hc (by simp[z])) e⟩) (fun _ _ _ _ n=>n)
  (fun b o hc e=>⟨o,k b o (fun z=>hc (by simp[z])) e⟩) (fun _ _ e=>e) (fun _ _ _ e=>e) (fun b ps e=>⟨#[],by rw[e];simp⟩) (fun m hm=>?_) (fun b u e=>?_) I.bare
 ·have e:b=it:=by simpa using hb
  subst e
  exact⟨h1,hL,h2,h3⟩
 ·obtain⟨o,es,ep,ho,r⟩:=hm
  exact⟨o,es,ep,k _ o (Ne.symm hL) ho,r⟩
 ·refine(I.hok b u e).stay (fun c v hc q=>k c v ?_ q) (fun _ q=>q) fun _ _ q=>q
  rcases hc with z|z
  ·rw[z];exact nit b u e
  ·exact nit c _ z
theorem Inv.tok(I:Inv X pins σ H s)(t:Nat):Inv X pins σ H { s with toks:=t }:=I.un (h':=s.heap) (t':=t) Un.refl I.hok
theorem Inv.kept{t':Nat}(I:Inv X pins σ H s)(k:∀b u,s.heap.get? b=some u->h'.get? b=some u):Inv X pins σ H { s with heap:=h',toks:=t' }:=I.un (Un.kept k) (I.hok.kept k)
theorem Inv.laid{a:Addr}{o:HO}{t':Nat}(I:Inv X pins σ H s)(k:∀b u,s.heap.get? b=some u->h'.get? b=some u)(hp:s.heap.objs.size<=a)(new:dS X.prog X.w (upd H a o) h' a o) :
  Inv X pins σ (upd H a o) { s with heap:=h',toks:=t' }:=I.un (Un.laid k hp (I.hok.fresh hp)) (I.hok.laid k hp new)
theorem Inv.write{x e:Addr}{o:HO}{t':Nat}(I:Inv X pins σ H s)(mu:Mut (H x))(he:e=x\/H e=some (.own x))(k:∀b u,b≠e->s.heap.get? b=some u->h'.get? b=some u)(heo:∃u,h'.get? e=some u)
  (new:dS X.prog X.w (upd H x o) h' x o):Inv X pins σ (upd H x o) { s with heap:=h',toks:=t' }:=I.un (Un.write mu he k heo) (I.hok.write mu he k heo new)
theorem Inv.pins_of{pins':List (Addr×Obj)}(I:Inv X pins σ H s)(h:∀p∈pins',s.heap.get? p.1=some p.2/\H p.1=none/\p.1≠X.env.locals/\p.1∉X.fs/\∀v,p.2.data≠.cell v):Inv X pins' σ H s:=
 ⟨I.ok,I.os,I.bare,I.base,I.loc,I.cell,I.free,I.freeC,fun p hp=>(List.mem_append.mp hp).elim (fun z=>I.pin p (List.mem_append_left _ z)) (h p),I.hok,I.len⟩
theorem wL{N:List Str}(hN:N.Nodup){i j:Nat}{x:Str}(a:N[i]?=some x)(b:N[j]?=some x):i=j:=by
 obtain⟨h1,e1⟩:=List.getElem?_eq_some_iff.mp a
 obtain⟨h2,e2⟩:=List.getElem?_eq_some_iff.mp b
 exact(List.getElem_inj hN).mp (e1.trans e2.symm)
theorem tj{M:Model}{A:Around}{E:Value->Shared->Prop}{i:Nat}{x:Str}{v:V}{u:Value}{Q:Unit->Shared->Prop}(I:Inv X pins σ H s)(hN:X.N.Nodup)(hi:X.N[i]?=some x)(hx:Loc X.env.scope x)(r:dJ v u)
  (h:∀s',Inv X pins (σ.set i (some v)) H s'->(∃a,Heap.SameBut a s.heap s'.heap/\(a=X.env.locals\/X.env.cells.lookup x=some a))->Q () s') (hf:X.fn x=true\/X.env.scope.names.lookup x=some .local:=by first|exact .inl rfl|exact .inr rfl|assumption):wpAny M A (storeName X.env x u) Q E s:=by
 obtain⟨m,hn,hl⟩:=id I.loc
 have hcls:(X.env.scope.kind == .class||(X.env.scope.kind == .module&&X.env.locals !=X.env.globals))=false:=by rw[I.ok.kind];rfl
 have hiσ:i < σ.length:=by rw[I.len];exact(List.getElem?_eq_some_iff.mp hi).1
 have cne:=I.cne
 have tracked:∀{a:Addr} {h':Heap},(∃o,s.heap.get? a=some o/\H a=none)->Heap.SameBut a s.heap h'->HOk X.prog X.w H h':=fun{a h'} ha hs b ob e=>by
  obtain⟨_,_,hfree⟩:=ha
  refine(I.hok b ob e).stay (fun c w' hc q=>(hs.2 c ?_).trans q) (fun _ q=>q) fun _ _ q=>q
  rintro rfl
  rcases hc with rfl|hc
  ·rw[hfree]at e;cases e
  ·rw[hfree]at hc;cases hc
 rcases hx with hk|hk
 ·refine wpAny_storeName_local hk hn (fun h' hn' hs=>?_) hcls
  obtain⟨oL,_,_,hoL,_⟩:=id hn
  refine h _ ⟨I.ok,I.os,I.bare,⟨fun b o e n hb hx=>?_,fun b o e n hb hx=>?_,I.base.free,fun b o e hx=>?_,I.base.tups,I.base.frzs,I.base.tbls⟩,⟨_,hn',fun j y v' e1 e2 e3=>?_⟩,fun y c e=>?_,I.free,I.freeC,fun p hp=>?_,tracked ⟨oL,hoL,I.free⟩ hs,by simpa using I.len⟩ ⟨_,hs,.inl rfl⟩
  ·exact(hs.2 b (Nat.ne_of_lt (Nat.lt_of_lt_of_le (Heap.lt_size e) I.ok.above))).trans (I.base.keep b o e n hb hx)
  ·obtain⟨sl,e1⟩:=I.base.slot b o e n hb hx
   exact⟨sl,(hs.2 b (Nat.ne_of_lt (Nat.lt_of_lt_of_le (Heap.lt_size e) I.ok.above))).trans e1⟩
  ·obtain⟨o',e1⟩:=I.base.there b o e hx
   exact⟨o',(hs.2 b (Nat.ne_of_lt (Nat.lt_of_lt_of_le (Heap.lt_size e) I.ok.above))).trans e1⟩
  ·by_cases hj:j=i
   ·subst hj
    rw[hi]at e1;cases e1
    rw[List.getElem?_set_self hiσ]at e2
    cases e2
    exact⟨u,r,.inl ⟨hk,by simp⟩⟩
   ·rw[List.getElem?_set_ne (Ne.symm hj)]at e2
    obtain⟨u',r',q⟩:=hl j y v' e1 e2 e3
    refine⟨u',r',?_⟩
    rcases q with⟨k,e⟩|⟨k,c,e,z⟩
    ·refine .inl ⟨k,?_⟩
     have:y≠x:=fun e=>hj (wL hN e1 (e▸hi))
     simp[this,e]
    ·exact .inr ⟨k,c,e,z.sameBut hs (cne y c e)⟩
  ·obtain⟨w',z⟩:=I.cell y c e
   exact⟨w',z.sameBut hs (cne y c e)⟩
  ·obtain⟨e,n,ne,nf,d⟩:=I.pin p hp
   exact⟨(hs.2 p.1 ne).trans e,n,ne,nf,d⟩
 ·have hfn:X.fn x=true:=by
   rcases hf with z|z
   ·exact z
   ·rw[z]at hk;cases hk
  obtain⟨c,hc⟩:=I.ok.has x (.inl hk)
  obtain⟨w',z⟩:=I.cell x c hc
  refine wpAny_storeName_cell I.ok.kind hk hc z (fun h' hc' hs=>?_)
  obtain⟨oc,hoc,hocd⟩:=id z
  refine h { s with heap:=h' } ⟨I.ok,I.os,I.bare,⟨fun b o e n hb hx=>?_,fun b o e n hb hx=>?_,I.base.free,fun b o e hx=>?_,I.base.tups,I.base.frzs,I.base.tbls⟩,⟨m,hn.sameBut hs (Ne.symm (cne x c hc)),fun j y v' e1 e2 e3=>?_⟩,fun y c' e=>?_,I.free,I.freeC,fun p hp=>?_,tracked ⟨oc,hoc,I.freeC x c hc⟩ hs,by simpa using I.len⟩ ⟨c,hs,.inr hc⟩
  ·exact(hs.2 b (Nat.ne_of_lt (Nat.lt_of_lt_of_le (Heap.lt_size e) (I.ok.cab x c hfn hc)))).trans (I.base.keep b o e n hb hx)
  ·obtain⟨sl,e1⟩:=I.base.slot b o e n hb hx
   exact⟨sl,(hs.2 b (Nat.ne_of_lt (Nat.lt_of_lt_of_le (Heap.lt_size e) (I.ok.cab x c hfn hc)))).trans e1⟩
  ·obtain⟨o',e1⟩:=I.base.there b o e hx
   exact⟨o',(hs.2 b (Nat.ne_of_lt (Nat.lt_of_lt_of_le (Heap.lt_size e) (I.ok.cab x c hfn hc)))).trans e1⟩
  ·by_cases hj:j=i
   ·subst hj
    rw[hi]at e1;cases e1
    rw[List.getElem?_set_self hiσ]at e2
    cases e2
    exact⟨u,r,.inr ⟨.inl hk,c,hc,hc'⟩⟩
   ·rw[List.getElem?_set_ne (Ne.symm hj)]at e2
    obtain⟨u',r',q⟩:=hl j y v' e1 e2 e3
    refine⟨u',r',?_⟩
    rcases q with q|⟨k,c',e,z'⟩
    ·exact .inl q
    ·refine .inr ⟨k,c',e,z'.sameBut hs ?_⟩
     rintro rfl
     exact hj (wL hN e1 (I.ok.inj _ _ _ e hc▸hi))
  ·by_cases hcc:c'=c
   ·subst hcc;exact⟨_,hc'⟩
   ·obtain⟨w2,z2⟩:=I.cell y c' e
    exact⟨w2,z2.sameBut hs hcc⟩
  ·obtain⟨e,n,ne,nf,d⟩:=I.pin p hp
   refine⟨(hs.2 p.1 ?_).trans e,n,ne,nf,d⟩
   intro q
   rw[q,hoc]at e
   have q':oc=p.2:=Option.some.inj e
   exact d w' (by rw[<-q'];exact hocd)
theorem wg{M:Model}{A:Around}{E:Value->Shared->Prop}{i:Nat}{x:Str}{v:V}{u:Value}{Q:Unit->Shared->Prop}(I:Inv X pins σ H s)(hN:X.N.Nodup)(hi:X.N[i]?=some x)(hx:Loc X.env.scope x)(r:dJ v u)
  (h:∀s',Inv X pins (σ.set i (some v)) H s'->Q () s') (hf:X.fn x=true\/X.env.scope.names.lookup x=some .local:=by first|exact .inl rfl|exact .inr rfl|assumption):wpAny M A (storeName X.env x u) Q E s:=
 tj I hN hi hx r (fun s' I' _=>h s' I') hf
theorem Inv.call'{s':Shared}{ch:List Addr}(I:Inv X pins σ H s)(ho:s'.os=s.os)(u:Un (frs X.stack) ch H H' s.heap s'.heap)(hok:HOk X.prog X.w H' s'.heap)(hg:AllBare s'.gens)
  (hch:∀b∈ch,(b∈X.ex\/X.s₀.heap.objs.size<=b)/\b≠X.env.locals/\(∀x c,X.env.cells.lookup x=some c->c≠b)/\∀p∈X.pn++pins,p.1≠b):Inv X pins σ H' s':=by
 obtain⟨h',g',d',t',o'⟩:=s'
 have e:o'=s.os:=ho
 subst e
 exact I.call (g':=g') (t':=t') (d':=d') u hok hg hch
end
abbrev XK:=Value->Option Addr->Hp->Prop
abbrev St:=List (Option V)
abbrev VK:=V->Hp->Prop
abbrev TE:=St->Hp->VK->Prop
abbrev TT:=St->Hp->(Bool->Hp->Prop)->Prop
abbrev TA:=St->Hp->(List V->Hp->Prop)->Prop
structure BN where
 nx:St->Hp->Prop
 rt:VK
 bk:St->Hp->Prop:=fun _ _=>False
 ct:St->Hp->Prop:=fun _ _=>False
abbrev TS:=BN->St->Hp->Prop
def EP(X:Cx)(pins:List (Addr×Obj))(σ:St)(Q:VK)(u:Value)(s':Shared):Prop:=∃v H',Inv X pins σ H' s'/\dJ v u/\Q v H'
def TP(X:Cx)(pins:List (Addr×Obj))(σ:St)(Q:Bool->Hp->Prop)(b:Bool)(s':Shared):Prop:=∃H',Inv X pins σ H' s'/\Q b H'
def AP(X:Cx)(pins:List (Addr×Obj))(σ:St)(Q:List V->Hp->Prop)(us:List Value)(s':Shared):Prop:=∃vs H',Inv X pins σ H' s'/\cE vs us/\Q vs H'
def SP(X:Cx)(pins:List (Addr×Obj))(D:BN)(f:Flow)(s':Shared):Prop:=
 match f with
 |.next=>∃σ' H',Inv X pins σ' H' s'/\D.nx σ' H'
 |.brk=>∃σ' H',Inv X pins σ' H' s'/\D.bk σ' H'
 |.cont=>∃σ' H',Inv X pins σ' H' s'/\D.ct σ' H'
 |.ret u=>∃v σ' H',Inv X pins σ' H' s'/\dJ v u/\D.rt v H'
def PE(X:Cx)(e:Expr)(t:TE):Prop:=
 ∀(pins:List (Addr×Obj)) (s:Shared) (σ:St) (H:Hp) (Q:VK),Inv X pins σ H s->t σ H Q->wpAny (model X.prog X.w) X.A (eval e X.env) (EP X pins σ Q) X.xe s
def PT(X:Cx)(e:Expr)(t:TT):Prop:=
 ∀(pins:List (Addr×Obj)) (s:Shared) (σ:St) (H:Hp) (Q:Bool->Hp->Prop),Inv X pins σ H s->t σ H Q->wpAny (model X.prog X.w) X.A (isTrue e X.env (eval e X.env)) (TP X pins σ Q) X.xe s
def PW(X:Cx)(e:Expr)(t:TT):Prop:=
 ∀(whole:Sem Value) (pins:List (Addr×Obj)) (s:Shared) (σ:St) (H:Hp) (Q:Bool->Hp->Prop),Inv X pins σ H s->t σ H Q->wpAny (model X.prog X.w) X.A (isTrue e X.env whole) (TP X pins σ Q) X.xe s
theorem PW.pt{X:Cx}{e:Expr}{t:TT}(h:PW X e t):PT X e t:=h _
def PA(X:Cx)(es:List Expr)(t:TA):Prop:=
 ∀(pos:Pos) (pins:List (Addr×Obj)) (s:Shared) (σ:St) (H:Hp) (Q:List V->Hp->Prop),Inv X pins σ H s->t σ H Q->wpAny (model X.prog X.w) X.A (spliced (backTo pos (starEach es X.env))) (AP X pins σ Q) X.xe s
def PS(X:Cx)(st:Stmt)(t:TS):Prop:=
 ∀(pins:List (Addr×Obj)) (s:Shared) (σ:St) (H:Hp) (D:BN),Inv X pins σ H s->t D σ H->wpAny (model X.prog X.w) X.A (exec st X.env) (SP X pins D) X.xe s
def PSs(X:Cx)(st:List Stmt)(t:TS):Prop:=
 ∀(pins:List (Addr×Obj)) (s:Shared) (σ:St) (H:Hp) (D:BN),Inv X pins σ H s->t D σ H->wpAny (model X.prog X.w) X.A (execs st X.env) (SP X pins D) X.xe s
theorem thn{α:Type}{t:Sem α}{Q Q':α->Shared->Prop}{M:Model}{A:Around}{E:Value->Shared->Prop}{s:Shared}(h:wpAny M A t Q E s)(hQ:∀a s,Q a s->Q' a s):wpAny M A t Q' E s:=wpAny_mono h hQ fun _ _ x=>x
section
variable{X:Cx}
def Lf(i:Nat):TE:=fun σ H Q=>∃v,σ[i]?=some (some v)/\Q v H
def tC(v:V):TE:=fun _ H Q=>Q v H
theorem JN{i:Nat}{x:Str}{pos:Pos}(hN:X.N[i]?=some x)(hv:Vis X.env.scope x)(hd:(x == ("__debug__":Str))=false:=by decide)(hcd:(x == ("__classdict__":Str))=false:=by decide):PE X (.Name x pos) (Lf i):=by
 intro pins s σ H Q I h
 obtain⟨v,e,h⟩:=h
 obtain⟨m,hn,hl⟩:=I.loc
 obtain⟨u,r,l⟩:=hl i x v hN e hv
 have fin:EP X pins σ Q u s:=⟨v,H,I,r,h⟩
 rcases l with⟨hk,hm⟩|⟨hk,c,hc,hcell⟩
 ·exact wpAny_Name (wpAny_loadName_local I.ok.kind hk hn hm fin) hd
 ·rcases hk with hk|hk
  ·exact wpAny_Name (wpAny_loadName_cell I.ok.kind hk hc hcell fin) hd
  ·exact wpAny_Name (wpAny_loadName_free I.ok.kind hk hc hcell fin hcd) hd
theorem JU{i j pos}:PE X (.Constant (.int i) j pos) (tC (.int i)):=fun _ _ _ H _ I h=>wpAny_Constant_int ⟨.int i,H,I.tok _,⟨_,rfl⟩,h⟩
theorem MH{b j pos}:PE X (.Constant (.bool b) j pos) (tC (.bl b)):=fun _ _ _ H _ I h=>Constant_bool ⟨.bl b,H,I,rfl,h⟩
theorem JS{j pos}:PE X (.Constant .none j pos) (tC .non):=fun _ _ _ H _ I h=>Constant_none ⟨.non,H,I,rfl,h⟩
theorem JP{x j pos}:PE X (.Constant (.str x) j pos) (tC (.str x)):=fun _ _ _ H _ I h=>Calls.Constant_str ⟨.str x,H,I.tok _,⟨_,rfl⟩,h⟩
def Gl(X:Cx)(x:Str):Prop:=X.env.kindOf x=some .globalImplicit
theorem rP{E:Value->Shared->Prop}{pins:List (Addr×Obj)}{s:Shared}{σ:St}{H:Hp}{x:Str}{u:Value}{pos:Pos}{Q:Value->Shared->Prop}(I:Inv X pins σ H s)(hg:Gl X x)(hm:X.mg x=some u)(h:Q u s)
  (hd:(x == ("__debug__":Str))=false:=by decide):wpAny (model X.prog X.w) X.A (eval (.Name x pos) X.env) Q E s:=
 Calls.Name_function_global I.ok.kind hg (Calls.loadGlobal_global (by rw[I.ok.glob];exact I.mod.glob.keeps I.bk) hm h) hd
theorem oW{E:Value->Shared->Prop}{pins:List (Addr×Obj)}{s:Shared}{σ:St}{H:Hp}{x:Str}{u:Value}{pos:Pos}{Q:Value->Shared->Prop}(I:Inv X pins σ H s)(hg:Gl X x)(hm:X.mg x=none)(hv:bootBuiltins x=some u)(h:Q u s)
  (hn:x≠"__name__":=by decide) (hd:(x == ("__debug__":Str))=false:=by decide):wpAny (model X.prog X.w) X.A (eval (.Name x pos) X.env) Q E s:=by
 obtain⟨mb,h1,h2⟩:=I.mod.blt
 exact Calls.Name_function_global I.ok.kind hg (Calls.loadGlobal_builtin (by rw[I.ok.glob];exact I.mod.glob.keeps I.bk) hm (by rw[I.ok.blt];exact h1.keeps I.bk) ((h2 x hn).trans hv) h) hd
theorem GD{x:Str}{v:V}{u:Value}{pos:Pos}(hg:Gl X x)(hm:X.mg x=some u)(r:dJ v u)(hd:(x == ("__debug__":Str))=false:=by decide):PE X (.Name x pos) (tC v):=
 fun _ _ _ H _ I h=>rP I hg hm ⟨v,H,I,r,h⟩ hd
theorem GI{x:Str}{v:V}{u:Value}{pos:Pos}(hg:Gl X x)(hm:X.mg x=none)(hv:bootBuiltins x=some u)(r:dJ v u)(hn:x≠"__name__":=by decide)(hd:(x == ("__debug__":Str))=false:=by decide):PE X (.Name x pos) (tC v):=
 fun _ _ _ H _ I h=>oW I hg hm hv ⟨v,H,I,r,h⟩ hn hd
variable{a b:Expr}{ta tb:TE}{pos:Pos}
def PC(X:Cx)(op:CmpOp)(a b:Expr)(t:TE):Prop:=
 ∀(pins:List (Addr×Obj)) (s:Shared) (σ:St) (H:Hp) (Q:VK),Inv X pins σ H s->t σ H Q->
  wpAny (model X.prog X.w) X.A (eval a X.env) (fun v s₁=>wpAny (model X.prog X.w) X.A (eval b X.env) (fun u s₂=>wpAny (model X.prog X.w) X.A (compareOp op v u) (EP X pins σ Q) X.xe s₂) X.xe s₁) X.xe s
def tB(t:TE):TT:=fun σ H Q=>t σ H fun x H1=>∃c,x=.bl c/\Q c H1
theorem JW{op:CmpOp}{t:TE}(h:PC X op a b t)(h1:behindInMarks op b=false:=by first|exact nobehind _ (by decide) (by decide)|rfl):PE X (.Compare a [op] [b] pos) t:=fun pins s σ H Q I hw=>wpAny_Compare1 (h pins s σ H Q I hw) h1
theorem JD{op:CmpOp}{t:TE}(h:PC X op a b t)(h1:behindInMarks op b=false:=by first|exact nobehind _ (by decide) (by decide)|rfl):PT X (.Compare a [op] [b] pos) (tB t):=by
 intro pins s σ H Q I hw
 refine wpAny_isTrue_Compare1 (thn (h pins s σ H _ I hw) fun v s1 h1=>thn h1 fun u s2 h2=>thn h2 fun c s3 hz=>?_) h1
 obtain⟨x,H1,I1,r1,q1⟩:=hz
 obtain⟨d,rfl,q⟩:=q1
 cases r1
 exact wpAny_truthy_bool ⟨H1,I1,q⟩
theorem JB{e:Expr}{t:TE}(h:PE X e t)(he:∀whole,isTrue e X.env whole=(do let v <-whole;standAt e.pos;holding [v] (truthy v)):=by intro _;rfl):PT X e (tB t):=by
 intro pins s σ H Q I hw
 refine isTrue_plain (thn (h pins s σ H _ I hw) fun v s1 ⟨x,H1,I1,r1,q1⟩=>?_) (he _)
 obtain⟨d,rfl,q⟩:=q1
 cases r1
 exact wpAny_truthy_bool ⟨H1,I1,q⟩
variable{tA tB':TT}{rest:List Expr}
def Nw(t u:TT):TT:=fun σ H Q=>t σ H fun c H1=>if c=true then u σ H1 Q else Q false H1
def tOr(t u:TT):TT:=fun σ H Q=>t σ H fun c H1=>if c=true then Q true H1 else u σ H1 Q
def Nq(t:TT):TT:=fun σ H Q=>t σ H fun c H1=>Q (!c) H1
theorem Gk(ha:PT X a tA):PW X (.BoolOp .And [a] pos) tA:=by
 intro wh pins s σ H Q I h
 refine isTrue_and (thn (ha pins s σ H Q I h) fun c s1 e=>?_)
 cases c with
 |true=>exact isTrue_and_nil e
 |false=>exact e
theorem Jz(ha:PT X a tA):PW X (.BoolOp .Or [a] pos) tA:=by
 intro wh pins s σ H Q I h
 refine isTrue_or (thn (ha pins s σ H Q I h) fun c s1 e=>?_)
 cases c with
 |false=>exact isTrue_or_nil e
 |true=>exact e
theorem JA(ha:PT X a tA)(hb:PW X (.BoolOp .And (b::rest) pos) tB'):PW X (.BoolOp .And (a::b::rest) pos) (Nw tA tB'):=by
 intro wh pins s σ H Q I h
 refine isTrue_and (thn (ha pins s σ H _ I h) fun c s1 ⟨H1,I1,q1⟩=>?_)
 cases c with
 |true=>exact hb wh pins s1 σ H1 Q I1 q1
 |false=>exact⟨H1,I1,q1⟩
theorem MA(ha:PT X a tA)(hb:PW X (.BoolOp .Or (b::rest) pos) tB'):PW X (.BoolOp .Or (a::b::rest) pos) (tOr tA tB'):=by
 intro wh pins s σ H Q I h
 refine isTrue_or (thn (ha pins s σ H _ I h) fun c s1 ⟨H1,I1,q1⟩=>?_)
 cases c with
 |true=>exact⟨H1,I1,q1⟩
 |false=>exact hb wh pins s1 σ H1 Q I1 q1
theorem JC(ha:PT X a tA):PT X (.UnaryOp .Not a pos) (Nq tA):=by
 intro pins s σ H Q I h
 exact isTrue_not (ha pins s σ H (fun c H1=>Q (!c) H1) I h)
def Jo(ta tb:TE):TE:=fun σ H Q=>ta σ H fun x H1=>∃c,x=.bl c/\if c=true then tb σ H1 Q else Q (.bl false) H1
def Jh(ta:TE):TE:=fun σ H Q=>ta σ H fun x H1=>∃c,x=.bl c/\Q (.bl (!c)) H1
theorem JQ{op}{t:TE}(h:PE X a t):PE X (.BoolOp op [a] pos) t:=fun pins s σ H Q I hw=>BoolOp_one (h pins s σ H Q I hw)
theorem JY(ha:PE X a ta)(hb:PE X (.BoolOp .And (b::rest) pos) tb):PE X (.BoolOp .And (a::b::rest) pos) (Jo ta tb):=by
 intro pins s σ H Q I h
 refine BoolOp_and (thn (ha pins s σ H _ I h) fun v s1 hz=>?_)
 obtain⟨x,H1,I1,r1,q1⟩:=hz
 obtain⟨c,rfl,q1⟩:=q1
 cases r1
 refine wpAny_truthy_bool ?_
 cases c with
 |true=>exact hb pins s1 σ H1 Q I1 q1
 |false=>exact⟨.bl false,H1,I1,rfl,q1⟩
theorem JR(ha:PE X a ta):PE X (.UnaryOp .Not a pos) (Jh ta):=by
 intro pins s σ H Q I h
 refine UnaryOp_ (thn (ha pins s σ H _ I h) fun v s1 hz=>?_)
 obtain⟨x,H1,I1,r1,q1⟩:=hz
 obtain⟨c,rfl,q1⟩:=q1
 cases r1
 exact not_of (wpAny_truthy_bool ⟨.bl (!c),H1,I1,rfl,q1⟩)
end
def SqL(K:PySem.W.Frag)(H:Hp)(a:Addr)(xs:List V):Prop:=
 Rd H a (.lst xs)\/
  ∃(o:Obj) (its:Array Value) (n:Nat),K.lookup a=some o/\o.cls=.type "list"/\o.dict=none/\o.data=.seq its n/\its.size<=sizeLine/\cE xs its.toList
def SqT(K:PySem.W.Frag)(H:Hp)(a:Addr)(xs:List V):Prop:=
 Rd H a (.tup xs)\/
  ∃(o:Obj) (its:Array Value) (n:Nat),K.lookup a=some o/\o.cls=.type "tuple"/\o.data=.seq its n/\its.size<=sizeLine/\cE xs its.toList
def OD:Value->Option V
 |.none=>some .non
 |.bool b=>some (.bl b)
 |.int i _=>some (.int i)
 |.str x _=>some (.str x)
 |.bytes b _=>some (.byt b)
 |.float b _=>some (.flt b)
 |.ref a=>some (.ref a)
 |.type n=>some (.ty n)
 |_=>none
theorem dJ.abs{x:V}{u:Value}(r:dJ x u):OD u=some x:=by
 cases x with
 |non=>cases r;rfl
 |bl _=>cases r;rfl
 |int _=>obtain⟨t,rfl⟩:=r;rfl
 |str _=>obtain⟨t,rfl⟩:=r;rfl
 |byt _=>obtain⟨t,rfl⟩:=r;rfl
 |flt _=>obtain⟨t,rfl⟩:=r;rfl
 |ref _=>cases r;rfl
 |ty _=>cases r;rfl
theorem dJ.inj{x y:V}{u:Value}(r:dJ x u)(q:dJ y u):x=y:=Option.some.inj (r.abs.symm.trans q.abs)
theorem cE.inj:∀{xs ys:List V} {us:List Value},cE xs us->cE ys us->xs=ys
 |_,_,_,.nil,.nil=>rfl
 |_,_,_,.cons r t,.cons r' t'=>by rw[r.inj r',cE.inj t t']
section
variable{X:Cx}{pins:List (Addr×Obj)}{σ:St}{H:Hp}{s:Shared}{a:Addr}{xs ys:List V}
theorem SqL.of{K:PySem.W.Frag}(h:H a=some (.lst xs)):SqL K H a xs:=.inl (.inl h)
theorem SqT.of{K:PySem.W.Frag}(h:H a=some (.tup xs)):SqT K H a xs:=.inl (.inl h)
theorem Inv.list(I:Inv X pins σ H s)(h:SqL X.K H a xs):∃its:List Value,cE xs its/\PlainL s.heap a its.toArray/\xs.length<=sizeLine:=by
 rcases h with h|⟨o,its,n,hk,hc,hd,hs,hz,r⟩
 ·obtain⟨z,its,n,r,e⟩:=h.ok I.hok
  exact⟨its,r,⟨_,n,e,rfl,rfl,rfl⟩,z⟩
 ·refine⟨its.toList,r,⟨o,n,I.kIn a o hk,hc,hd,by simpa using hs⟩,?_⟩
  have e:=r.length
  simp only[Array.length_toList]at e
  omega
theorem Inv.tuple(I:Inv X pins σ H s)(h:SqT X.K H a xs):∃its:List Value,cE xs its/\IsTup s.heap a its.toArray/\xs.length<=sizeLine:=by
 rcases h with h|⟨o,its,n,hk,hc,hs,hz,r⟩
 ·obtain⟨z,its,r,p⟩:=h.ok I.hok
  exact⟨its,r,p,z⟩
 ·refine⟨its.toList,r,⟨o,I.kIn a o hk,hc,n,by simpa using hs⟩,?_⟩
  have e:=r.length
  simp only[Array.length_toList]at e
  omega
theorem Inv.list_inj(I:Inv X pins σ H s)(h:SqL X.K H a xs)(h':SqL X.K H a ys):xs=ys:=by
 obtain⟨its,r,⟨o,n,e,_,_,d⟩,_⟩:=I.list h
 obtain⟨its',r',⟨o',n',e',_,_,d'⟩,_⟩:=I.list h'
 rw[e]at e';cases e'
 rw[d]at d'
 injection d' with d1 _
 have:its=its':=by simpa using congrArg Array.toList d1
 subst this
 exact r.inj r'
theorem Inv.tuple_inj(I:Inv X pins σ H s)(h:SqT X.K H a xs)(h':SqT X.K H a ys):xs=ys:=by
 obtain⟨its,r,⟨o,e,_,n,d⟩,_⟩:=I.tuple h
 obtain⟨its',r',⟨o',e',_,n',d'⟩,_⟩:=I.tuple h'
 rw[e]at e';cases e'
 rw[d]at d'
 injection d' with d1 _
 have:its=its':=by simpa using congrArg Array.toList d1
 subst this
 exact r.inj r'
end
abbrev Cx.wish(X:Cx)(E:Value->Shared->Prop):Cx:={ X with xe:=E }
abbrev Cx.nox(X:Cx):Cx:=X.wish fun _ _=>False
theorem Cx.Ok.wish{X:Cx}(ok:X.Ok)(E:Value->Shared->Prop):(X.wish E).Ok:=
 ⟨ok.mod,ok.kind,ok.glob,ok.blt,ok.above,ok.inj,ok.has,ok.cab,ok.hd,ok.frames,ok.stk,ok.exf,ok.bs,ok.bsz,ok.noex,ok.exfs,ok.funs,ok.frf⟩
theorem Cx.Ok.unwish{X:Cx}{E:Value->Shared->Prop}(ok:(X.wish E).Ok):X.Ok:=
 ⟨ok.mod,ok.kind,ok.glob,ok.blt,ok.above,ok.inj,ok.has,ok.cab,ok.hd,ok.frames,ok.stk,ok.exf,ok.bs,ok.bsz,ok.noex,ok.exfs,ok.funs,ok.frf⟩
section
variable{X:Cx}{pins:List (Addr×Obj)}{σ:St}{H:Hp}{s:Shared}{E:Value->Shared->Prop}
theorem Inv.wish(I:Inv X pins σ H s)(E:Value->Shared->Prop):Inv (X.wish E) pins σ H s:=⟨I.ok.wish E,I.os,I.bare,I.base,I.loc,I.cell,I.free,I.freeC,I.pin,I.hok,I.len⟩
theorem Inv.unwish(I:Inv (X.wish E) pins σ H s):Inv X pins σ H s:=⟨I.ok.unwish,I.os,I.bare,I.base,I.loc,I.cell,I.free,I.freeC,I.pin,I.hok,I.len⟩
theorem SP.unwish{D:BN}{f:Flow}{s':Shared}(h:SP (X.wish E) pins D f s'):SP X pins D f s':=by
 cases f with
 |next=>obtain⟨σ',H',I,q⟩:=h;exact⟨σ',H',I.unwish,q⟩
 |brk=>obtain⟨σ',H',I,q⟩:=h;exact⟨σ',H',I.unwish,q⟩
 |cont=>obtain⟨σ',H',I,q⟩:=h;exact⟨σ',H',I.unwish,q⟩
 |ret u=>obtain⟨v,σ',H',I,r,q⟩:=h;exact⟨v,σ',H',I.unwish,r,q⟩
theorem PSs.nox{st:List Stmt}{t:TS}(h:PSs X.nox st t):PSs X st t:=fun pins s σ H D I hw=>
 wpAny_mono (h pins s σ H D (I.wish _) hw) (fun _ _ q=>q.unwish) fun _ _ z=>False.elim z
end
section
variable{X:Cx}{st:Stmt}{rest:List Stmt}{t u:TS}{e:Expr}{te:TE}{pos:Pos}
def Ji:TS:=fun D σ H=>D.nx σ H
def Nn(t u:TS):TS:=fun D σ H=>t { D with nx:=u D } σ H
theorem Gq:PSs X [] Ji:=fun _ _ σ H _ I h=>wpAny_execs_nil ⟨σ,H,I,h⟩
theorem Cz(h1:PS X st t)(h2:PSs X rest u):PSs X (st::rest) (Nn t u):=by
 intro pins s σ H D I h
 refine wpAny_execs_cons (thn (h1 pins s σ H { D with nx:=u D } I h) fun f s1 q=>?_)
 cases f with
 |next=>
  obtain⟨σ',H',I',q⟩:=q
  exact h2 pins s1 σ' H' D I' q
 |ret v=>exact q
 |brk=>exact q
 |cont=>exact q
theorem Gn(h1:PS X st t):PSs X [st] t:=by
 intro pins s σ H D I h
 refine wpAny_execs_cons (thn (h1 pins s σ H D I h) fun f s1 q=>?_)
 cases f with
 |next=>exact wpAny_execs_nil q
 |ret v=>exact q
 |brk=>exact q
 |cont=>exact q
theorem Inv.quiet{pins:List (Addr×Obj)}{σ:St}{H:Hp}{s:Shared}(I:Inv X pins σ H s):interactive X.env=false:=by simp[interactive,I.ok.kind]
def Jj(te:TE):TS:=fun D σ H=>te σ H fun _ H1=>D.nx σ H1
theorem Gr(he:PE X e te)(hs:swapsWith e none pos.line X.env=pure false:=by rfl):PS X (.Expr e pos) (Jj te):=by
 intro pins s σ H D I h
 exact wpAny_Expr_any (thn (he pins s σ H _ I h) fun v s1 ⟨x,H1,I1,r1,q1⟩=>⟨σ,H1,I1,q1⟩) I.quiet hs
def Np(te:TE):TS:=fun D σ H=>te σ H D.rt
theorem JF(he:PE X e te):PS X (.Return (some e) pos) (Np te):=by
 intro pins s σ H D I h
 exact wpAny_Return_some (thn (he pins s σ H _ I h) fun v s1 ⟨x,H1,I1,r1,q1⟩=>⟨x,σ,H1,I1,r1,q1⟩)
def Nt(c:TT)(t u:TS):TS:=fun D σ H=>c σ H fun b H1=>if b=true then t D σ H1 else u D σ H1
theorem MB{c:Expr}{a b:List Stmt}{tc:TT}(hc:PT X c tc)(ha:PSs X a t)(hb:PSs X b u):PS X (.If c a b pos) (Nt tc t u):=by
 intro pins s σ H D I h
 refine wpAny_If (thn (hc pins s σ H _ I h) fun d s1 ⟨H1,I1,q1⟩=>?_)
 cases d with
 |true=>exact ha pins s1 σ H1 D I1 q1
 |false=>exact hb pins s1 σ H1 D I1 q1
end
abbrev TG:=V->St->Hp->(St->Hp->Prop)->Prop
abbrev TGs:=List V->St->Hp->(St->Hp->Prop)->Prop
def PG(X:Cx)(target:Expr)(t:TG):Prop:=
 ∀(pins:List (Addr×Obj)) (s:Shared) (σ:St) (H:Hp) (v:V) (u:Value) (Q:St->Hp->Prop),Inv X pins σ H s->dJ v u->t v σ H Q->
  wpAny (model X.prog X.w) X.A (assign target X.env u) (fun _ s'=>∃σ' H',Inv X pins σ' H' s'/\Q σ' H') X.xe s
def PGs(X:Cx)(ts:List Expr)(t:TGs):Prop:=
 ∀(pins:List (Addr×Obj)) (s:Shared) (σ:St) (H:Hp) (vs:List V) (us:List Value) (Q:St->Hp->Prop),Inv X pins σ H s->cE vs us->t vs σ H Q->
  wpAny (model X.prog X.w) X.A (assignInOrder ((assignEach ts X.env).map (·.2)) us) (fun _ s'=>∃σ' H',Inv X pins σ' H' s'/\Q σ' H') X.xe s
abbrev Lq:=V->V->V->Hp->(Hp->Prop)->Prop
def Ni(X:Cx)(t:Lq):Prop:=
 ∀(pins:List (Addr×Obj)) (s:Shared) (σ:St) (H:Hp) (o i v:V) (ov iv u:Value) (Q:Hp->Prop),Inv X pins σ H s->dJ o ov->dJ i iv->dJ v u->t o i v H Q->
  wpAny (model X.prog X.w) X.A (setItem ov iv u) (fun _ s'=>∃H',Inv X pins σ H' s'/\Q H') X.xe s
section
variable{X:Cx}{pos:Pos}
def yi(i:Nat):TG:=fun v σ H Q=>Q (σ.set i (some v)) H
theorem GA{i:Nat}{x:Str}(hN:X.N.Nodup)(hi:X.N[i]?=some x)(hx:Loc X.env.scope x)(hf:X.fn x=true\/X.env.scope.names.lookup x=some .local:=by first|exact .inl rfl|exact .inr rfl|assumption):PG X (.Name x pos) (yi i):=by
 intro pins s σ H v u Q I r h
 exact wpAny_assign_Name (wg I hN hi hx r (fun s' I'=>⟨_,H,I',h⟩) hf)
def NR:TGs:=fun vs σ H Q=>vs=[]/\Q σ H
def KI(t:TG)(u:TGs):TGs:=fun vs σ H Q=>∃v r,vs=v::r/\t v σ H fun σ' H'=>u r σ' H' Q
theorem Gz:PGs X [] NR:=by
 intro pins s σ H vs us Q I r h
 obtain⟨e,h⟩:=h
 subst e
 cases r
 exact assignInOrder_nil ⟨σ,H,I,h⟩
theorem CH{e:Expr}{es:List Expr}{t:TG}{u:TGs}(h1:PG X e t)(h2:PGs X es u)
  (hs:(assignEach (e::es) X.env).map (·.2)=assign e X.env::(assignEach es X.env).map (·.2):=by rfl):PGs X (e::es) (KI t u):=by
 intro pins s σ H vs us Q I r h
 obtain⟨v,vr,e1,h⟩:=h
 subst e1
 cases r with
 |cons r rr=>
  rw[hs]
  refine assignInOrder_cons (thn (h1 pins s σ H _ _ _ I r h) fun _ s1 hz=>?_)
  obtain⟨σ1,H1,I1,q1⟩:=hz
  exact h2 pins s1 σ1 H1 _ _ Q I1 rr q1
def NP(K:PySem.W.Frag)(n:Nat)(t:TGs):TG:=fun v σ H Q=>∃a xs,v=.ref a/\SqT K H a xs/\xs.length=n/\t xs σ H Q
theorem JL{es:List Expr}{k:Nat}{t:TGs}{n:Nat}(hc:X.calm=true)(h:PGs X es t)
  (hn:(assignEach es X.env).length=n:=by rfl) (hst:(assignEach es X.env).findIdx? (·.1)=none:=by rfl):PG X (.Tuple es k pos) (NP X.K n t):=by
 intro pins s σ H v u Q I r hw
 obtain⟨a,xs,e1,hq,hl,hw⟩:=hw
 subst e1
 cases r
 obtain⟨its,rv,ht,hz⟩:=I.tuple hq
 refine assign_Tuple_tuple (I.ok.hd hc) ht (by simp[hn,<-hl,rv.length]) hst fun h' hx=>?_
 have I1:Inv X pins σ H { s with heap:=h' }:=I.kept (t':=s.toks) fun b o e=>hx b o (Nat.ne_of_lt (Heap.lt_size e)) e
 exact h pins _ σ H xs _ Q I1 (by simpa using rv) hw
def NQ(to ti:TE)(t:Lq):TG:=fun v σ H Q=>to σ H fun o H1=>ti σ H1 fun i H2=>t o i v H2 fun H3=>Q σ H3
theorem JM{o i:Expr}{to ti:TE}{t:Lq}(ho:PE X o to)(hi:PE X i ti)(hs:Ni X t)
  (ha:∀v,assign (.Subscript o i pos) X.env v=(do
   let ov <-holding [v] (eval o X.env)
   let iv <-holding [v,ov] (eval i X.env)
   standAt pos
   holding [v,ov,iv] (setItem ov iv v)
   release [v,ov,iv] []):=by intro _;rfl):PG X (.Subscript o i pos) (NQ to ti t):=by
 intro pins s σ H v u Q I r h
 rw[ha]
 refine wpAny_bind (wpAny_holding (thn (ho pins s σ H _ I h) fun ov s1 hz=>?_))
 obtain⟨x,H1,I1,r1,q1⟩:=hz
 refine wpAny_bind (wpAny_holding (thn (hi pins s1 σ H1 _ I1 q1) fun iv s2 hz=>?_))
 obtain⟨y,H2,I2,r2,q2⟩:=hz
 refine wpAny_bind (wpAny_standAt (wpAny_bind (wpAny_holding (thn (hs pins s2 σ H2 x y v ov iv u _ I2 r1 r2 r q2) fun _ s3 ⟨H3,I3,q3⟩=>?_))))
 exact wpAny_release ⟨σ,H3,I3,q3⟩
def Jn(te:TE)(g:TG):TS:=fun D σ H=>te σ H fun x H1=>g x σ H1 D.nx
theorem JI{tg e:Expr}{te:TE}{g:TG}(he:PE X e te)(hg:PG X tg g)(hs:swapsWithSole [tg] e pos.line X.env=pure false:=by rfl)(hw:swappedStores [tg] e X.env=pure none:=by rfl)
  (h1:(assignEach [tg] X.env).map (·.2)=[assign tg X.env]:=by rfl):PS X (.Assign [tg] e pos) (Jn te g):=by
 intro pins s σ H D I h
 refine wpAny_Assign_stores (thn (he pins s σ H _ I h) fun v s1 hz=>?_) hs hw
 obtain⟨x,H1,I1,r1,q1⟩:=hz
 rw[h1]
 exact thn (hg pins s1 σ H1 x v _ I1 r1 q1) fun _ s2 q=>q
theorem JE{i:Nat}{x:Str}{e:Expr}{te:TE}{pos':Pos}(hN:X.N.Nodup)(hi:X.N[i]?=some x)(hx:Loc X.env.scope x)(he:PE X e te)(hs:swapsWith e (some (.Name x pos')) pos.line X.env=pure false:=by rfl)(hf:X.fn x=true\/X.env.scope.names.lookup x=some .local:=by first|exact .inl rfl|exact .inr rfl|assumption) :
  PS X (.Assign [.Name x pos'] e pos) (Jn te (yi i)):=by
 intro pins s σ H D I h
 refine wpAny_Assign_Name (thn (he pins s σ H _ I h) fun v s1 hz=>?_) hs
 obtain⟨y,H1,I1,r1,q1⟩:=hz
 exact wg I1 hN hi hx r1 (fun s2 I2=>⟨_,H1,I2,q1⟩) hf
end
section
variable{X:Cx}{pos:Pos}
def za(c:TT)(tb:TS):TS:=fun D σ H=>∃W:Nat->St->Hp->Prop,(∃m,W m σ H)/\∀m σ H,W m σ H->
 c σ H fun b H1=>if b=true then ∃N:St->Hp->Prop,(∀σ' H',N σ' H'->∃m',m'<m/\W m' σ' H')/\tb { D with nx:=N,ct:=N,bk:=D.nx } σ H1 else D.nx σ H1
theorem CB{c:Expr}{body:List Stmt}{tc:TT}{tb:TS}(hp:PassesOwn (model X.prog X.w) X.A X.env X.xe)(hc:PT X c tc)(hb:PSs X body tb):PS X (.While c body [] pos) (za tc tb):=by
 intro pins s σ H D I h
 obtain⟨W,⟨m0,w0⟩,turn⟩:=h
 refine wpAny_While (codeAny_whileLoop (fun n s'=>∃σ' H',Inv X pins σ' H' s'/\W n σ' H') ?_ m0 ⟨σ,H,I,w0⟩)
 rintro n s1 ⟨σ1,H1,I1,w1⟩
 refine wpAny_passesOwn hp (thn (hc pins s1 σ1 H1 _ I1 (turn n σ1 H1 w1)) fun b s2 ⟨H2,I2,q2⟩=>?_)
 cases b with
 |true=>
  obtain⟨N,hN,q2⟩:=q2
  rw[if_pos rfl]
  refine wpAny_passesOwn hp (thn (hb pins s2 σ1 H2 _ I2 q2) fun f s3 q3=>?_)
  cases f with
  |next=>
   obtain⟨σ3,H3,I3,n3⟩:=q3
   obtain⟨m',hm,w3⟩:=hN σ3 H3 n3
   exact⟨m',hm,σ3,H3,I3,w3⟩
  |cont=>
   obtain⟨σ3,H3,I3,n3⟩:=q3
   obtain⟨m',hm,w3⟩:=hN σ3 H3 n3
   exact⟨m',hm,σ3,H3,I3,w3⟩
  |brk=>exact q3
  |ret v=>exact q3
 |false=>
  rw[if_neg Bool.false_ne_true]
  exact wpAny_execs_nil ⟨σ1,H2,I2,q2⟩
end
structure It where
 go:Nat->Hp->Prop
 yld:Nat->Hp->V->Hp->Prop
 stop:Nat->Hp->Prop
def yC(X:Cx)(pins:List (Addr×Obj))(H:Hp)(b:Addr):Prop:=
 H b=none/\b≠X.env.locals/\b∉X.fs/\(b∈X.ex\/X.s₀.heap.objs.size<=b)/\(∀x c,X.env.cells.lookup x=some c->c≠b)/\∀p∈X.pn++pins,p.1≠b
theorem Inv.fpOk{X:Cx}{pins:List (Addr×Obj)}{σ:St}{H H':Hp}{s:Shared}{b:Addr}(I:Inv X pins σ H s)(hb:s.heap.objs.size<=b)(hn:H' b=none):yC X pins H' b:=by
 refine⟨hn,Nat.ne_of_gt (Nat.lt_of_lt_of_le I.lt hb),I.nofs hb,.inr (Nat.le_trans I.sz hb),fun x c e z=>?_,fun p hp z=>?_⟩
 ·obtain⟨v,q⟩:=I.cell x c e
  exact absurd (Nat.lt_of_lt_of_le q.lt (by rw[z];exact hb)) (Nat.lt_irrefl _)
 ·exact absurd (Nat.lt_of_lt_of_le (Heap.lt_size (I.pin p hp).1) (by rw[z];exact hb)) (Nat.lt_irrefl _)
structure HW(P:Program)(w:World)(K:PySem.W.Frag)(tg:Expr)(J:It)(fp:List Addr)(it:Addr)(tn:Nat->Heap->Prop):Prop where
 mem:it∈fp
 obj:∀i h,tn i h->∀b∈fp,∃o,h.get? b=some o/\∀v,o.data≠.cell v
 keep:∀i h h',tn i h->(∀b∈fp,∀o,h.get? b=some o->h'.get? b=some o)->tn i h'
 item:∀(X:Cx),X.prog=P->X.w=w->X.K=K->X.calm=true->∀(i:Nat) (pins:List (Addr×Obj)) (s:Shared) (σ:St) (H:Hp) (E:Value->Shared->Prop),Inv X pins σ H s->(∀b∈fp,yC X pins H b)->tn i s.heap->J.go i H->
  wpAny (model P w) X.A (pyNext (.ref it)) (fun r s1=>∃u,r=some u/\
   wpAny (model P w) X.A (letOwnedTupleGo tg (.ref it) u) (fun _ s2=>∃x H',Inv X pins σ H' s2/\dJ x u/\J.yld i H x H'/\tn (i+1) s2.heap/\∀b∈fp,H' b=none) E s1) E s
 done:∀(X:Cx),X.prog=P->X.w=w->X.K=K->X.calm=true->∀(i:Nat) (pins:List (Addr×Obj)) (s:Shared) (σ:St) (H:Hp) (E:Value->Shared->Prop),Inv X pins σ H s->(∀b∈fp,yC X pins H b)->tn i s.heap->J.stop i H->
  wpAny (model P w) X.A (pyNext (.ref it)) (fun r s1=>r=none/\Inv X pins σ H s1) E s
 self:∀(A:Around) (i:Nat) (s:Shared) (Q:Value->Shared->Prop) (E:Value->Shared->Prop),tn i s.heap->Q (.ref it) s->wpAny (model P w) A (pyIter (.ref it)) Q E s
abbrev TI:=St->Hp->(It->Hp->Prop)->Prop
def PIE(X:Cx)(pins:List (Addr×Obj))(σ:St)(tg:Expr)(R:It->Hp->Prop)(itv:Value)(s2:Shared):Prop:=
 ∃(it:Addr) (fp:List Addr) (tn:Nat->Heap->Prop) (J:It) (H':Hp),itv=.ref it/\Inv X pins σ H' s2/\HW X.prog X.w X.K tg J fp it tn/\tn 0 s2.heap/\(∀b∈fp,yC X pins H' b)/\R J H'
def PI(X:Cx)(tg iter:Expr)(wi:TI):Prop:=
 ∀(pins:List (Addr×Obj)) (s:Shared) (σ:St) (H:Hp) (R:It->Hp->Prop),Inv X pins σ H s->wi σ H R->
  wpAny (model X.prog X.w) X.A (eval iter X.env) (fun v s1=>wpAny (model X.prog X.w) X.A (pyIter v) (PIE X pins σ tg R) X.xe s1) X.xe s
theorem Dy {M : Model} {A : Around} {E : Value -> Shared -> Prop} {s : Shared} {tg : Expr} {it : Addr} {u : Value} {o : Obj} {n : String} {vs : Array Value} {Q : Unit -> Shared -> Prop} (ho : s.heap.get? it = some o) (hc : o.cls = .type n) (hd : o.data = .fields vs)
    (hn:["enumerate","zip","dict_itemiterator","dict_reverseitemiterator","odict_iterator","itertools.zip_longest","itertools.pairwise"].contains n=false) (hQ:Q () s):wpAny M A (letOwnedTupleGo tg (.ref it) u) Q E s:=by
  unfold letOwnedTupleGo
  cases tg<;>first
    |exact wpAny_pure hQ
    | (cases u <;> first
        |exact wpAny_pure hQ
        | (refine wpAny_bind (wpAny_load ho ?_)
           rw[hc,hd]
           show wpAny M A (if (["enumerate","zip","dict_itemiterator","dict_reverseitemiterator","odict_iterator","itertools.zip_longest","itertools.pairwise"].contains n&&vs[0]? == some (rawInt _))=true then _ else _) Q E s
           rw[if_neg (by intro h;rw[hn,Bool.false_and]at h;cases h)]
           exact wpAny_pure hQ))
def Itl(K:PySem.W.Frag)(a:Addr):It:=
 ⟨fun i H=>∃xs x,SqL K H a xs/\xs[i]?=some x,fun i H x H'=>H'=H/\∀xs,SqL K H a xs->xs[i]?=some x,fun i H=>∃xs,SqL K H a xs/\xs.length<=i⟩
def Itt(K:PySem.W.Frag)(a:Addr):It:=
 ⟨fun i H=>∃xs x,SqT K H a xs/\xs[i]?=some x,fun i H x H'=>H'=H/\∀xs,SqT K H a xs->xs[i]?=some x,fun i H=>∃xs,SqT K H a xs/\xs.length<=i⟩
def Itr(lo:Int)(n:Nat):It:=⟨fun i _=>i<n,fun i H x H'=>H'=H/\x=.int (lo+i),fun i _=>n<=i⟩
theorem y4{P:Program}{w:World}{K:PySem.W.Frag}{tg:Expr}(a it:Addr):HW P w K tg (Itl K a) [it] it (fun i h=>h.IsListIter it a i) where
 mem:=by simp
 obj:=fun i h st b hb=>by
  have e:b=it:=by simpa using hb
  subst e
  obtain⟨o,e,c,d⟩:=st
  exact⟨o,e,fun v z=>by rw[d]at z;cases z⟩
 keep:=fun i h h' st k=>st.at fun o e=>k it (by simp) o e
 item:=by
  intro X hP hw hK hc i pins s σ H E I hf st hg
  subst hP hw hK
  obtain⟨xs,x,hq,hx⟩:=hg
  obtain⟨its,rv,p,hz⟩:=I.list hq
  obtain⟨u,hu,ru⟩:=rv.get hx
  obtain⟨f0,f1,f2,f3,f4,f5⟩:=hf it (by simp)
  refine wpAny_pyNext_list_item st p.isList (x:=u) (by simpa using hu) fun h' st' sb=>?_
  have I1:Inv X pins σ H { s with heap:=h' }:=I.turned (t':=s.toks) (fun b o hb e=>(sb.2 b hb).trans e) f0 f1 f3 f4 f5
  obtain⟨o,e,c,d⟩:=id st'
  exact⟨u,rfl,Dy (s:={ s with heap:=h' }) e c d (by decide) ⟨x,H,I1,ru,⟨rfl,fun ys hy=>by rw[I.list_inj hy hq];exact hx⟩,st',fun b hb=>(hf b hb).1⟩⟩
 done:=by
  intro X hP hw hK hc i pins s σ H E I hf st hg
  subst hP hw hK
  obtain⟨xs,hq,hx⟩:=hg
  obtain⟨its,rv,p,hz⟩:=I.list hq
  obtain⟨f0,f1,f2,f3,f4,f5⟩:=hf it (by simp)
  have hl:=rv.length
  exact wpAny_pyNext_list_end (I.ok.hd hc) st p.isList (by simp;omega) fun h' eb=>⟨rfl,I.turned (t':=s.toks) (fun b o hb e=>eb b o hb e) f0 f1 f3 f4 f5⟩
 self:=fun _ _ _ _ _ st h=>wpAny_pyIter_listiter st h
theorem xQ{P:Program}{w:World}{K:PySem.W.Frag}{tg:Expr}(a it:Addr):HW P w K tg (Itt K a) [it] it (fun i h=>h.IsTupleIter it a i) where
 mem:=by simp
 obj:=fun i h st b hb=>by
  have e:b=it:=by simpa using hb
  subst e
  obtain⟨o,e,c,d⟩:=st
  exact⟨o,e,fun v z=>by rw[d]at z;cases z⟩
 keep:=fun i h h' st k=>st.at fun o e=>k it (by simp) o e
 item:=by
  intro X hP hw hK hc i pins s σ H E I hf st hg
  subst hP hw hK
  obtain⟨xs,x,hq,hx⟩:=hg
  obtain⟨its,rv,p,hz⟩:=I.tuple hq
  obtain⟨u,hu,ru⟩:=rv.get hx
  obtain⟨f0,f1,f2,f3,f4,f5⟩:=hf it (by simp)
  refine wpAny_pyNext_tuple_item st (show s.heap.IsTuple a its.toArray from p) (x:=u) (by simpa using hu) fun h' st' sb=>?_
  have I1:Inv X pins σ H { s with heap:=h' }:=I.turned (t':=s.toks) (fun b o hb e=>(sb.2 b hb).trans e) f0 f1 f3 f4 f5
  obtain⟨o,e,c,d⟩:=id st'
  exact⟨u,rfl,Dy (s:={ s with heap:=h' }) e c d (by decide) ⟨x,H,I1,ru,⟨rfl,fun ys hy=>by rw[I.tuple_inj hy hq];exact hx⟩,st',fun b hb=>(hf b hb).1⟩⟩
 done:=by
  intro X hP hw hK hc i pins s σ H E I hf st hg
  subst hP hw hK
  obtain⟨xs,hq,hx⟩:=hg
  obtain⟨its,rv,p,hz⟩:=I.tuple hq
  obtain⟨f0,f1,f2,f3,f4,f5⟩:=hf it (by simp)
  have hl:=rv.length
  exact wpAny_pyNext_tuple_end (I.ok.hd hc) st (show s.heap.IsTuple a its.toArray from p) (by simp;omega) fun h' eb=>⟨rfl,I.turned (t':=s.toks) (fun b o hb e=>eb b o hb e) f0 f1 f3 f4 f5⟩
 self:=fun _ _ _ _ _ st h=>wpAny_pyIter_tupleiter st h
theorem xR{P:Program}{w:World}{K:PySem.W.Frag}{tg:Expr}(it:Addr)(lo:Int)(n:Nat):HW P w K tg (Itr lo n) [it] it (fun i h=>IsRangeIter h it (lo+(i:Nat)*1) ((n:Int)-(i:Nat)) 1) where
 mem:=by simp
 obj:=fun i h st b hb=>by
  have e:b=it:=by simpa using hb
  subst e
  exact⟨_,st,fun v z=>by
   have z':Data.fields _=Data.cell v:=z
   cases z'⟩
 keep:=fun i h h' st k=>k it (by simp) _ st
 item:=by
  intro X hP hw hK hc i pins s σ H E I hf st hg
  subst hP hw hK
  obtain⟨f0,f1,f2,f3,f4,f5⟩:=hf it (by simp)
  have W:=Walks.range (prog:=X.prog) (w:=X.w) (I.ok.hd hc) it lo 1 n
  refine W.item i s _ _ hg st fun v h' tk hv st' kk=>?_
  obtain⟨t,rfl⟩:=hv
  have I1:Inv X pins σ H { s with heap:=h',toks:=tk }:=I.turned (fun b o hb e=>kk b o (by simpa using hb) e) f0 f1 f3 f4 f5
  refine⟨_,rfl,Dy (s:={ s with heap:=h',toks:=tk }) (n:="range_iterator") st' rfl rfl (by decide) ⟨.int (lo+i),H,I1,⟨t,?_⟩,⟨rfl,rfl⟩,st',fun b hb=>(hf b hb).1⟩⟩
  rw[Int.mul_one]
 done:=by
  intro X hP hw hK hc i pins s σ H E I hf st hg
  subst hP hw hK
  obtain⟨f0,f1,f2,f3,f4,f5⟩:=hf it (by simp)
  exact wpAny_pyNext_range_end (I.ok.hd hc) st (by have:n<=i:=hg;omega) fun h' eb=>⟨rfl,I.turned (t':=s.toks) (fun b o hb e=>eb b o hb e) f0 f1 f3 f4 f5⟩
 self:=fun _ _ _ _ _ st h=>wpAny_pyIter_rangeiter st h
section
variable{X:Cx}{tg:Expr}
def KD(K:PySem.W.Frag)(tl:TE):TI:=fun σ H R=>tl σ H fun x H1=>∃a,x=.ref a/\(∃xs,SqL K H1 a xs)/\R (Itl K a) H1
def NO(K:PySem.W.Frag)(tl:TE):TI:=fun σ H R=>tl σ H fun x H1=>∃a,x=.ref a/\(∃xs,SqT K H1 a xs)/\R (Itt K a) H1
theorem Gy{l:Expr}{tl:TE}(hl:PE X l tl):PI X tg l (KD X.K tl):=by
 intro pins s σ H R I h
 refine thn (hl pins s σ H _ I h) fun v s1 hz=>?_
 obtain⟨x,H1,I1,r1,q1⟩:=hz
 obtain⟨a,e,⟨xs,hq⟩,q⟩:=q1
 subst e
 cases r1
 obtain⟨its,rv,p,hz⟩:=I1.list hq
 refine wpAny_pyIter_list p.isList ?_
 refine⟨s1.heap.objs.size,[s1.heap.objs.size],_,_,H1,rfl,I1.kept (t':=s1.toks) fun b o e=>Heap.get?_push_of_some _ e,y4 a _,⟨_,Heap.get?_push_size _ rfl,rfl,rfl⟩,fun b hb=>?_,q⟩
 have e:b=s1.heap.objs.size:=by simpa using hb
 subst e
 exact I1.fpOk (Nat.le_refl _) (I1.hok.fresh (Nat.le_refl _))
theorem JK{l:Expr}{tl:TE}(hl:PE X l tl):PI X tg l (NO X.K tl):=by
 intro pins s σ H R I h
 refine thn (hl pins s σ H _ I h) fun v s1 hz=>?_
 obtain⟨x,H1,I1,r1,q1⟩:=hz
 obtain⟨a,e,⟨xs,hq⟩,q⟩:=q1
 subst e
 cases r1
 obtain⟨its,rv,p,hz⟩:=I1.tuple hq
 refine wpAny_pyIter_tuple (show s1.heap.IsTuple a its.toArray from p) ?_
 refine⟨s1.heap.objs.size,[s1.heap.objs.size],_,_,H1,rfl,I1.kept (t':=s1.toks) fun b o e=>Heap.get?_push_of_some _ e,xQ a _,⟨_,Heap.get?_push_size _ rfl,rfl,rfl⟩,fun b hb=>?_,q⟩
 have e:b=s1.heap.objs.size:=by simpa using hb
 subst e
 exact I1.fpOk (Nat.le_refl _) (I1.hok.fresh (Nat.le_refl _))
theorem Cn{pins:List (Addr×Obj)}{σ:St}{H:Hp}{s:Shared}{R:It->Hp->Prop}{E:Value->Shared->Prop}{lo hi:Int}{t u v:Tok}{tk:Nat}(I:Inv X pins σ H s)(h1:-(2^62)<=lo)(h2:lo<2^62)(h3:-(2^62)<=hi)(h4:hi<2^62)
  (q:R (Itr lo (hi-lo).toNat) H):wpAny (model X.prog X.w) X.A (pyIter (.ref s.heap.objs.size)) (PIE X pins σ tg R) E { s with heap:=s.heap.push { cls:=.type "range",data:=.fields #[.int lo t,.int hi u,.int 1 v] },toks:=tk }:=by
 refine wpAny_pyIter_range (IsRange.new ..) (small_one h1 h2 h3 h4) ?_
 have I1:Inv X pins σ H { s with heap:=s.heap.push { cls:=.type "range",data:=.fields #[.int lo t,.int hi u,.int 1 v] },toks:=tk }:=I.kept fun b o e=>Heap.get?_push_of_some _ e
 refine⟨(s.heap.push { cls:=.type "range",data:=.fields #[.int lo t,.int hi u,.int 1 v] }).objs.size,[(s.heap.push { cls:=.type "range",data:=.fields #[.int lo t,.int hi u,.int 1 v] }).objs.size],_,_,H,rfl,
  I1.kept (t':=tk) fun b o e=>Heap.get?_push_of_some _ e,xR _ lo (hi-lo).toNat,?_,fun b hb=>?_,q⟩
 ·have e1:lo+((0:Nat):Int)*1=lo:=by simp
  have e2:(((hi-lo).toNat:Nat):Int)-((0:Nat):Int)=Builtin.Range.rangeSize lo hi 1:=by rw[rangeSize_one];split<;>omega
  show IsRangeIter _ _ (lo+((0:Nat):Int)*1) ((((hi-lo).toNat:Nat):Int)-((0:Nat):Int)) 1
  rw[e1,e2]
  exact Heap.get?_push_size _ rfl
 ·have e:b=(s.heap.push { cls:=.type "range",data:=.fields #[.int lo t,.int hi u,.int 1 v] }).objs.size:=by simpa using hb
  subst e
  exact I1.fpOk (Nat.le_refl _) (I1.hok.fresh (Nat.le_refl _))
def KC(ta:TA):TI:=fun σ H R=>ta σ H fun vs H1=>∃j:Int,vs=[.int j]/\-(2^62)<=j/\j<2^62/\R (Itr 0 j.toNat) H1
theorem zO{a:Expr}{ta:TA}{p pos:Pos}(hg:Gl X "range")(hm:X.mg "range"=none)(ha:PA X [a] ta)(hs:starEach [a] X.env=[(false,eval a X.env)]:=by rfl):PI X tg (.Call (.Name "range" p) [a] [] pos) (KC ta):=by
 intro pins s σ H R I h
 refine Call_ (oW I hg hm boot_range (PyProof.Rows.callWith_type1 (thn (ha pos pins s σ H _ I h) fun us s1 ⟨vs,H1,I1,r1,q1⟩=>?_) hs rfl))
 obtain⟨j,e,q1,q2,q⟩:=q1
 subst e
 cases r1 with
 |cons r rr=>
  cases rr
  obtain⟨t,rfl⟩:=r
  exact call_range_1 (Cn I1 (by omega) (by omega) q1 q2 (by simpa using q))
def Lg(wi:TI)(g:TG)(tb:TS):TS:=fun D σ H=>wi σ H fun J H1=>∃W:Nat->Nat->St->Hp->Prop,(∃m,W 0 m σ H1)/\∀i m σ H,W i m σ H->
 (J.stop i H/\D.nx σ H)\/(J.go i H/\∃N:St->Hp->Prop,(∀σ' H',N σ' H'->∃m',m'<m/\W (i+1) m' σ' H')/\∀x H',J.yld i H x H'->g x σ H' fun σ2 H2=>tb { D with nx:=N,ct:=N,bk:=D.nx } σ2 H2)
def wH(fp:List Addr)(h:Heap):List (Addr×Obj):=fp.filterMap fun b=>(h.get? b).map fun o=>(b,o)
theorem gK{fp:List Addr}{h:Heap}{b:Addr}{o:Obj}(hb:b∈fp)(e:h.get? b=some o):(b,o)∈wH fp h:=List.mem_filterMap.mpr ⟨b,hb,by rw[e];rfl⟩
theorem zX{fp:List Addr}{h:Heap}{p:Addr×Obj}(hp:p∈wH fp h):p.1∈fp/\h.get? p.1=some p.2:=by
 obtain⟨b,hb,e⟩:=List.mem_filterMap.mp hp
 cases q:h.get? b with
 |none=>rw[q]at e;cases e
 |some o=>
  rw[q]at e
  have e':(b,o)=p:=Option.some.inj e
  subst e'
  exact⟨hb,q⟩
theorem Inv.pinned{pins:List (Addr×Obj)}{σ:St}{H:Hp}{s:Shared}{fp:List Addr}(I:Inv X pins σ H s)(hf:∀b∈fp,yC X pins H b)(ho:∀b∈fp,∃o,s.heap.get? b=some o/\∀v,o.data≠.cell v):Inv X (pins++wH fp s.heap) σ H s:=
 I.pins_of fun p hp=>(List.mem_append.mp hp).elim (fun z=>I.pin p (List.mem_append_right _ z)) fun z=>by
  obtain⟨hb,e⟩:=zX z
  obtain⟨f0,f1,f2,_⟩:=hf p.1 hb
  obtain⟨o,e',d⟩:=ho p.1 hb
  rw[e]at e';cases e'
  exact⟨e,f0,f1,f2,d⟩
theorem Inv.unpinned{pins pl:List (Addr×Obj)}{σ:St}{H:Hp}{s:Shared}(I:Inv X (pins++pl) σ H s):Inv X pins σ H s:=I.pins_of fun p hp=>I.pin p (List.mem_append_right _ (List.mem_append_left _ hp))
theorem JG{iter:Expr}{body:List Stmt}{wi:TI}{g:TG}{tb:TS}{pos:Pos}(hp:PassesOwn (model X.prog X.w) X.A X.env X.xe)(hc:X.calm=true)(hi:PI X tg iter wi)(hg:PG X tg g)(hb:PSs X body tb)
  (hs:∀x,foldedSetIterable iter X.env x=pure x:=by intro _;rfl):PS X (.For tg iter body [] pos) (Lg wi g tb):=by
 intro pins s σ H D I h
 refine wpAny_For (thn (hi pins s σ H _ I h) fun v s1 h1=>thn h1 fun itv s2 h2=>?_) hs
 obtain⟨it,fp,tn,J,H2,e,I2,T,st2,f2,W,⟨m0,w0⟩,turn⟩:=h2
 subst e
 have stat:∀{H':Hp},(∀b∈fp,H' b=none)->∀b∈fp,yC X pins H' b:=fun hn b hb=>⟨hn b hb,(f2 b hb).2⟩
 refine codeAny_forLoop_any (fun n s'=>∃i σ' H',Inv X pins σ' H' s'/\tn i s'.heap/\(∀b∈fp,H' b=none)/\W i n σ' H') ?_ m0 ⟨0,σ,H2,I2,st2,fun b hb=>(f2 b hb).1,w0⟩
 rintro n s3 ⟨i,σ3,H3,I3,st3,fr3,w3⟩
 rcases turn i n σ3 H3 w3 with⟨stop,qn⟩|⟨go,N,hN,step⟩
 ·refine wpAny_passesOwn hp (thn (T.done X rfl rfl rfl hc i pins s3 σ3 H3 X.xe I3 (stat fr3) st3 stop) fun r s4 ⟨hr,I4⟩=>?_)
  subst hr
  exact wpAny_execs_nil ⟨σ3,H3,I4,qn⟩
 ·refine wpAny_passesOwn hp (thn (T.item X rfl rfl rfl hc i pins s3 σ3 H3 X.xe I3 (stat fr3) st3 go) fun r s4 ⟨u,hr,h4⟩=>?_)
  subst hr
  refine wpAny_passesOwn hp (thn h4 fun _ s5 hz=>?_)
  obtain⟨x,H5,I5,r5,y5,st5,fr5⟩:=hz
  have I5':=I5.pinned (stat fr5) (T.obj _ _ st5)
  refine wpAny_passesOwn hp (thn (hg _ s5 σ3 H5 x u _ I5' r5 (step x H5 y5)) fun _ s6 hz=>?_)
  obtain⟨σ6,H6,I6,q6⟩:=hz
  refine wpAny_passesOwn hp (thn (hb _ s6 σ6 H6 _ I6 q6) fun f s7 q7=>?_)
  have again:∀{σ7:St} {H7:Hp},Inv X (pins++wH fp s5.heap) σ7 H7 s7->N σ7 H7->∃m,m<n/\∃i σ' H',Inv X pins σ' H' s7/\tn i s7.heap/\(∀b∈fp,H' b=none)/\W i m σ' H':=fun{σ7 H7} I7 n7=>by
   obtain⟨m',hm,w7⟩:=hN σ7 H7 n7
   refine⟨m',hm,i+1,σ7,H7,I7.unpinned,T.keep _ _ _ st5 fun b hb o e=>(I7.pin (b,o) (List.mem_append_right _ (List.mem_append_right _ (gK hb e)))).1,fun b hb=>?_,w7⟩
   obtain⟨o,e,d⟩:=T.obj _ _ st5 b hb
   exact(I7.pin (b,o) (List.mem_append_right _ (List.mem_append_right _ (gK hb e)))).2.1
  cases f with
  |next=>obtain⟨σ7,H7,I7,n7⟩:=q7;exact again I7 n7
  |cont=>obtain⟨σ7,H7,I7,n7⟩:=q7;exact again I7 n7
  |brk=>obtain⟨σ7,H7,I7,q7⟩:=q7;exact⟨σ7,H7,I7.unpinned,q7⟩
  |ret v=>obtain⟨x7,σ7,H7,I7,r7,q7⟩:=q7;exact⟨x7,σ7,H7,I7.unpinned,r7,q7⟩
end
abbrev R2:=V->V->Hp->VK->Prop
def OpR(X:Cx)(f:Value->Value->Sem Value)(r:R2):Prop:=
 ∀(pins:List (Addr×Obj)) (s:Shared) (σ:St) (H:Hp) (x y:V) (v u:Value) (Q:VK),Inv X pins σ H s->dJ x v->dJ y u->r x y H Q->
  wpAny (model X.prog X.w) X.A (f v u) (EP X pins σ Q) X.xe s
def UnR(X:Cx)(f:Value->Sem Value)(r:V->Hp->VK->Prop):Prop:=
 ∀(pins:List (Addr×Obj)) (s:Shared) (σ:St) (H:Hp) (x:V) (v:Value) (Q:VK),Inv X pins σ H s->dJ x v->r x H Q->
  wpAny (model X.prog X.w) X.A (f v) (EP X pins σ Q) X.xe s
def ib(X:Cx)(f:Value)(r:List V->Hp->VK->Prop):Prop:=
 ∀(pins:List (Addr×Obj)) (s:Shared) (σ:St) (H:Hp) (xs:List V) (us:List Value) (Q:VK),Inv X pins σ H s->cE xs us->r xs H Q->
  wpAny (model X.prog X.w) X.A (call f us) (EP X pins σ Q) X.xe s
def tOp(r:R2)(ta tb:TE):TE:=fun σ H Q=>ta σ H fun x H1=>tb σ H1 fun y H2=>r x y H2 Q
def tUn(r:V->Hp->VK->Prop)(ta:TE):TE:=fun σ H Q=>ta σ H fun x H1=>r x H1 Q
def rI(C:Int->Int->Prop)(g:Int->Int->V):R2:=fun x y H Q=>∃i j,x=.int i/\y=.int j/\C i j/\Q (g i j) H
def rI0(g:Int->Int->V):R2:=fun x y H Q=>∃i j,x=.int i/\y=.int j/\Q (g i j) H
def rU(g:Int->V):V->Hp->VK->Prop:=fun x H Q=>∃i,x=.int i/\Q (g i) H
section
variable{X:Cx}{a b c:Expr}{ta tb tc:TE}{pos:Pos}
theorem M9(ha:PE X a ta)(hb:PE X b tb){pins:List (Addr×Obj)}{s:Shared}{σ:St}{H:Hp}{R:V->V->Hp->Prop}(I:Inv X pins σ H s)
  (h:ta σ H fun x H1=>tb σ H1 fun y H2=>R x y H2) {Q:Value->Shared->Prop} {f:Value->Value->Sem Value}
  (hf:∀v u s2 x y H2,Inv X pins σ H2 s2->dJ x v->dJ y u->R x y H2->wpAny (model X.prog X.w) X.A (f v u) Q X.xe s2) :
  wpAny (model X.prog X.w) X.A (eval a X.env) (fun v s₁=>wpAny (model X.prog X.w) X.A (eval b X.env) (fun u s₂=>wpAny (model X.prog X.w) X.A (f v u) Q X.xe s₂) X.xe s₁) X.xe s:=by
 refine thn (ha pins s σ H _ I h) fun v s1 hz=>?_
 obtain⟨x,H1,I1,r1,q1⟩:=hz
 refine thn (hb pins s1 σ H1 _ I1 q1) fun u s2 hz=>?_
 obtain⟨y,H2,I2,r2,q2⟩:=hz
 exact hf v u s2 x y H2 I2 r1 r2 q2
theorem ME{op:Operator}{r:R2}(ho:OpR X (binaryOp op) r)(ha:PE X a ta)(hb:PE X b tb):PE X (.BinOp a op b pos) (tOp r ta tb):=by
 intro pins s σ H Q I h
 exact wpAny_BinOp (M9 ha hb I h fun v u s2 x y H2 I2 rx ry q=>ho pins s2 σ H2 x y v u Q I2 rx ry q)
theorem MD{op:UnaryOp}{r:V->Hp->VK->Prop}(ho:UnR X (unaryOp op) r)(ha:PE X a ta):PE X (.UnaryOp op a pos) (tUn r ta):=by
 intro pins s σ H Q I h
 exact UnaryOp_ (thn (ha pins s σ H _ I h) fun v s1 ⟨x,H1,I1,r1,q1⟩=>ho pins s1 σ H1 x v Q I1 r1 q1)
theorem opI{f:Value->Value->Sem Value}{C:Int->Int->Prop}{g:Int->Int->Int}
  (rule:∀(i j:Int) (t u:Tok) (s:Shared) (Q:Value->Shared->Prop) (E:Value->Shared->Prop),C i j->Q (.int (g i j) s.toks) { s with toks:=s.toks+1 }->wpAny (model X.prog X.w) X.A (f (.int i t) (.int j u)) Q E s) :
  OpR X f (rI C fun i j=>.int (g i j)):=by
 intro pins s σ H x y v u Q I rx ry h
 obtain⟨i,j,rfl,rfl,hc,q⟩:=h
 obtain⟨t,rfl⟩:=rx
 obtain⟨t',rfl⟩:=ry
 exact rule i j t t' s _ _ hc ⟨.int (g i j),H,I.tok _,⟨_,rfl⟩,q⟩
theorem NC{f:Value->Value->Sem Value}{g:Int->Int->Int}
  (rule:∀(i j:Int) (t u:Tok) (s:Shared) (Q:Value->Shared->Prop) (E:Value->Shared->Prop),Q (.int (g i j) s.toks) { s with toks:=s.toks+1 }->wpAny (model X.prog X.w) X.A (f (.int i t) (.int j u)) Q E s) :
  OpR X f (rI0 fun i j=>.int (g i j)):=by
 intro pins s σ H x y v u Q I rx ry h
 obtain⟨i,j,rfl,rfl,q⟩:=h
 obtain⟨t,rfl⟩:=rx
 obtain⟨t',rfl⟩:=ry
 exact rule i j t t' s _ _ ⟨.int (g i j),H,I.tok _,⟨_,rfl⟩,q⟩
theorem Lj{f:Value->Value->Sem Value}{g:Int->Int->Bool}
  (rule:∀(i j:Int) (t u:Tok) (s:Shared) (Q:Value->Shared->Prop) (E:Value->Shared->Prop),Q (.bool (g i j)) s->wpAny (model X.prog X.w) X.A (f (.int i t) (.int j u)) Q E s) :
  OpR X f (rI0 fun i j=>.bl (g i j)):=by
 intro pins s σ H x y v u Q I rx ry h
 obtain⟨i,j,rfl,rfl,q⟩:=h
 obtain⟨t,rfl⟩:=rx
 obtain⟨t',rfl⟩:=ry
 exact rule i j t t' s _ _ ⟨.bl (g i j),H,I,rfl,q⟩
def HX(i j:Int):Prop:=0<=j/\j<=1000000/\i.natAbs<2^64
def BI(i j:Int):Prop:=(-(2^64)<i/\i<2^64)\/(-(2^64)<j/\j<2^64)
theorem BI.ok{i j:Int}(h:BI i j):IntMulOk i j:=by
 rcases h with⟨h1,h2⟩|⟨h1,h2⟩
 ·exact .of_left (intBits_le_64 h1 h2)
 ·exact .of_right (intBits_le_64 h1 h2)
theorem Ka:OpR X (binaryOp .Add) (rI0 fun i j=>.int (i+j)):=NC fun _ _ _ _ _ _ _ q=>add_int q
theorem j3:OpR X (binaryOp .Sub) (rI0 fun i j=>.int (i-j)):=NC fun _ _ _ _ _ _ _ q=>sub_int q
theorem kZ:OpR X (binaryOp .Mult) (rI BI fun i j=>.int (i*j)):=opI fun _ _ _ _ _ _ _ hc q=>mul_int q hc.ok
theorem mZ:OpR X (binaryOp .Mod) (rI (fun _ j=>0<j) fun i j=>.int (i % j)):=opI fun i j _ _ _ _ _ hc q=>by
 have h1:(0:Int)<j:=hc
 exact mod_int' (by omega) (by rw[Int.fmod_eq_emod_of_nonneg i (by omega)];exact q)
theorem EA:OpR X (binaryOp .Pow) (rI HX fun i j=>.int (i^j.toNat)):=opI fun _ _ _ _ _ _ _ hc q=>pow_int_small hc.1 hc.2.1 hc.2.2 q
theorem unI{f:Value->Sem Value}{g:Int->Int}
  (rule:∀(i:Int) (t:Tok) (s:Shared) (Q:Value->Shared->Prop) (E:Value->Shared->Prop),Q (.int (g i) s.toks) { s with toks:=s.toks+1 }->wpAny (model X.prog X.w) X.A (f (.int i t)) Q E s) :
  UnR X f (rU fun i=>.int (g i)):=by
 intro pins s σ H x v Q I rx h
 obtain⟨i,rfl,q⟩:=h
 obtain⟨t,rfl⟩:=rx
 exact rule i t s _ _ ⟨.int (g i),H,I.tok _,⟨_,rfl⟩,q⟩
theorem Ej:UnR X (unaryOp .USub) (rU fun i=>.int (-i)):=unI fun _ _ _ _ _ q=>neg_int q
end
def Mt:V->V->Bool
 |.non,.non=>true|.non,.int _=>true|.int _,.non=>true|.non,.bl _=>true|.bl _,.non=>true|.non,.str _=>true|.str _,.non=>true
 |.int _,.int _=>true|.bl _,.bl _=>true|.str _,.str _=>true|.byt _,.byt _=>true
 |.int _,.str _=>true|.str _,.int _=>true|.bl _,.str _=>true|.str _,.bl _=>true
 |_,_=>false
def rEq:R2:=fun x y H Q=>Mt x y=true/\Q (.bl (decide (x=y))) H
def rNe:R2:=fun x y H Q=>Mt x y=true/\Q (.bl (!decide (x=y))) H
theorem A4{i j:Int}:decide (V.int i=V.int j)=(i == j):=by
 rw[Bool.eq_iff_iff]
 simp
theorem EU{i j:Bool}:decide (V.bl i=V.bl j)=(i == j):=by
 rw[Bool.eq_iff_iff]
 simp
theorem A3{i j:Str}:decide (V.str i=V.str j)=(i == j):=by
 rw[Bool.eq_iff_iff]
 simp
theorem A5{i j:Array UInt8}:decide (V.byt i=V.byt j)=(i.toList == j.toList):=by
 rw[Bool.eq_iff_iff]
 cases i
 cases j
 simp
section
variable{X:Cx}{a b c:Expr}{ta tb tc:TE}{pos:Pos}
theorem bZ{pins:List (Addr×Obj)}{σ:St}{H:Hp}{s:Shared}{Q:VK}{k k':Bool}(I:Inv X pins σ H s)(q:Q (.bl k) H)(e:k=k'):EP X pins σ Q (.bool k') s:=by
 subst e
 exact⟨.bl k,H,I,rfl,q⟩
theorem gU:OpR X (compareOp .Eq) rEq:=by
 intro pins s σ H x y v u Q I rx ry h
 obtain⟨hs,q⟩:=h
 cases x with
 |non=>
  cases rx
  cases y with
  |non=>cases ry;exact PySem.EqNone.eq_none_none (bZ I q (by simp))
  |bl j=>cases ry;exact PySem.EqNone.eq_none_bool (bZ I q (by simp))
  |int j=>obtain⟨t',rfl⟩:=ry;exact PySem.EqNone.eq_none_int (bZ I q (by simp))
  |str j=>obtain⟨t',rfl⟩:=ry;exact PySem.EqNone.eq_none_str (bZ I q (by simp))
  |_=>exact absurd (show false=true from hs) Bool.false_ne_true
 |bl i=>
  cases rx
  cases y with
  |non=>cases ry;exact PySem.EqNone.eq_bool_none (bZ I q (by simp))
  |bl j=>cases ry;exact eq_bool (bZ I q EU)
  |str j=>obtain⟨t',rfl⟩:=ry;exact PySem.EqMixed.eq_bool_str (bZ I q (by simp))
  |_=>exact absurd (show false=true from hs) Bool.false_ne_true
 |int i=>
  obtain⟨t,rfl⟩:=rx
  cases y with
  |non=>cases ry;exact PySem.EqNone.eq_int_none (bZ I q (by simp))
  |int j=>obtain⟨t',rfl⟩:=ry;exact eq_int (bZ I q A4)
  |str j=>obtain⟨t',rfl⟩:=ry;exact PySem.EqMixed.eq_int_str (bZ I q (by simp))
  |_=>exact absurd (show false=true from hs) Bool.false_ne_true
 |str i=>
  obtain⟨t,rfl⟩:=rx
  cases y with
  |non=>cases ry;exact PySem.EqNone.eq_str_none (bZ I q (by simp))
  |bl j=>cases ry;exact PySem.EqMixed.eq_str_bool (bZ I q (by simp))
  |int j=>obtain⟨t',rfl⟩:=ry;exact PySem.EqMixed.eq_str_int (bZ I q (by simp))
  |str j=>obtain⟨t',rfl⟩:=ry;exact eq_str (bZ I q A3)
  |_=>exact absurd (show false=true from hs) Bool.false_ne_true
 |byt i=>
  obtain⟨t,rfl⟩:=rx
  cases y with
  |byt j=>obtain⟨t',rfl⟩:=ry;exact PySem.W.eq_bytes (bZ I q A5)
  |_=>exact absurd (show false=true from hs) Bool.false_ne_true
 |_=>cases y<;>exact absurd (show false=true from hs) Bool.false_ne_true
theorem J7:OpR X (compareOp .NotEq) rNe:=by
 intro pins s σ H x y v u Q I rx ry h
 obtain⟨hs,q⟩:=h
 cases x with
 |non=>
  cases rx
  cases y with
  |non=>cases ry;exact PySem.EqNone.ne_none_none (bZ I q (by simp))
  |bl j=>cases ry;exact PySem.EqNone.ne_none_bool (bZ I q (by simp))
  |int j=>obtain⟨t',rfl⟩:=ry;exact PySem.EqNone.ne_none_int (bZ I q (by simp))
  |str j=>obtain⟨t',rfl⟩:=ry;exact PySem.EqNone.ne_none_str (bZ I q (by simp))
  |_=>exact absurd (show false=true from hs) Bool.false_ne_true
 |bl i=>
  cases rx
  cases y with
  |non=>cases ry;exact PySem.EqNone.ne_bool_none (bZ I q (by simp))
  |bl j=>cases ry;exact ne_bool (bZ I q (congrArg not EU))
  |str j=>obtain⟨t',rfl⟩:=ry;exact PySem.EqMixed.ne_bool_str (bZ I q (by simp))
  |_=>exact absurd (show false=true from hs) Bool.false_ne_true
 |int i=>
  obtain⟨t,rfl⟩:=rx
  cases y with
  |non=>cases ry;exact PySem.EqNone.ne_int_none (bZ I q (by simp))
  |int j=>obtain⟨t',rfl⟩:=ry;exact ne_int (bZ I q (congrArg not A4))
  |str j=>obtain⟨t',rfl⟩:=ry;exact PySem.EqMixed.ne_int_str (bZ I q (by simp))
  |_=>exact absurd (show false=true from hs) Bool.false_ne_true
 |str i=>
  obtain⟨t,rfl⟩:=rx
  cases y with
  |non=>cases ry;exact PySem.EqNone.ne_str_none (bZ I q (by simp))
  |bl j=>cases ry;exact PySem.EqMixed.ne_str_bool (bZ I q (by simp))
  |int j=>obtain⟨t',rfl⟩:=ry;exact PySem.EqMixed.ne_str_int (bZ I q (by simp))
  |str j=>obtain⟨t',rfl⟩:=ry;exact ne_str (bZ I q (congrArg not A3))
  |_=>exact absurd (show false=true from hs) Bool.false_ne_true
 |byt i=>
  obtain⟨t,rfl⟩:=rx
  cases y with
  |byt j=>obtain⟨t',rfl⟩:=ry;exact PySem.W.ne_bytes (bZ I q (congrArg not A5))
  |_=>exact absurd (show false=true from hs) Bool.false_ne_true
 |_=>cases y<;>exact absurd (show false=true from hs) Bool.false_ne_true
theorem oQ:OpR X (compareOp .Lt) (rI0 fun i j=>.bl (decide (i<j))):=Lj fun _ _ _ _ _ _ _ q=>lt_int q
theorem J8:OpR X (compareOp .LtE) (rI0 fun i j=>.bl (decide (i<=j))):=Lj fun _ _ _ _ _ _ _ q=>le_int q
theorem u9:OpR X (compareOp .Gt) (rI0 fun i j=>.bl (decide (j<i))):=Lj fun _ _ _ _ _ _ _ q=>gt_int q
theorem GQ:OpR X (compareOp .GtE) (rI0 fun i j=>.bl (decide (j<=i))):=Lj fun _ _ _ _ _ _ _ q=>ge_int q
theorem EC:OpR X (compareOp .Is) (fun x y H Q=>y=.non/\Q (.bl (decide (x=.non))) H):=by
 intro pins s σ H x y v u Q I rx ry h
 obtain⟨rfl,q⟩:=h
 cases ry
 refine is_none_gen (bZ I q ?_)
 cases x<;>first
  |(cases rx;rfl)
  |(obtain⟨t,rfl⟩:=rx;rfl)
theorem u6:OpR X (compareOp .IsNot) (fun x y H Q=>y=.non/\Q (.bl (!decide (x=.non))) H):=by
 intro pins s σ H x y v u Q I rx ry h
 obtain⟨rfl,q⟩:=h
 cases ry
 refine isnot_none_gen (bZ I q ?_)
 cases x<;>first
  |(cases rx;rfl)
  |(obtain⟨t,rfl⟩:=rx;rfl)
theorem OpR.or{f:Value->Value->Sem Value}{r r':R2}(h:OpR X f r)(h':OpR X f r'):OpR X f (fun x y H Q=>r x y H Q\/r' x y H Q):=by
 intro pins s σ H x y v u Q I rx ry q
 rcases q with q|q
 ·exact h pins s σ H x y v u Q I rx ry q
 ·exact h' pins s σ H x y v u Q I rx ry q
theorem ba(b:Expr){op:CmpOp}(h:op≠.In:=by decide)(h2:op≠.NotIn:=by decide):behindInMarks op b=false:=by
 have e1:(op == CmpOp.In)=false:=by cases op<;>first|rfl|exact absurd rfl h
 have e2:(op == CmpOp.NotIn)=false:=by cases op<;>first|rfl|exact absurd rfl h2
 cases b<;>simp[behindInMarks,e1,e2]
theorem GG{op:CmpOp}{r:R2}(ho:OpR X (compareOp op) r)(ha:PE X a ta)(hb:PE X b tb)(hm:behindInMarks op b=false):PE X (.Compare a [op] [b] pos) (tOp r ta tb):=by
 intro pins s σ H Q I h
 exact wpAny_Compare1 (M9 ha hb I h fun v u s2 x y H2 I2 rx ry q=>ho pins s2 σ H2 x y v u Q I2 rx ry q) hm
def Jf(t:TE):TT:=fun σ H Q=>t σ H fun x H'=>∃k,x=.bl k/\Q k H'
theorem Gm{op:CmpOp}{r:R2}(ho:OpR X (compareOp op) r)(ha:PE X a ta)(hb:PE X b tb)(hm:behindInMarks op b=false):PT X (.Compare a [op] [b] pos) (Jf (tOp r ta tb)):=by
 intro pins s σ H Q I h
 refine wpAny_isTrue_Compare1 (thn (ha pins s σ H _ I h) fun v s1 ⟨x,H1,I1,r1,q1⟩=>thn (hb pins s1 σ H1 _ I1 q1) fun u s2 ⟨y,H2,I2,r2,q2⟩=>
  thn (ho pins s2 σ H2 x y v u _ I2 r1 r2 q2) fun c s3 ⟨z,H3,I3,r3,k,e,q3⟩=>?_) hm
 subst e
 cases r3
 exact wpAny_truthy_bool ⟨H3,I3,q3⟩
def ze(r r':R2)(ta tb tc:TE):TE:=fun σ H Q=>ta σ H fun x H1=>tb σ H1 fun y H2=>r x y H2 fun z H3=>∃k,z=.bl k/\
 (if k=true then tc σ H3 fun w' H4=>r' y w' H4 Q else Q (.bl false) H3)
theorem CQ{op op':CmpOp}{r r':R2}(ho:OpR X (compareOp op) r)(ho':OpR X (compareOp op') r')(ha:PE X a ta)(hb:PE X b tb)(hc:PE X c tc)
  (hm:lastMarks [op,op'] [b,c]=false:=by with_unfolding_all rfl):PE X (.Compare a [op,op'] [b,c] pos) (ze r r' ta tb tc):=by
 intro pins s σ H Q I h
 refine Compare_chain (thn (ha pins s σ H _ I h) fun v s1 ⟨x,H1,I1,r1,q1⟩=>chain_link (thn (hb pins s1 σ H1 _ I1 q1) fun u s2 ⟨y,H2,I2,r2,q2⟩=>
  thn (ho pins s2 σ H2 x y v u _ I2 r1 r2 q2) fun d s3 ⟨z,H3,I3,r3,k,e,q3⟩=>?_)) hm
 subst e
 cases r3
 refine wpAny_truthy_bool ?_
 cases k with
 |false=>exact ite_ff ⟨.bl false,H3,I3,rfl,q3⟩
 |true=>exact ite_tt (chain_last (thn (hc pins s3 σ H3 _ I3 q3) fun w' s4 ⟨z',H4,I4,r4,q4⟩=>ho' pins s4 σ H4 y z' u w' Q I4 r2 r4 q4))
theorem wU:(sizeLine:Nat)<2^63:=by rw[sizeLine_eq];decide
theorem xW:OpR X (binaryOp .Add) (fun x y H Q=>∃i j,x=.str i/\y=.str j/\i.length+j.length<=sizeLine/\Q (.str (i++j)) H):=by
 intro pins s σ H x y v u Q I rx ry h
 obtain⟨i,j,rfl,rfl,hz,q⟩:=h
 obtain⟨t,rfl⟩:=rx
 obtain⟨t',rfl⟩:=ry
 exact add_str (fun t' tk=>⟨.str (i++j),H,I.tok _,⟨_,rfl⟩,q⟩) hz
theorem pQ{x:V}{us:List Value}(r:cE [x] us):∃u,us=[u]/\dJ x u:=by
 cases r with
 |cons r1 r2=>cases r2;exact⟨_,rfl,r1⟩
theorem FR{x y:V}{us:List Value}(r:cE [x,y] us):∃u w',us=[u,w']/\dJ x u/\dJ y w':=by
 cases r with
 |cons r1 r2=>
  cases r2 with
  |cons r3 r4=>cases r4;exact⟨_,_,rfl,r1,r3⟩
theorem Bf(hc:X.calm=true):ib X (.builtin "min") (fun xs H Q=>∃i j,xs=[.int i,.int j]/\Q (.int (if j<i then j else i)) H):=by
 intro pins s σ H xs us Q I r h
 obtain⟨i,j,rfl,q⟩:=h
 obtain⟨u,w',rfl,⟨t,rfl⟩,⟨t',rfl⟩⟩:=FR r
 refine min_two_ints (I.ok.hd hc) fun h' tk k=>⟨_,H,I.kept k,?_,q⟩
 by_cases hj:j<i
 ·rw[if_pos hj,if_pos hj];exact⟨_,rfl⟩
 ·rw[if_neg hj,if_neg hj];exact⟨_,rfl⟩
theorem Bh:ib X (.type "int") (fun xs H Q=>(∃i,xs=[.int i]/\Q (.int i) H)\/∃k,xs=[.bl k]/\Q (.int (if k then 1 else 0)) H):=by
 intro pins s σ H xs us Q I r h
 rcases h with⟨i,rfl,q⟩|⟨k,rfl,q⟩
 ·obtain⟨u,rfl,t,rfl⟩:=pQ r
  exact call_int_int ⟨.int i,H,I,⟨_,rfl⟩,q⟩
 ·obtain⟨u,rfl,r1⟩:=pQ r
  cases r1
  exact call_int_bool ⟨.int (if k then 1 else 0),H,I.tok _,⟨_,rfl⟩,q⟩
end
structure HJ(h:Heap)(x dx C:Addr)(mA:Str->Option Value):Prop where
 obj:h.get? x=some (PySem.W.instObj C dx)
 ns:h.Ns1 dx mA
 ne:dx≠x
theorem Ab{h:Heap}{dx:Addr}{mA:Str->Option Value}(n:h.Ns1 dx mA):∃od,h.get? dx=some od/\∀name,PySem.W.lookIn name od=some (mA name):=by
 obtain⟨o,es,ep,ho,hd,hk,_,hm⟩:=n
 refine⟨o,ho,fun name=>?_⟩
 have e:=hm name
 unfold nsFind findBy at e
 rw[<-Array.find?_toList]at e
 unfold PySem.W.lookIn
 rw[hd]
 dsimp only
 split
 ·rename_i y q
  rw[q]at e
  exact congrArg some e
 ·rename_i q
  rw[q]at e
  have a:es.toList.any (·.refKey)=false:=by
   rw[List.any_eq_false]
   intro y hy
   obtain⟨z,t,hkey⟩:=hk y (Array.mem_toList_iff.mp hy)
   simp[DictEntry.refKey,hkey]
  have a':¬es.toList.any (·.refKey)=true:=by rw[a];exact Bool.false_ne_true
  rw[if_neg a']
  exact congrArg some e
theorem HJ.look{h:Heap}{x dx C:Addr}{mA:Str->Option Value}(I:HJ h x dx C mA):∃od,PySem.W.InstAt h x (PySem.W.instObj C dx) C (some od)/\∀name,PySem.W.lookIn name od=some (mA name):=
 let ⟨od,ho,hl⟩:=Ab I.ns
 ⟨od,⟨I.obj,rfl,rfl,ho⟩,hl⟩
section
variable{prog:Program}{w:World}{A:Around}{E:Value->Shared->Prop}{s:Shared}{K:PySem.W.Frag}{x dx C f:Addr}{mA:Str->Option Value}{name:Str}{v:Value}
theorem Hn{expr:Bool}{Q:Value->Shared->Prop}(X:K.In s.heap)(I:HJ s.heap x dx C mA)(hg:PySem.W.plainGet K C name=true)(hh:PySem.W.hasDictIn K C=true)
  (ha:PySem.W.findIn K (.ref C) name=some none) (hv:mA name=some v) (hv':PySem.W.handedIn v=true) (h:Q v { s with toks:=s.toks+1 }) :
  wpAny (model prog w) A (getAttr (.ref x) name expr) Q E s:=by
 obtain⟨od,J,hl⟩:=I.look
 exact PySem.W.get_value X J (PySem.W.plainGet_of hg).1 (PySem.W.findObj_own hh ha rfl (by rw[hl,hv])) hv' h
theorem Dz{pl:Sem Bool}{Q:Value×List Value->Shared->Prop}(X:K.In s.heap)(I:HJ s.heap x dx C mA)(hg:PySem.W.plainGet K C name=true)
  (hf:PySem.W.findIn K (.ref C) name=some (some (.ref f))) (ht:PySem.W.isFn K (.ref f)=true) (hv:mA name=none) (h:Q (.ref f,[.ref x]) s) :
  wpAny (model prog w) A (getMethod (.ref x) name pl) Q E s:=by
 obtain⟨od,J,hl⟩:=I.look
 exact PySem.W.method_fn X J (PySem.W.plainGet_of hg).1 (PySem.W.plainGet_of hg).2 hf (beq_iff_eq.mp ht) (by show(PySem.W.lookIn name od).map (·.isSome)=some false;rw[hl,hv];rfl) h
theorem F9{ns:List Str}{Q:Unit->Shared->Prop}(X:K.In s.heap)(I:HJ s.heap x dx C mA)
  (hs:PySem.W.findIn K (.ref C) "__setattr__"=some (some (.builtin "object.__setattr__"))) (hp:PySem.W.plainOver K C=true) (ht:PySem.W.takerIn K C name=some none) (hh:PySem.W.hasDictIn K C=true)
  (hw:PySem.Within mA ns) (hsz:ns.length<=sizeLine)
  (h:∀h',HJ h' x dx C (fun y=>if y=name then some v else mA y)->Heap.SameBut dx s.heap h'->Q () { s with heap:=h',toks:=s.toks+2 }) :
  wpAny (model prog w) A (setAttr (.ref x) name v) Q E s:=by
 obtain⟨od,J,hl⟩:=I.look
 refine PySem.W.set_plain X J hs (PySem.W.osa_open (s:={ s with toks:=s.toks+1 }) (r:=none) X J hp ht fun b=>?_)
 obtain⟨cd,hc,hd'⟩:=PySem.W.any_some hh
 have hx:s.heap.get? x=some ⟨.ref C,some dx,.plain,#[]⟩:=I.obj
 refine wpAny_bind (wpAny_pure (wpAny_bind (wpAny_bind (wpAny_loadPart hx (wpAny_bind (PySem.W.Looks.here (s:={ s with toks:=s.toks+1 }) (PySem.W.looks_clsIn X hc) ?_))))))
 rw[hd']
 refine wpAny_pure (a:=some dx) (wpAny_bind (wpAny_pure (wpAny_bind ?_)))
 refine wpAny_nsSet1 (s:={ s with toks:=s.toks+1 }) I.ns fun h' hn2 hs2=>?_
 obtain⟨oD,esD,epD,hoD,hdD,hcD⟩:=hn2.count (PySem.Within.cons name v hw)
 refine wpAny_bind (wpAny_lookBehind hoD (by rw[hdD];exact pastItsLine_dict (Nat.le_trans hcD (by rw[List.length_cons];omega))) ?_)
 exact wpAny_pure (h _ ⟨(hs2.2 _ (Ne.symm I.ne)).trans I.obj,hn2,I.ne⟩ hs2)
theorem Dd{R:Result->Shared->Prop}{vs:List Value}{kw:List (Str×Value)}(X:K.In s.heap)(hm:PySem.W.makesIn K C=true)
  (hi:PySem.W.findIn K (.ref C) "__init__"=some (some (.ref f))) (hf:PySem.W.typeIn K (.ref f)=some (.type "function"))
  (h:codeAny (model prog w) (A.under (.builtin "type.__call__" ⟨.ref C::vs,kw⟩)) (.call (.ref f) ⟨.ref (s.heap.objs.size+1)::vs,kw⟩) (PySem.W.InitBack (s.heap.objs.size+1) R)
   { s with heap:=(s.heap.push PySem.W.emptyDict).push (PySem.W.instObj C s.heap.objs.size) }) :
  codeAny (model prog w) A (.call (.ref C) ⟨vs,kw⟩) R s:=by
 obtain⟨hh,g,d,t,os⟩:=s
 exact PySem.W.make_core (PySem.W.makes_of X hm) (PySem.W.looks_findIn X hi) (fun self=>PySem.W.bind_fn X self hf) (.inl rfl) h
end
def pT(f:Str)(v:V):List (Str×V)->List (Str×V)
 |[]=>[(f,v)]
 |(g,x)::r=>if g=f then(g,v)::r else(g,x)::pT f v r
theorem kj(f g:Str)(v:V):∀fs:List (Str×V),(pT f v fs).lookup g=if g=f then some v else fs.lookup g
 |[]=>by
  show List.lookup g [(f,v)]=_
  by_cases h:g=f
  ·have hb:(g == f)=true:=beq_iff_eq.mpr h
   simp only[List.lookup,hb,if_pos h]
  ·have hb:(g == f)=false:=beq_eq_false_iff_ne.mpr h
   simp only[List.lookup,hb,if_neg h]
 |(k,x)::r=>by
  have ih:=kj f g v r
  rw[show pT f v ((k,x)::r)=(if k=f then(k,v)::r else(k,x)::pT f v r)from rfl]
  by_cases hk:k=f
  ·rw[if_pos hk]
   by_cases h:g=k
   ·have hb:(g == k)=true:=beq_iff_eq.mpr h
    simp only[List.lookup,hb,if_pos (h.trans hk)]
   ·have hb:(g == k)=false:=beq_eq_false_iff_ne.mpr h
    simp only[List.lookup,hb,if_neg (fun e:g=f=>h (e.trans hk.symm))]
  ·rw[if_neg hk]
   by_cases h:g=k
   ·have hb:(g == k)=true:=beq_iff_eq.mpr h
    simp only[List.lookup,hb,if_neg (fun e:g=f=>hk (h.symm.trans e))]
   ·have hb:(g == k)=false:=beq_eq_false_iff_ne.mpr h
    simp only[List.lookup,hb]
    exact ih
theorem gX(f:Str)(v:V):∀fs:List (Str×V),f∈(pT f v fs).map (·.1)/\∀g,g∈fs.map (·.1)->g∈(pT f v fs).map (·.1)
 |[]=>⟨by simp[pT],fun g h=>by simp at h⟩
 |(k,x)::r=>by
  obtain⟨i1,i2⟩:=gX f v r
  rw[show pT f v ((k,x)::r)=(if k=f then(k,v)::r else(k,x)::pT f v r)from rfl]
  by_cases hk:k=f
  ·rw[if_pos hk]
   subst hk
   exact⟨by simp,fun g h=>by simpa using h⟩
  ·rw[if_neg hk]
   refine⟨?_,fun g h=>?_⟩
   ·rw[List.map_cons]
    exact List.mem_cons_of_mem _ i1
   ·rw[List.map_cons]at h ⊢
    rcases List.mem_cons.mp h with e|e
    ·exact List.mem_cons.mpr (.inl e)
    ·exact List.mem_cons_of_mem _ (i2 g e)
theorem oV(f:Str)(v:V):∀fs:List (Str×V),(pT f v fs).length<=fs.length+1
 |[]=>by simp[pT]
 |(k,x)::r=>by
  have ih:=oV f v r
  rw[show pT f v ((k,x)::r)=(if k=f then(k,v)::r else(k,x)::pT f v r)from rfl]
  by_cases hk:k=f
  ·rw[if_pos hk,List.length_cons,List.length_cons];omega
  ·rw[if_neg hk,List.length_cons,List.length_cons];omega
theorem sR.some_of{v:V}{o:Option Value}(r:sR (some v) o):∃u,o=some u/\dJ v u:=by
 cases o with
 |none=>exact(show False from r).elim
 |some u=>exact⟨u,rfl,r⟩
theorem sR.none_of{o:Option Value}(r:sR none o):o=none:=by
 cases o with
 |none=>rfl
 |some u=>exact(show False from r).elim
theorem Ax{v:V}{u:Value}(r:dJ v u):PySem.W.handedIn u=true:=by
 cases v with
 |non=>cases (show u=Value.none from r);rfl
 |bl b=>cases (show u=Value.bool b from r);rfl
 |int i=>obtain⟨t,e⟩:=(show ∃t,u=Value.int i t from r);cases e;rfl
 |str x=>obtain⟨t,e⟩:=(show ∃t,u=Value.str x t from r);cases e;rfl
 |byt b=>obtain⟨t,e⟩:=(show ∃t,u=Value.bytes b t from r);cases e;rfl
 |flt b=>obtain⟨t,e⟩:=(show ∃t,u=Value.float b t from r);cases e;rfl
 |ref a=>cases (show u=Value.ref a from r);rfl
 |ty n=>cases (show u=Value.type n from r);rfl
section
variable{P:Program}{w:World}{H H':Hp}{h h':Heap}{a C dx:Addr}{fs fs':List (Str×V)}
theorem rS(hok:HOk P w H h)(e:H a=some (.ins C dx fs)):∃mA,HJ h a dx C mA/\(∀f,sR (fs.lookup f) (mA f))/\PySem.Within mA (fs.map (·.1))/\fs.length<=1000/\H dx=some (.own a):=by
 obtain⟨d,z,ne,ob,mA,n,r,q⟩:=(show dS P w H h a (.ins C dx fs)from hok a _ e)
 exact⟨mA,⟨ob,n,ne⟩,r,q,z,d⟩
end
structure Cls(K:PySem.W.Frag)(C:Addr):Prop where
 pg:PySem.W.plainGet K C Str.empty=true
 hd:PySem.W.hasDictIn K C=true
 po:PySem.W.plainOver K C=true
 sa:PySem.W.findIn K (.ref C) "__setattr__"=some (some (.builtin "object.__setattr__"))
theorem Cls.get{K:PySem.W.Frag}{C:Addr}(c:Cls K C)(f:Str):PySem.W.plainGet K C f=true:=c.pg
def j5(K:PySem.W.Frag)(C:Addr)(f:Str):Prop:=PySem.W.findIn K (.ref C) f=some none
theorem j5.taker{K:PySem.W.Frag}{C:Addr}{f:Str}(n:j5 K C f):PySem.W.takerIn K C f=some none:=by
 unfold PySem.W.takerIn
 rw[show PySem.W.findIn K (.ref C) f=some none from n]
 rfl
structure jV(K:PySem.W.Frag)(C:Addr)(m:Str)(f:Addr):Prop where
 at_:PySem.W.findIn K (.ref C) m=some (some (.ref f))
 fn:PySem.W.isFn K (.ref f)=true
 kp:PySem.W.keepIn K (.ref f)=true
section
variable{X:Cx}{pins:List (Addr×Obj)}{σ:St}{H:Hp}{s:Shared}{a C dx:Addr}{fs:List (Str×V)}{f:Str}{v:V}{A:Around}{E:Value->Shared->Prop}
theorem yg{b:Bool}{Q:Value->Shared->Prop}(I:Inv X pins σ H s)(e:H a=some (.ins C dx fs))(c:Cls X.K C)(n:j5 X.K C f)(l:fs.lookup f=some v)
  (h:∀u s',Inv X pins σ H s'->dJ v u->Q u s'):wpAny (model X.prog X.w) A (getAttr (.ref a) f b) Q E s:=by
 obtain⟨mA,O,r,_,_,_⟩:=rS I.hok e
 obtain⟨u,hu,ru⟩:=sR.some_of (v:=v) (o:=mA f) (by rw[<-l];exact r f)
 exact Hn I.kIn O (c.get f) c.hd n hu (Ax ru) (h u _ (I.tok _) ru)
theorem qM{m:Str}{g:Addr}{pl:Sem Bool}{Q:Value×List Value->Shared->Prop}(I:Inv X pins σ H s)(e:H a=some (.ins C dx fs))(c:Cls X.K C)(k:jV X.K C m g)(l:fs.lookup m=none)
  (h:Q (.ref g,[.ref a]) s):wpAny (model X.prog X.w) A (getMethod (.ref a) m pl) Q E s:=by
 obtain⟨mA,O,r,_,_,_⟩:=rS I.hok e
 have hn:mA m=none:=sR.none_of (by rw[<-l];exact r m)
 exact Dz I.kIn O (c.get m) k.at_ k.fn hn h
theorem xS{y:V}{u:Value}{Q:Unit->Shared->Prop}(I:Inv X pins σ H s)(e:H a=some (.ins C dx fs))(c:Cls X.K C)(n:j5 X.K C f)(hl:fs.length<1000)(ry:dJ y u)
  (h:∀s',Inv X pins σ (upd H a (.ins C dx (pT f y fs))) s'->Q () s'):wpAny (model X.prog X.w) A (setAttr (.ref a) f u) Q E s:=by
 obtain⟨mA,O,r,wi,_,ho⟩:=rS I.hok e
 have hz:(fs.map (·.1)).length<=sizeLine:=by rw[List.length_map,sizeLine_eq];omega
 refine F9 I.kIn O c.sa c.po n.taker c.hd wi hz fun h' O' sb=>h _ ?_
 have hd:∃o,h'.get? dx=some o:=let ⟨o,_,_,e',_⟩:=O'.ns;⟨o,e'⟩
 refine I.write (x:=a) (e:=dx) (by rw[e];exact True.intro) (.inr ho) (fun b q hb z=>(sb.2 b hb).trans z) hd ?_
 refine⟨by rw[bN O.ne];exact ho,?_,O.ne,O'.obj,_,O'.ns,fun g=>?_,fun g hg=>?_⟩
 ·have:=oV f y fs;omega
 ·show sR ((pT f y fs).lookup g) (if g=f then some u else mA g)
  rw[kj]
  by_cases q:g=f
  ·rw[if_pos q,if_pos q];exact ry
  ·rw[if_neg q,if_neg q];exact r g
 ·by_cases q:g=f
  ·rw[q];exact(gX f y fs).1
  ·refine(gX f y fs).2 g (wi g fun z=>hg ?_)
   show(if g=f then some u else mA g)=none
   rw[if_neg q];exact z
theorem Inv.made(I:Inv X pins σ H s):Inv X pins σ (upd (upd H s.heap.objs.size (.own (s.heap.objs.size+1))) (s.heap.objs.size+1) (.ins C s.heap.objs.size []))
  { s with heap:=(s.heap.push PySem.W.emptyDict).push (PySem.W.instObj C s.heap.objs.size) }:=by
 have e1:(s.heap.push PySem.W.emptyDict).get? s.heap.objs.size=some PySem.W.emptyDict:=Heap.get?_push_size s.heap rfl
 have e2:((s.heap.push PySem.W.emptyDict).push (PySem.W.instObj C s.heap.objs.size)).get? (s.heap.objs.size+1)=some (PySem.W.instObj C s.heap.objs.size):=by
  have:=Heap.get?_push_size (s.heap.push PySem.W.emptyDict) (o:=PySem.W.instObj C s.heap.objs.size) rfl
  rwa[Heap.size_push]at this
 have e3:(s.heap.push PySem.W.emptyDict).Ns s.heap.objs.size (fun _=>none):=⟨PySem.W.emptyDict,#[],_,e1,rfl,(fun e he=>absurd he (by simp)),fun _=>rfl⟩
 have I1:=I.laid (a:=s.heap.objs.size) (o:=.own (s.heap.objs.size+1)) (h':=s.heap.push PySem.W.emptyDict) (t':=s.toks) (fun b u q=>Heap.get?_push_of_some _ q) (Nat.le_refl _) ⟨_,e1⟩
 refine I1.laid (a:=s.heap.objs.size+1) (o:=.ins C s.heap.objs.size []) (t':=s.toks) (fun b u q=>Heap.get?_push_of_some _ q) (Nat.le_of_eq (Heap.size_push _ _)) ?_
 have ne:s.heap.objs.size≠s.heap.objs.size+1:=Nat.ne_of_lt (Nat.lt_succ_self _)
 refine⟨by rw[bN ne,aX],Nat.zero_le _,ne,e2,fun _=>none,(Heap.Ns1.of_empty e3).at fun o q=>Heap.get?_push_of_some _ q,fun _=>True.intro,fun y hy=>absurd rfl hy⟩
theorem HG{prog:Program}{w:World}{env:Env}{e:Expr}{f:Str}{pos:Pos}{s:Shared}{Q:Value->Shared->Prop}(hb:attributeBase e f env (eval e env)=eval e env)
  (h:wpAny (model prog w) A (eval e env) (fun o s₁=>wpAny (model prog w) A (getAttr o f true) Q E s₁) E s):wpAny (model prog w) A (eval (.Attribute e f pos) env) Q E s:=
 Attribute_any_ h (by rw[arm_eval_Attribute,hb])
end
def Nu(K:PySem.W.Frag)(ta:TE)(f:Str):TE:=fun σ H Q=>ta σ H fun x H1=>∃a C dx fs v,x=.ref a/\H1 a=some (.ins C dx fs)/\Cls K C/\j5 K C f/\fs.lookup f=some v/\Q v H1
def Nx(K:PySem.W.Frag)(ta tv:TE)(f:Str):TS:=fun D σ H=>tv σ H fun y H1=>ta σ H1 fun x H2=>∃a C dx fs,x=.ref a/\H2 a=some (.ins C dx fs)/\Cls K C/\j5 K C f/\fs.length<1000/\
 D.nx σ (upd H2 a (.ins C dx (pT f y fs)))
section
variable{X:Cx}{o e value:Expr}{f:Str}{pos pos' tpos:Pos}{ta tv:TE}
theorem JV(he:PE X e ta)(hb:attributeBase e f X.env (eval e X.env)=eval e X.env):PE X (.Attribute e f pos) (Nu X.K ta f):=by
 intro pins s σ H Q I h
 refine HG hb (thn (he pins s σ H _ I h) fun u s1 hz=>?_)
 obtain⟨x,H1,I1,rx,a,C,dx,fs,v,ex,ea,c,n,l,q⟩:=hz
 subst ex
 obtain rfl:u=Value.ref a:=rx
 exact yg I1 ea c n l fun u' s2 I2 ru=>⟨v,H1,I2,ru,q⟩
theorem JH(ha:PE X o ta)(hv:PE X value tv)(hs:swapsWith value (some (.Attribute o f pos')) pos.line X.env=pure false):PS X (.Assign [.Attribute o f pos'] value pos) (Nx X.K ta tv f):=by
 intro pins s σ H D I h
 refine plainObj_wpAny_Assign_Attribute (thn (hv pins s σ H _ I h) fun u s1 ⟨y,H1,I1,ry,q⟩=>thn (ha pins s1 σ H1 _ I1 q) fun ov s2 hz=>?_) hs
 obtain⟨x,H2,I2,rx,a,C,dx,fs,ex,ea,c,n,l,q2⟩:=hz
 subst ex
 obtain rfl:ov=Value.ref a:=rx
 exact xS I2 ea c n l ry fun s3 I3=>⟨σ,_,I3,q2⟩
end
section
variable{X:Cx}{pins:List (Addr×Obj)}{σ:St}{H:Hp}{s:Shared}{A:Around}{E:Value->Shared->Prop}{Q:Value->Shared->Prop}{c:Value}{b:Bool}
inductive xA(K:PySem.W.Frag)(H:Hp):V->Value->Prop where
 |non:xA K H .non (.type "NoneType")
 |bl (x:Bool):xA K H (.bl x) (.type "bool")
 |int (i:Int):xA K H (.int i) (.type "int")
 |str (x:Str):xA K H (.str x) (.type "str")
 |flt (x:UInt64):xA K H (.flt x) (.type "float")
 |lst {a:Addr} {xs:List V} (e:H a=some (.lst xs)):xA K H (.ref a) (.type "list")
 |frz {a:Addr} {o:Obj} {xs:List V} (e:H a=some (.frz o (.lst xs))):xA K H (.ref a) (.type "list")
 |tup {a:Addr} {xs:List V} (e:H a=some (.tup xs)):xA K H (.ref a) (.type "tuple")
 |dK {a:Addr} {kvs:List (Key×V)} (e:H a=some (.dK kvs)):xA K H (.ref a) (.type "dict")
 |dT {a:Addr} {kvs:List (List Key×V)} (e:H a=some (.dT kvs)):xA K H (.ref a) (.type "dict")
 | ins {a C dx:Addr} {fs:List (Str×V)} (e:H a=some (.ins C dx fs)) (cl:Cls K C) (ha:PySem.W.findIn K (.ref C) "__class__"=some (some (.builtin "object.__class__")))
   (hn:PySem.W.specialIn K (.builtin "object.__class__") "__get__"=some (some (.builtin "getset_descriptor.__get__"))) (htk:PySem.W.takesIn K (.builtin "object.__class__")=some true)
   (hm:PySem.W.mroIn K C (.type "object")=some true):xA K H (.ref a) (.ref C)
theorem Ap{x:V}{u t:Value}(I:Inv X pins σ H s)(rx:dJ x u)(ty:xA X.K H x t)(e:PySem.W.kitOne X.K t c=some b)(h:∀tk,Q (.bool b) { s with toks:=tk }) :
  wpAny (model X.prog X.w) A (call (.builtin "isinstance") [u,c]) Q E s:=by
 cases ty with
 |non=>cases (show u=Value.none from rx);exact PySem.W.kia_one PySem.W.kitx_none I.kIn True.intro e (fun z=>nomatch z) h
 |bl y=>cases (show u=Value.bool y from rx);exact PySem.W.kia_one PySem.W.kitx_bool I.kIn True.intro e (fun z=>nomatch z) h
 |int i=>obtain⟨t,q⟩:=(show ∃t,u=Value.int i t from rx);cases q;exact PySem.W.kia_one PySem.W.kitx_int I.kIn True.intro e (fun z=>nomatch z) h
 |str y=>obtain⟨t,q⟩:=(show ∃t,u=Value.str y t from rx);cases q;exact PySem.W.kia_one PySem.W.kitx_str I.kIn True.intro e (fun z=>nomatch z) h
 |flt y=>obtain⟨t,q⟩:=(show ∃t,u=Value.float y t from rx);cases q;exact PySem.W.kia_one PySem.W.kitx_float I.kIn True.intro e (fun z=>nomatch z) h
 |@lst a xs ea=>
  cases (show u=Value.ref a from rx)
  obtain⟨_,_,n,_,h1⟩:=(show dS X.prog X.w H s.heap a (.lst xs)from I.hok a _ ea)
  exact PySem.W.kia_one PySem.W.kitx_list I.kIn ⟨_,h1,rfl⟩ e (fun z=>nomatch z) h
 |@frz a ob xs ea=>
  cases (show u=Value.ref a from rx)
  obtain⟨_,_,_,n,_,h1⟩:=(show dS X.prog X.w H s.heap a (.frz ob (.lst xs))from I.hok a _ ea)
  exact PySem.W.kia_one PySem.W.kitx_list I.kIn ⟨_,h1,rfl⟩ e (fun z=>nomatch z) h
 |@tup a xs ea=>
  cases (show u=Value.ref a from rx)
  obtain⟨_,_,_,p⟩:=(show dS X.prog X.w H s.heap a (.tup xs)from I.hok a _ ea)
  obtain⟨o,h1,h2,_⟩:=p
  exact PySem.W.kia_one PySem.W.kitx_tuple I.kIn ⟨o,h1,h2⟩ e (fun z=>nomatch z) h
 |@dK a kvs ea=>
  cases (show u=Value.ref a from rx)
  obtain⟨_,_,vs,_,p⟩:=(show dS X.prog X.w H s.heap a (.dK kvs)from I.hok a _ ea)
  obtain⟨o,es,ep,h1,h2,_⟩:=p
  exact PySem.W.kia_one PySem.W.kitx_dict I.kIn ⟨o,h1,h2.1⟩ e (fun z=>nomatch z) h
 |@dT a kvs ea=>
  cases (show u=Value.ref a from rx)
  obtain⟨_,_,xs,_,o,es,ep,h1,h2,_⟩:=(show dS X.prog X.w H s.heap a (.dT kvs)from I.hok a _ ea)
  exact PySem.W.kia_one PySem.W.kitx_dict I.kIn ⟨o,h1,h2.1⟩ e (fun z=>nomatch z) h
 |@ins a C dx fs ea cl ha hn htk hm=>
  cases (show u=Value.ref a from rx)
  obtain⟨mA,O,_⟩:=rS I.hok ea
  obtain⟨od,J,_⟩:=O.look
  exact PySem.W.kia_one (PySem.W.kitx_own (cl.get _) cl.hd ha hn htk hm) I.kIn J e (fun z=>nomatch z) h
end
structure iZ(k:Nat)(A:Around):Prop where
 hd:A.handled=none
 dp:A.depth+3*k+5<recursionLimit
 un:A.units+16*k+200<cLine
 gd:A.guards=some []
theorem iZ.mono{j k:Nat}{A:Around}(r:iZ k A)(h:j<=k):iZ j A:=⟨r.hd,by have:=r.dp;omega,by have:=r.un;omega,r.gd⟩
theorem iZ.deeper{k:Nat}{A:Around}(r:iZ (k+1) A)(env:Env):iZ k (A.deeper env):=
 ⟨r.hd,by have:=r.dp;show A.depth+1+3*k+5<_;omega,by have:=r.un;show A.units+3+16*k+200<_;omega,r.gd⟩
theorem xZ{A:Around}{C:Addr}{us:List Value}{kw:List (Str×Value)}:(A.under (.builtin "type.__call__" ⟨.ref C::us,kw⟩)).depth=A.depth+1:=by
 first|rfl|simp[Around.under,Code.weight,Code.isCreation,Code.isGuard,Code.isCaller,Code.frames,Code.isFrame,guardIds]
theorem xY{A:Around}{C:Addr}{us:List Value}{kw:List (Str×Value)}:(A.under (.builtin "type.__call__" ⟨.ref C::us,kw⟩)).units=A.units+1:=by
 first|rfl|simp[Around.under,Code.cUnits,Code.frames,Code.isFrame]
theorem iZ.make{k:Nat}{A:Around}(r:iZ (k+1) A)(C:Addr)(us:List Value)(kw:List (Str×Value)):iZ k (A.under (.builtin "type.__call__" ⟨.ref C::us,kw⟩)):=
 ⟨r.hd,by have:=r.dp;rw[xZ];omega,by have:=r.un;rw[xY];omega,r.gd⟩
theorem iZ.depth{k:Nat}{A:Around}(r:iZ k A):A.depth<recursionLimit:=by have:=r.dp;omega
theorem iZ.units{k:Nat}{A:Around}(r:iZ k A):A.units+64<cLine:=by have:=r.un;omega
def HN:TA:=fun _ H Q=>Q [] H
def Jl(ta:TE)(tr:TA):TA:=fun σ H Q=>ta σ H fun x H1=>tr σ H1 fun xs H2=>Q (x::xs) H2
section
variable{X:Cx}{e:Expr}{es:List Expr}{te:TE}{t:TA}{pos:Pos}
theorem J0:PA X [] HN:=fun _ _ _ _ H Q I h=>Calls.spliced_nil ⟨[],H,I,.nil,h⟩
theorem GK(ha:PE X e te)(hr:PA X es t)(hs:starEach (e::es) X.env=(false,eval e X.env)::starEach es X.env:=by rfl):PA X (e::es) (Jl te t):=by
 intro pos pins s σ H Q I h
 rw[hs]
 show wpAny _ _ (spliced ((false,eval e X.env)::backTo pos (starEach es X.env))) _ _ s
 refine Calls.spliced_cons (thn (ha pins s σ H _ I h) fun u s1 hz=>?_)
 obtain⟨x,H1,I1,r1,q1⟩:=hz
 exact thn (hr pos pins s1 σ H1 _ I1 q1) fun us s2 ⟨xs,H2,I2,r2,q2⟩=>⟨x::xs,H2,I2,.cons r1 r2,q2⟩
def Nm(t:TA):TE:=fun σ H Q=>t σ H fun xs H1=>xs.length<=sizeLine/\∀p,H1 p=none->Q (.ref p) (upd H1 p (.tup xs))
def Nr(t:TA):TE:=fun σ H Q=>t σ H fun xs H1=>xs.length<=sizeLine/\∀p,H1 p=none->Q (.ref p) (upd H1 p (.lst xs))
theorem JO{x1}(h:PA X es t):PE X (.Tuple es x1 pos) (Nm t):=by
 intro pins s σ H Q I hq
 refine wpAny_Tuple_spliced (thn (h pos pins s σ H _ I hq) fun us s1 ⟨xs,H1,I1,r,z,q⟩=>⟨by rw[<-r.length];exact z,?_⟩)
 have hf:H1 s1.heap.objs.size=none:=I1.hok.fresh (Nat.le_refl _)
 refine⟨.ref s1.heap.objs.size,upd H1 s1.heap.objs.size (.tup xs),I1.laid (t':=s1.toks) (fun b u e=>Heap.get?_push_of_some _ e) (Nat.le_refl _) ?_,rfl,q _ hf⟩
 exact⟨z,us,r,⟨_,Heap.get?_push_size _ rfl,rfl,_,rfl⟩⟩
theorem JT(h:PA X es t):PE X (.List es pos) (Nr t):=by
 intro pins s σ H Q I hq
 refine wpAny_List_spliced (thn (h pos pins s σ H _ I hq) fun us s1 ⟨xs,H1,I1,r,z,q⟩=>⟨by rw[<-r.length];exact z,?_⟩)
 have hf:H1 s1.heap.objs.size=none:=I1.hok.fresh (Nat.le_refl _)
 refine⟨.ref s1.heap.objs.size,upd H1 s1.heap.objs.size (.lst xs),I1.laid (t':=s1.toks) (fun b u e=>Heap.get?_push_of_some _ e) (Nat.le_refl _) ?_,rfl,q _ hf⟩
 exact⟨z,us,0,r,Heap.get?_push_size _ rfl⟩
end
abbrev Sp:=List V->Hp->VK->XK->Prop
abbrev CXT:=List Env->Hp->Shared->XK->Value->Shared->Prop
structure HL(P:Program)(w:World)(K:PySem.W.Frag)(mg:Str->Option Value)(base:Heap)(A:Around)(outer:List Env)(s:Shared)(H:Hp):Prop where
 frames:A.frames=some outer
 mod:Mod K mg base
 bs:∀b o,base.get? b=some o->s.heap.get? b=some o/\H b=none
 bsz:base.objs.size<=s.heap.objs.size
 funs:s.heap.FunFrames base outer
 frf:∀b∈frs outer,H b=none
 hok:HOk P w H s.heap
 bare:AllBare s.gens
def CE(outer:List Env)(P:Program)(w:World)(H:Hp)(s:Shared)(Q:VK)(u:Value)(s':Shared):Prop:=
 ∃v H',s'.os=s.os/\AllBare s'.gens/\Un (frs outer) [] H H' s.heap s'.heap/\HOk P w H' s'.heap/\dJ v u/\Q v H'
def CR(CX:CXT)(outer:List Env)(P:Program)(w:World)(H:Hp)(s:Shared)(Q:VK)(E:XK)(r:Result)(s':Shared):Prop:=
 match r with
 |.ok (.ret u)=>CE outer P w H s Q u s'
 |.ok _=>False
 |.error e=>CX outer H s E e s'
structure nr(P:Program)(w:World)(K:PySem.W.Frag)(mg:Str->Option Value)(base:Heap)(CX:CXT)(k:Nat)(f:Addr)(fd:FuncData)(ps:List Str)(sp:Sp):Prop where
 len:∀vs H Q E,sp vs H Q E->vs.length=ps.length
 run:∀(A:Around) (outer:List Env) (s:Shared) (H:Hp) (args:Args) (us:List Value) (vs:List V) (Q:VK) (E:XK),iZ k A->HL P w K mg base A outer s H->BindsTo s fd args (ps.zip us)->cE vs us->sp vs H Q E->
  codeAny (model P w) A (.call (.ref f) args) (CR CX outer P w H s Q E) s
theorem nr.mono{P:Program}{w:World}{K:PySem.W.Frag}{mg:Str->Option Value}{base:Heap}{CX:CXT}{j k:Nat}{f:Addr}{fd:FuncData}{ps:List Str}{sp:Sp}(F:nr P w K mg base CX j f fd ps sp)(h:j<=k) :
  nr P w K mg base CX k f fd ps sp:=⟨F.len,fun A outer s H args us vs Q E hr=>F.run A outer s H args us vs Q E (hr.mono h)⟩
theorem HL.make{P:Program}{w:World}{K:PySem.W.Frag}{mg:Str->Option Value}{base:Heap}{A:Around}{outer:List Env}{s:Shared}{H:Hp}(e:HL P w K mg base A outer s H)(C:Addr)(us:List Value)(kw:List (Str×Value)) :
  HL P w K mg base (A.under (.builtin "type.__call__" ⟨.ref C::us,kw⟩)) outer s H:=⟨by first|exact e.frames|(simpa [Around.under,Code.envs,Code.isFrame,pushEnvs] using e.frames),e.mod,e.bs,e.bsz,e.funs,e.frf,e.hok,e.bare⟩
section
variable{X:Cx}{pins:List (Addr×Obj)}{σ:St}{H:Hp}{s s':Shared}
theorem Inv.env0(I:Inv X pins σ H s):HL X.prog X.w X.K X.mg X.base X.A X.stack s H:=
 ⟨I.ok.frames,I.ok.mod,I.bs,Nat.le_trans I.ok.bsz I.sz,I.stack,I.stkFree,I.hok,I.bare⟩
theorem Inv.after{Q:VK}{u:Value}(I:Inv X pins σ H s)(h:CE X.stack X.prog X.w H s Q u s'):EP X pins σ Q u s':=by
 obtain⟨v,H',os,bare,un,hok,r,q⟩:=h
 obtain⟨hh,g,d,t,os'⟩:=s'
 obtain rfl:os'=s.os:=os
 exact⟨v,H',I.call (h':=hh) (g':=g) (d':=d) (t':=t) (ch:=[]) un hok bare (fun b z=>absurd z (by simp)),r,q⟩
end
def Jm(sp:Sp)(dvs:List V)(E:XK)(t:TA):TE:=fun σ H Q=>t σ H fun vs H1=>sp (vs++dvs) H1 Q E
def zc(C:Addr)(m:Str)(sp:Sp)(dvs:List V)(E:XK)(ta:TE)(t:TA):TE:=fun σ H Q=>ta σ H fun x H1=>∃a dx fs,x=.ref a/\H1 a=some (.ins C dx fs)/\fs.lookup m=none/\
 t σ H1 fun vs H2=>sp (x::(vs++dvs)) H2 Q E
def zd(C:Addr)(sp:Sp)(dvs:List V)(E:XK)(t:TA):TE:=fun σ H Q=>t σ H fun vs H1=>∀x dx,H1 x=none->H1 dx=none->dx≠x->
 sp (.ref x::(vs++dvs)) (upd (upd H1 dx (.own x)) x (.ins C dx [])) (fun v H2=>v=.non/\Q (.ref x) H2) E
def d6(K:PySem.W.Frag)(fd:FuncData)(ps:List Str)(ds:List Value):Prop:=
 ∀(s:Shared) (us:List Value),K.In s.heap->(us++ds).length=ps.length->BindsTo s fd ⟨us,[]⟩ (ps.zip (us++ds))
theorem d6.all{K:PySem.W.Frag}{fd:FuncData}{ps:List Str}(h:∀us:List Value,us.length=ps.length->bindArgs fd ⟨us,[]⟩=pure (ps.zip us)):d6 K fd ps []:=fun s us _ hl=>by
 rw[List.append_nil]at hl ⊢
 exact .of_eq (h us hl)
def jq(CX:CXT)(X:Cx)(E:XK):Prop:=∀(pins:List (Addr×Obj)) (σ:St) (H:Hp) (s:Shared) (e:Value) (s':Shared),Inv X pins σ H s->CX X.stack H s E e s'->X.xe e s'
section
variable{X:Cx}{CX:CXT}{k:Nat}{f C:Addr}{fd:FuncData}{ps:List Str}{sp:Sp}{dvs:List V}{ds:List Value}{E:XK}{x m:Str}{p pos apos:Pos}{e o:Expr}{es:List Expr}{ta:TE}{t:TA}
theorem zm{pins:List (Addr×Obj)}{σ:St}{H:Hp}{s:Shared}{Q:VK}{us:List Value}{vs:List V}(F:nr X.prog X.w X.K X.mg X.base CX k f fd ps sp)(hr:iZ k X.A)(hb:d6 X.K fd ps ds)(hd:cE dvs ds)(hx:jq CX X E)
  (I:Inv X pins σ H s) (r:cE vs us) (h:sp (vs++dvs) H Q E):wpAny (model X.prog X.w) X.A (call (.ref f) us) (EP X pins σ Q) X.xe s:=by
 have r2:cE (vs++dvs) (us++ds):=r.append hd
 have hl:(us++ds).length=ps.length:=by rw[<-r2.length];exact F.len _ _ _ _ h
 refine wpAny_call (codeAny_mono (F.run X.A X.stack s H ⟨us,[]⟩ (us++ds) (vs++dvs) Q E hr I.env0 (hb s us I.kIn hl) r2 h) fun r s' hq=>?_)
 cases r with
 |error e=>exact hx pins σ H s e s' I hq
 |ok fl=>
  cases fl with
  |ret u=>exact I.after hq
  |next=>exact False.elim hq
  |brk=>exact False.elim hq
  |cont=>exact False.elim hq
theorem GH(F:nr X.prog X.w X.K X.mg X.base CX k f fd ps sp)(hr:iZ k X.A)(hg:Gl X x)(hm:X.mg x=some (.ref f))(hk:PySem.W.keepIn X.K (.ref f)=true)(hb:d6 X.K fd ps ds)(hd:cE dvs ds)(hx:jq CX X E)
  (ha:PA X (e::es) t) (hdb:(x == ("__debug__":Str))=false:=by decide) (he:starEach (e::es) X.env=(false,eval e X.env)::starEach es X.env:=by rfl) (hpl:(backTo pos (starEach es X.env)).any (·.1)=false:=by rfl) :
  PE X (.Call (.Name x p) (e::es) [] pos) (Jm sp dvs E t):=by
 intro pins s σ H Q I h
 refine wpAny_Call_Name_kw (rP I hg hm ?_ hdb)
 refine PySem.W.callWith_K (h₀:=X.base) I.ok.mod.kin hk (thn (ha pos pins s σ H _ I h) fun us s1 ⟨vs,H1,I1,r,q⟩=>⟨I1.kIn,?_⟩) he hpl
 exact zm F hr hb hd hx I1 r q
theorem GB{pl:Sem Bool}(he:PE X o ta)(c:Cls X.K C)(hm:jV X.K C m f)(F:nr X.prog X.w X.K X.mg X.base CX k f fd ps sp)(hr:iZ k X.A)(hb:d6 X.K fd ps ds)(hd:cE dvs ds)(hx:jq CX X E)(ha:PA X (e::es) t)
  (hst:starEach (e::es) X.env=(false,eval e X.env)::starEach es X.env:=by rfl) (hpl:(backTo pos (starEach es X.env)).any (·.1)=false:=by rfl)
  (ht:eval (.Call (.Attribute o m apos) (e::es) [] pos) X.env=(do
   let ov <-eval o X.env
   standAt apos.atName
   let (f,first) <-holding [ov] (getMethod ov m pl)
   callWith pos f first (backTo pos (starEach (e::es) X.env)) (backToKw pos (keywordEach [] X.env))):=by rfl) :
  PE X (.Call (.Attribute o m apos) (e::es) [] pos) (zc C m sp dvs E ta t):=by
 intro pins s σ H Q I h
 refine PySem.W.methodCall_KW (pl:=pl) (thn (he pins s σ H _ I h) fun u s1 hz=>?_) ht
 obtain⟨x,H1,I1,rx,a,dx,fs,ex,ea,l,q⟩:=hz
 subst ex
 obtain rfl:u=Value.ref a:=rx
 refine qM I1 ea c hm l ?_
 refine PySem.W.callWith_K (first:=[.ref a]) (h₀:=X.base) I.ok.mod.kin hm.kp (thn (ha pos pins s1 σ H1 _ I1 q) fun us s2 ⟨vs,H2,I2,r,q2⟩=>⟨I2.kIn,?_⟩) hst hpl
 exact zm (us:=.ref a::us) (vs:=.ref a::vs) F hr hb hd hx I2 (.cons rfl r) q2
theorem CK{pl:Sem Bool}(he:PE X o ta)(c:Cls X.K C)(hm:jV X.K C m f)(F:nr X.prog X.w X.K X.mg X.base CX k f fd ps sp)(hr:iZ k X.A)(hb:d6 X.K fd ps ds)(hd:cE dvs ds)(hx:jq CX X E)
  (ht:eval (.Call (.Attribute o m apos) [] [] pos) X.env=(do
   let ov <-eval o X.env
   standAt apos.atName
   let (f,first) <-holding [ov] (getMethod ov m pl)
   callWith pos f first (backTo pos (starEach [] X.env)) (backToKw pos (keywordEach [] X.env))):=by rfl) :
  PE X (.Call (.Attribute o m apos) [] [] pos) (zc C m sp dvs E ta HN):=by
 intro pins s σ H Q I h
 refine PySem.W.methodCall_KW (pl:=pl) (thn (he pins s σ H _ I h) fun u s1 hz=>?_) ht
 obtain⟨x,H1,I1,rx,a,dx,fs,ex,ea,l,q⟩:=hz
 subst ex
 obtain rfl:u=Value.ref a:=rx
 refine qM I1 ea c hm l ?_
 exact PySem.W.callWith_K0 (first:=[.ref a]) I1.kIn hm.kp (zm (us:=[.ref a]) (vs:=[.ref a]) F hr hb hd hx I1 (.cons rfl .nil) q)
structure Mk(K:PySem.W.Frag)(C f:Addr):Prop where
 makes:PySem.W.makesIn K C=true
 init:PySem.W.findIn K (.ref C) "__init__"=some (some (.ref f))
 fn:PySem.W.isFn K (.ref f)=true
 kp:PySem.W.keepIn K (.ref C)=true
theorem wo{pins:List (Addr×Obj)}{σ:St}{H:Hp}{s:Shared}{Q:VK}{us:List Value}{vs:List V}(M:Mk X.K C f)(F:nr X.prog X.w X.K X.mg X.base CX k f fd ps sp)(hr:iZ (k+1) X.A)(hb:d6 X.K fd ps ds)(hd:cE dvs ds)
  (hx:jq CX X E) (I:Inv X pins σ H s) (r:cE vs us)
  (h:∀x dx,H x=none->H dx=none->dx≠x->sp (.ref x::(vs++dvs)) (upd (upd H dx (.own x)) x (.ins C dx [])) (fun v H2=>v=.non/\Q (.ref x) H2) E) :
  wpAny (model X.prog X.w) X.A (call (.ref C) us) (EP X pins σ Q) X.xe s:=by
 have hq:=h (s.heap.objs.size+1) s.heap.objs.size (I.hok.fresh (Nat.le_succ _)) (I.hok.fresh (Nat.le_refl _)) (Nat.ne_of_lt (Nat.lt_succ_self _))
 have I2:=Inv.made (C:=C) I
 have r2:cE (V.ref (s.heap.objs.size+1)::(vs++dvs)) (Value.ref (s.heap.objs.size+1)::(us++ds)):=.cons rfl (r.append hd)
 have hl:(Value.ref (s.heap.objs.size+1)::us++ds).length=ps.length:=by
  have e:=r2.length
  rw[F.len _ _ _ _ hq]at e
  exact e.symm
 refine wpAny_call (Dd (f:=f) I.kIn M.makes M.init (beq_iff_eq.mp M.fn) (codeAny_mono (F.run _ X.stack _ _ ⟨Value.ref (s.heap.objs.size+1)::us,[]⟩ (Value.ref (s.heap.objs.size+1)::(us++ds)) _ _ E (hr.make C us [])
  (I2.env0.make C us []) (hb _ (Value.ref (s.heap.objs.size+1)::us) I2.kIn hl) r2 hq) fun r s' hq'=>?_))
 cases r with
 |error e=>exact hx pins σ _ _ e s' I2 hq'
 |ok fl=>
  cases fl with
  |ret u=>
   obtain⟨v,H',I3,rv,ev,q3⟩:=I2.after hq'
   subst ev
   exact⟨rv,⟨V.ref (s.heap.objs.size+1),H',I3,rfl,q3⟩⟩
  |next=>exact False.elim hq'
  |brk=>exact False.elim hq'
  |cont=>exact False.elim hq'
theorem GC(M:Mk X.K C f)(F:nr X.prog X.w X.K X.mg X.base CX k f fd ps sp)(hr:iZ (k+1) X.A)(hg:Gl X x)(hm:X.mg x=some (.ref C))(hb:d6 X.K fd ps ds)(hd:cE dvs ds)(hx:jq CX X E)
  (ha:PA X (e::es) t) (hdb:(x == ("__debug__":Str))=false:=by decide) (he:starEach (e::es) X.env=(false,eval e X.env)::starEach es X.env:=by rfl) (hpl:(backTo pos (starEach es X.env)).any (·.1)=false:=by rfl) :
  PE X (.Call (.Name x p) (e::es) [] pos) (zd C sp dvs E t):=by
 intro pins s σ H Q I h
 refine wpAny_Call_Name_kw (rP I hg hm ?_ hdb)
 refine PySem.W.callWith_K (h₀:=X.base) I.ok.mod.kin M.kp (thn (ha pos pins s σ H _ I h) fun us s1 ⟨vs,H1,I1,r,q⟩=>⟨I1.kIn,?_⟩) he hpl
 exact wo M F hr hb hd hx I1 r q
theorem CL(M:Mk X.K C f)(F:nr X.prog X.w X.K X.mg X.base CX k f fd ps sp)(hr:iZ (k+1) X.A)(hg:Gl X x)(hm:X.mg x=some (.ref C))(hb:d6 X.K fd ps ds)(hd:cE dvs ds)(hx:jq CX X E)
  (hdb:(x == ("__debug__":Str))=false:=by decide):PE X (.Call (.Name x p) [] [] pos) (zd C sp dvs E HN):=by
 intro pins s σ H Q I h
 refine wpAny_Call_Name_kw (rP I hg hm ?_ hdb)
 exact PySem.W.callWith_K0 I.kIn M.kp (wo (us:=[]) M F hr hb hd hx I .nil h)
end
structure aS(N P:List Str)(sc:Scope):Prop where
 kind:sc.kind=.function
 co:sc.isCoroutine=false
 gen:sc.isGenerator=false
 nd:N.Nodup
 pre:N.take P.length=P
 par:∀x∈P,sc.names.lookup x=some .local\/sc.names.lookup x=some .cell
 nofree:∀y∈sc.names,y.2≠.free
theorem uD{kindOf:Str->Option NameKind}{x:Str}:∀{binds:List (Str×Value)} {m:Str->Option Value},(∀v,(x,v)∉binds)->bindL kindOf binds m x=m x
 |[],_,_=>rfl
 |(n,v)::r,m,h=>by
  unfold bindL
  rw[uD fun w hw=>h w (List.mem_cons_of_mem _ hw)]
  split
  ·have:x≠n:=by rintro rfl;exact h v List.mem_cons_self
   simp[this]
  ·rfl
theorem uF{kindOf:Str->Option NameKind}{x:Str}:∀{binds:List (Str×Value)} {m:Str->Option Value},(∀v,(x,v)∉binds)->bindC kindOf binds m x=m x
 |[],_,_=>rfl
 |(n,v)::r,m,h=>by
  unfold bindC
  rw[uF fun w hw=>h w (List.mem_cons_of_mem _ hw)]
  split
  ·rfl
  ·have:x≠n:=by rintro rfl;exact h v List.mem_cons_self
   simp[this]
theorem uE{kindOf:Str->Option NameKind}{x:Str}{v:Value}:∀{P:List Str} {vs:List Value} {i:Nat} {m:Str->Option Value},P.Nodup->P[i]?=some x->vs[i]?=some v->kindOf x=some .local->
  bindL kindOf (P.zip vs) m x=some v
 |[],_,_,_,_,h,_,_=>by simp at h
 |_::_,[],_,_,_,_,h,_=>by simp at h
 |p::P,w::vs,0,m,nd,h1,h2,hk=>by
  simp at h1 h2;subst h1;subst h2
  show bindL kindOf ((p,w)::P.zip vs) m p=_
  unfold bindL
  rw[uD fun v hv=>(List.nodup_cons.mp nd).1 (List.of_mem_zip hv).1,if_pos hk]
  simp
 |p::P,w::vs,i+1,m,nd,h1,h2,hk=>by
  show bindL kindOf ((p,w)::P.zip vs) m x=_
  unfold bindL
  exact uE (i:=i) (List.nodup_cons.mp nd).2 (by simpa using h1) (by simpa using h2) hk
theorem uG{kindOf:Str->Option NameKind}{x:Str}{v:Value}:∀{P:List Str} {vs:List Value} {i:Nat} {m:Str->Option Value},P.Nodup->P[i]?=some x->vs[i]?=some v->kindOf x≠some .local->
  bindC kindOf (P.zip vs) m x=some v
 |[],_,_,_,_,h,_,_=>by simp at h
 |_::_,[],_,_,_,_,h,_=>by simp at h
 |p::P,w::vs,0,m,nd,h1,h2,hk=>by
  simp at h1 h2;subst h1;subst h2
  show bindC kindOf ((p,w)::P.zip vs) m p=_
  unfold bindC
  rw[uF fun v hv=>(List.nodup_cons.mp nd).1 (List.of_mem_zip hv).1,if_neg hk]
  simp
 |p::P,w::vs,i+1,m,nd,h1,h2,hk=>by
  show bindC kindOf ((p,w)::P.zip vs) m x=_
  unfold bindC
  exact uG (i:=i) (List.nodup_cons.mp nd).2 (by simpa using h1) (by simpa using h2) hk
def kH(N:List Str)(vs:List V):St:=vs.map some++List.replicate (N.length-vs.length) none
def yB(CX:CXT)(P:Program)(w:World)(K:PySem.W.Frag)(mg:Str->Option Value)(base:Heap)(N:List Str)(qual:Str)(scope:Scope)(f:Addr)(cd:Value)(A:Around)(outer:List Env)(s:Shared)(H:Hp)(E:XK):Cx where
 prog:=P
 w:=w
 K:=K
 mg:=mg
 base:=base
 A:=A.deeper (envOfC qual scope s.heap.objs.size f cd)
 N:=N
 s₀:=s
 H₀:=H
 env:=envOfC qual scope s.heap.objs.size f cd
 outer:=outer
 stack:=envOfC qual scope s.heap.objs.size f cd::outer
 ex:=[]
 calm:=true
 fn:=fun _=>true
 pn:=[]
 xe:=fun e s'=>wpAny (model P w) (A.deeper (envOfC qual scope s.heap.objs.size f cd)) (leaving (envOfC qual scope s.heap.objs.size f cd) e) (fun _ s''=>CX outer H s E e s'') (fun e' s''=>CX outer H s E e' s'') s'
theorem xq{sc:Scope}{n:Nat}{x:Str}(h:sc.names.lookup x=some .cell):∃c,(cellsFrom n sc.names []).lookup x=some c:=by
 have q:=PySem.W.cellsFrom_some sc.names n [] (.inl h)
 exact Option.isSome_iff_exists.mp q
theorem Ar{CX:CXT}{P:Program}{w:World}{K:PySem.W.Frag}{mg:Str->Option Value}{base:Heap}{N ps:List Str}{qual:Str}{scope:Scope}{f:Addr}{cd:Value}{A:Around}{outer:List Env}{s s1:Shared}{H:Hp}{E:XK}{us:List Value}{vs:List V}
  (S:aS N ps scope) (hd:A.handled=none) (e0:HL P w K mg base A outer s H) (hl:vs.length=ps.length) (r:cE vs us)
  (x:InCallC s s.heap.objs.size (bindL (envOfC qual scope s.heap.objs.size f cd).kindOf (ps.zip us) fun _=>none) (cellsFrom (s.heap.objs.size+1) scope.names []) (bindC (envOfC qual scope s.heap.objs.size f cd).kindOf (ps.zip us) fun _=>none) s1) :
  Inv (yB CX P w K mg base N qual scope f cd A outer s H E) [] (kH N vs) H s1:=by
 have hpl:ps.length<=N.length:=by have:=congrArg List.length S.pre;rw[List.length_take]at this;omega
 obtain⟨h1,tk,rfl,hk⟩:=x.done
 have noA:∀b:Addr,b∉(yB CX P w K mg base N qual scope f cd A outer s H E).ex:=fun b z=>absurd (show b∈([]:List Addr)from z) (by simp)
 refine⟨⟨e0.mod,S.kind,rfl,rfl,Nat.le_refl _,fun y z c h1 h2=>?_,fun y hy=>?_,fun y c _ h=>?_,fun _=>hd,Around.frames_deeper e0.frames,.inr ⟨rfl,rfl⟩,fun b z=>absurd z (noA b),e0.bs,e0.bsz,fun b _ _=>noA b,fun b z=>absurd z (noA b),e0.funs,e0.frf⟩,
  rfl,e0.bare,Un.kept hk,⟨_,x.toInCall.ns,fun i y v h1 h2 h3=>?_⟩,fun y c h=>⟨_,x.cell y c h⟩,e0.hok.fresh (Nat.le_refl _),fun y c h=>?_,fun p hp=>absurd (show p∈([]:List (Addr×Obj))from hp) (by simp),e0.hok.kept hk,?_⟩
 ·exact name_of_addr x.apart (PySem.mem_of_lookup h1) (PySem.mem_of_lookup h2)
 ·have hy:scope.names.lookup y=some .cell\/scope.names.lookup y=some .free:=hy
  rcases hy with hy|hy
  ·exact xq hy
  ·exact absurd rfl (S.nofree _ (PySem.mem_of_lookup hy))
 ·exact Nat.le_of_lt (x.above y c (PySem.mem_of_lookup h))
 ·have hi:i<vs.length:=by
   unfold kH at h2
   by_cases hi:i<vs.length
   ·exact hi
   ·rw[List.getElem?_append_right (by simpa using hi)]at h2
    rw[List.getElem?_replicate]at h2
    split at h2<;>cases h2
  have ha:vs[i]?=some v:=by
   unfold kH at h2
   rw[List.getElem?_append_left (by simpa using hi),List.getElem?_map]at h2
   cases e:vs[i]? with
   |none=>rw[e]at h2;cases h2
   |some a=>rw[e]at h2;cases h2;rfl
  obtain⟨u,hu,rv⟩:=r.get ha
  have hp:ps[i]?=some y:=by
   rw[<-S.pre,List.getElem?_take_of_lt (by omega)];exact h1
  have ndP:ps.Nodup:=by rw[<-S.pre];exact S.nd.sublist (List.take_sublist _ _)
  refine⟨u,rv,?_⟩
  rcases S.par y (List.mem_of_getElem? hp)with k|k
  ·exact .inl ⟨k,uE ndP hp hu k⟩
  ·obtain⟨c,e⟩:=xq (n:=s.heap.objs.size+1) k
   refine .inr ⟨.inl k,c,e,?_⟩
   have q:=x.cell y c e
   rw[uG ndP hp hu (by show scope.names.lookup y≠_;rw[k];decide)]at q
   exact q
 ·exact e0.hok.fresh (Nat.le_of_lt (x.above y c (PySem.mem_of_lookup h)))
 ·unfold kH
  show _=N.length
  rw[List.length_append,List.length_map,List.length_replicate]
  omega
theorem M4{CX:CXT}{P:Program}{w:World}{K:PySem.W.Frag}{mg:Str->Option Value}{base:Heap}{k:Nat}{f:Addr}{name qual:Str}{params:Arguments}{body:List Stmt}{scope:Scope}{dV kV doc pm cdv ct oc:Value}{an od:Option Addr}
  {osl:Array (Option Value)} {N ps:List Str} {sp:Sp} (lk:K.lookup f=some ⟨oc,od,.func (PySem.W.fnOf name qual params body scope dV kV doc pm an cdv ct),osl⟩) (hcd:PySem.W.codeIn K cdv qual=true) (S:aS N ps scope)
  (len:∀vs H Q E,sp vs H Q E->vs.length=ps.length)
  (hbody:∀(A:Around) (outer:List Env) (s:Shared) (H:Hp) (vs:List V) (Q:VK) (E:XK),iZ k (A.deeper (envOfC qual scope s.heap.objs.size f cdv))->sp vs H Q E->
   ∃t,PSs (yB CX P w K mg base N qual scope f cdv A outer s H E) body t/\t { nx:=fun _ H'=>Q .non H',rt:=Q } (kH N vs) H) :
  nr P w K mg base CX (k+1) f (PySem.W.fnOf name qual params body scope dV kV doc pm an cdv ct) ps sp:=by
 refine⟨len,fun A outer s H args us vs Q E hr e0 hb r hsp=>?_⟩
 have hl:=len _ _ _ _ hsp
 have KX:K.In s.heap:=e0.mod.kin.keeps fun b o e=>(e0.bs b o e).1
 have lim:s.heap.NoLimit:=e0.mod.nolimit.keeps fun b o e=>(e0.bs b o e).1
 have hkind:∀y∈ps.zip us,scope.names.lookup y.1=some .local\/(scope.names.lookup y.1=some .cell/\((cellsFrom (s.heap.objs.size+1) scope.names []).lookup y.1).isSome=true):=fun⟨n,v⟩ hy=>by
  rcases S.par n (List.of_mem_zip hy).1 with q|q
  ·exact .inl q
  ·exact .inr ⟨q,PySem.W.cellsFrom_some _ _ _ (.inl q)⟩
 refine codeAny_call_function hr.depth (KX _ _ lk) rfl S.co S.gen rfl (PySem.W.codeRec_of KX hcd) (hb _ _ _ _ ?_)
 refine wpAny_newFunctionEnv_cells S.kind hkind fun env he s1 x=>?_
 subst he
 refine⟨lim.keeps x.toInCall.keep,codeAny_func ?_⟩
 obtain⟨t,ht,hq⟩:=hbody A outer s H vs Q E (hr.deeper _) hsp
 have I:Inv (yB CX P w K mg base N qual scope f cdv A outer s H E) [] (kH N vs) H s1:=Ar S hr.hd e0 hl r x
 refine wpAny_mono (ht [] s1 (kH N vs) H _ I hq) (fun fl s' hs=>?_) fun e s' hs=>hs
 have fin:∀{σ':St} {H':Hp} {v:V} {u:Value},Inv (yB CX P w K mg base N qual scope f cdv A outer s H E) [] σ' H' s'->dJ v u->Q v H'->CE outer P w H s Q u s':=
  fun{σ' H' v u} J rv q=>⟨v,H',J.os,J.bare,J.base,J.hok,rv,q⟩
 cases fl with
 |ret u=>
  obtain⟨v,σ',H',J,rv,q⟩:=hs
  exact fin J rv q
 |next=>
  obtain⟨σ',H',J,q⟩:=hs
  exact fin (v:=V.non) (u:=Value.none) J rfl q
 |brk=>
  obtain⟨_,_,_,q⟩:=hs
  exact False.elim q
 |cont=>
  obtain⟨_,_,_,q⟩:=hs
  exact False.elim q
section
variable{X:Cx}{x:Str}{p pos:Pos}{e:Expr}{es:List Expr}{t:TA}{id T:String}{r:List V->Hp->VK->Prop}
def tCB(r:List V->Hp->VK->Prop)(t:TA):TE:=fun σ H Q=>t σ H fun vs H1=>r vs H1 Q
theorem CU(hc:ib X (.builtin id) r)(hg:Gl X x)(hm:X.mg x=none)(hv:bootBuiltins x=some (.builtin id))(ha:PA X (e::es) t)(hn:x≠"__name__":=by decide)(hdb:(x == ("__debug__":Str))=false:=by decide)
  (he:starEach (e::es) X.env=(false,eval e X.env)::starEach es X.env:=by rfl) (hpl:(backTo pos (starEach es X.env)).any (·.1)=false:=by rfl):PE X (.Call (.Name x p) (e::es) [] pos) (tCB r t):=by
 intro pins s σ H Q I h
 refine wpAny_Call_Name_kw (oW I hg hm hv ?_ hn hdb)
 exact PyProof.Rows.callWith_builtin1 (thn (ha pos pins s σ H _ I h) fun us s1 ⟨vs,H1,I1,r1,q1⟩=>hc pins s1 σ H1 vs us Q I1 r1 q1) he hpl
theorem zP(hc:ib X (.type T) r)(hg:Gl X x)(hm:X.mg x=none)(hv:bootBuiltins x=some (.type T))(ha:PA X (e::es) t)(hn:x≠"__name__":=by decide)(hdb:(x == ("__debug__":Str))=false:=by decide)
  (he:starEach (e::es) X.env=(false,eval e X.env)::starEach es X.env:=by rfl) (hpl:(backTo pos (starEach es X.env)).any (·.1)=false:=by rfl):PE X (.Call (.Name x p) (e::es) [] pos) (tCB r t):=by
 intro pins s σ H Q I h
 refine wpAny_Call_Name_kw (oW I hg hm hv ?_ hn hdb)
 exact PyProof.Rows.callWith_type1 (thn (ha pos pins s σ H _ I h) fun us s1 ⟨vs,H1,I1,r1,q1⟩=>hc pins s1 σ H1 vs us Q I1 r1 q1) he hpl
end
end L2
namespace HT
open PySem PyProof.Rows
section
variable{prog:Program}{w:World}{A:Around}{E:Value->Shared->Prop}{s:Shared}
theorem cat_tup{t b:Addr}{vs ws:List Value}{Q:Value->Shared->Prop}(ht:IsTup s.heap t vs.toArray)(hb:IsTup s.heap b ws.toArray)(hv:vs≠[])
  (h1:ws=[]->Q (.ref t) s) (h2:ws≠[]->Q (.ref s.heap.objs.size) { s with heap:=s.heap.push { cls:=.type "tuple",data:=.seq (vs++ws).toArray } })
  (hsz:vs.length+ws.length<=sizeLine):wpAny (model prog w) A (binaryOp .Add (.ref t) (.ref b)) Q E s:=by
 obtain⟨⟨cls,dd,data,sl⟩,ho,hc,n,hd⟩:=id ht
 obtain⟨⟨cls2,dd2,data2,sl2⟩,ho2,hc2,n2,hd2⟩:=id hb
 simp only at hc hd hc2 hd2
 subst hc hd hc2 hd2
 have e:vs.toArray++ws.toArray=(vs++ws).toArray:=by simp
 by_cases hw:ws=[]
 ·exact concat_meets ⟨_,ho,rfl⟩ ⟨_,ho2,rfl⟩ noFill_tuple_add seq_tuple_add PySem.F.slot_tuple_add PySem.F.entry_tuple_add (PySem.F.args_tuple_add_2 _ _)
   (tuple_addW1 t b vs.toArray ws.toArray n n2 dd dd2 sl sl2 (by simpa using hv) (by simp[hw])) ⟨ho,ho2,h1 hw⟩
 ·refine concat_meets ⟨_,ho,rfl⟩ ⟨_,ho2,rfl⟩ noFill_tuple_add seq_tuple_add PySem.F.slot_tuple_add PySem.F.entry_tuple_add (PySem.F.args_tuple_add_2 _ _)
   (tuple_addW2 t b vs.toArray ws.toArray n n2 dd dd2 sl sl2 (by simpa using hv) (by simpa using hw) (by rw[List.size_toArray,List.size_toArray];exact hsz)) ⟨ho,ho2,?_⟩
  rw[e]
  exact h2 hw
def sIx(n d:Nat):Option Int->Nat
 |none=>d
 |some v=>if v<0 then(v+(n:Int)).toNat else min v.toNat n
theorem sIx_none(n d:Nat):sIx n d none=d:=rfl
theorem sIx_nat(n d k:Nat):sIx n d (some (k:Int))=min k n:=by
 show(if (k:Int)<0 then((k:Int)+(n:Int)).toNat else min (k:Int).toNat n)=min k n
 rw[if_neg (by omega),Int.toNat_natCast]
theorem Jr(n d:Nat)(hd:d<=n)(o:Option Int):sIx n d o<=n:=by
 cases o with
 |none=>exact hd
 |some v=>
  show(if v<0 then(v+(n:Int)).toNat else min v.toNat n)<=n
  by_cases hv:v<0
  ·rw[if_pos hv];omega
  ·rw[if_neg hv];exact Nat.min_le_right _ _
theorem Bc(v:Int)(n d:Nat):(if v<0 then max (v+(n:Int)) 0 else min v (n:Int))=((sIx n d (some v):Nat):Int):=by
 show(if v<0 then max (v+(n:Int)) 0 else min v (n:Int))=(((if v<0 then(v+(n:Int)).toNat else min v.toNat n):Nat):Int)
 by_cases hv:v<0
 ·simp only[if_pos hv];omega
 ·simp only[if_neg hv];omega
theorem yu(lo hi:Option Int)(n:Nat):Builtin.Slice.sliceAdjust lo hi 1 (n:Int)=(((sIx n 0 lo:Nat):Int),((sIx n n hi:Nat):Int)):=by
 have h1:¬((1:Int)<0):=by omega
 unfold Builtin.Slice.sliceAdjust
 simp only[h1,if_false]
 refine Prod.ext ?_ ?_
 ·cases lo with
  |none=>rfl
  |some v=>exact Bc v n 0
 ·cases hi with
  |none=>rfl
  |some v=>exact Bc v n n
theorem xU(i j:Nat):Builtin.Slice.slicePlaces (i:Int) (j:Int) 1=j-i:=by
 unfold Builtin.Slice.slicePlaces
 have h1:(1:Int)>0:=by omega
 simp only[h1,if_true,Int.ediv_one]
 split<;>omega
theorem qr{v:Value}{o:Option Int}{Q:Option Int->Shared->Prop}(p:IsPart v o)(h:Q o s):wpAny (model prog w) A (Builtin.Slice.slicePartIndex v) Q E s:=by
 cases p with
 |none=>exact slicePart_none h
 |int i t=>exact slicePart_int h
theorem nv{sl:Addr}{vl vu:Value}{lo hi:Option Int}{n:Nat}{Q:Int×Int×Nat->Shared->Prop}(hs:s.heap.IsSliceOf sl vl vu .none)(pl:IsPart vl lo)(pu:IsPart vu hi)
  (h:Q (((sIx n 0 lo:Nat):Int),1,sIx n n hi-sIx n 0 lo) s):wpAny (model prog w) A (Builtin.Slice.sliceApplied (.ref sl) (pure (n:Int))) Q E s:=by
 obtain⟨os,hos,hcs,hds⟩:=id hs
 unfold Builtin.Slice.sliceApplied Builtin.Slice.sliceFields
 refine wpAny_bind (wpAny_bind (wpAny_field hos hds (x:=vl) rfl (wpAny_bind (wpAny_field hos hds (x:=vu) rfl (wpAny_bind (wpAny_field hos hds (x:=.none) rfl (wpAny_pure ?_)))))))
 refine wpAny_bind (slicePart_none ?_)
 show wpAny _ _ (if ((1:Int) == 0)=true then _ else _) _ _ s
 rw[if_neg (by decide)]
 refine wpAny_bind (qr pl (wpAny_bind (qr pu (wpAny_bind (wpAny_pure ?_)))))
 show wpAny _ _ (match Builtin.Slice.sliceAdjust lo hi 1 (n:Int)with|(lo,hi)=>pure (lo,(1:Int),Builtin.Slice.slicePlaces lo hi 1)) _ _ s
 rw[yu lo hi n]
 show wpAny _ _ (pure (((sIx n 0 lo:Nat):Int),(1:Int),Builtin.Slice.slicePlaces ((sIx n 0 lo:Nat):Int) ((sIx n n hi:Nat):Int) 1)) _ _ s
 rw[xU]
 exact wpAny_pure h
theorem CF(xs:Array Value)(i k:Nat):((List.range k).filterMap fun(m:Nat)=>xs[((i:Int)+(m:Int)*1).toNat]?).toArray=((xs.toList.drop i).take k).toArray:=by
 have e:(fun(m:Nat)=>xs[((i:Int)+(m:Int)*1).toNat]?)=fun m=>xs[i+m]?:=by
  funext m
  have:((i:Int)+(m:Int)*1).toNat=i+m:=by omega
  rw[this]
 rw[e]
 have:=pick_run xs i k
 rw[List.filterMap_map]at this
 have e2:((fun x=>xs[x]?) ∘ fun x=>i+x)=fun m=>xs[i+m]?:=rfl
 rw[e2]at this
 rw[this]
theorem getItem_tuple_cut{t sl:Addr}{items:Array Value}{vl vu:Value}{lo hi:Option Int}{Q:Value->Shared->Prop}(ht:IsTup s.heap t items)(hs:s.heap.IsSliceOf sl vl vu .none)(pl:IsPart vl lo)(pu:IsPart vu hi)
  (hw:¬(sIx items.size 0 lo=0/\sIx items.size items.size hi=items.size))
  (h:Q (.ref s.heap.objs.size) { s with heap:=s.heap.push { cls:=.type "tuple",data:=.seq ((items.toList.drop (sIx items.size 0 lo)).take (sIx items.size items.size hi-sIx items.size 0 lo)).toArray } })
  (hsz:items.size<=sizeLine):wpAny (model prog w) A (getItem (.ref t) (.ref sl)) Q E s:=by
 have htake:sizeOk (.seq ((items.toList.drop (sIx items.size 0 lo)).take (sIx items.size items.size hi-sIx items.size 0 lo)).toArray):=by
  show((items.toList.drop (sIx items.size 0 lo)).take (sIx items.size items.size hi-sIx items.size 0 lo)).toArray.size<=sizeLine
  rw[List.size_toArray,List.length_take,List.length_drop,Array.length_toList]
  omega
 have hj:sIx items.size items.size hi<=items.size:=Jr _ _ (Nat.le_refl _) hi
 obtain⟨os,hos,hcs,hds⟩:=id hs
 have hTs:s.TypeIs (.ref sl) "slice":=⟨os,hos,hcs⟩
 unfold getItem
 try with_reducible refine wpAny_holding ?_
 first|refine wpAny_bind (wpAny_pure ?_)|skip
 refine wpAny_bind (wpAny_sequenceKey ht.typeIs (by decide) ?_)
 refine wpAny_bind (wpAny_callSpecial?_slot (name:=Str.ofString "__getitem__") ht.typeIs PyProof.Rows.slot_tuple_getitem
  (wpAny_call_entry PyProof.Rows.slot_tuple_getitem ht.typeIs entry_tuple_getitem ?_ (args_tuple_getitem _ _)))
 show wpAny _ _ (Builtin.Tuple.tupleItemsOf (.ref t) >>= _) _ _ s
 refine wpAny_bind (tupleItemsOf_ ht ?_)
 refine wpAny_bind (wpAny_typeOf hTs ?_)
 rw[if_pos (by decide)]
 refine wpAny_bind (nv hs pl pu ?_)
 have hno:¬((((sIx items.size 0 lo:Nat):Int) == 0&&(1:Int) == 1&&(sIx items.size items.size hi-sIx items.size 0 lo) == items.size)=true):=by
  intro q
  rw[Bool.and_eq_true,Bool.and_eq_true]at q
  have q1:((sIx items.size 0 lo:Nat):Int)=0:=eq_of_beq q.1.1
  have q2:sIx items.size items.size hi-sIx items.size 0 lo=items.size:=eq_of_beq q.2
  exact hw ⟨by omega,by omega⟩
 show wpAny _ _ (if (((sIx items.size 0 lo:Nat):Int) == 0&&(1:Int) == 1&&(sIx items.size items.size hi-sIx items.size 0 lo) == items.size)=true then _ else _) _ _ s
 rw[if_neg hno,CF]
 first
  |exact wpAny_bind (m:=Builtin.Tuple.tupleExact _) (wpAny_newObj_type (wpAny_pure ⟨_,rfl,wpAny_pure h⟩) htake)
  |exact wpAny_bind (m:=Builtin.Tuple.tupleExact _) (wpAny_newObj_type (wpAny_bind (wpAny_pure (wpAny_pure ⟨_,rfl,wpAny_pure h⟩))) htake)
  |exact wpAny_bind (wpAny_bind (m:=Builtin.Tuple.tupleExact _) (wpAny_newObj_type (wpAny_pure (wpAny_pure ⟨_,rfl,wpAny_pure h⟩)) htake))
  |exact wpAny_bind (wpAny_bind (m:=Builtin.Tuple.tupleExact _) (wpAny_newObj_type (wpAny_pure ⟨_,rfl,wpAny_pure h⟩) htake))
end
end HT
namespace L2
open PySem PySem.Spec PyProof.Rows
abbrev TO:=St->Hp->(Option Int->Hp->Prop)->Prop
def PO(X:Cx)(e:Option Expr)(t:TO):Prop:=
 ∀(pins:List (Addr×Obj)) (s:Shared) (σ:St) (H:Hp) (Q:Option Int->Hp->Prop),Inv X pins σ H s->t σ H Q->
  wpAny (model X.prog X.w) X.A (evalPart e X.env) (fun u s'=>∃o H',Inv X pins σ H' s'/\IsPart u o/\Q o H') X.xe s
def zb:TO:=fun _ H Q=>Q none H
def Jg(t:TE):TO:=fun σ H Q=>t σ H fun x H1=>∃i,x=.int i/\Q (some i) H1
section
variable{X:Cx}{e:Expr}{te:TE}{lo hi:Option Expr}{tl th:TO}{pos p2:Pos}
theorem Gx:PO X none zb:=by
 intro pins s σ H Q I h
 rw[evalPart_none]
 exact wpAny_pure ⟨none,H,I,.none,h⟩
theorem Gw(h:PE X e te):PO X (some e) (Jg te):=by
 intro pins s σ H Q I hw
 rw[evalPart_some]
 refine thn (h pins s σ H _ I hw) fun u s1 hz=>?_
 obtain⟨x,H1,I1,r1,q1⟩:=hz
 obtain⟨i,rfl,q⟩:=q1
 obtain⟨t,rfl⟩:=r1
 exact⟨some i,H1,I1,.int i t,q⟩
def SlR(X:Cx)(r:V->Option Int->Option Int->Hp->VK->Prop):Prop:=
 ∀(pins:List (Addr×Obj)) (s:Shared) (σ:St) (H:Hp) (x:V) (v vl vu:Value) (lo hi:Option Int) (sl:Addr) (Q:VK),Inv X pins σ H s->dJ x v->s.heap.IsSliceOf sl vl vu .none->IsPart vl lo->IsPart vu hi->r x lo hi H Q->
  ∃T id,typeLookup (.type T) "__getitem__"=pure (some (.builtin id))/\s.TypeIs v T/\wpAny (model X.prog X.w) X.A (getItem v (.ref sl)) (EP X pins σ Q) X.xe s
theorem SlR.or{r r':V->Option Int->Option Int->Hp->VK->Prop}(h:SlR X r)(h':SlR X r'):SlR X (fun x lo hi H Q=>r x lo hi H Q\/r' x lo hi H Q):=by
 intro pins s σ H x v vl vu lo hi sl Q I rx hs pl pu q
 rcases q with q|q
 ·exact h pins s σ H x v vl vu lo hi sl Q I rx hs pl pu q
 ·exact h' pins s σ H x v vl vu lo hi sl Q I rx hs pl pu q
def tSl(r:V->Option Int->Option Int->Hp->VK->Prop)(te:TE)(tl th:TO):TE:=fun σ H Q=>te σ H fun x H1=>tl σ H1 fun l H2=>th σ H2 fun u H3=>r x l u H3 Q
theorem CJ{r:V->Option Int->Option Int->Hp->VK->Prop}(hr:SlR X r)(he:PE X e te)(hl:PO X lo tl)(hu:PO X hi th):PE X (.Subscript e (.Slice lo hi none p2) pos) (tSl r te tl th):=by
 intro pins s σ H Q I h
 refine Subscript_ (thn (he pins s σ H _ I h) fun v s1 hz=>?_)
 obtain⟨x,H1,I1,r1,q1⟩:=hz
 refine wpAny_Slice (thn (hl pins s1 σ H1 _ I1 q1) fun vl s2 ⟨l,H2,I2,pl,q2⟩=>thn (hu pins s2 σ H2 _ I2 q2) fun vu s3 hz=>?_)
 obtain⟨u,H3,I3,pu,q3⟩:=hz
 rw[evalPart_none]
 refine wpAny_pure ?_
 have I4:Inv X pins σ H3 { s3 with heap:=s3.heap.push { cls:=.type "slice",data:=.fields #[vl,vu,.none] } }:=I3.kept (t':=s3.toks) fun b ob q=>Heap.get?_push_of_some _ q
 obtain⟨T,id,hT,ht,hg⟩:=hr pins { s3 with heap:=s3.heap.push { cls:=.type "slice",data:=.fields #[vl,vu,.none] } } σ H3 x v vl vu l u s3.heap.objs.size Q I4 r1 (Heap.IsSliceOf.new ..) pl pu q3
 show wpAny (model X.prog X.w) X.A (subscriptTail e (.Slice lo hi none p2) v (.ref s3.heap.objs.size)) (EP X pins σ Q) X.xe { s3 with heap:=s3.heap.push { cls:=.type "slice",data:=.fields #[vl,vu,.none] } }
 exact tail_any (ops:=[.ref s3.heap.objs.size,v]) ht hT hg (by with_unfolding_all rfl)
def A9(xs:List V)(lo hi:Option Int):List V:=(xs.drop (HT.sIx xs.length 0 lo)).take (HT.sIx xs.length xs.length hi-HT.sIx xs.length 0 lo)
theorem pq(xs:List V)(lo hi:Option Int):(A9 xs lo hi).length<=xs.length:=by
 unfold A9
 rw[List.length_take,List.length_drop]
 omega
def Oq(K:PySem.W.Frag):V->Option Int->Option Int->Hp->VK->Prop:=fun x lo hi H Q=>∃a xs,x=.ref a/\SqT K H a xs/\
 ¬(HT.sIx xs.length 0 lo=0/\HT.sIx xs.length xs.length hi=xs.length)/\∀p,H p=none->Q (.ref p) (upd H p (.tup (A9 xs lo hi)))
theorem Jp:SlR X (Oq X.K):=by
 intro pins s σ H x v vl vu lo hi sl Q I rx hs pl pu h
 obtain⟨a,xs,rfl,hx,hw,q⟩:=h
 cases rx
 obtain⟨its,r,ht,hz⟩:=I.tuple hx
 have gZ:its.toArray.size=xs.length:=by rw[List.size_toArray];exact r.length.symm
 refine⟨"tuple",_,PyProof.Rows.slot_tuple_getitem.lookup,ht.typeIs,?_⟩
 refine HT.getItem_tuple_cut ht hs pl pu (by rw[gZ];exact hw) ?_ (by rw[gZ];exact hz)
 rw[gZ]
 refine⟨.ref s.heap.objs.size,_,I.laid (t':=s.toks) (o:=.tup (A9 xs lo hi)) (fun b ob q=>Heap.get?_push_of_some _ q) (Nat.le_refl _) ?_,rfl,q _ (I.hok.fresh (Nat.le_refl _))⟩
 exact⟨Nat.le_trans (pq xs lo hi) hz,_,(r.drop (HT.sIx xs.length 0 lo)).take (HT.sIx xs.length xs.length hi-HT.sIx xs.length 0 lo),IsTup.new _ _⟩
def Mx(K:PySem.W.Frag):R2:=fun x y H Q=>∃a b xs ys,x=.ref a/\y=.ref b/\SqT K H a xs/\SqT K H b ys/\xs≠[]/\xs.length+ys.length<=sizeLine/\
 (ys=[]->Q (.ref a) H)/\(ys≠[]->∀p,H p=none->Q (.ref p) (upd H p (.tup (xs++ys))))
theorem cE.nil_iff{xs:List V}{us:List Value}(r:cE xs us):us=[]↔xs=[]:=by
 cases r with
 |nil=>simp
 |cons _ _=>simp
theorem GR:OpR X (binaryOp .Add) (Mx X.K):=by
 intro pins s σ H x y v u Q I rx ry h
 obtain⟨a,b,xs,ys,rfl,rfl,ha,hb,hx,hz,q1,q2⟩:=h
 cases rx
 cases ry
 obtain⟨its,r1,p1,_⟩:=I.tuple ha
 obtain⟨its2,r2,p2,_⟩:=I.tuple hb
 refine HT.cat_tup p1 p2 (fun z=>hx (r1.nil_iff.mp z)) (fun z=>⟨.ref a,H,I,rfl,q1 (r2.nil_iff.mp z)⟩) (fun z=>?_) (by rw[<-r1.length,<-r2.length];exact hz)
 refine⟨.ref s.heap.objs.size,_,I.laid (t':=s.toks) (o:=.tup (xs++ys)) (fun b ob q=>Heap.get?_push_of_some _ q) (Nat.le_refl _) ?_,rfl,q2 (fun w=>z (r2.nil_iff.mpr w)) _ (I.hok.fresh (Nat.le_refl _))⟩
 exact⟨by rw[List.length_append];exact hz,_,r1.append r2,IsTup.new _ _⟩
end
def ixN(n:Nat)(i:Int):Option Nat:=if 0<=i then(if i<n then some i.toNat else none)else if -(n:Int)<=i then some (i+n).toNat else none
def atI{α:Type}(xs:List α)(i:Int):Option α:=(ixN xs.length i).bind fun j=>xs[j]?
theorem Am{n:Nat}{i:Int}{j:Nat}(h:ixN n i=some j):seqIndex? i n=some j/\j<n/\-(n:Int)<=i/\i<n:=by
 unfold ixN at h
 by_cases h0:0<=i
 ·rw[if_pos h0]at h
  by_cases h1:i<n
  ·rw[if_pos h1]at h
   have e:i.toNat=j:=Option.some.inj h
   exact⟨by rw[seqIndex_of h0 h1,e],by omega,by omega,h1⟩
  ·rw[if_neg h1]at h;cases h
 ·rw[if_neg h0]at h
  by_cases h1:-(n:Int)<=i
  ·rw[if_pos h1]at h
   have e:(i+n).toNat=j:=Option.some.inj h
   exact⟨by rw[seqIndex_neg (by omega) h1,e],by omega,h1,by omega⟩
  ·rw[if_neg h1]at h;cases h
theorem Bu{α:Type}{xs:List α}{i:Int}{v:α}(h:atI xs i=some v):∃j,seqIndex? i xs.length=some j/\xs[j]?=some v/\j<xs.length/\-(xs.length:Int)<=i/\i<xs.length:=by
 unfold atI at h
 cases e:ixN xs.length i with
 |none=>rw[e]at h;cases h
 |some j=>
  rw[e]at h
  obtain⟨h1,h2,h3,h4⟩:=Am e
  exact⟨j,h1,h,h2,h3,h4⟩
theorem iM{α:Type}{xs:List α}{j:Nat}{v:α}(h:xs[j]?=some v):atI xs (j:Int)=some v:=by
 have hj:j<xs.length:=(List.getElem?_eq_some_iff.mp h).1
 have e:ixN xs.length (j:Int)=some j:=by
  unfold ixN
  rw[if_pos (by omega),if_pos (by omega)];simp
 unfold atI;rw[e];exact h
def vL(b:Expr):Prop:=∀o i,subscripted b false o i=operate [o,i] (getItem o i)
def IxR(X:Cx)(r:R2):Prop:=
 ∀(value slice:Expr) (pins:List (Addr×Obj)) (s:Shared) (σ:St) (H:Hp) (x y:V) (v u:Value) (Q:VK),Inv X pins σ H s->dJ x v->dJ y u->r x y H Q->
  subscripted slice false v u=operate [v,u] (getItem v u)->wpAny (model X.prog X.w) X.A (subscriptTail value slice v u) (EP X pins σ Q) X.xe s
def MtR(X:Cx)(id:String)(r:V->List V->Hp->VK->Prop):Prop:=
 ∀(pins:List (Addr×Obj)) (s:Shared) (σ:St) (H:Hp) (x:V) (xs:List V) (v:Value) (us:List Value) (Q:VK),Inv X pins σ H s->dJ x v->cE xs us->r x xs H Q->
  wpAny (model X.prog X.w) X.A (call (.builtin id) (v::us)) (EP X pins σ Q) X.xe s
section
variable{X:Cx}{a b:Expr}{ta tb:TE}{pos:Pos}
theorem IxR.or{r r':R2}(h:IxR X r)(h':IxR X r'):IxR X (fun x y H Q=>r x y H Q\/r' x y H Q):=by
 intro value slice pins s σ H x y v u Q I rx ry q hs
 rcases q with q|q
 ·exact h value slice pins s σ H x y v u Q I rx ry q hs
 ·exact h' value slice pins s σ H x y v u Q I rx ry q hs
theorem MF{r:R2}(hr:IxR X r)(ha:PE X a ta)(hb:PE X b tb)(hs:vL b):PE X (.Subscript a b pos) (tOp r ta tb):=by
 intro pins s σ H Q I h
 exact Subscript_ (M9 ha hb I h fun v u s2 x y H2 I2 rx ry q=>hr a b pins s2 σ H2 x y v u Q I2 rx ry q (hs _ _))
def Ov(K:PySem.W.Frag):R2:=fun x y H Q=>∃p xs i v,x=.ref p/\y=.int i/\SqL K H p xs/\atI xs i=some v/\Q v H
def Ou(K:PySem.W.Frag):R2:=fun x y H Q=>∃p xs i v,x=.ref p/\y=.int i/\SqT K H p xs/\atI xs i=some v/\Q v H
theorem Hc:IxR X (Ov X.K):=by
 intro value slice pins s σ H x y v u Q I rx ry h hs
 obtain⟨p,xs,i,z,rfl,rfl,hq,he,q⟩:=h
 cases rx
 obtain⟨t,rfl⟩:=ry
 obtain⟨its,r,pl,hz⟩:=I.list hq
 obtain⟨j,h1,h2,h3,h4,h5⟩:=Bu he
 obtain⟨w,ew,rw'⟩:=r.get h2
 have hl:=r.length
 have hn:=wU
 have fin:EP X pins σ Q w s:=⟨z,H,I,rw',q⟩
 by_cases h0:0<=i
 ·have hj:i.toNat=j:=by
   rw[seqIndex_of h0 h5]at h1
   exact Option.some.inj h1
  exact item_listR pl.isList h0 (by omega) (by rw[hj];simpa using ew) fin hs
 ·have hj:(i+(its.toArray.size:Int)).toNat=j:=by
   rw[seqIndex_neg (by omega) h4]at h1
   rw[List.size_toArray,<-hl]
   exact Option.some.inj h1
  exact subscriptTail_builtinR (x:=w) pl.isList.typeIs slot_list_getitem.lookup
   (wpAny_getItem_list_neg (Q:=fun r s'=>r=w/\EP X pins σ Q r s') pl.isList (by omega) (by rw[List.size_toArray]<;>omega) (by omega) (by rw[hj];simpa using ew) ⟨rfl,fin⟩) hs
theorem Kv:IxR X (Ou X.K):=by
 intro value slice pins s σ H x y v u Q I rx ry h hs
 obtain⟨p,xs,i,z,rfl,rfl,hq,he,q⟩:=h
 cases rx
 obtain⟨t,rfl⟩:=ry
 obtain⟨its,r,pl,hz⟩:=I.tuple hq
 obtain⟨j,h1,h2,h3,h4,h5⟩:=Bu he
 obtain⟨w,ew,rw'⟩:=r.get h2
 have hl:=r.length
 have hn:=wU
 have fin:EP X pins σ Q w s:=⟨z,H,I,rw',q⟩
 exact subscriptTail_builtinR (x:=w) pl.typeIs slot_tuple_getitem.lookup
  (getItem_tuple (j:=j) (Q:=fun r s'=>r=w/\EP X pins σ Q r s') pl (by omega) (by omega) (by rw[List.size_toArray,<-hl];exact h1) (by simpa using ew) ⟨rfl,fin⟩) hs
theorem xX(its:List Value)(n j:Nat)(u:Value):Obj.mapSeq (·.setIfInBounds j u) { cls:=.type "list",data:=.seq its.toArray n }={ cls:=.type "list",data:=.seq (its.set j u).toArray n }:=by
 simp[Obj.mapSeq]
theorem Inv.lst{pins:List (Addr×Obj)}{σ:St}{H:Hp}{s:Shared}{p:Addr}{xs:List V}(I:Inv X pins σ H s)(h:H p=some (.lst xs)) :
  ∃(its:List Value) (n:Nat),cE xs its/\s.heap.get? p=some { cls:=.type "list",data:=.seq its.toArray n }/\xs.length<=sizeLine:=by
 obtain⟨z,its,n,r,e⟩:=I.hok p _ h
 exact⟨its,n,r,e,z⟩
theorem Inv.lstUpd{pins:List (Addr×Obj)}{σ:St}{H:Hp}{s:Shared}{p:Addr}{xs ys:List V}{its its':List Value}{n n':Nat}{f:Obj->Obj}(I:Inv X pins σ H s)(h:H p=some (.lst xs))
  (ho:s.heap.get? p=some { cls:=.type "list",data:=.seq its.toArray n }) (hf:f { cls:=.type "list",data:=.seq its.toArray n }={ cls:=.type "list",data:=.seq its'.toArray n' }) (r:cE ys its') (hz:ys.length<=sizeLine) (t:Nat) :
  Inv X pins σ (upd H p (.lst ys)) { s with heap:=s.heap.update p f,toks:=t }:=by
 have e:(s.heap.update p f).get? p=some { cls:=.type "list",data:=.seq its'.toArray n' }:=by
  rw[Heap.get?_update_self f ho (by rw[hf]<;>rfl),hf]
 refine I.write (x:=p) (e:=p) (by rw[h];trivial) (.inl rfl) (fun b u hb q=>(Heap.get?_update_other _ _ (Ne.symm hb)).trans q) ⟨_,e⟩ ?_
 exact⟨hz,its',n',r,e⟩
def Mu:V->V->V->Hp->(Hp->Prop)->Prop:=fun o i v H Q=>∃p xs k j,o=.ref p/\i=.int k/\H p=some (.lst xs)/\ixN xs.length k=some j/\Q (upd H p (.lst (xs.set j v)))
theorem Ci:Ni X Mu:=by
 intro pins s σ H o i v ov iv u Q I ro ri rv h
 obtain⟨p,xs,k,j,rfl,rfl,hp,hj,q⟩:=h
 cases ro
 obtain⟨t,rfl⟩:=ri
 obtain⟨its,n,r,ho,hz⟩:=I.lst hp
 obtain⟨h1,h2,h3,h4⟩:=Am hj
 have hl:=r.length
 have hn:=wU
 have I':Inv X pins σ (upd H p (.lst (xs.set j v))) { s with heap:=s.heap.update p (Obj.mapSeq (·.setIfInBounds j u)) }:=
  I.lstUpd hp ho (xX its n j u) (r.set rv j) (by rw[List.length_set];exact hz) s.toks
 by_cases h0:0<=k
 ·have hk:k.toNat=j:=by
   rw[seqIndex_of h0 h4]at h1
   exact Option.some.inj h1
  exact PySem.W.ki_setAt ho h0 (by omega) (by rw[List.size_toArray,<-hl];exact h4) (by rw[hk];exact⟨_,I',q⟩)
 ·have hk:(k+(its.toArray.size:Int)).toNat=j:=by
   rw[seqIndex_neg (by omega) h3]at h1
   rw[List.size_toArray,<-hl]
   exact Option.some.inj h1
  exact PySem.W.ki_setBack ho (by omega) (by rw[List.size_toArray,<-hl];exact h3) (by omega) (by rw[hk];exact⟨_,I',q⟩)
theorem tH(lo hi:Option Int)(n:Nat):(sliceBounds lo hi none n).1=((HT.sIx n 0 lo:Nat):Int)/\(sliceBounds lo hi none n).2.1=((HT.sIx n n hi:Nat):Int)/\(sliceBounds lo hi none n).2.2=1:=by
 refine⟨?_,?_,rfl⟩
 ·cases lo with
  |none=>simp[sliceBounds,HT.sIx]
  |some i=>
   simp only[sliceBounds,HT.sIx,Option.getD_none,show(1:Int)>0 by decide,if_true]
   by_cases h:i<0
   ·simp only[h,if_true]<;>omega
   ·simp only[h,if_false]<;>omega
 ·cases hi with
  |none=>simp[sliceBounds,HT.sIx]
  |some i=>
   simp only[sliceBounds,HT.sIx,Option.getD_none,show(1:Int)>0 by decide,if_true]
   by_cases h:i<0
   ·simp only[h,if_true]<;>omega
   ·simp only[h,if_false]<;>omega
theorem rA(its:List Value)(lo hi:Option Int):slicePick its.toArray lo hi none=((its.drop (HT.sIx its.length 0 lo)).take (HT.sIx its.length its.length hi-HT.sIx its.length 0 lo)).toArray:=by
 obtain⟨h1,h2,h3⟩:=tH lo hi its.toArray.size
 unfold slicePick
 rw[h1,h2,h3]
 simp only[sliceRange_one,pick_run,List.size_toArray]<;>rfl
def Ot(K:PySem.W.Frag):V->Option Int->Option Int->Hp->VK->Prop:=fun x lo hi H Q=>∃a xs,x=.ref a/\SqL K H a xs/\∀p,H p=none->Q (.ref p) (upd H p (.lst (A9 xs lo hi)))
theorem zi:SlR X (Ot X.K):=by
 intro pins s σ H x v vl vu lo hi sl Q I rx hs pl pu h
 obtain⟨a,xs,rfl,hx,q⟩:=h
 cases rx
 obtain⟨its,r,ht,hz⟩:=I.list hx
 have gZ:=r.length
 refine⟨"list",_,slot_list_getitem.lookup,ht.isList.typeIs,?_⟩
 refine wpAny_getItem_list_slice ht.isList hs pl pu .none (by simp) ?_ (by rw[List.size_toArray]<;>omega)
 rw[rA,<-gZ]
 refine⟨.ref s.heap.objs.size,_,I.laid (t':=s.toks) (o:=.lst (A9 xs lo hi)) (fun b ob q=>Heap.get?_push_of_some _ q) (Nat.le_refl _) ?_,rfl,q _ (I.hok.fresh (Nat.le_refl _))⟩
 exact⟨Nat.le_trans (pq xs lo hi) hz,_,0,(r.drop (HT.sIx xs.length 0 lo)).take (HT.sIx xs.length xs.length hi-HT.sIx xs.length 0 lo),Heap.get?_push_size _ rfl⟩
def p4:V->Bool
 |.non=>true
 |.bl _=>true
 |.int _=>true
 |.str _=>true
 |_=>false
def eqV:V->V->Bool
 |.non,.non=>true
 |.bl a,.bl b=>a == b
 |.bl a,.int b=>(if a then 1 else 0) == b
 |.int a,.bl b=>a == (if b then 1 else 0)
 |.int a,.int b=>a == b
 |.str a,.str b=>a == b
 |_,_=>false
theorem KR{A:Around}{s:Shared}{y x:V}{u v:Value}(ry:dJ y u)(rx:dJ x v)(fy:p4 y=true)(fx:p4 x=true):SeqAt.EqAt A s u v (eqV y x):=by
 cases y with
 |non=>
  cases ry
  cases x with
  |non=>cases rx;exact SeqAt.EqAt.same _
  |bl b=>cases rx;exact SeqAt.EqAt.none_bool b
  |int b=>obtain⟨t,rfl⟩:=rx;exact SeqAt.EqAt.none_int b t
  |str b=>obtain⟨t,rfl⟩:=rx;exact SeqAt.EqAt.none_str b t
  |_=>exact absurd (show false=true from fx) Bool.false_ne_true
 |bl a=>
  cases ry
  cases x with
  |non=>cases rx;exact SeqAt.EqAt.bool_none a
  |bl b=>cases rx;exact SeqAt.EqAt.bool_bool a b
  |int b=>obtain⟨t,rfl⟩:=rx;exact SeqAt.EqAt.bool_int a b t
  |str b=>obtain⟨t,rfl⟩:=rx;exact SeqAt.EqAt.bool_str a b t
  |_=>exact absurd (show false=true from fx) Bool.false_ne_true
 |int a=>
  obtain⟨t',rfl⟩:=ry
  cases x with
  |non=>cases rx;exact SeqAt.EqAt.int_none a t'
  |bl b=>cases rx;exact SeqAt.EqAt.int_bool a t' b
  |int b=>obtain⟨t,rfl⟩:=rx;exact SeqAt.EqAt.int_int a t' b t
  |str b=>obtain⟨t,rfl⟩:=rx;exact SeqAt.EqAt.int_str a t' b t
  |_=>exact absurd (show false=true from fx) Bool.false_ne_true
 |str a=>
  obtain⟨t',rfl⟩:=ry
  cases x with
  |non=>cases rx;exact SeqAt.EqAt.str_none a t'
  |bl b=>cases rx;exact SeqAt.EqAt.str_bool a t' b
  |int b=>obtain⟨t,rfl⟩:=rx;exact SeqAt.EqAt.str_int a t' b t
  |str b=>obtain⟨t,rfl⟩:=rx;exact SeqAt.EqAt.str_str a t' b t
  |_=>exact absurd (show false=true from fx) Bool.false_ne_true
 |_=>exact absurd (show false=true from fy) Bool.false_ne_true
def eqU(x:V)(u:Value):Bool:=match u with
 |.none=>eqV .non x
 |.bool b=>eqV (.bl b) x
 |.int i _=>eqV (.int i) x
 |.str z _=>eqV (.str z) x
 |_=>false
theorem ES{x y:V}{u:Value}(r:dJ y u)(f:p4 y=true):eqU x u=eqV y x:=by
 cases y with
 |non=>cases r;rfl
 |bl b=>cases r;rfl
 |int i=>obtain⟨t,rfl⟩:=r;rfl
 |str z=>obtain⟨t,rfl⟩:=r;rfl
 |_=>exact absurd (show false=true from f) Bool.false_ne_true
theorem vK{x:V}:∀{xs:List V} {us:List Value},cE xs us->xs.all p4=true->us.any (eqU x)=xs.any fun y=>eqV y x
 |_,_,.nil,_=>rfl
 |y::xs,u::us,.cons r t,f=>by
  rw[List.all_cons,Bool.and_eq_true]at f
  rw[List.any_cons,List.any_cons,ES r f.1,vK t f.2]
theorem rN{A:Around}{s:Shared}{x:V}{v:Value}(rx:dJ x v)(fx:p4 x=true):∀{xs:List V} {us:List Value},cE xs us->xs.all p4=true->∀u∈us,SeqAt.EqAt A s u v (eqU x u)
 |_,_,.nil,_=>fun u hu=>by cases hu
 |y::xs,u::us,.cons r t,f=>fun u' hu=>by
  rw[List.all_cons,Bool.and_eq_true]at f
  rcases List.mem_cons.mp hu with rfl|hu
  ·rw[ES r f.1];exact KR r rx f.1 fx
  ·exact rN rx fx t f.2 u' hu
def inV(x:V)(xs:List V):Bool:=xs.any fun y=>eqV y x
def rIn(K:PySem.W.Frag)(neg:Bool):R2:=fun x y H Q=>∃p xs,y=.ref p/\(SqL K H p xs\/SqT K H p xs)/\p4 x=true/\xs.all p4=true/\Q (.bl (if neg then !inV x xs else inV x xs)) H
theorem mY:OpR X (compareOp .NotIn) (rIn X.K true):=by
 intro pins s σ H x y v u Q I rx ry h
 obtain⟨p,xs,rfl,hq,fx,fs,q⟩:=h
 cases ry
 rcases hq with hq|hq
 ·obtain⟨its,r,pl,hz⟩:=I.list hq
  refine SeqAt.notIn_listAt (eqU x) pl.isList (fun w hw=>rN rx fx r fs w (by simpa using hw)) ⟨.bl _,H,I,rfl,?_⟩
  rw[show its.toArray.any (eqU x)=its.any (eqU x)by simp,vK r fs]
  exact q
 ·obtain⟨its,r,pl,hz⟩:=I.tuple hq
  refine SeqAt.notIn_tupleAt (eqU x) pl (fun w hw=>rN rx fx r fs w (by simpa using hw)) ⟨.bl _,H,I,rfl,?_⟩
  rw[show its.toArray.any (eqU x)=its.any (eqU x)by simp,vK r fs]
  exact q
theorem uB:ib X (.builtin "len") (fun xs H Q=>∃p ys,xs=[.ref p]/\(SqL X.K H p ys\/SqT X.K H p ys)/\Q (.int ys.length) H):=by
 intro pins s σ H xs us Q I r h
 obtain⟨p,ys,rfl,hq,q⟩:=h
 obtain⟨u,rfl,rx⟩:=pQ r
 cases rx
 have hn:=wU
 rcases hq with hq|hq
 ·obtain⟨its,r',pl,hz⟩:=I.list hq
  have gZ:=r'.length
  exact Calls.call_len_list pl.isList (by simp only[List.size_toArray]<;>omega) ⟨.int ys.length,H,I.tok _,⟨s.toks+1,by rw[List.size_toArray,gZ]⟩,q⟩
 ·obtain⟨its,r',pl,hz⟩:=I.tuple hq
  have gZ:=r'.length
  exact len_tuple pl (by simp only[List.size_toArray]<;>omega) ⟨.int ys.length,H,I.tok _,⟨s.toks+1,by rw[List.size_toArray,gZ]⟩,q⟩
theorem ib.or{f:Value}{r r':List V->Hp->VK->Prop}(h:ib X f r)(h':ib X f r'):ib X f (fun xs H Q=>r xs H Q\/r' xs H Q):=by
 intro pins s σ H xs us Q I rs q
 rcases q with q|q
 ·exact h pins s σ H xs us Q I rs q
 ·exact h' pins s σ H xs us Q I rs q
theorem ni:ib X (.type "list") (fun xs H Q=>∃p ys,xs=[.ref p]/\(SqL X.K H p ys\/SqT X.K H p ys)/\∀l,H l=none->Q (.ref l) (upd H l (.lst ys))):=by
 intro pins s σ H xs us Q I r h
 obtain⟨p,ys,rfl,hq,q⟩:=h
 obtain⟨u,rfl,rx⟩:=pQ r
 cases rx
 have fin:∀(its:List Value),cE ys its->ys.length<=sizeLine->∀(h':Heap) (c':Nat),(∀b o',s.heap.get? b=some o'->h'.get? b=some o')->
   h'.get? s.heap.objs.size=some { cls:=.type "list",dict:=none,data:=.seq its.toArray c',slots:=#[] }->EP X pins σ Q (.ref s.heap.objs.size) { s with heap:=h' }:=fun its r' hz h' c' kp e=>
  ⟨.ref s.heap.objs.size,_,I.laid (t':=s.toks) kp (Nat.le_refl _) (show dS X.prog X.w _ h' _ (.lst ys)from⟨hz,its,c',r',e⟩),rfl,q _ (I.hok.fresh (Nat.le_refl _))⟩
 rcases hq with hq|hq
 ·obtain⟨its,r',pl,hz⟩:=I.list hq
  have gZ:=r'.length
  obtain⟨o,ho,hc,n,hd⟩:=pl.isList
  exact call_list_seq p (.inl rfl) ho hc hd (fun h' c' kp e=>fin its r' hz h' c' kp e) (by simp only[List.size_toArray]<;>omega)
 ·obtain⟨its,r',pl,hz⟩:=I.tuple hq
  have gZ:=r'.length
  obtain⟨o,ho,hc,n,hd⟩:=pl
  exact call_list_seq p (.inr rfl) ho hc hd (fun h' c' kp e=>fin its r' hz h' c' kp e) (by simp only[List.size_toArray]<;>omega)
theorem je:ib X (.type "tuple") (fun xs H Q=>∃p ys,xs=[.ref p]/\((SqL X.K H p ys/\∀l,H l=none->Q (.ref l) (upd H l (.tup ys)))\/(SqT X.K H p ys/\Q (.ref p) H))):=by
 intro pins s σ H xs us Q I r h
 obtain⟨p,ys,rfl,h⟩:=h
 obtain⟨u,rfl,rx⟩:=pQ r
 cases rx
 rcases h with⟨hq,q⟩|⟨hq,q⟩
 ·obtain⟨its,r',pl,hz⟩:=I.list hq
  have gZ:=r'.length
  refine call_tuple_list pl.isList (fun h' kp=>?_) (by simp only[List.size_toArray]<;>omega)
  have I1:Inv X pins σ H { s with heap:=h' }:=I.kept (t':=s.toks) kp
  have I2:Inv X pins σ (upd H h'.objs.size (.tup ys)) { s with heap:=h'.push { cls:=.type "tuple",data:=.seq its.toArray } }:=
   I1.laid (t':=s.toks) (fun b o e=>Heap.get?_push_of_some _ e) (Nat.le_refl _) (show dS X.prog X.w _ _ _ (.tup ys)from⟨hz,its,r',IsTup.new _ _⟩)
  exact⟨.ref h'.objs.size,_,I2,rfl,q _ (I1.hok.fresh (Nat.le_refl _))⟩
 ·obtain⟨its,r',pl,hz⟩:=I.tuple hq
  exact call_tuple_same pl ⟨.ref p,H,I,rfl,q⟩
def tyV(K:PySem.W.Frag)(T:String)(x:V)(H:Hp):Prop:=match x with
 |.str _=>T="str"
 |.int _=>T="int"
 | .ref p=>(T="list"/\∃xs,SqL K H p xs)\/(T="tuple"/\∃o,K.lookup p=some o/\o.cls=.type "tuple"/\o.dict=none)\/
   (T="dict"/\((∃kvs,H p=some (.dK kvs))\/∃kvs,H p=some (.dT kvs)))\/(T="set"/\∃S n,H p=some (.set S n))
 |_=>False
theorem Ek{pins:List (Addr×Obj)}{σ:St}{H:Hp}{s:Shared}{T:String}{x:V}{v:Value}(I:Inv X pins σ H s)(r:dJ x v)(ty:tyV X.K T x H) :
  s.TypeIs v T/\∀a,v=.ref a->∃ob,s.heap.get? a=some ob/\ob.dict=none:=by
 cases x with
 |str z=>
  obtain⟨t,rfl⟩:=r
  cases (show T="str" from ty)
  exact⟨typeIs_str s z t,fun _ e=>nomatch e⟩
 |int i=>
  obtain⟨t,rfl⟩:=r
  cases (show T="int" from ty)
  exact⟨typeIs_int s i t,fun _ e=>nomatch e⟩
 |ref p=>
  cases r
  rcases ty with⟨rfl,xs,hq⟩|⟨rfl,o,hk,hc,hd⟩|⟨rfl,hk⟩|⟨rfl,S,n,hk⟩
  ·obtain⟨its,_,pl,_⟩:=I.list hq
   refine⟨pl.isList.typeIs,fun a e=>?_⟩
   cases e
   obtain⟨o,n,e,c,hd,_⟩:=pl
   exact⟨o,e,hd⟩
  ·refine⟨⟨o,I.kIn p o hk,hc⟩,fun a e=>?_⟩
   cases e
   exact⟨o,I.kIn _ o hk,hd⟩
  ·have z:∃o,s.heap.get? p=some o/\o.ExactDict:=by
    rcases hk with⟨kvs,hk⟩|⟨kvs,hk⟩
    ·obtain⟨_,_,_,_,o,_,_,e,ex,_⟩:=I.hok p _ hk
     exact⟨o,e,ex⟩
    ·obtain⟨_,_,_,_,o,_,_,e,ex,_⟩:=I.hok p _ hk
     exact⟨o,e,ex⟩
   obtain⟨o,e,ex⟩:=z
   refine⟨⟨o,e,ex.1⟩,fun a e2=>?_⟩
   cases e2
   exact⟨o,e,ex.2.1⟩
  ·obtain⟨o,_,_,_,e,ex,_⟩:=I.hok p _ hk
   refine⟨⟨o,e,ex.1⟩,fun a e2=>?_⟩
   cases e2
   exact⟨o,e,ex.2.1⟩
 |_=>exact False.elim ty
def Nv(K:PySem.W.Frag)(T:String)(r:V->List V->Hp->VK->Prop)(to:TE):TE:=fun σ H Q=>to σ H fun x H1=>tyV K T x H1/\r x [] H1 Q
def tBM(K:PySem.W.Frag)(T:String)(r:V->List V->Hp->VK->Prop)(to:TE)(t:TA):TE:=fun σ H Q=>to σ H fun x H1=>tyV K T x H1/\t σ H1 fun xs H2=>r x xs H2 Q
variable{o e:Expr}{es:List Expr}{to:TE}{t:TA}{name:Str}{apos cpos:Pos}{T id:String}{r:V->List V->Hp->VK->Prop}
theorem JX(pa:PlainAttrs T)(slot:Slot T name id)(hty:typeOf (.builtin id)=pure (.type "method_descriptor"))(hm:MtR X id r)(ho:PE X o to)
  (hbase:attributeBase o name X.env (eval o X.env)=eval o X.env:=by rfl) (hline:(apos.endLine == cpos.line)=true:=by rfl):PE X (.Call (.Attribute o name apos) [] [] cpos) (Nv X.K T r to):=by
 intro pins s σ H Q I h
 refine wpAny_Call_method0_late hbase hline (thn (ho pins s σ H _ I h) fun v s1 hz=>?_)
 obtain⟨x,H1,I1,r1,ty,q1⟩:=hz
 obtain⟨h1,h2⟩:=Ek I1 r1 ty
 exact⟨T,id,pa,slot,hty,h1,h2,Calls.callWith_builtin rfl (PySem.evalArgs_none (hm pins s1 σ H1 x [] v [] Q I1 r1 .nil q1))⟩
theorem MG(pa:PlainAttrs T)(slot:Slot T name id)(hty:typeOf (.builtin id)=pure (.type "method_descriptor"))(hm:MtR X id r)(ho:PE X o to)(ha:PA X (e::es) t)
  (hbase:attributeBase o name X.env (eval o X.env)=eval o X.env:=by rfl)
  (hfew:((backTo cpos (starEach (e::es) X.env)).all (fun x=>!x.1)&&(backToKw cpos (keywordEach [] X.env)).all (fun x=>x.1.isSome)
   && decide ((e::es).length+([]:List Keyword).length+(if ([]:List Keyword).isEmpty then 0 else 1)<30))=true:=by rfl)
  (hline:(apos.endLine == cpos.line)=true:=by rfl) (hs:starEach (e::es) X.env=(false,eval e X.env)::starEach es X.env:=by rfl) (hplain:(backTo cpos (starEach es X.env)).any (·.1)=false:=by rfl) :
  PE X (.Call (.Attribute o name apos) (e::es) [] cpos) (tBM X.K T r to t):=by
 intro pins s σ H Q I h
 refine wpAny_Call_method_late hbase hfew hline rfl (thn (ho pins s σ H _ I h) fun v s1 hz=>?_)
 obtain⟨x,H1,I1,r1,ty,q1⟩:=hz
 obtain⟨h1,h2⟩:=Ek I1 r1 ty
 refine⟨T,id,pa,slot,hty,h1,h2,?_⟩
 have hA:=ha cpos pins s1 σ H1 _ I1 q1
 rw[hs]at hA ⊢
 refine Calls.callWith_builtin (by show(false||(backTo cpos (starEach es X.env)).any (·.1))=false;rw[hplain]<;>rfl) (Calls.evalArgs_plain ?_)
 exact thn hA fun us s2 ⟨vs,H2,I2,r2,q2⟩=>hm pins s2 σ H2 x vs v us Q I2 r1 r2 q2
end
def MtM(X:Cx)(id:String)(r:V->List V->Hp->VK->Prop):Prop:=
 ∀(pins:List (Addr×Obj)) (s:Shared) (σ:St) (H:Hp) (x:V) (xs:List V) (v:Value) (us:List Value) (Q:VK),Inv X pins σ H s->dJ x v->cE xs us->r x xs H Q->
  wpAny (model X.prog X.w) X.A (call (.builtin id) (v::us)) (EP X pins σ Q) X.xe s
theorem cE.one:∀{x:V} {us:List Value},cE [x] us->∃u,us=[u]/\dJ x u
 |_,_,.cons r .nil=>⟨_,rfl,r⟩
theorem cE.eraseIdx:∀{xs:List V} {us:List Value} (i:Nat),cE xs us->cE (xs.eraseIdx i) (us.eraseIdx i)
 |_,_,_,.nil=>.nil
 |_,_,0,.cons _ t=>t
 |_,_,i+1,.cons r t=>.cons r (cE.eraseIdx i t)
theorem cE.rep{xs:List V}{us:List Value}(h:cE xs us):∀k:Nat,cE (List.replicate k xs).flatten (List.replicate k us).flatten
 |0=>.nil
 |k+1=>by
  rw[List.replicate_succ,List.replicate_succ,List.flatten_cons,List.flatten_cons]
  exact cE.append h (cE.rep h k)
theorem t5{α:Type}:∀(l:List α) (i:Nat),(l.eraseIdx i).length<=l.length
 |[],_=>Nat.le_refl _
 |_::_,0=>Nat.le_succ _
 |_::r,i+1=>Nat.succ_le_succ (t5 r i)
theorem o9(its:List Value):∀(k:Nat) (acc:List Value),
  List.foldl (fun x1 x2=>x1++x2) acc.toArray (List.replicate k its.toArray)=(acc++(List.replicate k its).flatten).toArray
 |0,acc=>by simp
 |k+1,acc=>by
  have e:acc.toArray++its.toArray=(acc++its).toArray:=by simp
  have e2:(acc++its)++(List.replicate k its).flatten=acc++(List.replicate (k+1) its).flatten:=by
   rw[List.replicate_succ,List.flatten_cons,List.append_assoc]
  rw[<-e2,<-o9 its k (acc++its),<-e,List.replicate_succ,List.foldl_cons]
section
variable{X:Cx}{pins:List (Addr×Obj)}{σ:St}{H:Hp}{s:Shared}{l b:Addr}{xs ys zs:List V}
theorem Inv.lset{its its':List Value}{n:Nat}{f:Array Value->Array Value}{t':Nat}(I:Inv X pins σ H s)(hH:H l=some (.lst xs))
  (e:s.heap.get? l=some { cls:=.type "list",data:=.seq its.toArray n }) (hf:f its.toArray=its'.toArray) (hv:cE ys its') (hz:ys.length<=sizeLine) :
  Inv X pins σ (upd H l (.lst ys)) { s with heap:=s.heap.update l (Obj.mapSeq f),toks:=t' }:=by
 have q:=PySem.IsL.update e f
 rw[hf]at q
 refine I.write (x:=l) (e:=l) (by rw[hH];exact trivial) (.inl rfl) (fun b' u hb hu=>(Heap.get?_update_other s.heap (Obj.mapSeq f) (Ne.symm hb)).trans hu) ⟨_,q⟩ ?_
 exact⟨hz,its',_,hv,q⟩
theorem Inv.lnew{its:List Value}{t':Nat}(I:Inv X pins σ H s)(hv:cE ys its)(hz:ys.length<=sizeLine) :
  Inv X pins σ (upd H s.heap.objs.size (.lst ys)) { s with heap:=s.heap.push { cls:=.type "list",data:=.seq its.toArray },toks:=t' }:=
 I.laid (fun _ _ q=>Heap.get?_push_of_some _ q) (Nat.le_refl _) ⟨hz,its,0,hv,Heap.get?_push_size _ rfl⟩
theorem Inv.fresh(I:Inv X pins σ H s):H s.heap.objs.size=none:=I.hok.fresh (Nat.le_refl _)
theorem Inv.lstM(I:Inv X pins σ H s)(hH:H l=some (.lst xs)):xs.length<=sizeLine/\∃(its:List Value) (n:Nat),cE xs its/\xs.length=its.length/\s.heap.get? l=some { cls:=.type "list",data:=.seq its.toArray n }:=by
 obtain⟨z,its,n,r,e⟩:=I.hok l _ hH
 exact⟨z,its,n,r,r.length,e⟩
theorem wK{n:Nat}(h:n<=sizeLine):Builtin.List.listTooLong n=false:=by
 unfold Builtin.List.listTooLong
 exact decide_eq_false (by omega)
end
section
variable{X:Cx}
def zv:V->List V->Hp->VK->Prop:=fun x vs H Q=>∃l xs y,x=.ref l/\vs=[y]/\H l=some (.lst xs)/\xs.length<sizeLine/\Q .non (upd H l (.lst (xs++[y])))
theorem oR:MtM X "list.append" zv:=by
 intro pins s σ H x vs v us Q I rx rv h
 obtain⟨l,xs,y,rfl,rfl,hH,hz,q⟩:=h
 cases rx
 obtain⟨u,rfl,ru⟩:=rv.one
 obtain⟨z,its,n,r,hl,e⟩:=I.lstM hH
 refine call_meets F.slot_list_append ⟨_,e,rfl⟩ F.entry_list_append (F.args_list_append_2 _ _) (PySem.list_append l its.toArray n u (by rw[List.size_toArray];omega)) ⟨e,?_⟩
 refine⟨.non,_,I.lset (its':=its++[u]) hH e (by simp) (r.append (.cons ru .nil)) ?_,rfl,q⟩
 rw[List.length_append,List.length_singleton]
 omega
def zu:V->List V->Hp->VK->Prop:=fun x vs H Q=>∃l b xs zs,x=.ref l/\vs=[.ref b]/\H l=some (.lst xs)/\H b=some (.lst zs)/\xs.length+zs.length<=sizeLine/\Q .non (upd H l (.lst (xs++zs)))
theorem z5:MtM X "list.extend" zu:=by
 intro pins s σ H x vs v us Q I rx rv h
 obtain⟨l,b,xs,zs,rfl,rfl,hH,hB,hz,q⟩:=h
 cases rx
 obtain⟨u,rfl,ru⟩:=rv.one
 cases ru
 obtain⟨z,its,n,r,hl,e⟩:=I.lstM hH
 obtain⟨z2,its2,n2,r2,hl2,e2⟩:=I.lstM hB
 have hsz:its.toArray.size+its2.toArray.size<=sizeLine:=by rw[List.size_toArray,List.size_toArray];omega
 have hlong:¬(!its.toArray.isEmpty&&Builtin.List.listTooLong (its.toArray.size+its2.toArray.size))=true:=by
  rw[wK hsz,Bool.and_false]
  exact Bool.false_ne_true
 refine call_meets F.slot_list_extend ⟨_,e,rfl⟩ F.entry_list_extend (F.args_list_extend_2 _ _)
  (AutoSeq1.list_extend_list_list_0 l its.toArray n b its2.toArray n2 hlong (by rw[List.size_toArray];omega) (by omega)) ⟨e,e2,?_⟩
 refine⟨.non,_,I.lset (its':=its++its2) hH e (by simp) (r.append r2) ?_,rfl,q⟩
 rw[List.length_append]
 omega
def Eu:V->List V->Hp->VK->Prop:=fun x vs H Q=>∃l xs i k y,x=.ref l/\vs=[.int i]/\H l=some (.lst xs)/\-(2^63)<=i/\i<2^63/\seqIndex? i xs.length=some k/\xs[k]?=some y/\Q y (upd H l (.lst (xs.eraseIdx k)))
theorem C8:MtM X "list.pop" Eu:=by
 intro pins s σ H x vs v us Q I rx rv h
 obtain⟨l,xs,i,k,y,rfl,rfl,hH,h1,h2,hk,hy,q⟩:=h
 cases rx
 obtain⟨u,rfl,ru⟩:=rv.one
 obtain⟨t,rfl⟩:=ru
 obtain⟨z,its,n,r,hl,e⟩:=I.lstM hH
 obtain⟨w,hw,rw'⟩:=r.get hy
 refine call_meets F.slot_list_pop ⟨_,e,rfl⟩ F.entry_list_pop (F.args_list_pop_2 _ _)
  (MeetsSeq.list_pop_at l its.toArray n i t k w (fitsIndex_both h1 h2) (by rw[List.size_toArray,<-hl];exact hk) (by rw[<-Array.getElem?_toList];exact hw) (by rw[List.size_toArray];omega)) ⟨e,?_⟩
 refine⟨y,_,I.lset (its':=its.eraseIdx k) hH e ?_ (r.eraseIdx k) ?_,rw',q⟩
 ·show its.toArray.eraseIdxIfInBounds k=(its.eraseIdx k).toArray
  rw[List.eraseIdxIfInBounds_toArray]
 ·have:=t5 xs k
  omega
def Lh:R2:=fun x y H Q=>∃l b xs zs,x=.ref l/\y=.ref b/\H l=some (.lst xs)/\H b=some (.lst zs)/\xs.length+zs.length<=sizeLine/\∀p,H p=none->Q (.ref p) (upd H p (.lst (xs++zs)))
theorem J9:OpR X (binaryOp .Add) Lh:=by
 intro pins s σ H x y v u Q I rx ry h
 obtain⟨l,b,xs,zs,rfl,rfl,hH,hB,hz,q⟩:=h
 cases rx
 cases ry
 obtain⟨z,its,n,r,hl,e⟩:=I.lstM hH
 obtain⟨z2,its2,n2,r2,hl2,e2⟩:=I.lstM hB
 refine PySem.P.add_list e e2 ?_ (by rw[List.size_toArray,List.size_toArray];omega)
 have ea:its.toArray++its2.toArray=(its++its2).toArray:=by simp
 rw[ea]
 exact⟨.ref _,_,I.lnew (t':=s.toks) (r.append r2) (by rw[List.length_append];omega),rfl,q _ I.fresh⟩
def Mv:R2:=fun x y H Q=>∃l k xs,x=.ref l/\y=.int k/\H l=some (.lst xs)/\-(2^63)<=k/\k<2^63/\xs.length*k.toNat<=sizeLine/\
 ∀p,H p=none->Q (.ref p) (upd H p (.lst (List.replicate k.toNat xs).flatten))
theorem vf{α:Type}(xs:List α)(k:Nat):(List.replicate k xs).flatten.length=k*xs.length:=by
 induction k with
 |zero=>simp
 |succ k ih=>rw[List.replicate_succ,List.flatten_cons,List.length_append,ih,Nat.succ_mul,Nat.add_comm]
theorem J6:OpR X (binaryOp .Mult) Mv:=by
 intro pins s σ H x y v u Q I rx ry h
 obtain⟨l,k,xs,rfl,rfl,hH,h1,h2,hz,q⟩:=h
 cases rx
 obtain⟨t,rfl⟩:=ry
 obtain⟨z,its,n,r,hl,e⟩:=I.lstM hH
 have gZ:its.toArray.size*k.toNat<=sizeLine:=by rw[List.size_toArray,<-hl];exact hz
 have hcap:¬its.toArray.size*k.toNat>(2^63-1) / 8:=by
  have:(sizeLine:Nat)<=(2^63-1) / 8:=by decide
  omega
 have hfit:¬(!Builtin.List.listFitsIndex k)=true:=by
  rw[fitsIndex_both h1 h2]
  exact Bool.false_ne_true
 have hlong:¬Builtin.List.listTooLong (its.toArray.size*k.toNat)=true:=by
  rw[wK gZ]
  exact Bool.false_ne_true
 have hnew:List.foldl (fun x1 x2=>x1++x2) #[] (List.replicate (if its.toArray.isEmpty=true then 0 else k.toNat) its.toArray)=(List.replicate k.toNat its).flatten.toArray:=by
  have f0:∀m:Nat,List.foldl (fun x1 x2=>x1++x2) #[] (List.replicate m its.toArray)=(List.replicate m its).flatten.toArray:=fun m=>by
   have:=o9 its m []
   rw[List.nil_append]at this
   exact this
  rw[f0]
  cases its with
  |nil=>simp
  |cons a r'=>rw[if_neg (by simp)]
 refine wpAny_binaryOp_repeat_ref (T:="list") (U:="int") (by decide) ⟨_,e,rfl⟩ (fun s'=>typeIs_int s' k t) noFill_list_mul F.fills_int_mul F.slot_int_rmul repeat_list F.slot_int_index.lookup
  (call_meets F.slot_int_rmul (typeIs_int s k t) F.entry_int_rmul (F.args_int_rmul_2 _ _) (int___rmul___int_list k t l its.toArray n)
   ⟨e,rfl,⟨_,e,rfl⟩,call_meets F.slot_list_mul ⟨_,e,rfl⟩ F.entry_list_mul (F.args_list_mul_2 _ _) (AutoListH.list___mul___list_int_3 l its.toArray n k t hfit hcap hlong) ⟨e,?_⟩⟩)
 rw[hnew]
 exact⟨.ref _,_,I.lnew (t':=s.toks) (r.rep k.toNat) (by rw[vf,Nat.mul_comm];exact hz),rfl,q _ I.fresh⟩
end
section
variable{κ:Type}[DecidableEq κ]
def j9(kvs:List (κ×V))(k:κ):Option V:=(kvs.find? fun kv=>decide (kv.1=k)).map (·.2)
def qA(kvs:List (κ×V))(k:κ)(v:V):List (κ×V):=
 if (kvs.any fun kv=>decide (kv.1=k))=true then kvs.map (fun kv=>if kv.1=k then(kv.1,v)else kv)else kvs++[(k,v)]
theorem fb{p:κ×V}{r:List (κ×V)}{k:κ}(e:p.1=k):j9 (p::r) k=some p.2:=by simp[j9,List.find?_cons,e]
theorem fc{p:κ×V}{r:List (κ×V)}{k:κ}(e:¬p.1=k):j9 (p::r) k=j9 r k:=by simp[j9,List.find?_cons,e]
theorem nE(k:κ):∀kvs:List (κ×V),(kvs.any fun kv=>decide (kv.1=k))=(j9 kvs k).isSome
 |[]=>rfl
 |p::r=>by
  rw[List.any_cons]
  by_cases e:p.1=k
  ·simp only[fb e,decide_eq_true e,Bool.true_or,Option.isSome_some]
  ·rw[fc e,decide_eq_false e,Bool.false_or];exact nE k r
theorem wd(k j:κ)(y:V):∀kvs:List (κ×V),j9 (kvs.map fun kv=>if kv.1=k then(kv.1,y)else kv) j=(j9 kvs j).map fun x=>if j=k then y else x
 |[]=>rfl
 |p::r=>by
  have ih:=wd k j y r
  rw[List.map_cons]
  by_cases h:p.1=k
  ·rw[if_pos h]
   by_cases e:p.1=j
   ·rw[fb (p:=(p.1,y)) e,fb e,Option.map_some,if_pos (e.symm.trans h)]
   ·rw[fc (p:=(p.1,y)) e,fc e,ih]
  ·rw[if_neg h]
   by_cases e:p.1=j
   ·rw[fb (p:=p) e,fb e,Option.map_some,if_neg (fun z=>h (e.trans z))]
   ·rw[fc (p:=p) e,fc e,ih]
theorem sZ(k j:κ)(y:V):∀kvs:List (κ×V),j9 kvs k=none->j9 (kvs++[(k,y)]) j=if j=k then some y else j9 kvs j
 |[],_=>by
  by_cases e:k=j
  ·rw[if_pos e.symm];exact fb (p:=(k,y)) e
  ·rw[if_neg (fun z=>e z.symm)];exact fc (p:=(k,y)) e
 |p::r,hn=>by
  rw[List.cons_append]
  have hk:¬p.1=k:=fun z=>by rw[fb z]at hn;cases hn
  rw[fc hk]at hn
  have ih:=sZ k j y r hn
  by_cases e:p.1=j
  ·rw[fb e,fb e,if_neg (fun z=>hk (e.trans z))]
  ·rw[fc e,fc e,ih]
theorem B8(kvs:List (κ×V))(k j:κ)(y:V):j9 (qA kvs k y) j=if j=k then some y else j9 kvs j:=by
 unfold qA
 by_cases a:(kvs.any fun kv=>decide (kv.1=k))=true
 ·rw[if_pos a,wd]
  rw[nE]at a
  by_cases e:j=k
  ·obtain⟨x,hx⟩:=Option.isSome_iff_exists.mp a
   rw[if_pos e,e,hx,Option.map_some,if_pos rfl]
  ·rw[if_neg e]
   cases j9 kvs j with
   |none=>rfl
   |some x=>rw[Option.map_some,if_neg e]
 ·rw[if_neg a]
  refine sZ k j y kvs ?_
  rw[nE]at a
  cases q:j9 kvs k with
  |none=>rfl
  |some x=>rw[q]at a;exact(a rfl).elim
theorem oU(kvs:List (κ×V))(k:κ)(v:V):(qA kvs k v).length<=kvs.length+1:=by
 unfold qA
 split
 ·rw[List.length_map];omega
 ·rw[List.length_append,List.length_cons,List.length_nil];omega
theorem sR.isSome_eq{o:Option V}{u:Option Value}(r:sR o u):o.isSome=u.isSome:=by
 cases o with
 |none=>cases u with
  |none=>rfl
  |some _=>exact(show False from r).elim
 |some _=>cases u with
  |none=>exact(show False from r).elim
  |some _=>rfl
theorem sR.getD{o:Option V}{u:Option Value}{d:V}{d':Value}(r:sR o u)(rd:dJ d d'):dJ (o.getD d) (u.getD d'):=by
 cases o with
 |none=>cases u with
  |none=>exact rd
  |some _=>exact(show False from r).elim
 |some _=>cases u with
  |none=>exact(show False from r).elim
  |some _=>exact r
theorem KV.val{kvs:List (κ×V)}{vs:List (κ×Value)}(r:KV kvs vs)(k:κ):sR (j9 kvs k) (valueAt vs k):=by
 unfold KV at r
 induction r with
 |nil=>exact True.intro
 |@cons p q ps qs h t ih=>
  obtain⟨h1,h2⟩:=h
  by_cases e:p.1=k
  ·have e':q.1=k:=h1.symm.trans e
   have b:valueAt (q::qs) k=some q.2:=by simp[valueAt,List.find?_cons,e']
   rw[fb e,b];exact h2
  ·have e':¬q.1=k:=fun z=>e (h1.trans z)
   have b:valueAt (q::qs) k=valueAt qs k:=by simp[valueAt,List.find?_cons,e']
   rw[fc e,b];exact ih
theorem KV.any{kvs:List (κ×V)}{vs:List (κ×Value)}(r:KV kvs vs)(k:κ):(kvs.any fun kv=>decide (kv.1=k))=vs.any fun kv=>decide (kv.1=k):=by
 unfold KV at r
 induction r with
 |nil=>rfl
 |cons h t ih=>rw[List.any_cons,List.any_cons,ih,h.1]
theorem KV.repl{kvs:List (κ×V)}{vs:List (κ×Value)}(r:KV kvs vs)(k:κ){y:V}{u:Value}(ry:dJ y u) :
  KV (kvs.map fun kv=>if kv.1=k then(kv.1,y)else kv) (vs.map fun kv=>if kv.1=k then(kv.1,u)else kv):=by
 unfold KV at r ⊢
 induction r with
 |nil=>exact .nil
 |@cons p q ps qs h t ih=>
  rw[List.map_cons,List.map_cons]
  refine .cons ?_ ih
  obtain⟨h1,h2⟩:=h
  by_cases e:p.1=k
  ·rw[if_pos e,if_pos (h1.symm.trans e)];exact⟨h1,ry⟩
  ·rw[if_neg e,if_neg (fun z=>e (h1.trans z))];exact⟨h1,h2⟩
theorem KV.put{kvs:List (κ×V)}{vs:List (κ×Value)}(r:KV kvs vs)(k:κ){y:V}{u:Value}(ry:dJ y u):KV (qA kvs k y) (stored vs k u):=by
 unfold qA stored
 rw[r.any k]
 by_cases e:(vs.any fun kv=>decide (kv.1=k))=true
 ·rw[if_pos e,if_pos e];exact r.repl k ry
 ·rw[if_neg e,if_neg e];exact Paired.snoc r ⟨rfl,ry⟩
theorem KV.length{kvs:List (κ×V)}{vs:List (κ×Value)}(r:KV kvs vs):kvs.length=vs.length:=Paired.length r
end
theorem x6{P:Program}{w:World}{k:Key}{u:Value}(r:dJ (kV k) u):(cX P w).is k u=true:=by
 cases k with
 |inl i=>obtain⟨t,e⟩:=(show ∃t,u=Value.int i t from r);subst e;exact vc P w i t
 |inr x=>obtain⟨t,e⟩:=(show ∃t,u=Value.str x t from r);subst e;exact vb P w x t
theorem t9{P:Program}{w:World}:∀{ks:List Key} {us:List Value},cE (ks.map kV) us->ItemsAre (cX P w) ks us
 |[],_,r=>by rw[List.map_nil]at r;cases r;exact .nil
 |k::ks,_,r=>by
  rw[List.map_cons]at r
  cases r with
  |cons h t=>exact .cons (x6 h) (t9 t)
abbrev KT(H:Hp):List (List Key×V)->List (List Key×Addr×Value)->Prop:=Paired fun p q=>p.1=q.1/\H q.2.1=some (.tup (p.1.map kV))/\dJ p.2 q.2.2
theorem KT.val{H:Hp}{kvs:List (List Key×V)}{xs:List (List Key×Addr×Value)}(r:KT H kvs xs)(k:List Key):sR (j9 kvs k) ((atKey xs k).map (·.2)):=by
 induction r with
 |nil=>exact True.intro
 |@cons p q ps qs h t ih=>
  obtain⟨h1,_,h2⟩:=h
  by_cases e:p.1=k
  ·have e':q.1=k:=h1.symm.trans e
   have b:atKey (q::qs) k=some q.2:=by simp[atKey,List.find?_cons,e']
   rw[fb e,b];exact h2
  ·have e':¬q.1=k:=fun z=>e (h1.trans z)
   have b:atKey (q::qs) k=atKey qs k:=by simp[atKey,List.find?_cons,e']
   rw[fc e,b];exact ih
theorem KT.repl{H:Hp}{kvs:List (List Key×V)}{xs:List (List Key×Addr×Value)}(r:KT H kvs xs)(k:List Key){y:V}{u:Value}(ry:dJ y u) :
  KT H (kvs.map fun kv=>if kv.1=k then(kv.1,y)else kv) (xs.map (putAt k u)):=by
 induction r with
 |nil=>exact .nil
 |@cons p q ps qs h t ih=>
  rw[List.map_cons,List.map_cons]
  refine .cons ?_ ih
  obtain⟨h1,h2,h3⟩:=h
  unfold putAt
  by_cases e:p.1=k
  ·rw[if_pos e,if_pos (h1.symm.trans e)];exact⟨h1,h2,ry⟩
  ·rw[if_neg e,if_neg (fun z=>e (h1.trans z))];exact⟨h1,h2,h3⟩
theorem KT.put{H:Hp}{kvs:List (List Key×V)}{xs:List (List Key×Addr×Value)}(r:KT H kvs xs)(k:List Key){b:Addr}{y:V}{u:Value}(hb:H b=some (.tup (k.map kV)))(ry:dJ y u) :
  KT H (qA kvs k y) (storedH xs k b u):=by
 have e:(kvs.any fun kv=>decide (kv.1=k))=(atKey xs k).isSome:=by
  rw[nE,(r.val k).isSome_eq,Option.isSome_map]
 unfold qA storedH
 rw[e]
 by_cases q:(atKey xs k).isSome=true
 ·rw[if_pos q,if_pos q];exact r.repl k ry
 ·rw[if_neg q,if_neg q];exact Paired.snoc r ⟨rfl,hb,ry⟩
theorem KT.keeps{H H':Hp}{kvs:List (List Key×V)}{xs:List (List Key×Addr×Value)}(r:KT H kvs xs)(ht:∀b ys,H b=some (.tup ys)->H' b=some (.tup ys)):KT H' kvs xs:=
 Paired.mapP r fun _ _ z=>⟨z.1,ht _ _ z.2.1,z.2.2⟩
section
variable{P:Program}{w:World}{H:Hp}{h:Heap}{a:Addr}
theorem Ju{u:HO}(ok:HOk P w H h)(e:Rd H a u):dS P w H h a u:=e.ok ok
theorem uw{kvs:List (Key×V)}(ok:HOk P w H h)(e:Rd H a (.dK kvs)):kvs.length<=sizeLine/\(a == sysModules)=false/\∃vs,KV kvs vs/\h.DictOf (cX P w) a vs:=
 show dS P w H h a (.dK kvs)from Ju ok e
theorem A1{kvs:List (Key×V)}(ok:HOk P w H h)(e:H a=some (.dK kvs)):kvs.length<=sizeLine/\(a == sysModules)=false/\∃vs,KV kvs vs/\h.DictOf (cX P w) a vs:=uw ok (.inl e)
theorem qI{ks:List Key}(ok:HOk P w H h)(e:H a=some (.tup (ks.map kV))):(tupleKind (cX P w)).is h ks a:=by
 obtain⟨_,its,r,o,h1,h2,n,h3⟩:=(show dS P w H h a (.tup (ks.map kV))from ok a _ e)
 exact⟨o,its.toArray,n,h1,h2,h3,by simpa using t9 r⟩
theorem vD{kvs:List (List Key×V)}(ok:HOk P w H h)(e:Rd H a (.dT kvs)):kvs.length<=sizeLine/\(a == sysModules)=false/\
  ∃xs,KT H kvs xs/\h.DictOfH (tupleKind (cX P w)) a xs:=by
 obtain⟨z,y,xs,r,o,es,ep,h1,h2,h3,h4,h5⟩:=(show dS P w H h a (.dT kvs)from Ju ok e)
 refine⟨z,y,xs,r,o,es,ep,h1,h2,h3,h4,fun x hx=>?_,h5⟩
 have all:∀{l:List (List Key×V)} {m:List (List Key×Addr×Value)},KT H l m->∀x∈m,(tupleKind (cX P w)).is h x.1 x.2.1:=by
  intro l m q
  induction q with
  |nil=>intro x hx;exact nomatch hx
  |@cons p q ps qs hq t ih=>
   intro x hx
   rcases List.mem_cons.mp hx with e|hx
   ·subst e
    exact qI ok (by rw[<-hq.1];exact hq.2.1)
   ·exact ih x hx
 exact all r x hx
theorem M6{kvs:List (List Key×V)}(ok:HOk P w H h)(e:H a=some (.dT kvs)):kvs.length<=sizeLine/\(a == sysModules)=false/\
  ∃xs,KT H kvs xs/\h.DictOfH (tupleKind (cX P w)) a xs:=vD ok (.inl e)
end
def DGet(H:Hp)(a:Addr)(y:V)(r:Option V):Prop:=
 (∃kvs k,Rd H a (.dK kvs)/\y=kV k/\r=j9 kvs k)\/∃kvs k b,Rd H a (.dT kvs)/\y=.ref b/\H b=some (.tup (k.map kV))/\r=j9 kvs k
def E5(H:Hp)(a:Addr)(y v:V)(H':Hp):Prop:=
 (∃kvs k,H a=some (.dK kvs)/\y=kV k/\kvs.length<sizeLine/\H'=upd H a (.dK (qA kvs k v)))\/
 ∃kvs k b,H a=some (.dT kvs)/\y=.ref b/\H b=some (.tup (k.map kV))/\kvs.length<sizeLine/\H'=upd H a (.dT (qA kvs k v))
theorem DGet.k{H:Hp}{a:Addr}{kvs:List (Key×V)}{k:Key}(e:H a=some (.dK kvs)):DGet H a (kV k) (j9 kvs k):=.inl ⟨kvs,k,.inl e,rfl,rfl⟩
theorem E5.k{H:Hp}{a:Addr}{kvs:List (Key×V)}{k:Key}{v:V}(e:H a=some (.dK kvs))(hl:kvs.length<sizeLine):E5 H a (kV k) v (upd H a (.dK (qA kvs k v))):=.inl ⟨kvs,k,e,rfl,hl,rfl⟩
theorem E5.t{H:Hp}{a b:Addr}{kvs:List (List Key×V)}{k:List Key}{v:V}(e:H a=some (.dT kvs))(eb:H b=some (.tup (k.map kV)))(hl:kvs.length<sizeLine) :
  E5 H a (.ref b) v (upd H a (.dT (qA kvs k v))):=.inr ⟨kvs,k,b,e,rfl,eb,hl,rfl⟩
section
variable{X:Cx}{pins:List (Addr×Obj)}{σ:St}{H:Hp}{s:Shared}{a:Addr}{y v:V}{u r:Value}{o:Option V}{A:Around}{E:Value->Shared->Prop}
theorem Inv.big(I:Inv X pins σ H s):sysModules<s.heap.objs.size:=by
 have h:mainGlobals<s.heap.objs.size:=(I.mod.glob.keeps I.bk).lt
 exact Nat.lt_trans (by decide) h
theorem A8{Q:Value->Shared->Prop}(hu:A.units+1<cLine)(I:Inv X pins σ H s)(g:DGet H a y (some v))(ry:dJ y u)(h:∀w' s',Inv X pins σ H s'->dJ v w'->Q w' s') :
  wpAny (model X.prog X.w) A (getItem (.ref a) u) Q E s:=by
 rcases g with⟨kvs,k,e,ey,l⟩|⟨kvs,k,b,e,ey,eb,l⟩
 ·subst ey
  obtain⟨z,hd,vs,rel,dd⟩:=uw I.hok e
  obtain⟨w',hw,rw'⟩:=sR.some_of (v:=v) (o:=valueAt vs k) (by rw[l];exact rel.val k)
  exact wpAny_getItem_of (x6 ry) dd.mapOf hw (h w' _ (I.tok _) rw')
 ·subst ey
  cases (show u=Value.ref b from ry)
  obtain⟨z,hd,xs,rel,dd⟩:=vD I.hok e
  obtain⟨w',hw,rw'⟩:=sR.some_of (v:=v) (o:=(atKey xs k).map (·.2)) (by rw[l];exact rel.val k)
  obtain⟨p,hp,hp2⟩:=Option.map_eq_some_iff.mp hw
  refine wpAny_getItem_heap (tupleKind_room_in1 hu) (qI I.hok eb) dd hp ?_
  rw[hp2]
  exact h w' _ (I.tok _) rw'
theorem HB{Q:Value->Shared->Prop}(hu:A.units+1<cLine)(I:Inv X pins σ H s)(g:DGet H a y o)(ry:dJ y u)(h:∀s',Inv X pins σ H s'->Q (.bool (!o.isSome)) s') :
  wpAny (model X.prog X.w) A (compareOp .NotIn u (.ref a)) Q E s:=by
 rcases g with⟨kvs,k,e,ey,l⟩|⟨kvs,k,b,e,ey,eb,l⟩
 ·subst ey
  obtain⟨z,hd,vs,rel,dd⟩:=uw I.hok e
  refine wpAny_notIn_of (x6 ry) hd dd.mapOf ?_
  rw[<-(rel.val k).isSome_eq,<-l]
  exact h _ (I.tok _)
 ·subst ey
  cases (show u=Value.ref b from ry)
  obtain⟨z,hd,xs,rel,dd⟩:=vD I.hok e
  refine wpAny_notIn_heap (tupleKind_room_in1 hu) (qI I.hok eb) hd dd ?_
  have q:=(rel.val k).isSome_eq
  rw[Option.isSome_map]at q
  rw[<-q,<-l]
  exact h _ (I.tok _)
theorem A6{h':Heap}{t':Nat}{ob:HO}(I:Inv X pins σ H s)(mu:Mut (H a))(hs:Heap.SameBut a s.heap h')(he:∃q,h'.get? a=some q)(new:dS X.prog X.w (upd H a ob) h' a ob) :
  Inv X pins σ (upd H a ob) { s with heap:=h',toks:=t' }:=
 I.write (x:=a) (e:=a) mu (.inl rfl) (fun b q hb z=>(hs.2 b hb).trans z) he new
theorem KY{P:Program}{w:World}{H':Hp}{h':Heap}{kvs:List (Key×V)}{vs:List (Key×Value)}(z:kvs.length<=sizeLine)(hd:(a == sysModules)=false)(rel:KV kvs vs)(dd:h'.DictOf (cX P w) a vs) :
  dS P w H' h' a (.dK kvs):=⟨z,hd,vs,rel,dd⟩
theorem A7{H':Hp}{Q:Unit->Shared->Prop}(hu:A.units+1<cLine)(I:Inv X pins σ H s)(g:E5 H a y v H')(ry:dJ y u)(rv:dJ v r)(h:∀s',Inv X pins σ H' s'->Q () s') :
  wpAny (model X.prog X.w) A (setItem (.ref a) u r) Q E s:=by
 rcases g with⟨kvs,k,e,ey,l,eH⟩|⟨kvs,k,b,e,ey,eb,l,eH⟩
 ·subst ey eH
  obtain⟨z,hd,vs,rel,dd⟩:=A1 I.hok e
  have hz:vs.length<=sizeLine:=by rw[<-rel.length];exact z
  have hl:(qA kvs k v).length<=sizeLine:=by have:=oU kvs k v;omega
  refine wpAny_setItem_pairs (hsz:=hz) (x6 ry) dd fun h' dd' hs=>h _ ?_
  have he:∃q,h'.get? a=some q:=let ⟨q,_,_,hq,_⟩:=dd';⟨q,hq⟩
  exact A6 I (by rw[e];exact True.intro) hs he (KY hl hd (rel.put k rv) dd')
 ·subst ey eH
  cases (show u=Value.ref b from ry)
  obtain⟨z,hd,xs,rel,dd⟩:=M6 I.hok e
  have hz:xs.length<=sizeLine:=by rw[<-Paired.length rel];exact z
  have hl:(qA kvs k v).length<=sizeLine:=by have:=oU kvs k v;omega
  refine wpAny_setItem_heap (hsz:=hz) (tupleKind_room_in1 hu) (qI I.hok eb) dd fun h' dd' hs=>h _ ?_
  obtain⟨q,es,ep,hq,h2,h3,h4,_,h5⟩:=dd'
  refine A6 I (by rw[e];exact True.intro) hs ⟨q,hq⟩ ⟨hl,hd,_,(rel.put k eb rv).keeps fun c ys ec=>?_,q,es,ep,hq,h2,h3,h4,h5⟩
  rw[bN (MM ec e (fun z=>nomatch z))]
  exact ec
end
section
variable{X:Cx}{pins:List (Addr×Obj)}{σ:St}{H:Hp}{s:Shared}{a:Addr}{kvs:List (Key×V)}{k:Key}{u:Value}{A:Around}{E:Value->Shared->Prop}
theorem M7{Q:Value->Shared->Prop}(I:Inv X pins σ H s)(e:Rd H a (.dK kvs))(h:∀t s',Inv X pins σ H s'->Q (.int kvs.length t) s'):wpAny (model X.prog X.w) A (call (.builtin "len") [.ref a]) Q E s:=by
 obtain⟨z,hd,vs,rel,dd⟩:=uw I.hok e
 refine call_len_dict hd dd (by rw[<-rel.length];rw[sizeLine_eq]at z;omega) ?_
 rw[<-rel.length]
 exact h _ _ (I.tok _)
end
def Lv(i:Expr):Prop:=∀ov iv,subscripted i false ov iv=operate [ov,iv] (getItem ov iv)
theorem FX{prog:Program}{w:World}{A:Around}{E:Value->Shared->Prop}{s:Shared}{env:Env}{value slice:Expr}{pos:Pos}{T id:String}{Q:Value->Shared->Prop}
  (hl:typeLookup (.type T) "__getitem__"=pure (some (.builtin id))) (hs:Lv slice)
  (h:wpAny (model prog w) A (eval value env) (fun o s₁=>wpAny (model prog w) A (eval slice env) (fun i s₂=>s₂.TypeIs o T/\wpAny (model prog w) A (getItem o i) Q E s₂) E s₁) E s) :
  wpAny (model prog w) A (eval (.Subscript value slice pos) env) Q E s:=by
 refine Subscript_ (wpAny_mono h (fun o s₁ h₁=>wpAny_mono h₁ (fun i s₂ h₂=>?_) fun _ _ x=>x) fun _ _ x=>x)
 obtain⟨hT,h₂⟩:=h₂
 unfold subscriptTail
 refine wpAny_bind ?_
 rw[getitemInPython_of_ne hT.not_modules]
 refine wpAny_bind (wpAny_specialOf hT hl ?_)
 have fin:wpAny (model prog w) A (subscripted slice false o i) (fun r s₃=>wpAny (model prog w) A (letTemporaryGo value o r >>= fun _=>pure r) Q E s₃) E s₂:=by
  rw[hs o i]
  exact wpAny_operating (wpAny_mono h₂ (fun r s₃ h₃=>wpAny_bind (wpAny_letTemporaryGo (wpAny_pure h₃))) fun _ _ x=>x)
 first
  |exact wpAny_pure (wpAny_bind fin)
  |exact wpAny_bind (wpAny_pure (wpAny_bind fin))
  |exact wpAny_bind fin
theorem vF{X:Cx}{pins:List (Addr×Obj)}{σ:St}{H:Hp}{s:Shared}{a:Addr}{y:V}{o:Option V}(I:Inv X pins σ H s)(g:DGet H a y o):s.TypeIs (.ref a) "dict":=by
 rcases g with⟨kvs,k,e,_,_⟩|⟨kvs,k,b,e,_,_,_⟩
 ·obtain⟨_,_,vs,_,dd⟩:=uw I.hok e
  exact dd.typeIs
 ·obtain⟨_,_,xs,_,dd⟩:=vD I.hok e
  exact dd.typeIs
def Jk(td ty:TE):TE:=fun σ H Q=>td σ H fun x H1=>ty σ H1 fun y H2=>∃a v,x=.ref a/\DGet H2 a y (some v)/\Q v H2
def rb(ty td:TE):TE:=fun σ H Q=>ty σ H fun y H1=>td σ H1 fun x H2=>∃a o,x=.ref a/\DGet H2 a y o/\Q (.bl (!o.isSome)) H2
def Js(td ty tv:TE):TS:=fun D σ H=>tv σ H fun v H1=>td σ H1 fun x H2=>ty σ H2 fun y H3=>∃a H4,x=.ref a/\E5 H3 a y v H4/\D.nx σ H4
section
variable{X:Cx}{o i e value:Expr}{pos pos' tpos:Pos}{td ty tv:TE}
theorem GF(hu:X.A.units+1<cLine)(ho:PE X o td)(hi:PE X i ty)(hs:Lv i):PE X (.Subscript o i pos) (Jk td ty):=by
 intro pins s σ H Q I h
 refine FX PySem.F.slot_dict_getitem.lookup hs (thn (ho pins s σ H _ I h) fun u s1 ⟨x,H1,I1,rx,q1⟩=>thn (hi pins s1 σ H1 _ I1 q1) fun iv s2 hz=>?_)
 obtain⟨y,H2,I2,ry,a,v,ex,g,q2⟩:=hz
 subst ex
 obtain rfl:u=Value.ref a:=rx
 exact⟨vF I2 g,A8 hu I2 g ry fun w' s3 I3 rw'=>⟨v,H2,I3,rw',q2⟩⟩
theorem zQ(hu:X.A.units+1<cLine)(hi:PE X i ty)(ho:PE X o td):PC X .NotIn i o (rb ty td):=by
 intro pins s σ H Q I h
 refine thn (hi pins s σ H _ I h) fun iv s1 ⟨y,H1,I1,ry,q1⟩=>thn (ho pins s1 σ H1 _ I1 q1) fun u s2 hz=>?_
 obtain⟨x,H2,I2,rx,a,ov,ex,g,q2⟩:=hz
 subst ex
 obtain rfl:u=Value.ref a:=rx
 exact HB hu I2 g ry fun s3 I3=>⟨.bl (!ov.isSome),H2,I3,rfl,q2⟩
theorem Gs(hu:X.A.units+1<cLine)(ho:PE X o td)(hi:PE X i ty)(hv:PE X value tv)(hs:swapsWith value (some (.Subscript o i pos')) pos.line X.env=pure false) :
  PS X (.Assign [.Subscript o i pos'] value pos) (Js td ty tv):=by
 intro pins s σ H D I h
 refine wpAny_Assign_Subscript (thn (hv pins s σ H _ I h) fun r s1 ⟨v,H1,I1,rv,q1⟩=>thn (ho pins s1 σ H1 _ I1 q1) fun u s2 ⟨x,H2,I2,rx,q2⟩=>thn (hi pins s2 σ H2 _ I2 q2) fun iv s3 hz=>?_) hs
 obtain⟨y,H3,I3,ry,a,H4,ex,g,q3⟩:=hz
 subst ex
 obtain rfl:u=Value.ref a:=rx
 exact A7 hu I3 g ry rv fun s4 I4=>⟨σ,H4,I4,q3⟩
end
theorem DQ{P:Program}{w:World}{H:Hp}(h:Heap)(hb:sysModules<h.objs.size):dS P w H (h.push { cls:=.type "dict",data:=.dict #[] }) h.objs.size (.dK []):=
 ⟨Nat.zero_le _,beq_eq_false_iff_ne.mpr (Ne.symm (Nat.ne_of_lt hb)),[],.nil,Heap.DictOf.new h⟩
theorem DO{P:Program}{w:World}{H:Hp}(h:Heap)(hb:sysModules<h.objs.size):dS P w H (h.push { cls:=.type "dict",data:=.dict #[] }) h.objs.size (.dT []):=
 ⟨Nat.zero_le _,beq_eq_false_iff_ne.mpr (Ne.symm (Nat.ne_of_lt hb)),[],.nil,_,#[],0,Heap.get?_push_size _ rfl,⟨rfl,rfl,rfl⟩,rfl,rfl,List.nodup_nil⟩
def Em:TE:=fun _ H Q=>∀p,H p=none->Q (.ref p) (upd H p (.dK []))
def El:TE:=fun _ H Q=>∀p,H p=none->Q (.ref p) (upd H p (.dT []))
section
variable{X:Cx}{pos:Pos}
theorem CN:PE X (.Dict [] [] pos) Em:=fun pins s σ H Q I h=>
 wpAny_Dict_empty ⟨.ref s.heap.objs.size,_,I.laid (a:=s.heap.objs.size) (o:=.dK []) (t':=s.toks) (fun _ _ q=>Heap.get?_push_of_some _ q) (Nat.le_refl _) (DQ s.heap I.big),rfl,h _ (I.hok.fresh (Nat.le_refl _))⟩
theorem CM:PE X (.Dict [] [] pos) El:=fun pins s σ H Q I h=>
 wpAny_Dict_empty ⟨.ref s.heap.objs.size,_,I.laid (a:=s.heap.objs.size) (o:=.dT []) (t':=s.toks) (fun _ _ q=>Heap.get?_push_of_some _ q) (Nat.le_refl _) (DO s.heap I.big),rfl,h _ (I.hok.fresh (Nat.le_refl _))⟩
end
structure M1(X:Cx)(o:Expr)(m:Str)(apos:Pos)(e:Expr)(cpos:Pos):Prop where
 base:attributeBase o m X.env (eval o X.env)=eval o X.env
 few:((backTo cpos (starEach [e] X.env)).all (fun x=>!x.1)&&(backToKw cpos (keywordEach [] X.env)).all (fun x=>x.1.isSome)
  && decide (([e]:List Expr).length+([]:List Keyword).length+(if ([]:List Keyword).isEmpty then 0 else 1)<30))=true
 line:(apos.endLine == cpos.line)=true
 trees:backTo cpos (starEach [e] X.env)=[(false,eval e X.env)]
structure M2(X:Cx)(o:Expr)(m:Str)(apos:Pos)(e f:Expr)(cpos:Pos):Prop where
 base:attributeBase o m X.env (eval o X.env)=eval o X.env
 few:((backTo cpos (starEach [e,f] X.env)).all (fun x=>!x.1)&&(backToKw cpos (keywordEach [] X.env)).all (fun x=>x.1.isSome)
  && decide (([e,f]:List Expr).length+([]:List Keyword).length+(if ([]:List Keyword).isEmpty then 0 else 1)<30))=true
 line:(apos.endLine == cpos.line)=true
 trees:backTo cpos (starEach [e,f] X.env)=[(false,eval e X.env),(false,eval f X.env)]
def IsD(H:Hp)(a:Addr):Prop:=(∃kvs,Rd H a (.dK kvs))\/∃kvs,Rd H a (.dT kvs)
theorem EL{X:Cx}{pins:List (Addr×Obj)}{σ:St}{H:Hp}{s:Shared}{a:Addr}(I:Inv X pins σ H s)(d:IsD H a) :
  s.TypeIs (.ref a) "dict"/\(∀b,Value.ref a=.ref b->∃ob,s.heap.get? b=some ob/\ob.dict=none)/\(a == sysModules)=false:=by
 rcases d with⟨kvs,e⟩|⟨kvs,e⟩
 ·obtain⟨_,hd,vs,_,dd⟩:=uw I.hok e
  refine⟨dd.typeIs,fun b q=>?_,hd⟩
  cases q
  obtain⟨ob,_,_,h1,h2,_⟩:=dd
  exact⟨ob,h1,h2.2.1⟩
 ·obtain⟨_,hd,xs,_,dd⟩:=vD I.hok e
  refine⟨dd.typeIs,fun b q=>?_,hd⟩
  cases q
  obtain⟨ob,_,_,h1,h2,_⟩:=dd
  exact⟨ob,h1,h2.2.1⟩
section
variable{X:Cx}{pins:List (Addr×Obj)}{σ:St}{H:Hp}{s:Shared}{a:Addr}{y d:V}{u r:Value}{o:Option V}{A:Around}{E:Value->Shared->Prop}
theorem K1{Q:Value->Shared->Prop}(hu:A.units+1<cLine)(I:Inv X pins σ H s)(g:DGet H a y o)(ry:dJ y u)(h:∀w' s',Inv X pins σ H s'->dJ (o.getD .non) w'->Q w' s') :
  wpAny (model X.prog X.w) A (call (.builtin "dict.get") [.ref a,u]) Q E s:=by
 rcases g with⟨kvs,k,e,ey,l⟩|⟨kvs,k,b,e,ey,eb,l⟩
 ·subst ey
  obtain⟨z,hd,vs,rel,dd⟩:=uw I.hok e
  refine call_meetsIn PySem.F.slot_dict_get dd.typeIs PySem.F.entry_dict_get (PySem.F.args_dict_get_2 _ _) (meets_dict_get (cX X.prog X.w) a (x6 ry) hd) ⟨_,dd.mapOf,h _ _ (I.tok _) ?_⟩
  rw[l]
  exact(rel.val k).getD rfl
 ·subst ey
  cases (show u=Value.ref b from ry)
  obtain⟨z,hd,xs,rel,dd⟩:=vD I.hok e
  refine call_meetsIn PySem.F.slot_dict_get dd.typeIs PySem.F.entry_dict_get (PySem.F.args_dict_get_2 _ _) (meetsH_dict_get (tupleKind (cX X.prog X.w)) a b hd) ⟨tupleKind_room_in1 hu,k,xs,qI I.hok eb,dd,h _ _ (I.tok _) ?_⟩
  rw[l]
  exact(rel.val k).getD rfl
theorem K0{Q:Value->Shared->Prop}(hu:A.units+1<cLine)(I:Inv X pins σ H s)(g:DGet H a y o)(ry:dJ y u)(rd:dJ d r)(h:∀w' s',Inv X pins σ H s'->dJ (o.getD d) w'->Q w' s') :
  wpAny (model X.prog X.w) A (call (.builtin "dict.get") [.ref a,u,r]) Q E s:=by
 rcases g with⟨kvs,k,e,ey,l⟩|⟨kvs,k,b,e,ey,eb,l⟩
 ·subst ey
  obtain⟨z,hd,vs,rel,dd⟩:=uw I.hok e
  refine call_meetsIn PySem.F.slot_dict_get dd.typeIs PySem.F.entry_dict_get (PySem.F.args_dict_get_3 _ _ _) (meets_dict_get_default (cX X.prog X.w) a (x6 ry) hd r) ⟨_,dd.mapOf,h _ _ (I.tok _) ?_⟩
  rw[l]
  exact(rel.val k).getD rd
 ·subst ey
  cases (show u=Value.ref b from ry)
  obtain⟨z,hd,xs,rel,dd⟩:=vD I.hok e
  refine call_meetsIn PySem.F.slot_dict_get dd.typeIs PySem.F.entry_dict_get (PySem.F.args_dict_get_3 _ _ _) (meetsH_dict_get_default (tupleKind (cX X.prog X.w)) a b hd r) ⟨tupleKind_room_in1 hu,k,xs,qI I.hok eb,dd,h _ _ (I.tok _) ?_⟩
  rw[l]
  exact(rel.val k).getD rd
end
def Eo(td ty:TE):TE:=fun σ H Q=>td σ H fun x H1=>∃a,x=.ref a/\IsD H1 a/\ty σ H1 fun y H2=>∃o,DGet H2 a y o/\Q (o.getD .non) H2
def En(td ty tx:TE):TE:=fun σ H Q=>td σ H fun x H1=>∃a,x=.ref a/\IsD H1 a/\ty σ H1 fun y H2=>tx σ H2 fun z H3=>∃o,DGet H3 a y o/\Q (o.getD z) H3
section
variable{X:Cx}{o e f:Expr}{apos cpos:Pos}{td ty tx:TE}
theorem CP(hu:X.A.units+1<cLine)(ho:PE X o td)(he:PE X e ty)(m:M1 X o "get" apos e cpos):PE X (.Call (.Attribute o "get" apos) [e] [] cpos) (Eo td ty):=by
 intro pins s σ H Q I h
 refine wpAny_Call_method m.base m.few m.line PySem.F.plainAttrs_dict PySem.F.slot_dict_get PySem.F.type_dict_get (thn (ho pins s σ H _ I h) fun u s1 hz=>?_)
 obtain⟨x,H1,I1,rx,a,ex,d,q1⟩:=hz
 subst ex
 obtain rfl:u=Value.ref a:=rx
 obtain⟨t1,t2,_⟩:=EL I1 d
 refine⟨t1,t2,?_⟩
 rw[m.trees]
 refine Calls.callWith_builtin rfl (Calls.evalArgs_plain (Calls.spliced_cons (thn (he pins s1 σ H1 _ I1 q1) fun iv s2 ⟨y,H2,I2,ry,ov,g,q2⟩=>Calls.spliced_nil ?_)))
 exact K1 hu I2 g ry fun w' s3 I3 rw'=>⟨_,H2,I3,rw',q2⟩
theorem CO(hu:X.A.units+1<cLine)(ho:PE X o td)(he:PE X e ty)(hf:PE X f tx)(m:M2 X o "get" apos e f cpos):PE X (.Call (.Attribute o "get" apos) [e,f] [] cpos) (En td ty tx):=by
 intro pins s σ H Q I h
 refine wpAny_Call_method m.base m.few m.line PySem.F.plainAttrs_dict PySem.F.slot_dict_get PySem.F.type_dict_get (thn (ho pins s σ H _ I h) fun u s1 hz=>?_)
 obtain⟨x,H1,I1,rx,a,ex,d,q1⟩:=hz
 subst ex
 obtain rfl:u=Value.ref a:=rx
 obtain⟨t1,t2,_⟩:=EL I1 d
 refine⟨t1,t2,?_⟩
 rw[m.trees]
 refine Calls.callWith_builtin rfl (Calls.evalArgs_plain (Calls.spliced_cons (thn (he pins s1 σ H1 _ I1 q1) fun iv s2 ⟨y,H2,I2,ry,q2⟩=>
  Calls.spliced_cons (thn (hf pins s2 σ H2 _ I2 q2) fun fv s3 ⟨z,H3,I3,rz,ov,g,q3⟩=>Calls.spliced_nil ?_))))
 exact K0 hu I3 g ry rz fun w' s4 I4 rw'=>⟨_,H3,I4,rw',q3⟩
end
end L2
namespace Att
open PySem PySem.W PySem.Calls PyProof.Rows
theorem oY{P:Params}{h:Heap}:∀(ns:List Int) (vs:List Value),WellAll P h vs (ns.map WData.int)->IntsAre vs ns:=by
 intro ns
 induction ns with
 |nil=>
  intro vs w
  rw[List.map_nil]at w
  cases w
  exact .nil
 |cons n ns ih=>
  intro vs w
  rw[List.map_cons]at w
  cases w with
  |cons a b=>
   cases a
   exact .cons _ _ (ih _ b)
theorem zl{l:OpenLaw}{n:Nat}(hn:l.most=some n){P:Params}{h:Heap}{args:List WData}{vals:List Value}
  (hpre:l.row.toRowW.claim.pre args=true) (hwl:WellAll P h vals args) :
  ∃a vs ns,vals=[Value.ref a]/\args=[WData.list (ns.map WData.int)]/\h.get? a=some { cls:=.type "list",data:=.seq vs.toArray }/\IntsAre vs ns/\ns.length<=n:=by
 have hsh:WShape.hasAll [] args [.list .int]=true:=(pre_splitW hpre).1
 have hc:l.pre.holds [] { args:=args }=true:=(pre_splitW hpre).2
 obtain⟨d,r,rfl,h1,h2⟩:=hasAllW_cons hsh
 obtain rfl:=hasAllW_nil h2
 obtain⟨xs,rfl,h3⟩:=hasW_list h1
 obtain⟨ns,rfl⟩:=items_int h3
 have gZ:ns.length<=n:=by
  unfold OpenLaw.pre at hc
  have h4:(WTm.not (.lt (.lit (.int (n:Int))) (.len (.arg 0)))).holds [] { args:=[.list (ns.map .int)] }=true:=by
   have h4:=(holds_andW hc).1
   rw[hn]at h4
   exact h4
  have h5:=condW_of h4 (w_not (w_lt w_lit (w_len_list (w_arg rfl))))
  rw[List.length_map]at h5
  refine Nat.le_of_not_lt fun q=>?_
  have q':(n:Int)<((ns.length:Nat):Int):=by omega
  first
   |(rw[decide_eq_true q']at h5;exact absurd h5 (by decide))
   |(simp at h5;omega)
 cases hwl with
 |cons w1 w2=>
  cases w2
  cases w1 with
  |list ho hall=>exact⟨_,_,ns,rfl,rfl,ho,oY ns _ hall,gZ⟩
theorem zN(l:OpenLaw)(args:List WData):l.row.toRowW.claim.post args (.bool true) args=true:=
 postW_of (r:=l.row.toRowW) (X:=(true == true))
  (show WShape.has [] (.bool true) .bool=true by first|rfl|decide|simp[WShape.has,WShape.arms,WShape.armsAll])
  (show(WTm.eq .res (.lit (.bool true))).value [] { args:=args,res:=some (.bool true),after:=args }=some (.bool (true == true))from w_eq_bool (w_res rfl) w_lit) rfl
theorem attach_call{l:OpenLaw}{n:Nat}{q:Program}{loose:List Str}{XP:(Str->Option Value)->Heap->Prop}{YP:World->Heap->Prop}{d:DefRec}
  (hn:l.most=some n) (hdf:d.params.defaults=[])
  (call:∀(w:World) (s₀ s₁:Shared) (mg mb:Str->Option Value) (fa:Addr) (o:Obj) (pm cd doc:Value) (a:Addr) (vs:List Value) (ns:List Int),
   Ground q loose [] XP w s₀ mg mb s₁.heap->YP w s₁.heap->
   s₁.heap.get? fa=some o->o.data=.func (docDef d.name d.params d.body d.scope pm cd doc)->s₁.heap.CodeRec cd d.name->mg d.name=some (.ref fa)->
   s₁.heap.get? a=some { cls:=.type "list",data:=.seq vs.toArray }->IntsAre vs ns->ns.length<=n->s₁.gens=#[]->
   codeAny (model l.prog w) callerA (.call (.ref fa) ⟨[.ref a],[]⟩) (fun r s'=>r=.ok (.ret (.bool true))/\OldK s₁.heap s'.heap/\s'.os=s₁.os/\AllBare s'.gens) s₁) :
  WalkO q loose XP YP l.row.toRowW d [] (fun f vs=>PySem.call f vs):=by
 intro w s₀ s₁ mg mb G Y fa o pm cd doc dV kV ho hd hcd hD hmg hg args vals as hpre hlay hrd hwl hlo
 obtain rfl:dV=.none:=Dflts.none hD hdf
 obtain rfl:kV=.none:=Dflts.noKw hD
 obtain⟨a,vs,ns,rfl,rfl,hobj,hints,gZ⟩:=zl hn hpre hwl
 refine enter_call (codeAny_mono (call w s₀ s₁ mg mb fa o pm cd doc a vs ns G Y ho (fd_plain hd) hcd hmg hobj hints gZ hg) fun r s' hq=>?_)
 obtain⟨rfl,h2,h3,h4⟩:=hq
 exact⟨.inl ⟨.bool true,.bool true,[],rfl,fun _=>rfl,.bool true,zN l _,fun _=>⟨List.Pairwise.nil,fun _ hm=>(nomatch hm)⟩⟩,h2,h3,h4⟩
end Att
namespace L2
open PySem PySem.Spec PyProof.Rows
theorem jt:∀{vs:List Value} {ns:List Int},IntsAre vs ns->cE (ns.map V.int) vs
 |_,_,.nil=>.nil
 |_,_,.cons n t h=>.cons ⟨t,rfl⟩ (jt h)
def Nj(H:Hp):Prop:=∀b,H b=none\/∃o xs,H b=some (.frz o (.lst xs))
theorem Di{P:Program}{w:World}{K:PySem.W.Frag}{mg mb:Str->Option Value}{CX:CXT}{k:Nat}{fa a:Addr}{fd:FuncData}{x:Str}{sp:Sp}{s₁:Shared}{vs:List Value}{ns:List Int}
  (KX:K.In s₁.heap) (hns:s₁.heap.Ns mainGlobals mg) (hb:s₁.heap.Ns builtinsNs mb) (hbb:∀x:Str,x≠"__name__"->mb x=bootBuiltins x) (hlim:s₁.heap.NoLimit) (hg:s₁.gens=#[])
  (ha:s₁.heap.get? a=some { cls:=.type "list",data:=.seq vs.toArray }) (hi:IntsAre vs ns) (hl:ns.length<=sizeLine) (hr:iZ k callerA)
  (F:∀base:Heap,K.In base->base.Ns mainGlobals mg->nr P w K mg base CX k fa fd [x] sp) (hbind:∀(s:Shared) (u:Value),BindsTo s fd ⟨[u],[]⟩ [(x,u)])
  (hsp:∀H:Hp,Nj H->SqL K H a (ns.map V.int)->sp [.ref a] H (fun v _=>v=.bl true) fun _ _ _=>False)
  (hCX:∀H e s',CX [] H s₁ (fun _ _ _=>False) e s'->False) :
  codeAny (model P w) callerA (.call (.ref fa) ⟨[.ref a],[]⟩) (fun r s'=>r=.ok (.ret (.bool true))/\OldK s₁.heap s'.heap/\s'.os=s₁.os/\AllBare s'.gens) s₁:=by
 have rv:=jt hi
 have lenV:=hi.length
 have core:∀H:Hp,Nj H->SqL K H a (ns.map V.int)->HOk P w H s₁.heap->(∀b,H b≠none->b=a)->(H a≠none->K.lookup a=none)->
   codeAny (model P w) callerA (.call (.ref fa) ⟨[.ref a],[]⟩) (fun r s'=>r=.ok (.ret (.bool true))/\OldK s₁.heap s'.heap/\s'.os=s₁.os/\AllBare s'.gens) s₁:=by
  intro H hO hS hok hA hK
  have base_of:∀{b:Addr} {o:Obj},s₁.heap.get? b=some o->H b=none->(Du s₁.heap H).get? b=some o:=fun e n=>Dr e n
  have noA:∀{b:Addr} {o:Obj} {es:Array DictEntry} {ep:Nat},s₁.heap.get? b=some o->o.data=.dict es ep->H b=none:=fun{b o es ep} e d=>by
   cases q:H b with
   |none=>rfl
   |some u=>
    have e':b=a:=hA b (by rw[q];simp)
    subst e'
    rw[ha]at e;cases e
    have d':Data.seq vs.toArray _=Data.dict es ep:=d
    cases d'
  have nsK:∀{b:Addr} {m:Str->Option Value},s₁.heap.Ns b m->(Du s₁.heap H).Ns b m:=fun{b m} ⟨o,es,ep,e,d,r⟩=>⟨o,es,ep,base_of e (noA e d),d,r⟩
  have hKb:K.In (Du s₁.heap H):=fun b o e=>base_of (KX b o e) (by
   cases q:H b with
   |none=>rfl
   |some u=>
    have e':b=a:=hA b (by rw[q];simp)
    subst e'
    rw[hK (by rw[q];simp)]at e;cases e)
  have hM:Mod K mg (Du s₁.heap H):=⟨hKb,nsK hns,⟨mb,nsK hb,hbb⟩,let ⟨mc,h1,h2⟩:=hlim;⟨mc,nsK h1,h2⟩⟩
  have e0:HL P w K mg (Du s₁.heap H) callerA [] s₁ H:=⟨rfl,hM,fun b o e=>GU e,Nat.le_of_eq (Aw _ _),trivial,fun b hb=>absurd (show b∈([]:List Addr)from hb) (by simp),hok,.of_eq hg⟩
  refine codeAny_mono ((F _ hKb (nsK hns)).run callerA [] s₁ H ⟨[.ref a],[]⟩ [.ref a] [.ref a] _ _ hr e0 (hbind s₁ (.ref a)) (.cons rfl .nil) (hsp H hO hS)) fun r s' h=>?_
  cases r with
  |error e=>exact(hCX H e s' h).elim
  |ok fl=>
   cases fl with
   |next=>exact False.elim h
   |brk=>exact False.elim h
   |cont=>exact False.elim h
   |ret u=>
    obtain⟨v,H',os,bare,un,hok',r',q⟩:=h
    have q':v=.bl true:=q
    subst q'
    obtain rfl:u=Value.bool true:=r'
    refine⟨rfl,OldK.of_keep fun b o e=>?_,os,bare⟩
    cases q:H b with
    |none=>exact un.keep b o e q (by intro z;exact absurd (show b∈([]:List Addr)from z) (by simp)) (by simp)
    |some u=>
     rcases hO b with z|⟨ob,xs,z⟩
     ·rw[q]at z;cases z
     ·have z2:=un.frzs b ob _ z
      obtain⟨e1,_⟩:=hok b _ z
      obtain⟨e2,_⟩:=hok' b _ z2
      rw[e]at e1;cases e1
      exact e2
 cases hk:K.lookup a with
 |some o=>
  have e:=KX a o hk
  rw[ha]at e
  cases e
  refine core (fun _=>none) (fun _=>.inl rfl) (.inr ⟨_,vs.toArray,_,hk,rfl,rfl,rfl,by rw[List.size_toArray,lenV];exact hl,by simpa using rv⟩) (fun b u z=>by have z':(none:Option HO)=some u:=z;cases z') (fun b z=>absurd rfl z) fun z=>absurd rfl z
 |none=>
  refine core (fun b=>if b=a then some (.frz { cls:=.type "list",data:=.seq vs.toArray } (.lst (ns.map V.int)))else none) (fun b=>?_) (.inl (.inr ⟨{ cls:=.type "list",data:=.seq vs.toArray },if_pos rfl⟩)) (fun b u z=>?_) (fun b z=>?_) fun _=>hk
  ·by_cases hb:b=a
   ·exact .inr ⟨_,_,if_pos hb⟩
   ·exact .inl (if_neg hb)
  ·by_cases hb:b=a
   ·have z':=(if_pos hb).symm.trans z
    cases z'
    subst hb
    exact⟨ha,by rw[List.length_map];exact hl,vs,_,rv,ha⟩
   ·have z':=(if_neg hb).symm.trans z
    cases z'
  ·by_cases hb:b=a
   ·exact hb
   ·exact absurd (if_neg hb) z
theorem FQ{l:PySem.W.OpenLaw}{n k:Nat}{q:Program}{loose:List Str}{XP:(Str->Option Value)->Heap->Prop}{YP:World->Heap->Prop}{d:DefRec}{K:Params->PySem.W.Frag}{CX:World->CXT}{sp:World->Sp}{x:Str}
  (hn:l.most=some n) (hn2:n<=sizeLine) (hdf:d.params.defaults=[]) (hr:iZ k callerA)
  (hY:∀(w:World) (h:Heap),YP w h->(K w.params).In h)
  (F:∀(w:World) (mg:Str->Option Value) (fa:Addr) (h:Heap),(K w.params).In h->h.Ns mainGlobals mg->mg d.name=some (.ref fa)->
   ∃fd:FuncData,(∀(s:Shared) (u:Value),BindsTo s fd ⟨[u],[]⟩ [(x,u)])/\
    ∀base:Heap,(K w.params).In base->base.Ns mainGlobals mg->nr l.prog w (K w.params) mg base (CX w) k fa fd [x] (sp w))
  (hsp:∀(w:World) (H:Hp) (a:Addr) (ns:List Int),ns.length<=n->Nj H->SqL (K w.params) H a (ns.map V.int)->sp w [.ref a] H (fun v _=>v=.bl true) fun _ _ _=>False)
  (hCX:∀(w:World) (H:Hp) (s:Shared) (e:Value) (s':Shared),CX w [] H s (fun _ _ _=>False) e s'->False) :
  PySem.W.WalkO q loose XP YP l.row.toRowW d [] (fun f vs=>PySem.call f vs):=by
 refine Att.attach_call hn hdf fun w s₀ s₁ mg mb fa o pm cd doc a vs ns G Y ho hd hcd hmg hobj hints gZ hg=>?_
 have KX:=hY w _ Y
 obtain⟨fd,hb,hF⟩:=F w mg fa _ KX G.T.g hmg
 exact Di KX G.T.g G.T.b G.T.builtins G.T.nolimit hg hobj hints (Nat.le_trans gZ hn2) hr hF hb (fun H hO hS=>hsp w H a ns gZ hO hS) fun H e s'=>hCX w H s₁ e s'
def d9(s:Stmt)(j:Nat):Stmt:=match s with
 |.ClassDef _ _ _ body _ _ _ _ _ _ _=>body.getD j (.Pass ⟨0,0,0,0⟩)
 |_=>.Pass ⟨0,0,0,0⟩
def aT(s:Stmt):Arguments:=match s with
 |.FunctionDef _ a _ _ _ _ _ _ _ _=>a
 |_=>{ posonlyargs:=[],args:=[],vararg:=none,kwonlyargs:=[],kw_defaults:=[],kwarg:=none,defaults:=[] }
def aM(s:Stmt):List Stmt:=match s with
 |.FunctionDef _ _ b _ _ _ _ _ _ _=>b
 |_=>[]
def av(s:Stmt):Scope:=match s with
 |.FunctionDef _ _ _ _ _ _ sc _ _ _=>sc
 |_=>{ kind:=.function,names:=[],isGenerator:=false,isCoroutine:=false }
abbrev CX0:CXT:=fun _ _ _ _ _ _=>False
abbrev E0:XK:=fun _ _ _=>False
theorem zR{X:Cx}:jq CX0 X E0:=fun _ _ _ _ _ _ _ h=>h.elim
structure Fun(K:PySem.W.Frag)(x qual:Str)(st:Stmt)(f:Addr)(fd:FuncData):Prop where
 ex:∃(oc:Value) (od:Option Addr) (kV doc pm:Value) (an:Option Addr) (cdv ct:Value) (osl:Array (Option Value)),
  fd=PySem.W.fnOf x qual (aT st) (aM st) (av st) .none kV doc pm an cdv ct/\K.lookup f=some ⟨oc,od,.func fd,osl⟩/\PySem.W.codeIn K cdv qual=true
 kp:PySem.W.keepIn K (.ref f)=true
section
variable{P:Program}{w:World}{K:PySem.W.Frag}{mg:Str->Option Value}{base:Heap}
theorem Fun.ok{x qual:Str}{st:Stmt}{f:Addr}{fd:FuncData}{N ps:List Str}{k:Nat}{sp:Sp}(F:Fun K x qual st f fd)(S:aS N ps (av st))(len:∀vs H Q E,sp vs H Q E->vs.length=ps.length)
  (hbody:∀(cdv:Value) (A:Around) (outer:List Env) (s:Shared) (H:Hp) (vs:List V) (Q:VK) (E:XK),iZ k (A.deeper (envOfC qual (av st) s.heap.objs.size f cdv))->sp vs H Q E->
   ∃t,PSs (yB CX0 P w K mg base N qual (av st) f cdv A outer s H E).nox (aM st) t/\t { nx:=fun _ H'=>Q .non H',rt:=Q } (kH N vs) H):nr P w K mg base CX0 (k+1) f fd ps sp:=by
 obtain⟨oc,od,kV,doc,pm,an,cdv,ct,osl,rfl,lk,hcd⟩:=F.ex
 refine M4 lk hcd S len fun A outer s H vs Q E hr hsp=>?_
 obtain⟨t,h,q⟩:=hbody cdv A outer s H vs Q E hr hsp
 exact⟨t,h.nox,q⟩
theorem Fun.binds{x qual:Str}{st:Stmt}{f:Addr}{fd:FuncData}{ps:List Str}(F:Fun K x qual st f fd)
  (h:∀(kV doc pm:Value) (an:Option Addr) (cdv ct:Value) (us:List Value),us.length=ps.length->bindArgs (PySem.W.fnOf x qual (aT st) (aM st) (av st) .none kV doc pm an cdv ct) ⟨us,[]⟩=pure (ps.zip us)):d6 K fd ps []:=by
 obtain⟨oc,od,kV,doc,pm,an,cdv,ct,osl,rfl,lk,hcd⟩:=F.ex
 exact .all (h kV doc pm an cdv ct)
theorem bA{x qual:Str}{st:Stmt}{f:Addr}{oc:Value}{od an:Option Addr}{osl:Array (Option Value)}{kV doc pm cdv ct:Value}(l:K.lookup f=some ⟨oc,od,.func (PySem.W.fnOf x qual (aT st) (aM st) (av st) .none kV doc pm an cdv ct),osl⟩)
  (c:PySem.W.codeIn K cdv qual=true) (k:PySem.W.keepIn K (.ref f)=true):Fun K x qual st f (PySem.W.fnOf x qual (aT st) (aM st) (av st) .none kV doc pm an cdv ct):=⟨⟨oc,od,kV,doc,pm,an,cdv,ct,osl,rfl,l,c⟩,k⟩
end
theorem dh{A:Around}{k:Nat}(hr:iZ k A):A.units+1<cLine:=Nat.lt_of_le_of_lt (Nat.add_le_add_left (by decide:1<=64) _) hr.units
theorem zh{n:Nat}(h:n<=1000):n<sizeLine:=Nat.lt_of_le_of_lt h (by decide)
section
variable{X:Cx}
theorem pv(i:Nat){x:Str}{pos:Pos}(hN:X.N[i]?=some x:=by rfl)(hv:Vis X.env.scope x:=by first|exact Or.inl rfl|exact Or.inr (Or.inl rfl)|exact Or.inr (Or.inr rfl))(hd:(x == ("__debug__":Str))=false:=by decide)
  (hcd:(x == ("__classdict__":Str))=false:=by decide):PE X (.Name x pos) (Lf i):=JN hN hv hd hcd
theorem Bg:ib X (.builtin "len") (fun xs H Q=>∃a kvs,xs=[V.ref a]/\H a=some (.dK kvs)/\Q (.int kvs.length) H):=by
 intro pins s σ H xs us Q I r h
 obtain⟨a,kvs,rfl,ha,q⟩:=h
 obtain⟨u,rfl,ru⟩:=pQ r
 cases ru
 exact M7 I (.inl ha) fun t s' I'=>⟨.int kvs.length,H,I',⟨t,rfl⟩,q⟩
end
theorem HR{A B:Prop}(h:B):if false=true then A else B:=by
 rw[if_neg Bool.false_ne_true]
 exact h
theorem HQ{A B:Prop}(h:A):if true=true then A else B:=by
 rw[if_pos rfl]
 exact h
def sx(H H':Hp):Prop:=∀b o,H b=some o->H' b=some o
theorem sx.refl(H:Hp):sx H H:=fun _ _ h=>h
theorem sx.trans{H H1 H2:Hp}(a:sx H H1)(b:sx H1 H2):sx H H2:=fun c o h=>b c o (a c o h)
theorem sx.free{H H':Hp}(e:sx H H'){l:Addr}(h:H' l=Option.none):H l=Option.none:=by
 cases q:H l with
 |none=>rfl
 |some o=>
  rw[e l o q]at h
  cases h
end L2
namespace OG
open PySem PySem.Spec PyProof.Rows L2
structure WE(X:Cx)(e:Expr)(t:TE):Prop where
 h:PE X e t
structure WT(X:Cx)(e:Expr)(t:TT):Prop where
 h:PT X e t
structure WW(X:Cx)(e:Expr)(t:TT):Prop where
 h:PW X e t
structure WA(X:Cx)(es:List Expr)(t:TA):Prop where
 h:PA X es t
structure WS(X:Cx)(st:Stmt)(t:TS):Prop where
 h:PS X st t
structure WSs(X:Cx)(st:List Stmt)(t:TS):Prop where
 h:PSs X st t
structure WI(X:Cx)(tg iter:Expr)(wi:TI):Prop where
 h:PI X tg iter wi
structure WG(X:Cx)(target:Expr)(t:TG):Prop where
 h:PG X target t
structure WGs(X:Cx)(ts:List Expr)(t:TGs):Prop where
 h:PGs X ts t
structure WC(X:Cx)(op:CmpOp)(a b:Expr)(t:TE):Prop where
 h:PC X op a b t
structure WO(X:Cx)(e:Option Expr)(t:TO):Prop where
 h:PO X e t
section
variable{X:Cx}
theorem ag{i j pos}:WE X (.Constant (.int i) j pos) (tC (.int i)):=⟨JU ⟩
end
section
variable{X:Cx}
theorem fD{b j pos}:WE X (.Constant (.bool b) j pos) (tC (.bl b)):=⟨MH ⟩
end
section
variable{X:Cx}
theorem i7{j pos}:WE X (.Constant .none j pos) (tC .non):=⟨JS ⟩
end
section
variable{X:Cx}
theorem aZ{x j pos}:WE X (.Constant (.str x) j pos) (tC (.str x)):=⟨JP ⟩
end
section
variable{X:Cx}
variable{a b:Expr}{ta tb:TE}{pos:Pos}
theorem FK{op:CmpOp}{t:TE}(h:WC X op a b t)(h1:behindInMarks op b=false:=by first|exact nobehind _ (by decide) (by decide)|rfl):WE X (.Compare a [op] [b] pos) t:=⟨JW h.h h1⟩
end
section
variable{X:Cx}
variable{a b:Expr}{ta tb:TE}{pos:Pos}
theorem FC{op:CmpOp}{t:TE}(h:WC X op a b t)(h1:behindInMarks op b=false:=by first|exact nobehind _ (by decide) (by decide)|rfl):WT X (.Compare a [op] [b] pos) (tB t):=⟨JD h.h h1⟩
end
section
variable{X:Cx}
variable{a b:Expr}{ta tb:TE}{pos:Pos}
theorem Fz{e:Expr}{t:TE}(h:WE X e t)(he:∀whole,isTrue e X.env whole=(do let v <-whole;standAt e.pos;holding [v] (truthy v)):=by intro _;rfl):WT X e (tB t):=⟨JB h.h he⟩
end
section
variable{X:Cx}
variable{a b:Expr}{ta tb:TE}{pos:Pos}
variable{tA tB':TT}{rest:List Expr}
theorem BU(ha:WT X a tA):WW X (.BoolOp .And [a] pos) tA:=⟨Gk ha.h⟩
end
section
variable{X:Cx}
variable{a b:Expr}{ta tb:TE}{pos:Pos}
variable{tA tB':TT}{rest:List Expr}
theorem Fx(ha:WT X a tA):WW X (.BoolOp .Or [a] pos) tA:=⟨Jz ha.h⟩
end
section
variable{X:Cx}
variable{a b:Expr}{ta tb:TE}{pos:Pos}
variable{tA tB':TT}{rest:List Expr}
theorem Fy(ha:WT X a tA)(hb:WW X (.BoolOp .And (b::rest) pos) tB'):WW X (.BoolOp .And (a::b::rest) pos) (Nw tA tB'):=⟨JA ha.h hb.h⟩
end
section
variable{X:Cx}
variable{a b:Expr}{ta tb:TE}{pos:Pos}
variable{tA tB':TT}{rest:List Expr}
theorem IY(ha:WT X a tA)(hb:WW X (.BoolOp .Or (b::rest) pos) tB'):WW X (.BoolOp .Or (a::b::rest) pos) (tOr tA tB'):=⟨MA ha.h hb.h⟩
end
section
variable{X:Cx}
variable{a b:Expr}{ta tb:TE}{pos:Pos}
variable{tA tB':TT}{rest:List Expr}
theorem FA(ha:WT X a tA):WT X (.UnaryOp .Not a pos) (Nq tA):=⟨JC ha.h⟩
end
section
variable{X:Cx}
variable{a b:Expr}{ta tb:TE}{pos:Pos}
variable{tA tB':TT}{rest:List Expr}
theorem FH{op}{t:TE}(h:WE X a t):WE X (.BoolOp op [a] pos) t:=⟨JQ h.h⟩
end
section
variable{X:Cx}
variable{a b:Expr}{ta tb:TE}{pos:Pos}
variable{tA tB':TT}{rest:List Expr}
theorem FN(ha:WE X a ta)(hb:WE X (.BoolOp .And (b::rest) pos) tb):WE X (.BoolOp .And (a::b::rest) pos) (Jo ta tb):=⟨JY ha.h hb.h⟩
end
section
variable{X:Cx}
variable{a b:Expr}{ta tb:TE}{pos:Pos}
variable{tA tB':TT}{rest:List Expr}
theorem FI(ha:WE X a ta):WE X (.UnaryOp .Not a pos) (Jh ta):=⟨JR ha.h⟩
end
section
variable{X:Cx}{st:Stmt}{rest:List Stmt}{t u:TS}{e:Expr}{te:TE}{pos:Pos}
theorem BV :WSs X [] Ji:=⟨Gq ⟩
end
section
variable{X:Cx}{st:Stmt}{rest:List Stmt}{t u:TS}{e:Expr}{te:TE}{pos:Pos}
theorem sW(h1:WS X st t)(h2:WSs X rest u):WSs X (st::rest) (Nn t u):=⟨Cz h1.h h2.h⟩
end
section
variable{X:Cx}{st:Stmt}{rest:List Stmt}{t u:TS}{e:Expr}{te:TE}{pos:Pos}
theorem vT(h1:WS X st t):WSs X [st] t:=⟨Gn h1.h⟩
end
section
variable{X:Cx}{st:Stmt}{rest:List Stmt}{t u:TS}{e:Expr}{te:TE}{pos:Pos}
theorem BW(he:WE X e te)(hs:swapsWith e none pos.line X.env=pure false:=by rfl):WS X (.Expr e pos) (Jj te):=⟨Gr he.h hs⟩
end
section
variable{X:Cx}{st:Stmt}{rest:List Stmt}{t u:TS}{e:Expr}{te:TE}{pos:Pos}
theorem yI(he:WE X e te):WS X (.Return (some e) pos) (Np te):=⟨JF he.h⟩
end
section
variable{X:Cx}{st:Stmt}{rest:List Stmt}{t u:TS}{e:Expr}{te:TE}{pos:Pos}
theorem IZ{c:Expr}{a b:List Stmt}{tc:TT}(hc:WT X c tc)(ha:WSs X a t)(hb:WSs X b u):WS X (.If c a b pos) (Nt tc t u):=⟨MB hc.h ha.h hb.h⟩
end
section
variable{X:Cx}{pos:Pos}
theorem bq{i:Nat}{x:Str}(hN:X.N.Nodup)(hi:X.N[i]?=some x)(hx:Loc X.env.scope x)(hf:X.fn x=true\/X.env.scope.names.lookup x=some .local:=by first|exact .inl rfl|exact .inr rfl|assumption):WG X (.Name x pos) (yi i):=⟨GA hN hi hx hf⟩
end
section
variable{X:Cx}{pos:Pos}
theorem BY :WGs X [] NR:=⟨Gz ⟩
end
section
variable{X:Cx}{pos:Pos}
theorem yL{e:Expr}{es:List Expr}{t:TG}{u:TGs}(h1:WG X e t)(h2:WGs X es u)(hs:(assignEach (e::es) X.env).map (·.2)=assign e X.env::(assignEach es X.env).map (·.2):=by rfl):WGs X (e::es) (KI t u):=⟨CH h1.h h2.h hs⟩
end
section
variable{X:Cx}{pos:Pos}
theorem FF{es:List Expr}{k:Nat}{t:TGs}{n:Nat}(hc:X.calm=true)(h:WGs X es t)(hn:(assignEach es X.env).length=n:=by rfl)(hst:(assignEach es X.env).findIdx? (·.1)=none:=by rfl):WG X (.Tuple es k pos) (NP X.K n t):=⟨JL hc h.h hn hst⟩
end
section
variable{X:Cx}{pos:Pos}
theorem FG {o i : Expr} {to ti : TE} {t : Lq} (ho : WE X o to) (hi : WE X i ti) (hs : Ni X t) (ha : ∀ v, assign (.Subscript o i pos) X.env v = (do
   let ov <-holding [v] (eval o X.env)
   let iv <-holding [v,ov] (eval i X.env)
   standAt pos
   holding [v,ov,iv] (setItem ov iv v)
   release [v,ov,iv] []):=by intro _;rfl):WG X (.Subscript o i pos) (NQ to ti t):=⟨JM ho.h hi.h hs ha⟩
end
section
variable{X:Cx}{pos:Pos}
theorem yK{tg e:Expr}{te:TE}{g:TG}(he:WE X e te)(hg:WG X tg g)(hs:swapsWithSole [tg] e pos.line X.env=pure false:=by rfl)(hw:swappedStores [tg] e X.env=pure none:=by rfl)(h1:(assignEach [tg] X.env).map (·.2)=[assign tg X.env]:=by rfl):WS X (.Assign [tg] e pos) (Jn te g):=⟨JI he.h hg.h hs hw h1⟩
end
section
variable{X:Cx}{pos:Pos}
theorem yH{i:Nat}{x:Str}{e:Expr}{te:TE}{pos':Pos}(hN:X.N.Nodup)(hi:X.N[i]?=some x)(hx:Loc X.env.scope x)(he:WE X e te)(hs:swapsWith e (some (.Name x pos')) pos.line X.env=pure false:=by rfl)(hf:X.fn x=true\/X.env.scope.names.lookup x=some .local:=by first|exact .inl rfl|exact .inr rfl|assumption):WS X (.Assign [.Name x pos'] e pos) (Jn te (yi i)):=⟨JE hN hi hx he.h hs hf⟩
end
section
variable{X:Cx}{pos:Pos}
theorem yG{c:Expr}{body:List Stmt}{tc:TT}{tb:TS}(hp:PassesOwn (model X.prog X.w) X.A X.env X.xe)(hc:WT X c tc)(hb:WSs X body tb):WS X (.While c body [] pos) (za tc tb):=⟨CB hp hc.h hb.h⟩
end
section
variable{X:Cx}{tg:Expr}
theorem BX{l:Expr}{tl:TE}(hl:WE X l tl):WI X tg l (KD X.K tl):=⟨Gy hl.h⟩
end
section
variable{X:Cx}{tg:Expr}
theorem FE{l:Expr}{tl:TE}(hl:WE X l tl):WI X tg l (NO X.K tl):=⟨JK hl.h⟩
end
section
variable{X:Cx}{tg:Expr}
theorem xP{a:Expr}{ta:TA}{p pos:Pos}(hg:Gl X "range")(hm:X.mg "range"=none)(ha:WA X [a] ta)(hs:starEach [a] X.env=[(false,eval a X.env)]:=by rfl):WI X tg (.Call (.Name "range" p) [a] [] pos) (KC ta):=⟨zO hg hm ha.h hs⟩
end
section
variable{X:Cx}{tg:Expr}
theorem yJ{iter:Expr}{body:List Stmt}{wi:TI}{g:TG}{tb:TS}{pos:Pos}(hp:PassesOwn (model X.prog X.w) X.A X.env X.xe)(hc:X.calm=true)(hi:WI X tg iter wi)(hg:WG X tg g)(hb:WSs X body tb)(hs:∀x,foldedSetIterable iter X.env x=pure x:=by intro _;rfl):WS X (.For tg iter body [] pos) (Lg wi g tb):=⟨JG hp hc hi.h hg.h hb.h hs⟩
end
section
variable{X:Cx}{a b c:Expr}{ta tb tc:TE}{pos:Pos}
theorem Jb{op:Operator}{r:R2}(ho:OpR X (binaryOp op) r)(ha:WE X a ta)(hb:WE X b tb):WE X (.BinOp a op b pos) (tOp r ta tb):=⟨ME ho ha.h hb.h⟩
end
section
variable{X:Cx}{a b c:Expr}{ta tb tc:TE}{pos:Pos}
theorem Ja{op:UnaryOp}{r:V->Hp->VK->Prop}(ho:UnR X (unaryOp op) r)(ha:WE X a ta):WE X (.UnaryOp op a pos) (tUn r ta):=⟨MD ho ha.h⟩
end
section
variable{X:Cx}{a b c:Expr}{ta tb tc:TE}{pos:Pos}
theorem vZ{op:CmpOp}{r:R2}(ho:OpR X (compareOp op) r)(ha:WE X a ta)(hb:WE X b tb)(hm:behindInMarks op b=false):WE X (.Compare a [op] [b] pos) (tOp r ta tb):=⟨GG ho ha.h hb.h hm⟩
end
section
variable{X:Cx}{a b c:Expr}{ta tb tc:TE}{pos:Pos}
theorem vS{op:CmpOp}{r:R2}(ho:OpR X (compareOp op) r)(ha:WE X a ta)(hb:WE X b tb)(hm:behindInMarks op b=false):WT X (.Compare a [op] [b] pos) (Jf (tOp r ta tb)):=⟨Gm ho ha.h hb.h hm⟩
end
section
variable{X:Cx}{a b c:Expr}{ta tb tc:TE}{pos:Pos}
theorem yU{op op':CmpOp}{r r':R2}(ho:OpR X (compareOp op) r)(ho':OpR X (compareOp op') r')(ha:WE X a ta)(hb:WE X b tb)(hc:WE X c tc)(hm:lastMarks [op,op'] [b,c]=false:=by with_unfolding_all rfl):WE X (.Compare a [op,op'] [b,c] pos) (ze r r' ta tb tc):=⟨CQ ho ho' ha.h hb.h hc.h hm⟩
end
section
variable{X:Cx}{o e value:Expr}{f:Str}{pos pos' tpos:Pos}{ta tv:TE}
theorem FJ(he:WE X e ta)(hb:attributeBase e f X.env (eval e X.env)=eval e X.env):WE X (.Attribute e f pos) (Nu X.K ta f):=⟨JV he.h hb⟩
end
section
variable{X:Cx}{o e value:Expr}{f:Str}{pos pos' tpos:Pos}{ta tv:TE}
theorem FD(ha:WE X o ta)(hv:WE X value tv)(hs:swapsWith value (some (.Attribute o f pos')) pos.line X.env=pure false):WS X (.Assign [.Attribute o f pos'] value pos) (Nx X.K ta tv f):=⟨JH ha.h hv.h hs⟩
end
section
variable{X:Cx}{e:Expr}{es:List Expr}{te:TE}{t:TA}{pos:Pos}
theorem j6 :WA X [] HN:=⟨J0 ⟩
end
section
variable{X:Cx}{e:Expr}{es:List Expr}{te:TE}{t:TA}{pos:Pos}
theorem fS(ha:WE X e te)(hr:WA X es t)(hs:starEach (e::es) X.env=(false,eval e X.env)::starEach es X.env:=by rfl):WA X (e::es) (Jl te t):=⟨GK ha.h hr.h hs⟩
end
section
variable{X:Cx}{e:Expr}{es:List Expr}{te:TE}{t:TA}{pos:Pos}
theorem yM{x1}(h:WA X es t):WE X (.Tuple es x1 pos) (Nm t):=⟨JO h.h⟩
end
section
variable{X:Cx}{e:Expr}{es:List Expr}{te:TE}{t:TA}{pos:Pos}
theorem yP(h:WA X es t):WE X (.List es pos) (Nr t):=⟨JT h.h⟩
end
section
variable{X:Cx}{CX:CXT}{k:Nat}{f C:Addr}{fd:FuncData}{ps:List Str}{sp:Sp}{dvs:List V}{ds:List Value}{E:XK}{x m:Str}{p pos apos:Pos}{e o:Expr}{es:List Expr}{ta:TE}{t:TA}
theorem BZ {pl : Sem Bool} (he : WE X o ta) (c : Cls X.K C) (hm : jV X.K C m f) (F : nr X.prog X.w X.K X.mg X.base CX k f fd ps sp) (hr : iZ k X.A) (hb : d6 X.K fd ps ds) (hd : cE dvs ds) (hx : jq CX X E) (ha : WA X (e :: es) t) (hst : starEach (e :: es) X.env = (false, eval e X.env) :: starEach es X.env := by rfl) (hpl : (backTo pos (starEach es X.env)).any (·.1) = false := by rfl) (ht : eval (.Call (.Attribute o m apos) (e :: es) [] pos) X.env = (do
   let ov <-eval o X.env
   standAt apos.atName
   let (f,first) <-holding [ov] (getMethod ov m pl)
   callWith pos f first (backTo pos (starEach (e::es) X.env)) (backToKw pos (keywordEach [] X.env))):=by rfl):WE X (.Call (.Attribute o m apos) (e::es) [] pos) (zc C m sp dvs E ta t):=⟨GB he.h c hm F hr hb hd hx ha.h hst hpl ht⟩
end
section
variable{X:Cx}{CX:CXT}{k:Nat}{f C:Addr}{fd:FuncData}{ps:List Str}{sp:Sp}{dvs:List V}{ds:List Value}{E:XK}{x m:Str}{p pos apos:Pos}{e o:Expr}{es:List Expr}{ta:TE}{t:TA}
theorem yN {pl : Sem Bool} (he : WE X o ta) (c : Cls X.K C) (hm : jV X.K C m f) (F : nr X.prog X.w X.K X.mg X.base CX k f fd ps sp) (hr : iZ k X.A) (hb : d6 X.K fd ps ds) (hd : cE dvs ds) (hx : jq CX X E) (ht : eval (.Call (.Attribute o m apos) [] [] pos) X.env = (do
   let ov <-eval o X.env
   standAt apos.atName
   let (f,first) <-holding [ov] (getMethod ov m pl)
   callWith pos f first (backTo pos (starEach [] X.env)) (backToKw pos (keywordEach [] X.env))):=by rfl):WE X (.Call (.Attribute o m apos) [] [] pos) (zc C m sp dvs E ta HN):=⟨CK he.h c hm F hr hb hd hx ht⟩
end
section
variable{X:Cx}{CX:CXT}{k:Nat}{f C:Addr}{fd:FuncData}{ps:List Str}{sp:Sp}{dvs:List V}{ds:List Value}{E:XK}{x m:Str}{p pos apos:Pos}{e o:Expr}{es:List Expr}{ta:TE}{t:TA}
theorem B1(M:Mk X.K C f)(F:nr X.prog X.w X.K X.mg X.base CX k f fd ps sp)(hr:iZ (k+1) X.A)(hg:Gl X x)(hm:X.mg x=some (.ref C))(hb:d6 X.K fd ps ds)(hd:cE dvs ds)(hx:jq CX X E)(ha:WA X (e::es) t)(hdb:(x == ("__debug__":Str))=false:=by decide)(he:starEach (e::es) X.env=(false,eval e X.env)::starEach es X.env:=by rfl)(hpl:(backTo pos (starEach es X.env)).any (·.1)=false:=by rfl):WE X (.Call (.Name x p) (e::es) [] pos) (zd C sp dvs E t):=⟨GC M F hr hg hm hb hd hx ha.h hdb he hpl⟩
end
section
variable{X:Cx}{CX:CXT}{k:Nat}{f C:Addr}{fd:FuncData}{ps:List Str}{sp:Sp}{dvs:List V}{ds:List Value}{E:XK}{x m:Str}{p pos apos:Pos}{e o:Expr}{es:List Expr}{ta:TE}{t:TA}
theorem yO(M:Mk X.K C f)(F:nr X.prog X.w X.K X.mg X.base CX k f fd ps sp)(hr:iZ (k+1) X.A)(hg:Gl X x)(hm:X.mg x=some (.ref C))(hb:d6 X.K fd ps ds)(hd:cE dvs ds)(hx:jq CX X E)(hdb:(x == ("__debug__":Str))=false:=by decide):WE X (.Call (.Name x p) [] [] pos) (zd C sp dvs E HN):=⟨CL M F hr hg hm hb hd hx hdb⟩
end
section
variable{X:Cx}{x:Str}{p pos:Pos}{e:Expr}{es:List Expr}{t:TA}{id T:String}{r:List V->Hp->VK->Prop}
theorem nM(hc:ib X (.builtin id) r)(hg:Gl X x)(hm:X.mg x=none)(hv:bootBuiltins x=some (.builtin id))(ha:WA X (e::es) t)(hn:x≠"__name__":=by decide)(hdb:(x == ("__debug__":Str))=false:=by decide)(he:starEach (e::es) X.env=(false,eval e X.env)::starEach es X.env:=by rfl)(hpl:(backTo pos (starEach es X.env)).any (·.1)=false:=by rfl):WE X (.Call (.Name x p) (e::es) [] pos) (tCB r t):=⟨CU hc hg hm hv ha.h hn hdb he hpl⟩
end
section
variable{X:Cx}{x:Str}{p pos:Pos}{e:Expr}{es:List Expr}{t:TA}{id T:String}{r:List V->Hp->VK->Prop}
theorem qi(hc:ib X (.type T) r)(hg:Gl X x)(hm:X.mg x=none)(hv:bootBuiltins x=some (.type T))(ha:WA X (e::es) t)(hn:x≠"__name__":=by decide)(hdb:(x == ("__debug__":Str))=false:=by decide)(he:starEach (e::es) X.env=(false,eval e X.env)::starEach es X.env:=by rfl)(hpl:(backTo pos (starEach es X.env)).any (·.1)=false:=by rfl):WE X (.Call (.Name x p) (e::es) [] pos) (tCB r t):=⟨zP hc hg hm hv ha.h hn hdb he hpl⟩
end
section
variable{X:Cx}{e:Expr}{te:TE}{lo hi:Option Expr}{tl th:TO}{pos p2:Pos}
theorem vW :WO X none zb:=⟨Gx ⟩
end
section
variable{X:Cx}{e:Expr}{te:TE}{lo hi:Option Expr}{tl th:TO}{pos p2:Pos}
theorem vV(h:WE X e te):WO X (some e) (Jg te):=⟨Gw h.h⟩
end
section
variable{X:Cx}{e:Expr}{te:TE}{lo hi:Option Expr}{tl th:TO}{pos p2:Pos}
theorem sX{r:V->Option Int->Option Int->Hp->VK->Prop}(hr:SlR X r)(he:WE X e te)(hl:WO X lo tl)(hu:WO X hi th):WE X (.Subscript e (.Slice lo hi none p2) pos) (tSl r te tl th):=⟨CJ hr he.h hl.h hu.h⟩
end
section
variable{X:Cx}{a b:Expr}{ta tb:TE}{pos:Pos}
theorem Jc{r:R2}(hr:IxR X r)(ha:WE X a ta)(hb:WE X b tb)(hs:vL b):WE X (.Subscript a b pos) (tOp r ta tb):=⟨MF hr ha.h hb.h hs⟩
end
section
variable{X:Cx}{a b:Expr}{ta tb:TE}{pos:Pos}
variable{o e:Expr}{es:List Expr}{to:TE}{t:TA}{name:Str}{apos cpos:Pos}{T id:String}{r:V->List V->Hp->VK->Prop}
theorem FL(pa:PlainAttrs T)(slot:Slot T name id)(hty:typeOf (.builtin id)=pure (.type "method_descriptor"))(hm:MtR X id r)(ho:WE X o to)(hbase:attributeBase o name X.env (eval o X.env)=eval o X.env:=by rfl)(hline:(apos.endLine == cpos.line)=true:=by rfl):WE X (.Call (.Attribute o name apos) [] [] cpos) (Nv X.K T r to):=⟨JX pa slot hty hm ho.h hbase hline⟩
end
section
variable{X:Cx}{a b:Expr}{ta tb:TE}{pos:Pos}
variable{o e:Expr}{es:List Expr}{to:TE}{t:TA}{name:Str}{apos cpos:Pos}{T id:String}{r:V->List V->Hp->VK->Prop}
theorem yV (pa : PlainAttrs T) (slot : Slot T name id) (hty : typeOf (.builtin id) = pure (.type "method_descriptor")) (hm : MtR X id r) (ho : WE X o to) (ha : WA X (e :: es) t) (hbase : attributeBase o name X.env (eval o X.env) = eval o X.env := by rfl) (hfew : ((backTo cpos (starEach (e :: es) X.env)).all (fun x => !x.1) && (backToKw cpos (keywordEach [] X.env)).all (fun x => x.1.isSome)
   && decide ((e::es).length+([]:List Keyword).length+(if ([]:List Keyword).isEmpty then 0 else 1)<30))=true:=by rfl) (hline:(apos.endLine == cpos.line)=true:=by rfl) (hs:starEach (e::es) X.env=(false,eval e X.env)::starEach es X.env:=by rfl) (hplain:(backTo cpos (starEach es X.env)).any (·.1)=false:=by rfl):WE X (.Call (.Attribute o name apos) (e::es) [] cpos) (tBM X.K T r to t):=⟨MG pa slot hty hm ho.h ha.h hbase hfew hline hs hplain⟩
end
section
variable{X:Cx}{o i e value:Expr}{pos pos' tpos:Pos}{td ty tv:TE}
theorem B2(hu:X.A.units+1<cLine)(ho:WE X o td)(hi:WE X i ty)(hs:Lv i):WE X (.Subscript o i pos) (Jk td ty):=⟨GF hu ho.h hi.h hs⟩
end
section
variable{X:Cx}{o i e value:Expr}{pos pos' tpos:Pos}{td ty tv:TE}
theorem qj(hu:X.A.units+1<cLine)(hi:WE X i ty)(ho:WE X o td):WC X .NotIn i o (rb ty td):=⟨zQ hu hi.h ho.h⟩
end
section
variable{X:Cx}{o i e value:Expr}{pos pos' tpos:Pos}{td ty tv:TE}
theorem vU(hu:X.A.units+1<cLine)(ho:WE X o td)(hi:WE X i ty)(hv:WE X value tv)(hs:swapsWith value (some (.Subscript o i pos')) pos.line X.env=pure false):WS X (.Assign [.Subscript o i pos'] value pos) (Js td ty tv):=⟨Gs hu ho.h hi.h hv.h hs⟩
end
section
variable{X:Cx}{pos:Pos}
theorem yR :WE X (.Dict [] [] pos) Em:=⟨CN ⟩
end
section
variable{X:Cx}{pos:Pos}
theorem yQ :WE X (.Dict [] [] pos) El:=⟨CM ⟩
end
section
variable{X:Cx}{o e f:Expr}{apos cpos:Pos}{td ty tx:TE}
theorem yT(hu:X.A.units+1<cLine)(ho:WE X o td)(he:WE X e ty)(m:M1 X o "get" apos e cpos):WE X (.Call (.Attribute o "get" apos) [e] [] cpos) (Eo td ty):=⟨CP hu ho.h he.h m⟩
end
section
variable{X:Cx}{o e f:Expr}{apos cpos:Pos}{td ty tx:TE}
theorem yS(hu:X.A.units+1<cLine)(ho:WE X o td)(he:WE X e ty)(hf:WE X f tx)(m:M2 X o "get" apos e f cpos):WE X (.Call (.Attribute o "get" apos) [e,f] [] cpos) (En td ty tx):=⟨CO hu ho.h he.h hf.h m⟩
end
section
variable{X:Cx}
theorem wpv(i:Nat){x:Str}{pos:Pos}(hN:X.N[i]?=some x:=by rfl)(hv:Vis X.env.scope x:=by first|exact Or.inl rfl|exact Or.inr (Or.inl rfl)|exact Or.inr (Or.inr rfl))(hd:(x == ("__debug__":Str))=false:=by decide)(hcd:(x == ("__classdict__":Str))=false:=by decide):WE X (.Name x pos) (Lf i):=⟨pv i hN hv hd hcd⟩
end
theorem WW.pt{X:Cx}{e:Expr}{t:TT}(h:WW X e t):WT X e t:=⟨h.h.pt⟩
section
variable{X:Cx}{a b c e:Expr}{ta tb tc:TE}{pos:Pos}
def yA(i j:Int):Prop:=0<j/\j.natAbs.log2<9000
theorem rL:OpR X (binaryOp .FloorDiv) (rI yA fun i j=>.int (i / j)):=opI fun i j _ _ _ _ _ hc q=>by
 refine PyProof.Rows.floordiv_int (by have:=hc.1;omega) ?_ (.inl (PyProof.noPylong_of_log2 hc.2))
 rw[Int.fdiv_eq_ediv_of_nonneg i (Int.le_of_lt hc.1)]
 exact q
theorem u7:OpR X (compareOp .IsNot) (fun x y H Q=>∃k l,x=.bl k/\y=.bl l/\Q (.bl (k !=l)) H):=by
 rintro pins s σ H x y v u Q I rx ry ⟨k,l,rfl,rfl,q⟩
 cases rx;cases ry
 exact PyProof.Rows.isnot_bool ⟨.bl (k !=l),H,I,rfl,q⟩
theorem vG:ib X (.builtin "isinstance") (fun xs H Q=>∃(x:V) (T:String) (t:Value) (k:Bool),xs=[x,.ty T]/\xA X.K H x t/\PySem.W.kitOne X.K t (.type T)=some k/\Q (.bl k) H):=by
 rintro pins s σ H xs us Q I r ⟨x,T,t,k,rfl,ty,e,q⟩
 obtain⟨u,w',rfl,ru,rw'⟩:=FR r
 cases rw'
 exact Ap I ru ty e fun tk=>⟨.bl k,H,I.tok tk,rfl,q⟩
end
theorem dW{H:Hp}{p:Addr}(h:H p=none)(o:HO):sx H (upd H p o):=fun b u q=>by rw[bN (dD q h)];exact q
def Def(K:PySem.W.Frag)(mg:Str->Option Value)(x:Str)(st:Stmt)(ps:List Str):Prop:=
 ∃f fd,Fun K x x st f fd/\d6 K fd ps []/\mg x=some (.ref f)
def Has(P:Program)(w:World)(K:PySem.W.Frag)(mg:Str->Option Value)(base:Heap)(x:Str)(k:Nat)(ps:List Str)(sp:Sp):Prop:=
 ∃f fd,nr P w K mg base CX0 k f fd ps sp/\d6 K fd ps []/\PySem.W.keepIn K (.ref f)=true/\mg x=some (.ref f)
section
variable{P:Program}{w:World}{K:PySem.W.Frag}{mg:Str->Option Value}{base:Heap}{x:Str}{st:Stmt}{ps N:List Str}{k j:Nat}{sp sp':Sp}
theorem Has.mono(h:Has P w K mg base x j ps sp)(l:j<=k):Has P w K mg base x k ps sp:=by
 obtain⟨f,fd,a,b,c,d⟩:=h
 exact⟨f,fd,a.mono l,b,c,d⟩
theorem Def.has(d:Def K mg x st ps)(S:aS N ps (av st))(len:∀vs H Q E,sp vs H Q E->vs.length=ps.length)
  (hbody:∀(f:Addr) (cdv:Value) (A:Around) (outer:List Env) (s:Shared) (H:Hp) (vs:List V) (Q:VK) (E:XK),iZ k (A.deeper (envOfC x (av st) s.heap.objs.size f cdv))->sp vs H Q E->
   ∃t,WSs (yB CX0 P w K mg base N x (av st) f cdv A outer s H E).nox (aM st) t/\t { nx:=fun _ H'=>Q .non H',rt:=Q } (kH N vs) H):Has P w K mg base x (k+1) ps sp:=by
 obtain⟨f,fd,F,b,m⟩:=d
 exact⟨f,fd,F.ok S len (fun cdv A outer s H vs Q E hr h=>let ⟨t,a,b⟩:=hbody f cdv A outer s H vs Q E hr h;⟨t,a.h,b⟩),b,F.kp,m⟩
theorem Def.none(d:Def K mg x st ps)(no:∀vs H Q E,¬sp vs H Q E):Has P w K mg base x k ps sp:=by
 obtain⟨f,fd,F,b,m⟩:=d
 exact⟨f,fd,⟨fun vs H Q E h=>absurd h (no vs H Q E),fun A outer s H args us vs Q E _ _ _ _ h=>absurd h (no vs H Q E)⟩,b,F.kp,m⟩
end
theorem Eh{X:Cx}{k:Nat}{ps:List Str}{sp:Sp}{x:Str}{p pos:Pos}{e:Expr}{es:List Expr}{t:TA}(F:Has X.prog X.w X.K X.mg X.base x k ps sp)(hr:iZ k X.A)(hg:Gl X x)
  (ha:WA X (e::es) t) (hdb:(x == ("__debug__":Str))=false:=by decide) (he:starEach (e::es) X.env=(false,eval e X.env)::starEach es X.env:=by rfl) (hpl:(backTo pos (starEach es X.env)).any (·.1)=false:=by rfl) :
  WE X (.Call (.Name x p) (e::es) [] pos) (Jm sp [] E0 t):=by
 obtain⟨f,fd,a,b,c,d⟩:=F
 exact⟨GH a hr hg d c b .nil zR ha.h hdb he hpl⟩
structure Blt(mg:Str->Option Value):Prop where
 len:mg "len"=none
 isinstance:mg "isinstance"=none
 int:mg "int"=none
 bool:mg "bool"=none
 str:mg "str"=none
 tuple:mg "tuple"=none
 list:mg "list"=none
 range:mg "range"=none
 min:mg "min"=none
 sum:mg "sum"=none
 all:mg "all"=none
 zip:mg "zip"=none
 sorted:mg "sorted"=none
 dict:mg "dict"=none
 enumerate:mg "enumerate"=none
 any:mg "any"=none
 max:mg "max"=none
 set:mg "set"=none
theorem tF{n:Nat}(h:n<=1000):n<=sizeLine:=Nat.le_of_lt (zh h)
theorem x5{n:Nat}(h:n<2^60):n.log2<1920:=by
 by_cases e:n=0
 ·subst e;decide
 ·have:=(Nat.log2_lt e).mpr h;omega
theorem DT(ns:List Int)(lo hi:Option Int):A9 (ns.map V.int) lo hi=((ns.drop (HT.sIx (ns.map V.int).length 0 lo)).take (HT.sIx (ns.map V.int).length (ns.map V.int).length hi-HT.sIx (ns.map V.int).length 0 lo)).map V.int:=by
 unfold A9
 rw[List.map_take,List.map_drop]
def Ce(K:PySem.W.Frag):Sp:=fun vs H Q _=>∃(a:Addr) (ns:List Int),vs=[.ref a]/\SqL K H a (ns.map V.int)/\ns.length<=63/\∀H',Q (.bl true) H'
theorem xv:bootBuiltins "int"=some (.type "int"):=rfl
theorem Bn:bootBuiltins "bool"=some (.type "bool"):=rfl
theorem jU:bootBuiltins "tuple"=some (.type "tuple"):=rfl
theorem lK:bootBuiltins "list"=some (.type "list"):=rfl
theorem pD:bootBuiltins "isinstance"=some (.builtin "isinstance"):=rfl
theorem D1:bootBuiltins "min"=some (.builtin "min"):=rfl
theorem dR:bootBuiltins "sorted"=some (.builtin "sorted"):=rfl
theorem vX{X:Cx}{x:Str}{T:String}{pos:Pos}(hg:Gl X x)(hm:X.mg x=none)(hv:bootBuiltins x=some (.type T))(hn:x≠"__name__":=by decide)(hd:(x == ("__debug__":Str))=false:=by decide):WE X (.Name x pos) (tC (.ty T)):=
 ⟨GI hg hm hv rfl hn hd⟩
theorem vY{X:Cx}{x:Str}{i:Int}{pos:Pos}(hg:Gl X x)(hm:∃t,X.mg x=some (.int i t))(hd:(x == ("__debug__":Str))=false:=by decide):WE X (.Name x pos) (tC (.int i)):=by
 obtain⟨t,hm⟩:=hm
 exact⟨GD hg hm ⟨t,rfl⟩ hd⟩
theorem pH{α:Type}{xs:List α}{k:Int}{v:α}(h0:0<=k)(h:xs[k.toNat]?=some v):atI xs k=some v:=by
 have ek:k=((k.toNat:Nat):Int):=by omega
 rw[ek];exact iM h
theorem Fun.okW{P:Program}{w:World}{K:PySem.W.Frag}{mg:Str->Option Value}{base:Heap}{x qual:Str}{st:Stmt}{f:Addr}{fd:FuncData}{N ps:List Str}{k:Nat}{sp:Sp}(F:Fun K x qual st f fd)(S:aS N ps (av st))(len:∀vs H Q E,sp vs H Q E->vs.length=ps.length)
  (hbody:∀(cdv:Value) (A:Around) (outer:List Env) (s:Shared) (H:Hp) (vs:List V) (Q:VK) (E:XK),iZ k (A.deeper (envOfC qual (av st) s.heap.objs.size f cdv))->sp vs H Q E->
   ∃t,WSs (yB CX0 P w K mg base N qual (av st) f cdv A outer s H E).nox (aM st) t/\t { nx:=fun _ H'=>Q .non H',rt:=Q } (kH N vs) H):nr P w K mg base CX0 (k+1) f fd ps sp:=
 F.ok S len fun cdv A outer s H vs Q E hr h=>let ⟨t,a,b⟩:=hbody cdv A outer s H vs Q E hr h;⟨t,a.h,b⟩
def xI(env:Env):List (Str×Addr)->Prop
 |[]=>True
 |p::r=>env.cells.lookup p.1=some p.2/\xI env r
theorem xI.look{env:Env}:∀{cl:List (Str×Addr)} {y:Str} {c:Addr},xI env cl->cl.lookup y=some c->env.cells.lookup y=some c
 |[],_,_,_,h=>by simp at h
 |(n,d)::r,y,c,a,h=>by
  obtain⟨a1,a2⟩:=a
  rw[List.lookup_cons]at h
  by_cases e:(y == n)=true
  ·rw[e]at h
   have e':y=n:=by simpa using e
   subst e'
   cases h
   exact a1
  ·have e':(y == n)=false:=by simpa using e
   rw[e']at h
   exact xI.look a2 h
abbrev cxC(X:Cx)(Nc:List Str)(scope:Scope)(cl:List (Str×Addr))(s3:Shared)(H3:Hp)(fp:List Addr):Cx where
 prog:=X.prog
 w:=X.w
 K:=X.K
 mg:=X.mg
 base:=X.base
 A:=X.A
 N:=Nc
 s₀:=s3
 H₀:=H3
 env:=compEnvC scope cl s3.heap.objs.size X.env
 outer:=X.stack
 stack:=X.stack
 ex:=fp
 fn:=fun _=>false
 calm:=X.calm
 pn:=[]
 xe:=fun _ _=>False
def stC(n:Nat)(caps:List Nat)(σ:L2.St):L2.St:=List.replicate n none++caps.map fun i=>(σ[i]?).getD none
def Cb(wi:TI)(g:TG)(te:TE)(n:Nat)(caps:List Nat):TE:=fun σ H Q=>wi σ H fun J H1=>∀l,H1 l=none->∃W:Nat->Nat->L2.St->Hp->Prop,(∃m,W 0 m (stC n caps σ) (upd H1 l (.lst [])))/\
 ∀i m σ' H2,W i m σ' H2->(J.stop i H2/\Q (.ref l) H2)\/(J.go i H2/\∃N:L2.St->Hp->Prop,(∀σ'' H',N σ'' H'->∃m',m'<m/\W (i+1) m' σ'' H')/\
  ∀x H3,J.yld i H2 x H3->g x σ' H3 fun σ2 H4=>te σ2 H4 fun v H5=>∃ys,H5 l=some (.lst ys)/\ys.length<sizeLine/\N σ2 (upd H5 l (.lst (ys++[v]))))
theorem uy{prog:Program}{w:World}{A:Around}{R:Result->Shared->Prop}{s:Shared}{elt target iter:Expr}{scope:Scope}{pos:Pos}{it acc:Value}{env:Env}(I:Nat->Shared->Prop)
  (turn:∀n s,I n s->wpAny (model prog w) A (pyNext it) (fun r s₁=>match r with
   |none=>R (.ok .next) s₁
   | some v=>wpAny (model prog w) A (letOwnedTupleGo target it v) (fun _ s₁'=>wpAny (model prog w) A (assign target env v) (fun _ s₂=>wpAny (model prog w) A (eval elt env) (fun x s₃=>
     wpAny (model prog w) A (call (.builtin "list.append") [acc,x]) (fun _ s₄=>∃m,m<n/\I m s₄) (fun _ _=>False) s₃)
     (fun _ _=>False) s₂) (fun _ _=>False) s₁') (fun _ _=>False) s₁) (fun _ _=>False) s)
  (n:Nat) (h:I n s) :
  codeAny (model prog w) A (.compLoop (.ListComp elt [⟨target,iter,[],0⟩] scope pos) 0 it acc env) R s:=by
 refine codeAny_loop rfl I (fun n s hI=>?_) n h
 show wpAny _ _ ((compTurn (.ListComp elt [⟨target,iter,[],0⟩] scope pos) 0 it acc env).onRaise (fun x=>do noteFrame x env;theTreesLotGoes x)) _ _ s
 refine wpAny_noted ?_
 rw[compTurn_list1]
 refine wpAny_bind (wpAny_standAt (wpAny_bind (wpAny_mono (turn n s hI) (fun r s₁ h₁=>?_) fun _ _ h'=>h'.elim)))
 cases r with
 |none=>exact wpAny_pure h₁
 |some v=>
  refine wpAny_bind (wpAny_mono h₁ (fun _ s₁' h₁'=>?_) fun _ _ h'=>h'.elim)
  exact wpAny_bind (wpAny_mono h₁' (fun _ s₂ h₂=>wpAny_bind (wpAny_bind (wpAny_mono h₂ (fun x s₃ h₃=>wpAny_bind (wpAny_mono h₃
   (fun _ s₄ h₄=>wpAny_pure (wpAny_pure ⟨rfl,h₄⟩)) fun _ _ h'=>h'.elim)) fun _ _ h'=>h'.elim))) fun _ _ h'=>h'.elim)
section
variable{X:Cx}{pins:List (Addr×Obj)}{σ:L2.St}{H:Hp}{s:Shared}{Nc capN:List Str}{scope:Scope}{cl:List (Str×Addr)}{fp:List Addr}{n:Nat}{caps:List Nat}{tg iter elt:Expr}{pos:Pos}{wi:TI}{g:TG}{te:TE}
def Cap(X:Cx)(scope:Scope)(cl:List (Str×Addr))(i:Nat)(y:Str):Prop:=X.N[i]?=some y/\X.env.scope.names.lookup y=some .cell/\(relabel scope X.env).names.lookup y=some .cell/\∃c,cl.lookup y=some c
theorem Inv.comp{h1:Heap}{t':Nat}(I:Inv X pins σ H s)(hc:X.calm=true)(f2:∀b∈fp,yC X pins H b)(fo:∀b∈fp,b<s.heap.objs.size)(hkind:scope.kind=.function)(hcl:xI X.env cl)
  (hhas:((relabel scope X.env).names.all fun p=>!(p.2 == .cell||p.2 == .free)||(cl.lookup p.1).isSome)=true)
  (hcap:Paired (Cap X scope cl) caps capN) (tn:List Str) (hN:Nc=tn++capN) (hn:tn.length=n)
  (hns:h1.Ns s.heap.objs.size (fun _=>none)) (hk:∀b o,s.heap.get? b=some o->h1.get? b=some o) :
  Inv (cxC X Nc scope cl s H fp) [] (stC n caps σ) H { s with heap:=h1,toks:=t' }:=by
 have lkc:∀y c,cl.lookup y=some c->X.env.cells.lookup y=some c:=fun y c e=>hcl.look e
 refine⟨⟨I.ok.mod,?_,I.ok.glob,I.ok.blt,Nat.le_refl _,fun x y c a b=>I.ok.inj x y c (lkc _ _ a) (lkc _ _ b),fun x hx=>?_,fun x c z=>(nomatch z),I.ok.hd,I.ok.frames,.inl rfl,fun b hb=>⟨Nat.ne_of_lt (fo b hb),fun x c e=>(f2 b hb).2.2.2.2.1 x c (lkc _ _ e)⟩,I.bs,Nat.le_trans I.ok.bsz I.sz,
  fun b o e hb=>?_,fun b hb z=>?_,I.stack,I.stkFree⟩,rfl,I.bare,Un.kept hk,⟨_,hns,fun i y v h1' h2 h3=>?_⟩,fun y c e=>?_,I.hok.fresh (Nat.le_refl _),fun y c e=>I.freeC y c (lkc _ _ e),fun p hp=>(by simp at hp),I.hok.kept hk,?_⟩
 ·exact hkind
 ·have hx':(relabel scope X.env).names.lookup x=some .cell\/(relabel scope X.env).names.lookup x=some .free:=hx
  have mem:∀{k},(relabel scope X.env).names.lookup x=some k->(x,k)∈(relabel scope X.env).names:=fun{k} e=>by
   generalize (relabel scope X.env).names=L at e
   induction L with
   |nil=>simp at e
   |cons p r ih=>
    obtain⟨a,b⟩:=p
    rw[List.lookup_cons]at e
    by_cases q:(x == a)=true
    ·rw[q]at e;cases e
     have:x=a:=by simpa using q
     subst this;exact List.mem_cons_self
    ·rw[show(x == a)=false by simpa using q]at e
     exact List.mem_cons_of_mem _ (ih e)
  have fin:∀{k},(k=NameKind.cell\/k=.free)->(relabel scope X.env).names.lookup x=some k->∃c,cl.lookup x=some c:=fun{k} hk' e=>by
   have:=List.all_eq_true.mp hhas _ (mem e)
   dsimp only at this
   have q:(cl.lookup x).isSome=true:=by
    rcases hk' with z|z<;>subst z<;>simpa using this
   exact Option.isSome_iff_exists.mp q
  rcases hx' with e|e
  ·exact fin (.inl rfl) e
  ·exact fin (.inr rfl) e
 ·rcases(f2 b hb).2.2.2.1 with z|z
  ·exact I.ok.noex b o e z
  ·exact absurd (Nat.lt_of_lt_of_le (Heap.lt_size e) I.ok.bsz) (Nat.not_lt.mpr z)
 ·rcases List.mem_cons.mp (I.stkSub b z)with q|q
  ·exact(f2 b hb).2.1 q
  ·exact(f2 b hb).2.2.1 q
 ·obtain⟨m,hm,hl⟩:=I.loc
  have h2':(stC n caps σ)[i]?=some (some v):=h2
  have h1'':Nc[i]?=some y:=h1'
  unfold stC at h2'
  by_cases hi:i<n
  ·rw[List.getElem?_append_left (by simpa using hi),List.getElem?_replicate,if_pos hi]at h2'
   cases h2'
  ·rw[List.getElem?_append_right (by simp;omega),List.length_replicate,List.getElem?_map]at h2'
   rw[hN,List.getElem?_append_right (by omega),hn]at h1''
   have key:∀(j:Nat) {caps:List Nat} {capN:List Str},Paired (Cap X scope cl) caps capN->capN[j]?=some y->(Option.map (fun i=>(σ[i]?).getD none) caps[j]?)=some (some v)->∃k,Cap X scope cl k y/\σ[k]?=some (some v):=by
    intro j
    induction j with
    |zero=>
     intro caps capN P e1 e2
     cases P with
     |nil=>simp at e1
     |@cons a b l r p t=>
      simp at e1 e2
      subst e1
      cases q:σ[a]? with
      |none=>rw[q]at e2;simp at e2
      |some w'=>rw[q]at e2;simp at e2;subst e2;exact⟨a,p,q⟩
    |succ j ih=>
     intro caps capN P e1 e2
     cases P with
     |nil=>simp at e1
     |cons p t=>exact ih t (by simpa using e1) (by simpa using e2)
   obtain⟨k,⟨c1,c2,c3,c,c4⟩,e⟩:=key _ hcap h1'' h2'
   obtain⟨u,r,lk⟩:=hl k y v c1 e (.inr (.inl c2))
   refine⟨u,r,.inr ⟨.inl c3,c,c4,?_⟩⟩
   rcases lk with⟨z,_⟩|⟨_,c',e',o,ho,hd⟩
   ·have z':X.env.scope.names.lookup y=some .local:=z
    rw[c2]at z';cases z'
   ·rw[lkc _ _ c4]at e'
    cases e'
    exact⟨o,hk _ _ ho,hd⟩
 ·obtain⟨v,o,ho,hd⟩:=I.cell y c (lkc _ _ e)
  exact⟨v,o,hk _ _ ho,hd⟩
 ·show(stC n caps σ).length=Nc.length
  have pl:caps.length=capN.length:=Paired.length hcap
  unfold stC
  rw[List.length_append,List.length_replicate,List.length_map,hN,List.length_append,hn,pl]
end
theorem xn{X:Cx}{Nc capN tn:List Str}{scope:Scope}{cl:List (Str×Addr)}{n:Nat}{caps:List Nat}{tg iter elt:Expr}{pos:Pos}{wi:TI}{g:TG}{te:TE}
  (hc:X.calm=true) (hi:WI X tg iter wi) (hg:∀s3 H3 fp,WG (cxC X Nc scope cl s3 H3 fp) tg g) (he:∀s3 H3 fp,WE (cxC X Nc scope cl s3 H3 fp) elt te)
  (hclos:closureFor scope X.env=pure cl) (hkind:scope.kind=.function) (hnl:∀x∈scope.names,x.2=.local->scope.names.lookup x.1=some .local) (hcell:∀x∈scope.names,x.2≠.cell)
  (hcl:xI X.env cl) (hhas:((relabel scope X.env).names.all fun p=>!(p.2 == .cell||p.2 == .free)||(cl.lookup p.1).isSome)=true)
  (hcap:Paired (Cap X scope cl) caps capN) (hN:Nc=tn++capN) (hn:tn.length=n)
  {use:Option (Value->Sem Unit)} {pins:List (Addr×Obj)} {σ:L2.St} {H:Hp} {s:Shared} {Q:VK} {Qf:Value->Shared->Prop} (I:Inv X pins σ H s) (h:Cb wi g te n caps σ H Q)
  (hend:∀(D C:Addr) (s6:Shared) (H5:Hp) (m:Str->Option Value),Inv X pins σ H5 s6->s6.heap.Ns C m->H5 C=none->C≠X.env.locals->X.s₀.heap.objs.size<=C->(∀x c,X.env.cells.lookup x=some c->c≠C)->(∀p∈X.pn++pins,p.1≠C)->Q (.ref D) H5->compPost (model X.prog X.w) X.A X.xe use Qf (.ref D) C (.ok .next) s6)
  (hs:∀x,foldedSetIterable iter X.env x=pure x) :
  wpAny (model X.prog X.w) X.A (comprehension (.ListComp elt [⟨tg,iter,[],0⟩] scope pos) scope X.env (firstIterPos [⟨tg,iter,[],0⟩] pos) (newList []) (firstAsync [⟨tg,iter,[],0⟩]) (firstIter [⟨tg,iter,[],0⟩] X.env) use) Qf X.xe s:=by
 refine wpAny_comprehension_free (use:=use) (g:=⟨tg,iter,[],0⟩) (gs:=[]) rfl hs hclos hkind hnl (thn (hi.h pins s σ H _ I h) fun v s1 h1=>thn h1 fun itv s2 h2=>?_)
 obtain⟨it,fp,tnn,J,H2,rfl,I2,T,st2,f2,hW⟩:=h2
 have hD:=I2.fresh
 obtain⟨W,⟨m0,w0⟩,turn⟩:=hW _ hD
 refine wpAny_newObj_type (wpAny_newFunctionEnv hcell (by intro y hy;simp at hy) (fun h₁ hns₁ hsb₁=>?_) hkind)
 dsimp only at hns₁ hsb₁ ⊢
 have I3:Inv X pins σ (upd H2 s2.heap.objs.size (.lst [])) { s2 with heap:=s2.heap.push { cls:=.type "list",dict:=none,data:=.seq ([]:List Value).toArray },toks:=s2.toks }:=I2.lnew (its:=[]) .nil (Nat.zero_le _)
 generalize hs3:({ s2 with heap:=s2.heap.push { cls:=.type "list",dict:=none,data:=.seq ([]:List Value).toArray },toks:=s2.toks }:Shared)=s3 at I3
 have es3:s3.heap=s2.heap.push { cls:=.type "list",dict:=none,data:=.seq ([]:List Value).toArray }:=by rw[<-hs3]
 generalize hDD:s2.heap.objs.size=D at *
 have kept:∀b o,s3.heap.get? b=some o->h₁.get? b=some o:=fun b o e=>by
  have lt:=Heap.lt_size e
  rw[es3]at lt e
  exact hsb₁.extBut b o (Nat.ne_of_lt lt) (Heap.get?_push_of_some _ e)
 have old:∀b o,s2.heap.get? b=some o->s3.heap.get? b=some o:=fun b o e=>by rw[es3];exact Heap.get?_push_of_some _ e
 have ltD:∀b∈fp,b<D:=fun b hb=>by
  obtain⟨o,e,_⟩:=T.obj 0 _ st2 b hb
  rw[<-hDD];exact Heap.lt_size e
 have fo:∀b∈fp,b<s3.heap.objs.size:=fun b hb=>by
  obtain⟨o,e,_⟩:=T.obj 0 _ st2 b hb
  exact Heap.lt_size (old _ _ e)
 have f3:∀b∈fp,yC X pins (upd H2 D (.lst [])) b:=fun b hb=>by
  refine⟨?_,(f2 b hb).2⟩
  rw[bN (Nat.ne_of_lt (ltD b hb))]
  exact(f2 b hb).1
 rw[<-es3]at hns₁ hsb₁ ⊢
 have Ic:=fun t'=>Inv.comp (h1:=h₁) (t':=t') (Nc:=Nc) (n:=n) I3 hc f3 fo hkind hcl hhas hcap tn hN hn hns₁ kept
 have stat:∀{H':Hp},(∀b∈fp,H' b=none)->∀b∈fp,yC (cxC X Nc scope cl s3 (upd H2 D (.lst [])) fp) [] H' b:=fun hn' b hb=>by
  refine⟨hn' b hb,Nat.ne_of_lt (fo b hb),fun z=>?_,.inl hb,fun x c e=>(f2 b hb).2.2.2.2.1 x c (hcl.look e),fun p hp=>(by simp at hp)⟩
  rcases List.mem_cons.mp (I3.stkSub b z)with q|q
  ·exact(f2 b hb).2.1 q
  ·exact(f2 b hb).2.2.1 q
 have loop:∀s4:Shared,(∃t',s4={ s3 with heap:=h₁,toks:=t' })->codeAny (model X.prog X.w) X.A (.compLoop (.ListComp elt [⟨tg,iter,[],0⟩] scope pos) 0 (.ref it) (.ref D) (compEnvC scope cl s3.heap.objs.size X.env))
   (compPost (model X.prog X.w) X.A X.xe use Qf (.ref D) s3.heap.objs.size) s4:=by
  rintro s4 ⟨t',rfl⟩
  refine uy (fun n' s'=>∃i σ' H',Inv (cxC X Nc scope cl s3 (upd H2 D (.lst [])) fp) [] σ' H' s'/\tnn i s'.heap/\(∀b∈fp,H' b=none)/\W i n' σ' H') ?_ m0
   ⟨0,_,_,Ic t',T.keep 0 _ _ st2 fun b hb o e=>kept _ _ (old _ _ e),fun b hb=>(f3 b hb).1,w0⟩
  rintro n' s5 ⟨i,σ5,H5,I5,st5,fr5,w5⟩
  rcases turn i n' σ5 H5 w5 with⟨stop,qn⟩|⟨go,N,hN',step⟩
  ·refine thn (T.done (cxC X Nc scope cl s3 (upd H2 D (.lst [])) fp) rfl rfl rfl hc i [] s5 σ5 H5 (fun _ _=>False) I5 (stat fr5) st5 stop) fun r s6 ⟨hr,I6⟩=>?_
   subst hr
   obtain⟨m,hm,_⟩:=I6.loc
   have I7:Inv X pins σ H5 s6:=Inv.call' (ch:=fp) I3 I6.os I6.base I6.hok I6.bare fun b hb=>⟨(f2 b hb).2.2.2.1,(f2 b hb).2.1,(f2 b hb).2.2.2.2.1,(f2 b hb).2.2.2.2.2⟩
   exact hend D _ s6 H5 m I7 hm I6.free (Ne.symm (Nat.ne_of_lt I3.lt)) I3.sz (fun x c e=>by
     obtain⟨v',o,ho,_⟩:=I3.cell x c e
     exact Nat.ne_of_lt (Heap.lt_size ho)) (fun p hp=>Nat.ne_of_lt (Heap.lt_size (I3.pin p hp).1)) qn
  ·refine thn (T.item (cxC X Nc scope cl s3 (upd H2 D (.lst [])) fp) rfl rfl rfl hc i [] s5 σ5 H5 (fun _ _=>False) I5 (stat fr5) st5 go) fun r s6 ⟨u,hr,h6⟩=>?_
   subst hr
   refine thn h6 fun _ s7 hz=>?_
   obtain⟨x,H7,I7,r7,y7,st7,fr7⟩:=hz
   have I7':=I7.pinned (stat fr7) (T.obj _ _ st7)
   refine thn ((hg s3 (upd H2 D (.lst [])) fp).h _ s7 σ5 H7 x u _ I7' r7 (step x H7 y7)) fun _ s8 hz=>?_
   obtain⟨σ8,H8,I8,q8⟩:=hz
   refine thn ((he s3 (upd H2 D (.lst [])) fp).h _ s8 σ8 H8 _ I8 q8) fun v9 s9 hz=>?_
   obtain⟨x9,H9,I9,r9,ys,hy,hlt,q9⟩:=hz
   refine thn (oR (X:=cxC X Nc scope cl s3 (upd H2 D (.lst [])) fp) _ s9 σ8 H9 (.ref D) [x9] (.ref D) [v9] (fun _ H'=>N σ8 H') I9 rfl (.cons r9 .nil) ⟨D,ys,x9,rfl,rfl,hy,hlt,q9⟩) fun _ s10 hz=>?_
   obtain⟨_,H10,I10,_,q10⟩:=hz
   obtain⟨m',hm,w10⟩:=hN' σ8 H10 q10
   refine⟨m',hm,i+1,σ8,H10,I10.unpinned,T.keep _ _ _ st7 fun b hb o e=>(I10.pin (b,o) (List.mem_append_right _ (List.mem_append_right _ (gK hb e)))).1,fun b hb=>?_,w10⟩
   obtain⟨o,e,d⟩:=T.obj _ _ st7 b hb
   exact(I10.pin (b,o) (List.mem_append_right _ (List.mem_append_right _ (gK hb e)))).2.1
 have e4:∀t',({ s2 with heap:=h₁,toks:=t' }:Shared)={ s3 with heap:=h₁,toks:=t' }:=fun t'=>by rw[<-hs3]
 refine codeAny_compStart_list (loop _ ⟨_,e4 _⟩) (T.self _ 0 _ _ _ (T.keep 0 _ _ st2 fun b hb o e=>kept _ _ (old _ _ e)) (loop _ ⟨_,e4 _⟩))
theorem B3{X:Cx}{Nc capN tn:List Str}{scope:Scope}{cl:List (Str×Addr)}{n:Nat}{caps:List Nat}{tg iter elt:Expr}{pos:Pos}{wi:TI}{g:TG}{te:TE}
  (hc:X.calm=true) (hi:WI X tg iter wi) (hg:∀s3 H3 fp,WG (cxC X Nc scope cl s3 H3 fp) tg g) (he:∀s3 H3 fp,WE (cxC X Nc scope cl s3 H3 fp) elt te)
  (hclos:closureFor scope X.env=pure cl) (hkind:scope.kind=.function) (hnl:∀x∈scope.names,x.2=.local->scope.names.lookup x.1=some .local) (hcell:∀x∈scope.names,x.2≠.cell)
  (hcl:xI X.env cl) (hhas:((relabel scope X.env).names.all fun p=>!(p.2 == .cell||p.2 == .free)||(cl.lookup p.1).isSome)=true)
  (hcap:Paired (Cap X scope cl) caps capN) (hN:Nc=tn++capN) (hn:tn.length=n)
  (hs:∀x,foldedSetIterable iter X.env x=pure x:=by intro _;rfl) :
  WE X (.ListComp elt [⟨tg,iter,[],0⟩] scope pos) (Cb wi g te n caps):=by
 constructor
 intro pins s σ H Q I h
 rw[eval_ListComp]
 refine xn hc hi hg he hclos hkind hnl hcell hcl hhas hcap hN hn I h (fun D C s6 H5 m I7 hm fr nl sz cn pn qn=>⟨m,hm,fun h' hs'=>?_⟩) hs
 exact⟨.ref D,H5,I7.turned (t':=s6.toks) (it:=C) (fun b o hb e=>hs'.extBut b o hb e) fr nl (.inr sz) cn pn,rfl,qn⟩
open PySem.AutoSeq1 (wpAny_loadPart')
theorem DX{prog:Program}{w:World}{A:Around}{E:Value->Shared->Prop}{s:Shared}{t b:Addr}{vs ws:List Value}{Q:Value->Shared->Prop}(ht:IsTup s.heap t vs.toArray)(hb:IsTup s.heap b ws.toArray)(hv:vs=[])
  (h1:Q (.ref b) s):wpAny (model prog w) A (binaryOp .Add (.ref t) (.ref b)) Q E s:=by
 obtain⟨⟨cls,dd,data,sl⟩,ho,hc,n,hd⟩:=id ht
 obtain⟨⟨cls2,dd2,data2,sl2⟩,ho2,hc2,n2,hd2⟩:=id hb
 simp only at hc hd hc2 hd2
 subst hc hd hc2 hd2
 exact concat_meets ⟨_,ho,rfl⟩ ⟨_,ho2,rfl⟩ noFill_tuple_add seq_tuple_add PySem.F.slot_tuple_add PySem.F.entry_tuple_add (PySem.F.args_tuple_add_2 _ _)
   (tuple_addW0 t b vs.toArray ws.toArray n n2 dd dd2 sl sl2 (by simp[hv])) ⟨ho,ho2,h1⟩
theorem nz:fillsNumberSlot (.type "tuple") "mul"=pure false:=
 PySem.fillsNumberSlot_seq (id:="tuple.__mul__") (r:=some (.builtin "tuple.__rmul__")) F.slot_tuple_mul.lookup (by decide +kernel) F.slot_tuple_rmul.lookup (by decide +kernel)
theorem tN:seqRepeat? (.type "tuple")=pure (some (.builtin "tuple.__mul__")):=by
 unfold seqRepeat?
 rw[PySem.seqSlot_of (T:="tuple") (name:="__mul__") (id:="tuple.__mul__") F.slot_tuple_mul.lookup (by decide +kernel),PySem.seqSlot_of (T:="tuple") (name:="__rmul__") (id:="tuple.__rmul__") F.slot_tuple_rmul.lookup (by decide +kernel)]
 rfl
theorem pX(a:Int)(t:Tok)(l:Addr)(items:Array Value)(n:Nat)(dd:Option Addr)(sl:Array (Option Value)) :
  Meets (Builtin.«int.__rmul__» ⟨[.int a t,.ref l],[]⟩) (fun _ R s=>s.heap.get? l=some { cls:=.type "tuple",dict:=dd,data:=.seq items n,slots:=sl }/\R (.ok (.ret Value.notImplemented)) s):=
 .of_wp fun prog w A R s h=>by obtain⟨hp,g,d,tk,os⟩:=s;obtain⟨hl,h⟩:=h;wp_walk using wpAny_loadPart' hl;exact⟨_,rfl,h⟩
theorem uP(l:Addr)(items:Array Value)(n:Nat)(dd:Option Addr)(sl:Array (Option Value))(t:Tok) :
  Meets (Builtin.«tuple.__mul__» ⟨[.ref l,.int 1 t],[]⟩) (fun _ R s=>s.heap.get? l=some { cls:=.type "tuple",dict:=dd,data:=.seq items n,slots:=sl }/\R (.ok (.ret (Value.ref l))) s):=
 .of_wp fun prog w A R s h=>by obtain⟨hp,g,d,tk,os⟩:=s;obtain⟨hl,h⟩:=h;have f1:=AutoSeq1.idx_int;wp_walk using wpAny_loadPart' hl;exact⟨_,rfl,h⟩
theorem uO(l:Addr)(items:Array Value)(n:Nat)(dd:Option Addr)(sl:Array (Option Value))(k:Int)(t:Tok)(hc0:¬(decide (k < -2^63)||decide (k≥2^63))=true)(hc1:¬(items.isEmpty||k == 1)=true)(hc2:¬(decide (k<=0)||items.isEmpty)=true)
  (hc3:¬((items.size:Int)*k>(2^63-1) / 8)) (hc4:¬Builtin.Tuple.tupleTooMany ((items.size:Int)*k)=true) (hz:(List.foldl (fun x1 x2=>x1++x2) #[] (List.replicate k.toNat items)).size<=sizeLine) :
  Meets (Builtin.«tuple.__mul__» ⟨[.ref l,.int k t],[]⟩) (fun _ R s=>s.heap.get? l=some { cls:=.type "tuple",dict:=dd,data:=.seq items n,slots:=sl }/\
   R (.ok (.ret (Value.ref s.heap.objs.size))) { s with heap:=s.heap.push { cls:=Value.type "tuple",data:=Data.seq (List.foldl (fun x1 x2=>x1++x2) #[] (List.replicate k.toNat items)) } }):=
 .of_wp fun prog w A R s h=>by
  obtain⟨hp,g,d,tk,os⟩:=s
  obtain⟨hl,h⟩:=h
  have f1:=AutoSeq1.idx_int
  have g0:(decide (k < -2^63)||decide (k≥2^63))=false:=by simpa using hc0
  have g1:(items.isEmpty||k == 1)=false:=by simpa using hc1
  have g2:(decide (k<=0)||items.isEmpty)=false:=by simpa using hc2
  have g4:Builtin.Tuple.tupleTooMany ((items.size:Int)*k)=false:=by simpa using hc4
  wp_walk using wpAny_loadPart' hl
  refine PySem.W.KFB.if_not g0 ?_
  wp_walk using wpAny_loadPart' hl
  try (refine PySem.W.KFB.if_not g1 ?_;wp_walk using wpAny_loadPart' hl)
  try (refine PySem.W.KFB.if_not g2 ?_;wp_walk using wpAny_loadPart' hl)
  try (rw[if_neg hc3];wp_walk using wpAny_loadPart' hl)
  try (refine PySem.W.KFB.if_not g4 ?_;wp_walk using wpAny_loadPart' hl)
  try (refine wpAny_ite_false (decide_eq_false (Nat.not_lt.mpr hz)) ?_;wp_walk)
  exact⟨_,rfl,h⟩
structure NX(H:Hp)(p xs:Addr):Prop where
 ex:∃(ns:List Int) (at' cur:Int),H p=some (.lst [.ref xs,.int at',.int cur])/\H xs=some (.lst (ns.map V.int))/\xs≠p/\0<=at'/\0<=cur
def Er(K:PySem.W.Frag):Sp:=fun vs H Q _=>∃(a:Addr) (ns:List Int),vs=[.ref a]/\SqL K H a (ns.map V.int)/\∀(q xs:Addr) (H':Hp),sx H H'->NX H' q xs->H q=none->Q (.ref q) H'
theorem Ad{m:Int}(h0:0<=m)(h:m<2^60):m.natAbs.log2<9000:=by
 have:=x5 (n:=m.natAbs) (by omega)
 omega
end OG
namespace OP
open PySem PySem.Spec PyProof.Rows L2 OG
inductive U where
 |non|bl (b:Bool)|int (i:Int)|str (x:Str)|tup (us:List U)|ref (l:Nat)|kl (ns:List Int)
structure Cl where
 C:Addr
 ns:List Str
inductive O where
 |lst (us:List U)|dic (kvs:List (Key×U))|ins (c:Cl) (fs:List (Option U))|fdc (ep:Nat) (kvs:List (Key×U))|dit (kvs:List (List Key×U))|fdt (ep:Nat) (kvs:List (List Key×U))
abbrev Sto:=List O
abbrev Rho:=List (Option U)
def KL(K:PySem.W.Frag)(H:Hp)(a:Addr)(ns:List Int):Prop:=
 (∃o,H a=some (.frz o (.lst (ns.map V.int))))\/
  ∃(o:Obj) (its:Array Value) (n:Nat),K.lookup a=some o/\o.cls=.type "list"/\o.dict=none/\o.data=.seq its n/\its.size<=sizeLine/\cE (ns.map V.int) its.toList
theorem KL.sq{K:PySem.W.Frag}{H:Hp}{a:Addr}{ns:List Int}(h:KL K H a ns):SqL K H a (ns.map V.int):=by
 rcases h with h|h
 ·exact .inl (.inr h)
 ·exact .inr h
mutual
def Is(K:PySem.W.Frag)(m:List Addr)(H:Hp):V->U->Prop
 |v,.non=>v=.non
 |v,.bl b=>v=.bl b
 |v,.int i=>v=.int i
 |v,.str x=>v=.str x
 |v,.tup us=>∃a xs,v=.ref a/\SqT K H a xs/\IsL K m H xs us
 |v,.ref l=>∃a,m[l]?=some a/\v=.ref a
 |v,.kl ns=>∃a,v=.ref a/\KL K H a ns
def IsL(K:PySem.W.Frag)(m:List Addr)(H:Hp):List V->List U->Prop
 |xs,[]=>xs=[]
 |xs,u::us=>∃x r,xs=x::r/\Is K m H x u/\IsL K m H r us
end
structure D7(K:PySem.W.Frag)(H H':Hp):Prop where
 t:∀a xs,SqT K H a xs->SqT K H' a xs
 l:∀a ns,KL K H a ns->KL K H' a ns
structure Ext(K:PySem.W.Frag)(m:List Addr)(H:Hp)(m':List Addr)(H':Hp):Prop where
 pre:∃t,m'=m++t
 keep:D7 K H H'
section
variable{K:PySem.W.Frag}{m m' m'':List Addr}{H H' H'':Hp}{v x:V}{u:U}{xs ys:List V}{us ws:List U}{a q:Addr}{o:HO}
theorem Ext.refl:Ext K m H m H:=⟨⟨[],by simp⟩,fun _ _ h=>h,fun _ _ h=>h⟩
theorem Ext.trans(a:Ext K m H m' H')(b:Ext K m' H' m'' H''):Ext K m H m'' H'':=by
 obtain⟨t,rfl⟩:=a.pre
 obtain⟨t',rfl⟩:=b.pre
 exact⟨⟨t++t',by simp⟩,fun c ys h=>b.keep.t c ys (a.keep.t c ys h),fun c ys h=>b.keep.l c ys (a.keep.l c ys h)⟩
theorem Ext.of(k:D7 K H H'):Ext K m H m H':=⟨⟨[],by simp⟩,k⟩
theorem Ext.new(k:D7 K H H'):Ext K m H (m++[q]) H':=⟨⟨[q],rfl⟩,k⟩
theorem Ext.get{l:Nat}(e:Ext K m H m' H')(h:m[l]?=some a):m'[l]?=some a:=by
 obtain⟨t,rfl⟩:=e.pre
 rw[List.getElem?_append_left (List.getElem?_eq_some_iff.mp h).1]
 exact h
mutual
theorem Is.mono(e:Ext K m H m' H'):∀{v:V} {u:U},Is K m H v u->Is K m' H' v u
 |v,.non,h=>by unfold Is at h ⊢;exact h
 |v,.bl b,h=>by unfold Is at h ⊢;exact h
 |v,.int i,h=>by unfold Is at h ⊢;exact h
 |v,.str x,h=>by unfold Is at h ⊢;exact h
 |v,.tup us,h=>by
  unfold Is at h ⊢
  obtain⟨a,xs,e1,k,l⟩:=h
  exact⟨a,xs,e1,e.keep.t _ _ k,IsL.mono e l⟩
 |v,.ref l,h=>by
  unfold Is at h ⊢
  obtain⟨a,k,e1⟩:=h
  exact⟨a,e.get k,e1⟩
 |v,.kl ns,h=>by
  unfold Is at h ⊢
  obtain⟨a,e1,k⟩:=h
  exact⟨a,e1,e.keep.l _ _ k⟩
theorem IsL.mono(e:Ext K m H m' H'):∀{xs:List V} {us:List U},IsL K m H xs us->IsL K m' H' xs us
 |xs,[],h=>by unfold IsL at h ⊢;exact h
 |xs,u::us,h=>by
  unfold IsL at h ⊢
  obtain⟨x,r,e1,k,l⟩:=h
  exact⟨x,r,e1,Is.mono e k,IsL.mono e l⟩
end
theorem Is.int_{i:Int}:Is K m H (.int i) (.int i):=by unfold Is;rfl
theorem Is.bl_{b:Bool}:Is K m H (.bl b) (.bl b):=by unfold Is;rfl
theorem Is.non_:Is K m H .non .non:=by unfold Is;rfl
theorem Is.str_{x:Str}:Is K m H (.str x) (.str x):=by unfold Is;rfl
theorem Is.of_int{i:Int}(h:Is K m H v (.int i)):v=.int i:=by unfold Is at h;exact h
theorem Is.of_bl{b:Bool}(h:Is K m H v (.bl b)):v=.bl b:=by unfold Is at h;exact h
theorem Is.of_non(h:Is K m H v .non):v=.non:=by unfold Is at h;exact h
theorem Is.of_str{x:Str}(h:Is K m H v (.str x)):v=.str x:=by unfold Is at h;exact h
theorem Is.of_tup(h:Is K m H v (.tup us)):∃a xs,v=.ref a/\SqT K H a xs/\IsL K m H xs us:=by unfold Is at h;exact h
theorem Is.of_ref{l:Nat}(h:Is K m H v (.ref l)):∃a,m[l]?=some a/\v=.ref a:=by unfold Is at h;exact h
theorem Is.of_kl{ns:List Int}(h:Is K m H v (.kl ns)):∃a,v=.ref a/\KL K H a ns:=by unfold Is at h;exact h
theorem Is.tup_(e:SqT K H a xs)(h:IsL K m H xs us):Is K m H (.ref a) (.tup us):=by unfold Is;exact⟨a,xs,rfl,e,h⟩
theorem Is.ref_{l:Nat}(e:m[l]?=some a):Is K m H (.ref a) (.ref l):=by unfold Is;exact⟨a,e,rfl⟩
theorem IsL.nil_:IsL K m H [] []:=by unfold IsL;rfl
theorem IsL.cons_(h:Is K m H x u)(t:IsL K m H xs us):IsL K m H (x::xs) (u::us):=by unfold IsL;exact⟨x,xs,rfl,h,t⟩
theorem IsL.of_nil(h:IsL K m H xs []):xs=[]:=by unfold IsL at h;exact h
theorem IsL.of_cons(h:IsL K m H xs (u::us)):∃x r,xs=x::r/\Is K m H x u/\IsL K m H r us:=by unfold IsL at h;exact h
theorem IsL.length:∀{xs:List V} {us:List U},IsL K m H xs us->xs.length=us.length
 |xs,[],h=>by rw[h.of_nil];rfl
 |xs,d::ds,h=>by
  obtain⟨x,r,rfl,_,t⟩:=h.of_cons
  rw[List.length_cons,List.length_cons,IsL.length t]
theorem IsL.getD:∀{xs:List V} {us:List U} {i:Nat} {u:U},IsL K m H xs us->us[i]?=some u->∃x,xs[i]?=some x/\Is K m H x u
 |xs,[],i,x,h,e=>by simp at e
 |xs,d::ds,0,x,h,e=>by
  obtain⟨y,r,rfl,k,t⟩:=h.of_cons
  simp at e;subst e;exact⟨y,by simp,k⟩
 |xs,d::ds,i+1,x,h,e=>by
  obtain⟨y,r,rfl,k,t⟩:=h.of_cons
  obtain⟨d',e1,e2⟩:=IsL.getD (i:=i) (u:=x) t (by simpa using e)
  exact⟨d',by simpa using e1,e2⟩
theorem IsL.append:∀{xs:List V} {us:List U},IsL K m H xs us->IsL K m H ys ws->IsL K m H (xs++ys) (us++ws)
 |xs,[],h,k=>by rw[h.of_nil];exact k
 |xs,d::ds,h,k=>by
  obtain⟨y,r,rfl,z,t⟩:=h.of_cons
  exact .cons_ z (IsL.append t k)
theorem IsL.set:∀{xs:List V} {us:List U} {j:Nat},IsL K m H xs us->Is K m H x u->IsL K m H (xs.set j x) (us.set j u)
 |xs,[],j,h,k=>by rw[h.of_nil];exact .nil_
 |xs,d::ds,0,h,k=>by
  obtain⟨y,r,rfl,z,t⟩:=h.of_cons
  exact .cons_ k t
 |xs,d::ds,j+1,h,k=>by
  obtain⟨y,r,rfl,z,t⟩:=h.of_cons
  exact .cons_ z (IsL.set t k)
theorem IsL.drop:∀{xs:List V} {us:List U} (n:Nat),IsL K m H xs us->IsL K m H (xs.drop n) (us.drop n)
 |xs,us,0,h=>h
 |xs,[],n+1,h=>by rw[h.of_nil];exact .nil_
 |xs,d::ds,n+1,h=>by
  obtain⟨y,r,rfl,z,t⟩:=h.of_cons
  exact IsL.drop n t
theorem IsL.take:∀{xs:List V} {us:List U} (n:Nat),IsL K m H xs us->IsL K m H (xs.take n) (us.take n)
 |xs,us,0,h=>.nil_
 |xs,[],n+1,h=>by rw[h.of_nil];exact .nil_
 |xs,d::ds,n+1,h=>by
  obtain⟨y,r,rfl,z,t⟩:=h.of_cons
  exact .cons_ z (IsL.take n t)
theorem IsL.erase:∀{xs:List V} {us:List U} (n:Nat),IsL K m H xs us->IsL K m H (xs.eraseIdx n) (us.eraseIdx n)
 |xs,[],n,h=>by rw[h.of_nil];exact .nil_
 |xs,d::ds,0,h=>by
  obtain⟨y,r,rfl,z,t⟩:=h.of_cons
  exact t
 |xs,d::ds,n+1,h=>by
  obtain⟨y,r,rfl,z,t⟩:=h.of_cons
  exact .cons_ z (IsL.erase n t)
theorem IsL.rep:∀(n:Nat),IsL K m H xs us->IsL K m H (List.replicate n xs).flatten (List.replicate n us).flatten
 |0,h=>.nil_
 |n+1,h=>by
  rw[List.replicate_succ,List.replicate_succ,List.flatten_cons,List.flatten_cons]
  exact h.append (IsL.rep n h)
theorem wY(h:H a=some o)(nt:∀xs,o≠.tup xs)(nf:∀ob xs,o≠.frz ob (.tup xs))(nl:∀ob xs,o≠.frz ob (.lst xs))(o':HO):D7 K H (upd H a o'):=by
 refine⟨fun b xs q=>?_,fun b ns q=>?_⟩
 ·rcases q with(q|⟨ob,q⟩)|q
  ·have n:b≠a:=fun z=>by subst z;rw[q]at h;cases h;exact nt _ rfl
   exact .inl (.inl (by rw[bN n];exact q))
  ·have n:b≠a:=fun z=>by subst z;rw[q]at h;cases h;exact nf _ _ rfl
   exact .inl (.inr ⟨ob,by rw[bN n];exact q⟩)
  ·exact .inr q
 ·rcases q with⟨ob,q⟩|q
  ·have n:b≠a:=fun z=>by subst z;rw[q]at h;cases h;exact nl _ _ rfl
   exact .inl ⟨ob,by rw[bN n];exact q⟩
  ·exact .inr q
theorem fh(s:sx H H'):D7 K H H':=by
 refine⟨fun b xs q=>?_,fun b ns q=>?_⟩
 ·rcases q with(q|⟨ob,q⟩)|q
  ·exact .inl (.inl (s _ _ q))
  ·exact .inl (.inr ⟨ob,s _ _ q⟩)
  ·exact .inr q
 ·rcases q with⟨ob,q⟩|q
  ·exact .inl ⟨ob,s _ _ q⟩
  ·exact .inr q
theorem cT(h:H q=none)(o':HO):D7 K H (upd H q o'):=fh (dW h o')
end
def IsP{κ:Type}(K:PySem.W.Frag)(m:List Addr)(H:Hp)(kvs:List (κ×V))(kus:List (κ×U)):Prop:=kvs.map (·.1)=kus.map (·.1)/\IsL K m H (kvs.map (·.2)) (kus.map (·.2))
def Rf(K:PySem.W.Frag)(m:List Addr)(H:Hp):Option V->Option U->Prop
 |some v,some u=>Is K m H v u
 |none,none=>True
 |_,_=>False
structure InF(K:PySem.W.Frag)(m:List Addr)(H:Hp)(c:Cl)(fs:List (Str×V))(fus:List (Option U)):Prop where
 nd:c.ns.Nodup
 few:c.ns.length<1000
 knd:(fs.map (·.1)).Nodup
 sub:∀x∈fs.map (·.1),x∈c.ns
 len:fus.length=c.ns.length
 at_:∀(i:Nat) (x:Str),c.ns[i]?=some x->Rf K m H (fs.lookup x) ((fus[i]?).join)
theorem Rf.mono{K:PySem.W.Frag}{m m':List Addr}{H H':Hp}{v:Option V}{u:Option U}(e:Ext K m H m' H')(h:Rf K m H v u):Rf K m' H' v u:=by
 cases v with
 |none=>cases u with
  |none=>trivial
  |some u=>exact h.elim
 |some v=>cases u with
  |none=>exact h.elim
  |some u=>exact Is.mono e h
theorem InF.mono{K:PySem.W.Frag}{m m':List Addr}{H H':Hp}{c:Cl}{fs:List (Str×V)}{fus:List (Option U)}(e:Ext K m H m' H')(h:InF K m H c fs fus):InF K m' H' c fs fus:=⟨h.nd,h.few,h.knd,h.sub,h.len,fun i x q=>(h.at_ i x q).mono e⟩
def Ob(K:PySem.W.Frag)(m:List Addr)(H:Hp)(a:Addr):O->Prop
 |.lst us=>∃xs,H a=some (.lst xs)/\IsL K m H xs us
 |.dic kus=>∃kvs,H a=some (.dK kvs)/\IsP K m H kvs kus
 |.ins c fus=>∃dx fs,H a=some (.ins c.C dx fs)/\InF K m H c fs fus
 |.fdc ep kus=>∃ob es kvs,H a=some (.frz ob (.dK kvs))/\ob.data=.dict es ep/\IsP K m H kvs kus
 |.dit kus=>∃kvs,H a=some (.dT kvs)/\IsP K m H kvs kus
 |.fdt ep kus=>∃ob es kvs,H a=some (.frz ob (.dT kvs))/\ob.data=.dict es ep/\IsP K m H kvs kus
structure Sr(K:PySem.W.Frag)(m:List Addr)(S:Sto)(H:Hp):Prop where
 len:m.length=S.length
 nd:m.Nodup
 ob:∀(l:Nat) (a:Addr) (o:O),m[l]?=some a->S[l]?=some o->Ob K m H a o
structure Lr(K:PySem.W.Frag)(m:List Addr)(H:Hp)(ρ:Rho)(σ:L2.St):Prop where
 len:ρ.length=σ.length
 at_:∀(i:Nat) (u:U),ρ[i]?=some (some u)->∃v,σ[i]?=some (some v)/\Is K m H v u
section
variable{κ:Type}{K:PySem.W.Frag}{m m':List Addr}{H H':Hp}{S S':Sto}{ρ:Rho}{σ:L2.St}{a q:Addr}{l:Nat}{o:O}{ho:HO}{us:List U}{v:V}{u:U}{kvs:List (κ×V)}{kus:List (κ×U)}
theorem IsP.mono(e:Ext K m H m' H')(h:IsP K m H kvs kus):IsP K m' H' kvs kus:=⟨h.1,h.2.mono e⟩
theorem IsP.length(h:IsP K m H kvs kus):kvs.length=kus.length:=by have:=h.2.length;simpa using this
theorem IsP.nil_:IsP (κ:=κ) K m H [] []:=⟨rfl,.nil_⟩
theorem IsP.cons_{k:κ}(h:Is K m H v u)(t:IsP K m H kvs kus):IsP K m H ((k,v)::kvs) ((k,u)::kus):=⟨by simp[t.1],.cons_ h t.2⟩
theorem IsP.ind{P:List (κ×V)->List (κ×U)->Prop}(h0:P [] [])(h1:∀k v u kvs kus,Is K m H v u->IsP K m H kvs kus->P kvs kus->P ((k,v)::kvs) ((k,u)::kus)):∀{kvs:List (κ×V)} {kus:List (κ×U)},IsP K m H kvs kus->P kvs kus
 |[],[],_=>h0
 |[],p::r,h=>by have:=h.length;simp at this
 |p::r,[],h=>by have:=h.length;simp at this
 |(k,v)::r,(k',u)::r',h=>by
  obtain⟨e,i⟩:=h
  simp only[List.map_cons,List.cons.injEq]at e
  obtain⟨e1,e2⟩:=e
  subst e1
  obtain⟨x,t,e3,iu,it⟩:=i.of_cons
  cases e3
  exact h1 k v u r r' iu ⟨e2,it⟩ (IsP.ind h0 h1 (⟨e2,it⟩:IsP K m H r r'))
theorem Ob.mono(e:Ext K m H m' H')(h1:H' a=H a)(h:Ob K m H a o):Ob K m' H' a o:=by
 cases o with
 |lst us=>obtain⟨xs,k,i⟩:=h;exact⟨xs,h1.trans k,i.mono e⟩
 |dic kus=>obtain⟨xs,k,i⟩:=h;exact⟨xs,h1.trans k,i.mono e⟩
 |ins C fus=>obtain⟨dx,fs,k,i⟩:=h;exact⟨dx,fs,h1.trans k,i.mono e⟩
 |fdc ep kus=>obtain⟨ob,es,kvs,k,d,i⟩:=h;exact⟨ob,es,kvs,h1.trans k,d,i.mono e⟩
 |dit kus=>obtain⟨xs,k,i⟩:=h;exact⟨xs,h1.trans k,i.mono e⟩
 |fdt ep kus=>obtain⟨ob,es,kvs,k,d,i⟩:=h;exact⟨ob,es,kvs,h1.trans k,d,i.mono e⟩
theorem Ob.some(h:Ob K m H a o):∃ho,H a=some ho/\(∀xs,ho≠.tup xs)/\(∀ob xs,ho≠.frz ob (.tup xs))/\(∀ob xs,ho≠.frz ob (.lst xs)):=by
 cases o with
 |lst us=>obtain⟨xs,k,i⟩:=h;exact⟨_,k,by simp,by simp,by simp⟩
 |dic kus=>obtain⟨xs,k,i⟩:=h;exact⟨_,k,by simp,by simp,by simp⟩
 |ins C fus=>obtain⟨dx,fs,k,i⟩:=h;exact⟨_,k,by simp,by simp,by simp⟩
 |fdc ep kus=>obtain⟨ob,es,kvs,k,d,i⟩:=h;exact⟨_,k,by simp,by simp,by simp⟩
 |dit kus=>obtain⟨xs,k,i⟩:=h;exact⟨_,k,by simp,by simp,by simp⟩
 |fdt ep kus=>obtain⟨ob,es,kvs,k,d,i⟩:=h;exact⟨_,k,by simp,by simp,by simp⟩
theorem Lr.mono(e:Ext K m H m' H')(h:Lr K m H ρ σ):Lr K m' H' ρ σ:=⟨h.len,fun i u e1=>let ⟨v,e2,e3⟩:=h.at_ i u e1;⟨v,e2,e3.mono e⟩⟩
theorem Lr.set(h:Lr K m H ρ σ)(i:Nat)(hv:Is K m H v u):Lr K m H (ρ.set i (some u)) (σ.set i (some v)):=by
 refine⟨by simp[h.len],fun j w e=>?_⟩
 by_cases c:i=j
 ·subst c
  rw[List.getElem?_set_self' ]at e
  rw[List.getElem?_set_self']
  have hl:=h.len
  cases e1:ρ[i]? with
  |none=>rw[e1]at e;simp at e
  |some z=>
   rw[e1]at e
   simp at e
   subst e
   have:i < σ.length:=by rw[<-hl];exact(List.getElem?_eq_some_iff.mp e1).1
   rw[List.getElem?_eq_getElem this]
   exact⟨v,rfl,hv⟩
 ·rw[List.getElem?_set_ne c]at e
  rw[List.getElem?_set_ne c]
  exact h.at_ j w e
theorem Sr.get(r:Sr K m S H)(h:S[l]?=some o):∃a,m[l]?=some a/\Ob K m H a o:=by
 have hl:l<m.length:=by rw[r.len];exact(List.getElem?_eq_some_iff.mp h).1
 exact⟨_,List.getElem?_eq_getElem hl,r.ob _ _ _ (List.getElem?_eq_getElem hl) h⟩
theorem Sr.at_(r:Sr K m S H)(h:m[l]?=some a):∃o,S[l]?=some o/\Ob K m H a o:=by
 have hl:l<S.length:=by rw[<-r.len];exact(List.getElem?_eq_some_iff.mp h).1
 exact⟨_,List.getElem?_eq_getElem hl,r.ob _ _ _ h (List.getElem?_eq_getElem hl)⟩
theorem Sr.same(r:Sr K m S H)(s:sx H H'):Sr K m S H':=⟨r.len,r.nd,fun l a o h1 h2=>by
 have q:=r.ob l a o h1 h2
 obtain⟨ho,e,_⟩:=q.some
 exact q.mono (.of (fh s)) (by rw[s _ _ e,e])⟩
theorem Sr.new(r:Sr K m S H)(h:H q=none)(n:Ob K (m++[q]) (upd H q ho) q o):Sr K (m++[q]) (S++[o]) (upd H q ho):=by
 have hq:q∉m:=fun z=>by
  obtain⟨l,e⟩:=List.getElem?_of_mem z
  obtain⟨o,_,k⟩:=r.at_ e
  obtain⟨ho,e2,_⟩:=k.some
  rw[h]at e2;cases e2
 refine⟨by simp[r.len],?_,fun l a o' h1 h2=>?_⟩
 ·rw[List.nodup_append]
  exact⟨r.nd,by simp,fun x hx y hy z=>by simp at hy;subst hy;subst z;exact hq hx⟩
 ·by_cases c:l<m.length
  ·rw[List.getElem?_append_left c]at h1
   rw[List.getElem?_append_left (by rw[<-r.len];exact c)]at h2
   have q':=r.ob l a o' h1 h2
   obtain⟨ho',e,_⟩:=q'.some
   exact q'.mono (.new (cT h _)) (by rw[bN (dD e h)])
  ·have e:l=m.length:=by
    have:=(List.getElem?_eq_some_iff.mp h1).1
    simp at this;omega
   subst e
   rw[List.getElem?_append_right (Nat.le_refl _)]at h1
   rw[List.getElem?_append_right (by rw[r.len];exact Nat.le_refl _)]at h2
   simp[r.len]at h1 h2
   subst h1;subst h2
   exact n
theorem Sr.put(r:Sr K m S H)(h:m[l]?=some a)(n:Ob K m (upd H a ho) a o):Sr K m (S.set l o) (upd H a ho):=by
 obtain⟨o0,h0,k0⟩:=r.at_ h
 obtain⟨ho',e,nt,nf,nl⟩:=k0.some
 refine⟨by simp[r.len],r.nd,fun l' a' o' h1 h2=>?_⟩
 by_cases c:l=l'
 ·subst c
  rw[h]at h1;cases h1
  rw[List.getElem?_set_self (List.getElem?_eq_some_iff.mp h0).1]at h2
  cases h2
  exact n
 ·rw[List.getElem?_set_ne c]at h2
  have na:a'≠a:=fun z=>by
   subst z
   obtain⟨p1,e1⟩:=List.getElem?_eq_some_iff.mp h
   obtain⟨p2,e2⟩:=List.getElem?_eq_some_iff.mp h1
   exact c ((List.getElem_inj r.nd).mp (e1.trans e2.symm))
  exact(r.ob l' a' o' h1 h2).mono (.of (wY e nt nf nl _)) (by rw[bN na])
theorem Sr.keep(r:Sr K m S H)(h:m[l]?=some a)(ho:HO):D7 K H (upd H a ho):=by
 obtain⟨o0,h0,k0⟩:=r.at_ h
 obtain⟨ho',e,nt,nf,nl⟩:=k0.some
 exact wY e nt nf nl _
end
def lN(K:PySem.W.Frag)(m:List Addr)(H:Hp)(Q:VK)(u:U)(S':Sto):Prop:=∀m' v H',Ext K m H m' H'->Sr K m' S' H'->Is K m' H' v u->Q v H'
abbrev CE:=Rho->Sto->Option (U×Sto)
abbrev CT:=Rho->Sto->Option (Bool×Sto)
abbrev CA:=Rho->Sto->Option (List U×Sto)
inductive Out where
 |nx|rt (u:U)|bk|ct
abbrev CS:=Rho->Sto->Option (Out×Rho×Sto)
def D5(K:PySem.W.Frag)(m:List Addr)(H:Hp)(Q:Bool->Hp->Prop)(b:Bool)(S':Sto):Prop:=∀m' H',Ext K m H m' H'->Sr K m' S' H'->Q b H'
def Nh(K:PySem.W.Frag)(m:List Addr)(H:Hp)(Q:List V->Hp->Prop)(us:List U)(S':Sto):Prop:=∀m' vs H',Ext K m H m' H'->Sr K m' S' H'->IsL K m' H' vs us->Q vs H'
def js(K:PySem.W.Frag)(m:List Addr)(H:Hp)(Q:L2.St->Hp->Prop)(ρ':Rho)(S':Sto):Prop:=∀m' σ' H',Ext K m H m' H'->Sr K m' S' H'->Lr K m' H' ρ' σ'->Q σ' H'
def yw(K:PySem.W.Frag)(m:List Addr)(H:Hp)(D:BN):Out->Rho->Sto->Prop
 |.nx,ρ',S'=>js K m H D.nx ρ' S'
 |.bk,ρ',S'=>js K m H D.bk ρ' S'
 |.ct,ρ',S'=>js K m H D.ct ρ' S'
 |.rt u,_,S'=>lN K m H D.rt u S'
theorem nB{α β γ δ ε:Type}{A B C D:α->β->γ->δ->ε->Prop}{p:Prop}(h:∃a b c d e,A a b c d e/\B a b c d e/\C a b c d e/\D a b c d e)(f:∀a b c d e,A a b c d e->B a b c d e->C a b c d e->D a b c d e->p):p:=by
 obtain⟨a,b,c,d,e,h1,h2,h3,h4⟩:=h
 exact f a b c d e h1 h2 h3 h4
theorem yl{α β γ δ ε ζ:Type}{A B C D:α->β->γ->δ->ε->ζ->Prop}{p:Prop}(h:∃a b c d e g,A a b c d e g/\B a b c d e g/\C a b c d e g/\D a b c d e g)(f:∀a b c d e g,A a b c d e g->B a b c d e g->C a b c d e g->D a b c d e g->p):p:=by
 obtain⟨a,b,c,d,e,g,h1,h2,h3,h4⟩:=h
 exact f a b c d e g h1 h2 h3 h4
theorem NU{α β γ δ ε ζ:Type}{A B C D E:α->β->γ->δ->ε->ζ->Prop}{p:Prop}(h:∃a b c d e g,A a b c d e g/\B a b c d e g/\C a b c d e g/\D a b c d e g/\E a b c d e g)(f:∀a b c d e g,A a b c d e g->B a b c d e g->C a b c d e g->D a b c d e g->E a b c d e g->p):p:=by
 obtain⟨a,b,c,d,e,g,h1,h2,h3,h4,h5⟩:=h
 exact f a b c d e g h1 h2 h3 h4 h5
def tE(K:PySem.W.Frag)(c:CE):TE:=fun σ H Q=>∃m ρ S u S',Sr K m S H/\Lr K m H ρ σ/\c ρ S=some (u,S')/\lN K m H Q u S'
def tT(K:PySem.W.Frag)(c:CT):TT:=fun σ H Q=>∃m ρ S u S',Sr K m S H/\Lr K m H ρ σ/\c ρ S=some (u,S')/\D5 K m H Q u S'
def tA(K:PySem.W.Frag)(c:CA):TA:=fun σ H Q=>∃m ρ S u S',Sr K m S H/\Lr K m H ρ σ/\c ρ S=some (u,S')/\Nh K m H Q u S'
def tS(K:PySem.W.Frag)(c:CS):TS:=fun D σ H=>∃m ρ S o ρ' S',Sr K m S H/\Lr K m H ρ σ/\c ρ S=some (o,ρ',S')/\yw K m H D o ρ' S'
abbrev QE(X:Cx)(e:Expr)(c:CE):Prop:=WE X e (tE X.K c)
abbrev QT(X:Cx)(e:Expr)(c:CT):Prop:=WT X e (tT X.K c)
abbrev QW(X:Cx)(e:Expr)(c:CT):Prop:=WW X e (tT X.K c)
abbrev QS(X:Cx)(e:Stmt)(c:CS):Prop:=WS X e (tS X.K c)
abbrev QSs(X:Cx)(e:List Stmt)(c:CS):Prop:=WSs X e (tS X.K c)
structure QA(X:Cx)(es:List Expr)(c:CA):Prop where
 h:WA X es (tA X.K c)
 len:∀ρ S us S',c ρ S=some (us,S')->us.length=es.length
section
variable{X:Cx}{e:Expr}{es:List Expr}{st:Stmt}{sts:List Stmt}
theorem _root_.OG.WE.imp{t t':TE}(h:WE X e t)(i:∀σ H Q,t' σ H Q->t σ H Q):WE X e t':=⟨fun pins s σ H Q I k=>h.h pins s σ H Q I (i σ H Q k)⟩
theorem _root_.OG.WT.imp{t t':TT}(h:WT X e t)(i:∀σ H Q,t' σ H Q->t σ H Q):WT X e t':=⟨fun pins s σ H Q I k=>h.h pins s σ H Q I (i σ H Q k)⟩
theorem _root_.OG.WW.imp{t t':TT}(h:WW X e t)(i:∀σ H Q,t' σ H Q->t σ H Q):WW X e t':=⟨fun wh pins s σ H Q I k=>h.h wh pins s σ H Q I (i σ H Q k)⟩
theorem _root_.OG.WA.imp{t t':TA}(h:WA X es t)(i:∀σ H Q,t' σ H Q->t σ H Q):WA X es t':=⟨fun pos pins s σ H Q I k=>h.h pos pins s σ H Q I (i σ H Q k)⟩
theorem _root_.OG.WS.imp{t t':TS}(h:WS X st t)(i:∀D σ H,t' D σ H->t D σ H):WS X st t':=⟨fun pins s σ H D I k=>h.h pins s σ H D I (i D σ H k)⟩
theorem _root_.OG.WSs.imp{t t':TS}(h:WSs X sts t)(i:∀D σ H,t' D σ H->t D σ H):WSs X sts t':=⟨fun pins s σ H D I k=>h.h pins s σ H D I (i D σ H k)⟩
theorem _root_.OG.WI.imp{tg:Expr}{t t':TI}(h:WI X tg e t)(i:∀σ H R,t' σ H R->t σ H R):WI X tg e t':=⟨fun pins s σ H R I k=>h.h pins s σ H R I (i σ H R k)⟩
theorem _root_.OG.WG.imp{t t':TG}(h:WG X e t)(i:∀v σ H Q,t' v σ H Q->t v σ H Q):WG X e t':=⟨fun pins s σ H v u Q I r k=>h.h pins s σ H v u Q I r (i v σ H Q k)⟩
theorem _root_.OG.WGs.imp{t t':TGs}(h:WGs X es t)(i:∀v σ H Q,t' v σ H Q->t v σ H Q):WGs X es t':=⟨fun pins s σ H v u Q I r k=>h.h pins s σ H v u Q I r (i v σ H Q k)⟩
theorem _root_.OG.WE.or{t t':TE}(h:WE X e t)(h':WE X e t'):WE X e (fun σ H Q=>t σ H Q\/t' σ H Q):=⟨fun pins s σ H Q I k=>k.elim (h.h pins s σ H Q I) (h'.h pins s σ H Q I)⟩
theorem _root_.OG.WT.or{t t':TT}(h:WT X e t)(h':WT X e t'):WT X e (fun σ H Q=>t σ H Q\/t' σ H Q):=⟨fun pins s σ H Q I k=>k.elim (h.h pins s σ H Q I) (h'.h pins s σ H Q I)⟩
theorem _root_.OG.WS.or{t t':TS}(h:WS X st t)(h':WS X st t'):WS X st (fun D σ H=>t D σ H\/t' D σ H):=⟨fun pins s σ H D I k=>k.elim (h.h pins s σ H D I) (h'.h pins s σ H D I)⟩
theorem _root_.OG.WI.or{tg:Expr}{t t':TI}(h:WI X tg e t)(h':WI X tg e t'):WI X tg e (fun σ H D=>t σ H D\/t' σ H D):=⟨fun pins s σ H D I k=>k.elim (h.h pins s σ H D I) (h'.h pins s σ H D I)⟩
end
section
variable{K:PySem.W.Frag}{m m':List Addr}{H H':Hp}{Q:VK}{R:L2.St->Hp->Prop}{D:BN}{u:U}{o:Out}{S':Sto}{ρ':Rho}
theorem lN.mono(e:Ext K m H m' H')(p:lN K m H Q u S'):lN K m' H' Q u S':=fun m2 v H2 e2 r i=>p m2 v H2 (e.trans e2) r i
theorem D5.mono{Q:Bool->Hp->Prop}{b:Bool}(e:Ext K m H m' H')(p:D5 K m H Q b S'):D5 K m' H' Q b S':=fun m2 H2 e2 r=>p m2 H2 (e.trans e2) r
theorem js.mono(e:Ext K m H m' H')(p:js K m H R ρ' S'):js K m' H' R ρ' S':=fun m2 v H2 e2 r i=>p m2 v H2 (e.trans e2) r i
theorem yw.mono(e:Ext K m H m' H')(p:yw K m H D o ρ' S'):yw K m' H' D o ρ' S':=by
 cases o with
 |nx=>exact js.mono e p
 |rt u=>exact lN.mono e p
 |bk=>exact js.mono e p
 |ct=>exact js.mono e p
end
def LIM:Nat:=100000
theorem lim{n:Nat}(h:n<=LIM):n<=sizeLine:=Nat.le_trans h (by unfold LIM sizeLine;decide)
theorem Kg{n:Nat}(h:n<LIM):n<sizeLine:=Nat.lt_of_lt_of_le h (by unfold LIM sizeLine;decide)
def ah(i:Nat):CE:=fun ρ S=>match ρ[i]? with
 |some (some u)=>some (u,S)
 |_=>none
def cC(u:U):CE:=fun _ S=>some (u,S)
section
variable{X:Cx}{e a b c:Expr}{ca cb cc:CE}{pos:Pos}
theorem af{i:Nat}(h:WE X e (Lf i)):QE X e (ah i):=h.imp fun σ H Q hz=>nB hz fun m ρ S u S' sr lr hc post=>by
 unfold ah at hc
 split at hc
 ·rename_i u' e
  cases hc
  obtain⟨v,e1,e2⟩:=lr.at_ i u e
  exact⟨v,e1,post m v H .refl sr e2⟩
 ·cases hc
theorem q_c{v:V}{u:U}(h:WE X e (tC v))(hi:∀m H,Is X.K m H v u):QE X e (cC u):=h.imp fun σ H Q hz=>nB hz fun m ρ S u' S' sr lr hc post=>by
 cases hc
 exact post m v H .refl sr (hi m H)
theorem ax{i:Int}(h:WE X e (tC (.int i))):QE X e (cC (.int i)):=q_c h fun _ _=>.int_
theorem sO{i:Bool}(h:WE X e (tC (.bl i))):QE X e (cC (.bl i)):=q_c h fun _ _=>.bl_
theorem cR{i:Str}(h:WE X e (tC (.str i))):QE X e (cC (.str i)):=q_c h fun _ _=>.str_
theorem rD(h:WE X e (tC .non)):QE X e (cC .non):=q_c h fun _ _=>.non_
def cOp(f:U->U->Sto->Option (U×Sto))(ca cb:CE):CE:=fun ρ S=>(ca ρ S).bind fun p=>(cb ρ p.2).bind fun q=>f p.1 q.1 q.2
def OpP(K:PySem.W.Frag)(r:R2)(f:U->U->Sto->Option (U×Sto)):Prop:=
 ∀m S H x y v w u S' Q,Sr K m S H->Is K m H v x->Is K m H w y->f x y S=some (u,S')->lN K m H Q u S'->r v w H Q
theorem zW{K:PySem.W.Frag}{r:R2}{f:U->U->Sto->Option (U×Sto)}(hp:OpP K r f):∀σ H Q,tE K (cOp f ca cb) σ H Q->tOp r (tE K ca) (tE K cb) σ H Q:=by
 rintro σ H Q ⟨m,ρ,S,u,S',sr,lr,hc,post⟩
 obtain⟨⟨x,S1⟩,h1,h⟩:=Option.bind_eq_some_iff.mp hc
 obtain⟨⟨y,S2⟩,h2,h3⟩:=Option.bind_eq_some_iff.mp h
 exact⟨m,ρ,S,x,S1,sr,lr,h1,fun m1 v1 H1 e1 sr1 i1=>⟨m1,ρ,S1,y,S2,sr1,lr.mono e1,h2,fun m2 v2 H2 e2 sr2 i2=>hp m2 S2 H2 x y v1 v2 u S' Q sr2 (i1.mono e2) i2 h3 (post.mono (e1.trans e2))⟩⟩
theorem fC{op:Operator}{r:R2}{f:U->U->Sto->Option (U×Sto)}(ho:OpR X (binaryOp op) r)(hp:OpP X.K r f)(ha:QE X a ca)(hb:QE X b cb):QE X (.BinOp a op b pos) (cOp f ca cb):=(Jb ho ha hb).imp (zW hp)
theorem uX{op:CmpOp}{r:R2}{f:U->U->Sto->Option (U×Sto)}(ho:OpR X (compareOp op) r)(hp:OpP X.K r f)(ha:QE X a ca)(hb:QE X b cb)(hm:behindInMarks op b=false):QE X (.Compare a [op] [b] pos) (cOp f ca cb):=(vZ ho ha hb hm).imp (zW hp)
def aQ(c:CE):CT:=fun ρ S=>(c ρ S).bind fun p=>match p.1 with
 |.bl b=>some (b,p.2)
 |_=>none
theorem qY{K:PySem.W.Frag}{c:CE}{t:TE}(h:∀σ H Q,tE K c σ H Q->t σ H Q):∀σ H Q,tT K (aQ c) σ H Q->t σ H fun x H'=>∃k,x=.bl k/\Q k H':=by
 rintro σ H Q ⟨m,ρ,S,u,S',sr,lr,hc,post⟩
 obtain⟨⟨x,S1⟩,h1,h2⟩:=Option.bind_eq_some_iff.mp hc
 refine h σ H _ ⟨m,ρ,S,x,S1,sr,lr,h1,fun m1 v1 H1 e1 sr1 i1=>?_⟩
 cases x<;>simp at h2
 obtain⟨rfl,rfl⟩:=h2
 exact⟨_,i1.of_bl,post m1 H1 e1 sr1⟩
theorem bo{op:CmpOp}{r:R2}{f:U->U->Sto->Option (U×Sto)}(ho:OpR X (compareOp op) r)(hp:OpP X.K r f)(ha:QE X a ca)(hb:QE X b cb)(hm:behindInMarks op b=false):QT X (.Compare a [op] [b] pos) (aQ (cOp f ca cb)):=(vS ho ha hb hm).imp (qY (zW hp))
theorem kS(h:QE X e ca)(he:∀whole,isTrue e X.env whole=(do let v <-whole;standAt e.pos;holding [v] (truthy v)):=by intro _;rfl):QT X e (aQ ca):=(Fz h he).imp (qY fun _ _ _ z=>z)
variable{ta tb:CT}{rest:List Expr}
def su(ta tb:CT):CT:=fun ρ S=>(ta ρ S).bind fun p=>if p.1=true then tb ρ p.2 else some (false,p.2)
def cOr(ta tb:CT):CT:=fun ρ S=>(ta ρ S).bind fun p=>if p.1=true then some (true,p.2)else tb ρ p.2
def BJ(ta:CT):CT:=fun ρ S=>(ta ρ S).bind fun p=>some (!p.1,p.2)
theorem zx(h:QW X e ta):QT X e ta:=WW.pt h
theorem qy(ha:QT X a ta):QW X (.BoolOp .And [a] pos) ta:=BU ha
theorem zA(ha:QT X a ta):QW X (.BoolOp .Or [a] pos) ta:=Fx ha
theorem rE(ha:QT X a ta)(hb:QW X (.BoolOp .And (b::rest) pos) tb):QW X (.BoolOp .And (a::b::rest) pos) (su ta tb):=(Fy ha hb).imp fun σ H Q hz=>nB hz fun m ρ S u S' sr lr hc post=>by
 obtain⟨⟨x,S1⟩,h1,h2⟩:=Option.bind_eq_some_iff.mp hc
 refine⟨m,ρ,S,x,S1,sr,lr,h1,fun m1 H1 e1 sr1=>?_⟩
 cases x with
 |true=>exact HQ ⟨m1,ρ,S1,u,S',sr1,lr.mono e1,h2,post.mono e1⟩
 |false=>cases h2;exact HR (post m1 H1 e1 sr1)
theorem HP(ha:QT X a ta)(hb:QW X (.BoolOp .Or (b::rest) pos) tb):QW X (.BoolOp .Or (a::b::rest) pos) (cOr ta tb):=(IY ha hb).imp fun σ H Q hz=>nB hz fun m ρ S u S' sr lr hc post=>by
 obtain⟨⟨x,S1⟩,h1,h2⟩:=Option.bind_eq_some_iff.mp hc
 refine⟨m,ρ,S,x,S1,sr,lr,h1,fun m1 H1 e1 sr1=>?_⟩
 cases x with
 |true=>cases h2;exact HQ (post m1 H1 e1 sr1)
 |false=>exact HR ⟨m1,ρ,S1,u,S',sr1,lr.mono e1,h2,post.mono e1⟩
theorem mV(ha:QT X a ta):QT X (.UnaryOp .Not a pos) (BJ ta):=(FA ha).imp fun σ H Q hz=>nB hz fun m ρ S u S' sr lr hc post=>by
 obtain⟨⟨x,S1⟩,h1,h2⟩:=Option.bind_eq_some_iff.mp hc
 cases h2
 exact⟨m,ρ,S,x,_,sr,lr,h1,fun m1 H1 e1 sr1=>post m1 H1 e1 sr1⟩
def so(ca cb:CE):CE:=fun ρ S=>(ca ρ S).bind fun p=>match p.1 with
 |.bl true=>cb ρ p.2
 |.bl false=>some (.bl false,p.2)
 |_=>none
def NV(ca cb:CE):CE:=fun ρ S=>(ca ρ S).bind fun p=>match p.1 with
 |.bl false=>cb ρ p.2
 |.bl true=>some (.bl true,p.2)
 |_=>none
def DY(ca:CE):CE:=fun ρ S=>(ca ρ S).bind fun p=>match p.1 with
 |.bl b=>some (.bl (!b),p.2)
 |_=>none
theorem zB{op}(h:QE X a ca):QE X (.BoolOp op [a] pos) ca:=FH h
theorem tP(ha:QE X a ca)(hb:QE X (.BoolOp .And (b::rest) pos) cb):QE X (.BoolOp .And (a::b::rest) pos) (so ca cb):=(FN ha hb).imp fun σ H Q hz=>nB hz fun m ρ S u S' sr lr hc post=>by
 obtain⟨⟨x,S1⟩,h1,h2⟩:=Option.bind_eq_some_iff.mp hc
 refine⟨m,ρ,S,x,S1,sr,lr,h1,fun m1 v1 H1 e1 sr1 i1=>?_⟩
 cases x with
 |bl k=>
  refine⟨k,i1.of_bl,?_⟩
  cases k with
  |true=>exact HQ ⟨m1,ρ,S1,u,S',sr1,lr.mono e1,h2,post.mono e1⟩
  |false=>cases h2;exact HR (post m1 _ H1 e1 sr1 .bl_)
 |_=>simp at h2
theorem Jx(ha:QE X a ca):QE X (.UnaryOp .Not a pos) (DY ca):=(FI ha).imp fun σ H Q hz=>nB hz fun m ρ S u S' sr lr hc post=>by
 obtain⟨⟨x,S1⟩,h1,h2⟩:=Option.bind_eq_some_iff.mp hc
 refine⟨m,ρ,S,x,S1,sr,lr,h1,fun m1 v1 H1 e1 sr1 i1=>?_⟩
 cases x with
 |bl k=>cases h2;exact⟨k,i1.of_bl,post m1 _ H1 e1 sr1 .bl_⟩
 |_=>simp at h2
def cIf(t:CT)(ca cb:CE):CE:=fun ρ S=>(t ρ S).bind fun p=>if p.1=true then ca ρ p.2 else cb ρ p.2
def uC(f f':U->U->Sto->Option (U×Sto))(ca cb cc:CE):CE:=fun ρ S=>(ca ρ S).bind fun p=>(cb ρ p.2).bind fun q=>(f p.1 q.1 q.2).bind fun r=>match r.1 with
 |.bl true=>(cc ρ r.2).bind fun z=>f' q.1 z.1 z.2
 |.bl false=>some (.bl false,r.2)
 |_=>none
theorem Be{K:PySem.W.Frag}{r r':R2}{f f':U->U->Sto->Option (U×Sto)}(hp:OpP K r f)(hp':OpP K r' f'):∀σ H Q,tE K (uC f f' ca cb cc) σ H Q->ze r r' (tE K ca) (tE K cb) (tE K cc) σ H Q:=by
 rintro σ H Q ⟨m,ρ,S,u,S',sr,lr,hc,post⟩
 obtain⟨⟨x,S1⟩,h1,h⟩:=Option.bind_eq_some_iff.mp hc
 obtain⟨⟨y,S2⟩,h2,h⟩:=Option.bind_eq_some_iff.mp h
 obtain⟨⟨z,S3⟩,h3,h4⟩:=Option.bind_eq_some_iff.mp h
 refine⟨m,ρ,S,x,S1,sr,lr,h1,fun m1 v1 H1 e1 sr1 i1=>⟨m1,ρ,S1,y,S2,sr1,lr.mono e1,h2,fun m2 v2 H2 e2 sr2 i2=>hp m2 S2 H2 x y v1 v2 z S3 _ sr2 (i1.mono e2) i2 h3 fun m3 v3 H3 e3 sr3 i3=>?_⟩⟩
 have e03:=(e1.trans e2).trans e3
 cases z with
 |bl k=>
  refine⟨k,i3.of_bl,?_⟩
  cases k with
  |true=>
   obtain⟨⟨w,S4⟩,h5,h6⟩:=Option.bind_eq_some_iff.mp h4
   exact HQ ⟨m3,ρ,S3,w,S4,sr3,lr.mono e03,h5,fun m4 v4 H4 e4 sr4 i4=>hp' m4 S4 H4 y w v2 v4 u S' Q sr4 (i2.mono (e3.trans e4)) i4 h6 (post.mono (e03.trans e4))⟩
  |false=>cases h4;exact HR (post m3 _ H3 e03 sr3 .bl_)
 |_=>simp at h4
theorem Gj{op op':CmpOp}{r r':R2}{f f':U->U->Sto->Option (U×Sto)}(ho:OpR X (compareOp op) r)(hp:OpP X.K r f)(ho':OpR X (compareOp op') r')(hp':OpP X.K r' f')(ha:QE X a ca)(hb:QE X b cb)(hc:QE X c cc)
  (hm:lastMarks [op,op'] [b,c]=false:=by with_unfolding_all rfl):QE X (.Compare a [op,op'] [b,c] pos) (uC f f' ca cb cc):=(yU ho ho' ha hb hc hm).imp (Be hp hp')
variable{es:List Expr}{cr:CA}
def aE:CA:=fun _ S=>some ([],S)
def ae(ca:CE)(cr:CA):CA:=fun ρ S=>(ca ρ S).bind fun p=>(cr ρ p.2).bind fun q=>some (p.1::q.1,q.2)
theorem ay:QA X [] aE:=⟨j6.imp fun σ H Q hz=>nB hz fun m ρ S u S' sr lr hc post=>by cases hc;exact post m [] H .refl sr .nil_,fun ρ S us S' h=>by cases h;rfl⟩
theorem ab(ha:QE X e ca)(hr:QA X es cr)(hs:starEach (e::es) X.env=(false,eval e X.env)::starEach es X.env:=by rfl):QA X (e::es) (ae ca cr):=⟨(fS ha hr.h hs).imp fun σ H Q hz=>nB hz fun m ρ S u S' sr lr hc post=>by
 obtain⟨⟨x,S1⟩,h1,h⟩:=Option.bind_eq_some_iff.mp hc
 obtain⟨⟨y,S2⟩,h2,h3⟩:=Option.bind_eq_some_iff.mp h
 cases h3
 exact⟨m,ρ,S,x,S1,sr,lr,h1,fun m1 v1 H1 e1 sr1 i1=>⟨m1,ρ,S1,y,S2,sr1,lr.mono e1,h2,fun m2 v2 H2 e2 sr2 i2=>post m2 _ H2 (e1.trans e2) sr2 (.cons_ (i1.mono e2) i2)⟩⟩,
 fun ρ S us S' h=>by
 obtain⟨⟨x,S1⟩,h1,h⟩:=Option.bind_eq_some_iff.mp h
 obtain⟨⟨y,S2⟩,h2,h3⟩:=Option.bind_eq_some_iff.mp h
 cases h3
 simp[hr.len ρ S1 y S2 h2]⟩
def fE(cr:CA):CE:=fun ρ S=>(cr ρ S).bind fun p=>some (.tup p.1,p.2)
def pB(cr:CA):CE:=fun ρ S=>(cr ρ S).bind fun p=>some (.ref p.2.length,p.2++[.lst p.1])
theorem fV{m:List Addr}{S:Sto}{q:Addr}(h:m.length=S.length):(m++[q])[S.length]?=some q:=by rw[List.getElem?_append_right (by omega)];simp[h]
theorem rH{K:PySem.W.Frag}{m:List Addr}{H:Hp}{S:Sto}{us:List U}{xs:List V}{Q:VK}{p:Addr}(sr:Sr K m S H)(i:IsL K m H xs us)(post:lN K m H Q (.tup us) S)(hp:H p=none):Q (.ref p) (upd H p (.tup xs)):=
 post m _ _ (.of (cT hp _)) (sr.same (dW hp _)) (.tup_ (SqT.of aX) (i.mono (.of (cT hp _))))
theorem fg{K:PySem.W.Frag}{m:List Addr}{H:Hp}{S:Sto}{us:List U}{xs:List V}{Q:VK}{p:Addr}(sr:Sr K m S H)(i:IsL K m H xs us)(post:lN K m H Q (.ref S.length) (S++[.lst us]))(hp:H p=none):Q (.ref p) (upd H p (.lst xs)):=
 post (m++[p]) _ _ (.new (cT hp _)) (sr.new hp ⟨xs,aX,i.mono (.new (cT hp _))⟩) (.ref_ (fV sr.len))
theorem dH{x1}(h:QA X es cr)(hl:es.length<=1000:=by exact Nat.le_of_ble_eq_true rfl):QE X (.Tuple es x1 pos) (fE cr):=(yM h.h).imp fun σ H Q hz=>nB hz fun m ρ S u S' sr lr hc post=>by
 obtain⟨⟨us,S1⟩,h1,h2⟩:=Option.bind_eq_some_iff.mp hc
 cases h2
 refine⟨m,ρ,S,us,_,sr,lr,h1,fun m1 v1 H1 e1 sr1 i1=>⟨tF ?_,fun p hp=>rH sr1 i1 (post.mono e1) hp⟩⟩
 rw[i1.length,h.len _ _ _ _ h1];exact hl
theorem ny(h:QA X es cr)(hl:es.length<=1000:=by exact Nat.le_of_ble_eq_true rfl):QE X (.List es pos) (pB cr):=(yP h.h).imp fun σ H Q hz=>nB hz fun m ρ S u S' sr lr hc post=>by
 obtain⟨⟨us,S1⟩,h1,h2⟩:=Option.bind_eq_some_iff.mp hc
 cases h2
 refine⟨m,ρ,S,us,_,sr,lr,h1,fun m1 v1 H1 e1 sr1 i1=>⟨tF ?_,fun p hp=>fg sr1 i1 (post.mono e1) hp⟩⟩
 rw[i1.length,h.len _ _ _ _ h1];exact hl
def cCB(f:List U->Sto->Option (U×Sto))(cr:CA):CE:=fun ρ S=>(cr ρ S).bind fun p=>f p.1 p.2
def qf(K:PySem.W.Frag)(r:List V->Hp->VK->Prop)(f:List U->Sto->Option (U×Sto)):Prop:=
 ∀m S H us vs u S' Q,Sr K m S H->IsL K m H vs us->f us S=some (u,S')->lN K m H Q u S'->r vs H Q
theorem EX{K:PySem.W.Frag}{r:List V->Hp->VK->Prop}{f:List U->Sto->Option (U×Sto)}(hp:qf K r f):∀σ H Q,tE K (cCB f cr) σ H Q->tCB r (tA K cr) σ H Q:=by
 rintro σ H Q ⟨m,ρ,S,u,S',sr,lr,hc,post⟩
 obtain⟨⟨us,S1⟩,h1,h2⟩:=Option.bind_eq_some_iff.mp hc
 exact⟨m,ρ,S,us,S1,sr,lr,h1,fun m1 v1 H1 e1 sr1 i1=>hp m1 S1 H1 us v1 u S' Q sr1 i1 h2 (post.mono e1)⟩
theorem cq{id:String}{x:Str}{p:Pos}{r:List V->Hp->VK->Prop}{f:List U->Sto->Option (U×Sto)}(hc:ib X (.builtin id) r)(hp:qf X.K r f)(hg:Gl X x)(hm:X.mg x=none)(hv:bootBuiltins x=some (.builtin id))(ha:QA X (e::es) cr)(hn:x≠"__name__":=by decide)(hdb:(x == ("__debug__":Str))=false:=by decide)(he:starEach (e::es) X.env=(false,eval e X.env)::starEach es X.env:=by rfl)(hpl:(backTo pos (starEach es X.env)).any (·.1)=false:=by rfl) :
  QE X (.Call (.Name x p) (e::es) [] pos) (cCB f cr):=(nM hc hg hm hv ha.h hn hdb he hpl).imp (EX hp)
theorem kW{id:String}{x:Str}{p:Pos}{r:List V->Hp->VK->Prop}{f:List U->Sto->Option (U×Sto)}(hc:ib X (.type id) r)(hp:qf X.K r f)(hg:Gl X x)(hm:X.mg x=none)(hv:bootBuiltins x=some (.type id))(ha:QA X (e::es) cr)(hn:x≠"__name__":=by decide)(hdb:(x == ("__debug__":Str))=false:=by decide)(he:starEach (e::es) X.env=(false,eval e X.env)::starEach es X.env:=by rfl)(hpl:(backTo pos (starEach es X.env)).any (·.1)=false:=by rfl) :
  QE X (.Call (.Name x p) (e::es) [] pos) (cCB f cr):=(qi hc hg hm hv ha.h hn hdb he hpl).imp (EX hp)
end
def Cd(K:PySem.W.Frag)(f:List U->Sto->Option (U×Sto)):Sp:=fun vs H Q _=>∃m us S u S',IsL K m H vs us/\Sr K m S H/\f us S=some (u,S')/\lN K m H Q u S'
abbrev Fn:=List U->Sto->Option (U×Sto)
abbrev dU(P:Program)(w:World)(K:PySem.W.Frag)(mg:Str->Option Value)(base:Heap)(x:Str)(k:Nat)(ps:List Str)(f:Fn):Prop:=Has P w K mg base x k ps (Cd K f)
def tm(n:Nat)(us:List U):Rho:=us.map some++List.replicate (n-us.length) none
def fnU(n k:Nat)(c:CS):Fn:=fun us S=>if us.length=k then(c (tm n us) S).bind fun r=>match r.1 with
 |.rt u=>some (u,r.2.2)
 |.nx=>some (.non,r.2.2)
 |_=>none else none
section
variable{P:Program}{w:World}{K:PySem.W.Frag}{mg:Str->Option Value}{base:Heap}{x:Str}{st:Stmt}{ps N:List Str}{k:Nat}{c:CS}{f:Fn}
theorem Df{m:List Addr}{H:Hp}{vs:List V}{us:List U}(i:IsL K m H vs us):Lr K m H (tm N.length us) (L2.kH N vs):=by
 have hl:=i.length
 refine⟨by simp[tm,L2.kH,hl],fun j u e=>?_⟩
 unfold tm at e
 unfold L2.kH
 by_cases c:j<us.length
 ·rw[List.getElem?_append_left (by simpa using c),List.getElem?_map]at e
  rw[List.getElem?_append_left (by simpa [hl] using c),List.getElem?_map]
  rw[List.getElem?_eq_getElem c]at e
  simp at e
  obtain⟨v,e1,e2⟩:=i.getD (List.getElem?_eq_getElem c)
  rw[e1]
  subst e
  exact⟨v,rfl,e2⟩
 ·rw[List.getElem?_append_right (by simpa using c),List.getElem?_replicate]at e
  split at e<;>cases e
theorem AE{X:Cx}{body:List Stmt}{Q:VK}{E:XK}{vs:List V}{H:Hp}(hK:X.K=K)(h:Cd K (fnU N.length ps.length c) vs H Q E):tS X.K c { nx:=fun _ H'=>Q .non H',rt:=Q } (L2.kH N vs) H:=by
 subst hK
 obtain⟨m,us,S,u,S',i,sr,hf,post⟩:=h
 unfold fnU at hf
 split at hf
 ·obtain⟨⟨o,ρ',S2⟩,h1,h2⟩:=Option.bind_eq_some_iff.mp hf
  refine⟨m,_,S,o,ρ',S2,sr,Df i,h1,?_⟩
  cases o with
  |rt v=>cases h2;exact post
  |nx=>cases h2;exact fun m1 σ1 H1 e1 sr1 _=>post m1 _ H1 e1 sr1 .non_
  |bk=>simp at h2
  |ct=>simp at h2
 ·cases hf
theorem wj{vs:List V}{H:Hp}{Q:VK}{E:XK}{n k:Nat}(h:Cd K (fnU n k c) vs H Q E):vs.length=k:=by
 obtain⟨m,us,S,u,S',i,sr,hf,post⟩:=h
 unfold fnU at hf
 split at hf
 ·rename_i e
  rw[i.length,e]
 ·cases hf
theorem _root_.OG.Def.pure(d:Def K mg x st ps)(S:aS N ps (av st))
  (hb:∀(f:Addr) (cdv:Value) (A:Around) (outer:List Env) (s:Shared) (H:Hp) (E:XK),iZ k (A.deeper (envOfC x (av st) s.heap.objs.size f cdv))->
   WSs (yB CX0 P w K mg base N x (av st) f cdv A outer s H E).nox (aM st) (tS K c)):dU P w K mg base x (k+1) ps (fnU N.length ps.length c):=
 d.has S (fun vs H Q E h=>wj h) fun f cdv A outer s H vs Q E hr h=>⟨_,hb f cdv A outer s H E hr,AE (X:=(yB CX0 P w K mg base N x (av st) f cdv A outer s H E).nox) (body:=[]) (ps:=ps) rfl h⟩
theorem _root_.OG.Def.no(d:Def K mg x st ps):dU P w K mg base x k ps (fun _ _=>none):=d.none fun vs H Q E h=>by
 obtain⟨m,us,S,u,S',i,sr,hf,post⟩:=h
 cases hf
theorem aY{X:Cx}{e:Expr}{es:List Expr}{cr:CA}{p pos:Pos}(F:Has X.prog X.w X.K X.mg X.base x k ps (Cd X.K f))(hr:iZ k X.A)(hg:Gl X x)(ha:QA X (e::es) cr)
  (hdb:(x == ("__debug__":Str))=false:=by decide) (he:starEach (e::es) X.env=(false,eval e X.env)::starEach es X.env:=by rfl) (hpl:(backTo pos (starEach es X.env)).any (·.1)=false:=by rfl) :
  QE X (.Call (.Name x p) (e::es) [] pos) (cCB f cr):=(Eh F hr hg ha.h hdb he hpl).imp fun σ H Q hz=>nB hz fun m ρ S u S' sr lr hc post=>by
 obtain⟨⟨us,S1⟩,h1,h2⟩:=Option.bind_eq_some_iff.mp hc
 exact⟨m,ρ,S,us,S1,sr,lr,h1,fun m1 v1 H1 e1 sr1 i1=>⟨m1,us,S1,u,S',by simpa using i1,sr1,h2,post.mono e1⟩⟩
end
section
variable{X:Cx}{e a b c:Expr}{ca cb cc:CE}{pos:Pos}{st:Stmt}{sts:List Stmt}{c1 c2:CS}
def dv:CS:=fun ρ S=>some (.nx,ρ,S)
def bu(c1 c2:CS):CS:=fun ρ S=>(c1 ρ S).bind fun r=>match r.1 with
 |.nx=>c2 r.2.1 r.2.2
 |o=>some (o,r.2.1,r.2.2)
theorem cm:QSs X [] dv:=BV.imp fun D σ H hz=>yl hz fun m ρ S o ρ' S' sr lr hc post=>by cases hc;exact post m σ H .refl sr lr
theorem aw(h1:QS X st c1)(h2:QSs X sts c2):QSs X (st::sts) (bu c1 c2):=(sW h1 h2).imp fun D σ H hz=>yl hz fun m ρ S o ρ' S' sr lr hc post=>by
 obtain⟨⟨o1,ρ1,S1⟩,h1,h2⟩:=Option.bind_eq_some_iff.mp hc
 refine⟨m,ρ,S,o1,ρ1,S1,sr,lr,h1,?_⟩
 cases o1 with
 |nx=>exact fun m1 σ1 H1 e1 sr1 lr1=>⟨m1,ρ1,S1,o,ρ',S',sr1,lr1,h2,post.mono e1⟩
 |rt u=>cases h2;exact post
 |bk=>cases h2;exact post
 |ct=>cases h2;exact post
theorem aB(h1:QS X st c1):QSs X [st] c1:=vT h1
def dB(ca:CE):CS:=fun ρ S=>(ca ρ S).bind fun p=>some (.nx,ρ,p.2)
theorem bO(he:QE X e ca)(hs:swapsWith e none pos.line X.env=pure false:=by rfl):QS X (.Expr e pos) (dB ca):=(BW he hs).imp fun D σ H hz=>yl hz fun m ρ S o ρ' S' sr lr hc post=>by
 obtain⟨⟨u,S1⟩,h1,h2⟩:=Option.bind_eq_some_iff.mp hc
 cases h2
 exact⟨m,ρ,S,u,_,sr,lr,h1,fun m1 v1 H1 e1 sr1 i1=>post m1 σ H1 e1 sr1 (lr.mono e1)⟩
def fB(ca:CE):CS:=fun ρ S=>(ca ρ S).bind fun p=>some (.rt p.1,ρ,p.2)
theorem bc(he:QE X e ca):QS X (.Return (some e) pos) (fB ca):=(yI he).imp fun D σ H hz=>yl hz fun m ρ S o ρ' S' sr lr hc post=>by
 obtain⟨⟨u,S1⟩,h1,h2⟩:=Option.bind_eq_some_iff.mp hc
 cases h2
 exact⟨m,ρ,S,u,_,sr,lr,h1,post⟩
def gx(t:CT)(c1 c2:CS):CS:=fun ρ S=>(t ρ S).bind fun p=>if p.1=true then c1 ρ p.2 else c2 ρ p.2
theorem cQ{t:CT}{s1 s2:List Stmt}(hc:QT X c t)(h1:QSs X s1 c1)(h2:QSs X s2 c2):QS X (.If c s1 s2 pos) (gx t c1 c2):=(IZ hc h1 h2).imp fun D σ H hz=>yl hz fun m ρ S o ρ' S' sr lr hc post=>by
 obtain⟨⟨x,S1⟩,h1,h2⟩:=Option.bind_eq_some_iff.mp hc
 refine⟨m,ρ,S,x,S1,sr,lr,h1,fun m1 H1 e1 sr1=>?_⟩
 cases x with
 |true=>exact HQ ⟨m1,ρ,S1,o,ρ',S',sr1,lr.mono e1,h2,post.mono e1⟩
 |false=>exact HR ⟨m1,ρ,S1,o,ρ',S',sr1,lr.mono e1,h2,post.mono e1⟩
abbrev CG:=U->Rho->Sto->Option (Rho×Sto)
def tG(K:PySem.W.Frag)(g:CG):TG:=fun v σ H Q=>∃m ρ S u ρ' S',Sr K m S H/\Lr K m H ρ σ/\Is K m H v u/\g u ρ S=some (ρ',S')/\js K m H Q ρ' S'
abbrev QG(X:Cx)(e:Expr)(g:CG):Prop:=WG X e (tG X.K g)
def gNm(i:Nat):CG:=fun u ρ S=>some (ρ.set i (some u),S)
theorem fN{i:Nat}(h:WG X e (yi i)):QG X e (gNm i):=h.imp fun v σ H Q hz=>NU hz fun m ρ S u ρ' S' sr lr iu hc post=>by
 cases hc
 exact post m _ H .refl sr (lr.set i iu)
def jk:List Nat->List U->Rho->Option Rho
 |[],[],ρ=>some ρ
 |i::is,u::us,ρ=>jk is us (ρ.set i (some u))
 |_,_,_=>none
def tGs(K:PySem.W.Frag)(is:List Nat):TGs:=fun vs σ H Q=>∃m ρ S us ρ',Sr K m S H/\Lr K m H ρ σ/\IsL K m H vs us/\jk is us ρ=some ρ'/\js K m H Q ρ' S
abbrev QGs(X:Cx)(es:List Expr)(is:List Nat):Prop:=WGs X es (tGs X.K is)
theorem jy:QGs X [] []:=BY.imp fun v σ H Q ⟨m,ρ,S,us,ρ',sr,lr,iu,hc,post⟩=>by
 cases us with
 |nil=>cases hc;exact⟨iu.of_nil,post m σ H .refl sr lr⟩
 |cons a r=>simp[jk]at hc
theorem cS{i:Nat}{is:List Nat}{es:List Expr}(h:WG X e (yi i))(h2:QGs X es is)(hs:(assignEach (e::es) X.env).map (·.2)=assign e X.env::(assignEach es X.env).map (·.2):=by rfl):QGs X (e::es) (i::is):=(yL h h2 hs).imp fun v σ H Q ⟨m,ρ,S,us,ρ',sr,lr,iu,hc,post⟩=>by
 cases us with
 |nil=>simp[jk]at hc
 |cons u r=>
  obtain⟨x,xr,rfl,i1,i2⟩:=iu.of_cons
  exact⟨x,xr,rfl,m,ρ.set i (some u),S,r,ρ',sr,lr.set i i1,i2,hc,post⟩
def gTp(is:List Nat):CG:=fun u ρ S=>match u with
 |.tup us=>(jk is us ρ).bind fun ρ'=>some (ρ',S)
 |_=>none
theorem qt:∀{is:List Nat} {us:List U} {ρ ρ':Rho},jk is us ρ=some ρ'->us.length=is.length
 |[],[],_,_,_=>rfl
 |[],_::_,_,_,h=>by simp[jk]at h
 |_::_,[],_,_,h=>by simp[jk]at h
 |i::is,u::us,ρ,ρ',h=>by
  have:=qt (is:=is) (us:=us) h
  simp[this]
theorem mU{is:List Nat}{es:List Expr}{k:Nat}(hc:X.calm=true)(h:QGs X es is)(hn:(assignEach es X.env).length=is.length:=by rfl)(hst:(assignEach es X.env).findIdx? (·.1)=none:=by rfl):QG X (.Tuple es k pos) (gTp is):=(FF hc h hn hst).imp fun v σ H Q hz=>NU hz fun m ρ S u ρ' S' sr lr iu hc post=>by
 cases u with
 |tup us=>
  obtain⟨ρ2,h1,h2⟩:=Option.bind_eq_some_iff.mp hc
  cases h2
  obtain⟨a,xs,rfl,sq,il⟩:=iu.of_tup
  refine⟨a,xs,rfl,sq,?_,m,ρ,S,us,ρ',sr,lr,il,h1,post⟩
  rw[il.length];exact qt h1
 |_=>simp[gTp]at hc
def K3(ca:CE)(g:CG):CS:=fun ρ S=>(ca ρ S).bind fun p=>(g p.1 ρ p.2).bind fun q=>some (.nx,q.1,q.2)
theorem HI{K:PySem.W.Frag}{g:CG}:∀D σ H,tS K (K3 ca g) D σ H->Jn (tE K ca) (tG K g) D σ H:=by
 rintro D σ H ⟨m,ρ,S,o,ρ',S',sr,lr,hc,post⟩
 obtain⟨⟨u,S1⟩,h1,h2⟩:=Option.bind_eq_some_iff.mp hc
 obtain⟨⟨ρ2,S2⟩,h3,h4⟩:=Option.bind_eq_some_iff.mp h2
 cases h4
 exact⟨m,ρ,S,u,S1,sr,lr,h1,fun m1 v1 H1 e1 sr1 i1=>⟨m1,ρ,S1,u,_,_,sr1,lr.mono e1,i1,h3,js.mono e1 post⟩⟩
theorem Jw{tg:Expr}{g:CG}(he:QE X e ca)(hg:QG X tg g)(hs:swapsWithSole [tg] e pos.line X.env=pure false:=by rfl)(hw:swappedStores [tg] e X.env=pure none:=by rfl)
  (h1:(assignEach [tg] X.env).map (·.2)=[assign tg X.env]:=by rfl):QS X (.Assign [tg] e pos) (K3 ca g):=(yK he hg hs hw h1).imp HI
def cP(i:Nat)(ca:CE):CS:=fun ρ S=>(ca ρ S).bind fun p=>some (.nx,ρ.set i (some p.1),p.2)
theorem aU{i:Nat}{x:Str}{pos':Pos}(hN:X.N.Nodup)(hi:X.N[i]?=some x)(hx:Loc X.env.scope x)(he:QE X e ca)(hs:swapsWith e (some (.Name x pos')) pos.line X.env=pure false:=by rfl)(hf:X.fn x=true\/X.env.scope.names.lookup x=some .local:=by first|exact .inl rfl|exact .inr rfl|assumption) :
  QS X (.Assign [.Name x pos'] e pos) (cP i ca):=(yH hN hi hx he hs hf).imp fun D σ H hz=>yl hz fun m ρ S o ρ' S' sr lr hc post=>by
 obtain⟨⟨u,S1⟩,h1,h2⟩:=Option.bind_eq_some_iff.mp hc
 cases h2
 exact⟨m,ρ,S,u,_,sr,lr,h1,fun m1 v1 H1 e1 sr1 i1=>post m1 _ H1 e1 sr1 ((lr.mono e1).set i i1)⟩
abbrev CI:=Rho->Sto->Option (List U×(Sto->Prop)×Sto)
def D8(K:PySem.W.Frag)(J:It)(m:List Addr)(H:Hp)(us:List U)(ok:Sto->Prop):Prop:=∀m2 S2 H2 i,Ext K m H m2 H2->Sr K m2 S2 H2->ok S2->
 (∀u,us[i]?=some u->J.go i H2/\∀x H3,J.yld i H2 x H3->Ext K m2 H2 m2 H3/\Sr K m2 S2 H3/\Is K m2 H3 x u)/\(us.length<=i->J.stop i H2)
def tI(K:PySem.W.Frag)(ci:CI):TI:=fun σ H R=>∃m ρ S us ok S',Sr K m S H/\Lr K m H ρ σ/\ci ρ S=some (us,ok,S')/\∀m' H' J,Ext K m H m' H'->Sr K m' S' H'->D8 K J m' H' us ok->R J H'
abbrev QI(X:Cx)(tg iter:Expr)(ci:CI):Prop:=WI X tg iter (tI X.K ci)
open Classical in
def eK(ok:Sto->Prop)(g:CG)(cb:CS):List U->CS
 |[]=>fun ρ S=>if ok S then some (.nx,ρ,S)else none
 |u::us=>fun ρ S=>if ok S then(g u ρ S).bind fun p=>(cb p.1 p.2).bind fun r=>match r.1 with
  |.nx=>eK ok g cb us r.2.1 r.2.2
  |.ct=>eK ok g cb us r.2.1 r.2.2
  |.bk=>some (.nx,r.2.1,r.2.2)
  |.rt v=>some (.rt v,r.2.1,r.2.2)else none
def lJ(ci:CI)(g:CG)(cb:CS):CS:=fun ρ S=>(ci ρ S).bind fun p=>eK p.2.1 g cb p.1 ρ p.2.2
theorem lG{α:Type}{us:List α}{i:Nat}{u:α}(h:us[i]?=some u):us.drop i=u::us.drop (i+1):=by
 obtain⟨hl,e⟩:=List.getElem?_eq_some_iff.mp h
 rw[List.drop_eq_getElem_cons hl,e]
theorem wQ{K:PySem.W.Frag}{g:CG}{cb:CS}{J:It}{us:List U}{ok:Sto->Prop}{D:BN}{m1:List Addr}{H1:Hp}{ρ ρ':Rho}{σ:L2.St}{S1 S':Sto}{o:Out}(sr1:Sr K m1 S1 H1)(lr1:Lr K m1 H1 ρ σ)(ito:D8 K J m1 H1 us ok)(h2:eK ok g cb us ρ S1=some (o,ρ',S'))(post:yw K m1 H1 D o ρ' S') :
  ∃W:Nat->Nat->L2.St->Hp->Prop,(∃n,W 0 n σ H1)/\∀i n σ H,W i n σ H->
   (J.stop i H/\D.nx σ H)\/(J.go i H/\∃N:L2.St->Hp->Prop,(∀σ' H',N σ' H'->∃n',n'<n/\W (i+1) n' σ' H')/\∀x H',J.yld i H x H'->tG K g x σ H' fun σ2 H2=>tS K cb { D with nx:=N,ct:=N,bk:=D.nx } σ2 H2):=by
 let W:Nat->Nat->L2.St->Hp->Prop:=fun i n σ2 H2=>n=us.length-i/\i<=us.length/\∃m2 ρ2 S2,Ext K m1 H1 m2 H2/\Sr K m2 S2 H2/\Lr K m2 H2 ρ2 σ2/\eK ok g cb (us.drop i) ρ2 S2=some (o,ρ',S')
 refine⟨W,⟨us.length,by simp,Nat.zero_le _,m1,ρ,S1,.refl,sr1,lr1,by simpa using h2⟩,?_⟩
 rintro i n σ2 H2 ⟨rfl,hi,m2,ρ2,S2,e2,sr2,lr2,hl⟩
 by_cases hlt:i<us.length
 ·have hu:=List.getElem?_eq_getElem hlt
  rw[lG hu]at hl
  unfold eK at hl
  split at hl
  ·rename_i hok
   obtain⟨⟨ρ3,S3⟩,h3,hl⟩:=Option.bind_eq_some_iff.mp hl
   obtain⟨⟨o4,ρ4,S4⟩,h4,hl⟩:=Option.bind_eq_some_iff.mp hl
   obtain⟨hgo,hy⟩:=(ito m2 S2 H2 i e2 sr2 hok).1 _ hu
   refine .inr ⟨hgo,W (i+1) (us.length-(i+1)),fun σ' H' w'=>⟨_,by omega,w'⟩,fun x H3 y=>?_⟩
   obtain⟨e3,sr3,ix⟩:=hy x H3 y
   refine⟨m2,ρ2,S2,_,ρ3,S3,sr3,lr2.mono e3,ix,h3,fun m4 σ4 H4 e4 sr4 lr4=>⟨m4,ρ3,S3,o4,ρ4,S4,sr4,lr4,h4,?_⟩⟩
   have e14:=(e2.trans e3).trans e4
   have nxt:eK ok g cb (us.drop (i+1)) ρ4 S4=some (o,ρ',S')->js K m4 H4 (W (i+1) (us.length-(i+1))) ρ4 S4:=fun hn m5 σ5 H5 e5 sr5 lr5=>⟨rfl,hlt,m5,ρ4,S4,e14.trans e5,sr5,lr5,hn⟩
   cases o4 with
   |nx=>exact nxt hl
   |ct=>exact nxt hl
   |bk=>cases hl;exact js.mono e14 post
   |rt v=>cases hl;exact lN.mono e14 post
  ·cases hl
 ·have e:i=us.length:=by omega
  subst e
  rw[List.drop_length]at hl
  unfold eK at hl
  split at hl
  ·rename_i hok
   cases hl
   exact .inl ⟨(ito m2 _ H2 _ e2 sr2 hok).2 (Nat.le_refl _),post m2 σ2 H2 e2 sr2 lr2⟩
  ·cases hl
theorem Ho{K:PySem.W.Frag}{ci:CI}{g:CG}{cb:CS}:∀D σ H,tS K (lJ ci g cb) D σ H->Lg (tI K ci) (tG K g) (tS K cb) D σ H:=by
 rintro D σ H ⟨m,ρ,S,o,ρ',S',sr,lr,hc,post⟩
 obtain⟨⟨us,ok,S1⟩,h1,h2⟩:=Option.bind_eq_some_iff.mp hc
 exact⟨m,ρ,S,us,ok,S1,sr,lr,h1,fun m1 H1 J e1 sr1 ito=>wQ sr1 (lr.mono e1) ito h2 (yw.mono e1 post)⟩
theorem j2{tg iter:Expr}{body:List Stmt}{ci:CI}{g:CG}{cb:CS}(hp:PassesOwn (model X.prog X.w) X.A X.env X.xe)(hc:X.calm=true)(hi:QI X tg iter ci)(hg:QG X tg g)(hb:QSs X body cb)(hs:∀x,foldedSetIterable iter X.env x=pure x:=by intro _;rfl):QS X (.For tg iter body [] pos) (lJ ci g cb):=(yJ hp hc hi hg hb hs).imp Ho
def eZ(t:CT)(cb:CS):Nat->CS
 |0=>fun _ _=>none
 |n+1=>fun ρ S=>(t ρ S).bind fun p=>if p.1=true then(cb ρ p.2).bind fun r=>match r.1 with
  |.nx=>eZ t cb n r.2.1 r.2.2
  |.ct=>eZ t cb n r.2.1 r.2.2
  |.bk=>some (.nx,r.2.1,r.2.2)
  |.rt v=>some (.rt v,r.2.1,r.2.2)else some (.nx,ρ,p.2)
theorem yZ{K:PySem.W.Frag}{t:CT}{cb:CS}{n:Nat}:∀D σ H,tS K (eZ t cb n) D σ H->za (tT K t) (tS K cb) D σ H:=by
 rintro D σ H ⟨m,ρ,S,o,ρ',S',sr,lr,hc,post⟩
 let W:Nat->L2.St->Hp->Prop:=fun n σ2 H2=>∃m2 ρ2 S2,Ext K m H m2 H2/\Sr K m2 S2 H2/\Lr K m2 H2 ρ2 σ2/\eZ t cb n ρ2 S2=some (o,ρ',S')
 refine⟨W,⟨n,m,ρ,S,.refl,sr,lr,hc⟩,?_⟩
 rintro k σ2 H2 ⟨m2,ρ2,S2,e2,sr2,lr2,hl⟩
 cases k with
 |zero=>cases hl
 |succ k=>
  unfold eZ at hl
  obtain⟨⟨x,S3⟩,h3,hl⟩:=Option.bind_eq_some_iff.mp hl
  refine⟨m2,ρ2,S2,x,S3,sr2,lr2,h3,fun m3 H3 e3 sr3=>?_⟩
  have e13:=e2.trans e3
  cases x with
  |true=>
   rw[if_pos rfl]at hl
   refine HQ ?_
   obtain⟨⟨o4,ρ4,S4⟩,h4,hl⟩:=Option.bind_eq_some_iff.mp hl
   refine⟨W k,fun σ' H' w'=>⟨k,Nat.lt_succ_self _,w'⟩,m3,ρ2,S3,o4,ρ4,S4,sr3,lr2.mono e3,h4,?_⟩
   have nxt:eZ t cb k ρ4 S4=some (o,ρ',S')->js K m3 H3 (W k) ρ4 S4:=fun hn m5 σ5 H5 e5 sr5 lr5=>⟨m5,ρ4,S4,e13.trans e5,sr5,lr5,hn⟩
   cases o4 with
   |nx=>exact nxt hl
   |ct=>exact nxt hl
   |bk=>cases hl;exact js.mono e13 post
   |rt v=>cases hl;exact lN.mono e13 post
  |false=>
   rw[if_neg Bool.false_ne_true]at hl
   refine HR ?_
   cases hl
   exact post m3 σ2 H3 e13 sr3 (lr2.mono e3)
theorem wy{body:List Stmt}{t:CT}{cb:CS}(n:Nat)(hp:PassesOwn (model X.prog X.w) X.A X.env X.xe)(hc:QT X c t)(hb:QSs X body cb):QS X (.While c body [] pos) (eZ t cb n):=(yG hp hc hb).imp yZ
def iTp(ca:CE):CI:=fun ρ S=>(ca ρ S).bind fun p=>match p.1 with
 |.tup us=>some (us,fun _=>True,p.2)
 |.ref l=>match p.2[l]? with
  |some (.lst us)=>some (us,fun S=>S[l]?=some (.lst us),p.2)
  |_=>none
 |_=>none
theorem Kw{K:PySem.W.Frag}{m:List Addr}{H:Hp}{us:List U}{a:Addr}{xs:List V}(sq:SqT K H a xs)(il:IsL K m H xs us):D8 K (Itt K a) m H us (fun _=>True):=by
 intro m2 S2 H2 i e2 sr2 _
 have sq2:=e2.keep.t _ _ sq
 have il2:=il.mono e2
 refine⟨fun u hu=>?_,fun hi=>⟨xs,sq2,by rw[il2.length];exact hi⟩⟩
 obtain⟨x,hx,ix⟩:=il2.getD hu
 refine⟨⟨xs,x,sq2,hx⟩,fun y H3 hy=>?_⟩
 obtain⟨rfl,hy⟩:=hy
 have:=hy xs sq2
 rw[hx]at this;cases this
 exact⟨.refl,sr2,ix⟩
theorem Kx{K:PySem.W.Frag}{m:List Addr}{H:Hp}{us:List U}{a:Addr}{l:Nat}(hl:m[l]?=some a):D8 K (Itl K a) m H us (fun S=>S[l]?=some (.lst us)):=by
 intro m2 S2 H2 i e2 sr2 hok
 obtain⟨a',ha',xs,hx,il⟩:=sr2.get hok
 rw[e2.get hl]at ha'
 cases ha'
 refine⟨fun u hu=>?_,fun hi=>⟨xs,SqL.of hx,by rw[il.length];exact hi⟩⟩
 obtain⟨x,hx',ix⟩:=il.getD hu
 refine⟨⟨xs,x,SqL.of hx,hx'⟩,fun y H3 hy=>?_⟩
 obtain⟨rfl,hy⟩:=hy
 have:=hy xs (SqL.of hx)
 rw[hx']at this;cases this
 exact⟨.refl,sr2,ix⟩
theorem kQ{tg:Expr}(h:QE X e ca):QI X tg e (iTp ca):=((FE h).or (BX h)).imp fun σ H R hz=>yl hz fun m ρ S us ok S' sr lr hc post=>by
 obtain⟨⟨u,S1⟩,h1,h2⟩:=Option.bind_eq_some_iff.mp hc
 cases u with
 |tup ws=>
  cases h2
  refine .inl ⟨m,ρ,S,.tup us,_,sr,lr,h1,fun m1 v1 H1 e1 sr1 i1=>?_⟩
  obtain⟨a,xs,rfl,sq,il⟩:=i1.of_tup
  exact⟨a,rfl,⟨xs,sq⟩,post m1 H1 _ e1 sr1 (Kw sq il)⟩
 |ref l=>
  simp only at h2
  split at h2
  ·rename_i us' hS
   cases h2
   refine .inr ⟨m,ρ,S,.ref l,_,sr,lr,h1,fun m1 v1 H1 e1 sr1 i1=>?_⟩
   obtain⟨a,hl,rfl⟩:=i1.of_ref
   obtain⟨a',ha',xs,hx,il⟩:=sr1.get hS
   rw[hl]at ha';cases ha'
   exact⟨a,rfl,⟨xs,SqL.of hx⟩,post m1 H1 _ e1 sr1 (Kx hl)⟩
  ·cases h2
 |_=>simp at h2
def d7(lo:Int)(n:Nat):List U:=(List.range n).map fun i=>.int (lo+(i:Nat))
theorem Dk{K:PySem.W.Frag}{m:List Addr}{H:Hp}{lo:Int}{n:Nat}:D8 K (Itr lo n) m H (d7 lo n) (fun _=>True):=by
 intro m2 S2 H2 i e2 sr2 _
 refine⟨fun u hu=>?_,fun hi=>by show n<=i;simpa [d7] using hi⟩
 unfold d7 at hu
 rw[List.getElem?_map]at hu
 by_cases c:i<n
 ·rw[List.getElem?_range c]at hu
  simp at hu
  subst hu
  refine⟨c,fun y H3 hy=>?_⟩
  obtain⟨rfl,rfl⟩:=hy
  exact⟨.refl,sr2,.int_⟩
 ·rw[List.getElem?_eq_none (by simpa using c)]at hu
  cases hu
def gY(cr:CA):CI:=fun ρ S=>(cr ρ S).bind fun p=>match p.1 with
 |[.int j]=>if -(2^62)<=j/\j<2^62 then some (d7 0 j.toNat,fun _=>True,p.2)else none
 |_=>none
theorem kR{tg:Expr}{cr:CA}{p:Pos}(hg:Gl X "range")(hm:X.mg "range"=none)(ha:QA X [a] cr)(hs:starEach [a] X.env=[(false,eval a X.env)]:=by rfl):QI X tg (.Call (.Name "range" p) [a] [] pos) (gY cr):=(xP hg hm ha.h hs).imp fun σ H R hz=>yl hz fun m ρ S us ok S' sr lr hc post=>by
 obtain⟨⟨ws,S1⟩,h1,h2⟩:=Option.bind_eq_some_iff.mp hc
 simp only at h2
 split at h2
 ·rename_i j
  split at h2
  ·rename_i hj
   cases h2
   refine⟨m,ρ,S,_,S',sr,lr,h1,fun m1 v1 H1 e1 sr1 i1=>?_⟩
   obtain⟨x,r,rfl,ix,ir⟩:=i1.of_cons
   rw[ir.of_nil,ix.of_int]
   exact⟨j,rfl,hj.1,hj.2,post m1 H1 _ e1 sr1 Dk⟩
  ·cases h2
 ·cases h2
end
def fI(g:Int->Int->Option U):U->U->Sto->Option (U×Sto)
 |.int i,.int j,S=>(g i j).bind fun u=>some (u,S)
 |_,_,_=>none
section
variable{X:Cx}{K:PySem.W.Frag}
theorem Li{C:Int->Int->Prop}{gV:Int->Int->V}{g:Int->Int->Option U}(h:∀i j u,g i j=some u->C i j/\∀m H,Is K m H (gV i j) u):OpP K (rI C gV) (fI g):=by
 intro m S H x y v w u S' Q sr ix iy hf post
 cases x<;>cases y<;>simp only[fI]at hf<;>try cases hf
 rename_i i j
 obtain⟨u1,h1,h2⟩:=Option.bind_eq_some_iff.mp hf
 cases h2
 obtain⟨hc,hi⟩:=h i j u h1
 exact⟨i,j,ix.of_int,iy.of_int,hc,post m _ H .refl sr (hi m H)⟩
theorem zT{gV:Int->Int->V}{g:Int->Int->Option U}(h:∀i j u,g i j=some u->∀m H,Is K m H (gV i j) u):OpP K (rI0 gV) (fI g):=by
 intro m S H x y v w u S' Q sr ix iy hf post
 cases x<;>cases y<;>simp only[fI]at hf<;>try cases hf
 rename_i i j
 obtain⟨u1,h1,h2⟩:=Option.bind_eq_some_iff.mp hf
 cases h2
 exact⟨i,j,ix.of_int,iy.of_int,post m _ H .refl sr (h i j u h1 m H)⟩
def Cp(K:PySem.W.Frag):R2:=fun x y H Q=>∃a b xs ys,x=.ref a/\y=.ref b/\SqT K H a xs/\SqT K H b ys/\xs.length+ys.length<=sizeLine/\∀q H',sx H H'->SqT K H' q (xs++ys)->Q (.ref q) H'
theorem GS:OpR X (binaryOp .Add) (Cp X.K):=by
 intro pins s σ H x y v u Q I rx ry h
 obtain⟨a,b,xs,ys,rfl,rfl,ha,hb,hz,q⟩:=h
 by_cases e:xs=[]
 ·cases rx
  cases ry
  obtain⟨its,r1,p1,_⟩:=I.tuple ha
  obtain⟨its2,r2,p2,_⟩:=I.tuple hb
  refine DX p1 p2 (r1.nil_iff.mpr e) ⟨.ref b,H,I,rfl,q b H (.refl _) (by rw[e];exact hb)⟩
 ·refine GR pins s σ H _ _ v u Q I rx ry ⟨a,b,xs,ys,rfl,rfl,ha,hb,e,hz,fun z=>q a H (.refl _) (by rw[z,List.append_nil];exact ha),fun _ p hp=>q p _ (dW hp _) (SqT.of aX)⟩
def AG:U->U->Sto->Option (U×Sto)
 |.tup a,.tup b,S=>if a.length+b.length<=LIM then some (.tup (a++b),S)else none
 |_,_,_=>none
theorem CW:OpP K (Cp K) AG:=by
 intro m S H x y v w u S' Q sr ix iy hf post
 cases x<;>cases y<;>simp only[AG]at hf<;>try cases hf
 split at hf<;>try cases hf
 rename_i hl
 obtain⟨a,xs,rfl,sa,la⟩:=ix.of_tup
 obtain⟨b,ys,rfl,sb,lb⟩:=iy.of_tup
 refine⟨a,b,xs,ys,rfl,rfl,sa,sb,lim (by rw[la.length,lb.length];exact hl),fun q H' s sq=>?_⟩
 exact post m _ H' (.of (fh s)) (sr.same s) (.tup_ sq ((la.append lb).mono (.of (fh s))))
def vv:U->U->Sto->Option (U×Sto)
 |.ref l,.ref k,S=>match S[l]?,S[k]? with
  |some (.lst a),some (.lst b)=>if a.length+b.length<=LIM then some (.ref S.length,S++[.lst (a++b)])else none
  |_,_=>none
 |_,_,_=>none
theorem CZ:OpP K Lh vv:=by
 intro m S H x y v w u S' Q sr ix iy hf post
 cases x<;>cases y<;>simp only[vv]at hf<;>try cases hf
 rename_i l k
 split at hf<;>try cases hf
 rename_i a b h1 h2
 split at hf<;>try cases hf
 rename_i hl
 obtain⟨p,hp,rfl⟩:=ix.of_ref
 obtain⟨q,hq,rfl⟩:=iy.of_ref
 obtain⟨p',hp',xs,hx,il⟩:=sr.get h1
 obtain⟨q',hq',ys,hy,il'⟩:=sr.get h2
 rw[hp]at hp';cases hp'
 rw[hq]at hq';cases hq'
 exact⟨p,q,xs,ys,rfl,rfl,hx,hy,lim (by rw[il.length,il'.length];exact hl),fun r hr=>fg sr (il.append il') post hr⟩
def AH:U->U->Sto->Option (U×Sto)
 |.str a,.str b,S=>if a.length+b.length<=LIM then some (.str (a++b),S)else none
 |_,_,_=>none
theorem CY:OpP K (fun x y H Q=>∃i j,x=.str i/\y=.str j/\i.length+j.length<=sizeLine/\Q (.str (i++j)) H) AH:=by
 intro m S H x y v w u S' Q sr ix iy hf post
 cases x<;>cases y<;>simp only[AH]at hf<;>try cases hf
 split at hf<;>try cases hf
 rename_i hl
 exact⟨_,_,ix.of_str,iy.of_str,lim hl,post m _ H .refl sr .str_⟩
def iO:U->U->Sto->Option (U×Sto)
 |.int i,.int j,S=>some (.int (i+j),S)
 |.tup a,.tup b,S=>if a.length+b.length<=LIM then some (.tup (a++b),S)else none
 |.str a,.str b,S=>if a.length+b.length<=LIM then some (.str (a++b),S)else none
 |.ref l,.ref k,S=>vv (.ref l) (.ref k) S
 |_,_,_=>none
theorem gF:OpR X (binaryOp .Add) (fun x y H Q=>rI0 (fun i j=>.int (i+j)) x y H Q\/(Lh x y H Q\/(Cp X.K x y H Q\/∃i j,x=.str i/\y=.str j/\i.length+j.length<=sizeLine/\Q (.str (i++j)) H))):=Ka.or (J9.or (GS.or xW))
theorem gE:OpP K (fun x y H Q=>rI0 (fun i j=>.int (i+j)) x y H Q\/(Lh x y H Q\/(Cp K x y H Q\/∃i j,x=.str i/\y=.str j/\i.length+j.length<=sizeLine/\Q (.str (i++j)) H))) iO:=by
 intro m S H x y v w u S' Q sr ix iy hf post
 cases x<;>cases y<;>simp only[iO]at hf<;>try cases hf
 ·exact .inl ⟨_,_,ix.of_int,iy.of_int,post m _ H .refl sr .int_⟩
 ·exact .inr (.inr (.inr (CY m S H _ _ v w u S' Q sr ix iy hf post)))
 ·exact .inr (.inr (.inl (CW m S H _ _ v w u S' Q sr ix iy hf post)))
 ·exact .inr (.inl (CZ m S H _ _ v w u S' Q sr ix iy hf post))
def qN:=fI fun i j=>some (.int (i-j))
theorem pV:OpP K (rI0 fun i j=>.int (i-j)) qN:=zT fun i j u h m H=>by cases h;exact .int_
instance {i j:Int}:Decidable (BI i j):=by unfold BI;exact inferInstance
def pf:=fI fun i j=>if BI i j then some (.int (i*j))else none
theorem tY:OpP K (rI BI fun i j=>.int (i*j)) pf:=Li fun i j u h=>by
 split at h
 ·rename_i c;cases h;exact⟨c,fun m H=>.int_⟩
 ·cases h
instance {i j:Int}:Decidable (yA i j):=by unfold yA;exact inferInstance
def DD:=fI fun i j=>if yA i j then some (.int (i / j))else none
theorem GO:OpP K (rI yA fun i j=>.int (i / j)) DD:=Li fun i j u h=>by
 split at h
 ·rename_i c;cases h;exact⟨c,fun m H=>.int_⟩
 ·cases h
def sQ:=fI fun i j=>if 0<j then some (.int (i % j))else none
theorem tZ:OpP K (rI (fun _ j=>0<j) fun i j=>.int (i % j)) sQ:=Li fun i j u h=>by
 split at h
 ·rename_i c;cases h;exact⟨c,fun m H=>.int_⟩
 ·cases h
instance {i j:Int}:Decidable (HX i j):=by unfold HX;exact inferInstance
def HS:=fI fun i j=>if HX i j then some (.int (i^j.toNat))else none
theorem J1:OpP K (rI HX fun i j=>.int (i^j.toNat)) HS:=Li fun i j u h=>by
 split at h
 ·rename_i c;cases h;exact⟨c,fun m H=>.int_⟩
 ·cases h
def fLt:=fI fun i j=>some (.bl (decide (i<j)))
def fLe:=fI fun i j=>some (.bl (decide (i<=j)))
def fGt:=fI fun i j=>some (.bl (decide (j<i)))
def fGe:=fI fun i j=>some (.bl (decide (j<=i)))
theorem zV:OpP K (rI0 fun i j=>.bl (decide (i<j))) fLt:=zT fun i j u h m H=>by cases h;exact .bl_
theorem NB:OpP K (rI0 fun i j=>.bl (decide (i<=j))) fLe:=zT fun i j u h m H=>by cases h;exact .bl_
theorem GN:OpP K (rI0 fun i j=>.bl (decide (j<i))) fGt:=zT fun i j u h m H=>by cases h;exact .bl_
theorem MK:OpP K (rI0 fun i j=>.bl (decide (j<=i))) fGe:=zT fun i j u h m H=>by cases h;exact .bl_
def eqS:U->U->Option Bool
 |.int i,.int j=>some (decide (i=j))
 |.bl i,.bl j=>some (decide (i=j))
 |.str i,.str j=>some (decide (i=j))
 |.non,.non=>some true
 |.non,.int _=>some false|.int _,.non=>some false
 |.non,.bl _=>some false|.bl _,.non=>some false
 |.non,.str _=>some false|.str _,.non=>some false
 |.int _,.str _=>some false|.str _,.int _=>some false
 |.bl _,.str _=>some false|.str _,.bl _=>some false
 |_,_=>none
def fEq:U->U->Sto->Option (U×Sto):=fun x y S=>(eqS x y).bind fun b=>some (.bl b,S)
def fNe:U->U->Sto->Option (U×Sto):=fun x y S=>(eqS x y).bind fun b=>some (.bl (!b),S)
theorem ET{m:List Addr}{H:Hp}{x y:U}{v w:V}{b:Bool}(ix:Is K m H v x)(iy:Is K m H w y)(h:eqS x y=some b):Mt v w=true/\decide (v=w)=b:=by
 cases x<;>cases y<;>simp only[eqS]at h<;>(first|cases h|skip)
 all_goals
  (first|(have e1:=ix.of_int)|(have e1:=ix.of_bl)|(have e1:=ix.of_str)|(have e1:=ix.of_non))
  (first|(have e2:=iy.of_int)|(have e2:=iy.of_bl)|(have e2:=iy.of_str)|(have e2:=iy.of_non))
  subst e1 e2
  exact⟨rfl,by simp⟩
theorem oP:OpP K rEq fEq:=by
 intro m S H x y v w u S' Q sr ix iy hf post
 obtain⟨b,h1,h2⟩:=Option.bind_eq_some_iff.mp hf
 cases h2
 obtain⟨e1,e2⟩:=ET ix iy h1
 exact⟨e1,by rw[e2];exact post m _ H .refl sr .bl_⟩
theorem NA:OpP K rNe fNe:=by
 intro m S H x y v w u S' Q sr ix iy hf post
 obtain⟨b,h1,h2⟩:=Option.bind_eq_some_iff.mp hf
 cases h2
 obtain⟨e1,e2⟩:=ET ix iy h1
 exact⟨e1,by rw[e2];exact post m _ H .refl sr .bl_⟩
def rR:U->Bool
 |.non=>true
 |_=>false
def KN:U->U->Sto->Option (U×Sto)
 |x,.non,S=>some (.bl (rR x),S)
 |_,_,_=>none
def sd:U->U->Sto->Option (U×Sto)
 |x,.non,S=>some (.bl (!rR x),S)
 |_,_,_=>none
theorem w9{m:List Addr}{H:Hp}{x:U}{v:V}(ix:Is K m H v x):decide (v=.non)=rR x:=by
 cases x with
 |non=>rw[ix.of_non];rfl
 |bl b=>rw[ix.of_bl];rfl
 |int i=>rw[ix.of_int];rfl
 |str i=>rw[ix.of_str];rfl
 |tup us=>obtain⟨a,xs,rfl,_⟩:=ix.of_tup;rfl
 |ref l=>obtain⟨a,_,rfl⟩:=ix.of_ref;rfl
 |kl ns=>obtain⟨a,rfl,_⟩:=ix.of_kl;rfl
theorem J4:OpP K (fun x y H Q=>y=.non/\Q (.bl (decide (x=.non))) H) KN:=by
 intro m S H x y v w u S' Q sr ix iy hf post
 cases y<;>simp only[KN]at hf<;>cases hf
 exact⟨iy.of_non,by rw[w9 ix];exact post m _ H .refl sr .bl_⟩
theorem zU:OpP K (fun x y H Q=>y=.non/\Q (.bl (!decide (x=.non))) H) sd:=by
 intro m S H x y v w u S' Q sr ix iy hf post
 cases y<;>simp only[sd]at hf<;>cases hf
 exact⟨iy.of_non,by rw[w9 ix];exact post m _ H .refl sr .bl_⟩
def me:U->U->Sto->Option (U×Sto)
 |.bl a,.bl b,S=>some (.bl (a !=b),S)
 |_,_,_=>none
theorem C1:OpP K (fun x y H Q=>∃k l,x=.bl k/\y=.bl l/\Q (.bl (k !=l)) H) me:=by
 intro m S H x y v w u S' Q sr ix iy hf post
 cases x<;>cases y<;>simp only[me]at hf<;>cases hf
 exact⟨_,_,ix.of_bl,iy.of_bl,post m _ H .refl sr .bl_⟩
section
variable{κ:Type}[DecidableEq κ]
def bw{α:Type}(kvs:List (κ×α))(k:κ):Option α:=(kvs.find? fun kv=>decide (kv.1=k)).map (·.2)
def jo{α:Type}(kvs:List (κ×α))(k:κ)(v:α):List (κ×α):=
 if (kvs.any fun kv=>decide (kv.1=k))=true then kvs.map (fun kv=>if kv.1=k then(kv.1,v)else kv)else kvs++[(k,v)]
variable{m:List Addr}{H:Hp}{kvs:List (κ×V)}{kus:List (κ×U)}{k:κ}{v:V}{u:U}
theorem IsP.val(h:IsP K m H kvs kus):Rf K m H (j9 kvs k) (bw kus k):=by
 refine IsP.ind (P:=fun kvs kus=>Rf K m H (j9 kvs k) (bw kus k)) trivial (fun k' v u kvs kus i _ ih=>?_) h
 by_cases e:k'=k
 ·subst e
  simp[j9,bw,List.find?_cons,Rf,i]
 ·simp only[j9,bw,List.find?_cons,decide_eq_false e]at ih ⊢
  exact ih
theorem IsP.any_(h:IsP K m H kvs kus):(kvs.any fun kv=>decide (kv.1=k))=(kus.any fun kv=>decide (kv.1=k)):=
 IsP.ind (P:=fun kvs kus=>(kvs.any fun kv=>decide (kv.1=k))=(kus.any fun kv=>decide (kv.1=k))) rfl (fun k' v u kvs kus i _ ih=>by simp only[List.any_cons,ih]) h
theorem IsP.append{kvs':List (κ×V)}{kus':List (κ×U)}(h:IsP K m H kvs kus)(h':IsP K m H kvs' kus'):IsP K m H (kvs++kvs') (kus++kus'):=⟨by simp[h.1,h'.1],by simpa using h.2.append h'.2⟩
theorem IsP.put(h:IsP K m H kvs kus)(i:Is K m H v u):IsP K m H (qA kvs k v) (jo kus k u):=by
 unfold qA jo
 rw[h.any_]
 split
 ·refine IsP.ind (P:=fun kvs kus=>IsP K m H (kvs.map fun kv=>if kv.1=k then(kv.1,v)else kv) (kus.map fun kv=>if kv.1=k then(kv.1,u)else kv)) .nil_ (fun k' v' u' kvs kus i' _ ih=>?_) h
  simp only[List.map_cons]
  by_cases e:k'=k
  ·simp only[e,if_true];exact .cons_ i ih
  ·simp only[e,if_false];exact .cons_ i' ih
 ·exact h.append (.cons_ i .nil_)
end
def m6:U->Option Key
 |.int i=>some (.inl i)
 |.str x=>some (.inr x)
 |_=>none
theorem jB{m:List Addr}{H:Hp}{x:U}{v:V}{k:Key}(ix:Is K m H v x)(h:m6 x=some k):v=kV k:=by
 cases x<;>simp only[m6]at h<;>cases h
 ·exact ix.of_int
 ·exact ix.of_str
def nA:U->Bool
 |.non=>true|.bl _=>true|.int _=>true|.str _=>true|_=>false
def eqF:U->U->Bool
 |.non,.non=>true
 |.bl a,.bl b=>a == b
 |.bl a,.int b=>(if a then 1 else 0) == b
 |.int a,.bl b=>a == (if b then 1 else 0)
 |.int a,.int b=>a == b
 |.str a,.str b=>a == b
 |_,_=>false
def inU(x:U)(us:List U):Bool:=us.any fun y=>eqF y x
theorem vq{m:List Addr}{H:Hp}{x:U}{v:V}(ix:Is K m H v x)(h:nA x=true):p4 v=true:=by
 cases x with
 |non=>rw[ix.of_non];rfl
 |bl b=>rw[ix.of_bl];rfl
 |int i=>rw[ix.of_int];rfl
 |str i=>rw[ix.of_str];rfl
 |tup us=>cases h
 |ref l=>cases h
 |kl l=>cases h
theorem KQ{m:List Addr}{H:Hp}{x y:U}{v w:V}(ix:Is K m H v x)(iy:Is K m H w y)(hx:nA x=true)(hy:nA y=true):eqV v w=eqF x y:=by
 cases x<;>(first|cases hx|skip)<;>cases y<;>(first|cases hy|skip)
 all_goals
  (first|(have e1:=ix.of_int)|(have e1:=ix.of_bl)|(have e1:=ix.of_str)|(have e1:=ix.of_non))
  (first|(have e2:=iy.of_int)|(have e2:=iy.of_bl)|(have e2:=iy.of_str)|(have e2:=iy.of_non))
  subst e1 e2
  rfl
theorem rZ{m:List Addr}{H:Hp}:∀{xs:List V} {us:List U},IsL K m H xs us->us.all nA=true->xs.all p4=true
 |xs,[],h,_=>by rw[h.of_nil];rfl
 |xs,u::us,h,k=>by
  obtain⟨x,r,rfl,i,t⟩:=h.of_cons
  rw[List.all_cons,Bool.and_eq_true]at k ⊢
  exact⟨vq i k.1,rZ t k.2⟩
theorem Av{m:List Addr}{H:Hp}{x:U}{v:V}(ix:Is K m H v x)(hx:nA x=true):∀{xs:List V} {us:List U},IsL K m H xs us->us.all nA=true->inV v xs=inU x us
 |xs,[],h,_=>by rw[h.of_nil];rfl
 |xs,u::us,h,k=>by
  obtain⟨y,r,rfl,i,t⟩:=h.of_cons
  rw[List.all_cons,Bool.and_eq_true]at k
  have ih:=Av ix hx t k.2
  unfold inV inU at ih ⊢
  rw[List.any_cons,List.any_cons,ih,KQ i ix k.1 hx]
theorem _root_.L2.DGet.kz{H:Hp}{a:Addr}{ob:Obj}{kvs:List (Key×V)}{k:Key}(e:H a=some (.frz ob (.dK kvs))):DGet H a (kV k) (j9 kvs k):=.inl ⟨kvs,k,.inr ⟨ob,e⟩,rfl,rfl⟩
def fIn(neg:Bool):U->U->Sto->Option (U×Sto):=fun x y S=>match y with
 |.tup us=>if nA x=true/\us.all nA=true then some (.bl (if neg then !inU x us else inU x us),S)else none
 |.ref l=>match S[l]? with
  |some (.lst us)=>if nA x=true/\us.all nA=true then some (.bl (if neg then !inU x us else inU x us),S)else none
  |some (.dic kus)=>(m6 x).bind fun k=>some (.bl (if neg then !(bw kus k).isSome else(bw kus k).isSome),S)
  |some (.fdc ep kus)=>(m6 x).bind fun k=>some (.bl (if neg then !(bw kus k).isSome else(bw kus k).isSome),S)
  |_=>none
 |_=>none
theorem Rf.isSome{m:List Addr}{H:Hp}{v:Option V}{u:Option U}(h:Rf K m H v u):v.isSome=u.isSome:=by
 cases v<;>cases u<;>first|rfl|exact h.elim
theorem EM{ca cb:CE}{neg:Bool}(t2:TE->TE->TE)(h2:∀ta tb σ H Q,(ta σ H fun y H1=>tb σ H1 fun x H2=>∃a o,x=.ref a/\DGet H2 a y o/\Q (.bl (if neg then !o.isSome else o.isSome)) H2)->t2 ta tb σ H Q):∀σ H Q,tE K (cOp (fIn neg) ca cb) σ H Q->tOp (rIn K neg) (tE K ca) (tE K cb) σ H Q\/t2 (tE K ca) (tE K cb) σ H Q:=by
 rintro σ H Q ⟨m,ρ,S,u,S',sr,lr,hc,post⟩
 obtain⟨⟨x,S1⟩,h1,h⟩:=Option.bind_eq_some_iff.mp hc
 obtain⟨⟨y,S2⟩,h3,h4⟩:=Option.bind_eq_some_iff.mp h
 cases y with
 |tup us=>
  simp only[fIn]at h4
  split at h4<;>try cases h4
  rename_i hf
  refine .inl ⟨m,ρ,S,x,S1,sr,lr,h1,fun m1 v1 H1 e1 sr1 i1=>⟨m1,ρ,S1,.tup us,S',sr1,lr.mono e1,h3,fun m2 v2 H2 e2 sr2 i2=>?_⟩⟩
  obtain⟨a,xs,rfl,sa,la⟩:=i2.of_tup
  refine⟨a,xs,rfl,.inr sa,vq (i1.mono e2) hf.1,rZ la hf.2,?_⟩
  rw[Av (i1.mono e2) hf.1 la hf.2]
  exact post m2 _ H2 (e1.trans e2) sr2 .bl_
 |ref l=>
  simp only[fIn]at h4
  split at h4<;>try cases h4
  ·rename_i us hS
   split at h4<;>try cases h4
   rename_i hf
   refine .inl ⟨m,ρ,S,x,S1,sr,lr,h1,fun m1 v1 H1 e1 sr1 i1=>⟨m1,ρ,S1,.ref l,S',sr1,lr.mono e1,h3,fun m2 v2 H2 e2 sr2 i2=>?_⟩⟩
   obtain⟨a,ha,rfl⟩:=i2.of_ref
   obtain⟨a',ha',xs,hx,la⟩:=sr2.get hS
   rw[ha]at ha';cases ha'
   refine⟨a,xs,rfl,.inl (SqL.of hx),vq (i1.mono e2) hf.1,rZ la hf.2,?_⟩
   rw[Av (i1.mono e2) hf.1 la hf.2]
   exact post m2 _ H2 (e1.trans e2) sr2 .bl_
  ·rename_i kus hS
   obtain⟨k,hk,h5⟩:=Option.bind_eq_some_iff.mp h4
   cases h5
   refine .inr (h2 _ _ _ _ _ ⟨m,ρ,S,x,S1,sr,lr,h1,fun m1 v1 H1 e1 sr1 i1=>⟨m1,ρ,S1,.ref l,S',sr1,lr.mono e1,h3,fun m2 v2 H2 e2 sr2 i2=>?_⟩⟩)
   obtain⟨a,ha,rfl⟩:=i2.of_ref
   obtain⟨a',ha',kvs,hx,ip⟩:=sr2.get hS
   rw[ha]at ha';cases ha'
   have ek:=jB (i1.mono e2) hk
   subst ek
   refine⟨a,_,rfl,DGet.k hx,?_⟩
   rw[(IsP.val ip).isSome]
   exact post m2 _ H2 (e1.trans e2) sr2 .bl_
  ·rename_i ep kus hS
   obtain⟨k,hk,h5⟩:=Option.bind_eq_some_iff.mp h4
   cases h5
   refine .inr (h2 _ _ _ _ _ ⟨m,ρ,S,x,S1,sr,lr,h1,fun m1 v1 H1 e1 sr1 i1=>⟨m1,ρ,S1,.ref l,S',sr1,lr.mono e1,h3,fun m2 v2 H2 e2 sr2 i2=>?_⟩⟩)
   obtain⟨a,ha,rfl⟩:=i2.of_ref
   obtain⟨a',ha',ob,es,kvs,hx,hd,ip⟩:=sr2.get hS
   rw[ha]at ha';cases ha'
   have ek:=jB (i1.mono e2) hk
   subst ek
   refine⟨a,_,rfl,DGet.kz hx,?_⟩
   rw[(IsP.val ip).isSome]
   exact post m2 _ H2 (e1.trans e2) sr2 .bl_
 |_=>simp[fIn]at h4
variable{e a b c:Expr}{ca cb cc:CE}{pos:Pos}
theorem Gg(hu:X.A.units+1<cLine)(ha:QE X a ca)(hb:QE X b cb)(hm:behindInMarks .NotIn b=false):QE X (.Compare a [.NotIn] [b] pos) (cOp (fIn true) ca cb):=
 ((vZ mY ha hb hm).or (FK (qj hu ha hb) hm)).imp (EM (neg:=true) rb fun _ _ _ _ _ h=>h)
theorem Cq(hu:X.A.units+1<cLine)(ha:QE X a ca)(hb:QE X b cb)(hm:behindInMarks .NotIn b=false):QT X (.Compare a [.NotIn] [b] pos) (aQ (cOp (fIn true) ca cb)):=
 ((vS mY ha hb hm).or (FC (qj hu ha hb) hm)).imp (qY (EM (neg:=true) rb fun _ _ _ _ _ h=>h))
def fIx:U->U->Sto->Option (U×Sto):=fun x y S=>match x with
 |.tup us=>match y with
  |.int i=>(atI us i).bind fun u=>some (u,S)
  |_=>none
 |.ref l=>match S[l]? with
  |some (.lst us)=>(match y with
   |.int i=>(atI us i).bind fun u=>some (u,S)
   |_=>none)
  |some (.dic kus)=>(m6 y).bind fun k=>(bw kus k).bind fun u=>some (u,S)
  |some (.fdc ep kus)=>(m6 y).bind fun k=>(bw kus k).bind fun u=>some (u,S)
  |_=>none
 |.kl ns=>match y with
  |.int i=>(atI (ns.map U.int) i).bind fun u=>some (u,S)
  |_=>none
 |_=>none
theorem xa{K:PySem.W.Frag}{m:List Addr}{H:Hp}:∀ns:List Int,IsL K m H (ns.map V.int) (ns.map U.int)
 |[]=>.nil_
 |n::ns=>.cons_ .int_ (xa ns)
theorem Bt{m:List Addr}{H:Hp}{xs:List V}{us:List U}{i:Int}{u:U}(l:IsL K m H xs us)(h:atI us i=some u):∃v,atI xs i=some v/\Is K m H v u:=by
 unfold atI at h ⊢
 rw[l.length]
 obtain⟨j,e1,e2⟩:=Option.bind_eq_some_iff.mp h
 rw[e1]
 obtain⟨v,e3,e4⟩:=l.getD e2
 exact⟨v,e3,e4⟩
theorem bH(hu:X.A.units+1<cLine)(ha:QE X a ca)(hb:QE X b cb)(hs:vL b)(hs2:Lv b):QE X (.Subscript a b pos) (cOp fIx ca cb):=
 ((Jc (Hc.or Kv) ha hb hs).or (B2 hu ha hb hs2)).imp fun σ H Q hz=>nB hz fun m ρ S u S' sr lr hc post=>by
 obtain⟨⟨x,S1⟩,h1,h⟩:=Option.bind_eq_some_iff.mp hc
 obtain⟨⟨y,S2⟩,h3,h4⟩:=Option.bind_eq_some_iff.mp h
 cases x with
 |tup us=>
  simp only[fIx]at h4
  split at h4<;>try cases h4
  rename_i i
  obtain⟨w,hw,h5⟩:=Option.bind_eq_some_iff.mp h4
  cases h5
  refine .inl ⟨m,ρ,S,_,S1,sr,lr,h1,fun m1 v1 H1 e1 sr1 i1=>⟨m1,ρ,S1,_,S',sr1,lr.mono e1,h3,fun m2 v2 H2 e2 sr2 i2=>.inr ?_⟩⟩
  obtain⟨a,xs,rfl,sa,la⟩:=(i1.mono e2).of_tup
  obtain⟨z,ez,iz⟩:=Bt la hw
  exact⟨a,xs,i,z,rfl,i2.of_int,sa,ez,post m2 _ H2 (e1.trans e2) sr2 iz⟩
 |ref l=>
  simp only[fIx]at h4
  split at h4<;>try cases h4
  ·rename_i us hS
   split at h4<;>try cases h4
   rename_i i
   obtain⟨w,hw,h5⟩:=Option.bind_eq_some_iff.mp h4
   cases h5
   refine .inl ⟨m,ρ,S,_,S1,sr,lr,h1,fun m1 v1 H1 e1 sr1 i1=>⟨m1,ρ,S1,_,S',sr1,lr.mono e1,h3,fun m2 v2 H2 e2 sr2 i2=>.inl ?_⟩⟩
   obtain⟨a,ha,rfl⟩:=(i1.mono e2).of_ref
   obtain⟨a',ha',xs,hx,la⟩:=sr2.get hS
   rw[ha]at ha';cases ha'
   obtain⟨z,ez,iz⟩:=Bt la hw
   exact⟨a,xs,i,z,rfl,i2.of_int,SqL.of hx,ez,post m2 _ H2 (e1.trans e2) sr2 iz⟩
  ·rename_i kus hS
   obtain⟨k,hk,h5⟩:=Option.bind_eq_some_iff.mp h4
   obtain⟨w,hw,h6⟩:=Option.bind_eq_some_iff.mp h5
   cases h6
   refine .inr ⟨m,ρ,S,_,S1,sr,lr,h1,fun m1 v1 H1 e1 sr1 i1=>⟨m1,ρ,S1,_,S',sr1,lr.mono e1,h3,fun m2 v2 H2 e2 sr2 i2=>?_⟩⟩
   obtain⟨a,ha,rfl⟩:=(i1.mono e2).of_ref
   obtain⟨a',ha',kvs,hx,ip⟩:=sr2.get hS
   rw[ha]at ha';cases ha'
   have ek:=jB i2 hk
   subst ek
   have rf:=IsP.val (k:=k) ip
   rw[hw]at rf
   cases hv:j9 kvs k with
   |none=>rw[hv]at rf;exact rf.elim
   |some z=>
    rw[hv]at rf
    exact⟨a,z,rfl,by have:=DGet.k (k:=k) hx;rw[hv]at this;exact this,post m2 _ H2 (e1.trans e2) sr2 rf⟩
  ·rename_i ep kus hS
   obtain⟨k,hk,h5⟩:=Option.bind_eq_some_iff.mp h4
   obtain⟨w,hw,h6⟩:=Option.bind_eq_some_iff.mp h5
   cases h6
   refine .inr ⟨m,ρ,S,_,S1,sr,lr,h1,fun m1 v1 H1 e1 sr1 i1=>⟨m1,ρ,S1,_,S',sr1,lr.mono e1,h3,fun m2 v2 H2 e2 sr2 i2=>?_⟩⟩
   obtain⟨a,ha,rfl⟩:=(i1.mono e2).of_ref
   obtain⟨a',ha',ob,es,kvs,hx,hd,ip⟩:=sr2.get hS
   rw[ha]at ha';cases ha'
   have ek:=jB i2 hk
   subst ek
   have rf:=IsP.val (k:=k) ip
   rw[hw]at rf
   cases hv:j9 kvs k with
   |none=>rw[hv]at rf;exact rf.elim
   |some z=>
    rw[hv]at rf
    exact⟨a,z,rfl,by have:=DGet.kz (k:=k) hx;rw[hv]at this;exact this,post m2 _ H2 (e1.trans e2) sr2 rf⟩
 |kl ns=>
  simp only[fIx]at h4
  split at h4<;>try cases h4
  rename_i i
  obtain⟨w,hw,h5⟩:=Option.bind_eq_some_iff.mp h4
  cases h5
  refine .inl ⟨m,ρ,S,_,S1,sr,lr,h1,fun m1 v1 H1 e1 sr1 i1=>⟨m1,ρ,S1,_,S',sr1,lr.mono e1,h3,fun m2 v2 H2 e2 sr2 i2=>.inl ?_⟩⟩
  obtain⟨a,rfl,ka⟩:=(i1.mono e2).of_kl
  obtain⟨z,ez,iz⟩:=Bt (xa (K:=X.K) (m:=m2) (H:=H2) ns) hw
  exact⟨a,_,i,z,rfl,i2.of_int,ka.sq,ez,post m2 _ H2 (e1.trans e2) sr2 iz⟩
 |_=>simp[fIx]at h4
def pd:U->U->U->Sto->Option Sto:=fun o i v S=>match o with
 |.ref l=>match S[l]? with
  |some (.lst us)=>(match i with
   |.int k=>(ixN us.length k).bind fun j=>some (S.set l (.lst (us.set j v)))
   |_=>none)
  |some (.dic kus)=>(m6 i).bind fun k=>if kus.length<LIM then some (S.set l (.dic (jo kus k v)))else none
  |_=>none
 |_=>none
def hJ(co ci cv:CE):CS:=fun ρ S=>(cv ρ S).bind fun p=>(co ρ p.2).bind fun q=>(ci ρ q.2).bind fun r=>(pd q.1 r.1 p.1 r.2).bind fun S'=>some (.nx,ρ,S')
theorem dY{o i:Expr}{co ci cv:CE}{pos':Pos}(hu:X.A.units+1<cLine)(ho:QE X o co)(hi:QE X i ci)(hv:QE X e cv)
  (hs0:swapsWithSole [.Subscript o i pos'] e pos.line X.env=pure false:=by rfl) (hw:swappedStores [.Subscript o i pos'] e X.env=pure none:=by rfl)
  (h1:(assignEach [.Subscript o i pos'] X.env).map (·.2)=[assign (.Subscript o i pos') X.env]:=by rfl)
  (hs:swapsWith e (some (.Subscript o i pos')) pos.line X.env=pure false:=by rfl)
  (ha:∀v,assign (.Subscript o i pos') X.env v=(do
   let ov <-holding [v] (eval o X.env)
   let iv <-holding [v,ov] (eval i X.env)
   standAt pos'
   holding [v,ov,iv] (setItem ov iv v)
   release [v,ov,iv] []):=by intro _;rfl):QS X (.Assign [.Subscript o i pos'] e pos) (hJ co ci cv):=
 ((yK hv (FG ho hi Ci ha) hs0 hw h1).or (vU hu ho hi hv hs)).imp fun D σ H hz=>yl hz fun m ρ S o ρ' S' sr lr hc post=>by
 obtain⟨⟨v,S1⟩,h1,h⟩:=Option.bind_eq_some_iff.mp hc
 obtain⟨⟨ou,S2⟩,h2,h⟩:=Option.bind_eq_some_iff.mp h
 obtain⟨⟨iu,S3⟩,h3,h⟩:=Option.bind_eq_some_iff.mp h
 obtain⟨S4,h4,h⟩:=Option.bind_eq_some_iff.mp h
 cases h
 cases ou with
 |ref l=>
  simp only[pd]at h4
  split at h4<;>try cases h4
  ·rename_i us hS
   split at h4<;>try cases h4
   rename_i k
   obtain⟨j,hj,h5⟩:=Option.bind_eq_some_iff.mp h4
   cases h5
   refine .inl ⟨m,ρ,S,v,S1,sr,lr,h1,fun m1 v1 H1 e1 sr1 i1=>⟨m1,ρ,S1,_,S2,sr1,lr.mono e1,h2,fun m2 v2 H2 e2 sr2 i2=>⟨m2,ρ,S2,_,S3,sr2,lr.mono (e1.trans e2),h3,fun m3 v3 H3 e3 sr3 i3=>?_⟩⟩⟩
   obtain⟨a,ha,rfl⟩:=(i2.mono e3).of_ref
   obtain⟨a',ha',xs,hx,la⟩:=sr3.get hS
   rw[ha]at ha';cases ha'
   have e13:=(e1.trans e2).trans e3
   have ek:Ext X.K m3 H3 m3 (upd H3 a (.lst (xs.set j v1))):=.of (sr3.keep ha _)
   refine⟨a,xs,k,j,rfl,i3.of_int,hx,by rw[la.length];exact hj,post m3 σ _ (e13.trans ek) (sr3.put ha ⟨_,aX,((la.set (i1.mono (e2.trans e3)))).mono ek⟩) (lr.mono (e13.trans ek))⟩
  ·rename_i kus hS
   obtain⟨k,hk,h5⟩:=Option.bind_eq_some_iff.mp h4
   split at h5<;>try cases h5
   have gZ:kus.length<LIM:=by assumption
   refine .inr ⟨m,ρ,S,v,S1,sr,lr,h1,fun m1 v1 H1 e1 sr1 i1=>⟨m1,ρ,S1,_,S2,sr1,lr.mono e1,h2,fun m2 v2 H2 e2 sr2 i2=>⟨m2,ρ,S2,_,S3,sr2,lr.mono (e1.trans e2),h3,fun m3 v3 H3 e3 sr3 i3=>?_⟩⟩⟩
   obtain⟨a,ha,rfl⟩:=(i2.mono e3).of_ref
   obtain⟨a',ha',kvs,hx,ip⟩:=sr3.get hS
   rw[ha]at ha';cases ha'
   have ek:=jB i3 hk
   subst ek
   have e13:=(e1.trans e2).trans e3
   have ee:Ext X.K m3 H3 m3 (upd H3 a (.dK (qA kvs k v1))):=.of (sr3.keep ha _)
   exact⟨a,_,rfl,E5.k hx (Kg (by rw[IsP.length ip];exact gZ)),post m3 σ _ (e13.trans ee) (sr3.put ha ⟨_,aX,(IsP.put ip (i1.mono (e2.trans e3))).mono ee⟩) (lr.mono (e13.trans ee))⟩
 |_=>simp[pd]at h4
end
theorem lq{α:Type}[DecidableEq α]:∀{l l':List α},l.Nodup->(∀x∈l,x∈l')->l.length<=l'.length
 |[],_,_,_=>Nat.zero_le _
 |x::r,l',nd,s=>by
  obtain⟨h1,h2⟩:=List.nodup_cons.mp nd
  have hx:=s x List.mem_cons_self
  have:=lq (l:=r) (l':=l'.erase x) h2 fun y hy=>(List.mem_erase_of_ne (fun z=>h1 (by rw[<-z];exact hy))).mpr (s y (List.mem_cons_of_mem _ hy))
  rw[List.length_erase_of_mem hx]at this
  have hp:=List.length_pos_of_mem hx
  rw[List.length_cons]
  omega
theorem gX(f:Str)(v:V):∀fs:List (Str×V),(pT f v fs).map (·.1)=if f∈fs.map (·.1)then fs.map (·.1)else fs.map (·.1)++[f]
 |[]=>by simp[pT]
 |(g,x)::r=>by
  unfold pT
  by_cases e:g=f
  ·simp[e]
  ·have ih:=gX f v r
   rw[if_neg e,List.map_cons,List.map_cons,ih]
   by_cases c:f∈r.map (·.1)
   ·rw[if_pos c,if_pos (List.mem_cons_of_mem _ c)]
   ·rw[if_neg c,if_neg (fun z=>by rcases List.mem_cons.mp z with z|z;exact e z.symm;exact c z)]
    rfl
section
variable{X:Cx}{K:PySem.W.Frag}{m:List Addr}{H:Hp}{c:Cl}{fs:List (Str×V)}{fus:List (Option U)}
theorem InF.room(h:InF K m H c fs fus):fs.length<1000:=by
 have:=lq h.knd h.sub
 rw[List.length_map]at this
 have:=h.few
 omega
theorem oS{f:Str}:∀{fs:List (Str×V)},f∉fs.map (·.1)->fs.lookup f=none
 |[],_=>rfl
 |(g,x)::r,h=>by
  rw[List.lookup_cons]
  have h1:(f == g)=false:=by
   apply beq_eq_false_iff_ne.mpr
   intro z;exact h (by rw[z];exact List.mem_cons_self)
  rw[h1]
  exact oS fun z=>h (List.mem_cons_of_mem _ z)
theorem InF.none_{f:Str}(h:InF K m H c fs fus)(hf:f∉c.ns):fs.lookup f=none:=oS fun z=>hf (h.sub f z)
theorem InF.put{f:Str}{i:Nat}{v:V}{u:U}(h:InF K m H c fs fus)(hi:c.ns[i]?=some f)(hv:Is K m H v u):InF K m H c (pT f v fs) (fus.set i (some u)):=by
 have hfm:f∈c.ns:=List.mem_of_getElem? hi
 refine⟨h.nd,h.few,?_,fun x hx=>?_,by simp[h.len],fun j x hj=>?_⟩
 ·rw[gX]
  split
  ·exact h.knd
  ·rename_i hn
   rw[List.nodup_append]
   exact⟨h.knd,by simp,fun a ha b hb z=>by simp at hb;subst hb;subst z;exact hn ha⟩
 ·rw[gX]at hx
  split at hx
  ·exact h.sub x hx
  ·rcases List.mem_append.mp hx with z|z
   ·exact h.sub x z
   ·simp at z;subst z;exact hfm
 ·rw[kj]
  by_cases e:i=j
  ·subst e
   rw[hi]at hj;cases hj
   rw[if_pos rfl]
   have:i<fus.length:=by rw[h.len];exact(List.getElem?_eq_some_iff.mp hi).1
   rw[List.getElem?_set_self this]
   exact hv
  ·have ne:x≠f:=fun z=>by
    subst z
    obtain⟨p1,e1⟩:=List.getElem?_eq_some_iff.mp hi
    obtain⟨p2,e2⟩:=List.getElem?_eq_some_iff.mp hj
    exact e ((List.getElem_inj h.nd).mp (e1.trans e2.symm))
   rw[if_neg ne,List.getElem?_set_ne e]
   exact h.at_ j x hj
theorem InF.new(nd:c.ns.Nodup)(few:c.ns.length<1000):InF K m H c [] (List.replicate c.ns.length none):=by
 refine⟨nd,few,by simp,fun x hx=>by simp at hx,by simp,fun i x hi=>?_⟩
 rw[List.getElem?_replicate]
 split<;>exact trivial
open Classical in
def KO(c:Cl)(i:Nat)(x:U)(S:Sto):Option (U×Sto):=match x with
 |.ref l=>match S[l]? with
  |some (.ins c' fus)=>if c'=c then(fus[i]?).join.bind fun u=>some (u,S)else none
  |_=>none
 |_=>none
def gD(c:Cl)(i:Nat)(ca:CE):CE:=fun ρ S=>(ca ρ S).bind fun p=>KO c i p.1 p.2
open Classical in
def AI(c:Cl)(i:Nat)(x v:U)(S:Sto):Option Sto:=match x with
 |.ref l=>match S[l]? with
  |some (.ins c' fus)=>if c'=c then some (S.set l (.ins c (fus.set i (some v))))else none
  |_=>none
 |_=>none
def jr(c:Cl)(i:Nat)(ca cv:CE):CS:=fun ρ S=>(cv ρ S).bind fun p=>(ca ρ p.2).bind fun q=>(AI c i q.1 p.1 q.2).bind fun S'=>some (.nx,ρ,S')
variable{e:Expr}{ca cv:CE}{pos:Pos}{f:Str}{i:Nat}
theorem dk(hcl:Cls X.K c.C)(hna:j5 X.K c.C f)(hi:c.ns[i]?=some f)(h:QE X e ca)(hb:attributeBase e f X.env (eval e X.env)=eval e X.env:=by rfl):QE X (.Attribute e f pos) (gD c i ca):=(FJ h hb).imp fun σ H Q hz=>nB hz fun m ρ S u S' sr lr hc post=>by
 obtain⟨⟨x,S1⟩,h1,h2⟩:=Option.bind_eq_some_iff.mp hc
 refine⟨m,ρ,S,x,S1,sr,lr,h1,fun m1 v1 H1 e1 sr1 i1=>?_⟩
 cases x with
 |ref l=>
  simp only[KO]at h2
  split at h2<;>try cases h2
  rename_i c' fus hS
  split at h2<;>try cases h2
  rename_i hc'
  subst hc'
  obtain⟨w,hw,h3⟩:=Option.bind_eq_some_iff.mp h2
  cases h3
  obtain⟨a,ha,rfl⟩:=i1.of_ref
  obtain⟨a',ha',dx,fs,hx,inf⟩:=sr1.get hS
  rw[ha]at ha';cases ha'
  have rf:=inf.at_ i f hi
  rw[hw]at rf
  cases hv:fs.lookup f with
  |none=>rw[hv]at rf;exact rf.elim
  |some z=>
   rw[hv]at rf
   exact⟨a,_,dx,fs,z,rfl,hx,hcl,hna,hv,post m1 _ H1 e1 sr1 rf⟩
 |_=>simp[KO]at h2
theorem d8{o:Expr}{co:CE}{pos':Pos}(hcl:Cls X.K c.C)(hna:j5 X.K c.C f)(hi:c.ns[i]?=some f)(ho:QE X o co)(hv:QE X e cv)(hs:swapsWith e (some (.Attribute o f pos')) pos.line X.env=pure false:=by rfl):QS X (.Assign [.Attribute o f pos'] e pos) (jr c i co cv):=(FD ho hv hs).imp fun D σ H hz=>yl hz fun m ρ S o ρ' S' sr lr hc post=>by
 obtain⟨⟨v,S1⟩,h1,h⟩:=Option.bind_eq_some_iff.mp hc
 obtain⟨⟨x,S2⟩,h2,h⟩:=Option.bind_eq_some_iff.mp h
 obtain⟨S3,h3,h⟩:=Option.bind_eq_some_iff.mp h
 cases h
 refine⟨m,ρ,S,v,S1,sr,lr,h1,fun m1 v1 H1 e1 sr1 i1=>⟨m1,ρ,S1,x,S2,sr1,lr.mono e1,h2,fun m2 v2 H2 e2 sr2 i2=>?_⟩⟩
 cases x with
 |ref l=>
  simp only[AI]at h3
  split at h3<;>try cases h3
  rename_i c' fus hS
  split at h3<;>try cases h3
  have hc':c'=c:=by assumption
  subst hc'
  obtain⟨a,ha,rfl⟩:=i2.of_ref
  obtain⟨a',ha',dx,fs,hx,inf⟩:=sr2.get hS
  rw[ha]at ha';cases ha'
  have ee:Ext X.K m2 H2 m2 (upd H2 a (.ins c'.C dx (pT f v1 fs))):=.of (sr2.keep ha _)
  have e12:=e1.trans e2
  exact⟨a,_,dx,fs,rfl,hx,hcl,hna,inf.room,post m2 σ _ (e12.trans ee) (sr2.put ha ⟨dx,_,aX,(inf.put hi (i1.mono e2)).mono ee⟩) (lr.mono (e12.trans ee))⟩
 |_=>simp[AI]at h3
structure iX(P:Program)(w:World)(K:PySem.W.Frag)(mg:Str->Option Value)(base:Heap)(c:Cl)(mn:Str)(k:Nat)(ps:List Str)(f:Fn):Prop where
 ex:∃fa fd,jV K c.C mn fa/\nr P w K mg base CX0 k fa fd ps (Cd K f)/\d6 K fd ps []
theorem iX.mono{P:Program}{w:World}{mg:Str->Option Value}{base:Heap}{mn:Str}{j k:Nat}{ps:List Str}{f:Fn}(h:iX P w K mg base c mn j ps f)(l:j<=k):iX P w K mg base c mn k ps f:=by
 obtain⟨fa,fd,a,b,d⟩:=h.ex
 exact⟨fa,fd,a,b.mono l,d⟩
open Classical in
def AK(c:Cl)(f:Fn)(x:U)(S:Sto)(args:Sto->Option (List U×Sto)):Option (U×Sto):=match x with
 |.ref l=>match S[l]? with
  |some (.ins c' _)=>if c'=c then(args S).bind fun q=>f (.ref l::q.1) q.2 else none
  |_=>none
 |_=>none
def eX(c:Cl)(f:Fn)(ca:CE)(cr:CA):CE:=fun ρ S=>(ca ρ S).bind fun p=>AK c f p.1 p.2 (cr ρ)
theorem wM{mn:Str}{g:Fn}{co:CE}{cr:CA}(hmn:mn∉c.ns):∀σ H Q,tE K (eX c g co cr) σ H Q->zc c.C mn (Cd K g) [] E0 (tE K co) (tA K cr) σ H Q:=by
 rintro σ H Q ⟨m,ρ,S,u,S',sr,lr,hc,post⟩
 obtain⟨⟨x,S1⟩,h1,h2⟩:=Option.bind_eq_some_iff.mp hc
 refine⟨m,ρ,S,x,S1,sr,lr,h1,fun m1 v1 H1 e1 sr1 i1=>?_⟩
 cases x with
 |ref l=>
  simp only[AK]at h2
  split at h2<;>try cases h2
  rename_i c' fus hS
  split at h2<;>try cases h2
  rename_i hc'
  subst hc'
  obtain⟨⟨us,S2⟩,h3,h4⟩:=Option.bind_eq_some_iff.mp h2
  obtain⟨a,ha,rfl⟩:=i1.of_ref
  obtain⟨a',ha',dx,fs,hx,inf⟩:=sr1.get hS
  rw[ha]at ha';cases ha'
  refine⟨a,dx,fs,rfl,hx,inf.none_ hmn,m1,ρ,S1,us,S2,sr1,lr.mono e1,h3,fun m2 vs H2 e2 sr2 i2=>?_⟩
  exact⟨m2,_,S2,u,S',.cons_ (i1.mono e2) (by simpa using i2),sr2,h4,post.mono (e1.trans e2)⟩
 |_=>simp[AK]at h2
theorem gT{mn:Str}{g:Fn}{k:Nat}{ps:List Str}{o:Expr}{es:List Expr}{co:CE}{cr:CA}{apos:Pos}{pl:Sem Bool}(hcl:Cls X.K c.C)(F:iX X.prog X.w X.K X.mg X.base c mn k ps g)(hr:iZ k X.A)(hmn:mn∉c.ns)(ho:QE X o co)(ha:QA X (e::es) cr)
  (hst:starEach (e::es) X.env=(false,eval e X.env)::starEach es X.env:=by rfl) (hpl:(backTo pos (starEach es X.env)).any (·.1)=false:=by rfl) (ht:eval (.Call (.Attribute o mn apos) (e::es) [] pos) X.env=(do
   let ov <-eval o X.env
   standAt apos.atName
   let (f,first) <-holding [ov] (getMethod ov mn pl)
   callWith pos f first (backTo pos (starEach (e::es) X.env)) (backToKw pos (keywordEach [] X.env))):=by rfl):QE X (.Call (.Attribute o mn apos) (e::es) [] pos) (eX c g co cr):=by
 obtain⟨fa,fd,hm,F,hb⟩:=F.ex
 exact(BZ ho hcl hm F hr hb .nil zR ha.h hst hpl ht).imp (wM hmn)
theorem iJ{mn:Str}{g:Fn}{k:Nat}{ps:List Str}{o:Expr}{co:CE}{apos:Pos}{pl:Sem Bool}(hcl:Cls X.K c.C)(F:iX X.prog X.w X.K X.mg X.base c mn k ps g)(hr:iZ k X.A)(hmn:mn∉c.ns)(ho:QE X o co)
  (ht:eval (.Call (.Attribute o mn apos) [] [] pos) X.env=(do
   let ov <-eval o X.env
   standAt apos.atName
   let (f,first) <-holding [ov] (getMethod ov mn pl)
   callWith pos f first (backTo pos (starEach [] X.env)) (backToKw pos (keywordEach [] X.env))):=by rfl):QE X (.Call (.Attribute o mn apos) [] [] pos) (eX c g co aE):=by
 obtain⟨fa,fd,hm,F,hb⟩:=F.ex
 refine(yN ho hcl hm F hr hb .nil zR ht).imp fun σ H Q h=>?_
 obtain⟨m,ρ,S,u,S',sr,lr,hc,k⟩:=wM hmn σ H Q h
 refine⟨m,ρ,S,u,S',sr,lr,hc,fun m1 v1 H1 e1 sr1 i1=>?_⟩
 obtain⟨a,dx,fs,h1,h2,h3,m2,ρ2,S2,us,S3,sr2,lr2,h4,h5⟩:=k m1 v1 H1 e1 sr1 i1
 cases h4
 exact⟨a,dx,fs,h1,h2,h3,h5 m2 [] H1 .refl sr2 .nil_⟩
structure CMk(P:Program)(w:World)(K:PySem.W.Frag)(mg:Str->Option Value)(base:Heap)(c:Cl)(x:Str)(k:Nat)(ps:List Str)(f:Fn):Prop where
 ex:∃fa fd,Mk K c.C fa/\nr P w K mg base CX0 k fa fd ps (Cd K f)/\d6 K fd ps []/\mg x=some (.ref c.C)
 nd:c.ns.Nodup
 few:c.ns.length<1000
theorem CMk.mono{P:Program}{w:World}{mg:Str->Option Value}{base:Heap}{x:Str}{j k:Nat}{ps:List Str}{f:Fn}(h:CMk P w K mg base c x j ps f)(l:j<=k):CMk P w K mg base c x k ps f:=by
 obtain⟨fa,fd,a,b,d⟩:=h.ex
 exact⟨⟨fa,fd,a,b.mono l,d⟩,h.nd,h.few⟩
def p6(c:Cl)(f:Fn):Fn:=fun us S=>(f (.ref S.length::us) (S++[.ins c (List.replicate c.ns.length none)])).bind fun p=>match p.1 with
 |.non=>some (.ref S.length,p.2)
 |_=>none
theorem wO{g:Fn}{cr:CA}(nd:c.ns.Nodup)(few:c.ns.length<1000):∀σ H Q,tE K (cCB (p6 c g) cr) σ H Q->zd c.C (Cd K g) [] E0 (tA K cr) σ H Q:=by
 rintro σ H Q ⟨m,ρ,S,u,S',sr,lr,hc,post⟩
 obtain⟨⟨us,S1⟩,h1,h2⟩:=Option.bind_eq_some_iff.mp hc
 obtain⟨⟨w,S2⟩,h3,h4⟩:=Option.bind_eq_some_iff.mp h2
 refine⟨m,ρ,S,us,S1,sr,lr,h1,fun m1 vs H1 e1 sr1 i1 x dx hx hdx ne=>?_⟩
 cases w with
 |non=>
  cases h4
  have s1:sx H1 (upd H1 dx (.own x)):=dW hdx _
  have hx2:(upd H1 dx (.own x)) x=none:=by rw[bN (Ne.symm ne)];exact hx
  have ee:Ext K m1 H1 (m1++[x]) (upd (upd H1 dx (.own x)) x (.ins c.C dx [])):=.new ⟨fun b xs q=>(cT hx2 _).t b xs ((fh s1).t b xs q),fun b xs q=>(cT hx2 _).l b xs ((fh s1).l b xs q)⟩
  refine⟨m1++[x],.ref S1.length::us,S1++[.ins c (List.replicate c.ns.length none)],.non,S2,.cons_ (.ref_ (fV sr1.len)) (by simpa using i1.mono ee),(sr1.same s1).new (o:=.ins c (List.replicate c.ns.length none)) hx2 ⟨dx,[],aX,InF.new nd few⟩,h3,fun m2 v2 H2 e2 sr2 i2=>⟨i2.of_non,?_⟩⟩
  exact post m2 _ H2 ((e1.trans ee).trans e2) sr2 (.ref_ (e2.get (fV sr1.len)))
 |_=>simp at h4
theorem Ew{x:Str}{g:Fn}{k:Nat}{ps:List Str}{es:List Expr}{cr:CA}{p:Pos}(M:CMk X.prog X.w X.K X.mg X.base c x k ps g)(hr:iZ (k+1) X.A)(hg:Gl X x)(ha:QA X (e::es) cr)
  (hdb:(x == ("__debug__":Str))=false:=by decide) (he:starEach (e::es) X.env=(false,eval e X.env)::starEach es X.env:=by rfl) (hpl:(backTo pos (starEach es X.env)).any (·.1)=false:=by rfl):QE X (.Call (.Name x p) (e::es) [] pos) (cCB (p6 c g) cr):=by
 obtain⟨fa,fd,hm,F,hb,hx⟩:=M.ex
 exact(B1 hm F hr hg hx hb .nil zR ha.h hdb he hpl).imp (wO M.nd M.few)
theorem zC{x:Str}{g:Fn}{k:Nat}{ps:List Str}{p:Pos}(M:CMk X.prog X.w X.K X.mg X.base c x k ps g)(hr:iZ (k+1) X.A)(hg:Gl X x)
  (hdb:(x == ("__debug__":Str))=false:=by decide):QE X (.Call (.Name x p) [] [] pos) (cCB (p6 c g) aE):=by
 obtain⟨fa,fd,hm,F,hb,hx⟩:=M.ex
 refine(yO hm F hr hg hx hb .nil zR hdb).imp fun σ H Q h=>?_
 obtain⟨m,ρ,S,us,S',sr,lr,hc,k⟩:=wO M.nd M.few σ H Q h
 cases hc
 exact k m [] H .refl sr .nil_
def qd:CE:=fun _ S=>some (.ref S.length,S++[.dic []])
theorem mW:QE X (.Dict [] [] pos) qd:=yR.imp fun σ H Q hz=>nB hz fun m ρ S u S' sr lr hc post=>by
 cases hc
 exact fun p hp=>post (m++[p]) _ _ (.new (cT hp _)) (sr.new hp ⟨[],aX,.nil_⟩) (.ref_ (fV sr.len))
def D0(cd ck cx:CE):CE:=fun ρ S=>(cd ρ S).bind fun p=>match p.1 with
 |.ref l=>match p.2[l]? with
  |some (.dic _)=>(ck ρ p.2).bind fun q=>(cx ρ q.2).bind fun r=>match r.2[l]? with
   |some (.dic kus)=>(m6 q.1).bind fun k=>some ((bw kus k).getD r.1,r.2)
   |_=>none
  |_=>none
 |_=>none
theorem Jy{o e f:Expr}{cd ck cx:CE}{apos:Pos}(hu:X.A.units+1<cLine)(ho:QE X o cd)(he:QE X e ck)(hf:QE X f cx)(hm:M2 X o "get" apos e f pos):QE X (.Call (.Attribute o "get" apos) [e,f] [] pos) (D0 cd ck cx):=(yS hu ho he hf hm).imp fun σ H Q hz=>nB hz fun m ρ S u S' sr lr hc post=>by
 obtain⟨⟨x,S1⟩,h1,h⟩:=Option.bind_eq_some_iff.mp hc
 refine⟨m,ρ,S,x,S1,sr,lr,h1,fun m1 v1 H1 e1 sr1 i1=>?_⟩
 cases x with
 |ref l=>
  simp only at h
  split at h<;>try cases h
  rename_i kus0 hS
  obtain⟨⟨ku,S2⟩,h2,h⟩:=Option.bind_eq_some_iff.mp h
  obtain⟨⟨xu,S3⟩,h3,h⟩:=Option.bind_eq_some_iff.mp h
  simp only at h
  split at h<;>try cases h
  rename_i kus hS3
  obtain⟨k,hk,h⟩:=Option.bind_eq_some_iff.mp h
  cases h
  obtain⟨a,ha,rfl⟩:=i1.of_ref
  obtain⟨a',ha',kvs0,hx0,_⟩:=sr1.get hS
  rw[ha]at ha';cases ha'
  refine⟨a,rfl,.inl ⟨kvs0,.inl hx0⟩,m1,ρ,S1,ku,S2,sr1,lr.mono e1,h2,fun m2 v2 H2 e2 sr2 i2=>⟨m2,ρ,S2,xu,_,sr2,lr.mono (e1.trans e2),h3,fun m3 v3 H3 e3 sr3 i3=>?_⟩⟩
  obtain⟨a',ha',kvs,hx,ip⟩:=sr3.get hS3
  rw[(e2.trans e3).get ha]at ha';cases ha'
  have ek:=jB (i2.mono e3) hk
  subst ek
  have rf:=IsP.val (k:=k) ip
  refine⟨_,DGet.k hx,post m3 _ H3 ((e1.trans e2).trans e3) sr3 ?_⟩
  cases hv:j9 kvs k with
  |none=>
   cases hw:bw kus k with
   |none=>exact i3
   |some w=>rw[hv,hw]at rf;exact rf.elim
  |some v=>
   cases hw:bw kus k with
   |none=>rw[hv,hw]at rf;exact rf.elim
   |some w=>rw[hv,hw]at rf;exact rf
 |_=>simp at h
end
def sN(n:Nat)(caps:List Nat)(ρ:Rho):Rho:=List.replicate n none++caps.map fun i=>(ρ[i]?).getD none
open Classical in
def jH(ok:Sto->Prop)(g:CG)(ce:CE)(l:Nat):List U->Rho->Sto->Option Sto
 |[],_,S=>if ok S then some S else none
 |u::us,ρ,S=>if ok S then(g u ρ S).bind fun p=>(ce p.1 p.2).bind fun r=>match r.2[l]? with
  |some (.lst ys)=>if ys.length<LIM then jH ok g ce l us p.1 (r.2.set l (.lst (ys++[r.1])))else none
  |_=>none else none
def iK(ci:CI)(g:CG)(ce:CE)(n:Nat)(caps:List Nat):CE:=fun ρ S=>(ci ρ S).bind fun p=>(jH p.2.1 g ce p.2.2.length p.1 (sN n caps ρ) (p.2.2++[.lst []])).bind fun S'=>some (.ref p.2.2.length,S')
section
variable{X:Cx}{K:PySem.W.Frag}
theorem z9{m:List Addr}{H:Hp}{ρ:Rho}{σ:L2.St}{n:Nat}{caps:List Nat}(lr:Lr K m H ρ σ):Lr K m H (sN n caps ρ) (OG.stC n caps σ):=by
 refine⟨by simp[sN,OG.stC],fun j u e=>?_⟩
 unfold sN at e
 unfold OG.stC
 by_cases c:j<n
 ·rw[List.getElem?_append_left (by simpa using c),List.getElem?_replicate]at e
  split at e<;>cases e
 ·rw[List.getElem?_append_right (by simp;omega),List.getElem?_map]at e ⊢
  simp only[List.length_replicate]at e ⊢
  cases q:caps[j-n]? with
  |none=>rw[q]at e;simp at e
  |some i=>
   rw[q]at e
   simp only[Option.map_some,Option.some.injEq]at e ⊢
   have e2:ρ[i]?=some (some u):=by
    cases z:ρ[i]? with
    |none=>rw[z]at e;simp at e
    |some y=>rw[z]at e;simp at e;rw[e]
   obtain⟨v,h1,h2⟩:=lr.at_ i u e2
   exact⟨v,by rw[h1];rfl,h2⟩
theorem Bb{g:CG}{ce:CE}{n:Nat}{caps:List Nat}{J:It}{us:List U}{ok:Sto->Prop}{Q:VK}{m1:List Addr}{H1:Hp}{S1 S':Sto}{ρ:Rho}{σ:L2.St}{l:Addr}(sr1:Sr K m1 S1 H1)(lr:Lr K m1 H1 ρ σ)(ito:D8 K J m1 H1 us ok)(hl:H1 l=none)(h2:jH ok g ce S1.length us (sN n caps ρ) (S1++[.lst []])=some S')
  (post:∀m2 H2,Ext K (m1++[l]) (upd H1 l (.lst [])) m2 H2->Sr K m2 S' H2->Q (.ref l) H2) :
  ∃W:Nat->Nat->L2.St->Hp->Prop,(∃m,W 0 m (OG.stC n caps σ) (upd H1 l (.lst [])))/\
 ∀i m σ' H2,W i m σ' H2->(J.stop i H2/\Q (.ref l) H2)\/(J.go i H2/\∃N:L2.St->Hp->Prop,(∀σ'' H',N σ'' H'->∃m',m'<m/\W (i+1) m' σ'' H')/\
  ∀x H3,J.yld i H2 x H3->tG K g x σ' H3 fun σ2 H4=>tE K ce σ2 H4 fun v H5=>∃ys,H5 l=some (.lst ys)/\ys.length<sizeLine/\N σ2 (upd H5 l (.lst (ys++[v])))):=by
 have ee:Ext K m1 H1 (m1++[l]) (upd H1 l (.lst [])):=.new (cT hl _)
 let W:Nat->Nat->L2.St->Hp->Prop:=fun i k σ2 H2=>k=us.length-i/\i<=us.length/\∃m2 ρ2 S2,Ext K (m1++[l]) (upd H1 l (.lst [])) m2 H2/\Sr K m2 S2 H2/\Lr K m2 H2 ρ2 σ2/\jH ok g ce S1.length (us.drop i) ρ2 S2=some S'
 refine⟨W,⟨us.length,by simp,Nat.zero_le _,m1++[l],sN n caps ρ,S1++[.lst []],.refl,sr1.new (o:=.lst []) hl ⟨[],aX,.nil_⟩,z9 (lr.mono ee),by simpa using h2⟩,?_⟩
 rintro i k σ2 H2 ⟨rfl,hi,m2,ρ2,S2,e2,sr2,lr2,hl2⟩
 by_cases hlt:i<us.length
 ·have hu:=List.getElem?_eq_getElem hlt
  rw[lG hu]at hl2
  unfold jH at hl2
  split at hl2
  ·rename_i hok
   obtain⟨⟨ρ3,S3⟩,h3,hl2⟩:=Option.bind_eq_some_iff.mp hl2
   obtain⟨⟨u4,S4⟩,h4,hl2⟩:=Option.bind_eq_some_iff.mp hl2
   simp only at hl2
   split at hl2<;>try cases hl2
   rename_i ys hys
   split at hl2<;>try cases hl2
   rename_i gZ
   obtain⟨hgo,hy⟩:=(ito m2 S2 H2 i (ee.trans e2) sr2 hok).1 _ hu
   refine .inr ⟨hgo,W (i+1) (us.length-(i+1)),fun σ' H' w'=>⟨_,by omega,w'⟩,fun x H3 y=>?_⟩
   obtain⟨e3,sr3,ix⟩:=hy x H3 y
   refine⟨m2,ρ2,S2,_,ρ3,S3,sr3,lr2.mono e3,ix,h3,fun m4 σ4 H4 e4 sr4 lr4=>⟨m4,ρ3,S3,u4,S4,sr4,lr4,h4,fun m5 v5 H5 e5 sr5 i5=>?_⟩⟩
   obtain⟨a',ha',xs,hx,il⟩:=sr5.get hys
   have ha:m5[S1.length]?=some l:=(((e2.trans e3).trans e4).trans e5).get (fV sr1.len)
   rw[ha]at ha';cases ha'
   have eu:Ext K m5 H5 m5 (upd H5 l (.lst (xs++[v5]))):=.of (sr5.keep ha _)
   refine⟨xs,hx,Kg (by rw[il.length];exact gZ),rfl,hlt,m5,ρ3,_,((((e2.trans e3).trans e4).trans e5).trans eu),sr5.put (o:=.lst (ys++[u4])) ha ⟨_,aX,(il.append (.cons_ i5 .nil_)).mono eu⟩,(lr4.mono (e5.trans eu)),hl2⟩
  ·cases hl2
 ·have e:i=us.length:=by omega
  subst e
  rw[List.drop_length]at hl2
  unfold jH at hl2
  split at hl2
  ·rename_i hok
   cases hl2
   exact .inl ⟨(ito m2 _ H2 _ (ee.trans e2) sr2 hok).2 (Nat.le_refl _),post m2 H2 e2 sr2⟩
  ·cases hl2
theorem xm{ci:CI}{g:CG}{ce:CE}{n:Nat}{caps:List Nat}:∀σ H Q,tE K (iK ci g ce n caps) σ H Q->Cb (tI K ci) (tG K g) (tE K ce) n caps σ H Q:=by
 rintro σ H Q ⟨m,ρ,S,u,S',sr,lr,hc,post⟩
 obtain⟨⟨us,ok,S1⟩,h1,h2⟩:=Option.bind_eq_some_iff.mp hc
 obtain⟨S2,h2,h3⟩:=Option.bind_eq_some_iff.mp h2
 cases h3
 refine⟨m,ρ,S,us,ok,S1,sr,lr,h1,fun m1 H1 J e1 sr1 ito l hl=>?_⟩
 have ee:Ext K m1 H1 (m1++[l]) (upd H1 l (.lst [])):=.new (cT hl _)
 exact Bb sr1 (lr.mono e1) ito hl h2 fun m2 H2 e2 sr2=>post m2 _ H2 ((e1.trans ee).trans e2) sr2 (.ref_ (e2.get (fV sr1.len)))
theorem qx{Nc capN tn:List Str}{scope:Scope}{cl:List (Str×Addr)}{n:Nat}{caps:List Nat}{tg iter elt:Expr}{pos:Pos}{ci:CI}{g:CG}{ce:CE}
  (hc:X.calm=true) (hi:QI X tg iter ci) (hg:∀s3 H3 fp,WG (cxC X Nc scope cl s3 H3 fp) tg (tG X.K g)) (he:∀s3 H3 fp,WE (cxC X Nc scope cl s3 H3 fp) elt (tE X.K ce))
  (hclos:closureFor scope X.env=pure cl) (hkind:scope.kind=.function) (hnl:∀x∈scope.names,x.2=.local->scope.names.lookup x.1=some .local) (hcell:∀x∈scope.names,x.2≠.cell)
  (hcl:xI X.env cl) (hhas:((relabel scope X.env).names.all fun p=>!(p.2 == .cell||p.2 == .free)||(cl.lookup p.1).isSome)=true)
  (hcap:Paired (Cap X scope cl) caps capN) (hN:Nc=tn++capN) (hn:tn.length=n)
  (hs:∀x,foldedSetIterable iter X.env x=pure x:=by intro _;rfl) :
  QE X (.ListComp elt [⟨tg,iter,[],0⟩] scope pos) (iK ci g ce n caps):=(B3 hc hi hg he hclos hkind hnl hcell hcl hhas hcap hN hn hs).imp xm
def ky:Fn
 |[.tup us],S=>some (.int us.length,S)
 |[.ref l],S=>match S[l]? with
  |some (.lst us)=>some (.int us.length,S)
  |some (.dic us)=>some (.int us.length,S)
  |_=>none
 |[.kl ns],S=>some (.int ns.length,S)
 |_,_=>none
abbrev Ny(K:PySem.W.Frag):List V->Hp->VK->Prop:=fun xs H Q=>(∃p ys,xs=[.ref p]/\(SqL K H p ys\/SqT K H p ys)/\Q (.int ys.length) H)\/∃a kvs,xs=[V.ref a]/\H a=some (.dK kvs)/\Q (.int kvs.length) H
theorem ki:ib X (.builtin "len") (Ny X.K):=uB.or Bg
theorem IsL.one{m:List Addr}{H:Hp}{vs:List V}{u:U}(h:IsL K m H vs [u]):∃v,vs=[v]/\Is K m H v u:=by
 obtain⟨x,r,rfl,i,t⟩:=h.of_cons
 rw[t.of_nil];exact⟨x,rfl,i⟩
theorem IsL.two{m:List Addr}{H:Hp}{vs:List V}{u w:U}(h:IsL K m H vs [u,w]):∃v x,vs=[v,x]/\Is K m H v u/\Is K m H x w:=by
 obtain⟨x,r,rfl,i,t⟩:=h.of_cons
 obtain⟨y,rfl,j⟩:=t.one
 exact⟨x,y,rfl,i,j⟩
theorem kh:qf K (Ny K) ky:=by
 intro m S H us vs u S' Q sr i hf post
 match us,hf with
 |[.tup ws],hf=>
  cases hf
  obtain⟨v,rfl,iv⟩:=i.one
  obtain⟨a,xs,rfl,sa,la⟩:=iv.of_tup
  exact .inl ⟨a,xs,rfl,.inr sa,by rw[la.length];exact post m _ H .refl sr .int_⟩
 |[.ref l],hf=>
  obtain⟨v,rfl,iv⟩:=i.one
  obtain⟨a,ha,rfl⟩:=iv.of_ref
  simp only[ky]at hf
  split at hf<;>try cases hf
  ·rename_i ws hS
   obtain⟨a',ha',xs,hx,la⟩:=sr.get hS
   rw[ha]at ha';cases ha'
   exact .inl ⟨a,xs,rfl,.inl (SqL.of hx),by rw[la.length];exact post m _ H .refl sr .int_⟩
  ·rename_i ws hS
   obtain⟨a',ha',xs,hx,la⟩:=sr.get hS
   rw[ha]at ha';cases ha'
   exact .inr ⟨a,xs,rfl,hx,by rw[IsP.length la];exact post m _ H .refl sr .int_⟩
 |[.kl ns],hf=>
  cases hf
  obtain⟨v,rfl,iv⟩:=i.one
  obtain⟨a,rfl,ka⟩:=iv.of_kl
  exact .inl ⟨a,_,rfl,.inl ka.sq,by rw[List.length_map];exact post m _ H .refl sr .int_⟩
def yk:Fn
 |[.tup us],S=>some (.ref S.length,S++[.lst us])
 |[.ref l],S=>match S[l]? with
  |some (.lst us)=>some (.ref S.length,S++[.lst us])
  |_=>none
 |_,_=>none
theorem J3:qf K (fun xs H Q=>∃p ys,xs=[.ref p]/\(SqL K H p ys\/SqT K H p ys)/\∀l,H l=none->Q (.ref l) (upd H l (.lst ys))) yk:=by
 intro m S H us vs u S' Q sr i hf post
 match us,hf with
 |[.tup ws],hf=>
  cases hf
  obtain⟨v,rfl,iv⟩:=i.one
  obtain⟨a,xs,rfl,sa,la⟩:=iv.of_tup
  exact⟨a,xs,rfl,.inr sa,fun l hl=>fg sr la post hl⟩
 |[.ref l],hf=>
  obtain⟨v,rfl,iv⟩:=i.one
  obtain⟨a,ha,rfl⟩:=iv.of_ref
  simp only[yk]at hf
  split at hf<;>try cases hf
  rename_i ws hS
  obtain⟨a',ha',xs,hx,la⟩:=sr.get hS
  rw[ha]at ha';cases ha'
  exact⟨a,xs,rfl,.inl (SqL.of hx),fun l hl=>fg sr la post hl⟩
def m9:Fn
 |[.tup us],S=>some (.tup us,S)
 |[.ref l],S=>match S[l]? with
  |some (.lst us)=>some (.tup us,S)
  |_=>none
 |_,_=>none
theorem uZ:qf K (fun xs H Q=>∃p ys,xs=[.ref p]/\((SqL K H p ys/\∀l,H l=none->Q (.ref l) (upd H l (.tup ys)))\/(SqT K H p ys/\Q (.ref p) H))) m9:=by
 intro m S H us vs u S' Q sr i hf post
 match us,hf with
 |[.tup ws],hf=>
  cases hf
  obtain⟨v,rfl,iv⟩:=i.one
  obtain⟨a,xs,rfl,sa,la⟩:=iv.of_tup
  exact⟨a,xs,rfl,.inr ⟨sa,post m _ H .refl sr iv⟩⟩
 |[.ref l],hf=>
  obtain⟨v,rfl,iv⟩:=i.one
  obtain⟨a,ha,rfl⟩:=iv.of_ref
  simp only[m9]at hf
  split at hf<;>try cases hf
  rename_i ws hS
  obtain⟨a',ha',xs,hx,la⟩:=sr.get hS
  rw[ha]at ha';cases ha'
  exact⟨a,xs,rfl,.inl ⟨SqL.of hx,fun l hl=>rH sr la post hl⟩⟩
def HU:Fn
 |[.int i],S=>some (.int i,S)
 |[.bl b],S=>some (.int (if b then 1 else 0),S)
 |_,_=>none
theorem MJ:qf K (fun xs H Q=>(∃i,xs=[.int i]/\Q (.int i) H)\/∃k,xs=[.bl k]/\Q (.int (if k then 1 else 0)) H) HU:=by
 intro m S H us vs u S' Q sr i hf post
 match us,hf with
 |[.int j],hf=>
  cases hf
  obtain⟨v,rfl,iv⟩:=i.one
  exact .inl ⟨j,by rw[iv.of_int],post m _ H .refl sr .int_⟩
 |[.bl j],hf=>
  cases hf
  obtain⟨v,rfl,iv⟩:=i.one
  exact .inr ⟨j,by rw[iv.of_bl],post m _ H .refl sr .int_⟩
def M5:Fn
 |[.int i,.int j],S=>some (.int (if j<i then j else i),S)
 |_,_=>none
theorem MI:qf K (fun xs H Q=>∃i j,xs=[.int i,.int j]/\Q (.int (if j<i then j else i)) H) M5:=by
 intro m S H us vs u S' Q sr i hf post
 match us,hf with
 |[.int j,.int k],hf=>
  cases hf
  obtain⟨v,w,rfl,iv,iw⟩:=i.two
  exact⟨j,k,by rw[iv.of_int,iw.of_int],post m _ H .refl sr .int_⟩
def yc:List U->Option (List Int)
 |[]=>some []
 |.int i::r=>(yc r).map (i::·)
 |_=>none
theorem xc:∀{us:List U} {ns:List Int},yc us=some ns->us=ns.map U.int
 |[],ns,h=>by cases h;rfl
 |u::r,ns,h=>by
  cases u<;>simp only[yc]at h<;>try cases h
  obtain⟨ms,e,h⟩:=Option.map_eq_some_iff.mp h
  subst h
  rw[xc e];rfl
theorem ub:∀(ns:List Int),yc (ns.map U.int)=some ns
 |[]=>rfl
 |n::r=>by simp[yc,ub r]
theorem IsL.ints{m:List Addr}{H:Hp}:∀{xs:List V} {ns:List Int},IsL K m H xs (ns.map U.int)->xs=ns.map V.int
 |xs,[],h=>h.of_nil
 |xs,n::ns,h=>by
  obtain⟨x,r,rfl,i,t⟩:=h.of_cons
  rw[IsL.ints t,i.of_int];rfl
theorem jS{m:List Addr}{H:Hp}:∀(ns:List Int),IsL K m H (ns.map V.int) (ns.map U.int)
 |[]=>.nil_
 |n::ns=>.cons_ .int_ (jS ns)
inductive Ty where
 |non|bool|int|str|tuple|list|dict
def Ty.nm:Ty->String
 |.non=>"NoneType"|.bool=>"bool"|.int=>"int"|.str=>"str"|.tuple=>"tuple"|.list=>"list"|.dict=>"dict"
def tyU:U->Sto->Option Ty
 |.non,_=>some .non|.bl _,_=>some .bool|.int _,_=>some .int|.str _,_=>some .str|.tup _,_=>some .tuple
 |.ref l,S=>match S[l]? with
  |some (.lst _)=>some .list
  |some (.dic _)=>some .dict
  |_=>none
 |.kl _,_=>none
def Ep:Ty->Ty->Bool
 |.non,.non=>true|.bool,.bool=>true|.bool,.int=>true|.int,.int=>true|.str,.str=>true|.tuple,.tuple=>true|.list,.list=>true|.dict,.dict=>true
 |_,_=>false
theorem oX(a b:Ty)(hb:b≠.non):PySem.W.kitOne K (.type a.nm) (.type b.nm)=some (Ep a b):=by
 cases b<;>first|exact absurd rfl hb|(cases a<;>rfl)
abbrev Ow(K:PySem.W.Frag):List V->Hp->VK->Prop:=fun xs H Q=>(∃(x:V) (T:String) (t:Value) (k:Bool),xs=[x,.ty T]/\xA K H x t/\PySem.W.kitOne K t (.type T)=some k/\Q (.bl k) H)\/
 ∃(a:Addr) (ys:List V) (T:String) (k:Bool),xs=[.ref a,.ty T]/\SqT K H a ys/\PySem.W.kitOne K (.type "tuple") (.type T)=some k/\Q (.bl k) H
theorem ML:ib X (.builtin "isinstance") (Ow X.K):=by
 refine vG.or ?_
 rintro pins s σ H xs us Q I r ⟨a,ys,T,k,rfl,sq,e,q⟩
 obtain⟨u,w',rfl,ru,rw'⟩:=FR r
 cases rw'
 cases ru
 obtain⟨its,rv,ht,hz⟩:=I.tuple sq
 obtain⟨o,h1,h2,_⟩:=ht
 exact PySem.W.kia_one PySem.W.kitx_tuple I.kIn ⟨o,h1,h2⟩ e (fun z=>nomatch z) fun tk=>⟨.bl k,H,I.tok tk,rfl,q⟩
def DZ(T:Ty)(ca:CE):CE:=fun ρ S=>(ca ρ S).bind fun p=>(tyU p.1 p.2).bind fun t=>some (.bl (Ep t T),p.2)
theorem Cr{T:Ty}{e eT:Expr}{ca:CE}{p pos:Pos}(hT0:T≠.non)(he:QE X e ca)(hT:WE X eT (tC (.ty T.nm)))(hg:Gl X "isinstance")(hm:X.mg "isinstance"=none)
  (h1:starEach [e,eT] X.env=(false,eval e X.env)::starEach [eT] X.env:=by rfl) (h2:starEach [eT] X.env=(false,eval eT X.env)::starEach [] X.env:=by rfl) (hpl:(backTo pos (starEach [eT] X.env)).any (·.1)=false:=by rfl) :
  QE X (.Call (.Name "isinstance" p) [e,eT] [] pos) (DZ T ca):=(nM ML hg hm OG.pD (fS he (fS hT j6 h2) h1) (by decide) (by decide) h1 hpl).imp fun σ H Q hz=>nB hz fun m ρ S u S' sr lr hc post=>by
 obtain⟨⟨x,S1⟩,h1,h2⟩:=Option.bind_eq_some_iff.mp hc
 obtain⟨t,ht,h3⟩:=Option.bind_eq_some_iff.mp h2
 cases h3
 refine⟨m,ρ,S,x,_,sr,lr,h1,fun m1 v1 H1 e1 sr1 i1=>?_⟩
 have fin:=post m1 _ H1 e1 sr1 (Is.bl_ (b:=Ep t T))
 cases x with
 |non=>cases ht;rw[i1.of_non];exact .inl ⟨_,_,_,_,rfl,.non,oX .non T hT0,fin⟩
 |bl b=>cases ht;rw[i1.of_bl];exact .inl ⟨_,_,_,_,rfl,.bl b,oX .bool T hT0,fin⟩
 |int i=>cases ht;rw[i1.of_int];exact .inl ⟨_,_,_,_,rfl,.int i,oX .int T hT0,fin⟩
 |str i=>cases ht;rw[i1.of_str];exact .inl ⟨_,_,_,_,rfl,.str i,oX .str T hT0,fin⟩
 |tup us=>
  cases ht
  obtain⟨a,xs,rfl,sa,la⟩:=i1.of_tup
  exact .inr ⟨a,xs,_,_,rfl,sa,oX .tuple T hT0,fin⟩
 |ref l=>
  obtain⟨a,ha,rfl⟩:=i1.of_ref
  simp only[tyU]at ht
  split at ht<;>try cases ht
  ·rename_i ws hS
   obtain⟨a',ha',xs,hx,la⟩:=sr1.get hS
   rw[ha]at ha';cases ha'
   exact .inl ⟨_,_,_,_,rfl,.lst hx,oX .list T hT0,fin⟩
  ·rename_i ws hS
   obtain⟨a',ha',xs,hx,la⟩:=sr1.get hS
   rw[ha]at ha';cases ha'
   exact .inl ⟨_,_,_,_,rfl,.dK hx,oX .dict T hT0,fin⟩
 |kl ns=>cases ht
def cBM(f:U->List U->Sto->Option (U×Sto))(co:CE)(cr:CA):CE:=fun ρ S=>(co ρ S).bind fun p=>match p.1 with
 |.ref l=>match p.2[l]? with
  |some (.lst _)=>(cr ρ p.2).bind fun q=>f p.1 q.1 q.2
  |_=>none
 |_=>none
def MtP(K:PySem.W.Frag)(r:V->List V->Hp->VK->Prop)(f:U->List U->Sto->Option (U×Sto)):Prop:=
 ∀m S H x v us vs u S' Q,Sr K m S H->Is K m H v x->IsL K m H vs us->f x us S=some (u,S')->lN K m H Q u S'->r v vs H Q
theorem Bo{r:V->List V->Hp->VK->Prop}{f:U->List U->Sto->Option (U×Sto)}{co:CE}{cr:CA}(hp:MtP K r f):∀σ H Q,tE K (cBM f co cr) σ H Q->tBM K "list" r (tE K co) (tA K cr) σ H Q:=by
 rintro σ H Q ⟨m,ρ,S,u,S',sr,lr,hc,post⟩
 obtain⟨⟨x,S1⟩,h1,h2⟩:=Option.bind_eq_some_iff.mp hc
 refine⟨m,ρ,S,x,S1,sr,lr,h1,fun m1 v1 H1 e1 sr1 i1=>?_⟩
 cases x with
 |ref l=>
  simp only at h2
  split at h2<;>try cases h2
  rename_i ws hS
  obtain⟨⟨us,S2⟩,h3,h4⟩:=Option.bind_eq_some_iff.mp h2
  obtain⟨a,ha,rfl⟩:=id i1.of_ref
  obtain⟨a',ha',xs,hx,la⟩:=sr1.get hS
  rw[ha]at ha';cases ha'
  exact⟨.inl ⟨rfl,xs,SqL.of hx⟩,m1,ρ,S1,us,S2,sr1,lr.mono e1,h3,fun m2 vs H2 e2 sr2 i2=>hp m2 S2 H2 _ _ us vs u S' Q sr2 (i1.mono e2) i2 h4 (post.mono (e1.trans e2))⟩
 |_=>simp at h2
def bY:U->List U->Sto->Option (U×Sto)
 |.ref l,[u],S=>match S[l]? with
  |some (.lst us)=>if us.length<LIM then some (.non,S.set l (.lst (us++[u])))else none
  |_=>none
 |_,_,_=>none
theorem C4:MtP K zv bY:=by
 intro m S H x v us vs u S' Q sr ix i hf post
 match x,us,hf with
 |.ref l,[w],hf=>
  simp only[bY]at hf
  split at hf<;>try cases hf
  rename_i ws hS
  split at hf<;>try cases hf
  rename_i hl
  obtain⟨a,ha,rfl⟩:=ix.of_ref
  obtain⟨a',ha',xs,hx,la⟩:=sr.get hS
  rw[ha]at ha';cases ha'
  obtain⟨y,rfl,iy⟩:=i.one
  have eu:Ext K m H m (upd H a (.lst (xs++[y]))):=.of (sr.keep ha _)
  exact⟨a,xs,y,rfl,rfl,hx,Kg (by rw[la.length];exact hl),post m _ _ eu (sr.put ha ⟨_,aX,(la.append (.cons_ iy .nil_)).mono eu⟩) .non_⟩
variable{e:Expr}{es:List Expr}{co:CE}{cr:CA}{o:Expr}{apos cpos:Pos}
theorem fT (ho : QE X o co) (ha : QA X (e :: es) cr) (hbase : attributeBase o "append" X.env (eval o X.env) = eval o X.env := by rfl) (hfew : ((backTo cpos (starEach (e :: es) X.env)).all (fun x => !x.1) && (backToKw cpos (keywordEach [] X.env)).all (fun x => x.1.isSome)
   && decide ((e::es).length+([]:List Keyword).length+(if ([]:List Keyword).isEmpty then 0 else 1)<30))=true:=by rfl) (hline:(apos.endLine == cpos.line)=true:=by rfl) (hs:starEach (e::es) X.env=(false,eval e X.env)::starEach es X.env:=by rfl) (hplain:(backTo cpos (starEach es X.env)).any (·.1)=false:=by rfl) :
  QE X (.Call (.Attribute o "append" apos) (e::es) [] cpos) (cBM bY co cr):=(yV PySem.F.plainAttrs_list PySem.F.slot_list_append PySem.F.type_list_append oR ho ha.h hbase hfew hline hs hplain).imp (Bo C4)
end
structure TC(K:PySem.W.Frag)(c:Cl)(NS:List Str):Prop where
 cl:Cls K c.C
 ns:c.ns=NS
 nas:∀f∈NS,j5 K c.C f
section
variable{K:PySem.W.Frag}{c:Cl}{NS:List Str}
theorem TC.ix(T:TC K c NS){i:Nat}{f:Str}(h:NS[i]?=some f):c.ns[i]?=some f:=by rw[T.ns];exact h
theorem TC.na(T:TC K c NS)(i:Nat){f:Str}(h:NS[i]?=some f):j5 K c.C f:=T.nas f (List.mem_of_getElem? h)
theorem TC.nm(T:TC K c NS){f:Str}(h:f∉NS):f∉c.ns:=by rw[T.ns];exact h
end
theorem _root_.L2.Fun.pure{P:Program}{w:World}{K:PySem.W.Frag}{mg:Str->Option Value}{base:Heap}{x qual:Str}{st:Stmt}{f:Addr}{fd:FuncData}{N ps:List Str}{k:Nat}{c:CS}(F:Fun K x qual st f fd)(S:aS N ps (av st))
  (hb:∀(cdv:Value) (A:Around) (outer:List Env) (s:Shared) (H:Hp) (E:XK),iZ k (A.deeper (envOfC qual (av st) s.heap.objs.size f cdv))->
   WSs (yB CX0 P w K mg base N qual (av st) f cdv A outer s H E).nox (aM st) (tS K c)):nr P w K mg base CX0 (k+1) f fd ps (Cd K (fnU N.length ps.length c)):=
 Fun.okW F S (fun vs H Q E h=>wj h) fun cdv A outer s H vs Q E hr h=>⟨_,hb cdv A outer s H E hr,AE (X:=(yB CX0 P w K mg base N qual (av st) f cdv A outer s H E).nox) (body:=[]) (ps:=ps) rfl h⟩
def SI:Bool->Heap->Addr->Addr->Nat->Prop
 |true,h,it,a,i=>h.IsListIter it a i
 |false,h,it,a,i=>h.IsTupleIter it a i
def SA:Bool->Heap->Addr->Array Value->Prop
 |true,h,a,xs=>h.IsList a xs
 |false,h,a,xs=>h.IsTuple a xs
theorem SI.at_{b:Bool}{h h':Heap}{it a:Addr}{i:Nat}(x:SI b h it a i)(k:∀o,h.get? it=some o->h'.get? it=some o):SI b h' it a i:=by
 cases b with
 |true=>obtain⟨o,e,r⟩:=x;exact⟨o,k o e,r⟩
 |false=>obtain⟨o,e,r⟩:=x;exact⟨o,k o e,r⟩
theorem SA.at_{b:Bool}{h h':Heap}{a:Addr}{xs:Array Value}(x:SA b h a xs)(k:∀o,h.get? a=some o->h'.get? a=some o):SA b h' a xs:=by
 cases b with
 |true=>obtain⟨o,e,r⟩:=x;exact⟨o,k o e,r⟩
 |false=>obtain⟨o,e,r⟩:=x;exact⟨o,k o e,r⟩
theorem SI.obj{b:Bool}{h:Heap}{it a:Addr}{i:Nat}(x:SI b h it a i):∃o,h.get? it=some o/\∀v,o.data≠.cell v:=by
 cases b with
 |true=>obtain⟨o,e,c,d⟩:=x;exact⟨o,e,fun v z=>by rw[d]at z;cases z⟩
 |false=>obtain⟨o,e,c,d⟩:=x;exact⟨o,e,fun v z=>by rw[d]at z;cases z⟩
theorem SA.lt{b:Bool}{h:Heap}{a:Addr}{xs:Array Value}(x:SA b h a xs):a<h.objs.size:=by
 cases b with
 |true=>obtain⟨o,e,_⟩:=x;exact Heap.lt_size e
 |false=>obtain⟨o,e,_⟩:=x;exact Heap.lt_size e
section
variable{prog:Program}{w:World}{A:Around}{E:Value->Shared->Prop}{s:Shared}
theorem B9{I t:Addr}{j:Nat}{ys:Array Value}{y:Value}{Q:Value->Shared->Prop}(hI:s.heap.IsTupleIter I t j)(hT:s.heap.IsTuple t ys)(hy:ys[j]?=some y)
  (k:∀h',h'.IsTupleIter I t (j+1)->Heap.SameBut I s.heap h'->Q y { s with heap:=h' }):wpAny (model prog w) A (Builtin.SmallTypes.nextOf (.ref I)) Q E s:=by
 obtain⟨oi,gi,ci,di⟩:=id hI
 obtain⟨ot,gt,_,nt,dt⟩:=hT
 unfold Builtin.SmallTypes.nextOf
 refine wpAny_bind (wpAny_callSpecial?_slot (name:=Str.ofString "__next__") hI.typeIs PySem.F.slot_tuple_iterator_next (wpAny_call_entry PySem.F.slot_tuple_iterator_next hI.typeIs PySem.F.entry_tuple_iterator_next ?_ (PySem.F.args_tuple_iterator_next_1 _)))
 show wpAny _ _ (field (.ref I) 0 >>= _) _ _ s
 refine wpAny_bind (wpAny_field gi di (x:=.ref t) rfl ?_)
 show wpAny _ _ (ite ((Value.ref t == Value.none)=true) _ _) _ _ s
 rw[if_neg (by exact Bool.false_ne_true)]
 show wpAny _ _ (field (.ref I) 1 >>= _) _ _ s
 refine wpAny_bind (wpAny_field gi di (x:=.int j 0) rfl ?_)
 show wpAny _ _ (seqItems? (.ref t) >>= _) _ _ s
 refine wpAny_bind (wpAny_seqItems gt dt ?_)
 simp only[hy,Int.toNat_natCast]
 refine wpAny_bind (wpAny_setField gi di (by simp) (wpAny_pure ⟨y,rfl,wpAny_pure (k _ ⟨_,Heap.get?_update_self _ gi (Obj.isFreed_of_fields (Obj.data_mapFields di _)),(Obj.cls_mapFields ..).trans ci,?_⟩ (Heap.SameBut.update ..))⟩))
 rw[Obj.data_mapFields di];simp[rawInt]
theorem tf{I t:Addr}{j:Nat}{ys:Array Value}{Q:Value->Shared->Prop}(hh:A.handled=none)(hI:s.heap.IsTupleIter I t j)(hT:s.heap.IsTuple t ys)(hy:ys[j]?=none)
  (k:∀h' e,Heap.ExtBut I s.heap h'->(∃o,h'.get? e=some o/\o.cls=.type "StopIteration")->E (.ref e) { s with heap:=h' }):wpAny (model prog w) A (Builtin.SmallTypes.nextOf (.ref I)) Q E s:=by
 obtain⟨oi,gi,ci,di⟩:=id hI
 obtain⟨ot,gt,_,nt,dt⟩:=hT
 unfold Builtin.SmallTypes.nextOf
 refine wpAny_bind (wpAny_callSpecial?_slot (name:=Str.ofString "__next__") hI.typeIs PySem.F.slot_tuple_iterator_next (wpAny_call_entry PySem.F.slot_tuple_iterator_next hI.typeIs PySem.F.entry_tuple_iterator_next ?_ (PySem.F.args_tuple_iterator_next_1 _)))
 show wpAny _ _ (field (.ref I) 0 >>= _) _ _ s
 refine wpAny_bind (wpAny_field gi di (x:=.ref t) rfl ?_)
 show wpAny _ _ (ite ((Value.ref t == Value.none)=true) _ _) _ _ s
 rw[if_neg (by exact Bool.false_ne_true)]
 show wpAny _ _ (field (.ref I) 1 >>= _) _ _ s
 refine wpAny_bind (wpAny_field gi di (x:=.int j 0) rfl ?_)
 show wpAny _ _ (seqItems? (.ref t) >>= _) _ _ s
 refine wpAny_bind (wpAny_seqItems gt dt ?_)
 simp only[hy,Int.toNat_natCast]
 refine wpAny_bind (wpAny_rule (wpAny_bind (wpAny_setField gi di (by simp) ?_)))
 show wpAny _ _ (newExc (.type "StopIteration") [] >>= _) _ _ _
 simp only[newExc,newTuple];refine wpAny_bind ?_
 refine wpAny_bind (wpAny_newObj_type ?_ (by(size_fits)))
 refine wpAny_bind (m:=firstArgMember _ _) (wpAny_of_eq (a:=Value.none) (by simp only[firstArgMember]<;>rfl) ?_)
 refine wpAny_newObj_type ?_ (by(size_fits))
 simp only[raiseNew]
 refine wpAny_bind (wpAny_handled ?_)
 rw[show A.in1.handled=none from hh]
 exact wpAny_bind (wpAny_pure (wpAny_throw (k _ _ (((Heap.SameBut.update ..).extBut.push _).push _) ⟨_,Heap.get?_push_size _ rfl,rfl⟩)))
theorem FZ{b:Bool}{I t:Addr}{j:Nat}{ys:Array Value}{y:Value}{Q:Value->Shared->Prop}(hI:SI b s.heap I t j)(hT:SA b s.heap t ys)(hy:ys[j]?=some y)
  (k:∀h',SI b h' I t (j+1)->Heap.SameBut I s.heap h'->Q y { s with heap:=h' }):wpAny (model prog w) A (Builtin.SmallTypes.nextOf (.ref I)) Q E s:=by
 cases b with
 |true=>exact wpAny_nextOf_list_item hI hT hy k
 |false=>exact B9 hI hT hy k
theorem nQ{b:Bool}{I t:Addr}{j:Nat}{ys:Array Value}{Q:Value->Shared->Prop}(hh:A.handled=none)(hI:SI b s.heap I t j)(hT:SA b s.heap t ys)(hy:ys[j]?=none)
  (k:∀h' e,Heap.ExtBut I s.heap h'->(∃o,h'.get? e=some o/\o.cls=.type "StopIteration")->E (.ref e) { s with heap:=h' }):wpAny (model prog w) A (Builtin.SmallTypes.nextOf (.ref I)) Q E s:=by
 cases b with
 |true=>exact wpAny_nextOf_list_end hh hI hT hy k
 |false=>exact tf hh hI hT hy k
def itO(b:Bool)(a:Addr):Obj:={ cls:=.type (if b then "list_iterator" else "tuple_iterator"),data:=.fields #[.ref a,.int 0 0] }
theorem Ky{b:Bool}{a i:Addr}{h:Heap}(e:h.get? i=some (itO b a)):SI b h i a 0:=by
 cases b with
 |true=>exact⟨_,e,rfl,rfl⟩
 |false=>exact⟨_,e,rfl,rfl⟩
end
def Sq(K:PySem.W.Frag):Bool->Hp->Addr->List V->Prop
 |true,H,a,xs=>SqL K H a xs
 |false,H,a,xs=>SqT K H a xs
section
variable{X:Cx}{pins:List (Addr×Obj)}{σ:L2.St}{H:Hp}{s:Shared}{h':Heap}
theorem _root_.L2.Inv.turnedL{t':Nat}{ch:List Addr}(I:Inv X pins σ H s)(k:∀b o,b∉ch->s.heap.get? b=some o->h'.get? b=some o)(hf:∀b∈ch,yC X pins H b):Inv X pins σ H { s with heap:=h',toks:=t' }:=by
 have nit:∀b u,H b=some u->b∉ch:=fun b u e z=>by rw[(hf b z).1]at e;cases e
 refine I.step (g':=s.gens) (d':=s.drawn) (ch:=ch) (fun b hb=>⟨(hf b hb).2.2.2.1,(hf b hb).2.1,(hf b hb).2.2.2.2.1,(hf b hb).2.2.2.2.2⟩) (fun b o _ _ hc e _=>k b o hc e) (fun b o _ _ hc e _=>⟨o.slots,k b o hc e⟩) (fun _ _ _ _ n=>n)
  (fun b o hc e=>⟨o,k b o hc e⟩) (fun _ _ e=>e) (fun _ _ _ e=>e) (fun b ps e=>⟨#[],by rw[e];simp⟩) (fun m hm=>?_) (fun b u e=>?_) I.bare
 ·obtain⟨o,es,ep,ho,r⟩:=hm
  exact⟨o,es,ep,k _ o (fun z=>(hf _ z).2.1 rfl) ho,r⟩
 ·refine(I.hok b u e).stay (fun c v hc q=>k c v ?_ q) (fun _ q=>q) fun _ _ q=>q
  rcases hc with z|z
  ·rw[z];exact nit b u e
  ·exact nit c _ z
theorem _root_.L2.Inv.sq{b:Bool}{a:Addr}{xs:List V}(I:Inv X pins σ H s)(h:Sq X.K b H a xs):∃its:List Value,cE xs its/\SA b s.heap a its.toArray:=by
 cases b with
 |true=>obtain⟨its,r,p,_⟩:=I.list h;exact⟨its,r,p.isList⟩
 |false=>obtain⟨its,r,p,_⟩:=I.tuple h;exact⟨its,r,p⟩
theorem _root_.L2.Inv.sq_inj{b:Bool}{a:Addr}{xs ys:List V}(I:Inv X pins σ H s)(h:Sq X.K b H a xs)(h2:Sq X.K b H a ys):xs=ys:=by
 cases b with
 |true=>exact I.list_inj h h2
 |false=>exact I.tuple_inj h h2
end
theorem Cy{h:Heap}{ob o:Obj}{e:Addr}(q:(h.push ob).get? e=some o)(ne:e≠h.objs.size):h.get? e=some o:=(Heap.get?_push_ne h e ob ne).symm.trans q
theorem CV{P:Program}{w:World}{H:Hp}{h:Heap}{a:Addr}{x y:V}{u v:Value}(e:h.get? a=some { cls:=.type "tuple",data:=.seq #[u,v] })(rx:dJ x u)(ry:dJ y v):dS P w H h a (.tup [x,y]):=
 ⟨by show 2<=sizeLine;decide,[u,v],.cons rx (.cons ry .nil),⟨_,e,rfl,_,rfl⟩⟩
section
variable{X:Cx}{pos:Pos}
def Ck:U->Sto->Option (List U×(Sto->Prop))
 |.tup us,_=>some (us,fun _=>True)
 |.ref l,S=>match S[l]? with
  |some (.lst us)=>some (us,fun S=>S[l]?=some (.lst us))
  |_=>none
 |_,_=>none
theorem Jq{K:PySem.W.Frag}{m:List Addr}{S:Sto}{H:Hp}{u:U}{v:V}{us:List U}{ok:Sto->Prop}(sr:Sr K m S H)(iu:Is K m H v u)(h:Ck u S=some (us,ok)) :
  ∃b a,v=.ref a/\(∃xs,Sq K b H a xs)/\∀m2 S2 H2,Ext K m H m2 H2->Sr K m2 S2 H2->ok S2->∃xs,Sq K b H2 a xs/\IsL K m2 H2 xs us:=by
 cases u with
 |tup ws=>
  cases h
  obtain⟨a,xs,rfl,sq,il⟩:=iu.of_tup
  exact⟨false,a,rfl,⟨xs,sq⟩,fun m2 S2 H2 e _ _=>⟨xs,e.keep.t _ _ sq,il.mono e⟩⟩
 |ref l=>
  simp only[Ck]at h
  split at h<;>try cases h
  rename_i us hS
  obtain⟨a,ha,rfl⟩:=iu.of_ref
  obtain⟨a',ha',xs,hx,il⟩:=sr.get hS
  rw[ha]at ha';cases ha'
  refine⟨true,a,rfl,⟨xs,SqL.of hx⟩,fun m2 S2 H2 e sr2 hok=>?_⟩
  obtain⟨a',ha',xs,hx,il⟩:=sr2.get hok
  rw[e.get ha]at ha';cases ha'
  exact⟨xs,SqL.of hx,il⟩
 |_=>simp[Ck]at h
end
theorem HA{b:Bool}{prog:Program}{w:World}{A:Around}(hh:A.handled=none)(it a:Addr)(hne:a≠it)(ys:Array Value) :
  Draws prog w A it [it,a] ys.size (fun i v=>ys[i]?=some v) (fun i h=>SI b h it a i/\SA b h a ys) where
 live:=fun _ _ st=>let ⟨o,ho,_⟩:=st.1.obj;⟨o,ho⟩
 frame:=fun _ _ _ st hk=>⟨st.1.at_ fun o e=>hk it (by simp) o e,st.2.at_ fun o e=>hk a (by simp) o e⟩
 item:=fun i s Q E hi st hQ=>FZ st.1 st.2 (y:=ys[i]) (by simp[hi]) fun h' it' s'=>hQ _ h' s.toks (by simp[hi]) ⟨it',st.2.at_ fun o e=>s'.extBut _ _ hne e⟩ s'
 done:=fun s Q E st hE=>nQ hh st.1 st.2 (by simp) hE
structure ESt(b:Bool)(h:Heap)(e it a:Addr)(n:Nat):Prop where
 he:∃old,IsEnum h e it n old
 hi:SI b h it a n
theorem AN(l:Addr)(ys:Array Value)(n:Nat)(dct:Option Addr)(sl:Array (Option Value)) :
  Meets (Builtin.«enumerate.__new__» ⟨[.type "enumerate",.ref l],[]⟩) (fun _ R s=>s.heap.get? l=some { cls:=.type "tuple",dict:=dct,data:=.seq ys n,slots:=sl }/\
   R (.ok (.ret (.ref (s.heap.push (itO false l)).objs.size))) { s with heap:=(s.heap.push (itO false l)).push { cls:=.type "enumerate",data:=.fields #[.none,.bool false,.ref s.heap.objs.size,rawInt 0,.none,.none] } }):=
 .of_wp fun prog w A R s q=>by
  obtain⟨hp,g,d,tk,os⟩:=s
  obtain⟨gl,q⟩:=q
  have sb:=sub_enumerate
  have tl:Heap.IsTuple (Shared.heap ⟨hp,g,d,tk,os⟩) l ys:=⟨_,gl,rfl,n,rfl⟩
  wp_walk using wpAny_loadPart' gl
  refine wpAny_stack_any (fun st=>wpAny_pure ?_)
  split
  ·rename_i c _ _ _ _ _
   cases (c == Value.type "enumerate")<;>(wp_walk using wpAny_loadPart' gl,wpAny_pyIter_tuple tl;exact⟨_,rfl,q⟩)
  ·wp_walk using wpAny_loadPart' gl,wpAny_pyIter_tuple tl
   exact⟨_,rfl,q⟩
theorem AO{b:Bool}{prog:Program}{w:World}{A:Around}{E:Value->Shared->Prop}{s:Shared}{a:Addr}{ys:Array Value}{Q:Value->Shared->Prop}(ha:SA b s.heap a ys)
  (k:∀h' e it,e≠it->s.heap.objs.size<=e->s.heap.objs.size<=it->ESt b h' e it a 0->(∀c o,s.heap.get? c=some o->h'.get? c=some o)->Q (.ref e) { s with heap:=h' }) :
  wpAny (model prog w) A (call (.type "enumerate") [.ref a]) Q E s:=by
 cases b with
 |true=>exact call_enumerate_list ha fun h' e1 e2 sz up=>k h' _ _ (by omega) (Nat.le_add_right _ _) (Nat.le_refl _) ⟨⟨_,e1⟩,e2⟩ up
 |false=>
  obtain⟨⟨c,dct,dt,sl⟩,gl,hc,n,hd⟩:=ha
  simp only at hc hd
  subst hc hd
  refine callType_new PySem.F.called_enumerate (by decide) (PySem.F.typeCall_enumerate_1 _) (PySem.F.newCall_enumerate_1 _) (fun obj=>PySem.F.args_object_init_2 obj _) PySem.F.entry_enumerate_new (AN a ys n dct sl) ⟨gl,?_⟩
  have n1:(s.heap.push (itO false a)).objs.size=s.heap.objs.size+1:=Heap.size_push ..
  have p2:=Heap.get?_push_size (s.heap.push (itO false a)) (o:={ cls:=.type "enumerate",data:=.fields #[.none,.bool false,.ref s.heap.objs.size,rawInt 0,.none,.none] }) rfl
  have p1:((s.heap.push (itO false a)).push { cls:=.type "enumerate",data:=.fields #[.none,.bool false,.ref s.heap.objs.size,rawInt 0,.none,.none] }).get? s.heap.objs.size=some (itO false a):=Heap.get?_push_of_some _ (Heap.get?_push_size _ rfl)
  rw[n1]at p2
  show _/\_
  rw[n1]
  exact⟨⟨_,p2,rfl⟩,k _ (s.heap.objs.size+1) s.heap.objs.size (Nat.ne_of_gt (Nat.lt_succ_self _)) (Nat.le_add_right _ _) (Nat.le_refl _) ⟨⟨_,p2⟩,Ky p1⟩ fun c o x=>Heap.get?_push_of_some _ (Heap.get?_push_of_some _ x)⟩
theorem DG{b:Bool}{prog:Program}{w:World}{A:Around}{E:Value->Shared->Prop}{s:Shared}{e it a:Addr}{i:Int}{j:Nat}{ys:Array Value}{old:Value}{Q:Option Value->Shared->Prop}(hh:A.in1.handled=none)(he:IsEnum s.heap e it i old)(hi:SI b s.heap it a j)(ha:SA b s.heap a ys)(hx:ys[j]?=none)
  (k:∀h',Heap.ExtBut it s.heap h'->Q none { s with heap:=h' }):wpAny (model prog w) A (pyNext (.ref e)) Q E s:=by
 have ty:s.TypeIs (.ref e) "enumerate":=⟨_,he,rfl⟩
 unfold pyNext
 refine wpAny_bind (wpAny_attempt (wpAny_callSpecial?_slot (name:=Str.ofString "__next__") ty PySem.F.slot_enumerate_next (wpAny_call_entry PySem.F.slot_enumerate_next ty PySem.F.entry_enumerate_next ?_ (PySem.F.args_enumerate_next_1 _))))
 show wpAny _ _ (field (.ref e) 2 >>= fun _=>_) _ _ _
 refine wpAny_bind (wpAny_field he rfl (x:=.ref it) rfl (wpAny_bind (nQ hh hi ha hx fun h' x he' hx'=>?_)))
 obtain⟨o,ho,co⟩:=hx'
 exact wpAny_bind (wpAny_isInstance (T:="StopIteration") (b:=true) ⟨o,ho,co⟩ isSubtype_stop (wpAny_pure (k _ he')))
def Ite(K:PySem.W.Frag)(b:Bool)(a:Addr):It:=
  ⟨fun i H=>∃xs x,Sq K b H a xs/\xs[i]?=some x,
   fun i H v H'=>∃p x,v=.ref p/\H p=none/\H'=upd H p (.tup [.int i,x])/\∀xs,Sq K b H a xs->xs[i]?=some x,
   fun i H=>∃xs,Sq K b H a xs/\xs.length<=i⟩
theorem y6{P:Program}{w:World}{K:PySem.W.Frag}{es:List Expr}{k:Nat}{pos:Pos}{b:Bool}{e it a:Addr}(ne:e≠it)(nae:a≠e)(nai:a≠it) :
  HW P w K (.Tuple es k pos) (Ite K b a) [e,it] e (fun n h=>ESt b h e it a n) where
 mem:=by simp
 obj:=fun n h st c hc=>by
  obtain⟨⟨old,he⟩,hi⟩:=st
  simp only[List.mem_cons,List.not_mem_nil,or_false]at hc
  rcases hc with rfl|rfl
  ·exact⟨_,he,fun v q=>by cases q⟩
  ·exact hi.obj
 keep:=fun n h h' st kp=>let ⟨old,he⟩:=st.he;⟨⟨old,kp e (by simp) _ he⟩,st.hi.at_ fun o q=>kp it (by simp) o q⟩
 item:=by
  intro X hP hw hK hc n pins s σ H E Iv hf st hg
  subst hP hw hK
  obtain⟨xs,x,qa,hx⟩:=hg
  obtain⟨ia,ra,sa⟩:=Iv.sq qa
  obtain⟨u,hu,ru⟩:=ra.get hx
  obtain⟨⟨old,he⟩,hi⟩:=st
  have hlt:n<ia.toArray.size:=by simpa using (List.getElem?_eq_some_iff.mp hu).1
  refine wpAny_pyNext_enum_itemD (HA (b:=b) (show X.A.in1.handled=none from Iv.ok.hd hc) it a nai ia.toArray) he ⟨hi,sa⟩ hlt ne (by simp[ne,Ne.symm nae]) fun y h1 tk py out1 st1 T1 sz1 up1=>⟨_,rfl,wpAny_letOwnedTupleGo_enum out1 fun h2 e2 s2=>?_⟩
  have ey:y=u:=by
   have p':ia.toArray[n]?=some y:=py
   rw[List.getElem?_toArray,hu]at p';cases p';rfl
  subst ey
  have hfr:H s.heap.objs.size=none:=Iv.hok.fresh (Nat.le_refl _)
  have elt:e<s.heap.objs.size:=Heap.lt_size he
  have ilt:it<s.heap.objs.size:=by obtain⟨o,q,_⟩:=hi.obj;exact Heap.lt_size q
  have sz:∀c∈[e,it],c<s.heap.objs.size:=fun c hc=>by
   simp only[List.mem_cons,List.not_mem_nil,or_false]at hc
   rcases hc with rfl|rfl
   ·exact elt
   ·exact ilt
  have T2:h2.get? s.heap.objs.size=some { cls:=.type "tuple",data:=.seq #[.int n tk,y] }:=s2.extBut _ _ (Nat.ne_of_gt elt) T1
  have I1:Inv X pins σ (upd H s.heap.objs.size (.tup [.int n,x])) { s with heap:=s.heap.push { cls:=.type "tuple",data:=.seq #[.int n tk,y] },toks:=s.toks }:=
   Iv.laid (fun b o e=>Heap.get?_push_of_some _ e) (Nat.le_refl _) (CV (Heap.get?_push_size _ rfl) ⟨tk,rfl⟩ ru)
  have fr2:∀c∈[e,it],(upd H s.heap.objs.size (.tup [.int n,x])) c=none:=fun c hc=>by rw[bN (Nat.ne_of_lt (sz c hc))];exact(hf c hc).1
  have I2:Inv X pins σ (upd H s.heap.objs.size (.tup [.int n,x])) { s with heap:=h2,toks:=tk+1 }:=
   Inv.turnedL (s:={ s with heap:=s.heap.push { cls:=.type "tuple",data:=.seq #[.int n tk,y] },toks:=s.toks }) (h':=h2) (t':=tk+1) (ch:=[e,it]) I1 (fun c o hn q=>by
    by_cases ce:c=s.heap.objs.size
    ·subst ce
     have q':(s.heap.push { cls:=.type "tuple",data:=.seq #[.int n tk,y] }).get? s.heap.objs.size=some o:=q
     rw[Heap.get?_push_size _ rfl]at q'
     cases q';exact T2
    ·have q':s.heap.get? c=some o:=Cy q ce
     simp only[List.mem_cons,List.not_mem_nil,or_false,not_or]at hn
     exact s2.extBut _ _ hn.1 (up1 c o hn.1 hn.2 q')) fun c hc=>⟨fr2 c hc,(hf c hc).2⟩
  refine⟨.ref s.heap.objs.size,_,I2,rfl,⟨_,x,rfl,hfr,rfl,fun xs' q=>by rw[Iv.sq_inj q qa];exact hx⟩,⟨⟨_,by simpa using e2⟩,st1.1.at_ fun o q=>s2.extBut _ _ (Ne.symm ne) q⟩,fr2⟩
 done:=by
  intro X hP hw hK hc n pins s σ H E Iv hf st hg
  subst hP hw hK
  obtain⟨xs,qa,hx⟩:=hg
  obtain⟨ia,ra,sa⟩:=Iv.sq qa
  have la:=ra.length
  obtain⟨⟨old,he⟩,hi⟩:=st
  refine DG (show X.A.in1.handled=none from Iv.ok.hd hc) he hi sa (by simp;omega) fun h1 up1=>⟨rfl,?_⟩
  exact Iv.turnedL (t':=s.toks) (ch:=[e,it]) (fun c o hn q=>by
   simp only[List.mem_cons,List.not_mem_nil,or_false,not_or]at hn
   exact up1 c o hn.2 q) hf
 self:=fun _ _ _ _ _ st h=>let ⟨old,he⟩:=st.he;wpAny_pyIter_enum he h
def KG(K:PySem.W.Frag)(ta:TA):TI:=fun σ H R=>ta σ H fun vs H2=>∃b a,vs=[.ref a]/\(∃xs,Sq K b H2 a xs)/\R (Ite K b a) H2
theorem Bm:bootBuiltins "enumerate"=some (.type "enumerate"):=rfl
section
variable{X:Cx}{pos:Pos}
theorem FO{es:List Expr}{k:Nat}{tp p:Pos}{a:Expr}{ta:TA}(hg:Gl X "enumerate")(hm:X.mg "enumerate"=none)(ha:WA X [a] ta)
  (hs:starEach [a] X.env=(false,eval a X.env)::starEach [] X.env:=by rfl) (hpl:(backTo pos (starEach [] X.env)).any (·.1)=false:=by rfl):WI X (.Tuple es k tp) (.Call (.Name "enumerate" p) [a] [] pos) (KG X.K ta):=by
 constructor
 intro pins s σ H R I h
 refine wpAny_Call_Name_kw (oW I hg hm OP.Bm ?_)
 refine PyProof.Rows.callWith_type1 (thn (ha.h pos pins s σ H _ I h) fun us s1 hz=>?_) hs hpl
 obtain⟨vs,H1,I1,r1,q1⟩:=hz
 obtain⟨b,aa,rfl,⟨xs,qa⟩,q⟩:=q1
 obtain⟨u,rfl,ru⟩:=pQ r1
 cases ru
 obtain⟨ia,ra,sa⟩:=I1.sq qa
 refine AO sa fun h1 e it ne he hi st up=>?_
 obtain⟨old,hE⟩:=st.he
 refine wpAny_pyIter_enum hE ⟨e,[e,it],_,_,H1,rfl,I1.kept (t':=s1.toks) up,y6 ne (Nat.ne_of_lt (Nat.lt_of_lt_of_le sa.lt he)) (Nat.ne_of_lt (Nat.lt_of_lt_of_le sa.lt hi)),st,fun c hc=>?_,q⟩
 simp only[List.mem_cons,List.not_mem_nil,or_false]at hc
 rcases hc with rfl|rfl
 ·exact I1.fpOk he (I1.hok.fresh he)
 ·exact I1.fpOk hi (I1.hok.fresh hi)
def vw(us:List U):List U:=us.zipIdx.map fun p=>.tup [.int p.2,p.1]
def jC(ca:CE):CI:=fun ρ S=>(ca ρ S).bind fun p=>(Ck p.1 p.2).bind fun x=>some (vw x.1,x.2,p.2)
theorem oI{es:List Expr}{k:Nat}{tp p:Pos}{a:Expr}{ca:CE}(hg:Gl X "enumerate")(hm:X.mg "enumerate"=none)(ha:QE X a ca)
  (hs:starEach [a] X.env=(false,eval a X.env)::starEach [] X.env:=by rfl) (hpl:(backTo pos (starEach [] X.env)).any (·.1)=false:=by rfl) :
  QI X (.Tuple es k tp) (.Call (.Name "enumerate" p) [a] [] pos) (jC ca):=(FO hg hm (fS ha j6 hs) hs hpl).imp fun σ H R hz=>yl hz fun m ρ S us ok S' sr lr hf post=>by
 obtain⟨⟨x,S1⟩,h1,h⟩:=Option.bind_eq_some_iff.mp hf
 obtain⟨⟨xs,okx⟩,h3,h⟩:=Option.bind_eq_some_iff.mp h
 cases h
 refine⟨m,ρ,S,x,_,sr,lr,h1,fun m1 v1 H1 e1 sr1 i1=>?_⟩
 obtain⟨b,aa,rfl,q1,k1⟩:=Jq sr1 i1 h3
 refine⟨b,aa,rfl,q1,post m1 H1 _ e1 sr1 fun m3 S3 H3 i e3 sr3 hok=>?_⟩
 obtain⟨vs,sq1,l1⟩:=k1 m3 S3 H3 e3 sr3 hok
 have n1:=l1.length
 refine⟨fun u hu=>?_,fun hi=>⟨vs,sq1,?_⟩⟩
 ·simp only[vw,List.getElem?_map,Option.map_eq_some_iff,List.getElem?_zipIdx]at hu
  obtain⟨⟨p,q⟩,⟨y,hp,e⟩,rfl⟩:=hu
  cases e
  obtain⟨vp,ep,ip⟩:=l1.getD hp
  refine⟨⟨vs,vp,sq1,ep⟩,fun v H4 hy=>?_⟩
  obtain⟨r,x',rfl,hr,rfl,f1⟩:=hy
  have:=f1 vs sq1
  rw[ep]at this;cases this
  have ee:Ext X.K m3 H3 m3 (upd H3 r (.tup [.int i,vp])):=.of (cT hr _)
  exact⟨ee,sr3.same (dW hr _),.tup_ (SqT.of aX) (.cons_ (by simp only[Nat.zero_add];exact .int_) (.cons_ (ip.mono ee) .nil_))⟩
 ·simp only[vw,List.length_map,List.length_zipIdx]at hi
  omega
def oO:List (CE×CE)->Rho->Sto->Option (List (Key×U)×Sto)
 |[],_,S=>some ([],S)
 |(ck,cv)::r,ρ,S=>(ck ρ S).bind fun p=>(cv ρ p.2).bind fun q=>(m6 p.1).bind fun k=>(oO r ρ q.2).bind fun z=>some ((k,q.1)::z.1,z.2)
def Kd(kus:List (Key×U))(au:List (Key×U)):List (Key×U):=kus.foldl (fun acc kv=>jo acc kv.1 kv.2) au
def z6(kus:List (Key×U)):List (Key×U):=Kd kus []
def K2(prs:List (CE×CE)):CE:=fun ρ S=>(oO prs ρ (S++[.dic []])).bind fun q=>match q.2[S.length]? with
 |some (.dic [])=>some (.ref S.length,q.2.set S.length (.dic (z6 q.1)))
 |_=>none
end
theorem ua:∀{vs:List Value} {ns:List Int},IntsAre vs ns->cE (ns.map V.int) vs
 |_,_,.nil=>.nil
 |_,_,.cons n t r=>.cons ⟨t,rfl⟩ (ua r)
theorem jt:∀{ns:List Int} {vs:List Value},cE (ns.map V.int) vs->IntsAre vs ns
 |[],_,h=>by cases h;exact .nil
 |n::ns,_,.cons r t=>by
  obtain⟨k,rfl⟩:=r
  exact .cons n k (jt t)
def zt(K:PySem.W.Frag):List V->Hp->VK->Prop:=fun xs H Q=>∃(p:Addr) (ns:List Int),xs=[.ref p]/\(SqL K H p (ns.map V.int)\/∃kvs,H p=some (.dK kvs)/\kvs.map (·.1)=ns.map Sum.inl)/\ns.length<64/\
 ∀(l:Addr) (ms:List Int),H l=none->ms.Perm ns->ms.Pairwise (·<=·)->Q (.ref l) (upd H l (.lst (ms.map V.int)))
theorem Af{κ:Type}:∀{kvs:List (κ×V)} {vs:List (κ×Value)},KV kvs vs->vs.map (·.1)=kvs.map (·.1)
 |_,_,.nil=>rfl
 |_,_,.cons r t=>by rw[List.map_cons,List.map_cons,Af t,r.1]
theorem z8{P:Program}{w:World}{H:Hp}{h:Heap}{a:Addr}{ms:List Int}{out:Array Value}{e:Nat}(g:h.get? a=some (seqObj "list" out e))(hI:IntsAre out.toList ms)(hl:ms.length<64):dS P w H h a (.lst (ms.map V.int)):=
 ⟨by rw[List.length_map];exact Nat.le_of_lt (Nat.lt_of_lt_of_le hl (by unfold sizeLine;decide)),out.toList,e,ua hI,by rw[Array.toArray_toList];exact g⟩
theorem lj{X:Cx}(hc:X.calm=true):ib X (.builtin "sorted") (zt X.K):=by
 rintro pins s σ H xs us Q I r ⟨p,ns,rfl,src,h64,q⟩
 obtain⟨u,rfl,ru⟩:=pQ r
 cases ru
 rcases src with hL|⟨kvs,hD,hk⟩
 ·obtain⟨its,rv,pl,hz⟩:=I.list hL
  have hI:=jt rv
  have gZ:=rv.length
  rw[List.length_map]at gZ
  refine sorted_ints pl.isList hI (by omega) fun out ms a1 a2 a3=>?_
  obtain⟨e,ge⟩:=sortedAll_at s.heap its out
  have hf:=I.hok.fresh (Nat.le_succ s.heap.objs.size)
  exact⟨.ref (s.heap.objs.size+1),_,I.laid (t':=s.toks) (fun b o e=>sortedAll_old e) (Nat.le_succ _) (z8 ge a1 (by rw[a2.length_eq];exact h64)),rfl,q _ ms hf a2 a3⟩
 ·obtain⟨z,hd,vs,rel,dd⟩:=A1 I.hok hD
  obtain⟨ep,da⟩:=dd.dictAt
  have lkv:kvs.length=ns.length:=by have:=congrArg List.length hk;simpa using this
  have lv:vs.length=ns.length:=by rw[<-Paired.length rel];exact lkv
  have ks:vs.map (·.1)=ns.map Sum.inl:=by
   rw[<-hk];exact Af rel
  refine Calls.call_function_entry kind_sorted plain_sorted entry_sorted (args_sorted1 _) ?_
  unfold Builtin.«sorted»
  refine wpAny_bind (m:=checkCount "sorted" 1 1 _) (wpAny_pure (wpAny_bind (PySem.W.kdu_collect (PySem.W.kdl_dict (kvs:=vs) (ep:=ep) hd) (show X.A.in1.handled=none from I.ok.hd hc) da (by rw[lv,<-lkv];exact z) fun h1 tk acc up hac=>?_)))
  have hla:acc.toList.length=ns.length:=by rw[Array.length_toList,hac.1,lv]
  have hI:IntsAre acc.toList ns:=by
   have key:∀(i:Nat) (v:Value),acc.toList[i]?=some v->∃(n:Int) (t:Tok),ns[i]?=some n/\v=Value.int n t:=fun i v e=>by
    obtain⟨k,x,e1,e2⟩:=hac.2 i v (by rw[<-Array.getElem?_toList];exact e)
    have e3:(vs.map (·.1))[i]?=some k:=by rw[List.getElem?_map,e1];rfl
    rw[ks,List.getElem?_map]at e3
    obtain⟨n,e4,e5⟩:=Option.map_eq_some_iff.mp e3
    subst e5
    rcases bW (k:=Sum.inl n) e2 with⟨j,t,e6,e7⟩|⟨j,t,e6,e7⟩
    ·cases e6;exact⟨n,t,e4,e7⟩
    ·cases e6
   clear hac
   generalize acc.toList=L at key hla
   clear ks lv lkv h64 q hk
   induction L generalizing ns with
   |nil=>cases ns with
    |nil=>exact .nil
    |cons a b=>simp at hla
   |cons a b ih=>cases ns with
    |nil=>simp at hla
    |cons c d=>
     obtain⟨n,t,e1,e2⟩:=key 0 a (by simp)
     simp at e1;subst e1;subst e2
     exact .cons _ t (ih _ (fun i v e=>by have:=key (i+1) v (by simpa using e);simpa using this) (by simpa using hla))
  refine wpAny_bind (wpAny_newList ?_ (by rw[hla,<-lkv];exact z))
  have gL:(h1.push { cls:=.type "list",data:=.seq acc.toList.toArray }).get? h1.objs.size=some (seqObj "list" acc.toList.toArray 0):=Heap.get?_push_size _ rfl
  refine wpAny_bind (wpAny_holding (wpAny_call_entry slot_list_sort ⟨_,gL,rfl⟩ entry_list_sort (list_sort_tree (s:={ s with heap:=h1.push { cls:=.type "list",data:=.seq acc.toList.toArray },toks:=tk }) gL hI (by omega) fun out ms a1 a2 a3=>⟨_,rfl,?_⟩) (args_list_sort _)))
  obtain⟨e,ge⟩:=sortedHeap_at (out:=out) gL
  have I1:Inv X pins σ H { s with heap:=h1,toks:=tk }:=I.kept up
  have hf:=I1.hok.fresh (Nat.le_refl h1.objs.size)
  refine wpAny_pure ⟨_,rfl,.ref h1.objs.size,_,Inv.laid (s:={ s with heap:=h1,toks:=tk }) (h':=sortedHeap (h1.push { cls:=.type "list",data:=.seq acc.toList.toArray }) h1.objs.size acc.toList out) (t':=tk) I1 (fun b o g1=>?_) (Nat.le_refl _) (z8 ge a1 (by rw[a2.length_eq];exact h64)),rfl,q _ ms hf a2 a3⟩
  have g1:h1.get? b=some o:=g1
  have lt1:=Heap.lt_size g1
  rw[sortedHeap_old (Nat.ne_of_lt lt1) (by rw[Heap.size_push];exact Nat.lt_succ_of_lt lt1)]
  exact Heap.get?_push_of_some _ g1
def ff(ns:List Int):List Int:=ns.mergeSort (fun a b=>decide (a<=b))
theorem fG(ns:List Int):(ff ns).Perm ns:=List.mergeSort_perm ..
theorem tD(ns:List Int):(ff ns).Pairwise (·<=·):=by
 have:=List.pairwise_mergeSort (le:=fun(a b:Int)=>decide (a<=b)) (fun a b c h1 h2=>by simp at h1 h2 ⊢;omega) (fun a b=>by simp;omega) ns
 exact this.imp fun h=>by simpa using h
theorem rp{ns ms:List Int}(p:ms.Perm ns)(s:ms.Pairwise (·<=·)):ms=ff ns:=PySem.W.lks_uniq (p.trans (fG ns).symm) s (tD ns)
def t8:List (Key×U)->Option (List Int)
 |[]=>some []
 |(.inl n,_)::r=>(t8 r).map (n::·)
 |_=>none
theorem wX:∀{kus:List (Key×U)} {ns:List Int},t8 kus=some ns->kus.map (·.1)=ns.map Sum.inl
 |[],ns,h=>by cases h;rfl
 |(k,u)::r,ns,h=>by
  cases k<;>simp only[t8]at h<;>try cases h
  obtain⟨ms,e,h⟩:=Option.map_eq_some_iff.mp h
  subst h
  simp[wX e]
def eM:Fn
 |[.ref l],S=>match S[l]? with
  |some (.lst us)=>(yc us).bind fun ns=>if ns.length<64 then some (.ref S.length,S++[.lst ((ff ns).map U.int)])else none
  |some (.dic kus)=>(t8 kus).bind fun ns=>if ns.length<64 then some (.ref S.length,S++[.lst ((ff ns).map U.int)])else none
  |_=>none
 |_,_=>none
theorem kY{K:PySem.W.Frag}:qf K (zt K) eM:=by
 intro m S H us vs u S' Q sr i hf post
 match us,hf with
 |[.ref l],hf=>
  obtain⟨v,rfl,iv⟩:=i.one
  obtain⟨a,ha,rfl⟩:=iv.of_ref
  simp only[eM]at hf
  split at hf<;>try cases hf
  ·rename_i ws hS
   obtain⟨ns,hn,h⟩:=Option.bind_eq_some_iff.mp hf
   split at h<;>try cases h
   have hc:ns.length<64:=by assumption
   obtain⟨a',ha',xs,hx,la⟩:=sr.get hS
   rw[ha]at ha';cases ha'
   rw[xc hn]at la
   rw[la.ints]at hx
   refine⟨a,ns,rfl,.inl (SqL.of hx),hc,fun p ms hp pm sm=>?_⟩
   rw[rp pm sm]
   exact fg sr (jS _) post hp
  ·rename_i ws hS
   obtain⟨ns,hn,h⟩:=Option.bind_eq_some_iff.mp hf
   split at h<;>try cases h
   have hc:ns.length<64:=by assumption
   obtain⟨a',ha',kvs,hx,ip⟩:=sr.get hS
   rw[ha]at ha';cases ha'
   refine⟨a,ns,rfl,.inr ⟨kvs,hx,by rw[ip.1,wX hn]⟩,hc,fun p ms hp pm sm=>?_⟩
   rw[rp pm sm]
   exact fg sr (jS _) post hp
section
variable{ρ:Rho}{S:Sto}{c1 c2:CS}{t ta tb:CT}{ca cb cc:CE}{cr:CA}{u x y:U}{us:List U}{i l:Nat}{f g:U->U->Sto->Option (U×Sto)}{b:Bool}
def ND(S:Sto):Option (Option U)->Option (U×Sto)
 |some (some u)=>some (u,S)
 |_=>none
theorem Lw:ah i ρ S=ND S (ρ[i]?):=rfl
theorem HZ:ND S (some (some u))=some (u,S):=rfl
theorem x_c:cC u ρ S=some (u,S):=rfl
def MS(f:U->U->Sto->Option (U×Sto))(x:U)(q:U×Sto):=f x q.1 q.2
def NJ(f:U->U->Sto->Option (U×Sto))(cb:CE)(ρ:Rho)(p:U×Sto):=(cb ρ p.2).bind (MS f p.1)
theorem E8:cOp f ca cb ρ S=(ca ρ S).bind (NJ f cb ρ):=rfl
theorem yE:NJ f cb ρ (x,S)=(cb ρ S).bind (MS f x):=rfl
theorem yD:MS f x (y,S)=f x y S:=rfl
def Ko:U×Sto->Option (Bool×Sto)
 |(.bl b,S)=>some (b,S)
 |_=>none
theorem sT:aQ ca ρ S=(ca ρ S).bind Ko:=by
 unfold aQ;congr 1;funext p;obtain⟨u,S⟩:=p;cases u<;>rfl
theorem qT:Ko (.bl b,S)=some (b,S):=rfl
def M0(tb:CT)(ρ:Rho)(p:Bool×Sto):=if p.1=true then tb ρ p.2 else some (false,p.2)
def kOr(tb:CT)(ρ:Rho)(p:Bool×Sto):=if p.1=true then some (true,p.2)else tb ρ p.2
def NK(p:Bool×Sto):Option (Bool×Sto):=some (!p.1,p.2)
theorem Mp:su ta tb ρ S=(ta ρ S).bind (M0 tb ρ):=rfl
theorem IV:M0 tb ρ (true,S)=tb ρ S:=rfl
theorem IU:M0 tb ρ (false,S)=some (false,S):=rfl
theorem N4:cOr ta tb ρ S=(ta ρ S).bind (kOr tb ρ):=rfl
theorem LM:kOr tb ρ (true,S)=some (true,S):=rfl
theorem LL:kOr tb ρ (false,S)=tb ρ S:=rfl
theorem LN:BJ ta ρ S=(ta ρ S).bind NK:=rfl
theorem IB:NK (b,S)=some (!b,S):=rfl
def Hb(cb:CE)(ρ:Rho):U×Sto->Option (U×Sto)
 |(.bl true,S)=>cb ρ S
 |(.bl false,S)=>some (.bl false,S)
 |_=>none
def MR(cb:CE)(ρ:Rho):U×Sto->Option (U×Sto)
 |(.bl false,S)=>cb ρ S
 |(.bl true,S)=>some (.bl true,S)
 |_=>none
def Ks:U×Sto->Option (U×Sto)
 |(.bl b,S)=>some (.bl (!b),S)
 |_=>none
theorem IT:so ca cb ρ S=(ca ρ S).bind (Hb cb ρ):=by
 unfold so;congr 1;funext p;obtain⟨u,S⟩:=p;cases u with
 |bl b=>cases b<;>rfl
 |_=>rfl
theorem Fu:Hb cb ρ (.bl true,S)=cb ρ S:=rfl
theorem Ft:Hb cb ρ (.bl false,S)=some (.bl false,S):=rfl
theorem LK:NV ca cb ρ S=(ca ρ S).bind (MR cb ρ):=by
 unfold NV;congr 1;funext p;obtain⟨u,S⟩:=p;cases u with
 |bl b=>cases b<;>rfl
 |_=>rfl
theorem Iy:MR cb ρ (.bl false,S)=cb ρ S:=rfl
theorem Iw:MR cb ρ (.bl true,S)=some (.bl true,S):=rfl
theorem IA:DY ca ρ S=(ca ρ S).bind Ks:=by
 unfold DY;congr 1;funext p;obtain⟨u,S⟩:=p;cases u<;>rfl
theorem E9:Ks (.bl b,S)=some (.bl (!b),S):=rfl
def Ak(u:U)(q:List U×Sto):Option (List U×Sto):=some (u::q.1,q.2)
def EJ(cr:CA)(ρ:Rho)(p:U×Sto):=(cr ρ p.2).bind (Ak p.1)
theorem qU:aE ρ S=some ([],S):=rfl
theorem gM:ae ca cr ρ S=(ca ρ S).bind (EJ cr ρ):=rfl
theorem fF:EJ cr ρ (u,S)=(cr ρ S).bind (Ak u):=rfl
theorem iI:Ak u (us,S)=some (u::us,S):=rfl
def NF(p:List U×Sto):Option (U×Sto):=some (.tup p.1,p.2)
def NL(p:List U×Sto):Option (U×Sto):=some (.ref p.2.length,p.2++[.lst p.1])
theorem E6:fE cr ρ S=(cr ρ S).bind NF:=rfl
theorem Ie:NF (us,S)=some (.tup us,S):=rfl
theorem LX:pB cr ρ S=(cr ρ S).bind NL:=rfl
theorem IF:NL (us,S)=some (.ref S.length,S++[.lst us]):=rfl
def kCB(f:Fn)(p:List U×Sto):=f p.1 p.2
theorem Ld{f:Fn}:cCB f cr ρ S=(cr ρ S).bind (kCB f):=rfl
theorem BR{f:Fn}:kCB f (us,S)=f us S:=rfl
def NM(T:Ty)(p:U×Sto):Option (U×Sto):=(tyU p.1 p.2).bind fun t=>some (.bl (Ep t T),p.2)
theorem BQ{T:Ty}:DZ T ca ρ S=(ca ρ S).bind (NM T):=rfl
theorem vR{T:Ty}:NM T (u,S)=(tyU u S).bind fun t=>some (.bl (Ep t T),S):=rfl
def Kq(c2:CS):Out×Rho×Sto->Option (Out×Rho×Sto)
 |(.nx,ρ,S)=>c2 ρ S
 |(o,ρ,S)=>some (o,ρ,S)
theorem Ig:dv ρ S=some (.nx,ρ,S):=rfl
theorem Iq:bu c1 c2 ρ S=(c1 ρ S).bind (Kq c2):=by
 unfold bu;congr 1;funext p;obtain⟨o,ρ,S⟩:=p;cases o<;>rfl
theorem D9:Kq c2 (.nx,ρ,S)=c2 ρ S:=rfl
theorem Ip:Kq c2 (.rt u,ρ,S)=some (.rt u,ρ,S):=rfl
theorem Io:Kq c2 (.bk,ρ,S)=some (.bk,ρ,S):=rfl
theorem Im:Kq c2 (.ct,ρ,S)=some (.ct,ρ,S):=rfl
def Ku(ρ:Rho)(p:U×Sto):Option (Out×Rho×Sto):=some (.nx,ρ,p.2)
def NI(ρ:Rho)(p:U×Sto):Option (Out×Rho×Sto):=some (.rt p.1,ρ,p.2)
theorem qg:dB ca ρ S=(ca ρ S).bind (Ku ρ):=rfl
theorem Fm:Ku ρ (u,S)=some (.nx,ρ,S):=rfl
theorem LI:fB ca ρ S=(ca ρ S).bind (NI ρ):=rfl
theorem Ir:NI ρ (u,S)=some (.rt u,ρ,S):=rfl
def MT(c1 c2:CS)(ρ:Rho)(p:Bool×Sto):=if p.1=true then c1 ρ p.2 else c2 ρ p.2
theorem IK:gx t c1 c2 ρ S=(t ρ S).bind (MT c1 c2 ρ):=rfl
theorem Ee:MT c1 c2 ρ (true,S)=c1 ρ S:=rfl
theorem Ed:MT c1 c2 ρ (false,S)=c2 ρ S:=rfl
def kIf(ca cb:CE)(ρ:Rho)(p:Bool×Sto):=if p.1=true then ca ρ p.2 else cb ρ p.2
theorem Of:cIf t ca cb ρ S=(t ρ S).bind (kIf ca cb ρ):=rfl
theorem L8:kIf ca cb ρ (true,S)=ca ρ S:=rfl
theorem L7:kIf ca cb ρ (false,S)=cb ρ S:=rfl
def NG(i:Nat)(ρ:Rho)(p:U×Sto):Option (Out×Rho×Sto):=some (.nx,ρ.set i (some p.1),p.2)
theorem BO:cP i ca ρ S=(ca ρ S).bind (NG i ρ):=rfl
theorem Il:NG i ρ (u,S)=some (.nx,ρ.set i (some u),S):=rfl
def Ha(q:Rho×Sto):Option (Out×Rho×Sto):=some (.nx,q.1,q.2)
def NN(g:CG)(ρ:Rho)(p:U×Sto):=(g p.1 ρ p.2).bind Ha
theorem Mo{g:CG}:K3 ca g ρ S=(ca ρ S).bind (NN g ρ):=rfl
theorem IS{g:CG}:NN g ρ (u,S)=(g u ρ S).bind Ha:=rfl
theorem IQ:Ha (ρ,S)=some (.nx,ρ,S):=rfl
theorem Ma:gNm i u ρ S=some (ρ.set i (some u),S):=rfl
theorem L9{is:List Nat}:gTp is (.tup us) ρ S=(jk is us ρ).bind fun ρ'=>some (ρ',S):=rfl
theorem IX:jk [] [] ρ=some ρ:=rfl
theorem IW{is:List Nat}:jk (i::is) (u::us) ρ=jk is us (ρ.set i (some u)):=rfl
def Kr(ρ:Rho)(S':Sto):Option (Out×Rho×Sto):=some (.nx,ρ,S')
def MP(o v:U)(ρ:Rho)(r:U×Sto):=(pd o r.1 v r.2).bind (Kr ρ)
def MQ(ci:CE)(v:U)(ρ:Rho)(q:U×Sto):=(ci ρ q.2).bind (MP q.1 v ρ)
def kSI(co ci:CE)(ρ:Rho)(p:U×Sto):=(co ρ p.2).bind (MQ ci p.1 ρ)
theorem NY:hJ ca cb cc ρ S=(cc ρ S).bind (kSI ca cb ρ):=rfl
theorem LD:kSI ca cb ρ (u,S)=(ca ρ S).bind (MQ cb u ρ):=rfl
theorem LC:MQ cb y ρ (u,S)=(cb ρ S).bind (MP u y ρ):=rfl
theorem LB:MP x y ρ (u,S)=(pd x u y S).bind (Kr ρ):=rfl
theorem LA:Kr ρ S=some (.nx,ρ,S):=rfl
def kIx(y:U)(S:Sto):Option O->Option (U×Sto)
 | some (.lst us)=>(match y with
   |.int i=>(atI us i).bind fun u=>some (u,S)
   |_=>none)
 |some (.dic kus)=>(m6 y).bind fun k=>(bw kus k).bind fun u=>some (u,S)
 |some (.fdc _ kus)=>(m6 y).bind fun k=>(bw kus k).bind fun u=>some (u,S)
 |_=>none
theorem L0{j:Int}:fIx (.tup us) (.int j) S=(atI us j).bind fun u=>some (u,S):=rfl
theorem Fi:fIx (.ref l) y S=kIx y S S[l]?:=by
 unfold fIx kIx;dsimp only<;>(generalize S[l]?=q;rcases q with _|o<;>first|rfl|(cases o<;>rfl))
theorem Fj{j:Int}:kIx (.int j) S (some (.lst us))=(atI us j).bind fun u=>some (u,S):=rfl
theorem IJ{ep:Nat}{kus:List (Key×U)}:kIx y S (some (.fdc ep kus))=(m6 y).bind fun k=>(bw kus k).bind fun u=>some (u,S):=rfl
theorem L1{kus:List (Key×U)}:kIx y S (some (.dic kus))=(m6 y).bind fun k=>(bw kus k).bind fun u=>some (u,S):=rfl
def Lk(l:Nat)(i v:U)(S:Sto):Option O->Option Sto
 | some (.lst us)=>(match i with
   |.int k=>(ixN us.length k).bind fun j=>some (S.set l (.lst (us.set j v)))
   |_=>none)
 |some (.dic kus)=>(m6 i).bind fun k=>if kus.length<LIM then some (S.set l (.dic (jo kus k v)))else none
 |_=>none
theorem Ly:pd (.ref l) x y S=Lk l x y S S[l]?:=by
 unfold pd Lk;dsimp only<;>(generalize S[l]?=q;rcases q with _|o<;>first|rfl|(cases o<;>rfl))
theorem Ih{j:Int}:Lk l (.int j) y S (some (.lst us))=(ixN us.length j).bind fun j=>some (S.set l (.lst (us.set j y))):=rfl
theorem Ik{kus:List (Key×U)}:Lk l x y S (some (.dic kus))=(m6 x).bind fun k=>if kus.length<LIM then some (S.set l (.dic (jo kus k y)))else none:=rfl
theorem at0{α:Type}{a:α}{r:List α}:atI (a::r) 0=some a:=by show atI _ ((0:Nat):Int)=_;exact iM rfl
theorem at1{α:Type}{a b:α}{r:List α}:atI (a::b::r) 1=some b:=by show atI _ ((1:Nat):Int)=_;exact iM rfl
theorem at2{α:Type}{a b c:α}{r:List α}:atI (a::b::c::r) 2=some c:=by show atI _ ((2:Nat):Int)=_;exact iM rfl
theorem at3{α:Type}{a b c d:α}{r:List α}:atI (a::b::c::d::r) 3=some d:=by show atI _ ((3:Nat):Int)=_;exact iM rfl
theorem ix0{n:Nat}:ixN (n+1) 0=some 0:=by simp[ixN]
theorem ix1{n:Nat}:ixN (n+1+1) 1=some 1:=by simp[ixN];omega
theorem ix2{n:Nat}:ixN (n+1+1+1) 2=some 2:=by simp[ixN];omega
def Ln(S:Sto):Option O->Option (U×Sto)
 |some (.lst us)=>some (.int us.length,S)
 |some (.dic us)=>some (.int us.length,S)
 |_=>none
theorem Ea:ky [.ref l] S=Ln S S[l]?:=by
 unfold ky Ln;dsimp only<;>(generalize S[l]?=q;rcases q with _|o<;>first|rfl|(cases o<;>rfl))
theorem Eb:Ln S (some (.lst us))=some (.int us.length,S):=rfl
theorem IH{kus:List (Key×U)}:Ln S (some (.dic kus))=some (.int kus.length,S):=rfl
theorem IG:ky [.tup us] S=some (.int us.length,S):=rfl
variable{j k:Int}
theorem Mq:iO (.int j) (.int k) S=some (.int (j+k),S):=rfl
theorem Lx:qN (.int j) (.int k) S=some (.int (j-k),S):=rfl
theorem ID(h:BI j k):pf (.int j) (.int k) S=some (.int (j*k),S):=by simp[pf,fI,h]
theorem Fo(h:yA j k):DD (.int j) (.int k) S=some (.int (j / k),S):=by simp[DD,fI,h]
theorem uM(h:0<k):sQ (.int j) (.int k) S=some (.int (j % k),S):=by simp[sQ,fI,h]
theorem LJ(h:HX j k):HS (.int j) (.int k) S=some (.int (j^k.toNat),S):=by simp[HS,fI,h]
theorem Oe:fLt (.int j) (.int k) S=some (.bl (decide (j<k)),S):=rfl
theorem LY:fLe (.int j) (.int k) S=some (.bl (decide (j<=k)),S):=rfl
theorem Og:fGt (.int j) (.int k) S=some (.bl (decide (k<j)),S):=rfl
theorem Oh:fGe (.int j) (.int k) S=some (.bl (decide (k<=j)),S):=rfl
theorem Me:fEq (.int j) (.int k) S=some (.bl (decide (j=k)),S):=rfl
theorem LP:fNe (.int j) (.int k) S=some (.bl (!decide (j=k)),S):=rfl
theorem Md{a c:Str}:fEq (.str a) (.str c) S=some (.bl (decide (a=c)),S):=rfl
theorem LO{a c:Str}:fNe (.str a) (.str c) S=some (.bl (!decide (a=c)),S):=rfl
theorem Mf{a c:Bool}:fEq (.bl a) (.bl c) S=some (.bl (decide (a=c)),S):=rfl
theorem LR{a c:Bool}:fNe (.bl a) (.bl c) S=some (.bl (!decide (a=c)),S):=rfl
def kFn:Out×Rho×Sto->Option (U×Sto)
 |(.rt u,_,S)=>some (u,S)
 |(.nx,_,S)=>some (.non,S)
 |_=>none
theorem i6{n k:Nat}(h:us.length=k):fnU n k c1 us S=(c1 (tm n us) S).bind kFn:=by
 unfold fnU;rw[if_pos h];congr 1;funext p;obtain⟨o,ρ,S⟩:=p;cases o<;>rfl
theorem Mc:kFn (.rt u,ρ,S)=some (u,S):=rfl
theorem Mb:kFn (.nx,ρ,S)=some (.non,S):=rfl
end
section
variable{ρ:Rho}{S:Sto}{c1 c2:CS}{t ta tb:CT}{ca cb cc:CE}{cr:CA}{u x y:U}{us:List U}{i l:Nat}{b:Bool}{c:Cl}{fus:List (Option U)}{g:Fn}
open Classical in
def Dj(c:Cl)(i:Nat)(S:Sto):Option O->Option (U×Sto)
 |some (.ins c' fus)=>if c'=c then(fus[i]?).join.bind fun u=>some (u,S)else none
 |_=>none
def m8(c:Cl)(i:Nat)(p:U×Sto):=KO c i p.1 p.2
theorem IL:gD c i ca ρ S=(ca ρ S).bind (m8 c i):=rfl
theorem Eg:m8 c i (.ref l,S)=Dj c i S S[l]?:=by
 unfold m8 KO Dj;dsimp only<;>(generalize S[l]?=q;rcases q with _|o<;>first|rfl|(cases o<;>rfl))
theorem Ef:Dj c i S (some (.ins c fus))=((fus[i]?).join).bind fun u=>some (u,S):=by
 unfold Dj;dsimp only;rw[if_pos rfl]
open Classical in
def Ll(c:Cl)(i l:Nat)(v:U)(S:Sto):Option O->Option Sto
 |some (.ins c' fus)=>if c'=c then some (S.set l (.ins c (fus.set i (some v))))else none
 |_=>none
def Lm(c:Cl)(i:Nat)(v:U)(ρ:Rho)(q:U×Sto):=(AI c i q.1 v q.2).bind (Kr ρ)
def NH(c:Cl)(i:Nat)(ca:CE)(ρ:Rho)(p:U×Sto):=(ca ρ p.2).bind (Lm c i p.1 ρ)
theorem NZ:jr c i ca cb ρ S=(cb ρ S).bind (NH c i ca ρ):=rfl
theorem LH:NH c i ca ρ (u,S)=(ca ρ S).bind (Lm c i u ρ):=rfl
theorem LG:Lm c i u ρ (.ref l,S)=(Ll c i l u S S[l]?).bind (Kr ρ):=by
 unfold Lm AI Ll;dsimp only<;>(generalize S[l]?=q;rcases q with _|o<;>first|rfl|(cases o<;>rfl))
theorem LF:Ll c i l u S (some (.ins c fus))=some (S.set l (.ins c (fus.set i (some u)))):=by
 unfold Ll;dsimp only;rw[if_pos rfl]
def Aj(g:Fn)(l:Nat)(q:List U×Sto):=g (.ref l::q.1) q.2
open Classical in
def w4(c:Cl)(g:Fn)(cr:CA)(ρ:Rho)(l:Nat)(S:Sto):Option O->Option (U×Sto)
 |some (.ins c' _)=>if c'=c then(cr ρ S).bind (Aj g l)else none
 |_=>none
def G9(c:Cl)(g:Fn)(cr:CA)(ρ:Rho)(p:U×Sto):=AK c g p.1 p.2 (cr ρ)
theorem IE:eX c g ca cr ρ S=(ca ρ S).bind (G9 c g cr ρ):=rfl
theorem Fd:G9 c g cr ρ (.ref l,S)=w4 c g cr ρ l S S[l]?:=by
 unfold G9 AK w4;dsimp only<;>(generalize S[l]?=q;rcases q with _|o<;>first|rfl|(cases o<;>rfl))
theorem Fc:w4 c g cr ρ l S (some (.ins c fus))=(cr ρ S).bind (Aj g l):=by
 unfold w4;dsimp only;rw[if_pos rfl]
theorem Fb:Aj g l (us,S)=g (.ref l::us) S:=rfl
def Kt(n:Nat):U×Sto->Option (U×Sto)
 |(.non,S)=>some (.ref n,S)
 |_=>none
theorem sV:p6 c g us S=(g (.ref S.length::us) (S++[.ins c (List.replicate c.ns.length none)])).bind (Kt S.length):=by
 unfold p6;congr 1;funext p;obtain⟨u,S⟩:=p;cases u<;>rfl
theorem Fe:Kt i (.non,S)=some (.ref i,S):=rfl
def kIn(neg:Bool)(x:U)(S:Sto):Option O->Option (U×Sto)
 |some (.lst us)=>if nA x=true/\us.all nA=true then some (.bl (if neg then !inU x us else inU x us),S)else none
 |some (.dic kus)=>(m6 x).bind fun k=>some (.bl (if neg then !(bw kus k).isSome else(bw kus k).isSome),S)
 |some (.fdc _ kus)=>(m6 x).bind fun k=>some (.bl (if neg then !(bw kus k).isSome else(bw kus k).isSome),S)
 |_=>none
theorem L3{neg:Bool}:fIn neg x (.ref l) S=kIn neg x S S[l]?:=by
 unfold fIn kIn;dsimp only<;>(generalize S[l]?=q;rcases q with _|o<;>first|rfl|(cases o<;>rfl))
theorem L5{neg:Bool}{kus:List (Key×U)}:kIn neg x S (some (.dic kus))=(m6 x).bind fun k=>some (.bl (if neg then !(bw kus k).isSome else(bw kus k).isSome),S):=rfl
theorem LZ{j:Int}:m6 (.int j)=some (.inl j):=rfl
theorem II{z:Str}:m6 (.str z)=some (.inr z):=rfl
def MY(f:U->List U->Sto->Option (U×Sto))(x:U)(q:List U×Sto):=f x q.1 q.2
def MZ(f:U->List U->Sto->Option (U×Sto))(cr:CA)(ρ:Rho)(x:U)(S:Sto):Option O->Option (U×Sto)
 |some (.lst _)=>(cr ρ S).bind (MY f x)
 |_=>none
def kBM(f:U->List U->Sto->Option (U×Sto))(cr:CA)(ρ:Rho):U×Sto->Option (U×Sto)
 |(.ref l,S)=>MZ f cr ρ (.ref l) S S[l]?
 |_=>none
variable{fm:U->List U->Sto->Option (U×Sto)}
theorem HM:cBM fm ca cr ρ S=(ca ρ S).bind (kBM fm cr ρ):=by
 unfold cBM;congr 1;funext p;obtain⟨u,S⟩:=p
 cases u<;>try rfl
theorem xN:kBM fm cr ρ (.ref l,S)=MZ fm cr ρ (.ref l) S S[l]?:=rfl
theorem xM:MZ fm cr ρ x S (some (.lst us))=(cr ρ S).bind (MY fm x):=rfl
theorem xK:MY fm x (us,S)=fm x us S:=rfl
def Lo(l:Nat)(u:U)(S:Sto):Option O->Option (U×Sto)
 |some (.lst us)=>if us.length<LIM then some (.non,S.set l (.lst (us++[u])))else none
 |_=>none
theorem BS:bY (.ref l) [u] S=Lo l u S S[l]?:=by
 unfold bY Lo;dsimp only<;>(generalize S[l]?=q;rcases q with _|o<;>first|rfl|(cases o<;>rfl))
theorem jj(h:us.length<LIM):Lo l u S (some (.lst us))=some (.non,S.set l (.lst (us++[u]))):=by
 unfold Lo;dsimp only;rw[if_pos h]
def MU(ku xu:U)(S:Sto):Option O->Option (U×Sto)
 |some (.dic kus)=>(m6 ku).bind fun k=>some ((bw kus k).getD xu,S)
 |_=>none
def MV(l:Nat)(ku:U)(r:U×Sto):=MU ku r.1 r.2 r.2[l]?
def MW(l:Nat)(cx:CE)(ρ:Rho)(q:U×Sto):=(cx ρ q.2).bind (MV l q.1)
def MX(l:Nat)(ck cx:CE)(ρ:Rho)(S:Sto):Option O->Option (U×Sto)
 |some (.dic _)=>(ck ρ S).bind (MW l cx ρ)
 |_=>none
def kDG(ck cx:CE)(ρ:Rho):U×Sto->Option (U×Sto)
 |(.ref l,S)=>MX l ck cx ρ S S[l]?
 |_=>none
theorem Ol:D0 ca cb cc ρ S=(ca ρ S).bind (kDG cb cc ρ):=by
 unfold D0;congr 1;funext p;obtain⟨u,S⟩:=p
 cases u<;>try rfl
theorem Ml:kDG cb cc ρ (.ref l,S)=MX l cb cc ρ S S[l]?:=rfl
theorem Mj{kus:List (Key×U)}:MX l cb cc ρ S (some (.dic kus))=(cb ρ S).bind (MW l cc ρ):=rfl
theorem Mi:MW l cc ρ (u,S)=(cc ρ S).bind (MV l u):=rfl
theorem Mh:MV l u (x,S)=MU u x S S[l]?:=rfl
theorem Mg{kus:List (Key×U)}:MU u x S (some (.dic kus))=(m6 u).bind fun k=>some ((bw kus k).getD x,S):=rfl
theorem IM:qd ρ S=some (.ref S.length,S++[.dic []]):=rfl
def kP3(k:Key)(u:U)(z:List (Key×U)×Sto):Option (List (Key×U)×Sto):=some ((k,u)::z.1,z.2)
def kP2(r:List (CE×CE))(ρ:Rho)(x:U)(q:U×Sto):=(m6 x).bind fun k=>(oO r ρ q.2).bind (kP3 k q.1)
def kP1(cv:CE)(r:List (CE×CE))(ρ:Rho)(p:U×Sto):=(cv ρ p.2).bind (kP2 r ρ p.1)
variable{pr:List (CE×CE)}
theorem N3:oO [] ρ S=some ([],S):=rfl
theorem x_p:oO ((ca,cb)::pr) ρ S=(ca ρ S).bind (kP1 cb pr ρ):=rfl
theorem N2:kP1 cb pr ρ (u,S)=(cb ρ S).bind (kP2 pr ρ u):=rfl
theorem N1:kP2 pr ρ x (u,S)=(m6 x).bind fun k=>(oO pr ρ S).bind (kP3 k u):=rfl
theorem N0{k:Key}{z:List (Key×U)}:kP3 k u (z,S)=some ((k,u)::z,S):=rfl
def kD1(n:Nat)(kus:List (Key×U))(S:Sto):Option O->Option (U×Sto)
 |some (.dic [])=>some (.ref n,S.set n (.dic (z6 kus)))
 |_=>none
def kD(n:Nat)(q:List (Key×U)×Sto):=kD1 n q.1 q.2 q.2[n]?
theorem IP:K2 pr ρ S=(oO pr ρ (S++[.dic []])).bind (kD S.length):=by
 unfold K2;congr 1
theorem Fq{z:List (Key×U)}:kD i (z,S)=kD1 i z S S[i]?:=rfl
theorem Fp{z:List (Key×U)}:kD1 i z S (some (.dic []))=some (.ref i,S.set i (.dic (z6 z))):=rfl
theorem H0:m9 [.tup us] S=some (.tup us,S):=rfl
def MO(S:Sto):Option O->Option (U×Sto)
 |some (.lst us)=>some (.tup us,S)
 |_=>none
theorem Ia:m9 [.ref l] S=MO S S[l]?:=by
 unfold m9 MO;dsimp only<;>(generalize S[l]?=q;rcases q with _|o<;>first|rfl|(cases o<;>rfl))
theorem Ib:MO S (some (.lst us))=some (.tup us,S):=rfl
theorem Ff:yk [.tup us] S=some (.ref S.length,S++[.lst us]):=rfl
def kLs(S:Sto):Option O->Option (U×Sto)
 |some (.lst us)=>some (.ref S.length,S++[.lst us])
 |_=>none
theorem Fg:yk [.ref l] S=kLs S S[l]?:=by
 unfold yk kLs;dsimp only<;>(generalize S[l]?=q;rcases q with _|o<;>first|rfl|(cases o<;>rfl))
theorem Fh:kLs S (some (.lst us))=some (.ref S.length,S++[.lst us]):=rfl
theorem Ec:HU [.bl b] S=some (.int (if b then 1 else 0),S):=rfl
theorem ga{X:Sto}{n:Nat}:(S++X)[S.length+n]?=X[n]?:=by rw[List.getElem?_append_right (Nat.le_add_right _ _),Nat.add_sub_cancel_left]
theorem ga0{X:Sto}:(S++X)[S.length]?=X[0]?:=ga (n:=0)
theorem gs{X:Sto}{n:Nat}{o:O}:(S++X).set (S.length+n) o=S++X.set n o:=by rw[List.set_append_right _ _ (Nat.le_add_right _ _),Nat.add_sub_cancel_left]
theorem gs0{X:Sto}{o:O}:(S++X).set S.length o=S++X.set 0 o:=gs (n:=0)
section
variable{ok:Sto->Prop}{gg:CG}{cbd:CS}{ρ0 ρ1:Rho}{S0 S1:Sto}
theorem fU(h:ok S):eK ok gg cbd [] ρ S=some (.nx,ρ,S):=by unfold eK;rw[if_pos h]
theorem dn(h:ok S)(hg:gg u ρ S=some (ρ0,S0))(hb:cbd ρ0 S0=some (.nx,ρ1,S1)):eK ok gg cbd (u::us) ρ S=eK ok gg cbd us ρ1 S1:=by
 rw[eK];dsimp only;rw[if_pos h,hg,Option.bind_some];dsimp only;rw[hb,Option.bind_some]
theorem ve(h:ok S)(hg:gg u ρ S=some (ρ0,S0))(hb:cbd ρ0 S0=some (.rt x,ρ1,S1)):eK ok gg cbd (u::us) ρ S=some (.rt x,ρ1,S1):=by
 rw[eK];dsimp only;rw[if_pos h,hg,Option.bind_some];dsimp only;rw[hb,Option.bind_some]
theorem v7{n:Nat}(ht:t ρ S=some (true,S0))(hb:cbd ρ S0=some (.nx,ρ1,S1)):eZ t cbd (n+1) ρ S=eZ t cbd n ρ1 S1:=by
 rw[eZ];dsimp only;rw[ht,Option.bind_some];dsimp only;rw[if_pos rfl,hb,Option.bind_some]
theorem B5{n:Nat}(ht:t ρ S=some (true,S0))(hb:cbd ρ S0=some (.rt x,ρ1,S1)):eZ t cbd (n+1) ρ S=some (.rt x,ρ1,S1):=by
 rw[eZ];dsimp only;rw[ht,Option.bind_some];dsimp only;rw[if_pos rfl,hb,Option.bind_some]
theorem nO{n:Nat}(ht:t ρ S=some (false,S0)):eZ t cbd (n+1) ρ S=some (.nx,ρ,S0):=by
 rw[eZ];dsimp only;rw[ht,Option.bind_some];dsimp only;rw[if_neg (by decide)]
theorem ux{ce:CE}{ys:List U}(h:ok S)(hg:gg u ρ S=some (ρ0,S0))(he:ce ρ0 S0=some (x,S1))(hl:S1[l]?=some (.lst ys))(hn:ys.length<LIM):jH ok gg ce l (u::us) ρ S=jH ok gg ce l us ρ0 (S1.set l (.lst (ys++[x]))):=by
 rw[jH,if_pos h,hg,Option.bind_some];dsimp only;rw[he,Option.bind_some];dsimp only;rw[hl];dsimp only;rw[if_pos hn]
theorem xl{ce:CE}(h:ok S):jH ok gg ce l [] ρ S=some S:=by rw[jH,if_pos h]
end
end
theorem GZ{K:PySem.W.Frag}{H:Hp}{p xs:Addr}{c:CS}{r:Rho}{σ:L2.St}{v0:Option V}{Q:VK}{nx bk ct:L2.St->Hp->Prop}(P:NX H p xs)
  (ok:∀(ns:List Int) (a b:Int),0<=a->0<=b->∃ρ' S',c (none::some (.ref 1)::r) [.lst (ns.map U.int),.lst [.ref 0,.int a,.int b]]=some (.rt (.bl true),ρ',S')) (q:∀H',Q (.bl true) H')
  (hr:r=List.replicate r.length none:=by rfl) (hl:σ.length=r.length:=by rfl):tS K c { nx:=nx,rt:=Q,bk:=bk,ct:=ct } (v0::some (.ref p)::σ) H:=by
 obtain⟨ns,a,b,h1,h2,h3,h4,h5⟩:=P
 obtain⟨ρ',S',e⟩:=ok ns a b h4 h5
 refine⟨[xs,p],_,_,_,ρ',S',⟨rfl,by simp[h3],fun l ad o e1 e2=>?_⟩,⟨by simp[hl],fun i u e1=>?_⟩,e,fun m' v H' _ _ iv=>by rw[iv.of_bl];exact q H'⟩
 ·match l,e1,e2 with
  |0,e1,e2=>
   simp at e1 e2
   subst e1;subst e2
   exact⟨_,h2,jS ns⟩
  |1,e1,e2=>
   simp at e1 e2
   subst e1;subst e2
   exact⟨_,h1,.cons_ (.ref_ rfl) (.cons_ .int_ (.cons_ .int_ .nil_))⟩
  |l+2,e1,e2=>simp at e1
 ·match i,e1 with
  |0,e1=>simp at e1
  |1,e1=>
   simp at e1
   subst e1
   exact⟨.ref p,rfl,.ref_ rfl⟩
  |i+2,e1=>
   simp at e1
   rw[hr,List.getElem?_replicate]at e1
   split at e1<;>cases e1
theorem iT{p:List Value->Prop}(h:p [])(us:List Value)(e:us.length=0):p us:=by rw[List.length_eq_zero_iff.mp e];exact h
theorem dg{n:Nat}{p:List Value->Prop}(h:∀a us,us.length=n->p (a::us))(us:List Value)(e:us.length=n+1):p us:=by
 cases us with
 |nil=>cases e
 |cons a us=>exact h a us (Nat.succ.inj e)
def Nk(H:Hp)(a:Addr)(ep:Nat)(ks:List Key):Prop:=∃ob es kvs,H a=some (.frz ob (.dK kvs))/\ob.data=.dict es ep/\kvs.map (·.1)=ks
def Itd(a:Addr)(ep:Nat)(ks:List Key):It:=
 ⟨fun i H=>i<ks.length/\Nk H a ep ks,fun i H x H'=>H'=H/\∃k,ks[i]?=some k/\x=kV k,fun i H=>ks.length<=i/\Nk H a ep ks⟩
theorem EO{P:Program}{w:World}{H:Hp}{h:Heap}{a:Addr}{ob:Obj}{kvs:List (Key×V)}{es:Array DictEntry}{ep:Nat}(ok:HOk P w H h)(e:H a=some (.frz ob (.dK kvs)))(d:ob.data=.dict es ep):∃vs,KV kvs vs/\h.DictAt (cX P w) a vs ep:=by
 obtain⟨e1,_,_,vs,r,o,es',ep',e2,e3,e4,rest⟩:=(show dS P w H h a (.frz ob (.dK kvs))from ok a _ e)
 rw[e1]at e2;cases e2
 rw[d]at e4;cases e4
 exact⟨vs,r,ob,es,e1,e3,d,rest⟩
theorem EH{κ:Type}:∀{kvs:List (κ×V)} {vs:List (κ×Value)} {i:Nat} {k:κ} {v:V},KV kvs vs->kvs[i]?=some (k,v)->∃u,vs[i]?=some (k,u)
 |_,_,i,k,v,.nil,h=>by simp at h
 |_,_,0,k,v,.cons (b:=(k',u)) r t,h=>by
  simp at h;subst h
  have:k=k':=r.1
  subst this
  exact⟨u,by simp⟩
 |_,_,i+1,k,v,.cons r t,h=>by
  obtain⟨u,e⟩:=EH (i:=i) t (by simpa using h)
  exact⟨u,by simpa using e⟩
theorem G8{k:Key}{u:Value}(h:vi k u=true):dJ (kV k) u:=by
 rcases bW h with⟨i,t,rfl,rfl⟩|⟨i,t,rfl,rfl⟩
 ·exact⟨t,rfl⟩
 ·exact⟨t,rfl⟩
theorem y8{P:Program}{w:World}{K:PySem.W.Frag}{tg:Expr}(a it:Addr){ks:List Key}{ep:Nat} :
  HW P w K tg (Itd a ep ks) [it] it (fun n h=>h.IsKeyIter it a n ks.length ep) where
 mem:=by simp
 obj:=fun n h st c hc=>by
  simp only[List.mem_cons,List.not_mem_nil,or_false]at hc
  subst hc
  obtain⟨o,e,_,q⟩:=st
  exact⟨o,e,fun v z=>by rw[q]at z;cases z⟩
 keep:=fun n h h' st kp=>Heap.IsKeyIter.at st fun o q=>kp it (by simp) o q
 item:=by
  intro X hP hw hK hc n pins s σ H E Iv hf st hg
  subst hP hw hK
  obtain⟨hi,ob,es,kvs,hq,d,ek⟩:=hg
  obtain⟨vs,rv,da⟩:=EO Iv.hok hq d
  have hl:ks.length=vs.length:=by rw[<-ek,List.length_map];exact Paired.length rv
  have hi':n<kvs.length:=by rw[<-ek,List.length_map]at hi;exact hi
  have hx:kvs[n]?=some ((kvs[n]).1,(kvs[n]).2):=List.getElem?_eq_getElem hi'
  obtain⟨u,hu⟩:=EH rv hx
  obtain⟨f0,f1,f2,f3⟩:=hf it (by simp)
  have st':s.heap.IsKeyIter it a n vs.length ep:=by rw[<-hl];exact st
  refine wpAny_pyNext_dict_item st' da hu fun key h1 hk st1 sb=>⟨key,rfl,?_⟩
  have I1:Inv X pins σ H { s with heap:=h1 }:=Iv.turned (t':=s.toks) (fun b o hb e=>(sb.2 b hb).trans e) f0 f1 f3.1 f3.2.1 f3.2.2
  have st2:h1.IsKeyIter it a (n+1) ks.length ep:=by rw[hl];exact st1
  obtain⟨o,e,c,q⟩:=id st2
  exact Dy (s:={ s with heap:=h1 }) e c q (by decide) ⟨kV (kvs[n]).1,H,I1,G8 hk,⟨rfl,_,by rw[<-ek,List.getElem?_map,hx];rfl,rfl⟩,st2,fun b hb=>(hf b hb).1⟩
 done:=by
  intro X hP hw hK hc n pins s σ H E Iv hf st hg
  subst hP hw hK
  obtain⟨hi,ob,es,kvs,hq,d,ek⟩:=hg
  obtain⟨vs,rv,da⟩:=EO Iv.hok hq d
  have hl:ks.length=vs.length:=by rw[<-ek,List.length_map];exact Paired.length rv
  obtain⟨f0,f1,f2,f3⟩:=hf it (by simp)
  have st':s.heap.IsKeyIter it a n vs.length ep:=by rw[<-hl];exact st
  exact wpAny_pyNext_dict_end (Iv.ok.hd hc) st' da (by rw[List.getElem?_eq_none_iff];omega) fun h1 eb=>⟨rfl,Iv.turned (t':=s.toks) (fun b o hb e=>eb b o hb e) f0 f1 f3.1 f3.2.1 f3.2.2⟩
 self:=fun _ _ _ _ _ st h=>wpAny_pyIter_keyiter st h
theorem xb{X:Cx}{pins:List (Addr×Obj)}{σ:L2.St}{H:Hp}{s:Shared}{a:Addr}{o u:HO}(I:Inv X pins σ H s)(e:H a=some o)(nt:∀xs,o≠.tup xs)(no:∀x,o≠.own x)(nb:∀ps,o≠.tbl ps)
  (nf:∀ob u,X.H₀ a≠some (.frz ob u)) (new:dS X.prog X.w (upd H a u) s.heap a u):Inv X pins σ (upd H a u) s:=by
 have nn:∀b,H b=none->upd H a u b=none:=fun b q=>by rw[bN (Ne.symm (dD e q))];exact q
 have ho:∀b x,H b=some (.own x)->upd H a u b=some (.own x):=fun b x q=>by
  rw[bN];exact q
  intro z;subst z;rw[e]at q;cases q;exact no _ rfl
 have ht:∀b xs,H b=some (.tup xs)->upd H a u b=some (.tup xs):=fun b x q=>by
  rw[bN];exact q
  intro z;subst z;rw[e]at q;cases q;exact nt _ rfl
 refine⟨I.ok,I.os,I.bare,⟨I.base.keep,I.base.slot,fun b ob q1 q2 q3=>nn _ (I.base.free b ob q1 q2 q3),I.base.there,fun b xs q=>ht _ _ (I.base.tups b xs q),fun b ob v q=>?_,fun b ps q=>?_⟩,I.loc,I.cell,nn _ I.free,fun x c q=>nn _ (I.freeC x c q),fun p hp=>?_,fun b v q=>?_,I.len⟩
 ·rw[bN];exact I.base.frzs b ob v q
  intro z;subst z;exact nf _ _ q
 ·obtain⟨more,q'⟩:=I.base.tbls b ps q
  refine⟨more,?_⟩
  rw[bN];exact q'
  intro z;subst z;rw[e]at q';cases q';exact nb _ rfl
 ·obtain⟨p1,p2,p3⟩:=I.pin p hp
  exact⟨p1,nn _ p2,p3⟩
 ·by_cases hb:b=a
  ·subst hb;rw[aX]at q;cases q;exact new
  ·rw[bN hb]at q
   exact(I.hok b v q).stay (fun _ _ _ g=>g) (fun c g=>ho c b g) fun c xs g=>ht c xs g
def BL(X:Cx)(a:Addr):Prop:=∀ob u,X.H₀ a≠some (.frz ob u)
def Hi(X:Cx)(tl:TE):TI:=fun σ H R=>tl σ H fun x H1=>∃a kvs,x=.ref a/\H1 a=some (.dK kvs)/\∀ob es ep,BL X a->ob.data=.dict es ep->R (Itd a ep (kvs.map (·.1))) (upd H1 a (.frz ob (.dK kvs)))
theorem yX{X:Cx}{tg l:Expr}{tl:TE}(hl:WE X l tl):WI X tg l (Hi X tl):=by
 constructor
 intro pins s σ H R I h
 refine thn (hl.h pins s σ H _ I h) fun v s1 hz=>?_
 obtain⟨x,H1,I1,r1,q1⟩:=hz
 obtain⟨a,kvs,rfl,hq,q⟩:=q1
 cases r1
 obtain⟨hz,hs,vs,rv,ob,es,ep,e1,e2,e3,rest⟩:=A1 I1.hok hq
 have da:s1.heap.DictAt (cX X.prog X.w) a vs ep:=⟨ob,es,e1,e2,e3,rest⟩
 have hl:kvs.length=vs.length:=Paired.length rv
 have nf:BL X a:=fun ob' u' z=>by have:=I1.base.frzs a ob' u' z;rw[hq]at this;cases this
 have I2:Inv X pins σ (upd H1 a (.frz ob (.dK kvs))) s1:=xb I1 hq (by simp) (by simp) (by simp) nf ⟨e1,hz,hs,vs,rv,ob,es,ep,e1,e2,e3,rest⟩
 refine wpAny_pyIter_dict hs da ?_
 refine⟨s1.heap.objs.size,[s1.heap.objs.size],_,_,_,rfl,I2.kept (t':=s1.toks) fun b o g=>Heap.get?_push_of_some _ g,y8 a _,⟨_,Heap.get?_push_size _ rfl,rfl,by rw[List.length_map,hl];rfl⟩,fun b hb=>?_,q ob es ep nf e3⟩
 simp only[List.mem_cons,List.not_mem_nil,or_false]at hb
 subst hb
 exact I2.fpOk (Nat.le_refl _) (I2.hok.fresh (Nat.le_refl _))
def Lb(X:Cx)(D:BN):BN where
 nx:=fun σ H=>∃a ob kvs,BL X a/\H a=some (.frz ob (.dK kvs))/\D.nx σ (upd H a (.dK kvs))
 rt:=fun v H=>∃a ob kvs,BL X a/\H a=some (.frz ob (.dK kvs))/\D.rt v (upd H a (.dK kvs))
 bk:=fun σ H=>∃a ob kvs,BL X a/\H a=some (.frz ob (.dK kvs))/\D.bk σ (upd H a (.dK kvs))
 ct:=fun σ H=>∃a ob kvs,BL X a/\H a=some (.frz ob (.dK kvs))/\D.ct σ (upd H a (.dK kvs))
theorem lA{X:Cx}{pins:List (Addr×Obj)}{σ:L2.St}{H:Hp}{s:Shared}{a:Addr}{ob:Obj}{kvs:List (Key×V)}(I:Inv X pins σ H s)(nf:BL X a)(e:H a=some (.frz ob (.dK kvs))):Inv X pins σ (upd H a (.dK kvs)) s:=
 xb I e (by simp) (by simp) (by simp) nf (show dS X.prog X.w H s.heap a (.frz ob (.dK kvs))from I.hok a _ e).2
theorem Fv{X:Cx}{st:Stmt}{t:TS}(h:WS X st t):WS X st (fun D σ H=>t (Lb X D) σ H):=by
 constructor
 intro pins s σ H D I k
 refine thn (h.h pins s σ H _ I k) fun f s1 q=>?_
 cases f with
 |next=>obtain⟨σ1,H1,I1,a,ob,kvs,nf,e,r⟩:=q;exact⟨σ1,_,lA I1 nf e,r⟩
 |brk=>obtain⟨σ1,H1,I1,a,ob,kvs,nf,e,r⟩:=q;exact⟨σ1,_,lA I1 nf e,r⟩
 |cont=>obtain⟨σ1,H1,I1,a,ob,kvs,nf,e,r⟩:=q;exact⟨σ1,_,lA I1 nf e,r⟩
 |ret u=>obtain⟨v,σ1,H1,I1,rv,a,ob,kvs,nf,e,r⟩:=q;exact⟨v,σ1,_,lA I1 nf e,rv,r⟩
def kU:Key->U
 |.inl i=>.int i
 |.inr x=>.str x
theorem Kz{K:PySem.W.Frag}{m:List Addr}{H:Hp}(k:Key):Is K m H (kV k) (kU k):=by
 cases k with
 |inl i=>exact .int_
 |inr x=>exact .str_
open Classical in
def uni{α:Type}(F:Nat->Option α):Option α:=if h:∃r,∀n,F n=some r then some h.choose else none
theorem Ei{α:Type}{F:Nat->Option α}{r:α}(h:∀n,F n=some r):uni F=some r:=by
 have hx:∃r,∀n,F n=some r:=⟨r,h⟩
 unfold uni
 rw[dif_pos hx]
 have:=hx.choose_spec 0
 rw[h 0]at this
 exact this.symm
theorem we{α:Type}{F:Nat->Option α}{r:α}(h:uni F=some r)(n:Nat):F n=some r:=by
 unfold uni at h
 split at h
 ·rename_i hx
  cases h
  exact hx.choose_spec n
 ·cases h
def Bk(ce:CE)(g:CG)(cb:CS):CS:=fun ρ S=>(ce ρ S).bind fun p=>match p.1 with
 |.ref l=>match p.2[l]? with
  |some (.dic kus)=>uni fun ep=>(eK (fun S'=>S'[l]?=some (.fdc ep kus)) g cb (kus.map fun q=>kU q.1) ρ (p.2.set l (.fdc ep kus))).bind fun r=>match r.2.2[l]? with
   |some (.fdc _ kus')=>some (r.1,r.2.1,r.2.2.set l (.dic kus'))
   |_=>none
  |_=>none
 |_=>none
theorem An{K:PySem.W.Frag}{m:List Addr}{H:Hp}{a:Addr}{l ep:Nat}{kus:List (Key×U)}(ha:m[l]?=some a):D8 K (Itd a ep (kus.map (·.1))) m H (kus.map fun q=>kU q.1) (fun S'=>S'[l]?=some (.fdc ep kus)):=by
 intro m2 S2 H2 i e sr hok
 obtain⟨a',ha',ob,es,kvs,hx,hd,ip⟩:=sr.get hok
 have ha2:=e.get ha
 rw[ha2]at ha';cases ha'
 have hz:Nk H2 a ep (kus.map (·.1)):=⟨ob,es,kvs,hx,hd,ip.1⟩
 refine⟨fun u hu=>?_,fun hu=>⟨by simpa using hu,hz⟩⟩
 have hi:i<kus.length:=by have:=(List.getElem?_eq_some_iff.mp hu).1;simpa using this
 refine⟨⟨by simpa using hi,hz⟩,?_⟩
 rintro x H3 ⟨rfl,k,hk,rfl⟩
 refine⟨.refl,sr,?_⟩
 rw[List.getElem?_map]at hk hu
 rw[List.getElem?_eq_getElem hi]at hk hu
 cases hk;cases hu
 exact Kz _
theorem DB{X:Cx}{ce:CE}{g:CG}{cb:CS}:∀D σ H,tS X.K (Bk ce g cb) D σ H->Lg (Hi X (tE X.K ce)) (tG X.K g) (tS X.K cb) (Lb X D) σ H:=by
 rintro D σ H ⟨m,ρ,S,o,ρ',S',sr,lr,hc,post⟩
 obtain⟨⟨x,S1⟩,h1,h⟩:=Option.bind_eq_some_iff.mp hc
 refine⟨m,ρ,S,x,S1,sr,lr,h1,fun m1 v1 H1 e1 sr1 i1=>?_⟩
 cases x with
 |ref l=>
  simp only at h
  split at h<;>try cases h
  rename_i kus hS
  obtain⟨a,ha,rfl⟩:=i1.of_ref
  obtain⟨a',ha',kvs,hx,ip⟩:=sr1.get hS
  rw[ha]at ha';cases ha'
  refine⟨a,kvs,rfl,hx,fun ob es ep nf hd=>?_⟩
  obtain⟨⟨o1,ρ1,S2⟩,h2,h3⟩:=Option.bind_eq_some_iff.mp (we h ep)
  simp only at h3
  split at h3<;>try cases h3
  rename_i ep' kus' hS2
  have kp:D7 X.K H1 (upd H1 a (.frz ob (.dK kvs))):=sr1.keep ha _
  have ee:Ext X.K m1 H1 m1 (upd H1 a (.frz ob (.dK kvs))):=.of kp
  have sr2:Sr X.K m1 (S1.set l (.fdc ep kus)) (upd H1 a (.frz ob (.dK kvs))):=sr1.put ha ⟨ob,es,kvs,aX,hd,ip.mono ee⟩
  rw[ip.1]
  refine wQ sr2 (lr.mono (e1.trans ee)) (An ha) h2 ?_
  have back:∀m3 H3,Ext X.K m1 (upd H1 a (.frz ob (.dK kvs))) m3 H3->Sr X.K m3 S2 H3->∃ob' kvs',H3 a=some (.frz ob' (.dK kvs'))/\Ext X.K m3 H3 m3 (upd H3 a (.dK kvs'))/\Sr X.K m3 (S2.set l (.dic kus')) (upd H3 a (.dK kvs')):=fun m3 H3 e3 sr3=>by
   obtain⟨a3,ha3,ob3,es3,kvs3,hx3,hd3,ip3⟩:=sr3.get hS2
   rw[e3.get ha]at ha3;cases ha3
   have e4:Ext X.K m3 H3 m3 (upd H3 a (.dK kvs3)):=.of (sr3.keep (e3.get ha) _)
   exact⟨ob3,kvs3,hx3,e4,sr3.put (e3.get ha) ⟨kvs3,aX,ip3.mono e4⟩⟩
  have nxt:∀(R:L2.St->Hp->Prop),js X.K m H R ρ' (S2.set l (.dic kus'))->js X.K m1 (upd H1 a (.frz ob (.dK kvs))) (fun σ H=>∃a ob kvs,BL X a/\H a=some (.frz ob (.dK kvs))/\R σ (upd H a (.dK kvs))) ρ' S2:=fun R p m3 σ3 H3 e3 sr3 lr3=>by
   obtain⟨ob3,kvs3,hx3,e4,sr4⟩:=back m3 H3 e3 sr3
   exact⟨a,ob3,kvs3,nf,hx3,p m3 σ3 _ (((e1.trans ee).trans e3).trans e4) sr4 (lr3.mono e4)⟩
  cases o with
  |nx=>exact nxt _ post
  |bk=>exact nxt _ post
  |ct=>exact nxt _ post
  | rt v=>
    intro m3 v3 H3 e3 sr3 i3
    obtain⟨ob3,kvs3,hx3,e4,sr4⟩:=back m3 H3 e3 sr3
    exact⟨a,ob3,kvs3,nf,hx3,post m3 v3 _ (((e1.trans ee).trans e3).trans e4) sr4 (i3.mono e4)⟩
 |_=>cases h
theorem Ge{X:Cx}{tg iter:Expr}{body:List Stmt}{ce:CE}{g:CG}{cb:CS}{pos:Pos}(hp:PassesOwn (model X.prog X.w) X.A X.env X.xe)(hc:X.calm=true)(hi:QE X iter ce)(hg:QG X tg g)(hb:QSs X body cb)(hs:∀x,foldedSetIterable iter X.env x=pure x:=by intro _;rfl):QS X (.For tg iter body [] pos) (Bk ce g cb):=
 (Fv (yJ hp hc (yX hi) hg hb hs)).imp DB
end OP
namespace OG
open PySem PySem.Spec PyProof.Rows L2
def uQ(wi:TI)(g:TG)(tt:TT)(te:TE)(n:Nat)(caps:List Nat):TE:=fun σ H Q=>wi σ H fun J H1=>∀l,H1 l=none->∃W:Nat->Nat->L2.St->Hp->Prop,(∃m,W 0 m (stC n caps σ) (upd H1 l (.lst [])))/\
 ∀i m σ' H2,W i m σ' H2->(J.stop i H2/\Q (.ref l) H2)\/(J.go i H2/\∃N:L2.St->Hp->Prop,(∀σ'' H',N σ'' H'->∃m',m'<m/\W (i+1) m' σ'' H')/\
  ∀x H3,J.yld i H2 x H3->g x σ' H3 fun σ2 H4=>tt σ2 H4 fun b H5=>match b with
   |true=>te σ2 H5 fun v H6=>∃ys,H6 l=some (.lst ys)/\ys.length<sizeLine/\N σ2 (upd H6 l (.lst (ys++[v])))
   |false=>N σ2 H5)
theorem qc{prog:Program}{w:World}{A:Around}{R:Result->Shared->Prop}{s:Shared}{elt target iter c:Expr}{scope:Scope}{pos:Pos}{it acc:Value}{env:Env}(I:Nat->Shared->Prop)
  (turn:∀n s,I n s->wpAny (model prog w) A (pyNext it) (fun r s₁=>match r with
   |none=>R (.ok .next) s₁
   |some v=>wpAny (model prog w) A (letOwnedTupleGo target it v) (fun _ s₁'=>wpAny (model prog w) A (assign target env v) (fun _ s₂=>wpAny (model prog w) A (PySem.isTrue c env (eval c env)) (fun b s₂'=>match b with
    |true=>wpAny (model prog w) A (eval elt env) (fun x s₃=>
     wpAny (model prog w) A (call (.builtin "list.append") [acc,x]) (fun _ s₄=>∃m,m<n/\I m s₄) (fun _ _=>False) s₃)
     (fun _ _=>False) s₂'
    |false=>∃m,m<n/\I m s₂') (fun _ _=>False) s₂) (fun _ _=>False) s₁') (fun _ _=>False) s₁) (fun _ _=>False) s)
  (n:Nat) (h:I n s) :
  codeAny (model prog w) A (.compLoop (.ListComp elt [⟨target,iter,[c],0⟩] scope pos) 0 it acc env) R s:=by
 refine codeAny_loop rfl I (fun n s hI=>?_) n h
 show wpAny _ _ ((compTurn (.ListComp elt [⟨target,iter,[c],0⟩] scope pos) 0 it acc env).onRaise (fun x=>do noteFrame x env;theTreesLotGoes x)) _ _ s
 refine wpAny_noted ?_
 rw[compTurn_list]
 refine wpAny_bind (wpAny_standAt (wpAny_bind (wpAny_mono (turn n s hI) (fun r s₁ h₁=>?_) fun _ _ h'=>h'.elim)))
 cases r with
 |none=>exact wpAny_pure h₁
 |some v=>
  refine wpAny_bind (wpAny_mono h₁ (fun _ s₁' h₁'=>?_) fun _ _ h'=>h'.elim)
  refine wpAny_bind (wpAny_mono h₁' (fun _ s₂ h₂=>?_) fun _ _ h'=>h'.elim)
  dsimp only
  simp only[List.forIn_cons,List.forIn_nil,if_true,bind_assoc,pure_bind]
  refine wpAny_bind (wpAny_mono h₂ (fun b s₂' h₂'=>?_) fun _ _ h'=>h'.elim)
  cases b with
  |true=>
   rw[if_pos rfl]
   exact wpAny_bind (wpAny_mono h₂' (fun x s₃ h₃=>wpAny_bind (wpAny_mono h₃
    (fun _ s₄ h₄=>wpAny_pure ⟨rfl,h₄⟩) fun _ _ h'=>h'.elim)) fun _ _ h'=>h'.elim)
  |false=>
   rw[if_neg Bool.false_ne_true]
   exact wpAny_pure ⟨rfl,h₂'⟩
theorem yt{X:Cx}{Nc capN tn:List Str}{scope:Scope}{cl:List (Str×Addr)}{n:Nat}{caps:List Nat}{tg iter elt:Expr}{pos:Pos}{wi:TI}{g:TG}{te:TE}{tt:TT}{c:Expr}
  (hc:X.calm=true) (hi:WI X tg iter wi) (hg:∀s3 H3 fp,WG (cxC X Nc scope cl s3 H3 fp) tg g) (he:∀s3 H3 fp,WE (cxC X Nc scope cl s3 H3 fp) elt te)
  (ht:∀s3 H3 fp,WT (cxC X Nc scope cl s3 H3 fp) c tt)
  (hclos:closureFor scope X.env=pure cl) (hkind:scope.kind=.function) (hnl:∀x∈scope.names,x.2=.local->scope.names.lookup x.1=some .local) (hcell:∀x∈scope.names,x.2≠.cell)
  (hcl:xI X.env cl) (hhas:((relabel scope X.env).names.all fun p=>!(p.2 == .cell||p.2 == .free)||(cl.lookup p.1).isSome)=true)
  (hcap:Paired (Cap X scope cl) caps capN) (hN:Nc=tn++capN) (hn:tn.length=n)
  {use:Option (Value->Sem Unit)} {pins:List (Addr×Obj)} {σ:L2.St} {H:Hp} {s:Shared} {Q:VK} {Qf:Value->Shared->Prop} (I:Inv X pins σ H s) (h:uQ wi g tt te n caps σ H Q)
  (hend:∀(D C:Addr) (s6:Shared) (H5:Hp) (m:Str->Option Value),Inv X pins σ H5 s6->s6.heap.Ns C m->H5 C=none->C≠X.env.locals->X.s₀.heap.objs.size<=C->(∀x c,X.env.cells.lookup x=some c->c≠C)->(∀p∈X.pn++pins,p.1≠C)->Q (.ref D) H5->compPost (model X.prog X.w) X.A X.xe use Qf (.ref D) C (.ok .next) s6)
  (hs:∀x,foldedSetIterable iter X.env x=pure x) :
  wpAny (model X.prog X.w) X.A (comprehension (.ListComp elt [⟨tg,iter,[c],0⟩] scope pos) scope X.env (firstIterPos [⟨tg,iter,[c],0⟩] pos) (newList []) (firstAsync [⟨tg,iter,[c],0⟩]) (firstIter [⟨tg,iter,[c],0⟩] X.env) use) Qf X.xe s:=by
 refine wpAny_comprehension_free (use:=use) (g:=⟨tg,iter,[c],0⟩) (gs:=[]) rfl hs hclos hkind hnl (thn (hi.h pins s σ H _ I h) fun v s1 h1=>thn h1 fun itv s2 h2=>?_)
 obtain⟨it,fp,tnn,J,H2,rfl,I2,T,st2,f2,hW⟩:=h2
 have hD:=I2.fresh
 obtain⟨W,⟨m0,w0⟩,turn⟩:=hW _ hD
 refine wpAny_newObj_type (wpAny_newFunctionEnv hcell (by intro y hy;simp at hy) (fun h₁ hns₁ hsb₁=>?_) hkind)
 dsimp only at hns₁ hsb₁ ⊢
 have I3:Inv X pins σ (upd H2 s2.heap.objs.size (.lst [])) { s2 with heap:=s2.heap.push { cls:=.type "list",dict:=none,data:=.seq ([]:List Value).toArray },toks:=s2.toks }:=I2.lnew (its:=[]) .nil (Nat.zero_le _)
 generalize hs3:({ s2 with heap:=s2.heap.push { cls:=.type "list",dict:=none,data:=.seq ([]:List Value).toArray },toks:=s2.toks }:Shared)=s3 at I3
 have es3:s3.heap=s2.heap.push { cls:=.type "list",dict:=none,data:=.seq ([]:List Value).toArray }:=by rw[<-hs3]
 generalize hDD:s2.heap.objs.size=D at *
 have kept:∀b o,s3.heap.get? b=some o->h₁.get? b=some o:=fun b o e=>by
  have lt:=Heap.lt_size e
  rw[es3]at lt e
  exact hsb₁.extBut b o (Nat.ne_of_lt lt) (Heap.get?_push_of_some _ e)
 have old:∀b o,s2.heap.get? b=some o->s3.heap.get? b=some o:=fun b o e=>by rw[es3];exact Heap.get?_push_of_some _ e
 have ltD:∀b∈fp,b<D:=fun b hb=>by
  obtain⟨o,e,_⟩:=T.obj 0 _ st2 b hb
  rw[<-hDD];exact Heap.lt_size e
 have fo:∀b∈fp,b<s3.heap.objs.size:=fun b hb=>by
  obtain⟨o,e,_⟩:=T.obj 0 _ st2 b hb
  exact Heap.lt_size (old _ _ e)
 have f3:∀b∈fp,yC X pins (upd H2 D (.lst [])) b:=fun b hb=>by
  refine⟨?_,(f2 b hb).2⟩
  rw[bN (Nat.ne_of_lt (ltD b hb))]
  exact(f2 b hb).1
 rw[<-es3]at hns₁ hsb₁ ⊢
 have Ic:=fun t'=>Inv.comp (h1:=h₁) (t':=t') (Nc:=Nc) (n:=n) I3 hc f3 fo hkind hcl hhas hcap tn hN hn hns₁ kept
 have stat:∀{H':Hp},(∀b∈fp,H' b=none)->∀b∈fp,yC (cxC X Nc scope cl s3 (upd H2 D (.lst [])) fp) [] H' b:=fun hn' b hb=>by
  refine⟨hn' b hb,Nat.ne_of_lt (fo b hb),fun z=>?_,.inl hb,fun x c e=>(f2 b hb).2.2.2.2.1 x c (hcl.look e),fun p hp=>(by simp at hp)⟩
  rcases List.mem_cons.mp (I3.stkSub b z)with q|q
  ·exact(f2 b hb).2.1 q
  ·exact(f2 b hb).2.2.1 q
 have loop:∀s4:Shared,(∃t',s4={ s3 with heap:=h₁,toks:=t' })->codeAny (model X.prog X.w) X.A (.compLoop (.ListComp elt [⟨tg,iter,[c],0⟩] scope pos) 0 (.ref it) (.ref D) (compEnvC scope cl s3.heap.objs.size X.env))
   (compPost (model X.prog X.w) X.A X.xe use Qf (.ref D) s3.heap.objs.size) s4:=by
  rintro s4 ⟨t',rfl⟩
  refine qc (fun n' s'=>∃i σ' H',Inv (cxC X Nc scope cl s3 (upd H2 D (.lst [])) fp) [] σ' H' s'/\tnn i s'.heap/\(∀b∈fp,H' b=none)/\W i n' σ' H') ?_ m0
   ⟨0,_,_,Ic t',T.keep 0 _ _ st2 fun b hb o e=>kept _ _ (old _ _ e),fun b hb=>(f3 b hb).1,w0⟩
  rintro n' s5 ⟨i,σ5,H5,I5,st5,fr5,w5⟩
  rcases turn i n' σ5 H5 w5 with⟨stop,qn⟩|⟨go,N,hN',step⟩
  ·refine thn (T.done (cxC X Nc scope cl s3 (upd H2 D (.lst [])) fp) rfl rfl rfl hc i [] s5 σ5 H5 (fun _ _=>False) I5 (stat fr5) st5 stop) fun r s6 ⟨hr,I6⟩=>?_
   subst hr
   obtain⟨m,hm,_⟩:=I6.loc
   have I7:Inv X pins σ H5 s6:=Inv.call' (ch:=fp) I3 I6.os I6.base I6.hok I6.bare fun b hb=>⟨(f2 b hb).2.2.2.1,(f2 b hb).2.1,(f2 b hb).2.2.2.2.1,(f2 b hb).2.2.2.2.2⟩
   exact hend D _ s6 H5 m I7 hm I6.free (Ne.symm (Nat.ne_of_lt I3.lt)) I3.sz (fun x c e=>by
     obtain⟨v',o,ho,_⟩:=I3.cell x c e
     exact Nat.ne_of_lt (Heap.lt_size ho)) (fun p hp=>Nat.ne_of_lt (Heap.lt_size (I3.pin p hp).1)) qn
  ·refine thn (T.item (cxC X Nc scope cl s3 (upd H2 D (.lst [])) fp) rfl rfl rfl hc i [] s5 σ5 H5 (fun _ _=>False) I5 (stat fr5) st5 go) fun r s6 ⟨u,hr,h6⟩=>?_
   subst hr
   refine thn h6 fun _ s7 hz=>?_
   obtain⟨x,H7,I7,r7,y7,st7,fr7⟩:=hz
   have I7':=I7.pinned (stat fr7) (T.obj _ _ st7)
   refine thn ((hg s3 (upd H2 D (.lst [])) fp).h _ s7 σ5 H7 x u _ I7' r7 (step x H7 y7)) fun _ s8 hz=>?_
   obtain⟨σ8,H8,I8,q8⟩:=hz
   have fin:∀{s10:Shared} {H10:Hp},Inv (cxC X Nc scope cl s3 (upd H2 D (.lst [])) fp) _ σ8 H10 s10->N σ8 H10->∃m',m'<n'/\∃i' σ' H',Inv (cxC X Nc scope cl s3 (upd H2 D (.lst [])) fp) [] σ' H' s10/\tnn i' s10.heap/\(∀b∈fp,H' b=none)/\W i' m' σ' H':=fun{s10 H10} I10 q10=>by
    obtain⟨m',hm,w10⟩:=hN' σ8 H10 q10
    refine⟨m',hm,i+1,σ8,H10,Inv.unpinned I10,T.keep _ _ _ st7 fun b hb o e=>(Inv.pin I10 (b,o) (List.mem_append_right _ (List.mem_append_right _ (gK hb e)))).1,fun b hb=>?_,w10⟩
    obtain⟨o,e,d⟩:=T.obj _ _ st7 b hb
    exact(Inv.pin I10 (b,o) (List.mem_append_right _ (List.mem_append_right _ (gK hb e)))).2.1
   refine thn ((ht s3 (upd H2 D (.lst [])) fp).h _ s8 σ8 H8 _ I8 q8) fun b9 s9' h9=>?_
   obtain⟨H9',I9',q9'⟩:=h9
   cases b9 with
   |false=>exact fin I9' q9'
   |true=>
    refine thn ((he s3 (upd H2 D (.lst [])) fp).h _ s9' σ8 H9' _ I9' q9') fun v9 s9 hz=>?_
    obtain⟨x9,H9,I9,r9,ys,hy,hlt,q9⟩:=hz
    exact thn (oR (X:=cxC X Nc scope cl s3 (upd H2 D (.lst [])) fp) _ s9 σ8 H9 (.ref D) [x9] (.ref D) [v9] (fun _ H'=>N σ8 H') I9 rfl (.cons r9 .nil) ⟨D,ys,x9,rfl,rfl,hy,hlt,q9⟩) fun _ s10 ⟨_,H10,I10,_,q10⟩=>fin I10 q10
 have e4:∀t',({ s2 with heap:=h₁,toks:=t' }:Shared)={ s3 with heap:=h₁,toks:=t' }:=fun t'=>by rw[<-hs3]
 refine codeAny_compStart_list (loop _ ⟨_,e4 _⟩) (T.self _ 0 _ _ _ (T.keep 0 _ _ st2 fun b hb o e=>kept _ _ (old _ _ e)) (loop _ ⟨_,e4 _⟩))
theorem qh{X:Cx}{Nc capN tn:List Str}{scope:Scope}{cl:List (Str×Addr)}{n:Nat}{caps:List Nat}{tg iter elt:Expr}{pos:Pos}{wi:TI}{g:TG}{te:TE}{tt:TT}{c:Expr}
  (hc:X.calm=true) (hi:WI X tg iter wi) (hg:∀s3 H3 fp,WG (cxC X Nc scope cl s3 H3 fp) tg g) (he:∀s3 H3 fp,WE (cxC X Nc scope cl s3 H3 fp) elt te)
  (ht:∀s3 H3 fp,WT (cxC X Nc scope cl s3 H3 fp) c tt)
  (hclos:closureFor scope X.env=pure cl) (hkind:scope.kind=.function) (hnl:∀x∈scope.names,x.2=.local->scope.names.lookup x.1=some .local) (hcell:∀x∈scope.names,x.2≠.cell)
  (hcl:xI X.env cl) (hhas:((relabel scope X.env).names.all fun p=>!(p.2 == .cell||p.2 == .free)||(cl.lookup p.1).isSome)=true)
  (hcap:Paired (Cap X scope cl) caps capN) (hN:Nc=tn++capN) (hn:tn.length=n)
  (hs:∀x,foldedSetIterable iter X.env x=pure x:=by intro _;rfl) :
  WE X (.ListComp elt [⟨tg,iter,[c],0⟩] scope pos) (uQ wi g tt te n caps):=by
 constructor
 intro pins s σ H Q I h
 rw[eval_ListComp]
 refine yt hc hi hg he ht hclos hkind hnl hcell hcl hhas hcap hN hn I h (fun D C s6 H5 m I7 hm fr nl sz cn pn qn=>⟨m,hm,fun h' hs'=>?_⟩) hs
 exact⟨.ref D,H5,I7.turned (t':=s6.toks) (it:=C) (fun b o hb e=>hs'.extBut b o hb e) fr nl (.inr sz) cn pn,rfl,qn⟩
end OG
namespace OP
open PySem PySem.Spec PyProof.Rows L2 OG
open Classical in
def dr(ok:Sto->Prop)(g:CG)(ct:CT)(ce:CE)(l:Nat):List U->Rho->Sto->Option Sto
 |[],_,S=>if ok S then some S else none
 |u::us,ρ,S=>if ok S then(g u ρ S).bind fun p=>(ct p.1 p.2).bind fun q=>if q.1=true then(ce p.1 q.2).bind fun r=>match r.2[l]? with
  |some (.lst ys)=>if ys.length<LIM then dr ok g ct ce l us p.1 (r.2.set l (.lst (ys++[r.1])))else none
  |_=>none else dr ok g ct ce l us p.1 q.2 else none
def sj(ci:CI)(g:CG)(ct:CT)(ce:CE)(n:Nat)(caps:List Nat):CE:=fun ρ S=>(ci ρ S).bind fun p=>(dr p.2.1 g ct ce p.2.2.length p.1 (sN n caps ρ) (p.2.2++[.lst []])).bind fun S'=>some (.ref p.2.2.length,S')
section
variable{X:Cx}{K:PySem.W.Frag}
theorem px{g:CG}{ct:CT}{ce:CE}{n:Nat}{caps:List Nat}{J:It}{us:List U}{ok:Sto->Prop}{Q:VK}{m1:List Addr}{H1:Hp}{S1 S':Sto}{ρ:Rho}{σ:L2.St}{l:Addr}(sr1:Sr K m1 S1 H1)(lr:Lr K m1 H1 ρ σ)(ito:D8 K J m1 H1 us ok)(hl:H1 l=none)(h2:dr ok g ct ce S1.length us (sN n caps ρ) (S1++[.lst []])=some S')
  (post:∀m2 H2,Ext K (m1++[l]) (upd H1 l (.lst [])) m2 H2->Sr K m2 S' H2->Q (.ref l) H2) :
  ∃W:Nat->Nat->L2.St->Hp->Prop,(∃m,W 0 m (OG.stC n caps σ) (upd H1 l (.lst [])))/\
 ∀i m σ' H2,W i m σ' H2->(J.stop i H2/\Q (.ref l) H2)\/(J.go i H2/\∃N:L2.St->Hp->Prop,(∀σ'' H',N σ'' H'->∃m',m'<m/\W (i+1) m' σ'' H')/\
  ∀x H3,J.yld i H2 x H3->tG K g x σ' H3 fun σ2 H4=>tT K ct σ2 H4 fun b H5=>match b with
   |true=>tE K ce σ2 H5 fun v H6=>∃ys,H6 l=some (.lst ys)/\ys.length<sizeLine/\N σ2 (upd H6 l (.lst (ys++[v])))
   |false=>N σ2 H5):=by
 have ee:Ext K m1 H1 (m1++[l]) (upd H1 l (.lst [])):=.new (cT hl _)
 let W:Nat->Nat->L2.St->Hp->Prop:=fun i k σ2 H2=>k=us.length-i/\i<=us.length/\∃m2 ρ2 S2,Ext K (m1++[l]) (upd H1 l (.lst [])) m2 H2/\Sr K m2 S2 H2/\Lr K m2 H2 ρ2 σ2/\dr ok g ct ce S1.length (us.drop i) ρ2 S2=some S'
 refine⟨W,⟨us.length,by simp,Nat.zero_le _,m1++[l],sN n caps ρ,S1++[.lst []],.refl,sr1.new (o:=.lst []) hl ⟨[],aX,.nil_⟩,z9 (lr.mono ee),by simpa using h2⟩,?_⟩
 rintro i k σ2 H2 ⟨rfl,hi,m2,ρ2,S2,e2,sr2,lr2,hl2⟩
 by_cases hlt:i<us.length
 ·have hu:=List.getElem?_eq_getElem hlt
  rw[lG hu]at hl2
  unfold dr at hl2
  split at hl2
  ·rename_i hok
   obtain⟨⟨ρ3,S3⟩,h3,hl2⟩:=Option.bind_eq_some_iff.mp hl2
   obtain⟨⟨b4,S4⟩,h4,hl2⟩:=Option.bind_eq_some_iff.mp hl2
   obtain⟨hgo,hy⟩:=(ito m2 S2 H2 i (ee.trans e2) sr2 hok).1 _ hu
   refine .inr ⟨hgo,W (i+1) (us.length-(i+1)),fun σ' H' w'=>⟨_,by omega,w'⟩,fun x H3 y=>?_⟩
   obtain⟨e3,sr3,ix⟩:=hy x H3 y
   refine⟨m2,ρ2,S2,_,ρ3,S3,sr3,lr2.mono e3,ix,h3,fun m4 σ4 H4 e4 sr4 lr4=>⟨m4,ρ3,S3,b4,S4,sr4,lr4,h4,fun m4' H4' e4' sr4'=>?_⟩⟩
   cases b4 with
   |false=>
    rw[if_neg Bool.false_ne_true]at hl2
    exact⟨rfl,hlt,m4',ρ3,_,(((e2.trans e3).trans e4).trans e4'),sr4',lr4.mono e4',hl2⟩
   |true=>
    rw[if_pos rfl]at hl2
    obtain⟨⟨u5,S5⟩,h5,hl2⟩:=Option.bind_eq_some_iff.mp hl2
    simp only at hl2
    split at hl2<;>try cases hl2
    rename_i ys hys
    split at hl2<;>try cases hl2
    rename_i gZ
    refine⟨m4',ρ3,S4,u5,S5,sr4',lr4.mono e4',h5,fun m5 v5 H5 e5 sr5 i5=>?_⟩
    obtain⟨a',ha',xs,hx,il⟩:=sr5.get hys
    have ha:m5[S1.length]?=some l:=((((e2.trans e3).trans e4).trans e4').trans e5).get (fV sr1.len)
    rw[ha]at ha';cases ha'
    have eu:Ext K m5 H5 m5 (upd H5 l (.lst (xs++[v5]))):=.of (sr5.keep ha _)
    exact⟨xs,hx,Kg (by rw[il.length];exact gZ),rfl,hlt,m5,ρ3,_,(((((e2.trans e3).trans e4).trans e4').trans e5).trans eu),sr5.put (o:=.lst (ys++[u5])) ha ⟨_,aX,(il.append (.cons_ i5 .nil_)).mono eu⟩,(lr4.mono ((e4'.trans e5).trans eu)),hl2⟩
  ·cases hl2
 ·have e:i=us.length:=by omega
  subst e
  rw[List.drop_length]at hl2
  unfold dr at hl2
  split at hl2
  ·rename_i hok
   cases hl2
   exact .inl ⟨(ito m2 _ H2 _ (ee.trans e2) sr2 hok).2 (Nat.le_refl _),post m2 H2 e2 sr2⟩
  ·cases hl2
theorem yr{ci:CI}{g:CG}{ct:CT}{ce:CE}{n:Nat}{caps:List Nat}:∀σ H Q,tE K (sj ci g ct ce n caps) σ H Q->uQ (tI K ci) (tG K g) (tT K ct) (tE K ce) n caps σ H Q:=by
 rintro σ H Q ⟨m,ρ,S,u,S',sr,lr,hc,post⟩
 obtain⟨⟨us,ok,S1⟩,h1,h2⟩:=Option.bind_eq_some_iff.mp hc
 obtain⟨S2,h2,h3⟩:=Option.bind_eq_some_iff.mp h2
 cases h3
 refine⟨m,ρ,S,us,ok,S1,sr,lr,h1,fun m1 H1 J e1 sr1 ito l hl=>?_⟩
 have ee:Ext K m1 H1 (m1++[l]) (upd H1 l (.lst [])):=.new (cT hl _)
 exact px sr1 (lr.mono e1) ito hl h2 fun m2 H2 e2 sr2=>post m2 _ H2 ((e1.trans ee).trans e2) sr2 (.ref_ (e2.get (fV sr1.len)))
theorem Cs{Nc capN tn:List Str}{scope:Scope}{cl:List (Str×Addr)}{n:Nat}{caps:List Nat}{tg iter elt:Expr}{pos:Pos}{ci:CI}{g:CG}{ct:CT}{ce:CE}{c:Expr}
  (hc:X.calm=true) (hi:QI X tg iter ci) (hg:∀s3 H3 fp,WG (cxC X Nc scope cl s3 H3 fp) tg (tG X.K g)) (ht:∀s3 H3 fp,WT (cxC X Nc scope cl s3 H3 fp) c (tT X.K ct)) (he:∀s3 H3 fp,WE (cxC X Nc scope cl s3 H3 fp) elt (tE X.K ce))
  (hclos:closureFor scope X.env=pure cl) (hkind:scope.kind=.function) (hnl:∀x∈scope.names,x.2=.local->scope.names.lookup x.1=some .local) (hcell:∀x∈scope.names,x.2≠.cell)
  (hcl:xI X.env cl) (hhas:((relabel scope X.env).names.all fun p=>!(p.2 == .cell||p.2 == .free)||(cl.lookup p.1).isSome)=true)
  (hcap:Paired (Cap X scope cl) caps capN) (hN:Nc=tn++capN) (hn:tn.length=n)
  (hs:∀x,foldedSetIterable iter X.env x=pure x:=by intro _;rfl) :
  QE X (.ListComp elt [⟨tg,iter,[c],0⟩] scope pos) (sj ci g ct ce n caps):=(qh hc hi hg he ht hclos hkind hnl hcell hcl hhas hcap hN hn hs).imp yr
end
end OP
namespace OP
open PySem PySem.Spec PyProof PyProof.Rows L2 OG
mutual
inductive RdV(K:PySem.W.Frag)(H:Hp):V->PyData->Prop
 |non:RdV K H .non .none
 |bl (b:Bool):RdV K H (.bl b) (.bool b)
 |int (i:Int):RdV K H (.int i) (.int i)
 |str (x:Str):RdV K H (.str x) (.str x)
 |lst {a:Addr} {xs:List V} {ds:List PyData}:SqL K H a xs->BD K H xs ds->RdV K H (.ref a) (.list ds)
 |tup {a:Addr} {xs:List V} {ds:List PyData}:SqT K H a xs->BD K H xs ds->RdV K H (.ref a) (.tuple ds)
inductive BD(K:PySem.W.Frag)(H:Hp):List V->List PyData->Prop
 |nil:BD K H [] []
 |cons {x:V} {xs:List V} {d:PyData} {ds:List PyData}:RdV K H x d->BD K H xs ds->BD K H (x::xs) (d::ds)
end
mutual
inductive Dt(S:Sto):U->PyData->Prop
 |non:Dt S .non .none
 |bl (b:Bool):Dt S (.bl b) (.bool b)
 |int (i:Int):Dt S (.int i) (.int i)
 |str (x:Str):Dt S (.str x) (.str x)
 |lst {l:Nat} {us:List U} {ds:List PyData}:S[l]?=some (.lst us)->DtL S us ds->Dt S (.ref l) (.list ds)
 |tup {us:List U} {ds:List PyData}:DtL S us ds->Dt S (.tup us) (.tuple ds)
inductive DtL(S:Sto):List U->List PyData->Prop
 |nil:DtL S [] []
 |cons {x:U} {xs:List U} {d:PyData} {ds:List PyData}:Dt S x d->DtL S xs ds->DtL S (x::xs) (d::ds)
end
section
variable{X:Cx}{K:PySem.W.Frag}{pins:List (Addr×Obj)}{σ:L2.St}{H:Hp}{s:Shared}
mutual
theorem RdV.reads(I:Inv X pins σ H s):∀{x:V} {d:PyData} {v:Value},RdV X.K H x d->dJ x v->∃as,Reads s.heap v d as
 |_,_,_,.non,r=>by cases r;exact⟨_,.none⟩
 |_,_,_,.bl b,r=>by cases r;exact⟨_,.bool b⟩
 |_,_,_,.int i,r=>by obtain⟨t,rfl⟩:=r;exact⟨_,.int i t⟩
 |_,_,_,.str i,r=>by obtain⟨t,rfl⟩:=r;exact⟨_,.str i t⟩
 |_,_,_,.lst (a:=a) h t,r=>by
  cases r
  obtain⟨its,rv,pl,_⟩:=I.list h
  obtain⟨as,k⟩:=BD.reads I t rv
  obtain⟨o,h1,h2,n,h3⟩:=pl.isList
  exact⟨_,.list h1 h2 h3 (by simpa using k)⟩
 |_,_,_,.tup (a:=a) h t,r=>by
  cases r
  obtain⟨its,rv,pl,_⟩:=I.tuple h
  obtain⟨as,k⟩:=BD.reads I t rv
  obtain⟨o,h1,h2,n,h3⟩:=pl
  exact⟨_,.tuple h1 h2 h3 (by simpa using k)⟩
theorem BD.reads(I:Inv X pins σ H s):∀{xs:List V} {ds:List PyData} {vs:List Value},BD X.K H xs ds->cE xs vs->∃as,ReadsAll s.heap vs ds as
 |_,_,_,.nil,r=>by cases r;exact⟨_,.nil⟩
 |_,_,_,.cons h t,.cons r rs=>by
  obtain⟨as,a⟩:=RdV.reads I h r
  obtain⟨bs,b⟩:=BD.reads I t rs
  exact⟨_,.cons a b⟩
end
mutual
theorem Dt.rd{m:List Addr}{S:Sto}(sr:Sr K m S H):∀{u:U} {d:PyData} {v:V},Dt S u d->Is K m H v u->RdV K H v d
 |_,_,_,.non,i=>by rw[i.of_non];exact .non
 |_,_,_,.bl b,i=>by rw[i.of_bl];exact .bl b
 |_,_,_,.int b,i=>by rw[i.of_int];exact .int b
 |_,_,_,.str b,i=>by rw[i.of_str];exact .str b
 |_,_,_,.lst h t,i=>by
  obtain⟨a,ha,rfl⟩:=i.of_ref
  obtain⟨a',ha',xs,hx,il⟩:=sr.get h
  rw[ha]at ha';cases ha'
  exact .lst (SqL.of hx) (DtL.rd sr t il)
 |_,_,_,.tup t,i=>by
  obtain⟨a,xs,rfl,sa,la⟩:=i.of_tup
  exact .tup sa (DtL.rd sr t la)
theorem DtL.rd{m:List Addr}{S:Sto}(sr:Sr K m S H):∀{us:List U} {ds:List PyData} {vs:List V},DtL S us ds->IsL K m H vs us->BD K H vs ds
 |_,_,_,.nil,i=>by rw[i.of_nil];exact .nil
 |_,_,_,.cons h t,i=>by
  obtain⟨x,r,rfl,i1,i2⟩:=i.of_cons
  exact .cons (Dt.rd sr h i1) (DtL.rd sr t i2)
end
mutual
theorem Dt.uniq{S:Sto}:∀{u:U} {d e:PyData},Dt S u d->Dt S u e->d=e
 |_,_,_,.non,.non=>rfl
 |_,_,_,.bl _,.bl _=>rfl
 |_,_,_,.int _,.int _=>rfl
 |_,_,_,.str _,.str _=>rfl
 |_,_,_,.lst h t,.lst h' t'=>by
  rw[h]at h';cases h'
  rw[DtL.uniq t t']
 |_,_,_,.tup t,.tup t'=>by rw[DtL.uniq t t']
theorem DtL.uniq{S:Sto}:∀{us:List U} {ds es:List PyData},DtL S us ds->DtL S us es->ds=es
 |_,_,_,.nil,.nil=>rfl
 |_,_,_,.cons h t,.cons h' t'=>by rw[Dt.uniq h h',DtL.uniq t t']
end
def vP(d:PyData):Prop:=d.canLay0=true/\d.depth<=60
def Mw(K:PySem.W.Frag)(neg:Bool):R2:=fun x y H Q=>(∃dx dy,RdV K H x dx/\RdV K H y dy/\vP dx/\vP dy/\Q (.bl (if neg then !dx.eqv dy else dx.eqv dy)) H)\/
 ∃a b xs ys,x=.ref a/\y=.ref b/\SqL K H a xs/\SqL K H b ys/\xs.length≠ys.length/\Q (.bl neg) H
theorem EE(hu:X.A.units+64<cLine):OpR X (compareOp .Eq) (Mw X.K false):=by
 rintro pins s σ H x y v u Q I rx ry (⟨dx,dy,hx,hy,lx,ly,q⟩|⟨a,b,xs,ys,rfl,rfl,ha,hb,ne,q⟩)
 ·obtain⟨as,hx⟩:=hx.reads I rx
  obtain⟨bs,hy⟩:=hy.reads I ry
  exact SeqAt.compareEq_reads hx hy lx.1 ly.1 (by have:=lx.2;omega) ⟨.bl _,H,I,rfl,q⟩
 ·cases rx
  cases ry
  obtain⟨i1,r1,p1,_⟩:=I.list ha
  obtain⟨i2,r2,p2,_⟩:=I.list hb
  have l1:=r1.length
  have l2:=r2.length
  exact SeqAt.RcAt.lists_lengths p1.isList p2.isList (by simp;omega) (by omega) X.prog X.w X.xe _ ⟨.bl false,H,I,rfl,q⟩
theorem EB(hu:X.A.units+64<cLine):OpR X (compareOp .NotEq) (Mw X.K true):=by
 rintro pins s σ H x y v u Q I rx ry (⟨dx,dy,hx,hy,lx,ly,q⟩|⟨a,b,xs,ys,rfl,rfl,ha,hb,ne,q⟩)
 ·obtain⟨as,hx⟩:=hx.reads I rx
  obtain⟨bs,hy⟩:=hy.reads I ry
  exact SeqAt.compareNe_reads hx hy lx.1 ly.1 (by have:=lx.2;omega) ⟨.bl _,H,I,rfl,q⟩
 ·cases rx
  cases ry
  obtain⟨i1,r1,p1,_⟩:=I.list ha
  obtain⟨i2,r2,p2,_⟩:=I.list hb
  have l1:=r1.length
  have l2:=r2.length
  exact SeqAt.RcNeAt.lists_lengths p1.isList p2.isList (by simp;omega) (by omega) X.prog X.w X.xe _ ⟨.bl true,H,I,rfl,q⟩
def BM(x y:U)(S:Sto)(b:Bool):Prop:=(∃dx dy,Dt S x dx/\Dt S y dy/\vP dx/\vP dy/\b=dx.eqv dy)\/∃l l' us vs,x=.ref l/\y=.ref l'/\S[l]?=some (.lst us)/\S[l']?=some (.lst vs)/\us.length≠vs.length/\b=false
theorem DtL.length{S:Sto}:∀{us:List U} {ds:List PyData},DtL S us ds->us.length=ds.length
 |_,_,.nil=>rfl
 |_,_,.cons _ t=>by rw[List.length_cons,List.length_cons,DtL.length t]
theorem BM.mix{l l':Nat}{us vs:List U}{S:Sto}{dx dy:PyData}(h1:Dt S (.ref l) dx)(h2:Dt S (.ref l') dy)(k1:S[l]?=some (.lst us))(k2:S[l']?=some (.lst vs))(ne:us.length≠vs.length):dx.eqv dy=false:=by
 cases h1 with
 |lst a1 t1=>
  cases h2 with
  |lst a2 t2=>
   rw[k1]at a1;cases a1
   rw[k2]at a2;cases a2
   show PyData.eqvAll _ _=false
   exact SeqAt.eqvAll_other_length (by rw[<-t1.length,<-t2.length];exact ne)
theorem BM.uniq{x y:U}{S:Sto}{b c:Bool}(h:BM x y S b)(k:BM x y S c):b=c:=by
 rcases h with⟨dx,dy,h1,h2,_,_,rfl⟩|⟨l,l',us,vs,rfl,rfl,h1,h2,ne,rfl⟩
 ·rcases k with⟨ex,ey,k1,k2,_,_,rfl⟩|⟨l,l',us,vs,rfl,rfl,k1,k2,ne,rfl⟩
  ·rw[h1.uniq k1,h2.uniq k2]
  ·exact BM.mix h1 h2 k1 k2 ne
 ·rcases k with⟨ex,ey,k1,k2,_,_,rfl⟩|⟨_,_,_,_,_,_,_,_,_,rfl⟩
  ·exact(BM.mix k1 k2 h1 h2 ne).symm
  ·rfl
open Classical in
def uL(neg:Bool):U->U->Sto->Option (U×Sto):=fun x y S=>if h:∃b,BM x y S b then some (.bl (if neg then !h.choose else h.choose),S)else none
theorem AL{x y:U}{S:Sto}{b:Bool}(neg:Bool)(h:BM x y S b):uL neg x y S=some (.bl (if neg then !b else b),S):=by
 unfold uL
 rw[dif_pos ⟨b,h⟩]
 have e:(⟨b,h⟩:∃b,BM x y S b).choose=b:=(Exists.choose_spec (⟨b,h⟩:∃b,BM x y S b)).uniq h
 rw[e]
theorem C3{neg:Bool}:OpP K (Mw K neg) (uL neg):=by
 intro m S H x y v w u S' Q sr ix iy hf post
 unfold uL at hf
 split at hf<;>try cases hf
 rename_i h
 have hb:=h.choose_spec
 generalize h.choose=b at hb post
 rcases hb with⟨dx,dy,h1,h2,l1,l2,rfl⟩|⟨l,l',us,vs,rfl,rfl,h1,h2,ne,rfl⟩
 ·exact .inl ⟨dx,dy,h1.rd sr ix,h2.rd sr iy,l1,l2,post m _ H .refl sr .bl_⟩
 ·obtain⟨a,ha,rfl⟩:=ix.of_ref
  obtain⟨a',ha',xs,hx,la⟩:=sr.get h1
  rw[ha]at ha';cases ha'
  obtain⟨c,hc,rfl⟩:=iy.of_ref
  obtain⟨c',hc',ys,hy,lc⟩:=sr.get h2
  rw[hc]at hc';cases hc'
  refine .inr ⟨a,c,xs,ys,rfl,rfl,SqL.of hx,SqL.of hy,by rw[la.length,lc.length];exact ne,?_⟩
  have e:(if neg=true then !false else false)=neg:=by cases neg<;>rfl
  have:=post m _ H .refl sr (Is.bl_ (b:=if neg=true then !false else false))
  rw[e]at this
  exact this
def Nz(K:PySem.W.Frag)(neg:Bool):R2:=fun x y H Q=>∃dx dys,RdV K H x dx/\(RdV K H y (.list dys)\/RdV K H y (.tuple dys))/\vP dx/\PyData.canLayAll0 dys=true/\Q (.bl (if neg then !(dys.any fun z=>z.eqv dx)else dys.any fun z=>z.eqv dx)) H
theorem ED(hu:X.A.units+64<cLine):OpR X (compareOp .In) (Nz X.K false):=by
 rintro pins s σ H x y v u Q I rx ry ⟨dx,dys,hx,hy,lx,ly,q⟩
 obtain⟨as,hx⟩:=hx.reads I rx
 rcases hy with hy|hy
 ·obtain⟨bs,hy⟩:=hy.reads I ry
  exact SeqAt.in_list_reads hy hx ly lx.1 (by have:=lx.2;omega) ⟨.bl _,H,I,rfl,q⟩
 ·obtain⟨bs,hy⟩:=hy.reads I ry
  exact SeqAt.in_tuple_reads hy hx ly lx.1 (by have:=lx.2;omega) ⟨.bl _,H,I,rfl,q⟩
def HK(x y:U)(S:Sto)(b:Bool):Prop:=∃dx dys,Dt S x dx/\(Dt S y (.list dys)\/Dt S y (.tuple dys))/\vP dx/\PyData.canLayAll0 dys=true/\b=dys.any fun z=>z.eqv dx
theorem HK.uniq{x y:U}{S:Sto}{b c:Bool}(h:HK x y S b)(k:HK x y S c):b=c:=by
 obtain⟨dx,dy,h1,h2,_,_,rfl⟩:=h
 obtain⟨ex,ey,k1,k2,_,_,rfl⟩:=k
 rw[h1.uniq k1]
 rcases h2 with h2|h2<;>rcases k2 with k2|k2<;>cases h2.uniq k2<;>rfl
open Classical in
def ER(neg:Bool):U->U->Sto->Option (U×Sto):=fun x y S=>if h:∃b,HK x y S b then some (.bl (if neg then !h.choose else h.choose),S)else none
theorem Ht{x y:U}{S:Sto}{b:Bool}(neg:Bool)(h:HK x y S b):ER neg x y S=some (.bl (if neg then !b else b),S):=by
 unfold ER
 rw[dif_pos ⟨b,h⟩]
 have e:(⟨b,h⟩:∃b,HK x y S b).choose=b:=(Exists.choose_spec (⟨b,h⟩:∃b,HK x y S b)).uniq h
 rw[e]
theorem J5{neg:Bool}:OpP K (Nz K neg) (ER neg):=by
 intro m S H x y v w u S' Q sr ix iy hf post
 unfold ER at hf
 split at hf<;>try cases hf
 rename_i h
 have hb:=h.choose_spec
 generalize h.choose=b at hb post
 obtain⟨dx,dy,h1,h2,l1,l2,rfl⟩:=hb
 exact⟨dx,dy,h1.rd sr ix,h2.elim (fun z=>.inl (z.rd sr iy)) (fun z=>.inr (z.rd sr iy)),l1,l2,post m _ H .refl sr .bl_⟩
def EW(us:List U)(lo hi:Option Int):List U:=(us.drop (HT.sIx us.length 0 lo)).take (HT.sIx us.length us.length hi-HT.sIx us.length 0 lo)
theorem EV{m:List Addr}{xs:List V}{us:List U}{lo hi:Option Int}(i:IsL K m H xs us):IsL K m H (A9 xs lo hi) (EW us lo hi):=by
 unfold A9 EW
 rw[i.length]
 exact(i.drop _).take _
def fSl(x:U)(lo hi:Option Int)(S:Sto):Option (U×Sto):=match x with
 |.tup us=>if HT.sIx us.length 0 lo=0/\HT.sIx us.length us.length hi=us.length then none else some (.tup (EW us lo hi),S)
 |.ref l=>match S[l]? with
  |some (.lst us)=>some (.ref S.length,S++[.lst (EW us lo hi)])
  |_=>none
 |_=>none
def vH:Option CE->Rho->Sto->Option (Option Int×Sto)
 |none,_,S=>some (none,S)
 |some c,ρ,S=>(c ρ S).bind fun p=>match p.1 with
  |.int i=>some (some i,p.2)
  |_=>none
def cSl(ca:CE)(cl ch:Option CE):CE:=fun ρ S=>(ca ρ S).bind fun p=>(vH cl ρ p.2).bind fun q=>(vH ch ρ q.2).bind fun r=>fSl p.1 q.1 r.1 r.2
def Ng(K:PySem.W.Frag)(m:List Addr)(H:Hp)(Q:Option Int->Hp->Prop)(o:Option Int)(S':Sto):Prop:=∀m' H',Ext K m H m' H'->Sr K m' S' H'->Q o H'
def tO(K:PySem.W.Frag)(c:Option CE):TO:=fun σ H Q=>∃m ρ S o S',Sr K m S H/\Lr K m H ρ σ/\vH c ρ S=some (o,S')/\Ng K m H Q o S'
abbrev QO(X:Cx)(e:Option Expr)(c:Option CE):Prop:=WO X e (tO X.K c)
theorem uV:QO X none none:=⟨fun pins s σ H Q I hz=>nB hz fun m ρ S o S' sr lr hc post=>vW.h pins s σ H Q I (by cases hc;exact post m H .refl sr)⟩
theorem uU{e:Expr}{ca:CE}(h:QE X e ca):QO X (some e) (some ca):=⟨fun pins s σ H Q I hz=>nB hz fun m ρ S o S' sr lr hc post=>(vV h).h pins s σ H Q I (by
 obtain⟨⟨x,S1⟩,h1,h2⟩:=Option.bind_eq_some_iff.mp hc
 refine⟨m,ρ,S,x,S1,sr,lr,h1,fun m1 v1 H1 e1 sr1 i1=>?_⟩
 cases x<;>simp at h2
 obtain⟨rfl,rfl⟩:=h2
 exact⟨_,i1.of_int,post m1 H1 e1 sr1⟩)⟩
theorem My{e:Expr}{lo hi:Option Expr}{ca:CE}{cl ch:Option CE}{pos p2:Pos}(ha:QE X e ca)(hl:QO X lo cl)(hh:QO X hi ch):QE X (.Subscript e (.Slice lo hi none p2) pos) (cSl ca cl ch):=(sX (zi.or Jp) ha hl hh).imp fun σ H Q hz=>nB hz fun m ρ S u S' sr lr hc post=>by
 obtain⟨⟨x,S1⟩,h1,ha⟩:=Option.bind_eq_some_iff.mp hc
 obtain⟨⟨l,S2⟩,h2,hb⟩:=Option.bind_eq_some_iff.mp ha
 obtain⟨⟨k,S3⟩,h3,h⟩:=Option.bind_eq_some_iff.mp hb
 clear ha hb hc
 refine⟨m,ρ,S,x,S1,sr,lr,h1,fun m1 v1 H1 e1 sr1 i1=>⟨m1,ρ,S1,l,S2,sr1,lr.mono e1,h2,fun m2 H2 e2 sr2=>⟨m2,ρ,S2,k,S3,sr2,lr.mono (e1.trans e2),h3,fun m3 H3 e3 sr3=>?_⟩⟩⟩
 have i3:=i1.mono (e2.trans e3)
 have e03:=(e1.trans e2).trans e3
 cases x with
 |tup us=>
  simp only[fSl]at h
  split at h<;>try cases h
  rename_i hw
  obtain⟨a,xs,rfl,sa,la⟩:=i3.of_tup
  exact .inr ⟨a,xs,rfl,sa,by rw[la.length];exact hw,fun p hp=>rH sr3 (EV la) (post.mono e03) hp⟩
 |ref r=>
  simp only[fSl]at h
  split at h<;>try cases h
  rename_i us hS
  obtain⟨a,ha,rfl⟩:=i3.of_ref
  obtain⟨a',ha',xs,hx,la⟩:=sr3.get hS
  rw[ha]at ha';cases ha'
  exact .inl ⟨a,xs,rfl,SqL.of hx,fun p hp=>fg sr3 (EV la) (post.mono e03) hp⟩
 |_=>simp[fSl]at h
end
section
variable{X:Cx}{K:PySem.W.Frag}
def Gb(K:PySem.W.Frag):R2:=fun x y H Q=>∃a k xs,x=.ref a/\y=.int k/\SqT K H a xs/\xs≠[]/\1<=k/\xs.length*k.toNat<=1000/\∀q H',sx H H'->SqT K H' q (List.replicate k.toNat xs).flatten->Q (.ref q) H'
theorem GP:OpR X (binaryOp .Mult) (Gb X.K):=by
 intro pins s σ H x y v u Q I rx ry h
 obtain⟨a,k,xs,rfl,rfl,ha,hne,hk,hz,q⟩:=h
 cases rx
 obtain⟨t,rfl⟩:=ry
 obtain⟨its,r1,p1,hzz⟩:=I.tuple ha
 have gZ:=r1.length
 obtain⟨⟨cls,dd,data,sl⟩,ho,hc,n,hd⟩:=id p1
 simp only at hc hd
 subst hc hd
 have hne':its≠[]:=fun z=>hne (r1.nil_iff.mp z)
 refine wpAny_binaryOp_repeat_ref (T:="tuple") (U:="int") (by decide) ⟨_,ho,rfl⟩ (fun s'=>typeIs_int s' k t) nz F.fills_int_mul F.slot_int_rmul tN F.slot_int_index.lookup
  (call_meets F.slot_int_rmul (typeIs_int s k t) F.entry_int_rmul (F.args_int_rmul_2 _ _) (pX k t a its.toArray n dd sl) ⟨ho,rfl,⟨_,ho,rfl⟩,?_⟩)
 by_cases k1:k=1
 ·subst k1
  refine call_meets F.slot_tuple_mul ⟨_,ho,rfl⟩ F.entry_tuple_mul (F.args_tuple_mul_2 _ _) (uP a its.toArray n dd sl t) ⟨ho,⟨.ref a,H,I,rfl,q a H (.refl _) ?_⟩⟩
  simpa using ha
 ·have hfold:List.foldl (fun x1 x2=>x1++x2) #[] (List.replicate k.toNat its.toArray)=(List.replicate k.toNat its).flatten.toArray:=by
   have:=o9 its k.toNat []
   rw[List.nil_append]at this
   exact this
  have hfl:(List.replicate k.toNat its).flatten.length<=1000:=by rw[vf,<-gZ,Nat.mul_comm];exact hz
  have hlp:0<its.length:=List.length_pos_iff.mpr hne'
  have hk2:k.toNat<=1000:=Nat.le_trans (Nat.le_mul_of_pos_left _ (by rw[gZ];exact hlp)) hz
  have hsz:(its.toArray.size:Int)*k<=1000:=by
   rw[List.size_toArray,<-gZ]
   have e:k=((k.toNat:Nat):Int):=by omega
   rw[e,<-Int.natCast_mul]
   omega
  refine call_meets F.slot_tuple_mul ⟨_,ho,rfl⟩ F.entry_tuple_mul (F.args_tuple_mul_2 _ _) (uO a its.toArray n dd sl k t ?_ ?_ ?_ ?_ ?_ ?_) ⟨ho,?_⟩
  ·simp;omega
  ·simp[hne',k1]
  ·simp[hne'];omega
  ·omega
  ·unfold Builtin.Tuple.tupleTooMany
   have:¬(its.toArray.size:Int)*k>(sizeLine:Int):=by
    have:(1000:Nat)<=sizeLine:=tF (Nat.le_refl _)
    omega
   simpa using this
  ·rw[hfold,List.size_toArray];exact tF hfl
  ·rw[hfold]
   refine⟨.ref s.heap.objs.size,_,I.laid (t':=s.toks) (o:=.tup (List.replicate k.toNat xs).flatten) (fun b ob q=>Heap.get?_push_of_some _ q) (Nat.le_refl _) ?_,rfl,q _ _ (dW (I.hok.fresh (Nat.le_refl _)) _) (SqT.of aX)⟩
   exact⟨tF (by rw[vf,Nat.mul_comm];exact hz),_,r1.rep k.toNat,IsTup.new _ _⟩
def AJ:U->U->Sto->Option (U×Sto)
 |.int i,.int j,S=>if BI i j then some (.int (i*j),S)else none
 |.tup us,.int k,S=>if us≠[]/\1<=k/\us.length*k.toNat<=1000 then some (.tup (List.replicate k.toNat us).flatten,S)else none
 |.ref l,.int k,S=>match S[l]? with
  |some (.lst us)=>if 0<=k/\k<=100000/\us.length*k.toNat<=LIM then some (.ref S.length,S++[.lst (List.replicate k.toNat us).flatten])else none
  |_=>none
 |_,_,_=>none
theorem Kb:OpR X (binaryOp .Mult) (fun x y H Q=>rI BI (fun i j=>.int (i*j)) x y H Q\/(Gb X.K x y H Q\/Mv x y H Q)):=kZ.or (GP.or J6)
instance {us:List U}:Decidable (us≠[]):=match us with
 |[]=>.isFalse fun h=>h rfl
 |_::_=>.isTrue fun h=>by cases h
theorem J2:OpP K (fun x y H Q=>rI BI (fun i j=>.int (i*j)) x y H Q\/(Gb K x y H Q\/Mv x y H Q)) AJ:=by
 intro m S H x y v w u S' Q sr ix iy hf post
 cases x<;>cases y<;>simp only[AJ]at hf<;>try cases hf
 ·split at hf<;>try cases hf
  rename_i hc
  exact .inl ⟨_,_,ix.of_int,iy.of_int,hc,post m _ H .refl sr .int_⟩
 ·rename_i us k
  split at hf<;>try cases hf
  rename_i hc
  obtain⟨a,xs,rfl,sa,la⟩:=ix.of_tup
  refine .inr (.inl ⟨a,k,xs,rfl,iy.of_int,sa,fun z=>hc.1 ?_,hc.2.1,by rw[la.length];exact hc.2.2,fun q H' s sq=>?_⟩)
  ·subst z
   have:=la.length
   exact List.length_eq_zero_iff.mp this.symm
  ·exact post m _ H' (.of (fh s)) (sr.same s) (.tup_ sq ((la.rep k.toNat).mono (.of (fh s))))
 ·rename_i l k
  split at hf<;>try cases hf
  rename_i us hS
  split at hf<;>try cases hf
  rename_i hc
  obtain⟨a,ha,rfl⟩:=ix.of_ref
  obtain⟨a',ha',xs,hx,la⟩:=sr.get hS
  rw[ha]at ha';cases ha'
  exact .inr (.inr ⟨a,k,xs,rfl,iy.of_int,hx,by omega,by omega,lim (by rw[la.length];exact hc.2.2),fun p hp=>fg sr (la.rep k.toNat) post hp⟩)
end
end OP
namespace OG
open PySem PySem.Spec PyProof.Rows L2
theorem Kc{C a:Addr}{m:Str->Option Value}{h h':Heap}(n:h.Ns C m)(s:Heap.SameBut a h h')(ne:C≠a):h'.Ns C m:=by
 obtain⟨o,es,ep,e,r⟩:=n
 exact⟨o,es,ep,(s.2 C ne).trans e,r⟩
theorem xO{X:Cx}{Nc capN tn:List Str}{scope:Scope}{cl:List (Str×Addr)}{n:Nat}{caps:List Nat}{tg iter elt:Expr}{pos:Pos}{wi:TI}{g:TG}{te:TE}
  (hc:X.calm=true) (hi:WI X tg iter wi) (hg:∀s3 H3 fp,WG (cxC X Nc scope cl s3 H3 fp) tg g) (he:∀s3 H3 fp,WE (cxC X Nc scope cl s3 H3 fp) elt te)
  (hclos:closureFor scope X.env=pure cl) (hkind:scope.kind=.function) (hnl:∀x∈scope.names,x.2=.local->scope.names.lookup x.1=some .local) (hcell:∀x∈scope.names,x.2≠.cell)
  (hcl:xI X.env cl) (hhas:((relabel scope X.env).names.all fun p=>!(p.2 == .cell||p.2 == .free)||(cl.lookup p.1).isSome)=true)
  (hcap:Paired (Cap X scope cl) caps capN) (hN:Nc=tn++capN) (hn:tn.length=n)
  {i₀:Nat} {x₀:Str} {pos₀ pos':Pos} (hN0:X.N.Nodup) (hi0:X.N[i₀]?=some x₀) (hx0:X.env.scope.names.lookup x₀=some .local)
  (hsw:swapsWith (.ListComp elt [⟨tg,iter,[],0⟩] scope pos) (some (.Name x₀ pos')) pos₀.line X.env=pure true)
  (hs:∀x,foldedSetIterable iter X.env x=pure x:=by intro _;rfl) :
  WS X (.Assign [.Name x₀ pos'] (.ListComp elt [⟨tg,iter,[],0⟩] scope pos) pos₀) (fun D σ H=>Cb wi g te n caps σ H fun v H'=>D.nx (σ.set i₀ (some v)) H'):=by
 constructor
 intro pins s σ H Dn I h
 rw[exec_Assign_arm]
 refine wpAny_bind (wpAny_standAt ?_)
 have hsw':swapsWithSole [.Name x₀ pos'] (.ListComp elt [⟨tg,iter,[],0⟩] scope pos) pos₀.line X.env=pure true:=hsw
 rw[hsw']
 refine wpAny_bind (wpAny_pure ?_)
 rw[if_pos rfl,arm_evalThenUse_ListComp]
 refine wpAny_bind (wpAny_bind (xn (Qf:=fun _ s'=>wpAny (model X.prog X.w) X.A (pure ()) (fun _ s'=>wpAny (model X.prog X.w) X.A (pure Flow.next) (SP X pins Dn) X.xe s') X.xe s') hc hi hg he hclos hkind hnl hcell hcl hhas hcap hN hn I h (fun D C s6 H5 m I7 hm fr nl sz cn pn qn=>?_) hs))
 show wpAny _ _ (assign (.Name x₀ pos') X.env (.ref D)) _ _ s6
 rw[arm_assign_Name]
 refine wpAny_bind (wpAny_standAt (wpAny_bindName (tj (v:=.ref D) I7 hN0 hi0 (.inl hx0) rfl (fun s7 I7' hsb=>?_) (.inr hx0))))
 obtain⟨a7,hsb,ha7⟩:=hsb
 have cNe:C≠a7:=by
  rcases ha7 with z|z
  ·rw[z];exact nl
  ·exact Ne.symm (cn _ _ z)
 refine⟨m,Kc hm hsb cNe,fun h' hs'=>wpAny_pure (wpAny_pure ⟨_,H5,?_,qn⟩)⟩
 exact I7'.turned (t':=s7.toks) (it:=C) (fun b o hb e=>hs'.extBut b o hb e) fr nl (.inr sz) cn pn
end OG
namespace OP
open PySem PySem.Spec PyProof.Rows L2 OG
section
variable{X:Cx}{K:PySem.W.Frag}
theorem xT{i₀:Nat}{x₀:Str}{pos₀ pos':Pos}{Nc capN tn:List Str}{scope:Scope}{cl:List (Str×Addr)}{n:Nat}{caps:List Nat}{tg iter elt:Expr}{pos:Pos}{ci:CI}{g:CG}{ce:CE}
  (hc:X.calm=true) (hi:QI X tg iter ci) (hg:∀s3 H3 fp,WG (cxC X Nc scope cl s3 H3 fp) tg (tG X.K g)) (he:∀s3 H3 fp,WE (cxC X Nc scope cl s3 H3 fp) elt (tE X.K ce))
  (hclos:closureFor scope X.env=pure cl) (hkind:scope.kind=.function) (hnl:∀x∈scope.names,x.2=.local->scope.names.lookup x.1=some .local) (hcell:∀x∈scope.names,x.2≠.cell)
  (hcl:xI X.env cl) (hhas:((relabel scope X.env).names.all fun p=>!(p.2 == .cell||p.2 == .free)||(cl.lookup p.1).isSome)=true)
  (hcap:Paired (Cap X scope cl) caps capN) (hN:Nc=tn++capN) (hn:tn.length=n)
  (hN0:X.N.Nodup) (hi0:X.N[i₀]?=some x₀) (hx0:X.env.scope.names.lookup x₀=some .local)
  (hsw:swapsWith (.ListComp elt [⟨tg,iter,[],0⟩] scope pos) (some (.Name x₀ pos')) pos₀.line X.env=pure true)
  (hs:∀x,foldedSetIterable iter X.env x=pure x:=by intro _;rfl) :
  QS X (.Assign [.Name x₀ pos'] (.ListComp elt [⟨tg,iter,[],0⟩] scope pos) pos₀) (cP i₀ (iK ci g ce n caps)):=(xO hc hi hg he hclos hkind hnl hcell hcl hhas hcap hN hn hN0 hi0 hx0 hsw hs).imp fun D σ H hz=>yl hz fun m ρ S o ρ' S' sr lr hc post=>by
 obtain⟨⟨u,S1⟩,h1,h2⟩:=Option.bind_eq_some_iff.mp hc
 cases h2
 exact xm _ _ _ ⟨m,ρ,S,u,_,sr,lr,h1,fun m1 v1 H1 e1 sr1 i1=>post m1 _ H1 e1 sr1 ((lr.mono e1).set i₀ i1)⟩
end
end OP
namespace OP
open PySem PySem.Spec PyProof PyProof.Rows L2 OG
section
variable{X:Cx}{K:PySem.W.Frag}
def HV(ca:CE):CE:=fun ρ S=>(ca ρ S).bind fun p=>match p.1 with
 |.int i=>some (.int (-i),p.2)
 |_=>none
theorem Ej:UnR X (unaryOp .USub) (fun x H Q=>∃i,x=.int i/\Q (.int (-i)) H):=by
 rintro pins s σ H x v Q I rx ⟨i,rfl,q⟩
 obtain⟨t,rfl⟩:=rx
 exact PyProof.Rows.neg_int ⟨.int (-i),H,I.tok _,⟨_,rfl⟩,q⟩
theorem Mz{a:Expr}{ca:CE}{pos:Pos}(ha:QE X a ca):QE X (.UnaryOp .USub a pos) (HV ca):=(Ja Ej ha).imp fun σ H Q hz=>nB hz fun m ρ S u S' sr lr hc post=>by
 obtain⟨⟨x,S1⟩,h1,h2⟩:=Option.bind_eq_some_iff.mp hc
 refine⟨m,ρ,S,x,S1,sr,lr,h1,fun m1 v1 H1 e1 sr1 i1=>?_⟩
 cases x<;>simp at h2
 obtain⟨rfl,rfl⟩:=h2
 exact⟨_,i1.of_int,post m1 _ H1 e1 sr1 .int_⟩
def fq:U->List U->Sto->Option (U×Sto)
 |.ref l,[.ref b],S=>match S[l]?,S[b]? with
  |some (.lst us),some (.lst vs)=>if us.length+vs.length<=LIM then some (.non,S.set l (.lst (us++vs)))else none
  |_,_=>none
 |_,_,_=>none
theorem C2:MtP K zu fq:=by
 intro m S H x v us vs u S' Q sr ix i hf post
 match x,us,hf with
 |.ref l,[.ref b],hf=>
  simp only[fq]at hf
  split at hf<;>try cases hf
  rename_i xs0 ys0 hS hB
  split at hf<;>try cases hf
  rename_i hl
  obtain⟨a,ha,rfl⟩:=ix.of_ref
  obtain⟨a',ha',xs,hx,la⟩:=sr.get hS
  rw[ha]at ha';cases ha'
  obtain⟨y,rfl,iy⟩:=i.one
  obtain⟨c,hc,rfl⟩:=iy.of_ref
  obtain⟨c',hc',ys,hy,lb⟩:=sr.get hB
  rw[hc]at hc';cases hc'
  have eu:Ext K m H m (upd H a (.lst (xs++ys))):=.of (sr.keep ha _)
  exact⟨a,c,xs,ys,rfl,rfl,hx,hy,lim (by rw[la.length,lb.length];exact hl),post m _ _ eu (sr.put ha ⟨_,aX,(la.append lb).mono eu⟩) .non_⟩
def qO:U->List U->Sto->Option (U×Sto)
 |.ref l,[.int i],S=>match S[l]? with
  |some (.lst us)=>if 0<=i/\i<us.length/\us.length<=LIM then(us[i.toNat]?).bind fun u=>some (u,S.set l (.lst (us.eraseIdx i.toNat)))else none
  |_=>none
 |_,_,_=>none
theorem GL:MtP K Eu qO:=by
 intro m S H x v us vs u S' Q sr ix i hf post
 match x,us,hf with
 |.ref l,[.int k],hf=>
  simp only[qO]at hf
  split at hf<;>try cases hf
  rename_i ws hS
  split at hf<;>try cases hf
  rename_i hk
  obtain⟨w,hw,h⟩:=Option.bind_eq_some_iff.mp hf
  cases h
  obtain⟨a,ha,rfl⟩:=ix.of_ref
  obtain⟨a',ha',xs,hx,la⟩:=sr.get hS
  rw[ha]at ha';cases ha'
  obtain⟨y,hy,iy⟩:=la.getD hw
  obtain⟨z,rfl,iz⟩:=i.one
  have eu:Ext K m H m (upd H a (.lst (xs.eraseIdx k.toNat))):=.of (sr.keep ha _)
  have hL:ws.length<=100000:=hk.2.2
  exact⟨a,xs,k,k.toNat,y,rfl,by rw[iz.of_int],hx,by omega,by omega,seqIndex_of hk.1 (by rw[la.length];exact hk.2.1),hy,post m _ _ eu (sr.put ha ⟨_,aX,(la.erase _).mono eu⟩) (iy.mono eu)⟩
variable{e:Expr}{es:List Expr}{co:CE}{cr:CA}{o:Expr}{apos cpos:Pos}
theorem nG (ho : QE X o co) (ha : QA X (e :: es) cr) (hbase : attributeBase o "extend" X.env (eval o X.env) = eval o X.env := by rfl) (hfew : ((backTo cpos (starEach (e :: es) X.env)).all (fun x => !x.1) && (backToKw cpos (keywordEach [] X.env)).all (fun x => x.1.isSome)
   && decide ((e::es).length+([]:List Keyword).length+(if ([]:List Keyword).isEmpty then 0 else 1)<30))=true:=by rfl) (hline:(apos.endLine == cpos.line)=true:=by rfl) (hs:starEach (e::es) X.env=(false,eval e X.env)::starEach es X.env:=by rfl) (hplain:(backTo cpos (starEach es X.env)).any (·.1)=false:=by rfl) :
  QE X (.Call (.Attribute o "extend" apos) (e::es) [] cpos) (cBM fq co cr):=(yV PySem.F.plainAttrs_list PySem.F.slot_list_extend PySem.F.type_list_extend z5 ho ha.h hbase hfew hline hs hplain).imp (Bo C2)
theorem Gf (ho : QE X o co) (ha : QA X (e :: es) cr) (hbase : attributeBase o "pop" X.env (eval o X.env) = eval o X.env := by rfl) (hfew : ((backTo cpos (starEach (e :: es) X.env)).all (fun x => !x.1) && (backToKw cpos (keywordEach [] X.env)).all (fun x => x.1.isSome)
   && decide ((e::es).length+([]:List Keyword).length+(if ([]:List Keyword).isEmpty then 0 else 1)<30))=true:=by rfl) (hline:(apos.endLine == cpos.line)=true:=by rfl) (hs:starEach (e::es) X.env=(false,eval e X.env)::starEach es X.env:=by rfl) (hplain:(backTo cpos (starEach es X.env)).any (·.1)=false:=by rfl) :
  QE X (.Call (.Attribute o "pop" apos) (e::es) [] cpos) (cBM qO co cr):=(yV PySem.F.plainAttrs_list PySem.F.slot_list_pop PySem.F.type_list_pop C8 ho ha.h hbase hfew hline hs hplain).imp (Bo GL)
def mq(cr:CA):CE:=fun ρ S=>(cr ρ S).bind fun p=>match p.1 with
 |[.int j]=>if 0<=j/\j<=1000 then some (.ref p.2.length,p.2++[.lst (d7 0 j.toNat)])else none
 |_=>none
theorem qJ:∀(n:Nat) (a:Int) (vs:List Value),vs.length=n->(∀(j:Nat) (v:Value),vs[j]?=some v->∃t,v=Value.int (a+(j:Int)) t)->cE ((List.range n).map fun i:Nat=>V.int (a+(i:Nat))) vs
 |0,a,vs,hl,h=>by
  rw[List.length_eq_zero_iff.mp hl];exact .nil
 |n+1,a,[],hl,h=>by simp at hl
 |n+1,a,v::vs,hl,h=>by
  rw[List.range_succ_eq_map,List.map_cons,List.map_map]
  refine .cons ?_ ?_
  ·obtain⟨t,e⟩:=h 0 v rfl
   exact⟨t,by simpa using e⟩
  ·have:=qJ n (a+1) vs (by simpa using hl) fun j x hx=>by
    obtain⟨t,e⟩:=h (j+1) x (by simpa using hx)
    exact⟨t,by rw[e];congr 1;omega⟩
   have e:(List.range n).map (fun i:Nat=>V.int (a+1+(i:Nat)))=(List.range n).map ((fun i:Nat=>V.int (a+(i:Nat))) ∘ Nat.succ):=List.map_congr_left fun i _=>by
    simp only[Function.comp];congr 1;omega
   rw[<-e];exact this
theorem sY{a:Expr}{ta:TA}{p1 p2 pos1 pos2:Pos}(hc:X.calm=true)(hgl:Gl X "list")(hml:X.mg "list"=none)(hg:Gl X "range")(hm:X.mg "range"=none)(ha:WA X [a] ta)(hs:starEach [a] X.env=[(false,eval a X.env)])
  (hs1:starEach [Expr.Call (.Name "range" p2) [a] [] pos2] X.env=[(false,eval (.Call (.Name "range" p2) [a] [] pos2) X.env)]) :
  WE X (.Call (.Name "list" p1) [.Call (.Name "range" p2) [a] [] pos2] [] pos1) (fun σ H Q=>ta σ H fun vs H1=>∃j:Int,vs=[.int j]/\0<=j/\j<=1000/\∀p,H1 p=none->Q (.ref p) (upd H1 p (.lst ((List.range j.toNat).map fun i:Nat=>V.int (0+(i:Nat)))))):=by
 constructor
 intro pins s σ H Q I h
 refine wpAny_Call_Name_kw (oW I hgl hml OG.lK ?_ (by decide) (by decide))
 refine PyProof.Rows.callWith_type1 ?_ hs1 rfl
 rw[hs1]
 show wpAny _ _ (spliced [(false,eval (.Call (.Name "range" p2) [a] [] pos2) X.env)]) _ _ s
 refine Calls.spliced_cons ?_
 refine Call_ (oW I hg hm boot_range (PyProof.Rows.callWith_type1 (thn (ha.h pos2 pins s σ H _ I h) fun us s1 ⟨vs,H1,I1,r1,q1⟩=>?_) hs rfl))
 obtain⟨j,e,j0,j1,q⟩:=q1
 subst e
 cases r1 with
 |cons r rr=>
  cases rr
  obtain⟨t,rfl⟩:=r
  refine call_range_1 ?_
  refine Calls.spliced_nil ?_
  have hsz:Builtin.Range.rangeSize 0 j 1=((j.toNat:Nat):Int):=by
   unfold Builtin.Range.rangeSize
   simp
   omega
  refine call_list_range (n:=j.toNat) (I1.ok.hd hc) (Heap.get?_push_size _ rfl) ?_ hsz (by omega) fun h' tk acc c' hk hg' hi=>?_
  ·unfold Builtin.Range.small
   rw[hsz]
   unfold Builtin.Range.rangeFitsLong
   simp
   omega
  ·have hv:cE ((List.range j.toNat).map fun i:Nat=>V.int (0+(i:Nat))) acc.toList:=qJ j.toNat 0 acc.toList (by simpa using hi.1) fun k v hv=>by
    obtain⟨t,e⟩:=hi.2 k v (by simpa using hv)
    exact⟨t,by rw[e];congr 1;omega⟩
   refine⟨.ref _,_,I1.laid (t':=tk) (o:=.lst ((List.range j.toNat).map fun i:Nat=>V.int (0+(i:Nat)))) (fun b ob q=>hk b ob (Heap.get?_push_of_some _ q)) (by rw[Heap.size_push];omega) ?_,rfl,q _ (I1.hok.fresh (by rw[Heap.size_push];omega))⟩
   exact⟨by rw[List.length_map,List.length_range];exact Nat.le_trans (by omega) (show 1000<=sizeLine by decide),_,_,hv,by simpa using hg'⟩
theorem Aq{m:List Addr}{H:Hp}(n:Nat):IsL K m H ((List.range n).map fun i:Nat=>V.int (0+(i:Nat))) (d7 0 n):=by
 unfold d7
 generalize List.range n=l
 induction l with
 |nil=>exact .nil_
 |cons a r ih=>exact .cons_ .int_ ih
theorem uW{a:Expr}{cr:CA}{p1 p2 pos1 pos2:Pos}(hc:X.calm=true)(hgl:Gl X "list")(hml:X.mg "list"=none)(hg:Gl X "range")(hm:X.mg "range"=none)(ha:QA X [a] cr)(hs:starEach [a] X.env=[(false,eval a X.env)])
  (hs1:starEach [Expr.Call (.Name "range" p2) [a] [] pos2] X.env=[(false,eval (.Call (.Name "range" p2) [a] [] pos2) X.env)]) :
  QE X (.Call (.Name "list" p1) [.Call (.Name "range" p2) [a] [] pos2] [] pos1) (mq cr):=(sY hc hgl hml hg hm ha.h hs hs1).imp fun σ H Q hz=>nB hz fun m ρ S u S' sr lr hc post=>by
 obtain⟨⟨ws,S1⟩,h1,h2⟩:=Option.bind_eq_some_iff.mp hc
 simp only at h2
 split at h2<;>try cases h2
 rename_i j
 split at h2<;>try cases h2
 rename_i hj
 refine⟨m,ρ,S,_,S1,sr,lr,h1,fun m1 v1 H1 e1 sr1 i1=>?_⟩
 obtain⟨x,rfl,ix⟩:=i1.one
 rw[ix.of_int]
 exact⟨j,rfl,hj.1,hj.2,fun p hp=>fg sr1 (Aq _) (post.mono e1) hp⟩
end
section
variable{X:Cx}{K:PySem.W.Frag}
theorem FP{e:Expr}{t:TE}(h:WE X e t):WE X e (fun σ H Q=>t σ H fun v H'=>∃a ob kvs,BL X a/\H' a=some (.frz ob (.dK kvs))/\Q v (upd H' a (.dK kvs))):=
 ⟨fun pins s σ H Q I k=>thn (h.h pins s σ H _ I k) fun u s1 ⟨v,H1,I1,r1,a,ob,kvs,nf,e,q⟩=>⟨v,_,lA I1 nf e,r1,q⟩⟩
def Bj(ce:CE)(f:(Sto->Prop)->Nat->List U->Rho->Sto->Option Sto)(n:Nat)(caps:List Nat):CE:=fun ρ S=>(ce ρ S).bind fun p=>match p.1 with
 |.ref l=>match p.2[l]? with
  |some (.dic kus)=>uni fun ep=>(f (fun S'=>S'[l]?=some (.fdc ep kus)) p.2.length (kus.map fun q=>kU q.1) (sN n caps ρ) (p.2.set l (.fdc ep kus)++[.lst []])).bind fun S'=>match S'[l]? with
   |some (.fdc _ kus')=>some (.ref p.2.length,S'.set l (.dic kus'))
   |_=>none
  |_=>none
 |_=>none
def nK(ce:CE)(g:CG)(ct:CT)(el:CE)(n:Nat)(caps:List Nat):CE:=Bj ce (fun ok l=>dr ok g ct el l) n caps
theorem y2{ce:CE}{f:(Sto->Prop)->Nat->List U->Rho->Sto->Option Sto}{n:Nat}{caps:List Nat}{G:It->Hp->L2.St->VK->Prop}
  (core:∀{J:It} {us:List U} {ok:Sto->Prop} {Q:VK} {m1:List Addr} {H1:Hp} {S1 S':Sto} {ρ:Rho} {σ:L2.St},Sr X.K m1 S1 H1->Lr X.K m1 H1 ρ σ->D8 X.K J m1 H1 us ok->f ok S1.length us (sN n caps ρ) (S1++[.lst []])=some S'->
   (∀l,H1 l=none->∀m2 H2,Ext X.K (m1++[l]) (upd H1 l (.lst [])) m2 H2->Sr X.K m2 S' H2->Q (.ref l) H2)->G J H1 σ Q) :
  ∀σ H Q,tE X.K (Bj ce f n caps) σ H Q->Hi X (tE X.K ce) σ H fun J H1=>G J H1 σ fun v H'=>∃a ob kvs,BL X a/\H' a=some (.frz ob (.dK kvs))/\Q v (upd H' a (.dK kvs)):=by
 rintro σ H Q ⟨m,ρ,S,u,S',sr,lr,hc,post⟩
 obtain⟨⟨x,S1⟩,h1,h⟩:=Option.bind_eq_some_iff.mp hc
 refine⟨m,ρ,S,x,S1,sr,lr,h1,fun m1 v1 H1 e1 sr1 i1=>?_⟩
 cases x with
 |ref l=>
  simp only at h
  split at h<;>try cases h
  rename_i kus hS
  obtain⟨a,ha,rfl⟩:=i1.of_ref
  obtain⟨a',ha',kvs,hx,ip⟩:=sr1.get hS
  rw[ha]at ha';cases ha'
  refine⟨a,kvs,rfl,hx,fun ob es ep nf hd=>?_⟩
  obtain⟨S2,h2,h3⟩:=Option.bind_eq_some_iff.mp (we h ep)
  try simp only at h3
  split at h3<;>try cases h3
  rename_i ep' kus' hS2
  have kp:D7 X.K H1 (upd H1 a (.frz ob (.dK kvs))):=sr1.keep ha _
  have ee:Ext X.K m1 H1 m1 (upd H1 a (.frz ob (.dK kvs))):=.of kp
  have sr2:Sr X.K m1 (S1.set l (.fdc ep kus)) (upd H1 a (.frz ob (.dK kvs))):=sr1.put ha ⟨ob,es,kvs,aX,hd,ip.mono ee⟩
  rw[ip.1]
  have hln:(S1.set l (.fdc ep kus)).length=S1.length:=by simp
  refine core sr2 (lr.mono (e1.trans ee)) (An ha) (by rw[hln];exact h2) fun p hp m3 H3 e3 sr3=>?_
  have en:Ext X.K m1 (upd H1 a (.frz ob (.dK kvs))) (m1++[p]) (upd (upd H1 a (.frz ob (.dK kvs))) p (.lst [])):=.new (cT hp _)
  have e03:=en.trans e3
  obtain⟨a3,ha3,ob3,es3,kvs3,hx3,hd3,ip3⟩:=sr3.get hS2
  rw[e03.get ha]at ha3;cases ha3
  have e4:Ext X.K m3 H3 m3 (upd H3 a (.dK kvs3)):=.of (sr3.keep (e03.get ha) _)
  refine⟨a,ob3,kvs3,nf,hx3,post m3 _ _ (((e1.trans ee).trans e03).trans e4) (sr3.put (e03.get ha) ⟨kvs3,aX,ip3.mono e4⟩) ?_⟩
  have lg:(m1++[p])[S1.length]?=some p:=fV sr1.len
  exact .ref_ (e3.get lg)
 |_=>cases h
variable{Nc capN tn:List Str}{scope:Scope}{cl:List (Str×Addr)}{n:Nat}{caps:List Nat}{tg iter elt c:Expr}{pos:Pos}{ci:CE}{g:CG}{ct:CT}{ce:CE}
theorem zD(hc:X.calm=true)(hi:QE X iter ci)(hg:∀s3 H3 fp,WG (cxC X Nc scope cl s3 H3 fp) tg (tG X.K g))(ht:∀s3 H3 fp,WT (cxC X Nc scope cl s3 H3 fp) c (tT X.K ct))(he:∀s3 H3 fp,WE (cxC X Nc scope cl s3 H3 fp) elt (tE X.K ce))
  (hclos:closureFor scope X.env=pure cl) (hkind:scope.kind=.function) (hnl:∀x∈scope.names,x.2=.local->scope.names.lookup x.1=some .local) (hcell:∀x∈scope.names,x.2≠.cell)
  (hcl:xI X.env cl) (hhas:((relabel scope X.env).names.all fun p=>!(p.2 == .cell||p.2 == .free)||(cl.lookup p.1).isSome)=true)
  (hcap:Paired (Cap X scope cl) caps capN) (hN:Nc=tn++capN) (hn:tn.length=n)
  (hs:∀x,foldedSetIterable iter X.env x=pure x:=by intro _;rfl) :
  QE X (.ListComp elt [⟨tg,iter,[c],0⟩] scope pos) (nK ci g ct ce n caps):=
 (FP (qh hc (yX hi) hg he ht hclos hkind hnl hcell hcl hhas hcap hN hn hs)).imp (y2 (G:=fun J H1 σ Q=>∀l,H1 l=none->∃W:Nat->Nat->L2.St->Hp->Prop,(∃m,W 0 m (OG.stC n caps σ) (upd H1 l (.lst [])))/\
  ∀i m σ' H2,W i m σ' H2->(J.stop i H2/\Q (.ref l) H2)\/(J.go i H2/\∃N:L2.St->Hp->Prop,(∀σ'' H',N σ'' H'->∃m',m'<m/\W (i+1) m' σ'' H')/\
  ∀x H3,J.yld i H2 x H3->tG X.K g x σ' H3 fun σ2 H4=>tT X.K ct σ2 H4 fun b H5=>match b with
   |true=>tE X.K ce σ2 H5 fun v H6=>∃ys,H6 l=some (.lst ys)/\ys.length<sizeLine/\N σ2 (upd H6 l (.lst (ys++[v])))
   |false=>N σ2 H5)) fun sr lr ito h2 post l hl=>px sr lr ito hl h2 (post l hl))
def Le:List U->Option (List Key)
 |[]=>some []
 |u::r=>(m6 u).bind fun k=>(Le r).map (k::·)
theorem y9{m:List Addr}{H:Hp}:∀{us:List U} {xs:List V} {ks:List Key},IsL K m H xs us->Le us=some ks->xs=ks.map kV
 |[],xs,ks,i,h=>by cases h;exact i.of_nil
 |u::r,xs,ks,i,h=>by
  obtain⟨x,t,rfl,ix,it⟩:=i.of_cons
  obtain⟨k,hk,h⟩:=Option.bind_eq_some_iff.mp h
  obtain⟨ks',h',rfl⟩:=Option.map_eq_some_iff.mp h
  rw[jB ix hk,y9 it h'];rfl
def Bl:CE:=fun _ S=>some (.ref S.length,S++[.dit []])
theorem Gh{pos:Pos}:QE X (.Dict [] [] pos) Bl:=yQ.imp fun σ H Q hz=>nB hz fun m ρ S u S' sr lr hc post=>by
 cases hc
 exact fun p hp=>post (m++[p]) _ _ (.new (cT hp _)) (sr.new hp ⟨[],aX,.nil_⟩) (.ref_ (fV sr.len))
def pA(co:CE)(cr:CA)(cv:CE):CS:=fun ρ S=>(cv ρ S).bind fun p=>(co ρ p.2).bind fun q=>(cr ρ q.2).bind fun r=>match q.1 with
 |.ref l=>match r.2[l]? with
  |some (.dit kus)=>(Le r.1).bind fun k=>if kus.length<LIM/\r.1.length<=LIM then some (.nx,ρ,r.2.set l (.dit (jo kus k p.1)))else none
  |_=>none
 |_=>none
theorem zw{o:Expr}{es:List Expr}{e:Expr}{co cv:CE}{cr:CA}{k2:Nat}{p2 pos pos':Pos}(hu:X.A.units+1<cLine)(ho:QE X o co)(hi:QA X es cr)(hv:QE X e cv)
  (hs:swapsWith e (some (.Subscript o (.Tuple es k2 p2) pos')) pos.line X.env=pure false:=by rfl):QS X (.Assign [.Subscript o (.Tuple es k2 p2) pos'] e pos) (pA co cr cv):=
 (vU hu ho (yM hi.h) hv hs).imp fun D σ H hz=>yl hz fun m ρ S oo ρ' S' sr lr hc post=>by
 obtain⟨⟨v,S1⟩,h1,ha⟩:=Option.bind_eq_some_iff.mp hc
 obtain⟨⟨ou,S2⟩,h2,hb⟩:=Option.bind_eq_some_iff.mp ha
 obtain⟨⟨ius,S3⟩,h3,h⟩:=Option.bind_eq_some_iff.mp hb
 clear ha hb hc
 cases ou with
 |ref l=>
  simp only at h
  split at h<;>try cases h
  rename_i kus hS
  obtain⟨k,hk,h4⟩:=Option.bind_eq_some_iff.mp h
  split at h4<;>try cases h4
  rename_i gZ
  refine⟨m,ρ,S,v,S1,sr,lr,h1,fun m1 v1 H1 e1 sr1 i1=>⟨m1,ρ,S1,_,S2,sr1,lr.mono e1,h2,fun m2 v2 H2 e2 sr2 i2=>⟨m2,ρ,S2,ius,S3,sr2,lr.mono (e1.trans e2),h3,fun m3 vs H3 e3 sr3 i3=>?_⟩⟩⟩
  refine⟨lim (by rw[i3.length];exact gZ.2),fun p hp=>?_⟩
  obtain⟨a,ha,rfl⟩:=(i2.mono e3).of_ref
  obtain⟨a',ha',kvs,hx,ip⟩:=sr3.get hS
  rw[ha]at ha';cases ha'
  have hvs:=y9 i3 hk
  subst hvs
  have s3:sx H3 (upd H3 p (.tup (k.map kV))):=dW hp _
  have en:Ext X.K m3 H3 m3 (upd H3 p (.tup (k.map kV))):=.of (cT hp _)
  have srn:=sr3.same s3
  have hxn:(upd H3 p (.tup (k.map kV))) a=some (.dT kvs):=s3 _ _ hx
  have e13:=((e1.trans e2).trans e3).trans en
  have ee:Ext X.K m3 (upd H3 p (.tup (k.map kV))) m3 (upd (upd H3 p (.tup (k.map kV))) a (.dT (qA kvs k v1))):=.of (srn.keep ha _)
  exact⟨a,_,rfl,E5.t hxn aX (Kg (by rw[IsP.length ip];exact gZ.1)),post m3 σ _ (e13.trans ee) (srn.put ha ⟨_,aX,(IsP.put (ip.mono en) (i1.mono ((e2.trans e3).trans en))).mono ee⟩) (lr.mono (e13.trans ee))⟩
 |_=>cases h
end
end OP
namespace OP
open PySem PySem.Spec PyProof PyProof.Rows L2 OG PySem.W
section
variable{cmp:Nat->Nat->(Bool->Shared->Prop)->Shared->Prop}{s:Shared}{n:Nat}{lt:Nat->Nat->Bool}
structure D6(n:Nat)(lt:Nat->Nat->Bool):Prop where
 tr:∀{i j k},i<n->j<n->k<n->lt i j=true->lt j k=true->lt i k=true
 tot:∀{i j},i<n->j<n->i≠j->lt i j=false->lt j i=true
 asym:∀{i j},i<n->j<n->lt i j=true->lt j i=false
def HY(cmp:Nat->Nat->(Bool->Shared->Prop)->Shared->Prop)(n:Nat)(lt:Nat->Nat->Bool)(s:Shared):Prop:=∀i j C,i<n->j<n->C (lt i j) s->cmp i j C s
structure Pm(n:Nat)(p:Array Nat):Prop where
 sz:p.size=n
 bd:∀i,i<n->p.getD i 0<n
 ne:∀i j,i<j->j<n->p.getD i 0≠p.getD j 0
def Asc(lt:Nat->Nat->Bool)(p:Array Nat)(k:Nat):Prop:=∀i j,i<j->j<k->lt (p.getD i 0) (p.getD j 0)=true
def Dsc(lt:Nat->Nat->Bool)(p:Array Nat)(k:Nat):Prop:=∀i j,i<j->j<k->lt (p.getD j 0) (p.getD i 0)=true
variable{p:Array Nat}
theorem Pm.ne'(P:Pm n p){i j:Nat}(hi:i<n)(hj:j<n)(h:i≠j):p.getD i 0≠p.getD j 0:=by
 rcases Nat.lt_or_gt_of_ne h with z|z
 ·exact P.ne i j z hj
 ·exact Ne.symm (P.ne j i z hi)
theorem Asc.snoc(O:D6 n lt)(P:Pm n p){m:Nat}(h1:1<=m)(hm:m<n)(h:Asc lt p m)(h2:lt (p.getD (m-1) 0) (p.getD m 0)=true):Asc lt p (m+1):=fun i j hij hj=>by
 by_cases e:j=m
 ·subst e
  by_cases e2:i=j-1
  ·subst e2;exact h2
  ·exact O.tr (P.bd _ (by omega)) (P.bd _ (by omega)) (P.bd _ (by omega)) (h i (j-1) (by omega) (by omega)) h2
 ·exact h i j hij (by omega)
theorem Dsc.snoc(O:D6 n lt)(P:Pm n p){m:Nat}(h1:1<=m)(hm:m<n)(h:Dsc lt p m)(h2:lt (p.getD m 0) (p.getD (m-1) 0)=true):Dsc lt p (m+1):=fun i j hij hj=>by
 by_cases e:j=m
 ·subst e
  by_cases e2:i=j-1
  ·subst e2;exact h2
  ·exact O.tr (P.bd _ (by omega)) (P.bd _ (by omega)) (P.bd _ (by omega)) h2 (h i (j-1) (by omega) (by omega))
 ·exact h i j hij (by omega)
theorem Bx(O:D6 n lt)(A:HY cmp n lt s)(P:Pm n p):∀(f m:Nat) {Q:Nat->Shared->Prop},1<=m->m+f<=n->Asc lt p m->(∀m',m<=m'->m'<=m+f->Asc lt p m'->(m'=m+f\/lt (p.getD m' 0) (p.getD (m'-1) 0)=true)->Q m' s)->(kas_asc p f m).kasWp cmp Q s
 |0,m,Q,h1,h2,h3,q=>q m (Nat.le_refl _) (by omega) h3 (.inl rfl)
 |f+1,m,Q,h1,h2,h3,q=>by
  refine A _ _ _ (P.bd _ (by omega)) (P.bd _ (by omega)) ?_
  cases hc:lt (p.getD m 0) (p.getD (m-1) 0)with
  |true=>exact q m (Nat.le_refl _) (by omega) h3 (.inr hc)
  |false=>
   have h4:=h3.snoc O P h1 (by omega) (O.tot (P.bd _ (by omega)) (P.bd _ (by omega)) (P.ne' (by omega) (by omega) (by omega)) hc)
   exact Bx O A P f (m+1) (by omega) (by omega) h4 fun m' a b c d=>q m' (by omega) (by omega) c (by rcases d with d|d;exact .inl (by omega);exact .inr d)
theorem A2(O:D6 n lt)(A:HY cmp n lt s)(P:Pm n p):∀(f m:Nat) {Q:Array Nat×Nat×Nat->Shared->Prop},1<=m->m+f<=n->Dsc lt p m->(∀m',m<=m'->m'<=m+f->Dsc lt p m'->Q (p,m',0) s)->(kas_desc f p m 0).kasWp cmp Q s
 |0,m,Q,h1,h2,h3,q=>q m (Nat.le_refl _) (by omega) h3
 |f+1,m,Q,h1,h2,h3,q=>by
  refine A _ _ _ (P.bd _ (by omega)) (P.bd _ (by omega)) ?_
  cases hc:lt (p.getD m 0) (p.getD (m-1) 0)with
  |true=>exact A2 O A P f (m+1) (by omega) (by omega) (h3.snoc O P h1 (by omega) hc) fun m' a b c=>q m' (by omega) (by omega) c
  |false=>
   refine A _ _ _ (P.bd _ (by omega)) (P.bd _ (by omega)) ?_
   rw[O.tot (P.bd _ (by omega)) (P.bd _ (by omega)) (P.ne' (by omega) (by omega) (by omega)) hc]
   exact q m (Nat.le_refl _) (by omega) h3
theorem o8{p q:Array Nat}{i j:Nat}(h:p[i]?=q[j]?):p.getD i 0=q.getD j 0:=by
 rw[Array.getD_eq_getD_getElem?,Array.getD_eq_getD_getElem?,h]
theorem oH{m k:Nat}(hm:m<=p.size):(kas_rev p 0 m).getD k 0=if k<m then p.getD (m-1-k) 0 else p.getD k 0:=by
 unfold kas_rev
 have h:=getElem?_mirror_all (i:=0) hm k
 split
 ·rename_i c
  rw[if_pos ⟨Nat.zero_le _,c⟩]at h
  exact o8 (by rw[h];congr 1;omega)
 ·rename_i c
  rw[if_neg (by omega)]at h
  exact o8 h
theorem Pm.rev(P:Pm n p){m:Nat}(hm:m<=n):Pm n (kas_rev p 0 m) where
 sz:=by rw[kas_rev_size];exact P.sz
 bd:=fun i hi=>by
  rw[oH (by rw[P.sz];exact hm)]
  split<;>exact P.bd _ (by omega)
 ne:=fun i j hij hj=>by
  rw[oH (by rw[P.sz];exact hm),oH (by rw[P.sz];exact hm)]
  split<;>split<;>exact P.ne' (by omega) (by omega) (by omega)
theorem Dsc.rev{m:Nat}(P:Pm n p)(hm:m<=n)(h:Dsc lt p m):Asc lt (kas_rev p 0 m) m:=fun i j hij hj=>by
 rw[oH (by rw[P.sz];exact hm),oH (by rw[P.sz];exact hm),if_pos (by omega),if_pos hj]
 exact h _ _ (by omega) (by omega)
theorem DV(O:D6 n lt)(A:HY cmp n lt s)(P:Pm n p){Q:Nat×Array Nat->Shared->Prop}(h1:1<=n)(q:∀m p',1<=m->m<=n->Pm n p'->Asc lt p' m->Q (m,p') s):(kas_count n p).kasWp cmp Q s:=by
 unfold kas_count
 rw[KasT.kasWp_bind]
 refine Bx O A P (n-1) 1 (Nat.le_refl _) (by omega) (fun i j a b=>by omega) fun m a b c d=>?_
 by_cases e:m=n
 ·rw[if_pos (by rw[e];exact beq_self_eq_true n)]
  exact q m p a (by omega) P c
 rw[if_neg (by simpa using e)]
 have d':lt (p.getD m 0) (p.getD (m-1) 0)=true:=by
  rcases d with d|d
  ·omega
  ·exact d
 by_cases g:m>1
 ·rw[if_pos g]
  refine A _ _ _ (P.bd _ (by omega)) (P.bd _ (by omega)) ?_
  rw[c 0 (m-1) (by omega) (by omega)]
  exact q m p a (by omega) P c
 ·rw[if_neg g]
  have m1:m=1:=by omega
  subst m1
  unfold kas_descPart
  rw[KasT.kasWp_bind]
  have d2:Dsc lt p 2:=fun i j a b=>by
   have e1:i=0:=by omega
   have e2:j=1:=by omega
   subst e1;subst e2;exact d'
  refine A2 O A P (n-(1+1)) (1+1) (by omega) (by omega) d2 fun m' a' b' c'=>?_
  rw[if_neg (by simp)]
  unfold kas_tail3
  rw[KasT.kasWp_bind]
  have hm':m'<=n:=by omega
  exact Bx O A (P.rev hm') (n-m') m' (by omega) (by omega) (c'.rev P hm') fun m2 a2 b2 c2 _=>q m2 _ (by omega) (by omega) (P.rev hm') c2
theorem rJ(O:D6 n lt)(A:HY cmp n lt s)(P:Pm n p){k:Nat}(hk:k<n)(hs:Asc lt p k):∀(f l r:Nat) {Q:Nat->Shared->Prop},l<=r->r<=k->r-l<=f->(∀i,i<l->lt (p.getD i 0) (p.getD k 0)=true)->(∀i,r<=i->i<k->lt (p.getD k 0) (p.getD i 0)=true)->
  (∀l',l'<=k->(∀i,i<l'->lt (p.getD i 0) (p.getD k 0)=true)->(∀i,l'<=i->i<k->lt (p.getD k 0) (p.getD i 0)=true)->Q l' s)->(kas_place p k f l r).kasWp cmp Q s
 |0,l,r,Q,h1,h2,h3,h4,h5,q=>q l (by omega) h4 fun i a b=>h5 i (by omega) b
 |f+1,l,r,Q,h1,h2,h3,h4,h5,q=>by
  unfold kas_place
  by_cases e:l≥r
  ·rw[if_pos e]
   exact q l (by omega) h4 fun i a b=>h5 i (by omega) b
  ·rw[if_neg e]
   have hM:(l+r) / 2<k:=by omega
   refine A _ _ _ (P.bd _ hk) (P.bd _ (by omega)) ?_
   cases hc:lt (p.getD k 0) (p.getD ((l+r) / 2) 0)with
   |true=>
    refine rJ O A P hk hs f l ((l+r) / 2) (by omega) (by omega) (by omega) h4 (fun i a b=>?_) q
    by_cases e2:i=(l+r) / 2
    ·subst e2;exact hc
    ·exact O.tr (P.bd _ hk) (P.bd _ (by omega)) (P.bd _ (by omega)) hc (hs _ i (by omega) b)
   |false=>
    have hc':=O.tot (P.bd _ hk) (P.bd _ (show(l+r) / 2<n by omega)) (P.ne' hk (by omega) (by omega)) hc
    refine rJ O A P hk hs f ((l+r) / 2+1) r (by omega) (by omega) (by omega) (fun i a=>?_) h5 q
    by_cases e2:i=(l+r) / 2
    ·subst e2;exact hc'
    ·exact O.tr (P.bd _ (by omega)) (P.bd _ (by omega)) (P.bd _ hk) (hs i ((l+r) / 2) (by omega) hM) hc'
theorem pC{k l i:Nat}(hk:k<p.size)(hl:l<=k):(bubble p k (k-l)).getD i 0=if i=l then p.getD k 0 else if l<i/\i<=k then p.getD (i-1) 0 else p.getD i 0:=by
 have h:=getElem?_bubble hk (k-l) (by omega) i
 rw[show k-(k-l)=l by omega]at h
 by_cases c:i=l
 ·rw[if_pos c]at h ⊢;exact o8 h
 ·rw[if_neg c]at h ⊢
  by_cases d:l<i/\i<=k
  ·rw[if_pos d]at h ⊢;exact o8 h
  ·rw[if_neg d]at h ⊢;exact o8 h
theorem Pm.bub(P:Pm n p){k l:Nat}(hk:k<n)(hl:l<=k):Pm n (bubble p k (k-l)) where
 sz:=by rw[bubble_size];exact P.sz
 bd:=fun i hi=>by
  rw[pC (by rw[P.sz];exact hk) hl]
  repeat' split
  all_goals exact P.bd _ (by omega)
 ne:=fun i j hij hj=>by
  rw[pC (by rw[P.sz];exact hk) hl,pC (by rw[P.sz];exact hk) hl]
  repeat' split
  all_goals first|(exfalso;omega)|exact P.ne' (by omega) (by omega) (by omega)
theorem Asc.bub(P:Pm n p){k l:Nat}(hk:k<n)(hl:l<=k)(h:Asc lt p k)(h1:∀i,i<l->lt (p.getD i 0) (p.getD k 0)=true)(h2:∀i,l<=i->i<k->lt (p.getD k 0) (p.getD i 0)=true):Asc lt (bubble p k (k-l)) (k+1):=fun i j hij hj=>by
 rw[pC (by rw[P.sz];exact hk) hl,pC (by rw[P.sz];exact hk) hl]
 repeat' split
 all_goals first|(exfalso;omega)|exact h1 _ (by omega)|exact h2 _ (by omega) (by omega)|exact h _ _ (by omega) (by omega)
theorem EY(O:D6 n lt)(A:HY cmp n lt s):∀(f:Nat) (p:Array Nat) (k:Nat) {Q:Array Nat->Shared->Prop},Pm n p->k+f=n->Asc lt p k->(∀p',Pm n p'->Asc lt p' n->Q p' s)->(kas_bin f p k).kasWp cmp Q s
 |0,p,k,Q,P,h1,h2,q=>q p P (by rw[<-h1];exact h2)
 |f+1,p,k,Q,P,h1,h2,q=>by
  unfold kas_bin
  rw[KasT.kasWp_bind]
  refine rJ O A P (k:=k) (by omega) h2 k 0 k (Nat.zero_le _) (Nat.le_refl _) (by omega) (fun i a=>by omega) (fun i a b=>by omega) fun l a b c=>?_
  exact EY O A f _ (k+1) (P.bub (by omega) a) (by omega) (h2.bub P (by omega) a b c) q
theorem wG:Pm n (List.toArray (List.range n)):=by
 have g:∀i,i<n->(List.toArray (List.range n)).getD i 0=i:=fun i hi=>by simp[Array.getD,hi]
 exact⟨by simp,fun i hi=>by rw[g i hi];exact hi,fun i j hij hj=>by rw[g i (by omega),g j hj];omega⟩
theorem F5(O:D6 n lt)(A:HY cmp n lt s){Q:Array Nat->Shared->Prop}(h1:1<=n)(q:∀p',Pm n p'->Asc lt p' n->Q p' s):(kas_sort n).kasWp cmp Q s:=by
 unfold kas_sort
 rw[KasT.kasWp_bind]
 refine DV O A wG h1 fun m p' a b P c=>?_
 by_cases e:m<n
 ·rw[if_pos e]
  rw[show max m 1=m by omega]
  exact EY O A _ _ _ P (by omega) c q
 ·rw[if_neg e]
  exact q p' P (by rw[show n=m by omega];exact c)
end
end OP
namespace OP
open PySem PySem.Spec PyProof PyProof.Rows L2 OG
def FzT(H:Hp)(a:Addr)(ep:Nat)(ks:List (List Key)):Prop:=∃ob es kvs,H a=some (.frz ob (.dT kvs))/\ob.data=.dict es ep/\kvs.map (·.1)=ks
def Itt(a:Addr)(ep:Nat)(ks:List (List Key)):It:=
 ⟨fun i H=>i<ks.length/\FzT H a ep ks,fun i H x H'=>H'=H/\∃k p,ks[i]?=some k/\x=.ref p/\H p=some (.tup (k.map kV)),fun i H=>ks.length<=i/\FzT H a ep ks⟩
end OP
namespace OP
open PySem PySem.Spec PyProof PyProof.Rows L2 OG PySem.W
theorem rO{prog:Program}{w:World}{A:Around}{E:Value->Shared->Prop}{s:Shared}{a:Addr}{vs:List Value}{n:Nat}{P:PySem.Fin->Shared->Prop}
  (g:s.heap.get? a=some (seqObj "list" vs.toArray n)) (h2:2<=vs.length) (h64:vs.length<64)
  (ask:∀h':Heap,(∀b o,b≠a->s.heap.get? b=some o->h'.get? b=some o)->wpAny (model prog w) A (keyKind' vs.toArray) (fun κ s'=>s'={ s with heap:=h' }/\KasT.kasWp (kas_ask prog w A κ vs) (kas_sort vs.length)
   (fun p s''=>s''={ s with heap:=h' }/\P (Fin.done (Flow.ret Value.none)) { s with heap:=sortedHeap s.heap a vs (p.toList.map fun i=>vs.getD i Value.none).toArray }) { s with heap:=h' }) E { s with heap:=h' }) :
  wpAny (model prog w) A (Builtin.«list.sort» { pos:=[Value.ref a] }) P E s:=by
 rw[list_sort_plain]
 have hS:vs.toArray.size=vs.length:=by simp
 have hz:vs.length<=sizeLine:=by unfold sizeLine;omega
 have lt:=Heap.lt_size g
 refine wpAny_bind (listItems_at g rfl (wpAny_bind (listUpdate_at g rfl ?_ (by rw[hS];exact hz) (by simp))))
 obtain⟨e1,g1⟩:∃e1,(s.heap.update a (Obj.mapSeq fun _=>#[])).get? a=some (seqObj "list" #[] e1):=⟨_,get?_update_seq g fun _=>#[]⟩
 refine wpAny_bind (seqEpoch_at g1 rfl (wpAny_bind (wpAny_newTuple (wpAny_bind (wpAny_newList (wpAny_holding ?_) (by simp))) (by simpa using hz))))
 have hu:(s.heap.update a (Obj.mapSeq fun _=>#[])).objs.size=s.heap.objs.size:=Heap.size_update ..
 have g2:(((s.heap.update a (Obj.mapSeq fun _=>#[])).push (seqObj "tuple" vs.toArray 0)).push (seqObj "list" #[] 0)).get? a=some (seqObj "list" #[] e1):=
  Heap.get?_push_of_some _ (Heap.get?_push_of_some _ g1)
 have n2:¬vs.toArray.size<2:=by rw[hS];omega
 dsimp only
 rw[if_neg n2]
 have hk:∀b o,b≠a->s.heap.get? b=some o->(((s.heap.update a (Obj.mapSeq fun _=>#[])).push (seqObj "tuple" vs.toArray 0)).push (seqObj "list" #[] 0)).get? b=some o:=fun b o hb ho=>by
  refine Heap.get?_push_of_some _ (Heap.get?_push_of_some _ ?_)
  rw[Heap.get?_update_ne _ _ _ _ hb];exact ho
 refine wpAny_bind (wpAny_mono (ask _ hk) (fun κ s' hs'=>?_) fun _ _ h'=>h')
 obtain⟨rfl,hrun⟩:=hs'
 rw[if_neg n2]
 refine wpAny_bind (wpAny_mono (kat_run (ks:=vs) (Q:=fun st' s'=>∃p:Array Nat,p.size=vs.length/\arrOf st'=Array.map (kas_item (vs.toArray.zip vs.toArray)) p/\failedOf st'=none/\s'=_/\P (Fin.done (Flow.ret Value.none)) { s with heap:=sortedHeap s.heap a vs (p.toList.map fun i=>vs.getD i Value.none).toArray }) rfl h2 h64 (fun p st' s' hp harr hfail hG=>⟨p,hp,harr,hfail,hG⟩) hrun) (fun r s' hr=>?_) fun _ _ h'=>h')
 obtain⟨u,st'⟩:=r
 obtain⟨p,hp,harr,hfail,rfl,hP⟩:=hr
 have hout:Array.map (fun x=>x.snd) (arrOf st')=(p.toList.map fun i=>vs.getD i Value.none).toArray:=kat_snds rfl harr
 refine wpAny_bind (seqEpoch_at g2 rfl (wpAny_bind (listUpdate_at g2 rfl ?_ (by simp) ?_)))
 ·dsimp only at hfail ⊢
  rw[hfail]
  simp only[bne_self_eq_false,Bool.false_eq_true,if_false]
  have hP':=hP
  rw[<-hout]at hP'
  exact wpAny_pure hP'
 ·dsimp only
  rw[hout]
  simp
  unfold sizeLine
  omega
def pI(h:Heap)(v:Value)(p:Int×Int):Prop:=∃b o t1 t2 e,v=Value.ref b/\h.get? b=some o/\o.cls=Value.type "tuple"/\o.data=Data.seq #[Value.int p.1 t1,Value.int p.2 t2] e
def ltP(p q:Int×Int):Bool:=decide (p.1<q.1\/p.1=q.1/\p.2<q.2)
section
variable{prog:Program}{w:World}{A:Around}{E:Value->Shared->Prop}{s:Shared}
theorem qF{b:Bool}{x y:Int}{t u:Tok}{Q:Bool->Shared->Prop}(h:Q (decide (x<y)) s):wpAny (model prog w) A (oneLt' b (Value.int x t) (Value.int y u)) Q E s:=by
 cases b with
 |true=>exact oneLt_int h
 |false=>
  rw[oneLt'_eq]
  dsimp only
  rw[if_neg Bool.false_ne_true]
  exact wpAny_bind (wpAny_lt_int (wpAny_truthy_bool h))
theorem GJ{v v':Value}{p p':Int×Int}{C:Bool->Shared->Prop}(h:pI s.heap v p)(h':pI s.heap v' p')(c:C (ltP p p') s):wpAny (model prog w) A (keyLt' (tuples' true) v v') C E s:=by
 obtain⟨b,o,t1,t2,e,rfl,g,_,d⟩:=h
 obtain⟨b',o',t1',t2',e',rfl,g',_,d'⟩:=h'
 refine kat_lt g d g' d' (kat_cons (wpAny_eqBool_int ?_))
 by_cases e1:p.1=p'.1
 ·rw[e1,beq_self_eq_true]
  refine kat_yes (kat_cons (wpAny_eqBool_int ?_))
  by_cases e2:p.2=p'.2
  ·rw[e2,beq_self_eq_true]
   refine kat_yes (kat_nil ?_)
   have:ltP p p'=false:=by simp[ltP,e1,e2]
   rw[this]at c
   exact c
  ·rw[beq_eq_false_iff_ne.mpr e2]
   refine kat_no (qF ?_)
   have:ltP p p'=decide (p.2<p'.2):=by simp[ltP,e1]
   rw[this]at c
   exact c
 ·rw[beq_eq_false_iff_ne.mpr e1]
  refine kat_no (qF ?_)
  have:ltP p p'=decide (p.1<p'.1):=by simp[ltP,e1]
  rw[this]at c
  exact c
def fz(h:Heap):List Value->List (Int×Int)->Prop
 |[],[]=>True
 |v::vs,p::ps=>pI h v p/\fz h vs ps
 |_,_=>False
theorem oK{h:Heap}:∀{vs:List Value} {ps:List (Int×Int)},fz h vs ps->vs.length=ps.length
 |[],[],_=>rfl
 |_::_,_::_,k=>by rw[List.length_cons,List.length_cons,oK k.2]
 |[],_::_,k=>k.elim
 |_::_,[],k=>k.elim
theorem oM{h:Heap}:∀{vs:List Value} {ps:List (Int×Int)} {i:Nat},fz h vs ps->i<ps.length->pI h (vs.getD i Value.none) (ps.getD i (0,0))
 |[],[],_,_,k=>absurd k (Nat.not_lt_zero _)
 |_::_,_::_,0,k,_=>k.1
 |_::vs,_::ps,i+1,k,l=>by
  show pI h (vs.getD i Value.none) (ps.getD i (0,0))
  exact oM k.2 (by rw[List.length_cons]at l;omega)
 |[],_::_,_,k,_=>k.elim
 |_::_,[],_,k,_=>k.elim
theorem zS{h h':Heap}{v:Value}{p:Int×Int}{a:Addr}(k:pI h v p)(hv:v≠.ref a)(m:∀b o,b≠a->h.get? b=some o->h'.get? b=some o):pI h' v p:=by
 obtain⟨b,o,t1,t2,e,rfl,g,c,d⟩:=k
 exact⟨b,o,t1,t2,e,rfl,m b o (fun e=>hv (by rw[e])) g,c,d⟩
theorem jQ{h h':Heap}{a:Addr}(m:∀b o,b≠a->h.get? b=some o->h'.get? b=some o):∀{vs:List Value} {ps:List (Int×Int)},fz h vs ps->(∀v∈vs,v≠.ref a)->fz h' vs ps
 |[],[],_,_=>trivial
 |v::vs,_::_,k,hv=>⟨zS k.1 (hv v List.mem_cons_self) m,jQ m k.2 fun x hx=>hv x (List.mem_cons_of_mem _ hx)⟩
 |[],_::_,k,_=>k.elim
 |_::_,[],k,_=>k.elim
theorem qC{h:Heap}:∀{vs:List Value} {ps:List (Int×Int)},fz h vs ps->∃fs,KatTups h vs fs/\fs.length=vs.length/\∀f∈fs,∃i t,f=Value.int i t
 |[],[],_=>⟨[],trivial,rfl,fun f hf=>by cases hf⟩
 |v::vs,p::ps,k=>by
  obtain⟨fs,h1,h2,h3⟩:=qC k.2
  obtain⟨b,o,t1,t2,e,hv,g,c,d⟩:=k.1
  refine⟨Value.int p.1 t1::fs,⟨⟨b,o,_,e,hv,g,c,d,rfl⟩,h1⟩,by rw[List.length_cons,List.length_cons,h2],fun f hf=>?_⟩
  rcases List.mem_cons.mp hf with z|z
  ·exact⟨_,_,z⟩
  ·exact h3 f z
 |[],_::_,k=>k.elim
 |_::_,[],k=>k.elim
theorem xV{vs:List Value}{ps:List (Int×Int)}{Q:SortKind->Shared->Prop}(h:fz s.heap vs ps)(hn:0<vs.length)(q:Q (tuples' true) s):wpAny (model prog w) A (keyKind' vs.toArray) Q E s:=by
 obtain⟨fs,h1,h2,h3⟩:=qC h
 refine kat_kind (T:=Value.type "int") h1 (by omega) (fun v hv A Q E s' _ q=>?_) (by decide +kernel) (by exact q)
 obtain⟨i,t,rfl⟩:=h3 v hv
 exact wpAny_typeOf (typeIs_int s' i t) q
end
theorem Ke{ps:List (Int×Int)}(nd:ps.Nodup):D6 ps.length fun i j=>ltP (ps.getD i (0,0)) (ps.getD j (0,0)) where
 tr:=fun{i j k} hi hj hk h1 h2=>by simp only[ltP,decide_eq_true_eq]at *;omega
 asym:=fun{i j} hi hj h=>by simp only[ltP,decide_eq_true_eq,decide_eq_false_iff_not]at *;omega
 tot:=fun{i j} hi hj hne h=>by
  simp only[ltP,decide_eq_true_eq,decide_eq_false_iff_not]at *
  have hd:ps.getD i (0,0)≠ps.getD j (0,0):=by
   rw[List.getD_eq_getElem?_getD,List.getD_eq_getElem?_getD,List.getElem?_eq_getElem hi,List.getElem?_eq_getElem hj]
   simp only[Option.getD_some]
   exact fun e=>hne ((List.getElem_inj nd).mp e)
  have:¬((ps.getD i (0,0)).1=(ps.getD j (0,0)).1/\(ps.getD i (0,0)).2=(ps.getD j (0,0)).2):=fun e=>hd (Prod.ext e.1 e.2)
  omega
theorem oT{prog:Program}{w:World}{A:Around}{E:Value->Shared->Prop}{s:Shared}{a:Addr}{vs:List Value}{n:Nat}{P:PySem.Fin->Shared->Prop}
  (g:s.heap.get? a=some (seqObj "list" vs.toArray n)) (h2:vs.length<2) (hP:P (Fin.done (Flow.ret Value.none)) { s with heap:=sortedHeap s.heap a vs vs.toArray }) :
  wpAny (model prog w) A (Builtin.«list.sort» { pos:=[Value.ref a] }) P E s:=by
 rw[list_sort_plain]
 have hS:vs.toArray.size=vs.length:=by simp
 have hz:vs.length<=sizeLine:=by unfold sizeLine;omega
 refine wpAny_bind (listItems_at g rfl (wpAny_bind (listUpdate_at g rfl ?_ (by rw[hS];exact hz) (by simp))))
 obtain⟨e1,g1⟩:∃e1,(s.heap.update a (Obj.mapSeq fun _=>#[])).get? a=some (seqObj "list" #[] e1):=⟨_,get?_update_seq g fun _=>#[]⟩
 refine wpAny_bind (seqEpoch_at g1 rfl (wpAny_bind (wpAny_newTuple (wpAny_bind (wpAny_newList (wpAny_holding ?_) (by simp))) (by simpa using hz))))
 have g2:(((s.heap.update a (Obj.mapSeq fun _=>#[])).push (seqObj "tuple" vs.toArray 0)).push (seqObj "list" #[] 0)).get? a=some (seqObj "list" #[] e1):=
  Heap.get?_push_of_some _ (Heap.get?_push_of_some _ g1)
 have n2:vs.toArray.size<2:=by rw[hS];omega
 dsimp only
 rw[if_pos n2]
 refine wpAny_bind (wpAny_pure ?_)
 rw[if_pos n2]
 refine wpAny_bind (wpAny_pure ?_)
 have hout:Array.map (fun x=>x.snd) (arrOf (SortSt.mk' general' (vs.toArray.zip vs.toArray) #[] 7 none))=vs.toArray:=by
  show Array.map (fun x=>x.snd) (vs.toArray.zip vs.toArray)=vs.toArray
  simp[List.map_snd_zip]
 refine wpAny_bind (seqEpoch_at g2 rfl (wpAny_bind (listUpdate_at g2 rfl ?_ (by simp) ?_)))
 ·have hfail:failedOf (SortSt.mk' general' (vs.toArray.zip vs.toArray) #[] 7 none)=none:=rfl
  dsimp only at hfail ⊢
  simp only[hfail,bne_self_eq_false,Bool.false_eq_true,if_false]
  have hP':=hP
  rw[<-hout]at hP'
  exact wpAny_pure hP'
 ·dsimp only
  rw[hout]
  rw[hS]
  omega
def Lc(ps:List (Int×Int))(q:Array Nat):Prop:=Pm ps.length q/\Asc (fun i j=>ltP (ps.getD i (0,0)) (ps.getD j (0,0))) q ps.length
theorem jA{prog:Program}{w:World}{A:Around}{E:Value->Shared->Prop}{s:Shared}{a:Addr}{vs:List Value}{ps:List (Int×Int)}{n:Nat}{P:PySem.Fin->Shared->Prop}
  (g:s.heap.get? a=some (seqObj "list" vs.toArray n)) (hp:fz s.heap vs ps) (hv:∀v∈vs,v≠.ref a) (nd:ps.Nodup) (h64:ps.length<64)
  (k:∀q:Array Nat,Lc ps q->P (Fin.done (Flow.ret Value.none)) { s with heap:=sortedHeap s.heap a vs (q.toList.map fun i=>vs.getD i Value.none).toArray }) :
  wpAny (model prog w) A (Builtin.«list.sort» { pos:=[Value.ref a] }) P E s:=by
 have hl:=oK hp
 by_cases h2:vs.length<2
 ·have hr:((List.range ps.length).toArray.toList.map fun i=>vs.getD i Value.none)=vs:=by
   rw[<-hl]
   refine List.ext_getElem? fun i=>?_
   by_cases hi:i<vs.length
   ·simp[List.getElem?_range hi,List.getElem?_eq_getElem hi]
   ·simp[List.getElem?_eq_none (Nat.le_of_not_lt hi),hi]
  have:=k (List.range ps.length).toArray ⟨wG,fun i j hij hj=>by omega⟩
  rw[hr]at this
  exact oT g h2 this
 ·refine rO g (by omega) (by omega) fun h' m=>?_
  have hp':fz ({ s with heap:=h' }:Shared).heap vs ps:=jQ m hp hv
  refine xV hp' (by omega) ⟨rfl,?_⟩
  have hl':vs.length=ps.length:=hl
  rw[hl']
  refine F5 (Ke nd) (fun i j C hi hj c=>?_) (by omega) fun q P1 P2=>⟨rfl,k q ⟨P1,P2⟩⟩
  exact GJ (oM hp' hi) (oM hp' hj) c
theorem jR{h:Heap}:∀{vs:List Value} {ps:List (Int×Int)},fz h vs ps->∀v∈vs,∀a,h.objs.size<=a->v≠.ref a
 |[],[],_,v,hv,_,_=>by cases hv
 |_::_,_::_,k,v,hv,a,ha=>by
  rcases List.mem_cons.mp hv with z|z
  ·obtain⟨b,o,t1,t2,e,e1,g,_⟩:=k.1
   rw[z,e1]
   intro e2
   cases e2
   exact absurd (Heap.lt_size g) (Nat.not_lt.mpr ha)
  ·exact jR k.2 v z a ha
 |[],_::_,k,_,_,_,_=>k.elim
 |_::_,[],k,_,_,_,_=>k.elim
theorem tq{prog:Program}{w:World}{A:Around}{E:Value->Shared->Prop}{s:Shared}{l:Addr}{vs:List Value}{ps:List (Int×Int)}{Q:Value->Shared->Prop}
  (hL:s.heap.IsList l vs.toArray) (hp:fz s.heap vs ps) (nd:ps.Nodup) (h64:ps.length<64)
  (k:∀q:Array Nat,Lc ps q->Q (Value.ref (s.heap.objs.size+1)) { s with heap:=sortedAll s.heap vs (q.toList.map fun i=>vs.getD i Value.none).toArray }) :
  wpAny (model prog w) A (call (Value.builtin "sorted") [Value.ref l]) Q E s:=by
 have hl:=oK hp
 have hz:vs.length<=sizeLine:=by unfold sizeLine;omega
 refine Calls.call_function_entry kind_sorted plain_sorted entry_sorted (args_sorted1 _) ?_
 unfold Builtin.«sorted»
 refine wpAny_bind (m:=checkCount "sorted" 1 1 _) (wpAny_pure (wpAny_bind (collect_list hL (wpAny_bind (wpAny_newList ?_ hz)) hz)))
 have hsz:((s.heap.push (seqObj "list" #[] 0)).update s.heap.objs.size (Obj.mapSeq fun x=>x++vs.toArray)).objs.size=s.heap.objs.size+1:=by
  rw[Heap.size_update,size_push']
 have gL:(((s.heap.push (seqObj "list" #[] 0)).update s.heap.objs.size (Obj.mapSeq fun x=>x++vs.toArray)).push (seqObj "list" vs.toArray 0)).get? (s.heap.objs.size+1)=some (seqObj "list" vs.toArray 0):=by
  rw[<-hsz];exact Heap.get?_push_size _ rfl
 have old:∀b o,s.heap.get? b=some o->(((s.heap.push (seqObj "list" #[] 0)).update s.heap.objs.size (Obj.mapSeq fun x=>x++vs.toArray)).push (seqObj "list" vs.toArray 0)).get? b=some o:=fun b o g=>by
  refine Heap.get?_push_of_some _ ?_
  rw[Heap.get?_update_ne _ _ _ _ (Nat.ne_of_lt (Heap.lt_size g))]
  exact Heap.get?_push_of_some _ g
 show wpAny _ _ _ _ _ { s with heap:=((s.heap.push (seqObj "list" #[] 0)).update s.heap.objs.size (Obj.mapSeq fun x=>x++vs.toArray)).push (seqObj "list" vs.toArray 0) }
 rw[show Value.ref ((s.heap.push (seqObj "list" #[] 0)).update s.heap.objs.size (Obj.mapSeq fun x=>x++vs.toArray)).objs.size=Value.ref (s.heap.objs.size+1)from by rw[hsz]]
 refine wpAny_bind (wpAny_holding (wpAny_call_entry slot_list_sort ⟨_,gL,rfl⟩ entry_list_sort (jA (n:=0) gL (jQ (a:=s.heap.objs.size+1) (fun b o _ g=>old b o g) hp fun v hv=>jR hp v hv _ (by omega)) (fun v hv=>jR hp v hv _ (by omega)) nd h64 fun q hq=>⟨_,rfl,?_⟩) (args_list_sort _)))
 exact wpAny_pure ⟨_,rfl,k q hq⟩
def PrL(K:PySem.W.Frag)(H:Hp):List V->List (Int×Int)->Prop
 |[],[]=>True
 |x::xs,p::ps=>(∃a,x=.ref a/\SqT K H a [.int p.1,.int p.2])/\PrL K H xs ps
 |_,_=>False
def wu(K:PySem.W.Frag):List V->Hp->VK->Prop:=fun xs H Q=>∃(p:Addr) (ys:List V) (ps:List (Int×Int)),xs=[.ref p]/\SqL K H p ys/\PrL K H ys ps/\ps.Nodup/\ps.length<64/\
 ∀(l:Addr) (q:Array Nat),H l=none->Lc ps q->Q (.ref l) (upd H l (.lst (q.toList.map fun i=>ys.getD i .non)))
theorem zK{K:PySem.W.Frag}{H:Hp}:∀{ys:List V} {ps:List (Int×Int)},PrL K H ys ps->ys.length=ps.length
 |[],[],_=>rfl
 |_::_,_::_,k=>by rw[List.length_cons,List.length_cons,zK k.2]
 |[],_::_,k=>k.elim
 |_::_,[],k=>k.elim
theorem Ey{X:Cx}{pins:List (Addr×Obj)}{σ:L2.St}{H:Hp}{s:Shared}(I:Inv X pins σ H s):∀{ys:List V} {ps:List (Int×Int)} {vs:List Value},PrL X.K H ys ps->cE ys vs->fz s.heap vs ps
 |[],[],_,_,r=>by cases r;trivial
 |_::_,p::ps,_,k,r=>by
  cases r with
  |cons r1 r2=>
   refine⟨?_,Ey I k.2 r2⟩
   obtain⟨a,rfl,hs⟩:=k.1
   obtain⟨its,rv,⟨o,g,c,n,d⟩,_⟩:=I.tuple hs
   cases r1
   cases rv with
   |cons u1 u2=>cases u2 with
    |cons u3 u4=>
     cases u4
     obtain⟨t1,rfl⟩:=u1
     obtain⟨t2,rfl⟩:=u3
     exact⟨a,o,t1,t2,n,rfl,g,c,d⟩
 |[],_::_,_,k,_=>k.elim
 |_::_,[],_,k,_=>k.elim
theorem B7{ys:List V}{vs:List Value}(r:cE ys vs){i:Nat}(hi:i<ys.length):dJ (ys.getD i .non) (vs.getD i Value.none):=by
 induction r generalizing i with
 |nil=>simp at hi
 |cons r1 r2 ih=>
  cases i with
  |zero=>exact r1
  |succ i=>exact ih (by simpa using hi)
theorem qV{ys:List V}{vs:List Value}(r:cE ys vs):∀(is:List Nat),(∀i∈is,i<ys.length)->cE (is.map fun i=>ys.getD i .non) (is.map fun i=>vs.getD i Value.none)
 |[],_=>.nil
 |i::is,h=>.cons (B7 r (h i List.mem_cons_self)) (qV r is fun j hj=>h j (List.mem_cons_of_mem _ hj))
theorem qB{n:Nat}{q:Array Nat}(P:Pm n q):∀i∈q.toList,i<n:=fun i hi=>by
 obtain⟨j,hj,e⟩:=List.mem_iff_getElem.mp hi
 have hj':j<q.size:=by simpa using hj
 have:=P.bd j (by rw[<-P.sz];exact hj')
 rw[Array.getD_eq_getD_getElem?,Array.getElem?_eq_getElem hj']at this
 rw[Array.getElem_toList]at e
 rw[<-e];exact this
theorem t4{X:Cx}:ib X (.builtin "sorted") (wu X.K):=by
 rintro pins s σ H xs us Q I r ⟨p,ys,ps,rfl,hL,hp,nd,h64,q⟩
 obtain⟨u,rfl,ru⟩:=pQ r
 cases ru
 obtain⟨its,rv,pl,hz⟩:=I.list hL
 have gZ:=zK hp
 refine tq pl.isList (Ey I hp rv) nd h64 fun qa a1=>?_
 obtain⟨e,ge⟩:=sortedAll_at s.heap its (qa.toList.map fun i=>its.getD i Value.none).toArray
 have hf:=I.hok.fresh (Nat.le_succ s.heap.objs.size)
 have hq:qa.toList.length=ps.length:=by rw[Array.length_toList,a1.1.sz]
 refine⟨.ref (s.heap.objs.size+1),_,I.laid (o:=.lst (qa.toList.map fun i=>ys.getD i .non)) (t':=s.toks) (fun b o e=>sortedAll_old e) (Nat.le_succ _) ⟨by rw[List.length_map,hq];unfold sizeLine;omega,_,e,qV rv qa.toList (by rw[gZ];exact qB a1.1),ge⟩,rfl,q _ qa hf a1⟩
theorem BH{X:Cx}{pins:List (Addr×Obj)}{σ:List (Option V)}{H H':Hp}{s:Shared}{h':Heap}{t':Nat}(I:Inv X pins σ H s)(k:∀b u,s.heap.get? b=some u->h'.get? b=some u)
  (same:∀b,b<s.heap.objs.size->H' b=H b) (new:∀b u,s.heap.objs.size<=b->H' b=some u->dS X.prog X.w H' h' b u):Inv X pins σ H' { s with heap:=h',toks:=t' }:=by
 have up:∀b u,H b=some u->H' b=some u:=fun b u e=>by
  rw[same b (Nat.lt_of_not_le fun z=>by rw[I.hok.fresh z]at e;cases e)];exact e
 refine I.un ⟨fun b u q _ _ _=>k b u q,fun b u q _ _ _=>⟨u.slots,k b u q⟩,fun b u q n _=>?_,fun b u q _=>⟨u,k b u q⟩,fun b xs q=>up b _ q,fun b u xs q=>up b _ q,fun b ps q=>⟨#[],by rw[up b _ q];simp⟩⟩ fun b u e=>?_
 ·rw[same b (Heap.lt_size q)];exact n
 ·by_cases hb:b<s.heap.objs.size
  ·rw[same b hb]at e
   exact(I.hok b u e).stay (fun c v _ q=>k c v q) (fun c q=>up c _ q) fun c xs q=>up c _ q
  ·exact new b u (Nat.le_of_not_lt hb) e
def B6(a d:Addr):HO:=.ext fun h=>h.IsItemsView a d
def Jv:V->List V->Hp->VK->Prop:=fun x xs H Q=>∃d kvs,x=.ref d/\xs=[]/\H d=some (.dK kvs)/\∀l,H l=none->Q (.ref l) (upd H l (B6 l d))
theorem C9{X:Cx}:MtR X "dict.items" Jv:=by
 rintro pins s σ H x xs v us Q I r1 rs ⟨d,kvs,rfl,rfl,hD,q⟩
 cases r1
 cases rs
 obtain⟨z,hd,vs,rel,dd⟩:=A1 I.hok hD
 have gv:(s.heap.push { cls:=Value.type "dict_items",data:=Data.fields #[Value.ref d] }).get? s.heap.objs.size=some { cls:=Value.type "dict_items",data:=Data.fields #[Value.ref d] }:=Heap.get?_push_size _ rfl
 have hf:=I.hok.fresh (Nat.le_refl s.heap.objs.size)
 refine call_meetsIn PySem.F.slot_dict_items (Heap.DictOf.typeIs dd) PySem.F.entry_dict_items (PySem.F.args_dict_items_1 (Value.ref d)) (meets_dict_items (cX X.prog X.w) d hd) ⟨⟨vs,dd⟩,?_⟩
 refine⟨.ref s.heap.objs.size,_,I.laid (o:=B6 s.heap.objs.size d) (t':=s.toks) (fun b o e=>Heap.get?_push_of_some _ e) (Nat.le_refl _) ⟨⟨_,gv,rfl,rfl⟩,⟨_,gv⟩,fun h1 h2 ⟨o,g,c,e⟩ m=>⟨o,m o g,c,e⟩⟩,rfl,q _ hf⟩
def Co:List V->Hp->VK->Prop:=fun xs H Q=>∃(v d:Addr) (ps:List (Int×Int)),xs=[.ref v]/\H v=some (B6 v d)/\H d=some (.dK (ps.map fun p=>(.inl p.1,.int p.2)))/\ps.Nodup/\ps.length<64/\
 ∀(as:List Addr) (l:Addr) (q:Array Nat) (H2:Hp),sx H H2->H2 l=none->as.length=ps.length->(∀(i:Nat) (a:Addr) (p:Int×Int),as[i]?=some a->ps[i]?=some p->H2 a=some (.tup [.int p.1,.int p.2]))->Lc ps q->
  Q (.ref l) (upd H2 l (.lst (q.toList.map fun i=>.ref (as.getD i 0))))
def EG(H:Hp)(zs:List (Addr×(Int×Int))):Hp:=fun b=>match zs.find? (fun z=>decide (z.1=b))with
 |some z=>some (.tup [.int z.2.1,.int z.2.2])
 |none=>H b
theorem GY{H:Hp}:∀{zs:List (Addr×(Int×Int))} {i:Nat} {z:Addr×(Int×Int)},(zs.map (·.1)).Nodup->zs[i]?=some z->EG H zs z.1=some (.tup [.int z.2.1,.int z.2.2]):=fun{zs i z} nd h=>by
 unfold EG
 have hf:zs.find? (fun y=>decide (y.1=z.1))=some z:=by
  induction zs generalizing i with
  |nil=>simp at h
  |cons y r ih=>
   rw[List.map_cons,List.nodup_cons]at nd
   cases i with
   |zero=>simp at h;subst h;simp
   |succ i=>
    simp at h
    have hm:z∈r:=List.mem_of_getElem? h
    have:y.1≠z.1:=fun e=>nd.1 (List.mem_map.mpr ⟨z,hm,e.symm⟩)
    rw[List.find?_cons,decide_eq_false this]
    exact ih nd.2 h
 rw[hf]
theorem vh{H:Hp}{zs:List (Addr×(Int×Int))}{b:Addr}(h:b∉zs.map (·.1)):EG H zs b=H b:=by
 unfold EG
 rw[List.find?_eq_none.mpr fun z hz=>by simp only[decide_eq_true_eq];exact fun e=>h (List.mem_map.mpr ⟨z,hz,e⟩)]
theorem Kj{κ:Type}:∀{kvs:List (κ×V)} {vs:List (κ×Value)} {i:Nat} {k:κ} {x:Value},KV kvs vs->vs[i]?=some (k,x)->∃y,kvs[i]?=some (k,y)/\dJ y x
 |_,_,i,k,x,.nil,e=>by simp at e
 |(k1,y1)::_,(k2,x2)::_,0,k,x,.cons r t,e=>by
  simp at e
  obtain⟨rfl,rfl⟩:=e
  obtain⟨r1,r2⟩:=r
  dsimp only at r1 r2
  subst r1
  exact⟨y1,rfl,r2⟩
 |_::_,_::_,i+1,k,x,.cons r t,e=>by
  simp at e
  obtain⟨y,e1,e2⟩:=Kj t e
  exact⟨y,by simpa using e1,e2⟩
theorem wI{h:Heap}:∀{as:List Addr} {ps:List (Int×Int)},as.length=ps.length->(∀(i:Nat) (a:Addr) (p:Int×Int),as[i]?=some a->ps[i]?=some p->∃t1 t2,h.get? a=some { cls:=Value.type "tuple",data:=Data.seq #[Value.int p.1 t1,Value.int p.2 t2] })->fz h (as.map Value.ref) ps
 |[],[],_,_=>trivial
 |a::as,p::ps,l,k=>by
  obtain⟨t1,t2,g⟩:=k 0 a p rfl rfl
  exact⟨⟨a,_,t1,t2,0,rfl,g,rfl,rfl⟩,wI (by simpa using l) fun i a p h1 h2=>k (i+1) a p (by simpa using h1) (by simpa using h2)⟩
 |[],_::_,l,_=>by simp at l
 |_::_,[],l,_=>by simp at l
theorem wa:∀as:List Addr,cE (as.map V.ref) (as.map Value.ref)
 |[]=>.nil
 |a::r=>.cons rfl (wa r)
theorem zY{X:Cx}(hc:X.calm=true):ib X (.builtin "sorted") Co:=by
 rintro pins s σ H xs us Q I r ⟨v,d,ps,rfl,hV,hD,nd,h64,q⟩
 obtain⟨u,rfl,ru⟩:=pQ r
 cases ru
 obtain⟨hview,_,_⟩:dS X.prog X.w H s.heap v (B6 v d):=I.hok v _ hV
 obtain⟨z,hd,vs,rel,dd⟩:=A1 I.hok hD
 obtain⟨ep,da⟩:=dd.dictAt
 have lv:vs.length=ps.length:=by rw[<-Paired.length rel,List.length_map]
 refine Calls.call_function_entry kind_sorted plain_sorted entry_sorted (args_sorted1 _) ?_
 unfold Builtin.«sorted»
 refine wpAny_bind (m:=checkCount "sorted" 1 1 _) (wpAny_pure (wpAny_bind (kdx_collect (show X.A.in1.handled=none from I.ok.hd hc) hview da (by rw[lv];unfold sizeLine;omega) fun h1 tk as up la G=>?_)))
 have lap:as.length=ps.length:=by rw[la,lv]
 have hp:∀(i:Nat) (a:Addr) (p:Int×Int),as[i]?=some a->ps[i]?=some p->∃t1 t2,h1.get? a=some { cls:=Value.type "tuple",data:=Data.seq #[Value.int p.1 t1,Value.int p.2 t2] }:=fun i a p ha hi=>by
  obtain⟨key,k,x,e1,e2,e3⟩:=G.pairs i a ha
  obtain⟨y,hkx,hk2⟩:=Kj rel e1
  rw[List.getElem?_map,hi]at hkx
  cases hkx
  obtain⟨t2,rfl⟩:=hk2
  rcases bW (k:=Sum.inl p.1) e2 with⟨j,t,e6,e7⟩|⟨j,t,e6,e7⟩
  ·cases e6;subst e7;exact⟨t,t2,e3⟩
  ·cases e6
 have nda:as.Nodup:=G.rise.imp fun h=>Nat.ne_of_lt h
 have hpairs:fz h1 (as.map Value.ref) ps:=wI lap hp
 have hlt:∀a∈as,a<h1.objs.size:=fun a ha=>by
  obtain⟨i,hi⟩:=List.getElem?_of_mem ha
  have hip:i<ps.length:=by rw[<-lap];exact(List.getElem?_eq_some_iff.mp hi).1
  obtain⟨t1,t2,g⟩:=hp i a _ hi (List.getElem?_eq_getElem hip)
  exact Heap.lt_size g
 refine wpAny_bind (wpAny_newList ?_ (by rw[List.length_map,lap];unfold sizeLine;omega))
 have gL:(h1.push { cls:=.type "list",data:=.seq (as.map Value.ref).toArray }).get? h1.objs.size=some (seqObj "list" (as.map Value.ref).toArray 0):=Heap.get?_push_size _ rfl
 have hv':∀v∈as.map Value.ref,v≠.ref h1.objs.size:=fun v hv=>jR hpairs v hv _ (Nat.le_refl _)
 refine wpAny_bind (wpAny_holding (wpAny_call_entry slot_list_sort ⟨_,gL,rfl⟩ entry_list_sort (jA (s:={ s with heap:=h1.push { cls:=.type "list",data:=.seq (as.map Value.ref).toArray },toks:=tk }) gL (jQ (a:=h1.objs.size) (fun b o _ g=>Heap.get?_push_of_some _ g) hpairs hv') hv' nd h64 fun qa a1=>⟨_,rfl,?_⟩) (args_list_sort _)))
 obtain⟨e,ge⟩:=sortedHeap_at (out:=(qa.toList.map fun i=>(as.map Value.ref).getD i Value.none).toArray) gL
 have old:∀b o,h1.get? b=some o->(sortedHeap (h1.push { cls:=.type "list",data:=.seq (as.map Value.ref).toArray }) h1.objs.size (as.map Value.ref) (qa.toList.map fun i=>(as.map Value.ref).getD i Value.none).toArray).get? b=some o:=fun b o g1=>by
  have lt1:=Heap.lt_size g1
  rw[sortedHeap_old (Nat.ne_of_lt lt1) (by rw[Heap.size_push];exact Nat.lt_succ_of_lt lt1)]
  exact Heap.get?_push_of_some _ g1
 have zk:(as.zip ps).map (·.1)=as:=List.map_fst_zip (by omega)
 have lay:∀(i:Nat) (a:Addr) (p:Int×Int),as[i]?=some a->ps[i]?=some p->EG H (as.zip ps) a=some (.tup [.int p.1,.int p.2]):=fun i a p h1 h2=>by
  have:=GY (H:=H) (zs:=as.zip ps) (i:=i) (z:=(a,p)) (by rw[zk];exact nda) (by rw[List.getElem?_zip_eq_some];exact⟨h1,h2⟩)
  exact this
 have hsame:sx H (EG H (as.zip ps)):=fun b o hb=>by
  rw[vh];exact hb
  rw[zk]
  intro hm
  have:=G.above b hm
  rw[I.hok.fresh (Nat.le_of_lt this)]at hb
  cases hb
 have I2:Inv X pins σ (EG H (as.zip ps)) { s with heap:=h1,toks:=tk }:=BH I up (fun b hb=>vh (by rw[zk];exact fun hm=>absurd (G.above b hm) (Nat.not_lt.mpr (Nat.le_of_lt hb)))) fun b u hb hu=>by
  by_cases e2:b∈as
  ·obtain⟨i,hi⟩:=List.getElem?_of_mem e2
   have hip:i<ps.length:=by rw[<-lap];exact(List.getElem?_eq_some_iff.mp hi).1
   obtain⟨t1,t2,g⟩:=hp i b _ hi (List.getElem?_eq_getElem hip)
   rw[lay i b _ hi (List.getElem?_eq_getElem hip)]at hu
   cases hu
   exact⟨by unfold sizeLine;simp,[Value.int _ t1,Value.int _ t2],.cons ⟨t1,rfl⟩ (.cons ⟨t2,rfl⟩ .nil),_,g,rfl,0,rfl⟩
  ·rw[vh (by rw[zk];exact e2),I.hok.fresh hb]at hu
   cases hu
 have hl0:EG H (as.zip ps) h1.objs.size=none:=I2.hok.fresh (Nat.le_refl _)
 have hq:qa.toList.length=ps.length:=by rw[Array.length_toList,a1.1.sz]
 have rv:=wa as
 have gd:∀i,i<as.length->(as.map V.ref).getD i .non=.ref (as.getD i 0):=fun i hi=>by
  simp[List.getD_eq_getElem?_getD,List.getElem?_eq_getElem hi]
 have el:(qa.toList.map fun i=>(as.map V.ref).getD i .non)=qa.toList.map fun i=>V.ref (as.getD i 0):=List.map_congr_left fun i hi=>gd i (by rw[lap];exact qB a1.1 i hi)
 refine wpAny_pure ⟨_,rfl,.ref h1.objs.size,_,Inv.laid (s:={ s with heap:=h1,toks:=tk }) (o:=.lst (qa.toList.map fun i=>.ref (as.getD i 0))) (t':=tk) I2 old (Nat.le_refl _) ⟨by rw[List.length_map,hq];unfold sizeLine;omega,_,e,?_,ge⟩,rfl,q as _ qa _ hsame hl0 lap lay a1⟩
 rw[<-el]
 exact qV rv qa.toList (by rw[List.length_map,lap];exact qB a1.1)
theorem vd{p:Int×Int}:ltP p p=false:=by simp[ltP]
theorem De{p q:Int×Int}(h:ltP p q=true)(k:ltP q p=true):False:=by simp only[ltP,decide_eq_true_eq]at h k;omega
theorem xw:∀{L M:List (Int×Int)},L.Pairwise (fun a b=>ltP a b=true)->M.Pairwise (fun a b=>ltP a b=true)->(∀x,x∈L↔x∈M)->L=M
 |[],[],_,_,_=>rfl
 |[],m::M,_,_,h=>by have:=(h m).mpr List.mem_cons_self;cases this
 |l::L,[],_,_,h=>by have:=(h l).mp List.mem_cons_self;cases this
 |l::L,m::M,h1,h2,h=>by
  obtain⟨a1,b1⟩:=List.pairwise_cons.mp h1
  obtain⟨a2,b2⟩:=List.pairwise_cons.mp h2
  have e:l=m:=by
   rcases List.mem_cons.mp ((h l).mp List.mem_cons_self)with z|z
   ·exact z
   ·rcases List.mem_cons.mp ((h m).mpr List.mem_cons_self)with y|y
    ·exact y.symm
    ·exact(De (a2 l z) (a1 m y)).elim
  subst e
  congr 1
  refine xw b1 b2 fun x=>⟨fun hx=>?_,fun hx=>?_⟩
  ·rcases List.mem_cons.mp ((h x).mp (List.mem_cons_of_mem _ hx))with z|z
   ·subst z;have:=a1 x hx;rw[vd]at this;cases this
   ·exact z
  ·rcases List.mem_cons.mp ((h x).mpr (List.mem_cons_of_mem _ hx))with z|z
   ·subst z;have:=a2 x hx;rw[vd]at this;cases this
   ·exact z
open Classical in
def i9(ps:List (Int×Int)):List (Int×Int):=if h:∃L:List (Int×Int),L.Pairwise (fun a b=>ltP a b=true)/\∀x,x∈L↔x∈ps then h.choose else[]
theorem nF{L ps:List (Int×Int)}(h1:L.Pairwise (fun a b=>ltP a b=true))(h2:∀x,x∈L↔x∈ps):i9 ps=L:=by
 have h:∃L:List (Int×Int),L.Pairwise (fun a b=>ltP a b=true)/\∀x,x∈L↔x∈ps:=⟨L,h1,h2⟩
 unfold i9
 rw[dif_pos h]
 obtain⟨k1,k2⟩:=h.choose_spec
 exact xw k1 h1 fun x=>(k2 x).trans (h2 x).symm
theorem uH{ps:List (Int×Int)}{q:Array Nat}(h:Lc ps q):i9 ps=q.toList.map fun i=>ps.getD i (0,0):=by
 obtain⟨P,A⟩:=h
 have hl:q.toList.length=ps.length:=by rw[Array.length_toList,P.sz]
 have gd:∀i (hi:i<q.toList.length),q.getD i 0=q.toList[i]:=fun i hi=>by
  have hi':i<q.size:=by simpa using hi
  rw[Array.getD_eq_getD_getElem?,Array.getElem?_eq_getElem hi',Array.getElem_toList];rfl
 have h1:(q.toList.map fun i=>ps.getD i (0,0)).Pairwise (fun a b=>ltP a b=true):=by
  rw[List.pairwise_iff_getElem]
  intro i j hi hj hij
  rw[List.length_map]at hi hj
  rw[List.getElem_map,List.getElem_map,<-gd i hi,<-gd j hj]
  exact A i j hij (by omega)
 have nd:(q.toList.map fun i=>ps.getD i (0,0)).Nodup:=h1.imp fun{a b} h e=>by subst e;rw[vd]at h;cases h
 have sub:∀x∈q.toList.map fun i=>ps.getD i (0,0),x∈ps:=fun x hx=>by
  obtain⟨i,hi,rfl⟩:=List.mem_map.mp hx
  have:=qB P i hi
  rw[List.getD_eq_getElem?_getD,List.getElem?_eq_getElem this]
  exact List.getElem_mem this
 refine nF h1 fun x=>⟨sub x,fun hx=>?_⟩
 refine Classical.byContradiction fun hn=>?_
 have:=List.Nodup.length_le_of_subset (List.nodup_cons.mpr ⟨hn,nd⟩) (l₂:=ps) fun y hy=>by
  rcases List.mem_cons.mp hy with z|z
  ·rw[z];exact hx
  ·exact sub y z
 rw[List.length_cons,List.length_map,hl]at this
 omega
def pP(p:Int×Int):U:=.tup [.int p.1,.int p.2]
def qD:List U->Option (List (Int×Int))
 |[]=>some []
 |.tup [.int a,.int b]::r=>(qD r).map ((a,b)::·)
 |_=>none
theorem lT:∀ps:List (Int×Int),qD (ps.map pP)=some ps
 |[]=>rfl
 |p::ps=>by rw[List.map_cons,pP,qD,lT ps];rfl
theorem tV:∀{us:List U} {ps:List (Int×Int)},qD us=some ps->us=ps.map pP
 |[],ps,h=>by cases h;rfl
 |u::us,ps,h=>by
  unfold qD at h
  split at h
  ·rename_i e;cases e
  ·rename_i e
   injection e with e1 e2
   subst e1;subst e2
   obtain⟨qs,e,h⟩:=Option.map_eq_some_iff.mp h
   subst h
   rw[List.map_cons,<-tV e];rfl
  ·cases h
section
variable{K:PySem.W.Frag}{m:List Addr}{H:Hp}
theorem Ex:∀{ys:List V} {ps:List (Int×Int)},IsL K m H ys (ps.map pP)->PrL K H ys ps
 |ys,[],h=>by rw[h.of_nil];trivial
 |ys,p::ps,h=>by
  obtain⟨y,r,rfl,i,t⟩:=h.of_cons
  obtain⟨a,xs,rfl,hs,il⟩:=i.of_tup
  have e:xs=[p.1,p.2].map V.int:=IsL.ints (ns:=[p.1,p.2]) il
  subst e
  exact⟨⟨a,rfl,hs⟩,Ex t⟩
theorem zL:∀{ys:List V} {ps:List (Int×Int)} {i:Nat},PrL K H ys ps->i<ps.length->Is K m H (ys.getD i .non) (pP (ps.getD i (0,0)))
 |[],[],i,_,h=>by simp at h
 |y::ys,p::ps,0,k,_=>by
  obtain⟨a,e,hs⟩:=k.1
  show Is K m H y (pP p)
  rw[e]
  exact .tup_ hs (jS [p.1,p.2])
 |y::ys,p::ps,i+1,k,h=>by
  show Is K m H (ys.getD i .non) (pP (ps.getD i (0,0)))
  exact zL k.2 (by simpa using h)
 |[],_::_,_,k,_=>k.elim
 |_::_,[],_,k,_=>k.elim
theorem zJ{ys:List V}{ps:List (Int×Int)}(k:PrL K H ys ps):∀is:List Nat,(∀i∈is,i<ps.length)->IsL K m H (is.map fun i=>ys.getD i .non) (is.map fun i=>pP (ps.getD i (0,0)))
 |[],_=>.nil_
 |i::is,h=>.cons_ (zL k (h i List.mem_cons_self)) (zJ k is fun j hj=>h j (List.mem_cons_of_mem _ hj))
end
open Classical in
def gI:Fn
 |[.ref l],S=>match S[l]? with
  |some (.lst us)=>(qD us).bind fun ps=>if ps.Nodup/\ps.length<64 then some (.ref S.length,S++[.lst ((i9 ps).map pP)])else none
  |_=>none
 |_,_=>none
theorem tX{K:PySem.W.Frag}:qf K (wu K) gI:=by
 intro m S H us vs u S' Q sr i hf post
 match us,hf with
 |[.ref l],hf=>
  obtain⟨v,rfl,iv⟩:=i.one
  obtain⟨a,ha,rfl⟩:=iv.of_ref
  simp only[gI]at hf
  split at hf<;>try cases hf
  rename_i ws hS
  obtain⟨ps,hn,h⟩:=Option.bind_eq_some_iff.mp hf
  split at h<;>try cases h
  have hc:ps.Nodup/\ps.length<64:=by assumption
  obtain⟨a',ha',xs,hx,la⟩:=sr.get hS
  rw[ha]at ha';cases ha'
  rw[tV hn]at la
  have pr:=Ex la
  refine⟨a,xs,ps,rfl,SqL.of hx,pr,hc.1,hc.2,fun p q hp aq=>?_⟩
  have il:=zJ (m:=m) pr q.toList (qB aq.1)
  have e:(q.toList.map fun i=>pP (ps.getD i (0,0)))=(i9 ps).map pP:=by rw[uH aq,List.map_map];rfl
  rw[e]at il
  exact fg sr il post hp
def oN:List (Key×U)->Option (List (Int×Int))
 |[]=>some []
 |(.inl a,.int b)::r=>(oN r).map ((a,b)::·)
 |_=>none
theorem qE:∀ps:List (Int×Int),oN (ps.map fun p=>(.inl p.1,.int p.2))=some ps
 |[]=>rfl
 |p::ps=>by rw[List.map_cons,oN,qE ps];rfl
theorem tW:∀{kus:List (Key×U)} {ps:List (Int×Int)},oN kus=some ps->kus=ps.map fun p=>(.inl p.1,.int p.2)
 |[],ps,h=>by cases h;rfl
 |u::us,ps,h=>by
  unfold oN at h
  split at h
  ·rename_i e;cases e
  ·rename_i e
   injection e with e1 e2
   subst e1;subst e2
   obtain⟨qs,e,h⟩:=Option.map_eq_some_iff.mp h
   subst h
   rw[List.map_cons,<-tW e]
  ·cases h
open Classical in
def nJ(co:CE):CE:=fun ρ S=>(co ρ S).bind fun p=>match p.1 with
 |.ref l=>match p.2[l]? with
  |some (.dic kus)=>(oN kus).bind fun ps=>if ps.Nodup/\ps.length<64 then some (.ref p.2.length,p.2++[.lst ((i9 ps).map pP)])else none
  |_=>none
 |_=>none
theorem w8{K:PySem.W.Frag}{m:List Addr}{H:Hp}:∀{kvs:List (Key×V)} {ps:List (Int×Int)},IsP K m H kvs (ps.map fun p=>(.inl p.1,.int p.2))->kvs=ps.map fun p=>(.inl p.1,.int p.2)
 |[],[],_=>rfl
 |(k,v)::kvs,p::ps,h=>by
  obtain⟨h1,h2⟩:=h
  simp only[List.map_cons]at h1 h2
  injection h1 with e1 e2
  obtain⟨y,r,e3,i,t⟩:=h2.of_cons
  injection e3 with e4 e5
  subst e4;subst e5
  rw[i.of_int,e1,w8 (kvs:=kvs) (ps:=ps) ⟨e2,t⟩]
  rfl
 |[],_::_,h=>by have:=congrArg List.length h.1;simp at this
 |_::_,[],h=>by have:=congrArg List.length h.1;simp at this
theorem zy{X:Cx}{o:Expr}{co:CE}{p1 apos cpos pos:Pos}(hcm:X.calm=true)(hg:Gl X "sorted")(hm:X.mg "sorted"=none)(hv:bootBuiltins "sorted"=some (.builtin "sorted"))(ho:QE X o co)
  (hbase:attributeBase o "items" X.env (eval o X.env)=eval o X.env:=by rfl) (hline:(apos.endLine == cpos.line)=true:=by rfl)
  (he:starEach [.Call (.Attribute o "items" apos) [] [] cpos] X.env=(false,eval (.Call (.Attribute o "items" apos) [] [] cpos) X.env)::starEach [] X.env:=by rfl) (hpl:(backTo pos (starEach [] X.env)).any (·.1)=false:=by rfl) :
  QE X (.Call (.Name "sorted" p1) [.Call (.Attribute o "items" apos) [] [] cpos] [] pos) (nJ co):=
 (nM (zY hcm) hg hm hv (fS (FL PySem.F.plainAttrs_dict PySem.F.slot_dict_items PySem.F.type_dict_items C9 ho hbase hline) j6 he) (by decide) (by decide) he hpl).imp fun σ H Q hz=>nB hz fun m ρ S u S' sr lr hc post=>by
  obtain⟨⟨x,S1⟩,h1,h⟩:=Option.bind_eq_some_iff.mp hc
  refine⟨m,ρ,S,x,S1,sr,lr,h1,fun m1 v1 H1 e1 sr1 i1=>?_⟩
  cases x with
  |ref l=>
   simp only at h
   split at h<;>try cases h
   rename_i kus hS
   obtain⟨ps,hn,h⟩:=Option.bind_eq_some_iff.mp h
   split at h<;>try cases h
   have hcc:ps.Nodup/\ps.length<64:=by assumption
   obtain⟨a,ha,rfl⟩:=i1.of_ref
   obtain⟨a',ha',kvs,hx,ip⟩:=sr1.get hS
   rw[ha]at ha';cases ha'
   rw[tW hn]at ip
   have hk:=w8 ip
   subst hk
   refine⟨.inr (.inr (.inl ⟨rfl,.inl ⟨_,hx⟩⟩)),a,_,rfl,rfl,hx,fun v hvn=>?_⟩
   have ne:a≠v:=fun z=>by subst z;rw[hvn]at hx;cases hx
   refine⟨v,a,ps,rfl,aX,by rw[bN ne];exact hx,hcc.1,hcc.2,fun as l q H2 sm hl la lay aq=>?_⟩
   have s2:sx H1 H2:=(dW hvn _).trans sm
   have sr2:=sr1.same s2
   have il:IsL X.K m1 H2 (q.toList.map fun i=>V.ref (as.getD i 0)) ((i9 ps).map pP):=by
    have e:(i9 ps).map pP=q.toList.map fun i=>pP (ps.getD i (0,0)):=by rw[uH aq,List.map_map];rfl
    rw[e]
    have bd:=qB aq.1
    clear aq e
    generalize q.toList=is at bd
    induction is with
    |nil=>exact .nil_
    |cons i r ih=>
     have hi:=bd i List.mem_cons_self
     have hia:i<as.length:=by rw[la];exact hi
     refine .cons_ ?_ (ih fun j hj=>bd j (List.mem_cons_of_mem _ hj))
     have e1:as.getD i 0=as[i]:=by rw[List.getD_eq_getElem?_getD,List.getElem?_eq_getElem hia];rfl
     have e2:ps.getD i (0,0)=ps[i]:=by rw[List.getD_eq_getElem?_getD,List.getElem?_eq_getElem hi];rfl
     dsimp only
     rw[e1,e2]
     exact .tup_ (SqT.of (lay i _ _ (List.getElem?_eq_getElem hia) (List.getElem?_eq_getElem hi))) (jS [ps[i].1,ps[i].2])
   exact fg sr2 il (post.mono (e1.trans (.of (fh s2)))) hl
  |_=>cases h
section
variable{X:Cx}{K:PySem.W.Frag}{a b o e:Expr}{es:List Expr}{ca cb co:CE}{cr:CA}{pos apos cpos:Pos}
def OF:U->U->Sto->Option (U×Sto)
 |.str a,.str b,S=>some (.bl (decide (a=b)),S)
 |.non,.str _,S=>some (.bl false,S)
 |.bl _,.str _,S=>some (.bl false,S)
 |.int _,.str _,S=>some (.bl false,S)
 |.tup _,.str _,S=>some (.bl false,S)
 |.ref l,.str _,S=>match S[l]? with
  |some (.lst _)=>some (.bl false,S)
  |_=>none
 |_,_,_=>none
end
section
variable{X:Cx}{K:PySem.W.Frag}
def xt(cd ck:CE):CE:=fun ρ S=>(cd ρ S).bind fun p=>match p.1 with
 |.ref l=>match p.2[l]? with
  |some (.dic _)=>(ck ρ p.2).bind fun q=>match q.2[l]? with
   |some (.dic kus)=>(m6 q.1).bind fun k=>some ((bw kus k).getD .non,q.2)
   |_=>none
  |_=>none
 |_=>none
theorem Gi{o e:Expr}{cd ck:CE}{apos pos:Pos}(hu:X.A.units+1<cLine)(ho:QE X o cd)(he:QE X e ck)(hm:M1 X o "get" apos e pos):QE X (.Call (.Attribute o "get" apos) [e] [] pos) (xt cd ck):=(yT hu ho he hm).imp fun σ H Q hz=>nB hz fun m ρ S u S' sr lr hc post=>by
 obtain⟨⟨x,S1⟩,h1,h⟩:=Option.bind_eq_some_iff.mp hc
 refine⟨m,ρ,S,x,S1,sr,lr,h1,fun m1 v1 H1 e1 sr1 i1=>?_⟩
 cases x with
 |ref l=>
  simp only at h
  split at h<;>try cases h
  rename_i kus0 hS
  obtain⟨⟨ku,S2⟩,h2,h⟩:=Option.bind_eq_some_iff.mp h
  simp only at h
  split at h<;>try cases h
  rename_i kus hS2
  obtain⟨k,hk,h⟩:=Option.bind_eq_some_iff.mp h
  cases h
  obtain⟨a,ha,rfl⟩:=i1.of_ref
  obtain⟨a',ha',kvs0,hx0,_⟩:=sr1.get hS
  rw[ha]at ha';cases ha'
  refine⟨a,rfl,.inl ⟨kvs0,.inl hx0⟩,m1,ρ,S1,ku,_,sr1,lr.mono e1,h2,fun m2 v2 H2 e2 sr2 i2=>?_⟩
  obtain⟨a',ha',kvs,hx,ip⟩:=sr2.get hS2
  rw[e2.get ha]at ha';cases ha'
  have ek:=jB i2 hk
  subst ek
  have rf:=IsP.val (k:=k) ip
  refine⟨_,DGet.k hx,post m2 _ H2 (e1.trans e2) sr2 ?_⟩
  cases hv:j9 kvs k with
  |none=>
   cases hw:bw kus k with
   |none=>exact .non_
   |some w=>rw[hv,hw]at rf;exact rf.elim
  |some v=>
   cases hw:bw kus k with
   |none=>rw[hv,hw]at rf;exact rf.elim
   |some w=>rw[hv,hw]at rf;exact rf
 |_=>simp at h
end
end OP
namespace OQ
open PySem PySem.Spec PyProof.Rows L2 OG OP
def fQ:CS:=
 (bu (gx (aQ (cOp fEq (cOp fIx (ah 0) (cC (.int 2))) (cC (.int 0)))) (bu (cP 2 (cOp fIx (ah 0) (cC (.int 1))))
  (bu (hJ (ah 0) (cC (.int 1)) (cOp iO (ah 2) (cC (.int 1))))
  (bu (cP 3 (cC (.int 0)))
  (bu (gx (aQ (cOp fLt (ah 2) (cCB ky (ae (cOp fIx (ah 0) (cC (.int 0))) aE)))) (cP 3 (cOp fIx (cOp fIx (ah 0) (cC (.int 0))) (ah 2))) (gx (aQ (cOp fGt (cCB ky (ae (cOp fIx (ah 0) (cC (.int 0))) aE)) (cC (.int 0)))) (cP 3 (cOp iO (cOp sQ (cOp fIx (cOp fIx (ah 0) (cC (.int 0))) (cOp sQ (cOp pf (ah 2) (cC (.int 3))) (cCB ky (ae (cOp fIx (ah 0) (cC (.int 0))) aE)))) (cC (.int 1000003))) (cOp pf (cC (.int 97)) (ah 2)))) dv))
  (bu (cP 4 (cOp sQ (cOp pf (cOp iO (cOp iO (cOp sQ (ah 3) (cC (.int 998244353))) (cOp pf (cC (.int 53)) (ah 2))) (cC (.int 1))) (cC (.int 48271))) (cC (.int 2147483647))))
  (bu (cP 5 (cOp sQ (cOp iO (cOp iO (cOp pf (ah 4) (ah 4)) (cOp pf (cC (.int 69621)) (ah 2))) (cC (.int 5))) (cC (.int 1000000007))))
  (bu (cP 6 (cOp sQ (cOp iO (cOp pf (ah 5) (ah 5)) (ah 4)) (cC (.int 998244353))))
  (bu (hJ (ah 0) (cC (.int 2)) (cOp iO (cOp DD (cOp iO (cOp pf (ah 5) (cC (.int 998244353))) (ah 6)) (cC (.int 16))) (cC (.int 1))))
  (gx (aQ (cOp fGe (ah 3) (cOp HS (cC (.int 10)) (cC (.int 18))))) (hJ (ah 0) (cC (.int 2)) (cOp DD (ah 3) (cOp HS (cC (.int 10)) (cC (.int 18))))) dv))))))))) dv)
  (bu (cP 7 (cOp sQ (cOp fIx (ah 0) (cC (.int 2))) (ah 1)))
  (bu (hJ (ah 0) (cC (.int 2)) (cOp DD (cOp fIx (ah 0) (cC (.int 2))) (ah 1)))
  (fB (ah 7)))))
theorem vB{a0 a1:U}{S:Sto}:fnU 8 2 (fQ ) [a0,a1] S=((fQ ) [some a0,some a1,none,none,none,none,none,none] S).bind kFn:=i6 rfl
def gh(ao:Fn):CS:=
 (fB (fE (ae (cOp iO (cC (.int 1)) (cCB ao (ae (ah 0) (ae (cC (.int 6)) aE)))) (ae (cOp fIx (pB (ae (cC (.int 2)) (ae (cC (.int 3)) (ae (cC (.int 5)) (ae (cC (.int 10)) (ae (cOp iO (cC (.int 2)) (cCB ao (ae (ah 0) (ae (cC (.int 999)) aE)))) aE)))))) (cCB ao (ae (ah 0) (ae (cC (.int 5)) aE)))) aE))))
theorem um{ao:Fn}{a0:U}{S:Sto}:fnU 1 1 (gh ao) [a0] S=((gh ao) [some a0] S).bind kFn:=i6 rfl
def gj(ao:Fn):CS:=
 (fB (cCB m9 (ae (iK (gY (ae (cOp fIx (ah 1) (cC (.int 0))) aE)) (gNm 0) (cCB ao (ae (ah 1) (ae (cOp fIx (ah 2) (cC (.int 1))) aE))) 1 [0,1]) aE)))
theorem uo{ao:Fn}{a0 a1:U}{S:Sto}:fnU 2 2 (gj ao) [a0,a1] S=((gj ao) [some a0,some a1] S).bind kFn:=i6 rfl
def gJ(aN:Fn):CS:=
 (bu (cP 1 (cOp iO (ah 1) (cC (.int 1))))
  (gx (aQ (cOp fEq (cOp fIx (ah 2) (cC (.int 0))) (cC (.str "try")))) (cP 1 (cOp iO (cOp iO (ah 1) (cCB aN (ae (cOp fIx (ah 2) (cC (.int 1))) aE))) (cCB aN (ae (cOp fIx (ah 2) (cC (.int 2))) aE)))) dv))
def g9(aN:Fn):CS:=
 (bu (cP 1 (cC (.int 0)))
  (bu (lJ (iTp (ah 0)) (gNm 2) (gJ aN))
  (fB (ah 1))))
theorem vC{aN:Fn}{a0:U}{S:Sto}:fnU 3 1 (g9 aN) [a0] S=((g9 aN) [some a0,none,none] S).bind kFn:=i6 rfl
def bt(ao:Fn):CS:=
 (bu (gx (aQ (cOp fLt (ah 2) (cC (.int 4)))) (fB (fE (ae (cC (.str "look")) (ae (ah 3) (ae (cCB ao (ae (ah 0) (ae (cOp fIx (ah 1) (cC (.int 0))) aE))) aE))))) dv)
  (bu (gx (aQ (cOp fLt (ah 2) (cC (.int 7)))) (fB (fE (ae (cC (.str "put")) (ae (cCB ao (ae (ah 0) (ae (cOp fIx (ah 1) (cC (.int 0))) aE))) (ae (ah 3) aE))))) dv)
  (bu (gx (aQ (cOp fLt (ah 2) (cC (.int 9)))) (fB (fE (ae (cC (.str "set")) (ae (ah 3) (ae (cCB ao (ae (ah 0) (ae (cOp fIx (ah 1) (cC (.int 1))) aE))) aE))))) dv)
  (bu (gx (aQ (cOp fLt (ah 2) (cC (.int 11)))) (fB (fE (ae (cC (.str "plus")) (ae (ah 3) (ae (cCB ao (ae (ah 0) (ae (cC (.int 4)) aE))) aE))))) dv)
  (fB (fE (ae (cC (.str "leap")) (ae (ah 3) (ae (cOp iO (cC (.int 1)) (cCB ao (ae (ah 0) (ae (cOp fIx (pB (ae (cC (.int 2)) (ae (cC (.int 12)) aE))) (cCB ao (ae (ah 0) (ae (cC (.int 2)) aE)))) aE)))) aE)))))))))
theorem mf{ao:Fn}{a0 a1 a2 a3:U}{S:Sto}:fnU 4 4 (bt ao) [a0,a1,a2,a3] S=((bt ao) [some a0,some a1,some a2,some a3] S).bind kFn:=i6 rfl
def eC(ao bb aD aN:Fn):CS:=
 (bu (cP 7 (cCB ao (ae (ah 0) (ae (cC (.int 16)) aE))))
  (bu (cP 8 (cCB ao (ae (ah 0) (ae (cC (.int 4)) aE))))
  (gx (su (aQ (cOp fGt (ah 5) (cC (.int 0)))) (su (aQ (cOp fLt (cCB ky (ae (ah 4) aE)) (cC (.int 12)))) (aQ (cOp fLt (ah 7) (cC (.int 13)))))) (bu (dB (cBM bY (ah 4) (ae (cCB bb (ae (ah 0) (ae (ah 1) (ae (ah 7) (ae (ah 8) aE))))) aE)))
  (cP 5 (cOp qN (ah 5) (cC (.int 1))))) (gx (su (aQ (cOp fGt (ah 5) (cC (.int 0)))) (su (aQ (cOp fLt (cCB ky (ae (ah 4) aE)) (cC (.int 12)))) (cOr (aQ (cOp fEq (ah 7) (cC (.int 13)))) (aQ (cOp fEq (ah 3) (cC (.int 0))))))) (bu (gx (su (aQ (cOp fGt (ah 5) (cC (.int 1)))) (su (aQ (cOp fLt (cCB ky (ae (ah 4) aE)) (cC (.int 11)))) (aQ (cOp fGt (cCB ao (ae (ah 0) (ae (cC (.int 4)) aE))) (cC (.int 0)))))) (bu (dB (cBM bY (ah 4) (ae (fE (ae (cC (.str "leap")) (ae (ah 8) (ae (cC (.int 1)) aE)))) aE)))
  (cP 5 (cOp qN (ah 5) (cC (.int 1))))) dv)
  (bu (dB (cBM bY (ah 4) (ae (fE (ae (cC (.str "wait")) aE)) aE)))
  (cP 5 (cOp qN (ah 5) (cC (.int 1)))))) (gx (su (aQ (cOp fGt (ah 5) (cC (.int 0)))) (aQ (cOp fLt (cCB ky (ae (ah 4) aE)) (cC (.int 12))))) (bu (cP 9 (cCB aD (ae (ah 0) (ae (ah 1) (ae (cCB ao (ae (ah 0) (ae (ah 5) aE))) (ae (cOp qN (ah 3) (cC (.int 1))) aE))))))
  (bu (cP 5 (cOp qN (cOp qN (ah 5) (cC (.int 1))) (cCB aN (ae (ah 9) aE))))
  (bu (cP 10 (cCB aD (ae (ah 0) (ae (ah 1) (ae (cCB ao (ae (ah 0) (ae (cOp iO (ah 5) (cC (.int 1))) aE))) (ae (cOp qN (ah 3) (cC (.int 1))) aE))))))
  (bu (cP 5 (cOp qN (ah 5) (cCB aN (ae (ah 10) aE))))
  (dB (cBM bY (ah 4) (ae (fE (ae (cC (.str "try")) (ae (ah 9) (ae (ah 10) aE)))) aE))))))) dv)))))
def ej(ao bb aD aN:Fn):CS:=
 (bu (cP 4 (pB aE))
  (bu (cP 5 (ah 2))
  (bu (lJ (gY (ae (cCB ao (ae (ah 0) (ae (cOp iO (cCB M5 (ae (cC (.int 12)) (ae (ah 2) aE))) (cC (.int 1))) aE))) aE)) (gNm 6) (eC ao bb aD aN))
  (fB (cCB m9 (ae (ah 4) aE))))))
theorem p9{ao bb aD aN:Fn}{a0 a1 a2 a3:U}{S:Sto}:fnU 11 4 (ej ao bb aD aN) [a0,a1,a2,a3] S=((ej ao bb aD aN) [some a0,some a1,some a2,some a3,none,none,none,none,none,none,none] S).bind kFn:=i6 rfl
def jI:CS:=
 (fB (cOp iO (cOp iO (cSl (ah 0) none (some (ah 1))) (fE (ae (ah 2) aE))) (cSl (ah 0) (some (cOp iO (ah 1) (cC (.int 1)))) none)))
theorem AW{a0 a1 a2:U}{S:Sto}:fnU 3 3 (jI ) [a0,a1,a2] S=((jI ) [some a0,some a1,some a2] S).bind kFn:=i6 rfl
def kq(fuel:Nat):CS:=
 (cP 1 (cOp fIx (ah 1) (cC (.int 2))))
def jK(fuel:Nat):CS:=
 (bu (cP 1 (ah 0))
  (bu (eZ (su (aQ (cOp fGe (cOp fIx (ah 1) (cC (.int 1))) (cCB ky (ae (cOp fIx (ah 1) (cC (.int 0))) aE)))) (aQ (cOp sd (cOp fIx (ah 1) (cC (.int 2))) (cC .non)))) (kq fuel) fuel)
  (fB (ah 1))))
theorem AY{fuel:Nat}{a0:U}{S:Sto}:fnU 2 1 (jK fuel) [a0] S=((jK fuel) [some a0,none] S).bind kFn:=i6 rfl
def eS(ak:Cl):CS:=
 (bu (gx (aQ (cOp fGe (cOp fIx (gD ak 3 (ah 0)) (cC (.int 1))) (cCB ky (ae (cOp fIx (gD ak 3 (ah 0)) (cC (.int 0))) aE)))) (fB (cC .non)) dv)
  (fB (cOp fIx (cOp fIx (gD ak 3 (ah 0)) (cC (.int 0))) (cOp fIx (gD ak 3 (ah 0)) (cC (.int 1))))))
theorem ng{ak:Cl}{a0:U}{S:Sto}:fnU 1 1 (eS ak) [a0] S=((eS ak) [some a0] S).bind kFn:=i6 rfl
def eU(aC:Fn)(ak:Cl):CS:=
 (bu (cP 1 (eX ak aC (ah 0) aE))
  (fB (so (cOp fEq (cOp fIx (ah 1) (cC (.int 0))) (cC (.str "look"))) (cOp KN (cOp fIx (gD ak 2 (ah 0)) (cOp fIx (ah 1) (cC (.int 2)))) (cC .non)))))
theorem nh{aC:Fn}{ak:Cl}{a0:U}{S:Sto}:fnU 2 1 (eU aC ak) [a0] S=((eU aC ak) [some a0,none] S).bind kFn:=i6 rfl
def gu(cu:Fn)(ak:Cl):CS:=
 (jr ak 1 (ah 0) (cCB cu (ae (gD ak 1 (ah 0)) (ae (ah 1) (ae (ah 2) aE)))))
theorem uu{cu:Fn}{ak:Cl}{a0 a1 a2:U}{S:Sto}:fnU 3 3 (gu cu ak) [a0,a1,a2] S=((gu cu ak) [some a0,some a1,some a2] S).bind kFn:=i6 rfl
def cy(ak:Cl):CS:=
 (bu (cP 2 (gD ak 3 (ah 0)))
  (fB (fE (ae (cOp fIx (ah 2) (cC (.int 0))) (ae (cOp iO (cOp iO (cOp fIx (ah 2) (cC (.int 1))) (cC (.int 1))) (ah 1)) (ae (cOp fIx (ah 2) (cC (.int 2))) (ae (cOp fIx (ah 2) (cC (.int 3))) aE)))))))
theorem ko{ak:Cl}{a0 a1:U}{S:Sto}:fnU 3 2 (cy ak) [a0,a1] S=((cy ak) [some a0,some a1,none] S).bind kFn:=i6 rfl
def dc(br aH:Fn)(ak:Cl):CS:=
 (jr ak 3 (ah 0) (cCB br (ae (eX ak aH (ah 0) (ae (ah 1) aE)) aE)))
theorem mi{br aH:Fn}{ak:Cl}{a0 a1:U}{S:Sto}:fnU 2 2 (dc br aH ak) [a0,a1] S=((dc br aH ak) [some a0,some a1] S).bind kFn:=i6 rfl
def gw(bj aC aL:Fn)(ak:Cl):CS:=
 (bu (dB (eX ak bj (ah 0) (ae (cOp fIx (eX ak aC (ah 0) aE) (cC (.int 1))) (ae (ah 1) aE))))
  (dB (eX ak aL (ah 0) (ae (cC (.int 0)) aE))))
theorem uv{bj aC aL:Fn}{ak:Cl}{a0 a1:U}{S:Sto}:fnU 2 2 (gw bj aC aL ak) [a0,a1] S=((gw bj aC aL ak) [some a0,some a1] S).bind kFn:=i6 rfl
def de(br aH:Fn)(ak:Cl):CS:=
 (bu (cP 3 (eX ak aH (ah 0) (ae (cC (.int 0)) aE)))
  (bu (cP 4 (cCB br (ae (fE (ae (ah 2) (ae (cC (.int 0)) (ae (ah 3) (ae (cOp fIx (ah 3) (cC (.int 3))) aE))))) aE)))
  (jr ak 3 (ah 0) (cCB br (ae (fE (ae (ah 1) (ae (cC (.int 0)) (ae (ah 3) (ae (fE (ae (gD ak 1 (ah 0)) (ae (gD ak 2 (ah 0)) (ae (ah 4) aE)))) aE))))) aE)))))
theorem mj{br aH:Fn}{ak:Cl}{a0 a1 a2:U}{S:Sto}:fnU 5 3 (de br aH ak) [a0,a1,a2] S=((de br aH ak) [some a0,some a1,some a2,none,none] S).bind kFn:=i6 rfl
def cf(ak:Cl):CS:=
 (bu (cP 1 (cOp fIx (gD ak 3 (ah 0)) (cC (.int 3))))
  (bu (gx (aQ (cOp KN (ah 1) (cC .non))) (fB (cC (.bl false))) dv)
  (bu (jr ak 1 (ah 0) (cOp fIx (ah 1) (cC (.int 0))))
  (bu (jr ak 2 (ah 0) (cOp fIx (ah 1) (cC (.int 1))))
  (bu (jr ak 3 (ah 0) (cOp fIx (ah 1) (cC (.int 2))))
  (fB (cC (.bl true))))))))
theorem iQ{ak:Cl}{a0:U}{S:Sto}:fnU 2 1 (cf ak) [a0] S=((cf ak) [some a0,none] S).bind kFn:=i6 rfl
def bp(cu aC bK bL bj aL:Fn)(ak:Cl):CS:=
 (bu (cP 1 (eX ak aC (ah 0) aE))
  (bu (cP 2 (cOp fIx (ah 1) (cC (.int 0))))
  (bu (gx (aQ (cOp fEq (ah 2) (cC (.str "wait")))) (fB (eX ak bK (ah 0) aE)) dv)
  (bu (gx (aQ (cOp fEq (ah 2) (cC (.str "try")))) (bu (dB (eX ak bL (ah 0) (ae (cOp fIx (ah 1) (cC (.int 1))) (ae (cOp fIx (ah 1) (cC (.int 2))) aE))))
  (fB (cC (.bl true)))) dv)
  (bu (cP 3 (cC (.int 0)))
  (bu (gx (aQ (cOp fEq (ah 2) (cC (.str "look")))) (dB (eX ak bj (ah 0) (ae (cOp fIx (ah 1) (cC (.int 1))) (ae (cOp fIx (gD ak 2 (ah 0)) (cOp fIx (ah 1) (cC (.int 2)))) aE)))) (gx (aQ (cOp fEq (ah 2) (cC (.str "put")))) (jr ak 2 (ah 0) (cCB cu (ae (gD ak 2 (ah 0)) (ae (cOp fIx (ah 1) (cC (.int 1))) (ae (cOp fIx (gD ak 1 (ah 0)) (cOp fIx (ah 1) (cC (.int 2)))) aE))))) (gx (aQ (cOp fEq (ah 2) (cC (.str "set")))) (dB (eX ak bj (ah 0) (ae (cOp fIx (ah 1) (cC (.int 1))) (ae (cOp fIx (ah 1) (cC (.int 2))) aE)))) (gx (aQ (cOp fEq (ah 2) (cC (.str "plus")))) (dB (eX ak bj (ah 0) (ae (cOp fIx (ah 1) (cC (.int 1))) (ae (cOp sQ (cOp iO (cOp fIx (gD ak 1 (ah 0)) (cOp fIx (ah 1) (cC (.int 1)))) (cOp fIx (gD ak 1 (ah 0)) (cOp fIx (ah 1) (cC (.int 2))))) (gD ak 0 (ah 0))) aE)))) (gx (aQ (cOp fEq (cOp fIx (gD ak 1 (ah 0)) (cOp fIx (ah 1) (cC (.int 1)))) (cC (.int 0)))) (cP 3 (cOp fIx (ah 1) (cC (.int 2)))) dv)))))
  (bu (dB (eX ak aL (ah 0) (ae (ah 3) aE)))
  (fB (cC (.bl true))))))))))
theorem g7{cu aC bK bL bj aL:Fn}{ak:Cl}{a0:U}{S:Sto}:fnU 4 1 (bp cu aC bK bL bj aL ak) [a0] S=((bp cu aC bK bL bj aL ak) [some a0,none,none,none] S).bind kFn:=i6 rfl
def cZ(ak:Cl):CS:=
 (fB (sj (jC (gD ak 2 (ah 0))) (gTp [0,1]) (aQ (cOp sd (ah 1) (cC .non))) (fE (ae (ah 0) (ae (ah 1) aE))) 2 []))
theorem mh{ak:Cl}{a0:U}{S:Sto}:fnU 1 1 (cZ ak) [a0] S=((cZ ak) [some a0] S).bind kFn:=i6 rfl
def gq(br:Fn)(ak:Cl):CS:=
 (bu (jr ak 0 (ah 0) (cOp fIx (ah 1) (cC (.int 1))))
  (bu (jr ak 1 (ah 0) (fE (ae (cC (.int 0)) (ae (cC (.int 0)) (ae (cC (.int 0)) (ae (cC (.int 0)) aE))))))
  (bu (jr ak 2 (ah 0) (cOp AJ (fE (ae (cC .non) aE)) (cOp fIx (ah 1) (cC (.int 0)))))
  (jr ak 3 (ah 0) (cCB br (ae (fE (ae (ah 2) (ae (cC (.int 0)) (ae (cC .non) (ae (cC .non) aE))))) aE))))))
theorem ur{br:Fn}{ak:Cl}{a0 a1 a2:U}{S:Sto}:fnU 3 3 (gq br ak) [a0,a1,a2] S=((gq br ak) [some a0,some a1,some a2] S).bind kFn:=i6 rfl
def bX(aC cH cG bC:Fn)(ak:Cl)(fuel:Nat):CS:=
 (gx (aQ (eX ak cH (ah 0) aE)) (bu (cP 3 (cOp fIx (eX ak aC (ah 0) aE) (cC (.int 2))))
  (bu (hJ (ah 2) (ah 3) (cC (.bl true)))
  (dB (eX ak cG (ah 0) (ae (cOp fIx (ah 1) (ah 3)) aE))))) (gx (BJ (aQ (eX ak bC (ah 0) aE))) (fB (cC (.bl false))) dv))
def dE(aC cH cG bC:Fn)(ak:Cl)(fuel:Nat):CS:=
 (bu (eZ (aQ (cOp sd (eX ak aC (ah 0) aE) (cC .non))) (bX aC cH cG bC ak fuel) fuel)
  (fB (cC (.bl true))))
theorem p8{aC cH cG bC:Fn}{ak:Cl}{fuel:Nat}{a0 a1 a2:U}{S:Sto}:fnU 4 3 (dE aC cH cG bC ak fuel) [a0,a1,a2] S=((dE aC cH cG bC ak fuel) [some a0,some a1,some a2,none] S).bind kFn:=i6 rfl
def fP(aR aJ bh:Fn)(ak:Cl):CS:=
 (bu (cP 3 (cCB (p6 ak bh) (ae (ah 0) (ae (ah 1) aE))))
  (bu (cP 4 qd)
  (bu (gx (BJ (aQ (cCB aR (ae (ah 3) (ae (ah 2) (ae (ah 4) aE)))))) (fB (fE (ae (cCB eM (ae (ah 4) aE)) (ae (pB aE) aE)))) dv)
  (fB (fE (ae (cCB eM (ae (ah 4) aE)) (ae (eX ak aJ (ah 3) aE) aE)))))))
theorem vz{aR aJ bh:Fn}{ak:Cl}{a0 a1 a2:U}{S:Sto}:fnU 5 3 (fP aR aJ bh ak) [a0,a1,a2] S=((fP aR aJ bh ak) [some a0,some a1,some a2,none,none] S).bind kFn:=i6 rfl
def pG(aR aJ bh:Fn)(ak:Cl):CS:=
 (hJ (ah 5) (ah 6) (ah 7))
def ml(aR aJ bh:Fn)(ak:Cl):CS:=
 (bu (cP 3 (cCB (p6 ak bh) (ae (ah 0) (ae (ah 1) aE))))
  (bu (cP 4 qd)
  (bu (gx (BJ (aQ (cCB aR (ae (ah 3) (ae (ah 2) (ae (ah 4) aE)))))) (fB (fE (ae (cC (.str "waits")) (ae (cCB eM (ae (ah 4) aE)) aE)))) dv)
  (bu (cP 5 (cCB yk (ae (ah 2) aE)))
  (bu (lJ (iTp (eX ak aJ (ah 3) aE)) (gTp [6,7]) (pG aR aJ bh ak))
  (fB (fE (ae (cC (.str "done")) (ae (cCB m9 (ae (ah 5) aE)) (ae (gD ak 1 (ah 3)) aE))))))))))
theorem Hx{aR aJ bh:Fn}{ak:Cl}{a0 a1 a2:U}{S:Sto}:fnU 8 3 (ml aR aJ bh ak) [a0,a1,a2] S=((ml aR aJ bh ak) [some a0,some a1,some a2,none,none,none,none,none] S).bind kFn:=i6 rfl
def fR(cL:Fn):CS:=
 (bu (cP 7 (cCB cL (ae (ah 0) (ae (cOp fIx (ah 1) (ah 6)) (ae (ah 4) aE)))))
  (bu (gx (aQ (cOp fEq (cOp fIx (ah 7) (cC (.int 0))) (cC (.str "waits")))) (fB (fE (ae (cC (.str "waits")) (ae (ah 5) (ae (cOp fIx (ah 7) (cC (.int 1))) aE))))) dv)
  (cP 4 (cOp fIx (ah 7) (cC (.int 1))))))
def jT(cL:Fn):CS:=
 (bu (cP 4 (ah 2))
  (bu (lJ (jC (ah 3)) (gTp [5,6]) (fR cL))
  (fB (fE (ae (cC (.str "done")) (ae (ah 4) aE))))))
theorem DM{cL:Fn}{a0 a1 a2 a3:U}{S:Sto}:fnU 8 4 (jT cL) [a0,a1,a2,a3] S=((jT cL) [some a0,some a1,some a2,some a3,none,none,none,none] S).bind kFn:=i6 rfl
def iL(ao:Fn):CS:=
 (dB (cBM bY (ah 3) (ae (cBM qO (ah 2) (ae (cCB ao (ae (ah 0) (ae (cCB ky (ae (ah 2) aE)) aE))) aE)) aE)))
def gk(ao:Fn):CS:=
 (bu (cP 2 (mq (ae (cC (.int 200)) aE)))
  (bu (cP 3 (pB aE))
  (bu (lJ (gY (ae (ah 1) aE)) (gNm 4) (iL ao))
  (fB (ah 3)))))
theorem uq{ao:Fn}{a0 a1:U}{S:Sto}:fnU 5 2 (gk ao) [a0,a1] S=((gk ao) [some a0,some a1,none,none,none] S).bind kFn:=i6 rfl
def bV(ar:Cl):CS:=
 (gx (aQ (cOp (fIn true) (ah 2) (cOp fIx (gD ar 3 (ah 0)) (ah 1)))) (bu (dB (cBM bY (cOp fIx (gD ar 1 (ah 0)) (ah 1)) (ae (fE (ae (ah 2) (ae (ah 3) aE))) aE)))
  (pA (cOp fIx (gD ar 2 (ah 0)) (ah 1)) (ae (ah 2) (ae (ah 3) aE)) (cC (.bl true)))) dv)
theorem lF{ar:Cl}{a0 a1 a2 a3:U}{S:Sto}:fnU 4 4 (bV ar) [a0,a1,a2,a3] S=((bV ar) [some a0,some a1,some a2,some a3] S).bind kFn:=i6 rfl
def et(ar:Cl):CS:=
 (bu (hJ (gD ar 4 (ah 0)) (ah 1) (nK (gD ar 0 (ah 0)) (gNm 0) (aQ (cOp fNe (cOp fIx (gD ar 0 (ah 1)) (ah 0)) (cC (.str "open")))) (ah 0) 1 [0]))
  (bu (hJ (gD ar 0 (ah 0)) (ah 1) (cC (.str "open")))
  (bu (hJ (gD ar 1 (ah 0)) (ah 1) (pB aE))
  (bu (hJ (gD ar 2 (ah 0)) (ah 1) Bl)
  (hJ (gD ar 3 (ah 0)) (ah 1) qd)))))
theorem qb{ar:Cl}{a0 a1:U}{S:Sto}:fnU 2 2 (et ar) [a0,a1] S=((et ar) [some a0,some a1] S).bind kFn:=i6 rfl
def aV(cM bD:Fn)(ar:Cl):CS:=
 (bu (cP 2 (cOp fIx (ah 1) (cC (.int 1))))
  (gx (aQ (cOp fEq (cOp fIx (ah 1) (cC (.int 0))) (cC (.str "begin")))) (dB (eX ar cM (ah 0) (ae (ah 2) aE))) (gx (aQ (cOp fEq (cOp fIx (ah 1) (cC (.int 0))) (cC (.str "look")))) (dB (eX ar bD (ah 0) (ae (ah 2) (ae (cOp fIx (ah 1) (cC (.int 2))) (ae (cOp fIx (ah 1) (cC (.int 3))) aE))))) (gx (aQ (cOp fEq (cOp fIx (ah 1) (cC (.int 0))) (cC (.str "put")))) (hJ (cOp fIx (gD ar 3 (ah 0)) (ah 2)) (cOp fIx (ah 1) (cC (.int 2))) (cOp fIx (ah 1) (cC (.int 3)))) (hJ (gD ar 0 (ah 0)) (ah 2) (cOp fIx (ah 1) (cC (.int 0))))))))
theorem jD{cM bD:Fn}{ar:Cl}{a0 a1:U}{S:Sto}:fnU 3 2 (aV cM bD ar) [a0,a1] S=((aV cM bD ar) [some a0,some a1,none] S).bind kFn:=i6 rfl
def fu(ar:Cl):CS:=
 (bu (jr ar 0 (ah 0) qd)
  (bu (jr ar 1 (ah 0) qd)
  (bu (jr ar 2 (ah 0) qd)
  (bu (jr ar 3 (ah 0) qd)
  (jr ar 4 (ah 0) qd)))))
theorem sg{ar:Cl}{a0:U}{S:Sto}:fnU 1 1 (fu ar) [a0] S=((fu ar) [some a0] S).bind kFn:=i6 rfl
def jg(aK aP:Fn)(ar:Cl):CS:=
 (dB (eX ar aK (ah 1) (ae (ah 2) aE)))
def g8(aK aP:Fn)(ar:Cl):CS:=
 (bu (cP 1 (cCB (p6 ar aP) aE))
  (bu (lJ (iTp (ah 0)) (gNm 2) (jg aK aP ar))
  (fB (ah 1))))
theorem vA{aK aP:Fn}{ar:Cl}{a0:U}{S:Sto}:fnU 3 1 (g8 aK aP ar) [a0] S=((g8 aK aP ar) [some a0,none,none] S).bind kFn:=i6 rfl
def ft(aA:Fn)(ar:Cl):CS:=
 (fB (cOp fIx (gD ar 1 (cCB aA (ae (ah 0) aE))) (ah 1)))
theorem sf{aA:Fn}{ar:Cl}{a0 a1:U}{S:Sto}:fnU 2 2 (ft aA ar) [a0,a1] S=((ft aA ar) [some a0,some a1] S).bind kFn:=i6 rfl
def lL(aA:Fn)(ar:Cl):CS:=
 (dB (cBM fq (ah 2) (ae (iK (iTp (cOp fIx (ah 1) (ah 3))) (gNm 0) (fE (ae (ah 0) (ae (ah 1) aE))) 1 [3]) aE)))
def pz(aA:Fn)(ar:Cl):CS:=
 (bu (cP 1 (gD ar 4 (cCB aA (ae (ah 0) aE))))
  (bu (cP 2 (pB aE))
  (bu (Bk (ah 1) (gNm 3) (lL aA ar))
  (fB (cCB gI (ae (ah 2) aE))))))
theorem Hy{aA:Fn}{ar:Cl}{a0:U}{S:Sto}:fnU 4 1 (pz aA ar) [a0] S=((pz aA ar) [some a0,none,none,none] S).bind kFn:=i6 rfl
def iR:CS:=
 (fB (so (DZ .int (ah 0)) (DY (DZ .bool (ah 0)))))
theorem yo{a0:U}{S:Sto}:fnU 1 1 (iR ) [a0] S=((iR ) [some a0] S).bind kFn:=i6 rfl
def cN(fO:Fn):CS:=
 (fB (so (cCB fO (ae (ah 0) aE)) (uC fLe fLe (ah 1) (ah 0) (ah 2))))
theorem vy{fO:Fn}{a0 a1 a2:U}{S:Sto}:fnU 3 3 (cN fO) [a0,a1,a2] S=((cN fO) [some a0,some a1,some a2] S).bind kFn:=i6 rfl
def aW(ar:Cl):CS:=
 (bu (cP 2 (cOp fIx (ah 1) (cC (.int 1))))
  (bu (gx (aQ (cOp fEq (cOp fIx (ah 1) (cC (.int 0))) (cC (.str "begin")))) (fB (cOp (fIn true) (ah 2) (gD ar 0 (ah 0)))) dv)
  (bu (gx (aQ (cOp fNe (xt (gD ar 0 (ah 0)) (ah 2)) (cC (.str "open")))) (fB (cC (.bl false))) dv)
  (bu (gx (aQ (cOp fEq (cOp fIx (ah 1) (cC (.int 0))) (cC (.str "look")))) (fB (cOp fEq (D0 (cOp fIx (gD ar 3 (ah 0)) (ah 2)) (cOp fIx (ah 1) (cC (.int 2))) (cOp fIx (ah 1) (cC (.int 3)))) (cOp fIx (ah 1) (cC (.int 3))))) dv)
  (fB (cC (.bl true)))))))
theorem pj{ar:Cl}{a0 a1:U}{S:Sto}:fnU 3 2 (aW ar) [a0,a1] S=((aW ar) [some a0,some a1,none] S).bind kFn:=i6 rfl
def bM(dq:Fn):CS:=
 (bu (gx (cOr (BJ (aQ (DZ .tuple (ah 1)))) (cOr (aQ (cOp fLt (cCB ky (ae (ah 1) aE)) (cC (.int 2)))) (BJ (aQ (cCB dq (ae (cOp fIx (ah 1) (cC (.int 1))) (ae (cC (.int 0)) (ae (cC (.int 199)) aE)))))))) (fB (cC (.bl false))) dv)
  (bu (gx (aQ (cOp (ER false) (cOp fIx (ah 1) (cC (.int 0))) (fE (ae (cC (.str "begin")) (ae (cC (.str "done")) (ae (cC (.str "fall")) aE)))))) (fB (cOp fEq (cCB ky (ae (ah 1) aE)) (cC (.int 2)))) dv)
  (bu (gx (su (aQ (cOp (ER false) (cOp fIx (ah 1) (cC (.int 0))) (fE (ae (cC (.str "look")) (ae (cC (.str "put")) aE))))) (aQ (cOp fEq (cCB ky (ae (ah 1) aE)) (cC (.int 4))))) (fB (so (cCB dq (ae (cOp fIx (ah 1) (cC (.int 2))) (ae (cC (.int 0)) (ae (cOp qN (cOp fIx (ah 0) (cC (.int 0))) (cC (.int 1))) aE)))) (cCB dq (ae (cOp fIx (ah 1) (cC (.int 3))) (ae (cC (.int 0)) (ae (cOp qN (cOp fIx (ah 0) (cC (.int 1))) (cC (.int 1))) aE)))))) dv)
  (fB (cC (.bl false))))))
theorem yp{dq:Fn}{a0 a1:U}{S:Sto}:fnU 2 2 (bM dq) [a0,a1] S=((bM dq) [some a0,some a1] S).bind kFn:=i6 rfl
def iU(dZ bF aK aP:Fn)(ar:Cl):CS:=
 (bu (gx (cOr (BJ (aQ (cCB dZ (ae (ah 0) (ae (ah 3) aE))))) (BJ (aQ (eX ar bF (ah 2) (ae (ah 3) aE))))) (fB (cC (.bl false))) dv)
  (dB (eX ar aK (ah 2) (ae (ah 3) aE))))
def iF(dZ bF aK aP:Fn)(ar:Cl):CS:=
 (bu (gx (cOr (BJ (aQ (DZ .list (ah 1)))) (aQ (cOp fGt (cCB ky (ae (ah 1) aE)) (cC (.int 2000))))) (fB (cC (.bl false))) dv)
  (bu (cP 2 (cCB (p6 ar aP) aE))
  (bu (lJ (iTp (ah 1)) (gNm 3) (iU dZ bF aK aP ar))
  (fB (cC (.bl true))))))
theorem DL{dZ bF aK aP:Fn}{ar:Cl}{a0 a1:U}{S:Sto}:fnU 4 2 (iF dZ bF aK aP ar) [a0,a1] S=((iF dZ bF aK aP ar) [some a0,some a1,none,none] S).bind kFn:=i6 rfl
end OQ
namespace OL
open PySem PySem.Spec PyProof.Rows L2 OG OP OQ
def top(i:Nat):Stmt:=PySem.Challenge.pw_oneglance_k14_whole_logs_of_dealings_in.main.body.getD i (.Pass ⟨0,0,0,0⟩)
abbrev fH:Stmt:=top 1
abbrev eD:Stmt:=top 2
abbrev dX:Stmt:=d9 (top 6) 0
abbrev cW:Stmt:=d9 (top 6) 1
abbrev cV:Stmt:=d9 (top 6) 2
abbrev dC:Stmt:=d9 (top 6) 3
abbrev bS:Stmt:=d9 (top 6) 4
abbrev eF:Stmt:=top 7
abbrev ja:Stmt:=top 8
abbrev fJ:Stmt:=top 9
abbrev fK:Stmt:=top 10
abbrev jc:Stmt:=top 11
abbrev dj:Stmt:=top 12
abbrev gR:Stmt:=top 13
abbrev kg:Stmt:=top 14
abbrev eN:Stmt:=d9 (top 16) 0
abbrev eQ:Stmt:=d9 (top 16) 1
abbrev eR:Stmt:=d9 (top 16) 2
abbrev eP:Stmt:=d9 (top 16) 3
abbrev cU:Stmt:=d9 (top 16) 4
abbrev eO:Stmt:=d9 (top 16) 5
abbrev bJ:Stmt:=d9 (top 16) 6
abbrev b7:Stmt:=d9 (top 16) 7
abbrev b8:Stmt:=d9 (top 16) 8
abbrev b6:Stmt:=d9 (top 16) 9
abbrev b5:Stmt:=d9 (top 16) 10
abbrev gQ:Stmt:=top 17
abbrev gS:Stmt:=top 18
abbrev cI:Stmt:=top 19
abbrev kf:Stmt:=top 20
abbrev eE:Stmt:=top 21
abbrev jb:Stmt:=top 23
abbrev fM:Stmt:=top 25
abbrev eI:Stmt:=top 26
abbrev dM:Stmt:=top 27
abbrev dN:Stmt:=top 28
abbrev eJ:Stmt:=top 29
abbrev bI:Stmt:=top 30
abbrev cK:Stmt:=top 31
abbrev dP:Stmt:=top 32
abbrev pS:Stmt:=top 33
section
variable{P:Program}{w:World}{K:PySem.W.Frag}{mg:Str->Option Value}{base:Heap}
theorem mS:aS ["pen","many","at","cell","one","two","three","found"] ["pen","many"] (av eI):=⟨rfl,rfl,rfl,by decide +kernel,rfl,by decide +kernel,by decide +kernel⟩
theorem vn{k:Nat}(d:Def K mg "_law_take" eI ["pen","many"])(B:Blt mg):dU P w K mg base "_law_take" (k+1) ["pen","many"] (fnU 8 2 (fQ )):=
 d.pure mS fun f cdv A outer s H E hr=>by
  have hu:=dh hr
  have nd:=mS.nd
  exact(aw (cQ (bo gU oP (bH hu (af (wpv 0)) (ax ag) (fun _ _=>rfl) (fun _ _=>rfl)) (ax ag) (ba _)) (aw (aU (i:=2) nd rfl (by first|exact Or.inl rfl|exact Or.inr rfl) (bH hu (af (wpv 0)) (ax ag) (fun _ _=>rfl) (fun _ _=>rfl)))
   (aw (dY hu (af (wpv 0)) (ax ag) (fC gF gE (af (wpv 2)) (ax ag)))
   (aw (aU (i:=3) nd rfl (by first|exact Or.inl rfl|exact Or.inr rfl) (ax ag))
   (aw (cQ (bo oQ zV (af (wpv 2)) (cq ki kh rfl B.len PySem.boot_len (ab (bH hu (af (wpv 0)) (ax ag) (fun _ _=>rfl) (fun _ _=>rfl)) ay)) (ba _)) (aB (aU (i:=3) nd rfl (by first|exact Or.inl rfl|exact Or.inr rfl) (bH hu (bH hu (af (wpv 0)) (ax ag) (fun _ _=>rfl) (fun _ _=>rfl)) (af (wpv 2)) (fun _ _=>rfl) (fun _ _=>rfl)))) (aB (cQ (bo u9 GN (cq ki kh rfl B.len PySem.boot_len (ab (bH hu (af (wpv 0)) (ax ag) (fun _ _=>rfl) (fun _ _=>rfl)) ay)) (ax ag) (ba _)) (aB (aU (i:=3) nd rfl (by first|exact Or.inl rfl|exact Or.inr rfl) (fC gF gE (fC mZ tZ (bH hu (bH hu (af (wpv 0)) (ax ag) (fun _ _=>rfl) (fun _ _=>rfl)) (fC mZ tZ (fC kZ tY (af (wpv 2)) (ax ag)) (cq ki kh rfl B.len PySem.boot_len (ab (bH hu (af (wpv 0)) (ax ag) (fun _ _=>rfl) (fun _ _=>rfl)) ay))) (fun _ _=>rfl) (fun _ _=>rfl)) (ax ag)) (fC kZ tY (ax ag) (af (wpv 2)))))) cm)))
   (aw (aU (i:=4) nd rfl (by first|exact Or.inl rfl|exact Or.inr rfl) (fC mZ tZ (fC kZ tY (fC gF gE (fC gF gE (fC mZ tZ (af (wpv 3)) (ax ag)) (fC kZ tY (ax ag) (af (wpv 2)))) (ax ag)) (ax ag)) (ax ag)))
   (aw (aU (i:=5) nd rfl (by first|exact Or.inl rfl|exact Or.inr rfl) (fC mZ tZ (fC gF gE (fC gF gE (fC kZ tY (af (wpv 4)) (af (wpv 4))) (fC kZ tY (ax ag) (af (wpv 2)))) (ax ag)) (ax ag)))
   (aw (aU (i:=6) nd rfl (by first|exact Or.inl rfl|exact Or.inr rfl) (fC mZ tZ (fC gF gE (fC kZ tY (af (wpv 5)) (af (wpv 5))) (af (wpv 4))) (ax ag)))
   (aw (dY hu (af (wpv 0)) (ax ag) (fC gF gE (fC rL GO (fC gF gE (fC kZ tY (af (wpv 5)) (ax ag)) (af (wpv 6))) (ax ag)) (ax ag)))
   (aB (cQ (bo GQ MK (af (wpv 3)) (fC EA J1 (ax ag) (ax ag)) (ba _)) (aB (dY hu (af (wpv 0)) (ax ag) (fC rL GO (af (wpv 3)) (fC EA J1 (ax ag) (ax ag))))) cm)))))))))) cm)
   (aw (aU (i:=7) nd rfl (by first|exact Or.inl rfl|exact Or.inr rfl) (fC mZ tZ (bH hu (af (wpv 0)) (ax ag) (fun _ _=>rfl) (fun _ _=>rfl)) (af (wpv 1))))
   (aw (dY hu (af (wpv 0)) (ax ag) (fC rL GO (bH hu (af (wpv 0)) (ax ag) (fun _ _=>rfl) (fun _ _=>rfl)) (af (wpv 1))))
   (aB (bc (af (wpv 7)))))))
theorem kI:aS ["pen"] ["pen"] (av dM):=⟨rfl,rfl,rfl,by decide +kernel,rfl,by decide +kernel,by decide +kernel⟩
theorem uc{k:Nat}{ao:Fn}(d:Def K mg "_law_world" dM ["pen"])(B:Blt mg)(aF:dU P w K mg base "_law_take" (k) ["pen","many"] ao):dU P w K mg base "_law_world" (k+1) ["pen"] (fnU 1 1 (gh ao)):=
 d.pure kI fun f cdv A outer s H E hr=>by
  have hu:=dh hr
  have nd:=kI.nd
  exact(aB (bc (dH (ab (fC gF gE (ax ag) (aY aF hr rfl (ab (af (wpv 0)) (ab (ax ag) ay)))) (ab (bH hu (ny (ab (ax ag) (ab (ax ag) (ab (ax ag) (ab (ax ag) (ab (fC gF gE (ax ag) (aY aF hr rfl (ab (af (wpv 0)) (ab (ax ag) ay)))) ay)))))) (aY aF hr rfl (ab (af (wpv 0)) (ab (ax ag) ay))) (fun _ _=>rfl) (fun _ _=>rfl)) ay)))))
theorem kJ:aS ["pen","world"] ["pen","world"] (av dN):=⟨rfl,rfl,rfl,by decide +kernel,rfl,by decide +kernel,by decide +kernel⟩
theorem ud{k:Nat}{ao:Fn}(d:Def K mg "_law_state" dN ["pen","world"])(B:Blt mg)(aF:dU P w K mg base "_law_take" (k) ["pen","many"] ao):dU P w K mg base "_law_state" (k+1) ["pen","world"] (fnU 2 2 (gj ao)):=
 d.pure kJ fun f cdv A outer s H E hr=>by
  have hu:=dh hr
  have nd:=kJ.nd
  exact(aB (bc (kW je uZ rfl B.tuple OG.jU (ab (qx (Nc:=["box","pen","world"]) (tn:=["box"]) (capN:=["pen","world"]) (caps:=[0,1]) rfl (kR rfl B.range (ab (bH hu (af (wpv 1)) (ax ag) (fun _ _=>rfl) (fun _ _=>rfl)) ay)) (fun _ _ _=>(fN (bq (i:=0) (show(["box","pen","world"]:List Str).Nodup by decide +kernel) rfl (by first|exact Or.inl rfl|exact Or.inr rfl)))) (fun _ _ _=>(aY aF hr rfl (ab (af (wpv 1)) (ab (bH hu (af (wpv 2)) (ax ag) (fun _ _=>rfl) (fun _ _=>rfl)) ay)))) rfl rfl (by decide +kernel) (by decide +kernel) ⟨rfl,rfl,trivial⟩ rfl (.cons ⟨rfl,rfl,rfl,_,rfl⟩ (.cons ⟨rfl,rfl,rfl,_,rfl⟩ .nil)) rfl rfl) ay))))
theorem mT:aS ["dealing","many","deed"] ["dealing"] (av eJ):=⟨rfl,rfl,rfl,by decide +kernel,rfl,by decide +kernel,by decide +kernel⟩
theorem km{k:Nat}{aN:Fn}(d:Def K mg "_law_size" eJ ["dealing"])(B:Blt mg)(h8:dU P w K mg base "_law_size" (k) ["dealing"] aN):dU P w K mg base "_law_size" (k+1) ["dealing"] (fnU 3 1 (g9 aN)):=
 d.pure mT fun f cdv A outer s H E hr=>by
  have hu:=dh hr
  have nd:=mT.nd
  exact(aw (aU (i:=1) nd rfl (by first|exact Or.inl rfl|exact Or.inr rfl) (ax ag))
   (aw (j2 PassesOwn.never rfl (kQ (af (wpv 0))) (fN (bq (i:=2) nd rfl (by first|exact Or.inl rfl|exact Or.inr rfl))) (aw (aU (i:=1) nd rfl (by first|exact Or.inl rfl|exact Or.inr rfl) (fC gF gE (af (wpv 1)) (ax ag)))
   (aB (cQ (bo gU oP (bH hu (af (wpv 2)) (ax ag) (fun _ _=>rfl) (fun _ _=>rfl)) (cR aZ) (ba _)) (aB (aU (i:=1) nd rfl (by first|exact Or.inl rfl|exact Or.inr rfl) (fC gF gE (fC gF gE (af (wpv 1)) (aY h8 hr rfl (ab (bH hu (af (wpv 2)) (ax ag) (fun _ _=>rfl) (fun _ _=>rfl)) ay))) (aY h8 hr rfl (ab (bH hu (af (wpv 2)) (ax ag) (fun _ _=>rfl) (fun _ _=>rfl)) ay))))) cm))))
   (aB (bc (af (wpv 1))))))
theorem ig:aS ["pen","world","way","hand"] ["pen","world","way","hand"] (av bI):=⟨rfl,rfl,rfl,by decide +kernel,rfl,by decide +kernel,by decide +kernel⟩
theorem lV{k:Nat}{ao:Fn}(d:Def K mg "_law_plain_deed" bI ["pen","world","way","hand"])(B:Blt mg)(aF:dU P w K mg base "_law_take" (k) ["pen","many"] ao):dU P w K mg base "_law_plain_deed" (k+1) ["pen","world","way","hand"] (fnU 4 4 (bt ao)):=
 d.pure ig fun f cdv A outer s H E hr=>by
  have hu:=dh hr
  have nd:=ig.nd
  exact(aw (cQ (bo oQ zV (af (wpv 2)) (ax ag) (ba _)) (aB (bc (dH (ab (cR aZ) (ab (af (wpv 3)) (ab (aY aF hr rfl (ab (af (wpv 0)) (ab (bH hu (af (wpv 1)) (ax ag) (fun _ _=>rfl) (fun _ _=>rfl)) ay))) ay)))))) cm)
   (aw (cQ (bo oQ zV (af (wpv 2)) (ax ag) (ba _)) (aB (bc (dH (ab (cR aZ) (ab (aY aF hr rfl (ab (af (wpv 0)) (ab (bH hu (af (wpv 1)) (ax ag) (fun _ _=>rfl) (fun _ _=>rfl)) ay))) (ab (af (wpv 3)) ay)))))) cm)
   (aw (cQ (bo oQ zV (af (wpv 2)) (ax ag) (ba _)) (aB (bc (dH (ab (cR aZ) (ab (af (wpv 3)) (ab (aY aF hr rfl (ab (af (wpv 0)) (ab (bH hu (af (wpv 1)) (ax ag) (fun _ _=>rfl) (fun _ _=>rfl)) ay))) ay)))))) cm)
   (aw (cQ (bo oQ zV (af (wpv 2)) (ax ag) (ba _)) (aB (bc (dH (ab (cR aZ) (ab (af (wpv 3)) (ab (aY aF hr rfl (ab (af (wpv 0)) (ab (ax ag) ay))) ay)))))) cm)
   (aB (bc (dH (ab (cR aZ) (ab (af (wpv 3)) (ab (fC gF gE (ax ag) (aY aF hr rfl (ab (af (wpv 0)) (ab (bH hu (ny (ab (ax ag) (ab (ax ag) ay))) (aY aF hr rfl (ab (af (wpv 0)) (ab (ax ag) ay))) (fun _ _=>rfl) (fun _ _=>rfl)) ay)))) ay))))))))))
theorem jw:aS ["pen","world","room","tries","deeds","left","k","way","hand","one","other"] ["pen","world","room","tries"] (av cK):=⟨rfl,rfl,rfl,by decide +kernel,rfl,by decide +kernel,by decide +kernel⟩
theorem fW{k:Nat}{ao bb aD aN:Fn}(d:Def K mg "_law_dealing" cK ["pen","world","room","tries"])(B:Blt mg)(aF:dU P w K mg base "_law_take" (k) ["pen","many"] ao)(cg:dU P w K mg base "_law_plain_deed" (k) ["pen","world","way","hand"] bb)(fX:dU P w K mg base "_law_dealing" (k) ["pen","world","room","tries"] aD)(h8:dU P w K mg base "_law_size" (k) ["dealing"] aN):dU P w K mg base "_law_dealing" (k+1) ["pen","world","room","tries"] (fnU 11 4 (ej ao bb aD aN)):=
 d.pure jw fun f cdv A outer s H E hr=>by
  have hu:=dh hr
  have nd:=jw.nd
  exact(aw (aU (i:=4) nd rfl (by first|exact Or.inl rfl|exact Or.inr rfl) (ny ay))
   (aw (aU (i:=5) nd rfl (by first|exact Or.inl rfl|exact Or.inr rfl) (af (wpv 2)))
   (aw (j2 PassesOwn.never rfl (kR rfl B.range (ab (aY aF hr rfl (ab (af (wpv 0)) (ab (fC gF gE (cq (Bf rfl) MI rfl B.min OG.D1 (ab (ax ag) (ab (af (wpv 2)) ay))) (ax ag)) ay))) ay)) (fN (bq (i:=6) nd rfl (by first|exact Or.inl rfl|exact Or.inr rfl))) (aw (aU (i:=7) nd rfl (by first|exact Or.inl rfl|exact Or.inr rfl) (aY aF hr rfl (ab (af (wpv 0)) (ab (ax ag) ay))))
   (aw (aU (i:=8) nd rfl (by first|exact Or.inl rfl|exact Or.inr rfl) (aY aF hr rfl (ab (af (wpv 0)) (ab (ax ag) ay))))
   (aB (cQ (zx (rE (bo u9 GN (af (wpv 5)) (ax ag) (ba _)) (rE (bo oQ zV (cq ki kh rfl B.len PySem.boot_len (ab (af (wpv 4)) ay)) (ax ag) (ba _)) (qy (bo oQ zV (af (wpv 7)) (ax ag) (ba _)))))) (aw (bO (fT (af (wpv 4)) (ab (aY cg hr rfl (ab (af (wpv 0)) (ab (af (wpv 1)) (ab (af (wpv 7)) (ab (af (wpv 8)) ay))))) ay)))
   (aB (aU (i:=5) nd rfl (by first|exact Or.inl rfl|exact Or.inr rfl) (fC j3 pV (af (wpv 5)) (ax ag))))) (aB (cQ (zx (rE (bo u9 GN (af (wpv 5)) (ax ag) (ba _)) (rE (bo oQ zV (cq ki kh rfl B.len PySem.boot_len (ab (af (wpv 4)) ay)) (ax ag) (ba _)) (qy (zx (HP (bo gU oP (af (wpv 7)) (ax ag) (ba _)) (zA (bo gU oP (af (wpv 3)) (ax ag) (ba _))))))))) (aw (cQ (zx (rE (bo u9 GN (af (wpv 5)) (ax ag) (ba _)) (rE (bo oQ zV (cq ki kh rfl B.len PySem.boot_len (ab (af (wpv 4)) ay)) (ax ag) (ba _)) (qy (bo u9 GN (aY aF hr rfl (ab (af (wpv 0)) (ab (ax ag) ay))) (ax ag) (ba _)))))) (aw (bO (fT (af (wpv 4)) (ab (dH (ab (cR aZ) (ab (af (wpv 8)) (ab (ax ag) ay)))) ay)))
   (aB (aU (i:=5) nd rfl (by first|exact Or.inl rfl|exact Or.inr rfl) (fC j3 pV (af (wpv 5)) (ax ag))))) cm)
   (aw (bO (fT (af (wpv 4)) (ab (dH (ab (cR aZ) ay)) ay)))
   (aB (aU (i:=5) nd rfl (by first|exact Or.inl rfl|exact Or.inr rfl) (fC j3 pV (af (wpv 5)) (ax ag)))))) (aB (cQ (zx (rE (bo u9 GN (af (wpv 5)) (ax ag) (ba _)) (qy (bo oQ zV (cq ki kh rfl B.len PySem.boot_len (ab (af (wpv 4)) ay)) (ax ag) (ba _))))) (aw (aU (i:=9) nd rfl (by first|exact Or.inl rfl|exact Or.inr rfl) (aY fX hr rfl (ab (af (wpv 0)) (ab (af (wpv 1)) (ab (aY aF hr rfl (ab (af (wpv 0)) (ab (af (wpv 5)) ay))) (ab (fC j3 pV (af (wpv 3)) (ax ag)) ay))))))
   (aw (aU (i:=5) nd rfl (by first|exact Or.inl rfl|exact Or.inr rfl) (fC j3 pV (fC j3 pV (af (wpv 5)) (ax ag)) (aY h8 hr rfl (ab (af (wpv 9)) ay))))
   (aw (aU (i:=10) nd rfl (by first|exact Or.inl rfl|exact Or.inr rfl) (aY fX hr rfl (ab (af (wpv 0)) (ab (af (wpv 1)) (ab (aY aF hr rfl (ab (af (wpv 0)) (ab (fC gF gE (af (wpv 5)) (ax ag)) ay))) (ab (fC j3 pV (af (wpv 3)) (ax ag)) ay))))))
   (aw (aU (i:=5) nd rfl (by first|exact Or.inl rfl|exact Or.inr rfl) (fC j3 pV (af (wpv 5)) (aY h8 hr rfl (ab (af (wpv 10)) ay))))
   (aB (bO (fT (af (wpv 4)) (ab (dH (ab (cR aZ) (ab (af (wpv 9)) (ab (af (wpv 10)) ay)))) ay)))))))) cm)))))))))
   (aB (bc (kW je uZ rfl B.tuple OG.jU (ab (af (wpv 4)) ay)))))))
theorem kK:aS ["pen","many","left","found","k"] ["pen","many"] (av dP):=⟨rfl,rfl,rfl,by decide +kernel,rfl,by decide +kernel,by decide +kernel⟩
theorem ue{k:Nat}{ao:Fn}(d:Def K mg "_law_names" dP ["pen","many"])(B:Blt mg)(aF:dU P w K mg base "_law_take" (k) ["pen","many"] ao):dU P w K mg base "_law_names" (k+1) ["pen","many"] (fnU 5 2 (gk ao)):=
 d.pure kK fun f cdv A outer s H E hr=>by
  have hu:=dh hr
  have nd:=kK.nd
  exact(aw (aU (i:=2) nd rfl (by first|exact Or.inl rfl|exact Or.inr rfl) (uW rfl rfl B.list rfl B.range (ab (ax ag) ay) rfl rfl))
   (aw (aU (i:=3) nd rfl (by first|exact Or.inl rfl|exact Or.inr rfl) (ny ay))
   (aw (j2 PassesOwn.never rfl (kR rfl B.range (ab (af (wpv 1)) ay)) (fN (bq (i:=4) nd rfl (by first|exact Or.inl rfl|exact Or.inr rfl))) (aB (bO (fT (af (wpv 3)) (ab (Gf (af (wpv 2)) (ab (aY aF hr rfl (ab (af (wpv 0)) (ab (cq ki kh rfl B.len PySem.boot_len (ab (af (wpv 2)) ay)) ay))) ay)) ay)))))
   (aB (bc (af (wpv 3)))))))
theorem oC:aS ["thing"] ["thing"] (av fH):=⟨rfl,rfl,rfl,by decide +kernel,rfl,by decide +kernel,by decide +kernel⟩
theorem yd{k:Nat}(d:Def K mg "is_whole" fH ["thing"])(B:Blt mg):dU P w K mg base "is_whole" (k+1) ["thing"] (fnU 1 1 (iR )):=
 d.pure oC fun f cdv A outer s H E hr=>by
  have hu:=dh hr
  have nd:=oC.nd
  exact(aB (bc (tP (Cr (T:=.int) (by intro z;cases z) (af (wpv 0)) (vX rfl B.int OG.xv) rfl B.isinstance) (zB (Jx (Cr (T:=.bool) (by intro z;cases z) (af (wpv 0)) (vX rfl B.bool OG.Bn) rfl B.isinstance))))))
theorem mP:aS ["thing","least","most"] ["thing","least","most"] (av eD):=⟨rfl,rfl,rfl,by decide +kernel,rfl,by decide +kernel,by decide +kernel⟩
theorem vj{k:Nat}{fO:Fn}(d:Def K mg "is_within" eD ["thing","least","most"])(B:Blt mg)(my:dU P w K mg base "is_whole" (k) ["thing"] fO):dU P w K mg base "is_within" (k+1) ["thing","least","most"] (fnU 3 3 (cN fO)):=
 d.pure mP fun f cdv A outer s H E hr=>by
  have hu:=dh hr
  have nd:=mP.nd
  exact(aB (bc (tP (aY my hr rfl (ab (af (wpv 0)) ay)) (zB (Gj J8 NB J8 NB (af (wpv 1)) (af (wpv 0)) (af (wpv 2)))))))
theorem gP:aS ["self","a","box","number"] ["self","a","box","number"] (av bS):=⟨rfl,rfl,rfl,by decide +kernel,rfl,by decide +kernel,by decide +kernel⟩
theorem lB{k:Nat}{ar:Cl}{fa:Addr}{fd:FuncData}(F:Fun K "note_look" "Course.note_look" bS fa fd)(bi:d6 K fd ["self","a","box","number"] [])(mt:jV K ar.C "note_look" fa)(B:Blt mg)(TCourse:TC K ar ["ends","looks","needs","puts","before"]):iX P w K mg base ar "note_look" (k+1) ["self","a","box","number"] (fnU 4 4 (bV ar)):=
 ⟨⟨fa,fd,mt,F.pure gP fun cdv A outer s H E hr=>(by
  have hu:=dh hr
  have nd:=gP.nd
  exact(aB (cQ (Cq hu (af (wpv 2)) (bH hu (dk TCourse.cl (TCourse.na 3 rfl) (TCourse.ix rfl) (af (wpv 0))) (af (wpv 1)) (fun _ _=>rfl) (fun _ _=>rfl)) (by with_unfolding_all rfl)) (aw (bO (fT (bH hu (dk TCourse.cl (TCourse.na 1 rfl) (TCourse.ix rfl) (af (wpv 0))) (af (wpv 1)) (fun _ _=>rfl) (fun _ _=>rfl)) (ab (dH (ab (af (wpv 2)) (ab (af (wpv 3)) ay))) ay)))
   (aB (zw hu (bH hu (dk TCourse.cl (TCourse.na 2 rfl) (TCourse.ix rfl) (af (wpv 0))) (af (wpv 1)) (fun _ _=>rfl) (fun _ _=>rfl)) (ab (af (wpv 2)) (ab (af (wpv 3)) ay)) (sO fD)))) cm))),bi⟩⟩
theorem jx:aS ["self","a"] ["self","a"] (av dC):=⟨rfl,rfl,rfl,by decide +kernel,rfl,by decide +kernel,by decide +kernel⟩
theorem pZ{k:Nat}{ar:Cl}{fa:Addr}{fd:FuncData}(F:Fun K "enter" "Course.enter" dC fa fd)(bi:d6 K fd ["self","a"] [])(mt:jV K ar.C "enter" fa)(B:Blt mg)(TCourse:TC K ar ["ends","looks","needs","puts","before"]):iX P w K mg base ar "enter" (k+1) ["self","a"] (fnU 2 2 (et ar)):=
 ⟨⟨fa,fd,mt,F.pure jx fun cdv A outer s H E hr=>(by
  have hu:=dh hr
  have nd:=jx.nd
  exact(aw (dY hu (dk TCourse.cl (TCourse.na 4 rfl) (TCourse.ix rfl) (af (wpv 0))) (af (wpv 1)) (zD (Nc:=["one","self"]) (tn:=["one"]) (capN:=["self"]) (caps:=[0]) rfl (dk TCourse.cl (TCourse.na 0 rfl) (TCourse.ix rfl) (af (wpv 0))) (fun _ _ _=>(fN (bq (i:=0) (show(["one","self"]:List Str).Nodup by decide +kernel) rfl (by first|exact Or.inl rfl|exact Or.inr rfl)))) (fun _ _ _=>(bo J7 NA (bH hu (dk TCourse.cl (TCourse.na 0 rfl) (TCourse.ix rfl) (af (wpv 1))) (af (wpv 0)) (fun _ _=>rfl) (fun _ _=>rfl)) (cR aZ) (ba _))) (fun _ _ _=>(af (wpv 0))) rfl rfl (by decide +kernel) (by decide +kernel) ⟨rfl,trivial⟩ rfl (.cons ⟨rfl,rfl,rfl,_,rfl⟩ .nil) rfl rfl))
   (aw (dY hu (dk TCourse.cl (TCourse.na 0 rfl) (TCourse.ix rfl) (af (wpv 0))) (af (wpv 1)) (cR aZ))
   (aw (dY hu (dk TCourse.cl (TCourse.na 1 rfl) (TCourse.ix rfl) (af (wpv 0))) (af (wpv 1)) (ny ay))
   (aw (dY hu (dk TCourse.cl (TCourse.na 2 rfl) (TCourse.ix rfl) (af (wpv 0))) (af (wpv 1)) Gh)
   (aB (dY hu (dk TCourse.cl (TCourse.na 3 rfl) (TCourse.ix rfl) (af (wpv 0))) (af (wpv 1)) mW))))))),bi⟩⟩
theorem jm:aS ["self","event","a"] ["self","event"] (av cV):=⟨rfl,rfl,rfl,by decide +kernel,rfl,by decide +kernel,by decide +kernel⟩
theorem o6{k:Nat}{cM bD:Fn}{ar:Cl}{fa:Addr}{fd:FuncData}(F:Fun K "follow" "Course.follow" cV fa fd)(bi:d6 K fd ["self","event"] [])(mt:jV K ar.C "follow" fa)(B:Blt mg)(TCourse:TC K ar ["ends","looks","needs","puts","before"])(M_Course_enter:iX P w K mg base ar "enter" (k) ["self","a"] cM)(M_Course_note_look:iX P w K mg base ar "note_look" (k) ["self","a","box","number"] bD):iX P w K mg base ar "follow" (k+1) ["self","event"] (fnU 3 2 (aV cM bD ar)):=
 ⟨⟨fa,fd,mt,F.pure jm fun cdv A outer s H E hr=>(by
  have hu:=dh hr
  have nd:=jm.nd
  exact(aw (aU (i:=2) nd rfl (by first|exact Or.inl rfl|exact Or.inr rfl) (bH hu (af (wpv 1)) (ax ag) (fun _ _=>rfl) (fun _ _=>rfl)))
   (aB (cQ (bo gU oP (bH hu (af (wpv 1)) (ax ag) (fun _ _=>rfl) (fun _ _=>rfl)) (cR aZ) (ba _)) (aB (bO (gT TCourse.cl M_Course_enter hr (TCourse.nm (by decide +kernel)) (af (wpv 0)) (ab (af (wpv 2)) ay)))) (aB (cQ (bo gU oP (bH hu (af (wpv 1)) (ax ag) (fun _ _=>rfl) (fun _ _=>rfl)) (cR aZ) (ba _)) (aB (bO (gT TCourse.cl M_Course_note_look hr (TCourse.nm (by decide +kernel)) (af (wpv 0)) (ab (af (wpv 2)) (ab (bH hu (af (wpv 1)) (ax ag) (fun _ _=>rfl) (fun _ _=>rfl)) (ab (bH hu (af (wpv 1)) (ax ag) (fun _ _=>rfl) (fun _ _=>rfl)) ay)))))) (aB (cQ (bo gU oP (bH hu (af (wpv 1)) (ax ag) (fun _ _=>rfl) (fun _ _=>rfl)) (cR aZ) (ba _)) (aB (dY hu (bH hu (dk TCourse.cl (TCourse.na 3 rfl) (TCourse.ix rfl) (af (wpv 0))) (af (wpv 2)) (fun _ _=>rfl) (fun _ _=>rfl)) (bH hu (af (wpv 1)) (ax ag) (fun _ _=>rfl) (fun _ _=>rfl)) (bH hu (af (wpv 1)) (ax ag) (fun _ _=>rfl) (fun _ _=>rfl)))) (aB (dY hu (dk TCourse.cl (TCourse.na 0 rfl) (TCourse.ix rfl) (af (wpv 0))) (af (wpv 2)) (bH hu (af (wpv 1)) (ax ag) (fun _ _=>rfl) (fun _ _=>rfl)))))))))))),bi⟩⟩
theorem jY:aS ["self"] ["self"] (av dX):=⟨rfl,rfl,rfl,by decide +kernel,rfl,by decide +kernel,by decide +kernel⟩
theorem rX{k:Nat}{ar:Cl}{fa:Addr}{fd:FuncData}(F:Fun K "__init__" "Course.__init__" dX fa fd)(bi:d6 K fd ["self"] [])(mk:Mk K ar.C fa)(hmg:mg "Course"=some (.ref ar.C))(B:Blt mg)(TCourse:TC K ar ["ends","looks","needs","puts","before"]):CMk P w K mg base ar "Course" (k+1) ["self"] (fnU 1 1 (fu ar)):=
 ⟨⟨fa,fd,mk,F.pure jY fun cdv A outer s H E hr=>(by
  have hu:=dh hr
  have nd:=jY.nd
  exact(aw (d8 TCourse.cl (TCourse.na 0 rfl) (TCourse.ix rfl) (af (wpv 0)) mW)
   (aw (d8 TCourse.cl (TCourse.na 1 rfl) (TCourse.ix rfl) (af (wpv 0)) mW)
   (aw (d8 TCourse.cl (TCourse.na 2 rfl) (TCourse.ix rfl) (af (wpv 0)) mW)
   (aw (d8 TCourse.cl (TCourse.na 3 rfl) (TCourse.ix rfl) (af (wpv 0)) mW)
   (aB (d8 TCourse.cl (TCourse.na 4 rfl) (TCourse.ix rfl) (af (wpv 0)) mW))))))),bi,hmg⟩,by rw[TCourse.ns];decide +kernel,by rw[TCourse.ns];decide⟩
theorem jn:aS ["self","event","a"] ["self","event"] (av cW):=⟨rfl,rfl,rfl,by decide +kernel,rfl,by decide +kernel,by decide +kernel⟩
theorem o7{k:Nat}{ar:Cl}{fa:Addr}{fd:FuncData}(F:Fun K "allows" "Course.allows" cW fa fd)(bi:d6 K fd ["self","event"] [])(mt:jV K ar.C "allows" fa)(B:Blt mg)(TCourse:TC K ar ["ends","looks","needs","puts","before"]):iX P w K mg base ar "allows" (k+1) ["self","event"] (fnU 3 2 (aW ar)):=
 ⟨⟨fa,fd,mt,F.pure jn fun cdv A outer s H E hr=>(by
  have hu:=dh hr
  have nd:=jn.nd
  exact(aw (aU (i:=2) nd rfl (by first|exact Or.inl rfl|exact Or.inr rfl) (bH hu (af (wpv 1)) (ax ag) (fun _ _=>rfl) (fun _ _=>rfl)))
   (aw (cQ (bo gU oP (bH hu (af (wpv 1)) (ax ag) (fun _ _=>rfl) (fun _ _=>rfl)) (cR aZ) (ba _)) (aB (bc (Gg hu (af (wpv 2)) (dk TCourse.cl (TCourse.na 0 rfl) (TCourse.ix rfl) (af (wpv 0))) (by with_unfolding_all rfl)))) cm)
   (aw (cQ (bo J7 NA (Gi hu (dk TCourse.cl (TCourse.na 0 rfl) (TCourse.ix rfl) (af (wpv 0))) (af (wpv 2)) ⟨rfl,rfl,rfl,rfl⟩) (cR aZ) (ba _)) (aB (bc (sO fD))) cm)
   (aw (cQ (bo gU oP (bH hu (af (wpv 1)) (ax ag) (fun _ _=>rfl) (fun _ _=>rfl)) (cR aZ) (ba _)) (aB (bc (uX gU oP (Jy hu (bH hu (dk TCourse.cl (TCourse.na 3 rfl) (TCourse.ix rfl) (af (wpv 0))) (af (wpv 2)) (fun _ _=>rfl) (fun _ _=>rfl)) (bH hu (af (wpv 1)) (ax ag) (fun _ _=>rfl) (fun _ _=>rfl)) (bH hu (af (wpv 1)) (ax ag) (fun _ _=>rfl) (fun _ _=>rfl)) ⟨rfl,rfl,rfl,rfl⟩) (bH hu (af (wpv 1)) (ax ag) (fun _ _=>rfl) (fun _ _=>rfl)) (ba _)))) cm)
   (aB (bc (sO fD)))))))),bi⟩⟩
theorem oE:aS ["world","thing"] ["world","thing"] (av fJ):=⟨rfl,rfl,rfl,by decide +kernel,rfl,by decide +kernel,by decide +kernel⟩
theorem ye{k:Nat}{dq:Fn}(d:Def K mg "is_event" fJ ["world","thing"])(B:Blt mg)(C_LAST_ATTEMPT:∃t,mg "LAST_ATTEMPT"=some (.int (199) t))(hU:dU P w K mg base "is_within" (k) ["thing","least","most"] dq):dU P w K mg base "is_event" (k+1) ["world","thing"] (fnU 2 2 (bM dq)):=
 d.pure oE fun f cdv A outer s H E hr=>by
  have hu:=dh hr
  have nd:=oE.nd
  exact(aw (cQ (zx (HP (mV (kS (Cr (T:=.tuple) (by intro z;cases z) (af (wpv 1)) (vX rfl B.tuple OG.jU) rfl B.isinstance))) (HP (bo oQ zV (cq ki kh rfl B.len PySem.boot_len (ab (af (wpv 1)) ay)) (ax ag) (ba _)) (zA (mV (kS (aY hU hr rfl (ab (bH hu (af (wpv 1)) (ax ag) (fun _ _=>rfl) (fun _ _=>rfl)) (ab (ax ag) (ab (ax (vY rfl C_LAST_ATTEMPT)) ay)))))))))) (aB (bc (sO fD))) cm)
   (aw (cQ (bo (ED hr.units) J5 (bH hu (af (wpv 1)) (ax ag) (fun _ _=>rfl) (fun _ _=>rfl)) (dH (ab (cR aZ) (ab (cR aZ) (ab (cR aZ) ay)))) (by with_unfolding_all rfl)) (aB (bc (uX gU oP (cq ki kh rfl B.len PySem.boot_len (ab (af (wpv 1)) ay)) (ax ag) (ba _)))) cm)
   (aw (cQ (zx (rE (bo (ED hr.units) J5 (bH hu (af (wpv 1)) (ax ag) (fun _ _=>rfl) (fun _ _=>rfl)) (dH (ab (cR aZ) (ab (cR aZ) ay))) (by with_unfolding_all rfl)) (qy (bo gU oP (cq ki kh rfl B.len PySem.boot_len (ab (af (wpv 1)) ay)) (ax ag) (ba _))))) (aB (bc (tP (aY hU hr rfl (ab (bH hu (af (wpv 1)) (ax ag) (fun _ _=>rfl) (fun _ _=>rfl)) (ab (ax ag) (ab (fC j3 pV (bH hu (af (wpv 0)) (ax ag) (fun _ _=>rfl) (fun _ _=>rfl)) (ax ag)) ay)))) (zB (aY hU hr rfl (ab (bH hu (af (wpv 1)) (ax ag) (fun _ _=>rfl) (fun _ _=>rfl)) (ab (ax ag) (ab (fC j3 pV (bH hu (af (wpv 0)) (ax ag) (fun _ _=>rfl) (fun _ _=>rfl)) (ax ag)) ay)))))))) cm)
   (aB (bc (sO fD))))))
theorem tJ:aS ["world","thing","course","event"] ["world","thing"] (av ja):=⟨rfl,rfl,rfl,by decide +kernel,rfl,by decide +kernel,by decide +kernel⟩
theorem Dv{k:Nat}{dZ bF aK aP:Fn}{ar:Cl}(d:Def K mg "is_log" ja ["world","thing"])(B:Blt mg)(C_MOST_EVENTS:∃t,mg "MOST_EVENTS"=some (.int (2000) t))(TCourse:TC K ar ["ends","looks","needs","puts","before"])(mz:dU P w K mg base "is_event" (k+1) ["world","thing"] dZ)(M_Course_allows:iX P w K mg base ar "allows" (k+1) ["self","event"] bF)(M_Course_follow:iX P w K mg base ar "follow" (k+1) ["self","event"] aK)(M_Course:CMk P w K mg base ar "Course" k ["self"] aP):dU P w K mg base "is_log" (k+1+1) ["world","thing"] (fnU 4 2 (iF dZ bF aK aP ar)):=
 d.pure tJ fun f cdv A outer s H E hr=>by
  have hu:=dh hr
  have nd:=tJ.nd
  exact(aw (cQ (zx (HP (mV (kS (Cr (T:=.list) (by intro z;cases z) (af (wpv 1)) (vX rfl B.list OG.lK) rfl B.isinstance))) (zA (bo u9 GN (cq ki kh rfl B.len PySem.boot_len (ab (af (wpv 1)) ay)) (ax (vY rfl C_MOST_EVENTS)) (ba _))))) (aB (bc (sO fD))) cm)
   (aw (aU (i:=2) nd rfl (by first|exact Or.inl rfl|exact Or.inr rfl) (zC M_Course hr rfl))
   (aw (j2 PassesOwn.never rfl (kQ (af (wpv 1))) (fN (bq (i:=3) nd rfl (by first|exact Or.inl rfl|exact Or.inr rfl))) (aw (cQ (zx (HP (mV (kS (aY mz hr rfl (ab (af (wpv 0)) (ab (af (wpv 3)) ay))))) (zA (mV (kS (gT TCourse.cl M_Course_allows hr (TCourse.nm (by decide +kernel)) (af (wpv 2)) (ab (af (wpv 3)) ay))))))) (aB (bc (sO fD))) cm)
   (aB (bO (gT TCourse.cl M_Course_follow hr (TCourse.nm (by decide +kernel)) (af (wpv 2)) (ab (af (wpv 3)) ay))))))
   (aB (bc (sO fD))))))
theorem mR:aS ["log","course","event"] ["log"] (av eF):=⟨rfl,rfl,rfl,by decide +kernel,rfl,by decide +kernel,by decide +kernel⟩
theorem vm{k:Nat}{aK aP:Fn}{ar:Cl}(d:Def K mg "course_of" eF ["log"])(B:Blt mg)(TCourse:TC K ar ["ends","looks","needs","puts","before"])(M_Course_follow:iX P w K mg base ar "follow" (k+1) ["self","event"] aK)(M_Course:CMk P w K mg base ar "Course" k ["self"] aP):dU P w K mg base "course_of" (k+1+1) ["log"] (fnU 3 1 (g8 aK aP ar)):=
 d.pure mR fun f cdv A outer s H E hr=>by
  have hu:=dh hr
  have nd:=mR.nd
  exact(aw (aU (i:=1) nd rfl (by first|exact Or.inl rfl|exact Or.inr rfl) (zC M_Course hr rfl))
   (aw (j2 PassesOwn.never rfl (kQ (af (wpv 0))) (fN (bq (i:=2) nd rfl (by first|exact Or.inl rfl|exact Or.inr rfl))) (aB (bO (gT TCourse.cl M_Course_follow hr (TCourse.nm (by decide +kernel)) (af (wpv 1)) (ab (af (wpv 2)) ay)))))
   (aB (bc (af (wpv 1))))))
theorem oF:aS ["log"] ["log"] (av fK):=⟨rfl,rfl,rfl,by decide +kernel,rfl,by decide +kernel,by decide +kernel⟩
def iS(aA:Fn)(ar:Cl):CS:=
 (fB (cCB eM (ae (gD ar 0 (cCB aA (ae (ah 0) aE))) aE)))
theorem yq{aA:Fn}{ar:Cl}{a0:U}{S:Sto}:fnU 1 1 (iS aA ar) [a0] S=((iS aA ar) [some a0] S).bind kFn:=i6 rfl
theorem yf{k:Nat}{aA:Fn}{ar:Cl}(d:Def K mg "attempts" fK ["log"])(B:Blt mg)(TCourse:TC K ar ["ends","looks","needs","puts","before"])(bz:dU P w K mg base "course_of" (k) ["log"] aA):dU P w K mg base "attempts" (k+1) ["log"] (fnU 1 1 (iS aA ar)):=
 d.pure oF fun f cdv A outer s H E hr=>by
  have hu:=dh hr
  have nd:=oF.nd
  exact(aB (bc (cq (lj rfl) kY rfl B.sorted OG.dR (ab (dk TCourse.cl (TCourse.na 0 rfl) (TCourse.ix rfl) (aY bz hr rfl (ab (af (wpv 0)) ay))) ay))))
theorem tL:aS ["log","a"] ["log","a"] (av jc):=⟨rfl,rfl,rfl,by decide +kernel,rfl,by decide +kernel,by decide +kernel⟩
def lI(aA:Fn)(ar:Cl):CS:=
 (fB (cOp fIx (gD ar 0 (cCB aA (ae (ah 0) aE))) (ah 1)))
theorem DN{aA:Fn}{ar:Cl}{a0 a1:U}{S:Sto}:fnU 2 2 (lI aA ar) [a0,a1] S=((lI aA ar) [some a0,some a1] S).bind kFn:=i6 rfl
theorem Dx{k:Nat}{aA:Fn}{ar:Cl}(d:Def K mg "end_of" jc ["log","a"])(B:Blt mg)(TCourse:TC K ar ["ends","looks","needs","puts","before"])(bz:dU P w K mg base "course_of" (k) ["log"] aA):dU P w K mg base "end_of" (k+1) ["log","a"] (fnU 2 2 (lI aA ar)):=
 d.pure tL fun f cdv A outer s H E hr=>by
  have hu:=dh hr
  have nd:=tL.nd
  exact(aB (bc (bH hu (dk TCourse.cl (TCourse.na 0 rfl) (TCourse.ix rfl) (aY bz hr rfl (ab (af (wpv 0)) ay))) (af (wpv 1)) (fun _ _=>rfl) (fun _ _=>rfl))))
theorem jX:aS ["log","a"] ["log","a"] (av dj):=⟨rfl,rfl,rfl,by decide +kernel,rfl,by decide +kernel,by decide +kernel⟩
theorem rW{k:Nat}{aA:Fn}{ar:Cl}(d:Def K mg "outer_looks" dj ["log","a"])(B:Blt mg)(TCourse:TC K ar ["ends","looks","needs","puts","before"])(bz:dU P w K mg base "course_of" (k) ["log"] aA):dU P w K mg base "outer_looks" (k+1) ["log","a"] (fnU 2 2 (ft aA ar)):=
 d.pure jX fun f cdv A outer s H E hr=>by
  have hu:=dh hr
  have nd:=jX.nd
  exact(aB (bc (bH hu (dk TCourse.cl (TCourse.na 1 rfl) (TCourse.ix rfl) (aY bz hr rfl (ab (af (wpv 0)) ay))) (af (wpv 1)) (fun _ _=>rfl) (fun _ _=>rfl))))
theorem qv:aS ["log","a"] ["log","a"] (av gR):=⟨rfl,rfl,rfl,by decide +kernel,rfl,by decide +kernel,by decide +kernel⟩
def jJ(aA:Fn)(ar:Cl):CS:=
 (fB (nJ (cOp fIx (gD ar 3 (cCB aA (ae (ah 0) aE))) (ah 1))))
theorem AX{aA:Fn}{ar:Cl}{a0 a1:U}{S:Sto}:fnU 2 2 (jJ aA ar) [a0,a1] S=((jJ aA ar) [some a0,some a1] S).bind kFn:=i6 rfl
theorem Az{k:Nat}{aA:Fn}{ar:Cl}(d:Def K mg "puts_of" gR ["log","a"])(B:Blt mg)(TCourse:TC K ar ["ends","looks","needs","puts","before"])(bz:dU P w K mg base "course_of" (k) ["log"] aA):dU P w K mg base "puts_of" (k+1) ["log","a"] (fnU 2 2 (jJ aA ar)):=
 d.pure qv fun f cdv A outer s H E hr=>by
  have hu:=dh hr
  have nd:=qv.nd
  exact(aB (bc (zy rfl rfl B.sorted OG.dR (bH hu (dk TCourse.cl (TCourse.na 3 rfl) (TCourse.ix rfl) (aY bz hr rfl (ab (af (wpv 0)) ay))) (af (wpv 1)) (fun _ _=>rfl) (fun _ _=>rfl)))))
theorem wm:aS ["log","before","pairs","other"] ["log"] (av kg):=⟨rfl,rfl,rfl,by decide +kernel,rfl,by decide +kernel,by decide +kernel⟩
theorem Hm{k:Nat}{aA:Fn}{ar:Cl}(d:Def K mg "ahead" kg ["log"])(B:Blt mg)(TCourse:TC K ar ["ends","looks","needs","puts","before"])(bz:dU P w K mg base "course_of" (k) ["log"] aA):dU P w K mg base "ahead" (k+1) ["log"] (fnU 4 1 (pz aA ar)):=
 d.pure wm fun f cdv A outer s H E hr=>by
  have hu:=dh hr
  have nd:=wm.nd
  exact(aw (aU (i:=1) nd rfl (by first|exact Or.inl rfl|exact Or.inr rfl) (dk TCourse.cl (TCourse.na 4 rfl) (TCourse.ix rfl) (aY bz hr rfl (ab (af (wpv 0)) ay))))
   (aw (aU (i:=2) nd rfl (by first|exact Or.inl rfl|exact Or.inr rfl) (ny ay))
   (aw (Ge PassesOwn.never rfl (af (wpv 1)) (fN (bq (i:=3) nd rfl (by first|exact Or.inl rfl|exact Or.inr rfl))) (aB (bO (nG (af (wpv 2)) (ab (qx (Nc:=["one","other"]) (tn:=["one"]) (capN:=["other"]) (caps:=[3]) rfl (kQ (bH hu (af (wpv 1)) (af (wpv 3)) (fun _ _=>rfl) (fun _ _=>rfl))) (fun _ _ _=>(fN (bq (i:=0) (show(["one","other"]:List Str).Nodup by decide +kernel) rfl (by first|exact Or.inl rfl|exact Or.inr rfl)))) (fun _ _ _=>(dH (ab (af (wpv 0)) (ab (af (wpv 1)) ay)))) rfl rfl (by decide +kernel) (by decide +kernel) ⟨rfl,trivial⟩ rfl (.cons ⟨rfl,rfl,rfl,_,rfl⟩ .nil) rfl rfl) ay)))))
   (aB (bc (cq t4 tX rfl B.sorted OG.dR (ab (af (wpv 2)) ay)))))))
theorem qu:aS ["row","place","value"] ["row","place","value"] (av gQ):=⟨rfl,rfl,rfl,by decide +kernel,rfl,by decide +kernel,by decide +kernel⟩
theorem Ay{k:Nat}(d:Def K mg "with_at" gQ ["row","place","value"])(B:Blt mg):dU P w K mg base "with_at" (k+1) ["row","place","value"] (fnU 3 3 (jI )):=
 d.pure qu fun f cdv A outer s H E hr=>by
  have hu:=dh hr
  have nd:=qu.nd
  exact(aB (bc (fC gF gE (fC gF gE (My (af (wpv 0)) uV (uU (af (wpv 1)))) (dH (ab (af (wpv 2)) ay))) (My (af (wpv 0)) (uU (fC gF gE (af (wpv 1)) (ax ag))) uV))))
theorem qw:aS ["part","reached"] ["part"] (av gS):=⟨rfl,rfl,rfl,by decide +kernel,rfl,by decide +kernel,by decide +kernel⟩
theorem AA{k:Nat}{fuel:Nat}(d:Def K mg "onwards" gS ["part"])(B:Blt mg):dU P w K mg base "onwards" (k+1) ["part"] (fnU 2 1 (jK fuel)):=
 d.pure qw fun f cdv A outer s H E hr=>by
  have hu:=dh hr
  have nd:=qw.nd
  exact(aw (aU (i:=1) nd rfl (by first|exact Or.inl rfl|exact Or.inr rfl) (af (wpv 0)))
   (aw (wy fuel PassesOwn.never (zx (rE (bo GQ MK (bH hu (af (wpv 1)) (ax ag) (fun _ _=>rfl) (fun _ _=>rfl)) (cq ki kh rfl B.len PySem.boot_len (ab (bH hu (af (wpv 1)) (ax ag) (fun _ _=>rfl) (fun _ _=>rfl)) ay)) (ba _)) (qy (bo u6 zU (bH hu (af (wpv 1)) (ax ag) (fun _ _=>rfl) (fun _ _=>rfl)) (rD i7) (ba _))))) (aB (aU (i:=1) nd rfl (by first|exact Or.inl rfl|exact Or.inr rfl) (bH hu (af (wpv 1)) (ax ag) (fun _ _=>rfl) (fun _ _=>rfl)))))
   (aB (bc (af (wpv 1))))))
theorem kO:aS ["self"] ["self"] (av eQ):=⟨rfl,rfl,rfl,by decide +kernel,rfl,by decide +kernel,by decide +kernel⟩
theorem ui{k:Nat}{ak:Cl}{fa:Addr}{fd:FuncData}(F:Fun K "deed" "Doing.deed" eQ fa fd)(bi:d6 K fd ["self"] [])(mt:jV K ak.C "deed" fa)(B:Blt mg)(TDoing:TC K ak ["wheel","held","puts","part"]):iX P w K mg base ak "deed" (k+1) ["self"] (fnU 1 1 (eS ak)):=
 ⟨⟨fa,fd,mt,F.pure kO fun cdv A outer s H E hr=>(by
  have hu:=dh hr
  have nd:=kO.nd
  exact(aw (cQ (bo GQ MK (bH hu (dk TDoing.cl (TDoing.na 3 rfl) (TDoing.ix rfl) (af (wpv 0))) (ax ag) (fun _ _=>rfl) (fun _ _=>rfl)) (cq ki kh rfl B.len PySem.boot_len (ab (bH hu (dk TDoing.cl (TDoing.na 3 rfl) (TDoing.ix rfl) (af (wpv 0))) (ax ag) (fun _ _=>rfl) (fun _ _=>rfl)) ay)) (ba _)) (aB (bc (rD i7))) cm)
   (aB (bc (bH hu (bH hu (dk TDoing.cl (TDoing.na 3 rfl) (TDoing.ix rfl) (af (wpv 0))) (ax ag) (fun _ _=>rfl) (fun _ _=>rfl)) (bH hu (dk TDoing.cl (TDoing.na 3 rfl) (TDoing.ix rfl) (af (wpv 0))) (ax ag) (fun _ _=>rfl) (fun _ _=>rfl)) (fun _ _=>rfl) (fun _ _=>rfl)))))),bi⟩⟩
theorem kP:aS ["self","deed"] ["self"] (av eR):=⟨rfl,rfl,rfl,by decide +kernel,rfl,by decide +kernel,by decide +kernel⟩
theorem uj{k:Nat}{aC:Fn}{ak:Cl}{fa:Addr}{fd:FuncData}(F:Fun K "asks" "Doing.asks" eR fa fd)(bi:d6 K fd ["self"] [])(mt:jV K ak.C "asks" fa)(B:Blt mg)(TDoing:TC K ak ["wheel","held","puts","part"])(M_Doing_deed:iX P w K mg base ak "deed" (k) ["self"] aC):iX P w K mg base ak "asks" (k+1) ["self"] (fnU 2 1 (eU aC ak)):=
 ⟨⟨fa,fd,mt,F.pure kP fun cdv A outer s H E hr=>(by
  have hu:=dh hr
  have nd:=kP.nd
  exact(aw (aU (i:=1) nd rfl (by first|exact Or.inl rfl|exact Or.inr rfl) (iJ TDoing.cl M_Doing_deed hr (TDoing.nm (by decide +kernel)) (af (wpv 0))))
   (aB (bc (tP (uX gU oP (bH hu (af (wpv 1)) (ax ag) (fun _ _=>rfl) (fun _ _=>rfl)) (cR aZ) (ba _)) (zB (uX EC J4 (bH hu (dk TDoing.cl (TDoing.na 2 rfl) (TDoing.ix rfl) (af (wpv 0))) (bH hu (af (wpv 1)) (ax ag) (fun _ _=>rfl) (fun _ _=>rfl)) (fun _ _=>rfl) (fun _ _=>rfl)) (rD i7) (ba _)))))))),bi⟩⟩
theorem kM:aS ["self","hand","number"] ["self","hand","number"] (av eO):=⟨rfl,rfl,rfl,by decide +kernel,rfl,by decide +kernel,by decide +kernel⟩
theorem ug{k:Nat}{cu:Fn}{ak:Cl}{fa:Addr}{fd:FuncData}(F:Fun K "hold" "Doing.hold" eO fa fd)(bi:d6 K fd ["self","hand","number"] [])(mt:jV K ak.C "hold" fa)(B:Blt mg)(TDoing:TC K ak ["wheel","held","puts","part"])(iY:dU P w K mg base "with_at" (k) ["row","place","value"] cu):iX P w K mg base ak "hold" (k+1) ["self","hand","number"] (fnU 3 3 (gu cu ak)):=
 ⟨⟨fa,fd,mt,F.pure kM fun cdv A outer s H E hr=>(by
  have hu:=dh hr
  have nd:=kM.nd
  exact(aB (d8 TDoing.cl (TDoing.na 1 rfl) (TDoing.ix rfl) (af (wpv 0)) (aY iY hr rfl (ab (dk TDoing.cl (TDoing.na 1 rfl) (TDoing.ix rfl) (af (wpv 0))) (ab (af (wpv 1)) (ab (af (wpv 2)) ay))))))),bi⟩⟩
theorem gG:aS ["self","left_out","part"] ["self","left_out"] (av bJ):=⟨rfl,rfl,rfl,by decide +kernel,rfl,by decide +kernel,by decide +kernel⟩
theorem kn{k:Nat}{ak:Cl}{fa:Addr}{fd:FuncData}(F:Fun K "part_behind" "Doing.part_behind" bJ fa fd)(bi:d6 K fd ["self","left_out"] [])(mt:jV K ak.C "part_behind" fa)(B:Blt mg)(TDoing:TC K ak ["wheel","held","puts","part"]):iX P w K mg base ak "part_behind" (k+1) ["self","left_out"] (fnU 3 2 (cy ak)):=
 ⟨⟨fa,fd,mt,F.pure gG fun cdv A outer s H E hr=>(by
  have hu:=dh hr
  have nd:=gG.nd
  exact(aw (aU (i:=2) nd rfl (by first|exact Or.inl rfl|exact Or.inr rfl) (dk TDoing.cl (TDoing.na 3 rfl) (TDoing.ix rfl) (af (wpv 0))))
   (aB (bc (dH (ab (bH hu (af (wpv 2)) (ax ag) (fun _ _=>rfl) (fun _ _=>rfl)) (ab (fC gF gE (fC gF gE (bH hu (af (wpv 2)) (ax ag) (fun _ _=>rfl) (fun _ _=>rfl)) (ax ag)) (af (wpv 1))) (ab (bH hu (af (wpv 2)) (ax ag) (fun _ _=>rfl) (fun _ _=>rfl)) (ab (bH hu (af (wpv 2)) (ax ag) (fun _ _=>rfl) (fun _ _=>rfl)) ay))))))))),bi⟩⟩
theorem iC:aS ["self","left_out"] ["self","left_out"] (av b7):=⟨rfl,rfl,rfl,by decide +kernel,rfl,by decide +kernel,by decide +kernel⟩
theorem lZ{k:Nat}{br aH:Fn}{ak:Cl}{fa:Addr}{fd:FuncData}(F:Fun K "go_behind" "Doing.go_behind" b7 fa fd)(bi:d6 K fd ["self","left_out"] [])(mt:jV K ak.C "go_behind" fa)(B:Blt mg)(TDoing:TC K ak ["wheel","held","puts","part"])(eA:dU P w K mg base "onwards" (k) ["part"] br)(M_Doing_part_behind:iX P w K mg base ak "part_behind" (k) ["self","left_out"] aH):iX P w K mg base ak "go_behind" (k+1) ["self","left_out"] (fnU 2 2 (dc br aH ak)):=
 ⟨⟨fa,fd,mt,F.pure iC fun cdv A outer s H E hr=>(by
  have hu:=dh hr
  have nd:=iC.nd
  exact(aB (d8 TDoing.cl (TDoing.na 3 rfl) (TDoing.ix rfl) (af (wpv 0)) (aY eA hr rfl (ab (gT TDoing.cl M_Doing_part_behind hr (TDoing.nm (by decide +kernel)) (af (wpv 0)) (ab (af (wpv 1)) ay)) ay))))),bi⟩⟩
theorem kN:aS ["self","number"] ["self","number"] (av eP):=⟨rfl,rfl,rfl,by decide +kernel,rfl,by decide +kernel,by decide +kernel⟩
theorem uh{k:Nat}{bj aC aL:Fn}{ak:Cl}{fa:Addr}{fd:FuncData}(F:Fun K "hear" "Doing.hear" eP fa fd)(bi:d6 K fd ["self","number"] [])(mt:jV K ak.C "hear" fa)(B:Blt mg)(TDoing:TC K ak ["wheel","held","puts","part"])(M_Doing_hold:iX P w K mg base ak "hold" (k) ["self","hand","number"] bj)(M_Doing_deed:iX P w K mg base ak "deed" (k) ["self"] aC)(M_Doing_go_behind:iX P w K mg base ak "go_behind" (k) ["self","left_out"] aL):iX P w K mg base ak "hear" (k+1) ["self","number"] (fnU 2 2 (gw bj aC aL ak)):=
 ⟨⟨fa,fd,mt,F.pure kN fun cdv A outer s H E hr=>(by
  have hu:=dh hr
  have nd:=kN.nd
  exact(aw (bO (gT TDoing.cl M_Doing_hold hr (TDoing.nm (by decide +kernel)) (af (wpv 0)) (ab (bH hu (iJ TDoing.cl M_Doing_deed hr (TDoing.nm (by decide +kernel)) (af (wpv 0))) (ax ag) (fun _ _=>rfl) (fun _ _=>rfl)) (ab (af (wpv 1)) ay))))
   (aB (bO (gT TDoing.cl M_Doing_go_behind hr (TDoing.nm (by decide +kernel)) (af (wpv 0)) (ab (ax ag) ay)))))),bi⟩⟩
theorem iD:aS ["self","one","other","behind","instead"] ["self","one","other"] (av b8):=⟨rfl,rfl,rfl,by decide +kernel,rfl,by decide +kernel,by decide +kernel⟩
theorem ma{k:Nat}{br aH:Fn}{ak:Cl}{fa:Addr}{fd:FuncData}(F:Fun K "enter_try" "Doing.enter_try" b8 fa fd)(bi:d6 K fd ["self","one","other"] [])(mt:jV K ak.C "enter_try" fa)(B:Blt mg)(TDoing:TC K ak ["wheel","held","puts","part"])(eA:dU P w K mg base "onwards" (k) ["part"] br)(M_Doing_part_behind:iX P w K mg base ak "part_behind" (k) ["self","left_out"] aH):iX P w K mg base ak "enter_try" (k+1) ["self","one","other"] (fnU 5 3 (de br aH ak)):=
 ⟨⟨fa,fd,mt,F.pure iD fun cdv A outer s H E hr=>(by
  have hu:=dh hr
  have nd:=iD.nd
  exact(aw (aU (i:=3) nd rfl (by first|exact Or.inl rfl|exact Or.inr rfl) (gT TDoing.cl M_Doing_part_behind hr (TDoing.nm (by decide +kernel)) (af (wpv 0)) (ab (ax ag) ay)))
   (aw (aU (i:=4) nd rfl (by first|exact Or.inl rfl|exact Or.inr rfl) (aY eA hr rfl (ab (dH (ab (af (wpv 2)) (ab (ax ag) (ab (af (wpv 3)) (ab (bH hu (af (wpv 3)) (ax ag) (fun _ _=>rfl) (fun _ _=>rfl)) ay))))) ay)))
   (aB (d8 TDoing.cl (TDoing.na 3 rfl) (TDoing.ix rfl) (af (wpv 0)) (aY eA hr rfl (ab (dH (ab (af (wpv 1)) (ab (ax ag) (ab (af (wpv 3)) (ab (dH (ab (dk TDoing.cl (TDoing.na 1 rfl) (TDoing.ix rfl) (af (wpv 0))) (ab (dk TDoing.cl (TDoing.na 2 rfl) (TDoing.ix rfl) (af (wpv 0))) (ab (af (wpv 4)) ay)))) ay))))) ay))))))),bi⟩⟩
theorem iq:aS ["self","back"] ["self"] (av b6):=⟨rfl,rfl,rfl,by decide +kernel,rfl,by decide +kernel,by decide +kernel⟩
theorem lX{k:Nat}{ak:Cl}{fa:Addr}{fd:FuncData}(F:Fun K "goes_back" "Doing.goes_back" b6 fa fd)(bi:d6 K fd ["self"] [])(mt:jV K ak.C "goes_back" fa)(B:Blt mg)(TDoing:TC K ak ["wheel","held","puts","part"]):iX P w K mg base ak "goes_back" (k+1) ["self"] (fnU 2 1 (cf ak)):=
 ⟨⟨fa,fd,mt,F.pure iq fun cdv A outer s H E hr=>(by
  have hu:=dh hr
  have nd:=iq.nd
  exact(aw (aU (i:=1) nd rfl (by first|exact Or.inl rfl|exact Or.inr rfl) (bH hu (dk TDoing.cl (TDoing.na 3 rfl) (TDoing.ix rfl) (af (wpv 0))) (ax ag) (fun _ _=>rfl) (fun _ _=>rfl)))
   (aw (cQ (bo EC J4 (af (wpv 1)) (rD i7) (ba _)) (aB (bc (sO fD))) cm)
   (aw (d8 TDoing.cl (TDoing.na 1 rfl) (TDoing.ix rfl) (af (wpv 0)) (bH hu (af (wpv 1)) (ax ag) (fun _ _=>rfl) (fun _ _=>rfl)))
   (aw (d8 TDoing.cl (TDoing.na 2 rfl) (TDoing.ix rfl) (af (wpv 0)) (bH hu (af (wpv 1)) (ax ag) (fun _ _=>rfl) (fun _ _=>rfl)))
   (aw (d8 TDoing.cl (TDoing.na 3 rfl) (TDoing.ix rfl) (af (wpv 0)) (bH hu (af (wpv 1)) (ax ag) (fun _ _=>rfl) (fun _ _=>rfl)))
   (aB (bc (sO fD))))))))),bi⟩⟩
theorem jl:aS ["self","deed","word","left_out"] ["self"] (av cU):=⟨rfl,rfl,rfl,by decide +kernel,rfl,by decide +kernel,by decide +kernel⟩
theorem oZ{k:Nat}{cu aC bK bL bj aL:Fn}{ak:Cl}{fa:Addr}{fd:FuncData}(F:Fun K "do_deed" "Doing.do_deed" cU fa fd)(bi:d6 K fd ["self"] [])(mt:jV K ak.C "do_deed" fa)(B:Blt mg)(TDoing:TC K ak ["wheel","held","puts","part"])(iY:dU P w K mg base "with_at" (k) ["row","place","value"] cu)(M_Doing_deed:iX P w K mg base ak "deed" (k) ["self"] aC)(M_Doing_goes_back:iX P w K mg base ak "goes_back" (k) ["self"] bK)(M_Doing_enter_try:iX P w K mg base ak "enter_try" (k) ["self","one","other"] bL)(M_Doing_hold:iX P w K mg base ak "hold" (k) ["self","hand","number"] bj)(M_Doing_go_behind:iX P w K mg base ak "go_behind" (k) ["self","left_out"] aL):iX P w K mg base ak "do_deed" (k+1) ["self"] (fnU 4 1 (bp cu aC bK bL bj aL ak)):=
 ⟨⟨fa,fd,mt,F.pure jl fun cdv A outer s H E hr=>(by
  have hu:=dh hr
  have nd:=jl.nd
  exact(aw (aU (i:=1) nd rfl (by first|exact Or.inl rfl|exact Or.inr rfl) (iJ TDoing.cl M_Doing_deed hr (TDoing.nm (by decide +kernel)) (af (wpv 0))))
   (aw (aU (i:=2) nd rfl (by first|exact Or.inl rfl|exact Or.inr rfl) (bH hu (af (wpv 1)) (ax ag) (fun _ _=>rfl) (fun _ _=>rfl)))
   (aw (cQ (bo gU oP (af (wpv 2)) (cR aZ) (ba _)) (aB (bc (iJ TDoing.cl M_Doing_goes_back hr (TDoing.nm (by decide +kernel)) (af (wpv 0))))) cm)
   (aw (cQ (bo gU oP (af (wpv 2)) (cR aZ) (ba _)) (aw (bO (gT TDoing.cl M_Doing_enter_try hr (TDoing.nm (by decide +kernel)) (af (wpv 0)) (ab (bH hu (af (wpv 1)) (ax ag) (fun _ _=>rfl) (fun _ _=>rfl)) (ab (bH hu (af (wpv 1)) (ax ag) (fun _ _=>rfl) (fun _ _=>rfl)) ay))))
   (aB (bc (sO fD)))) cm)
   (aw (aU (i:=3) nd rfl (by first|exact Or.inl rfl|exact Or.inr rfl) (ax ag))
   (aw (cQ (bo gU oP (af (wpv 2)) (cR aZ) (ba _)) (aB (bO (gT TDoing.cl M_Doing_hold hr (TDoing.nm (by decide +kernel)) (af (wpv 0)) (ab (bH hu (af (wpv 1)) (ax ag) (fun _ _=>rfl) (fun _ _=>rfl)) (ab (bH hu (dk TDoing.cl (TDoing.na 2 rfl) (TDoing.ix rfl) (af (wpv 0))) (bH hu (af (wpv 1)) (ax ag) (fun _ _=>rfl) (fun _ _=>rfl)) (fun _ _=>rfl) (fun _ _=>rfl)) ay))))) (aB (cQ (bo gU oP (af (wpv 2)) (cR aZ) (ba _)) (aB (d8 TDoing.cl (TDoing.na 2 rfl) (TDoing.ix rfl) (af (wpv 0)) (aY iY hr rfl (ab (dk TDoing.cl (TDoing.na 2 rfl) (TDoing.ix rfl) (af (wpv 0))) (ab (bH hu (af (wpv 1)) (ax ag) (fun _ _=>rfl) (fun _ _=>rfl)) (ab (bH hu (dk TDoing.cl (TDoing.na 1 rfl) (TDoing.ix rfl) (af (wpv 0))) (bH hu (af (wpv 1)) (ax ag) (fun _ _=>rfl) (fun _ _=>rfl)) (fun _ _=>rfl) (fun _ _=>rfl)) ay)))))) (aB (cQ (bo gU oP (af (wpv 2)) (cR aZ) (ba _)) (aB (bO (gT TDoing.cl M_Doing_hold hr (TDoing.nm (by decide +kernel)) (af (wpv 0)) (ab (bH hu (af (wpv 1)) (ax ag) (fun _ _=>rfl) (fun _ _=>rfl)) (ab (bH hu (af (wpv 1)) (ax ag) (fun _ _=>rfl) (fun _ _=>rfl)) ay))))) (aB (cQ (bo gU oP (af (wpv 2)) (cR aZ) (ba _)) (aB (bO (gT TDoing.cl M_Doing_hold hr (TDoing.nm (by decide +kernel)) (af (wpv 0)) (ab (bH hu (af (wpv 1)) (ax ag) (fun _ _=>rfl) (fun _ _=>rfl)) (ab (fC mZ tZ (fC gF gE (bH hu (dk TDoing.cl (TDoing.na 1 rfl) (TDoing.ix rfl) (af (wpv 0))) (bH hu (af (wpv 1)) (ax ag) (fun _ _=>rfl) (fun _ _=>rfl)) (fun _ _=>rfl) (fun _ _=>rfl)) (bH hu (dk TDoing.cl (TDoing.na 1 rfl) (TDoing.ix rfl) (af (wpv 0))) (bH hu (af (wpv 1)) (ax ag) (fun _ _=>rfl) (fun _ _=>rfl)) (fun _ _=>rfl) (fun _ _=>rfl))) (dk TDoing.cl (TDoing.na 0 rfl) (TDoing.ix rfl) (af (wpv 0)))) ay))))) (aB (cQ (bo gU oP (bH hu (dk TDoing.cl (TDoing.na 1 rfl) (TDoing.ix rfl) (af (wpv 0))) (bH hu (af (wpv 1)) (ax ag) (fun _ _=>rfl) (fun _ _=>rfl)) (fun _ _=>rfl) (fun _ _=>rfl)) (ax ag) (ba _)) (aB (aU (i:=3) nd rfl (by first|exact Or.inl rfl|exact Or.inr rfl) (bH hu (af (wpv 1)) (ax ag) (fun _ _=>rfl) (fun _ _=>rfl)))) cm)))))))))
   (aw (bO (gT TDoing.cl M_Doing_go_behind hr (TDoing.nm (by decide +kernel)) (af (wpv 0)) (ab (af (wpv 3)) ay)))
   (aB (bc (sO fD))))))))))),bi⟩⟩
theorem ik:aS ["self"] ["self"] (av b5):=⟨rfl,rfl,rfl,by decide +kernel,rfl,by decide +kernel,by decide +kernel⟩
theorem lW{k:Nat}{ak:Cl}{fa:Addr}{fd:FuncData}(F:Fun K "put_pairs" "Doing.put_pairs" b5 fa fd)(bi:d6 K fd ["self"] [])(mt:jV K ak.C "put_pairs" fa)(B:Blt mg)(TDoing:TC K ak ["wheel","held","puts","part"]):iX P w K mg base ak "put_pairs" (k+1) ["self"] (fnU 1 1 (cZ ak)):=
 ⟨⟨fa,fd,mt,F.pure ik fun cdv A outer s H E hr=>(by
  have hu:=dh hr
  have nd:=ik.nd
  exact(aB (bc (Cs (Nc:=["box","number"]) (tn:=["box","number"]) (capN:=[]) (caps:=[]) rfl (oI rfl B.enumerate (dk TDoing.cl (TDoing.na 2 rfl) (TDoing.ix rfl) (af (wpv 0)))) (fun _ _ _=>(mU rfl (cS (bq (i:=0) (show(["box","number"]:List Str).Nodup by decide +kernel) rfl (by first|exact Or.inl rfl|exact Or.inr rfl)) (cS (bq (i:=1) (show(["box","number"]:List Str).Nodup by decide +kernel) rfl (by first|exact Or.inl rfl|exact Or.inr rfl)) jy)))) (fun _ _ _=>(bo u6 zU (af (wpv 1)) (rD i7) (ba _))) (fun _ _ _=>(dH (ab (af (wpv 0)) (ab (af (wpv 1)) ay)))) rfl rfl (by decide +kernel) (by decide +kernel) trivial rfl .nil rfl rfl)))),bi⟩⟩
theorem kL:aS ["self","world","dealing"] ["self","world","dealing"] (av eN):=⟨rfl,rfl,rfl,by decide +kernel,rfl,by decide +kernel,by decide +kernel⟩
theorem uf{k:Nat}{br:Fn}{ak:Cl}{fa:Addr}{fd:FuncData}(F:Fun K "__init__" "Doing.__init__" eN fa fd)(bi:d6 K fd ["self","world","dealing"] [])(mk:Mk K ak.C fa)(hmg:mg "Doing"=some (.ref ak.C))(B:Blt mg)(TDoing:TC K ak ["wheel","held","puts","part"])(eA:dU P w K mg base "onwards" (k) ["part"] br):CMk P w K mg base ak "Doing" (k+1) ["self","world","dealing"] (fnU 3 3 (gq br ak)):=
 ⟨⟨fa,fd,mk,F.pure kL fun cdv A outer s H E hr=>(by
  have hu:=dh hr
  have nd:=kL.nd
  exact(aw (d8 TDoing.cl (TDoing.na 0 rfl) (TDoing.ix rfl) (af (wpv 0)) (bH hu (af (wpv 1)) (ax ag) (fun _ _=>rfl) (fun _ _=>rfl)))
   (aw (d8 TDoing.cl (TDoing.na 1 rfl) (TDoing.ix rfl) (af (wpv 0)) (dH (ab (ax ag) (ab (ax ag) (ab (ax ag) (ab (ax ag) ay))))))
   (aw (d8 TDoing.cl (TDoing.na 2 rfl) (TDoing.ix rfl) (af (wpv 0)) (fC Kb J2 (dH (ab (rD i7) ay)) (bH hu (af (wpv 1)) (ax ag) (fun _ _=>rfl) (fun _ _=>rfl))))
   (aB (d8 TDoing.cl (TDoing.na 3 rfl) (TDoing.ix rfl) (af (wpv 0)) (aY eA hr rfl (ab (dH (ab (af (wpv 2)) (ab (ax ag) (ab (rD i7) (ab (rD i7) ay))))) ay)))))))),bi,hmg⟩,by rw[TDoing.ns];decide +kernel,by rw[TDoing.ns];decide⟩
theorem jv:aS ["doing","state","looked","box"] ["doing","state","looked"] (av cI):=⟨rfl,rfl,rfl,by decide +kernel,rfl,by decide +kernel,by decide +kernel⟩
theorem pY{k:Nat}{aC cH cG bC:Fn}{ak:Cl}{fuel:Nat}(d:Def K mg "goes_through" cI ["doing","state","looked"])(B:Blt mg)(TDoing:TC K ak ["wheel","held","puts","part"])(M_Doing_deed:iX P w K mg base ak "deed" (k) ["self"] aC)(M_Doing_asks:iX P w K mg base ak "asks" (k) ["self"] cH)(M_Doing_hear:iX P w K mg base ak "hear" (k) ["self","number"] cG)(M_Doing_do_deed:iX P w K mg base ak "do_deed" (k) ["self"] bC):dU P w K mg base "goes_through" (k+1) ["doing","state","looked"] (fnU 4 3 (dE aC cH cG bC ak fuel)):=
 d.pure jv fun f cdv A outer s H E hr=>by
  have hu:=dh hr
  have nd:=jv.nd
  exact(aw (wy fuel PassesOwn.never (bo u6 zU (iJ TDoing.cl M_Doing_deed hr (TDoing.nm (by decide +kernel)) (af (wpv 0))) (rD i7) (ba _)) (aB (cQ (kS (iJ TDoing.cl M_Doing_asks hr (TDoing.nm (by decide +kernel)) (af (wpv 0)))) (aw (aU (i:=3) nd rfl (by first|exact Or.inl rfl|exact Or.inr rfl) (bH hu (iJ TDoing.cl M_Doing_deed hr (TDoing.nm (by decide +kernel)) (af (wpv 0))) (ax ag) (fun _ _=>rfl) (fun _ _=>rfl)))
   (aw (dY hu (af (wpv 2)) (af (wpv 3)) (sO fD))
   (aB (bO (gT TDoing.cl M_Doing_hear hr (TDoing.nm (by decide +kernel)) (af (wpv 0)) (ab (bH hu (af (wpv 1)) (af (wpv 3)) (fun _ _=>rfl) (fun _ _=>rfl)) ay)))))) (aB (cQ (mV (kS (iJ TDoing.cl M_Doing_do_deed hr (TDoing.nm (by decide +kernel)) (af (wpv 0))))) (aB (bc (sO fD))) cm)))))
   (aB (bc (sO fD))))
theorem wk:aS ["world","dealing","state","doing","looked","reached","box","number"] ["world","dealing","state"] (av kf):=⟨rfl,rfl,rfl,by decide +kernel,rfl,by decide +kernel,by decide +kernel⟩
theorem Hl{k:Nat}{aR aJ bh:Fn}{ak:Cl}(d:Def K mg "alone" kf ["world","dealing","state"])(B:Blt mg)(TDoing:TC K ak ["wheel","held","puts","part"])(dF:dU P w K mg base "goes_through" (k+1) ["doing","state","looked"] aR)(M_Doing_put_pairs:iX P w K mg base ak "put_pairs" (k+1) ["self"] aJ)(M_Doing:CMk P w K mg base ak "Doing" k ["self","world","dealing"] bh):dU P w K mg base "alone" (k+1+1) ["world","dealing","state"] (fnU 8 3 (ml aR aJ bh ak)):=
 d.pure wk fun f cdv A outer s H E hr=>by
  have hu:=dh hr
  have nd:=wk.nd
  exact(aw (aU (i:=3) nd rfl (by first|exact Or.inl rfl|exact Or.inr rfl) (Ew M_Doing hr rfl (ab (af (wpv 0)) (ab (af (wpv 1)) ay))))
   (aw (aU (i:=4) nd rfl (by first|exact Or.inl rfl|exact Or.inr rfl) mW)
   (aw (cQ (mV (kS (aY dF hr rfl (ab (af (wpv 3)) (ab (af (wpv 2)) (ab (af (wpv 4)) ay)))))) (aB (bc (dH (ab (cR aZ) (ab (cq (lj rfl) kY rfl B.sorted OG.dR (ab (af (wpv 4)) ay)) ay))))) cm)
   (aw (aU (i:=5) nd rfl (by first|exact Or.inl rfl|exact Or.inr rfl) (kW ni J3 rfl B.list OG.lK (ab (af (wpv 2)) ay)))
   (aw (j2 PassesOwn.never rfl (kQ (iJ TDoing.cl M_Doing_put_pairs hr (TDoing.nm (by decide +kernel)) (af (wpv 3)))) (mU rfl (cS (bq (i:=6) nd rfl (by first|exact Or.inl rfl|exact Or.inr rfl)) (cS (bq (i:=7) nd rfl (by first|exact Or.inl rfl|exact Or.inr rfl)) jy))) (aB (dY hu (af (wpv 5)) (af (wpv 6)) (af (wpv 7)))))
   (aB (bc (dH (ab (cR aZ) (ab (kW je uZ rfl B.tuple OG.jU (ab (af (wpv 5)) ay)) (ab (dk TDoing.cl (TDoing.na 1 rfl) (TDoing.ix rfl) (af (wpv 3))) ay)))))))))))
theorem mQ:aS ["world","dealing","state","doing","looked"] ["world","dealing","state"] (av eE):=⟨rfl,rfl,rfl,by decide +kernel,rfl,by decide +kernel,by decide +kernel⟩
theorem vk{k:Nat}{aR aJ bh:Fn}{ak:Cl}(d:Def K mg "footprint" eE ["world","dealing","state"])(B:Blt mg)(TDoing:TC K ak ["wheel","held","puts","part"])(dF:dU P w K mg base "goes_through" (k+1) ["doing","state","looked"] aR)(M_Doing_put_pairs:iX P w K mg base ak "put_pairs" (k+1) ["self"] aJ)(M_Doing:CMk P w K mg base ak "Doing" k ["self","world","dealing"] bh):dU P w K mg base "footprint" (k+1+1) ["world","dealing","state"] (fnU 5 3 (fP aR aJ bh ak)):=
 d.pure mQ fun f cdv A outer s H E hr=>by
  have hu:=dh hr
  have nd:=mQ.nd
  exact(aw (aU (i:=3) nd rfl (by first|exact Or.inl rfl|exact Or.inr rfl) (Ew M_Doing hr rfl (ab (af (wpv 0)) (ab (af (wpv 1)) ay))))
   (aw (aU (i:=4) nd rfl (by first|exact Or.inl rfl|exact Or.inr rfl) mW)
   (aw (cQ (mV (kS (aY dF hr rfl (ab (af (wpv 3)) (ab (af (wpv 2)) (ab (af (wpv 4)) ay)))))) (aB (bc (dH (ab (cq (lj rfl) kY rfl B.sorted OG.dR (ab (af (wpv 4)) ay)) (ab (ny ay) ay))))) cm)
   (aB (bc (dH (ab (cq (lj rfl) kY rfl B.sorted OG.dR (ab (af (wpv 4)) ay)) (ab (iJ TDoing.cl M_Doing_put_pairs hr (TDoing.nm (by decide +kernel)) (af (wpv 3))) ay))))))))
theorem tK:aS ["world","dealings","state","order","reached","place","number","told"] ["world","dealings","state","order"] (av jb):=⟨rfl,rfl,rfl,by decide +kernel,rfl,by decide +kernel,by decide +kernel⟩
theorem Dw{k:Nat}{cL:Fn}(d:Def K mg "in_row" jb ["world","dealings","state","order"])(B:Blt mg)(mC:dU P w K mg base "alone" (k) ["world","dealing","state"] cL):dU P w K mg base "in_row" (k+1) ["world","dealings","state","order"] (fnU 8 4 (jT cL)):=
 d.pure tK fun f cdv A outer s H E hr=>by
  have hu:=dh hr
  have nd:=tK.nd
  exact(aw (aU (i:=4) nd rfl (by first|exact Or.inl rfl|exact Or.inr rfl) (af (wpv 2)))
   (aw (j2 PassesOwn.never rfl (oI rfl B.enumerate (af (wpv 3))) (mU rfl (cS (bq (i:=5) nd rfl (by first|exact Or.inl rfl|exact Or.inr rfl)) (cS (bq (i:=6) nd rfl (by first|exact Or.inl rfl|exact Or.inr rfl)) jy))) (aw (aU (i:=7) nd rfl (by first|exact Or.inl rfl|exact Or.inr rfl) (aY mC hr rfl (ab (af (wpv 0)) (ab (bH hu (af (wpv 1)) (af (wpv 6)) (fun _ _=>rfl) (fun _ _=>rfl)) (ab (af (wpv 4)) ay)))))
   (aw (cQ (bo gU oP (bH hu (af (wpv 7)) (ax ag) (fun _ _=>rfl) (fun _ _=>rfl)) (cR aZ) (ba _)) (aB (bc (dH (ab (cR aZ) (ab (af (wpv 5)) (ab (bH hu (af (wpv 7)) (ax ag) (fun _ _=>rfl) (fun _ _=>rfl)) ay)))))) cm)
   (aB (aU (i:=4) nd rfl (by first|exact Or.inl rfl|exact Or.inr rfl) (bH hu (af (wpv 7)) (ax ag) (fun _ _=>rfl) (fun _ _=>rfl)))))))
   (aB (bc (dH (ab (cR aZ) (ab (af (wpv 4)) ay)))))))
theorem Es:aS ["script","pen","world","state","dealings","names","log","now","told","order","number","a","looked","puts","found","pairs"] ["script"] (av pS):=⟨rfl,rfl,rfl,by decide +kernel,rfl,by decide +kernel,by decide +kernel⟩
def pF(bP bQ ao aD bR cw cL fi cY fk dQ bB g5 fj:Fn):CS:=
 (bu (K3 (cCB cw (ae (ah 2) (ae (cOp fIx (ah 4) (ah 10)) (ae (ah 7) aE)))) (gTp [12,13]))
  (bu (dB (cBM bY (ah 6) (ae (fE (ae (cC (.str "begin")) (ae (ah 11) aE))) aE)))
  (bu (dB (cBM fq (ah 6) (ae (iK (iTp (ah 12)) (gNm 0) (fE (ae (cC (.str "look")) (ae (ah 1) (ae (ah 0) (ae (cOp fIx (ah 2) (ah 0)) aE))))) 1 [11,7]) aE)))
  (bu (dB (cBM fq (ah 6) (ae (iK (iTp (ah 13)) (gTp [0,1]) (fE (ae (cC (.str "put")) (ae (ah 2) (ae (ah 0) (ae (ah 1) aE))))) 2 [11]) aE)))
  (bu (cP 14 (cCB cL (ae (ah 2) (ae (cOp fIx (ah 4) (ah 10)) (ae (ah 7) aE)))))
  (bu (dB (cBM bY (ah 6) (ae (fE (ae (cOp fIx (pB (ae (cC (.str "fall")) (ae (cC (.str "done")) aE))) (cCB HU (ae (cOp fEq (cOp fIx (ah 14) (cC (.int 0))) (cC (.str "done"))) aE))) (ae (ah 11) aE))) aE)))
  (bu (dB (cBM bY (ah 8) (ae (fE (ae (iK (iTp (ah 12)) (gNm 0) (fE (ae (ah 0) (ae (cOp fIx (ah 1) (ah 0)) aE))) 1 [7]) (ae (ah 13) (ae (cOp fIx (cOp fIx (ah 6) (HV (cC (.int 1)))) (cC (.int 0))) aE)))) aE)))
  (gx (aQ (cOp fEq (cOp fIx (ah 14) (cC (.int 0))) (cC (.str "done")))) (bu (dB (cBM bY (ah 9) (ae (ah 10) aE)))
  (cP 7 (cOp fIx (ah 14) (cC (.int 1))))) dv))))))))
def mv(bP bQ ao aD bR cw cL fi cY fk dQ bB g5 fj:Fn):CS:=
 (gx (aQ (cOp (uL true) (fE (ae (cCB bB (ae (ah 6) (ae (ah 11) aE))) (ae (cCB dQ (ae (ah 6) (ae (ah 11) aE))) (ae (cCB fk (ae (ah 6) (ae (ah 11) aE))) aE)))) (cOp fIx (ah 8) (ah 10)))) (fB (cC (.bl false))) dv)
def mr(bP bQ ao aD bR cw cL fi cY fk dQ bB g5 fj:Fn):CS:=
 (dB (cBM fq (ah 15) (ae (iK (iTp (cSl (ah 5) (some (cOp iO (ah 10) (cC (.int 1)))) none)) (gNm 0) (fE (ae (ah 1) (ae (ah 0) aE))) 1 [11]) aE)))
def Bi(bP bQ ao aD bR cw cL fi cY fk dQ bB g5 fj:Fn):CS:=
 (bu (cP 2 (cCB bP (ae (ah 1) aE)))
  (bu (cP 3 (cCB bQ (ae (ah 1) (ae (ah 2) aE))))
  (bu (cP 4 (iK (gY (ae (cOp iO (cC (.int 1)) (cCB ao (ae (ah 1) (ae (cC (.int 5)) aE)))) aE)) (gNm 0) (cCB aD (ae (ah 1) (ae (ah 2) (ae (cC (.int 10)) (ae (cC (.int 2)) aE))))) 1 [1,2]))
  (bu (cP 5 (cCB bR (ae (ah 1) (ae (cCB ky (ae (ah 4) aE)) aE))))
  (bu (cP 6 (pB aE))
  (bu (cP 7 (ah 3))
  (bu (cP 8 (pB aE))
  (bu (cP 9 (pB aE))
  (bu (lJ (jC (ah 5)) (gTp [10,11]) (pF bP bQ ao aD bR cw cL fi cY fk dQ bB g5 fj))
  (bu (gx (cOr (aQ (cOp me (cCB fi (ae (ah 2) (ae (ah 6) aE))) (cC (.bl true)))) (aQ (cOp (uL true) (cCB cY (ae (ah 6) aE)) (cCB eM (ae (ah 5) aE))))) (fB (cC (.bl false))) dv)
  (bu (lJ (jC (ah 5)) (gTp [10,11]) (mv bP bQ ao aD bR cw cL fi cY fk dQ bB g5 fj))
  (bu (cP 15 (pB aE))
  (bu (lJ (jC (ah 5)) (gTp [10,11]) (mr bP bQ ao aD bR cw cL fi cY fk dQ bB g5 fj))
  (fB (so (cOp (uL false) (cCB g5 (ae (ah 6) aE)) (cCB gI (ae (ah 15) aE))) (cOp (uL false) (cCB fj (ae (ah 2) (ae (ah 4) (ae (ah 3) (ae (ah 9) aE))))) (fE (ae (cC (.str "done")) (ae (ah 7) aE)))))))))))))))))))
theorem M3{k:Nat}{bP bQ ao aD bR cw cL fi cY fk dQ bB g5 fj:Fn}{fa:Addr}{fd:FuncData}(F:Fun K "law" "law" pS fa fd)(B:Blt mg)(yz:Has P w K mg base "_law_pen" k ["script"] (Er K))(jM:dU P w K mg base "_law_world" k ["pen"] bP)(jN:dU P w K mg base "_law_state" k ["pen","world"] bQ)(aF:dU P w K mg base "_law_take" k ["pen","many"] ao)(fX:dU P w K mg base "_law_dealing" k ["pen","world","room","tries"] aD)(jO:dU P w K mg base "_law_names" k ["pen","many"] bR)(kx:dU P w K mg base "footprint" k ["world","dealing","state"] cw)(mC:dU P w K mg base "alone" k ["world","dealing","state"] cL)(sJ:dU P w K mg base "is_log" k ["world","thing"] fi)(mB:dU P w K mg base "attempts" k ["log"] cY)(sM:dU P w K mg base "end_of" k ["log","a"] fk)(pJ:dU P w K mg base "puts_of" k ["log","a"] dQ)(ji:dU P w K mg base "outer_looks" k ["log","a"] bB)(vQ:dU P w K mg base "ahead" k ["log"] g5)(sL:dU P w K mg base "in_row" k ["world","dealings","state","order"] fj)
  (ok:∀(ns:List Int) (a c:Int),0<=a->0<=c->∃ρ' S',Bi bP bQ ao aD bR cw cL fi cY fk dQ bB g5 fj [none,some (.ref 1),none,none,none,none,none,none,none,none,none,none,none,none,none,none] [.lst (ns.map U.int),.lst [.ref 0,.int a,.int c]]=some (.rt (.bl true),ρ',S')):nr P w K mg base CX0 (k+1) fa fd ["script"] (Ce K):=by
 refine Fun.okW F Es (fun vs H Q E h=>(by obtain⟨a,ns,rfl,_⟩:=h;rfl)) fun cdv A outer s H vs Q E hr h=>?_
 obtain⟨a,ns,rfl,hS,gZ,q⟩:=h
 have hu:=dh hr
 have nd:=Es.nd
 refine⟨_,sW (u:=tS K (Bi bP bQ ao aD bR cw cL fi cY fk dQ bB g5 fj)) (yH (i:=1) nd rfl (by first|exact Or.inl rfl|exact Or.inr rfl) (Eh yz hr rfl (fS (wpv 0) j6))) (aw (aU (i:=2) nd rfl (by first|exact Or.inl rfl|exact Or.inr rfl) (aY jM hr rfl (ab (af (wpv 1)) ay)))
   (aw (aU (i:=3) nd rfl (by first|exact Or.inl rfl|exact Or.inr rfl) (aY jN hr rfl (ab (af (wpv 1)) (ab (af (wpv 2)) ay))))
   (aw (xT (Nc:=["k","pen","world"]) (tn:=["k"]) (capN:=["pen","world"]) (caps:=[1,2]) rfl (kR rfl B.range (ab (fC gF gE (ax ag) (aY aF hr rfl (ab (af (wpv 1)) (ab (ax ag) ay)))) ay)) (fun _ _ _=>(fN (bq (i:=0) (show(["k","pen","world"]:List Str).Nodup by decide +kernel) rfl (by first|exact Or.inl rfl|exact Or.inr rfl)))) (fun _ _ _=>(aY fX hr rfl (ab (af (wpv 1)) (ab (af (wpv 2)) (ab (ax ag) (ab (ax ag) ay)))))) rfl rfl (by decide +kernel) (by decide +kernel) ⟨rfl,rfl,trivial⟩ rfl (.cons ⟨rfl,rfl,rfl,_,rfl⟩ (.cons ⟨rfl,rfl,rfl,_,rfl⟩ .nil)) rfl rfl nd rfl rfl rfl)
   (aw (aU (i:=5) nd rfl (by first|exact Or.inl rfl|exact Or.inr rfl) (aY jO hr rfl (ab (af (wpv 1)) (ab (cq ki kh rfl B.len PySem.boot_len (ab (af (wpv 4)) ay)) ay))))
   (aw (aU (i:=6) nd rfl (by first|exact Or.inl rfl|exact Or.inr rfl) (ny ay))
   (aw (aU (i:=7) nd rfl (by first|exact Or.inl rfl|exact Or.inr rfl) (af (wpv 3)))
   (aw (aU (i:=8) nd rfl (by first|exact Or.inl rfl|exact Or.inr rfl) (ny ay))
   (aw (aU (i:=9) nd rfl (by first|exact Or.inl rfl|exact Or.inr rfl) (ny ay))
   (aw (j2 PassesOwn.never rfl (oI rfl B.enumerate (af (wpv 5))) (mU rfl (cS (bq (i:=10) nd rfl (by first|exact Or.inl rfl|exact Or.inr rfl)) (cS (bq (i:=11) nd rfl (by first|exact Or.inl rfl|exact Or.inr rfl)) jy))) (aw (Jw (aY kx hr rfl (ab (af (wpv 2)) (ab (bH hu (af (wpv 4)) (af (wpv 10)) (fun _ _=>rfl) (fun _ _=>rfl)) (ab (af (wpv 7)) ay)))) (mU rfl (cS (bq (i:=12) nd rfl (by first|exact Or.inl rfl|exact Or.inr rfl)) (cS (bq (i:=13) nd rfl (by first|exact Or.inl rfl|exact Or.inr rfl)) jy))))
   (aw (bO (fT (af (wpv 6)) (ab (dH (ab (cR aZ) (ab (af (wpv 11)) ay))) ay)))
   (aw (bO (nG (af (wpv 6)) (ab (qx (Nc:=["box","a","now"]) (tn:=["box"]) (capN:=["a","now"]) (caps:=[11,7]) rfl (kQ (af (wpv 12))) (fun _ _ _=>(fN (bq (i:=0) (show(["box","a","now"]:List Str).Nodup by decide +kernel) rfl (by first|exact Or.inl rfl|exact Or.inr rfl)))) (fun _ _ _=>(dH (ab (cR aZ) (ab (af (wpv 1)) (ab (af (wpv 0)) (ab (bH hu (af (wpv 2)) (af (wpv 0)) (fun _ _=>rfl) (fun _ _=>rfl)) ay)))))) rfl rfl (by decide +kernel) (by decide +kernel) ⟨rfl,rfl,trivial⟩ rfl (.cons ⟨rfl,rfl,rfl,_,rfl⟩ (.cons ⟨rfl,rfl,rfl,_,rfl⟩ .nil)) rfl rfl) ay)))
   (aw (bO (nG (af (wpv 6)) (ab (qx (Nc:=["box","put","a"]) (tn:=["box","put"]) (capN:=["a"]) (caps:=[11]) rfl (kQ (af (wpv 13))) (fun _ _ _=>(mU rfl (cS (bq (i:=0) (show(["box","put","a"]:List Str).Nodup by decide +kernel) rfl (by first|exact Or.inl rfl|exact Or.inr rfl)) (cS (bq (i:=1) (show(["box","put","a"]:List Str).Nodup by decide +kernel) rfl (by first|exact Or.inl rfl|exact Or.inr rfl)) jy)))) (fun _ _ _=>(dH (ab (cR aZ) (ab (af (wpv 2)) (ab (af (wpv 0)) (ab (af (wpv 1)) ay)))))) rfl rfl (by decide +kernel) (by decide +kernel) ⟨rfl,trivial⟩ rfl (.cons ⟨rfl,rfl,rfl,_,rfl⟩ .nil) rfl rfl) ay)))
   (aw (aU (i:=14) nd rfl (by first|exact Or.inl rfl|exact Or.inr rfl) (aY mC hr rfl (ab (af (wpv 2)) (ab (bH hu (af (wpv 4)) (af (wpv 10)) (fun _ _=>rfl) (fun _ _=>rfl)) (ab (af (wpv 7)) ay)))))
   (aw (bO (fT (af (wpv 6)) (ab (dH (ab (bH hu (ny (ab (cR aZ) (ab (cR aZ) ay))) (kW Bh MJ rfl B.int OG.xv (ab (uX gU oP (bH hu (af (wpv 14)) (ax ag) (fun _ _=>rfl) (fun _ _=>rfl)) (cR aZ) (ba _)) ay)) (fun _ _=>rfl) (fun _ _=>rfl)) (ab (af (wpv 11)) ay))) ay)))
   (aw (bO (fT (af (wpv 8)) (ab (dH (ab (qx (Nc:=["box","now"]) (tn:=["box"]) (capN:=["now"]) (caps:=[7]) rfl (kQ (af (wpv 12))) (fun _ _ _=>(fN (bq (i:=0) (show(["box","now"]:List Str).Nodup by decide +kernel) rfl (by first|exact Or.inl rfl|exact Or.inr rfl)))) (fun _ _ _=>(dH (ab (af (wpv 0)) (ab (bH hu (af (wpv 1)) (af (wpv 0)) (fun _ _=>rfl) (fun _ _=>rfl)) ay)))) rfl rfl (by decide +kernel) (by decide +kernel) ⟨rfl,trivial⟩ rfl (.cons ⟨rfl,rfl,rfl,_,rfl⟩ .nil) rfl rfl) (ab (af (wpv 13)) (ab (bH hu (bH hu (af (wpv 6)) (Mz (ax ag)) (fun _ _=>rfl) (fun _ _=>rfl)) (ax ag) (fun _ _=>rfl) (fun _ _=>rfl)) ay)))) ay)))
   (aB (cQ (bo gU oP (bH hu (af (wpv 14)) (ax ag) (fun _ _=>rfl) (fun _ _=>rfl)) (cR aZ) (ba _)) (aw (bO (fT (af (wpv 9)) (ab (af (wpv 10)) ay)))
   (aB (aU (i:=7) nd rfl (by first|exact Or.inl rfl|exact Or.inr rfl) (bH hu (af (wpv 14)) (ax ag) (fun _ _=>rfl) (fun _ _=>rfl))))) cm))))))))))
   (aw (cQ (zx (HP (bo u7 C1 (aY sJ hr rfl (ab (af (wpv 2)) (ab (af (wpv 6)) ay))) (sO fD) (ba _)) (zA (bo (EB hr.units) C3 (aY mB hr rfl (ab (af (wpv 6)) ay)) (cq (lj rfl) kY rfl B.sorted OG.dR (ab (af (wpv 5)) ay)) (ba _))))) (aB (bc (sO fD))) cm)
   (aw (j2 PassesOwn.never rfl (oI rfl B.enumerate (af (wpv 5))) (mU rfl (cS (bq (i:=10) nd rfl (by first|exact Or.inl rfl|exact Or.inr rfl)) (cS (bq (i:=11) nd rfl (by first|exact Or.inl rfl|exact Or.inr rfl)) jy))) (aB (cQ (bo (EB hr.units) C3 (dH (ab (aY ji hr rfl (ab (af (wpv 6)) (ab (af (wpv 11)) ay))) (ab (aY pJ hr rfl (ab (af (wpv 6)) (ab (af (wpv 11)) ay))) (ab (aY sM hr rfl (ab (af (wpv 6)) (ab (af (wpv 11)) ay))) ay)))) (bH hu (af (wpv 8)) (af (wpv 10)) (fun _ _=>rfl) (fun _ _=>rfl)) (ba _)) (aB (bc (sO fD))) cm)))
   (aw (aU (i:=15) nd rfl (by first|exact Or.inl rfl|exact Or.inr rfl) (ny ay))
   (aw (j2 PassesOwn.never rfl (oI rfl B.enumerate (af (wpv 5))) (mU rfl (cS (bq (i:=10) nd rfl (by first|exact Or.inl rfl|exact Or.inr rfl)) (cS (bq (i:=11) nd rfl (by first|exact Or.inl rfl|exact Or.inr rfl)) jy))) (aB (bO (nG (af (wpv 15)) (ab (qx (Nc:=["other","a"]) (tn:=["other"]) (capN:=["a"]) (caps:=[11]) rfl (kQ (My (af (wpv 5)) (uU (fC gF gE (af (wpv 10)) (ax ag))) uV)) (fun _ _ _=>(fN (bq (i:=0) (show(["other","a"]:List Str).Nodup by decide +kernel) rfl (by first|exact Or.inl rfl|exact Or.inr rfl)))) (fun _ _ _=>(dH (ab (af (wpv 1)) (ab (af (wpv 0)) ay)))) rfl rfl (by decide +kernel) (by decide +kernel) ⟨rfl,trivial⟩ rfl (.cons ⟨rfl,rfl,rfl,_,rfl⟩ .nil) rfl rfl) ay)))))
   (aB (bc (tP (uX (EE hr.units) C3 (aY vQ hr rfl (ab (af (wpv 6)) ay)) (cq t4 tX rfl B.sorted OG.dR (ab (af (wpv 15)) ay)) (ba _)) (zB (uX (EE hr.units) C3 (aY sL hr rfl (ab (af (wpv 2)) (ab (af (wpv 4)) (ab (af (wpv 3)) (ab (af (wpv 9)) ay))))) (dH (ab (cR aZ) (ab (af (wpv 7)) ay))) (ba _))))))))))))))))))),?_⟩
 refine⟨_,rfl,a,ns,rfl,hS,fun p xs H1 s1 P1 n1=>?_⟩
 exact GZ P1 ok q
end
end OL
local macro_rules
 | `(tactic| rwa $s:rwRuleSeq) => do
  let ts : Array (Lean.TSyntax `term) := s.raw[1].getSepArgs.map fun r => ⟨r[1]⟩
  let us : Array (Lean.TSyntax `term) := (("Lw HZ x_c E8 yE yD sT qT Mp IV IU N4 LM LL LN IB IT Fu Ft LK Iy Iw IA E9 qU gM fF iI E6 Ie LX IF Ld BR BQ vR Ig Iq D9 Ip Io Im qg Fm LI Ir IK Ee Ed Of L8 L7 BO Il Mo IS IQ Ma L9 IX IW NY LD LC LB LA L0 Fi Fj L1 Ly Ih Ik Ea Eb IH IG Mq Lx Oe LY Og Oh Me LP Md LO Mf LR Mc Mb at0 at1 at2 at3 ix0 ix1 ix2 Option.bind_some List.getElem?_cons_zero List.getElem?_cons_succ List.set_cons_zero List.set_cons_succ List.length_cons List.length_nil List.map_cons List.map_nil decide_true decide_false Bool.not_true Bool.not_false IL Eg Ef NZ LH LG LF IE Fd Fc Fb Fe L3 L5 LZ II HM xN xM xK BS Ol Ml Mj Mi Mh Mg IM N3 x_p N2 N1 N0 IP Fq Fp H0 Ia Ib Ff Fg Fh Ec ga ga0 gs gs0 Option.join_some Nat.add_zero List.cons_append List.nil_append List.append_assoc" : String).splitOn " ").toArray.map fun x => ⟨(Lean.mkIdent ((x.splitOn ".").foldl Lean.Name.str Lean.Name.anonymous)).raw⟩
  let vs:=ts++us
  `(tactic| simp only [$[$vs:term],*])
namespace OQ
open PySem PySem.Spec PyProof.Rows L2 OG OP
def pen(a c:Int):O:=.lst [.ref 0,.int a,.int c]
section
variable{S:Sto}{j k:Int}
theorem yF(h:-(2^64)<k/\k<2^64):pf (.int j) (.int k) S=some (.int (j*k),S):=ID (.inr h)
theorem sU(h:-(2^64)<j/\j<2^64):pf (.int j) (.int k) S=some (.int (j*k),S):=ID (.inl h)
theorem Od:pf (.int j) (.int 3) S=some (.int (j*3),S):=yF (by decide)
theorem LV:pf (.int 97) (.int k) S=some (.int (97*k),S):=sU (by decide)
theorem LW:pf (.int 53) (.int k) S=some (.int (53*k),S):=sU (by decide)
theorem Oc:pf (.int j) (.int 48271) S=some (.int (j*48271),S):=yF (by decide)
theorem Oa:pf (.int 69621) (.int k) S=some (.int (69621*k),S):=sU (by decide)
theorem N9:pf (.int j) (.int 998244353) S=some (.int (j*998244353),S):=yF (by decide)
theorem LU:pf (.int (j % 2147483647)) (.int k) S=some (.int (j % 2147483647*k),S):=sU (by have:=Int.emod_nonneg j (show(2147483647:Int)≠0 by decide);have:=Int.emod_lt_of_pos j (show(0:Int)<2147483647 by decide);omega)
theorem LS:pf (.int (j % 1000000007)) (.int k) S=some (.int (j % 1000000007*k),S):=sU (by have:=Int.emod_nonneg j (show(1000000007:Int)≠0 by decide);have:=Int.emod_lt_of_pos j (show(0:Int)<1000000007 by decide);omega)
theorem N8:sQ (.int j) (.int 998244353) S=some (.int (j % 998244353),S):=uM (by decide)
theorem N7:sQ (.int j) (.int 2147483647) S=some (.int (j % 2147483647),S):=uM (by decide)
theorem N6:sQ (.int j) (.int 1000000007) S=some (.int (j % 1000000007),S):=uM (by decide)
theorem N5:sQ (.int j) (.int 1000003) S=some (.int (j % 1000003),S):=uM (by decide)
theorem Mn:DD (.int j) (.int 16) S=some (.int (j / 16),S):=Fo ⟨by decide,by decide +kernel⟩
theorem Iu:HS (.int 10) (.int 18) S=some (.int 1000000000000000000,S):=LJ (j:=10) (k:=18) ⟨by decide,by decide,by decide⟩
theorem Mm:DD (.int j) (.int 1000000000000000000) S=some (.int (j / 1000000000000000000),S):=Fo ⟨by decide,by decide +kernel⟩
theorem atU{ns:List Int}{k:Int}(h0:0<=k)(h1:k<(ns.length:Int)):∃v:Int,atI (ns.map U.int) k=some (.int v):=by
 have hk:k.toNat<ns.length:=by omega
 exact⟨ns[k.toNat],pH h0 (by rw[List.getElem?_map,List.getElem?_eq_getElem hk];rfl)⟩
end
def gy:Fn:=fnU 8 2 fQ
theorem dG(ns:List Int)(T:Sto){a c m:Int}(ha:0<=a)(hc:0<=c)(hm:0<m)(hb:m.natAbs.log2<9000) :
  ∃f a' c',gy [.ref 1,.int m] (.lst (ns.map U.int)::pen a c::T)=some (.int f,.lst (ns.map U.int)::pen a' c'::T)/\0<=f/\f<m/\0<=a'/\0<=c':=by
 unfold gy
 rw[vB]
 have dm:∀{j:Int} {S:Sto},DD (.int j) (.int m) S=some (.int (j / m),S):=Fo ⟨hm,hb⟩
 have mm:∀{j:Int} {S:Sto},sQ (.int j) (.int m) S=some (.int (j % m),S):=uM hm
 have fin:∀{a' c':Int},0<=a'->0<=c'->0<=c' % m/\c' % m<m/\0<=a'/\0<=c' / m:=fun h1 h2=>⟨Int.emod_nonneg _ (by omega),Int.emod_lt_of_pos _ hm,h1,Int.ediv_nonneg h2 (by omega)⟩
 by_cases c0:c=0
 ·subst c0
  have cell : ∃ z : Int, (gx (aQ (cOp fLt (ah 2) (cCB ky (ae (cOp fIx (ah 0) (cC (U.int 0))) aE))))
              (cP 3 (cOp fIx (cOp fIx (ah 0) (cC (U.int 0))) (ah 2)))
              (gx
               (aQ (cOp fGt (cCB ky (ae (cOp fIx (ah 0) (cC (U.int 0))) aE)) (cC (U.int 0))))
               (cP 3
                (cOp iO
                 (cOp sQ
                  (cOp fIx (cOp fIx (ah 0) (cC (U.int 0)))
                   (cOp sQ (cOp pf (ah 2) (cC (U.int 3)))
                    (cCB ky (ae (cOp fIx (ah 0) (cC (U.int 0))) aE))))
                  (cC (U.int 1000003)))
                 (cOp pf (cC (U.int 97)) (ah 2))))
               dv)) [some (.ref 1),some (.int m),some (.int a),some (.int 0),none,none,none,none] (O.lst (ns.map U.int)::.lst [.ref 0,.int (a+1),.int 0]::T)=some (.nx,[some (.ref 1),some (.int m),some (.int a),some (.int z),none,none,none,none],O.lst (ns.map U.int)::.lst [.ref 0,.int (a+1),.int 0]::T):=by
   by_cases h1:a<(ns.length:Int)
   ·obtain⟨z,hz⟩:=atU ha h1
    exact⟨z,by rwa[hz,h1,List.length_map]⟩
   ·by_cases h2:(0:Int)<(ns.length:Int)
    ·obtain⟨z,hz⟩:=atU (ns:=ns) (k:=a*3 % (ns.length:Int)) (Int.emod_nonneg _ (by omega)) (Int.emod_lt_of_pos _ h2)
     exact⟨z % 1000003+97*a,by rwa[h1,h2,Od,uM h2,hz,N5,LV,List.length_map]⟩
    ·exact⟨0,by rwa[h1,h2,List.length_map]⟩
  obtain⟨z,hz⟩:=cell
  rwa[fQ,pen,hz,N8,N7,N6,LW,Oc,Oa,N9,LU,LS,Mn,Iu]
  by_cases h3:(1000000000000000000:Int)<=z
  ·rwa[h3,Iu,Mm,mm,dm]
   exact⟨_,_,_,rfl,fin (by omega) (Int.ediv_nonneg (by omega) (by omega))⟩
  ·rwa[h3,mm,dm]
   refine⟨_,_,_,rfl,fin (by omega) ?_⟩
   exact Int.add_nonneg (Int.ediv_nonneg (Int.add_nonneg (Int.mul_nonneg (Int.emod_nonneg _ (by decide)) (by decide)) (Int.emod_nonneg _ (by decide))) (by decide)) (by decide)
 ·rwa[fQ,pen,c0,mm,dm]
  exact⟨_,_,_,rfl,fin ha hc⟩
theorem l9{m:Int}(h0:0<=m)(h:m<2^60):m.natAbs.log2<9000:=Ad h0 h
abbrev scr(ns:List Int):O:=.lst (ns.map U.int)
theorem MC{f g:Int}(g0:0<=g)(g1:g<999)(f0:0<=f)(f1:f<5):∃v:Int,atI [U.int 2,U.int 3,U.int 5,U.int 10,U.int (2+g)] f=some (.int v)/\2<=v/\v<=1000:=by
 have:f=0\/f=1\/f=2\/f=3\/f=4:=by omega
 rcases this with rfl|rfl|rfl|rfl|rfl
 ·exact⟨2,rfl,by omega,by omega⟩
 ·exact⟨3,rfl,by omega,by omega⟩
 ·exact⟨5,rfl,by omega,by omega⟩
 ·exact⟨10,rfl,by omega,by omega⟩
 ·exact⟨2+g,rfl,by omega,by omega⟩
def sy:Fn:=fnU 1 1 (gh gy)
theorem B4(ns:List Int)(T:Sto){a c:Int}(ha:0<=a)(hc:0<=c) :
  ∃n w a' c' G,sy [.ref 1] (scr ns::pen a c::T)=some (.tup [.int n,.int w],scr ns::pen a' c'::(T++G))/\1<=n/\n<=6/\2<=w/\w<=1000/\0<=a'/\0<=c':=by
 unfold sy
 rw[um]
 obtain⟨f1,a1,c1,h1,p1,q1,ha1,hc1⟩:=dG ns T (m:=6) ha hc (by decide) (by decide +kernel)
 obtain⟨f2,a2,c2,h2,p2,q2,ha2,hc2⟩:=dG ns T (m:=999) ha1 hc1 (by decide) (by decide +kernel)
 obtain⟨f3,a3,c3,h3,p3,q3,ha3,hc3⟩:=dG ns (T++[.lst [.int 2,.int 3,.int 5,.int 10,.int (2+f2)]]) (m:=5) ha2 hc2 (by decide) (by decide +kernel)
 obtain⟨v,hv,v0,v1⟩:=MC p2 q2 p3 q3
 refine⟨1+f1,v,a3,c3,[.lst [.int 2,.int 3,.int 5,.int 10,.int (2+f2)]],?_,by omega,by omega,v0,v1,ha3,hc3⟩
 rwa[gh,h1,h2,h3,hv]
def sE:Fn:=fnU 2 2 (gj gy)
theorem zf(ns:List Int)(T:Sto){n w:Int}(w0:2<=w)(w1:w<=1000):∀(us:List U) (r:Option U) (ys:List Int) {a c:Int},0<=a->0<=c->ys.length+us.length<=1000->
  ∃zs a' c',jH (fun _=>True) (gNm 0) (cCB gy (ae (ah 1) (ae (cOp fIx (ah 2) (cC (.int 1))) aE))) (T.length+1+1) us [r,some (.ref 1),some (.tup [.int n,.int w])] (scr ns::pen a c::(T++[.lst (ys.map U.int)]))
   = some (scr ns::pen a' c'::(T++[.lst ((ys++zs).map U.int)]))/\zs.length=us.length/\(∀z∈zs,0<=z/\z<w)/\0<=a'/\0<=c'
 |[],r,ys,a,c,ha,hc,hl=>⟨[],a,c,by simp[jH],rfl,by simp,ha,hc⟩
 |u::us,r,ys,a,c,ha,hc,hl=>by
  obtain⟨f,a1,c1,h1,p1,q1,ha1,hc1⟩:=dG ns (T++[.lst (ys.map U.int)]) (m:=w) ha hc (by omega) (l9 (by omega) (by omega))
  obtain⟨zs,a2,c2,h2,e2,b2,ha2,hc2⟩:=zf ns T (n:=n) w0 w1 us (some u) (ys++[f]) ha1 hc1 (by simp at hl ⊢;omega)
  refine⟨f::zs,a2,c2,?_,by simp[e2],fun z hz=>?_,ha2,hc2⟩
  ·have gZ:(ys.map U.int).length<LIM:=by unfold LIM;simp at hl ⊢;omega
   unfold jH
   rwa[h1,if_true,gZ]
   rw[List.map_append]at h2
   simp only[List.map_cons,List.map_nil]at h2
   rw[h2]
   simp
  ·rcases List.mem_cons.mp hz with rfl|hz
   ·exact⟨p1,q1⟩
   ·exact b2 z hz
theorem Cc(ns:List Int)(T:Sto){a c n w:Int}(ha:0<=a)(hc:0<=c)(n0:1<=n)(n1:n<=6)(w0:2<=w)(w1:w<=1000) :
  ∃(zs:List Int) (a' c':Int) (G:Sto),sE [.ref 1,.tup [.int n,.int w]] (scr ns::pen a c::T)=some (.tup (zs.map U.int),scr ns::pen a' c'::(T++G))/\zs.length=n.toNat/\(∀z∈zs,0<=z/\z<w)/\0<=a'/\0<=c':=by
 unfold sE
 rw[uo]
 obtain⟨zs,a',c',h,e,b,ha',hc'⟩:=zf ns T (n:=n) w0 w1 (d7 0 n.toNat) none [] ha hc (by simp[d7];omega)
 refine⟨zs,a',c',[.lst (zs.map U.int)],?_,by rw[e];simp[d7],b,ha',hc'⟩
 have hr:-(2^62)<=n/\n<2^62:=by omega
 simp only[List.map_nil,List.nil_append]at h
 rwa[gj,iK,gY,sN,hr,h,if_true,and_self,List.replicate,Option.getD_some]
inductive jW where
 |look (h b:Int)|put (b h:Int)|set (h v:Int)|plus (h g:Int)|leap (h k:Int)|wait
def jW.u:jW->U
 |.look h b=>.tup [.str "look",.int h,.int b]
 |.put b h=>.tup [.str "put",.int b,.int h]
 |.set h v=>.tup [.str "set",.int h,.int v]
 |.plus h g=>.tup [.str "plus",.int h,.int g]
 |.leap h k=>.tup [.str "leap",.int h,.int k]
 |.wait=>.tup [.str "wait"]
def jW.ok(n w:Int):jW->Prop
 |.look h b=>0<=h/\h<4/\0<=b/\b<n
 |.put b h=>0<=h/\h<4/\0<=b/\b<n
 |.set h v=>0<=h/\h<4/\0<=v/\v<w
 |.plus h g=>0<=h/\h<4/\0<=g/\g<4
 |.leap h k=>0<=h/\h<4/\1<=k/\k<=12
 |.wait=>True
def mw:Fn:=fnU 4 4 (bt gy)
theorem CD(ns:List Int)(T:Sto){a c n w way hand:Int}(ha:0<=a)(hc:0<=c)(n0:1<=n)(n1:n<=6)(w0:2<=w)(w1:w<=1000)(y0:0<=way)(h0:0<=hand)(h1:hand<4) :
  ∃(d:jW) (a' c':Int) (G:Sto),mw [.ref 1,.tup [.int n,.int w],.int way,.int hand] (scr ns::pen a c::T)=some (d.u,scr ns::pen a' c'::(T++G))/\d.ok n w/\0<=a'/\0<=c':=by
 unfold mw
 rw[mf]
 by_cases c4:way<4
 ·obtain⟨f,a1,c1,e1,p1,q1,ha1,hc1⟩:=dG ns T (m:=n) ha hc (by omega) (l9 (by omega) (by omega))
  exact⟨.look hand f,a1,c1,[],by rwa[bt,c4,e1,jW.u,List.append_nil],⟨h0,h1,p1,q1⟩,ha1,hc1⟩
 by_cases c7:way<7
 ·obtain⟨f,a1,c1,e1,p1,q1,ha1,hc1⟩:=dG ns T (m:=n) ha hc (by omega) (l9 (by omega) (by omega))
  exact⟨.put f hand,a1,c1,[],by rwa[bt,c4,c7,e1,jW.u,List.append_nil],⟨h0,h1,p1,q1⟩,ha1,hc1⟩
 by_cases c9:way<9
 ·obtain⟨f,a1,c1,e1,p1,q1,ha1,hc1⟩:=dG ns T (m:=w) ha hc (by omega) (l9 (by omega) (by omega))
  exact⟨.set hand f,a1,c1,[],by rwa[bt,c4,c7,c9,e1,jW.u,List.append_nil],⟨h0,h1,p1,q1⟩,ha1,hc1⟩
 by_cases c11:way<11
 ·obtain⟨f,a1,c1,e1,p1,q1,ha1,hc1⟩:=dG ns T (m:=4) ha hc (by omega) (l9 (by omega) (by omega))
  exact⟨.plus hand f,a1,c1,[],by rwa[bt,c4,c7,c9,c11,e1,jW.u,List.append_nil],⟨h0,h1,p1,q1⟩,ha1,hc1⟩
 obtain⟨f,a1,c1,e1,p1,q1,ha1,hc1⟩:=dG ns (T++[.lst [.int 2,.int 12]]) (m:=2) ha hc (by decide) (by decide +kernel)
 have key:∃z:Int,atI [U.int 2,U.int 12] f=some (.int z)/\0<z/\z<=12:=by
  have:f=0\/f=1:=by omega
  rcases this with rfl|rfl
  ·exact⟨2,rfl,by omega,by omega⟩
  ·exact⟨12,rfl,by omega,by omega⟩
 obtain⟨z,hz,z0,z1⟩:=key
 obtain⟨g,a2,c2,e2,p2,q2,ha2,hc2⟩:=dG ns (T++[.lst [.int 2,.int 12]]) (m:=z) ha1 hc1 z0 (l9 (by omega) (by omega))
 exact⟨.leap hand (1+g),a2,c2,[.lst [.int 2,.int 12]],by rwa[bt,c4,c7,c9,c11,e1,e2,hz,jW.u],⟨h0,h1,by omega,by omega⟩,ha2,hc2⟩
def xG(fd fs:Fn):Fn:=fnU 11 4 (ej gy mw fd fs)
theorem mF:decide (("wait":Str)="leap")=false:=by decide +kernel
theorem nR:decide (("wait":Str)="try")=false:=by decide +kernel
theorem mE:decide (("wait":Str)="look")=false:=by decide +kernel
theorem nT:decide (("wait":Str)="put")=false:=by decide +kernel
theorem nS:decide (("wait":Str)="set")=false:=by decide +kernel
theorem mD:decide (("wait":Str)="plus")=false:=by decide +kernel
theorem mM:decide (("leap":Str)="wait")=false:=by decide +kernel
theorem oy:decide (("leap":Str)="try")=false:=by decide +kernel
theorem mO:decide (("leap":Str)="look")=false:=by decide +kernel
theorem oA:decide (("leap":Str)="put")=false:=by decide +kernel
theorem oz:decide (("leap":Str)="set")=false:=by decide +kernel
theorem mN:decide (("leap":Str)="plus")=false:=by decide +kernel
theorem nU:decide (("try":Str)="wait")=false:=by decide +kernel
theorem nX:decide (("try":Str)="leap")=false:=by decide +kernel
theorem nW:decide (("try":Str)="look")=false:=by decide +kernel
theorem qo:decide (("try":Str)="put")=false:=by decide +kernel
theorem qm:decide (("try":Str)="set")=false:=by decide +kernel
theorem nV:decide (("try":Str)="plus")=false:=by decide +kernel
theorem mJ:decide (("look":Str)="wait")=false:=by decide +kernel
theorem mL:decide (("look":Str)="leap")=false:=by decide +kernel
theorem ke:decide (("look":Str)="try")=false:=by decide +kernel
theorem ox:decide (("look":Str)="put")=false:=by decide +kernel
theorem ow:decide (("look":Str)="set")=false:=by decide +kernel
theorem mK:decide (("look":Str)="plus")=false:=by decide +kernel
theorem n8:decide (("put":Str)="wait")=false:=by decide +kernel
theorem oh:decide (("put":Str)="leap")=false:=by decide +kernel
theorem lQ:decide (("put":Str)="try")=false:=by decide +kernel
theorem og:decide (("put":Str)="look")=false:=by decide +kernel
theorem qq:decide (("put":Str)="set")=false:=by decide +kernel
theorem n9:decide (("put":Str)="plus")=false:=by decide +kernel
theorem nY:decide (("set":Str)="wait")=false:=by decide +kernel
theorem n6:decide (("set":Str)="leap")=false:=by decide +kernel
theorem lO:decide (("set":Str)="try")=false:=by decide +kernel
theorem n4:decide (("set":Str)="look")=false:=by decide +kernel
theorem qp:decide (("set":Str)="put")=false:=by decide +kernel
theorem nZ:decide (("set":Str)="plus")=false:=by decide +kernel
theorem mG:decide (("plus":Str)="wait")=false:=by decide +kernel
theorem mI:decide (("plus":Str)="leap")=false:=by decide +kernel
theorem kc:decide (("plus":Str)="try")=false:=by decide +kernel
theorem mH:decide (("plus":Str)="look")=false:=by decide +kernel
theorem om:decide (("plus":Str)="put")=false:=by decide +kernel
theorem oj:decide (("plus":Str)="set")=false:=by decide +kernel
theorem SNX:type_of% @mF/\type_of% @nR/\type_of% @mE/\type_of% @nT/\type_of% @nS/\type_of% @mD/\type_of% @mM/\type_of% @oy/\type_of% @mO/\type_of% @oA/\type_of% @oz/\type_of% @mN/\type_of% @nU/\type_of% @nX/\type_of% @nW/\type_of% @qo/\type_of% @qm/\type_of% @nV/\type_of% @mJ/\type_of% @mL/\type_of% @ke/\type_of% @ox/\type_of% @ow/\type_of% @mK/\type_of% @n8/\type_of% @oh/\type_of% @lQ/\type_of% @og/\type_of% @qq/\type_of% @n9/\type_of% @nY/\type_of% @n6/\type_of% @lO/\type_of% @n4/\type_of% @qp/\type_of% @nZ/\type_of% @mG/\type_of% @mI/\type_of% @kc/\type_of% @mH/\type_of% @om/\type_of% @oj:=⟨@mF,@nR,@mE,@nT,@nS,@mD,@mM,@oy,@mO,@oA,@oz,@mN,@nU,@nX,@nW,@qo,@qm,@nV,@mJ,@mL,@ke,@ox,@ow,@mK,@n8,@oh,@lQ,@og,@qq,@n9,@nY,@n6,@lO,@n4,@qp,@nZ,@mG,@mI,@kc,@mH,@om,@oj⟩
structure M where
 hs:List Int
 ps:List (Int×Int)
 lk:List Int
def BC(lk:List Int)(b:Int):List Int:=if b∈lk then lk else lk++[b]
def Dg(first:List Int)(m:M)(b:Int):Int:=(bw m.ps b).getD (first.getD b.toNat 0)
def step(w:Int)(first:List Int)(m:M):jW->M
 |.look h b=>⟨m.hs.set h.toNat (Dg first m b),m.ps,if (bw m.ps b).isSome then m.lk else BC m.lk b⟩
 |.put b h=>⟨m.hs,jo m.ps b (m.hs.getD h.toNat 0),m.lk⟩
 |.set h v=>⟨m.hs.set h.toNat v,m.ps,m.lk⟩
 |.plus h g=>⟨m.hs.set h.toNat ((m.hs.getD h.toNat 0+m.hs.getD g.toNat 0) % w),m.ps,m.lk⟩
 |.leap _ _=>m
 |.wait=>m
def p7(ps:List (Int×Int)):List (Key×U):=ps.map fun p=>(.inl p.1,.int p.2)
def yn(lk:List Int):List (Key×U):=lk.map fun b=>(.inl b,.bl true)
theorem nD(b:Int):∀ps:List (Int×Int),bw (p7 ps) (.inl b)=(bw ps b).map U.int
 |[]=>rfl
 |(k,v)::r=>by
  have ih:=nD b r
  unfold bw p7 at ih ⊢
  simp only[List.map_cons,List.find?_cons]
  by_cases e:k=b
  ·subst e;simp
  ·rw[decide_eq_false (fun z:(Sum.inl k:Key)=Sum.inl b=>e (Sum.inl.inj z)),decide_eq_false e]
   exact ih
theorem D2(b:Int)(ps:List (Int×Int)):((p7 ps).any fun kv=>decide (kv.1=Sum.inl b))=ps.any fun kv=>decide (kv.1=b):=by
 unfold p7
 induction ps with
 |nil=>rfl
 |cons p r ih=>
  simp only[List.map_cons,List.any_cons,ih]
  by_cases e:p.1=b
  ·rw[decide_eq_true e,decide_eq_true (by rw[e])]
  ·rw[decide_eq_false e,decide_eq_false (fun z:(Sum.inl p.1:Key)=Sum.inl b=>e (Sum.inl.inj z))]
theorem wz(b v:Int)(ps:List (Int×Int)):jo (p7 ps) (.inl b) (.int v)=p7 (jo ps b v):=by
 unfold jo
 rw[D2]
 split
 ·unfold p7
  rw[List.map_map,List.map_map]
  refine List.map_congr_left fun p _=>?_
  simp only[Function.comp]
  by_cases e:p.1=b
  ·simp[e]
  ·rw[if_neg e,if_neg (fun z:(Sum.inl p.1:Key)=Sum.inl b=>e (Sum.inl.inj z))]
 ·simp[p7]
theorem Cu(b:Int)(lk:List Int):jo (yn lk) (.inl b) (.bl true)=yn (BC lk b):=by
 have ha:((yn lk).any fun kv=>decide (kv.1=Sum.inl b))=decide (b∈lk):=by
  unfold yn
  induction lk with
  |nil=>rfl
  |cons k r ih=>
   simp only[List.map_cons,List.any_cons,ih]
   by_cases e:k=b
   ·subst e;simp
   ·rw[decide_eq_false (fun z:(Sum.inl k:Key)=Sum.inl b=>e (Sum.inl.inj z))]
    simp[Ne.symm e]
 unfold jo BC
 rw[ha]
 by_cases c:b∈lk
 ·rw[if_pos (decide_eq_true c),if_pos c]
  unfold yn
  rw[List.map_map]
  refine List.map_congr_left fun p _=>?_
  simp only[Function.comp]
  split<;>rfl
 ·rw[if_neg (by simpa using c),if_neg c]
  simp[yn]
theorem Dh{κ α:Type}[DecidableEq κ](ps:List (κ×α))(b:κ)(v:α):(jo ps b v).length<=ps.length+1:=by
 unfold jo;split<;>simp
theorem at4{hs:List Int}{h:Int}(l:hs.length=4)(h0:0<=h)(h1:h<4):atI (hs.map U.int) h=some (.int (hs.getD h.toNat 0)):=by
 have hk:h.toNat<hs.length:=by omega
 refine pH h0 ?_
 rw[List.getElem?_map,List.getElem?_eq_getElem hk,List.getD_eq_getElem?_getD,List.getElem?_eq_getElem hk];rfl
theorem atF{first:List Int}{b n:Int}(l:first.length=n.toNat)(h0:0<=b)(h1:b<n):atI (first.map U.int) b=some (.int (first.getD b.toNat 0)):=by
 have hk:b.toNat<first.length:=by omega
 refine pH h0 ?_
 rw[List.getElem?_map,List.getElem?_eq_getElem hk,List.getD_eq_getElem?_getD,List.getElem?_eq_getElem hk];rfl
theorem map_set{hs:List Int}{k:Nat}{v:Int}:(hs.map U.int).set k (.int v)=(hs.set k v).map U.int:=by rw[List.map_set]
inductive DF(α:Type) where
 |pl (d:jW)|tr (a b:List α)
def DF.u{α:Type}(f:α->U):DF α->U
 |.pl d=>d.u
 |.tr a b=>.tup [.str "try",.tup (a.map f),.tup (b.map f)]
section
variable{α:Type}(w:Int)(first:List Int)(rn:List α->M->Bool×M)
def Je(a b:List α)(m:M):Bool×M:=match rn a m with
 |(true,m')=>(true,m')
 |(false,m')=>rn b ⟨m.hs,m.ps,m'.lk⟩
def iN:List (DF α)->Nat->M->Bool×M
 |[],_,m=>(true,m)
 |_::r,k+1,m=>iN r k m
 |.tr a b::r,0,m=>match Je rn a b m with
  |(true,m')=>iN r 0 m'
  |(false,m')=>(false,m')
 |.pl .wait::_,0,m=>(false,m)
 |.pl (.leap h k)::r,0,m=>iN r (if m.hs.getD h.toNat 0=0 then k.toNat else 0) m
 |.pl (.look h b)::r,0,m=>iN r 0 (step w first m (.look h b))
 |.pl (.put h b)::r,0,m=>iN r 0 (step w first m (.put h b))
 |.pl (.set h b)::r,0,m=>iN r 0 (step w first m (.set h b))
 |.pl (.plus h b)::r,0,m=>iN r 0 (step w first m (.plus h b))
theorem tM:∀(ds:List (DF α)) (k:Nat) (m:M),iN w first rn ds k m=iN w first rn (ds.drop k) 0 m
 |[],k,m=>by simp[iN]
 |d::r,0,m=>by simp
 |d::r,k+1,m=>by rw[iN,tM r k m];rfl
end
def Dl:Nat->Type
 |0=>DF Empty
 |j+1=>DF (Dl j)
def Dl.u:(j:Nat)->Dl j->U
 |0,d=>DF.u (fun x=>nomatch x) d
 |j+1,d=>DF.u (Dl.u j) d
def DF.ok{α:Type}(n w:Int)(k:List α->Prop):DF α->Prop
 |.pl d=>d.ok n w
 |.tr a b=>k a/\k b
structure Wf(n:Int)(m:M):Prop where
 h4:m.hs.length=4
 pk:(m.ps.map (·.1)).Nodup
 pb:∀k∈m.ps.map (·.1),0<=k/\k<n
 lk:m.lk.Nodup
 lb:∀k∈m.lk,0<=k/\k<n
theorem few:∀(n:Nat) (l:List Int),l.Nodup->(∀k∈l,0<=k/\k<n)->l.length<=n
 |0,l,_,h=>by
  cases l with
  |nil=>simp
  |cons a r=>have:=h a (by simp);omega
 |n+1,l,nd,h=>by
  have ih:=few n (l.erase (n:Int)) (nd.erase _) fun k hk=>by
   have h1:=h k (List.mem_of_mem_erase hk)
   have h2:k≠(n:Int):=fun z=>by subst z;exact(nd.not_mem_erase) hk
   omega
  rw[List.length_erase]at ih
  split at ih<;>omega
theorem Wf.few{n:Int}{m:M}(h:Wf n m)(n0:0<=n)(n1:n<=6):m.ps.length<=6/\m.lk.length<=6:=by
 have a:=OQ.few n.toNat _ h.pk fun k hk=>by have:=h.pb k hk;omega
 have b:=OQ.few n.toNat _ h.lk fun k hk=>by have:=h.lb k hk;omega
 rw[List.length_map]at a
 omega
theorem BB{l:List Int}{b:Int}(h:l.Nodup):(BC l b).Nodup:=by
 unfold BC
 split
 ·exact h
 ·rename_i c
  rw[List.nodup_append]
  exact⟨h,by simp,fun x hx y hy z=>by simp at hy;subst hy;subst z;exact c hx⟩
theorem xy{l:List Int}{b k:Int}(h:k∈BC l b):k∈l\/k=b:=by
 unfold BC at h
 split at h
 ·exact .inl h
 ·simpa using h
theorem tR(b v:Int)(ps:List (Int×Int)):(jo ps b v).map (·.1)=BC (ps.map (·.1)) b:=by
 have ha:(ps.any fun kv=>decide (kv.1=b))=decide (b∈ps.map (·.1)):=by
  induction ps with
  |nil=>rfl
  |cons p r ih=>
   simp only[List.any_cons,ih,List.map_cons]
   by_cases e:p.1=b
   ·simp[e]
   ·simp[e,Ne.symm e]
 unfold jo BC
 rw[ha]
 by_cases c:b∈ps.map (·.1)
 ·rw[if_pos (decide_eq_true c),if_pos c,List.map_map]
  refine List.map_congr_left fun p _=>?_
  simp only[Function.comp]
  split<;>rfl
 ·rw[if_neg (by simpa using c),if_neg c]
  simp
theorem FY{n w:Int}{first:List Int}{m:M}{d:jW}(h:Wf n m)(od:d.ok n w):Wf n (step w first m d):=by
 cases d with
 |look g b=>
  obtain⟨_,_,b0,b1⟩:=od
  refine⟨by simpa [step] using h.h4,h.pk,h.pb,?_,?_⟩
  ·simp only[step];split
   ·exact h.lk
   ·exact BB h.lk
  ·simp only[step];split
   ·exact h.lb
   ·exact fun k hk=>(xy hk).elim (h.lb k) fun e=>by subst e;exact⟨b0,b1⟩
 |put b g=>
  obtain⟨b0,b1,b2,b3⟩:=od
  refine⟨h.h4,?_,?_,h.lk,h.lb⟩
  ·simp only[step];rw[tR];exact BB h.pk
  ·simp only[step];rw[tR]
   exact fun k hk=>(xy hk).elim (h.pb k) fun e=>by subst e;constructor<;>omega
 |set g v=>exact⟨by simpa [step] using h.h4,h.pk,h.pb,h.lk,h.lb⟩
 |plus g v=>exact⟨by simpa [step] using h.h4,h.pk,h.pb,h.lk,h.lb⟩
 |leap g k=>exact h
 |wait=>exact h
theorem gc{α:Type}{l:List α}{k:Nat}{x:α}(h:l[k]?=some x):k<l.length:=(List.getElem?_eq_some_iff.mp h).1
theorem aG{α:Type}{l r:List α}{k:Nat}{x:α}(h:l[k]?=some x):(l++r)[k]?=some x:=by rw[List.getElem?_append_left (gc h)];exact h
def pO(w:Int)(first:List Int):(j:Nat)->List (Dl j)->M->Bool×M
 |0,ds,m=>iN w first (fun _ m=>(true,m)) ds 0 m
 |j+1,ds,m=>iN w first (pO w first j) ds 0 m
def OkL(n w:Int):(j:Nat)->List (Dl j)->Prop
 |0,ds=>ds.length<=30/\∀d∈ds,DF.ok n w (fun _=>False) d
 |j+1,ds=>ds.length<=30/\∀d∈ds,DF.ok n w (OkL n w j) d
def m0:M:=⟨[0,0,0,0],[],[]⟩
theorem t7:∀lk:List Int,t8 (yn lk)=some lk
 |[]=>rfl
 |b::r=>by
  have ih:=t7 r
  unfold yn at ih ⊢
  simp only[List.map_cons,t8,ih,Option.map_some]
def beh(first:List Int)(ps:List (Int×Int))(k:Nat):List Int:=(first.zipIdx k).map fun p=>(bw ps (p.2:Int)).getD p.1
def told(r:Bool×M)(first:List Int)(l:Nat):U:=match r with
 |(true,m)=>.tup [.str "done",.tup ((beh first m.ps 0).map U.int),.tup (m.hs.map U.int)]
 |(false,_)=>.tup [.str "waits",.ref l]
theorem KJ{ls:List Nat}{S0 S':Sto}(len:S0.length<=S'.length)(old:∀l,l<S0.length->S'[l]?=S0[l]?):∃G,S'=S0++G:=by
 refine⟨S'.drop S0.length,List.ext_getElem? fun l=>?_⟩
 by_cases c:l<S0.length
 ·rw[old l c,List.getElem?_append_left c]
 ·rw[List.getElem?_append_right (by omega),List.getElem?_drop];congr 1;omega
theorem MN(b:Int):∀ps:List (Int×Int),decide (b∈ps.map (·.1))=(bw ps b).isSome
 |[]=>rfl
 |(k,v)::r=>by
  have ih:=MN b r
  unfold bw at ih ⊢
  simp only[List.map_cons,List.find?_cons]
  by_cases e:k=b
  ·subst e;simp
  ·rw[decide_eq_false e,<-ih]
   simp[Ne.symm e]
theorem FT(b v j:Int)(ps:List (Int×Int)):bw (jo ps b v) j=if j=b then some v else bw ps j:=by
 have e1:∀ps:List (Int×Int),bw ps j=(j9 (ps.map fun p=>(p.1,V.int p.2)) j).map fun x=>match x with|.int i=>i|_=>0:=fun ps=>by
  unfold bw j9
  induction ps with
  |nil=>rfl
  |cons p r ih=>
   simp only[List.map_cons,List.find?_cons]
   by_cases e:p.1=j
   ·simp[e]
   ·rw[decide_eq_false e];exact ih
 have e2:(jo ps b v).map (fun p=>(p.1,V.int p.2))=qA (ps.map fun p=>(p.1,V.int p.2)) b (.int v):=by
  unfold jo qA
  have:(ps.map fun p=>(p.1,V.int p.2)).any (fun kv=>decide (kv.1=b))=ps.any fun kv=>decide (kv.1=b):=by rw[List.any_map];rfl
  rw[this]
  split
  ·rw[List.map_map,List.map_map]
   refine List.map_congr_left fun p _=>?_
   simp only[Function.comp]
   split<;>rfl
  ·simp
 rw[e1,e2,B8]
 split
 ·rfl
 ·exact(e1 ps).symm
theorem vJ(first:List Int)(ps:List (Int×Int))(k:Nat):(beh first ps k).length=first.length:=by simp[beh]
theorem HF(first:List Int)(ps:List (Int×Int))(k i:Nat)(h:i<first.length):(beh first ps k)[i]?=some ((bw ps ((k+i:Nat):Int)).getD (first.getD i 0)):=by
 unfold beh
 rw[List.getElem?_map,List.getElem?_zipIdx,List.getElem?_eq_getElem h]
 simp[List.getD_eq_getElem?_getD,List.getElem?_eq_getElem h]
section
variable{w:Int}{first:List Int}{i ls lo lh ll:Nat}{m:M}{S:Sto}
theorem Cg{α:Type}{l:List α}{k:Nat}{x:α}(h:l[k]?=some x):l.set k x=l:=by
 refine List.ext_getElem? fun j=>?_
 by_cases c:k=j
 ·subst c;rw[List.getElem?_set_self (gc h),h]
 ·rw[List.getElem?_set_ne c]
end
theorem Fl{x:U}{S:Sto}:KN x .non S=some (.bl (rR x),S):=rfl
section
variable{α:Type}{n w:Int}{f:α->U}{k:List α->Prop}{s:List α->Int}
def szF(s:List α->Int):List (DF α)->Int
 |[]=>0
 |.pl _::r=>1+szF s r
 |.tr a b::r=>1+s a+s b+szF s r
theorem rj(s:List α->Int):∀(x y:List (DF α)),szF s (x++y)=szF s x+szF s y
 |[],y=>by simp[szF]
 |.pl d::r,y=>by simp only[List.cons_append,szF,rj s r y];omega
 |.tr a b::r,y=>by simp only[List.cons_append,szF,rj s r y];omega
def HsT(fs:Fn)(f:α->U)(k:List α->Prop)(s:List α->Int):Prop:=∀(a:List α) (S:Sto),k a->fs [.tup (a.map f)] S=some (.int (s a),S)
def xC(fs:Fn):Fn:=fnU 3 1 (g9 fs)
theorem oB{fs:Fn}(Hs:HsT fs f k s)(x:U):∀(ds:List (DF α)) (many:Int) (r2:Option U) (S:Sto),(∀d∈ds,d.ok n w k)->
  ∃r2',eK (fun _=>True) (gNm 2) (gJ fs) (ds.map (DF.u f)) [some x,some (.int many),r2] S=some (.nx,[some x,some (.int (many+szF s ds)),r2'],S)
 |[],many,r2,S,_=>⟨r2,by simp only[szF,Int.add_zero,List.map_nil];exact fU trivial⟩
 |d::r,many,r2,S,oa=>by
  have od:=oa d List.mem_cons_self
  cases d with
  |pl d=>
   obtain⟨r2',ih⟩:=oB Hs x r (many+1) (some d.u) S fun y hy=>oa y (List.mem_cons_of_mem _ hy)
   have e:many+szF s (.pl d::r)=many+1+szF s r:=by simp only[szF];omega
   rw[e]
   refine⟨r2',(dn trivial rfl ?_).trans ih⟩
   have h0:∃y rr,d.u=.tup (.str y::rr)/\decide (y=("try":Str))=false:=by
    cases d<;>first|exact⟨_,_,rfl,ke⟩|exact⟨_,_,rfl,lQ⟩|exact⟨_,_,rfl,lO⟩|exact⟨_,_,rfl,kc⟩|exact⟨_,_,rfl,by decide +kernel⟩
   obtain⟨y,rr,e0,e1⟩:=h0
   simp only[DF.u]
   rw[e0]
   rwa[gJ,e1]
  |tr a b=>
   obtain⟨ka,kb⟩:=od
   obtain⟨r2',ih⟩:=oB Hs x r (many+1+s a+s b) (some (DF.u f (.tr a b))) S fun y hy=>oa y (List.mem_cons_of_mem _ hy)
   have e:many+szF s (.tr a b::r)=many+1+s a+s b+szF s r:=by simp only[szF];omega
   rw[e]
   refine⟨r2',(dn trivial rfl ?_).trans ih⟩
   rwa[gJ,DF.u,Hs a _ ka,Hs b _ kb,SNX]
theorem uR{fs:Fn}(Hs:HsT fs f k s)(ds:List (DF α))(S:Sto)(oa:∀d∈ds,d.ok n w k):xC fs [.tup (ds.map (DF.u f))] S=some (.int (szF s ds),S):=by
 unfold xC
 rw[vC]
 obtain⟨r2,e⟩:=oB Hs (.tup (ds.map (DF.u f))) ds 0 none S oa
 rw[Int.zero_add]at e
 rwa[g9,lJ,iTp,e]
end
def yv:Nat->Fn
 |0=>xC fun _ _=>none
 |j+1=>xC (yv j)
def F8:(j:Nat)->List (Dl j)->Int
 |0,ds=>szF (fun _=>0) ds
 |j+1,ds=>szF (F8 j) ds
theorem rB{n w:Int}:∀J j:Nat,j<=J->HsT (yv J) (Dl.u j) (OkL n w j) (F8 j)
 |0,0,_=>fun a S ka=>uR (n:=n) (w:=w) (k:=fun _=>False) (fun _ _ z=>z.elim) a S ka.2
 |J+1,0,_=>fun a S ka=>uR (n:=n) (w:=w) (k:=fun _=>False) (fun _ _ z=>z.elim) a S ka.2
 |J+1,j+1,h=>fun a S ka=>uR (n:=n) (w:=w) (rB J j (by omega)) a S ka.2
section
variable{α:Type}{f:α->U}{k:List α->Prop}{s:List α->Int}
def HdT(n w t:Int)(fd:Fn)(f:α->U)(k:List α->Prop)(s:List α->Int):Prop:=∀(ns:List Int) (T:Sto) (a c room:Int),0<=a->0<=c->0<=room->room<=40->
 ∃(ds:List α) (a' c':Int) (G:Sto),fd [.ref 1,.tup [.int n,.int w],.int room,.int t] (scr ns::pen a c::T)=some (.tup (ds.map f),scr ns::pen a' c'::(T++G))/\k ds/\s ds<=room/\0<=s ds/\0<=a'/\0<=c'/\ds.length<=12
def jZ(ao bb aD aN:Fn):CS:=
 (gx (su (aQ (cOp fGt (ah 5) (cC (.int 0)))) (su (aQ (cOp fLt (cCB ky (ae (ah 4) aE)) (cC (.int 12)))) (aQ (cOp fLt (ah 7) (cC (.int 13)))))) (bu (dB (cBM bY (ah 4) (ae (cCB bb (ae (ah 0) (ae (ah 1) (ae (ah 7) (ae (ah 8) aE))))) aE)))
  (cP 5 (cOp qN (ah 5) (cC (.int 1))))) (gx (su (aQ (cOp fGt (ah 5) (cC (.int 0)))) (su (aQ (cOp fLt (cCB ky (ae (ah 4) aE)) (cC (.int 12)))) (cOr (aQ (cOp fEq (ah 7) (cC (.int 13)))) (aQ (cOp fEq (ah 3) (cC (.int 0))))))) (bu (gx (su (aQ (cOp fGt (ah 5) (cC (.int 1)))) (su (aQ (cOp fLt (cCB ky (ae (ah 4) aE)) (cC (.int 11)))) (aQ (cOp fGt (cCB ao (ae (ah 0) (ae (cC (.int 4)) aE))) (cC (.int 0)))))) (bu (dB (cBM bY (ah 4) (ae (fE (ae (cC (.str "leap")) (ae (ah 8) (ae (cC (.int 1)) aE)))) aE)))
  (cP 5 (cOp qN (ah 5) (cC (.int 1))))) dv)
  (bu (dB (cBM bY (ah 4) (ae (fE (ae (cC (.str "wait")) aE)) aE)))
  (cP 5 (cOp qN (ah 5) (cC (.int 1)))))) (gx (su (aQ (cOp fGt (ah 5) (cC (.int 0)))) (aQ (cOp fLt (cCB ky (ae (ah 4) aE)) (cC (.int 12))))) (bu (cP 9 (cCB aD (ae (ah 0) (ae (ah 1) (ae (cCB ao (ae (ah 0) (ae (ah 5) aE))) (ae (cOp qN (ah 3) (cC (.int 1))) aE))))))
  (bu (cP 5 (cOp qN (cOp qN (ah 5) (cC (.int 1))) (cCB aN (ae (ah 9) aE))))
  (bu (cP 10 (cCB aD (ae (ah 0) (ae (ah 1) (ae (cCB ao (ae (ah 0) (ae (cOp iO (ah 5) (cC (.int 1))) aE))) (ae (cOp qN (ah 3) (cC (.int 1))) aE))))))
  (bu (cP 5 (cOp qN (ah 5) (cCB aN (ae (ah 10) aE))))
  (dB (cBM bY (ah 4) (ae (fE (ae (cC (.str "try")) (ae (ah 9) (ae (ah 10) aE)))) aE))))))) dv)))
theorem K5{f g h i:Fn}:eC f g h i=bu (cP 7 (cCB f (ae (ah 0) (ae (cC (.int 16)) aE)))) (bu (cP 8 (cCB f (ae (ah 0) (ae (cC (.int 4)) aE)))) (jZ f g h i)):=rfl
theorem d0(ns:List Int)(T:Sto){n w room t:Int}{fd fs:Fn}(Hs:HsT fs f k s)(Hd:t≠0->HdT n w (t-1) fd f k s)(n0:1<=n)(n1:n<=6)(w0:2<=w)(w1:w<=1000)(rm:room<=40):∀(us:List U) (r6 r7 r8 r9 r10:Option U) (left:Int) (ds:List (DF α)) (G:Sto) {a c:Int},0<=a->0<=c->ds.length<=12->(∀d∈ds,d.ok n w k)->0<=left->szF s ds+left<=room->0<=szF s ds->
  ∃(ds':List (DF α)) (ρ:Rho) (a' c':Int) (G':Sto),eK (fun _=>True) (gNm 6) (eC gy mw fd fs) us [some (.ref 1),some (.tup [.int n,.int w]),some (.int room),some (.int t),some (.ref (T.length+1+1)),some (.int left),r6,r7,r8,r9,r10] (scr ns::pen a c::(T++.lst (ds.map (DF.u f))::G))
   = some (.nx,some (.ref 1)::some (.tup [.int n,.int w])::some (.int room)::some (.int t)::some (.ref (T.length+1+1))::ρ,scr ns::pen a' c'::(T++.lst (ds'.map (DF.u f))::G'))/\ds'.length<=12/\(∀d∈ds',d.ok n w k)/\szF s ds'<=room/\0<=szF s ds'/\0<=a'/\0<=c'
 |[],r6,r7,r8,r9,r10,left,ds,G,a,c,ha,hc,hl,hd,l0,sz,s0=>⟨ds,_,a,c,G,by simp[eK];rfl,hl,hd,by omega,s0,ha,hc⟩
 |u::us,r6,r7,r8,r9,r10,left,ds,G,a,c,ha,hc,hl,hd,l0,sz,s0=>by
  obtain⟨f1,a1,c1,e1,p1,q1,ha1,hc1⟩:=dG ns (T++.lst (ds.map (DF.u f))::G) (m:=16) ha hc (by decide) (by decide +kernel)
  obtain⟨f2,a2,c2,e2,p2,q2,ha2,hc2⟩:=dG ns (T++.lst (ds.map (DF.u f))::G) (m:=4) ha1 hc1 (by decide) (by decide +kernel)
  have pre:eC gy mw fd fs [some (.ref 1),some (.tup [.int n,.int w]),some (.int room),some (.int t),some (.ref (T.length+1+1)),some (.int left),some u,r7,r8,r9,r10] (scr ns::pen a c::(T++.lst (ds.map (DF.u f))::G))
    = jZ gy mw fd fs [some (.ref 1),some (.tup [.int n,.int w]),some (.int room),some (.int t),some (.ref (T.length+1+1)),some (.int left),some u,some (.int f1),some (.int f2),r9,r10] (scr ns::pen a2 c2::(T++.lst (ds.map (DF.u f))::G)):=by
   rw[K5]
   rwa[e1,e2]
  by_cases hL:0<left
  case neg=>
   obtain⟨ds',ρ,a',c',G',h,kk⟩:=d0 ns T (room:=room) (t:=t) (fd:=fd) (fs:=fs) Hs Hd n0 n1 w0 w1 rm us (some u) (some (.int f1)) (some (.int f2)) r9 r10 left ds G ha2 hc2 hl hd l0 sz s0
   exact⟨ds',ρ,a',c',G',(dn trivial rfl (pre.trans (by rwa[jZ,hL]))).trans h,kk⟩
  by_cases hN:(ds.length:Int)<12
  case neg=>
   obtain⟨ds',ρ,a',c',G',h,kk⟩:=d0 ns T (room:=room) (t:=t) (fd:=fd) (fs:=fs) Hs Hd n0 n1 w0 w1 rm us (some u) (some (.int f1)) (some (.int f2)) r9 r10 left ds G ha2 hc2 hl hd l0 sz s0
   exact⟨ds',ρ,a',c',G',(dn trivial rfl (pre.trans (by rwa[jZ,hL,hN,List.length_map]))).trans h,kk⟩
  have hlm:(ds.map (DF.u f)).length<LIM:=by unfold LIM;simp;omega
  have okd:∀{ds:List (DF α)} {d:DF α},(∀d∈ds,d.ok n w k)->d.ok n w k->∀x∈ds++[d],x.ok n w k:=fun h1 h2 x hx=>by
   rcases List.mem_append.mp hx with z|z
   ·exact h1 x z
   ·simp at z;subst z;exact h2
  have s1:∀(x:List (DF α)) (d:jW),szF s (x++[.pl d])=szF s x+1:=fun x d=>by rw[rj];simp[szF]
  by_cases hW:f1<13
  ·obtain⟨d,a3,c3,G3,e3,od,ha3,hc3⟩:=CD ns (T++.lst (ds.map (DF.u f))::G) ha2 hc2 n0 n1 w0 w1 p1 p2 q2
   obtain⟨ds',ρ,a',c',G',h,kk⟩:=d0 ns T (room:=room) (t:=t) (fd:=fd) (fs:=fs) Hs Hd n0 n1 w0 w1 rm us (some u) (some (.int f1)) (some (.int f2)) r9 r10 (left-1) (ds++[.pl d]) (G++G3) ha3 hc3 (by simp;omega) (okd hd (show DF.ok n w k (.pl d)from od)) (by omega) (by rw[s1];omega) (by rw[s1];omega)
   simp only[List.map_append,List.map_cons,List.map_nil,DF.u]at h
   exact⟨ds',ρ,a',c',G',(dn trivial rfl (pre.trans (by rwa[jZ,e3,hL,hN,hW,jj hlm,List.length_map]))).trans h,kk⟩
  ·have wt:DF.u f (.pl .wait)=U.tup [.str "wait"]:=rfl
   obtain⟨bE,hE⟩:∃b,decide (f1=13)=b:=⟨_,rfl⟩
   obtain⟨bT,hT⟩:∃b,decide (t=0)=b:=⟨_,rfl⟩
   by_cases hX:bE=false/\bT=false
   ·obtain⟨rfl,rfl⟩:=hX
    have tz:t≠0:=of_decide_eq_false hT
    obtain⟨f3,a3,c3,e3,p3,q3,ha3,hc3⟩:=dG ns (T++.lst (ds.map (DF.u f))::G) (m:=left) ha2 hc2 hL (l9 (by omega) (by omega))
    obtain⟨A,a4,c4,G4,e4,kA,sA,sA0,ha4,hc4,_⟩:=Hd tz ns (T++.lst (ds.map (DF.u f))::G) a3 c3 f3 ha3 hc3 p3 (by omega)
    obtain⟨f5,a5,c5,e5,p5,q5,ha5,hc5⟩:=dG ns (T++.lst (ds.map (DF.u f))::(G++G4)) (m:=left-1-s A+1) ha4 hc4 (by omega) (l9 (by omega) (by omega))
    obtain⟨B,a6,c6,G6,e6,kB,sB,sB0,ha6,hc6,_⟩:=Hd tz ns (T++.lst (ds.map (DF.u f))::(G++G4)) a5 c5 f5 ha5 hc5 p5 (by omega)
    have s2:szF s (ds++[.tr A B])=szF s ds+1+s A+s B:=by rw[rj];simp only[szF];omega
    obtain⟨ds',ρ,a',c',G',h,kk⟩:=d0 ns T (room:=room) (t:=t) (fd:=fd) (fs:=fs) Hs Hd n0 n1 w0 w1 rm us (some u) (some (.int f1)) (some (.int f2)) (some (.tup (A.map f))) (some (.tup (B.map f))) (left-1-s A-s B) (ds++[.tr A B]) (G++(G4++G6)) ha6 hc6 (by simp;omega) (okd hd (show DF.ok n w k (.tr A B)from⟨kA,kB⟩)) (by omega) (by rw[s2];omega) (by rw[s2];omega)
    simp only[List.map_append,List.map_cons,List.map_nil,DF.u]at h
    simp only[List.append_assoc,List.cons_append]at e4 e6
    exact⟨ds',ρ,a',c',G',(dn trivial rfl (pre.trans (by rwa[jZ,e3,e4,e5,e6,Hs A _ kA,Hs B _ kB,hL,hN,hW,hE,hT,jj hlm,List.length_map]))).trans h,kk⟩
   have hO:(bE||bT)=true:=by cases bE<;>cases bT<;>simp_all
   have hC:∀S':Sto,(cOr (aQ (cOp fEq (ah 7) (cC (.int 13)))) (aQ (cOp fEq (ah 3) (cC (.int 0))))) [some (.ref 1),some (.tup [.int n,.int w]),some (.int room),some (.int t),some (.ref (T.length+1+1)),some (.int left),some u,some (.int f1),some (.int f2),r9,r10] S'=some (true,S'):=fun S'=>by
    cases bE<;>cases bT<;>first|(exact absurd hO (by decide))|rwa[hE,hT]
   by_cases hM:1<left
   case neg=>
    obtain⟨ds',ρ,a',c',G',h,kk⟩:=d0 ns T (room:=room) (t:=t) (fd:=fd) (fs:=fs) Hs Hd n0 n1 w0 w1 rm us (some u) (some (.int f1)) (some (.int f2)) r9 r10 (left-1) (ds++[.pl .wait]) G ha2 hc2 (by simp;omega) (okd hd (show DF.ok n w k (.pl .wait)from trivial)) (by omega) (by rw[s1];omega) (by rw[s1];omega)
    simp only[List.map_append,List.map_cons,List.map_nil]at h
    refine⟨ds',ρ,a',c',G',(dn trivial rfl ?_).trans h,kk⟩
    refine pre.trans ?_
    rwa[jZ,hC,hL,hN,hW,hM,wt,jj hlm,List.length_map]
   by_cases hK:(ds.length:Int)<11
   case neg=>
    obtain⟨ds',ρ,a',c',G',h,kk⟩:=d0 ns T (room:=room) (t:=t) (fd:=fd) (fs:=fs) Hs Hd n0 n1 w0 w1 rm us (some u) (some (.int f1)) (some (.int f2)) r9 r10 (left-1) (ds++[.pl .wait]) G ha2 hc2 (by simp;omega) (okd hd (show DF.ok n w k (.pl .wait)from trivial)) (by omega) (by rw[s1];omega) (by rw[s1];omega)
    simp only[List.map_append,List.map_cons,List.map_nil]at h
    refine⟨ds',ρ,a',c',G',(dn trivial rfl ?_).trans h,kk⟩
    refine pre.trans ?_
    rwa[jZ,hC,hL,hN,hW,hM,hK,wt,jj hlm,List.length_map]
   obtain⟨f3,a3,c3,e3,p3,q3,ha3,hc3⟩:=dG ns (T++.lst (ds.map (DF.u f))::G) (m:=4) ha2 hc2 (by decide) (by decide +kernel)
   by_cases hZ:0<f3
   ·have lp:DF.u f (.pl (.leap f2 1))=U.tup [.str "leap",.int f2,.int 1]:=rfl
    have hlm2:(ds.map (DF.u f)++[U.tup [.str "leap",.int f2,.int 1]]).length<LIM:=by unfold LIM;simp;omega
    obtain⟨ds',ρ,a',c',G',h,kk⟩:=d0 ns T (room:=room) (t:=t) (fd:=fd) (fs:=fs) Hs Hd n0 n1 w0 w1 rm us (some u) (some (.int f1)) (some (.int f2)) r9 r10 (left-1-1) (ds++[.pl (.leap f2 1)]++[.pl .wait]) G ha3 hc3 (by simp;omega) (okd (okd hd (show DF.ok n w k (.pl (.leap f2 1))from⟨p2,q2,by omega,by omega⟩)) (show DF.ok n w k (.pl .wait)from trivial)) (by omega) (by rw[s1,s1];omega) (by rw[s1,s1];omega)
    simp only[List.map_append,List.map_cons,List.map_nil]at h
    refine⟨ds',ρ,a',c',G',(dn trivial rfl ?_).trans h,kk⟩
    refine pre.trans ?_
    rwa[jZ,hC,e3,hL,hN,hW,hM,hK,hZ,lp,wt,jj hlm,jj hlm2,List.length_map]
   ·obtain⟨ds',ρ,a',c',G',h,kk⟩:=d0 ns T (room:=room) (t:=t) (fd:=fd) (fs:=fs) Hs Hd n0 n1 w0 w1 rm us (some u) (some (.int f1)) (some (.int f2)) r9 r10 (left-1) (ds++[.pl .wait]) G ha3 hc3 (by simp;omega) (okd hd (show DF.ok n w k (.pl .wait)from trivial)) (by omega) (by rw[s1];omega) (by rw[s1];omega)
    simp only[List.map_append,List.map_cons,List.map_nil]at h
    refine⟨ds',ρ,a',c',G',(dn trivial rfl ?_).trans h,kk⟩
    refine pre.trans ?_
    rwa[jZ,hC,e3,hL,hN,hW,hM,hK,hZ,wt,jj hlm,List.length_map]
theorem nI{n w t:Int}{fd fs:Fn}(Hs:HsT fs f k s)(Hd:t≠0->HdT n w (t-1) fd f k s)(n0:1<=n)(n1:n<=6)(w0:2<=w)(w1:w<=1000):HdT n w t (xG fd fs) (DF.u f) (fun ds=>ds.length<=30/\∀d∈ds,DF.ok n w k d) (szF s):=by
 intro ns T a c room ha hc r0 r1
 unfold xG
 rw[p9]
 have hm:M5 [.int 12,.int room]=fun S=>some (.int (if room<12 then room else 12),S):=rfl
 have hk:0<=(if room<12 then room else 12)/\(if room<12 then room else 12)<=12:=by split<;>omega
 generalize (if room<12 then room else 12)=mm at hm hk
 obtain⟨f1,a1,c1,e1,p1,q1,ha1,hc1⟩:=dG ns (T++[.lst []]) (m:=mm+1) ha hc (by omega) (l9 (by omega) (by omega))
 obtain⟨ds,ρ,a',c',G,h,k1,k2,k3,k4,k5,k6⟩:=d0 ns T (room:=room) (t:=t) (fd:=fd) (fs:=fs) Hs Hd n0 n1 w0 w1 r1 (d7 0 f1.toNat) none none none none none room [] [] ha1 hc1 (by simp) (by simp) r0 (by simp[szF]) (by simp[szF])
 refine⟨ds,a',c',.lst (ds.map (DF.u f))::G,?_,⟨by omega,k2⟩,k3,k4,k5,k6,k1⟩
 have hr:-(2^62)<=f1/\f1<2^62:=by omega
 simp only[List.map_nil]at h
 rwa[ej,lJ,gY,hm,e1,hr,h,if_true,and_self]
end
def qe:Nat->Fn
 |0=>xG (fun _ _=>none) fun _ _=>none
 |j+1=>xG (qe j) (yv j)
theorem xk{n w:Int}(n0:1<=n)(n1:n<=6)(w0:2<=w)(w1:w<=1000):∀(J j t:Nat),t<=j->j<=J->HdT n w t (qe J) (Dl.u j) (OkL n w j) (F8 j)
 |0,0,0,_,_=>nI (k:=fun _=>False) (fun _ _ z=>z.elim) (fun z=>absurd rfl z) n0 n1 w0 w1
 |J+1,0,0,_,_=>nI (k:=fun _=>False) (fun _ _ z=>z.elim) (fun z=>absurd rfl z) n0 n1 w0 w1
 |J+1,j+1,0,_,h=>nI (rB J j (by omega)) (fun z=>absurd rfl z) n0 n1 w0 w1
 | J+1,j+1,t+1,h,h'=>nI (rB J j (by omega)) (fun _=>by
   have e:((t+1:Nat):Int)-1=(t:Int):=by omega
   rw[e];exact xk n0 n1 w0 w1 J j t (by omega) (by omega)) n0 n1 w0 w1
theorem xJ{x:U}{S:Sto}:sd x .non S=some (.bl (!rR x),S):=rfl
theorem xf:rR .non=true:=rfl
theorem Au{us:List U}:rR (.tup us)=false:=rfl
theorem KA{i:Int}:rR (.int i)=false:=rfl
theorem Ms{us:List U}{k:Nat}{S:Sto}(h:k<us.length):fSl (.tup us) none (some (k:Int)) S=some (.tup (us.take k),S):=by
 have e:HT.sIx us.length us.length (some (k:Int))=k:=by rw[HT.sIx_nat];omega
 simp only[fSl,HT.sIx_none,e,EW,List.drop_zero,Nat.sub_zero]
 rw[if_neg (by omega)]
theorem F7{us:List U}{k:Nat}{S:Sto}(h0:0<k)(h:k<=us.length):fSl (.tup us) (some (k:Int)) none S=some (.tup (us.drop k),S):=by
 have e:HT.sIx us.length 0 (some (k:Int))=k:=by rw[HT.sIx_nat];omega
 simp only[fSl,HT.sIx_none,e,EW]
 rw[if_neg (by omega),List.take_of_length_le (by simp)]
theorem F6{c:CE}{ρ:Rho}{S S':Sto}{i:Int}(h:c ρ S=some (.int i,S')):vH (some c) ρ S=some (some i,S'):=by simp only[vH,h,Option.bind_some]
def xB:Fn:=fnU 3 3 jI
theorem yW{us:List U}{k:Int}{v:U}{S:Sto}(k0:0<=k)(h:k<us.length)(hl:us.length<=50):xB [.tup us,.int k,v] S=some (.tup (us.set k.toNat v),S):=by
 unfold xB
 rw[AW]
 have ek:k=((k.toNat:Nat):Int):=by omega
 have hk:k.toNat<us.length:=by omega
 have e1:k+1=((k.toNat+1:Nat):Int):=by omega
 have a1:fSl (.tup us) none (some k) S=some (.tup (us.take k.toNat),S):=by rw[ek];exact Ms hk
 have a2:fSl (.tup us) (some (k+1)) none S=some (.tup (us.drop (k.toNat+1)),S):=by rw[e1];exact F7 (by omega) (by omega)
 have b1:iO (.tup (us.take k.toNat)) (.tup [v]) S=some (.tup (us.take k.toNat++[v]),S):=by
  unfold iO;simp only;rw[if_pos (by simp;unfold LIM;omega)]
 have b2:iO (.tup (us.take k.toNat++[v])) (.tup (us.drop (k.toNat+1))) S=some (.tup (us.take k.toNat++[v]++us.drop (k.toNat+1)),S):=by
  unfold iO;simp only;rw[if_pos (by simp;unfold LIM;omega)]
 rw[List.set_eq_take_append_cons_drop,if_pos hk]
 rwa[jI,cSl,vH,a1,a2,b1,b2]
def pt(ds:List U)(q:Int)(A B:U):U:=.tup [.tup ds,.int q,A,B]
inductive Onw:Nat->U->U->Prop
 |stop {d:Nat} {ds:List U} {q:Int} {A B:U}:q<ds.length->Onw d (pt ds q A B) (pt ds q A B)
 |top {d:Nat} {ds:List U} {q:Int} {B:U}:Onw d (pt ds q .non B) (pt ds q .non B)
 |up {d:Nat} {ds ds':List U} {q q':Int} {A' B B' y:U}:(ds.length:Int)<=q->Onw d (pt ds' q' A' B') y->Onw (d+1) (pt ds q (pt ds' q' A' B') B) y
def yx:Fn:=fnU 2 1 (jK 100)
theorem C6{F:Nat}{d:Nat}{x y:U}{S:Sto}{r:Option U}(h:Onw d x y):∀(fuel:Nat),d<fuel->
  eZ (su (aQ (cOp fGe (cOp fIx (ah 1) (cC (.int 1))) (cCB ky (ae (cOp fIx (ah 1) (cC (.int 0))) aE)))) (aQ (cOp sd (cOp fIx (ah 1) (cC (.int 2))) (cC .non)))) (kq F) fuel [r,some x] S=some (.nx,[r,some y],S):=by
 induction h with
 |@stop d ds q A B h=>
  intro fuel hf
  obtain⟨f,rfl⟩:∃f,fuel=f+1:=⟨fuel-1,by omega⟩
  have c:¬(ds.length:Int)<=q:=by omega
  refine nO ?_
  unfold pt
  rwa[c]
 |@top d ds q B=>
  intro fuel hf
  obtain⟨f,rfl⟩:∃f,fuel=f+1:=⟨fuel-1,by omega⟩
  refine nO ?_
  unfold pt
  by_cases c:(ds.length:Int)<=q
  ·rwa[c,xJ,xf]
  ·rwa[c]
 |@up d ds ds' q q' A' B B' y h _ ih=>
  intro fuel hf
  obtain⟨f,rfl⟩:∃f,fuel=f+1:=⟨fuel-1,by omega⟩
  refine(v7 (ρ1:=[r,some (pt ds' q' A' B')]) (S1:=S) (S0:=S) ?_ ?_).trans (ih f (by omega))
  ·unfold pt
   rwa[h,xJ,Au]
  ·unfold pt
   rwa[kq]
theorem wJ{d:Nat}{x y:U}{S:Sto}(h:Onw d x y)(hd:d<100):yx [x] S=some (y,S):=by
 unfold yx
 rw[AY]
 rwa[jK,C6 h 100 hd]
def vx(n:Nat)(ps:List (Int×Int)):List U:=(List.range n).map fun b:Nat=>((bw ps (b:Int)).map U.int).getD .non
theorem lD{n:Nat}{ps:List (Int×Int)}:(vx n ps).length=n:=by simp[vx]
theorem AS{n:Nat}{ps:List (Int×Int)}{b:Int}(b0:0<=b)(b1:b<n):atI (vx n ps) b=some (((bw ps b).map U.int).getD .non):=by
 refine pH b0 ?_
 unfold vx
 rw[List.getElem?_map,List.getElem?_range (by omega)]
 have:((b.toNat:Nat):Int)=b:=by omega
 simp[this]
theorem DJ{n:Nat}{ps:List (Int×Int)}{b v:Int}(b0:0<=b)(b1:b<n):(vx n ps).set b.toNat (.int v)=vx n (jo ps b v):=by
 refine List.ext_getElem? fun i=>?_
 by_cases hi:i<n
 ·rw[List.getElem?_set,lD]
  unfold vx
  rw[List.getElem?_map,List.getElem?_map,List.getElem?_range hi]
  simp only[Option.map_some,FT]
  by_cases e:b.toNat=i
  ·have:(i:Int)=b:=by omega
   rw[if_pos e,if_pos (by omega),this,if_pos rfl];rfl
  ·rw[if_neg e,if_neg (by omega)]
 ·rw[List.getElem?_eq_none (by rw[List.length_set,lD];omega),List.getElem?_eq_none (by rw[lD];omega)]
theorem DK{n:Nat}:vx n []=List.replicate n .non:=by
 unfold vx
 refine List.ext_getElem? fun i=>?_
 by_cases hi:i<n
 ·rw[List.getElem?_map,List.getElem?_range hi,List.getElem?_replicate,if_pos hi];rfl
 ·rw[List.getElem?_eq_none (by simp;omega),List.getElem?_eq_none (by simp;omega)]
def dO(cD:Cl)(w:Int)(n:Nat)(m:M)(x:U):O:=.ins cD [some (.int w),some (.tup (m.hs.map U.int)),some (.tup (vx n m.ps)),some x]
structure Cf(cD:Cl)(w:Int)(n i ll:Nat)(m:M)(x:U)(S:Sto):Prop where
 ei:S[i]?=some (dO cD w n m x)
 el:S[ll]?=some (.dic (yn m.lk))
structure Kp(ls:List Nat)(S S':Sto):Prop where
 len:S'.length=S.length
 old:∀l,l∉ls->S'[l]?=S[l]?
theorem Kp.refl{ls:List Nat}{S:Sto}:Kp ls S S:=⟨rfl,fun _ _=>rfl⟩
theorem Kp.set{ls:List Nat}{S:Sto}{l:Nat}{o:O}(h:l∈ls):Kp ls S (S.set l o):=⟨by simp,fun k hk=>by rw[List.getElem?_set_ne (fun z=>hk (by subst z;exact h))]⟩
theorem Kp.trans{ls:List Nat}{S S' S'':Sto}(a:Kp ls S S')(b:Kp ls S' S''):Kp ls S S'':=⟨b.len.trans a.len,fun l hn=>by rw[b.old l hn,a.old l hn]⟩
section
variable{cD:Cl}{w:Int}{n i ll:Nat}{m:M}{x A B:U}{S:Sto}{ds:List U}{q:Int}
theorem Cf.ne(h:Cf cD w n i ll m x S):i≠ll:=fun z=>by have a:=h.ei;have b:=h.el;rw[z,b]at a;cases a
theorem Cf.setI(h:Cf cD w n i ll m x S)(hs:List Int)(ps:List (Int×Int))(y:U):Cf cD w n i ll ⟨hs,ps,m.lk⟩ y (S.set i (dO cD w n ⟨hs,ps,m.lk⟩ y)):=
 ⟨List.getElem?_set_self (gc h.ei),by rw[List.getElem?_set_ne h.ne];exact h.el⟩
theorem Cf.setL(h:Cf cD w n i ll m x S)(lk:List Int):Cf cD w n i ll ⟨m.hs,m.ps,lk⟩ x (S.set ll (.dic (yn lk))):=
 ⟨by rw[List.getElem?_set_ne (Ne.symm h.ne)];exact h.ei,List.getElem?_set_self (gc h.el)⟩
def j4(cD:Cl):Fn:=fnU 1 1 (eS cD)
theorem jE{u:U}(h:Cf cD w n i ll m (pt ds q A B) S)(q0:0<=q)(hu:ds[q.toNat]?=some u):j4 cD [.ref i] S=some (u,S):=by
 unfold j4
 rw[ng]
 have hl:=gc hu
 have c:¬(ds.length:Int)<=q:=by omega
 have ha:atI ds q=some u:=pH q0 hu
 have e:=h.ei
 unfold dO pt at e
 rwa[eS,e,c,ha]
theorem DR(h:Cf cD w n i ll m (pt ds q A B) S)(hq:(ds.length:Int)<=q):j4 cD [.ref i] S=some (.non,S):=by
 unfold j4
 rw[ng]
 have e:=h.ei
 unfold dO pt at e
 rwa[eS,e,hq]
def xD(cD:Cl):Fn:=fnU 3 3 (gu xB cD)
theorem rV{k v:Int}(h:Cf cD w n i ll m x S)(h4:m.hs.length=4)(k0:0<=k)(k1:k<4):xD cD [.ref i,.int k,.int v] S=some (.non,S.set i (dO cD w n ⟨m.hs.set k.toNat v,m.ps,m.lk⟩ x)):=by
 unfold xD
 rw[uu]
 have e:=h.ei
 unfold dO at e ⊢
 have hw:=yW (us:=m.hs.map U.int) (v:=.int v) (S:=S) k0 (by simp;omega) (by simp;omega)
 rw[map_set]at hw
 rwa[gu,e,hw]
def Ls(cD:Cl):Fn:=fnU 3 2 (cy cD)
theorem JZ{k:Int}(h:Cf cD w n i ll m (pt ds q A B) S):Ls cD [.ref i,.int k] S=some (pt ds (q+1+k) A B,S):=by
 unfold Ls
 rw[ko]
 have e:=h.ei
 unfold dO pt at e
 unfold pt
 rwa[cy,e]
def Lu(cD:Cl):Fn:=fnU 2 2 (dc yx (Ls cD) cD)
theorem yh{k:Int}{d:Nat}{y:U}(h:Cf cD w n i ll m (pt ds q A B) S)(ho:Onw d (pt ds (q+1+k) A B) y)(hd:d<100):Lu cD [.ref i,.int k] S=some (.non,S.set i (dO cD w n m y)):=by
 unfold Lu
 rw[mi]
 have e:=h.ei
 have ep:=JZ (k:=k) h
 have eo:=wJ (S:=S) ho hd
 unfold dO at e ⊢
 rwa[dc,e,ep,eo]
def xE(cD:Cl):Fn:=fnU 2 2 (gw (xD cD) (j4 cD) (Lu cD) cD)
theorem Hj{g b v:Int}{d:Nat}{y:U}(h:Cf cD w n i ll m (pt ds q A B) S)(h4:m.hs.length=4)(q0:0<=q)(hu:ds[q.toNat]?=some (jW.u (.look g b)))(g0:0<=g)(g1:g<4)(ho:Onw d (pt ds (q+1+0) A B) y)(hd:d<100) :
  xE cD [.ref i,.int v] S=some (.non,S.set i (dO cD w n ⟨m.hs.set g.toNat v,m.ps,m.lk⟩ y)):=by
 unfold xE
 rw[uv]
 have e:=h.ei
 have ed:=jE h q0 hu
 have eh:=rV (v:=v) h h4 g0 g1
 have h2:=h.setI (m.hs.set g.toNat v) m.ps (pt ds q A B)
 have e2:=h2.ei
 have eg:=yh h2 ho hd
 unfold dO at e e2 eh eg ⊢
 rw[List.set_set]at eg
 unfold jW.u at ed
 rwa[gw,e,ed,eh,e2,eg]
def qS(cD:Cl):Fn:=fnU 2 1 (cf cD)
theorem Bs(h:Cf cD w n i ll m (pt ds q A .non) S):qS cD [.ref i] S=some (.bl false,S):=by
 unfold qS
 rw[iQ]
 have e:=h.ei
 unfold dO pt at e
 rwa[cf,e,Fl,xf]
def bk(n:Nat)(hs:List Int)(ps:List (Int×Int))(y:U):U:=.tup [.tup (hs.map U.int),.tup (vx n ps),y]
theorem Br{hs:List Int}{ps:List (Int×Int)}{y:U}(h:Cf cD w n i ll m (pt ds q A (bk n hs ps y)) S):qS cD [.ref i] S=some (.bl true,S.set i (dO cD w n ⟨hs,ps,m.lk⟩ y)):=by
 unfold qS
 rw[iQ]
 have l:=gc h.ei
 have e:=h.ei
 unfold dO pt bk at e
 unfold dO
 have g:∀o:O,(S.set i o)[i]?=some o:=fun o=>List.getElem?_set_self l
 rwa[cf,e,Fl,Au,g,List.set_set]
def vN(cD:Cl):Fn:=fnU 5 3 (de yx (Ls cD) cD)
theorem DH{a b:List U}{d d':Nat}{y z:U}(h:Cf cD w n i ll m (pt ds q A B) S)(ho:Onw d (pt b 0 (pt ds (q+1+0) A B) B) z)(hd:d<100)
  (ho':Onw d' (pt a 0 (pt ds (q+1+0) A B) (bk n m.hs m.ps z)) y) (hd':d'<100):vN cD [.ref i,.tup a,.tup b] S=some (.non,S.set i (dO cD w n m y)):=by
 unfold vN
 rw[mj]
 have e:=h.ei
 have ep:=JZ (k:=0) h
 have e1:=wJ (S:=S) ho hd
 have e2:=wJ (S:=S) ho' hd'
 unfold dO at e ⊢
 unfold pt at ep e1 e2 e
 unfold bk at e2
 rwa[de,e,ep,e1,e2]
end
def lv(m:M):jW->Int
 |.leap h k=>if m.hs.getD h.toNat 0=0 then k else 0
 |_=>0
section
variable{cD:Cl}{w n:Int}{first:List Int}{i ll:Nat}{m:M}{A B:U}{S:Sto}{ds:List U}{q:Int}{r3:Option U}{F:Nat}
def nj(cD:Cl):Fn:=fnU 2 1 (eU (j4 cD) cD)
theorem sv{x:Str}{r:List U}(h:Cf cD w n.toNat i ll m (pt ds q A B) S)(q0:0<=q)(hu:ds[q.toNat]?=some (.tup (.str x::r)))(hx:decide (x=("look":Str))=false):nj cD [.ref i] S=some (.bl false,S):=by
 unfold nj
 rw[nh]
 have e:=h.ei
 have ed:=jE h q0 hu
 unfold dO at e
 rwa[eU,e,ed,hx]
theorem Bv{g b:Int}(h:Cf cD w n.toNat i ll m (pt ds q A B) S)(q0:0<=q)(hu:ds[q.toNat]?=some (jW.u (.look g b)))(b0:0<=b)(b1:b<n):nj cD [.ref i] S=some (.bl (!(bw m.ps b).isSome),S):=by
 unfold nj
 rw[nh]
 have e:=h.ei
 have ed:=jE h q0 hu
 have ea:=AS (n:=n.toNat) (ps:=m.ps) b0 (by omega)
 have ei:rR (((bw m.ps b).map U.int).getD .non)=!(bw m.ps b).isSome:=by cases bw m.ps b<;>rfl
 unfold dO at e
 unfold jW.u at ed
 rwa[eU,e,ed,ea,Fl,ei,SNX]
def E2(cD:Cl):Fn:=fnU 4 1 (bp xB (j4 cD) (qS cD) (vN cD) (xD cD) (Lu cD) cD)
theorem A0(h:Cf cD w n.toNat i ll m (pt ds q A B) S)(q0:0<=q)(hu:ds[q.toNat]?=some (jW.u .wait)){r:U×Sto}(hb:qS cD [.ref i] S=some r):E2 cD [.ref i] S=some r:=by
 unfold E2
 rw[g7]
 have e:=h.ei
 have ed:=jE h q0 hu
 unfold dO at e
 unfold jW.u at ed
 obtain⟨u,S'⟩:=r
 rwa[bp,e,ed,hb,SNX]
theorem KW{a b:List U}{d d':Nat}{y z:U}(h:Cf cD w n.toNat i ll m (pt ds q A B) S)(q0:0<=q)(hu:ds[q.toNat]?=some (.tup [.str "try",.tup a,.tup b]))(ho:Onw d (pt b 0 (pt ds (q+1+0) A B) B) z)(hd:d<100)
  (ho':Onw d' (pt a 0 (pt ds (q+1+0) A B) (bk n.toNat m.hs m.ps z)) y) (hd':d'<100):E2 cD [.ref i] S=some (.bl true,S.set i (dO cD w n.toNat m y)):=by
 unfold E2
 rw[g7]
 have e:=h.ei
 have ed:=jE h q0 hu
 have en:=DH h ho hd ho' hd'
 unfold dO at e en ⊢
 rwa[bp,e,ed,en,SNX]
theorem DP{d:jW}{dd:Nat}{y:U}(nw:d≠.wait)(h:Cf cD w n.toNat i ll m (pt ds q A B) S)(wf:Wf n m)(w0:2<=w)(n1:n<=6)(od:d.ok n w)(q0:0<=q)(hu:ds[q.toNat]?=some d.u)(ha:∀g b,d=.look g b->(bw m.ps b).isSome=true)(ho:Onw dd (pt ds (q+1+lv m d) A B) y)(hd:dd<100) :
  E2 cD [.ref i] S=some (.bl true,S.set i (dO cD w n.toNat (step w first m d) y)):=by
 unfold E2
 rw[g7]
 have e:=h.ei
 have ed:=jE h q0 hu
 have h4:=wf.h4
 cases d with
 |wait=>exact absurd rfl nw
 |look g b=>
  obtain⟨g0,g1,b0,b1⟩:=od
  obtain⟨v,hv⟩:=Option.isSome_iff_exists.mp (ha g b rfl)
  have ea:=AS (n:=n.toNat) (ps:=m.ps) b0 (by omega)
  rw[hv,Option.map_some,Option.getD_some]at ea
  have eh:=rV (v:=v) h h4 g0 g1
  have h2:=h.setI (m.hs.set g.toNat v) m.ps (pt ds q A B)
  have e2:=h2.ei
  have eg:=yh h2 ho hd
  unfold dO at e e2 eh eg ⊢
  rw[List.set_set]at eg
  unfold jW.u at ed
  simp only[step,Dg,hv,Option.getD_some,Option.isSome_some,if_true]
  simp only[lv]at eg
  rwa[bp,e,ed,ea,eh,e2,eg,SNX]
 |put b g=>
  obtain⟨g0,g1,b0,b1⟩:=od
  have hw:=yW (us:=vx n.toNat m.ps) (v:=.int (m.hs.getD g.toNat 0)) (S:=S) b0 (by rw[lD];omega) (by rw[lD];omega)
  rw[DJ b0 (by omega)]at hw
  have h2:=h.setI m.hs (jo m.ps b (m.hs.getD g.toNat 0)) (pt ds q A B)
  have e2:=h2.ei
  have eg:=yh h2 ho hd
  unfold dO at e e2 eg ⊢
  rw[List.set_set]at eg
  unfold jW.u at ed
  simp only[lv]at eg
  simp only[step]
  rwa[bp,e,ed,at4 h4 g0 g1,hw,e2,eg,SNX]
 |set g v=>
  obtain⟨g0,g1,b0,b1⟩:=od
  have eh:=rV (v:=v) h h4 g0 g1
  have h2:=h.setI (m.hs.set g.toNat v) m.ps (pt ds q A B)
  have e2:=h2.ei
  have eg:=yh h2 ho hd
  unfold dO at e e2 eh eg ⊢
  rw[List.set_set]at eg
  unfold jW.u at ed
  simp only[lv]at eg
  simp only[step]
  rwa[bp,e,ed,eh,e2,eg,SNX]
 |plus g k=>
  obtain⟨g0,g1,b0,b1⟩:=od
  have eh:=rV (v:=(m.hs.getD g.toNat 0+m.hs.getD k.toNat 0) % w) h h4 g0 g1
  have h2:=h.setI (m.hs.set g.toNat ((m.hs.getD g.toNat 0+m.hs.getD k.toNat 0) % w)) m.ps (pt ds q A B)
  have e2:=h2.ei
  have eg:=yh h2 ho hd
  unfold dO at e e2 eh eg ⊢
  rw[List.set_set]at eg
  unfold jW.u at ed
  simp only[lv]at eg
  simp only[step]
  rwa[bp,e,ed,at4 h4 g0 g1,at4 h4 b0 b1,uM (show 0<w by omega),eh,e2,eg,SNX]
 |leap g k=>
  obtain⟨g0,g1,b0,b1⟩:=od
  have eg:=yh h ho hd
  unfold dO at e eg ⊢
  unfold jW.u at ed
  simp only[step]
  simp only[lv]at eg
  by_cases z:m.hs.getD g.toNat 0=0
  ·rw[if_pos z]at eg
   rwa[bp,e,ed,at4 h4 g0 g1,z,eg,SNX]
  ·rw[if_neg z]at eg
   rwa[bp,e,ed,at4 h4 g0 g1,z,eg,SNX]
abbrev bG(cD:Cl)(F:Nat):CS:=bX (j4 cD) (nj cD) (xE cD) (E2 cD) cD F
theorem Jd(d:jW):∃x r,d.u=.tup (.str x::r):=by cases d<;>exact⟨_,_,rfl⟩
theorem w6{d:jW}{dd:Nat}{y:U}(nw:d≠.wait)(h:Cf cD w n.toNat i ll m (pt ds q A B) S)(wf:Wf n m)(lf:first.length=n.toNat)(w0:2<=w)(n0:0<=n)(n1:n<=6)(od:d.ok n w)(q0:0<=q)(hu:ds[q.toNat]?=some d.u)(ho:Onw dd (pt ds (q+1+lv m d) A B) y)(hd:dd<100) :
  ∃r3' S',bG cD F [some (.ref i),some (.tup (first.map U.int)),some (.ref ll),r3] S=some (.nx,[some (.ref i),some (.tup (first.map U.int)),some (.ref ll),r3'],S')/\Cf cD w n.toNat i ll (step w first m d) y S'/\Kp [i,ll] S S':=by
 have e:=h.ei
 have go:(∀g b,d=.look g b->(bw m.ps b).isSome=true)->nj cD [.ref i] S=some (.bl false,S)->(step w first m d).lk=m.lk->∃r3' S',bG cD F [some (.ref i),some (.tup (first.map U.int)),some (.ref ll),r3] S=some (.nx,[some (.ref i),some (.tup (first.map U.int)),some (.ref ll),r3'],S')/\Cf cD w n.toNat i ll (step w first m d) y S'/\Kp [i,ll] S S':=by
  intro ha hk hl
  have ed:=DP (first:=first) nw h wf w0 n1 od q0 hu ha ho hd
  refine⟨r3,_,?_,⟨List.getElem?_set_self (gc h.ei),by rw[List.getElem?_set_ne h.ne,hl];exact h.el⟩,.set (by simp)⟩
  unfold dO at e
  rwa[bG,bX,e,hk,ed]
 have other:∀x r,d.u=.tup (.str x::r)->decide (x=("look":Str))=false->nj cD [.ref i] S=some (.bl false,S):=fun x r e1 e2=>sv h q0 (by rw[hu,e1]) e2
 cases d with
 |wait=>exact absurd rfl nw
 |put b g=>exact go (by intro _ _ z;cases z) (other _ _ rfl (by decide +kernel)) rfl
 |set b g=>exact go (by intro _ _ z;cases z) (other _ _ rfl (by decide +kernel)) rfl
 |plus b g=>exact go (by intro _ _ z;cases z) (other _ _ rfl (by decide +kernel)) rfl
 |leap b g=>exact go (by intro _ _ z;cases z) (other _ _ rfl (by decide +kernel)) rfl
 |look g b=>
  obtain⟨g0,g1,b0,b1⟩:=id od
  have hk:=Bv h q0 hu b0 b1
  cases hv:bw m.ps b with
  |some v=>
   rw[hv]at hk
   exact go (by intro _ _ z;cases z;rw[hv];rfl) hk (by simp[step,hv])
  |none=>
   rw[hv]at hk
   have h2:=h.setL (BC m.lk b)
   have ed:=jE h q0 hu
   have eh:=Hj (v:=first.getD b.toNat 0) h2 wf.h4 q0 hu g0 g1 ho hd
   have h3:=h2.setI (m.hs.set g.toNat (first.getD b.toNat 0)) m.ps y
   have e2:=h2.ei
   have es:step w first m (.look g b)=⟨m.hs.set g.toNat (first.getD b.toNat 0),m.ps,BC m.lk b⟩:=by simp[step,Dg,hv]
   rw[es]
   refine⟨some (.int b),_,?_,h3,(Kp.set (by simp)).trans (.set (by simp))⟩
   have fl:(yn m.lk).length<LIM:=by have:=(wf.few n0 n1).2;unfold yn LIM;simp;omega
   unfold dO at e e2
   unfold jW.u at ed
   simp only[Option.isSome_none]at hk
   rwa[bG,bX,e,hk,ed,h.el,Cu,fl,if_true,e2,atF lf b0 b1,eh]
theorem EK{a b:List U}{d d':Nat}{y z:U}(h:Cf cD w n.toNat i ll m (pt ds q A B) S)(q0:0<=q)(hu:ds[q.toNat]?=some (.tup [.str "try",.tup a,.tup b]))(ho:Onw d (pt b 0 (pt ds (q+1+0) A B) B) z)(hd:d<100)
  (ho':Onw d' (pt a 0 (pt ds (q+1+0) A B) (bk n.toNat m.hs m.ps z)) y) (hd':d'<100) :
  ∃S',bG cD F [some (.ref i),some (.tup (first.map U.int)),some (.ref ll),r3] S=some (.nx,[some (.ref i),some (.tup (first.map U.int)),some (.ref ll),r3],S')/\Cf cD w n.toNat i ll m y S'/\Kp [i,ll] S S':=by
 have e:=h.ei
 have hk:=sv h q0 hu (by decide +kernel)
 have ed:=KW h q0 hu ho hd ho' hd'
 refine⟨_,?_,h.setI m.hs m.ps y,.set (by simp)⟩
 unfold dO at e
 rwa[bG,bX,e,hk,ed]
theorem Ao{hs:List Int}{ps:List (Int×Int)}{y:U}(h:Cf cD w n.toNat i ll m (pt ds q A (bk n.toNat hs ps y)) S)(q0:0<=q)(hu:ds[q.toNat]?=some (jW.u .wait)) :
  ∃S',bG cD F [some (.ref i),some (.tup (first.map U.int)),some (.ref ll),r3] S=some (.nx,[some (.ref i),some (.tup (first.map U.int)),some (.ref ll),r3],S')/\Cf cD w n.toNat i ll ⟨hs,ps,m.lk⟩ y S'/\Kp [i,ll] S S':=by
 have e:=h.ei
 have hk:=sv h q0 hu (by decide +kernel)
 have ed:=A0 h q0 hu (Br h)
 refine⟨_,?_,h.setI hs ps y,.set (by simp)⟩
 unfold dO at e
 rwa[bG,bX,e,hk,ed]
theorem He(h:Cf cD w n.toNat i ll m (pt ds q A .non) S)(q0:0<=q)(hu:ds[q.toNat]?=some (jW.u .wait)) :
  bG cD F [some (.ref i),some (.tup (first.map U.int)),some (.ref ll),r3] S=some (.rt (.bl false),[some (.ref i),some (.tup (first.map U.int)),some (.ref ll),r3],S):=by
 have e:=h.ei
 have hk:=sv h q0 hu (by decide +kernel)
 have ed:=A0 h q0 hu (Bs h)
 unfold dO at e
 rwa[bG,bX,e,hk,ed]
end
def OnA(dep:Nat)(ds:List U)(A B:U):Prop:=∀p:Int,(ds.length:Int)<=p->∃y,Onw dep (pt ds p A B) y
theorem OnA.any{dep:Nat}{ds:List U}{A B:U}(h:OnA dep ds A B)(p:Int):∃y,Onw dep (pt ds p A B) y:=by
 by_cases c:p<ds.length
 ·exact⟨_,.stop c⟩
 ·exact h p (by omega)
theorem OnA.top{dep:Nat}{ds:List U}{B:U}:OnA dep ds .non B:=fun p _=>⟨_,.top⟩
theorem OnA.up{dep:Nat}{ds ds':List U}{q':Int}{A' B B' y:U}(h:Onw dep (pt ds' q' A' B') y):OnA (dep+1) ds (pt ds' q' A' B') B:=fun p hp=>⟨y,.up hp h⟩
theorem Onw.here{dep:Nat}{ds:List U}{q:Int}{A B x:U}(h:Onw dep (pt ds q A B) x)(c:q<ds.length):x=pt ds q A B:=by
 generalize e:pt ds q A B=z at h
 cases h with
 |stop _=>rfl
 |top=>rfl
 |up h' _=>
  unfold pt at e
  injection e with e
  injection e with e1 e2
  injection e1 with e1
  injection e2 with e2 _
  injection e2 with e2
  subst e1 e2
  omega
theorem Onw.upInv{dep:Nat}{ds ds':List U}{q q':Int}{A' B B' x:U}(h:Onw (dep+1) (pt ds q (pt ds' q' A' B') B) x)(c:(ds.length:Int)<=q):Onw dep (pt ds' q' A' B') x:=by
 generalize e:pt ds q (pt ds' q' A' B') B=z at h
 generalize e0:dep+1=k at h
 cases h with
 |stop h'=>
  unfold pt at e
  injection e with e
  injection e with e1 e2
  injection e1 with e1
  injection e2 with e2 _
  injection e2 with e2
  subst e1 e2
  omega
 |top=>
  unfold pt at e
  injection e with e
  injection e with _ e
  injection e with _ e
  injection e with e _
  cases e
 |up h' h2=>
  unfold pt at e
  injection e with e
  injection e with _ e
  injection e with _ e
  injection e with e _
  injection e with e
  injection e with e1 e
  injection e1 with e1
  injection e with e2 e
  injection e2 with e2
  injection e with e3 e
  injection e with e4 _
  subst e1 e2 e3 e4
  cases e0
  exact h2
section
variable{cD:Cl}{w n:Int}{first:List Int}{i ll F:Nat}
abbrev tG(cD:Cl):CT:=aQ (cOp sd (eX cD (j4 cD) (ah 0) aE) (cC .non))
theorem qZ{m:M}{ds us:List U}{q:Int}{A B:U}{S:Sto}{ρ:Rho}(h:Cf cD w n.toNat i ll m (pt ds q A B) S)(q0:0<=q)(hu:ds[q.toNat]?=some (.tup us)):tG cD (some (.ref i)::ρ) S=some (true,S):=by
 have e:=h.ei
 have ed:=jE h q0 hu
 unfold dO at e
 rwa[tG,e,ed,xJ,Au]
theorem Ca{m:M}{ds:List U}{q:Int}{A B:U}{S:Sto}{ρ:Rho}(h:Cf cD w n.toNat i ll m (pt ds q A B) S)(hq:(ds.length:Int)<=q):tG cD (some (.ref i)::ρ) S=some (false,S):=by
 have e:=h.ei
 have ed:=DR h hq
 unfold dO at e
 rwa[tG,e,ed,xJ,xf]
abbrev KS(first:List Int)(i ll:Nat)(r3:Option U):Rho:=[some (.ref i),some (.tup (first.map U.int)),some (.ref ll),r3]
def Rch(cD:Cl)(F:Nat)(first:List Int)(i ll s:Nat)(S S':Sto):Prop:=∀r3,∃r3',∀fuel,eZ (tG cD) (bG cD F) (fuel+s) (KS first i ll r3) S=eZ (tG cD) (bG cD F) fuel (KS first i ll r3') S'
theorem Rch.refl{S:Sto}:Rch cD F first i ll 0 S S:=fun r3=>⟨r3,fun _=>rfl⟩
theorem Rch.trans{s t:Nat}{S S' S'':Sto}(a:Rch cD F first i ll s S S')(b:Rch cD F first i ll t S' S''):Rch cD F first i ll (s+t) S S'':=fun r3=>by
 obtain⟨r4,ha⟩:=a r3
 obtain⟨r5,hb⟩:=b r4
 exact⟨r5,fun fuel=>by rw[show fuel+(s+t)=fuel+t+s by omega,ha,hb]⟩
theorem Rch.one{S S':Sto}(ht:∀r3,tG cD (KS first i ll r3) S=some (true,S))(h:∀r3,∃r3',bG cD F (KS first i ll r3) S=some (.nx,KS first i ll r3',S')):Rch cD F first i ll 1 S S':=fun r3=>by
 obtain⟨r4,h⟩:=h r3
 exact⟨r4,fun fuel=>v7 (ht r3) h⟩
def AtW(B x:U):Prop:=∃ds q A,x=pt ds q A B/\0<=q/\ds[q.toNat]?=some (jW.u .wait)
def Nl(dep:Nat)(ds:List U)(A B x:U):Bool->Prop
 |true=>∃p:Int,(ds.length:Int)<=p/\Onw dep (pt ds p A B) x
 |false=>AtW B x
def HrT{α:Type}(cD:Cl)(F:Nat)(w n:Int)(first:List Int)(i ll D c:Nat)(rn:List α->M->Bool×M)(f:α->U)(k:List α->Prop):Prop:=
 ∀(a:List α) (m:M) (dep:Nat) (A B x:U) (S:Sto),k a->Wf n m->dep<=D->OnA dep (a.map f) A B->Onw dep (pt (a.map f) 0 A B) x->Cf cD w n.toNat i ll m x S->
  Wf n (rn a m).2/\∃s x' S',s<=c/\Cf cD w n.toNat i ll (rn a m).2 x' S'/\Kp [i,ll] S S'/\Rch cD F first i ll s S S'/\Nl dep (a.map f) A B x' (rn a m).1
variable{α:Type}{rn:List α->M->Bool×M}{f:α->U}{k:List α->Prop}{D c:Nat}
theorem Cm(Hr:HrT cD F w n first i ll (D+1) c rn f k)(hD:D<=90)(lf:first.length=n.toNat)(w0:2<=w)(n0:0<=n)(n1:n<=6)(all:List (DF α))(oa:∀d∈all,d.ok n w k){dep:Nat}{A B:U}(hdep:dep<=D)(hA:OnA dep (all.map (DF.u f)) A B) :
  ∀(N place:Nat) (m:M) (x:U) (S:Sto),all.length-place<=N->Wf n m->Onw dep (pt (all.map (DF.u f)) place A B) x->Cf cD w n.toNat i ll m x S->
  Wf n (iN w first rn (all.drop place) 0 m).2/\∃s x' S',s<=N*(2*c+2)/\Cf cD w n.toNat i ll (iN w first rn (all.drop place) 0 m).2 x' S'/\Kp [i,ll] S S'/\Rch cD F first i ll s S S'/\Nl dep (all.map (DF.u f)) A B x' (iN w first rn (all.drop place) 0 m).1:=by
 intro N
 induction N with
 |zero=>
  intro place m x S hN wf ho h
  rw[List.drop_eq_nil_of_le (by omega),iN]
  exact⟨wf,0,x,S,Nat.zero_le _,h,.refl,.refl,(place:Int),by simp;omega,ho⟩
 |succ N ih=>
  intro place m x S hN wf ho h
  by_cases cl:place<all.length
  case neg=>
   rw[List.drop_eq_nil_of_le (by omega),iN]
   exact⟨wf,0,x,S,Nat.zero_le _,h,.refl,.refl,(place:Int),by simp;omega,ho⟩
  have hd:=List.getElem?_eq_getElem cl
  have od:=oa _ (List.getElem_mem cl)
  generalize all[place]=d at hd od
  rw[lG hd]
  have hx:=ho.here (by simp;omega)
  subst hx
  have hu:(all.map (DF.u f))[(place:Int).toNat]?=some (d.u f):=by rw[Int.toNat_natCast,List.getElem?_map,hd];rfl
  have q0:(0:Int)<=place:=by omega
  have c2:(N+1)*(2*c+2)=N*(2*c+2)+(2*c+2):=by rw[Nat.succ_mul]
  have goon:∀(p:Nat) (m':M) (x':U) (s1:Nat) (S1:Sto),place<p->Wf n m'->Onw dep (pt (all.map (DF.u f)) p A B) x'->Cf cD w n.toNat i ll m' x' S1->Kp [i,ll] S S1->s1<=2*c+2->Rch cD F first i ll s1 S S1->
    Wf n (iN w first rn (all.drop p) 0 m').2/\∃s x' S',s<=(N+1)*(2*c+2)/\Cf cD w n.toNat i ll (iN w first rn (all.drop p) 0 m').2 x' S'/\Kp [i,ll] S S'/\Rch cD F first i ll s S S'/\Nl dep (all.map (DF.u f)) A B x' (iN w first rn (all.drop p) 0 m').1:=by
   intro p m' x' s1 S1 hp wf1 ho1 h1 k1 l1 r1
   obtain⟨wf2,s2,x2,S2,l2,h2,k2,r2,e2⟩:=ih p m' x' S1 (by omega) wf1 ho1 h1
   exact⟨wf2,s1+s2,x2,S2,by omega,h2,k1.trans k2,r1.trans r2,e2⟩
  cases d with
  |pl d=>
   by_cases dw:d=.wait
   ·subst dw
    rw[iN]
    exact⟨wf,0,_,S,Nat.zero_le _,h,.refl,.refl,_,_,_,rfl,q0,hu⟩
   ·have lv0:0<=lv m d:=by
     cases d<;>simp only[lv]<;>try exact Int.le_refl _
     obtain⟨_,_,b,_⟩:=od
     split<;>omega
    obtain⟨y,hy⟩:=hA.any ((place:Int)+1+lv m d)
    have e1:(place:Int)+1+lv m d=((place+1+(lv m d).toNat:Nat):Int):=by omega
    have one:∃S1,Rch cD F first i ll 1 S S1/\Cf cD w n.toNat i ll (step w first m d) y S1/\Kp [i,ll] S S1:=by
     obtain⟨_,S1,e0,h1,k1⟩:=w6 (F:=F) (r3:=none) dw h wf lf w0 n0 n1 od q0 hu hy (by omega)
     refine⟨S1,.one (fun r3=>?_) (fun r3=>?_),h1,k1⟩
     ·obtain⟨x0,r0,ex⟩:=Jd d
      exact qZ h q0 (by rw[hu];simp only[DF.u];rw[ex])
     ·obtain⟨r4,S2,e2,h2,k2⟩:=w6 (F:=F) (r3:=r3) dw h wf lf w0 n0 n1 od q0 hu hy (by omega)
      have es:S2=S1:=by
       refine List.ext_getElem? fun l=>?_
       by_cases z1:l=i
       ·subst z1;rw[h2.ei,h1.ei]
       ·by_cases z2:l=ll
        ·subst z2;rw[h2.el,h1.el]
        ·rw[k2.old l (by simp[z1,z2]),k1.old l (by simp[z1,z2])]
      exact⟨r4,by rw[e2,es]⟩
    obtain⟨S1,r1,h1,k1⟩:=one
    have er:iN w first rn (.pl d::all.drop (place+1)) 0 m=iN w first rn (all.drop (place+1+(lv m d).toNat)) 0 (step w first m d):=by
     cases d with
     |wait=>exact absurd rfl dw
     |leap g j=>
      rw[iN,tM,List.drop_drop]
      simp only[lv,step]
      split<;>simp
     |look g b=>rw[iN];simp[lv]
     |put g b=>rw[iN];simp[lv]
     |set g b=>rw[iN];simp[lv]
     |plus g b=>rw[iN];simp[lv]
    rw[er]
    rw[e1]at hy
    exact goon _ _ y 1 S1 (by omega) (FY wf od) hy h1 k1 (by omega) r1
  |tr a b=>
   obtain⟨ka,kb⟩:=od
   simp only[DF.u]at hu
   obtain⟨yb,hyb⟩:=hA.any ((place:Int)+1+0)
   have onb:∀(ds:List U) (B':U),OnA (dep+1) ds (pt (all.map (DF.u f)) ((place:Int)+1+0) A B) B':=fun ds B'=>.up hyb
   obtain⟨z,hz⟩:=(onb (b.map f) B).any 0
   obtain⟨y,hy⟩:=(onb (a.map f) (bk n.toNat m.hs m.ps z)).any 0
   have e1:(place:Int)+1+0=((place+1:Nat):Int):=by omega
   have one:∃S1,Rch cD F first i ll 1 S S1/\Cf cD w n.toNat i ll m y S1/\Kp [i,ll] S S1:=by
    obtain⟨S1,e0,h1,k1⟩:=EK (F:=F) (first:=first) (r3:=none) h q0 hu hz (by omega) hy (by omega)
    refine⟨S1,.one (fun r3=>qZ h q0 hu) (fun r3=>?_),h1,k1⟩
    obtain⟨S2,e2,h2,k2⟩:=EK (F:=F) (first:=first) (r3:=r3) h q0 hu hz (by omega) hy (by omega)
    have es:S2=S1:=by
     refine List.ext_getElem? fun l=>?_
     by_cases z1:l=i
     ·subst z1;rw[h2.ei,h1.ei]
     ·by_cases z2:l=ll
      ·subst z2;rw[h2.el,h1.el]
      ·rw[k2.old l (by simp[z1,z2]),k1.old l (by simp[z1,z2])]
    exact⟨r3,by rw[e2,es]⟩
   obtain⟨S1,r1,h1,k1⟩:=one
   obtain⟨wf2,s2,x2,S2,l2,h2,k2,r2,e2⟩:=Hr a m (dep+1) _ _ y S1 ka wf (by omega) (onb _ _) hy h1
   rw[iN]
   unfold Je
   cases er:rn a m with
   |mk t m'=>
    rw[er]at wf2 h2 e2
    cases t with
    |true=>
     obtain⟨p,hp,hp2⟩:=e2
     have:=hp2.upInv hp
     rw[e1]at this
     exact goon (place+1) m' x2 (1+s2) S2 (by omega) wf2 this h2 (k1.trans k2) (by omega) (r1.trans r2)
    |false=>
     obtain⟨ds',q',A',rfl,q0',hw⟩:=e2
     have back:∃S3,Rch cD F first i ll 1 S2 S3/\Cf cD w n.toNat i ll ⟨m.hs,m.ps,m'.lk⟩ z S3/\Kp [i,ll] S2 S3:=by
      obtain⟨S3,e0,h3,k3⟩:=Ao (F:=F) (first:=first) (r3:=none) h2 q0' hw
      refine⟨S3,.one (fun r3=>qZ h2 q0' hw) (fun r3=>?_),h3,k3⟩
      obtain⟨S4,e4,h4,k4⟩:=Ao (F:=F) (first:=first) (r3:=r3) h2 q0' hw
      have es:S4=S3:=by
       refine List.ext_getElem? fun l=>?_
       by_cases z1:l=i
       ·subst z1;rw[h4.ei,h3.ei]
       ·by_cases z2:l=ll
        ·subst z2;rw[h4.el,h3.el]
        ·rw[k4.old l (by simp[z1,z2]),k3.old l (by simp[z1,z2])]
      exact⟨r3,by rw[e4,es]⟩
     obtain⟨S3,r3,h3,k3⟩:=back
     obtain⟨wf4,s4,x4,S4,l4,h4,k4,r4,e4⟩:=Hr b ⟨m.hs,m.ps,m'.lk⟩ (dep+1) _ _ z S3 kb ⟨wf.h4,wf.pk,wf.pb,wf2.lk,wf2.lb⟩ (by omega) (onb _ _) hz h3
     have kk:=((k1.trans k2).trans k3).trans k4
     have rr:=((r1.trans r2).trans r3).trans r4
     simp only
     cases er2:rn b ⟨m.hs,m.ps,m'.lk⟩with
     |mk t2 m2=>
      rw[er2]at wf4 h4 e4
      cases t2 with
      |true=>
       obtain⟨p,hp,hp2⟩:=e4
       have:=hp2.upInv hp
       rw[e1]at this
       exact goon (place+1) m2 x4 (1+s2+1+s4) S4 (by omega) wf4 this h4 kk (by omega) rr
      |false=>exact⟨wf4,1+s2+1+s4,x4,S4,by omega,h4,kk,rr,e4⟩
theorem Et(Hr:HrT cD F w n first i ll (D+1) c rn f k)(hD:D<=90)(lf:first.length=n.toNat)(w0:2<=w)(n0:0<=n)(n1:n<=6):HrT cD F w n first i ll D (30*(2*c+2)) (fun ds m=>iN w first rn ds 0 m) (DF.u f) (fun ds=>ds.length<=30/\∀d∈ds,DF.ok n w k d):=by
 intro a m dep A B x S ka wf hdep hA ho h
 exact Cm Hr hD lf w0 n0 n1 a ka.2 hdep hA 30 0 m x S (by omega) wf ho h
def cJ:Nat->Nat
 |0=>60
 |j+1=>30*(2*cJ j+2)
theorem zo(lf:first.length=n.toNat)(w0:2<=w)(n0:0<=n)(n1:n<=6):∀(j D:Nat),D+j<=90->HrT cD F w n first i ll D (cJ j) (pO w first j) (Dl.u j) (OkL n w j)
 |0,D,hD=>Et (c:=0) (k:=fun _=>False) (fun a m dep A B x S ka=>ka.elim) (by omega) lf w0 n0 n1
 |j+1,D,hD=>Et (k:=OkL n w j) (zo lf w0 n0 n1 j (D+1) (by omega)) (by omega) lf w0 n0 n1
def uJ(cD:Cl):Fn:=fnU 4 3 (dE (j4 cD) (nj cD) (xE cD) (E2 cD) cD 20000000)
theorem AB{j:Nat}(hj:j<=3)(lf:first.length=n.toNat)(w0:2<=w)(n0:0<=n)(n1:n<=6)(ds:List (Dl j))(od:OkL n w j ds){m:M}{S:Sto}(wf:Wf n m)(h:Cf cD w n.toNat i ll m (pt (ds.map (Dl.u j)) 0 .non .non) S) :
  Wf n (pO w first j ds m).2/\∃x' S',uJ cD [.ref i,.tup (first.map U.int),.ref ll] S=some (.bl (pO w first j ds m).1,S')/\Cf cD w n.toNat i ll (pO w first j ds m).2 x' S'/\Kp [i,ll] S S':=by
 obtain⟨wf1,s,x',S',ls,h1,k1,r1,e1⟩:=zo (cD:=cD) (F:=20000000) (i:=i) (ll:=ll) lf w0 n0 n1 j 0 (by omega) ds m 0 .non .non _ S od wf (Nat.le_refl _) .top .top h
 refine⟨wf1,x',S',?_,h1,k1⟩
 have hc:cJ j<=13179660:=by
  have:j=0\/j=1\/j=2\/j=3:=by omega
  rcases this with rfl|rfl|rfl|rfl<;>decide
 obtain⟨r3,r1⟩:=r1 none
 have r2:=r1 (20000000-s)
 rw[show 20000000-s+s=20000000 by omega]at r2
 unfold uJ
 rw[p8]
 obtain⟨fl,hfl⟩:∃fl,20000000-s=fl+1:=⟨20000000-s-1,by omega⟩
 rw[hfl]at r2
 cases er:(pO w first j ds m).1 with
 |true=>
  rw[er]at e1
  obtain⟨p,hp,ho⟩:=e1
  have hx:x'=pt (ds.map (Dl.u j)) p .non .non:=by
   generalize ez:pt (ds.map (Dl.u j)) p .non .non=z at ho
   cases ho with
   |stop _=>rfl
   |top=>rfl
  subst hx
  have ht:=Ca (ρ:=[some (.tup (first.map U.int)),some (.ref ll),r3]) h1 hp
  have r4:=r2.trans (nO ht)
  rwa[dE,r4]
 |false=>
  rw[er]at e1
  obtain⟨ds',q',A',rfl,q0',hw⟩:=e1
  have ht:=qZ (ρ:=[some (.tup (first.map U.int)),some (.ref ll),r3]) h1 q0' hw
  have r4:=r2.trans (B5 ht (He h1 q0' hw))
  rwa[dE,r4]
end
def prs:List (Option Int)->Nat->List (Int×Int)
 |[],_=>[]
 |none::r,k=>prs r (k+1)
 |some v::r,k=>((k:Int),v)::prs r (k+1)
def oq(n:Nat)(ps:List (Int×Int)):List (Option Int):=(List.range n).map fun b:Nat=>bw ps (b:Int)
def ou:Option Int->U
 |none=>.non
 |some v=>.int v
theorem Hw{n:Nat}{ps:List (Int×Int)}:vx n ps=(oq n ps).map ou:=by
 unfold vx oq
 rw[List.map_map]
 refine List.map_congr_left fun b _=>?_
 simp only[Function.comp]
 cases bw ps (b:Int)<;>rfl
def pU(p:Int×Int):U:=.tup [.int p.1,.int p.2]
theorem qQ{ok:Sto->Prop}{g:CG}{ct:CT}{ce:CE}{l:Nat}{ρ:Rho}{S:Sto}(h:ok S):dr ok g ct ce l [] ρ S=some S:=by rw[dr,if_pos h]
theorem uz{ok:Sto->Prop}{g:CG}{ct:CT}{ce:CE}{l:Nat}{ρ ρ0:Rho}{S S0 S1:Sto}{u:U}{us:List U}(h:ok S)(hg:g u ρ S=some (ρ0,S0))(ht:ct ρ0 S0=some (false,S1)):dr ok g ct ce l (u::us) ρ S=dr ok g ct ce l us ρ0 S1:=by
 rw[dr,if_pos h,hg,Option.bind_some,ht,Option.bind_some,if_neg Bool.false_ne_true]
theorem qP{ok:Sto->Prop}{g:CG}{ct:CT}{ce:CE}{l:Nat}{ρ ρ0:Rho}{S S0 S1 S2:Sto}{u x:U}{us ys:List U}(h:ok S)(hg:g u ρ S=some (ρ0,S0))(ht:ct ρ0 S0=some (true,S1))(he:ce ρ0 S1=some (x,S2))(hl:S2[l]?=some (.lst ys))(hn:ys.length<LIM) :
  dr ok g ct ce l (u::us) ρ S=dr ok g ct ce l us ρ0 (S2.set l (.lst (ys++[x]))):=by
 rw[dr,if_pos h,hg,Option.bind_some,ht,Option.bind_some,if_pos rfl,he,Option.bind_some]
 simp only[hl,hn,if_true]
theorem uY(S:Sto):∀(qs:List (Option Int)) (k:Nat) (ys:List (Int×Int)) (r0 r1:Option U),ys.length+qs.length<=1000->
  dr (fun _=>True) (gTp [0,1]) (aQ (cOp sd (ah 1) (cC .non))) (fE (ae (ah 0) (ae (ah 1) aE))) S.length (((qs.map ou).zipIdx k).map fun p=>.tup [.int p.2,p.1]) [r0,r1] (S++[.lst (ys.map pU)])
   = some (S++[.lst ((ys++prs qs k).map pU)])
 |[],k,ys,r0,r1,hl=>by
  simp only[List.map_nil,List.zipIdx_nil,prs,List.append_nil]
  exact qQ trivial
 |none::qs,k,ys,r0,r1,hl=>by
  have ih:=uY S qs (k+1) ys (some (.int k)) (some .non) (by simp at hl ⊢;omega)
  simp only[List.map_cons,List.zipIdx_cons,prs,ou]
  refine(uz (ρ0:=[some (.int k),some .non]) (S0:=S++[.lst (ys.map pU)]) (S1:=S++[.lst (ys.map pU)]) trivial rfl ?_).trans ih
  rwa[xJ,xf]
 |some v::qs,k,ys,r0,r1,hl=>by
  have ih:=uY S qs (k+1) (ys++[((k:Int),v)]) (some (.int k)) (some (.int v)) (by simp at hl ⊢;omega)
  simp only[List.map_cons,List.zipIdx_cons,prs,ou]
  refine(qP (ρ0:=[some (.int k),some (.int v)]) (S0:=S++[.lst (ys.map pU)]) (S1:=S++[.lst (ys.map pU)]) (S2:=S++[.lst (ys.map pU)]) (x:=pU (k,v)) (ys:=ys.map pU) trivial rfl ?_ ?_ ?_ (by simp at hl ⊢;unfold LIM;omega)).trans ?_
  ·rwa[xJ,KA]
  ·rwa[pU]
  ·rwa[]
  ·have e5:(S++[O.lst (ys.map pU)]).set S.length (.lst (ys.map pU++[pU ((k:Int),v)]))=S++[.lst ((ys++[((k:Int),v)]).map pU)]:=by
    rwa[List.map_append,List.map_cons,List.map_nil]
   rw[e5,ih]
   simp
section
variable{cD:Cl}{w n:Int}{first:List Int}{i ll:Nat}{m:M}{x:U}{S:Sto}
def La(cD:Cl):Fn:=fnU 1 1 (cZ cD)
def ppL(n:Int)(m:M):List (Int×Int):=prs (oq n.toNat m.ps) 0
theorem JJ(h:Cf cD w n.toNat i ll m x S)(n1:n<=6):La cD [.ref i] S=some (.ref S.length,S++[.lst ((ppL n m).map pU)]):=by
 unfold La
 rw[mh]
 have e:=h.ei
 unfold dO at e
 have hb:=uY S (oq n.toNat m.ps) 0 [] none none (by simp[oq];omega)
 simp only[List.nil_append,List.map_nil]at hb
 rw[Hw]at e
 unfold ppL
 rwa[cZ,sj,jC,Ck,vw,sN,e,hb,List.replicate]
theorem rG:∀(qs:List (Option Int)) (k:Nat) (p:Int×Int),p∈prs qs k->∃j:Nat,p.1=((k+j:Nat):Int)/\qs[j]?=some (some p.2)
 |[],k,p,h=>by simp[prs]at h
 |none::r,k,p,h=>by
  obtain⟨j,e1,e2⟩:=rG r (k+1) p (by simpa [prs] using h)
  exact⟨j+1,by rw[e1];omega,by simpa using e2⟩
 |some v::r,k,p,h=>by
  simp only[prs,List.mem_cons]at h
  rcases h with rfl|h
  ·exact⟨0,by simp,by simp⟩
  ·obtain⟨j,e1,e2⟩:=rG r (k+1) p h
   exact⟨j+1,by rw[e1];omega,by simpa using e2⟩
theorem zG:∀(qs:List (Option Int)) (k j:Nat) (v:Int),qs[j]?=some (some v)->(((k+j:Nat):Int),v)∈prs qs k
 |[],k,j,v,h=>by simp at h
 |o::r,k,0,v,h=>by
  simp at h;subst h
  simp[prs]
 |o::r,k,j+1,v,h=>by
  have:=zG r (k+1) j v (by simpa using h)
  rw[show k+1+j=k+(j+1)by omega]at this
  cases o with
  |none=>simpa [prs] using this
  |some z=>simp only[prs,List.mem_cons];exact .inr this
theorem kX:∀(qs:List (Option Int)) (k:Nat),((prs qs k).map (·.1)).Pairwise (· < ·)
 |[],k=>by simp[prs]
 |none::r,k=>by simpa [prs] using kX r (k+1)
 |some v::r,k=>by
  simp only[prs,List.map_cons,List.pairwise_cons]
  refine⟨fun a ha=>?_,kX r (k+1)⟩
  obtain⟨p,hp,rfl⟩:=List.mem_map.mp ha
  obtain⟨j,e1,_⟩:=rG r (k+1) p hp
  rw[e1];omega
theorem Ez{ps:List (Int×Int)}{j:Nat}{v:Int}:(oq n.toNat ps)[j]?=some (some v)↔(j<n.toNat/\bw ps (j:Int)=some v):=by
 unfold oq
 rw[List.getElem?_map]
 by_cases c:j<n.toNat
 ·rw[List.getElem?_range c];simp[c]
 ·rw[List.getElem?_eq_none (by simpa using c)];simp[c]
theorem oJ{p:Int×Int}(h:p∈ppL n m):0<=p.1/\p.1<n/\bw m.ps p.1=some p.2:=by
 obtain⟨j,e1,e2⟩:=rG _ _ _ h
 obtain⟨e3,e4⟩:=Ez.mp e2
 rw[Nat.zero_add]at e1
 rw[e1]
 exact⟨by omega,by omega,e4⟩
theorem Gv{b v:Int}(b0:0<=b)(b1:b<n)(h:bw m.ps b=some v):(b,v)∈ppL n m:=by
 have e:((0+b.toNat:Nat):Int)=b:=by omega
 have:=zG (oq n.toNat m.ps) 0 b.toNat v (Ez.mpr ⟨by omega,by rw[show((b.toNat:Nat):Int)=b by omega];exact h⟩)
 rw[e]at this
 exact this
theorem CC(wf:Wf n m):(ppL n m).map (·.1)=ff (m.ps.map (·.1)):=by
 have nd:((ppL n m).map (·.1)).Nodup:=(kX _ _).imp fun h=>Int.ne_of_lt h
 refine rp ((List.perm_ext_iff_of_nodup nd wf.pk).mpr fun b=>⟨fun h=>?_,fun h=>?_⟩) ((kX _ _).imp fun h=>Int.le_of_lt h)
 ·obtain⟨p,hp,rfl⟩:=List.mem_map.mp h
  obtain⟨_,_,e⟩:=oJ hp
  have:=MN p.1 m.ps
  rw[e]at this
  simpa using this
 ·have:=MN b m.ps
  rw[decide_eq_true h]at this
  obtain⟨v,e⟩:=Option.isSome_iff_exists.mp this.symm
  obtain⟨b0,b1⟩:=wf.pb b h
  exact List.mem_map.mpr ⟨_,Gv b0 b1 e,rfl⟩
theorem zM(wf:Wf n m)(n0:0<=n)(n1:n<=6):(ppL n m).length<=6:=by
 have:=(wf.few n0 n1).1
 have e:=congrArg List.length (CC wf)
 rw[(fG _).length_eq,List.length_map,List.length_map]at e
 omega
theorem rY:∀(qs:List (Option Int)) (k:Nat) (R:List Int) (j:Nat),((prs qs k).foldl (fun r p=>r.set p.1.toNat p.2) R)[j]?=(R[j]?).map fun x=>if k<=j then((qs[j-k]?).join).getD x else x
 |[],k,R,j=>by simp[prs]
 |none::r,k,R,j=>by
  rw[prs,rY r (k+1) R j]
  congr 1
  funext x
  by_cases h1:k+1<=j
  ·rw[if_pos h1,if_pos (by omega),show j-k=j-(k+1)+1 by omega,List.getElem?_cons_succ]
  ·rw[if_neg h1]
   by_cases h2:k<=j
   ·rw[if_pos h2,show j-k=0 by omega];simp
   ·rw[if_neg h2]
 |some v::r,k,R,j=>by
  rw[prs,List.foldl_cons,rY r (k+1) _ j]
  simp only[Int.toNat_natCast]
  by_cases h1:k+1<=j
  ·rw[List.getElem?_set_ne (by omega)]
   congr 1
   funext x
   rw[if_pos h1,if_pos (by omega),show j-k=j-(k+1)+1 by omega,List.getElem?_cons_succ]
  ·by_cases h2:k=j
   ·subst h2
    rw[List.getElem?_set_self']
    cases R[k]? with
    |none=>rfl
    |some z=>simp;intro h;omega
   ·rw[List.getElem?_set_ne h2]
    congr 1
    funext x
    rw[if_neg h1,if_neg (by omega)]
theorem DC(lf:first.length=n.toNat):(ppL n m).foldl (fun r p=>r.set p.1.toNat p.2) first=beh first m.ps 0:=by
 refine List.ext_getElem? fun j=>?_
 unfold ppL
 rw[rY]
 by_cases c:j<first.length
 ·rw[HF _ _ _ _ c,List.getElem?_eq_getElem c]
  have e:(oq n.toNat m.ps)[j]?=some (bw m.ps (j:Int)):=by unfold oq;rw[List.getElem?_map,List.getElem?_range (by omega)];rfl
  simp only[Option.map_some,Nat.zero_le,if_true,Nat.sub_zero,e,Option.join_some,Nat.zero_add,List.getD_eq_getElem?_getD,List.getElem?_eq_getElem c,Option.getD_some]
 ·rw[List.getElem?_eq_none (l:=first) (by omega),List.getElem?_eq_none (l:=beh first m.ps 0) (by rw[vJ];omega)];rfl
end
section
variable{cD:Cl}{w n:Int}{first:List Int}
def uI(cD:Cl):Fn:=fnU 3 3 (gq yx cD)
theorem As{S0:Sto}{ds:List U}(n0:1<=n)(n1:n<=6):uI cD [.ref S0.length,.tup [.int n,.int w],.tup ds] (S0++[.ins cD [none,none,none,none]])=some (.non,S0++[dO cD w n.toNat m0 (pt ds 0 .non .non)]):=by
 unfold uI
 rw[ur]
 have eo:∀S:Sto,yx [.tup [.tup ds,.int 0,.non,.non]] S=some (.tup [.tup ds,.int 0,.non,.non],S):=fun S=>wJ (d:=0) (.top:Onw 0 (pt ds 0 .non .non) _) (by decide)
 have em:∀S:Sto,AJ (.tup [.non]) (.int n) S=some (.tup (vx n.toNat []),S):=fun S=>by
  unfold AJ
  simp only
  rw[if_pos ⟨by simp,n0,by simp;omega⟩,DK]
  congr 3
  induction n.toNat with
  |zero=>rfl
  |succ k ih=>rw[List.replicate_succ,List.replicate_succ,List.flatten_cons,ih];rfl
 unfold dO pt m0
 rwa[gq,em,eo]
theorem tw{S:Sto}{ll:Nat}{lk:List Int}(h:S[ll]?=some (.dic (yn lk)))(hl:lk.length<64):eM [.ref ll] S=some (.ref S.length,S++[.lst ((ff lk).map U.int)]):=by
 simp only[eM,h,t7,Option.bind_some,hl,if_true]
theorem EI{S0:Sto}{X:Sto}{S':Sto}{a b:Nat}(k:Kp [a,b] (S0++X) S')(ha:S0.length<=a)(hb:S0.length<=b):∃Y,S'=S0++Y/\Y.length=X.length:=by
 obtain⟨Y,rfl⟩:=KJ (ls:=[]) (S0:=S0) (S':=S') (by have:=k.len;simp at this;omega) fun l hl=>by
  rw[k.old l (by simp;omega),List.getElem?_append_left hl]
 exact⟨Y,rfl,by have:=k.len;simp at this;omega⟩
theorem wf0:Wf n m0:=⟨rfl,by simp[m0],by simp[m0],by simp[m0],by simp[m0]⟩
def xF(cD:Cl):Fn:=fnU 5 3 (fP (uJ cD) (La cD) (uI cD) cD)
def qz(n:Int)(r:Bool×M):List (Int×Int):=match r with
 |(true,m)=>ppL n m
 |(false,_)=>[]
theorem Hq{j:Nat}(hj:j<=3)(S0:Sto)(hns:cD.ns.length=4)(ds:List (Dl j))(od:OkL n w j ds)(lf:first.length=n.toNat)(n0:1<=n)(n1:n<=6)(w0:2<=w) :
  Wf n (pO w first j ds m0).2/\∃G l1 l2,xF cD [.tup [.int n,.int w],.tup (ds.map (Dl.u j)),.tup (first.map U.int)] S0=some (.tup [.ref l1,.ref l2],S0++G)/\(S0++G)[l1]?=some (.lst ((ff (pO w first j ds m0).2.lk).map U.int))/\(S0++G)[l2]?=some (.lst ((qz n (pO w first j ds m0)).map pU))/\S0.length<=l1/\S0.length<=l2/\l1≠l2:=by
 have c0:Cf cD w n.toNat S0.length (S0.length+1) m0 (pt (ds.map (Dl.u j)) 0 .non .non) (S0++[dO cD w n.toNat m0 (pt (ds.map (Dl.u j)) 0 .non .non),.dic []]):=⟨by rw[ga0];rfl,by rw[ga];rfl⟩
 obtain⟨wf,x',S',eg,c1,k1⟩:=AB hj lf w0 (by omega) n1 ds od wf0 c0
 refine⟨wf,?_⟩
 have hi:=As (cD:=cD) (w:=w) (S0:=S0) (ds:=ds.map (Dl.u j)) n0 n1
 obtain⟨Y,rfl,lY⟩:=EI k1 (Nat.le_refl _) (by omega)
 have lk6:=(wf.few (by omega) n1).2
 unfold xF
 rw[vz]
 have es:=tw c1.el (by omega)
 have gi:(S0++[dO cD w n.toNat m0 (pt (ds.map (Dl.u j)) 0 .non .non),.dic []])[S0.length]?=some (dO cD w n.toNat m0 (pt (ds.map (Dl.u j)) 0 .non .non)):=by rw[ga0];rfl
 cases er:pO w first j ds m0 with
 |mk t m=>
  rw[er]at eg c1 es lk6 wf
  cases t with
  |false=>
   refine⟨Y++[.lst ((ff m.lk).map U.int),.lst []],S0.length+Y.length,S0.length+Y.length+1,?_,?_,?_,by omega,by omega,by omega⟩
   ·simp only[List.length_append,List.append_assoc]at es
    rwa[fP,sV,hns,List.replicate,hi,eg,es,List.length_append]
    rfl
   ·rw[<-List.append_assoc,<-List.length_append,ga0];rfl
   ·rw[<-List.append_assoc,<-List.length_append,ga];rfl
  |true=>
   have c2:Cf cD w n.toNat S0.length (S0.length+1) m x' (S0++(Y++[.lst ((ff m.lk).map U.int)])):=by rw[<-List.append_assoc];exact⟨aG c1.ei,aG c1.el⟩
   have ep:=JJ c2 n1
   have ei:=c2.ei
   refine⟨Y++[.lst ((ff m.lk).map U.int),.lst ((ppL n m).map pU)],S0.length+Y.length,S0.length+Y.length+1,?_,?_,?_,by omega,by omega,by omega⟩
   ·simp only[List.length_append,List.append_assoc,List.length_cons,List.length_nil,Nat.zero_add]at es ep
    unfold dO at ei
    rwa[fP,sV,hns,List.replicate,hi,eg,es,ep,ei,List.length_append]
    rfl
   ·rw[<-List.append_assoc,<-List.length_append,ga0];rfl
   ·rw[<-List.append_assoc,<-List.length_append,ga];rfl
def jh(cD:Cl):Fn:=fnU 8 3 (ml (uJ cD) (La cD) (uI cD) cD)
theorem BA{x3 x4:Option U}{lr lp:Nat}{us:List U}{xs:U}{ys:U}{f1 f2 f3:Fn}:∀(ps:List (Int×Int)) (R:List Int) (S:Sto) (r6 r7:Option U),S[lr]?=some (.lst (R.map U.int))->S[lp]?=some (.lst us)->lr≠lp->(∀p∈ps,0<=p.1/\p.1<R.length)->
  ∃r6' r7',eK (fun S=>S[lp]?=some (.lst us)) (gTp [6,7]) (pG f1 f2 f3 cD) (ps.map pU) [some xs,some ys,some (.tup (first.map U.int)),x3,x4,some (.ref lr),r6,r7] S
   = some (.nx,[some xs,some ys,some (.tup (first.map U.int)),x3,x4,some (.ref lr),r6',r7'],S.set lr (.lst ((ps.foldl (fun r p=>r.set p.1.toNat p.2) R).map U.int)))
 |[],R,S,r6,r7,h1,h2,ne,_=>⟨r6,r7,by rw[List.map_nil,fU h2,List.foldl_nil,Cg h1]⟩
 |p::ps,R,S,r6,r7,h1,h2,ne,hb=>by
  obtain⟨b0,b1⟩:=hb p List.mem_cons_self
  have h1':(S.set lr (.lst ((R.set p.1.toNat p.2).map U.int)))[lr]?=some (.lst ((R.set p.1.toNat p.2).map U.int)):=List.getElem?_set_self (gc h1)
  obtain⟨r6',r7',ih⟩:=BA (x3:=x3) (x4:=x4) (lr:=lr) (lp:=lp) (us:=us) (xs:=xs) (ys:=ys) (f1:=f1) (f2:=f2) (f3:=f3) ps (R.set p.1.toNat p.2) (S.set lr (.lst ((R.set p.1.toNat p.2).map U.int))) (some (.int p.1)) (some (.int p.2)) h1' (by rw[List.getElem?_set_ne ne];exact h2) ne fun q hq=>by rw[List.length_set];exact hb q (List.mem_cons_of_mem _ hq)
  rw[List.set_set]at ih
  refine⟨r6',r7',?_⟩
  rw[List.map_cons,List.foldl_cons]
  refine(dn h2 (ρ0:=[some xs,some ys,some (.tup (first.map U.int)),x3,x4,some (.ref lr),some (.int p.1),some (.int p.2)]) (S0:=S) (by rwa[pU]) ?_).trans ih
  have ix:ixN (R.map U.int).length p.1=some p.1.toNat:=by unfold ixN;rw[if_pos b0,if_pos (by simp;omega)]
  rwa[pG,h1,ix,map_set]
theorem xx{j:Nat}(hj:j<=3)(S0:Sto)(hns:cD.ns.length=4)(ds:List (Dl j))(od:OkL n w j ds)(lf:first.length=n.toNat)(n0:1<=n)(n1:n<=6)(w0:2<=w) :
  Wf n (pO w first j ds m0).2/\∃G l,jh cD [.tup [.int n,.int w],.tup (ds.map (Dl.u j)),.tup (first.map U.int)] S0=some (told (pO w first j ds m0) first l,S0++G)/\((pO w first j ds m0).1=false->(S0++G)[l]?=some (.lst ((ff (pO w first j ds m0).2.lk).map U.int))/\S0.length<=l):=by
 have c0:Cf cD w n.toNat S0.length (S0.length+1) m0 (pt (ds.map (Dl.u j)) 0 .non .non) (S0++[dO cD w n.toNat m0 (pt (ds.map (Dl.u j)) 0 .non .non),.dic []]):=⟨by rw[ga0];rfl,by rw[ga];rfl⟩
 obtain⟨wf,x',S',eg,c1,k1⟩:=AB hj lf w0 (by omega) n1 ds od wf0 c0
 refine⟨wf,?_⟩
 have hi:=As (cD:=cD) (w:=w) (S0:=S0) (ds:=ds.map (Dl.u j)) n0 n1
 obtain⟨Y,rfl,lY⟩:=EI k1 (Nat.le_refl _) (by omega)
 have lk6:=(wf.few (by omega) n1).2
 unfold jh
 rw[Hx]
 have es:=tw c1.el (by omega)
 unfold told
 cases er:pO w first j ds m0 with
 |mk t m=>
  rw[er]at eg c1 es lk6 wf
  cases t with
  |false=>
   refine⟨Y++[.lst ((ff m.lk).map U.int)],S0.length+Y.length,?_,fun _=>⟨?_,by omega⟩⟩
   ·simp only[List.length_append,List.append_assoc]at es
    rwa[ml,sV,hns,List.replicate,hi,eg,es,List.length_append]
   ·rw[<-List.append_assoc,<-List.length_append,ga0];rfl
  |true=>
   have c2:Cf cD w n.toNat S0.length (S0.length+1) m x' (S0++(Y++[.lst (first.map U.int)])):=by rw[<-List.append_assoc];exact⟨aG c1.ei,aG c1.el⟩
   have ep:=JJ c2 n1
   have ei:=c2.ei
   have c3:Cf cD w n.toNat S0.length (S0.length+1) m x' (S0++(Y++[.lst ((beh first m.ps 0).map U.int),.lst ((ppL n m).map pU)])):=by rw[<-List.append_assoc];exact⟨aG c1.ei,aG c1.el⟩
   have e3:=c3.ei
   obtain⟨r6,r7,el⟩:=BA (first:=first) (cD:=cD) (f1:=uJ cD) (f2:=La cD) (f3:=uI cD) (x3:=some (.ref S0.length)) (x4:=some (.ref (S0.length+1))) (xs:=.tup [.int n,.int w]) (ys:=.tup (ds.map (Dl.u j))) (lr:=S0.length+Y.length) (lp:=S0.length+(Y.length+1)) (us:=(ppL n m).map pU) (ppL n m) first (S0++(Y++[.lst (first.map U.int),.lst ((ppL n m).map pU)])) none none
    (by rw[<-List.append_assoc,<-List.length_append,ga0];rfl) (by rw[<-List.append_assoc,<-Nat.add_assoc,<-List.length_append,ga];rfl) (by omega) (fun p hp=>by obtain⟨a,b,_⟩:=oJ hp;omega)
   rw[DC lf]at el
   have gset:(S0++(Y++[O.lst (first.map U.int),.lst ((ppL n m).map pU)])).set (S0.length+Y.length) (.lst ((beh first m.ps 0).map U.int))=S0++(Y++[.lst ((beh first m.ps 0).map U.int),.lst ((ppL n m).map pU)]):=by
    rw[gs,gs0];rfl
   rw[gset]at el
   have gl:(S0++(Y++[O.lst (first.map U.int),.lst ((ppL n m).map pU)]))[S0.length+(Y.length+1)]?=some (.lst ((ppL n m).map pU)):=by rw[<-List.append_assoc,<-Nat.add_assoc,<-List.length_append,ga];rfl
   have gr:(S0++(Y++[O.lst ((beh first m.ps 0).map U.int),.lst ((ppL n m).map pU)]))[S0.length+Y.length]?=some (.lst ((beh first m.ps 0).map U.int)):=by rw[<-List.append_assoc,<-List.length_append,ga0];rfl
   refine⟨Y++[.lst ((beh first m.ps 0).map U.int),.lst ((ppL n m).map pU)],0,?_,fun z=>by cases z⟩
   simp only[List.length_append,List.append_assoc,List.length_cons,List.length_nil,Nat.zero_add,List.cons_append,List.nil_append]at ep
   unfold dO at ei e3
   rwa[ml,sV,hns,List.replicate,hi,eg,ep,ei,lJ,iTp,el,e3,gl,gr,List.length_append]
end
theorem rq:decide (("done":Str)="waits")=false:=by decide +kernel
def Lay(k:Nat)(S:Sto)(u:U):Prop:=∃d,Dt S u d/\d.canLay0=true/\d.depth<=k
def iW(k:Nat)(S:Sto)(u v:U):Prop:=∃d,Dt S u d/\Dt S v d/\d.canLay0=true/\d.depth<=k
def iV(k:Nat)(S:Sto)(us vs:List U):Prop:=∃ds,DtL S us ds/\DtL S vs ds/\PyData.canLayAll0 ds=true/\PyData.depthAll ds<=k
section
variable{k j:Nat}{S:Sto}{u v:U}{us vs:List U}
theorem Lay.mono(h:Lay k S u)(l:k<=j):Lay j S u:=by obtain⟨d,a,b,c⟩:=h;exact⟨d,a,b,Nat.le_trans c l⟩
theorem Lay.int{i:Int}:Lay k S (.int i):=⟨_,.int i,rfl,Nat.zero_le _⟩
theorem Lay.str{x:Str}(h:PyData.strOk x=true):Lay k S (.str x):=⟨_,.str x,h,Nat.zero_le _⟩
theorem iW.refl(h:Lay k S u):iW k S u u:=by obtain⟨d,a,b,c⟩:=h;exact⟨d,a,a,b,c⟩
theorem iV.nil:iV k S [] []:=⟨[],.nil,.nil,rfl,Nat.zero_le _⟩
theorem iV.cons(h:iW k S u v)(t:iV k S us vs):iV k S (u::us) (v::vs):=by
 obtain⟨d,a,b,c,e⟩:=h
 obtain⟨ds,a',b',c',e'⟩:=t
 refine⟨d::ds,.cons a a',.cons b b',by unfold PyData.canLayAll0;rw[c,c'];rfl,?_⟩
 unfold PyData.depthAll
 exact Nat.max_le.mpr ⟨e,e'⟩
theorem iV.all:∀{us:List U},(∀u∈us,Lay k S u)->iV k S us us
 |[],_=>.nil
 |u::us,h=>.cons (.refl (h u List.mem_cons_self)) (iV.all fun x hx=>h x (List.mem_cons_of_mem _ hx))
theorem iW.tup(h:iV k S us vs):iW (k+1) S (.tup us) (.tup vs):=by
 obtain⟨ds,a,b,c,e⟩:=h
 refine⟨.tuple ds,.tup a,.tup b,by unfold PyData.canLay0;exact c,?_⟩
 unfold PyData.depth
 omega
theorem iW.lst{l l':Nat}(h1:S[l]?=some (.lst us))(h2:S[l']?=some (.lst vs))(h:iV k S us vs):iW (k+1) S (.ref l) (.ref l'):=by
 obtain⟨ds,a,b,c,e⟩:=h
 refine⟨.list ds,.lst h1 a,.lst h2 b,by unfold PyData.canLay0;exact c,?_⟩
 unfold PyData.depth
 omega
theorem Lay.tup(h:∀u∈us,Lay k S u):Lay (k+1) S (.tup us):=by
 obtain⟨d,a,_,b,c⟩:=iW.tup (iV.all h)
 exact⟨d,a,b,c⟩
theorem iW.eq(h:iW k S u v)(hk:k<=60):uL false u v S=some (.bl true,S):=by
 obtain⟨d,a,b,c,e⟩:=h
 exact AL false (.inl ⟨d,d,a,b,⟨c,Nat.le_trans e hk⟩,⟨c,Nat.le_trans e hk⟩,(SeqAt.eqv_refl d c).symm⟩)
theorem iW.ne(h:iW k S u v)(hk:k<=60):uL true u v S=some (.bl false,S):=by
 obtain⟨d,a,b,c,e⟩:=h
 exact AL true (.inl ⟨d,d,a,b,⟨c,Nat.le_trans e hk⟩,⟨c,Nat.le_trans e hk⟩,(SeqAt.eqv_refl d c).symm⟩)
theorem Lay.ints{ns:List Int}:Lay 1 S (.tup (ns.map U.int)):=.tup fun u hu=>by
 obtain⟨i,_,rfl⟩:=List.mem_map.mp hu
 exact .int
end
inductive Nf where
 |done (st:List Int)|waits (pl:Nat) (lk:List Int)
def uT{j:Nat}(w:Int)(Ds:List (List (Dl j))):List Int->Nat->List Int->Nf
 |[],_,st=>.done st
 |o::os,k,st=>match pO w st j (Ds.getD o.toNat []) m0 with
  |(true,m)=>uT w Ds os (k+1) (beh st m.ps 0)
  |(false,m)=>.waits k m.lk
def Jt(r:Nf)(l:Nat):U:=match r with
 |.done st=>.tup [.str "done",.tup (st.map U.int)]
 |.waits k _=>.tup [.str "waits",.int k,.ref l]
def K9(n:Int)(S:Sto)(l:Nat):Nf->Prop
 |.done st=>st.length=n.toNat
 |.waits _ lk=>S[l]?=some (.lst ((ff lk).map U.int))/\lk.length<=6
def dlU{j:Nat}(d:List (Dl j)):U:=.tup (d.map (Dl.u j))
section
variable{cD:Cl}{n w:Int}{j:Nat}{Ds:List (List (Dl j))}{ld lo:Nat}{x2:Option U}{us:List U}
theorem KU{o:Int}(o0:0<=o)(o1:o<Ds.length):atI (Ds.map dlU) o=some (dlU (Ds.getD o.toNat [])):=by
 have hk:o.toNat<Ds.length:=by omega
 refine pH o0 ?_
 rw[List.getElem?_map,List.getElem?_eq_getElem hk,List.getD_eq_getElem?_getD,List.getElem?_eq_getElem hk];rfl
theorem Hz{o:Int}(hd:∀d∈Ds,OkL n w j d)(o0:0<=o)(o1:o<Ds.length):OkL n w j (Ds.getD o.toNat []):=by
 have hk:o.toNat<Ds.length:=by omega
 rw[List.getD_eq_getElem?_getD,List.getElem?_eq_getElem hk]
 exact hd _ (List.getElem_mem hk)
def BE(cD:Cl):Fn:=fnU 8 4 (jT (jh cD))
theorem qL(hj:j<=3)(hns:cD.ns.length=4)(n0:1<=n)(n1:n<=6)(w0:2<=w)(hd:∀d∈Ds,OkL n w j d):∀(os:List Int) (k:Nat) (st:List Int) (S:Sto) (r5 r6 r7:Option U),S[ld]?=some (.lst (Ds.map dlU))->S[lo]?=some (.lst us)->(∀o∈os,0<=o/\o<(Ds.length:Int))->st.length=n.toNat->
  ∃X ρ l,K9 n (S++X) l (uT w Ds os k st)/\S.length<=l/\(match uT w Ds os k st with
   |.done st'=>∃r5 r6 r7,eK (fun S=>S[lo]?=some (.lst us)) (gTp [5,6]) (fR (jh cD)) (((os.map U.int).zipIdx k).map fun p=>.tup [.int p.2,p.1]) ρ S=some (.nx,[some (.tup [.int n,.int w]),some (.ref ld),x2,some (.ref lo),some (.tup (st'.map U.int)),r5,r6,r7],S++X)
   |.waits k' lk=>∃ρ',eK (fun S=>S[lo]?=some (.lst us)) (gTp [5,6]) (fR (jh cD)) (((os.map U.int).zipIdx k).map fun p=>.tup [.int p.2,p.1]) ρ S=some (.rt (Jt (.waits k' lk) l),ρ',S++X))/\ρ=[some (.tup [.int n,.int w]),some (.ref ld),x2,some (.ref lo),some (.tup (st.map U.int)),r5,r6,r7]
 |[],k,st,S,r5,r6,r7,h1,h2,ho,hs=>⟨[],_,S.length,hs,Nat.le_refl _,⟨r5,r6,r7,by rw[List.append_nil];exact fU h2⟩,rfl⟩
 |o::os,k,st,S,r5,r6,r7,h1,h2,ho,hs=>by
  obtain⟨o0,o1⟩:=ho o List.mem_cons_self
  obtain⟨wf,G,l,e1,g1⟩:=xx (cD:=cD) hj S hns (Ds.getD o.toNat []) (Hz hd o0 o1) hs n0 n1 w0
  have ea:=KU o0 o1
  have k6:=(wf.few (by omega) n1).2
  rw[uT]
  cases er:pO w st j (Ds.getD o.toNat []) m0 with
  |mk t m=>
   rw[er]at e1 g1 k6
   simp only[dlU]at ea
   cases t with
   |true=>
    dsimp only[told]at e1
    obtain⟨X,ρ,l',rk,ll,rm,rfl⟩:=qL hj hns n0 n1 w0 hd os (k+1) (beh st m.ps 0) (S++G) (some (.int k)) (some (.int o)) (some (.tup [.str "done",.tup ((beh st m.ps 0).map U.int),.tup (m.hs.map U.int)])) (aG h1) (aG h2) (fun x hx=>ho x (List.mem_cons_of_mem _ hx)) (by rw[vJ];exact hs)
    refine⟨G++X,_,l',by rw[<-List.append_assoc];exact rk,by simp at ll;omega,?_,rfl⟩
    have one:eK (fun S=>S[lo]?=some (.lst us)) (gTp [5,6]) (fR (jh cD)) ((((o::os).map U.int).zipIdx k).map fun p=>.tup [.int p.2,p.1]) [some (.tup [.int n,.int w]),some (.ref ld),x2,some (.ref lo),some (.tup (st.map U.int)),r5,r6,r7] S
      = eK (fun S=>S[lo]?=some (.lst us)) (gTp [5,6]) (fR (jh cD)) (((os.map U.int).zipIdx (k+1)).map fun p=>.tup [.int p.2,p.1]) [some (.tup [.int n,.int w]),some (.ref ld),x2,some (.ref lo),some (.tup ((beh st m.ps 0).map U.int)),some (.int k),some (.int o),some (.tup [.str "done",.tup ((beh st m.ps 0).map U.int),.tup (m.hs.map U.int)])] (S++G):=by
     simp only[List.map_cons,List.zipIdx_cons]
     refine dn h2 rfl ?_
     rwa[fR,h1,ea,e1,rq]
    dsimp only
    cases er2:uT w Ds os (k+1) (beh st m.ps 0)with
    |done st'=>
     rw[er2]at rm
     obtain⟨a,b,c,e⟩:=rm
     exact⟨a,b,c,by rw[one,e,List.append_assoc]⟩
    |waits k' lk=>
     rw[er2]at rm
     obtain⟨ρ',e⟩:=rm
     exact⟨ρ',by rw[one,e,List.append_assoc]⟩
   |false=>
    dsimp only[told]at e1
    obtain⟨g2,g3⟩:=g1 rfl
    refine⟨G,_,l,⟨g2,k6⟩,g3,⟨[some (.tup [.int n,.int w]),some (.ref ld),x2,some (.ref lo),some (.tup (st.map U.int)),some (.int k),some (.int o),some (.tup [.str "waits",.ref l])],?_⟩,rfl⟩
    simp only[List.map_cons,List.zipIdx_cons,Jt]
    refine ve h2 rfl ?_
    rwa[fR,h1,ea,e1,eq_self]
theorem Dq(hj:j<=3)(hns:cD.ns.length=4)(n0:1<=n)(n1:n<=6)(w0:2<=w)(hd:∀d∈Ds,OkL n w j d)(os:List Int)(st:List Int)(S:Sto)(h1:S[ld]?=some (.lst (Ds.map dlU)))(h2:S[lo]?=some (.lst (os.map U.int)))(ho:∀o∈os,0<=o/\o<(Ds.length:Int))(hs:st.length=n.toNat) :
  ∃X l,K9 n (S++X) l (uT w Ds os 0 st)/\S.length<=l/\BE cD [.tup [.int n,.int w],.ref ld,.tup (st.map U.int),.ref lo] S=some (Jt (uT w Ds os 0 st) l,S++X):=by
 unfold BE
 rw[DM]
 obtain⟨X,ρ,l,rk,ll,rm,rfl⟩:=qL (cD:=cD) (x2:=some (.tup (st.map U.int))) (us:=os.map U.int) (ld:=ld) (lo:=lo) hj hns n0 n1 w0 hd os 0 st S none none none h1 h2 ho hs
 refine⟨X,l,rk,ll,?_⟩
 have es:Ck (.ref lo) S=some (os.map U.int,fun S=>S[lo]?=some (.lst (os.map U.int))):=by simp only[Ck,h2]
 cases er:uT w Ds os 0 st with
 |done st'=>
  rw[er]at rm
  obtain⟨a,b,c,e⟩:=rm
  rwa[jT,lJ,jC,es,vw,e,Jt]
 |waits k' lk=>
  rw[er]at rm
  obtain⟨ρ',e⟩:=rm
  rwa[jT,lJ,jC,es,vw,e,Jt]
end
section
variable{S:Sto}{l l':Nat}{us:List U}{u:U}{i:Int}
def wZ(l:Nat)(i:Int)(S:Sto):Option O->Option (U×Sto)
 |some (.lst us)=>if 0<=i/\i<us.length/\us.length<=LIM then(us[i.toNat]?).bind fun u=>some (u,S.set l (.lst (us.eraseIdx i.toNat)))else none
 |_=>none
theorem E7:qO (.ref l) [.int i] S=wZ l i S S[l]?:=by
 unfold qO wZ;rfl
theorem BP(h0:0<=i)(h1:i<us.length)(hL:us.length<=LIM)(hu:us[i.toNat]?=some u):wZ l i S (some (.lst us))=some (u,S.set l (.lst (us.eraseIdx i.toNat))):=by
 simp only[wZ]
 rw[if_pos ⟨h0,h1,hL⟩,hu,Option.bind_some]
def kNg:U×Sto->Option (U×Sto)
 |(.int i,S)=>some (.int (-i),S)
 |_=>none
theorem LQ{ca:CE}{ρ:Rho}:HV ca ρ S=(ca ρ S).bind kNg:=by
 unfold HV
 congr 1
 funext p
 obtain⟨x,S⟩:=p
 cases x<;>rfl
theorem IC:kNg (.int i,S)=some (.int (-i),S):=rfl
theorem HH{vs:List U}:atI (vs++[u]) (-1)=some u:=by
 unfold atI ixN
 rw[if_neg (by omega),if_pos (by rw[List.length_append,List.length_singleton];omega)]
 simp only[Option.bind_some]
 have e:((-1:Int)+((vs++[u]).length:Int)).toNat=vs.length:=by rw[List.length_append,List.length_singleton];omega
 rw[e]
 simp
end
theorem ym{α:Type}{l:List α}{k:Nat}(h:k<l.length):(l[k]::l.eraseIdx k).Perm l:=by
 rw[List.eraseIdx_eq_take_drop_succ]
 refine(List.perm_middle.symm).trans ?_
 rw[List.getElem_cons_drop h,List.take_append_drop]
theorem z7{α β:Type}(f:α->β)(l:List α)(k:Nat):(l.eraseIdx k).map f=(l.map f).eraseIdx k:=by
 rw[List.eraseIdx_eq_take_drop_succ,List.eraseIdx_eq_take_drop_succ,List.map_append,List.map_take,List.map_drop]
def sG:Fn:=fnU 5 2 (gk gy)
theorem qG(ns:List Int)(T:Sto){x1:Option U}:∀(us:List U) (r4:Option U) (left found:List Int) {a c:Int},0<=a->0<=c->left.length+found.length=200->us.length+found.length<=100->(found++left).Nodup->(∀x∈found++left,0<=x/\x<200)->
  ∃(r4':Option U) (left' found':List Int) (a' c':Int),eK (fun _=>True) (gNm 4) (iL gy) us [some (.ref 1),x1,some (.ref (T.length+1+1)),some (.ref (T.length+1+1+1)),r4] (scr ns::pen a c::(T++[.lst (left.map U.int),.lst (found.map U.int)]))
   = some (.nx,[some (.ref 1),x1,some (.ref (T.length+1+1)),some (.ref (T.length+1+1+1)),r4'],scr ns::pen a' c'::(T++[.lst (left'.map U.int),.lst (found'.map U.int)]))/\found'.length=found.length+us.length/\found'.Nodup/\(∀x∈found',0<=x/\x<200)/\0<=a'/\0<=c'
 |[],r4,left,found,a,c,ha,hc,hl,hu,hd,hb=>⟨r4,left,found,a,c,fU trivial,by simp,(List.nodup_append.mp hd).1,fun x hx=>hb x (List.mem_append_left _ hx),ha,hc⟩
 |u::us,r4,left,found,a,c,ha,hc,hl,hu,hd,hb=>by
  simp only[List.length_cons]at hu
  obtain⟨f,a1,c1,e1,p1,q1,ha1,hc1⟩:=dG ns (T++[.lst (left.map U.int),.lst (found.map U.int)]) (m:=(left.length:Int)) ha hc (by omega) (l9 (by omega) (by omega))
  have hk:f.toNat<left.length:=by omega
  have hp:(found++[left[f.toNat]]++left.eraseIdx f.toNat).Perm (found++left):=by
   rw[List.append_assoc]
   refine List.Perm.append_left _ ?_
   exact ym hk
  obtain⟨r4',left',found',a',c',ih,k1,k2⟩:=qG ns T (x1:=x1) us (some u) (left.eraseIdx f.toNat) (found++[left[f.toNat]]) ha1 hc1 (by rw[List.length_eraseIdx_of_lt hk,List.length_append,List.length_singleton];omega) (by rw[List.length_append,List.length_singleton];omega) (hp.nodup_iff.mpr hd) (fun x hx=>hb x (hp.mem_iff.mp hx))
  refine⟨r4',left',found',a',c',(dn trivial rfl ?_).trans ih,by rw[k1,List.length_append,List.length_singleton,List.length_cons];omega,k2⟩
  have hg:(left.map U.int)[f.toNat]?=some (.int left[f.toNat]):=by rw[List.getElem?_map,List.getElem?_eq_getElem hk];rfl
  have h1:(left.map U.int).length<=LIM:=by unfold LIM;rw[List.length_map];omega
  have h2:(found.map U.int).length<LIM:=by unfold LIM;rw[List.length_map];omega
  rwa[iL,e1,E7,BP p1 (show f<((left.map U.int).length:Int)by rw[List.length_map];exact q1) h1 hg,jj h2,List.length_map]
  rw[List.map_append,z7]
  rfl
theorem zr(n:Nat):d7 0 n=((List.range n).map fun i:Nat=>(i:Int)).map U.int:=by
 unfold d7
 rw[List.map_map]
 refine List.map_congr_left fun i _=>?_
 simp
theorem C7(ns:List Int)(T:Sto){a c m:Int}(ha:0<=a)(hc:0<=c)(m0:0<=m)(m1:m<=100) :
  ∃(left names:List Int) (a' c':Int),sG [.ref 1,.int m] (scr ns::pen a c::T)=some (.ref (T.length+1+1+1),scr ns::pen a' c'::(T++[.lst (left.map U.int),.lst (names.map U.int)]))/\names.length=m.toNat/\names.Nodup/\(∀x∈names,0<=x/\x<200)/\0<=a'/\0<=c':=by
 unfold sG
 rw[uq]
 have hL:(((List.range 200).map fun i:Nat=>(i:Int))).Nodup:=List.Pairwise.map _ (fun a b h e=>h (by omega)) List.nodup_range
 obtain⟨r4,left,names,a',c',e,k1,k2,k3,k4,k5⟩:=qG ns T (x1:=some (.int m)) (d7 0 m.toNat) none ((List.range 200).map fun i:Nat=>(i:Int)) [] ha hc (by simp) (by simp[d7];omega) (by rw[List.nil_append];exact hL) (fun x hx=>by
  rw[List.nil_append]at hx
  obtain⟨i,hi,rfl⟩:=List.mem_map.mp hx
  have:=List.mem_range.mp hi
  omega)
 refine⟨left,names,a',c',?_,by rw[k1];simp[d7],k2,k3,k4,k5⟩
 have hr:-(2^62)<=m/\m<2^62:=by omega
 have hR:mq (ae (cC (.int 200)) aE) [some (.ref 1),some (.int m),none,none,none] (scr ns::pen a c::T)=some (.ref (T.length+1+1),scr ns::pen a c::(T++[.lst (((List.range 200).map fun i:Nat=>(i:Int)).map U.int)])):=by
  rw[<-zr]
  rfl
 simp only[List.map_nil]at e
 rwa[gk,hR,lJ,gY,hr,if_true,and_self,List.length_append,e]
inductive Ev where
 |beg (a:Int)|look (a b x:Int)|put (a b x:Int)|fin (d:Bool) (a:Int)
def nc(d:Bool):Str:=if d then "done" else "fall"
def Ev.u:Ev->U
 |.beg a=>.tup [.str "begin",.int a]
 |.look a b x=>.tup [.str "look",.int a,.int b,.int x]
 |.put a b x=>.tup [.str "put",.int a,.int b,.int x]
 |.fin d a=>.tup [.str (nc d),.int a]
structure Att where
 en:Option Bool
 lk:List (Int×Int)
 nd:List (Int×Int)
 ps:List (Int×Int)
 bf:List Int
abbrev St:=List (Int×Att)
def lM(st:St):Att:=⟨none,[],[],[],(st.filter fun p=>p.2.en.isSome).map (·.1)⟩
def D4(nd:List (Int×Int))(p:Int×Int):List (Int×Int):=if p∈nd then nd else nd++[p]
def Att.ev(t:Att):Ev->Att
 |.beg _=>t
 |.look _ b x=>if (bw t.ps b).isSome then t else { t with lk:=t.lk++[(b,x)],nd:=D4 t.nd (b,x) }
 |.put _ b x=>{ t with ps:=jo t.ps b x }
 |.fin d _=>{ t with en:=some d }
def Ev.at:Ev->Int
 |.beg a=>a|.look a _ _=>a|.put a _ _=>a|.fin _ a=>a
def y3(st:St)(a:Int)(f:Att->Att):St:=st.map fun p=>if p.1=a then(p.1,f p.2)else p
def stp(st:St):Ev->St
 |.beg a=>st++[(a,lM st)]
 |e=>y3 st e.at fun t=>t.ev e
def aI(st:St):List Int:=st.map (·.1)
def xH(n w:Int)(st:St):Ev->Prop
 |.beg a=>0<=a/\a<200/\a∉aI st
 |.look a b x=>(0<=b/\b<n/\0<=x/\x<w)/\∃t,bw st a=some t/\t.en=none/\(∀y,bw t.ps b=some y->y=x)
 |.put a b x=>(0<=b/\b<n/\0<=x/\x<w)/\∃t,bw st a=some t/\t.en=none
 |.fin _ a=>∃t,bw st a=some t/\t.en=none
def sS(n w:Int):St->List Ev->Prop
 |_,[]=>True
 |st,e::r=>xH n w st e/\sS n w (stp st e) r
def dI(st:St)(es:List Ev):St:=es.foldl stp st
theorem kF{κ α:Type}[DecidableEq κ]{ps:List (κ×α)}{k:κ}{v:α}(h:bw ps k=some v):(k,v)∈ps:=by
 unfold bw at h
 obtain⟨p,hp,rfl⟩:=Option.map_eq_some_iff.mp h
 have:=List.find?_some hp
 have e:p.1=k:=by simpa using this
 subst e
 exact List.mem_of_find?_eq_some hp
theorem fe{κ α:Type}[DecidableEq κ]{ps:List (κ×α)}{k:κ}:bw ps k=none↔k∉ps.map (·.1):=by
 unfold bw
 rw[Option.map_eq_none_iff,List.find?_eq_none]
 simp only[decide_eq_true_eq,List.mem_map,not_exists,not_and]
theorem Ag{st:St}{a:Int}{f:Att->Att}:aI (y3 st a f)=aI st:=by
 unfold aI y3
 rw[List.map_map]
 refine List.map_congr_left fun p _=>?_
 simp only[Function.comp]
 split<;>rfl
theorem wc{st:St}{a:Int}{f:Att->Att}{b:Int}:bw (y3 st a f) b=if b=a then(bw st b).map f else bw st b:=by
 unfold bw y3
 induction st with
 |nil=>simp
 |cons p r ih=>
  simp only[List.map_cons,List.find?_cons]
  by_cases e:p.1=b
  ·subst e
   by_cases e2:p.1=a
   ·subst e2;simp
   ·simp[e2]
  ·have e3:(if p.1=a then(p.1,f p.2)else p).1=p.1:=by split<;>rfl
   rw[e3,decide_eq_false e]
   exact ih
theorem kG{κ α:Type}[DecidableEq κ]{ps qs:List (κ×α)}{k:κ}:bw (ps++qs) k=(bw ps k).or (bw qs k):=by
 unfold bw
 rw[List.find?_append]
 cases List.find? (fun kv=>decide (kv.1=k)) ps<;>simp
theorem rQ{st:St}{e:Ev}:aI (stp st e)=match e with
  |.beg a=>aI st++[a]
  |_=>aI st:=by
 cases e with
 |beg a=>simp[stp,aI]
 |_=>simp only[stp,Ag]
theorem qW{st:St}{e:Ev}{b:Int}(h:b≠e.at):bw (stp st e) b=bw st b:=by
 cases e with
 |beg a=>
  have h':a≠b:=Ne.symm h
  simp[stp,kG]
  cases bw st b with
  |some t=>rfl
  |none=>simp[bw,h']
 |_=>simp only[stp,wc,if_neg h]
theorem ju{st:St}{e:Ev}{t:Att}(h:bw st e.at=some t):bw (stp st e) e.at=some (t.ev e):=by
 cases e with
 |beg a=>simp only[stp,kG,Ev.at]at h ⊢;rw[h];rfl
 |_=>simp only[stp,wc,if_pos];rw[h];rfl
theorem uN{st:St}{a:Int}(h:a∉aI st):bw (stp st (.beg a)) a=some (lM st):=by
 simp only[stp,kG]
 rw[fe.mpr h]
 simp[bw]
theorem lu{n w:Int}{st:St}{e:Ev}(h:(aI st).Nodup)(ok:xH n w st e):(aI (stp st e)).Nodup:=by
 rw[rQ]
 cases e with
 |beg a=>
  refine List.nodup_append.mpr ⟨h,by simp,fun x hx y hy e=>?_⟩
  simp at hy
  subst hy;subst e
  exact ok.2.2 hx
 |_=>exact h
structure Go where
 a:Int
 seen:List Int
 r:Nat
theorem gss{S:Sto}{i:Nat}{o:O}:(S.set i o)[i]?=(S[i]?).map fun _=>o:=by
 by_cases h:i<S.length
 ·rw[List.getElem?_set_self h,List.getElem?_eq_getElem h];rfl
 ·rw[List.getElem?_eq_none (by simpa using h),List.getElem?_eq_none (by simpa using h)];rfl
theorem gsn{S:Sto}{i j:Nat}{o:O}(h:i≠j):(S.set i o)[j]?=S[j]?:=List.getElem?_set_ne h
section
variable{n w:Int}{N:Nat}{T0 T T':Sto}{ln ll lg:Nat}{names:List Int}{evs:List Ev}{g:List Go}{now:List Int}{x2 x3 x4 x9 x10 x11 x12 x13:Option U}
theorem ql:decide (("done":Str)="put")=false:=by decide +kernel
theorem qk:decide (("fall":Str)="put")=false:=by decide +kernel
theorem kC{x:Str}:decide (x=x)=true:=decide_eq_true rfl
theorem K4{now:List Int}{ps:List (Int×Int)}{w:Int}(h:∀z∈now,0<=z/\z<w)(hp:∀p∈ps,0<=p.2/\p.2<w)(k:Nat):∀z∈beh now ps k,0<=z/\z<w:=fun z hz=>by
 unfold beh at hz
 obtain⟨p,hp',rfl⟩:=List.mem_map.mp hz
 cases hv:bw ps (p.2:Int)with
 |some y=>exact hp _ (kF hv)
 |none=>exact h _ (List.fst_mem_of_mem_zipIdx hp')
end
structure yy(n w:Int)(N:Nat)(evs:List Ev):Prop where
 lo:sS n w [] evs
 kd:(aI (dI [] evs)).Nodup
 cnt:(dI [] evs).length<=N
 pb:∀a t,bw (dI [] evs) a=some t->t.ps.length<=evs.length/\∀p∈t.ps,(0<=p.1/\p.1<n)/\0<=p.2/\p.2<w
section
variable{c:Cl}{B:Nat}{E L N P F E':List (Key×U)}{X Y S:Sto}{k:Nat}{o:O}
def hd(c:Cl)(B:Nat)(E L N P F:List (Key×U)):Sto:=[.ins c [some (.ref (B+1)),some (.ref (B+2)),some (.ref (B+3)),some (.ref (B+4)),some (.ref (B+5))],.dic E,.dic L,.dic N,.dic P,.dic F]
theorem hd0:(S++(hd c B E L N P F++X))[S.length]?=some (.ins c [some (.ref (B+1)),some (.ref (B+2)),some (.ref (B+3)),some (.ref (B+4)),some (.ref (B+5))]):=by rw[ga0];rfl
theorem hd1:(S++(hd c B E L N P F++X))[S.length+1]?=some (.dic E):=by rw[ga];rfl
theorem hd2:(S++(hd c B E L N P F++X))[S.length+2]?=some (.dic L):=by rw[ga];rfl
theorem hd3:(S++(hd c B E L N P F++X))[S.length+3]?=some (.dic N):=by rw[ga];rfl
theorem hd4:(S++(hd c B E L N P F++X))[S.length+4]?=some (.dic P):=by rw[ga];rfl
theorem hd5:(S++(hd c B E L N P F++X))[S.length+5]?=some (.dic F):=by rw[ga];rfl
theorem hs1:(S++(hd c B E L N P F++X)).set (S.length+1) (.dic E')=S++(hd c B E' L N P F++X):=by rw[gs];rfl
theorem hs2:(S++(hd c B E L N P F++X)).set (S.length+2) (.dic E')=S++(hd c B E E' N P F++X):=by rw[gs];rfl
theorem hs3:(S++(hd c B E L N P F++X)).set (S.length+3) (.dic E')=S++(hd c B E L E' P F++X):=by rw[gs];rfl
theorem hs4:(S++(hd c B E L N P F++X)).set (S.length+4) (.dic E')=S++(hd c B E L N E' F++X):=by rw[gs];rfl
theorem hs5:(S++(hd c B E L N P F++X)).set (S.length+5) (.dic E')=S++(hd c B E L N P E'++X):=by rw[gs];rfl
theorem gZ:(S++(hd c B E L N P F++X)).length=S.length+(6+X.length):=by simp[hd];omega
theorem hgx:(S++(hd c B E L N P F++X))[S.length+(6+k)]?=X[k]?:=by
 rw[ga,List.getElem?_append_right (by simp[hd])]
 congr 1
 simp[hd]
theorem hsx:(S++(hd c B E L N P F++X)).set (S.length+(6+k)) o=S++(hd c B E L N P F++X.set k o):=by
 rw[gs,List.set_append_right _ _ (by simp[hd])]
 congr 3
 simp[hd]
theorem OA:S++(hd c B E L N P F++X)++Y=S++(hd c B E L N P F++(X++Y)):=by simp only[List.append_assoc]
end
def enS:Option Bool->Str
 |none=>"open"
 |some d=>nc d
def gC(st:St):List (Key×U):=st.map fun p=>(.inl p.1,.str (enS p.2.en))
def eY(B j:Nat)(st:St)(i:Nat):List (Key×U):=match st with
 |[]=>[]
 |p::r=>(.inl p.1,.ref (B+(6+(4*i+j))))::eY B j r (i+1)
def AU(nd:List (Int×Int)):List (List Key×U):=nd.map fun p=>([.inl p.1,.inl p.2],.bl true)
def blk(t:Att):Sto:=[.lst (t.bf.map U.int),.lst (t.lk.map pU),.dit (AU t.nd),.dic (p7 t.ps)]
def pE:St->Sto
 |[]=>[]
 |p::r=>blk p.2++pE r
def crs(c:Cl)(S:Sto)(st:St):Sto:=S++(hd c S.length (gC st) (eY S.length 1 st 0) (eY S.length 2 st 0) (eY S.length 3 st 0) (eY S.length 0 st 0)++pE st)
theorem iG:∀st:St,(pE st).length=4*st.length
 |[]=>rfl
 |p::r=>by rw[pE,List.length_append,iG r,List.length_cons];simp[blk];omega
theorem jf:∀s r:St,pE (s++r)=pE s++pE r
 |[],r=>rfl
 |p::s,r=>by rw[List.cons_append,pE,pE,jf s r,List.append_assoc]
theorem lC{B j:Nat}:∀(s r:St) (i:Nat),eY B j (s++r) i=eY B j s i++eY B j r (i+s.length)
 |[],r,i=>rfl
 |p::s,r,i=>by
  rw[List.cons_append,eY,eY,lC s r (i+1),List.cons_append,List.length_cons]
  congr 3
  omega
theorem ph{B j:Nat}:∀(s:St) (i:Nat),(eY B j s i).map (·.1)=(aI s).map Sum.inl
 |[],i=>rfl
 |p::s,i=>by rw[eY,List.map_cons,ph s (i+1)];rfl
theorem iP{s:St}:(gC s).map (·.1)=(aI s).map Sum.inl:=by
 unfold gC aI;rw[List.map_map,List.map_map];rfl
theorem lU{ks:List Int}{a:Int}(h:a∉ks):(Sum.inl a:Key)∉ks.map Sum.inl:=fun z=>by
 obtain⟨b,hb,e⟩:=List.mem_map.mp z
 cases e
 exact h hb
theorem nP{κ α:Type}[DecidableEq κ]{ps qs:List (κ×α)}{k:κ}{v:α}(h:k∉ps.map (·.1)):bw (ps++(k,v)::qs) k=some v:=by
 rw[kG,fe.mpr h]
 simp[bw]
theorem rF{κ α:Type}[DecidableEq κ]{ps:List (κ×α)}{k:κ}{v:α}(h:k∉ps.map (·.1)):jo ps k v=ps++[(k,v)]:=by
 unfold jo
 rw[if_neg]
 simp only[List.any_eq_true,decide_eq_true_eq,not_exists,not_and]
 intro p hp e
 exact h (List.mem_map.mpr ⟨p,hp,e⟩)
theorem Cw{κ α:Type}[DecidableEq κ]{ps qs:List (κ×α)}{k:κ}{v v':α}(h:(ps++(k,v)::qs).map (·.1) |>.Nodup):jo (ps++(k,v)::qs) k v'=ps++(k,v')::qs:=by
 unfold jo
 rw[if_pos (by simp)]
 rw[List.map_append,List.map_cons]at h
 have h1:=List.nodup_append.mp h
 have h2:=List.nodup_cons.mp h1.2.1
 have keep:∀{l:List (κ×α)},k∉l.map (·.1)->(l.map fun p=>if p.1=k then(p.1,v')else p)=l:=fun{l} hl=>by
  rw[List.map_congr_left (g:=id) fun p hp=>?_,List.map_id]
  rw[if_neg fun e=>hl (List.mem_map.mpr ⟨p,hp,e⟩)];rfl
 rw[List.map_append,List.map_cons]
 rw[keep fun z=>h1.2.2 k z k List.mem_cons_self rfl,keep h2.1,if_pos rfl]
section
variable{c:Cl}{S:Sto}{s1 s2 st:St}{a:Int}{t t':Att}
theorem z4(h:(aI (s1++(a,t)::s2)).Nodup):a∉aI s1:=fun z=>by
 unfold aI at h z
 rw[List.map_append,List.map_cons]at h
 exact(List.nodup_append.mp h).2.2 a z a List.mem_cons_self rfl
theorem gH{j:Nat}(h:(aI (s1++(a,t)::s2)).Nodup):bw (eY S.length j (s1++(a,t)::s2) 0) (.inl a)=some (.ref (S.length+(6+(4*s1.length+j)))):=by
 rw[lC,eY,Nat.zero_add]
 exact nP (by rw[ph];exact lU (z4 h))
theorem kE(h:(aI (s1++(a,t)::s2)).Nodup):bw (gC (s1++(a,t)::s2)) (.inl a)=some (.str (enS t.en)):=by
 have e:gC (s1++(a,t)::s2)=gC s1++(Sum.inl a,U.str (enS t.en))::gC s2:=by unfold gC;rw[List.map_append,List.map_cons]
 rw[e]
 exact nP (by rw[iP];exact lU (z4 h))
theorem uk{j:Nat}:eY S.length j (s1++(a,t)::s2) 0=eY S.length j (s1++(a,t')::s2) 0:=by
 rw[lC,lC];rfl
theorem AV(h:t.en=t'.en):gC (s1++(a,t)::s2)=gC (s1++(a,t')::s2):=by
 unfold gC;rw[List.map_append,List.map_cons,List.map_append,List.map_cons,h]
theorem Cv{d:Bool}(h:(aI (s1++(a,t)::s2)).Nodup)(e:t'.en=some d):jo (gC (s1++(a,t)::s2)) (.inl a) (.str (nc d))=gC (s1++(a,t')::s2):=by
 have e1:∀t:Att,gC (s1++(a,t)::s2)=gC s1++(Sum.inl a,U.str (enS t.en))::gC s2:=fun t=>by unfold gC;rw[List.map_append,List.map_cons]
 rw[e1,e1,e]
 refine Cw ?_
 rw[<-e1,iP]
 exact List.Pairwise.map _ (fun a b h e=>h (by cases e;rfl)) h
theorem HD{j:Nat}(hj:j<4):(pE (s1++(a,t)::s2))[4*s1.length+j]?=(blk t)[j]?:=by
 rw[jf,pE,List.getElem?_append_right (by rw[iG];omega),iG,Nat.add_sub_cancel_left,List.getElem?_append_left (by simp[blk];omega)]
theorem HC{j:Nat}{o:O}(hj:j<4)(h:(blk t).set j o=blk t'):(pE (s1++(a,t)::s2)).set (4*s1.length+j) o=pE (s1++(a,t')::s2):=by
 rw[jf,jf,pE,pE,List.set_append_right _ _ (by rw[iG];omega),iG,Nat.add_sub_cancel_left,List.set_append_left _ _ (by simp[blk];omega),h]
theorem jF{j:Nat}(hj:j<4):(crs c S (s1++(a,t)::s2))[S.length+(6+(4*s1.length+j))]?=(blk t)[j]?:=by
 unfold crs;rw[hgx,HD hj]
theorem sh{j:Nat}{o:O}(hj:j<4)(he:t.en=t'.en)(h:(blk t).set j o=blk t'):(crs c S (s1++(a,t)::s2)).set (S.length+(6+(4*s1.length+j))) o=crs c S (s1++(a,t')::s2):=by
 unfold crs
 rw[hsx,HC hj h,AV he]
 simp only[uk (t:=t) (t':=t')]
theorem Ba{d:Bool}(h:(aI (s1++(a,t)::s2)).Nodup):(crs c S (s1++(a,t)::s2)).set (S.length+1) (.dic (jo (gC (s1++(a,t)::s2)) (.inl a) (.str (nc d))))=crs c S (s1++(a,{ t with en:=some d })::s2):=by
 unfold crs
 rw[hs1,Cv (t':={ t with en:=some d }) h rfl]
 simp only[uk (t:=t) (t':={ t with en:=some d })]
 congr 2
 rw[jf,jf];rfl
theorem fZ{f:Att->Att}(h:(aI (s1++(a,t)::s2)).Nodup):y3 (s1++(a,t)::s2) a f=s1++(a,f t)::s2:=by
 have h0:=h
 unfold aI at h
 rw[List.map_append,List.map_cons]at h
 have h1:=List.nodup_append.mp h
 have h2:=List.nodup_cons.mp h1.2.1
 unfold y3
 have keep:∀{l:St},a∉l.map (·.1)->(l.map fun p=>if p.1=a then(p.1,f p.2)else p)=l:=fun{l} hl=>by
  rw[List.map_congr_left (g:=id) fun p hp=>?_,List.map_id]
  rw[if_neg fun e=>hl (List.mem_map.mpr ⟨p,hp,e⟩)];rfl
 rw[List.map_append,List.map_cons,keep fun z=>h1.2.2 a z a List.mem_cons_self rfl,keep h2.1,if_pos rfl]
theorem dz{st:St}(h:bw st a=some t):∃s1 s2,st=s1++(a,t)::s2:=List.append_of_mem (kF h)
theorem ef{i:Nat}{u:U}{fus:List (Option U)}{Z:Sto}{l:Nat}(h:Z[l]?=some (.ins c fus))(hu:fus[i]?=some (some u)):m8 c i (.ref l,Z)=some (u,Z):=by
 rw[Eg,h,Ef,hu];rfl
theorem Lz{co cv:CE}{cr:CA}{ρ:Rho}{Z Z1 Z2 Z3:Sto}{u:U}{l:Nat}{us:List U}{ks:List Key}{kus:List (List Key×U)}(h1:cv ρ Z=some (u,Z1))(h2:co ρ Z1=some (.ref l,Z2))(h3:cr ρ Z2=some (us,Z3))(h4:Z3[l]?=some (.dit kus))(h5:Le us=some ks)(h6:kus.length<LIM)(h7:us.length<=LIM) :
  pA co cr cv ρ Z=some (.nx,ρ,Z3.set l (.dit (jo kus ks u))):=by
 unfold pA
 rw[h1,Option.bind_some,h2,Option.bind_some,h3,Option.bind_some]
 simp only[h4,h5,Option.bind_some]
 rw[if_pos ⟨h6,h7⟩]
theorem Ct(nd:List (Int×Int))(b x:Int):jo (AU nd) [.inl b,.inl x] (.bl true)=AU (D4 nd (b,x)):=by
 have kk:∀p:Int×Int,([Sum.inl p.1,Sum.inl p.2]:List Key)=[.inl b,.inl x]↔p=(b,x):=fun p=>by
  obtain⟨p1,p2⟩:=p
  simp
 unfold jo D4
 have ha:((AU nd).any fun kv=>decide (kv.1=[Sum.inl b,Sum.inl x]))=decide ((b,x)∈nd):=by
  unfold AU
  induction nd with
  |nil=>rfl
  |cons p r ih=>
   simp only[List.map_cons,List.any_cons,ih,List.mem_cons,kk]
   by_cases e:p=(b,x)
   ·simp[e]
   ·simp[e,Ne.symm e]
 rw[ha]
 by_cases m:(b,x)∈nd
 ·rw[if_pos (decide_eq_true m),if_pos m]
  unfold AU
  rw[List.map_map]
  refine List.map_congr_left fun p _=>?_
  simp only[Function.comp]
  split<;>simp_all
 ·rw[if_neg (by simpa using m),if_neg m]
  simp[AU]
def BF(c:Cl):Fn:=fnU 4 4 (bV c)
theorem z3{b x:Int}(h:(aI (s1++(a,t)::s2)).Nodup)(hl:t.lk.length<=10000)(hn:t.nd.length<=10000):BF c [.ref S.length,.int a,.int b,.int x] (crs c S (s1++(a,t)::s2))=some (.non,crs c S (s1++(a,t.ev (.look a b x))::s2)):=by
 unfold BF
 rw[lF]
 have g3:=jF (c:=c) (S:=S) (s1:=s1) (s2:=s2) (a:=a) (t:=t) (j:=3) (by omega)
 have g1:=jF (c:=c) (S:=S) (s1:=s1) (s2:=s2) (a:=a) (t:=t) (j:=1) (by omega)
 have v1:=gH (S:=S) (j:=1) h
 have v2:=gH (S:=S) (j:=2) h
 have v3:=gH (S:=S) (j:=3) h
 have f0:∀st:St,(crs c S st)[S.length]?=some (.ins c [some (.ref (S.length+1)),some (.ref (S.length+2)),some (.ref (S.length+3)),some (.ref (S.length+4)),some (.ref (S.length+5))]):=fun st=>hd0
 have f2:∀st:St,(crs c S st)[S.length+2]?=some (.dic (eY S.length 1 st 0)):=fun st=>hd2
 have f3:∀st:St,(crs c S st)[S.length+3]?=some (.dic (eY S.length 2 st 0)):=fun st=>hd3
 have f4:∀st:St,(crs c S st)[S.length+4]?=some (.dic (eY S.length 3 st 0)):=fun st=>hd4
 have F1:∀st:St,m8 c 1 (.ref S.length,crs c S st)=some (.ref (S.length+2),crs c S st):=fun st=>ef (f0 st) rfl
 have F2:∀st:St,m8 c 2 (.ref S.length,crs c S st)=some (.ref (S.length+3),crs c S st):=fun st=>ef (f0 st) rfl
 have F3:∀st:St,m8 c 3 (.ref S.length,crs c S st)=some (.ref (S.length+4),crs c S st):=fun st=>ef (f0 st) rfl
 have g3':(crs c S (s1++(a,t)::s2))[S.length+(6+(4*s1.length+3))]?=some (.dic (p7 t.ps)):=g3
 have g1':(crs c S (s1++(a,t)::s2))[S.length+(6+(4*s1.length+1))]?=some (.lst (t.lk.map pU)):=g1
 cases hv:bw t.ps b with
 |some y=>
  have e:t.ev (.look a b x)=t:=by simp[Att.ev,hv]
  rw[e]
  rwa[bV,F3,f4,v3,g3',nD,hv,Option.map_some,Option.isSome_some,if_true]
 |none=>
  have e:t.ev (.look a b x)={ t with lk:=t.lk++[(b,x)],nd:=D4 t.nd (b,x) }:=by simp[Att.ev,hv]
  rw[e]
  have hL:(t.lk.map pU).length<LIM:=by unfold LIM;rw[List.length_map];omega
  have s1':=sh (c:=c) (S:=S) (s1:=s1) (s2:=s2) (a:=a) (t:=t) (t':={ t with lk:=t.lk++[(b,x)] }) (j:=1) (o:=.lst (t.lk.map pU++[pU (b,x)])) (by omega) rfl (by unfold blk;rw[List.map_append];rfl)
  have h':(aI (s1++(a,({ t with lk:=t.lk++[(b,x)] }:Att))::s2)).Nodup:=by unfold aI at h ⊢;rw[List.map_append,List.map_cons]at h ⊢;exact h
  have v2':=gH (S:=S) (j:=2) h'
  have g2:=jF (c:=c) (S:=S) (s1:=s1) (s2:=s2) (a:=a) (t:={ t with lk:=t.lk++[(b,x)] }) (j:=2) (by omega)
  have g2':(crs c S (s1++(a,({ t with lk:=t.lk++[(b,x)] }:Att))::s2))[S.length+(6+(4*s1.length+2))]?=some (.dit (AU t.nd)):=g2
  have s2':=sh (c:=c) (S:=S) (s1:=s1) (s2:=s2) (a:=a) (t:={ t with lk:=t.lk++[(b,x)] }) (t':={ t with lk:=t.lk++[(b,x)],nd:=D4 t.nd (b,x) }) (j:=2) (o:=.dit (AU (D4 t.nd (b,x)))) (by omega) rfl rfl
  have e3:pA (cOp fIx (gD c 2 (ah 0)) (ah 1)) (ae (ah 2) (ae (ah 3) aE)) (cC (.bl true)) [some (.ref S.length),some (.int a),some (.int b),some (.int x)] (crs c S (s1++(a,({ t with lk:=t.lk++[(b,x)] }:Att))::s2))=some (.nx,[some (.ref S.length),some (.int a),some (.int b),some (.int x)],crs c S (s1++(a,({ t with lk:=t.lk++[(b,x)],nd:=D4 t.nd (b,x) }:Att))::s2)):=by
   rw[Lz (u:=.bl true) (us:=[.int b,.int x]) (ks:=[.inl b,.inl x]) (kus:=AU t.nd) (l:=S.length+(6+(4*s1.length+2))) (Z1:=crs c S (s1++(a,({ t with lk:=t.lk++[(b,x)] }:Att))::s2)) (Z2:=crs c S (s1++(a,({ t with lk:=t.lk++[(b,x)] }:Att))::s2)) (Z3:=crs c S (s1++(a,({ t with lk:=t.lk++[(b,x)] }:Att))::s2)) rfl ?_ rfl g2' rfl (by unfold LIM AU;rw[List.length_map];omega) (by unfold LIM;simp),Ct,s2']
   rwa[F2,f3,v2']
  have pu:pU (b,x)=.tup [.int b,.int x]:=rfl
  rw[pu]at s1'
  rwa[bV,F1,F3,f2,f4,v1,v3,g1',g3',nD,hv,jj hL,s1',e3,Option.map_none,Option.isSome_none,Bool.false_eq_true,if_true,if_false]
end
section
variable{c:Cl}{S:Sto}{s1 s2 st:St}{a:Int}{t t':Att}
theorem se{o:Option Bool}:decide (enS o=("open":Str))=!o.isSome:=by
 cases o with
 |none=>exact decide_eq_true rfl
 |some d=>cases d<;>(simp only[enS,nc,if_true,if_false,Bool.false_eq_true];decide +kernel)
theorem vI{ep:Nat}{E L N P F:List (Key×U)}{X:Sto}(hE:E=gC st)(hk:(aI st).Nodup):∀(p r:St) (r0:Option U) (ys:List Int),st=p++r->ys.length+r.length<=1000->
  dr (fun S'=>S'[S.length+1]?=some (.fdc ep E)) (gNm 0) (aQ (cOp fNe (cOp fIx (gD c 0 (ah 1)) (ah 0)) (cC (.str "open")))) (ah 0) (S.length+(6+X.length)) ((gC r).map fun q=>kU q.1) [r0,some (.ref S.length)] ((S++(hd c S.length E L N P F++X)).set (S.length+1) (.fdc ep E)++[.lst (ys.map U.int)])
   = some ((S++(hd c S.length E L N P F++X)).set (S.length+1) (.fdc ep E)++[.lst ((ys++(r.filter fun p=>p.2.en.isSome).map (·.1)).map U.int)])
 |p,[],r0,ys,e,hl=>by
  have ok:((S++(hd c S.length E L N P F++X)).set (S.length+1) (.fdc ep E)++[O.lst (ys.map U.int)])[S.length+1]?=some (.fdc ep E):=aG (by rw[gss,hd1];rfl)
  simp only[List.filter_nil,List.map_nil,List.append_nil]
  exact qQ ok
 |p,(b,t)::r,r0,ys,e,hl=>by
  have hk':(aI (p++(b,t)::r)).Nodup:=by rw[<-e];exact hk
  have ok:∀ys:List Int,((S++(hd c S.length E L N P F++X)).set (S.length+1) (.fdc ep E)++[O.lst (ys.map U.int)])[S.length+1]?=some (.fdc ep E):=fun ys=>aG (by rw[gss,hd1];rfl)
  have i0:((S++(hd c S.length E L N P F++X)).set (S.length+1) (.fdc ep E)++[O.lst (ys.map U.int)])[S.length]?=some (.ins c [some (.ref (S.length+1)),some (.ref (S.length+2)),some (.ref (S.length+3)),some (.ref (S.length+4)),some (.ref (S.length+5))]):=aG (by rw[gsn (by omega),hd0])
  have F0:m8 c 0 (.ref S.length,(S++(hd c S.length E L N P F++X)).set (S.length+1) (.fdc ep E)++[O.lst (ys.map U.int)])=some (.ref (S.length+1),(S++(hd c S.length E L N P F++X)).set (S.length+1) (.fdc ep E)++[O.lst (ys.map U.int)]):=ef i0 rfl
  have vE:bw E (.inl b)=some (.str (enS t.en)):=by rw[hE,e];exact kE hk'
  have kk:kU (Sum.inl b)=.int b:=rfl
  have tst0:∀Z:Sto,m8 c 0 (.ref S.length,Z)=some (.ref (S.length+1),Z)->Z[S.length+1]?=some (.fdc ep E)->(aQ (cOp fNe (cOp fIx (gD c 0 (ah 1)) (ah 0)) (cC (.str "open")))) [some (.int b),some (.ref S.length)] Z=some (t.en.isSome,Z):=fun Z z1 z2=>by
   have z:(!decide (enS t.en=("open":Str)))=t.en.isSome:=by rw[se,Bool.not_not]
   rwa[z1,z2,IJ,vE,z]
  have tst:=tst0 _ F0 (ok ys)
  have ln:((S++(hd c S.length E L N P F++X)).set (S.length+1) (.fdc ep E)).length=S.length+(6+X.length):=by rw[List.length_set,gZ]
  simp only[gC,List.map_cons,kk]
  cases hs:t.en.isSome with
  |false=>
   have ih:=vI (ep:=ep) (L:=L) (N:=N) (P:=P) (F:=F) (X:=X) hE hk (p++[(b,t)]) r (some (.int b)) ys (by rw[e];simp) (by simp at hl ⊢;omega)
   refine(uz (ok ys) rfl (by rw[<-hs];exact tst)).trans ?_
   rw[List.filter_cons_of_neg (by simpa using hs)]
   exact ih
  |true=>
   have ih:=vI (ep:=ep) (L:=L) (N:=N) (P:=P) (F:=F) (X:=X) hE hk (p++[(b,t)]) r (some (.int b)) (ys++[b]) (by rw[e];simp) (by simp at hl ⊢;omega)
   refine(qP (x:=.int b) (ys:=ys.map U.int) (ok ys) rfl (by rw[<-hs];exact tst) rfl (by rw[<-ln,ga0];rfl) (by unfold LIM;simp at hl ⊢;omega)).trans ?_
   rw[List.filter_cons_of_pos (by simpa using hs)]
   have e5:((S++(hd c S.length E L N P F++X)).set (S.length+1) (.fdc ep E)++[O.lst (ys.map U.int)]).set (S.length+(6+X.length)) (.lst (ys.map U.int++[U.int b]))=(S++(hd c S.length E L N P F++X)).set (S.length+1) (.fdc ep E)++[.lst ((ys++[b]).map U.int)]:=by
    rw[<-ln,gs0,List.map_append];rfl
   rw[e5]
   refine ih.trans ?_
   simp
theorem Na(hk:(aI st).Nodup)(hl:st.length<=900)(x1:Option U):nK (gD c 0 (ah 0)) (gNm 0) (aQ (cOp fNe (cOp fIx (gD c 0 (ah 1)) (ah 0)) (cC (.str "open")))) (ah 0) 1 [0] [some (.ref S.length),x1] (crs c S st)=some (.ref (S.length+(6+4*st.length)),crs c S st++[.lst ((lM st).bf.map U.int)]):=by
 have i0:(crs c S st)[S.length]?=some (.ins c [some (.ref (S.length+1)),some (.ref (S.length+2)),some (.ref (S.length+3)),some (.ref (S.length+4)),some (.ref (S.length+5))]):=hd0
 have F0:m8 c 0 (.ref S.length,crs c S st)=some (.ref (S.length+1),crs c S st):=ef i0 rfl
 have ce:gD c 0 (ah 0) [some (.ref S.length),x1] (crs c S st)=some (.ref (S.length+1),crs c S st):=by rwa[F0]
 have ln:(crs c S st).length=S.length+(6+4*st.length):=by unfold crs;rw[gZ,iG]
 have f1:(crs c S st)[S.length+1]?=some (.dic (gC st)):=hd1
 unfold nK Bj
 rw[ce,Option.bind_some]
 simp only[f1]
 refine Ei fun ep=>?_
 have h:=vI (c:=c) (S:=S) (ep:=ep) (L:=eY S.length 1 st 0) (N:=eY S.length 2 st 0) (P:=eY S.length 3 st 0) (F:=eY S.length 0 st 0) (X:=pE st) rfl hk [] st none [] rfl (by simp;omega)
 have e1:sN 1 [0] [some (.ref S.length),x1]=[none,some (.ref S.length)]:=rfl
 rw[iG]at h
 rw[e1,ln]
 simp only[List.map_nil,List.nil_append]at h
 have h':dr (fun S'=>S'[S.length+1]?=some (.fdc ep (gC st))) (gNm 0) (aQ (cOp fNe (cOp fIx (gD c 0 (ah 1)) (ah 0)) (cC (.str "open")))) (ah 0) (S.length+(6+4*st.length)) ((gC st).map fun q=>kU q.1) [none,some (.ref S.length)] ((crs c S st).set (S.length+1) (.fdc ep (gC st))++[.lst []])=some ((crs c S st).set (S.length+1) (.fdc ep (gC st))++[.lst ((lM st).bf.map U.int)]):=h
 rw[h',Option.bind_some]
 have g:((crs c S st).set (S.length+1) (.fdc ep (gC st))++[O.lst ((lM st).bf.map U.int)])[S.length+1]?=some (.fdc ep (gC st)):=aG (by rw[gss,f1];rfl)
 simp only[g]
 have hlt:S.length+1<(crs c S st).length:=by omega
 rw[List.set_append_left _ _ (by simpa using hlt),List.set_set]
 congr 3
 unfold crs
 rw[hs1]
def hc(c:Cl)(S:Sto)(E L N P F:List (Key×U))(X:Sto):Sto:=S++(hd c S.length E L N P F++X)
section
variable{E L N P F E':List (Key×U)}{X Y:Sto}
theorem hc0:(hc c S E L N P F X)[S.length]?=some (.ins c [some (.ref (S.length+1)),some (.ref (S.length+2)),some (.ref (S.length+3)),some (.ref (S.length+4)),some (.ref (S.length+5))]):=hd0
theorem hc1:(hc c S E L N P F X)[S.length+1]?=some (.dic E):=hd1
theorem hc2:(hc c S E L N P F X)[S.length+2]?=some (.dic L):=hd2
theorem hc3:(hc c S E L N P F X)[S.length+3]?=some (.dic N):=hd3
theorem hc4:(hc c S E L N P F X)[S.length+4]?=some (.dic P):=hd4
theorem hc5:(hc c S E L N P F X)[S.length+5]?=some (.dic F):=hd5
theorem ht1:(hc c S E L N P F X).set (S.length+1) (.dic E')=hc c S E' L N P F X:=hs1
theorem ht2:(hc c S E L N P F X).set (S.length+2) (.dic E')=hc c S E E' N P F X:=hs2
theorem ht3:(hc c S E L N P F X).set (S.length+3) (.dic E')=hc c S E L E' P F X:=hs3
theorem ht4:(hc c S E L N P F X).set (S.length+4) (.dic E')=hc c S E L N E' F X:=hs4
theorem ht5:(hc c S E L N P F X).set (S.length+5) (.dic E')=hc c S E L N P E' X:=hs5
theorem hcl:(hc c S E L N P F X).length=S.length+(6+X.length):=gZ
theorem hcA:hc c S E L N P F X++Y=hc c S E L N P F (X++Y):=OA
end
def sH(c:Cl):Fn:=fnU 2 2 (et c)
theorem AR{B j:Nat}{p:Int×Att}:eY B j (st++[p]) 0=eY B j st 0++[(.inl p.1,.ref (B+(6+(4*st.length+j))))]:=by
 rw[lC,eY,Nat.zero_add];rfl
theorem xi{B j:Nat}:∀(s:St) (i:Nat),(eY B j s i).length=s.length
 |[],_=>rfl
 |p::s,i=>by rw[eY,List.length_cons,xi s (i+1),List.length_cons]
theorem uA(hk:(aI st).Nodup)(ha:a∉aI st)(hl:st.length<=900):sH c [.ref S.length,.int a] (crs c S st)=some (.non,crs c S (st++[(a,lM st)])):=by
 unfold sH
 rw[qb]
 have B0:=Na (c:=c) (S:=S) hk hl (some (.int a))
 have pr:∀j,jo (eY S.length j st 0) (.inl a) (.ref (S.length+(6+(4*st.length+j))))=eY S.length j (st++[(a,lM st)]) 0:=fun j=>by
  rw[rF (by rw[ph];exact lU ha),AR]
 have pe:jo (gC st) (.inl a) (.str "open")=gC (st++[(a,lM st)]):=by
  rw[rF (by rw[iP];exact lU ha)]
  unfold gC;rw[List.map_append];rfl
 have lR:∀j,(eY S.length j st 0).length<LIM:=fun j=>by rw[xi];unfold LIM;omega
 have lE:(gC st).length<LIM:=by unfold gC LIM;rw[List.length_map];omega
 have l0:(pE st).length=4*st.length:=iG st
 have l1:∀o:O,(pE st++[o]).length=4*st.length+1:=fun o=>by rw[List.length_append,l0];rfl
 have l2:∀o o':O,(pE st++[o,o']).length=4*st.length+2:=fun o o'=>by rw[List.length_append,l0];rfl
 have l3:∀o o' o'':O,(pE st++[o,o',o'']).length=4*st.length+3:=fun o o' o''=>by rw[List.length_append,l0];rfl
 have F0:∀{E L N P F:List (Key×U)} {X:Sto},m8 c 0 (.ref S.length,hc c S E L N P F X)=some (.ref (S.length+1),hc c S E L N P F X):=ef hc0 rfl
 have F1:∀{E L N P F:List (Key×U)} {X:Sto},m8 c 1 (.ref S.length,hc c S E L N P F X)=some (.ref (S.length+2),hc c S E L N P F X):=ef hc0 rfl
 have F2:∀{E L N P F:List (Key×U)} {X:Sto},m8 c 2 (.ref S.length,hc c S E L N P F X)=some (.ref (S.length+3),hc c S E L N P F X):=ef hc0 rfl
 have F3:∀{E L N P F:List (Key×U)} {X:Sto},m8 c 3 (.ref S.length,hc c S E L N P F X)=some (.ref (S.length+4),hc c S E L N P F X):=ef hc0 rfl
 have F4:∀{E L N P F:List (Key×U)} {X:Sto},m8 c 4 (.ref S.length,hc c S E L N P F X)=some (.ref (S.length+5),hc c S E L N P F X):=ef hc0 rfl
 have dT:∀(ρ:Rho) (Z:Sto),Bl ρ Z=some (.ref Z.length,Z++[.dit []]):=fun _ _=>rfl
 have fin:crs c S (st++[(a,lM st)])=hc c S (gC (st++[(a,lM st)])) (eY S.length 1 (st++[(a,lM st)]) 0) (eY S.length 2 (st++[(a,lM st)]) 0) (eY S.length 3 (st++[(a,lM st)]) 0) (eY S.length 0 (st++[(a,lM st)]) 0) (pE st++[.lst ((lM st).bf.map U.int),.lst [],.dit [],.dic []]):=by
  unfold crs hc;rw[jf];rfl
 rw[fin]
 have p0:=pr 0
 have p1:=pr 1
 have p2:=pr 2
 have p3:=pr 3
 rw[Nat.add_zero]at p0
 have C0:crs c S st=hc c S (gC st) (eY S.length 1 st 0) (eY S.length 2 st 0) (eY S.length 3 st 0) (eY S.length 0 st 0) (pE st):=rfl
 rw[C0]at B0 ⊢
 rwa[et,B0,hcA,F0,F1,F2,F3,F4,hc1,hc2,hc3,hc4,hc5,ht1,ht2,ht3,ht4,ht5,lR,lE,if_true,p0,p1,p2,p3,pe,dT,hcl,l1,l2,l3]
def iH(c:Cl):Fn:=fnU 3 2 (aV (sH c) (BF c) c)
theorem fY:decide (("look":Str)="begin")=false:=by decide +kernel
theorem gO:decide (("put":Str)="begin")=false:=by decide +kernel
theorem jP:decide (("put":Str)="look")=false:=by decide +kernel
theorem ie:decide (("done":Str)="begin")=false:=by decide +kernel
theorem j8:decide (("done":Str)="look")=false:=by decide +kernel
theorem ic:decide (("fall":Str)="begin")=false:=by decide +kernel
theorem j7:decide (("fall":Str)="look")=false:=by decide +kernel
def Few(st:St)(m:Nat):Prop:=st.length<=m/\∀p∈st,p.2.lk.length<=m/\p.2.nd.length<=m/\p.2.ps.length<=m
theorem AD{n w:Int}{e:Ev}{m:Nat}(hk:(aI st).Nodup)(ok:xH n w st e)(fw:Few st m)(hm:m<=900):iH c [.ref S.length,e.u] (crs c S st)=some (.non,crs c S (stp st e)):=by
 unfold iH
 rw[jD]
 have i0:∀st:St,(crs c S st)[S.length]?=some (.ins c [some (.ref (S.length+1)),some (.ref (S.length+2)),some (.ref (S.length+3)),some (.ref (S.length+4)),some (.ref (S.length+5))]):=fun _=>hd0
 cases e with
 |beg a=>
  have h:=uA (c:=c) (S:=S) hk ok.2.2 (by have:=fw.1;omega)
  rwa[aV,Ev.u,kC,h,i0,stp]
 |look a b x=>
  obtain⟨_,t,h1,h2,_⟩:=ok
  obtain⟨s1,s2,rfl⟩:=dz h1
  obtain⟨q1,q2,q3⟩:=fw.2 _ (List.mem_append_right s1 List.mem_cons_self)
  dsimp only at q1 q2
  have h:=z3 (c:=c) (S:=S) (b:=b) (x:=x) hk (by omega) (by omega)
  rwa[aV,Ev.u,fY,kC,h,i0,stp,Ev.at,fZ hk]
 |put a b x=>
  obtain⟨_,t,h1,h2⟩:=ok
  obtain⟨s1,s2,rfl⟩:=dz h1
  obtain⟨q1,q2,q3⟩:=fw.2 _ (List.mem_append_right s1 List.mem_cons_self)
  dsimp only at q3
  have F3:m8 c 3 (.ref S.length,crs c S (s1++(a,t)::s2))=some (.ref (S.length+4),crs c S (s1++(a,t)::s2)):=ef hd0 rfl
  have f4:(crs c S (s1++(a,t)::s2))[S.length+4]?=some (.dic (eY S.length 3 (s1++(a,t)::s2) 0)):=hd4
  have v3:=gH (S:=S) (j:=3) hk
  have g3:(crs c S (s1++(a,t)::s2))[S.length+(6+(4*s1.length+3))]?=some (.dic (p7 t.ps)):=jF (by omega)
  have lp:(p7 t.ps).length<LIM:=by unfold p7 LIM;rw[List.length_map];omega
  have s3:=sh (c:=c) (S:=S) (s1:=s1) (s2:=s2) (a:=a) (t:=t) (t':=t.ev (.put a b x)) (j:=3) (o:=.dic (p7 (jo t.ps b x))) (by omega) rfl rfl
  rwa[aV,Ev.u,gO,jP,kC,i0,F3,f4,v3,g3,lp,if_true,wz,s3,stp,Ev.at,fZ hk]
 |fin d a=>
  obtain⟨t,h1,h2⟩:=ok
  obtain⟨s1,s2,rfl⟩:=dz h1
  have F0:m8 c 0 (.ref S.length,crs c S (s1++(a,t)::s2))=some (.ref (S.length+1),crs c S (s1++(a,t)::s2)):=ef hd0 rfl
  have f1:(crs c S (s1++(a,t)::s2))[S.length+1]?=some (.dic (gC (s1++(a,t)::s2))):=hd1
  have lE:(gC (s1++(a,t)::s2)).length<LIM:=by have:=fw.1;unfold gC LIM;rw[List.length_map];omega
  have ce:=Ba (c:=c) (S:=S) (d:=d) hk
  cases d with
  |true=>
   simp only[nc,if_true]at ce
   rwa[aV,Ev.u,nc,if_true,ie,j8,ql,i0,F0,f1,lE,ce,stp,Ev.at,Att.ev,fZ hk]
  |false=>
   simp only[nc,Bool.false_eq_true,if_false]at ce
   rwa[aV,Ev.u,nc,Bool.false_eq_true,if_true,if_false,ic,j7,qk,i0,F0,f1,lE,ce,stp,Ev.at,Att.ev,fZ hk]
def kr(c:Cl):Fn:=fnU 1 1 (fu c)
theorem xo(hns:c.ns.length=5):p6 c (kr c) [] S=some (.ref S.length,crs c S []):=by
 rw[sV,hns]
 have h:kr c [.ref S.length] (S++[.ins c (List.replicate 5 none)])=some (.non,crs c S []):=by
  unfold kr
  rw[sg]
  rwa[fu,List.replicate,List.length_append]
  rfl
 rw[h]
 rfl
theorem vt{n w:Int}{e:Ev}{m:Nat}(hk:(aI st).Nodup)(ok:xH n w st e)(fw:Few st m):Few (stp st e) (m+1):=by
  obtain⟨f1,f2⟩:=fw
  cases e with
  | beg a=>
    refine⟨by simp[stp];omega,fun p hp=>?_⟩
    rcases List.mem_append.mp hp with z|z
    · obtain⟨q1,q2,q3⟩:=f2 p z;exact⟨by omega,by omega,by omega⟩
    · simp at z;subst z;simp[lM]
  | _=>
    refine⟨by simp[stp,y3];omega,fun p hp=>?_⟩
    simp only[stp,y3]at hp
    obtain⟨q,hq,rfl⟩:=List.mem_map.mp hp
    obtain⟨q1,q2,q3⟩:=f2 q hq
    split
    · simp only[Att.ev]
      first
      | (split
         · exact⟨by omega,by omega,by omega⟩
         · refine⟨by simp;omega,?_,by dsimp only;omega⟩
           dsimp only[D4]
           split
           · omega
           · simp;omega)
      |exact⟨by omega,by omega,Nat.le_trans (Dh ..) (by omega)⟩
      |exact⟨by omega,by omega,by omega⟩
    · exact⟨by omega,by omega,by omega⟩
def fA(c:Cl):Fn:=fnU 3 1 (g8 (iH c) (kr c) c)
theorem pw{n w:Int}{x0:Option U}{ok:Sto->Prop}(hok:∀st,ok (crs c S st)):∀(es:List Ev) (st:St) (m:Nat) (r2:Option U),sS n w st es->(aI st).Nodup->Few st m->m+es.length<=900->
  ∃r2',eK ok (gNm 2) (jg (iH c) (kr c) c) (es.map Ev.u) [x0,some (.ref S.length),r2] (crs c S st)=some (.nx,[x0,some (.ref S.length),r2'],crs c S (dI st es))
 |[],st,m,r2,_,_,_,_=>⟨r2,fU (hok st)⟩
 |e::es,st,m,r2,lf,hk,fw,hm=>by
  rw[List.length_cons]at hm
  obtain⟨oke,lf'⟩:=lf
  obtain⟨r2',ih⟩:=pw hok es (stp st e) (m+1) (some e.u) lf' (lu hk oke) (vt hk oke fw) (by omega)
  refine⟨r2',(dn (hok st) rfl ?_).trans ih⟩
  have h:=AD (c:=c) (S:=S) hk oke fw (by omega)
  have i0:(crs c S st)[S.length]?=some (.ins c [some (.ref (S.length+1)),some (.ref (S.length+2)),some (.ref (S.length+3)),some (.ref (S.length+4)),some (.ref (S.length+5))]):=hd0
  rwa[jg,i0,h]
theorem jG{n w:Int}{N:Nat}{evs:List Ev}{l:Nat}(hns:c.ns.length=5)(hl:S[l]?=some (.lst (evs.map Ev.u)))(lo:sS n w [] evs)(he:evs.length<=900):fA c [.ref l] S=some (.ref S.length,crs c S (dI [] evs)):=by
 unfold fA
 rw[vA]
 have hok:∀st,(crs c S st)[l]?=some (.lst (evs.map Ev.u)):=fun st=>by unfold crs;exact aG hl
 obtain⟨r2,h⟩:=pw (c:=c) (S:=S) (x0:=some (.ref l)) (ok:=fun S=>S[l]?=some (.lst (evs.map Ev.u))) hok evs [] 0 none lo (by simp[aI]) ⟨by simp,by simp⟩ (by omega)
 rwa[g8,xo hns,lJ,iTp,hok,h]
end
def Ox(st:St)(a:Int):List (Int×Int):=((bw st a).map (·.ps)).getD []
def OB(st:St)(a:Int):Option Bool:=(bw st a).bind (·.en)
theorem AF{n w:Int}:∀(es:List Ev) (st:St) (m:Nat),sS n w st es->(aI st).Nodup->Few st m->Few (dI st es) (m+es.length)
 |[],st,m,_,_,h=>h
 |e::es,st,m,lf,hk,h=>by
  have:=AF es (stp st e) (m+1) lf.2 (lu hk lf.1) (vt hk lf.1 h)
  rw[List.length_cons,show m+(es.length+1)=m+1+es.length from by omega]
  exact this
def chg(st:St)(a:Int)(x:List Int):List Int:=if OB st a=some true then beh x (Ox st a) 0 else x
section
variable{c:Cl}{n w:Int}{S G:Sto}{st:St}{a:Int}{t:Att}{x:List Int}
theorem cB{j:Nat}(hj:j<4)(h:bw st a=some t)(hk:(aI st).Nodup):∃r,bw (eY S.length j st 0) (.inl a)=some (.ref r)/\∀G,(crs c S st++G)[r]?=(blk t)[j]?:=by
 obtain⟨s1,s2,rfl⟩:=dz h
 refine⟨_,gH hk,fun G=>?_⟩
 have:=jF (c:=c) (S:=S) (s1:=s1) (s2:=s2) (a:=a) (t:=t) hj
 have hs:∃o,(blk t)[j]?=some o:=by
  have:j<(blk t).length:=by simpa [blk] using hj
  exact⟨_,List.getElem?_eq_getElem this⟩
 obtain⟨o,ho⟩:=hs
 rw[ho]at this ⊢
 exact aG this
theorem Cj{Z:Sto}{r:Nat}{o o':O}(h:Z[r]?=some o):(Z.set r o').set r o=Z:=by
 rw[List.set_set]
 refine List.ext_getElem? fun i=>?_
 rw[List.getElem?_set]
 split
 ·subst i
  obtain⟨h1,h2⟩:=List.getElem?_eq_some_iff.mp h
  simp[h1,h2]
 ·rfl
end
section
variable{c cA:Cl}{n w:Int}{S G:Sto}{st:St}{a:Int}{t:Att}{x:List Int}{every:Bool}
theorem GW(h:a∈aI st):∃t,bw st a=some t:=by
 cases hv:bw st a with
 |some t=>exact⟨t,rfl⟩
 |none=>exact absurd h (fe.mp hv)
theorem FU(h:bw st a=some t):a∈aI st:=Classical.byContradiction fun z=>by
 have:=fe.mpr z
 rw[h]at this;cases this
theorem qH:∀st:St,t8 (gC st)=some (aI st)
 |[]=>rfl
 |p::r=>by
  have ih:=qH r
  unfold gC aI at ih ⊢
  rw[List.map_cons,t8,ih];rfl
end
def BfI(st:St):Prop:=∀a t,bw st a=some t->(∀b∈t.bf,b∈aI st/\b≠a)/\t.bf.Nodup
theorem bf0{st:St}:(lM st).bf=(st.filter fun p=>p.2.en.isSome).map (·.1):=rfl
theorem HE{n w:Int}{st:St}{e:Ev}(hk:(aI st).Nodup)(ok:xH n w st e)(h:BfI st):BfI (stp st e):=by
 have sub:∀b,b∈aI st->b∈aI (stp st e):=fun b hb=>by
  rw[rQ]
  cases e with
  |beg a=>exact List.mem_append_left _ hb
  |_=>exact hb
 intro a t ht
 by_cases ea:a=e.at
 ·cases e with
  |beg b=>
   have eb:a=b:=ea
   subst eb
   rw[uN ok.2.2]at ht
   cases ht
   rw[bf0]
   refine⟨fun b hb=>?_,?_⟩
   ·obtain⟨p,hp,rfl⟩:=List.mem_map.mp hb
    have hm:p.1∈aI st:=List.mem_map.mpr ⟨p,(List.mem_filter.mp hp).1,rfl⟩
    exact⟨sub _ hm,fun z=>ok.2.2 (z▸hm)⟩
   ·have:((st.filter fun p=>p.2.en.isSome).map (·.1)).Sublist (st.map (·.1)):=List.Sublist.map _ List.filter_sublist
    exact List.Nodup.sublist this hk
  |look b1 b2 b3=>
   have eb:a=b1:=ea
   subst eb
   obtain⟨bd,t0,t1,t2,t3⟩:=id ok
   have:=ju (e:=.look a b2 b3) t1
   simp only[Ev.at]at this
   rw[this]at ht;cases ht
   have q:=h a t0 t1
   have e1:(t0.ev (.look a b2 b3)).bf=t0.bf:=by simp only[Att.ev];split<;>rfl
   rw[e1]
   exact⟨fun b hb=>⟨sub b (q.1 b hb).1,(q.1 b hb).2⟩,q.2⟩
  |put b1 b2 b3=>
   have eb:a=b1:=ea
   subst eb
   obtain⟨_,t0,t1,t2⟩:=id ok
   have:=ju (e:=.put a b2 b3) t1
   simp only[Ev.at]at this
   rw[this]at ht;cases ht
   have q:=h a t0 t1
   exact⟨fun b hb=>⟨sub b (q.1 b hb).1,(q.1 b hb).2⟩,q.2⟩
  |fin d b1=>
   have eb:a=b1:=ea
   subst eb
   obtain⟨t0,t1,t2⟩:=id ok
   have:=ju (e:=.fin d a) t1
   simp only[Ev.at]at this
   rw[this]at ht;cases ht
   have q:=h a t0 t1
   exact⟨fun b hb=>⟨sub b (q.1 b hb).1,(q.1 b hb).2⟩,q.2⟩
 ·rw[qW ea]at ht
  have q:=h a t ht
  exact⟨fun b hb=>⟨sub b (q.1 b hb).1,(q.1 b hb).2⟩,q.2⟩
theorem Bq{n w:Int}:∀(es:List Ev) (st:St),sS n w st es->(aI st).Nodup->BfI st->BfI (dI st es)
 |[],st,_,_,h=>h
 |e::es,st,lf,hk,h=>Bq es (stp st e) lf.2 (lu hk lf.1) (HE hk lf.1 h)
theorem OC:BfI []:=fun a t h=>by simp[bw]at h
theorem EZ{st:St}(hk:(aI st).Nodup)(h:BfI st){a:Int}{t:Att}(hv:bw st a=some t):t.bf.length<=st.length:=by
 have:=List.Nodup.length_le_of_subset (h a t hv).2 (l₂:=aI st) fun b hb=>((h a t hv).1 b hb).1
 unfold aI at this
 rwa[List.length_map]at this
section
variable{c cA:Cl}{n w:Int}{S G C:Sto}{st:St}{a:Int}{t:Att}{x:List Int}{every:Bool}{L:Nat}
def BK(st:St)(a:Int):List Int:=match bw st a with
 |some t=>t.bf
 |none=>[]
def prA(a:Int)(b:Int):Int×Int:=(b,a)
def mX(st:St)(as:List Int):List (Int×Int):=as.flatMap fun a=>(BK st a).map (prA a)
theorem wN{as:List Int}{b:Int}:(b,a)∈mX st as↔a∈as/\b∈BK st a:=by
 unfold mX
 rw[List.mem_flatMap]
 constructor
 ·rintro⟨d,h1,h2⟩
  obtain⟨e,h3,h4⟩:=List.mem_map.mp h2
  cases h4
  exact⟨h1,h3⟩
 ·rintro⟨h1,h2⟩
  exact⟨a,h1,List.mem_map.mpr ⟨b,h2,rfl⟩⟩
theorem Bp(hk:(aI st).Nodup)(bi:BfI st):(BK st a).Nodup/\(BK st a).length<=st.length:=by
 unfold BK
 cases hv:bw st a with
 |none=>exact⟨List.nodup_nil,Nat.zero_le _⟩
 |some t=>exact⟨(bi a t hv).2,EZ hk bi hv⟩
theorem zI(hk:(aI st).Nodup)(bi:BfI st):∀as:List Int,as.Nodup->(mX st as).Nodup
 |[],_=>List.nodup_nil
 |a::as,h=>by
  obtain⟨h1,h2⟩:=List.nodup_cons.mp h
  have ih:=zI hk bi as h2
  unfold mX at ih ⊢
  rw[List.flatMap_cons,List.nodup_append]
  refine⟨?_,ih,fun p hp q hq e=>?_⟩
  ·exact List.Pairwise.map (prA a) (fun u v h e=>h (by cases e;rfl)) (Bp hk bi).1
  ·subst e
   obtain⟨b,hb,rfl⟩:=List.mem_map.mp hp
   exact h1 (wN.mp hq).1
theorem wD(hk:(aI st).Nodup)(bi:BfI st):∀as:List Int,(mX st as).length<=as.length*st.length
 |[]=>Nat.zero_le _
 |a::as=>by
  have ih:=wD hk bi as
  have h:=(Bp (a:=a) hk bi).2
  unfold mX at ih ⊢
  rw[List.flatMap_cons,List.length_append,List.length_map,List.length_cons,Nat.succ_mul]
  omega
theorem By(p:Int×Int):∀L:List (Int×Int),L.Pairwise (fun a b=>ltP a b=true)->∃M:List (Int×Int),M.Pairwise (fun a b=>ltP a b=true)/\∀q,q∈M↔q=p\/q∈L
 |[],_=>⟨[p],List.pairwise_singleton _ _,fun q=>by simp⟩
 |y::L,h=>by
  obtain⟨h1,h2⟩:=List.pairwise_cons.mp h
  by_cases e:p=y
  ·subst e
   exact⟨p::L,h,fun q=>by simp⟩
  ·cases hp:ltP p y with
   |true=>
    refine⟨p::y::L,List.pairwise_cons.mpr ⟨fun z hz=>?_,h⟩,fun q=>by simp⟩
    rcases List.mem_cons.mp hz with rfl|m
    ·exact hp
    ·have:=h1 z m
     simp only[ltP,decide_eq_true_eq]at this hp ⊢
     omega
   |false=>
    obtain⟨M,m1,m2⟩:=By p L h2
    refine⟨y::M,List.pairwise_cons.mpr ⟨fun z hz=>?_,m1⟩,fun q=>?_⟩
    ·rcases(m2 z).mp hz with rfl|m
     ·have e':¬(z.1=y.1/\z.2=y.2):=fun k=>e (Prod.ext k.1 k.2)
      simp only[ltP,decide_eq_true_eq,decide_eq_false_iff_not]at hp ⊢
      omega
     ·exact h1 z m
    ·rw[List.mem_cons,m2 q,List.mem_cons]
     constructor
     ·rintro(k|k|k)
      ·exact .inr (.inl k)
      ·exact .inl k
      ·exact .inr (.inr k)
     ·rintro(k|k|k)
      ·exact .inr (.inl k)
      ·exact .inl k
      ·exact .inr (.inr k)
theorem E1:∀ps:List (Int×Int),∃M:List (Int×Int),M.Pairwise (fun a b=>ltP a b=true)/\∀q,q∈M↔q∈ps
 |[]=>⟨[],List.Pairwise.nil,fun q=>Iff.rfl⟩
 |p::ps=>by
  obtain⟨L,h1,h2⟩:=E1 ps
  obtain⟨M,m1,m2⟩:=By p L h1
  exact⟨M,m1,fun q=>by rw[m2,h2,List.mem_cons]⟩
theorem t6{B j:Nat}:∀(st:St) (i:Nat),(eY B j st i).map (fun q=>kU q.1)=(aI st).map U.int
 |[],_=>rfl
 |p::r,i=>by
  have ih:=t6 (B:=B) (j:=j) r (i+1)
  rw[eY,List.map_cons,ih];rfl
theorem lH{α:Type}{ok:Sto->Prop}{gg:CG}{ce:CE}{S:Sto}{f:α->U}{v:α->U}{Rel:Rho->Prop}(hok:∀ys G,ok (S++(.lst ys::G))) :
  ∀(xs:List α) (ys:List U) (G:Sto) (ρ:Rho),Rel ρ->ys.length+xs.length<=9999->
  (∀x∈xs,∀ys G ρ,Rel ρ->∃ρ0,Rel ρ0/\gg (f x) ρ (S++(.lst ys::G))=some (ρ0,S++(.lst ys::G))/\ce ρ0 (S++(.lst ys::G))=some (v x,S++(.lst ys::G)))->
  jH ok gg ce S.length (xs.map f) ρ (S++(.lst ys::G))=some (S++(.lst (ys++xs.map v)::G))
 |[],ys,G,ρ,_,_,_=>by simp only[List.map_nil,List.append_nil];exact xl (hok ys G)
 |x::xs,ys,G,ρ,hr,hl,hb=>by
  rw[List.length_cons]at hl
  obtain⟨ρ0,r0,h1,h2⟩:=hb x List.mem_cons_self ys G ρ hr
  have h:=lH hok xs (ys++[v x]) G ρ0 r0 (by simp;omega) (fun x hx=>hb x (List.mem_cons_of_mem _ hx))
  rw[List.map_cons]
  refine(ux (hok ys G) h1 h2 (by rw[ga0];rfl) (by unfold LIM;omega)).trans ?_
  rw[gs0]
  simp only[List.set_cons_zero]
  rw[h]
  simp only[List.map_cons,List.append_assoc,List.cons_append,List.nil_append]
def sI(c:Cl):Fn:=fnU 4 1 (pz (fA c) c)
def gA(st:St)(as:List Int):Sto:=as.map fun a=>.lst ((BK st a).map fun b=>pP (prA a b))
def G0:List Int->Option U->Option U
 |[],r=>r
 |a::as,_=>G0 as (some (.int a))
theorem qR{B:Sto}{D:List (Key×U)}{ep q:Nat}{u0:Option U}(hk:(aI st).Nodup)(bi:BfI st)(hl:st.length<=7)(hB:B[q]?=some (.fdc ep D))(hv:∀a t,bw st a=some t->∃r,bw D (.inl a)=some (.ref r)/\B[r]?=some (.lst (t.bf.map U.int))) :
  ∀(as:List Int) (acc:List (Int×Int)) (G2:Sto) (r3:Option U),(∀a∈as,a∈aI st)->acc.length+as.length*7<=900->
  eK (fun Y=>Y[q]?=some (.fdc ep D)) (gNm 3) (lL (fA c) c) (as.map U.int) [u0,some (.ref q),some (.ref B.length),r3] (B++(.lst (acc.map pP)::G2))
   = some (.nx,[u0,some (.ref q),some (.ref B.length),G0 as r3],B++(.lst ((acc++mX st as).map pP)::(G2++gA st as)))
 |[],acc,G2,r3,_,_=>by
  have e1:acc++mX st []=acc:=List.append_nil _
  have e2:G2++gA st []=G2:=List.append_nil _
  rw[e1,e2];exact fU (aG hB)
 |a::as,acc,G2,r3,hm,gZ=>by
  rw[List.length_cons]at gZ
  obtain⟨t,ht⟩:=GW (hm a List.mem_cons_self)
  obtain⟨r,v0,g0⟩:=hv a t ht
  have hb:=EZ hk bi ht
  have eb:BK st a=t.bf:=by unfold BK;rw[ht]
  have ep0:mX st (a::as)=t.bf.map (prA a)++mX st as:=by unfold mX;rw[List.flatMap_cons,eb]
  have eg:G2++gA st (a::as)=G2++[.lst (t.bf.map fun b=>pP (prA a b))]++gA st as:=by unfold gA;rw[List.map_cons,eb,List.append_assoc];rfl
  have h:=lH (S:=B++(.lst (acc.map pP)::G2)) (ok:=fun Y=>Y[r]?=some (.lst (t.bf.map U.int))) (gg:=gNm 0) (ce:=fE (ae (ah 0) (ae (ah 1) aE))) (f:=U.int) (v:=fun b=>pP (prA a b)) (Rel:=fun ρ=>∃r0,ρ=[r0,some (.int a)]) (fun ys G=>by rw[List.append_assoc];exact aG g0) t.bf [] [] [none,some (.int a)] ⟨_,rfl⟩ (by simp;omega) (fun b hb ys G2 ρ hρ=>by
   obtain⟨r0,rfl⟩:=hρ
   refine⟨[some (.int b),some (.int a)],⟨_,rfl⟩,rfl,?_⟩
   have e:pP (prA a b)=.tup [.int b,.int a]:=rfl
   rwa[e])
  simp only[List.nil_append]at h
  have hcomp:iK (iTp (cOp fIx (ah 1) (ah 3))) (gNm 0) (fE (ae (ah 0) (ae (ah 1) aE))) 1 [3] [u0,some (.ref q),some (.ref B.length),some (.int a)] (B++(.lst (acc.map pP)::G2))=some (.ref (B.length+(1+G2.length)),B++(.lst (acc.map pP)::(G2++[.lst (t.bf.map fun b=>pP (prA a b))]))):=by
   have hi:cOp fIx (ah 1) (ah 3) [u0,some (.ref q),some (.ref B.length),some (.int a)] (B++(.lst (acc.map pP)::G2))=some (.ref r,B++(.lst (acc.map pP)::G2)):=by
    have gB:(B++(O.lst (acc.map pP)::G2))[q]?=some (.fdc ep D):=aG hB
    rwa[gB,IJ,v0]
   have gr:(B++(O.lst (acc.map pP)::G2))[r]?=some (.lst (t.bf.map U.int)):=aG g0
   have ln:(B++(O.lst (acc.map pP)::G2)).length=B.length+(1+G2.length):=by simp;omega
   rw[ln]at h
   simp only[List.append_assoc,List.cons_append]at h
   unfold iK iTp
   rw[hi,Option.bind_some]
   simp only[gr,Option.bind_some,sN,List.replicate,List.map_cons,List.map_nil,List.getElem?_cons_zero,List.getElem?_cons_succ,Option.getD_some,List.cons_append,List.nil_append,ln,h,List.append_assoc]
  have hmap:(acc++t.bf.map (prA a)).map pP=acc.map pP++t.bf.map fun b=>pP (prA a b):=by rw[List.map_append,List.map_map];rfl
  have hext:fq (.ref B.length) [.ref (B.length+(1+G2.length))] (B++(.lst (acc.map pP)::(G2++[.lst (t.bf.map fun b=>pP (prA a b))])))=some (.non,B++(.lst ((acc++t.bf.map (prA a)).map pP)::(G2++[.lst (t.bf.map fun b=>pP (prA a b))]))):=by
   have e1:(B++(O.lst (acc.map pP)::(G2++[.lst (t.bf.map fun b=>pP (prA a b))])))[B.length]?=some (.lst (acc.map pP)):=by rw[ga0];rfl
   have e2:(B++(O.lst (acc.map pP)::(G2++[.lst (t.bf.map fun b=>pP (prA a b))])))[B.length+(1+G2.length)]?=some (.lst (t.bf.map fun b=>pP (prA a b))):=by
    rw[ga,Nat.add_comm 1,List.getElem?_cons_succ,ga0];rfl
   have hL:(acc.map pP).length+(t.bf.map fun b=>pP (prA a b)).length<=LIM:=by unfold LIM;rw[List.length_map,List.length_map];omega
   simp only[fq,e1,e2,hL,if_true,gs0,List.set_cons_zero,hmap]
  have ih:=qR (u0:=u0) hk bi hl hB hv as (acc++t.bf.map (prA a)) (G2++[.lst (t.bf.map fun b=>pP (prA a b))]) (some (.int a)) (fun b hb=>hm b (List.mem_cons_of_mem _ hb)) (by simp;omega)
  rw[ep0,<-List.append_assoc,eg]
  refine(dn (aG hB) rfl ?_).trans ih
  have gz:∀X:Sto,(B++(O.lst (acc.map pP)::X))[B.length]?=some (.lst (acc.map pP)):=fun X=>by rw[ga0];rfl
  rwa[lL,hcomp,hext,gz]
theorem D3{N:Nat}{evs:List Ev}{l:Nat}(hns:c.ns.length=5)(hl:S[l]?=some (.lst (evs.map Ev.u)))(lg:yy n w N evs)(he:evs.length<=900)(hN:N<=7) :
  ∃G' k,sI c [.ref l] S=some (.ref (S.length+k),S++G')/\G'[k]?=some (.lst ((i9 (mX (dI [] evs) (aI (dI [] evs)))).map pP)):=by
 unfold sI
 rw[Hy]
 have h1:=jG (c:=c) (S:=S) (N:=N) hns hl lg.lo he
 have bi:=Bq evs [] lg.lo List.nodup_nil OC
 obtain⟨st,hst⟩:∃st,st=dI [] evs:=⟨_,rfl⟩
 have hk:(aI st).Nodup:=by rw[hst];exact lg.kd
 have hc:st.length<=7:=by rw[hst];exact Nat.le_trans lg.cnt hN
 rw[<-hst]at h1 bi ⊢
 have F4:m8 c 4 (.ref S.length,crs c S st)=some (.ref (S.length+5),crs c S st):=ef hd0 rfl
 have f5:∀X,(crs c S st++X)[S.length+5]?=some (.dic (eY S.length 0 st 0)):=fun X=>aG hd5
 have kl:(aI st).length=st.length:=by unfold aI;rw[List.length_map]
 have hq:S.length+5<(crs c S st).length:=(List.getElem?_eq_some_iff.mp (show(crs c S st)[S.length+5]?=_ from hd5)).1
 have hfor:Bk (ah 1) (gNm 3) (lL (fA c) c) [some (.ref l),some (.ref (S.length+5)),some (.ref (crs c S st).length),none] (crs c S st++[.lst []])=some (.nx,[some (.ref l),some (.ref (S.length+5)),some (.ref (crs c S st).length),G0 (aI st) none],crs c S st++(.lst ((mX st (aI st)).map pP)::gA st (aI st))):=by
  have h0:ah 1 [some (.ref l),some (.ref (S.length+5)),some (.ref (crs c S st).length),none] (crs c S st++[.lst []])=some (.ref (S.length+5),crs c S st++[.lst []]):=rfl
  unfold Bk
  rw[h0,Option.bind_some]
  simp only[f5]
  refine Ei fun ep=>?_
  have es:∀(X:Sto) (o:O),(crs c S st++X).set (S.length+5) o=(crs c S st).set (S.length+5) o++X:=fun X o=>List.set_append_left _ _ hq
  have key:=qR (c:=c) (B:=(crs c S st).set (S.length+5) (.fdc ep (eY S.length 0 st 0))) (D:=eY S.length 0 st 0) (ep:=ep) (q:=S.length+5) (u0:=some (.ref l)) hk bi hc (by rw[List.getElem?_set,if_pos rfl,if_pos hq]) (fun a t hv=>by
   obtain⟨r,v0,g0⟩:=cB (c:=c) (S:=S) (j:=0) (by omega) hv hk
   have g1:=g0 []
   rw[List.append_nil]at g1
   refine⟨r,v0,?_⟩
   rw[List.getElem?_set,if_neg fun e=>?_]
   ·exact g1
   ·have:=f5 []
    rw[List.append_nil,e,g1]at this
    cases this) (aI st) [] [] none (fun a h=>h) (by simp;omega)
  rw[List.length_set]at key
  simp only[List.map_nil,List.nil_append]at key
  rw[t6,es,key,Option.bind_some]
  have e1:((crs c S st).set (S.length+5) (.fdc ep (eY S.length 0 st 0))++(O.lst ((mX st (aI st)).map pP)::gA st (aI st)))[S.length+5]?=some (.fdc ep (eY S.length 0 st 0)):=aG (by rw[List.getElem?_set,if_pos rfl,if_pos hq])
  have e2:((crs c S st).set (S.length+5) (.fdc ep (eY S.length 0 st 0))++(O.lst ((mX st (aI st)).map pP)::gA st (aI st))).set (S.length+5) (.dic (eY S.length 0 st 0))=crs c S st++(.lst ((mX st (aI st)).map pP)::gA st (aI st)):=by
   rw[List.set_append_left _ _ (by rw[List.length_set];exact hq),Cj (show(crs c S st)[S.length+5]?=some (.dic (eY S.length 0 st 0))from hd5)]
  simp only[e1,e2]
 have hsz:(mX st (aI st)).length<64:=by
  have:=wD hk bi (aI st)
  rw[kl]at this
  have h49:st.length*st.length<=7*7:=Nat.mul_le_mul hc hc
  omega
 have hs:gI [.ref (crs c S st).length] (crs c S st++(.lst ((mX st (aI st)).map pP)::gA st (aI st)))=some (.ref ((crs c S st).length+(1+(gA st (aI st)).length)),crs c S st++(.lst ((mX st (aI st)).map pP)::(gA st (aI st)++[.lst ((i9 (mX st (aI st))).map pP)]))):=by
  have g0:(crs c S st++(O.lst ((mX st (aI st)).map pP)::gA st (aI st)))[(crs c S st).length]?=some (.lst ((mX st (aI st)).map pP)):=by rw[ga0];rfl
  have ln:(crs c S st++(O.lst ((mX st (aI st)).map pP)::gA st (aI st))).length=(crs c S st).length+(1+(gA st (aI st)).length):=by simp;omega
  simp only[gI,g0,lT,Option.bind_some,zI hk bi _ hk,hsz,and_self,if_true,ln,List.append_assoc,List.cons_append]
 obtain⟨C,hC⟩:∃C,crs c S st=S++C:=⟨_,rfl⟩
 have cl:(crs c S st).length+(1+(gA st (aI st)).length)=S.length+(C.length+(1+(gA st (aI st)).length)):=by rw[hC,List.length_append];omega
 refine⟨C++(.lst ((mX st (aI st)).map pP)::(gA st (aI st)++[.lst ((i9 (mX st (aI st))).map pP)])),C.length+(1+(gA st (aI st)).length),?_,?_⟩
 ·rw[<-cl,<-List.append_assoc,<-hC]
  rwa[pz,h1,F4,hfor,hs]
 ·rw[ga,Nat.add_comm 1,List.getElem?_cons_succ,ga0];rfl
end
section
variable{n w:Int}{st:St}{e:Ev}{a b:Int}
theorem zg{ps qs:List (Int×Int)}(h:∀x,x∈ps↔x∈qs):i9 ps=i9 qs:=by
 obtain⟨M,h1,h2⟩:=E1 qs
 rw[nF h1 h2,nF h1 fun x=>(h2 x).trans (h x).symm]
end
def Bd(w:Int)(m:M):Prop:=(∀h∈m.hs,0<=h/\h<w)/\∀p∈m.ps,0<=p.2/\p.2<w
section
variable{n w:Int}{first:List Int}{m:M}{α:Type}{rn:List α->M->Bool×M}{kk:List α->Prop}
theorem vo{l:List Int}{k:Nat}(hw:0<w)(h:∀z∈l,0<=z/\z<w):0<=l.getD k 0/\l.getD k 0<w:=by
 rw[List.getD_eq_getElem?_getD]
 cases e:l[k]? with
 |none=>exact⟨Int.le_refl 0,hw⟩
 |some z=>exact h z (List.mem_of_getElem? e)
theorem zj{l:List Int}{k:Nat}{v:Int}(h:∀z∈l,0<=z/\z<w)(hv:0<=v/\v<w):∀z∈l.set k v,0<=z/\z<w:=fun z hz=>by
 rcases List.mem_or_eq_of_mem_set hz with hz|rfl
 ·exact h z hz
 ·exact hv
theorem Dc{ps:List (Int×Int)}{b v:Int}{p:Int×Int}(h:p∈jo ps b v):p∈ps\/p.2=v:=by
 unfold jo at h
 split at h
 ·obtain⟨q,hq,rfl⟩:=List.mem_map.mp h
  split
  ·exact .inr rfl
  ·exact .inl hq
 ·rcases List.mem_append.mp h with h|h
  ·exact .inl h
  ·rw[List.mem_singleton.mp h];exact .inr rfl
theorem rl(hw:0<w)(hf:∀z∈first,0<=z/\z<w){d:jW}(od:d.ok n w)(h:Bd w m):Bd w (step w first m d):=by
 cases d with
 |look g b=>
  refine⟨zj h.1 ?_,h.2⟩
  unfold Dg
  cases e:bw m.ps b with
  |none=>exact vo hw hf
  |some v=>exact h.2 _ (kF e)
 |put b g=>
  refine⟨h.1,fun p hp=>?_⟩
  rcases Dc hp with hp|hp
  ·exact h.2 p hp
  ·rw[hp];exact vo hw h.1
 |set g v=>exact⟨zj h.1 ⟨od.2.2.1,od.2.2.2⟩,h.2⟩
 |plus g k=>exact⟨zj h.1 ⟨Int.emod_nonneg _ (by omega),Int.emod_lt_of_pos _ hw⟩,h.2⟩
 |leap g k=>exact h
 |wait=>exact h
theorem FW(hm:∀a m,kk a->Bd w m->Bd w (rn a m).2){a b:List α}(ka:kk a)(kb:kk b)(h:Bd w m):Bd w (Je rn a b m).2:=by
 unfold Je
 have h1:=hm a m ka h
 cases e:rn a m with
 |mk t m'=>
  rw[e]at h1
  cases t with
  |true=>exact h1
  |false=>exact hm b _ kb ⟨h.1,h.2⟩
theorem jd(hw:0<w)(hf:∀z∈first,0<=z/\z<w)(hm:∀a m,kk a->Bd w m->Bd w (rn a m).2):∀(ds:List (DF α)) (k:Nat) (m:M),(∀d∈ds,DF.ok n w kk d)->Bd w m->Bd w (iN w first rn ds k m).2
 |[],k,m,_,h=>by rw[iN];exact h
 |d::r,k+1,m,hd,h=>by rw[iN];exact jd hw hf hm r k m (fun d z=>hd d (List.mem_cons_of_mem _ z)) h
 |.tr a b::r,0,m,hd,h=>by
  rw[iN]
  obtain⟨ka,kb⟩:kk a/\kk b:=hd _ List.mem_cons_self
  have h1:=FW hm ka kb h
  cases e:Je rn a b m with
  |mk t m'=>
   rw[e]at h1
   cases t with
   |true=>exact jd hw hf hm r 0 m' (fun d z=>hd d (List.mem_cons_of_mem _ z)) h1
   |false=>exact h1
 |.pl .wait::r,0,m,hd,h=>by rw[iN];exact h
 |.pl (.leap g k)::r,0,m,hd,h=>by rw[iN];exact jd hw hf hm r _ m (fun d z=>hd d (List.mem_cons_of_mem _ z)) h
 |.pl (.look g b)::r,0,m,hd,h=>by rw[iN];exact jd hw hf hm r 0 _ (fun d z=>hd d (List.mem_cons_of_mem _ z)) (rl (n:=n) hw hf (d:=.look g b) (hd _ List.mem_cons_self) h)
 |.pl (.put g b)::r,0,m,hd,h=>by rw[iN];exact jd hw hf hm r 0 _ (fun d z=>hd d (List.mem_cons_of_mem _ z)) (rl (n:=n) hw hf (d:=.put g b) (hd _ List.mem_cons_self) h)
 |.pl (.set g b)::r,0,m,hd,h=>by rw[iN];exact jd hw hf hm r 0 _ (fun d z=>hd d (List.mem_cons_of_mem _ z)) (rl (n:=n) hw hf (d:=.set g b) (hd _ List.mem_cons_self) h)
 |.pl (.plus g b)::r,0,m,hd,h=>by rw[iN];exact jd hw hf hm r 0 _ (fun d z=>hd d (List.mem_cons_of_mem _ z)) (rl (n:=n) hw hf (d:=.plus g b) (hd _ List.mem_cons_self) h)
theorem zp(hw:0<w)(hf:∀z∈first,0<=z/\z<w):∀(j:Nat) (ds:List (Dl j)) (m:M),OkL n w j ds->Bd w m->Bd w (pO w first j ds m).2
 |0,ds,m,od,h=>jd (n:=n) (rn:=fun _ m=>(true,m)) (kk:=fun _=>False) hw hf (fun _ _ _ h=>h) ds 0 m od.2 h
 |j+1,ds,m,od,h=>jd (n:=n) (rn:=pO w first j) (kk:=OkL n w j) hw hf (fun a m ka h=>zp hw hf j a m ka h) ds 0 m od.2 h
theorem bd0(hw:0<w):Bd w m0:=⟨fun h hh=>by
 simp only[m0,List.mem_cons,List.not_mem_nil,or_false]at hh
 rcases hh with rfl|rfl|rfl|rfl<;>exact⟨Int.le_refl 0,hw⟩,fun p hp=>by cases hp⟩
end
def lkD(x:List Int)(r:Bool×M):List (Int×Int):=(ff r.2.lk).map fun b=>(b,x.getD b.toNat 0)
def evA(n a:Int)(x:List Int)(r:Bool×M):List Ev:=.beg a::(((lkD x r).map fun p=>Ev.look a p.1 p.2)++(((qz n r).map fun p=>Ev.put a p.1 p.2)++[.fin r.1 a]))
section
variable{n w:Int}{s:St}{a:Int}{t:Att}
theorem nH:∀(es fs:List Ev) (st:St),sS n w st (es++fs)↔sS n w st es/\sS n w (dI st es) fs
 |[],fs,st=>⟨fun h=>⟨trivial,h⟩,fun h=>h.2⟩
 |e::es,fs,st=>by
  have ih:=nH es fs (stp st e)
  show(xH n w st e/\sS n w (stp st e) (es++fs))↔(xH n w st e/\sS n w (stp st e) es)/\sS n w (dI (stp st e) es) fs
  rw[ih,and_assoc]
theorem rC(es fs:List Ev)(st:St):dI st (es++fs)=dI (dI st es) fs:=by unfold dI;rw[List.foldl_append]
theorem nC(h:a∉aI s):bw (s++[(a,t)]) a=some t:=nP h
theorem qX{f:Att->Att}(h:a∉aI s):y3 (s++[(a,t)]) a f=s++[(a,f t)]:=by
 unfold y3
 rw[List.map_append]
 congr 1
 ·conv=>rhs;rw[<-List.map_id s]
  refine List.map_congr_left fun p hp=>?_
  rw[if_neg fun z=>h (List.mem_map.mpr ⟨p,hp,z⟩)];rfl
 ·simp
theorem Ae:∀(ps:List (Int×Int)) (t:Att),a∉aI s->t.en=none->t.ps=[]->(t.nd++ps).Nodup->(∀p∈ps,0<=p.1/\p.1<n/\0<=p.2/\p.2<w)->
  sS n w (s++[(a,t)]) (ps.map fun p=>Ev.look a p.1 p.2)/\dI (s++[(a,t)]) (ps.map fun p=>Ev.look a p.1 p.2)=s++[(a,{ t with lk:=t.lk++ps,nd:=t.nd++ps })]
 |[],t,h,_,_,_,_=>⟨trivial,by simp[dI]⟩
 |p::ps,t,h,he,hp,hn,hb=>by
  have e1:stp (s++[(a,t)]) (.look a p.1 p.2)=s++[(a,{ t with lk:=t.lk++[p],nd:=t.nd++[p] })]:=by
   refine(qX (f:=fun t=>t.ev (.look a p.1 p.2)) h).trans ?_
   have hv:bw t.ps p.1=none:=by rw[hp];rfl
   have hm:p∉t.nd:=fun z=>by
    have:=(List.nodup_append.mp hn).2.2 p z p List.mem_cons_self
    exact this rfl
   simp only[Att.ev,hv,Option.isSome_none,Bool.false_eq_true,if_false,D4,if_neg hm]
  obtain⟨b0,b1,b2,b3⟩:=hb p List.mem_cons_self
  obtain⟨ih1,ih2⟩:=Ae ps { t with lk:=t.lk++[p],nd:=t.nd++[p] } h he hp (by rw[List.append_assoc];exact hn) fun q hq=>hb q (List.mem_cons_of_mem _ hq)
  refine⟨⟨⟨⟨b0,b1,b2,b3⟩,t,nC h,he,fun y hy=>by rw[hp]at hy;cases hy⟩,by rw[e1];exact ih1⟩,?_⟩
  show dI (stp (s++[(a,t)]) (.look a p.1 p.2)) _=_
  rw[e1,ih2]
  simp only[List.append_assoc,List.singleton_append]
theorem zF:∀(ps:List (Int×Int)) (t:Att),a∉aI s->t.en=none->((t.ps++ps).map (·.1)).Nodup->(∀p∈ps,0<=p.1/\p.1<n/\0<=p.2/\p.2<w)->
  sS n w (s++[(a,t)]) (ps.map fun p=>Ev.put a p.1 p.2)/\dI (s++[(a,t)]) (ps.map fun p=>Ev.put a p.1 p.2)=s++[(a,{ t with ps:=t.ps++ps })]
 |[],t,h,_,_,_=>⟨trivial,by simp[dI]⟩
 |p::ps,t,h,he,hn,hb=>by
  have e1:stp (s++[(a,t)]) (.put a p.1 p.2)=s++[(a,{ t with ps:=t.ps++[p] })]:=by
   refine(qX (f:=fun t=>t.ev (.put a p.1 p.2)) h).trans ?_
   have hm:p.1∉t.ps.map (·.1):=fun z=>by
    rw[List.map_append,List.map_cons]at hn
    exact(List.nodup_append.mp hn).2.2 _ z _ List.mem_cons_self rfl
   simp only[Att.ev]
   rw[rF hm]
  obtain⟨b0,b1,b2,b3⟩:=hb p List.mem_cons_self
  obtain⟨ih1,ih2⟩:=zF ps { t with ps:=t.ps++[p] } h he (by rw[List.append_assoc];exact hn) fun q hq=>hb q (List.mem_cons_of_mem _ hq)
  refine⟨⟨⟨⟨b0,b1,b2,b3⟩,t,nC h,he⟩,by rw[e1];exact ih1⟩,?_⟩
  show dI (stp (s++[(a,t)]) (.put a p.1 p.2)) _=_
  rw[e1,ih2]
  simp only[List.append_assoc,List.singleton_append]
def Lp(n:Int)(s:St)(x:List Int)(r:Bool×M):Att:=⟨some r.1,lkD x r,lkD x r,qz n r,(st_ended s)⟩
 where st_ended (s:St):List Int:=(s.filter fun p=>p.2.en.isSome).map (·.1)
theorem wB{r:Bool×M}{p:Int×Int}(h:p∈qz n r):0<=p.1/\p.1<n/\p∈r.2.ps:=by
 obtain⟨d,m⟩:=r
 cases d with
 |false=>cases h
 |true=>exact⟨(oJ h).1,(oJ h).2.1,kF (oJ h).2.2⟩
theorem tQ{r:Bool×M}:((qz n r).map (·.1)).Pairwise (· < ·):=by
 obtain⟨d,m⟩:=r
 cases d with
 |false=>exact .nil
 |true=>exact kX _ 0
theorem Kf{x:List Int}{r:Bool×M}(wf:Wf n r.2):(lkD x r).Nodup:=by
 refine List.pairwise_map.mpr (((fG _).nodup_iff.mpr wf.lk).imp fun h z=>h ?_)
 exact(Prod.mk.inj z).1
theorem KP{x:List Int}{r:Bool×M}(h:a∉aI s)(a0:0<=a)(a1:a<200)(hw:0<w)(wf:Wf n r.2)(bd:Bd w r.2)(hx:∀z∈x,0<=z/\z<w):sS n w s (evA n a x r)/\dI s (evA n a x r)=s++[(a,Lp n s x r)]:=by
 have h1:stp s (.beg a)=s++[(a,lM s)]:=rfl
 obtain⟨l2,r2⟩:=Ae (n:=n) (w:=w) (s:=s) (a:=a) (lkD x r) (lM s) h rfl rfl (by simpa [lM] using Kf wf) (fun p hp=>by
  obtain⟨b,hb,rfl⟩:=List.mem_map.mp hp
  have:=wf.lb b ((fG _).mem_iff.mp hb)
  have g:=vo (k:=b.toNat) hw hx
  exact⟨this.1,this.2,g.1,g.2⟩)
 obtain⟨l3,r3⟩:=zF (n:=n) (w:=w) (s:=s) (a:=a) (qz n r) { lM s with lk:=(lM s).lk++lkD x r,nd:=(lM s).nd++lkD x r } h rfl (by
  have:((lM s).ps++qz n r).map (·.1)=(qz n r).map (·.1):=rfl
  show(((lM s).ps++qz n r).map (·.1)).Nodup
  rw[this]
  exact tQ.imp fun h=>by omega) (fun p hp=>by
  obtain⟨h0,h1,h2⟩:=wB hp
  have:=bd.2 p h2
  exact⟨h0,h1,this.1,this.2⟩)
 have e4:stp (s++[(a,({ lM s with lk:=(lM s).lk++lkD x r,nd:=(lM s).nd++lkD x r,ps:=(lM s).ps++qz n r }:Att))]) (.fin r.1 a)=s++[(a,Lp n s x r)]:=by
  exact(qX (f:=fun t=>t.ev (.fin r.1 a)) h).trans rfl
 constructor
 ·refine⟨⟨a0,a1,h⟩,?_⟩
  rw[h1,nH,nH,r2,r3]
  exact⟨l2,l3,⟨_,nC h,rfl⟩,trivial⟩
 ·show dI (stp s (.beg a)) _=_
  rw[h1,rC,rC,r2,r3]
  exact e4
end
theorem pR{ca cb:CS}{ρ ρ':Rho}{S S':Sto}(h:ca ρ S=some (.nx,ρ',S')):bu ca cb ρ S=cb ρ' S':=by rw[Iq,h,Option.bind_some,D9]
inductive Gd(S:Sto):U->Prop
 |non:Gd S .non
 |bl (b:Bool):Gd S (.bl b)
 |int (i:Int):Gd S (.int i)
 |str (x:Str):Gd S (.str x)
 |lst {l:Nat} {us:List U} (h:S[l]?=some (.lst us)):Gd S (.ref l)
 |tup {us:List U} (h:∀u∈us,Gd S u):Gd S (.tup us)
theorem Gd.app{S:Sto}{u:U}(h:Gd S u)(X:Sto):Gd (S++X) u:=by
 induction h with
 |non=>exact .non
 |bl b=>exact .bl b
 |int i=>exact .int i
 |str x=>exact .str x
 |lst h=>exact .lst (aG h)
 |tup _ ih=>exact .tup ih
theorem Gd.mem{S:Sto}{us:List U}(h:Gd S (.tup us)):∀u∈us,Gd S u:=by
 cases h with
 |tup h=>exact h
def eW(lo hi:Int):U->Bool
 |.int i=>decide (lo<=i)&&decide (i<=hi)
 |_=>false
section
variable{n w lo hi:Int}{S:Sto}{u:U}{us r:List U}{t:Nat}
def sD:Fn:=fnU 1 1 iR
def isI:U->Bool
 |.int _=>true
 |_=>false
theorem yY(h:Gd S u):sD [u] S=some (.bl (isI u),S):=by
 unfold sD
 rw[yo]
 cases h with
 |non=>rfl
 |bl b=>rfl
 |int i=>rfl
 |str x=>rfl
 |tup _=>rfl
 |lst h=>rwa[iR,tyU,h,Ep,isI]
def sC:Fn:=fnU 3 3 (cN sD)
theorem DW{ρ:Rho}{c1 c2 c3:CE}{i:Int}(h1:c1 ρ S=some (.int lo,S))(h2:c2 ρ S=some (.int i,S))(h3:c3 ρ S=some (.int hi,S)):uC fLe fLe c1 c2 c3 ρ S=some (.bl (decide (lo<=i)&&decide (i<=hi)),S):=by
 unfold uC
 rw[h1,Option.bind_some]
 dsimp only
 rw[h2,Option.bind_some]
 dsimp only
 rw[LY,Option.bind_some]
 cases hd:decide (lo<=i)with
 |true=>
  dsimp only
  rw[h3,Option.bind_some,LY,Bool.true_and]
 |false=>rfl
theorem nN(h:Gd S u):sC [u,.int lo,.int hi] S=some (.bl (eW lo hi u),S):=by
 have e:=yY h
 unfold sC
 rw[vy]
 cases u with
 |int i=>
  have hc:=DW (S:=S) (lo:=lo) (hi:=hi) (i:=i) (ρ:=[some (.int i),some (.int lo),some (.int hi)]) (c1:=ah 1) (c2:=ah 0) (c3:=ah 2) rfl rfl rfl
  simp only[isI]at e
  rwa[cN,e,hc,eW]
 |non=>simp only[isI]at e;rwa[cN,e,eW]
 |bl b=>simp only[isI]at e;rwa[cN,e,eW]
 |str x=>simp only[isI]at e;rwa[cN,e,eW]
 |tup x=>simp only[isI]at e;rwa[cN,e,eW]
 |ref x=>simp only[isI]at e;rwa[cN,e,eW]
 |kl x=>cases h
theorem Hf{i:Nat}{ρ:Rho}(hv:ρ[i]?=some (some u))(h:Gd S u)(hn:∀us,u≠.tup us):aQ (DZ .tuple (ah i)) ρ S=some (false,S):=by
 have e:ah i ρ S=some (u,S):=by unfold ah;rw[hv]
 rw[sT,BQ,e,Option.bind_some,vR]
 cases h with
 |tup _=>exact absurd rfl (hn _)
 |lst h=>simp only[tyU,h,Option.bind_some,Ep,qT]
 |_=>rfl
theorem Dp{i:Nat}{ρ:Rho}(hv:ρ[i]?=some (some (.tup us))):aQ (DZ .tuple (ah i)) ρ S=some (true,S):=by
 have e:ah i ρ S=some (.tup us,S):=by unfold ah;rw[hv]
 rw[sT,BQ,e,Option.bind_some,vR]
 rfl
end
section
variable{α:Type}{n w lo hi:Int}{S:Sto}{u x a b:U}{us r:List U}{t:Nat}{rec:U->Bool}{f:α->U}{q:List α->Prop}{s:List α->Int}
theorem rK(h:eW lo hi x=true):∃i,x=.int i/\lo<=i/\i<=hi:=by
 cases x with
 |int i=>
  have h':(decide (lo<=i)&&decide (i<=hi))=true:=h
  rw[Bool.and_eq_true,decide_eq_true_iff,decide_eq_true_iff]at h'
  exact⟨i,rfl,h'⟩
 |_=>cases h
theorem iE{i:Int}(h1:lo<=i)(h2:i<=hi):eW lo hi (.int i)=true:=by
 show(decide (lo<=i)&&decide (i<=hi))=true
 rw[decide_eq_true h1,decide_eq_true h2];rfl
end
theorem yj{c:Cl}{S:Sto}{st:St}{n w:Int}{e:Ev}{m:Nat}(hk:(aI st).Nodup)(ok:xH n w st e)(fw:Few st m)(hm:m<=9000)(h9:st.length<=900):iH c [.ref S.length,e.u] (crs c S st)=some (.non,crs c S (stp st e)):=by
 unfold iH
 rw[jD]
 have i0:∀st:St,(crs c S st)[S.length]?=some (.ins c [some (.ref (S.length+1)),some (.ref (S.length+2)),some (.ref (S.length+3)),some (.ref (S.length+4)),some (.ref (S.length+5))]):=fun _=>hd0
 cases e with
 |beg a=>
  have h:=uA (c:=c) (S:=S) hk ok.2.2 h9
  rwa[aV,Ev.u,kC,h,i0,stp]
 |look a b x=>
  obtain⟨_,t,h1,h2,_⟩:=ok
  obtain⟨s1,s2,rfl⟩:=dz h1
  obtain⟨q1,q2,q3⟩:=fw.2 _ (List.mem_append_right s1 List.mem_cons_self)
  dsimp only at q1 q2
  have h:=z3 (c:=c) (S:=S) (b:=b) (x:=x) hk (by omega) (by omega)
  rwa[aV,Ev.u,fY,kC,h,i0,stp,Ev.at,fZ hk]
 |put a b x=>
  obtain⟨_,t,h1,h2⟩:=ok
  obtain⟨s1,s2,rfl⟩:=dz h1
  obtain⟨q1,q2,q3⟩:=fw.2 _ (List.mem_append_right s1 List.mem_cons_self)
  dsimp only at q3
  have F3:m8 c 3 (.ref S.length,crs c S (s1++(a,t)::s2))=some (.ref (S.length+4),crs c S (s1++(a,t)::s2)):=ef hd0 rfl
  have f4:(crs c S (s1++(a,t)::s2))[S.length+4]?=some (.dic (eY S.length 3 (s1++(a,t)::s2) 0)):=hd4
  have v3:=gH (S:=S) (j:=3) hk
  have g3:(crs c S (s1++(a,t)::s2))[S.length+(6+(4*s1.length+3))]?=some (.dic (p7 t.ps)):=jF (by omega)
  have lp:(p7 t.ps).length<LIM:=by unfold p7 LIM;rw[List.length_map];omega
  have s3:=sh (c:=c) (S:=S) (s1:=s1) (s2:=s2) (a:=a) (t:=t) (t':=t.ev (.put a b x)) (j:=3) (o:=.dic (p7 (jo t.ps b x))) (by omega) rfl rfl
  rwa[aV,Ev.u,gO,jP,kC,i0,F3,f4,v3,g3,lp,if_true,wz,s3,stp,Ev.at,fZ hk]
 |fin d a=>
  obtain⟨t,h1,h2⟩:=ok
  obtain⟨s1,s2,rfl⟩:=dz h1
  have F0:m8 c 0 (.ref S.length,crs c S (s1++(a,t)::s2))=some (.ref (S.length+1),crs c S (s1++(a,t)::s2)):=ef hd0 rfl
  have f1:(crs c S (s1++(a,t)::s2))[S.length+1]?=some (.dic (gC (s1++(a,t)::s2))):=hd1
  have lE:(gC (s1++(a,t)::s2)).length<LIM:=by have:=fw.1;unfold gC LIM;rw[List.length_map];omega
  have ce:=Ba (c:=c) (S:=S) (d:=d) hk
  cases d with
  |true=>
   simp only[nc,if_true]at ce
   rwa[aV,Ev.u,nc,if_true,ie,j8,ql,i0,F0,f1,lE,ce,stp,Ev.at,Att.ev,fZ hk]
  |false=>
   simp only[nc,Bool.false_eq_true,if_false]at ce
   rwa[aV,Ev.u,nc,Bool.false_eq_true,if_true,if_false,ic,j7,qk,i0,F0,f1,lE,ce,stp,Ev.at,Att.ev,fZ hk]
inductive Fs(S:Sto):U->Prop
 |str (x:Str) (k:PyData.strOk x=true):Fs S (.str x)
 |tup (x:Str) (k:PyData.strOk x=true):Fs S (.tup [.str x])
 |lst {l:Nat} {x:Str} (k:PyData.strOk x=true) (h:S[l]?=some (.lst [.str x])):Fs S (.ref l)
theorem Fs.app{S:Sto}{u:U}(h:Fs S u)(X:Sto):Fs (S++X) u:=by
 cases h with
 |str x k=>exact .str x k
 |tup x k=>exact .tup x k
 |lst k h=>exact .lst k (aG h)
structure GdE(S:Sto)(u:U):Prop where
 gd:Gd S u
 fs:∀x y r,u=.tup (x::y::r)->Fs S x
theorem GdE.app{S:Sto}{u:U}(h:GdE S u)(X:Sto):GdE (S++X) u:=⟨h.gd.app X,fun x y r e=>(h.fs x y r e).app X⟩
def inW(ws:List Str):U->Bool
 |.str s=>ws.any fun z=>decide (z=s)
 |_=>false
theorem AZ{S:Sto}:∀ws:List Str,DtL S (ws.map U.str) (ws.map PyData.str)
 |[]=>.nil
 |w::ws=>.cons (.str w) (AZ ws)
theorem wW:∀ws:List Str,(∀z∈ws,PyData.strOk z=true)->PyData.canLayAll0 (ws.map PyData.str)=true
 |[],_=>by simp[PyData.canLayAll0]
 |w::ws,h=>by simp[PyData.canLayAll0,PyData.canLay0,wW ws fun z hz=>h z (List.mem_cons_of_mem _ hz),h w List.mem_cons_self]
theorem EN{S:Sto}{u:U}{ws:List Str}(hw:∀z∈ws,PyData.strOk z=true)(h:Fs S u):ER false u (.tup (ws.map U.str)) S=some (.bl (inW ws u),S):=by
 have key:∀{d:PyData},Dt S u d->vP d->((ws.map PyData.str).any fun z=>z.eqv d)=inW ws u->ER false u (.tup (ws.map U.str)) S=some (.bl (inW ws u),S):=fun{d} hd hl e=>by
  have:=Ht (x:=u) (y:=.tup (ws.map U.str)) (S:=S) (b:=(ws.map PyData.str).any fun z=>z.eqv d) false ⟨d,ws.map PyData.str,hd,.inr (.tup (AZ ws)),hl,wW ws hw,rfl⟩
  rw[e]at this
  exact this
 have no:∀(d:PyData),(∀z,(PyData.str z).eqv d=false)->((ws.map PyData.str).any fun z=>z.eqv d)=false:=fun d hz=>by
  rw[List.any_map]
  exact List.any_eq_false.mpr fun z _=>by simp[hz]
 cases h with
 |str x k=>
  refine key (.str x) ⟨by simp[PyData.canLay0,k],by simp[PyData.depth]⟩ ?_
  rw[List.any_map]
  show ws.any _=ws.any _
  congr 1
 |tup x k=>exact key (.tup (.cons (.str x) .nil)) ⟨by simp[PyData.canLay0,PyData.canLayAll0,k],by simp[PyData.depth,PyData.depthAll]⟩ (no _ fun z=>by simp[PyData.eqv])
 |lst k h'=>exact key (.lst h' (.cons (.str _) .nil)) ⟨by simp[PyData.canLay0,PyData.canLayAll0,k],by simp[PyData.depth,PyData.depthAll]⟩ (no _ fun z=>by simp[PyData.eqv])
def wsA:List Str:=["begin","done","fall"]
def wsB:List Str:=["look","put"]
theorem okA:∀z∈wsA,PyData.strOk z=true:=by
 have:wsA.all PyData.strOk=true:=by decide +kernel
 exact List.all_eq_true.mp this
theorem okB:∀z∈wsB,PyData.strOk z=true:=by
 have:wsB.all PyData.strOk=true:=by decide +kernel
 exact List.all_eq_true.mp this
def Hv(n w:Int):List U->Bool
 |[x2,x3]=>eW 0 (n-1) x2&&eW 0 (w-1) x3
 |_=>false
def xh(n w:Int):U->Bool
 |.tup (x0::x1::r)=>eW 0 199 x1&&(if inW wsA x0 then decide (r.length=0)else inW wsB x0&&Hv n w r)
 |_=>false
section
variable{n w:Int}{S:Sto}{u:U}
def jL:Fn:=fnU 2 2 (bM sC)
theorem ya(h:GdE S u):jL [.tup [.int n,.int w],u] S=some (.bl (xh n w u),S):=by
 unfold jL
 rw[yp]
 by_cases hu:∃us,u=.tup us
 ·obtain⟨us,rfl⟩:=hu
  have e1:=Dp (i:=1) (S:=S) (us:=us) (ρ:=[some (.tup [.int n,.int w]),some (.tup us)]) rfl
  match us,h with
  |[],h=>rwa[bM,e1,xh,List.length_nil];rfl
  |[x],h=>rwa[bM,e1,xh,List.length_cons,List.length_nil];rfl
  |x0::x1::r,h=>
   have gm:=h.gd.mem
   have hw:=nN (lo:=0) (hi:=199) (gm x1 (List.mem_cons_of_mem _ List.mem_cons_self))
   have hf:=h.fs x0 x1 r rfl
   have iA:=EN okA hf
   have iB:=EN okB hf
   have d2:decide (((x0::x1::r).length:Int)<2)=false:=decide_eq_false (by simp;omega)
   have a0:atI (x0::x1::r) 0=some x0:=iM (j:=0) rfl
   have a1:atI (x0::x1::r) 1=some x1:=iM (j:=1) rfl
   have dA:decide (((x0::x1::r).length:Int)=2)=decide (r.length=0):=by
    have e:(((x0::x1::r).length:Int)=2)↔r.length=0:=by simp only[List.length_cons];omega
    simp only[e]
   simp only[wsA,wsB,List.map_cons,List.map_nil]at iA iB
   obtain⟨us,hus⟩:∃us,us=x0::x1::r:=⟨_,rfl⟩
   rw[<-hus]at e1 d2 a0 a1 dA ⊢
   cases hp:eW 0 199 x1 with
   |false=>
    rw[hp]at hw
    have ev:xh n w (.tup us)=false:=by rw[hus];show(eW 0 199 x1&&_)=false;rw[hp];rfl
    rw[ev]
    rwa[bM,e1,d2,a1,hw]
   |true=>
    rw[hp]at hw
    cases hA:inW wsA x0 with
    |true=>
     rw[show inW ["begin","done","fall"] x0=true from hA]at iA
     have ev:xh n w (.tup us)=decide (r.length=0):=by rw[hus];show(eW 0 199 x1&&(if inW wsA x0=true then _ else _))=_;rw[hp,hA];rfl
     rw[ev]
     rwa[bM,e1,d2,a0,a1,hw,iA,dA]
    |false=>
     rw[show inW ["begin","done","fall"] x0=false from hA]at iA
     have ev:xh n w (.tup us)=(inW wsB x0&&Hv n w r):=by rw[hus];show(eW 0 199 x1&&(if inW wsA x0=true then _ else _))=_;rw[hp,hA];rfl
     rw[ev]
     cases hB:inW wsB x0 with
     |false=>
      rw[show inW ["look","put"] x0=false from hB]at iB
      rwa[bM,e1,d2,a0,a1,hw,iA,iB,Bool.false_and]
     |true=>
      rw[show inW ["look","put"] x0=true from hB]at iB
      match r,hus with
      |[x2,x3],hus=>
       have w2:=nN (lo:=0) (hi:=n-1) (gm x2 (by simp))
       have w3:=nN (lo:=0) (hi:=w-1) (gm x3 (by simp))
       have d4:decide ((us.length:Int)=4)=true:=decide_eq_true (by rw[hus];rfl)
       have a2:atI us 2=some x2:=by rw[hus];exact iM (j:=2) rfl
       have a3:atI us 3=some x3:=by rw[hus];exact iM (j:=3) rfl
       have eB:Hv n w [x2,x3]=(eW 0 (n-1) x2&&eW 0 (w-1) x3):=rfl
       rw[eB]
       cases h2:eW 0 (n-1) x2 with
       |false=>
        rw[h2]at w2
        rwa[bM,e1,d2,d4,a0,a1,a2,hw,iA,iB,w2,Bool.true_and,Bool.false_and]
       |true=>
        rw[h2]at w2
        rwa[bM,e1,d2,d4,a0,a1,a2,a3,hw,iA,iB,w2,w3,Bool.true_and]
      |[],hus=>
       have d4:decide ((us.length:Int)=4)=false:=decide_eq_false (by rw[hus];simp)
       have eB:Hv n w []=false:=rfl
       rwa[bM,e1,d2,d4,a0,a1,hw,iA,iB,eB,Bool.and_false]
      |[x2],hus=>
       have d4:decide ((us.length:Int)=4)=false:=decide_eq_false (by rw[hus];simp)
       have eB:Hv n w [x2]=false:=rfl
       rwa[bM,e1,d2,d4,a0,a1,hw,iA,iB,eB,Bool.and_false]
      |x2::x3::x4::r,hus=>
       have d4:decide ((us.length:Int)=4)=false:=decide_eq_false (by rw[hus];simp;omega)
       have eB:Hv n w (x2::x3::x4::r)=false:=rfl
       rwa[bM,e1,d2,d4,a0,a1,hw,iA,iB,eB,Bool.and_false]
 ·have e1:=Hf (i:=1) (S:=S) (u:=u) (ρ:=[some (.tup [.int n,.int w]),some u]) rfl h.gd fun us z=>hu ⟨us,z⟩
  have er:xh n w u=false:=by
   cases u with
   |tup us=>exact absurd ⟨us,rfl⟩ hu
   |_=>rfl
  rw[er]
  rwa[bM,e1]
end
section
variable{n w lo hi:Int}{S:Sto}{u:U}
def EvB(n w:Int):Ev->Prop
 |.beg a=>0<=a/\a<200
 |.look a b x=>(0<=a/\a<200)/\0<=b/\b<n/\0<=x/\x<w
 |.put a b x=>(0<=a/\a<200)/\0<=b/\b<n/\0<=x/\x<w
 |.fin _ a=>0<=a/\a<200
theorem AM(h:xh n w u=true):∃e:Ev,u=e.u/\EvB n w e:=by
 match u,h with
 |.tup (x0::x1::r),h=>
  have h':(eW 0 199 x1&&(if inW wsA x0 then decide (r.length=0)else inW wsB x0&&Hv n w r))=true:=h
  rw[Bool.and_eq_true]at h'
  obtain⟨h1,h2⟩:=h'
  obtain⟨a,rfl,a0,a1⟩:=rK h1
  cases x0 with
  |str s=>
   split at h2
   ·rename_i hA
    have hr:r=[]:=List.length_eq_zero_iff.mp (of_decide_eq_true h2)
    subst hr
    have hA':(decide (Str.ofString "begin"=s)||(decide (Str.ofString "done"=s)||(decide (Str.ofString "fall"=s)||false)))=true:=hA
    simp only[Bool.or_eq_true,decide_eq_true_eq,Bool.or_false]at hA'
    rcases hA' with rfl|rfl|rfl
    ·exact⟨.beg a,rfl,a0,by omega⟩
    ·exact⟨.fin true a,rfl,a0,by omega⟩
    ·exact⟨.fin false a,rfl,a0,by omega⟩
   ·rw[Bool.and_eq_true]at h2
    obtain⟨hB,hE⟩:=h2
    match r,hE with
    |[x2,x3],hE=>
     have hE':(eW 0 (n-1) x2&&eW 0 (w-1) x3)=true:=hE
     rw[Bool.and_eq_true]at hE'
     obtain⟨b,rfl,b0,b1⟩:=rK hE'.1
     obtain⟨x,rfl,c0,c1⟩:=rK hE'.2
     have hB':(decide (Str.ofString "look"=s)||(decide (Str.ofString "put"=s)||false))=true:=hB
     simp only[Bool.or_eq_true,decide_eq_true_eq,Bool.or_false]at hB'
     rcases hB' with rfl|rfl
     ·exact⟨.look a b x,rfl,⟨a0,by omega⟩,b0,by omega,c0,by omega⟩
     ·exact⟨.put a b x,rfl,⟨a0,by omega⟩,b0,by omega,c0,by omega⟩
  |_=>simp[inW]at h2
end
open Classical in
def okS(n w:Int)(st:St)(e:Ev):Bool:=decide (xH n w st e)
section
variable{n w:Int}{S:Sto}{u:U}{c:Cl}{st:St}{e:Ev}
theorem va(h:xH n w st e):okS n w st e=true:=by unfold okS;exact @decide_eq_true _ (Classical.propDecidable _) h
theorem pW(h:¬xH n w st e):okS n w st e=false:=by unfold okS;exact @decide_eq_false _ (Classical.propDecidable _) h
def nL(c:Cl):Fn:=fnU 3 2 (aW c)
theorem i8{a:Int}(h:bw st a=none):bw (gC st) (.inl a)=none:=fe.mpr (by rw[iP];exact lU (fe.mp h))
theorem Bz(hk:(aI st).Nodup)(eb:EvB n w e):nL c [.ref S.length,e.u] (crs c S st)=some (.bl (okS n w st e),crs c S st):=by
 unfold nL
 rw[pj]
 have F0:m8 c 0 (.ref S.length,crs c S st)=some (.ref (S.length+1),crs c S st):=ef hd0 rfl
 have f1:(crs c S st)[S.length+1]?=some (.dic (gC st)):=hd1
 have i0:(crs c S st)[S.length]?=some (.ins c [some (.ref (S.length+1)),some (.ref (S.length+2)),some (.ref (S.length+3)),some (.ref (S.length+4)),some (.ref (S.length+5))]):=hd0
 have get1:∀(x1:U) (a:Int),xt (gD c 0 (ah 0)) (ah 2) [some (.ref S.length),some x1,some (.int a)] (crs c S st)=some ((bw (gC st) (.inl a)).getD .non,crs c S st):=fun x1 a=>by
  have h0:gD c 0 (ah 0) [some (.ref S.length),some x1,some (.int a)] (crs c S st)=some (.ref (S.length+1),crs c S st):=by rw[IL];exact F0
  unfold xt
  rw[h0,Option.bind_some]
  have hv:ah 2 [some (.ref S.length),some x1,some (.int a)] (crs c S st)=some (.int a,crs c S st):=rfl
  simp only[f1,hv,Option.bind_some]
  rfl
 have ne0:∀x:Str,fNe .non (.str x) (crs c S st)=some (.bl true,crs c S st):=fun _=>rfl
 cases e with
 |beg a=>
  have hv:(bw (gC st) (.inl a)).isSome=decide (a∈aI st):=by
   by_cases h:a∈aI st
   ·rw[decide_eq_true h]
    cases hz:bw (gC st) (.inl a)with
    |some _=>rfl
    |none=>
     have:=fe.mp hz
     rw[iP]at this
     exact absurd (List.mem_map.mpr ⟨a,h,rfl⟩) this
   ·rw[decide_eq_false h,fe.mpr (by rw[iP];exact lU h)];rfl
  have er:okS n w st (.beg a)=!decide (a∈aI st):=by
   by_cases h:a∈aI st
   ·rw[decide_eq_true h,pW (e:=.beg a) (fun z:0<=a/\a<200/\a∉aI st=>z.2.2 h)];rfl
   ·rw[decide_eq_false h,va (e:=.beg a) (show 0<=a/\a<200/\a∉aI st from⟨eb.1,eb.2,h⟩)];rfl
  rw[er,<-hv]
  rwa[aW,Ev.u,kC,F0,f1,if_true]
 |look a b x=>
  cases hv:bw st a with
  |none=>
   have er:okS n w st (.look a b x)=false:=pW fun z=>by obtain⟨_,t,h1,_⟩:=z;rw[hv]at h1;cases h1
   have g:=get1 (Ev.look a b x).u a
   rw[i8 hv,Option.getD_none]at g
   simp only[Ev.u]at g
   rw[er]
   rwa[aW,Ev.u,fY,g,ne0]
  |some t=>
   obtain⟨s1,s2,rfl⟩:=dz hv
   have g:=get1 (Ev.look a b x).u a
   rw[kE hk,Option.getD_some]at g
   simp only[Ev.u]at g
   have eo:=se (o:=t.en)
   cases ht:t.en with
   |some d=>
    rw[ht]at eo g
    have er:okS n w (s1++(a,t)::s2) (.look a b x)=false:=pW fun z=>by obtain⟨_,t',h1,h2,_⟩:=z;rw[hv]at h1;cases h1;rw[ht]at h2;cases h2
    rw[er]
    rwa[aW,Ev.u,fY,g,eo,Option.isSome_some,Bool.not_true,Bool.not_false]
   |none=>
    rw[ht]at eo g
    have F3:m8 c 3 (.ref S.length,crs c S (s1++(a,t)::s2))=some (.ref (S.length+4),crs c S (s1++(a,t)::s2)):=ef hd0 rfl
    have f4:(crs c S (s1++(a,t)::s2))[S.length+4]?=some (.dic (eY S.length 3 (s1++(a,t)::s2) 0)):=hd4
    have v3:=gH (S:=S) (j:=3) hk
    have g3:(crs c S (s1++(a,t)::s2))[S.length+(6+(4*s1.length+3))]?=some (.dic (p7 t.ps)):=jF (by omega)
    have vp:=nD b t.ps
    have er:okS n w (s1++(a,t)::s2) (.look a b x)=decide ((bw t.ps b).getD x=x):=by
     by_cases h:(bw t.ps b).getD x=x
     ·rw[decide_eq_true h]
      refine va ⟨eb.2,t,hv,ht,fun y hy=>?_⟩
      rw[hy]at h;exact h
     ·rw[decide_eq_false h]
      refine pW fun z=>?_
      obtain⟨_,t',h1,_,h3⟩:=z
      rw[hv]at h1;cases h1
      cases hb:bw t.ps b with
      |none=>rw[hb]at h;exact h rfl
      |some y=>rw[hb]at h;exact h (h3 y hb)
    have vg:(bw (p7 t.ps) (.inl b)).getD (.int x)=.int ((bw t.ps b).getD x):=by rw[vp];cases bw t.ps b<;>rfl
    rw[er]
    rwa[aW,Ev.u,fY,kC,g,eo,Option.isSome_none,Bool.not_true,Bool.not_false,F3,f4,v3,g3,vg]
 |put a b x=>
  cases hv:bw st a with
  |none=>
   have er:okS n w st (.put a b x)=false:=pW fun z=>by obtain⟨_,t,h1,_⟩:=z;rw[hv]at h1;cases h1
   have g:=get1 (Ev.put a b x).u a
   rw[i8 hv,Option.getD_none]at g
   simp only[Ev.u]at g
   rw[er]
   rwa[aW,Ev.u,gO,g,ne0]
  |some t=>
   obtain⟨s1,s2,rfl⟩:=dz hv
   have g:=get1 (Ev.put a b x).u a
   rw[kE hk,Option.getD_some]at g
   simp only[Ev.u]at g
   have eo:=se (o:=t.en)
   cases ht:t.en with
   |some d=>
    rw[ht]at eo g
    have er:okS n w (s1++(a,t)::s2) (.put a b x)=false:=pW fun z=>by obtain⟨_,t',h1,h2⟩:=z;rw[hv]at h1;cases h1;rw[ht]at h2;cases h2
    rw[er]
    rwa[aW,Ev.u,gO,g,eo,Option.isSome_some,Bool.not_true,Bool.not_false]
   |none=>
    rw[ht]at eo g
    have er:okS n w (s1++(a,t)::s2) (.put a b x)=true:=va ⟨eb.2,t,hv,ht⟩
    rw[er]
    rwa[aW,Ev.u,gO,jP,g,eo,Option.isSome_none,Bool.not_true,Bool.not_false]
 |fin d a=>
  have wb:decide (nc d=Str.ofString "begin")=false:=by cases d;exact ic;exact ie
  have wl:decide (nc d=Str.ofString "look")=false:=by cases d;exact j7;exact j8
  cases hv:bw st a with
  |none=>
   have er:okS n w st (.fin d a)=false:=pW fun z=>by obtain⟨t,h1,_⟩:=z;rw[hv]at h1;cases h1
   have g:=get1 (Ev.fin d a).u a
   rw[i8 hv,Option.getD_none]at g
   simp only[Ev.u]at g
   rw[er]
   rwa[aW,Ev.u,wb,g,ne0]
  |some t=>
   obtain⟨s1,s2,rfl⟩:=dz hv
   have g:=get1 (Ev.fin d a).u a
   rw[kE hk,Option.getD_some]at g
   simp only[Ev.u]at g
   have eo:=se (o:=t.en)
   cases ht:t.en with
   |some d'=>
    rw[ht]at eo g
    have er:okS n w (s1++(a,t)::s2) (.fin d a)=false:=pW fun z=>by obtain⟨t',h1,h2⟩:=z;rw[hv]at h1;cases h1;rw[ht]at h2;cases h2
    rw[er]
    rwa[aW,Ev.u,wb,g,eo,Option.isSome_some,Bool.not_true,Bool.not_false]
   |none=>
    rw[ht]at eo g
    have er:okS n w (s1++(a,t)::s2) (.fin d a)=true:=va ⟨t,hv,ht⟩
    rw[er]
    rwa[aW,Ev.u,wb,wl,g,eo,Option.isSome_none,Bool.not_true,Bool.not_false]
open Classical in
def nxE(n w:Int)(u:U):Option Ev:=if h:xh n w u=true then some (AM h).choose else none
theorem GV(h:xh n w u=false):nxE n w u=none:=by
 unfold nxE
 rw[dif_neg (by rw[h];exact Bool.false_ne_true)]
theorem zZ(h:xh n w u=true):∃e,nxE n w u=some e/\u=e.u/\EvB n w e:=by
 unfold nxE
 rw[dif_pos h]
 exact⟨_,rfl,(AM h).choose_spec⟩
def md(n w:Int):St->List U->Bool
 |_,[]=>true
 |st,u::us=>match nxE n w u with
  |none=>false
  |some e=>okS n w st e&&md n w (stp st e) us
structure StI(st:St)(m:Nat):Prop where
 nd:(aI st).Nodup
 kb:∀k∈aI st,0<=k/\k<((200:Nat):Int)
 fw:Few st m
theorem StI.len{m:Nat}(h:StI st m):st.length<=200:=by
 have:=few 200 (aI st) h.nd h.kb
 unfold aI at this
 rw[List.length_map]at this
 exact this
theorem StI.stp{m:Nat}(h:StI st m)(eb:EvB n w e)(ok:xH n w st e):StI (stp st e) (m+1):=by
 refine⟨lu h.nd ok,fun k hk=>?_,vt h.nd ok h.fw⟩
 rw[rQ]at hk
 cases e with
 |beg a=>
  rcases List.mem_append.mp hk with hk|hk
  ·exact h.kb k hk
  ·rw[List.mem_singleton.mp hk];exact⟨eb.1,by have:=eb.2;omega⟩
 |_=>exact h.kb k hk
def mx(c:Cl):Fn:=fnU 4 2 (iF jL (nL c) (iH c) (kr c) c)
theorem qK{wx:Option U}{ok:Sto->Prop}(hok:∀st,ok (crs c S st)):∀(us:List U) (st:St) (m:Nat) (r3:Option U),StI st m->m+us.length<=9000->(∀u∈us,GdE S u)->
  ∃ρ st',eK ok (gNm 3) (iU jL (nL c) (iH c) (kr c) c) us [some (.tup [.int n,.int w]),wx,some (.ref S.length),r3] (crs c S st)=some (if md n w st us then .nx else .rt (.bl false),ρ,crs c S st')
 |[],st,m,r3,_,_,_=>⟨_,st,fU (hok st)⟩
 |u::us,st,m,r3,hi,hm,hg=>by
  rw[List.length_cons]at hm
  have i0:(crs c S st)[S.length]?=some (.ins c [some (.ref (S.length+1)),some (.ref (S.length+2)),some (.ref (S.length+3)),some (.ref (S.length+4)),some (.ref (S.length+5))]):=hd0
  have h1:jL [.tup [.int n,.int w],u] (crs c S st)=some (.bl (xh n w u),crs c S st):=ya (by unfold crs;exact(hg u List.mem_cons_self).app _)
  cases he:xh n w u with
  |false=>
   rw[he]at h1
   have gb:md n w st (u::us)=false:=by simp only[md,GV he]
   rw[gb]
   refine⟨[some (.tup [.int n,.int w]),wx,some (.ref S.length),some u],st,ve (hok st) rfl ?_⟩
   rwa[iU,h1]
  |true=>
   rw[he]at h1
   obtain⟨e,hn,rfl,eb⟩:=zZ he
   have h2:=Bz (c:=c) (S:=S) hi.nd eb
   have gb:md n w st (e.u::us)=(okS n w st e&&md n w (OQ.stp st e) us):=by simp only[md,hn]
   obtain⟨x,hx⟩:∃x,x=e.u:=⟨_,rfl⟩
   rw[gb]
   by_cases hk:xH n w st e
   ·rw[va hk,Bool.true_and]
    rw[va hk]at h2
    have h3:=yj (c:=c) (S:=S) hi.nd hk hi.fw (by omega) (by have:=hi.len;omega)
    obtain⟨ρ,st',ih⟩:=qK (wx:=wx) hok us (OQ.stp st e) (m+1) (some e.u) (hi.stp eb hk) (by omega) fun v hv=>hg v (List.mem_cons_of_mem _ hv)
    refine⟨ρ,st',(dn (hok st) rfl ?_).trans ih⟩
    rw[<-hx]at h1 h2 h3 ⊢
    rwa[iU,i0,h1,h2,h3]
   ·rw[pW hk]at h2
    rw[pW hk,Bool.false_and]
    refine⟨[some (.tup [.int n,.int w]),wx,some (.ref S.length),some e.u],st,ve (hok st) rfl ?_⟩
    rw[<-hx]at h1 h2 ⊢
    rwa[iU,i0,h1,h2]
def Th(S:Sto)(u:U):Prop:=(∃l us,u=.ref l/\S[l]?=some (.lst us)/\∀v∈us,GdE S v)\/(∀l,u≠.ref l)/\Gd S u
open Classical in
def EF(n w:Int)(S:Sto)(u:U):Bool:=decide (∃l us,u=.ref l/\S[l]?=some (.lst us)/\us.length<=2000/\md n w [] us=true)
theorem wR{l:Nat}{us:List U}(h:S[l]?=some (.lst us))(hl:us.length<=2000):EF n w S (.ref l)=md n w [] us:=by
 unfold EF
 cases hg:md n w [] us with
 |true=>exact @decide_eq_true _ (Classical.propDecidable _) ⟨l,us,rfl,h,hl,hg⟩
 |false=>
  refine @decide_eq_false _ (Classical.propDecidable _) fun z=>?_
  obtain⟨l',us',e,h',_,g⟩:=z
  cases e
  rw[h]at h';cases h'
  rw[hg]at g;cases g
theorem Ac{l:Nat}{us:List U}(h:S[l]?=some (.lst us))(hl:¬us.length<=2000):EF n w S (.ref l)=false:=by
 unfold EF
 refine @decide_eq_false _ (Classical.propDecidable _) fun z=>?_
 obtain⟨l',us',e,h',k,_⟩:=z
 cases e
 rw[h]at h';cases h'
 exact hl k
theorem GX(h:∀l,u≠.ref l):EF n w S u=false:=by
 unfold EF
 refine @decide_eq_false _ (Classical.propDecidable _) fun z=>?_
 obtain⟨l',us',e,_⟩:=z
 exact h l' e
theorem Hg{i:Nat}{ρ:Rho}(hv:ρ[i]?=some (some u))(h:Gd S u)(hn:∀l,u≠.ref l):aQ (DZ .list (ah i)) ρ S=some (false,S):=by
 have e:ah i ρ S=some (u,S):=by unfold ah;rw[hv]
 rw[sT,BQ,e,Option.bind_some,vR]
 cases h with
 |lst _=>exact absurd rfl (hn _)
 |_=>rfl
theorem Dm(hns:c.ns.length=5)(h:Th S u):∃G,mx c [.tup [.int n,.int w],u] S=some (.bl (EF n w S u),S++G):=by
 unfold mx
 rw[DL]
 rcases h with⟨l,us,rfl,h,g⟩|⟨h,g⟩
 ·have ty:tyU (.ref l) S=some .list:=by simp only[tyU,h]
  have sl:Ep .list .list=true:=rfl
  by_cases hl:us.length<=2000
  ·have d1:decide ((2000:Int)<(us.length:Int))=false:=decide_eq_false (by omega)
   have hok:∀st,(crs c S st)[l]?=some (.lst us):=fun st=>by unfold crs;exact aG h
   obtain⟨ρ,st',hl'⟩:=qK (n:=n) (w:=w) (c:=c) (S:=S) (wx:=some (.ref l)) (ok:=fun S=>S[l]?=some (.lst us)) hok us [] 0 none ⟨by simp[aI],fun k hk=>(by cases hk),⟨by simp,by simp⟩⟩ (by omega) g
   refine⟨hd c S.length (gC st') (eY S.length 1 st' 0) (eY S.length 2 st' 0) (eY S.length 3 st' 0) (eY S.length 0 st' 0)++pE st',?_⟩
   show _=some (U.bl (EF n w S (.ref l)),crs c S st')
   have hci:=xo (S:=S) hns
   have h0:=hok []
   rw[wR h hl]
   cases hg:md n w [] us with
   |true=>
    rw[hg]at hl'
    rwa[iF,ty,sl,h,d1,hci,lJ,iTp,h0,hl',if_true]
   |false=>
    rw[hg]at hl'
    rwa[iF,ty,sl,h,d1,hci,lJ,iTp,h0,hl',Bool.false_eq_true,if_false]
  ·have d1:decide ((2000:Int)<(us.length:Int))=true:=decide_eq_true (by omega)
   refine⟨[],?_⟩
   rw[Ac h hl,List.append_nil]
   rwa[iF,ty,sl,h,d1]
 ·have e1:=Hg (i:=1) (S:=S) (u:=u) (ρ:=[some (.tup [.int n,.int w]),some u,none,none]) rfl g h
  refine⟨[],?_⟩
  rw[GX h,List.append_nil]
  rwa[iF,e1]
end
end OQ
namespace OL
open PySem PySem.Spec PyProof.Rows L2 OG OP OQ
def hd3(Z:Sto)(L T:List U)(K:List Int)(G:Sto):Sto:=Z++(.lst L::.lst T::.lst (K.map U.int)::G)
section
variable{Z G G' X:Sto}{L T vs:List U}{K:List Int}{q j:Nat}{u:U}{ce:CE}{ρ:Rho}{o:O}
theorem h3a:(hd3 Z L T K G)[Z.length]?=some (.lst L):=by unfold hd3;rw[ga0];rfl
theorem h3b:(hd3 Z L T K G)[Z.length+1]?=some (.lst T):=by unfold hd3;rw[ga];rfl
theorem h3c:(hd3 Z L T K G)[Z.length+2]?=some (.lst (K.map U.int)):=by unfold hd3;rw[ga];rfl
theorem h3g:(hd3 Z L T K G)[Z.length+(3+q)]?=G[q]?:=by unfold hd3;rw[ga,Nat.add_comm 3 q];rfl
theorem h3z(h:Z[j]?=some o):(hd3 Z L T K G)[j]?=some o:=aG h
theorem h3l:(hd3 Z L T K G).length=Z.length+(3+G.length):=by unfold hd3;rw[List.length_append,Nat.add_comm 3];rfl
theorem h3x:hd3 Z L T K G++X=hd3 Z L T K (G++X):=by unfold hd3;rw[List.append_assoc];rfl
theorem t3a{L':List U}:(hd3 Z L T K G).set Z.length (.lst L')=hd3 Z L' T K G:=by unfold hd3;rw[gs0];rfl
theorem t3b{T':List U}:(hd3 Z L T K G).set (Z.length+1) (.lst T')=hd3 Z L T' K G:=by unfold hd3;rw[gs];rfl
theorem t3c{k:Int}:(hd3 Z L T K G).set (Z.length+2) (.lst (K.map U.int++[.int k]))=hd3 Z L T (K++[k]) G:=by unfold hd3;rw[gs,List.map_append];rfl
theorem NT{i:Nat}(hv:ρ[i]?=some (some (.ref Z.length)))(h:ce ρ (hd3 Z L T K G)=some (.ref (Z.length+(3+q)),hd3 Z L T K G'))(hq:G'[q]?=some (.lst vs))(hl:L.length+vs.length<=5000):dB (cBM fq (ah i) (ae ce aE)) ρ (hd3 Z L T K G)=some (.nx,ρ,hd3 Z (L++vs) T K G'):=by
 have v:ah i ρ (hd3 Z L T K G)=some (.ref Z.length,hd3 Z L T K G):=by unfold ah;rw[hv]
 have e:fq (.ref Z.length) [.ref (Z.length+(3+q))] (hd3 Z L T K G')=some (.non,hd3 Z (L++vs) T K G'):=by
  have hz:L.length+vs.length<=LIM:=by unfold LIM;omega
  have g:(hd3 Z L T K G')[Z.length+(3+q)]?=some (.lst vs):=by rw[h3g];exact hq
  simp only[fq,h3a,g]
  rw[if_pos hz,t3a]
 rw[qg,HM,v,Option.bind_some,xN,h3a,xM,gM,h,Option.bind_some,fF,qU,Option.bind_some,iI,Option.bind_some,xK,e]
 rfl
theorem NW{i:Nat}(hv:ρ[i]?=some (some (.ref Z.length)))(h:ce ρ (hd3 Z L T K G)=some (u,hd3 Z L T K G'))(hl:L.length<=5000):dB (cBM bY (ah i) (ae ce aE)) ρ (hd3 Z L T K G)=some (.nx,ρ,hd3 Z (L++[u]) T K G'):=by
 have v:ah i ρ (hd3 Z L T K G)=some (.ref Z.length,hd3 Z L T K G):=by unfold ah;rw[hv]
 have hz:L.length<LIM:=by unfold LIM;omega
 rw[qg,HM,v,Option.bind_some,xN,h3a,xM,gM,h,Option.bind_some,fF,qU,Option.bind_some,iI,Option.bind_some,xK,BS,h3a,jj hz,t3a]
 rfl
theorem Nd{i:Nat}(hv:ρ[i]?=some (some (.ref (Z.length+1))))(h:ce ρ (hd3 Z L T K G)=some (u,hd3 Z L T K G'))(hl:T.length<=5000):dB (cBM bY (ah i) (ae ce aE)) ρ (hd3 Z L T K G)=some (.nx,ρ,hd3 Z L (T++[u]) K G'):=by
 have v:ah i ρ (hd3 Z L T K G)=some (.ref (Z.length+1),hd3 Z L T K G):=by unfold ah;rw[hv]
 have hz:T.length<LIM:=by unfold LIM;omega
 rw[qg,HM,v,Option.bind_some,xN,h3b,xM,gM,h,Option.bind_some,fF,qU,Option.bind_some,iI,Option.bind_some,xK,BS,h3b,jj hz,t3b]
 rfl
theorem Nb{i:Nat}{k:Int}(hv:ρ[i]?=some (some (.ref (Z.length+2))))(h:ce ρ (hd3 Z L T K G)=some (.int k,hd3 Z L T K G'))(hl:K.length<=5000):dB (cBM bY (ah i) (ae ce aE)) ρ (hd3 Z L T K G)=some (.nx,ρ,hd3 Z L T (K++[k]) G'):=by
 have v:ah i ρ (hd3 Z L T K G)=some (.ref (Z.length+2),hd3 Z L T K G):=by unfold ah;rw[hv]
 have hz:(K.map U.int).length<LIM:=by unfold LIM;rw[List.length_map];omega
 rw[qg,HM,v,Option.bind_some,xN,h3c,xM,gM,h,Option.bind_some,fF,qU,Option.bind_some,iI,Option.bind_some,xK,BS,h3c,jj hz,t3c]
 rfl
theorem M8{α:Type}{i k:Nat}{cap:List Nat}{gg:CG}{f v:α->U}{xs:List α}{ρ0:Rho}{Rel:Rho->Prop}(hv:ρ[i]?=some (some (.ref (Z.length+(3+q)))))(hq:G[q]?=some (.lst (xs.map f)))(hc:sN k cap ρ=ρ0)(h0:Rel ρ0)(hl:xs.length<=5000)
  (hb:∀x∈xs,∀S ρ,Rel ρ->∃ρ1,Rel ρ1/\gg (f x) ρ S=some (ρ1,S)/\ce ρ1 S=some (v x,S)):iK (iTp (ah i)) gg ce k cap ρ (hd3 Z L T K G)=some (.ref (Z.length+(3+G.length)),hd3 Z L T K (G++[.lst (xs.map v)])):=by
 have e0:ah i ρ (hd3 Z L T K G)=some (.ref (Z.length+(3+q)),hd3 Z L T K G):=by unfold ah;rw[hv]
 have g:(hd3 Z L T K G)[Z.length+(3+q)]?=some (.lst (xs.map f)):=by rw[h3g];exact hq
 have h:=lH (S:=hd3 Z L T K G) (ok:=fun Y=>Y[Z.length+(3+q)]?=some (.lst (xs.map f))) (gg:=gg) (ce:=ce) (f:=f) (v:=v) (Rel:=Rel) (fun ys G=>aG g) xs [] [] ρ0 h0 (by rw[List.length_nil];omega) fun x hx ys G' ρ hr=>hb x hx _ ρ hr
 rw[List.nil_append]at h
 unfold iK iTp
 rw[e0,Option.bind_some]
 simp only[g,Option.bind_some,hc,h]
 rw[h3l,h3x]
end
def BG(c:Cl):Fn:=fnU 1 1 (iS (fA c) c)
def vO(c:Cl):Fn:=fnU 2 2 (lI (fA c) c)
def sF(c:Cl):Fn:=fnU 2 2 (jJ (fA c) c)
def vM(c:Cl):Fn:=fnU 2 2 (ft (fA c) c)
abbrev fL(c cD:Cl)(f:Fn->Fn->Fn->Fn->Fn->Fn->Fn->Fn->Fn->Fn->Fn->Fn->Fn->Fn->CS):CS:=f sy sE gy (qe 3) sG (xF cD) (jh cD) (mx c) (BG c) (vO c) (sF c) (vM c) (sI c) (BE cD)
def rh(n w:Int)(x0:U)(ld ln B:Nat)(now:U)(r10 r11 r12 r13 r14 r15:Option U):Rho:=[none,some (.ref 1),some (.tup [.int n,.int w]),some x0,some (.ref ld),some (.ref ln),some (.ref B),some now,some (.ref (B+1)),some (.ref (B+2)),r10,r11,r12,r13,r14,r15]
def nxt(x:List Int)(r:Bool×M):List Int:=if r.1 then beh x r.2.ps 0 else x
section
variable{c cD:Cl}{n w:Int}{Ds:List (List (Dl 2))}{x:List Int}{ld ln:Nat}{x0:U}{r12 r13 r14 r15:Option U}{Z G:Sto}{L T:List U}{K:List Int}{a:Int}
theorem Aa(hx:x.length=n.toNat){b:Int}(b0:0<=b)(b1:b<n):atI (x.map U.int) b=some (.int (x.getD b.toNat 0)):=by
 have hk:b.toNat<x.length:=by omega
 refine pH b0 ?_
 rw[List.getElem?_map,List.getD_eq_getElem?_getD,List.getElem?_eq_getElem hk];rfl
theorem FV(hns:cD.ns.length=4)(n0:1<=n)(n1:n<=6)(w0:2<=w)(hd:∀d∈Ds,OkL n w 2 d){i:Nat}(hi:i<Ds.length)(gd:Z[ld]?=some (.lst (Ds.map dlU)))(hx:x.length=n.toNat)(hL:L.length<=1000)(hT:T.length<=1000)(hK:K.length<=1000){r:Bool×M}(hr:r=pO w x 2 (Ds.getD i []) m0) :
  Wf n r.2/\∃q1 q2 G' r12' r13' r14',(fL c cD pF) (rh n w x0 ld ln Z.length (.tup (x.map U.int)) (some (.int i)) (some (.int a)) r12 r13 r14 r15) (hd3 Z L T K G)
   = some (.nx,rh n w x0 ld ln Z.length (.tup ((nxt x r).map U.int)) (some (.int i)) (some (.int a)) r12' r13' r14' r15,hd3 Z (L++(evA n a x r).map Ev.u) (T++[.tup [.ref (Z.length+(3+q1)),.ref (Z.length+(3+q2)),.str (nc r.1)]]) (if r.1 then K++[(i:Int)]else K) (G++G'))
   /\(G++G')[q1]?=some (.lst ((lkD x r).map pU))/\(G++G')[q2]?=some (.lst ((qz n r).map pU)):=by
 have hid:((i:Nat):Int).toNat=i:=Int.toNat_natCast i
 have od:OkL n w 2 (Ds.getD i []):=by have:=Hz (o:=(i:Int)) hd (by omega) (by omega);rw[hid]at this;exact this
 obtain⟨wf,G1,l1,l2,e1,g1,g2,b1,b2,_⟩:=Hq (cD:=cD) (j:=2) (by omega) (hd3 Z L T K G) hns (Ds.getD i []) od hx n0 n1 w0
 rw[<-hr]at wf g1 g2
 refine⟨wf,?_⟩
 rw[h3l]at b1 b2
 rw[h3x]at e1 g1 g2
 obtain⟨p1,rfl⟩:∃p1,l1=Z.length+(3+p1):=⟨l1-Z.length-3,by omega⟩
 obtain⟨p2,rfl⟩:∃p2,l2=Z.length+(3+p2):=⟨l2-Z.length-3,by omega⟩
 rw[h3g]at g1 g2
 obtain⟨xs,hxs⟩:∃xs,xs=U.tup (x.map U.int):=⟨_,rfl⟩
 obtain⟨B,hB⟩:∃B,B=Z.length:=⟨_,rfl⟩
 have kb:∀b∈ff r.2.lk,0<=b/\b<n:=fun b hb=>wf.lb b ((fG _).mem_iff.mp hb)
 have lk6:=(wf.few (by omega) n1).2
 have lS:(ff r.2.lk).length<=6:=by rw[(fG _).length_eq];exact lk6
 have lP:(qz n r).length<=6:=by
  obtain⟨d,m⟩:=r
  cases d with
  |false=>exact Nat.zero_le _
  |true=>exact zM wf (by omega) n1
 have ea:=KU (Ds:=Ds) (o:=(i:Int)) (by omega) (by omega)
 rw[hid]at ea
 have s1:K3 (cCB (xF cD) (ae (ah 2) (ae (cOp fIx (ah 4) (ah 10)) (ae (ah 7) aE)))) (gTp [12,13]) (rh n w x0 ld ln B xs (some (.int i)) (some (.int a)) r12 r13 r14 r15) (hd3 Z L T K G)=some (.nx,rh n w x0 ld ln B xs (some (.int i)) (some (.int a)) (some (.ref (B+(3+p1)))) (some (.ref (B+(3+p2)))) r14 r15,hd3 Z L T K (G++G1)):=by
  have gz:(hd3 Z L T K G)[ld]?=some (.lst (Ds.map dlU)):=h3z gd
  unfold dlU at ea gz
  rw[<-hxs,<-hB]at e1
  generalize U.tup ((Ds.getD i []).map (Dl.u 2))=du at ea e1
  generalize Ds.map (fun d=>U.tup (d.map (Dl.u 2)))=dus at ea gz
  generalize hd3 Z L T K G=Y0 at gz e1 ⊢
  generalize hd3 Z L T K (G++G1)=Y1 at e1 ⊢
  rwa[rh,gz,ea,e1]
 obtain⟨ρ,hρ⟩:∃ρ:Option U->Rho,ρ=fun r14=>rh n w x0 ld ln B xs (some (.int i)) (some (.int a)) (some (.ref (B+(3+p1)))) (some (.ref (B+(3+p2)))) r14 r15:=⟨_,rfl⟩
 have v6:∀r,(ρ r)[6]?=some (some (.ref Z.length)):=fun r=>by rw[hρ,<-hB];rfl
 have v8:∀r,(ρ r)[8]?=some (some (.ref (Z.length+1))):=fun r=>by rw[hρ,<-hB];rfl
 have v9:∀r,(ρ r)[9]?=some (some (.ref (Z.length+2))):=fun r=>by rw[hρ,<-hB];rfl
 have v12:∀r,(ρ r)[12]?=some (some (.ref (Z.length+(3+p1)))):=fun r=>by rw[hρ,<-hB];rfl
 have v13:∀r,(ρ r)[13]?=some (some (.ref (Z.length+(3+p2)))):=fun r=>by rw[hρ,<-hB];rfl
 have s2:dB (cBM bY (ah 6) (ae (fE (ae (cC (.str "begin")) (ae (ah 11) aE))) aE)) (ρ r14) (hd3 Z L T K (G++G1))=some (.nx,ρ r14,hd3 Z (L++[(Ev.beg a).u]) T K (G++G1)):=NW (v6 _) (by rw[hρ];rfl) (by omega)
 have c3:=M8 (Z:=Z) (G:=G++G1) (L:=L++[(Ev.beg a).u]) (T:=T) (K:=K) (ρ:=ρ r14) (i:=12) (k:=1) (cap:=[11,7]) (gg:=gNm 0) (ce:=fE (ae (cC (.str "look")) (ae (ah 1) (ae (ah 0) (ae (cOp fIx (ah 2) (ah 0)) aE))))) (f:=U.int) (v:=fun b=>(Ev.look a b (x.getD b.toNat 0)).u) (xs:=ff r.2.lk) (ρ0:=[none,some (.int a),some xs]) (Rel:=fun ρ=>∃r0,ρ=[r0,some (.int a),some xs]) (v12 _) g1 (by rw[hρ];rfl) ⟨_,rfl⟩ (by omega) (fun b hb S ρ hρ=>by
  obtain⟨r0,rfl⟩:=hρ
  have:=Aa hx (kb b hb).1 (kb b hb).2
  refine⟨[some (.int b),some (.int a),some xs],⟨_,rfl⟩,rfl,?_⟩
  rw[hxs]
  obtain⟨ys,hys⟩:∃ys,ys=x.map U.int:=⟨_,rfl⟩
  rw[<-hys]at this ⊢
  rwa[Ev.u,this])
 have m3:(ff r.2.lk).map (fun b=>(Ev.look a b (x.getD b.toNat 0)).u)=((lkD x r).map fun p=>Ev.look a p.1 p.2).map Ev.u:=by unfold lkD;rw[List.map_map,List.map_map];rfl
 rw[m3]at c3
 obtain⟨E3,hE3⟩:∃E3,E3=((lkD x r).map fun p=>Ev.look a p.1 p.2).map Ev.u:=⟨_,rfl⟩
 have lE3:E3.length<=6:=by rw[hE3,List.length_map,List.length_map];unfold lkD;rw[List.length_map];exact lS
 rw[<-hE3]at c3
 have s3:=NT (i:=6) (v6 r14) c3 (by rw[ga0];rfl) (by rw[List.length_append,List.length_singleton];omega)
 obtain⟨G3,hG3⟩:∃G3,G3=G++G1++[O.lst E3]:=⟨_,rfl⟩
 rw[<-hG3]at s3
 have g2':G3[p2]?=some (.lst ((qz n r).map pU)):=by rw[hG3];exact aG g2
 have c4:=M8 (Z:=Z) (G:=G3) (L:=L++[(Ev.beg a).u]++E3) (T:=T) (K:=K) (ρ:=ρ r14) (i:=13) (k:=2) (cap:=[11]) (gg:=gTp [0,1]) (ce:=fE (ae (cC (.str "put")) (ae (ah 2) (ae (ah 0) (ae (ah 1) aE))))) (f:=pU) (v:=fun p=>(Ev.put a p.1 p.2).u) (xs:=qz n r) (ρ0:=[none,none,some (.int a)]) (Rel:=fun ρ=>∃r0 r1,ρ=[r0,r1,some (.int a)]) (v13 _) g2' (by rw[hρ];rfl) ⟨_,_,rfl⟩ (by omega) (fun p hp S ρ hρ=>by
  obtain⟨r0,r1,rfl⟩:=hρ
  exact⟨[some (.int p.1),some (.int p.2),some (.int a)],⟨_,_,rfl⟩,rfl,rfl⟩)
 have m4:(qz n r).map (fun p=>(Ev.put a p.1 p.2).u)=((qz n r).map fun p=>Ev.put a p.1 p.2).map Ev.u:=by rw[List.map_map];rfl
 rw[m4]at c4
 obtain⟨E4,hE4⟩:∃E4,E4=((qz n r).map fun p=>Ev.put a p.1 p.2).map Ev.u:=⟨_,rfl⟩
 have lE4:E4.length<=6:=by rw[hE4,List.length_map,List.length_map];exact lP
 rw[<-hE4]at c4
 have s4:=NT (i:=6) (v6 r14) c4 (by rw[ga0];rfl) (by rw[List.length_append,List.length_append,List.length_singleton];omega)
 obtain⟨G4,hG4⟩:∃G4,G4=G3++[O.lst E4]:=⟨_,rfl⟩
 rw[<-hG4]at s4
 obtain⟨L4,hL4⟩:∃L4,L4=L++[(Ev.beg a).u]++E3++E4:=⟨_,rfl⟩
 rw[<-hL4]at s4
 have lL4:L4.length<=1013:=by rw[hL4,List.length_append,List.length_append,List.length_append,List.length_singleton];omega
 obtain⟨_,G5,l5,e5,_⟩:=xx (cD:=cD) (j:=2) (by omega) (hd3 Z L4 T K G4) hns (Ds.getD i []) od hx n0 n1 w0
 rw[<-hr,h3x]at e5
 obtain⟨tu,htu⟩:∃tu,tu=told r x l5:=⟨_,rfl⟩
 rw[<-htu]at e5
 have s5:cP 14 (cCB (jh cD) (ae (ah 2) (ae (cOp fIx (ah 4) (ah 10)) (ae (ah 7) aE)))) (ρ r14) (hd3 Z L4 T K G4)=some (.nx,ρ (some tu),hd3 Z L4 T K (G4++G5)):=by
  have gz:(hd3 Z L4 T K G4)[ld]?=some (.lst (Ds.map dlU)):=h3z gd
  rw[hρ]
  unfold dlU at ea gz
  rw[<-hxs]at e5
  generalize U.tup ((Ds.getD i []).map (Dl.u 2))=du at ea e5
  generalize Ds.map (fun d=>U.tup (d.map (Dl.u 2)))=dus at ea gz
  generalize hd3 Z L4 T K G4=Y0 at gz e5 ⊢
  generalize hd3 Z L4 T K (G4++G5)=Y1 at e5 ⊢
  rwa[rh,gz,ea,e5]
 obtain⟨rest,htu2⟩:∃rest,tu=.tup (.str (if r.1 then "done" else "waits")::rest):=by
  rw[htu]
  obtain⟨d,m⟩:=r
  cases d<;>exact⟨_,rfl⟩
 have v14:∀S,ah 14 (ρ (some tu)) S=some (tu,S):=fun S=>by rw[hρ];rfl
 have eq14:∀S,cOp fEq (cOp fIx (ah 14) (cC (.int 0))) (cC (.str "done")) (ρ (some tu)) S=some (.bl r.1,S):=fun S=>by
  rw[E8,E8,v14,Option.bind_some,yE,x_c,Option.bind_some,yD,htu2]
  obtain⟨d,m⟩:=r
  cases d with
  |true=>rwa[if_true,kC]
  |false=>
   have:decide (("waits":Str)="done")=false:=by decide +kernel
   rwa[Bool.false_eq_true,if_false,this]
 obtain⟨G6,hG6⟩:∃G6,G6=G4++G5++[O.lst [.str "fall",.str "done"]]:=⟨_,rfl⟩
 have e6:fE (ae (cOp fIx (pB (ae (cC (.str "fall")) (ae (cC (.str "done")) aE))) (cCB HU (ae (cOp fEq (cOp fIx (ah 14) (cC (.int 0))) (cC (.str "done"))) aE))) (ae (ah 11) aE)) (ρ (some tu)) (hd3 Z L4 T K (G4++G5))=some ((Ev.fin r.1 a).u,hd3 Z L4 T K G6):=by
  have el:pB (ae (cC (.str "fall")) (ae (cC (.str "done")) aE)) (ρ (some tu)) (hd3 Z L4 T K (G4++G5))=some (.ref (Z.length+(3+(G4++G5).length)),hd3 Z L4 T K G6):=by
   have e0:pB (ae (cC (.str "fall")) (ae (cC (.str "done")) aE)) (ρ (some tu)) (hd3 Z L4 T K (G4++G5))=some (.ref (hd3 Z L4 T K (G4++G5)).length,hd3 Z L4 T K (G4++G5)++[.lst [.str "fall",.str "done"]]):=rfl
   rw[e0,h3l,h3x,hG6]
  have ei:cCB HU (ae (cOp fEq (cOp fIx (ah 14) (cC (.int 0))) (cC (.str "done"))) aE) (ρ (some tu)) (hd3 Z L4 T K G6)=some (.int (if r.1 then 1 else 0),hd3 Z L4 T K G6):=by
   rw[Ld,gM,eq14,Option.bind_some,fF,qU,Option.bind_some,iI,Option.bind_some,BR,Ec]
  have gf:(hd3 Z L4 T K G6)[Z.length+(3+(G4++G5).length)]?=some (.lst [.str "fall",.str "done"]):=by rw[h3g,hG6,ga0];rfl
  have ev:ah 11 (ρ (some tu)) (hd3 Z L4 T K G6)=some (.int a,hd3 Z L4 T K G6):=by rw[hρ];rfl
  have ex:cOp fIx (pB (ae (cC (.str "fall")) (ae (cC (.str "done")) aE))) (cCB HU (ae (cOp fEq (cOp fIx (ah 14) (cC (.int 0))) (cC (.str "done"))) aE)) (ρ (some tu)) (hd3 Z L4 T K (G4++G5))=some (.str (nc r.1),hd3 Z L4 T K G6):=by
   rw[E8,el,Option.bind_some,yE,ei,Option.bind_some,yD,Fi,gf,Fj]
   cases r.1<;>rfl
  rw[E6,gM,ex,Option.bind_some,fF,gM,ev]
  rfl
 have s6:=NW (v6 (some tu)) e6 (by omega)
 obtain⟨L6,hL6⟩:∃L6,L6=L4++[(Ev.fin r.1 a).u]:=⟨_,rfl⟩
 rw[<-hL6]at s6
 have g1':G6[p1]?=some (.lst ((ff r.2.lk).map U.int)):=by rw[hG6,hG4,hG3];exact aG (aG (aG (aG g1)))
 have c7:=M8 (Z:=Z) (G:=G6) (L:=L6) (T:=T) (K:=K) (ρ:=ρ (some tu)) (i:=12) (k:=1) (cap:=[7]) (gg:=gNm 0) (ce:=fE (ae (ah 0) (ae (cOp fIx (ah 1) (ah 0)) aE))) (f:=U.int) (v:=fun b=>pU (b,x.getD b.toNat 0)) (xs:=ff r.2.lk) (ρ0:=[none,some xs]) (Rel:=fun ρ=>∃r0,ρ=[r0,some xs]) (v12 _) g1' (by rw[hρ];rfl) ⟨_,rfl⟩ (by omega) (fun b hb S ρ hρ=>by
  obtain⟨r0,rfl⟩:=hρ
  have:=Aa hx (kb b hb).1 (kb b hb).2
  refine⟨[some (.int b),some xs],⟨_,rfl⟩,rfl,?_⟩
  rw[hxs]
  obtain⟨ys,hys⟩:∃ys,ys=x.map U.int:=⟨_,rfl⟩
  rw[<-hys]at this ⊢
  rwa[pU,this])
 have m7:(ff r.2.lk).map (fun b=>pU (b,x.getD b.toNat 0))=(lkD x r).map pU:=by unfold lkD;rw[List.map_map];rfl
 rw[m7]at c7
 obtain⟨G7,hG7⟩:∃G7,G7=G6++[O.lst ((lkD x r).map pU)]:=⟨_,rfl⟩
 rw[<-hG7]at c7
 have e7:fE (ae (iK (iTp (ah 12)) (gNm 0) (fE (ae (ah 0) (ae (cOp fIx (ah 1) (ah 0)) aE))) 1 [7]) (ae (ah 13) (ae (cOp fIx (cOp fIx (ah 6) (HV (cC (.int 1)))) (cC (.int 0))) aE))) (ρ (some tu)) (hd3 Z L6 T K G6)=some (.tup [.ref (Z.length+(3+G6.length)),.ref (Z.length+(3+p2)),.str (nc r.1)],hd3 Z L6 T K G7):=by
  have e13:ah 13 (ρ (some tu)) (hd3 Z L6 T K G7)=some (.ref (Z.length+(3+p2)),hd3 Z L6 T K G7):=by unfold ah;rw[v13]
  have ev6:ah 6 (ρ (some tu)) (hd3 Z L6 T K G7)=some (.ref Z.length,hd3 Z L6 T K G7):=by unfold ah;rw[v6]
  have el:cOp fIx (cOp fIx (ah 6) (HV (cC (.int 1)))) (cC (.int 0)) (ρ (some tu)) (hd3 Z L6 T K G7)=some (.str (nc r.1),hd3 Z L6 T K G7):=by
   have ga1:(hd3 Z L6 T K G7)[Z.length]?=some (.lst L6):=h3a
   have al:atI L6 (-1)=some (Ev.fin r.1 a).u:=by rw[hL6];exact HH
   rw[E8,E8,ev6,Option.bind_some,yE,LQ,x_c,Option.bind_some,IC,Option.bind_some,yD,Fi,ga1,Fj,al]
   rfl
  rw[E6,gM,c7,Option.bind_some,fF,gM,e13,Option.bind_some,fF,gM,el]
  rfl
 have s7:=Nd (v8 (some tu)) e7 (by omega)
 obtain⟨T7,hT7⟩:∃T7,T7=T++[U.tup [.ref (Z.length+(3+G6.length)),.ref (Z.length+(3+p2)),.str (nc r.1)]]:=⟨_,rfl⟩
 rw[<-hT7]at s7
 have s8:gx (aQ (cOp fEq (cOp fIx (ah 14) (cC (.int 0))) (cC (.str "done")))) (bu (dB (cBM bY (ah 9) (ae (ah 10) aE))) (cP 7 (cOp fIx (ah 14) (cC (.int 1))))) dv (ρ (some tu)) (hd3 Z L6 T7 K G7)=some (.nx,rh n w x0 ld ln B (.tup ((nxt x r).map U.int)) (some (.int i)) (some (.int a)) (some (.ref (B+(3+p1)))) (some (.ref (B+(3+p2)))) (some tu) r15,hd3 Z L6 T7 (if r.1 then K++[(i:Int)]else K) G7):=by
  rw[IK,sT,eq14,Option.bind_some]
  have ap:=Nb (Z:=Z) (L:=L6) (T:=T7) (K:=K) (G:=G7) (G':=G7) (ρ:=ρ (some tu)) (i:=9) (ce:=ah 10) (k:=(i:Int)) (v9 (some tu)) (by rw[hρ];rfl) (by omega)
  obtain⟨d,m⟩:=r
  cases d with
  |true=>
   rw[qT,Option.bind_some,Ee,pR ap,BO,E8,v14,Option.bind_some,yE,x_c,Option.bind_some,yD,htu,hρ]
   rfl
  |false=>
   rw[qT,Option.bind_some,Ed,hρ,hxs]
   rfl
 refine⟨G6.length,p2,G1++([O.lst E3]++([O.lst E4]++(G5++([O.lst [.str "fall",.str "done"]]++[O.lst ((lkD x r).map pU)])))),some (.ref (B+(3+p1))),some (.ref (B+(3+p2))),some tu,?_,?_,?_⟩
 ·have eG:G++(G1++([O.lst E3]++([O.lst E4]++(G5++([O.lst [.str "fall",.str "done"]]++[O.lst ((lkD x r).map pU)])))))=G7:=by rw[hG7,hG6,hG4,hG3];simp only[List.append_assoc]
  have eL:L++(evA n a x r).map Ev.u=L6:=by
   rw[hL6,hL4,hE3,hE4]
   unfold evA
   rw[List.map_cons,List.map_append,List.map_append]
   simp only[List.append_assoc]
   rfl
  rw[eG,eL,<-hT7,<-hxs,<-hB]
  unfold fL pF
  rw[hρ]at s2 s3 s4 s5 s6 s7 s8
  rw[pR s1,pR s2,pR s3,pR s4,pR s5,pR s6,pR s7]
  exact s8
 ·have eG:G++(G1++([O.lst E3]++([O.lst E4]++(G5++([O.lst [.str "fall",.str "done"]]++[O.lst ((lkD x r).map pU)])))))=G7:=by rw[hG7,hG6,hG4,hG3];simp only[List.append_assoc]
  rw[eG,hG7,ga0];rfl
 ·rw[<-List.append_assoc];exact aG g2
end
structure K8(n w:Int)(names:List Int)(st:OQ.St)(T:List U)(B:Nat)(G:Sto)(j:Nat)(a:Int)(t:Att)(d:Bool)(q1 q2:Nat):Prop where
 hv:bw st a=some t
 en:t.en=some d
 bf:t.bf=names.take j
 tu:T[j]?=some (.tup [.ref (B+(3+q1)),.ref (B+(3+q2)),.str (nc d)])
 g1:G[q1]?=some (.lst (t.lk.map pU))
 g2:G[q2]?=some (.lst (t.ps.map pU))
 l1:t.lk.length<=6
 l2:t.ps.length<=6
 rs:(t.ps.map (·.1)).Pairwise (· < ·)
 pb:∀p∈t.ps,(0<=p.1/\p.1<n)/\0<=p.2/\p.2<w
structure Iv(n w:Int)(Ds:List (List (Dl 2)))(x0 names:List Int)(B:Nat)(i:Nat)(x:List Int)(evs:List Ev)(T:List U)(K:List Int)(G:Sto):Prop where
 lo:sS n w [] evs
 ks:aI (dI [] evs)=names.take i
 al:∀p∈dI [] evs,p.2.en.isSome=true
 hx:x.length=n.toNat
 bx:∀z∈x,0<=z/\z<w
 le:evs.length<=14*i
 tl:T.length=i
 kl:K.length<=i
 kb:∀k∈K,0<=k/\k<(Ds.length:Int)
 rw:uT w Ds K 0 x0=.done x
 td:∀(j:Nat) (a:Int),j<i->names[j]?=some a->∃t d q1 q2,K8 n w names (dI [] evs) T B G j a t d q1 q2
section
variable{c cD:Cl}{n w:Int}{Ds:List (List (Dl 2))}{x0 x names:List Int}{B i:Nat}{evs:List Ev}{T:List U}{K:List Int}{G G':Sto}{a:Int}
theorem wq{z:List Int}{o:Int}:∀(os:List Int) (k:Nat) (y:List Int),uT w Ds os k y=.done z->uT w Ds (os++[o]) k y=uT w Ds [o] (k+os.length) z
 |[],k,y,h=>by
  have:y=z:=by injection h
  rw[this];rfl
 |o'::os,k,y,h=>by
  rw[List.cons_append]
  unfold uT at h ⊢
  cases e:pO w y 2 (Ds.getD o'.toNat []) m0 with
  |mk t m=>
   rw[e]at h
   cases t with
   |true=>
    have ih:=wq (o:=o) os (k+1) (beh y m.ps 0) h
    show uT w Ds (os++[o]) (k+1) (beh y m.ps 0)=_
    rw[ih,List.length_cons,Nat.add_assoc,Nat.add_comm 1]
    rfl
   |false=>cases h
theorem AQ(al:∀p∈(s:OQ.St),p.2.en.isSome=true):(s.filter fun p=>p.2.en.isSome).map (·.1)=aI s:=by
 rw[List.filter_eq_self.mpr al];rfl
theorem Iv.step(I:Iv n w Ds x0 names B i x evs T K G)(nd:names.Nodup)(nb:∀a∈names,0<=a/\a<200)(ha:names[i]?=some a)(hi:i<Ds.length)(w0:2<=w)(n0:0<=n)(n1:n<=6)(hd:∀d∈Ds,OkL n w 2 d){r:Bool×M}(hr:r=pO w x 2 (Ds.getD i []) m0)(wf:Wf n r.2){q1 q2:Nat}(g1:(G++G')[q1]?=some (.lst ((lkD x r).map pU)))(g2:(G++G')[q2]?=some (.lst ((qz n r).map pU))) :
  Iv n w Ds x0 names B (i+1) (nxt x r) (evs++evA n a x r) (T++[.tup [.ref (B+(3+q1)),.ref (B+(3+q2)),.str (nc r.1)]]) (if r.1 then K++[(i:Int)]else K) (G++G'):=by
 have il:i<names.length:=(List.getElem?_eq_some_iff.mp ha).1
 have ai:names[i]=a:=(List.getElem?_eq_some_iff.mp ha).2
 have tk:names.take (i+1)=names.take i++[a]:=by rw[List.take_succ,ha];rfl
 have od:OkL n w 2 (Ds.getD i []):=by have:=Hz (o:=(i:Int)) hd (by omega) (by omega);rw[Int.toNat_natCast]at this;exact this
 have bd:Bd w r.2:=by rw[hr];exact zp (by omega) I.bx 2 _ _ od (bd0 (by omega))
 have hn:a∉names.take i:=fun z=>by
  have:=List.nodup_append.mp (show(names.take i++names.drop i).Nodup by rw[List.take_append_drop];exact nd)
  refine this.2.2 a z a ?_ rfl
  rw[<-ai,List.drop_eq_getElem_cons il];exact List.mem_cons_self
 have hk:a∉aI (dI [] evs):=by rw[I.ks];exact hn
 obtain⟨a0,a1⟩:=nb a (List.mem_of_getElem? ha)
 obtain⟨lf,re⟩:=KP (s:=dI [] evs) (n:=n) (w:=w) (x:=x) (r:=r) hk a0 a1 (by omega) wf bd I.bx
 have rn:dI [] (evs++evA n a x r)=dI [] evs++[(a,Lp n (dI [] evs) x r)]:=by rw[rC,re]
 have lk6:=(wf.few n0 n1).2
 have lS:(lkD x r).length<=6:=by unfold lkD;rw[List.length_map,(fG _).length_eq];exact lk6
 have lP:(qz n r).length<=6:=by
  obtain⟨d,m⟩:=r
  cases d with
  |false=>exact Nat.zero_le _
  |true=>exact zM wf n0 n1
 refine⟨(nH _ _ _).mpr ⟨I.lo,lf⟩,?_,fun p hp=>?_,?_,fun z hz=>?_,?_,?_,?_,fun k hk=>?_,?_,fun j b hj hb=>?_⟩
 ·rw[rn,tk,<-I.ks];unfold aI;rw[List.map_append];rfl
 ·rw[rn]at hp
  rcases List.mem_append.mp hp with hp|hp
  ·exact I.al p hp
  ·rw[List.mem_singleton.mp hp];rfl
 ·unfold nxt;split
  ·rw[vJ];exact I.hx
  ·exact I.hx
 ·unfold nxt at hz
  split at hz
  ·exact K4 I.bx (fun p hp=>bd.2 p hp) 0 z hz
  ·exact I.bx z hz
 ·rw[List.length_append]
  have:(evA n a x r).length=1+(lkD x r).length+(qz n r).length+1:=by unfold evA;simp;omega
  have:=I.le
  omega
 ·rw[List.length_append,I.tl];rfl
 ·split
  ·rw[List.length_append,List.length_singleton];have:=I.kl;omega
  ·have:=I.kl;omega
 ·split at hk
  ·rcases List.mem_append.mp hk with hk|hk
   ·exact I.kb k hk
   ·rw[List.mem_singleton.mp hk];omega
  ·exact I.kb k hk
 ·cases hb:r.1 with
  |false=>rw[if_neg (by decide)];unfold nxt;rw[hb,if_neg (by decide)];exact I.rw
  |true=>
   rw[if_pos rfl,wq K 0 x0 I.rw]
   unfold uT
   rw[Int.toNat_natCast,<-hr]
   unfold nxt
   obtain⟨d,m⟩:=r
   have:d=true:=hb
   subst this
   rfl
 ·by_cases e:j=i
  ·subst e
   rw[ha]at hb
   cases hb
   refine⟨Lp n (dI [] evs) x r,r.1,q1,q2,?_,rfl,?_,?_,g1,g2,lS,lP,tQ,fun p hp=>?_⟩
   ·rw[rn];exact nC hk
   ·show((dI [] evs).filter fun p=>p.2.en.isSome).map (·.1)=_
    rw[AQ I.al,I.ks]
   ·rw[List.getElem?_append_right (by rw[I.tl];exact Nat.le_refl _),I.tl,Nat.sub_self];rfl
   ·obtain⟨p0,p1,pm⟩:=wB hp
    exact⟨⟨p0,p1⟩,bd.2 p pm⟩
  ·obtain⟨t,d,p1,p2,h⟩:=I.td j b (by omega) hb
   refine⟨t,d,p1,p2,?_,h.en,h.bf,?_,aG h.g1,aG h.g2,h.l1,h.l2,h.rs,h.pb⟩
   ·rw[rn,kG,h.hv];rfl
   ·rw[List.getElem?_append_left (by rw[I.tl];omega)];exact h.tu
variable{ld ln:Nat}{xu:U}{r15:Option U}{Z:Sto}
theorem wV(hns:cD.ns.length=4)(n0:1<=n)(n1:n<=6)(w0:2<=w)(hd:∀d∈Ds,OkL n w 2 d)(gd:Z[ld]?=some (.lst (Ds.map dlU)))(gn:Z[ln]?=some (.lst (names.map U.int)))(nd:names.Nodup)(nb:∀a∈names,0<=a/\a<200)(nl:names.length=Ds.length)(n5:names.length<=5):∀(as:List Int) (i:Nat) (x:List Int) (evs:List Ev) (T:List U) (K:List Int) (G:Sto) (r10 r11 r12 r13 r14:Option U),names.drop i=as->i<=names.length->Iv n w Ds x0 names Z.length i x evs T K G->
  ∃x' evs' T' K' G' r10' r11' r12' r13' r14',eK (fun S=>S[ln]?=some (.lst (names.map U.int))) (gTp [10,11]) (fL c cD pF) (((as.map U.int).zipIdx i).map fun p=>.tup [.int p.2,p.1]) (rh n w xu ld ln Z.length (.tup (x.map U.int)) r10 r11 r12 r13 r14 r15) (hd3 Z (evs.map Ev.u) T K G)
   = some (.nx,rh n w xu ld ln Z.length (.tup (x'.map U.int)) r10' r11' r12' r13' r14' r15,hd3 Z (evs'.map Ev.u) T' K' G')/\Iv n w Ds x0 names Z.length names.length x' evs' T' K' G'
 |[],i,x,evs,T,K,G,r10,r11,r12,r13,r14,h,hi,I=>by
  have:i=names.length:=by
   have:=congrArg List.length h
   rw[List.length_drop,List.length_nil]at this
   omega
  subst this
  exact⟨x,evs,T,K,G,r10,r11,r12,r13,r14,fU (h3z gn),I⟩
 |a::as,i,x,evs,T,K,G,r10,r11,r12,r13,r14,h,hi,I=>by
  have il:i<names.length:=by
   have:=congrArg List.length h
   rw[List.length_drop,List.length_cons]at this
   omega
  have ha:names[i]?=some a:=by
   have:(names.drop i)[0]?=some a:=by rw[h];rfl
   rw[List.getElem?_drop]at this
   exact this
  have h':names.drop (i+1)=as:=by rw[<-List.drop_drop,h];rfl
  obtain⟨wf,q1,q2,G1,p12,p13,p14,e,g1,g2⟩:=FV (c:=c) (cD:=cD) (Z:=Z) (G:=G) (L:=evs.map Ev.u) (T:=T) (K:=K) (a:=a) (x:=x) (x0:=xu) (ln:=ln) (r12:=r12) (r13:=r13) (r14:=r14) (r15:=r15) hns n0 n1 w0 hd (i:=i) (by omega) gd I.hx (by rw[List.length_map];have:=I.le;omega) (by rw[I.tl];omega) (by have:=I.kl;omega) rfl
  have I':=I.step nd nb ha (by omega) w0 (by omega) n1 hd rfl wf g1 g2
  obtain⟨x',evs',T',K',G',s10,s11,s12,s13,s14,ih,I2⟩:=wV hns n0 n1 w0 hd gd gn nd nb nl n5 as (i+1) _ _ _ _ _ (some (.int i)) (some (.int a)) p12 p13 p14 h' (by omega) I'
  refine⟨x',evs',T',K',G',s10,s11,s12,s13,s14,?_,I2⟩
  rw[List.map_cons,List.zipIdx_cons,List.map_cons]
  rw[List.map_append]at ih
  exact(dn (h3z gn) rfl e).trans ih
end
section
variable{c:Cl}{n w:Int}{S:Sto}{evs:List Ev}{a:Int}{t:Att}{N l:Nat}
theorem cB2{st:OQ.St}{j:Nat}{o:O}(hj:j<4)(h:bw st a=some t)(hk:(aI st).Nodup)(ho:(blk t)[j]?=some o):∃k,bw (eY S.length j st 0) (.inl a)=some (.ref (S.length+k))/\(crs c S st)[S.length+k]?=some o:=by
 obtain⟨s1,s2,rfl⟩:=dz h
 exact⟨_,gH hk,by rw[jF hj];exact ho⟩
theorem C5(hns:c.ns.length=5)(hl:S[l]?=some (.lst (evs.map Ev.u)))(lg:yy n w N evs)(he:evs.length<=900)(hv:bw (dI [] evs) a=some t) :
  ∃G k,vM c [.ref l,.int a] S=some (.ref (S.length+k),S++G)/\G[k]?=some (.lst (t.lk.map pU)):=by
 unfold vM
 rw[sf]
 have h1:=jG (c:=c) (N:=N) hns hl lg.lo he
 obtain⟨k,v1,g1⟩:=cB2 (c:=c) (S:=S) (j:=1) (by omega) hv lg.kd rfl
 obtain⟨C,hC⟩:∃C,crs c S (dI [] evs)=S++C:=⟨_,rfl⟩
 have f2:(crs c S (dI [] evs))[S.length+2]?=some (.dic (eY S.length 1 (dI [] evs) 0)):=hd2
 have F1:m8 c 1 (.ref S.length,crs c S (dI [] evs))=some (.ref (S.length+2),crs c S (dI [] evs)):=ef hd0 rfl
 refine⟨C,k,?_,?_⟩
 ·rw[<-hC]
  rwa[ft,h1,F1,f2,v1]
 ·rw[hC,ga]at g1;exact g1
theorem zq{ps:List (Int×Int)}(h:(ps.map (·.1)).Pairwise (· < ·)):i9 ps=ps:=by
 refine nF ((List.pairwise_map.mp h).imp fun{p q} h=>?_) fun _=>Iff.rfl
 simp[ltP];omega
theorem zE(hns:c.ns.length=5)(hl:S[l]?=some (.lst (evs.map Ev.u)))(lg:yy n w N evs)(he:evs.length<=900)(hv:bw (dI [] evs) a=some t)(rs:(t.ps.map (·.1)).Pairwise (· < ·))(l6:t.ps.length<=6) :
  ∃G k,sF c [.ref l,.int a] S=some (.ref (S.length+k),S++G)/\G[k]?=some (.lst (t.ps.map pU)):=by
 unfold sF
 rw[AX]
 have h1:=jG (c:=c) (N:=N) hns hl lg.lo (by omega)
 obtain⟨k,v3,g3⟩:=cB2 (c:=c) (S:=S) (j:=3) (by omega) hv lg.kd rfl
 obtain⟨C,hC⟩:∃C,crs c S (dI [] evs)=S++C:=⟨_,rfl⟩
 have f4:(crs c S (dI [] evs))[S.length+4]?=some (.dic (eY S.length 3 (dI [] evs) 0)):=hd4
 have F3:m8 c 3 (.ref S.length,crs c S (dI [] evs))=some (.ref (S.length+4),crs c S (dI [] evs)):=ef hd0 rfl
 have nd:t.ps.Nodup:=(List.pairwise_map.mp rs).imp fun h e=>by rw[e]at h;omega
 have hi:cOp fIx (gD c 3 (cCB (fA c) (ae (ah 0) aE))) (ah 1) [some (.ref l),some (.int a)] S=some (.ref (S.length+k),crs c S (dI [] evs)):=by
  rwa[h1,F3,f4,v3]
 have hs:nJ (cOp fIx (gD c 3 (cCB (fA c) (ae (ah 0) aE))) (ah 1)) [some (.ref l),some (.int a)] S=some (.ref (crs c S (dI [] evs)).length,crs c S (dI [] evs)++[.lst (t.ps.map pP)]):=by
  unfold nJ
  rw[hi,Option.bind_some]
  simp only[g3]
  have ep:oN (p7 t.ps)=some t.ps:=qE t.ps
  rw[ep,Option.bind_some,if_pos ⟨nd,by omega⟩,zq rs]
 refine⟨C++[.lst (t.ps.map pU)],C.length,?_,by rw[ga0];rfl⟩
 rw[<-List.append_assoc,<-hC]
 have:(crs c S (dI [] evs)).length=S.length+C.length:=by rw[hC,List.length_append]
 rw[this]at hs
 rwa[jJ,hs]
 rfl
theorem DI(hns:c.ns.length=5)(hl:S[l]?=some (.lst (evs.map Ev.u)))(lg:yy n w N evs)(he:evs.length<=900)(hv:bw (dI [] evs) a=some t) :
  ∃G,vO c [.ref l,.int a] S=some (.str (enS t.en),S++G):=by
 unfold vO
 rw[DN]
 have h1:=jG (c:=c) (N:=N) hns hl lg.lo (by omega)
 obtain⟨C,hC⟩:∃C,crs c S (dI [] evs)=S++C:=⟨_,rfl⟩
 have f1:(crs c S (dI [] evs))[S.length+1]?=some (.dic (gC (dI [] evs))):=hd1
 have F0:m8 c 0 (.ref S.length,crs c S (dI [] evs))=some (.ref (S.length+1),crs c S (dI [] evs)):=ef hd0 rfl
 have v0:bw (gC (dI [] evs)) (.inl a)=some (.str (enS t.en)):=by
  obtain⟨s1,s2,e⟩:=dz hv
  have hk:=lg.kd
  rw[e]at hk ⊢
  exact kE hk
 refine⟨C,?_⟩
 rw[<-hC]
 rwa[lI,h1,F0,f1,v0]
theorem K6(hns:c.ns.length=5)(hl:S[l]?=some (.lst (evs.map Ev.u)))(lg:yy n w N evs)(he:evs.length<=900)(hN:N<64) :
  ∃G k,BG c [.ref l] S=some (.ref (S.length+k),S++G)/\G[k]?=some (.lst ((ff (aI (dI [] evs))).map U.int)):=by
 unfold BG
 rw[yq]
 have h1:=jG (c:=c) (N:=N) hns hl lg.lo (by omega)
 obtain⟨C,hC⟩:∃C,crs c S (dI [] evs)=S++C:=⟨_,rfl⟩
 have f1:(crs c S (dI [] evs))[S.length+1]?=some (.dic (gC (dI [] evs))):=hd1
 have F0:m8 c 0 (.ref S.length,crs c S (dI [] evs))=some (.ref (S.length+1),crs c S (dI [] evs)):=ef hd0 rfl
 have ln:(aI (dI [] evs)).length<64:=by unfold aI;rw[List.length_map];exact Nat.lt_of_le_of_lt lg.cnt hN
 have hs:eM [.ref (S.length+1)] (crs c S (dI [] evs))=some (.ref (crs c S (dI [] evs)).length,crs c S (dI [] evs)++[.lst ((ff (aI (dI [] evs))).map U.int)]):=by
  simp only[eM,f1,qH,Option.bind_some]
  rw[if_pos ln]
 refine⟨C++[.lst ((ff (aI (dI [] evs))).map U.int)],C.length,?_,by rw[ga0];rfl⟩
 rw[<-List.append_assoc,<-hC]
 have:(crs c S (dI [] evs)).length=S.length+C.length:=by rw[hC,List.length_append]
 rw[this]at hs
 rwa[iS,h1,F0,hs]
theorem Oo:StI [] 0:=⟨by simp[aI],fun k hk=>by simp[aI]at hk,⟨by simp,by simp⟩⟩
theorem Hh{S:Sto}{l l':Nat}{ns:List Int}(h:S[l]?=some (.lst (ns.map U.int)))(h':S[l']?=some (.lst (ns.map U.int))):uL true (.ref l) (.ref l') S=some (.bl false,S):=
 iW.ne (k:=1) (iW.lst h h' (iV.all fun u hu=>by obtain⟨i,_,rfl⟩:=List.mem_map.mp hu;exact Lay.int)) (by omega)
theorem Kh{k:Nat}{S:Sto}(p:Int×Int):Lay (k+1) S (pU p):=.tup fun u hu=>by
 simp only[List.mem_cons,List.not_mem_nil,or_false]at hu
 rcases hu with rfl|rfl
 ·exact Lay.int
 ·exact Lay.int
theorem uS{S:Sto}{l l':Nat}{ps:List (Int×Int)}(h:S[l]?=some (.lst (ps.map pU)))(h':S[l']?=some (.lst (ps.map pU))):iW 2 S (.ref l) (.ref l'):=iW.lst h h' (iV.all fun u hu=>by obtain⟨p,_,rfl⟩:=List.mem_map.mp hu;exact Kh p)
end
end OL
namespace OQ
open PySem PySem.Spec PyProof.Rows L2 OG OP
section
variable{n w:Int}{S:Sto}{u:U}{c:Cl}
theorem Hu{st:St}{e:Ev}(kb:∀k∈aI st,0<=k/\k<((200:Nat):Int))(ok:xH n w st e):xh n w e.u=true/\EvB n w e:=by
 have kk:∀{a:Int} {t:Att},bw st a=some t->0<=a/\a<200:=fun{a t} h=>by
  have hm:a∈aI st:=by
   apply Classical.byContradiction
   intro z
   rw[fe.mpr z]at h;cases h
  have:=kb a hm
  exact⟨this.1,by omega⟩
 have wA:∀s∈wsA,inW wsA (.str s)=true:=fun s hs=>List.any_eq_true.mpr ⟨s,hs,decide_eq_true rfl⟩
 cases e with
 |beg a=>
  obtain⟨a0,a1,_⟩:=ok
  refine⟨?_,a0,a1⟩
  show(eW 0 199 (.int a)&&(if inW wsA (.str "begin")then true else _))=true
  rw[iE a0 (by omega),if_pos (by decide +kernel)];rfl
 |fin d a=>
  obtain⟨t,hv,_⟩:=ok
  obtain⟨a0,a1⟩:=kk hv
  refine⟨?_,a0,a1⟩
  show(eW 0 199 (.int a)&&(if inW wsA (.str (nc d))then true else _))=true
  rw[iE a0 (by omega),if_pos (by cases d<;>decide +kernel)];rfl
 |look a b x=>
  obtain⟨⟨b0,b1,x0,x1⟩,t,hv,_⟩:=ok
  obtain⟨a0,a1⟩:=kk hv
  refine⟨?_,⟨a0,a1⟩,b0,b1,x0,x1⟩
  show(eW 0 199 (.int a)&&(if inW wsA (.str "look")then _ else inW wsB (.str "look")&&(eW 0 (n-1) (.int b)&&eW 0 (w-1) (.int x))))=true
  rw[iE a0 (by omega),if_neg (by decide +kernel),iE b0 (by omega),iE x0 (by omega)]
  decide +kernel
 |put a b x=>
  obtain⟨⟨b0,b1,x0,x1⟩,t,hv,_⟩:=ok
  obtain⟨a0,a1⟩:=kk hv
  refine⟨?_,⟨a0,a1⟩,b0,b1,x0,x1⟩
  show(eW 0 199 (.int a)&&(if inW wsA (.str "put")then _ else inW wsB (.str "put")&&(eW 0 (n-1) (.int b)&&eW 0 (w-1) (.int x))))=true
  rw[iE a0 (by omega),if_neg (by decide +kernel),iE b0 (by omega),iE x0 (by omega)]
  decide +kernel
def dec:U->Option Ev
 |.tup [.str s,.int a]=>if s=Str.ofString "begin" then some (.beg a)else if s=Str.ofString "done" then some (.fin true a)else some (.fin false a)
 |.tup [.str s,.int a,.int b,.int x]=>if s=Str.ofString "look" then some (.look a b x)else some (.put a b x)
 |_=>none
theorem KZ(e:Ev):dec e.u=some e:=by
 cases e with
 |beg a=>unfold Ev.u dec;exact if_pos rfl
 |look a b x=>unfold Ev.u dec;exact if_pos rfl
 |put a b x=>unfold Ev.u dec;exact if_neg (of_decide_eq_false jP)
 |fin d a=>
  cases d with
  |true=>unfold Ev.u dec;exact(if_neg (of_decide_eq_false ie)).trans (if_pos rfl)
  |false=>unfold Ev.u dec;exact(if_neg (of_decide_eq_false ic)).trans (if_neg (of_decide_eq_false (by decide +kernel)))
theorem Mr{e e':Ev}(h:e.u=e'.u):e=e':=by
 have:=congrArg dec h
 rw[KZ,KZ]at this
 injection this
theorem xg:∀(es:List Ev) (st:St) (m:Nat),StI st m->sS n w st es->md n w st (es.map Ev.u)=true
 |[],_,_,_,_=>rfl
 |e::es,st,m,hi,lf=>by
  obtain⟨ok,lf'⟩:=lf
  obtain⟨ht,eb⟩:=Hu hi.kb ok
  obtain⟨e',hn,hu,_⟩:=zZ ht
  have ee:=Mr hu
  subst ee
  rw[List.map_cons]
  simp only[md,hn]
  rw[va ok,Bool.true_and]
  exact xg es (stp st e) (m+1) (hi.stp eb ok) lf'
theorem KH(e:Ev)(S:Sto):GdE S e.u:=by
 have fs:∀{s:Str} {r:List U},PyData.strOk s=true->(∀v∈r,∃i:Int,v=.int i)->GdE S (.tup (.str s::r)):=fun{s r} hs hr=>⟨.tup fun v hv=>by
   rcases List.mem_cons.mp hv with rfl|hv
   ·exact .str _
   ·obtain⟨i,rfl⟩:=hr v hv;exact .int i,fun x y r' z=>by
   injection z with z
   injection z with z _
   rw[<-z];exact .str s hs⟩
 cases e with
 |beg a=>exact fs (by decide +kernel) fun v hv=>⟨a,List.mem_singleton.mp hv⟩
 |look a b x=>
  exact fs (by decide +kernel) fun v hv=>by
   simp only[List.mem_cons,List.not_mem_nil,or_false]at hv
   rcases hv with rfl|rfl|rfl<;>exact⟨_,rfl⟩
 |put a b x=>
  exact fs (by decide +kernel) fun v hv=>by
   simp only[List.mem_cons,List.not_mem_nil,or_false]at hv
   rcases hv with rfl|rfl|rfl<;>exact⟨_,rfl⟩
 |fin d a=>exact fs (by cases d<;>decide +kernel) fun v hv=>⟨a,List.mem_singleton.mp hv⟩
end
end OQ
namespace OL
open PySem PySem.Spec PyProof.Rows L2 OG OP OQ
def sP:List Int->List (Int×Int)
 |[]=>[]
 |a::as=>(as.map fun b=>(a,b))++sP as
theorem rM{b a:Int}:∀names:List Int,(b,a)∈sP names↔∃l1 l2,names=l1++a::l2/\b∈l1
 |[]=>by simp[sP]
 |c::as=>by
  have ih:=rM (b:=b) (a:=a) as
  unfold sP
  rw[List.mem_append,ih]
  constructor
  ·rintro(h|⟨l1,l2,h,hb⟩)
   ·obtain⟨y,hy,e⟩:=List.mem_map.mp h
    obtain⟨rfl,rfl⟩:=Prod.mk.inj e
    obtain⟨m1,m2,rfl⟩:=List.append_of_mem hy
    exact⟨c::m1,m2,rfl,List.mem_cons_self⟩
   ·exact⟨c::l1,l2,by rw[h];rfl,List.mem_cons_of_mem _ hb⟩
  ·rintro⟨l1,l2,h,hb⟩
   cases l1 with
   |nil=>cases hb
   |cons d l1=>
    rw[List.cons_append]at h
    obtain⟨rfl,rfl⟩:=List.cons.inj h
    rcases List.mem_cons.mp hb with rfl|hb
    ·exact .inl (List.mem_map.mpr ⟨a,by simp,rfl⟩)
    ·exact .inr ⟨l1,l2,rfl,hb⟩
theorem zH:∀names:List Int,names.Nodup->(sP names).Nodup
 |[],_=>List.nodup_nil
 |c::as,h=>by
  obtain⟨h1,h2⟩:=List.nodup_cons.mp h
  refine List.nodup_append.mpr ⟨List.pairwise_map.mpr (h2.imp fun h z=>h (Prod.mk.inj z).2),zH as h2,fun p hp q hq z=>?_⟩
  subst z
  obtain⟨y,hy,rfl⟩:=List.mem_map.mp hp
  obtain⟨l1,l2,e,hb⟩:=(rM as).mp hq
  exact h1 (by rw[e];exact List.mem_append_left _ hb)
theorem wC:∀names:List Int,names.length<=5->(sP names).length<=5*names.length
 |[],_=>Nat.zero_le _
 |c::as,h=>by
  rw[List.length_cons]at h ⊢
  have:=wC as (by omega)
  unfold sP
  rw[List.length_append,List.length_map]
  omega
theorem DU{us:List U}{i:Nat}(h:i<=us.length):EW us (some (i:Int)) none=us.drop i:=by
 have h0:HT.sIx us.length us.length none=us.length:=rfl
 have h1:HT.sIx us.length 0 (some (i:Int))=i:=by
  unfold HT.sIx
  simp only
  split<;>omega
 unfold EW
 rw[h0,h1,List.take_of_length_le (by rw[List.length_drop];omega)]
section
variable{c cD:Cl}{n w:Int}{Ds:List (List (Dl 2))}{x0 x names:List Int}{evs:List Ev}{T:List U}{K:List Int}{G:Sto}{ld ln:Nat}{xu nu:U}{r10 r11 r12 r13 r14 r15:Option U}{Z:Sto}
theorem Iv.lg(I:Iv n w Ds x0 names Z.length names.length x evs T K G)(nd:names.Nodup)(n5:names.length<=5):yy n w 5 evs:=by
 have ks:=I.ks
 rw[List.take_length]at ks
 have fw:=AF evs [] 0 I.lo (by simp[aI]) ⟨by simp,by simp⟩
 refine⟨I.lo,by rw[ks];exact nd,?_,fun a t hv=>?_⟩
 ·have:=congrArg List.length ks
  unfold aI at this
  rw[List.length_map]at this
  omega
 ·have ha:a∈names:=by rw[<-ks];exact FU hv
  obtain⟨j,hj,e⟩:=List.getElem_of_mem ha
  obtain⟨t',d,q1,q2,h⟩:=I.td j a hj (by rw[List.getElem?_eq_getElem hj,e])
  have:=h.hv
  rw[hv]at this
  cases this
  refine⟨?_,h.pb⟩
  have:=(fw.2 _ (kF hv)).2.2
  dsimp only at this
  omega
theorem Iv.prs(I:Iv n w Ds x0 names Z.length names.length x evs T K G):i9 (mX (dI [] evs) (aI (dI [] evs)))=i9 (sP names):=by
 have ks:=I.ks
 rw[List.take_length]at ks
 refine zg fun p=>?_
 obtain⟨b,a⟩:=p
 rw[wN,ks,rM]
 have bf:∀l1 l2,names=l1++a::l2->BK (dI [] evs) a=l1:=fun l1 l2 e=>by
  have hj:names[l1.length]?=some a:=by rw[e,List.getElem?_append_right (Nat.le_refl _),Nat.sub_self];rfl
  obtain⟨t,d,q1,q2,h⟩:=I.td l1.length a (List.getElem?_eq_some_iff.mp hj).1 hj
  unfold BK
  rw[h.hv]
  show t.bf=l1
  rw[h.bf,e,List.take_left]
 constructor
 ·rintro⟨ha,hb⟩
  obtain⟨l1,l2,e⟩:=List.append_of_mem ha
  rw[bf l1 l2 e]at hb
  exact⟨l1,l2,e,hb⟩
 ·rintro⟨l1,l2,e,hb⟩
  exact⟨by rw[e];simp,by rw[bf l1 l2 e];exact hb⟩
theorem xp(hns:c.ns.length=5)(I:Iv n w Ds x0 names Z.length names.length x evs T K G)(nd:names.Nodup)(n5:names.length<=5)(gn:Z[ln]?=some (.lst (names.map U.int))):∀(as:List Int) (i:Nat) (X:Sto) (r10 r11:Option U),names.drop i=as->
  ∃r10' r11' X',eK (fun S=>S[ln]?=some (.lst (names.map U.int))) (gTp [10,11]) (fL c cD mv) (((as.map U.int).zipIdx i).map fun p=>.tup [.int p.2,p.1]) (rh n w xu ld ln Z.length nu r10 r11 r12 r13 r14 r15) (hd3 Z (evs.map Ev.u) T K G++X)=some (.nx,rh n w xu ld ln Z.length nu r10' r11' r12 r13 r14 r15,hd3 Z (evs.map Ev.u) T K G++X')
 |[],i,X,r10,r11,_=>⟨r10,r11,X,fU (aG (h3z gn))⟩
 |a::as,i,X,r10,r11,h=>by
  have ha:names[i]?=some a:=by
   have:(names.drop i)[0]?=some a:=by rw[h];rfl
   rw[List.getElem?_drop]at this
   exact this
  have h':names.drop (i+1)=as:=by rw[<-List.drop_drop,h];rfl
  obtain⟨t,d,q1,q2,t1⟩:=I.td i a (List.getElem?_eq_some_iff.mp ha).1 ha
  have lg:=I.lg nd n5
  have he:evs.length<=900:=by have:=I.le;omega
  obtain⟨Y,hY⟩:∃Y,Y=hd3 Z (evs.map Ev.u) T K G++X:=⟨_,rfl⟩
  have gl:Y[Z.length]?=some (.lst (evs.map Ev.u)):=by rw[hY];exact aG h3a
  obtain⟨G1,k1,e1,g1⟩:=C5 (c:=c) (S:=Y) hns gl lg he t1.hv
  obtain⟨Y1,hY1⟩:∃Y1,Y1=Y++G1:=⟨_,rfl⟩
  obtain⟨G2,k2,e2,g2⟩:=zE (c:=c) (S:=Y1) hns (by rw[hY1];exact aG gl) lg he t1.hv t1.rs t1.l2
  obtain⟨Y2,hY2⟩:∃Y2,Y2=Y1++G2:=⟨_,rfl⟩
  obtain⟨G3,e3⟩:=DI (c:=c) (S:=Y2) hns (by rw[hY2,hY1];exact aG (aG gl)) lg he t1.hv
  obtain⟨Y3,hY3⟩:∃Y3,Y3=Y2++G3:=⟨_,rfl⟩
  have o1:Y3[Y.length+k1]?=some (.lst (t.lk.map pU)):=by rw[hY3,hY2,hY1];exact aG (aG (by rw[ga];exact g1))
  have o2:Y3[Y1.length+k2]?=some (.lst (t.ps.map pU)):=by rw[hY3,hY2];exact aG (by rw[ga];exact g2)
  have up:∀{j:Nat} {o:O},(hd3 Z (evs.map Ev.u) T K G)[j]?=some o->Y3[j]?=some o:=fun h=>by rw[hY3,hY2,hY1,hY];exact aG (aG (aG (aG h)))
  have o3:Y3[Z.length+(3+q1)]?=some (.lst (t.lk.map pU)):=up (by rw[h3g];exact t1.g1)
  have o4:Y3[Z.length+(3+q2)]?=some (.lst (t.ps.map pU)):=up (by rw[h3g];exact t1.g2)
  have o5:Y3[Z.length+1]?=some (.lst T):=up h3b
  have es:enS t.en=nc d:=by rw[t1.en];rfl
  rw[es]at e3
  have sk:PyData.strOk (nc d)=true:=by cases d<;>decide +kernel
  have ne:=iW.ne (k:=3) (iW.tup (.cons (uS o1 o3) (.cons (uS o2 o4) (.cons (.refl (.str sk)) .nil)))) (by omega)
  have ai:atI T (i:Int)=some (.tup [.ref (Z.length+(3+q1)),.ref (Z.length+(3+q2)),.str (nc d)]):=iM t1.tu
  rw[<-hY1]at e1
  rw[<-hY2]at e2
  rw[<-hY3]at e3
  obtain⟨X',hX'⟩:∃X',Y3=hd3 Z (evs.map Ev.u) T K G++X':=⟨X++(G1++(G2++G3)),by rw[hY3,hY2,hY1,hY];simp only[List.append_assoc]⟩
  obtain⟨r10',r11',X2,ih⟩:=xp hns I nd n5 gn as (i+1) X' (some (.int i)) (some (.int a)) h'
  refine⟨r10',r11',X2,?_⟩
  rw[List.map_cons,List.zipIdx_cons,List.map_cons,<-hY]
  refine(dn (by rw[hY];exact aG (h3z gn)) rfl ?_).trans (by rw[<-hX']at ih;exact ih)
  show fL c cD mv (rh n w xu ld ln Z.length nu (some (.int i)) (some (.int a)) r12 r13 r14 r15) Y=_
  obtain⟨B,hB⟩:∃B,B=Z.length:=⟨_,rfl⟩
  rw[<-hB]at e1 e2 e3 o5 ne ai ⊢
  rwa[fL,mv,rh,e1,e2,e3,o5,ai,ne]
theorem Gu{Y G':Sto}{ps:List (Int×Int)}{a:Int}{as:List Int}{i:Nat}(gn:Y[ln]?=some (.lst (names.map U.int)))(hd:names.drop (i+1)=as)(hi:i<names.length)(hl:ps.length+as.length<=1000)(nl:names.length<=100) :
  ∃X,(fL c cD mr) (rh n w xu ld ln Z.length nu (some (.int i)) (some (.int a)) r12 r13 r14 (some (.ref Y.length))) (Y++(.lst (ps.map pP)::G'))=some (.nx,rh n w xu ld ln Z.length nu (some (.int i)) (some (.int a)) r12 r13 r14 (some (.ref Y.length)),Y++(.lst ((ps++as.map fun b=>(a,b)).map pP)::(G'++X))):=by
 obtain⟨W,hW⟩:∃W,W=Y++(O.lst (ps.map pP)::G'):=⟨_,rfl⟩
 obtain⟨ρ,hρ⟩:∃ρ:Rho,ρ=rh n w xu ld ln Z.length nu (some (.int i)) (some (.int a)) r12 r13 r14 (some (.ref Y.length)):=⟨_,rfl⟩
 have gl:W[ln]?=some (.lst (names.map U.int)):=by rw[hW];exact aG gn
 have esl:cSl (ah 5) (some (cOp iO (ah 10) (cC (.int 1)))) none ρ W=some (.ref W.length,W++[.lst (as.map U.int)]):=by
  have v5:ah 5 ρ W=some (.ref ln,W):=by rw[hρ];rfl
  have v10:cOp iO (ah 10) (cC (.int 1)) ρ W=some (.int ((i+1:Nat):Int),W):=by rw[hρ];rfl
  have p0:vH none ρ W=some (none,W):=rfl
  have ed:(names.map U.int).drop (i+1)=as.map U.int:=by rw[<-List.map_drop,hd]
  unfold cSl
  rw[v5,Option.bind_some]
  simp only[F6 v10,Option.bind_some,p0,fSl,gl]
  rw[DU (by rw[List.length_map];omega),ed]
 have gd:(W++[O.lst (as.map U.int)])[W.length]?=some (.lst (as.map U.int)):=by rw[ga0];rfl
 have al:as.length<=100:=by rw[<-hd,List.length_drop];omega
 have h:=lH (S:=W++[O.lst (as.map U.int)]) (ok:=fun Z=>Z[W.length]?=some (.lst (as.map U.int))) (gg:=gNm 0) (ce:=fE (ae (ah 1) (ae (ah 0) aE))) (f:=U.int) (v:=fun b=>pP (a,b)) (Rel:=fun ρ=>∃r0,ρ=[r0,some (.int a)]) (fun ys G=>aG gd) as [] [] [none,some (.int a)] ⟨_,rfl⟩ (by rw[List.length_nil];omega) (fun b _ ys G ρ hρ=>by
  obtain⟨r0,rfl⟩:=hρ
  exact⟨[some (.int b),some (.int a)],⟨_,rfl⟩,rfl,rfl⟩)
 rw[List.nil_append]at h
 obtain⟨vs,hvs⟩:∃vs,vs=as.map fun b=>pP (a,b):=⟨_,rfl⟩
 rw[<-hvs]at h
 have hcmp:iK (iTp (cSl (ah 5) (some (cOp iO (ah 10) (cC (.int 1)))) none)) (gNm 0) (fE (ae (ah 1) (ae (ah 0) aE))) 1 [11] ρ W=some (.ref (W++[O.lst (as.map U.int)]).length,W++[O.lst (as.map U.int)]++[.lst vs]):=by
  have er:sN 1 [11] ρ=[none,some (.int a)]:=by rw[hρ];rfl
  unfold iK iTp
  rw[esl,Option.bind_some]
  simp only[gd,Option.bind_some,er,h]
 obtain⟨V,hV⟩:∃V,V=W++[O.lst (as.map U.int)]++[.lst vs]:=⟨_,rfl⟩
 have eV:V=Y++(.lst (ps.map pP)::(G'++([O.lst (as.map U.int)]++[O.lst vs]))):=by rw[hV,hW];simp only[List.append_assoc,List.cons_append]
 have ga1:V[Y.length]?=some (.lst (ps.map pP)):=by rw[eV,ga0];rfl
 have ga2:V[(W++[O.lst (as.map U.int)]).length]?=some (.lst vs):=by rw[hV,ga0];rfl
 have lz:(ps.map pP).length+vs.length<=LIM:=by rw[hvs,List.length_map,List.length_map];unfold LIM;omega
 have em:(ps++as.map fun b=>(a,b)).map pP=ps.map pP++vs:=by rw[hvs,List.map_append,List.map_map];rfl
 have hext:fq (.ref Y.length) [.ref (W++[O.lst (as.map U.int)]).length] V=some (.non,Y++(.lst (ps.map pP++vs)::(G'++([O.lst (as.map U.int)]++[O.lst vs])))):=by
  unfold fq
  simp only[ga1,ga2]
  rw[if_pos lz,eV,gs0]
  rfl
 have gW:W[Y.length]?=some (.lst (ps.map pP)):=by rw[hW,ga0];rfl
 have v15:ah 15 ρ W=some (.ref Y.length,W):=by rw[hρ];rfl
 refine⟨[O.lst (as.map U.int)]++[O.lst vs],?_⟩
 rw[<-hρ,<-hW,em]
 rw[<-hV]at hcmp
 unfold fL mr
 generalize iK (iTp (cSl (ah 5) (some (cOp iO (ah 10) (cC (.int 1)))) none)) (gNm 0) (fE (ae (ah 1) (ae (ah 0) aE))) 1 [11]=cc at hcmp ⊢
 rw[qg,HM,v15,Option.bind_some,xN,gW,xM,gM,hcmp,Option.bind_some,fF,qU,Option.bind_some,iI,Option.bind_some,xK,hext]
 rfl
theorem wF{Y:Sto}(gn:Y[ln]?=some (.lst (names.map U.int)))(n5:names.length<=5):∀(as:List Int) (i:Nat) (ps:List (Int×Int)) (G':Sto) (r10 r11:Option U),names.drop i=as->ps.length+(sP as).length<=500->
  ∃r10' r11' X,eK (fun S=>S[ln]?=some (.lst (names.map U.int))) (gTp [10,11]) (fL c cD mr) (((as.map U.int).zipIdx i).map fun p=>.tup [.int p.2,p.1]) (rh n w xu ld ln Z.length nu r10 r11 r12 r13 r14 (some (.ref Y.length))) (Y++(.lst (ps.map pP)::G'))=some (.nx,rh n w xu ld ln Z.length nu r10' r11' r12 r13 r14 (some (.ref Y.length)),Y++(.lst ((ps++sP as).map pP)::X))
 |[],i,ps,G',r10,r11,_,_=>⟨r10,r11,G',by rw[show sP []=[]from rfl,List.append_nil];exact fU (aG gn)⟩
 |a::as,i,ps,G',r10,r11,h,hl=>by
  have il:i<names.length:=by
   have:=congrArg List.length h
   rw[List.length_drop,List.length_cons]at this
   omega
  have h':names.drop (i+1)=as:=by rw[<-List.drop_drop,h];rfl
  have e1:sP (a::as)=(as.map fun b=>(a,b))++sP as:=rfl
  rw[e1,List.length_append,List.length_map]at hl
  obtain⟨X1,s1⟩:=Gu (c:=c) (cD:=cD) (n:=n) (w:=w) (xu:=xu) (nu:=nu) (ld:=ld) (Z:=Z) (r12:=r12) (r13:=r13) (r14:=r14) (a:=a) (ps:=ps) (G':=G') gn h' il (by omega) (by omega)
  obtain⟨r10',r11',X,ih⟩:=wF gn n5 as (i+1) (ps++as.map fun b=>(a,b)) (G'++X1) (some (.int i)) (some (.int a)) h' (by rw[List.length_append,List.length_map];omega)
  refine⟨r10',r11',X,?_⟩
  rw[List.map_cons,List.zipIdx_cons,List.map_cons,e1,<-List.append_assoc]
  exact(dn (aG gn) rfl s1).trans ih
end
section
variable{c:Cl}{n w:Int}{S:Sto}{l:Nat}
theorem x8(hns:c.ns.length=5){es:List Ev}(hl:S[l]?=some (.lst (es.map Ev.u)))(lf:sS n w [] es)(he:es.length<=900):∃G,mx c [.tup [.int n,.int w],.ref l] S=some (.bl true,S++G):=by
 obtain⟨G,e⟩:=Dm (c:=c) (n:=n) (w:=w) (S:=S) (u:=.ref l) hns (.inl ⟨l,_,rfl,hl,fun v hv=>by obtain⟨e,_,rfl⟩:=List.mem_map.mp hv;exact KH e S⟩)
 rw[wR hl (by rw[List.length_map];omega),xg es [] 0 Oo lf]at e
 exact⟨G,e⟩
end
theorem xj(ns:List Int)(T:Sto){n w:Int}(n0:1<=n)(n1:n<=6)(w0:2<=w)(w1:w<=1000):∀(us:List U) (r:Option U) (ys:List (List (Dl 2))) (G:Sto) {a c:Int},0<=a->0<=c->ys.length+us.length<=1000->(∀d∈ys,OkL n w 2 d)->
  ∃(zs:List (List (Dl 2))) (a' c':Int) (G':Sto),jH (fun _=>True) (gNm 0) (cCB (qe 3) (ae (ah 1) (ae (ah 2) (ae (cC (.int 10)) (ae (cC (.int 2)) aE))))) (T.length+1+1) us [r,some (.ref 1),some (.tup [.int n,.int w])] (scr ns::pen a c::(T++.lst (ys.map dlU)::G))
   = some (scr ns::pen a' c'::(T++.lst (zs.map dlU)::G'))/\zs.length=ys.length+us.length/\(∀d∈zs,OkL n w 2 d)/\0<=a'/\0<=c'
 |[],r,ys,G,a,c,ha,hc,hl,hy=>⟨ys,a,c,G,xl trivial,rfl,hy,ha,hc⟩
 |u::us,r,ys,G,a,c,ha,hc,hl,hy=>by
  obtain⟨d,a1,c1,G1,h1,kd,_,_,ha1,hc1,_⟩:=xk n0 n1 w0 w1 3 2 2 (by omega) (by omega) ns (T++.lst (ys.map dlU)::G) a c 10 ha hc (by omega) (by omega)
  obtain⟨zs,a2,c2,G2,h2,e2,b2,ha2,hc2⟩:=xj ns T n0 n1 w0 w1 us (some u) (ys++[d]) (G++G1) ha1 hc1 (by simp at hl ⊢;omega) (fun x hx=>by
   rcases List.mem_append.mp hx with z|z
   ·exact hy x z
   ·simp at z;subst z;exact kd)
  refine⟨zs,a2,c2,G2,?_,by simp at e2 ⊢;omega,b2,ha2,hc2⟩
  have c2':((2:Nat):Int)=2:=rfl
  simp only[c2',List.append_assoc,List.cons_append]at h1
  refine(ux (ρ0:=[some u,some (.ref 1),some (.tup [.int n,.int w])]) (S0:=scr ns::pen a c::(T++.lst (ys.map dlU)::G)) (S1:=scr ns::pen a1 c1::(T++.lst (ys.map dlU)::(G++G1))) (x:=dlU d) (ys:=ys.map dlU) trivial rfl ?_ ?_ (by unfold LIM;simp at hl ⊢;omega)).trans ?_
  ·rwa[h1,dlU]
  ·rwa[]
  ·rw[<-h2]
   rwa[List.map_append,List.map_cons,List.map_nil]
section
variable{c cD:Cl}{n w:Int}{Ds:List (List (Dl 2))}{x0 x names:List Int}{evs:List Ev}{T:List U}{K:List Int}{G:Sto}{ld ln:Nat}{r10 r11 r12 r13 r14:Option U}{Z:Sto}
theorem Bw(hns:c.ns.length=5)(hnd:cD.ns.length=4)(n0:1<=n)(n1:n<=6)(w0:2<=w)(hd:∀d∈Ds,OkL n w 2 d)(gd:Z[ld]?=some (.lst (Ds.map dlU)))(gn:Z[ln]?=some (.lst (names.map U.int)))(nd:names.Nodup)(n5:names.length<=5)(h0:x0.length=n.toNat)(I:Iv n w Ds x0 names Z.length names.length x evs T K G) :
  ∃ρ' S',(bu (gx (cOr (aQ (cOp me (cCB (mx c) (ae (ah 2) (ae (ah 6) aE))) (cC (.bl true)))) (aQ (cOp (uL true) (cCB (BG c) (ae (ah 6) aE)) (cCB eM (ae (ah 5) aE))))) (fB (cC (.bl false))) dv)
  (bu (lJ (jC (ah 5)) (gTp [10,11]) (fL c cD mv))
  (bu (cP 15 (pB aE))
  (bu (lJ (jC (ah 5)) (gTp [10,11]) (fL c cD mr))
  (fB (so (cOp (uL false) (cCB (sI c) (ae (ah 6) aE)) (cCB gI (ae (ah 15) aE))) (cOp (uL false) (cCB (BE cD) (ae (ah 2) (ae (ah 4) (ae (ah 3) (ae (ah 9) aE))))) (fE (ae (cC (.str "done")) (ae (ah 7) aE))))))))))
   (rh n w (.tup (x0.map U.int)) ld ln Z.length (.tup (x.map U.int)) r10 r11 r12 r13 r14 none) (hd3 Z (evs.map Ev.u) T K G)=some (.rt (.bl true),ρ',S'):=by
 have lg:=I.lg nd n5
 have he:evs.length<=900:=by have:=I.le;omega
 have ks:=I.ks
 rw[List.take_length]at ks
 obtain⟨B,hB⟩:∃B,B=Z.length:=⟨_,rfl⟩
 obtain⟨Y,hY⟩:∃Y,Y=hd3 Z (evs.map Ev.u) T K G:=⟨_,rfl⟩
 have gl:Y[B]?=some (.lst (evs.map Ev.u)):=by rw[hY,hB];exact h3a
 have gN:Y[ln]?=some (.lst (names.map U.int)):=by rw[hY];exact h3z gn
 obtain⟨xu,hxu⟩:∃xu,xu=U.tup (x0.map U.int):=⟨_,rfl⟩
 obtain⟨nu,hnu⟩:∃nu,nu=U.tup (x.map U.int):=⟨_,rfl⟩
 obtain⟨G1,e1⟩:=x8 (c:=c) (n:=n) (w:=w) hns gl I.lo he
 obtain⟨Y1,hY1⟩:∃Y1,Y1=Y++G1:=⟨_,rfl⟩
 obtain⟨G2,k2,e2,g2⟩:=K6 (c:=c) (S:=Y1) hns (by rw[hY1];exact aG gl) lg he (by omega)
 obtain⟨Y2,hY2⟩:∃Y2,Y2=Y1++G2:=⟨_,rfl⟩
 have gN2:Y2[ln]?=some (.lst (names.map U.int)):=by rw[hY2,hY1];exact aG (aG gN)
 have e3:eM [.ref ln] Y2=some (.ref Y2.length,Y2++[.lst ((ff names).map U.int)]):=by
  simp only[eM,gN2,ub,Option.bind_some]
  rw[if_pos (by omega)]
 obtain⟨Y3,hY3⟩:∃Y3,Y3=Y2++[O.lst ((ff names).map U.int)]:=⟨_,rfl⟩
 rw[ks]at g2
 have ne:=Hh (S:=Y3) (l:=Y1.length+k2) (l':=Y2.length) (ns:=ff names) (by rw[hY3,hY2];exact aG (by rw[ga];exact g2)) (by rw[hY3,ga0];rfl)
 rw[<-hY1]at e1
 rw[<-hY2]at e2
 rw[<-hY3]at e3
 have nb:(true !=true)=false:=rfl
 have s1:gx (cOr (aQ (cOp me (cCB (mx c) (ae (ah 2) (ae (ah 6) aE))) (cC (.bl true)))) (aQ (cOp (uL true) (cCB (BG c) (ae (ah 6) aE)) (cCB eM (ae (ah 5) aE))))) (fB (cC (.bl false))) dv (rh n w xu ld ln B nu r10 r11 r12 r13 r14 none) Y=some (.nx,rh n w xu ld ln B nu r10 r11 r12 r13 r14 none,Y3):=by
  rwa[rh,e1,e2,e3,ne,me,nb]
 obtain⟨X3,hX3⟩:∃X3,Y3=Y++X3:=⟨G1++(G2++[O.lst ((ff names).map U.int)]),by rw[hY3,hY2,hY1];simp only[List.append_assoc]⟩
 obtain⟨p10,p11,X4,e4⟩:=xp (c:=c) (cD:=cD) (xu:=xu) (nu:=nu) (ld:=ld) (ln:=ln) (r12:=r12) (r13:=r13) (r14:=r14) (r15:=none) hns I nd n5 gn names 0 X3 r10 r11 rfl
 rw[<-hY,<-hX3,<-hB]at e4
 obtain⟨Y4,hY4⟩:∃Y4,Y4=Y++X4:=⟨_,rfl⟩
 rw[<-hY4]at e4
 have en:∀{W:Sto} {ρ:Rho},W[ln]?=some (.lst (names.map U.int))->ρ[5]?=some (some (.ref ln))->jC (ah 5) ρ W=some (vw (names.map U.int),fun S=>S[ln]?=some (.lst (names.map U.int)),W):=fun{W ρ} h hv=>by
  have v:ah 5 ρ W=some (.ref ln,W):=by unfold ah;rw[hv]
  unfold jC
  rw[v,Option.bind_some]
  simp only[Ck,h,Option.bind_some]
 have s2:lJ (jC (ah 5)) (gTp [10,11]) (fL c cD mv) (rh n w xu ld ln B nu r10 r11 r12 r13 r14 none) Y3=some (.nx,rh n w xu ld ln B nu p10 p11 r12 r13 r14 none,Y4):=by
  unfold lJ
  rw[en (by rw[hX3];exact aG gN) rfl,Option.bind_some]
  exact e4
 have gN4:Y4[ln]?=some (.lst (names.map U.int)):=by rw[hY4];exact aG gN
 have s3:cP 15 (pB aE) (rh n w xu ld ln B nu p10 p11 r12 r13 r14 none) Y4=some (.nx,rh n w xu ld ln B nu p10 p11 r12 r13 r14 (some (.ref Y4.length)),Y4++[.lst []]):=rfl
 have pl:=wC names n5
 obtain⟨q10,q11,X5,e5⟩:=wF (c:=c) (cD:=cD) (n:=n) (w:=w) (xu:=xu) (nu:=nu) (ld:=ld) (ln:=ln) (Z:=Z) (r12:=r12) (r13:=r13) (r14:=r14) (Y:=Y4) gN4 n5 names 0 [] [] p10 p11 rfl (by rw[List.length_nil];omega)
 rw[List.nil_append,<-hB]at e5
 obtain⟨Y5,hY5⟩:∃Y5,Y5=Y4++(O.lst ((sP names).map pP)::X5):=⟨_,rfl⟩
 rw[<-hY5]at e5
 have s4:lJ (jC (ah 5)) (gTp [10,11]) (fL c cD mr) (rh n w xu ld ln B nu p10 p11 r12 r13 r14 (some (.ref Y4.length))) (Y4++[.lst []])=some (.nx,rh n w xu ld ln B nu q10 q11 r12 r13 r14 (some (.ref Y4.length)),Y5):=by
  unfold lJ
  rw[en (aG gN4) rfl,Option.bind_some]
  exact e5
 have up5:∀{j:Nat} {o:O},Y[j]?=some o->Y5[j]?=some o:=fun h=>by rw[hY5,hY4];exact aG (aG h)
 obtain⟨G6,k6,e6,g6⟩:=D3 (c:=c) (S:=Y5) hns (up5 gl) lg he (by omega)
 rw[I.prs]at g6
 obtain⟨Y6,hY6⟩:∃Y6,Y6=Y5++G6:=⟨_,rfl⟩
 have gp:Y6[Y4.length]?=some (.lst ((sP names).map pP)):=by rw[hY6,hY5];exact aG (by rw[ga0];rfl)
 have e7:gI [.ref Y4.length] Y6=some (.ref Y6.length,Y6++[.lst ((i9 (sP names)).map pP)]):=by
  simp only[gI,gp,lT,Option.bind_some]
  rw[if_pos ⟨zH names nd,by omega⟩]
 obtain⟨Y7,hY7⟩:∃Y7,Y7=Y6++[O.lst ((i9 (sP names)).map pP)]:=⟨_,rfl⟩
 have eq1:=iW.eq (uS (S:=Y7) (l:=Y5.length+k6) (l':=Y6.length) (ps:=i9 (sP names)) (by rw[hY7,hY6];exact aG (by rw[ga];exact g6)) (by rw[hY7,ga0];rfl)) (by omega)
 have up7:∀{j:Nat} {o:O},Y[j]?=some o->Y7[j]?=some o:=fun h=>by rw[hY7,hY6];exact aG (aG (up5 h))
 obtain⟨X8,l8,_,_,e8⟩:=Dq (cD:=cD) (j:=2) (ld:=ld) (lo:=B+2) (by omega) hnd n0 n1 w0 hd K x0 Y7 (up7 (by rw[hY];exact h3z gd)) (up7 (by rw[hY,hB];exact h3c)) I.kb h0
 rw[I.rw]at e8
 obtain⟨Y8,hY8⟩:∃Y8,Y8=Y7++X8:=⟨_,rfl⟩
 have eq2:uL false (.tup [.str "done",.tup (x.map U.int)]) (.tup [.str "done",.tup (x.map U.int)]) Y8=some (.bl true,Y8):=iW.eq (k:=3) (.refl (.tup fun u hu=>by
  simp only[List.mem_cons,List.not_mem_nil,or_false]at hu
  rcases hu with rfl|rfl
  ·exact .str (by decide +kernel)
  ·exact Lay.ints.mono (by omega))) (by omega)
 have e8':BE cD [.tup [.int n,.int w],.ref ld,xu,.ref (B+2)] Y7=some (.tup [.str "done",nu],Y8):=by rw[hxu,hnu,hY8];exact e8
 rw[<-hnu]at eq2
 rw[<-hY6]at e6
 rw[<-hY7]at e7
 refine⟨rh n w xu ld ln B nu q10 q11 r12 r13 r14 (some (.ref Y4.length)),Y8,?_⟩
 rw[<-hxu,<-hnu,<-hB,<-hY,pR s1,pR s2,pR s3,pR s4]
 rwa[rh,e6,e7,eq1,e8',eq2]
end
theorem DS{ns:List Int}{T2 T4:Sto}{n w a2 d2 a3 d3 a4 d4 f:Int}{X3:U}(f0:0<=f)(f1:f<5)(e3:gy [.ref 1,.int 5] (scr ns::pen a2 d2::T2)=some (.int f,scr ns::pen a3 d3::T2))
  (e4:jH (fun _=>True) (gNm 0) (cCB (qe 3) (ae (ah 1) (ae (ah 2) (ae (cC (.int 10)) (ae (cC (.int 2)) aE))))) (T2.length+1+1) (d7 0 (1+f).toNat) [none,some (.ref 1),some (.tup [.int n,.int w])] (scr ns::pen a3 d3::(T2++[.lst []]))=some (scr ns::pen a4 d4::T4)) :
  cP 4 (iK (gY (ae (cOp iO (cC (.int 1)) (cCB gy (ae (ah 1) (ae (cC (.int 5)) aE)))) aE)) (gNm 0) (cCB (qe 3) (ae (ah 1) (ae (ah 2) (ae (cC (.int 10)) (ae (cC (.int 2)) aE))))) 1 [1,2]) [none,some (.ref 1),some (.tup [.int n,.int w]),some X3,none,none,none,none,none,none,none,none,none,none,none,none] (scr ns::pen a2 d2::T2)=some (.nx,[none,some (.ref 1),some (.tup [.int n,.int w]),some X3,some (.ref (T2.length+2)),none,none,none,none,none,none,none,none,none,none,none],scr ns::pen a4 d4::T4):=by
 have er:ae (cOp iO (cC (.int 1)) (cCB gy (ae (ah 1) (ae (cC (.int 5)) aE)))) aE [none,some (.ref 1),some (.tup [.int n,.int w]),some X3,none,none,none,none,none,none,none,none,none,none,none,none] (scr ns::pen a2 d2::T2)=some ([.int (1+f)],scr ns::pen a3 d3::T2):=by
  generalize scr ns::pen a2 d2::T2=Y1 at e3 ⊢
  generalize scr ns::pen a3 d3::T2=Y2 at e3 ⊢
  rwa[e3]
 have hr:-(2^62)<=1+f/\1+f<2^62:=by omega
 have ei:gY (ae (cOp iO (cC (.int 1)) (cCB gy (ae (ah 1) (ae (cC (.int 5)) aE)))) aE) [none,some (.ref 1),some (.tup [.int n,.int w]),some X3,none,none,none,none,none,none,none,none,none,none,none,none] (scr ns::pen a2 d2::T2)=some (d7 0 (1+f).toNat,fun _=>True,scr ns::pen a3 d3::T2):=by
  unfold gY
  rw[er,Option.bind_some]
  simp only[hr,and_self,if_true]
 obtain⟨rg,hrg⟩:∃rg,rg=d7 0 (1+f).toNat:=⟨_,rfl⟩
 rw[<-hrg]at ei e4
 have ec:sN 1 [1,2] [none,some (.ref 1),some (.tup [.int n,.int w]),some X3,none,none,none,none,none,none,none,none,none,none,none,none]=[none,some (.ref 1),some (.tup [.int n,.int w])]:=rfl
 have es:(scr ns::pen a3 d3::T2)++[O.lst []]=scr ns::pen a3 d3::(T2++[O.lst []]):=rfl
 have el:(scr ns::pen a3 d3::T2).length=T2.length+1+1:=rfl
 rw[BO]
 unfold iK
 rw[ei,Option.bind_some]
 simp only[ec,es,el,e4,Option.bind_some]
 rfl
theorem Ki{c cD:Cl}(hns:c.ns.length=5)(hnd:cD.ns.length=4)(ns:List Int)(a c1:Int)(ha:0<=a)(hc:0<=c1):∃ρ' S',(fL c cD Bi) [none,some (.ref 1),none,none,none,none,none,none,none,none,none,none,none,none,none,none] [.lst (ns.map U.int),.lst [.ref 0,.int a,.int c1]]=some (.rt (.bl true),ρ',S'):=by
 obtain⟨n,w,a1,d1,T1,e1,n0,n1,w0,w1,ha1,hd1⟩:=B4 ns [] ha hc
 rw[List.nil_append]at e1
 obtain⟨x,a2,d2,G2,e2,hx,bx,ha2,hd2⟩:=Cc ns T1 ha1 hd1 n0 n1 w0 w1
 obtain⟨T2,hT2⟩:∃T2,T2=T1++G2:=⟨_,rfl⟩
 obtain⟨f,a3,d3,e3,f0,f1,ha3,hd3'⟩:=dG ns T2 ha2 hd2 (m:=5) (by decide) (by decide)
 obtain⟨Ds,a4,d4,G4,e4,l4,k4,ha4,hd4⟩:=xj ns T2 n0 n1 w0 w1 (d7 0 (1+f).toNat) none [] [] ha3 hd3' (by simp[d7];omega) (by simp)
 have dl:Ds.length=(1+f).toNat:=by simpa [d7] using l4
 obtain⟨T4,hT4⟩:∃T4,T4=T2++(O.lst (Ds.map dlU)::G4):=⟨_,rfl⟩
 obtain⟨left,names,a5,d5,e5,nl,nd,nb,ha5,hd5⟩:=C7 ns T4 ha4 hd4 (m:=(Ds.length:Int)) (by omega) (by omega)
 rw[Int.toNat_natCast]at nl
 rw[<-hT2]at e2
 obtain⟨T5,hT5⟩:∃T5,T5=T4++[O.lst (left.map U.int),.lst (names.map U.int)]:=⟨_,rfl⟩
 obtain⟨Z,hZ⟩:∃Z,Z=scr ns::pen a5 d5::T5:=⟨_,rfl⟩
 obtain⟨X3,hX3⟩:∃X3,X3=U.tup (x.map U.int):=⟨_,rfl⟩
 rw[<-hX3]at e2
 have gd4:T4[T2.length]?=some (.lst (Ds.map dlU)):=by rw[hT4,ga0];rfl
 have gd:Z[T2.length+2]?=some (.lst (Ds.map dlU)):=by
  rw[hZ]
  show T5[T2.length]?=_
  rw[hT5];exact aG gd4
 have gn:Z[T4.length+1+1+1]?=some (.lst (names.map U.int)):=by
  rw[hZ]
  show T5[T4.length+1]?=_
  rw[hT5,ga];rfl
 have s1:cP 2 (cCB sy (ae (ah 1) aE)) [none,some (.ref 1),none,none,none,none,none,none,none,none,none,none,none,none,none,none] (scr ns::pen a c1::[])=some (.nx,[none,some (.ref 1),some (.tup [.int n,.int w]),none,none,none,none,none,none,none,none,none,none,none,none,none],scr ns::pen a1 d1::T1):=by
  generalize scr ns::pen a1 d1::T1=Y1 at e1 ⊢
  generalize scr ns::pen a c1::[]=Y0 at e1 ⊢
  rwa[e1]
 have s2:cP 3 (cCB sE (ae (ah 1) (ae (ah 2) aE))) [none,some (.ref 1),some (.tup [.int n,.int w]),none,none,none,none,none,none,none,none,none,none,none,none,none] (scr ns::pen a1 d1::T1)=some (.nx,[none,some (.ref 1),some (.tup [.int n,.int w]),some X3,none,none,none,none,none,none,none,none,none,none,none,none],scr ns::pen a2 d2::T2):=by
  generalize scr ns::pen a1 d1::T1=Y1 at e2 ⊢
  generalize scr ns::pen a2 d2::T2=Y2 at e2 ⊢
  rwa[e2]
 have s3:=DS (n:=n) (w:=w) (X3:=X3) (T4:=T4) f0 f1 e3 (by rw[hT4];exact e4)
 have s4:cP 5 (cCB sG (ae (ah 1) (ae (cCB ky (ae (ah 4) aE)) aE))) [none,some (.ref 1),some (.tup [.int n,.int w]),some X3,some (.ref (T2.length+2)),none,none,none,none,none,none,none,none,none,none,none] (scr ns::pen a4 d4::T4)=some (.nx,[none,some (.ref 1),some (.tup [.int n,.int w]),some X3,some (.ref (T2.length+2)),some (.ref (T4.length+1+1+1)),none,none,none,none,none,none,none,none,none,none],Z):=by
  have g4:(scr ns::pen a4 d4::T4)[T2.length+2]?=some (.lst (Ds.map dlU)):=gd4
  rw[<-hT5,<-hZ]at e5
  obtain⟨Y1,hY1⟩:∃Y1,Y1=scr ns::pen a4 d4::T4:=⟨_,rfl⟩
  rw[<-hY1]at g4 e5 ⊢
  obtain⟨ρ,hρ⟩:∃ρ:Rho,ρ=[none,some (.ref 1),some (.tup [.int n,.int w]),some X3,some (.ref (T2.length+2)),none,none,none,none,none,none,none,none,none,none,none]:=⟨_,rfl⟩
  have v1:ah 1 ρ Y1=some (.ref 1,Y1):=by rw[hρ];rfl
  have v4:ah 4 ρ Y1=some (.ref (T2.length+2),Y1):=by rw[hρ];rfl
  have el:cCB ky (ae (ah 4) aE) ρ Y1=some (.int (Ds.length:Int),Y1):=by
   rw[Ld,gM,v4,Option.bind_some,fF,qU,Option.bind_some,iI,Option.bind_some,BR,Ea,g4,Eb,List.length_map]
  rw[<-hρ,BO,Ld,gM,v1,Option.bind_some,fF,gM,el,Option.bind_some,fF,qU,Option.bind_some,iI,Option.bind_some,iI,Option.bind_some,BR,e5,Option.bind_some,hρ]
  rfl
 have s5:cP 6 (pB aE) [none,some (.ref 1),some (.tup [.int n,.int w]),some X3,some (.ref (T2.length+2)),some (.ref (T4.length+1+1+1)),none,none,none,none,none,none,none,none,none,none] Z=some (.nx,[none,some (.ref 1),some (.tup [.int n,.int w]),some X3,some (.ref (T2.length+2)),some (.ref (T4.length+1+1+1)),some (.ref Z.length),none,none,none,none,none,none,none,none,none],Z++[.lst []]):=rfl
 have s6:cP 7 (ah 3) [none,some (.ref 1),some (.tup [.int n,.int w]),some X3,some (.ref (T2.length+2)),some (.ref (T4.length+1+1+1)),some (.ref Z.length),none,none,none,none,none,none,none,none,none] (Z++[.lst []])=some (.nx,[none,some (.ref 1),some (.tup [.int n,.int w]),some X3,some (.ref (T2.length+2)),some (.ref (T4.length+1+1+1)),some (.ref Z.length),some X3,none,none,none,none,none,none,none,none],Z++[.lst []]):=rfl
 have s7:cP 8 (pB aE) [none,some (.ref 1),some (.tup [.int n,.int w]),some X3,some (.ref (T2.length+2)),some (.ref (T4.length+1+1+1)),some (.ref Z.length),some X3,none,none,none,none,none,none,none,none] (Z++[.lst []])=some (.nx,[none,some (.ref 1),some (.tup [.int n,.int w]),some X3,some (.ref (T2.length+2)),some (.ref (T4.length+1+1+1)),some (.ref Z.length),some X3,some (.ref (Z.length+1)),none,none,none,none,none,none,none],Z++[.lst [],.lst []]):=by
  have ln:(Z++[O.lst []]).length=Z.length+1:=by rw[List.length_append];rfl
  have es:Z++[O.lst []]++[O.lst []]=Z++[O.lst [],.lst []]:=by rw[List.append_assoc];rfl
  rw[<-ln,<-es];rfl
 have s8:cP 9 (pB aE) [none,some (.ref 1),some (.tup [.int n,.int w]),some X3,some (.ref (T2.length+2)),some (.ref (T4.length+1+1+1)),some (.ref Z.length),some X3,some (.ref (Z.length+1)),none,none,none,none,none,none,none] (Z++[.lst [],.lst []])=some (.nx,rh n w X3 (T2.length+2) (T4.length+1+1+1) Z.length X3 none none none none none none,hd3 Z [] [] [] []):=by
  have ln:(Z++[O.lst [],.lst []]).length=Z.length+2:=by rw[List.length_append];rfl
  have es:Z++[O.lst [],.lst []]++[O.lst []]=hd3 Z [] [] [] []:=by unfold hd3;rw[List.append_assoc];rfl
  unfold rh
  rw[<-ln,<-es];rfl
 have I0:Iv n w Ds x names Z.length 0 x [] [] [] []:=⟨trivial,rfl,fun p hp=>(by cases hp),hx,bx,Nat.zero_le _,rfl,Nat.le_refl _,fun k hk=>(by cases hk),rfl,fun j a hj=>absurd hj (Nat.not_lt_zero j)⟩
 obtain⟨x',evs,T,K,G,r10,r11,r12,r13,r14,e9,I⟩:=wV (c:=c) (cD:=cD) (Ds:=Ds) (x0:=x) (names:=names) (ld:=T2.length+2) (ln:=T4.length+1+1+1) (xu:=X3) (r15:=none) (Z:=Z) hnd n0 n1 w0 k4 gd gn nd nb nl (by omega) names 0 x [] [] [] [] none none none none none rfl (Nat.zero_le _) I0
 rw[<-hX3]at e9
 have s9:lJ (jC (ah 5)) (gTp [10,11]) (fL c cD pF) (rh n w X3 (T2.length+2) (T4.length+1+1+1) Z.length X3 none none none none none none) (hd3 Z [] [] [] [])=some (.nx,rh n w X3 (T2.length+2) (T4.length+1+1+1) Z.length (.tup (x'.map U.int)) r10 r11 r12 r13 r14 none,hd3 Z (evs.map Ev.u) T K G):=by
  have gN:(hd3 Z [] [] [] [])[T4.length+1+1+1]?=some (.lst (names.map U.int)):=h3z gn
  have v:ah 5 (rh n w X3 (T2.length+2) (T4.length+1+1+1) Z.length X3 none none none none none none) (hd3 Z [] [] [] [])=some (.ref (T4.length+1+1+1),hd3 Z [] [] [] []):=rfl
  unfold lJ jC
  rw[v,Option.bind_some]
  simp only[Ck,gN,Option.bind_some]
  exact e9
 obtain⟨ρ',S',e10⟩:=Bw (c:=c) (cD:=cD) (ld:=T2.length+2) (ln:=T4.length+1+1+1) (r10:=r10) (r11:=r11) (r12:=r12) (r13:=r13) (r14:=r14) (Z:=Z) hns hnd n0 n1 w0 k4 gd gn nd (by omega) hx I
 rw[<-hX3]at e10
 refine⟨ρ',S',?_⟩
 show fL c cD Bi _ [scr ns,pen a c1]=_
 unfold fL Bi
 rw[pR s1,pR s2,pR s3,pR s4,pR s5,pR s6,pR s7,pR s8,pR s9]
 exact e10
section
variable{P:Program}{w:World}{K:PySem.W.Frag}{mg:Str->Option Value}{base:Heap}
theorem oG:aS ["script"] ["script"] (av fM):=⟨rfl,rfl,rfl,by decide +kernel,rfl,by decide +kernel,by decide +kernel⟩
theorem Hk{k:Nat}(B:Blt mg)(d:Def K mg "_law_pen" fM ["script"]):Has P w K mg base "_law_pen" (k+1) ["script"] (Er K):=by
 refine d.has oG (fun vs H Q E h=>?_) (fun f cdv A outer s H vs Q E hr h=>?_)
 ·obtain⟨a,ns,rfl,_⟩:=h;rfl
 obtain⟨a,ns,rfl,hS,q⟩:=h
 have nd:=oG.nd
 refine⟨_,(vT (yI (yP (fS (qi ni rfl B.list OG.lK (fS (sX zi (wpv 0) vW (vV ag)) j6)) (fS ag (fS ag j6)))))),?_⟩
 refine⟨_,rfl,_,rfl,a,_,rfl,hS,fun p hp=>⟨p,_,rfl,.inl (SqL.of aX),fun l hl=>⟨(by show 3<=sizeLine;decide),fun r hr'=>?_⟩⟩⟩
 obtain⟨ms,em⟩:∃ms:List Int,A9 (ns.map V.int) none (some 63)=ms.map V.int:=⟨_,DT _ _ _⟩
 rw[em]at hl hr' ⊢
 refine q r l _ (((dW hp _).trans (dW hl _)).trans (dW hr' _)) ⟨ms,0,0,aX,?_,dD aX hr',by decide,by decide⟩ ?_
 ·rw[bN (dD aX hr')];exact aX
 ·exact(((dW hp _).trans (dW hl _))).free hr'
end
theorem K7{l:PySem.W.OpenLaw}{w:World}{K:PySem.W.Frag}{h:Heap}{mg:Str->Option Value}{fa:Addr}(X:K.In h)(G:h.Ns mainGlobals mg)(hfa:mg "law"=some (.ref fa))
  {f1:Addr} {od1 an1:Option Addr} {sl1:Array (Option Value)} {oc1 kV1 dc1 pm1 cd1 ct1:Value}
  {f2:Addr} {od2 an2:Option Addr} {sl2:Array (Option Value)} {oc2 kV2 dc2 pm2 cd2 ct2:Value}
  {f3:Addr} {od3 an3:Option Addr} {sl3:Array (Option Value)} {oc3 kV3 dc3 pm3 cd3 ct3:Value}
  {f4:Addr} {od4 an4:Option Addr} {sl4:Array (Option Value)} {oc4 kV4 dc4 pm4 cd4 ct4:Value}
  {f5:Addr} {od5 an5:Option Addr} {sl5:Array (Option Value)} {oc5 kV5 dc5 pm5 cd5 ct5:Value}
  {f6:Addr} {od6 an6:Option Addr} {sl6:Array (Option Value)} {oc6 kV6 dc6 pm6 cd6 ct6:Value}
  {f7:Addr} {od7 an7:Option Addr} {sl7:Array (Option Value)} {oc7 kV7 dc7 pm7 cd7 ct7:Value}
  {f8:Addr} {od8 an8:Option Addr} {sl8:Array (Option Value)} {oc8 kV8 dc8 pm8 cd8 ct8:Value}
  {f9:Addr} {od9 an9:Option Addr} {sl9:Array (Option Value)} {oc9 kV9 dc9 pm9 cd9 ct9:Value}
  {f10:Addr} {od10 an10:Option Addr} {sl10:Array (Option Value)} {oc10 kV10 dc10 pm10 cd10 ct10:Value}
  {f11:Addr} {od11 an11:Option Addr} {sl11:Array (Option Value)} {oc11 kV11 dc11 pm11 cd11 ct11:Value}
  {f12:Addr} {od12 an12:Option Addr} {sl12:Array (Option Value)} {oc12 kV12 dc12 pm12 cd12 ct12:Value}
  {f13:Addr} {od13 an13:Option Addr} {sl13:Array (Option Value)} {oc13 kV13 dc13 pm13 cd13 ct13:Value}
  {f14:Addr} {od14 an14:Option Addr} {sl14:Array (Option Value)} {oc14 kV14 dc14 pm14 cd14 ct14:Value}
  {f15:Addr} {od15 an15:Option Addr} {sl15:Array (Option Value)} {oc15 kV15 dc15 pm15 cd15 ct15:Value}
  {f16:Addr} {od16 an16:Option Addr} {sl16:Array (Option Value)} {oc16 kV16 dc16 pm16 cd16 ct16:Value}
  {f17:Addr} {od17 an17:Option Addr} {sl17:Array (Option Value)} {oc17 kV17 dc17 pm17 cd17 ct17:Value}
  {f18:Addr} {od18 an18:Option Addr} {sl18:Array (Option Value)} {oc18 kV18 dc18 pm18 cd18 ct18:Value}
  {f19:Addr} {od19 an19:Option Addr} {sl19:Array (Option Value)} {oc19 kV19 dc19 pm19 cd19 ct19:Value}
  {f20:Addr} {od20 an20:Option Addr} {sl20:Array (Option Value)} {oc20 kV20 dc20 pm20 cd20 ct20:Value}
  {f21:Addr} {od21 an21:Option Addr} {sl21:Array (Option Value)} {oc21 kV21 dc21 pm21 cd21 ct21:Value}
  {f22:Addr} {od22 an22:Option Addr} {sl22:Array (Option Value)} {oc22 kV22 dc22 pm22 cd22 ct22:Value}
  {f23:Addr} {od23 an23:Option Addr} {sl23:Array (Option Value)} {oc23 kV23 dc23 pm23 cd23 ct23:Value}
  {f24:Addr} {od24 an24:Option Addr} {sl24:Array (Option Value)} {oc24 kV24 dc24 pm24 cd24 ct24:Value}
  {f25:Addr} {od25 an25:Option Addr} {sl25:Array (Option Value)} {oc25 kV25 dc25 pm25 cd25 ct25:Value}
  {CCourse:Addr}
  {f26:Addr} {od26 an26:Option Addr} {sl26:Array (Option Value)} {oc26 kV26 dc26 pm26 cd26 ct26:Value}
  {f27:Addr} {od27 an27:Option Addr} {sl27:Array (Option Value)} {oc27 kV27 dc27 pm27 cd27 ct27:Value}
  {f28:Addr} {od28 an28:Option Addr} {sl28:Array (Option Value)} {oc28 kV28 dc28 pm28 cd28 ct28:Value}
  {f29:Addr} {od29 an29:Option Addr} {sl29:Array (Option Value)} {oc29 kV29 dc29 pm29 cd29 ct29:Value}
  {f30:Addr} {od30 an30:Option Addr} {sl30:Array (Option Value)} {oc30 kV30 dc30 pm30 cd30 ct30:Value}
  {CDoing:Addr}
  {f31:Addr} {od31 an31:Option Addr} {sl31:Array (Option Value)} {oc31 kV31 dc31 pm31 cd31 ct31:Value}
  {f32:Addr} {od32 an32:Option Addr} {sl32:Array (Option Value)} {oc32 kV32 dc32 pm32 cd32 ct32:Value}
  {f33:Addr} {od33 an33:Option Addr} {sl33:Array (Option Value)} {oc33 kV33 dc33 pm33 cd33 ct33:Value}
  {f34:Addr} {od34 an34:Option Addr} {sl34:Array (Option Value)} {oc34 kV34 dc34 pm34 cd34 ct34:Value}
  {f35:Addr} {od35 an35:Option Addr} {sl35:Array (Option Value)} {oc35 kV35 dc35 pm35 cd35 ct35:Value}
  {f36:Addr} {od36 an36:Option Addr} {sl36:Array (Option Value)} {oc36 kV36 dc36 pm36 cd36 ct36:Value}
  {f37:Addr} {od37 an37:Option Addr} {sl37:Array (Option Value)} {oc37 kV37 dc37 pm37 cd37 ct37:Value}
  {f38:Addr} {od38 an38:Option Addr} {sl38:Array (Option Value)} {oc38 kV38 dc38 pm38 cd38 ct38:Value}
  {f39:Addr} {od39 an39:Option Addr} {sl39:Array (Option Value)} {oc39 kV39 dc39 pm39 cd39 ct39:Value}
  {f40:Addr} {od40 an40:Option Addr} {sl40:Array (Option Value)} {oc40 kV40 dc40 pm40 cd40 ct40:Value}
  {f41:Addr} {od41 an41:Option Addr} {sl41:Array (Option Value)} {oc41 kV41 dc41 pm41 cd41 ct41:Value}
  {tk42:Tok}
  {tk43:Tok}
  (a1:PySem.W.nsIn K mainGlobals "_law_take"=some (some (.ref f1))) (l1:K.lookup f1=some ⟨oc1,od1,.func (PySem.W.fnOf "_law_take" "_law_take" (aT eI) (aM eI) (av eI) .none kV1 dc1 pm1 an1 cd1 ct1),sl1⟩) (c1:PySem.W.codeIn K cd1 "_law_take"=true) (k1:PySem.W.keepIn K (.ref f1)=true)
  (a2:PySem.W.nsIn K mainGlobals "_law_world"=some (some (.ref f2))) (l2:K.lookup f2=some ⟨oc2,od2,.func (PySem.W.fnOf "_law_world" "_law_world" (aT dM) (aM dM) (av dM) .none kV2 dc2 pm2 an2 cd2 ct2),sl2⟩) (c2:PySem.W.codeIn K cd2 "_law_world"=true) (k2:PySem.W.keepIn K (.ref f2)=true)
  (a3:PySem.W.nsIn K mainGlobals "_law_state"=some (some (.ref f3))) (l3:K.lookup f3=some ⟨oc3,od3,.func (PySem.W.fnOf "_law_state" "_law_state" (aT dN) (aM dN) (av dN) .none kV3 dc3 pm3 an3 cd3 ct3),sl3⟩) (c3:PySem.W.codeIn K cd3 "_law_state"=true) (k3:PySem.W.keepIn K (.ref f3)=true)
  (a4:PySem.W.nsIn K mainGlobals "_law_size"=some (some (.ref f4))) (l4:K.lookup f4=some ⟨oc4,od4,.func (PySem.W.fnOf "_law_size" "_law_size" (aT eJ) (aM eJ) (av eJ) .none kV4 dc4 pm4 an4 cd4 ct4),sl4⟩) (c4:PySem.W.codeIn K cd4 "_law_size"=true) (k4:PySem.W.keepIn K (.ref f4)=true)
  (a5:PySem.W.nsIn K mainGlobals "_law_plain_deed"=some (some (.ref f5))) (l5:K.lookup f5=some ⟨oc5,od5,.func (PySem.W.fnOf "_law_plain_deed" "_law_plain_deed" (aT bI) (aM bI) (av bI) .none kV5 dc5 pm5 an5 cd5 ct5),sl5⟩) (c5:PySem.W.codeIn K cd5 "_law_plain_deed"=true) (k5:PySem.W.keepIn K (.ref f5)=true)
  (a6:PySem.W.nsIn K mainGlobals "_law_dealing"=some (some (.ref f6))) (l6:K.lookup f6=some ⟨oc6,od6,.func (PySem.W.fnOf "_law_dealing" "_law_dealing" (aT cK) (aM cK) (av cK) .none kV6 dc6 pm6 an6 cd6 ct6),sl6⟩) (c6:PySem.W.codeIn K cd6 "_law_dealing"=true) (k6:PySem.W.keepIn K (.ref f6)=true)
  (a7:PySem.W.nsIn K mainGlobals "_law_names"=some (some (.ref f7))) (l7:K.lookup f7=some ⟨oc7,od7,.func (PySem.W.fnOf "_law_names" "_law_names" (aT dP) (aM dP) (av dP) .none kV7 dc7 pm7 an7 cd7 ct7),sl7⟩) (c7:PySem.W.codeIn K cd7 "_law_names"=true) (k7:PySem.W.keepIn K (.ref f7)=true)
  (a8:PySem.W.nsIn K mainGlobals "is_whole"=some (some (.ref f8))) (l8:K.lookup f8=some ⟨oc8,od8,.func (PySem.W.fnOf "is_whole" "is_whole" (aT fH) (aM fH) (av fH) .none kV8 dc8 pm8 an8 cd8 ct8),sl8⟩) (c8:PySem.W.codeIn K cd8 "is_whole"=true) (k8:PySem.W.keepIn K (.ref f8)=true)
  (a9:PySem.W.nsIn K mainGlobals "is_within"=some (some (.ref f9))) (l9:K.lookup f9=some ⟨oc9,od9,.func (PySem.W.fnOf "is_within" "is_within" (aT eD) (aM eD) (av eD) .none kV9 dc9 pm9 an9 cd9 ct9),sl9⟩) (c9:PySem.W.codeIn K cd9 "is_within"=true) (k9:PySem.W.keepIn K (.ref f9)=true)
  (a10:PySem.W.nsIn K mainGlobals "is_event"=some (some (.ref f10))) (l10:K.lookup f10=some ⟨oc10,od10,.func (PySem.W.fnOf "is_event" "is_event" (aT fJ) (aM fJ) (av fJ) .none kV10 dc10 pm10 an10 cd10 ct10),sl10⟩) (c10:PySem.W.codeIn K cd10 "is_event"=true) (k10:PySem.W.keepIn K (.ref f10)=true)
  (a11:PySem.W.nsIn K mainGlobals "is_log"=some (some (.ref f11))) (l11:K.lookup f11=some ⟨oc11,od11,.func (PySem.W.fnOf "is_log" "is_log" (aT ja) (aM ja) (av ja) .none kV11 dc11 pm11 an11 cd11 ct11),sl11⟩) (c11:PySem.W.codeIn K cd11 "is_log"=true) (k11:PySem.W.keepIn K (.ref f11)=true)
  (a12:PySem.W.nsIn K mainGlobals "course_of"=some (some (.ref f12))) (l12:K.lookup f12=some ⟨oc12,od12,.func (PySem.W.fnOf "course_of" "course_of" (aT eF) (aM eF) (av eF) .none kV12 dc12 pm12 an12 cd12 ct12),sl12⟩) (c12:PySem.W.codeIn K cd12 "course_of"=true) (k12:PySem.W.keepIn K (.ref f12)=true)
  (a13:PySem.W.nsIn K mainGlobals "attempts"=some (some (.ref f13))) (l13:K.lookup f13=some ⟨oc13,od13,.func (PySem.W.fnOf "attempts" "attempts" (aT fK) (aM fK) (av fK) .none kV13 dc13 pm13 an13 cd13 ct13),sl13⟩) (c13:PySem.W.codeIn K cd13 "attempts"=true) (k13:PySem.W.keepIn K (.ref f13)=true)
  (a14:PySem.W.nsIn K mainGlobals "end_of"=some (some (.ref f14))) (l14:K.lookup f14=some ⟨oc14,od14,.func (PySem.W.fnOf "end_of" "end_of" (aT jc) (aM jc) (av jc) .none kV14 dc14 pm14 an14 cd14 ct14),sl14⟩) (c14:PySem.W.codeIn K cd14 "end_of"=true) (k14:PySem.W.keepIn K (.ref f14)=true)
  (a15:PySem.W.nsIn K mainGlobals "outer_looks"=some (some (.ref f15))) (l15:K.lookup f15=some ⟨oc15,od15,.func (PySem.W.fnOf "outer_looks" "outer_looks" (aT dj) (aM dj) (av dj) .none kV15 dc15 pm15 an15 cd15 ct15),sl15⟩) (c15:PySem.W.codeIn K cd15 "outer_looks"=true) (k15:PySem.W.keepIn K (.ref f15)=true)
  (a16:PySem.W.nsIn K mainGlobals "puts_of"=some (some (.ref f16))) (l16:K.lookup f16=some ⟨oc16,od16,.func (PySem.W.fnOf "puts_of" "puts_of" (aT gR) (aM gR) (av gR) .none kV16 dc16 pm16 an16 cd16 ct16),sl16⟩) (c16:PySem.W.codeIn K cd16 "puts_of"=true) (k16:PySem.W.keepIn K (.ref f16)=true)
  (a17:PySem.W.nsIn K mainGlobals "ahead"=some (some (.ref f17))) (l17:K.lookup f17=some ⟨oc17,od17,.func (PySem.W.fnOf "ahead" "ahead" (aT kg) (aM kg) (av kg) .none kV17 dc17 pm17 an17 cd17 ct17),sl17⟩) (c17:PySem.W.codeIn K cd17 "ahead"=true) (k17:PySem.W.keepIn K (.ref f17)=true)
  (a18:PySem.W.nsIn K mainGlobals "with_at"=some (some (.ref f18))) (l18:K.lookup f18=some ⟨oc18,od18,.func (PySem.W.fnOf "with_at" "with_at" (aT gQ) (aM gQ) (av gQ) .none kV18 dc18 pm18 an18 cd18 ct18),sl18⟩) (c18:PySem.W.codeIn K cd18 "with_at"=true) (k18:PySem.W.keepIn K (.ref f18)=true)
  (a19:PySem.W.nsIn K mainGlobals "onwards"=some (some (.ref f19))) (l19:K.lookup f19=some ⟨oc19,od19,.func (PySem.W.fnOf "onwards" "onwards" (aT gS) (aM gS) (av gS) .none kV19 dc19 pm19 an19 cd19 ct19),sl19⟩) (c19:PySem.W.codeIn K cd19 "onwards"=true) (k19:PySem.W.keepIn K (.ref f19)=true)
  (a20:PySem.W.nsIn K mainGlobals "goes_through"=some (some (.ref f20))) (l20:K.lookup f20=some ⟨oc20,od20,.func (PySem.W.fnOf "goes_through" "goes_through" (aT cI) (aM cI) (av cI) .none kV20 dc20 pm20 an20 cd20 ct20),sl20⟩) (c20:PySem.W.codeIn K cd20 "goes_through"=true) (k20:PySem.W.keepIn K (.ref f20)=true)
  (a21:PySem.W.nsIn K mainGlobals "alone"=some (some (.ref f21))) (l21:K.lookup f21=some ⟨oc21,od21,.func (PySem.W.fnOf "alone" "alone" (aT kf) (aM kf) (av kf) .none kV21 dc21 pm21 an21 cd21 ct21),sl21⟩) (c21:PySem.W.codeIn K cd21 "alone"=true) (k21:PySem.W.keepIn K (.ref f21)=true)
  (a22:PySem.W.nsIn K mainGlobals "footprint"=some (some (.ref f22))) (l22:K.lookup f22=some ⟨oc22,od22,.func (PySem.W.fnOf "footprint" "footprint" (aT eE) (aM eE) (av eE) .none kV22 dc22 pm22 an22 cd22 ct22),sl22⟩) (c22:PySem.W.codeIn K cd22 "footprint"=true) (k22:PySem.W.keepIn K (.ref f22)=true)
  (a23:PySem.W.nsIn K mainGlobals "in_row"=some (some (.ref f23))) (l23:K.lookup f23=some ⟨oc23,od23,.func (PySem.W.fnOf "in_row" "in_row" (aT jb) (aM jb) (av jb) .none kV23 dc23 pm23 an23 cd23 ct23),sl23⟩) (c23:PySem.W.codeIn K cd23 "in_row"=true) (k23:PySem.W.keepIn K (.ref f23)=true)
  (a24:PySem.W.nsIn K mainGlobals "_law_pen"=some (some (.ref f24))) (l24:K.lookup f24=some ⟨oc24,od24,.func (PySem.W.fnOf "_law_pen" "_law_pen" (aT fM) (aM fM) (av fM) .none kV24 dc24 pm24 an24 cd24 ct24),sl24⟩) (c24:PySem.W.codeIn K cd24 "_law_pen"=true) (k24:PySem.W.keepIn K (.ref f24)=true)
  (a25:PySem.W.nsIn K mainGlobals "law"=some (some (.ref f25))) (l25:K.lookup f25=some ⟨oc25,od25,.func (PySem.W.fnOf "law" "law" (aT pS) (aM pS) (av pS) .none kV25 dc25 pm25 an25 cd25 ct25),sl25⟩) (c25:PySem.W.codeIn K cd25 "law"=true) (k25:PySem.W.keepIn K (.ref f25)=true)
  (aCCourse:PySem.W.nsIn K mainGlobals "Course"=some (some (.ref CCourse))) (pgCourse:PySem.W.plainGet K CCourse Str.empty=true) (hdCourse:PySem.W.hasDictIn K CCourse=true) (poCourse:PySem.W.plainOver K CCourse=true) (saCourse:PySem.W.findIn K (.ref CCourse) "__setattr__"=some (some (.builtin "object.__setattr__"))) (mkCourse:PySem.W.makesIn K CCourse=true) (kcCourse:PySem.W.keepIn K (.ref CCourse)=true)
  (nfCourse0:PySem.W.findIn K (.ref CCourse) "ends"=some none)
  (nfCourse1:PySem.W.findIn K (.ref CCourse) "looks"=some none)
  (nfCourse2:PySem.W.findIn K (.ref CCourse) "needs"=some none)
  (nfCourse3:PySem.W.findIn K (.ref CCourse) "puts"=some none)
  (nfCourse4:PySem.W.findIn K (.ref CCourse) "before"=some none)
  (a26:PySem.W.findIn K (.ref CCourse) "__init__"=some (some (.ref f26))) (i26:PySem.W.isFn K (.ref f26)=true) (l26:K.lookup f26=some ⟨oc26,od26,.func (PySem.W.fnOf "__init__" "Course.__init__" (aT dX) (aM dX) (av dX) .none kV26 dc26 pm26 an26 cd26 ct26),sl26⟩) (c26:PySem.W.codeIn K cd26 "Course.__init__"=true) (k26:PySem.W.keepIn K (.ref f26)=true)
  (a27:PySem.W.findIn K (.ref CCourse) "note_look"=some (some (.ref f27))) (i27:PySem.W.isFn K (.ref f27)=true) (l27:K.lookup f27=some ⟨oc27,od27,.func (PySem.W.fnOf "note_look" "Course.note_look" (aT bS) (aM bS) (av bS) .none kV27 dc27 pm27 an27 cd27 ct27),sl27⟩) (c27:PySem.W.codeIn K cd27 "Course.note_look"=true) (k27:PySem.W.keepIn K (.ref f27)=true)
  (a28:PySem.W.findIn K (.ref CCourse) "enter"=some (some (.ref f28))) (i28:PySem.W.isFn K (.ref f28)=true) (l28:K.lookup f28=some ⟨oc28,od28,.func (PySem.W.fnOf "enter" "Course.enter" (aT dC) (aM dC) (av dC) .none kV28 dc28 pm28 an28 cd28 ct28),sl28⟩) (c28:PySem.W.codeIn K cd28 "Course.enter"=true) (k28:PySem.W.keepIn K (.ref f28)=true)
  (a29:PySem.W.findIn K (.ref CCourse) "follow"=some (some (.ref f29))) (i29:PySem.W.isFn K (.ref f29)=true) (l29:K.lookup f29=some ⟨oc29,od29,.func (PySem.W.fnOf "follow" "Course.follow" (aT cV) (aM cV) (av cV) .none kV29 dc29 pm29 an29 cd29 ct29),sl29⟩) (c29:PySem.W.codeIn K cd29 "Course.follow"=true) (k29:PySem.W.keepIn K (.ref f29)=true)
  (a30:PySem.W.findIn K (.ref CCourse) "allows"=some (some (.ref f30))) (i30:PySem.W.isFn K (.ref f30)=true) (l30:K.lookup f30=some ⟨oc30,od30,.func (PySem.W.fnOf "allows" "Course.allows" (aT cW) (aM cW) (av cW) .none kV30 dc30 pm30 an30 cd30 ct30),sl30⟩) (c30:PySem.W.codeIn K cd30 "Course.allows"=true) (k30:PySem.W.keepIn K (.ref f30)=true)
  (aCDoing:PySem.W.nsIn K mainGlobals "Doing"=some (some (.ref CDoing))) (pgDoing:PySem.W.plainGet K CDoing Str.empty=true) (hdDoing:PySem.W.hasDictIn K CDoing=true) (poDoing:PySem.W.plainOver K CDoing=true) (saDoing:PySem.W.findIn K (.ref CDoing) "__setattr__"=some (some (.builtin "object.__setattr__"))) (mkDoing:PySem.W.makesIn K CDoing=true) (kcDoing:PySem.W.keepIn K (.ref CDoing)=true)
  (nfDoing0:PySem.W.findIn K (.ref CDoing) "wheel"=some none)
  (nfDoing1:PySem.W.findIn K (.ref CDoing) "held"=some none)
  (nfDoing2:PySem.W.findIn K (.ref CDoing) "puts"=some none)
  (nfDoing3:PySem.W.findIn K (.ref CDoing) "part"=some none)
  (a31:PySem.W.findIn K (.ref CDoing) "__init__"=some (some (.ref f31))) (i31:PySem.W.isFn K (.ref f31)=true) (l31:K.lookup f31=some ⟨oc31,od31,.func (PySem.W.fnOf "__init__" "Doing.__init__" (aT eN) (aM eN) (av eN) .none kV31 dc31 pm31 an31 cd31 ct31),sl31⟩) (c31:PySem.W.codeIn K cd31 "Doing.__init__"=true) (k31:PySem.W.keepIn K (.ref f31)=true)
  (a32:PySem.W.findIn K (.ref CDoing) "deed"=some (some (.ref f32))) (i32:PySem.W.isFn K (.ref f32)=true) (l32:K.lookup f32=some ⟨oc32,od32,.func (PySem.W.fnOf "deed" "Doing.deed" (aT eQ) (aM eQ) (av eQ) .none kV32 dc32 pm32 an32 cd32 ct32),sl32⟩) (c32:PySem.W.codeIn K cd32 "Doing.deed"=true) (k32:PySem.W.keepIn K (.ref f32)=true)
  (a33:PySem.W.findIn K (.ref CDoing) "asks"=some (some (.ref f33))) (i33:PySem.W.isFn K (.ref f33)=true) (l33:K.lookup f33=some ⟨oc33,od33,.func (PySem.W.fnOf "asks" "Doing.asks" (aT eR) (aM eR) (av eR) .none kV33 dc33 pm33 an33 cd33 ct33),sl33⟩) (c33:PySem.W.codeIn K cd33 "Doing.asks"=true) (k33:PySem.W.keepIn K (.ref f33)=true)
  (a34:PySem.W.findIn K (.ref CDoing) "hold"=some (some (.ref f34))) (i34:PySem.W.isFn K (.ref f34)=true) (l34:K.lookup f34=some ⟨oc34,od34,.func (PySem.W.fnOf "hold" "Doing.hold" (aT eO) (aM eO) (av eO) .none kV34 dc34 pm34 an34 cd34 ct34),sl34⟩) (c34:PySem.W.codeIn K cd34 "Doing.hold"=true) (k34:PySem.W.keepIn K (.ref f34)=true)
  (a35:PySem.W.findIn K (.ref CDoing) "part_behind"=some (some (.ref f35))) (i35:PySem.W.isFn K (.ref f35)=true) (l35:K.lookup f35=some ⟨oc35,od35,.func (PySem.W.fnOf "part_behind" "Doing.part_behind" (aT bJ) (aM bJ) (av bJ) .none kV35 dc35 pm35 an35 cd35 ct35),sl35⟩) (c35:PySem.W.codeIn K cd35 "Doing.part_behind"=true) (k35:PySem.W.keepIn K (.ref f35)=true)
  (a36:PySem.W.findIn K (.ref CDoing) "go_behind"=some (some (.ref f36))) (i36:PySem.W.isFn K (.ref f36)=true) (l36:K.lookup f36=some ⟨oc36,od36,.func (PySem.W.fnOf "go_behind" "Doing.go_behind" (aT b7) (aM b7) (av b7) .none kV36 dc36 pm36 an36 cd36 ct36),sl36⟩) (c36:PySem.W.codeIn K cd36 "Doing.go_behind"=true) (k36:PySem.W.keepIn K (.ref f36)=true)
  (a37:PySem.W.findIn K (.ref CDoing) "hear"=some (some (.ref f37))) (i37:PySem.W.isFn K (.ref f37)=true) (l37:K.lookup f37=some ⟨oc37,od37,.func (PySem.W.fnOf "hear" "Doing.hear" (aT eP) (aM eP) (av eP) .none kV37 dc37 pm37 an37 cd37 ct37),sl37⟩) (c37:PySem.W.codeIn K cd37 "Doing.hear"=true) (k37:PySem.W.keepIn K (.ref f37)=true)
  (a38:PySem.W.findIn K (.ref CDoing) "enter_try"=some (some (.ref f38))) (i38:PySem.W.isFn K (.ref f38)=true) (l38:K.lookup f38=some ⟨oc38,od38,.func (PySem.W.fnOf "enter_try" "Doing.enter_try" (aT b8) (aM b8) (av b8) .none kV38 dc38 pm38 an38 cd38 ct38),sl38⟩) (c38:PySem.W.codeIn K cd38 "Doing.enter_try"=true) (k38:PySem.W.keepIn K (.ref f38)=true)
  (a39:PySem.W.findIn K (.ref CDoing) "goes_back"=some (some (.ref f39))) (i39:PySem.W.isFn K (.ref f39)=true) (l39:K.lookup f39=some ⟨oc39,od39,.func (PySem.W.fnOf "goes_back" "Doing.goes_back" (aT b6) (aM b6) (av b6) .none kV39 dc39 pm39 an39 cd39 ct39),sl39⟩) (c39:PySem.W.codeIn K cd39 "Doing.goes_back"=true) (k39:PySem.W.keepIn K (.ref f39)=true)
  (a40:PySem.W.findIn K (.ref CDoing) "do_deed"=some (some (.ref f40))) (i40:PySem.W.isFn K (.ref f40)=true) (l40:K.lookup f40=some ⟨oc40,od40,.func (PySem.W.fnOf "do_deed" "Doing.do_deed" (aT cU) (aM cU) (av cU) .none kV40 dc40 pm40 an40 cd40 ct40),sl40⟩) (c40:PySem.W.codeIn K cd40 "Doing.do_deed"=true) (k40:PySem.W.keepIn K (.ref f40)=true)
  (a41:PySem.W.findIn K (.ref CDoing) "put_pairs"=some (some (.ref f41))) (i41:PySem.W.isFn K (.ref f41)=true) (l41:K.lookup f41=some ⟨oc41,od41,.func (PySem.W.fnOf "put_pairs" "Doing.put_pairs" (aT b5) (aM b5) (av b5) .none kV41 dc41 pm41 an41 cd41 ct41),sl41⟩) (c41:PySem.W.codeIn K cd41 "Doing.put_pairs"=true) (k41:PySem.W.keepIn K (.ref f41)=true)
  (g42:PySem.W.nsIn K mainGlobals "LAST_ATTEMPT"=some (some (.int (199) tk42)))
  (g43:PySem.W.nsIn K mainGlobals "MOST_EVENTS"=some (some (.int (2000) tk43)))
  (z44:PySem.W.nsIn K mainGlobals "len"=some none)
  (z45:PySem.W.nsIn K mainGlobals "isinstance"=some none)
  (z46:PySem.W.nsIn K mainGlobals "int"=some none)
  (z47:PySem.W.nsIn K mainGlobals "bool"=some none)
  (z48:PySem.W.nsIn K mainGlobals "str"=some none)
  (z49:PySem.W.nsIn K mainGlobals "tuple"=some none)
  (z50:PySem.W.nsIn K mainGlobals "list"=some none)
  (z51:PySem.W.nsIn K mainGlobals "range"=some none)
  (z52:PySem.W.nsIn K mainGlobals "min"=some none)
  (z53:PySem.W.nsIn K mainGlobals "sum"=some none)
  (z54:PySem.W.nsIn K mainGlobals "all"=some none)
  (z55:PySem.W.nsIn K mainGlobals "zip"=some none)
  (z56:PySem.W.nsIn K mainGlobals "sorted"=some none)
  (z57:PySem.W.nsIn K mainGlobals "dict"=some none)
  (z58:PySem.W.nsIn K mainGlobals "enumerate"=some none)
  (z59:PySem.W.nsIn K mainGlobals "any"=some none)
  (z60:PySem.W.nsIn K mainGlobals "max"=some none)
  (z61:PySem.W.nsIn K mainGlobals "set"=some none) :
  ∃fd:FuncData,(∀(s:Shared) (v:Value),BindsTo s fd ⟨[v],[]⟩ [("script",v)])/\∀base:Heap,K.In base->base.Ns mainGlobals mg->nr l.prog w K mg base CX0 7 fa fd ["script"] (Ce K):=by
 have e:=hfa.symm.trans (PySem.W.mg_of X G a25)
 cases e
 have F__law_take:=bA (st:=eI) l1 c1 k1
 have D__law_take:Def K mg "_law_take" eI ["pen","many"]:=⟨_,_,F__law_take,F__law_take.binds (ps:=["pen","many"]) fun _ _ _ _ _ _=>dg fun _=>dg fun _=>iT rfl,PySem.W.mg_of X G a1⟩
 have F__law_world:=bA (st:=dM) l2 c2 k2
 have D__law_world:Def K mg "_law_world" dM ["pen"]:=⟨_,_,F__law_world,F__law_world.binds (ps:=["pen"]) fun _ _ _ _ _ _=>dg fun _=>iT rfl,PySem.W.mg_of X G a2⟩
 have F__law_state:=bA (st:=dN) l3 c3 k3
 have D__law_state:Def K mg "_law_state" dN ["pen","world"]:=⟨_,_,F__law_state,F__law_state.binds (ps:=["pen","world"]) fun _ _ _ _ _ _=>dg fun _=>dg fun _=>iT rfl,PySem.W.mg_of X G a3⟩
 have F__law_size:=bA (st:=eJ) l4 c4 k4
 have D__law_size:Def K mg "_law_size" eJ ["dealing"]:=⟨_,_,F__law_size,F__law_size.binds (ps:=["dealing"]) fun _ _ _ _ _ _=>dg fun _=>iT rfl,PySem.W.mg_of X G a4⟩
 have F__law_plain_deed:=bA (st:=bI) l5 c5 k5
 have D__law_plain_deed:Def K mg "_law_plain_deed" bI ["pen","world","way","hand"]:=⟨_,_,F__law_plain_deed,F__law_plain_deed.binds (ps:=["pen","world","way","hand"]) fun _ _ _ _ _ _=>dg fun _=>dg fun _=>dg fun _=>dg fun _=>iT rfl,PySem.W.mg_of X G a5⟩
 have F__law_dealing:=bA (st:=cK) l6 c6 k6
 have D__law_dealing:Def K mg "_law_dealing" cK ["pen","world","room","tries"]:=⟨_,_,F__law_dealing,F__law_dealing.binds (ps:=["pen","world","room","tries"]) fun _ _ _ _ _ _=>dg fun _=>dg fun _=>dg fun _=>dg fun _=>iT rfl,PySem.W.mg_of X G a6⟩
 have F__law_names:=bA (st:=dP) l7 c7 k7
 have D__law_names:Def K mg "_law_names" dP ["pen","many"]:=⟨_,_,F__law_names,F__law_names.binds (ps:=["pen","many"]) fun _ _ _ _ _ _=>dg fun _=>dg fun _=>iT rfl,PySem.W.mg_of X G a7⟩
 have F_is_whole:=bA (st:=fH) l8 c8 k8
 have D_is_whole:Def K mg "is_whole" fH ["thing"]:=⟨_,_,F_is_whole,F_is_whole.binds (ps:=["thing"]) fun _ _ _ _ _ _=>dg fun _=>iT rfl,PySem.W.mg_of X G a8⟩
 have F_is_within:=bA (st:=eD) l9 c9 k9
 have D_is_within:Def K mg "is_within" eD ["thing","least","most"]:=⟨_,_,F_is_within,F_is_within.binds (ps:=["thing","least","most"]) fun _ _ _ _ _ _=>dg fun _=>dg fun _=>dg fun _=>iT rfl,PySem.W.mg_of X G a9⟩
 have F_is_event:=bA (st:=fJ) l10 c10 k10
 have D_is_event:Def K mg "is_event" fJ ["world","thing"]:=⟨_,_,F_is_event,F_is_event.binds (ps:=["world","thing"]) fun _ _ _ _ _ _=>dg fun _=>dg fun _=>iT rfl,PySem.W.mg_of X G a10⟩
 have F_is_log:=bA (st:=ja) l11 c11 k11
 have D_is_log:Def K mg "is_log" ja ["world","thing"]:=⟨_,_,F_is_log,F_is_log.binds (ps:=["world","thing"]) fun _ _ _ _ _ _=>dg fun _=>dg fun _=>iT rfl,PySem.W.mg_of X G a11⟩
 have F_course_of:=bA (st:=eF) l12 c12 k12
 have D_course_of:Def K mg "course_of" eF ["log"]:=⟨_,_,F_course_of,F_course_of.binds (ps:=["log"]) fun _ _ _ _ _ _=>dg fun _=>iT rfl,PySem.W.mg_of X G a12⟩
 have F_attempts:=bA (st:=fK) l13 c13 k13
 have D_attempts:Def K mg "attempts" fK ["log"]:=⟨_,_,F_attempts,F_attempts.binds (ps:=["log"]) fun _ _ _ _ _ _=>dg fun _=>iT rfl,PySem.W.mg_of X G a13⟩
 have F_end_of:=bA (st:=jc) l14 c14 k14
 have D_end_of:Def K mg "end_of" jc ["log","a"]:=⟨_,_,F_end_of,F_end_of.binds (ps:=["log","a"]) fun _ _ _ _ _ _=>dg fun _=>dg fun _=>iT rfl,PySem.W.mg_of X G a14⟩
 have F_outer_looks:=bA (st:=dj) l15 c15 k15
 have D_outer_looks:Def K mg "outer_looks" dj ["log","a"]:=⟨_,_,F_outer_looks,F_outer_looks.binds (ps:=["log","a"]) fun _ _ _ _ _ _=>dg fun _=>dg fun _=>iT rfl,PySem.W.mg_of X G a15⟩
 have F_puts_of:=bA (st:=gR) l16 c16 k16
 have D_puts_of:Def K mg "puts_of" gR ["log","a"]:=⟨_,_,F_puts_of,F_puts_of.binds (ps:=["log","a"]) fun _ _ _ _ _ _=>dg fun _=>dg fun _=>iT rfl,PySem.W.mg_of X G a16⟩
 have F_ahead:=bA (st:=kg) l17 c17 k17
 have D_ahead:Def K mg "ahead" kg ["log"]:=⟨_,_,F_ahead,F_ahead.binds (ps:=["log"]) fun _ _ _ _ _ _=>dg fun _=>iT rfl,PySem.W.mg_of X G a17⟩
 have F_with_at:=bA (st:=gQ) l18 c18 k18
 have D_with_at:Def K mg "with_at" gQ ["row","place","value"]:=⟨_,_,F_with_at,F_with_at.binds (ps:=["row","place","value"]) fun _ _ _ _ _ _=>dg fun _=>dg fun _=>dg fun _=>iT rfl,PySem.W.mg_of X G a18⟩
 have F_onwards:=bA (st:=gS) l19 c19 k19
 have D_onwards:Def K mg "onwards" gS ["part"]:=⟨_,_,F_onwards,F_onwards.binds (ps:=["part"]) fun _ _ _ _ _ _=>dg fun _=>iT rfl,PySem.W.mg_of X G a19⟩
 have F_goes_through:=bA (st:=cI) l20 c20 k20
 have D_goes_through:Def K mg "goes_through" cI ["doing","state","looked"]:=⟨_,_,F_goes_through,F_goes_through.binds (ps:=["doing","state","looked"]) fun _ _ _ _ _ _=>dg fun _=>dg fun _=>dg fun _=>iT rfl,PySem.W.mg_of X G a20⟩
 have F_alone:=bA (st:=kf) l21 c21 k21
 have D_alone:Def K mg "alone" kf ["world","dealing","state"]:=⟨_,_,F_alone,F_alone.binds (ps:=["world","dealing","state"]) fun _ _ _ _ _ _=>dg fun _=>dg fun _=>dg fun _=>iT rfl,PySem.W.mg_of X G a21⟩
 have F_footprint:=bA (st:=eE) l22 c22 k22
 have D_footprint:Def K mg "footprint" eE ["world","dealing","state"]:=⟨_,_,F_footprint,F_footprint.binds (ps:=["world","dealing","state"]) fun _ _ _ _ _ _=>dg fun _=>dg fun _=>dg fun _=>iT rfl,PySem.W.mg_of X G a22⟩
 have F_in_row:=bA (st:=jb) l23 c23 k23
 have D_in_row:Def K mg "in_row" jb ["world","dealings","state","order"]:=⟨_,_,F_in_row,F_in_row.binds (ps:=["world","dealings","state","order"]) fun _ _ _ _ _ _=>dg fun _=>dg fun _=>dg fun _=>dg fun _=>iT rfl,PySem.W.mg_of X G a23⟩
 have F__law_pen:=bA (st:=fM) l24 c24 k24
 have D__law_pen:Def K mg "_law_pen" fM ["script"]:=⟨_,_,F__law_pen,F__law_pen.binds (ps:=["script"]) fun _ _ _ _ _ _=>dg fun _=>iT rfl,PySem.W.mg_of X G a24⟩
 have F_law:=bA (st:=pS) l25 c25 k25
 have D_law:Def K mg "law" pS ["script"]:=⟨_,_,F_law,F_law.binds (ps:=["script"]) fun _ _ _ _ _ _=>dg fun _=>iT rfl,PySem.W.mg_of X G a25⟩
 have TCourse:TC K (⟨CCourse,["ends","looks","needs","puts","before"]⟩:Cl) ["ends","looks","needs","puts","before"]:=⟨⟨pgCourse,hdCourse,poCourse,saCourse⟩,rfl,fun f hf=>by
  simp only[List.mem_cons,List.not_mem_nil,or_false]at hf
  rcases hf with rfl|rfl|rfl|rfl|rfl
  ·exact nfCourse0
  ·exact nfCourse1
  ·exact nfCourse2
  ·exact nfCourse3
  ·exact nfCourse4⟩
 have mgC_Course:=PySem.W.mg_of X G aCCourse
 have F_Course_init:=bA (st:=dX) l26 c26 k26
 have bi_Course_init:=F_Course_init.binds (ps:=["self"]) fun _ _ _ _ _ _=>dg fun _=>iT rfl
 have mk_Course:Mk K (⟨CCourse,["ends","looks","needs","puts","before"]⟩:Cl).C f26:=⟨mkCourse,a26,i26,kcCourse⟩
 have F_Course_note_look:=bA (st:=bS) l27 c27 k27
 have bi_Course_note_look:=F_Course_note_look.binds (ps:=["self","a","box","number"]) fun _ _ _ _ _ _=>dg fun _=>dg fun _=>dg fun _=>dg fun _=>iT rfl
 have mt_Course_note_look:jV K (⟨CCourse,["ends","looks","needs","puts","before"]⟩:Cl).C "note_look" f27:=⟨a27,i27,k27⟩
 have F_Course_enter:=bA (st:=dC) l28 c28 k28
 have bi_Course_enter:=F_Course_enter.binds (ps:=["self","a"]) fun _ _ _ _ _ _=>dg fun _=>dg fun _=>iT rfl
 have mt_Course_enter:jV K (⟨CCourse,["ends","looks","needs","puts","before"]⟩:Cl).C "enter" f28:=⟨a28,i28,k28⟩
 have F_Course_follow:=bA (st:=cV) l29 c29 k29
 have bi_Course_follow:=F_Course_follow.binds (ps:=["self","event"]) fun _ _ _ _ _ _=>dg fun _=>dg fun _=>iT rfl
 have mt_Course_follow:jV K (⟨CCourse,["ends","looks","needs","puts","before"]⟩:Cl).C "follow" f29:=⟨a29,i29,k29⟩
 have F_Course_allows:=bA (st:=cW) l30 c30 k30
 have bi_Course_allows:=F_Course_allows.binds (ps:=["self","event"]) fun _ _ _ _ _ _=>dg fun _=>dg fun _=>iT rfl
 have mt_Course_allows:jV K (⟨CCourse,["ends","looks","needs","puts","before"]⟩:Cl).C "allows" f30:=⟨a30,i30,k30⟩
 have TDoing:TC K (⟨CDoing,["wheel","held","puts","part"]⟩:Cl) ["wheel","held","puts","part"]:=⟨⟨pgDoing,hdDoing,poDoing,saDoing⟩,rfl,fun f hf=>by
  simp only[List.mem_cons,List.not_mem_nil,or_false]at hf
  rcases hf with rfl|rfl|rfl|rfl
  ·exact nfDoing0
  ·exact nfDoing1
  ·exact nfDoing2
  ·exact nfDoing3⟩
 have mgC_Doing:=PySem.W.mg_of X G aCDoing
 have F_Doing_init:=bA (st:=eN) l31 c31 k31
 have bi_Doing_init:=F_Doing_init.binds (ps:=["self","world","dealing"]) fun _ _ _ _ _ _=>dg fun _=>dg fun _=>dg fun _=>iT rfl
 have mk_Doing:Mk K (⟨CDoing,["wheel","held","puts","part"]⟩:Cl).C f31:=⟨mkDoing,a31,i31,kcDoing⟩
 have F_Doing_deed:=bA (st:=eQ) l32 c32 k32
 have bi_Doing_deed:=F_Doing_deed.binds (ps:=["self"]) fun _ _ _ _ _ _=>dg fun _=>iT rfl
 have mt_Doing_deed:jV K (⟨CDoing,["wheel","held","puts","part"]⟩:Cl).C "deed" f32:=⟨a32,i32,k32⟩
 have F_Doing_asks:=bA (st:=eR) l33 c33 k33
 have bi_Doing_asks:=F_Doing_asks.binds (ps:=["self"]) fun _ _ _ _ _ _=>dg fun _=>iT rfl
 have mt_Doing_asks:jV K (⟨CDoing,["wheel","held","puts","part"]⟩:Cl).C "asks" f33:=⟨a33,i33,k33⟩
 have F_Doing_hold:=bA (st:=eO) l34 c34 k34
 have bi_Doing_hold:=F_Doing_hold.binds (ps:=["self","hand","number"]) fun _ _ _ _ _ _=>dg fun _=>dg fun _=>dg fun _=>iT rfl
 have mt_Doing_hold:jV K (⟨CDoing,["wheel","held","puts","part"]⟩:Cl).C "hold" f34:=⟨a34,i34,k34⟩
 have F_Doing_part_behind:=bA (st:=bJ) l35 c35 k35
 have bi_Doing_part_behind:=F_Doing_part_behind.binds (ps:=["self","left_out"]) fun _ _ _ _ _ _=>dg fun _=>dg fun _=>iT rfl
 have mt_Doing_part_behind:jV K (⟨CDoing,["wheel","held","puts","part"]⟩:Cl).C "part_behind" f35:=⟨a35,i35,k35⟩
 have F_Doing_go_behind:=bA (st:=b7) l36 c36 k36
 have bi_Doing_go_behind:=F_Doing_go_behind.binds (ps:=["self","left_out"]) fun _ _ _ _ _ _=>dg fun _=>dg fun _=>iT rfl
 have mt_Doing_go_behind:jV K (⟨CDoing,["wheel","held","puts","part"]⟩:Cl).C "go_behind" f36:=⟨a36,i36,k36⟩
 have F_Doing_hear:=bA (st:=eP) l37 c37 k37
 have bi_Doing_hear:=F_Doing_hear.binds (ps:=["self","number"]) fun _ _ _ _ _ _=>dg fun _=>dg fun _=>iT rfl
 have mt_Doing_hear:jV K (⟨CDoing,["wheel","held","puts","part"]⟩:Cl).C "hear" f37:=⟨a37,i37,k37⟩
 have F_Doing_enter_try:=bA (st:=b8) l38 c38 k38
 have bi_Doing_enter_try:=F_Doing_enter_try.binds (ps:=["self","one","other"]) fun _ _ _ _ _ _=>dg fun _=>dg fun _=>dg fun _=>iT rfl
 have mt_Doing_enter_try:jV K (⟨CDoing,["wheel","held","puts","part"]⟩:Cl).C "enter_try" f38:=⟨a38,i38,k38⟩
 have F_Doing_goes_back:=bA (st:=b6) l39 c39 k39
 have bi_Doing_goes_back:=F_Doing_goes_back.binds (ps:=["self"]) fun _ _ _ _ _ _=>dg fun _=>iT rfl
 have mt_Doing_goes_back:jV K (⟨CDoing,["wheel","held","puts","part"]⟩:Cl).C "goes_back" f39:=⟨a39,i39,k39⟩
 have F_Doing_do_deed:=bA (st:=cU) l40 c40 k40
 have bi_Doing_do_deed:=F_Doing_do_deed.binds (ps:=["self"]) fun _ _ _ _ _ _=>dg fun _=>iT rfl
 have mt_Doing_do_deed:jV K (⟨CDoing,["wheel","held","puts","part"]⟩:Cl).C "do_deed" f40:=⟨a40,i40,k40⟩
 have F_Doing_put_pairs:=bA (st:=b5) l41 c41 k41
 have bi_Doing_put_pairs:=F_Doing_put_pairs.binds (ps:=["self"]) fun _ _ _ _ _ _=>dg fun _=>iT rfl
 have mt_Doing_put_pairs:jV K (⟨CDoing,["wheel","held","puts","part"]⟩:Cl).C "put_pairs" f41:=⟨a41,i41,k41⟩
 have C_LAST_ATTEMPT:∃t,mg "LAST_ATTEMPT"=some (.int (199) t):=⟨_,PySem.W.mg_of X G g42⟩
 have C_MOST_EVENTS:∃t,mg "MOST_EVENTS"=some (.int (2000) t):=⟨_,PySem.W.mg_of X G g43⟩
 have B:Blt mg:=⟨PySem.W.mg_none_of X G z44,PySem.W.mg_none_of X G z45,PySem.W.mg_none_of X G z46,PySem.W.mg_none_of X G z47,PySem.W.mg_none_of X G z48,PySem.W.mg_none_of X G z49,PySem.W.mg_none_of X G z50,PySem.W.mg_none_of X G z51,PySem.W.mg_none_of X G z52,PySem.W.mg_none_of X G z53,PySem.W.mg_none_of X G z54,PySem.W.mg_none_of X G z55,PySem.W.mg_none_of X G z56,PySem.W.mg_none_of X G z57,PySem.W.mg_none_of X G z58,PySem.W.mg_none_of X G z59,PySem.W.mg_none_of X G z60,PySem.W.mg_none_of X G z61⟩
 refine⟨PySem.W.fnOf "law" "law" (aT pS) (aM pS) (av pS) .none kV25 dc25 pm25 an25 cd25 ct25,fun s v=>.of_eq rfl,fun base _ _=>?_⟩
 have Gp:=Hk (P:=l.prog) (w:=w) (base:=base) (k:=0) B D__law_pen
 have aF:=vn (P:=l.prog) (w:=w) (base:=base) (k:=0) D__law_take B 
 have jM:=uc (P:=l.prog) (w:=w) (base:=base) (k:=1) D__law_world B aF
 have jN:=ud (P:=l.prog) (w:=w) (base:=base) (k:=1) D__law_state B aF
 have nq:dU l.prog w K mg base "_law_size" 1 ["dealing"] (yv 0):=km (P:=l.prog) (w:=w) (base:=base) (k:=0) D__law_size B (D__law_size.no)
 have nk:dU l.prog w K mg base "_law_size" 2 ["dealing"] (yv 1):=km (P:=l.prog) (w:=w) (base:=base) (k:=1) D__law_size B nq
 have uK:dU l.prog w K mg base "_law_size" 3 ["dealing"] (yv 2):=km (P:=l.prog) (w:=w) (base:=base) (k:=2) D__law_size B nk
 have cg:=lV (P:=l.prog) (w:=w) (base:=base) (k:=1) D__law_plain_deed B aF
 have pN:dU l.prog w K mg base "_law_dealing" 3 ["pen","world","room","tries"] (qe 0):=fW (P:=l.prog) (w:=w) (base:=base) (k:=2) D__law_dealing B (Has.mono aF (by decide)) cg (D__law_dealing.no) (D__law_size.no)
 have pM:dU l.prog w K mg base "_law_dealing" 4 ["pen","world","room","tries"] (qe 1):=fW (P:=l.prog) (w:=w) (base:=base) (k:=3) D__law_dealing B (Has.mono aF (by decide)) (Has.mono cg (by decide)) pN (Has.mono nq (by decide))
 have pL:dU l.prog w K mg base "_law_dealing" 5 ["pen","world","room","tries"] (qe 2):=fW (P:=l.prog) (w:=w) (base:=base) (k:=4) D__law_dealing B (Has.mono aF (by decide)) (Has.mono cg (by decide)) pM (Has.mono nk (by decide))
 have pK:dU l.prog w K mg base "_law_dealing" 6 ["pen","world","room","tries"] (qe 3):=fW (P:=l.prog) (w:=w) (base:=base) (k:=5) D__law_dealing B (Has.mono aF (by decide)) (Has.mono cg (by decide)) pL (Has.mono uK (by decide))
 have jO:=ue (P:=l.prog) (w:=w) (base:=base) (k:=1) D__law_names B aF
 have my:=yd (P:=l.prog) (w:=w) (base:=base) (k:=0) D_is_whole B 
 have hU:=vj (P:=l.prog) (w:=w) (base:=base) (k:=1) D_is_within B my
 have M_Course_note_look:=lB (P:=l.prog) (w:=w) (base:=base) (k:=0) F_Course_note_look bi_Course_note_look mt_Course_note_look B TCourse
 have M_Course_enter:=pZ (P:=l.prog) (w:=w) (base:=base) (k:=0) F_Course_enter bi_Course_enter mt_Course_enter B TCourse
 have M_Course_follow:=o6 (P:=l.prog) (w:=w) (base:=base) (k:=1) F_Course_follow bi_Course_follow mt_Course_follow B TCourse M_Course_enter M_Course_note_look
 have M_Course_init:=rX (P:=l.prog) (w:=w) (base:=base) (k:=0) F_Course_init bi_Course_init mk_Course mgC_Course B TCourse
 have M_Course_allows:=o7 (P:=l.prog) (w:=w) (base:=base) (k:=0) F_Course_allows bi_Course_allows mt_Course_allows B TCourse
 have mz:=ye (P:=l.prog) (w:=w) (base:=base) (k:=2) D_is_event B C_LAST_ATTEMPT hU
 have sJ:=Dv (P:=l.prog) (w:=w) (base:=base) (k:=2) D_is_log B C_MOST_EVENTS TCourse mz (M_Course_allows.mono (by decide)) (M_Course_follow.mono (by decide)) (M_Course_init.mono (by decide))
 have bz:=vm (P:=l.prog) (w:=w) (base:=base) (k:=1) D_course_of B TCourse M_Course_follow M_Course_init
 have mB:=yf (P:=l.prog) (w:=w) (base:=base) (k:=3) D_attempts B TCourse bz
 have sM:=Dx (P:=l.prog) (w:=w) (base:=base) (k:=3) D_end_of B TCourse bz
 have ji:=rW (P:=l.prog) (w:=w) (base:=base) (k:=3) D_outer_looks B TCourse bz
 have pJ:=Az (P:=l.prog) (w:=w) (base:=base) (k:=3) D_puts_of B TCourse bz
 have vQ:=Hm (P:=l.prog) (w:=w) (base:=base) (k:=3) D_ahead B TCourse bz
 have iY:=Ay (P:=l.prog) (w:=w) (base:=base) (k:=0) D_with_at B 
 have eA:=AA (P:=l.prog) (w:=w) (base:=base) (k:=0) (fuel:=100) D_onwards B 
 have M_Doing_deed:=ui (P:=l.prog) (w:=w) (base:=base) (k:=0) F_Doing_deed bi_Doing_deed mt_Doing_deed B TDoing
 have M_Doing_asks:=uj (P:=l.prog) (w:=w) (base:=base) (k:=1) F_Doing_asks bi_Doing_asks mt_Doing_asks B TDoing M_Doing_deed
 have M_Doing_hold:=ug (P:=l.prog) (w:=w) (base:=base) (k:=1) F_Doing_hold bi_Doing_hold mt_Doing_hold B TDoing iY
 have M_Doing_part_behind:=kn (P:=l.prog) (w:=w) (base:=base) (k:=0) F_Doing_part_behind bi_Doing_part_behind mt_Doing_part_behind B TDoing
 have M_Doing_go_behind:=lZ (P:=l.prog) (w:=w) (base:=base) (k:=1) F_Doing_go_behind bi_Doing_go_behind mt_Doing_go_behind B TDoing eA M_Doing_part_behind
 have M_Doing_hear:=uh (P:=l.prog) (w:=w) (base:=base) (k:=2) F_Doing_hear bi_Doing_hear mt_Doing_hear B TDoing M_Doing_hold (M_Doing_deed.mono (by decide)) M_Doing_go_behind
 have M_Doing_enter_try:=ma (P:=l.prog) (w:=w) (base:=base) (k:=1) F_Doing_enter_try bi_Doing_enter_try mt_Doing_enter_try B TDoing eA M_Doing_part_behind
 have M_Doing_goes_back:=lX (P:=l.prog) (w:=w) (base:=base) (k:=0) F_Doing_goes_back bi_Doing_goes_back mt_Doing_goes_back B TDoing
 have M_Doing_do_deed:=oZ (P:=l.prog) (w:=w) (base:=base) (k:=2) F_Doing_do_deed bi_Doing_do_deed mt_Doing_do_deed B TDoing (Has.mono iY (by decide)) (M_Doing_deed.mono (by decide)) (M_Doing_goes_back.mono (by decide)) M_Doing_enter_try M_Doing_hold M_Doing_go_behind
 have M_Doing_put_pairs:=lW (P:=l.prog) (w:=w) (base:=base) (k:=0) F_Doing_put_pairs bi_Doing_put_pairs mt_Doing_put_pairs B TDoing
 have M_Doing_init:=uf (P:=l.prog) (w:=w) (base:=base) (k:=1) F_Doing_init bi_Doing_init mk_Doing mgC_Doing B TDoing eA
 have dF:=pY (P:=l.prog) (w:=w) (base:=base) (k:=3) (fuel:=20000000) D_goes_through B TDoing (M_Doing_deed.mono (by decide)) (M_Doing_asks.mono (by decide)) M_Doing_hear M_Doing_do_deed
 have mC:=Hl (P:=l.prog) (w:=w) (base:=base) (k:=3) D_alone B TDoing dF (M_Doing_put_pairs.mono (by decide)) (M_Doing_init.mono (by decide))
 have kx:=vk (P:=l.prog) (w:=w) (base:=base) (k:=3) D_footprint B TDoing dF (M_Doing_put_pairs.mono (by decide)) (M_Doing_init.mono (by decide))
 have sL:=Dw (P:=l.prog) (w:=w) (base:=base) (k:=5) D_in_row B mC
 exact M3 (P:=l.prog) (w:=w) (base:=base) (k:=6) F_law B (Has.mono Gp (by decide)) (Has.mono jM (by decide)) (Has.mono jN (by decide)) (Has.mono aF (by decide)) pK (Has.mono jO (by decide)) (Has.mono kx (by decide)) (Has.mono mC (by decide)) (Has.mono sJ (by decide)) (Has.mono mB (by decide)) (Has.mono sM (by decide)) (Has.mono pJ (by decide)) (Has.mono ji (by decide)) (Has.mono vQ (by decide)) sL fun ns a c ha hc=>Ki (c:=⟨CCourse,_⟩) (cD:=⟨CDoing,_⟩) rfl rfl ns a c ha hc
theorem Om{l:PySem.W.OpenLaw}{q:Program}{loose:List Str}{XP:(Str->Option Value)->Heap->Prop}{YP:World->Heap->Prop}{d:DefRec}{K:Params->PySem.W.Frag}(hn:l.most=some 63)(hdf:d.params.defaults=[])
  (hY:∀(w:World) (h:Heap),YP w h->(K w.params).In h)
  (F:∀(w:World) (mg:Str->Option Value) (fa:Addr) (h:Heap),(K w.params).In h->h.Ns mainGlobals mg->mg d.name=some (.ref fa)->
   ∃fd:FuncData,(∀(s:Shared) (u:Value),BindsTo s fd ⟨[u],[]⟩ [("script",u)])/\∀base:Heap,(K w.params).In base->base.Ns mainGlobals mg->nr l.prog w (K w.params) mg base CX0 7 fa fd ["script"] (Ce (K w.params))) :
  PySem.W.WalkO q loose XP YP l.row.toRowW d [] (fun f vs=>PySem.call f vs):=
 L2.FQ (n:=63) (k:=7) (x:="script") (CX:=fun _=>CX0) (sp:=fun w=>Ce (K w.params)) hn (by decide) hdf ⟨rfl,by decide,by decide,rfl⟩ hY F (fun _ _ a ns hl _ hS=>⟨a,ns,rfl,hS,hl,fun _=>rfl⟩) fun _ _ _ _ _ z=>z
end OL
namespace PySem.W.Fast
def tw16674519267759552562:=0
def tw14288202083666258049:=0
def tw15351709096024216873:=0
def tw12583678097838834665:=0
def tw3570341387697271817:=0
def tw11967210614917342837:=0
def tw8692229593815074794:=0
def tw601062815425840432:=0
def tw2675102730655032231:=0
def tw4869631719878170829:=0
def tw12383074706318823048:=0
def tw13095347660294047586:=0
def tw278057216317822394:=0
def tw17336629129468647514:=0
def tw6415447204716628191:=0
def tw10271186215379704385:=0
def tw12422366854960398562:=0
def tw2822851014145696952:=0
def tw8487054329077666511:=0
def tw3086125799168824841:=0
def tw2854808400982342768:=0
def tw7802154482871927454:=0
def tw1526635826725630923:=0
def tw10818206514463831889:=0
def tw6923974528915663652:=0
def tw9641380365414684687:=0
def tw16619540635987951659:=0
def tw15637827754342441154:=0
def tw7588282398447568821:=0
def tw11228164951370013632:=0
def tw3620082845041868138:=0
def tw2738190019550811329:=0
def tw9116461832364896522:=0
def tw11327476028307049380:=0
def tw17625604424617221442:=0
def tw5346768451356655923:=0
def tw15960556986544692657:=0
def tw11859608276674398046:=0
def tw7979153988485650922:=0
def tw15609325670584274711:=0
def tw15390842136314306744:=0
def tw4841528828666785835:=0
def tw3314915723795330088:=0
def tw7712281368260142021:=0
def tw6684411995427972181:=0
def tw3852813762426659503:=0
def tw4484820682638338696:=0
def tw6470413833335957252:=0
def tw1326659666219630087:=0
def tw8551297757867315176:=0
def tw9741742045943095640:=0
def tw5478279997041855267:=0
def tw11319945588770344315:=0
def tw2832955751922895984:=0
def tw17472741134879384479:=0
def tw6509824070859076962:=0
def tw15298100509447533927:=0
def tw15694984066301155550:=0
def tw11931972354000420652:=0
def tw2604516562118343466:=0
def tw17470859436331935635:=0
def tw8557932479042859950:=0
def tw18294208068386642718:=0
def tw4345131099993265113:=0
def tw4002190354762758043:=0
def tw10380759780413249430:=0
def tw10730406702565347082:=0
def tw7906475592775855643:=0
def tw14824981297423862998:=0
def tw16261730223466919399:=0
def tw14428716257487577455:=0
def tw17042258646301587844:=0
def tw4342419308548180549:=0
def tw17971001940782890616:=0
def tw13109993426684304040:=0
def tw6067952539226602740:=0
def tw450931655394036329:=0
def tw17083165098414802255:=0
def tw18111765481765450783:=0
def tw14627057073628855492:=0
def tw2758356913986874248:=0
def tw1254842177255558263:=0
def tw3540785581046226441:=0
def tw8564725897192259352:=0
def tw2010394031518629700:=0
def tw3645804166862282897:=0
def tw893356850308581133:=0
def tw12952594601156031900:=0
def tw7323331870542634608:=0
def tw6769849652565121578:=0
def tw10426815711650154967:=0
def tw1778722905874314701:=0
def tw5803130941675695401:=0
def tw4660071375534444019:=0
def tw5256684864222361283:=0
def tw10617297315572454496:=0
def tw16606289733039942427:=0
def tw18070548066007284874:=0
def tw17273933009121113687:=0
def tw14565142145420311407:=0
def tw12491317105311687202:=0
def tw9426188928926518190:=0
def tw15458520473057340904:=0
def tw5854008701038205042:=0
def tw10441971656969838317:=0
def tw13573892802431326238:=0
def tw8194713410680313284:=0
def tw5165273706869762115:=0
def tw18090028104312565371:=0
def tw17636516769641110347:=0
def tw3878095786233988345:=0
def tw11370794726315264252:=0
def tw6703904757391449130:=0
def tw5208147826498494506:=0
def tw5271046296387018244:=0
def tw14210813201134663198:=0
def tw16914386181578510283:=0
def tw15385627665523134846:=0
def tw1101901856309208161:=0
def tw4942733721416420811:=0
def tw8468288094178092655:=0
def tw1133361831951276901:=0
def tw13661104564535678200:=0
def tw10050892565685730554:=0
def tw3476072262494624530:=0
def tw17843175817146975873:=0
def tw15744813649888225541:=0
def tw13863548579006586592:=0
def tw3032460955960021795:=0
def tw12069775607866680381:=0
def tw14737155512590369240:=0
def tw12521565261391327559:=0
def tw9660651866070790107:=0
def tw6164746196593578986:=0
def tw389910054418759020:=0
def tw8784521764518454345:=0
def tw13769175769837549498:=0
def tw8615153707878374762:=0
def tw3670272308682736191:=0
def tw10578531768696749275:=0
def tw18234988179466212876:=0
def tw6556362656182437581:=0
def tw15776417157487802244:=0
def tw6536771120445189130:=0
def tw596011808840801287:=0
def tw14240760277107449027:=0
def tw8965134530834338390:=0
def tw15583693866567868475:=0
def tw7826639985700823220:=0
def tw14468728197605695528:=0
def tw18205136154344752445:=0
def tw1164767932488337392:=0
def tw4217942495519546969:=0
def tw15719141042327843779:=0
def tw7304173838771400723:=0
def tw4482545350988555928:=0
def tw8368791329519493136:=0
def tw13067880555074173648:=0
def tw2570300256352019947:=0
def tw5084962485202013892:=0
def tw13243493050306796664:=0
def tw721423123246178609:=0
def tw11617241884423998289:=0
def tw6310089675263115533:=0
def tw9970707904346239929:=0
def tw5625942816587937555:=0
def tw8434201336879663259:=0
def tw9831973769799285006:=0
def tw872214272556494518:=0
def tw9419618646457283839:=0
def tw7750564508773532742:=0
def tw11428635396882319497:=0
def tw15308003684294914054:=0
def tw3515635700804026499:=0
def tw4860882374253767730:=0
def tw13028965873832481171:=0
def tw14437484126437431188:=0
def tw627825472827285135:=0
end PySem.W.Fast
open PySem PySem.W PyProof.Rows
set_option maxRecDepth 100000 in
set_option maxHeartbeats 0 in
theorem PySem.Challenge.cw_oneglance_k14_whole_logs_of_dealings_in_holds : PySem.Challenge.rw_oneglance_k14_whole_logs_of_dealings_in.Holds := by
 w_on; o_law; k_head; (case hw => w_witness2)
 k_fill
 refine OL.Om (l := PySem.Challenge.rw_oneglance_k14_whole_logs_of_dealings_in) rfl rfl (fun w h Y => PySem.W.kIn_of Y) ?F
 case F =>
  intro w mg fa h KX G hmg
  refine' OL.K7 KX G hmg ?a1 ?l1 ?c1 ?k1 ?a2 ?l2 ?c2 ?k2 ?a3 ?l3 ?c3 ?k3 ?a4 ?l4 ?c4 ?k4 ?a5 ?l5 ?c5 ?k5 ?a6 ?l6 ?c6 ?k6 ?a7 ?l7 ?c7 ?k7 ?a8 ?l8 ?c8 ?k8 ?a9 ?l9 ?c9 ?k9 ?a10 ?l10 ?c10 ?k10 ?a11 ?l11 ?c11 ?k11 ?a12 ?l12 ?c12 ?k12 ?a13 ?l13 ?c13 ?k13 ?a14 ?l14 ?c14 ?k14 ?a15 ?l15 ?c15 ?k15 ?a16 ?l16 ?c16 ?k16 ?a17 ?l17 ?c17 ?k17 ?a18 ?l18 ?c18 ?k18 ?a19 ?l19 ?c19 ?k19 ?a20 ?l20 ?c20 ?k20 ?a21 ?l21 ?c21 ?k21 ?a22 ?l22 ?c22 ?k22 ?a23 ?l23 ?c23 ?k23 ?a24 ?l24 ?c24 ?k24 ?a25 ?l25 ?c25 ?k25 ?aCCourse ?pgCourse ?hdCourse ?poCourse ?saCourse ?mkCourse ?kcCourse ?nfCourse0 ?nfCourse1 ?nfCourse2 ?nfCourse3 ?nfCourse4 ?a26 ?i26 ?l26 ?c26 ?k26 ?a27 ?i27 ?l27 ?c27 ?k27 ?a28 ?i28 ?l28 ?c28 ?k28 ?a29 ?i29 ?l29 ?c29 ?k29 ?a30 ?i30 ?l30 ?c30 ?k30 ?aCDoing ?pgDoing ?hdDoing ?poDoing ?saDoing ?mkDoing ?kcDoing ?nfDoing0 ?nfDoing1 ?nfDoing2 ?nfDoing3 ?a31 ?i31 ?l31 ?c31 ?k31 ?a32 ?i32 ?l32 ?c32 ?k32 ?a33 ?i33 ?l33 ?c33 ?k33 ?a34 ?i34 ?l34 ?c34 ?k34 ?a35 ?i35 ?l35 ?c35 ?k35 ?a36 ?i36 ?l36 ?c36 ?k36 ?a37 ?i37 ?l37 ?c37 ?k37 ?a38 ?i38 ?l38 ?c38 ?k38 ?a39 ?i39 ?l39 ?c39 ?k39 ?a40 ?i40 ?l40 ?c40 ?k40 ?a41 ?i41 ?l41 ?c41 ?k41 ?g42 ?g43 ?z44 ?z45 ?z46 ?z47 ?z48 ?z49 ?z50 ?z51 ?z52 ?z53 ?z54 ?z55 ?z56 ?z57 ?z58 ?z59 ?z60 ?z61
  (case a1 => k_is)
  (case l1 => k_is)
  (case c1 => k_is)
  (case k1 => k_is)
  (case a2 => k_is)
  (case l2 => k_is)
  (case c2 => k_is)
  (case k2 => k_is)
  (case a3 => k_is)
  (case l3 => k_is)
  (case c3 => k_is)
  (case k3 => k_is)
  (case a4 => k_is)
  (case l4 => k_is)
  (case c4 => k_is)
  (case k4 => k_is)
  (case a5 => k_is)
  (case l5 => k_is)
  (case c5 => k_is)
  (case k5 => k_is)
  (case a6 => k_is)
  (case l6 => k_is)
  (case c6 => k_is)
  (case k6 => k_is)
  (case a7 => k_is)
  (case l7 => k_is)
  (case c7 => k_is)
  (case k7 => k_is)
  (case a8 => k_is)
  (case l8 => k_is)
  (case c8 => k_is)
  (case k8 => k_is)
  (case a9 => k_is)
  (case l9 => k_is)
  (case c9 => k_is)
  (case k9 => k_is)
  (case a10 => k_is)
  (case l10 => k_is)
  (case c10 => k_is)
  (case k10 => k_is)
  (case a11 => k_is)
  (case l11 => k_is)
  (case c11 => k_is)
  (case k11 => k_is)
  (case a12 => k_is)
  (case l12 => k_is)
  (case c12 => k_is)
  (case k12 => k_is)
  (case a13 => k_is)
  (case l13 => k_is)
  (case c13 => k_is)
  (case k13 => k_is)
  (case a14 => k_is)
  (case l14 => k_is)
  (case c14 => k_is)
  (case k14 => k_is)
  (case a15 => k_is)
  (case l15 => k_is)
  (case c15 => k_is)
  (case k15 => k_is)
  (case a16 => k_is)
  (case l16 => k_is)
  (case c16 => k_is)
  (case k16 => k_is)
  (case a17 => k_is)
  (case l17 => k_is)
  (case c17 => k_is)
  (case k17 => k_is)
  (case a18 => k_is)
  (case l18 => k_is)
  (case c18 => k_is)
  (case k18 => k_is)
  (case a19 => k_is)
  (case l19 => k_is)
  (case c19 => k_is)
  (case k19 => k_is)
  (case a20 => k_is)
  (case l20 => k_is)
  (case c20 => k_is)
  (case k20 => k_is)
  (case a21 => k_is)
  (case l21 => k_is)
  (case c21 => k_is)
  (case k21 => k_is)
  (case a22 => k_is)
  (case l22 => k_is)
  (case c22 => k_is)
  (case k22 => k_is)
  (case a23 => k_is)
  (case l23 => k_is)
  (case c23 => k_is)
  (case k23 => k_is)
  (case a24 => k_is)
  (case l24 => k_is)
  (case c24 => k_is)
  (case k24 => k_is)
  (case a25 => k_is)
  (case l25 => k_is)
  (case c25 => k_is)
  (case k25 => k_is)
  (case aCCourse => k_is)
  (case pgCourse => k_is)
  (case hdCourse => k_is)
  (case poCourse => k_is)
  (case saCourse => k_is)
  (case mkCourse => k_is)
  (case kcCourse => k_is)
  (case nfCourse0 => k_is)
  (case nfCourse1 => k_is)
  (case nfCourse2 => k_is)
  (case nfCourse3 => k_is)
  (case nfCourse4 => k_is)
  (case a26 => k_is)
  (case i26 => k_is)
  (case l26 => k_is)
  (case c26 => k_is)
  (case k26 => k_is)
  (case a27 => k_is)
  (case i27 => k_is)
  (case l27 => k_is)
  (case c27 => k_is)
  (case k27 => k_is)
  (case a28 => k_is)
  (case i28 => k_is)
  (case l28 => k_is)
  (case c28 => k_is)
  (case k28 => k_is)
  (case a29 => k_is)
  (case i29 => k_is)
  (case l29 => k_is)
  (case c29 => k_is)
  (case k29 => k_is)
  (case a30 => k_is)
  (case i30 => k_is)
  (case l30 => k_is)
  (case c30 => k_is)
  (case k30 => k_is)
  (case aCDoing => k_is)
  (case pgDoing => k_is)
  (case hdDoing => k_is)
  (case poDoing => k_is)
  (case saDoing => k_is)
  (case mkDoing => k_is)
  (case kcDoing => k_is)
  (case nfDoing0 => k_is)
  (case nfDoing1 => k_is)
  (case nfDoing2 => k_is)
  (case nfDoing3 => k_is)
  (case a31 => k_is)
  (case i31 => k_is)
  (case l31 => k_is)
  (case c31 => k_is)
  (case k31 => k_is)
  (case a32 => k_is)
  (case i32 => k_is)
  (case l32 => k_is)
  (case c32 => k_is)
  (case k32 => k_is)
  (case a33 => k_is)
  (case i33 => k_is)
  (case l33 => k_is)
  (case c33 => k_is)
  (case k33 => k_is)
  (case a34 => k_is)
  (case i34 => k_is)
  (case l34 => k_is)
  (case c34 => k_is)
  (case k34 => k_is)
  (case a35 => k_is)
  (case i35 => k_is)
  (case l35 => k_is)
  (case c35 => k_is)
  (case k35 => k_is)
  (case a36 => k_is)
  (case i36 => k_is)
  (case l36 => k_is)
  (case c36 => k_is)
  (case k36 => k_is)
  (case a37 => k_is)
  (case i37 => k_is)
  (case l37 => k_is)
  (case c37 => k_is)
  (case k37 => k_is)
  (case a38 => k_is)
  (case i38 => k_is)
  (case l38 => k_is)
  (case c38 => k_is)
  (case k38 => k_is)
  (case a39 => k_is)
  (case i39 => k_is)
  (case l39 => k_is)
  (case c39 => k_is)
  (case k39 => k_is)
  (case a40 => k_is)
  (case i40 => k_is)
  (case l40 => k_is)
  (case c40 => k_is)
  (case k40 => k_is)
  (case a41 => k_is)
  (case i41 => k_is)
  (case l41 => k_is)
  (case c41 => k_is)
  (case k41 => k_is)
  (case g42 => k_is)
  (case g43 => k_is)
  (case z44 => k_is)
  (case z45 => k_is)
  (case z46 => k_is)
  (case z47 => k_is)
  (case z48 => k_is)
  (case z49 => k_is)
  (case z50 => k_is)
  (case z51 => k_is)
  (case z52 => k_is)
  (case z53 => k_is)
  (case z54 => k_is)
  (case z55 => k_is)
  (case z56 => k_is)
  (case z57 => k_is)
  (case z58 => k_is)
  (case z59 => k_is)
  (case z60 => k_is)
  (case z61 => k_is)
