import PyProof.Rows.All
import Wide.All
import OpenK.AllK
import Wide.FinOn
import Lean
import PyProof.EqAt
import PyProof.EqKinds
import PyProof.TupleCall
import PySem.Challenge.RW_oneglance_k55_stuck_or_free
set_option maxHeartbeats 4000000
set_option Elab.async false
set_option linter.all false
set_option maxRecDepth 100000
noncomputable section
namespace L2
open PySem PySem.Spec PyProof.Rows
abbrev Key:=Sum Int Str
def sR:Key->Value->Bool
 |.inl k,v=>Value.isInt k v
 |.inr x,v=>Value.isStrOf x v
def M8(w:World):Key->Int
 |.inl k=>hashInt k
 |.inr x=>hashStr w x
theorem b5:∀{k:Key} {v:Value},sR k v=true->(∃i t,k=Sum.inl i/\v=Value.int i t)\/(∃x t,k=Sum.inr x/\v=Value.str x t)
 |.inl i,v,h=>by
  obtain⟨t,e⟩:=Value.isInt_shape (k:=i) (v:=v) h
  exact .inl ⟨i,t,rfl,e⟩
 |.inr x,v,h=>by
  obtain⟨t,e⟩:=Value.isStrOf_shape (x:=x) (v:=v) h
  exact .inr ⟨x,t,rfl,e⟩
theorem xO(i:Int)(t:Tok):sR (.inl i) (.int i t)=true:=by simp[sR,Value.isInt]
theorem xN(x:Str)(t:Tok):sR (.inr x) (.str x t)=true:=by simp[sR,Value.isStrOf]
theorem Hy(a b:Int):decide ((Sum.inl a:Key)=Sum.inl b)=(a == b):=by
 by_cases e:a=b
 ·subst e;simp
 ·have h:¬(Sum.inl a:Key)=Sum.inl b:=fun q=>e (Sum.inl.inj q)
  rw[decide_eq_false h]
  exact(beq_eq_false_iff_ne.mpr e).symm
theorem Hu(a b:Str):decide ((Sum.inr a:Key)=Sum.inr b)=decide (a=b):=by
 by_cases e:a=b
 ·subst e;simp
 ·have h:¬(Sum.inr a:Key)=Sum.inr b:=fun q=>e (Sum.inr.inj q)
  rw[decide_eq_false h,decide_eq_false e]
theorem Hx(a:Int)(b:Str):decide ((Sum.inl a:Key)=Sum.inr b)=false:=decide_eq_false (fun q=>nomatch q)
theorem Hv(a:Str)(b:Int):decide ((Sum.inr a:Key)=Sum.inl b)=false:=decide_eq_false (fun q=>nomatch q)
def dc(prog:Program)(w:World):PySem.KeyKind prog w Key where
 is:=sR
 hash:=M8 w
 inj:=fun v a b ha hb=>by
  rcases b5 ha with⟨i,t,rfl,rfl⟩|⟨x,t,rfl,rfl⟩
  ·rcases b5 hb with⟨j,u,rfl,e⟩|⟨y,u,rfl,e⟩
   ·injection e with e1 _;rw[e1]
   ·exact nomatch e
  ·rcases b5 hb with⟨j,u,rfl,e⟩|⟨y,u,rfl,e⟩
   ·exact nomatch e
   ·injection e with e1 _;rw[e1]
 byValue:=fun k v h=>by
  rcases b5 h with⟨i,t,rfl,rfl⟩|⟨x,t,rfl,rfl⟩<;>rfl
 pyHash:=fun hv h=>by
  rcases b5 hv with⟨i,t,rfl,rfl⟩|⟨x,t,rfl,rfl⟩
  ·exact wpAny_pyHash_int h
  ·exact wpAny_pyHash_str h
 eqBool:=fun hu hv h=>by
  rcases b5 hu with⟨i,t,rfl,rfl⟩|⟨x,t,rfl,rfl⟩
  ·rcases b5 hv with⟨j,u,rfl,rfl⟩|⟨y,u,rfl,rfl⟩
   ·rw[Hy]at h;exact wpAny_eqBool_int h
   ·rw[Hx]at h;exact SeqAt.EqAt.int_str i t y u _ _ _ _ h
  ·rcases b5 hv with⟨j,u,rfl,rfl⟩|⟨y,u,rfl,rfl⟩
   ·rw[Hv]at h;exact SeqAt.EqAt.str_int x t j u _ _ _ _ h
   ·rw[Hu]at h;exact wpAny_eqBool_str h
 «strs»:=fun k x t v h=>by
  rcases b5 h with⟨i,u,rfl,e⟩|⟨y,u,rfl,e⟩
  ·exact nomatch e
  ·injection e with e1 _
   subst e1
   cases v<;>rfl
theorem sJ(prog:Program)(w:World)(i:Int)(t:Tok):(dc prog w).is (.inl i) (.int i t)=true:=xO i t
theorem sI(prog:Program)(w:World)(x:Str)(t:Tok):(dc prog w).is (.inr x) (.str x t)=true:=xN x t
inductive V where
 |non|bl (b:Bool)|int (i:Int)|str (x:Str)|byt (b:Array UInt8)|flt (b:UInt64)|ref (a:Addr)|ty (n:String)
 deriving DecidableEq
def dB:V->Value->Prop
 |.non,u=>u=Value.none
 |.bl b,u=>u=Value.bool b
 |.int i,u=>∃t,u=Value.int i t
 |.str x,u=>∃t,u=Value.str x t
 |.byt b,u=>∃t,u=Value.bytes b t
 |.flt b,u=>∃t,u=Value.float b t
 |.ref a,u=>u=Value.ref a
 |.ty n,u=>u=Value.type n
abbrev cI:List V->List Value->Prop:=Paired dB
theorem cI.length{xs:List V}{us:List Value}(r:cI xs us):xs.length=us.length:=Paired.length r
theorem cI.get:∀{xs:List V} {us:List Value} {i:Nat} {x:V},cI xs us->xs[i]?=some x->∃u,us[i]?=some u/\dB x u
 |_,_,_,_,.nil,e=>by simp at e
 |_,_,0,_,.cons r _,e=>by simp at e;subst e;exact⟨_,rfl,r⟩
 |_,_,i+1,x,.cons _ t,e=>by
  obtain⟨u,h1,h2⟩:=cI.get (i:=i) (x:=x) t (by simpa using e)
  exact⟨u,by simpa using h1,h2⟩
theorem cI.set{x:V}{u:Value}(r:dB x u):∀{xs:List V} {us:List Value} (i:Nat),cI xs us->cI (xs.set i x) (us.set i u)
 |_,_,_,.nil=>.nil
 |_,_,0,.cons _ t=>.cons r t
 |_,_,i+1,.cons q t=>.cons q (cI.set r i t)
theorem cI.append:∀{xs ys:List V} {us ws:List Value},cI xs us->cI ys ws->cI (xs++ys) (us++ws)
 |_,_,_,_,.nil,s=>s
 |_,_,_,_,.cons r t,s=>.cons r (cI.append t s)
theorem cI.take:∀{xs:List V} {us:List Value} (n:Nat),cI xs us->cI (xs.take n) (us.take n)
 |_,_,0,_=>.nil
 |_,_,_+1,.nil=>.nil
 |_,_,n+1,.cons r t=>.cons r (cI.take n t)
theorem cI.drop:∀{xs:List V} {us:List Value} (n:Nat),cI xs us->cI (xs.drop n) (us.drop n)
 |_,_,0,r=>r
 |_,_,_+1,.nil=>.nil
 |_,_,n+1,.cons _ t=>cI.drop n t
def qk:Option V->Option Value->Prop
 |some v,some u=>dB v u
 |none,none=>True
 |_,_=>False
def KV{κ:Type}:List (κ×V)->List (κ×Value)->Prop:=Paired fun(p:κ×V) (q:κ×Value)=>p.1=q.1/\dB p.2 q.2
def kV:Key->V
 |.inl i=>.int i
 |.inr x=>.str x
inductive HO where
 |lst (xs:List V)
 |tup (xs:List V)
 |dK (kvs:List (Key×V))|dT (kvs:List (List Key×V))
 |set (S:Int->Bool) (n:Nat)
 |ins (C dx:Addr) (fs:List (Str×V))
 |own (x:Addr)
 |xd (fs:List (Str×V))
 |met (f x:Addr)
 |rng (lo hi:Int)
 |frz (o:Obj) (u:HO)
 |tbl (ps:Array Value)
 |ext (φ:Heap->Prop)
abbrev Hp:=Addr->Option HO
def upd(H:Hp)(a:Addr)(o:HO):Hp:=fun b=>if b=a then some o else H b
theorem aS{H:Hp}{a:Addr}{o:HO}:upd H a o a=some o:=by unfold upd;rw[if_pos rfl]
theorem bP{H:Hp}{a b:Addr}{o:HO}(h:b≠a):upd H a o b=H b:=by unfold upd;rw[if_neg h]
theorem KU{H:Hp}{a b:Addr}{o u:HO}(h:H a=some o)(h':H b=some u)(d:o≠u):a≠b:=by
 intro e;subst e;rw[h]at h';exact d (Option.some.inj h')
theorem cV{H:Hp}{a b:Addr}{o:HO}(h:H a=some o)(h':H b=none):a≠b:=by
 intro e;subst e;rw[h]at h';cases h'
section
variable(P:Program)(w:World)
def cM(H:Hp)(h:Heap)(a:Addr):HO->Prop
 |.lst xs=>xs.length<=sizeLine/\∃(its:List Value) (n:Nat),cI xs its/\h.get? a=some { cls:=.type "list",data:=.seq its.toArray n }
 |.tup xs=>xs.length<=sizeLine/\∃its:List Value,cI xs its/\IsTup h a its.toArray
 |.dK kvs=>kvs.length<=sizeLine/\(a == sysModules)=false/\∃vs,KV kvs vs/\h.DictOf (dc P w) a vs
 | .dT kvs=>kvs.length<=sizeLine/\(a == sysModules)=false/\∃xs:List (List Key×Addr×Value),
   Paired (fun(p:List Key×V) (q:List Key×Addr×Value)=>p.1=q.1/\H q.2.1=some (.tup (p.1.map kV))/\dB p.2 q.2.2) kvs xs/\
   ∃o es ep,h.get? a=some o/\o.ExactDict/\o.data=.dict es ep/\es.toList=xs.map (entryOfKey (tupleKind (dc P w)))/\(xs.map (·.1)).Nodup
 |.set S n=>h.SetOf (intKind P w) a S n
 | .ins C dx fs=>H dx=some (.own a)/\fs.length<=1000/\dx≠a/\h.get? a=some (PySem.W.instObj C dx)/\
   ∃mA,h.Ns1 dx mA/\(∀f,qk (fs.lookup f) (mA f))/\PySem.Within mA (fs.map (·.1))
 |.own _=>∃o,h.get? a=some o
 |.xd fs=>∃mA,h.Ns1 a mA/\∀f,qk (fs.lookup f) (mA f)
 |.rng lo hi=>∃t u v,h.get? a=some { cls:=.type "range",data:=.fields #[.int lo t,.int hi u,.int 1 v] }
 |.frz o u=>h.get? a=some o/\cM H h a u
 |.tbl ps=>h.get? a=some { cls:=.none,data:=.fields ps }
 |.met f x=>h.get? a=some (PySem.W.methodObj (.ref f) (.ref x))
 |.ext φ=>φ h/\(∃o,h.get? a=some o)/\∀h1 h2:Heap,φ h1->(∀o,h1.get? a=some o->h2.get? a=some o)->φ h2
def HOk(H:Hp)(h:Heap):Prop:=∀a o,H a=some o->cM P w H h a o
end
section
variable{P:Program}{w:World}{H H':Hp}{h h':Heap}{a:Addr}{o:HO}
theorem cM.lt(x:cM P w H h a o):a<h.objs.size:=by
 cases o with
 |lst xs=>obtain⟨_,_,_,_,e⟩:=x;exact Heap.lt_size e
 |tup xs=>obtain⟨_,_,_,p⟩:=x;exact p.lt
 |dK kvs=>obtain⟨_,_,_,_,o,_,_,e,_⟩:=x;exact Heap.lt_size e
 |dT kvs=>obtain⟨_,_,_,_,o,_,_,e,_⟩:=x;exact Heap.lt_size e
 |set S n=>obtain⟨o,_,_,_,e,_⟩:=x;exact Heap.lt_size e
 |ins C dx fs=>obtain⟨_,_,_,e,_⟩:=x;exact Heap.lt_size e
 |own y=>obtain⟨_,e⟩:=x;exact Heap.lt_size e
 |xd fs=>obtain⟨_,⟨_,_,_,e,_⟩,_⟩:=x;exact Heap.lt_size e
 |rng lo hi=>obtain⟨_,_,_,e⟩:=x;exact Heap.lt_size e
 |frz ob u=>obtain⟨e,_⟩:=x;exact Heap.lt_size e
 |tbl ps=>exact Heap.lt_size (show h.get? a=some _ from x)
 |met f y=>exact Heap.lt_size (show h.get? a=some _ from x)
 |ext φ=>obtain⟨_,⟨_,e⟩,_⟩:=x;exact Heap.lt_size e
theorem Paired.mapP{α β:Type}{F G:α->β->Prop}:∀{l₁:List α} {l₂:List β},Paired F l₁ l₂->(∀a b,F a b->G a b)->Paired G l₁ l₂
 |_,_,.nil,_=>.nil
 |_,_,.cons r t,f=>.cons (f _ _ r) (Paired.mapP t f)
theorem cM.stay(x:cM P w H h a o)(k:∀b u,(b=a\/H b=some (.own a))->h.get? b=some u->h'.get? b=some u)
  (ho:∀b,H b=some (.own a)->H' b=some (.own a)) (ht:∀b xs,H b=some (.tup xs)->H' b=some (.tup xs)):cM P w H' h' a o:=by
 induction o with
 |lst xs=>obtain⟨z,its,n,r,e⟩:=x;exact⟨z,its,n,r,k _ _ (.inl rfl) e⟩
 |tup xs=>obtain⟨z,its,r,ob,e,c⟩:=x;exact⟨z,its,r,ob,k _ _ (.inl rfl) e,c⟩
 |dK kvs=>obtain⟨z,y,vs,r,ob,es,ep,e,c⟩:=x;exact⟨z,y,vs,r,ob,es,ep,k _ _ (.inl rfl) e,c⟩
 |dT kvs=>
  obtain⟨z,y,xs,r,ob,es,ep,e,c⟩:=x
  exact⟨z,y,xs,Paired.mapP r fun p q z=>⟨z.1,ht _ _ z.2.1,z.2.2⟩,ob,es,ep,k _ _ (.inl rfl) e,c⟩
 |set S n=>obtain⟨ob,es,ep,t,e,c⟩:=x;exact⟨ob,es,ep,t,k _ _ (.inl rfl) e,c⟩
 |ins C dx fs=>
  obtain⟨d,z,ne,e,mA,⟨od,es,ep,e2,c⟩,r⟩:=x
  exact⟨ho _ d,z,ne,k _ _ (.inl rfl) e,mA,⟨od,es,ep,k _ _ (.inr d) e2,c⟩,r⟩
 |own y=>obtain⟨ob,e⟩:=x;exact⟨ob,k _ _ (.inl rfl) e⟩
 |xd fs=>obtain⟨mA,⟨od,es,ep,e,c⟩,r⟩:=x;exact⟨mA,⟨od,es,ep,k _ _ (.inl rfl) e,c⟩,r⟩
 |rng lo hi=>obtain⟨t,u,v,e⟩:=x;exact⟨t,u,v,k _ _ (.inl rfl) e⟩
 |frz ob u ih=>obtain⟨e,q⟩:=x;exact⟨k _ _ (.inl rfl) e,ih q⟩
 |tbl ps=>
  have e:h.get? a=some { cls:=.none,data:=.fields ps }:=x
  show h'.get? a=some { cls:=.none,data:=.fields ps }
  exact k a _ (.inl rfl) e
 |met f y=>
  have e:h.get? a=some (PySem.W.methodObj (.ref f) (.ref y)):=x
  show h'.get? a=some (PySem.W.methodObj (.ref f) (.ref y))
  exact k a _ (.inl rfl) e
 |ext φ=>obtain⟨p,⟨o,e⟩,st⟩:=x;exact⟨st _ _ p fun o q=>k _ _ (.inl rfl) q,⟨o,k _ _ (.inl rfl) e⟩,st⟩
theorem HOk.lt(x:HOk P w H h)(e:H a=some o):a<h.objs.size:=(x a o e).lt
theorem HOk.fresh(x:HOk P w H h)(e:h.objs.size<=a):H a=none:=by
 cases q:H a with
 |none=>rfl
 |some u=>exact absurd (Nat.lt_of_lt_of_le (x.lt q) e) (Nat.lt_irrefl _)
theorem HOk.kept(x:HOk P w H h)(k:∀b u,h.get? b=some u->h'.get? b=some u):HOk P w H h':=fun a o e=>
 (x a o e).stay (fun b u _ q=>k b u q) (fun _ q=>q) fun _ _ q=>q
theorem HOk.laid(x:HOk P w H h)(k:∀b u,h.get? b=some u->h'.get? b=some u)(hp:h.objs.size<=a)(new:cM P w (upd H a o) h' a o):HOk P w (upd H a o) h':=fun b u e=>by
 have hn:=x.fresh hp
 by_cases hb:b=a
 ·subst hb;rw[aS]at e;cases e;exact new
 ·rw[bP hb]at e
  exact(x b u e).stay (fun c v _ q=>k c v q) (fun c q=>by rw[bP (cV q hn)];exact q) fun c xs q=>by rw[bP (cV q hn)];exact q
end
def Rd(H:Hp)(a:Addr)(u:HO):Prop:=H a=some u\/∃o,H a=some (.frz o u)
theorem Rd.ok{P:Program}{w:World}{H:Hp}{h:Heap}{a:Addr}{u:HO}(r:Rd H a u)(x:HOk P w H h):cM P w H h a u:=by
 rcases r with r|⟨o,r⟩
 ·exact x a u r
 ·obtain⟨_,q⟩:=x a _ r
  exact q
def Mut:Option HO->Prop
 |some (.lst _)=>True
 |some (.dK _)=>True
 |some (.dT _)=>True
 |some (.set _ _)=>True
 |some (.ins _ _ _)=>True
 |some (.ext _)=>True
 |_=>False
section
variable{P:Program}{w:World}{H:Hp}{h h':Heap}{x e:Addr}{o':HO}
theorem HOk.write(ok:HOk P w H h)(mu:Mut (H x))(he:e=x\/H e=some (.own x))(k:∀b u,b≠e->h.get? b=some u->h'.get? b=some u)(heo:∃u,h'.get? e=some u)
  (new:cM P w (upd H x o') h' x o'):HOk P w (upd H x o') h':=fun b u q=>by
 have nown:∀c y,H c=some (.own y)->c≠x:=fun c y r z=>by subst z;rw[r]at mu;exact mu
 have ntup:∀c xs,H c=some (.tup xs)->c≠x:=fun c xs r z=>by subst z;rw[r]at mu;exact mu
 by_cases hb:b=x
 ·subst hb;rw[aS]at q;cases q;exact new
 ·rw[bP hb]at q
  by_cases hbe:b=e
  ·have q':H b=some (.own x):=by
    rcases he with z|z
    ·exact absurd (hbe.trans z) hb
    ·rw[hbe];exact z
   rw[q]at q';cases q'
   obtain⟨v,hv⟩:=heo
   exact⟨v,by rw[hbe];exact hv⟩
  ·refine(ok b u q).stay (fun c v hc r=>k c v ?_ r) (fun c r=>by rw[bP (nown c b r)];exact r) fun c xs r=>by rw[bP (ntup c xs r)];exact r
   rcases hc with rfl|hc
   ·exact hbe
   ·rintro rfl
    rcases he with z|z
    ·exact nown c b hc z
    ·rw[hc]at z;cases z;exact hb rfl
end
structure Un(fs ex:List Addr)(H H':Hp)(h h':Heap):Prop where
 keep:∀b o,h.get? b=some o->H b=none->b∉fs->b∉ex->h'.get? b=some o
 slot:∀b o,h.get? b=some o->H b=none->b∈fs->b∉ex->∃sl,h'.get? b=some { o with slots:=sl }
 free:∀b o,h.get? b=some o->H b=none->b∉ex->H' b=none
 there:∀b o,h.get? b=some o->b∉ex->∃o',h'.get? b=some o'
 tups:∀b xs,H b=some (.tup xs)->H' b=some (.tup xs)
 frzs:∀b o u,H b=some (.frz o u)->H' b=some (.frz o u)
 tbls:∀b ps,H b=some (.tbl ps)->∃more,H' b=some (.tbl (ps++more))
section
variable{fs fs' ex ex':List Addr}{H H1 H2:Hp}{h h1 h2 h':Heap}{a x e:Addr}{o:HO}
theorem Un.any(u:Un fs ex H H1 h h1){b:Addr}{ob:Obj}(q:h.get? b=some ob)(n:H b=none)(hx:b∉ex):∃sl,h1.get? b=some { ob with slots:=sl }:=by
 by_cases hb:b∈fs
 ·exact u.slot b ob q n hb hx
 ·exact⟨ob.slots,u.keep b ob q n hb hx⟩
theorem Un.kept(k:∀b u,h.get? b=some u->h'.get? b=some u):Un fs ex H H h h':=
 ⟨fun b ob q _ _ _=>k b ob q,fun b ob q _ _ _=>⟨ob.slots,k b ob q⟩,fun _ _ _ n _=>n,fun b ob q _=>⟨ob,k b ob q⟩,fun _ _ q=>q,fun _ _ _ q=>q,fun _ ps q=>⟨#[],by rw[q];simp⟩⟩
theorem Un.refl:Un fs ex H H h h:=Un.kept fun _ _ q=>q
theorem Un.laid(k:∀b u,h.get? b=some u->h'.get? b=some u)(hp:h.objs.size<=a)(hn:H a=none):Un fs ex H (upd H a o) h h' where
 keep:=fun b u q _ _ _=>k b u q
 slot:=fun b u q _ _ _=>⟨u.slots,k b u q⟩
 free:=fun b u q n _=>by rw[bP (Nat.ne_of_lt (Nat.lt_of_lt_of_le (Heap.lt_size q) hp))];exact n
 there:=fun b u q _=>⟨u,k b u q⟩
 tups:=fun b xs q=>by rw[bP (cV q hn)];exact q
 frzs:=fun b u xs q=>by rw[bP (cV q hn)];exact q
 tbls:=fun b ps q=>⟨#[],by rw[bP (cV q hn),q];simp⟩
theorem Un.write(mu:Mut (H x))(he:e=x\/H e=some (.own x))(k:∀b u,b≠e->h.get? b=some u->h'.get? b=some u)(heo:∃u,h'.get? e=some u):Un fs ex H (upd H x o) h h':=by
 have hx:∀b,H b=none->b≠x:=fun b n z=>by subst z;rw[n]at mu;exact mu
 have hb:∀b,H b=none->b≠e:=fun b n z=>by
  subst z
  rcases he with r|r
  ·exact hx b n r
  ·rw[n]at r;cases r
 have hm:∀b u,H b=some u->¬Mut (some u)->b≠x:=fun b u q nm z=>by subst z;rw[q]at mu;exact nm mu
 refine⟨fun b u q n _ _=>k b u (hb b n) q,fun b u q n _ _=>⟨u.slots,k b u (hb b n) q⟩,fun b u q n _=>by rw[bP (hx b n)];exact n,fun b u q _=>?_,
  fun b xs q=>by rw[bP (hm b _ q fun z=>z)];exact q,fun b u xs q=>by rw[bP (hm b _ q fun z=>z)];exact q,fun b ps q=>⟨#[],by rw[bP (hm b _ q fun z=>z),q];simp⟩⟩
 by_cases hbe:b=e
 ·subst hbe;exact heo
 ·exact⟨u,k b u hbe q⟩
end
def trk(h:Heap)(H:Hp):List Addr:=(List.range h.objs.size).filter fun a=>(H a).isSome
def AH(h:Heap)(H:Hp):Heap:=PySem.W.hideAll h (trk h H)
theorem x5(h:Heap)(H:Hp):(AH h H).objs.size=h.objs.size:=PySem.W.hideAll_size _ _
theorem AG{h:Heap}{H:Hp}{b:Addr}{o:Obj}(e:h.get? b=some o)(n:H b=none):(AH h H).get? b=some o:=
 PySem.W.hideAll_get _ e fun hm=>by
  have q:(H b).isSome=true:=(List.mem_filter.mp hm).2
  rw[n]at q;simp at q
theorem D1{h:Heap}{H:Hp}{b:Addr}{o:Obj}(e:(AH h H).get? b=some o):h.get? b=some o/\H b=none:=by
 have e':h.get? b=some o:=PySem.W.of_hideAll (trk h H) e
 refine⟨e',?_⟩
 cases q:H b with
 |none=>rfl
 |some x=>
  have hm:b∈trk h H:=List.mem_filter.mpr ⟨List.mem_range.mpr (Heap.lt_size e'),by simp[q]⟩
  have z:(AH h H).get? b=none:=PySem.W.hideAll_none (trk h H) hm
  rw[z]at e;cases e
structure Mod(K:PySem.W.Frag)(mg:Str->Option Value)(base:Heap):Prop where
 kin:K.In base
 glob:base.Ns mainGlobals mg
 blt:∃mb,base.Ns builtinsNs mb/\∀x:Str,x≠"__name__"->mb x=bootBuiltins x
 nolimit:base.NoLimit
structure Cx where
 prog:Program
 w:World
 K:PySem.W.Frag
 mg:Str->Option Value
 base:Heap
 A:Around
 N:List Str
 s₀:Shared
 H₀:Hp
 env:Env
 outer:List Env
 stack:List Env
 ex:List Addr
 fn:Str->Bool
 calm:Bool
 pn:List (Addr×Obj)
 xe:Value->Shared->Prop
def frs(l:List Env):List Addr:=l.filterMap (·.frame)
abbrev Cx.fs(X:Cx):List Addr:=frs X.outer
def Vis(sc:Scope)(x:Str):Prop:=sc.names.lookup x=some .local\/sc.names.lookup x=some .cell\/sc.names.lookup x=some .free
def Loc(sc:Scope)(x:Str):Prop:=sc.names.lookup x=some .local\/sc.names.lookup x=some .cell
def Nm(env:Env)(h:Heap)(m:Str->Option Value)(x:Str)(u:Value):Prop:=
 (env.kindOf x=some .local/\m x=some u)\/((env.kindOf x=some .cell\/env.kindOf x=some .free)/\∃c,env.cells.lookup x=some c/\h.IsCell c (some u))
structure Cx.Ok(X:Cx):Prop where
 mod:Mod X.K X.mg X.base
 kind:X.env.scope.kind=.function
 glob:X.env.globals=mainGlobals
 blt:X.env.builtins=builtinsNs
 above:X.s₀.heap.objs.size<=X.env.locals
 inj:∀x y c,X.env.cells.lookup x=some c->X.env.cells.lookup y=some c->x=y
 has:∀x,(X.env.kindOf x=some .cell\/X.env.kindOf x=some .free)->∃c,X.env.cells.lookup x=some c
 cab:∀x c,X.fn x=true->X.env.cells.lookup x=some c->X.s₀.heap.objs.size<=c
 hd:X.calm=true->X.A.handled=none
 frames:X.A.frames=some X.stack
 stk:X.stack=X.outer\/(X.stack=X.env::X.outer/\X.env.frame=some X.env.locals)
 exf:∀b∈X.ex,b≠X.env.locals/\∀x c,X.env.cells.lookup x=some c->c≠b
 bs:∀b o,X.base.get? b=some o->X.s₀.heap.get? b=some o/\X.H₀ b=none
 bsz:X.base.objs.size<=X.s₀.heap.objs.size
 noex:∀b o,X.base.get? b=some o->b∉X.ex
 exfs:∀b∈X.ex,b∉X.fs
 funs:X.s₀.heap.FunFrames X.base X.outer
 frf:∀b∈X.fs,X.H₀ b=none
structure Inv(X:Cx)(pins:List (Addr×Obj))(σ:List (Option V))(H:Hp)(s:Shared):Prop where
 ok:X.Ok
 os:s.os=X.s₀.os
 bare:AllBare s.gens
 base:Un X.fs X.ex X.H₀ H X.s₀.heap s.heap
 loc:∃m,s.heap.Ns X.env.locals m/\∀(i:Nat) (x:Str) (v:V),X.N[i]?=some x->σ[i]?=some (some v)->Vis X.env.scope x->∃u,dB v u/\Nm X.env s.heap m x u
 cell:∀x c,X.env.cells.lookup x=some c->∃v,s.heap.IsCell c v
 free:H X.env.locals=none
 freeC:∀x c,X.env.cells.lookup x=some c->H c=none
 pin:∀p∈X.pn++pins,s.heap.get? p.1=some p.2/\H p.1=none/\p.1≠X.env.locals/\p.1∉X.fs/\∀v,p.2.data≠.cell v
 hok:HOk X.prog X.w H s.heap
 len:σ.length=X.N.length
section
variable{X:Cx}{pins:List (Addr×Obj)}{σ:List (Option V)}{H H':Hp}{s:Shared}{h':Heap}
theorem Cx.Ok.nofr(ok:X.Ok){b:Addr}{o:Obj}(e:X.base.get? b=some o):b∉X.fs:=fun hb=>by
 have:=(ok.funs.mem hb).1
 rw[e]at this;cases this
theorem Inv.bs(I:Inv X pins σ H s):∀b o,X.base.get? b=some o->s.heap.get? b=some o/\H b=none:=fun b o e=>
 ⟨I.base.keep b o (I.ok.bs b o e).1 (I.ok.bs b o e).2 (I.ok.nofr e) (I.ok.noex b o e),I.base.free b o (I.ok.bs b o e).1 (I.ok.bs b o e).2 (I.ok.noex b o e)⟩
theorem Inv.bk(I:Inv X pins σ H s):∀b o,X.base.get? b=some o->s.heap.get? b=some o:=fun b o e=>(I.bs b o e).1
theorem Inv.mod(I:Inv X pins σ H s):Mod X.K X.mg X.base:=I.ok.mod
theorem Inv.kIn(I:Inv X pins σ H s):X.K.In s.heap:=I.ok.mod.kin.keeps I.bk
theorem Inv.lt(I:Inv X pins σ H s):X.env.locals<s.heap.objs.size:=let ⟨_,hn,_⟩:=I.loc;hn.lt
theorem Inv.sz(I:Inv X pins σ H s):X.s₀.heap.objs.size<=s.heap.objs.size:=Nat.le_trans I.ok.above (Nat.le_of_lt I.lt)
theorem Inv.nofs(I:Inv X pins σ H s){a:Addr}(h:s.heap.objs.size<=a):a∉X.fs:=fun hb=>by
 obtain⟨_,o,ho,_⟩:=I.ok.funs.mem hb
 exact absurd (Nat.lt_of_lt_of_le (Heap.lt_size ho) (Nat.le_trans I.sz h)) (Nat.lt_irrefl _)
theorem Inv.cne(I:Inv X pins σ H s):∀x c,X.env.cells.lookup x=some c->c≠X.env.locals:=fun x c e z=>by
 obtain⟨v,o,ho,hd⟩:=I.cell x c e
 obtain⟨m,⟨o',es,ep,ho',hd',_⟩,_⟩:=I.loc
 rw[z,ho']at ho;cases ho;rw[hd']at hd;cases hd
theorem Inv.funs(I:Inv X pins σ H s):s.heap.FunFrames X.base X.outer:=by
 have all:∀(l:List Env),(∀b∈frs l,b∈X.fs)->X.s₀.heap.FunFrames X.base l->s.heap.FunFrames X.base l:=by
  intro l
  induction l with
  |nil=>intro _ _;trivial
  |cons env r ih=>
   intro hs hl
   obtain⟨hk,⟨L,o,hf,hn,ho,hd⟩,hr⟩:=hl
   have hL:L∈X.fs:=hs L (by unfold frs;rw[List.filterMap_cons,hf];exact List.mem_cons_self)
   obtain⟨sl,e⟩:=I.base.slot L o ho (I.ok.frf L hL) hL fun z=>I.ok.exfs L z hL
   exact⟨hk,⟨L,_,hf,hn,e,hd⟩,ih (fun b hb=>hs b (by unfold frs;rw[List.filterMap_cons,hf];exact List.mem_cons_of_mem _ hb)) hr⟩
 exact all X.outer (fun _ hb=>hb) I.ok.funs
theorem Inv.stack(I:Inv X pins σ H s):s.heap.FunFrames X.base X.stack:=by
 rcases I.ok.stk with e|⟨e,hf⟩
 ·rw[e];exact I.funs
 ·rw[e]
  obtain⟨m,hn,_⟩:=I.loc
  refine .cons (by rw[I.ok.kind];decide) hf hn ?_ I.funs
  exact Heap.get?_none_of_le (Nat.le_trans I.ok.bsz I.ok.above)
theorem Inv.stkSub(I:Inv X pins σ H s):∀b∈frs X.stack,b∈X.env.locals::X.fs:=fun b hb=>by
 rcases I.ok.stk with e|⟨e,hf⟩
 ·rw[e]at hb;exact List.mem_cons_of_mem _ hb
 ·rw[e]at hb
  unfold frs at hb
  rw[List.filterMap_cons,hf]at hb
  exact hb
theorem Inv.stkFree(I:Inv X pins σ H s):∀b∈frs X.stack,H b=none:=fun b hb=>by
 rcases List.mem_cons.mp (I.stkSub b hb)with e|hb
 ·rw[e];exact I.free
 ·obtain⟨_,o,ho,_⟩:=I.ok.funs.mem hb
  exact I.base.free b o ho (I.ok.frf b hb) fun z=>I.ok.exfs b z hb
theorem Inv.step{g':Array GenState}{t':Nat}{d':Drawn}{ch:List Addr}(I:Inv X pins σ H s)
  (hch:∀b∈ch,(b∈X.ex\/X.s₀.heap.objs.size<=b)/\b≠X.env.locals/\(∀x c,X.env.cells.lookup x=some c->c≠b)/\∀p∈X.pn++pins,p.1≠b)
  (keep:∀b o,b≠X.env.locals->b∉X.fs->b∉ch->s.heap.get? b=some o->H b=none->h'.get? b=some o)
  (slot:∀b o,b≠X.env.locals->b∈X.fs->b∉ch->s.heap.get? b=some o->H b=none->∃sl,h'.get? b=some { o with slots:=sl }) (free:∀b o,b∉ch->s.heap.get? b=some o->H b=none->H' b=none)
  (there:∀b o,b∉ch->s.heap.get? b=some o->∃o',h'.get? b=some o')
  (tups:∀b xs,H b=some (.tup xs)->H' b=some (.tup xs)) (frzs:∀b o u,H b=some (.frz o u)->H' b=some (.frz o u)) (tbls:∀b ps,H b=some (.tbl ps)->∃more,H' b=some (.tbl (ps++more)))
  (ns:∀m,s.heap.Ns X.env.locals m->h'.Ns X.env.locals m) (hok:HOk X.prog X.w H' h') (hg:AllBare g') :
  Inv X pins σ H' { s with heap:=h',gens:=g',drawn:=d',toks:=t' }:=by
 have neL:∀b o,X.s₀.heap.get? b=some o->b≠X.env.locals:=fun b o e=>Nat.ne_of_lt (Nat.lt_of_lt_of_le (Heap.lt_size e) I.ok.above)
 have neC:∀b o,X.s₀.heap.get? b=some o->b∉X.ex->b∉ch:=fun b o e hx hb=>by
  rcases(hch b hb).1 with z|z
  ·exact hx z
  ·exact absurd (Nat.lt_of_lt_of_le (Heap.lt_size e) z) (Nat.lt_irrefl _)
 have cellK:∀x c,X.env.cells.lookup x=some c->∀v,s.heap.IsCell c v->h'.IsCell c v:=fun x c e v ⟨o,ho,hd⟩=>by
  have nch:c∉ch:=fun z=>(hch c z).2.2.1 x c e rfl
  by_cases hc:c∈X.fs
  ·obtain⟨sl,q⟩:=slot c o (I.cne x c e) hc nch ho (I.freeC x c e)
   exact⟨_,q,hd⟩
  ·exact⟨o,keep c o (I.cne x c e) hc nch ho (I.freeC x c e),hd⟩
 refine⟨I.ok,I.os,hg,⟨fun b o e n hb hx=>?_,fun b o e n hb hx=>?_,fun b o e n hx=>?_,fun b o e hx=>?_,fun b xs e=>tups b xs (I.base.tups b xs e),fun b o xs e=>frzs b o xs (I.base.frzs b o xs e),fun b ps e=>?_⟩,?_,fun x c e=>?_,?_,fun x c e=>?_,fun p hp=>?_,hok,I.len⟩
 ·exact keep b o (neL b o e) hb (neC b o e hx) (I.base.keep b o e n hb hx) (I.base.free b o e n hx)
 ·obtain⟨sl,e1⟩:=I.base.slot b o e n hb hx
  obtain⟨sl',e2⟩:=slot b _ (neL b o e) hb (neC b o e hx) e1 (I.base.free b o e n hx)
  exact⟨sl',e2⟩
 ·obtain⟨o',e1⟩:=I.base.there b o e hx
  exact free b o' (neC b o e hx) e1 (I.base.free b o e n hx)
 ·obtain⟨o',e1⟩:=I.base.there b o e hx
  exact there b o' (neC b o e hx) e1
 ·obtain⟨m1,e1⟩:=I.base.tbls b ps e
  obtain⟨m2,e2⟩:=tbls b _ e1
  exact⟨m1++m2,by rw[e2,Array.append_assoc]⟩
 ·obtain⟨m,hn,hl⟩:=I.loc
  refine⟨m,ns m hn,fun i x v e1 e2 e3=>?_⟩
  obtain⟨u,r,l⟩:=hl i x v e1 e2 e3
  refine⟨u,r,?_⟩
  rcases l with l|⟨k,c,e,z⟩
  ·exact .inl l
  ·exact .inr ⟨k,c,e,cellK x c e _ z⟩
 ·obtain⟨v,z⟩:=I.cell x c e
  exact⟨v,cellK x c e v z⟩
 ·obtain⟨m,⟨o,_,_,ho,_⟩,_⟩:=I.loc
  exact free _ o (fun z=>(hch _ z).2.1 rfl) ho I.free
 ·obtain⟨v,o,ho,hd⟩:=I.cell x c e
  exact free c o (fun z=>(hch c z).2.2.1 x c e rfl) ho (I.freeC x c e)
 ·obtain⟨e,n,ne,nf,d⟩:=I.pin p hp
  have nch:p.1∉ch:=fun z=>(hch p.1 z).2.2.2 p hp rfl
  exact⟨keep p.1 p.2 ne nf nch e n,free p.1 p.2 nch e n,ne,nf,d⟩
theorem Inv.un{t':Nat}(I:Inv X pins σ H s)(u:Un X.fs [] H H' s.heap h')(hok:HOk X.prog X.w H' h'):Inv X pins σ H' { s with heap:=h',toks:=t' }:=by
 obtain⟨m,⟨o,es,ep,ho,r⟩,_⟩:=id I.loc
 obtain⟨sl,hL⟩:=u.any ho I.free (by simp)
 exact I.step (g':=s.gens) (d':=s.drawn) (ch:=[]) (fun _ z=>nomatch z) (fun b o _ hb _ e n=>u.keep b o e n hb (by simp)) (fun b o _ hb _ e n=>u.slot b o e n hb (by simp)) (fun b o _ e n=>u.free b o e n (by simp)) (fun b o _ e=>u.there b o e (by simp)) u.tups u.frzs u.tbls (fun m' hm=>by
  obtain⟨o',es',ep',ho',r'⟩:=hm
  rw[ho]at ho';cases ho'
  exact⟨_,es',ep',hL,r'⟩) hok I.bare
theorem Inv.call{g':Array GenState}{t':Nat}{d':Drawn}{ch:List Addr}(I:Inv X pins σ H s)(u:Un (frs X.stack) ch H H' s.heap h')(hok:HOk X.prog X.w H' h')(hg:AllBare g')
  (hch:∀b∈ch,(b∈X.ex\/X.s₀.heap.objs.size<=b)/\b≠X.env.locals/\(∀x c,X.env.cells.lookup x=some c->c≠b)/\∀p∈X.pn++pins,p.1≠b) :
  Inv X pins σ H' { s with heap:=h',gens:=g',drawn:=d',toks:=t' }:=by
 obtain⟨m,⟨o,es,ep,ho,r⟩,_⟩:=id I.loc
 obtain⟨sl,hL⟩:=u.any ho I.free fun z=>(hch _ z).2.1 rfl
 exact I.step (ch:=ch) hch (fun b o hL hb hc e n=>u.keep b o e n (fun z=>(List.mem_cons.mp (I.stkSub b z)).elim hL hb) hc) (fun b o _ _ hc e n=>u.any e n hc) (fun b o hc e n=>u.free b o e n hc) (fun b o hc e=>u.there b o e hc) u.tups u.frzs u.tbls (fun m' hm=>by
  obtain⟨o',es',ep',ho',r'⟩:=hm
  rw[ho]at ho';cases ho'
  exact⟨_,es',ep',hL,r'⟩) hok hg
theorem Inv.turned{t':Nat}{it:Addr}(I:Inv X pins σ H s)(k:∀b o,b≠it->s.heap.get? b=some o->h'.get? b=some o)(hn:H it=none)(hL:it≠X.env.locals)
  (h1:it∈X.ex\/X.s₀.heap.objs.size<=it) (h2:∀x c,X.env.cells.lookup x=some c->c≠it) (h3:∀p∈X.pn++pins,p.1≠it):Inv X pins σ H { s with heap:=h',toks:=t' }:=by
 have nit:∀b u,H b=some u->b≠it:=fun b u e z=>by rw[z,hn]at e;cases e
 refine I.step (g':=s.gens) (d':=s.drawn) (ch:=[it]) (fun b hb=>?_) (fun b o _ _ hc e _=>k b o (fun z=>hc (by simp[z])) e) (fun b o _ _ hc e _=>⟨o.slots,k b o (fun z=>hc (by simp[z])) e⟩) (fun _ _ _ _ n=>n)
  (fun b o hc e=>⟨o,k b o (fun z=>hc (by simp[z])) e⟩) (fun _ _ e=>e) (fun _ _ _ e=>e) (fun b ps e=>⟨#[],by rw[e];simp⟩) (fun m hm=>?_) (fun b u e=>?_) I.bare
 ·have e:b=it:=by simpa using hb
  subst e
  exact⟨h1,hL,h2,h3⟩
 ·obtain⟨o,es,ep,ho,r⟩:=hm
  exact⟨o,es,ep,k _ o (Ne.symm hL) ho,r⟩
 ·refine(I.hok b u e).stay (fun c v hc q=>k c v ?_ q) (fun _ q=>q) fun _ _ q=>q
  rcases hc with z|z
  ·rw[z];exact nit b u e
  ·exact nit c _ z
theorem Inv.tok(I:Inv X pins σ H s)(t:Nat):Inv X pins σ H { s with toks:=t }:=I.un (h':=s.heap) (t':=t) Un.refl I.hok
theorem Inv.kept{t':Nat}(I:Inv X pins σ H s)(k:∀b u,s.heap.get? b=some u->h'.get? b=some u):Inv X pins σ H { s with heap:=h',toks:=t' }:=I.un (Un.kept k) (I.hok.kept k)
theorem Inv.laid{a:Addr}{o:HO}{t':Nat}(I:Inv X pins σ H s)(k:∀b u,s.heap.get? b=some u->h'.get? b=some u)(hp:s.heap.objs.size<=a)(new:cM X.prog X.w (upd H a o) h' a o) :
  Inv X pins σ (upd H a o) { s with heap:=h',toks:=t' }:=I.un (Un.laid k hp (I.hok.fresh hp)) (I.hok.laid k hp new)
theorem Inv.write{x e:Addr}{o:HO}{t':Nat}(I:Inv X pins σ H s)(mu:Mut (H x))(he:e=x\/H e=some (.own x))(k:∀b u,b≠e->s.heap.get? b=some u->h'.get? b=some u)(heo:∃u,h'.get? e=some u)
  (new:cM X.prog X.w (upd H x o) h' x o):Inv X pins σ (upd H x o) { s with heap:=h',toks:=t' }:=I.un (Un.write mu he k heo) (I.hok.write mu he k heo new)
theorem Inv.pins_of{pins':List (Addr×Obj)}(I:Inv X pins σ H s)(h:∀p∈pins',s.heap.get? p.1=some p.2/\H p.1=none/\p.1≠X.env.locals/\p.1∉X.fs/\∀v,p.2.data≠.cell v):Inv X pins' σ H s:=
 ⟨I.ok,I.os,I.bare,I.base,I.loc,I.cell,I.free,I.freeC,fun p hp=>(List.mem_append.mp hp).elim (fun z=>I.pin p (List.mem_append_left _ z)) (h p),I.hok,I.len⟩
theorem uE{N:List Str}(hN:N.Nodup){i j:Nat}{x:Str}(a:N[i]?=some x)(b:N[j]?=some x):i=j:=by
 obtain⟨h1,e1⟩:=List.getElem?_eq_some_iff.mp a
 obtain⟨h2,e2⟩:=List.getElem?_eq_some_iff.mp b
 exact(List.getElem_inj hN).mp (e1.trans e2.symm)
theorem qD{M:Model}{A:Around}{E:Value->Shared->Prop}{i:Nat}{x:Str}{v:V}{u:Value}{Q:Unit->Shared->Prop}(I:Inv X pins σ H s)(hN:X.N.Nodup)(hi:X.N[i]?=some x)(hx:Loc X.env.scope x)(r:dB v u)
  (h:∀s',Inv X pins (σ.set i (some v)) H s'->(∃a,Heap.SameBut a s.heap s'.heap/\(a=X.env.locals\/X.env.cells.lookup x=some a))->Q () s') (hf:X.fn x=true\/X.env.scope.names.lookup x=some .local:=by first|exact .inl rfl|exact .inr rfl|assumption):wpAny M A (storeName X.env x u) Q E s:=by
 obtain⟨m,hn,hl⟩:=id I.loc
 have hcls:(X.env.scope.kind == .class||(X.env.scope.kind == .module&&X.env.locals !=X.env.globals))=false:=by rw[I.ok.kind];rfl
 have hiσ:i < σ.length:=by rw[I.len];exact(List.getElem?_eq_some_iff.mp hi).1
 have cne:=I.cne
 have tracked:∀{a:Addr} {h':Heap},(∃o,s.heap.get? a=some o/\H a=none)->Heap.SameBut a s.heap h'->HOk X.prog X.w H h':=fun{a h'} ha hs b ob e=>by
  obtain⟨_,_,hfree⟩:=ha
  refine(I.hok b ob e).stay (fun c w' hc q=>(hs.2 c ?_).trans q) (fun _ q=>q) fun _ _ q=>q
  rintro rfl
  rcases hc with rfl|hc
  ·rw[hfree]at e;cases e
  ·rw[hfree]at hc;cases hc
 rcases hx with hk|hk
 ·refine wpAny_storeName_local hk hn (fun h' hn' hs=>?_) hcls
  obtain⟨oL,_,_,hoL,_⟩:=id hn
  refine h _ ⟨I.ok,I.os,I.bare,⟨fun b o e n hb hx=>?_,fun b o e n hb hx=>?_,I.base.free,fun b o e hx=>?_,I.base.tups,I.base.frzs,I.base.tbls⟩,⟨_,hn',fun j y v' e1 e2 e3=>?_⟩,fun y c e=>?_,I.free,I.freeC,fun p hp=>?_,tracked ⟨oL,hoL,I.free⟩ hs,by simpa using I.len⟩ ⟨_,hs,.inl rfl⟩
  ·exact(hs.2 b (Nat.ne_of_lt (Nat.lt_of_lt_of_le (Heap.lt_size e) I.ok.above))).trans (I.base.keep b o e n hb hx)
  ·obtain⟨sl,e1⟩:=I.base.slot b o e n hb hx
   exact⟨sl,(hs.2 b (Nat.ne_of_lt (Nat.lt_of_lt_of_le (Heap.lt_size e) I.ok.above))).trans e1⟩
  ·obtain⟨o',e1⟩:=I.base.there b o e hx
   exact⟨o',(hs.2 b (Nat.ne_of_lt (Nat.lt_of_lt_of_le (Heap.lt_size e) I.ok.above))).trans e1⟩
  ·by_cases hj:j=i
   ·subst hj
    rw[hi]at e1;cases e1
    rw[List.getElem?_set_self hiσ]at e2
    cases e2
    exact⟨u,r,.inl ⟨hk,by simp⟩⟩
   ·rw[List.getElem?_set_ne (Ne.symm hj)]at e2
    obtain⟨u',r',q⟩:=hl j y v' e1 e2 e3
    refine⟨u',r',?_⟩
    rcases q with⟨k,e⟩|⟨k,c,e,z⟩
    ·refine .inl ⟨k,?_⟩
     have:y≠x:=fun e=>hj (uE hN e1 (e▸hi))
     simp[this,e]
    ·exact .inr ⟨k,c,e,z.sameBut hs (cne y c e)⟩
  ·obtain⟨w',z⟩:=I.cell y c e
   exact⟨w',z.sameBut hs (cne y c e)⟩
  ·obtain⟨e,n,ne,nf,d⟩:=I.pin p hp
   exact⟨(hs.2 p.1 ne).trans e,n,ne,nf,d⟩
 ·have hfn:X.fn x=true:=by
   rcases hf with z|z
   ·exact z
   ·rw[z]at hk;cases hk
  obtain⟨c,hc⟩:=I.ok.has x (.inl hk)
  obtain⟨w',z⟩:=I.cell x c hc
  refine wpAny_storeName_cell I.ok.kind hk hc z (fun h' hc' hs=>?_)
  obtain⟨oc,hoc,hocd⟩:=id z
  refine h { s with heap:=h' } ⟨I.ok,I.os,I.bare,⟨fun b o e n hb hx=>?_,fun b o e n hb hx=>?_,I.base.free,fun b o e hx=>?_,I.base.tups,I.base.frzs,I.base.tbls⟩,⟨m,hn.sameBut hs (Ne.symm (cne x c hc)),fun j y v' e1 e2 e3=>?_⟩,fun y c' e=>?_,I.free,I.freeC,fun p hp=>?_,tracked ⟨oc,hoc,I.freeC x c hc⟩ hs,by simpa using I.len⟩ ⟨c,hs,.inr hc⟩
  ·exact(hs.2 b (Nat.ne_of_lt (Nat.lt_of_lt_of_le (Heap.lt_size e) (I.ok.cab x c hfn hc)))).trans (I.base.keep b o e n hb hx)
  ·obtain⟨sl,e1⟩:=I.base.slot b o e n hb hx
   exact⟨sl,(hs.2 b (Nat.ne_of_lt (Nat.lt_of_lt_of_le (Heap.lt_size e) (I.ok.cab x c hfn hc)))).trans e1⟩
  ·obtain⟨o',e1⟩:=I.base.there b o e hx
   exact⟨o',(hs.2 b (Nat.ne_of_lt (Nat.lt_of_lt_of_le (Heap.lt_size e) (I.ok.cab x c hfn hc)))).trans e1⟩
  ·by_cases hj:j=i
   ·subst hj
    rw[hi]at e1;cases e1
    rw[List.getElem?_set_self hiσ]at e2
    cases e2
    exact⟨u,r,.inr ⟨.inl hk,c,hc,hc'⟩⟩
   ·rw[List.getElem?_set_ne (Ne.symm hj)]at e2
    obtain⟨u',r',q⟩:=hl j y v' e1 e2 e3
    refine⟨u',r',?_⟩
    rcases q with q|⟨k,c',e,z'⟩
    ·exact .inl q
    ·refine .inr ⟨k,c',e,z'.sameBut hs ?_⟩
     rintro rfl
     exact hj (uE hN e1 (I.ok.inj _ _ _ e hc▸hi))
  ·by_cases hcc:c'=c
   ·subst hcc;exact⟨_,hc'⟩
   ·obtain⟨w2,z2⟩:=I.cell y c' e
    exact⟨w2,z2.sameBut hs hcc⟩
  ·obtain⟨e,n,ne,nf,d⟩:=I.pin p hp
   refine⟨(hs.2 p.1 ?_).trans e,n,ne,nf,d⟩
   intro q
   rw[q,hoc]at e
   have q':oc=p.2:=Option.some.inj e
   exact d w' (by rw[<-q'];exact hocd)
theorem uj{M:Model}{A:Around}{E:Value->Shared->Prop}{i:Nat}{x:Str}{v:V}{u:Value}{Q:Unit->Shared->Prop}(I:Inv X pins σ H s)(hN:X.N.Nodup)(hi:X.N[i]?=some x)(hx:Loc X.env.scope x)(r:dB v u)
  (h:∀s',Inv X pins (σ.set i (some v)) H s'->Q () s') (hf:X.fn x=true\/X.env.scope.names.lookup x=some .local:=by first|exact .inl rfl|exact .inr rfl|assumption):wpAny M A (storeName X.env x u) Q E s:=
 qD I hN hi hx r (fun s' I' _=>h s' I') hf
theorem Inv.call'{s':Shared}{ch:List Addr}(I:Inv X pins σ H s)(ho:s'.os=s.os)(u:Un (frs X.stack) ch H H' s.heap s'.heap)(hok:HOk X.prog X.w H' s'.heap)(hg:AllBare s'.gens)
  (hch:∀b∈ch,(b∈X.ex\/X.s₀.heap.objs.size<=b)/\b≠X.env.locals/\(∀x c,X.env.cells.lookup x=some c->c≠b)/\∀p∈X.pn++pins,p.1≠b):Inv X pins σ H' s':=by
 obtain⟨h',g',d',t',o'⟩:=s'
 have e:o'=s.os:=ho
 subst e
 exact I.call (g':=g') (t':=t') (d':=d') u hok hg hch
end
abbrev XK:=Value->Option Addr->Hp->Prop
abbrev St:=List (Option V)
abbrev VK:=V->Hp->Prop
abbrev TE:=St->Hp->VK->Prop
abbrev TT:=St->Hp->(Bool->Hp->Prop)->Prop
abbrev TA:=St->Hp->(List V->Hp->Prop)->Prop
structure v8 where
 nx:St->Hp->Prop
 rt:VK
 bk:St->Hp->Prop:=fun _ _=>False
 ct:St->Hp->Prop:=fun _ _=>False
abbrev TS:=v8->St->Hp->Prop
def EP(X:Cx)(pins:List (Addr×Obj))(σ:St)(Q:VK)(u:Value)(s':Shared):Prop:=∃v H',Inv X pins σ H' s'/\dB v u/\Q v H'
def TP(X:Cx)(pins:List (Addr×Obj))(σ:St)(Q:Bool->Hp->Prop)(b:Bool)(s':Shared):Prop:=∃H',Inv X pins σ H' s'/\Q b H'
def AP(X:Cx)(pins:List (Addr×Obj))(σ:St)(Q:List V->Hp->Prop)(us:List Value)(s':Shared):Prop:=∃vs H',Inv X pins σ H' s'/\cI vs us/\Q vs H'
def SP(X:Cx)(pins:List (Addr×Obj))(D:v8)(f:Flow)(s':Shared):Prop:=
 match f with
 |.next=>∃σ' H',Inv X pins σ' H' s'/\D.nx σ' H'
 |.brk=>∃σ' H',Inv X pins σ' H' s'/\D.bk σ' H'
 |.cont=>∃σ' H',Inv X pins σ' H' s'/\D.ct σ' H'
 |.ret u=>∃v σ' H',Inv X pins σ' H' s'/\dB v u/\D.rt v H'
def PE(X:Cx)(e:Expr)(t:TE):Prop:=
 ∀(pins:List (Addr×Obj)) (s:Shared) (σ:St) (H:Hp) (Q:VK),Inv X pins σ H s->t σ H Q->wpAny (model X.prog X.w) X.A (eval e X.env) (EP X pins σ Q) X.xe s
def PT(X:Cx)(e:Expr)(t:TT):Prop:=
 ∀(pins:List (Addr×Obj)) (s:Shared) (σ:St) (H:Hp) (Q:Bool->Hp->Prop),Inv X pins σ H s->t σ H Q->wpAny (model X.prog X.w) X.A (isTrue e X.env (eval e X.env)) (TP X pins σ Q) X.xe s
def PW(X:Cx)(e:Expr)(t:TT):Prop:=
 ∀(whole:Sem Value) (pins:List (Addr×Obj)) (s:Shared) (σ:St) (H:Hp) (Q:Bool->Hp->Prop),Inv X pins σ H s->t σ H Q->wpAny (model X.prog X.w) X.A (isTrue e X.env whole) (TP X pins σ Q) X.xe s
theorem PW.pt{X:Cx}{e:Expr}{t:TT}(h:PW X e t):PT X e t:=h _
def PA(X:Cx)(es:List Expr)(t:TA):Prop:=
 ∀(pos:Pos) (pins:List (Addr×Obj)) (s:Shared) (σ:St) (H:Hp) (Q:List V->Hp->Prop),Inv X pins σ H s->t σ H Q->wpAny (model X.prog X.w) X.A (spliced (backTo pos (starEach es X.env))) (AP X pins σ Q) X.xe s
def PS(X:Cx)(st:Stmt)(t:TS):Prop:=
 ∀(pins:List (Addr×Obj)) (s:Shared) (σ:St) (H:Hp) (D:v8),Inv X pins σ H s->t D σ H->wpAny (model X.prog X.w) X.A (exec st X.env) (SP X pins D) X.xe s
def PSs(X:Cx)(st:List Stmt)(t:TS):Prop:=
 ∀(pins:List (Addr×Obj)) (s:Shared) (σ:St) (H:Hp) (D:v8),Inv X pins σ H s->t D σ H->wpAny (model X.prog X.w) X.A (execs st X.env) (SP X pins D) X.xe s
theorem thn{α:Type}{t:Sem α}{Q Q':α->Shared->Prop}{M:Model}{A:Around}{E:Value->Shared->Prop}{s:Shared}(h:wpAny M A t Q E s)(hQ:∀a s,Q a s->Q' a s):wpAny M A t Q' E s:=wpAny_mono h hQ fun _ _ x=>x
section
variable{X:Cx}
def IU(i:Nat):TE:=fun σ H Q=>∃v,σ[i]?=some (some v)/\Q v H
def tC(v:V):TE:=fun _ H Q=>Q v H
theorem GJ{i:Nat}{x:Str}{pos:Pos}(hN:X.N[i]?=some x)(hv:Vis X.env.scope x)(hd:(x == ("__debug__":Str))=false:=by decide)(hcd:(x == ("__classdict__":Str))=false:=by decide):PE X (.Name x pos) (IU i):=by
 intro pins s σ H Q I h
 obtain⟨v,e,h⟩:=h
 obtain⟨m,hn,hl⟩:=I.loc
 obtain⟨u,r,l⟩:=hl i x v hN e hv
 have fin:EP X pins σ Q u s:=⟨v,H,I,r,h⟩
 rcases l with⟨hk,hm⟩|⟨hk,c,hc,hcell⟩
 ·exact wpAny_Name (wpAny_loadName_local I.ok.kind hk hn hm fin) hd
 ·rcases hk with hk|hk
  ·exact wpAny_Name (wpAny_loadName_cell I.ok.kind hk hc hcell fin) hd
  ·exact wpAny_Name (wpAny_loadName_free I.ok.kind hk hc hcell fin hcd) hd
theorem GQ{i j pos}:PE X (.Constant (.int i) j pos) (tC (.int i)):=fun _ _ _ H _ I h=>wpAny_Constant_int ⟨.int i,H,I.tok _,⟨_,rfl⟩,h⟩
theorem KJ{b j pos}:PE X (.Constant (.bool b) j pos) (tC (.bl b)):=fun _ _ _ H _ I h=>Constant_bool ⟨.bl b,H,I,rfl,h⟩
theorem GO{j pos}:PE X (.Constant .none j pos) (tC .non):=fun _ _ _ H _ I h=>Constant_none ⟨.non,H,I,rfl,h⟩
theorem GL{x j pos}:PE X (.Constant (.str x) j pos) (tC (.str x)):=fun _ _ _ H _ I h=>Calls.Constant_str ⟨.str x,H,I.tok _,⟨_,rfl⟩,h⟩
def Gl(X:Cx)(x:Str):Prop:=X.env.kindOf x=some .globalImplicit
theorem xH{E:Value->Shared->Prop}{pins:List (Addr×Obj)}{s:Shared}{σ:St}{H:Hp}{x:Str}{u:Value}{pos:Pos}{Q:Value->Shared->Prop}(I:Inv X pins σ H s)(hg:Gl X x)(hm:X.mg x=some u)(h:Q u s)
  (hd:(x == ("__debug__":Str))=false:=by decide):wpAny (model X.prog X.w) X.A (eval (.Name x pos) X.env) Q E s:=
 Calls.Name_function_global I.ok.kind hg (Calls.loadGlobal_global (by rw[I.ok.glob];exact I.mod.glob.keeps I.bk) hm h) hd
theorem qV{E:Value->Shared->Prop}{pins:List (Addr×Obj)}{s:Shared}{σ:St}{H:Hp}{x:Str}{u:Value}{pos:Pos}{Q:Value->Shared->Prop}(I:Inv X pins σ H s)(hg:Gl X x)(hm:X.mg x=none)(hv:bootBuiltins x=some u)(h:Q u s)
  (hn:x≠"__name__":=by decide) (hd:(x == ("__debug__":Str))=false:=by decide):wpAny (model X.prog X.w) X.A (eval (.Name x pos) X.env) Q E s:=by
 obtain⟨mb,h1,h2⟩:=I.mod.blt
 exact Calls.Name_function_global I.ok.kind hg (Calls.loadGlobal_builtin (by rw[I.ok.glob];exact I.mod.glob.keeps I.bk) hm (by rw[I.ok.blt];exact h1.keeps I.bk) ((h2 x hn).trans hv) h) hd
theorem DQ{x:Str}{v:V}{u:Value}{pos:Pos}(hg:Gl X x)(hm:X.mg x=none)(hv:bootBuiltins x=some u)(r:dB v u)(hn:x≠"__name__":=by decide)(hd:(x == ("__debug__":Str))=false:=by decide):PE X (.Name x pos) (tC v):=
 fun _ _ _ H _ I h=>qV I hg hm hv ⟨v,H,I,r,h⟩ hn hd
variable{a b:Expr}{ta tb:TE}{pos:Pos}
def PC(X:Cx)(op:CmpOp)(a b:Expr)(t:TE):Prop:=
 ∀(pins:List (Addr×Obj)) (s:Shared) (σ:St) (H:Hp) (Q:VK),Inv X pins σ H s->t σ H Q->
  wpAny (model X.prog X.w) X.A (eval a X.env) (fun v s₁=>wpAny (model X.prog X.w) X.A (eval b X.env) (fun u s₂=>wpAny (model X.prog X.w) X.A (compareOp op v u) (EP X pins σ Q) X.xe s₂) X.xe s₁) X.xe s
def tB(t:TE):TT:=fun σ H Q=>t σ H fun x H1=>∃c,x=.bl c/\Q c H1
theorem Gz{op:CmpOp}{t:TE}(h:PC X op a b t)(h1:behindInMarks op b=false:=by first|exact nobehind _ (by decide) (by decide)|rfl):PT X (.Compare a [op] [b] pos) (tB t):=by
 intro pins s σ H Q I hw
 refine wpAny_isTrue_Compare1 (thn (h pins s σ H _ I hw) fun v s1 h1=>thn h1 fun u s2 h2=>thn h2 fun c s3 hz=>?_) h1
 obtain⟨x,H1,I1,r1,q1⟩:=hz
 obtain⟨d,rfl,q⟩:=q1
 cases r1
 exact wpAny_truthy_bool ⟨H1,I1,q⟩
theorem Gx{e:Expr}{t:TE}(h:PE X e t)(he:∀whole,isTrue e X.env whole=(do let v <-whole;standAt e.pos;holding [v] (truthy v)):=by intro _;rfl):PT X e (tB t):=by
 intro pins s σ H Q I hw
 refine isTrue_plain (thn (h pins s σ H _ I hw) fun v s1 ⟨x,H1,I1,r1,q1⟩=>?_) (he _)
 obtain⟨d,rfl,q⟩:=q1
 cases r1
 exact wpAny_truthy_bool ⟨H1,I1,q⟩
variable{tA tB':TT}{rest:List Expr}
def L8(t u:TT):TT:=fun σ H Q=>t σ H fun c H1=>if c=true then u σ H1 Q else Q false H1
def tOr(t u:TT):TT:=fun σ H Q=>t σ H fun c H1=>if c=true then Q true H1 else u σ H1 Q
def L4(t:TT):TT:=fun σ H Q=>t σ H fun c H1=>Q (!c) H1
theorem Du(ha:PT X a tA):PW X (.BoolOp .And [a] pos) tA:=by
 intro wh pins s σ H Q I h
 refine isTrue_and (thn (ha pins s σ H Q I h) fun c s1 e=>?_)
 cases c with
 |true=>exact isTrue_and_nil e
 |false=>exact e
theorem Gv(ha:PT X a tA):PW X (.BoolOp .Or [a] pos) tA:=by
 intro wh pins s σ H Q I h
 refine isTrue_or (thn (ha pins s σ H Q I h) fun c s1 e=>?_)
 cases c with
 |false=>exact isTrue_or_nil e
 |true=>exact e
theorem Gw(ha:PT X a tA)(hb:PW X (.BoolOp .And (b::rest) pos) tB'):PW X (.BoolOp .And (a::b::rest) pos) (L8 tA tB'):=by
 intro wh pins s σ H Q I h
 refine isTrue_and (thn (ha pins s σ H _ I h) fun c s1 ⟨H1,I1,q1⟩=>?_)
 cases c with
 |true=>exact hb wh pins s1 σ H1 Q I1 q1
 |false=>exact⟨H1,I1,q1⟩
theorem Kz(ha:PT X a tA)(hb:PW X (.BoolOp .Or (b::rest) pos) tB'):PW X (.BoolOp .Or (a::b::rest) pos) (tOr tA tB'):=by
 intro wh pins s σ H Q I h
 refine isTrue_or (thn (ha pins s σ H _ I h) fun c s1 ⟨H1,I1,q1⟩=>?_)
 cases c with
 |true=>exact⟨H1,I1,q1⟩
 |false=>exact hb wh pins s1 σ H1 Q I1 q1
theorem Gy(ha:PT X a tA):PT X (.UnaryOp .Not a pos) (L4 tA):=by
 intro pins s σ H Q I h
 exact isTrue_not (ha pins s σ H (fun c H1=>Q (!c) H1) I h)
def Gf(ta tb:TE):TE:=fun σ H Q=>ta σ H fun x H1=>∃c,x=.bl c/\if c=true then tb σ H1 Q else Q (.bl false) H1
theorem GN{op}{t:TE}(h:PE X a t):PE X (.BoolOp op [a] pos) t:=fun pins s σ H Q I hw=>BoolOp_one (h pins s σ H Q I hw)
theorem GS(ha:PE X a ta)(hb:PE X (.BoolOp .And (b::rest) pos) tb):PE X (.BoolOp .And (a::b::rest) pos) (Gf ta tb):=by
 intro pins s σ H Q I h
 refine BoolOp_and (thn (ha pins s σ H _ I h) fun v s1 hz=>?_)
 obtain⟨x,H1,I1,r1,q1⟩:=hz
 obtain⟨c,rfl,q1⟩:=q1
 cases r1
 refine wpAny_truthy_bool ?_
 cases c with
 |true=>exact hb pins s1 σ H1 Q I1 q1
 |false=>exact⟨.bl false,H1,I1,rfl,q1⟩
end
def SqL(K:PySem.W.Frag)(H:Hp)(a:Addr)(xs:List V):Prop:=
 Rd H a (.lst xs)\/
  ∃(o:Obj) (its:Array Value) (n:Nat),K.lookup a=some o/\o.cls=.type "list"/\o.dict=none/\o.data=.seq its n/\its.size<=sizeLine/\cI xs its.toList
def SqT(K:PySem.W.Frag)(H:Hp)(a:Addr)(xs:List V):Prop:=
 Rd H a (.tup xs)\/
  ∃(o:Obj) (its:Array Value) (n:Nat),K.lookup a=some o/\o.cls=.type "tuple"/\o.data=.seq its n/\its.size<=sizeLine/\cI xs its.toList
def Nl:Value->Option V
 |.none=>some .non
 |.bool b=>some (.bl b)
 |.int i _=>some (.int i)
 |.str x _=>some (.str x)
 |.bytes b _=>some (.byt b)
 |.float b _=>some (.flt b)
 |.ref a=>some (.ref a)
 |.type n=>some (.ty n)
 |_=>none
theorem dB.abs{x:V}{u:Value}(r:dB x u):Nl u=some x:=by
 cases x with
 |non=>cases r;rfl
 |bl _=>cases r;rfl
 |int _=>obtain⟨t,rfl⟩:=r;rfl
 |str _=>obtain⟨t,rfl⟩:=r;rfl
 |byt _=>obtain⟨t,rfl⟩:=r;rfl
 |flt _=>obtain⟨t,rfl⟩:=r;rfl
 |ref _=>cases r;rfl
 |ty _=>cases r;rfl
theorem dB.inj{x y:V}{u:Value}(r:dB x u)(q:dB y u):x=y:=Option.some.inj (r.abs.symm.trans q.abs)
theorem cI.inj:∀{xs ys:List V} {us:List Value},cI xs us->cI ys us->xs=ys
 |_,_,_,.nil,.nil=>rfl
 |_,_,_,.cons r t,.cons r' t'=>by rw[r.inj r',cI.inj t t']
section
variable{X:Cx}{pins:List (Addr×Obj)}{σ:St}{H:Hp}{s:Shared}{a:Addr}{xs ys:List V}
theorem SqL.of{K:PySem.W.Frag}(h:H a=some (.lst xs)):SqL K H a xs:=.inl (.inl h)
theorem SqT.of{K:PySem.W.Frag}(h:H a=some (.tup xs)):SqT K H a xs:=.inl (.inl h)
theorem Inv.list(I:Inv X pins σ H s)(h:SqL X.K H a xs):∃its:List Value,cI xs its/\PlainL s.heap a its.toArray/\xs.length<=sizeLine:=by
 rcases h with h|⟨o,its,n,hk,hc,hd,hs,hz,r⟩
 ·obtain⟨z,its,n,r,e⟩:=h.ok I.hok
  exact⟨its,r,⟨_,n,e,rfl,rfl,rfl⟩,z⟩
 ·refine⟨its.toList,r,⟨o,n,I.kIn a o hk,hc,hd,by simpa using hs⟩,?_⟩
  have e:=r.length
  simp only[Array.length_toList]at e
  omega
theorem Inv.tuple(I:Inv X pins σ H s)(h:SqT X.K H a xs):∃its:List Value,cI xs its/\IsTup s.heap a its.toArray/\xs.length<=sizeLine:=by
 rcases h with h|⟨o,its,n,hk,hc,hs,hz,r⟩
 ·obtain⟨z,its,r,p⟩:=h.ok I.hok
  exact⟨its,r,p,z⟩
 ·refine⟨its.toList,r,⟨o,I.kIn a o hk,hc,n,by simpa using hs⟩,?_⟩
  have e:=r.length
  simp only[Array.length_toList]at e
  omega
theorem Inv.list_inj(I:Inv X pins σ H s)(h:SqL X.K H a xs)(h':SqL X.K H a ys):xs=ys:=by
 obtain⟨its,r,⟨o,n,e,_,_,d⟩,_⟩:=I.list h
 obtain⟨its',r',⟨o',n',e',_,_,d'⟩,_⟩:=I.list h'
 rw[e]at e';cases e'
 rw[d]at d'
 injection d' with d1 _
 have:its=its':=by simpa using congrArg Array.toList d1
 subst this
 exact r.inj r'
theorem Inv.tuple_inj(I:Inv X pins σ H s)(h:SqT X.K H a xs)(h':SqT X.K H a ys):xs=ys:=by
 obtain⟨its,r,⟨o,e,_,n,d⟩,_⟩:=I.tuple h
 obtain⟨its',r',⟨o',e',_,n',d'⟩,_⟩:=I.tuple h'
 rw[e]at e';cases e'
 rw[d]at d'
 injection d' with d1 _
 have:its=its':=by simpa using congrArg Array.toList d1
 subst this
 exact r.inj r'
end
abbrev Cx.wish(X:Cx)(E:Value->Shared->Prop):Cx:={ X with xe:=E }
abbrev Cx.nox(X:Cx):Cx:=X.wish fun _ _=>False
theorem Cx.Ok.wish{X:Cx}(ok:X.Ok)(E:Value->Shared->Prop):(X.wish E).Ok:=
 ⟨ok.mod,ok.kind,ok.glob,ok.blt,ok.above,ok.inj,ok.has,ok.cab,ok.hd,ok.frames,ok.stk,ok.exf,ok.bs,ok.bsz,ok.noex,ok.exfs,ok.funs,ok.frf⟩
theorem Cx.Ok.unwish{X:Cx}{E:Value->Shared->Prop}(ok:(X.wish E).Ok):X.Ok:=
 ⟨ok.mod,ok.kind,ok.glob,ok.blt,ok.above,ok.inj,ok.has,ok.cab,ok.hd,ok.frames,ok.stk,ok.exf,ok.bs,ok.bsz,ok.noex,ok.exfs,ok.funs,ok.frf⟩
section
variable{X:Cx}{pins:List (Addr×Obj)}{σ:St}{H:Hp}{s:Shared}{E:Value->Shared->Prop}
theorem Inv.wish(I:Inv X pins σ H s)(E:Value->Shared->Prop):Inv (X.wish E) pins σ H s:=⟨I.ok.wish E,I.os,I.bare,I.base,I.loc,I.cell,I.free,I.freeC,I.pin,I.hok,I.len⟩
theorem Inv.unwish(I:Inv (X.wish E) pins σ H s):Inv X pins σ H s:=⟨I.ok.unwish,I.os,I.bare,I.base,I.loc,I.cell,I.free,I.freeC,I.pin,I.hok,I.len⟩
theorem SP.unwish{D:v8}{f:Flow}{s':Shared}(h:SP (X.wish E) pins D f s'):SP X pins D f s':=by
 cases f with
 |next=>obtain⟨σ',H',I,q⟩:=h;exact⟨σ',H',I.unwish,q⟩
 |brk=>obtain⟨σ',H',I,q⟩:=h;exact⟨σ',H',I.unwish,q⟩
 |cont=>obtain⟨σ',H',I,q⟩:=h;exact⟨σ',H',I.unwish,q⟩
 |ret u=>obtain⟨v,σ',H',I,r,q⟩:=h;exact⟨v,σ',H',I.unwish,r,q⟩
theorem PSs.nox{st:List Stmt}{t:TS}(h:PSs X.nox st t):PSs X st t:=fun pins s σ H D I hw=>
 wpAny_mono (h pins s σ H D (I.wish _) hw) (fun _ _ q=>q.unwish) fun _ _ z=>False.elim z
end
section
variable{X:Cx}{st:Stmt}{rest:List Stmt}{t u:TS}{e:Expr}{te:TE}{pos:Pos}
def F5:TS:=fun D σ H=>D.nx σ H
def L1(t u:TS):TS:=fun D σ H=>t { D with nx:=u D } σ H
theorem Dx:PSs X [] F5:=fun _ _ σ H _ I h=>wpAny_execs_nil ⟨σ,H,I,h⟩
theorem z3(h1:PS X st t)(h2:PSs X rest u):PSs X (st::rest) (L1 t u):=by
 intro pins s σ H D I h
 refine wpAny_execs_cons (thn (h1 pins s σ H { D with nx:=u D } I h) fun f s1 q=>?_)
 cases f with
 |next=>
  obtain⟨σ',H',I',q⟩:=q
  exact h2 pins s1 σ' H' D I' q
 |ret v=>exact q
 |brk=>exact q
 |cont=>exact q
theorem Dw(h1:PS X st t):PSs X [st] t:=by
 intro pins s σ H D I h
 refine wpAny_execs_cons (thn (h1 pins s σ H D I h) fun f s1 q=>?_)
 cases f with
 |next=>exact wpAny_execs_nil q
 |ret v=>exact q
 |brk=>exact q
 |cont=>exact q
theorem Inv.quiet{pins:List (Addr×Obj)}{σ:St}{H:Hp}{s:Shared}(I:Inv X pins σ H s):interactive X.env=false:=by simp[interactive,I.ok.kind]
def F8(te:TE):TS:=fun D σ H=>te σ H fun _ H1=>D.nx σ H1
theorem Dy(he:PE X e te)(hs:swapsWith e none pos.line X.env=pure false:=by rfl):PS X (.Expr e pos) (F8 te):=by
 intro pins s σ H D I h
 exact wpAny_Expr_any (thn (he pins s σ H _ I h) fun v s1 ⟨x,H1,I1,r1,q1⟩=>⟨σ,H1,I1,q1⟩) I.quiet hs
def L3(te:TE):TS:=fun D σ H=>te σ H D.rt
theorem GB(he:PE X e te):PS X (.Return (some e) pos) (L3 te):=by
 intro pins s σ H D I h
 exact wpAny_Return_some (thn (he pins s σ H _ I h) fun v s1 ⟨x,H1,I1,r1,q1⟩=>⟨x,σ,H1,I1,r1,q1⟩)
def L6(c:TT)(t u:TS):TS:=fun D σ H=>c σ H fun b H1=>if b=true then t D σ H1 else u D σ H1
theorem KA{c:Expr}{a b:List Stmt}{tc:TT}(hc:PT X c tc)(ha:PSs X a t)(hb:PSs X b u):PS X (.If c a b pos) (L6 tc t u):=by
 intro pins s σ H D I h
 refine wpAny_If (thn (hc pins s σ H _ I h) fun d s1 ⟨H1,I1,q1⟩=>?_)
 cases d with
 |true=>exact ha pins s1 σ H1 D I1 q1
 |false=>exact hb pins s1 σ H1 D I1 q1
end
abbrev TG:=V->St->Hp->(St->Hp->Prop)->Prop
abbrev TGs:=List V->St->Hp->(St->Hp->Prop)->Prop
def PG(X:Cx)(target:Expr)(t:TG):Prop:=
 ∀(pins:List (Addr×Obj)) (s:Shared) (σ:St) (H:Hp) (v:V) (u:Value) (Q:St->Hp->Prop),Inv X pins σ H s->dB v u->t v σ H Q->
  wpAny (model X.prog X.w) X.A (assign target X.env u) (fun _ s'=>∃σ' H',Inv X pins σ' H' s'/\Q σ' H') X.xe s
def PGs(X:Cx)(ts:List Expr)(t:TGs):Prop:=
 ∀(pins:List (Addr×Obj)) (s:Shared) (σ:St) (H:Hp) (vs:List V) (us:List Value) (Q:St->Hp->Prop),Inv X pins σ H s->cI vs us->t vs σ H Q->
  wpAny (model X.prog X.w) X.A (assignInOrder ((assignEach ts X.env).map (·.2)) us) (fun _ s'=>∃σ' H',Inv X pins σ' H' s'/\Q σ' H') X.xe s
abbrev Je:=V->V->V->Hp->(Hp->Prop)->Prop
def LU(X:Cx)(t:Je):Prop:=
 ∀(pins:List (Addr×Obj)) (s:Shared) (σ:St) (H:Hp) (o i v:V) (ov iv u:Value) (Q:Hp->Prop),Inv X pins σ H s->dB o ov->dB i iv->dB v u->t o i v H Q->
  wpAny (model X.prog X.w) X.A (setItem ov iv u) (fun _ s'=>∃H',Inv X pins σ H' s'/\Q H') X.xe s
section
variable{X:Cx}{pos:Pos}
def vI(i:Nat):TG:=fun v σ H Q=>Q (σ.set i (some v)) H
theorem DJ{i:Nat}{x:Str}(hN:X.N.Nodup)(hi:X.N[i]?=some x)(hx:Loc X.env.scope x)(hf:X.fn x=true\/X.env.scope.names.lookup x=some .local:=by first|exact .inl rfl|exact .inr rfl|assumption):PG X (.Name x pos) (vI i):=by
 intro pins s σ H v u Q I r h
 exact wpAny_assign_Name (uj I hN hi hx r (fun s' I'=>⟨_,H,I',h⟩) hf)
def Mr:TGs:=fun vs σ H Q=>vs=[]/\Q σ H
def Im(t:TG)(u:TGs):TGs:=fun vs σ H Q=>∃v r,vs=v::r/\t v σ H fun σ' H'=>u r σ' H' Q
theorem DI:PGs X [] Mr:=by
 intro pins s σ H vs us Q I r h
 obtain⟨e,h⟩:=h
 subst e
 cases r
 exact assignInOrder_nil ⟨σ,H,I,h⟩
theorem z7{e:Expr}{es:List Expr}{t:TG}{u:TGs}(h1:PG X e t)(h2:PGs X es u)
  (hs:(assignEach (e::es) X.env).map (·.2)=assign e X.env::(assignEach es X.env).map (·.2):=by rfl):PGs X (e::es) (Im t u):=by
 intro pins s σ H vs us Q I r h
 obtain⟨v,vr,e1,h⟩:=h
 subst e1
 cases r with
 |cons r rr=>
  rw[hs]
  refine assignInOrder_cons (thn (h1 pins s σ H _ _ _ I r h) fun _ s1 hz=>?_)
  obtain⟨σ1,H1,I1,q1⟩:=hz
  exact h2 pins s1 σ1 H1 _ _ Q I1 rr q1
def Mp(K:PySem.W.Frag)(n:Nat)(t:TGs):TG:=fun v σ H Q=>∃a xs,v=.ref a/\SqT K H a xs/\xs.length=n/\t xs σ H Q
theorem GH{es:List Expr}{k:Nat}{t:TGs}{n:Nat}(hc:X.calm=true)(h:PGs X es t)
  (hn:(assignEach es X.env).length=n:=by rfl) (hst:(assignEach es X.env).findIdx? (·.1)=none:=by rfl):PG X (.Tuple es k pos) (Mp X.K n t):=by
 intro pins s σ H v u Q I r hw
 obtain⟨a,xs,e1,hq,hl,hw⟩:=hw
 subst e1
 cases r
 obtain⟨its,rv,ht,hz⟩:=I.tuple hq
 refine assign_Tuple_tuple (I.ok.hd hc) ht (by simp[hn,<-hl,rv.length]) hst fun h' hx=>?_
 have I1:Inv X pins σ H { s with heap:=h' }:=I.kept (t':=s.toks) fun b o e=>hx b o (Nat.ne_of_lt (Heap.lt_size e)) e
 exact h pins _ σ H xs _ Q I1 (by simpa using rv) hw
def Mq(to ti:TE)(t:Je):TG:=fun v σ H Q=>to σ H fun o H1=>ti σ H1 fun i H2=>t o i v H2 fun H3=>Q σ H3
theorem GI{o i:Expr}{to ti:TE}{t:Je}(ho:PE X o to)(hi:PE X i ti)(hs:LU X t)
  (ha:∀v,assign (.Subscript o i pos) X.env v=(do
   let ov <-holding [v] (eval o X.env)
   let iv <-holding [v,ov] (eval i X.env)
   standAt pos
   holding [v,ov,iv] (setItem ov iv v)
   release [v,ov,iv] []):=by intro _;rfl):PG X (.Subscript o i pos) (Mq to ti t):=by
 intro pins s σ H v u Q I r h
 rw[ha]
 refine wpAny_bind (wpAny_holding (thn (ho pins s σ H _ I h) fun ov s1 hz=>?_))
 obtain⟨x,H1,I1,r1,q1⟩:=hz
 refine wpAny_bind (wpAny_holding (thn (hi pins s1 σ H1 _ I1 q1) fun iv s2 hz=>?_))
 obtain⟨y,H2,I2,r2,q2⟩:=hz
 refine wpAny_bind (wpAny_standAt (wpAny_bind (wpAny_holding (thn (hs pins s2 σ H2 x y v ov iv u _ I2 r1 r2 r q2) fun _ s3 ⟨H3,I3,q3⟩=>?_))))
 exact wpAny_release ⟨σ,H3,I3,q3⟩
def Ge(te:TE)(g:TG):TS:=fun D σ H=>te σ H fun x H1=>g x σ H1 D.nx
theorem GF{tg e:Expr}{te:TE}{g:TG}(he:PE X e te)(hg:PG X tg g)(hs:swapsWithSole [tg] e pos.line X.env=pure false:=by rfl)(hw:swappedStores [tg] e X.env=pure none:=by rfl)
  (h1:(assignEach [tg] X.env).map (·.2)=[assign tg X.env]:=by rfl):PS X (.Assign [tg] e pos) (Ge te g):=by
 intro pins s σ H D I h
 refine wpAny_Assign_stores (thn (he pins s σ H _ I h) fun v s1 hz=>?_) hs hw
 obtain⟨x,H1,I1,r1,q1⟩:=hz
 rw[h1]
 exact thn (hg pins s1 σ H1 x v _ I1 r1 q1) fun _ s2 q=>q
theorem GA{i:Nat}{x:Str}{e:Expr}{te:TE}{pos':Pos}(hN:X.N.Nodup)(hi:X.N[i]?=some x)(hx:Loc X.env.scope x)(he:PE X e te)(hs:swapsWith e (some (.Name x pos')) pos.line X.env=pure false:=by rfl)(hf:X.fn x=true\/X.env.scope.names.lookup x=some .local:=by first|exact .inl rfl|exact .inr rfl|assumption) :
  PS X (.Assign [.Name x pos'] e pos) (Ge te (vI i)):=by
 intro pins s σ H D I h
 refine wpAny_Assign_Name (thn (he pins s σ H _ I h) fun v s1 hz=>?_) hs
 obtain⟨y,H1,I1,r1,q1⟩:=hz
 exact uj I1 hN hi hx r1 (fun s2 I2=>⟨_,H1,I2,q1⟩) hf
end
section
variable{X:Cx}{pos:Pos}
def wI(c:TT)(tb:TS):TS:=fun D σ H=>∃W:Nat->St->Hp->Prop,(∃m,W m σ H)/\∀m σ H,W m σ H->
 c σ H fun b H1=>if b=true then ∃N:St->Hp->Prop,(∀σ' H',N σ' H'->∃m',m'<m/\W m' σ' H')/\tb { D with nx:=N,ct:=N,bk:=D.nx } σ H1 else D.nx σ H1
theorem z4{c:Expr}{body:List Stmt}{tc:TT}{tb:TS}(hp:PassesOwn (model X.prog X.w) X.A X.env X.xe)(hc:PT X c tc)(hb:PSs X body tb):PS X (.While c body [] pos) (wI tc tb):=by
 intro pins s σ H D I h
 obtain⟨W,⟨m0,w0⟩,turn⟩:=h
 refine wpAny_While (codeAny_whileLoop (fun n s'=>∃σ' H',Inv X pins σ' H' s'/\W n σ' H') ?_ m0 ⟨σ,H,I,w0⟩)
 rintro n s1 ⟨σ1,H1,I1,w1⟩
 refine wpAny_passesOwn hp (thn (hc pins s1 σ1 H1 _ I1 (turn n σ1 H1 w1)) fun b s2 ⟨H2,I2,q2⟩=>?_)
 cases b with
 |true=>
  obtain⟨N,hN,q2⟩:=q2
  rw[if_pos rfl]
  refine wpAny_passesOwn hp (thn (hb pins s2 σ1 H2 _ I2 q2) fun f s3 q3=>?_)
  cases f with
  |next=>
   obtain⟨σ3,H3,I3,n3⟩:=q3
   obtain⟨m',hm,w3⟩:=hN σ3 H3 n3
   exact⟨m',hm,σ3,H3,I3,w3⟩
  |cont=>
   obtain⟨σ3,H3,I3,n3⟩:=q3
   obtain⟨m',hm,w3⟩:=hN σ3 H3 n3
   exact⟨m',hm,σ3,H3,I3,w3⟩
  |brk=>exact q3
  |ret v=>exact q3
 |false=>
  rw[if_neg Bool.false_ne_true]
  exact wpAny_execs_nil ⟨σ1,H2,I2,q2⟩
end
structure It where
 go:Nat->Hp->Prop
 yld:Nat->Hp->V->Hp->Prop
 stop:Nat->Hp->Prop
def vZ(X:Cx)(pins:List (Addr×Obj))(H:Hp)(b:Addr):Prop:=
 H b=none/\b≠X.env.locals/\b∉X.fs/\(b∈X.ex\/X.s₀.heap.objs.size<=b)/\(∀x c,X.env.cells.lookup x=some c->c≠b)/\∀p∈X.pn++pins,p.1≠b
theorem Inv.fpOk{X:Cx}{pins:List (Addr×Obj)}{σ:St}{H H':Hp}{s:Shared}{b:Addr}(I:Inv X pins σ H s)(hb:s.heap.objs.size<=b)(hn:H' b=none):vZ X pins H' b:=by
 refine⟨hn,Nat.ne_of_gt (Nat.lt_of_lt_of_le I.lt hb),I.nofs hb,.inr (Nat.le_trans I.sz hb),fun x c e z=>?_,fun p hp z=>?_⟩
 ·obtain⟨v,q⟩:=I.cell x c e
  exact absurd (Nat.lt_of_lt_of_le q.lt (by rw[z];exact hb)) (Nat.lt_irrefl _)
 ·exact absurd (Nat.lt_of_lt_of_le (Heap.lt_size (I.pin p hp).1) (by rw[z];exact hb)) (Nat.lt_irrefl _)
structure EM(P:Program)(w:World)(K:PySem.W.Frag)(tg:Expr)(J:It)(fp:List Addr)(it:Addr)(tn:Nat->Heap->Prop):Prop where
 mem:it∈fp
 obj:∀i h,tn i h->∀b∈fp,∃o,h.get? b=some o/\∀v,o.data≠.cell v
 keep:∀i h h',tn i h->(∀b∈fp,∀o,h.get? b=some o->h'.get? b=some o)->tn i h'
 item:∀(X:Cx),X.prog=P->X.w=w->X.K=K->X.calm=true->∀(i:Nat) (pins:List (Addr×Obj)) (s:Shared) (σ:St) (H:Hp) (E:Value->Shared->Prop),Inv X pins σ H s->(∀b∈fp,vZ X pins H b)->tn i s.heap->J.go i H->
  wpAny (model P w) X.A (pyNext (.ref it)) (fun r s1=>∃u,r=some u/\
   wpAny (model P w) X.A (letOwnedTupleGo tg (.ref it) u) (fun _ s2=>∃x H',Inv X pins σ H' s2/\dB x u/\J.yld i H x H'/\tn (i+1) s2.heap/\∀b∈fp,H' b=none) E s1) E s
 done:∀(X:Cx),X.prog=P->X.w=w->X.K=K->X.calm=true->∀(i:Nat) (pins:List (Addr×Obj)) (s:Shared) (σ:St) (H:Hp) (E:Value->Shared->Prop),Inv X pins σ H s->(∀b∈fp,vZ X pins H b)->tn i s.heap->J.stop i H->
  wpAny (model P w) X.A (pyNext (.ref it)) (fun r s1=>r=none/\Inv X pins σ H s1) E s
 self:∀(A:Around) (i:Nat) (s:Shared) (Q:Value->Shared->Prop) (E:Value->Shared->Prop),tn i s.heap->Q (.ref it) s->wpAny (model P w) A (pyIter (.ref it)) Q E s
abbrev TI:=St->Hp->(It->Hp->Prop)->Prop
def PIE(X:Cx)(pins:List (Addr×Obj))(σ:St)(tg:Expr)(R:It->Hp->Prop)(itv:Value)(s2:Shared):Prop:=
 ∃(it:Addr) (fp:List Addr) (tn:Nat->Heap->Prop) (J:It) (H':Hp),itv=.ref it/\Inv X pins σ H' s2/\EM X.prog X.w X.K tg J fp it tn/\tn 0 s2.heap/\(∀b∈fp,vZ X pins H' b)/\R J H'
def PI(X:Cx)(tg iter:Expr)(wi:TI):Prop:=
 ∀(pins:List (Addr×Obj)) (s:Shared) (σ:St) (H:Hp) (R:It->Hp->Prop),Inv X pins σ H s->wi σ H R->
  wpAny (model X.prog X.w) X.A (eval iter X.env) (fun v s1=>wpAny (model X.prog X.w) X.A (pyIter v) (PIE X pins σ tg R) X.xe s1) X.xe s
theorem yc {M : Model} {A : Around} {E : Value -> Shared -> Prop} {s : Shared} {tg : Expr} {it : Addr} {u : Value} {o : Obj} {n : String} {vs : Array Value} {Q : Unit -> Shared -> Prop} (ho : s.heap.get? it = some o) (hc : o.cls = .type n) (hd : o.data = .fields vs)
    (hn:["enumerate","zip","dict_itemiterator","dict_reverseitemiterator","odict_iterator","itertools.zip_longest","itertools.pairwise"].contains n=false) (hQ:Q () s):wpAny M A (letOwnedTupleGo tg (.ref it) u) Q E s:=by
  unfold letOwnedTupleGo
  cases tg<;>first
    |exact wpAny_pure hQ
    | (cases u <;> first
        |exact wpAny_pure hQ
        | (refine wpAny_bind (wpAny_load ho ?_)
           rw[hc,hd]
           show wpAny M A (if (["enumerate","zip","dict_itemiterator","dict_reverseitemiterator","odict_iterator","itertools.zip_longest","itertools.pairwise"].contains n&&vs[0]? == some (rawInt _))=true then _ else _) Q E s
           rw[if_neg (by intro h;rw[hn,Bool.false_and]at h;cases h)]
           exact wpAny_pure hQ))
def Itl(K:PySem.W.Frag)(a:Addr):It:=
 ⟨fun i H=>∃xs x,SqL K H a xs/\xs[i]?=some x,fun i H x H'=>H'=H/\∀xs,SqL K H a xs->xs[i]?=some x,fun i H=>∃xs,SqL K H a xs/\xs.length<=i⟩
def Itt(K:PySem.W.Frag)(a:Addr):It:=
 ⟨fun i H=>∃xs x,SqT K H a xs/\xs[i]?=some x,fun i H x H'=>H'=H/\∀xs,SqT K H a xs->xs[i]?=some x,fun i H=>∃xs,SqT K H a xs/\xs.length<=i⟩
def Itr(lo:Int)(n:Nat):It:=⟨fun i _=>i<n,fun i H x H'=>H'=H/\x=.int (lo+i),fun i _=>n<=i⟩
theorem wD{P:Program}{w:World}{K:PySem.W.Frag}{tg:Expr}(a it:Addr):EM P w K tg (Itl K a) [it] it (fun i h=>h.IsListIter it a i) where
 mem:=by simp
 obj:=fun i h st b hb=>by
  have e:b=it:=by simpa using hb
  subst e
  obtain⟨o,e,c,d⟩:=st
  exact⟨o,e,fun v z=>by rw[d]at z;cases z⟩
 keep:=fun i h h' st k=>st.at fun o e=>k it (by simp) o e
 item:=by
  intro X hP hw hK hc i pins s σ H E I hf st hg
  subst hP hw hK
  obtain⟨xs,x,hq,hx⟩:=hg
  obtain⟨its,rv,p,hz⟩:=I.list hq
  obtain⟨u,hu,ru⟩:=rv.get hx
  obtain⟨f0,f1,f2,f3,f4,f5⟩:=hf it (by simp)
  refine wpAny_pyNext_list_item st p.isList (x:=u) (by simpa using hu) fun h' st' sb=>?_
  have I1:Inv X pins σ H { s with heap:=h' }:=I.turned (t':=s.toks) (fun b o hb e=>(sb.2 b hb).trans e) f0 f1 f3 f4 f5
  obtain⟨o,e,c,d⟩:=id st'
  exact⟨u,rfl,yc (s:={ s with heap:=h' }) e c d (by decide) ⟨x,H,I1,ru,⟨rfl,fun ys hy=>by rw[I.list_inj hy hq];exact hx⟩,st',fun b hb=>(hf b hb).1⟩⟩
 done:=by
  intro X hP hw hK hc i pins s σ H E I hf st hg
  subst hP hw hK
  obtain⟨xs,hq,hx⟩:=hg
  obtain⟨its,rv,p,hz⟩:=I.list hq
  obtain⟨f0,f1,f2,f3,f4,f5⟩:=hf it (by simp)
  have hl:=rv.length
  exact wpAny_pyNext_list_end (I.ok.hd hc) st p.isList (by simp;omega) fun h' eb=>⟨rfl,I.turned (t':=s.toks) (fun b o hb e=>eb b o hb e) f0 f1 f3 f4 f5⟩
 self:=fun _ _ _ _ _ st h=>wpAny_pyIter_listiter st h
theorem vo{P:Program}{w:World}{K:PySem.W.Frag}{tg:Expr}(a it:Addr):EM P w K tg (Itt K a) [it] it (fun i h=>h.IsTupleIter it a i) where
 mem:=by simp
 obj:=fun i h st b hb=>by
  have e:b=it:=by simpa using hb
  subst e
  obtain⟨o,e,c,d⟩:=st
  exact⟨o,e,fun v z=>by rw[d]at z;cases z⟩
 keep:=fun i h h' st k=>st.at fun o e=>k it (by simp) o e
 item:=by
  intro X hP hw hK hc i pins s σ H E I hf st hg
  subst hP hw hK
  obtain⟨xs,x,hq,hx⟩:=hg
  obtain⟨its,rv,p,hz⟩:=I.tuple hq
  obtain⟨u,hu,ru⟩:=rv.get hx
  obtain⟨f0,f1,f2,f3,f4,f5⟩:=hf it (by simp)
  refine wpAny_pyNext_tuple_item st (show s.heap.IsTuple a its.toArray from p) (x:=u) (by simpa using hu) fun h' st' sb=>?_
  have I1:Inv X pins σ H { s with heap:=h' }:=I.turned (t':=s.toks) (fun b o hb e=>(sb.2 b hb).trans e) f0 f1 f3 f4 f5
  obtain⟨o,e,c,d⟩:=id st'
  exact⟨u,rfl,yc (s:={ s with heap:=h' }) e c d (by decide) ⟨x,H,I1,ru,⟨rfl,fun ys hy=>by rw[I.tuple_inj hy hq];exact hx⟩,st',fun b hb=>(hf b hb).1⟩⟩
 done:=by
  intro X hP hw hK hc i pins s σ H E I hf st hg
  subst hP hw hK
  obtain⟨xs,hq,hx⟩:=hg
  obtain⟨its,rv,p,hz⟩:=I.tuple hq
  obtain⟨f0,f1,f2,f3,f4,f5⟩:=hf it (by simp)
  have hl:=rv.length
  exact wpAny_pyNext_tuple_end (I.ok.hd hc) st (show s.heap.IsTuple a its.toArray from p) (by simp;omega) fun h' eb=>⟨rfl,I.turned (t':=s.toks) (fun b o hb e=>eb b o hb e) f0 f1 f3 f4 f5⟩
 self:=fun _ _ _ _ _ st h=>wpAny_pyIter_tupleiter st h
theorem vq{P:Program}{w:World}{K:PySem.W.Frag}{tg:Expr}(it:Addr)(lo:Int)(n:Nat):EM P w K tg (Itr lo n) [it] it (fun i h=>IsRangeIter h it (lo+(i:Nat)*1) ((n:Int)-(i:Nat)) 1) where
 mem:=by simp
 obj:=fun i h st b hb=>by
  have e:b=it:=by simpa using hb
  subst e
  exact⟨_,st,fun v z=>by
   have z':Data.fields _=Data.cell v:=z
   cases z'⟩
 keep:=fun i h h' st k=>k it (by simp) _ st
 item:=by
  intro X hP hw hK hc i pins s σ H E I hf st hg
  subst hP hw hK
  obtain⟨f0,f1,f2,f3,f4,f5⟩:=hf it (by simp)
  have W:=Walks.range (prog:=X.prog) (w:=X.w) (I.ok.hd hc) it lo 1 n
  refine W.item i s _ _ hg st fun v h' tk hv st' kk=>?_
  obtain⟨t,rfl⟩:=hv
  have I1:Inv X pins σ H { s with heap:=h',toks:=tk }:=I.turned (fun b o hb e=>kk b o (by simpa using hb) e) f0 f1 f3 f4 f5
  refine⟨_,rfl,yc (s:={ s with heap:=h',toks:=tk }) (n:="range_iterator") st' rfl rfl (by decide) ⟨.int (lo+i),H,I1,⟨t,?_⟩,⟨rfl,rfl⟩,st',fun b hb=>(hf b hb).1⟩⟩
  rw[Int.mul_one]
 done:=by
  intro X hP hw hK hc i pins s σ H E I hf st hg
  subst hP hw hK
  obtain⟨f0,f1,f2,f3,f4,f5⟩:=hf it (by simp)
  exact wpAny_pyNext_range_end (I.ok.hd hc) st (by have:n<=i:=hg;omega) fun h' eb=>⟨rfl,I.turned (t':=s.toks) (fun b o hb e=>eb b o hb e) f0 f1 f3 f4 f5⟩
 self:=fun _ _ _ _ _ st h=>wpAny_pyIter_rangeiter st h
section
variable{X:Cx}{tg:Expr}
def Ih(K:PySem.W.Frag)(tl:TE):TI:=fun σ H R=>tl σ H fun x H1=>∃a,x=.ref a/\(∃xs,SqL K H1 a xs)/\R (Itl K a) H1
def Mo(K:PySem.W.Frag)(tl:TE):TI:=fun σ H R=>tl σ H fun x H1=>∃a,x=.ref a/\(∃xs,SqT K H1 a xs)/\R (Itt K a) H1
theorem DH{l:Expr}{tl:TE}(hl:PE X l tl):PI X tg l (Ih X.K tl):=by
 intro pins s σ H R I h
 refine thn (hl pins s σ H _ I h) fun v s1 hz=>?_
 obtain⟨x,H1,I1,r1,q1⟩:=hz
 obtain⟨a,e,⟨xs,hq⟩,q⟩:=q1
 subst e
 cases r1
 obtain⟨its,rv,p,hz⟩:=I1.list hq
 refine wpAny_pyIter_list p.isList ?_
 refine⟨s1.heap.objs.size,[s1.heap.objs.size],_,_,H1,rfl,I1.kept (t':=s1.toks) fun b o e=>Heap.get?_push_of_some _ e,wD a _,⟨_,Heap.get?_push_size _ rfl,rfl,rfl⟩,fun b hb=>?_,q⟩
 have e:b=s1.heap.objs.size:=by simpa using hb
 subst e
 exact I1.fpOk (Nat.le_refl _) (I1.hok.fresh (Nat.le_refl _))
theorem GG{l:Expr}{tl:TE}(hl:PE X l tl):PI X tg l (Mo X.K tl):=by
 intro pins s σ H R I h
 refine thn (hl pins s σ H _ I h) fun v s1 hz=>?_
 obtain⟨x,H1,I1,r1,q1⟩:=hz
 obtain⟨a,e,⟨xs,hq⟩,q⟩:=q1
 subst e
 cases r1
 obtain⟨its,rv,p,hz⟩:=I1.tuple hq
 refine wpAny_pyIter_tuple (show s1.heap.IsTuple a its.toArray from p) ?_
 refine⟨s1.heap.objs.size,[s1.heap.objs.size],_,_,H1,rfl,I1.kept (t':=s1.toks) fun b o e=>Heap.get?_push_of_some _ e,vo a _,⟨_,Heap.get?_push_size _ rfl,rfl,rfl⟩,fun b hb=>?_,q⟩
 have e:b=s1.heap.objs.size:=by simpa using hb
 subst e
 exact I1.fpOk (Nat.le_refl _) (I1.hok.fresh (Nat.le_refl _))
theorem zP{pins:List (Addr×Obj)}{σ:St}{H:Hp}{s:Shared}{R:It->Hp->Prop}{E:Value->Shared->Prop}{lo hi:Int}{t u v:Tok}{tk:Nat}(I:Inv X pins σ H s)(h1:-(2^62)<=lo)(h2:lo<2^62)(h3:-(2^62)<=hi)(h4:hi<2^62)
  (q:R (Itr lo (hi-lo).toNat) H):wpAny (model X.prog X.w) X.A (pyIter (.ref s.heap.objs.size)) (PIE X pins σ tg R) E { s with heap:=s.heap.push { cls:=.type "range",data:=.fields #[.int lo t,.int hi u,.int 1 v] },toks:=tk }:=by
 refine wpAny_pyIter_range (IsRange.new ..) (small_one h1 h2 h3 h4) ?_
 have I1:Inv X pins σ H { s with heap:=s.heap.push { cls:=.type "range",data:=.fields #[.int lo t,.int hi u,.int 1 v] },toks:=tk }:=I.kept fun b o e=>Heap.get?_push_of_some _ e
 refine⟨(s.heap.push { cls:=.type "range",data:=.fields #[.int lo t,.int hi u,.int 1 v] }).objs.size,[(s.heap.push { cls:=.type "range",data:=.fields #[.int lo t,.int hi u,.int 1 v] }).objs.size],_,_,H,rfl,
  I1.kept (t':=tk) fun b o e=>Heap.get?_push_of_some _ e,vq _ lo (hi-lo).toNat,?_,fun b hb=>?_,q⟩
 ·have e1:lo+((0:Nat):Int)*1=lo:=by simp
  have e2:(((hi-lo).toNat:Nat):Int)-((0:Nat):Int)=Builtin.Range.rangeSize lo hi 1:=by rw[rangeSize_one];split<;>omega
  show IsRangeIter _ _ (lo+((0:Nat):Int)*1) ((((hi-lo).toNat:Nat):Int)-((0:Nat):Int)) 1
  rw[e1,e2]
  exact Heap.get?_push_size _ rfl
 ·have e:b=(s.heap.push { cls:=.type "range",data:=.fields #[.int lo t,.int hi u,.int 1 v] }).objs.size:=by simpa using hb
  subst e
  exact I1.fpOk (Nat.le_refl _) (I1.hok.fresh (Nat.le_refl _))
def Ig(ta:TA):TI:=fun σ H R=>ta σ H fun vs H1=>∃j:Int,vs=[.int j]/\-(2^62)<=j/\j<2^62/\R (Itr 0 j.toNat) H1
theorem xi{a:Expr}{ta:TA}{p pos:Pos}(hg:Gl X "range")(hm:X.mg "range"=none)(ha:PA X [a] ta)(hs:starEach [a] X.env=[(false,eval a X.env)]:=by rfl):PI X tg (.Call (.Name "range" p) [a] [] pos) (Ig ta):=by
 intro pins s σ H R I h
 refine Call_ (qV I hg hm boot_range (PyProof.Rows.callWith_type1 (thn (ha pos pins s σ H _ I h) fun us s1 ⟨vs,H1,I1,r1,q1⟩=>?_) hs rfl))
 obtain⟨j,e,q1,q2,q⟩:=q1
 subst e
 cases r1 with
 |cons r rr=>
  cases rr
  obtain⟨t,rfl⟩:=r
  exact call_range_1 (zP I1 (by omega) (by omega) q1 q2 (by simpa using q))
def F7(wi:TI)(g:TG)(tb:TS):TS:=fun D σ H=>wi σ H fun J H1=>∃W:Nat->Nat->St->Hp->Prop,(∃m,W 0 m σ H1)/\∀i m σ H,W i m σ H->
 (J.stop i H/\D.nx σ H)\/(J.go i H/\∃N:St->Hp->Prop,(∀σ' H',N σ' H'->∃m',m'<m/\W (i+1) m' σ' H')/\∀x H',J.yld i H x H'->g x σ H' fun σ2 H2=>tb { D with nx:=N,ct:=N,bk:=D.nx } σ2 H2)
def uz(fp:List Addr)(h:Heap):List (Addr×Obj):=fp.filterMap fun b=>(h.get? b).map fun o=>(b,o)
theorem fz{fp:List Addr}{h:Heap}{b:Addr}{o:Obj}(hb:b∈fp)(e:h.get? b=some o):(b,o)∈uz fp h:=List.mem_filterMap.mpr ⟨b,hb,by rw[e];rfl⟩
theorem xt{fp:List Addr}{h:Heap}{p:Addr×Obj}(hp:p∈uz fp h):p.1∈fp/\h.get? p.1=some p.2:=by
 obtain⟨b,hb,e⟩:=List.mem_filterMap.mp hp
 cases q:h.get? b with
 |none=>rw[q]at e;cases e
 |some o=>
  rw[q]at e
  have e':(b,o)=p:=Option.some.inj e
  subst e'
  exact⟨hb,q⟩
theorem Inv.pinned{pins:List (Addr×Obj)}{σ:St}{H:Hp}{s:Shared}{fp:List Addr}(I:Inv X pins σ H s)(hf:∀b∈fp,vZ X pins H b)(ho:∀b∈fp,∃o,s.heap.get? b=some o/\∀v,o.data≠.cell v):Inv X (pins++uz fp s.heap) σ H s:=
 I.pins_of fun p hp=>(List.mem_append.mp hp).elim (fun z=>I.pin p (List.mem_append_right _ z)) fun z=>by
  obtain⟨hb,e⟩:=xt z
  obtain⟨f0,f1,f2,_⟩:=hf p.1 hb
  obtain⟨o,e',d⟩:=ho p.1 hb
  rw[e]at e';cases e'
  exact⟨e,f0,f1,f2,d⟩
theorem Inv.unpinned{pins pl:List (Addr×Obj)}{σ:St}{H:Hp}{s:Shared}(I:Inv X (pins++pl) σ H s):Inv X pins σ H s:=I.pins_of fun p hp=>I.pin p (List.mem_append_right _ (List.mem_append_left _ hp))
theorem GC{iter:Expr}{body:List Stmt}{wi:TI}{g:TG}{tb:TS}{pos:Pos}(hp:PassesOwn (model X.prog X.w) X.A X.env X.xe)(hc:X.calm=true)(hi:PI X tg iter wi)(hg:PG X tg g)(hb:PSs X body tb)
  (hs:∀x,foldedSetIterable iter X.env x=pure x:=by intro _;rfl):PS X (.For tg iter body [] pos) (F7 wi g tb):=by
 intro pins s σ H D I h
 refine wpAny_For (thn (hi pins s σ H _ I h) fun v s1 h1=>thn h1 fun itv s2 h2=>?_) hs
 obtain⟨it,fp,tn,J,H2,e,I2,T,st2,f2,W,⟨m0,w0⟩,turn⟩:=h2
 subst e
 have stat:∀{H':Hp},(∀b∈fp,H' b=none)->∀b∈fp,vZ X pins H' b:=fun hn b hb=>⟨hn b hb,(f2 b hb).2⟩
 refine codeAny_forLoop_any (fun n s'=>∃i σ' H',Inv X pins σ' H' s'/\tn i s'.heap/\(∀b∈fp,H' b=none)/\W i n σ' H') ?_ m0 ⟨0,σ,H2,I2,st2,fun b hb=>(f2 b hb).1,w0⟩
 rintro n s3 ⟨i,σ3,H3,I3,st3,fr3,w3⟩
 rcases turn i n σ3 H3 w3 with⟨stop,qn⟩|⟨go,N,hN,step⟩
 ·refine wpAny_passesOwn hp (thn (T.done X rfl rfl rfl hc i pins s3 σ3 H3 X.xe I3 (stat fr3) st3 stop) fun r s4 ⟨hr,I4⟩=>?_)
  subst hr
  exact wpAny_execs_nil ⟨σ3,H3,I4,qn⟩
 ·refine wpAny_passesOwn hp (thn (T.item X rfl rfl rfl hc i pins s3 σ3 H3 X.xe I3 (stat fr3) st3 go) fun r s4 ⟨u,hr,h4⟩=>?_)
  subst hr
  refine wpAny_passesOwn hp (thn h4 fun _ s5 hz=>?_)
  obtain⟨x,H5,I5,r5,y5,st5,fr5⟩:=hz
  have I5':=I5.pinned (stat fr5) (T.obj _ _ st5)
  refine wpAny_passesOwn hp (thn (hg _ s5 σ3 H5 x u _ I5' r5 (step x H5 y5)) fun _ s6 hz=>?_)
  obtain⟨σ6,H6,I6,q6⟩:=hz
  refine wpAny_passesOwn hp (thn (hb _ s6 σ6 H6 _ I6 q6) fun f s7 q7=>?_)
  have again:∀{σ7:St} {H7:Hp},Inv X (pins++uz fp s5.heap) σ7 H7 s7->N σ7 H7->∃m,m<n/\∃i σ' H',Inv X pins σ' H' s7/\tn i s7.heap/\(∀b∈fp,H' b=none)/\W i m σ' H':=fun{σ7 H7} I7 n7=>by
   obtain⟨m',hm,w7⟩:=hN σ7 H7 n7
   refine⟨m',hm,i+1,σ7,H7,I7.unpinned,T.keep _ _ _ st5 fun b hb o e=>(I7.pin (b,o) (List.mem_append_right _ (List.mem_append_right _ (fz hb e)))).1,fun b hb=>?_,w7⟩
   obtain⟨o,e,d⟩:=T.obj _ _ st5 b hb
   exact(I7.pin (b,o) (List.mem_append_right _ (List.mem_append_right _ (fz hb e)))).2.1
  cases f with
  |next=>obtain⟨σ7,H7,I7,n7⟩:=q7;exact again I7 n7
  |cont=>obtain⟨σ7,H7,I7,n7⟩:=q7;exact again I7 n7
  |brk=>obtain⟨σ7,H7,I7,q7⟩:=q7;exact⟨σ7,H7,I7.unpinned,q7⟩
  |ret v=>obtain⟨x7,σ7,H7,I7,r7,q7⟩:=q7;exact⟨x7,σ7,H7,I7.unpinned,r7,q7⟩
end
abbrev R2:=V->V->Hp->VK->Prop
def OpR(X:Cx)(f:Value->Value->Sem Value)(r:R2):Prop:=
 ∀(pins:List (Addr×Obj)) (s:Shared) (σ:St) (H:Hp) (x y:V) (v u:Value) (Q:VK),Inv X pins σ H s->dB x v->dB y u->r x y H Q->
  wpAny (model X.prog X.w) X.A (f v u) (EP X pins σ Q) X.xe s
def fT(X:Cx)(f:Value)(r:List V->Hp->VK->Prop):Prop:=
 ∀(pins:List (Addr×Obj)) (s:Shared) (σ:St) (H:Hp) (xs:List V) (us:List Value) (Q:VK),Inv X pins σ H s->cI xs us->r xs H Q->
  wpAny (model X.prog X.w) X.A (call f us) (EP X pins σ Q) X.xe s
def tOp(r:R2)(ta tb:TE):TE:=fun σ H Q=>ta σ H fun x H1=>tb σ H1 fun y H2=>r x y H2 Q
def rI(C:Int->Int->Prop)(g:Int->Int->V):R2:=fun x y H Q=>∃i j,x=.int i/\y=.int j/\C i j/\Q (g i j) H
def rI0(g:Int->Int->V):R2:=fun x y H Q=>∃i j,x=.int i/\y=.int j/\Q (g i j) H
section
variable{X:Cx}{a b c:Expr}{ta tb tc:TE}{pos:Pos}
theorem LO(ha:PE X a ta)(hb:PE X b tb){pins:List (Addr×Obj)}{s:Shared}{σ:St}{H:Hp}{R:V->V->Hp->Prop}(I:Inv X pins σ H s)
  (h:ta σ H fun x H1=>tb σ H1 fun y H2=>R x y H2) {Q:Value->Shared->Prop} {f:Value->Value->Sem Value}
  (hf:∀v u s2 x y H2,Inv X pins σ H2 s2->dB x v->dB y u->R x y H2->wpAny (model X.prog X.w) X.A (f v u) Q X.xe s2) :
  wpAny (model X.prog X.w) X.A (eval a X.env) (fun v s₁=>wpAny (model X.prog X.w) X.A (eval b X.env) (fun u s₂=>wpAny (model X.prog X.w) X.A (f v u) Q X.xe s₂) X.xe s₁) X.xe s:=by
 refine thn (ha pins s σ H _ I h) fun v s1 hz=>?_
 obtain⟨x,H1,I1,r1,q1⟩:=hz
 refine thn (hb pins s1 σ H1 _ I1 q1) fun u s2 hz=>?_
 obtain⟨y,H2,I2,r2,q2⟩:=hz
 exact hf v u s2 x y H2 I2 r1 r2 q2
theorem KG{op:Operator}{r:R2}(ho:OpR X (binaryOp op) r)(ha:PE X a ta)(hb:PE X b tb):PE X (.BinOp a op b pos) (tOp r ta tb):=by
 intro pins s σ H Q I h
 exact wpAny_BinOp (LO ha hb I h fun v u s2 x y H2 I2 rx ry q=>ho pins s2 σ H2 x y v u Q I2 rx ry q)
theorem opI{f:Value->Value->Sem Value}{C:Int->Int->Prop}{g:Int->Int->Int}
  (rule:∀(i j:Int) (t u:Tok) (s:Shared) (Q:Value->Shared->Prop) (E:Value->Shared->Prop),C i j->Q (.int (g i j) s.toks) { s with toks:=s.toks+1 }->wpAny (model X.prog X.w) X.A (f (.int i t) (.int j u)) Q E s) :
  OpR X f (rI C fun i j=>.int (g i j)):=by
 intro pins s σ H x y v u Q I rx ry h
 obtain⟨i,j,rfl,rfl,hc,q⟩:=h
 obtain⟨t,rfl⟩:=rx
 obtain⟨t',rfl⟩:=ry
 exact rule i j t t' s _ _ hc ⟨.int (g i j),H,I.tok _,⟨_,rfl⟩,q⟩
theorem Mc{f:Value->Value->Sem Value}{g:Int->Int->Int}
  (rule:∀(i j:Int) (t u:Tok) (s:Shared) (Q:Value->Shared->Prop) (E:Value->Shared->Prop),Q (.int (g i j) s.toks) { s with toks:=s.toks+1 }->wpAny (model X.prog X.w) X.A (f (.int i t) (.int j u)) Q E s) :
  OpR X f (rI0 fun i j=>.int (g i j)):=by
 intro pins s σ H x y v u Q I rx ry h
 obtain⟨i,j,rfl,rfl,q⟩:=h
 obtain⟨t,rfl⟩:=rx
 obtain⟨t',rfl⟩:=ry
 exact rule i j t t' s _ _ ⟨.int (g i j),H,I.tok _,⟨_,rfl⟩,q⟩
theorem IY{f:Value->Value->Sem Value}{g:Int->Int->Bool}
  (rule:∀(i j:Int) (t u:Tok) (s:Shared) (Q:Value->Shared->Prop) (E:Value->Shared->Prop),Q (.bool (g i j)) s->wpAny (model X.prog X.w) X.A (f (.int i t) (.int j u)) Q E s) :
  OpR X f (rI0 fun i j=>.bl (g i j)):=by
 intro pins s σ H x y v u Q I rx ry h
 obtain⟨i,j,rfl,rfl,q⟩:=h
 obtain⟨t,rfl⟩:=rx
 obtain⟨t',rfl⟩:=ry
 exact rule i j t t' s _ _ ⟨.bl (g i j),H,I,rfl,q⟩
def E4(i j:Int):Prop:=0<=j/\j<=1000000/\i.natAbs<2^64
def wa(i j:Int):Prop:=(-(2^64)<i/\i<2^64)\/(-(2^64)<j/\j<2^64)
theorem wa.ok{i j:Int}(h:wa i j):IntMulOk i j:=by
 rcases h with⟨h1,h2⟩|⟨h1,h2⟩
 ·exact .of_left (intBits_le_64 h1 h2)
 ·exact .of_right (intBits_le_64 h1 h2)
theorem Hc:OpR X (binaryOp .Add) (rI0 fun i j=>.int (i+j)):=Mc fun _ _ _ _ _ _ _ q=>add_int q
theorem j8:OpR X (binaryOp .Sub) (rI0 fun i j=>.int (i-j)):=Mc fun _ _ _ _ _ _ _ q=>sub_int q
theorem jk:OpR X (binaryOp .Mult) (rI wa fun i j=>.int (i*j)):=opI fun _ _ _ _ _ _ _ hc q=>mul_int q hc.ok
theorem j9:OpR X (binaryOp .Mod) (rI (fun _ j=>0<j) fun i j=>.int (i % j)):=opI fun i j _ _ _ _ _ hc q=>by
 have h1:(0:Int)<j:=hc
 exact mod_int' (by omega) (by rw[Int.fmod_eq_emod_of_nonneg i (by omega)];exact q)
theorem Bu:OpR X (binaryOp .Pow) (rI E4 fun i j=>.int (i^j.toNat)):=opI fun _ _ _ _ _ _ _ hc q=>pow_int_small hc.1 hc.2.1 hc.2.2 q
end
def Kt:V->V->Bool
 |.non,.non=>true|.non,.int _=>true|.int _,.non=>true|.non,.bl _=>true|.bl _,.non=>true|.non,.str _=>true|.str _,.non=>true
 |.int _,.int _=>true|.bl _,.bl _=>true|.str _,.str _=>true|.byt _,.byt _=>true
 |.int _,.str _=>true|.str _,.int _=>true|.bl _,.str _=>true|.str _,.bl _=>true
 |_,_=>false
def rEq:R2:=fun x y H Q=>Kt x y=true/\Q (.bl (decide (x=y))) H
def rNe:R2:=fun x y H Q=>Kt x y=true/\Q (.bl (!decide (x=y))) H
theorem yw{i j:Int}:decide (V.int i=V.int j)=(i == j):=by
 rw[Bool.eq_iff_iff]
 simp
theorem BN{i j:Bool}:decide (V.bl i=V.bl j)=(i == j):=by
 rw[Bool.eq_iff_iff]
 simp
theorem yv{i j:Str}:decide (V.str i=V.str j)=(i == j):=by
 rw[Bool.eq_iff_iff]
 simp
theorem yx{i j:Array UInt8}:decide (V.byt i=V.byt j)=(i.toList == j.toList):=by
 rw[Bool.eq_iff_iff]
 cases i
 cases j
 simp
section
variable{X:Cx}{a b c:Expr}{ta tb tc:TE}{pos:Pos}
theorem bV{pins:List (Addr×Obj)}{σ:St}{H:Hp}{s:Shared}{Q:VK}{k k':Bool}(I:Inv X pins σ H s)(q:Q (.bl k) H)(e:k=k'):EP X pins σ Q (.bool k') s:=by
 subst e
 exact⟨.bl k,H,I,rfl,q⟩
theorem fg:OpR X (compareOp .Eq) rEq:=by
 intro pins s σ H x y v u Q I rx ry h
 obtain⟨hs,q⟩:=h
 cases x with
 |non=>
  cases rx
  cases y with
  |non=>cases ry;exact PySem.EqNone.eq_none_none (bV I q (by simp))
  |bl j=>cases ry;exact PySem.EqNone.eq_none_bool (bV I q (by simp))
  |int j=>obtain⟨t',rfl⟩:=ry;exact PySem.EqNone.eq_none_int (bV I q (by simp))
  |str j=>obtain⟨t',rfl⟩:=ry;exact PySem.EqNone.eq_none_str (bV I q (by simp))
  |_=>exact absurd (show false=true from hs) Bool.false_ne_true
 |bl i=>
  cases rx
  cases y with
  |non=>cases ry;exact PySem.EqNone.eq_bool_none (bV I q (by simp))
  |bl j=>cases ry;exact eq_bool (bV I q BN)
  |str j=>obtain⟨t',rfl⟩:=ry;exact PySem.EqMixed.eq_bool_str (bV I q (by simp))
  |_=>exact absurd (show false=true from hs) Bool.false_ne_true
 |int i=>
  obtain⟨t,rfl⟩:=rx
  cases y with
  |non=>cases ry;exact PySem.EqNone.eq_int_none (bV I q (by simp))
  |int j=>obtain⟨t',rfl⟩:=ry;exact eq_int (bV I q yw)
  |str j=>obtain⟨t',rfl⟩:=ry;exact PySem.EqMixed.eq_int_str (bV I q (by simp))
  |_=>exact absurd (show false=true from hs) Bool.false_ne_true
 |str i=>
  obtain⟨t,rfl⟩:=rx
  cases y with
  |non=>cases ry;exact PySem.EqNone.eq_str_none (bV I q (by simp))
  |bl j=>cases ry;exact PySem.EqMixed.eq_str_bool (bV I q (by simp))
  |int j=>obtain⟨t',rfl⟩:=ry;exact PySem.EqMixed.eq_str_int (bV I q (by simp))
  |str j=>obtain⟨t',rfl⟩:=ry;exact eq_str (bV I q yv)
  |_=>exact absurd (show false=true from hs) Bool.false_ne_true
 |byt i=>
  obtain⟨t,rfl⟩:=rx
  cases y with
  |byt j=>obtain⟨t',rfl⟩:=ry;exact PySem.W.eq_bytes (bV I q yx)
  |_=>exact absurd (show false=true from hs) Bool.false_ne_true
 |_=>cases y<;>exact absurd (show false=true from hs) Bool.false_ne_true
theorem xn:OpR X (compareOp .NotEq) rNe:=by
 intro pins s σ H x y v u Q I rx ry h
 obtain⟨hs,q⟩:=h
 cases x with
 |non=>
  cases rx
  cases y with
  |non=>cases ry;exact PySem.EqNone.ne_none_none (bV I q (by simp))
  |bl j=>cases ry;exact PySem.EqNone.ne_none_bool (bV I q (by simp))
  |int j=>obtain⟨t',rfl⟩:=ry;exact PySem.EqNone.ne_none_int (bV I q (by simp))
  |str j=>obtain⟨t',rfl⟩:=ry;exact PySem.EqNone.ne_none_str (bV I q (by simp))
  |_=>exact absurd (show false=true from hs) Bool.false_ne_true
 |bl i=>
  cases rx
  cases y with
  |non=>cases ry;exact PySem.EqNone.ne_bool_none (bV I q (by simp))
  |bl j=>cases ry;exact ne_bool (bV I q (congrArg not BN))
  |str j=>obtain⟨t',rfl⟩:=ry;exact PySem.EqMixed.ne_bool_str (bV I q (by simp))
  |_=>exact absurd (show false=true from hs) Bool.false_ne_true
 |int i=>
  obtain⟨t,rfl⟩:=rx
  cases y with
  |non=>cases ry;exact PySem.EqNone.ne_int_none (bV I q (by simp))
  |int j=>obtain⟨t',rfl⟩:=ry;exact ne_int (bV I q (congrArg not yw))
  |str j=>obtain⟨t',rfl⟩:=ry;exact PySem.EqMixed.ne_int_str (bV I q (by simp))
  |_=>exact absurd (show false=true from hs) Bool.false_ne_true
 |str i=>
  obtain⟨t,rfl⟩:=rx
  cases y with
  |non=>cases ry;exact PySem.EqNone.ne_str_none (bV I q (by simp))
  |bl j=>cases ry;exact PySem.EqMixed.ne_str_bool (bV I q (by simp))
  |int j=>obtain⟨t',rfl⟩:=ry;exact PySem.EqMixed.ne_str_int (bV I q (by simp))
  |str j=>obtain⟨t',rfl⟩:=ry;exact ne_str (bV I q (congrArg not yv))
  |_=>exact absurd (show false=true from hs) Bool.false_ne_true
 |byt i=>
  obtain⟨t,rfl⟩:=rx
  cases y with
  |byt j=>obtain⟨t',rfl⟩:=ry;exact PySem.W.ne_bytes (bV I q (congrArg not yx))
  |_=>exact absurd (show false=true from hs) Bool.false_ne_true
 |_=>cases y<;>exact absurd (show false=true from hs) Bool.false_ne_true
theorem gR:OpR X (compareOp .Lt) (rI0 fun i j=>.bl (decide (i<j))):=IY fun _ _ _ _ _ _ _ q=>lt_int q
theorem KQ:OpR X (compareOp .LtE) (rI0 fun i j=>.bl (decide (i<=j))):=IY fun _ _ _ _ _ _ _ q=>le_int q
theorem qQ:OpR X (compareOp .Gt) (rI0 fun i j=>.bl (decide (j<i))):=IY fun _ _ _ _ _ _ _ q=>gt_int q
theorem DY:OpR X (compareOp .GtE) (rI0 fun i j=>.bl (decide (j<=i))):=IY fun _ _ _ _ _ _ _ q=>ge_int q
theorem Bv:OpR X (compareOp .Is) (fun x y H Q=>y=.non/\Q (.bl (decide (x=.non))) H):=by
 intro pins s σ H x y v u Q I rx ry h
 obtain⟨rfl,q⟩:=h
 cases ry
 refine is_none_gen (bV I q ?_)
 cases x<;>first
  |(cases rx;rfl)
  |(obtain⟨t,rfl⟩:=rx;rfl)
theorem sH:OpR X (compareOp .IsNot) (fun x y H Q=>y=.non/\Q (.bl (!decide (x=.non))) H):=by
 intro pins s σ H x y v u Q I rx ry h
 obtain⟨rfl,q⟩:=h
 cases ry
 refine isnot_none_gen (bV I q ?_)
 cases x<;>first
  |(cases rx;rfl)
  |(obtain⟨t,rfl⟩:=rx;rfl)
theorem OpR.or{f:Value->Value->Sem Value}{r r':R2}(h:OpR X f r)(h':OpR X f r'):OpR X f (fun x y H Q=>r x y H Q\/r' x y H Q):=by
 intro pins s σ H x y v u Q I rx ry q
 rcases q with q|q
 ·exact h pins s σ H x y v u Q I rx ry q
 ·exact h' pins s σ H x y v u Q I rx ry q
theorem aL(b:Expr){op:CmpOp}(h:op≠.In:=by decide)(h2:op≠.NotIn:=by decide):behindInMarks op b=false:=by
 have e1:(op == CmpOp.In)=false:=by cases op<;>first|rfl|exact absurd rfl h
 have e2:(op == CmpOp.NotIn)=false:=by cases op<;>first|rfl|exact absurd rfl h2
 cases b<;>simp[behindInMarks,e1,e2]
theorem DO{op:CmpOp}{r:R2}(ho:OpR X (compareOp op) r)(ha:PE X a ta)(hb:PE X b tb)(hm:behindInMarks op b=false):PE X (.Compare a [op] [b] pos) (tOp r ta tb):=by
 intro pins s σ H Q I h
 exact wpAny_Compare1 (LO ha hb I h fun v u s2 x y H2 I2 rx ry q=>ho pins s2 σ H2 x y v u Q I2 rx ry q) hm
def zH(t:TE):TT:=fun σ H Q=>t σ H fun x H'=>∃k,x=.bl k/\Q k H'
theorem Dv{op:CmpOp}{r:R2}(ho:OpR X (compareOp op) r)(ha:PE X a ta)(hb:PE X b tb)(hm:behindInMarks op b=false):PT X (.Compare a [op] [b] pos) (zH (tOp r ta tb)):=by
 intro pins s σ H Q I h
 refine wpAny_isTrue_Compare1 (thn (ha pins s σ H _ I h) fun v s1 ⟨x,H1,I1,r1,q1⟩=>thn (hb pins s1 σ H1 _ I1 q1) fun u s2 ⟨y,H2,I2,r2,q2⟩=>
  thn (ho pins s2 σ H2 x y v u _ I2 r1 r2 q2) fun c s3 ⟨z,H3,I3,r3,k,e,q3⟩=>?_) hm
 subst e
 cases r3
 exact wpAny_truthy_bool ⟨H3,I3,q3⟩
def wL(r r':R2)(ta tb tc:TE):TE:=fun σ H Q=>ta σ H fun x H1=>tb σ H1 fun y H2=>r x y H2 fun z H3=>∃k,z=.bl k/\
 (if k=true then tc σ H3 fun w' H4=>r' y w' H4 Q else Q (.bl false) H3)
theorem zZ{op op':CmpOp}{r r':R2}(ho:OpR X (compareOp op) r)(ho':OpR X (compareOp op') r')(ha:PE X a ta)(hb:PE X b tb)(hc:PE X c tc)
  (hm:lastMarks [op,op'] [b,c]=false:=by with_unfolding_all rfl):PT X (.Compare a [op,op'] [b,c] pos) (zH (wL r r' ta tb tc)):=by
 intro pins s σ H Q I h
 refine isTrue_chain (thn (ha pins s σ H _ I h) fun v s1 ⟨x,H1,I1,r1,q1⟩=>test_link (thn (hb pins s1 σ H1 _ I1 q1) fun u s2 ⟨y,H2,I2,r2,q2⟩=>
  thn (ho pins s2 σ H2 x y v u _ I2 r1 r2 q2) fun d s3 ⟨z,H3,I3,r3,k,e,q3⟩=>?_)) hm
 subst e
 cases r3
 refine wpAny_truthy_bool ?_
 cases k with
 |false=>
  obtain⟨k',e',q'⟩:=q3
  cases e'
  exact ite_ff ⟨H3,I3,q'⟩
 |true=>
  refine ite_tt (test_last (thn (hc pins s3 σ H3 _ I3 q3) fun w' s4 ⟨z',H4,I4,r4,q4⟩=>thn (ho' pins s4 σ H4 y z' u w' _ I4 r2 r4 q4) fun d' s5 hz=>?_))
  obtain⟨z2,H5,I5,r5,k2,e2,q5⟩:=hz
  subst e2
  cases r5
  exact wpAny_truthy_bool ⟨H5,I5,q5⟩
theorem uH:(sizeLine:Nat)<2^63:=by rw[sizeLine_eq];decide
theorem vz:OpR X (binaryOp .Add) (fun x y H Q=>∃i j,x=.str i/\y=.str j/\i.length+j.length<=sizeLine/\Q (.str (i++j)) H):=by
 intro pins s σ H x y v u Q I rx ry h
 obtain⟨i,j,rfl,rfl,hz,q⟩:=h
 obtain⟨t,rfl⟩:=rx
 obtain⟨t',rfl⟩:=ry
 exact add_str (fun t' tk=>⟨.str (i++j),H,I.tok _,⟨_,rfl⟩,q⟩) hz
theorem mF{x:V}{us:List Value}(r:cI [x] us):∃u,us=[u]/\dB x u:=by
 cases r with
 |cons r1 r2=>cases r2;exact⟨_,rfl,r1⟩
theorem C4{x y:V}{us:List Value}(r:cI [x,y] us):∃u w',us=[u,w']/\dB x u/\dB y w':=by
 cases r with
 |cons r1 r2=>
  cases r2 with
  |cons r3 r4=>cases r4;exact⟨_,_,rfl,r1,r3⟩
theorem yJ(hc:X.calm=true):fT X (.builtin "min") (fun xs H Q=>∃i j,xs=[.int i,.int j]/\Q (.int (if j<i then j else i)) H):=by
 intro pins s σ H xs us Q I r h
 obtain⟨i,j,rfl,q⟩:=h
 obtain⟨u,w',rfl,⟨t,rfl⟩,⟨t',rfl⟩⟩:=C4 r
 refine min_two_ints (I.ok.hd hc) fun h' tk k=>⟨_,H,I.kept k,?_,q⟩
 by_cases hj:j<i
 ·rw[if_pos hj,if_pos hj];exact⟨_,rfl⟩
 ·rw[if_neg hj,if_neg hj];exact⟨_,rfl⟩
theorem nH:fT X (.type "int") (fun xs H Q=>(∃i,xs=[.int i]/\Q (.int i) H)\/∃k,xs=[.bl k]/\Q (.int (if k then 1 else 0)) H):=by
 intro pins s σ H xs us Q I r h
 rcases h with⟨i,rfl,q⟩|⟨k,rfl,q⟩
 ·obtain⟨u,rfl,t,rfl⟩:=mF r
  exact call_int_int ⟨.int i,H,I,⟨_,rfl⟩,q⟩
 ·obtain⟨u,rfl,r1⟩:=mF r
  cases r1
  exact call_int_bool ⟨.int (if k then 1 else 0),H,I.tok _,⟨_,rfl⟩,q⟩
end
structure EO(h:Heap)(x dx C:Addr)(mA:Str->Option Value):Prop where
 obj:h.get? x=some (PySem.W.instObj C dx)
 ns:h.Ns1 dx mA
 ne:dx≠x
theorem xF{h:Heap}{dx:Addr}{mA:Str->Option Value}(n:h.Ns1 dx mA):∃od,h.get? dx=some od/\∀name,PySem.W.lookIn name od=some (mA name):=by
 obtain⟨o,es,ep,ho,hd,hk,_,hm⟩:=n
 refine⟨o,ho,fun name=>?_⟩
 have e:=hm name
 unfold nsFind findBy at e
 rw[<-Array.find?_toList]at e
 unfold PySem.W.lookIn
 rw[hd]
 dsimp only
 split
 ·rename_i y q
  rw[q]at e
  exact congrArg some e
 ·rename_i q
  rw[q]at e
  have a:es.toList.any (·.refKey)=false:=by
   rw[List.any_eq_false]
   intro y hy
   obtain⟨z,t,hkey⟩:=hk y (Array.mem_toList_iff.mp hy)
   simp[DictEntry.refKey,hkey]
  have a':¬es.toList.any (·.refKey)=true:=by rw[a];exact Bool.false_ne_true
  rw[if_neg a']
  exact congrArg some e
theorem EO.look{h:Heap}{x dx C:Addr}{mA:Str->Option Value}(I:EO h x dx C mA):∃od,PySem.W.InstAt h x (PySem.W.instObj C dx) C (some od)/\∀name,PySem.W.lookIn name od=some (mA name):=
 let ⟨od,ho,hl⟩:=xF I.ns
 ⟨od,⟨I.obj,rfl,rfl,ho⟩,hl⟩
section
variable{prog:Program}{w:World}{A:Around}{E:Value->Shared->Prop}{s:Shared}{K:PySem.W.Frag}{x dx C f:Addr}{mA:Str->Option Value}{name:Str}{v:Value}
theorem Ep{expr:Bool}{Q:Value->Shared->Prop}(X:K.In s.heap)(I:EO s.heap x dx C mA)(hg:PySem.W.plainGet K C name=true)(hh:PySem.W.hasDictIn K C=true)
  (ha:PySem.W.findIn K (.ref C) name=some none) (hv:mA name=some v) (hv':PySem.W.handedIn v=true) (h:Q v { s with toks:=s.toks+1 }) :
  wpAny (model prog w) A (getAttr (.ref x) name expr) Q E s:=by
 obtain⟨od,J,hl⟩:=I.look
 exact PySem.W.get_value X J (PySem.W.plainGet_of hg).1 (PySem.W.findObj_own hh ha rfl (by rw[hl,hv])) hv' h
theorem AI{pl:Sem Bool}{Q:Value×List Value->Shared->Prop}(X:K.In s.heap)(I:EO s.heap x dx C mA)(hg:PySem.W.plainGet K C name=true)
  (hf:PySem.W.findIn K (.ref C) name=some (some (.ref f))) (ht:PySem.W.isFn K (.ref f)=true) (hv:mA name=none) (h:Q (.ref f,[.ref x]) s) :
  wpAny (model prog w) A (getMethod (.ref x) name pl) Q E s:=by
 obtain⟨od,J,hl⟩:=I.look
 exact PySem.W.method_fn X J (PySem.W.plainGet_of hg).1 (PySem.W.plainGet_of hg).2 hf (beq_iff_eq.mp ht) (by show(PySem.W.lookIn name od).map (·.isSome)=some false;rw[hl,hv];rfl) h
theorem De{ns:List Str}{Q:Unit->Shared->Prop}(X:K.In s.heap)(I:EO s.heap x dx C mA)
  (hs:PySem.W.findIn K (.ref C) "__setattr__"=some (some (.builtin "object.__setattr__"))) (hp:PySem.W.plainOver K C=true) (ht:PySem.W.takerIn K C name=some none) (hh:PySem.W.hasDictIn K C=true)
  (hw:PySem.Within mA ns) (hsz:ns.length<=sizeLine)
  (h:∀h',EO h' x dx C (fun y=>if y=name then some v else mA y)->Heap.SameBut dx s.heap h'->Q () { s with heap:=h',toks:=s.toks+2 }) :
  wpAny (model prog w) A (setAttr (.ref x) name v) Q E s:=by
 obtain⟨od,J,hl⟩:=I.look
 refine PySem.W.set_plain X J hs (PySem.W.osa_open (s:={ s with toks:=s.toks+1 }) (r:=none) X J hp ht fun b=>?_)
 obtain⟨cd,hc,hd'⟩:=PySem.W.any_some hh
 have hx:s.heap.get? x=some ⟨.ref C,some dx,.plain,#[]⟩:=I.obj
 refine wpAny_bind (wpAny_pure (wpAny_bind (wpAny_bind (wpAny_loadPart hx (wpAny_bind (PySem.W.Looks.here (s:={ s with toks:=s.toks+1 }) (PySem.W.looks_clsIn X hc) ?_))))))
 rw[hd']
 refine wpAny_pure (a:=some dx) (wpAny_bind (wpAny_pure (wpAny_bind ?_)))
 refine wpAny_nsSet1 (s:={ s with toks:=s.toks+1 }) I.ns fun h' hn2 hs2=>?_
 obtain⟨oD,esD,epD,hoD,hdD,hcD⟩:=hn2.count (PySem.Within.cons name v hw)
 refine wpAny_bind (wpAny_lookBehind hoD (by rw[hdD];exact pastItsLine_dict (Nat.le_trans hcD (by rw[List.length_cons];omega))) ?_)
 exact wpAny_pure (h _ ⟨(hs2.2 _ (Ne.symm I.ne)).trans I.obj,hn2,I.ne⟩ hs2)
theorem Au{R:Result->Shared->Prop}{vs:List Value}{kw:List (Str×Value)}(X:K.In s.heap)(hm:PySem.W.makesIn K C=true)
  (hi:PySem.W.findIn K (.ref C) "__init__"=some (some (.ref f))) (hf:PySem.W.typeIn K (.ref f)=some (.type "function"))
  (h:codeAny (model prog w) (A.under (.builtin "type.__call__" ⟨.ref C::vs,kw⟩)) (.call (.ref f) ⟨.ref (s.heap.objs.size+1)::vs,kw⟩) (PySem.W.InitBack (s.heap.objs.size+1) R)
   { s with heap:=(s.heap.push PySem.W.emptyDict).push (PySem.W.instObj C s.heap.objs.size) }) :
  codeAny (model prog w) A (.call (.ref C) ⟨vs,kw⟩) R s:=by
 obtain⟨hh,g,d,t,os⟩:=s
 exact PySem.W.make_core (PySem.W.makes_of X hm) (PySem.W.looks_findIn X hi) (fun self=>PySem.W.bind_fn X self hf) (.inl rfl) h
end
def n8(f:Str)(v:V):List (Str×V)->List (Str×V)
 |[]=>[(f,v)]
 |(g,x)::r=>if g=f then(g,v)::r else(g,x)::n8 f v r
theorem jG(f g:Str)(v:V):∀fs:List (Str×V),(n8 f v fs).lookup g=if g=f then some v else fs.lookup g
 |[]=>by
  show List.lookup g [(f,v)]=_
  by_cases h:g=f
  ·have hb:(g == f)=true:=beq_iff_eq.mpr h
   simp only[List.lookup,hb,if_pos h]
  ·have hb:(g == f)=false:=beq_eq_false_iff_ne.mpr h
   simp only[List.lookup,hb,if_neg h]
 |(k,x)::r=>by
  have ih:=jG f g v r
  rw[show n8 f v ((k,x)::r)=(if k=f then(k,v)::r else(k,x)::n8 f v r)from rfl]
  by_cases hk:k=f
  ·rw[if_pos hk]
   by_cases h:g=k
   ·have hb:(g == k)=true:=beq_iff_eq.mpr h
    simp only[List.lookup,hb,if_pos (h.trans hk)]
   ·have hb:(g == k)=false:=beq_eq_false_iff_ne.mpr h
    simp only[List.lookup,hb,if_neg (fun e:g=f=>h (e.trans hk.symm))]
  ·rw[if_neg hk]
   by_cases h:g=k
   ·have hb:(g == k)=true:=beq_iff_eq.mpr h
    simp only[List.lookup,hb,if_neg (fun e:g=f=>hk (h.symm.trans e))]
   ·have hb:(g == k)=false:=beq_eq_false_iff_ne.mpr h
    simp only[List.lookup,hb]
    exact ih
theorem fK(f:Str)(v:V):∀fs:List (Str×V),f∈(n8 f v fs).map (·.1)/\∀g,g∈fs.map (·.1)->g∈(n8 f v fs).map (·.1)
 |[]=>⟨by simp[n8],fun g h=>by simp at h⟩
 |(k,x)::r=>by
  obtain⟨i1,i2⟩:=fK f v r
  rw[show n8 f v ((k,x)::r)=(if k=f then(k,v)::r else(k,x)::n8 f v r)from rfl]
  by_cases hk:k=f
  ·rw[if_pos hk]
   subst hk
   exact⟨by simp,fun g h=>by simpa using h⟩
  ·rw[if_neg hk]
   refine⟨?_,fun g h=>?_⟩
   ·rw[List.map_cons]
    exact List.mem_cons_of_mem _ i1
   ·rw[List.map_cons]at h ⊢
    rcases List.mem_cons.mp h with e|e
    ·exact List.mem_cons.mpr (.inl e)
    ·exact List.mem_cons_of_mem _ (i2 g e)
theorem nr(f:Str)(v:V):∀fs:List (Str×V),(n8 f v fs).length<=fs.length+1
 |[]=>by simp[n8]
 |(k,x)::r=>by
  have ih:=nr f v r
  rw[show n8 f v ((k,x)::r)=(if k=f then(k,v)::r else(k,x)::n8 f v r)from rfl]
  by_cases hk:k=f
  ·rw[if_pos hk,List.length_cons,List.length_cons];omega
  ·rw[if_neg hk,List.length_cons,List.length_cons];omega
theorem qk.some_of{v:V}{o:Option Value}(r:qk (some v) o):∃u,o=some u/\dB v u:=by
 cases o with
 |none=>exact(show False from r).elim
 |some u=>exact⟨u,rfl,r⟩
theorem qk.none_of{o:Option Value}(r:qk none o):o=none:=by
 cases o with
 |none=>rfl
 |some u=>exact(show False from r).elim
theorem x6{v:V}{u:Value}(r:dB v u):PySem.W.handedIn u=true:=by
 cases v with
 |non=>cases (show u=Value.none from r);rfl
 |bl b=>cases (show u=Value.bool b from r);rfl
 |int i=>obtain⟨t,e⟩:=(show ∃t,u=Value.int i t from r);cases e;rfl
 |str x=>obtain⟨t,e⟩:=(show ∃t,u=Value.str x t from r);cases e;rfl
 |byt b=>obtain⟨t,e⟩:=(show ∃t,u=Value.bytes b t from r);cases e;rfl
 |flt b=>obtain⟨t,e⟩:=(show ∃t,u=Value.float b t from r);cases e;rfl
 |ref a=>cases (show u=Value.ref a from r);rfl
 |ty n=>cases (show u=Value.type n from r);rfl
section
variable{P:Program}{w:World}{H H':Hp}{h h':Heap}{a C dx:Addr}{fs fs':List (Str×V)}
theorem pR(hok:HOk P w H h)(e:H a=some (.ins C dx fs)):∃mA,EO h a dx C mA/\(∀f,qk (fs.lookup f) (mA f))/\PySem.Within mA (fs.map (·.1))/\fs.length<=1000/\H dx=some (.own a):=by
 obtain⟨d,z,ne,ob,mA,n,r,q⟩:=(show cM P w H h a (.ins C dx fs)from hok a _ e)
 exact⟨mA,⟨ob,n,ne⟩,r,q,z,d⟩
end
structure Cls(K:PySem.W.Frag)(C:Addr):Prop where
 pg:PySem.W.plainGet K C Str.empty=true
 hd:PySem.W.hasDictIn K C=true
 po:PySem.W.plainOver K C=true
 sa:PySem.W.findIn K (.ref C) "__setattr__"=some (some (.builtin "object.__setattr__"))
theorem Cls.get{K:PySem.W.Frag}{C:Addr}(c:Cls K C)(f:Str):PySem.W.plainGet K C f=true:=c.pg
def jq(K:PySem.W.Frag)(C:Addr)(f:Str):Prop:=PySem.W.findIn K (.ref C) f=some none
theorem jq.taker{K:PySem.W.Frag}{C:Addr}{f:Str}(n:jq K C f):PySem.W.takerIn K C f=some none:=by
 unfold PySem.W.takerIn
 rw[show PySem.W.findIn K (.ref C) f=some none from n]
 rfl
structure ER(K:PySem.W.Frag)(C:Addr)(m:Str)(f:Addr):Prop where
 at_:PySem.W.findIn K (.ref C) m=some (some (.ref f))
 fn:PySem.W.isFn K (.ref f)=true
 kp:PySem.W.keepIn K (.ref f)=true
section
variable{X:Cx}{pins:List (Addr×Obj)}{σ:St}{H:Hp}{s:Shared}{a C dx:Addr}{fs:List (Str×V)}{f:Str}{v:V}{A:Around}{E:Value->Shared->Prop}
theorem vG{b:Bool}{Q:Value->Shared->Prop}(I:Inv X pins σ H s)(e:H a=some (.ins C dx fs))(c:Cls X.K C)(n:jq X.K C f)(l:fs.lookup f=some v)
  (h:∀u s',Inv X pins σ H s'->dB v u->Q u s'):wpAny (model X.prog X.w) A (getAttr (.ref a) f b) Q E s:=by
 obtain⟨mA,O,r,_,_,_⟩:=pR I.hok e
 obtain⟨u,hu,ru⟩:=qk.some_of (v:=v) (o:=mA f) (by rw[<-l];exact r f)
 exact Ep I.kIn O (c.get f) c.hd n hu (x6 ru) (h u _ (I.tok _) ru)
theorem oQ{m:Str}{g:Addr}{pl:Sem Bool}{Q:Value×List Value->Shared->Prop}(I:Inv X pins σ H s)(e:H a=some (.ins C dx fs))(c:Cls X.K C)(k:ER X.K C m g)(l:fs.lookup m=none)
  (h:Q (.ref g,[.ref a]) s):wpAny (model X.prog X.w) A (getMethod (.ref a) m pl) Q E s:=by
 obtain⟨mA,O,r,_,_,_⟩:=pR I.hok e
 have hn:mA m=none:=qk.none_of (by rw[<-l];exact r m)
 exact AI I.kIn O (c.get m) k.at_ k.fn hn h
theorem vx{y:V}{u:Value}{Q:Unit->Shared->Prop}(I:Inv X pins σ H s)(e:H a=some (.ins C dx fs))(c:Cls X.K C)(n:jq X.K C f)(hl:fs.length<1000)(ry:dB y u)
  (h:∀s',Inv X pins σ (upd H a (.ins C dx (n8 f y fs))) s'->Q () s'):wpAny (model X.prog X.w) A (setAttr (.ref a) f u) Q E s:=by
 obtain⟨mA,O,r,wi,_,ho⟩:=pR I.hok e
 have hz:(fs.map (·.1)).length<=sizeLine:=by rw[List.length_map,sizeLine_eq];omega
 refine De I.kIn O c.sa c.po n.taker c.hd wi hz fun h' O' sb=>h _ ?_
 have hd:∃o,h'.get? dx=some o:=let ⟨o,_,_,e',_⟩:=O'.ns;⟨o,e'⟩
 refine I.write (x:=a) (e:=dx) (by rw[e];exact True.intro) (.inr ho) (fun b q hb z=>(sb.2 b hb).trans z) hd ?_
 refine⟨by rw[bP O.ne];exact ho,?_,O.ne,O'.obj,_,O'.ns,fun g=>?_,fun g hg=>?_⟩
 ·have:=nr f y fs;omega
 ·show qk ((n8 f y fs).lookup g) (if g=f then some u else mA g)
  rw[jG]
  by_cases q:g=f
  ·rw[if_pos q,if_pos q];exact ry
  ·rw[if_neg q,if_neg q];exact r g
 ·by_cases q:g=f
  ·rw[q];exact(fK f y fs).1
  ·refine(fK f y fs).2 g (wi g fun z=>hg ?_)
   show(if g=f then some u else mA g)=none
   rw[if_neg q];exact z
theorem Inv.made(I:Inv X pins σ H s):Inv X pins σ (upd (upd H s.heap.objs.size (.own (s.heap.objs.size+1))) (s.heap.objs.size+1) (.ins C s.heap.objs.size []))
  { s with heap:=(s.heap.push PySem.W.emptyDict).push (PySem.W.instObj C s.heap.objs.size) }:=by
 have e1:(s.heap.push PySem.W.emptyDict).get? s.heap.objs.size=some PySem.W.emptyDict:=Heap.get?_push_size s.heap rfl
 have e2:((s.heap.push PySem.W.emptyDict).push (PySem.W.instObj C s.heap.objs.size)).get? (s.heap.objs.size+1)=some (PySem.W.instObj C s.heap.objs.size):=by
  have:=Heap.get?_push_size (s.heap.push PySem.W.emptyDict) (o:=PySem.W.instObj C s.heap.objs.size) rfl
  rwa[Heap.size_push]at this
 have e3:(s.heap.push PySem.W.emptyDict).Ns s.heap.objs.size (fun _=>none):=⟨PySem.W.emptyDict,#[],_,e1,rfl,(fun e he=>absurd he (by simp)),fun _=>rfl⟩
 have I1:=I.laid (a:=s.heap.objs.size) (o:=.own (s.heap.objs.size+1)) (h':=s.heap.push PySem.W.emptyDict) (t':=s.toks) (fun b u q=>Heap.get?_push_of_some _ q) (Nat.le_refl _) ⟨_,e1⟩
 refine I1.laid (a:=s.heap.objs.size+1) (o:=.ins C s.heap.objs.size []) (t':=s.toks) (fun b u q=>Heap.get?_push_of_some _ q) (Nat.le_of_eq (Heap.size_push _ _)) ?_
 have ne:s.heap.objs.size≠s.heap.objs.size+1:=Nat.ne_of_lt (Nat.lt_succ_self _)
 refine⟨by rw[bP ne,aS],Nat.zero_le _,ne,e2,fun _=>none,(Heap.Ns1.of_empty e3).at fun o q=>Heap.get?_push_of_some _ q,fun _=>True.intro,fun y hy=>absurd rfl hy⟩
theorem EK{prog:Program}{w:World}{env:Env}{e:Expr}{f:Str}{pos:Pos}{s:Shared}{Q:Value->Shared->Prop}(hb:attributeBase e f env (eval e env)=eval e env)
  (h:wpAny (model prog w) A (eval e env) (fun o s₁=>wpAny (model prog w) A (getAttr o f true) Q E s₁) E s):wpAny (model prog w) A (eval (.Attribute e f pos) env) Q E s:=
 Attribute_any_ h (by rw[arm_eval_Attribute,hb])
end
def L7(K:PySem.W.Frag)(ta:TE)(f:Str):TE:=fun σ H Q=>ta σ H fun x H1=>∃a C dx fs v,x=.ref a/\H1 a=some (.ins C dx fs)/\Cls K C/\jq K C f/\fs.lookup f=some v/\Q v H1
def L9(K:PySem.W.Frag)(ta tv:TE)(f:Str):TS:=fun D σ H=>tv σ H fun y H1=>ta σ H1 fun x H2=>∃a C dx fs,x=.ref a/\H2 a=some (.ins C dx fs)/\Cls K C/\jq K C f/\fs.length<1000/\
 D.nx σ (upd H2 a (.ins C dx (n8 f y fs)))
section
variable{X:Cx}{o e value:Expr}{f:Str}{pos pos' tpos:Pos}{ta tv:TE}
theorem GR(he:PE X e ta)(hb:attributeBase e f X.env (eval e X.env)=eval e X.env):PE X (.Attribute e f pos) (L7 X.K ta f):=by
 intro pins s σ H Q I h
 refine EK hb (thn (he pins s σ H _ I h) fun u s1 hz=>?_)
 obtain⟨x,H1,I1,rx,a,C,dx,fs,v,ex,ea,c,n,l,q⟩:=hz
 subst ex
 obtain rfl:u=Value.ref a:=rx
 exact vG I1 ea c n l fun u' s2 I2 ru=>⟨v,H1,I2,ru,q⟩
theorem GD(ha:PE X o ta)(hv:PE X value tv)(hs:swapsWith value (some (.Attribute o f pos')) pos.line X.env=pure false):PS X (.Assign [.Attribute o f pos'] value pos) (L9 X.K ta tv f):=by
 intro pins s σ H D I h
 refine plainObj_wpAny_Assign_Attribute (thn (hv pins s σ H _ I h) fun u s1 ⟨y,H1,I1,ry,q⟩=>thn (ha pins s1 σ H1 _ I1 q) fun ov s2 hz=>?_) hs
 obtain⟨x,H2,I2,rx,a,C,dx,fs,ex,ea,c,n,l,q2⟩:=hz
 subst ex
 obtain rfl:ov=Value.ref a:=rx
 exact vx I2 ea c n l ry fun s3 I3=>⟨σ,_,I3,q2⟩
end
section
variable{X:Cx}{pins:List (Addr×Obj)}{σ:St}{H:Hp}{s:Shared}{A:Around}{E:Value->Shared->Prop}{Q:Value->Shared->Prop}{c:Value}{b:Bool}
inductive ve(K:PySem.W.Frag)(H:Hp):V->Value->Prop where
 |non:ve K H .non (.type "NoneType")
 |bl (x:Bool):ve K H (.bl x) (.type "bool")
 |int (i:Int):ve K H (.int i) (.type "int")
 |str (x:Str):ve K H (.str x) (.type "str")
 |flt (x:UInt64):ve K H (.flt x) (.type "float")
 |lst {a:Addr} {xs:List V} (e:H a=some (.lst xs)):ve K H (.ref a) (.type "list")
 |frz {a:Addr} {o:Obj} {xs:List V} (e:H a=some (.frz o (.lst xs))):ve K H (.ref a) (.type "list")
 |tup {a:Addr} {xs:List V} (e:H a=some (.tup xs)):ve K H (.ref a) (.type "tuple")
 |dK {a:Addr} {kvs:List (Key×V)} (e:H a=some (.dK kvs)):ve K H (.ref a) (.type "dict")
 |dT {a:Addr} {kvs:List (List Key×V)} (e:H a=some (.dT kvs)):ve K H (.ref a) (.type "dict")
 | ins {a C dx:Addr} {fs:List (Str×V)} (e:H a=some (.ins C dx fs)) (cl:Cls K C) (ha:PySem.W.findIn K (.ref C) "__class__"=some (some (.builtin "object.__class__")))
   (hn:PySem.W.specialIn K (.builtin "object.__class__") "__get__"=some (some (.builtin "getset_descriptor.__get__"))) (htk:PySem.W.takesIn K (.builtin "object.__class__")=some true)
   (hm:PySem.W.mroIn K C (.type "object")=some true):ve K H (.ref a) (.ref C)
theorem xU{x:V}{u t:Value}(I:Inv X pins σ H s)(rx:dB x u)(ty:ve X.K H x t)(e:PySem.W.kitOne X.K t c=some b)(h:∀tk,Q (.bool b) { s with toks:=tk }) :
  wpAny (model X.prog X.w) A (call (.builtin "isinstance") [u,c]) Q E s:=by
 cases ty with
 |non=>cases (show u=Value.none from rx);exact PySem.W.kia_one PySem.W.kitx_none I.kIn True.intro e (fun z=>nomatch z) h
 |bl y=>cases (show u=Value.bool y from rx);exact PySem.W.kia_one PySem.W.kitx_bool I.kIn True.intro e (fun z=>nomatch z) h
 |int i=>obtain⟨t,q⟩:=(show ∃t,u=Value.int i t from rx);cases q;exact PySem.W.kia_one PySem.W.kitx_int I.kIn True.intro e (fun z=>nomatch z) h
 |str y=>obtain⟨t,q⟩:=(show ∃t,u=Value.str y t from rx);cases q;exact PySem.W.kia_one PySem.W.kitx_str I.kIn True.intro e (fun z=>nomatch z) h
 |flt y=>obtain⟨t,q⟩:=(show ∃t,u=Value.float y t from rx);cases q;exact PySem.W.kia_one PySem.W.kitx_float I.kIn True.intro e (fun z=>nomatch z) h
 |@lst a xs ea=>
  cases (show u=Value.ref a from rx)
  obtain⟨_,_,n,_,h1⟩:=(show cM X.prog X.w H s.heap a (.lst xs)from I.hok a _ ea)
  exact PySem.W.kia_one PySem.W.kitx_list I.kIn ⟨_,h1,rfl⟩ e (fun z=>nomatch z) h
 |@frz a ob xs ea=>
  cases (show u=Value.ref a from rx)
  obtain⟨_,_,_,n,_,h1⟩:=(show cM X.prog X.w H s.heap a (.frz ob (.lst xs))from I.hok a _ ea)
  exact PySem.W.kia_one PySem.W.kitx_list I.kIn ⟨_,h1,rfl⟩ e (fun z=>nomatch z) h
 |@tup a xs ea=>
  cases (show u=Value.ref a from rx)
  obtain⟨_,_,_,p⟩:=(show cM X.prog X.w H s.heap a (.tup xs)from I.hok a _ ea)
  obtain⟨o,h1,h2,_⟩:=p
  exact PySem.W.kia_one PySem.W.kitx_tuple I.kIn ⟨o,h1,h2⟩ e (fun z=>nomatch z) h
 |@dK a kvs ea=>
  cases (show u=Value.ref a from rx)
  obtain⟨_,_,vs,_,p⟩:=(show cM X.prog X.w H s.heap a (.dK kvs)from I.hok a _ ea)
  obtain⟨o,es,ep,h1,h2,_⟩:=p
  exact PySem.W.kia_one PySem.W.kitx_dict I.kIn ⟨o,h1,h2.1⟩ e (fun z=>nomatch z) h
 |@dT a kvs ea=>
  cases (show u=Value.ref a from rx)
  obtain⟨_,_,xs,_,o,es,ep,h1,h2,_⟩:=(show cM X.prog X.w H s.heap a (.dT kvs)from I.hok a _ ea)
  exact PySem.W.kia_one PySem.W.kitx_dict I.kIn ⟨o,h1,h2.1⟩ e (fun z=>nomatch z) h
 |@ins a C dx fs ea cl ha hn htk hm=>
  cases (show u=Value.ref a from rx)
  obtain⟨mA,O,_⟩:=pR I.hok ea
  obtain⟨od,J,_⟩:=O.look
  exact PySem.W.kia_one (PySem.W.kitx_own (cl.get _) cl.hd ha hn htk hm) I.kIn J e (fun z=>nomatch z) h
end
structure gJ(k:Nat)(A:Around):Prop where
 hd:A.handled=none
 dp:A.depth+3*k+5<recursionLimit
 un:A.units+16*k+200<cLine
 gd:A.guards=some []
theorem gJ.mono{j k:Nat}{A:Around}(r:gJ k A)(h:j<=k):gJ j A:=⟨r.hd,by have:=r.dp;omega,by have:=r.un;omega,r.gd⟩
theorem gJ.deeper{k:Nat}{A:Around}(r:gJ (k+1) A)(env:Env):gJ k (A.deeper env):=
 ⟨r.hd,by have:=r.dp;show A.depth+1+3*k+5<_;omega,by have:=r.un;show A.units+3+16*k+200<_;omega,r.gd⟩
theorem vC{A:Around}{C:Addr}{us:List Value}{kw:List (Str×Value)}:(A.under (.builtin "type.__call__" ⟨.ref C::us,kw⟩)).depth=A.depth+1:=by
 first|rfl|simp[Around.under,Code.weight,Code.isCreation,Code.isGuard,Code.isCaller,Code.frames,Code.isFrame,guardIds]
theorem vB{A:Around}{C:Addr}{us:List Value}{kw:List (Str×Value)}:(A.under (.builtin "type.__call__" ⟨.ref C::us,kw⟩)).units=A.units+1:=by
 first|rfl|simp[Around.under,Code.cUnits,Code.frames,Code.isFrame]
theorem gJ.make{k:Nat}{A:Around}(r:gJ (k+1) A)(C:Addr)(us:List Value)(kw:List (Str×Value)):gJ k (A.under (.builtin "type.__call__" ⟨.ref C::us,kw⟩)):=
 ⟨r.hd,by have:=r.dp;rw[vC];omega,by have:=r.un;rw[vB];omega,r.gd⟩
theorem gJ.depth{k:Nat}{A:Around}(r:gJ k A):A.depth<recursionLimit:=by have:=r.dp;omega
theorem gJ.units{k:Nat}{A:Around}(r:gJ k A):A.units+64<cLine:=by have:=r.un;omega
def IV:TA:=fun _ H Q=>Q [] H
def Gb(ta:TE)(tr:TA):TA:=fun σ H Q=>ta σ H fun x H1=>tr σ H1 fun xs H2=>Q (x::xs) H2
section
variable{X:Cx}{e:Expr}{es:List Expr}{te:TE}{t:TA}{pos:Pos}
theorem GW:PA X [] IV:=fun _ _ _ _ H Q I h=>Calls.spliced_nil ⟨[],H,I,.nil,h⟩
theorem DR(ha:PE X e te)(hr:PA X es t)(hs:starEach (e::es) X.env=(false,eval e X.env)::starEach es X.env:=by rfl):PA X (e::es) (Gb te t):=by
 intro pos pins s σ H Q I h
 rw[hs]
 show wpAny _ _ (spliced ((false,eval e X.env)::backTo pos (starEach es X.env))) _ _ s
 refine Calls.spliced_cons (thn (ha pins s σ H _ I h) fun u s1 hz=>?_)
 obtain⟨x,H1,I1,r1,q1⟩:=hz
 exact thn (hr pos pins s1 σ H1 _ I1 q1) fun us s2 ⟨xs,H2,I2,r2,q2⟩=>⟨x::xs,H2,I2,.cons r1 r2,q2⟩
def L0(t:TA):TE:=fun σ H Q=>t σ H fun xs H1=>xs.length<=sizeLine/\∀p,H1 p=none->Q (.ref p) (upd H1 p (.tup xs))
def L5(t:TA):TE:=fun σ H Q=>t σ H fun xs H1=>xs.length<=sizeLine/\∀p,H1 p=none->Q (.ref p) (upd H1 p (.lst xs))
theorem GK{x1}(h:PA X es t):PE X (.Tuple es x1 pos) (L0 t):=by
 intro pins s σ H Q I hq
 refine wpAny_Tuple_spliced (thn (h pos pins s σ H _ I hq) fun us s1 ⟨xs,H1,I1,r,z,q⟩=>⟨by rw[<-r.length];exact z,?_⟩)
 have hf:H1 s1.heap.objs.size=none:=I1.hok.fresh (Nat.le_refl _)
 refine⟨.ref s1.heap.objs.size,upd H1 s1.heap.objs.size (.tup xs),I1.laid (t':=s1.toks) (fun b u e=>Heap.get?_push_of_some _ e) (Nat.le_refl _) ?_,rfl,q _ hf⟩
 exact⟨z,us,r,⟨_,Heap.get?_push_size _ rfl,rfl,_,rfl⟩⟩
theorem GP(h:PA X es t):PE X (.List es pos) (L5 t):=by
 intro pins s σ H Q I hq
 refine wpAny_List_spliced (thn (h pos pins s σ H _ I hq) fun us s1 ⟨xs,H1,I1,r,z,q⟩=>⟨by rw[<-r.length];exact z,?_⟩)
 have hf:H1 s1.heap.objs.size=none:=I1.hok.fresh (Nat.le_refl _)
 refine⟨.ref s1.heap.objs.size,upd H1 s1.heap.objs.size (.lst xs),I1.laid (t':=s1.toks) (fun b u e=>Heap.get?_push_of_some _ e) (Nat.le_refl _) ?_,rfl,q _ hf⟩
 exact⟨z,us,0,r,Heap.get?_push_size _ rfl⟩
end
abbrev Sp:=List V->Hp->VK->XK->Prop
abbrev CXT:=List Env->Hp->Shared->XK->Value->Shared->Prop
structure ES(P:Program)(w:World)(K:PySem.W.Frag)(mg:Str->Option Value)(base:Heap)(A:Around)(outer:List Env)(s:Shared)(H:Hp):Prop where
 frames:A.frames=some outer
 mod:Mod K mg base
 bs:∀b o,base.get? b=some o->s.heap.get? b=some o/\H b=none
 bsz:base.objs.size<=s.heap.objs.size
 funs:s.heap.FunFrames base outer
 frf:∀b∈frs outer,H b=none
 hok:HOk P w H s.heap
 bare:AllBare s.gens
def CE(outer:List Env)(P:Program)(w:World)(H:Hp)(s:Shared)(Q:VK)(u:Value)(s':Shared):Prop:=
 ∃v H',s'.os=s.os/\AllBare s'.gens/\Un (frs outer) [] H H' s.heap s'.heap/\HOk P w H' s'.heap/\dB v u/\Q v H'
def CR(CX:CXT)(outer:List Env)(P:Program)(w:World)(H:Hp)(s:Shared)(Q:VK)(E:XK)(r:Result)(s':Shared):Prop:=
 match r with
 |.ok (.ret u)=>CE outer P w H s Q u s'
 |.ok _=>False
 |.error e=>CX outer H s E e s'
structure lW(P:Program)(w:World)(K:PySem.W.Frag)(mg:Str->Option Value)(base:Heap)(CX:CXT)(k:Nat)(f:Addr)(fd:FuncData)(ps:List Str)(sp:Sp):Prop where
 len:∀vs H Q E,sp vs H Q E->vs.length=ps.length
 run:∀(A:Around) (outer:List Env) (s:Shared) (H:Hp) (args:Args) (us:List Value) (vs:List V) (Q:VK) (E:XK),gJ k A->ES P w K mg base A outer s H->BindsTo s fd args (ps.zip us)->cI vs us->sp vs H Q E->
  codeAny (model P w) A (.call (.ref f) args) (CR CX outer P w H s Q E) s
theorem lW.mono{P:Program}{w:World}{K:PySem.W.Frag}{mg:Str->Option Value}{base:Heap}{CX:CXT}{j k:Nat}{f:Addr}{fd:FuncData}{ps:List Str}{sp:Sp}(F:lW P w K mg base CX j f fd ps sp)(h:j<=k) :
  lW P w K mg base CX k f fd ps sp:=⟨F.len,fun A outer s H args us vs Q E hr=>F.run A outer s H args us vs Q E (hr.mono h)⟩
theorem ES.make{P:Program}{w:World}{K:PySem.W.Frag}{mg:Str->Option Value}{base:Heap}{A:Around}{outer:List Env}{s:Shared}{H:Hp}(e:ES P w K mg base A outer s H)(C:Addr)(us:List Value)(kw:List (Str×Value)) :
  ES P w K mg base (A.under (.builtin "type.__call__" ⟨.ref C::us,kw⟩)) outer s H:=⟨by first|exact e.frames|(simpa [Around.under,Code.envs,Code.isFrame,pushEnvs] using e.frames),e.mod,e.bs,e.bsz,e.funs,e.frf,e.hok,e.bare⟩
section
variable{X:Cx}{pins:List (Addr×Obj)}{σ:St}{H:Hp}{s s':Shared}
theorem Inv.env0(I:Inv X pins σ H s):ES X.prog X.w X.K X.mg X.base X.A X.stack s H:=
 ⟨I.ok.frames,I.ok.mod,I.bs,Nat.le_trans I.ok.bsz I.sz,I.stack,I.stkFree,I.hok,I.bare⟩
theorem Inv.after{Q:VK}{u:Value}(I:Inv X pins σ H s)(h:CE X.stack X.prog X.w H s Q u s'):EP X pins σ Q u s':=by
 obtain⟨v,H',os,bare,un,hok,r,q⟩:=h
 obtain⟨hh,g,d,t,os'⟩:=s'
 obtain rfl:os'=s.os:=os
 exact⟨v,H',I.call (h':=hh) (g':=g) (d':=d) (t':=t) (ch:=[]) un hok bare (fun b z=>absurd z (by simp)),r,q⟩
end
def Gd(sp:Sp)(dvs:List V)(E:XK)(t:TA):TE:=fun σ H Q=>t σ H fun vs H1=>sp (vs++dvs) H1 Q E
def wK(C:Addr)(m:Str)(sp:Sp)(dvs:List V)(E:XK)(ta:TE)(t:TA):TE:=fun σ H Q=>ta σ H fun x H1=>∃a dx fs,x=.ref a/\H1 a=some (.ins C dx fs)/\fs.lookup m=none/\
 t σ H1 fun vs H2=>sp (x::(vs++dvs)) H2 Q E
def C5(C:Addr)(sp:Sp)(dvs:List V)(E:XK)(t:TA):TE:=fun σ H Q=>t σ H fun vs H1=>∀x dx,H1 x=none->H1 dx=none->dx≠x->
 sp (.ref x::(vs++dvs)) (upd (upd H1 dx (.own x)) x (.ins C dx [])) (fun v H2=>v=.non/\Q (.ref x) H2) E
def iB(K:PySem.W.Frag)(fd:FuncData)(ps:List Str)(ds:List Value):Prop:=
 ∀(s:Shared) (us:List Value),K.In s.heap->(us++ds).length=ps.length->BindsTo s fd ⟨us,[]⟩ (ps.zip (us++ds))
theorem iB.all{K:PySem.W.Frag}{fd:FuncData}{ps:List Str}(h:∀us:List Value,us.length=ps.length->bindArgs fd ⟨us,[]⟩=pure (ps.zip us)):iB K fd ps []:=fun s us _ hl=>by
 rw[List.append_nil]at hl ⊢
 exact .of_eq (h us hl)
def jn(CX:CXT)(X:Cx)(E:XK):Prop:=∀(pins:List (Addr×Obj)) (σ:St) (H:Hp) (s:Shared) (e:Value) (s':Shared),Inv X pins σ H s->CX X.stack H s E e s'->X.xe e s'
section
variable{X:Cx}{CX:CXT}{k:Nat}{f C:Addr}{fd:FuncData}{ps:List Str}{sp:Sp}{dvs:List V}{ds:List Value}{E:XK}{x m:Str}{p pos apos:Pos}{e o:Expr}{es:List Expr}{ta:TE}{t:TA}
theorem wV{pins:List (Addr×Obj)}{σ:St}{H:Hp}{s:Shared}{Q:VK}{us:List Value}{vs:List V}(F:lW X.prog X.w X.K X.mg X.base CX k f fd ps sp)(hr:gJ k X.A)(hb:iB X.K fd ps ds)(hd:cI dvs ds)(hx:jn CX X E)
  (I:Inv X pins σ H s) (r:cI vs us) (h:sp (vs++dvs) H Q E):wpAny (model X.prog X.w) X.A (call (.ref f) us) (EP X pins σ Q) X.xe s:=by
 have r2:cI (vs++dvs) (us++ds):=r.append hd
 have hl:(us++ds).length=ps.length:=by rw[<-r2.length];exact F.len _ _ _ _ h
 refine wpAny_call (codeAny_mono (F.run X.A X.stack s H ⟨us,[]⟩ (us++ds) (vs++dvs) Q E hr I.env0 (hb s us I.kIn hl) r2 h) fun r s' hq=>?_)
 cases r with
 |error e=>exact hx pins σ H s e s' I hq
 |ok fl=>
  cases fl with
  |ret u=>exact I.after hq
  |next=>exact False.elim hq
  |brk=>exact False.elim hq
  |cont=>exact False.elim hq
theorem DP(F:lW X.prog X.w X.K X.mg X.base CX k f fd ps sp)(hr:gJ k X.A)(hg:Gl X x)(hm:X.mg x=some (.ref f))(hk:PySem.W.keepIn X.K (.ref f)=true)(hb:iB X.K fd ps ds)(hd:cI dvs ds)(hx:jn CX X E)
  (ha:PA X (e::es) t) (hdb:(x == ("__debug__":Str))=false:=by decide) (he:starEach (e::es) X.env=(false,eval e X.env)::starEach es X.env:=by rfl) (hpl:(backTo pos (starEach es X.env)).any (·.1)=false:=by rfl) :
  PE X (.Call (.Name x p) (e::es) [] pos) (Gd sp dvs E t):=by
 intro pins s σ H Q I h
 refine wpAny_Call_Name_kw (xH I hg hm ?_ hdb)
 refine PySem.W.callWith_K (h₀:=X.base) I.ok.mod.kin hk (thn (ha pos pins s σ H _ I h) fun us s1 ⟨vs,H1,I1,r,q⟩=>⟨I1.kIn,?_⟩) he hpl
 exact wV F hr hb hd hx I1 r q
theorem DK{pl:Sem Bool}(he:PE X o ta)(c:Cls X.K C)(hm:ER X.K C m f)(F:lW X.prog X.w X.K X.mg X.base CX k f fd ps sp)(hr:gJ k X.A)(hb:iB X.K fd ps ds)(hd:cI dvs ds)(hx:jn CX X E)(ha:PA X (e::es) t)
  (hst:starEach (e::es) X.env=(false,eval e X.env)::starEach es X.env:=by rfl) (hpl:(backTo pos (starEach es X.env)).any (·.1)=false:=by rfl)
  (ht:eval (.Call (.Attribute o m apos) (e::es) [] pos) X.env=(do
   let ov <-eval o X.env
   standAt apos.atName
   let (f,first) <-holding [ov] (getMethod ov m pl)
   callWith pos f first (backTo pos (starEach (e::es) X.env)) (backToKw pos (keywordEach [] X.env))):=by rfl) :
  PE X (.Call (.Attribute o m apos) (e::es) [] pos) (wK C m sp dvs E ta t):=by
 intro pins s σ H Q I h
 refine PySem.W.methodCall_KW (pl:=pl) (thn (he pins s σ H _ I h) fun u s1 hz=>?_) ht
 obtain⟨x,H1,I1,rx,a,dx,fs,ex,ea,l,q⟩:=hz
 subst ex
 obtain rfl:u=Value.ref a:=rx
 refine oQ I1 ea c hm l ?_
 refine PySem.W.callWith_K (first:=[.ref a]) (h₀:=X.base) I.ok.mod.kin hm.kp (thn (ha pos pins s1 σ H1 _ I1 q) fun us s2 ⟨vs,H2,I2,r,q2⟩=>⟨I2.kIn,?_⟩) hst hpl
 exact wV (us:=.ref a::us) (vs:=.ref a::vs) F hr hb hd hx I2 (.cons rfl r) q2
theorem z9{pl:Sem Bool}(he:PE X o ta)(c:Cls X.K C)(hm:ER X.K C m f)(F:lW X.prog X.w X.K X.mg X.base CX k f fd ps sp)(hr:gJ k X.A)(hb:iB X.K fd ps ds)(hd:cI dvs ds)(hx:jn CX X E)
  (ht:eval (.Call (.Attribute o m apos) [] [] pos) X.env=(do
   let ov <-eval o X.env
   standAt apos.atName
   let (f,first) <-holding [ov] (getMethod ov m pl)
   callWith pos f first (backTo pos (starEach [] X.env)) (backToKw pos (keywordEach [] X.env))):=by rfl) :
  PE X (.Call (.Attribute o m apos) [] [] pos) (wK C m sp dvs E ta IV):=by
 intro pins s σ H Q I h
 refine PySem.W.methodCall_KW (pl:=pl) (thn (he pins s σ H _ I h) fun u s1 hz=>?_) ht
 obtain⟨x,H1,I1,rx,a,dx,fs,ex,ea,l,q⟩:=hz
 subst ex
 obtain rfl:u=Value.ref a:=rx
 refine oQ I1 ea c hm l ?_
 exact PySem.W.callWith_K0 (first:=[.ref a]) I1.kIn hm.kp (wV (us:=[.ref a]) (vs:=[.ref a]) F hr hb hd hx I1 (.cons rfl .nil) q)
structure Mk(K:PySem.W.Frag)(C f:Addr):Prop where
 makes:PySem.W.makesIn K C=true
 init:PySem.W.findIn K (.ref C) "__init__"=some (some (.ref f))
 fn:PySem.W.isFn K (.ref f)=true
 kp:PySem.W.keepIn K (.ref C)=true
theorem zN{pins:List (Addr×Obj)}{σ:St}{H:Hp}{s:Shared}{Q:VK}{us:List Value}{vs:List V}(M:Mk X.K C f)(F:lW X.prog X.w X.K X.mg X.base CX k f fd ps sp)(hr:gJ (k+1) X.A)(hb:iB X.K fd ps ds)(hd:cI dvs ds)
  (hx:jn CX X E) (I:Inv X pins σ H s) (r:cI vs us)
  (h:∀x dx,H x=none->H dx=none->dx≠x->sp (.ref x::(vs++dvs)) (upd (upd H dx (.own x)) x (.ins C dx [])) (fun v H2=>v=.non/\Q (.ref x) H2) E) :
  wpAny (model X.prog X.w) X.A (call (.ref C) us) (EP X pins σ Q) X.xe s:=by
 have hq:=h (s.heap.objs.size+1) s.heap.objs.size (I.hok.fresh (Nat.le_succ _)) (I.hok.fresh (Nat.le_refl _)) (Nat.ne_of_lt (Nat.lt_succ_self _))
 have I2:=Inv.made (C:=C) I
 have r2:cI (V.ref (s.heap.objs.size+1)::(vs++dvs)) (Value.ref (s.heap.objs.size+1)::(us++ds)):=.cons rfl (r.append hd)
 have hl:(Value.ref (s.heap.objs.size+1)::us++ds).length=ps.length:=by
  have e:=r2.length
  rw[F.len _ _ _ _ hq]at e
  exact e.symm
 refine wpAny_call (Au (f:=f) I.kIn M.makes M.init (beq_iff_eq.mp M.fn) (codeAny_mono (F.run _ X.stack _ _ ⟨Value.ref (s.heap.objs.size+1)::us,[]⟩ (Value.ref (s.heap.objs.size+1)::(us++ds)) _ _ E (hr.make C us [])
  (I2.env0.make C us []) (hb _ (Value.ref (s.heap.objs.size+1)::us) I2.kIn hl) r2 hq) fun r s' hq'=>?_))
 cases r with
 |error e=>exact hx pins σ _ _ e s' I2 hq'
 |ok fl=>
  cases fl with
  |ret u=>
   obtain⟨v,H',I3,rv,ev,q3⟩:=I2.after hq'
   subst ev
   exact⟨rv,⟨V.ref (s.heap.objs.size+1),H',I3,rfl,q3⟩⟩
  |next=>exact False.elim hq'
  |brk=>exact False.elim hq'
  |cont=>exact False.elim hq'
theorem DL(M:Mk X.K C f)(F:lW X.prog X.w X.K X.mg X.base CX k f fd ps sp)(hr:gJ (k+1) X.A)(hg:Gl X x)(hm:X.mg x=some (.ref C))(hb:iB X.K fd ps ds)(hd:cI dvs ds)(hx:jn CX X E)
  (ha:PA X (e::es) t) (hdb:(x == ("__debug__":Str))=false:=by decide) (he:starEach (e::es) X.env=(false,eval e X.env)::starEach es X.env:=by rfl) (hpl:(backTo pos (starEach es X.env)).any (·.1)=false:=by rfl) :
  PE X (.Call (.Name x p) (e::es) [] pos) (C5 C sp dvs E t):=by
 intro pins s σ H Q I h
 refine wpAny_Call_Name_kw (xH I hg hm ?_ hdb)
 refine PySem.W.callWith_K (h₀:=X.base) I.ok.mod.kin M.kp (thn (ha pos pins s σ H _ I h) fun us s1 ⟨vs,H1,I1,r,q⟩=>⟨I1.kIn,?_⟩) he hpl
 exact zN M F hr hb hd hx I1 r q
end
structure aQ(N P:List Str)(sc:Scope):Prop where
 kind:sc.kind=.function
 co:sc.isCoroutine=false
 gen:sc.isGenerator=false
 nd:N.Nodup
 pre:N.take P.length=P
 par:∀x∈P,sc.names.lookup x=some .local\/sc.names.lookup x=some .cell
 nofree:∀y∈sc.names,y.2≠.free
theorem rO{kindOf:Str->Option NameKind}{x:Str}:∀{binds:List (Str×Value)} {m:Str->Option Value},(∀v,(x,v)∉binds)->bindL kindOf binds m x=m x
 |[],_,_=>rfl
 |(n,v)::r,m,h=>by
  unfold bindL
  rw[rO fun w hw=>h w (List.mem_cons_of_mem _ hw)]
  split
  ·have:x≠n:=by rintro rfl;exact h v List.mem_cons_self
   simp[this]
  ·rfl
theorem rQ{kindOf:Str->Option NameKind}{x:Str}:∀{binds:List (Str×Value)} {m:Str->Option Value},(∀v,(x,v)∉binds)->bindC kindOf binds m x=m x
 |[],_,_=>rfl
 |(n,v)::r,m,h=>by
  unfold bindC
  rw[rQ fun w hw=>h w (List.mem_cons_of_mem _ hw)]
  split
  ·rfl
  ·have:x≠n:=by rintro rfl;exact h v List.mem_cons_self
   simp[this]
theorem rP{kindOf:Str->Option NameKind}{x:Str}{v:Value}:∀{P:List Str} {vs:List Value} {i:Nat} {m:Str->Option Value},P.Nodup->P[i]?=some x->vs[i]?=some v->kindOf x=some .local->
  bindL kindOf (P.zip vs) m x=some v
 |[],_,_,_,_,h,_,_=>by simp at h
 |_::_,[],_,_,_,_,h,_=>by simp at h
 |p::P,w::vs,0,m,nd,h1,h2,hk=>by
  simp at h1 h2;subst h1;subst h2
  show bindL kindOf ((p,w)::P.zip vs) m p=_
  unfold bindL
  rw[rO fun v hv=>(List.nodup_cons.mp nd).1 (List.of_mem_zip hv).1,if_pos hk]
  simp
 |p::P,w::vs,i+1,m,nd,h1,h2,hk=>by
  show bindL kindOf ((p,w)::P.zip vs) m x=_
  unfold bindL
  exact rP (i:=i) (List.nodup_cons.mp nd).2 (by simpa using h1) (by simpa using h2) hk
theorem rR{kindOf:Str->Option NameKind}{x:Str}{v:Value}:∀{P:List Str} {vs:List Value} {i:Nat} {m:Str->Option Value},P.Nodup->P[i]?=some x->vs[i]?=some v->kindOf x≠some .local->
  bindC kindOf (P.zip vs) m x=some v
 |[],_,_,_,_,h,_,_=>by simp at h
 |_::_,[],_,_,_,_,h,_=>by simp at h
 |p::P,w::vs,0,m,nd,h1,h2,hk=>by
  simp at h1 h2;subst h1;subst h2
  show bindC kindOf ((p,w)::P.zip vs) m p=_
  unfold bindC
  rw[rQ fun v hv=>(List.nodup_cons.mp nd).1 (List.of_mem_zip hv).1,if_neg hk]
  simp
 |p::P,w::vs,i+1,m,nd,h1,h2,hk=>by
  show bindC kindOf ((p,w)::P.zip vs) m x=_
  unfold bindC
  exact rR (i:=i) (List.nodup_cons.mp nd).2 (by simpa using h1) (by simpa using h2) hk
def jX(N:List Str)(vs:List V):St:=vs.map some++List.replicate (N.length-vs.length) none
def uZ(CX:CXT)(P:Program)(w:World)(K:PySem.W.Frag)(mg:Str->Option Value)(base:Heap)(N:List Str)(qual:Str)(scope:Scope)(f:Addr)(cd:Value)(A:Around)(outer:List Env)(s:Shared)(H:Hp)(E:XK):Cx where
 prog:=P
 w:=w
 K:=K
 mg:=mg
 base:=base
 A:=A.deeper (envOfC qual scope s.heap.objs.size f cd)
 N:=N
 s₀:=s
 H₀:=H
 env:=envOfC qual scope s.heap.objs.size f cd
 outer:=outer
 stack:=envOfC qual scope s.heap.objs.size f cd::outer
 ex:=[]
 calm:=true
 fn:=fun _=>true
 pn:=[]
 xe:=fun e s'=>wpAny (model P w) (A.deeper (envOfC qual scope s.heap.objs.size f cd)) (leaving (envOfC qual scope s.heap.objs.size f cd) e) (fun _ s''=>CX outer H s E e s'') (fun e' s''=>CX outer H s E e' s'') s'
theorem u3{sc:Scope}{n:Nat}{x:Str}(h:sc.names.lookup x=some .cell):∃c,(cellsFrom n sc.names []).lookup x=some c:=by
 have q:=PySem.W.cellsFrom_some sc.names n [] (.inl h)
 exact Option.isSome_iff_exists.mp q
theorem xW{CX:CXT}{P:Program}{w:World}{K:PySem.W.Frag}{mg:Str->Option Value}{base:Heap}{N ps:List Str}{qual:Str}{scope:Scope}{f:Addr}{cd:Value}{A:Around}{outer:List Env}{s s1:Shared}{H:Hp}{E:XK}{us:List Value}{vs:List V}
  (S:aQ N ps scope) (hd:A.handled=none) (e0:ES P w K mg base A outer s H) (hl:vs.length=ps.length) (r:cI vs us)
  (x:InCallC s s.heap.objs.size (bindL (envOfC qual scope s.heap.objs.size f cd).kindOf (ps.zip us) fun _=>none) (cellsFrom (s.heap.objs.size+1) scope.names []) (bindC (envOfC qual scope s.heap.objs.size f cd).kindOf (ps.zip us) fun _=>none) s1) :
  Inv (uZ CX P w K mg base N qual scope f cd A outer s H E) [] (jX N vs) H s1:=by
 have hpl:ps.length<=N.length:=by have:=congrArg List.length S.pre;rw[List.length_take]at this;omega
 obtain⟨h1,tk,rfl,hk⟩:=x.done
 have noA:∀b:Addr,b∉(uZ CX P w K mg base N qual scope f cd A outer s H E).ex:=fun b z=>absurd (show b∈([]:List Addr)from z) (by simp)
 refine⟨⟨e0.mod,S.kind,rfl,rfl,Nat.le_refl _,fun y z c h1 h2=>?_,fun y hy=>?_,fun y c _ h=>?_,fun _=>hd,Around.frames_deeper e0.frames,.inr ⟨rfl,rfl⟩,fun b z=>absurd z (noA b),e0.bs,e0.bsz,fun b _ _=>noA b,fun b z=>absurd z (noA b),e0.funs,e0.frf⟩,
  rfl,e0.bare,Un.kept hk,⟨_,x.toInCall.ns,fun i y v h1 h2 h3=>?_⟩,fun y c h=>⟨_,x.cell y c h⟩,e0.hok.fresh (Nat.le_refl _),fun y c h=>?_,fun p hp=>absurd (show p∈([]:List (Addr×Obj))from hp) (by simp),e0.hok.kept hk,?_⟩
 ·exact name_of_addr x.apart (PySem.mem_of_lookup h1) (PySem.mem_of_lookup h2)
 ·have hy:scope.names.lookup y=some .cell\/scope.names.lookup y=some .free:=hy
  rcases hy with hy|hy
  ·exact u3 hy
  ·exact absurd rfl (S.nofree _ (PySem.mem_of_lookup hy))
 ·exact Nat.le_of_lt (x.above y c (PySem.mem_of_lookup h))
 ·have hi:i<vs.length:=by
   unfold jX at h2
   by_cases hi:i<vs.length
   ·exact hi
   ·rw[List.getElem?_append_right (by simpa using hi)]at h2
    rw[List.getElem?_replicate]at h2
    split at h2<;>cases h2
  have ha:vs[i]?=some v:=by
   unfold jX at h2
   rw[List.getElem?_append_left (by simpa using hi),List.getElem?_map]at h2
   cases e:vs[i]? with
   |none=>rw[e]at h2;cases h2
   |some a=>rw[e]at h2;cases h2;rfl
  obtain⟨u,hu,rv⟩:=r.get ha
  have hp:ps[i]?=some y:=by
   rw[<-S.pre,List.getElem?_take_of_lt (by omega)];exact h1
  have ndP:ps.Nodup:=by rw[<-S.pre];exact S.nd.sublist (List.take_sublist _ _)
  refine⟨u,rv,?_⟩
  rcases S.par y (List.mem_of_getElem? hp)with k|k
  ·exact .inl ⟨k,rP ndP hp hu k⟩
  ·obtain⟨c,e⟩:=u3 (n:=s.heap.objs.size+1) k
   refine .inr ⟨.inl k,c,e,?_⟩
   have q:=x.cell y c e
   rw[rR ndP hp hu (by show scope.names.lookup y≠_;rw[k];decide)]at q
   exact q
 ·exact e0.hok.fresh (Nat.le_of_lt (x.above y c (PySem.mem_of_lookup h)))
 ·unfold jX
  show _=N.length
  rw[List.length_append,List.length_map,List.length_replicate]
  omega
theorem LC{CX:CXT}{P:Program}{w:World}{K:PySem.W.Frag}{mg:Str->Option Value}{base:Heap}{k:Nat}{f:Addr}{name qual:Str}{params:Arguments}{body:List Stmt}{scope:Scope}{dV kV doc pm cdv ct oc:Value}{an od:Option Addr}
  {osl:Array (Option Value)} {N ps:List Str} {sp:Sp} (lk:K.lookup f=some ⟨oc,od,.func (PySem.W.fnOf name qual params body scope dV kV doc pm an cdv ct),osl⟩) (hcd:PySem.W.codeIn K cdv qual=true) (S:aQ N ps scope)
  (len:∀vs H Q E,sp vs H Q E->vs.length=ps.length)
  (hbody:∀(A:Around) (outer:List Env) (s:Shared) (H:Hp) (vs:List V) (Q:VK) (E:XK),gJ k (A.deeper (envOfC qual scope s.heap.objs.size f cdv))->sp vs H Q E->
   ∃t,PSs (uZ CX P w K mg base N qual scope f cdv A outer s H E) body t/\t { nx:=fun _ H'=>Q .non H',rt:=Q } (jX N vs) H) :
  lW P w K mg base CX (k+1) f (PySem.W.fnOf name qual params body scope dV kV doc pm an cdv ct) ps sp:=by
 refine⟨len,fun A outer s H args us vs Q E hr e0 hb r hsp=>?_⟩
 have hl:=len _ _ _ _ hsp
 have KX:K.In s.heap:=e0.mod.kin.keeps fun b o e=>(e0.bs b o e).1
 have lim:s.heap.NoLimit:=e0.mod.nolimit.keeps fun b o e=>(e0.bs b o e).1
 have hkind:∀y∈ps.zip us,scope.names.lookup y.1=some .local\/(scope.names.lookup y.1=some .cell/\((cellsFrom (s.heap.objs.size+1) scope.names []).lookup y.1).isSome=true):=fun⟨n,v⟩ hy=>by
  rcases S.par n (List.of_mem_zip hy).1 with q|q
  ·exact .inl q
  ·exact .inr ⟨q,PySem.W.cellsFrom_some _ _ _ (.inl q)⟩
 refine codeAny_call_function hr.depth (KX _ _ lk) rfl S.co S.gen rfl (PySem.W.codeRec_of KX hcd) (hb _ _ _ _ ?_)
 refine wpAny_newFunctionEnv_cells S.kind hkind fun env he s1 x=>?_
 subst he
 refine⟨lim.keeps x.toInCall.keep,codeAny_func ?_⟩
 obtain⟨t,ht,hq⟩:=hbody A outer s H vs Q E (hr.deeper _) hsp
 have I:Inv (uZ CX P w K mg base N qual scope f cdv A outer s H E) [] (jX N vs) H s1:=xW S hr.hd e0 hl r x
 refine wpAny_mono (ht [] s1 (jX N vs) H _ I hq) (fun fl s' hs=>?_) fun e s' hs=>hs
 have fin:∀{σ':St} {H':Hp} {v:V} {u:Value},Inv (uZ CX P w K mg base N qual scope f cdv A outer s H E) [] σ' H' s'->dB v u->Q v H'->CE outer P w H s Q u s':=
  fun{σ' H' v u} J rv q=>⟨v,H',J.os,J.bare,J.base,J.hok,rv,q⟩
 cases fl with
 |ret u=>
  obtain⟨v,σ',H',J,rv,q⟩:=hs
  exact fin J rv q
 |next=>
  obtain⟨σ',H',J,q⟩:=hs
  exact fin (v:=V.non) (u:=Value.none) J rfl q
 |brk=>
  obtain⟨_,_,_,q⟩:=hs
  exact False.elim q
 |cont=>
  obtain⟨_,_,_,q⟩:=hs
  exact False.elim q
section
variable{X:Cx}{x:Str}{p pos:Pos}{e:Expr}{es:List Expr}{t:TA}{id T:String}{r:List V->Hp->VK->Prop}
def tCB(r:List V->Hp->VK->Prop)(t:TA):TE:=fun σ H Q=>t σ H fun vs H1=>r vs H1 Q
theorem Ab(hc:fT X (.builtin id) r)(hg:Gl X x)(hm:X.mg x=none)(hv:bootBuiltins x=some (.builtin id))(ha:PA X (e::es) t)(hn:x≠"__name__":=by decide)(hdb:(x == ("__debug__":Str))=false:=by decide)
  (he:starEach (e::es) X.env=(false,eval e X.env)::starEach es X.env:=by rfl) (hpl:(backTo pos (starEach es X.env)).any (·.1)=false:=by rfl):PE X (.Call (.Name x p) (e::es) [] pos) (tCB r t):=by
 intro pins s σ H Q I h
 refine wpAny_Call_Name_kw (qV I hg hm hv ?_ hn hdb)
 exact PyProof.Rows.callWith_builtin1 (thn (ha pos pins s σ H _ I h) fun us s1 ⟨vs,H1,I1,r1,q1⟩=>hc pins s1 σ H1 vs us Q I1 r1 q1) he hpl
theorem xj(hc:fT X (.type T) r)(hg:Gl X x)(hm:X.mg x=none)(hv:bootBuiltins x=some (.type T))(ha:PA X (e::es) t)(hn:x≠"__name__":=by decide)(hdb:(x == ("__debug__":Str))=false:=by decide)
  (he:starEach (e::es) X.env=(false,eval e X.env)::starEach es X.env:=by rfl) (hpl:(backTo pos (starEach es X.env)).any (·.1)=false:=by rfl):PE X (.Call (.Name x p) (e::es) [] pos) (tCB r t):=by
 intro pins s σ H Q I h
 refine wpAny_Call_Name_kw (qV I hg hm hv ?_ hn hdb)
 exact PyProof.Rows.callWith_type1 (thn (ha pos pins s σ H _ I h) fun us s1 ⟨vs,H1,I1,r1,q1⟩=>hc pins s1 σ H1 vs us Q I1 r1 q1) he hpl
end
end L2
namespace HT
open PySem PyProof.Rows
section
variable{prog:Program}{w:World}{A:Around}{E:Value->Shared->Prop}{s:Shared}
theorem cat_tup{t b:Addr}{vs ws:List Value}{Q:Value->Shared->Prop}(ht:IsTup s.heap t vs.toArray)(hb:IsTup s.heap b ws.toArray)(hv:vs≠[])
  (h1:ws=[]->Q (.ref t) s) (h2:ws≠[]->Q (.ref s.heap.objs.size) { s with heap:=s.heap.push { cls:=.type "tuple",data:=.seq (vs++ws).toArray } })
  (hsz:vs.length+ws.length<=sizeLine):wpAny (model prog w) A (binaryOp .Add (.ref t) (.ref b)) Q E s:=by
 obtain⟨⟨cls,dd,data,sl⟩,ho,hc,n,hd⟩:=id ht
 obtain⟨⟨cls2,dd2,data2,sl2⟩,ho2,hc2,n2,hd2⟩:=id hb
 simp only at hc hd hc2 hd2
 subst hc hd hc2 hd2
 have e:vs.toArray++ws.toArray=(vs++ws).toArray:=by simp
 by_cases hw:ws=[]
 ·exact concat_meets ⟨_,ho,rfl⟩ ⟨_,ho2,rfl⟩ noFill_tuple_add seq_tuple_add PySem.F.slot_tuple_add PySem.F.entry_tuple_add (PySem.F.args_tuple_add_2 _ _)
   (tuple_addW1 t b vs.toArray ws.toArray n n2 dd dd2 sl sl2 (by simpa using hv) (by simp[hw])) ⟨ho,ho2,h1 hw⟩
 ·refine concat_meets ⟨_,ho,rfl⟩ ⟨_,ho2,rfl⟩ noFill_tuple_add seq_tuple_add PySem.F.slot_tuple_add PySem.F.entry_tuple_add (PySem.F.args_tuple_add_2 _ _)
   (tuple_addW2 t b vs.toArray ws.toArray n n2 dd dd2 sl sl2 (by simpa using hv) (by simpa using hw) (by rw[List.size_toArray,List.size_toArray];exact hsz)) ⟨ho,ho2,?_⟩
  rw[e]
  exact h2 hw
def sIx(n d:Nat):Option Int->Nat
 |none=>d
 |some v=>if v<0 then(v+(n:Int)).toNat else min v.toNat n
theorem sIx_none(n d:Nat):sIx n d none=d:=rfl
theorem sIx_nat(n d k:Nat):sIx n d (some (k:Int))=min k n:=by
 show(if (k:Int)<0 then((k:Int)+(n:Int)).toNat else min (k:Int).toNat n)=min k n
 rw[if_neg (by omega),Int.toNat_natCast]
theorem Gj(n d:Nat)(hd:d<=n)(o:Option Int):sIx n d o<=n:=by
 cases o with
 |none=>exact hd
 |some v=>
  show(if v<0 then(v+(n:Int)).toNat else min v.toNat n)<=n
  by_cases hv:v<0
  ·rw[if_pos hv];omega
  ·rw[if_neg hv];exact Nat.min_le_right _ _
theorem yH(v:Int)(n d:Nat):(if v<0 then max (v+(n:Int)) 0 else min v (n:Int))=((sIx n d (some v):Nat):Int):=by
 show(if v<0 then max (v+(n:Int)) 0 else min v (n:Int))=(((if v<0 then(v+(n:Int)).toNat else min v.toNat n):Nat):Int)
 by_cases hv:v<0
 ·simp only[if_pos hv];omega
 ·simp only[if_neg hv];omega
theorem vS(lo hi:Option Int)(n:Nat):Builtin.Slice.sliceAdjust lo hi 1 (n:Int)=(((sIx n 0 lo:Nat):Int),((sIx n n hi:Nat):Int)):=by
 have h1:¬((1:Int)<0):=by omega
 unfold Builtin.Slice.sliceAdjust
 simp only[h1,if_false]
 refine Prod.ext ?_ ?_
 ·cases lo with
  |none=>rfl
  |some v=>exact yH v n 0
 ·cases hi with
  |none=>rfl
  |some v=>exact yH v n n
theorem vy(i j:Nat):Builtin.Slice.slicePlaces (i:Int) (j:Int) 1=j-i:=by
 unfold Builtin.Slice.slicePlaces
 have h1:(1:Int)>0:=by omega
 simp only[h1,if_true,Int.ediv_one]
 split<;>omega
theorem oG{v:Value}{o:Option Int}{Q:Option Int->Shared->Prop}(p:IsPart v o)(h:Q o s):wpAny (model prog w) A (Builtin.Slice.slicePartIndex v) Q E s:=by
 cases p with
 |none=>exact slicePart_none h
 |int i t=>exact slicePart_int h
theorem lX{sl:Addr}{vl vu:Value}{lo hi:Option Int}{n:Nat}{Q:Int×Int×Nat->Shared->Prop}(hs:s.heap.IsSliceOf sl vl vu .none)(pl:IsPart vl lo)(pu:IsPart vu hi)
  (h:Q (((sIx n 0 lo:Nat):Int),1,sIx n n hi-sIx n 0 lo) s):wpAny (model prog w) A (Builtin.Slice.sliceApplied (.ref sl) (pure (n:Int))) Q E s:=by
 obtain⟨os,hos,hcs,hds⟩:=id hs
 unfold Builtin.Slice.sliceApplied Builtin.Slice.sliceFields
 refine wpAny_bind (wpAny_bind (wpAny_field hos hds (x:=vl) rfl (wpAny_bind (wpAny_field hos hds (x:=vu) rfl (wpAny_bind (wpAny_field hos hds (x:=.none) rfl (wpAny_pure ?_)))))))
 refine wpAny_bind (slicePart_none ?_)
 show wpAny _ _ (if ((1:Int) == 0)=true then _ else _) _ _ s
 rw[if_neg (by decide)]
 refine wpAny_bind (oG pl (wpAny_bind (oG pu (wpAny_bind (wpAny_pure ?_)))))
 show wpAny _ _ (match Builtin.Slice.sliceAdjust lo hi 1 (n:Int)with|(lo,hi)=>pure (lo,(1:Int),Builtin.Slice.slicePlaces lo hi 1)) _ _ s
 rw[vS lo hi n]
 show wpAny _ _ (pure (((sIx n 0 lo:Nat):Int),(1:Int),Builtin.Slice.slicePlaces ((sIx n 0 lo:Nat):Int) ((sIx n n hi:Nat):Int) 1)) _ _ s
 rw[vy]
 exact wpAny_pure h
theorem z6(xs:Array Value)(i k:Nat):((List.range k).filterMap fun(m:Nat)=>xs[((i:Int)+(m:Int)*1).toNat]?).toArray=((xs.toList.drop i).take k).toArray:=by
 have e:(fun(m:Nat)=>xs[((i:Int)+(m:Int)*1).toNat]?)=fun m=>xs[i+m]?:=by
  funext m
  have:((i:Int)+(m:Int)*1).toNat=i+m:=by omega
  rw[this]
 rw[e]
 have:=pick_run xs i k
 rw[List.filterMap_map]at this
 have e2:((fun x=>xs[x]?) ∘ fun x=>i+x)=fun m=>xs[i+m]?:=rfl
 rw[e2]at this
 rw[this]
theorem getItem_tuple_cut{t sl:Addr}{items:Array Value}{vl vu:Value}{lo hi:Option Int}{Q:Value->Shared->Prop}(ht:IsTup s.heap t items)(hs:s.heap.IsSliceOf sl vl vu .none)(pl:IsPart vl lo)(pu:IsPart vu hi)
  (hw:¬(sIx items.size 0 lo=0/\sIx items.size items.size hi=items.size))
  (h:Q (.ref s.heap.objs.size) { s with heap:=s.heap.push { cls:=.type "tuple",data:=.seq ((items.toList.drop (sIx items.size 0 lo)).take (sIx items.size items.size hi-sIx items.size 0 lo)).toArray } })
  (hsz:items.size<=sizeLine):wpAny (model prog w) A (getItem (.ref t) (.ref sl)) Q E s:=by
 have htake:sizeOk (.seq ((items.toList.drop (sIx items.size 0 lo)).take (sIx items.size items.size hi-sIx items.size 0 lo)).toArray):=by
  show((items.toList.drop (sIx items.size 0 lo)).take (sIx items.size items.size hi-sIx items.size 0 lo)).toArray.size<=sizeLine
  rw[List.size_toArray,List.length_take,List.length_drop,Array.length_toList]
  omega
 have hj:sIx items.size items.size hi<=items.size:=Gj _ _ (Nat.le_refl _) hi
 obtain⟨os,hos,hcs,hds⟩:=id hs
 have hTs:s.TypeIs (.ref sl) "slice":=⟨os,hos,hcs⟩
 unfold getItem
 try with_reducible refine wpAny_holding ?_
 first|refine wpAny_bind (wpAny_pure ?_)|skip
 refine wpAny_bind (wpAny_sequenceKey ht.typeIs (by decide) ?_)
 refine wpAny_bind (wpAny_callSpecial?_slot (name:=Str.ofString "__getitem__") ht.typeIs PyProof.Rows.slot_tuple_getitem
  (wpAny_call_entry PyProof.Rows.slot_tuple_getitem ht.typeIs entry_tuple_getitem ?_ (args_tuple_getitem _ _)))
 show wpAny _ _ (Builtin.Tuple.tupleItemsOf (.ref t) >>= _) _ _ s
 refine wpAny_bind (tupleItemsOf_ ht ?_)
 refine wpAny_bind (wpAny_typeOf hTs ?_)
 rw[if_pos (by decide)]
 refine wpAny_bind (lX hs pl pu ?_)
 have hno:¬((((sIx items.size 0 lo:Nat):Int) == 0&&(1:Int) == 1&&(sIx items.size items.size hi-sIx items.size 0 lo) == items.size)=true):=by
  intro q
  rw[Bool.and_eq_true,Bool.and_eq_true]at q
  have q1:((sIx items.size 0 lo:Nat):Int)=0:=eq_of_beq q.1.1
  have q2:sIx items.size items.size hi-sIx items.size 0 lo=items.size:=eq_of_beq q.2
  exact hw ⟨by omega,by omega⟩
 show wpAny _ _ (if (((sIx items.size 0 lo:Nat):Int) == 0&&(1:Int) == 1&&(sIx items.size items.size hi-sIx items.size 0 lo) == items.size)=true then _ else _) _ _ s
 rw[if_neg hno,z6]
 first
  |exact wpAny_bind (m:=Builtin.Tuple.tupleExact _) (wpAny_newObj_type (wpAny_pure ⟨_,rfl,wpAny_pure h⟩) htake)
  |exact wpAny_bind (m:=Builtin.Tuple.tupleExact _) (wpAny_newObj_type (wpAny_bind (wpAny_pure (wpAny_pure ⟨_,rfl,wpAny_pure h⟩))) htake)
  |exact wpAny_bind (wpAny_bind (m:=Builtin.Tuple.tupleExact _) (wpAny_newObj_type (wpAny_pure (wpAny_pure ⟨_,rfl,wpAny_pure h⟩)) htake))
  |exact wpAny_bind (wpAny_bind (m:=Builtin.Tuple.tupleExact _) (wpAny_newObj_type (wpAny_pure ⟨_,rfl,wpAny_pure h⟩) htake))
end
end HT
namespace L2
open PySem PySem.Spec PyProof.Rows
abbrev TO:=St->Hp->(Option Int->Hp->Prop)->Prop
def PO(X:Cx)(e:Option Expr)(t:TO):Prop:=
 ∀(pins:List (Addr×Obj)) (s:Shared) (σ:St) (H:Hp) (Q:Option Int->Hp->Prop),Inv X pins σ H s->t σ H Q->
  wpAny (model X.prog X.w) X.A (evalPart e X.env) (fun u s'=>∃o H',Inv X pins σ H' s'/\IsPart u o/\Q o H') X.xe s
def wJ:TO:=fun _ H Q=>Q none H
def F3(t:TE):TO:=fun σ H Q=>t σ H fun x H1=>∃i,x=.int i/\Q (some i) H1
section
variable{X:Cx}{e:Expr}{te:TE}{lo hi:Option Expr}{tl th:TO}{pos p2:Pos}
theorem DD:PO X none wJ:=by
 intro pins s σ H Q I h
 rw[evalPart_none]
 exact wpAny_pure ⟨none,H,I,.none,h⟩
theorem DC(h:PE X e te):PO X (some e) (F3 te):=by
 intro pins s σ H Q I hw
 rw[evalPart_some]
 refine thn (h pins s σ H _ I hw) fun u s1 hz=>?_
 obtain⟨x,H1,I1,r1,q1⟩:=hz
 obtain⟨i,rfl,q⟩:=q1
 obtain⟨t,rfl⟩:=r1
 exact⟨some i,H1,I1,.int i t,q⟩
def SlR(X:Cx)(r:V->Option Int->Option Int->Hp->VK->Prop):Prop:=
 ∀(pins:List (Addr×Obj)) (s:Shared) (σ:St) (H:Hp) (x:V) (v vl vu:Value) (lo hi:Option Int) (sl:Addr) (Q:VK),Inv X pins σ H s->dB x v->s.heap.IsSliceOf sl vl vu .none->IsPart vl lo->IsPart vu hi->r x lo hi H Q->
  ∃T id,typeLookup (.type T) "__getitem__"=pure (some (.builtin id))/\s.TypeIs v T/\wpAny (model X.prog X.w) X.A (getItem v (.ref sl)) (EP X pins σ Q) X.xe s
theorem SlR.or{r r':V->Option Int->Option Int->Hp->VK->Prop}(h:SlR X r)(h':SlR X r'):SlR X (fun x lo hi H Q=>r x lo hi H Q\/r' x lo hi H Q):=by
 intro pins s σ H x v vl vu lo hi sl Q I rx hs pl pu q
 rcases q with q|q
 ·exact h pins s σ H x v vl vu lo hi sl Q I rx hs pl pu q
 ·exact h' pins s σ H x v vl vu lo hi sl Q I rx hs pl pu q
def tSl(r:V->Option Int->Option Int->Hp->VK->Prop)(te:TE)(tl th:TO):TE:=fun σ H Q=>te σ H fun x H1=>tl σ H1 fun l H2=>th σ H2 fun u H3=>r x l u H3 Q
theorem z8{r:V->Option Int->Option Int->Hp->VK->Prop}(hr:SlR X r)(he:PE X e te)(hl:PO X lo tl)(hu:PO X hi th):PE X (.Subscript e (.Slice lo hi none p2) pos) (tSl r te tl th):=by
 intro pins s σ H Q I h
 refine Subscript_ (thn (he pins s σ H _ I h) fun v s1 hz=>?_)
 obtain⟨x,H1,I1,r1,q1⟩:=hz
 refine wpAny_Slice (thn (hl pins s1 σ H1 _ I1 q1) fun vl s2 ⟨l,H2,I2,pl,q2⟩=>thn (hu pins s2 σ H2 _ I2 q2) fun vu s3 hz=>?_)
 obtain⟨u,H3,I3,pu,q3⟩:=hz
 rw[evalPart_none]
 refine wpAny_pure ?_
 have I4:Inv X pins σ H3 { s3 with heap:=s3.heap.push { cls:=.type "slice",data:=.fields #[vl,vu,.none] } }:=I3.kept (t':=s3.toks) fun b ob q=>Heap.get?_push_of_some _ q
 obtain⟨T,id,hT,ht,hg⟩:=hr pins { s3 with heap:=s3.heap.push { cls:=.type "slice",data:=.fields #[vl,vu,.none] } } σ H3 x v vl vu l u s3.heap.objs.size Q I4 r1 (Heap.IsSliceOf.new ..) pl pu q3
 show wpAny (model X.prog X.w) X.A (subscriptTail e (.Slice lo hi none p2) v (.ref s3.heap.objs.size)) (EP X pins σ Q) X.xe { s3 with heap:=s3.heap.push { cls:=.type "slice",data:=.fields #[vl,vu,.none] } }
 exact tail_any (ops:=[.ref s3.heap.objs.size,v]) ht hT hg (by with_unfolding_all rfl)
def yA(xs:List V)(lo hi:Option Int):List V:=(xs.drop (HT.sIx xs.length 0 lo)).take (HT.sIx xs.length xs.length hi-HT.sIx xs.length 0 lo)
theorem nF(xs:List V)(lo hi:Option Int):(yA xs lo hi).length<=xs.length:=by
 unfold yA
 rw[List.length_take,List.length_drop]
 omega
def MY(K:PySem.W.Frag):V->Option Int->Option Int->Hp->VK->Prop:=fun x lo hi H Q=>∃a xs,x=.ref a/\SqT K H a xs/\
 ¬(HT.sIx xs.length 0 lo=0/\HT.sIx xs.length xs.length hi=xs.length)/\∀p,H p=none->Q (.ref p) (upd H p (.tup (yA xs lo hi)))
theorem Gh:SlR X (MY X.K):=by
 intro pins s σ H x v vl vu lo hi sl Q I rx hs pl pu h
 obtain⟨a,xs,rfl,hx,hw,q⟩:=h
 cases rx
 obtain⟨its,r,ht,hz⟩:=I.tuple hx
 have hlen:its.toArray.size=xs.length:=by rw[List.size_toArray];exact r.length.symm
 refine⟨"tuple",_,PyProof.Rows.slot_tuple_getitem.lookup,ht.typeIs,?_⟩
 refine HT.getItem_tuple_cut ht hs pl pu (by rw[hlen];exact hw) ?_ (by rw[hlen];exact hz)
 rw[hlen]
 refine⟨.ref s.heap.objs.size,_,I.laid (t':=s.toks) (o:=.tup (yA xs lo hi)) (fun b ob q=>Heap.get?_push_of_some _ q) (Nat.le_refl _) ?_,rfl,q _ (I.hok.fresh (Nat.le_refl _))⟩
 exact⟨Nat.le_trans (nF xs lo hi) hz,_,(r.drop (HT.sIx xs.length 0 lo)).take (HT.sIx xs.length xs.length hi-HT.sIx xs.length 0 lo),IsTup.new _ _⟩
def Kx(K:PySem.W.Frag):R2:=fun x y H Q=>∃a b xs ys,x=.ref a/\y=.ref b/\SqT K H a xs/\SqT K H b ys/\xs≠[]/\xs.length+ys.length<=sizeLine/\
 (ys=[]->Q (.ref a) H)/\(ys≠[]->∀p,H p=none->Q (.ref p) (upd H p (.tup (xs++ys))))
theorem cI.nil_iff{xs:List V}{us:List Value}(r:cI xs us):us=[]↔xs=[]:=by
 cases r with
 |nil=>simp
 |cons _ _=>simp
theorem DZ:OpR X (binaryOp .Add) (Kx X.K):=by
 intro pins s σ H x y v u Q I rx ry h
 obtain⟨a,b,xs,ys,rfl,rfl,ha,hb,hx,hz,q1,q2⟩:=h
 cases rx
 cases ry
 obtain⟨its,r1,p1,_⟩:=I.tuple ha
 obtain⟨its2,r2,p2,_⟩:=I.tuple hb
 refine HT.cat_tup p1 p2 (fun z=>hx (r1.nil_iff.mp z)) (fun z=>⟨.ref a,H,I,rfl,q1 (r2.nil_iff.mp z)⟩) (fun z=>?_) (by rw[<-r1.length,<-r2.length];exact hz)
 refine⟨.ref s.heap.objs.size,_,I.laid (t':=s.toks) (o:=.tup (xs++ys)) (fun b ob q=>Heap.get?_push_of_some _ q) (Nat.le_refl _) ?_,rfl,q2 (fun w=>z (r2.nil_iff.mpr w)) _ (I.hok.fresh (Nat.le_refl _))⟩
 exact⟨by rw[List.length_append];exact hz,_,r1.append r2,IsTup.new _ _⟩
end
def ixN(n:Nat)(i:Int):Option Nat:=if 0<=i then(if i<n then some i.toNat else none)else if -(n:Int)<=i then some (i+n).toNat else none
def atI{α:Type}(xs:List α)(i:Int):Option α:=(ixN xs.length i).bind fun j=>xs[j]?
theorem xS{n:Nat}{i:Int}{j:Nat}(h:ixN n i=some j):seqIndex? i n=some j/\j<n/\-(n:Int)<=i/\i<n:=by
 unfold ixN at h
 by_cases h0:0<=i
 ·rw[if_pos h0]at h
  by_cases h1:i<n
  ·rw[if_pos h1]at h
   have e:i.toNat=j:=Option.some.inj h
   exact⟨by rw[seqIndex_of h0 h1,e],by omega,by omega,h1⟩
  ·rw[if_neg h1]at h;cases h
 ·rw[if_neg h0]at h
  by_cases h1:-(n:Int)<=i
  ·rw[if_pos h1]at h
   have e:(i+n).toNat=j:=Option.some.inj h
   exact⟨by rw[seqIndex_neg (by omega) h1,e],by omega,h1,by omega⟩
  ·rw[if_neg h1]at h;cases h
theorem yV{α:Type}{xs:List α}{i:Int}{v:α}(h:atI xs i=some v):∃j,seqIndex? i xs.length=some j/\xs[j]?=some v/\j<xs.length/\-(xs.length:Int)<=i/\i<xs.length:=by
 unfold atI at h
 cases e:ixN xs.length i with
 |none=>rw[e]at h;cases h
 |some j=>
  rw[e]at h
  obtain⟨h1,h2,h3,h4⟩:=xS e
  exact⟨j,h1,h,h2,h3,h4⟩
theorem nN{α:Type}{xs:List α}{j:Nat}{v:α}(h:xs[j]?=some v):atI xs (j:Int)=some v:=by
 have hj:j<xs.length:=(List.getElem?_eq_some_iff.mp h).1
 have e:ixN xs.length (j:Int)=some j:=by
  unfold ixN
  rw[if_pos (by omega),if_pos (by omega)];simp
 unfold atI;rw[e];exact h
def tX(b:Expr):Prop:=∀o i,subscripted b false o i=operate [o,i] (getItem o i)
def IxR(X:Cx)(r:R2):Prop:=
 ∀(value slice:Expr) (pins:List (Addr×Obj)) (s:Shared) (σ:St) (H:Hp) (x y:V) (v u:Value) (Q:VK),Inv X pins σ H s->dB x v->dB y u->r x y H Q->
  subscripted slice false v u=operate [v,u] (getItem v u)->wpAny (model X.prog X.w) X.A (subscriptTail value slice v u) (EP X pins σ Q) X.xe s
def MtR(X:Cx)(id:String)(r:V->List V->Hp->VK->Prop):Prop:=
 ∀(pins:List (Addr×Obj)) (s:Shared) (σ:St) (H:Hp) (x:V) (xs:List V) (v:Value) (us:List Value) (Q:VK),Inv X pins σ H s->dB x v->cI xs us->r x xs H Q->
  wpAny (model X.prog X.w) X.A (call (.builtin id) (v::us)) (EP X pins σ Q) X.xe s
section
variable{X:Cx}{a b:Expr}{ta tb:TE}{pos:Pos}
theorem IxR.or{r r':R2}(h:IxR X r)(h':IxR X r'):IxR X (fun x y H Q=>r x y H Q\/r' x y H Q):=by
 intro value slice pins s σ H x y v u Q I rx ry q hs
 rcases q with q|q
 ·exact h value slice pins s σ H x y v u Q I rx ry q hs
 ·exact h' value slice pins s σ H x y v u Q I rx ry q hs
theorem KH{r:R2}(hr:IxR X r)(ha:PE X a ta)(hb:PE X b tb)(hs:tX b):PE X (.Subscript a b pos) (tOp r ta tb):=by
 intro pins s σ H Q I h
 exact Subscript_ (LO ha hb I h fun v u s2 x y H2 I2 rx ry q=>hr a b pins s2 σ H2 x y v u Q I2 rx ry q (hs _ _))
def M3(K:PySem.W.Frag):R2:=fun x y H Q=>∃p xs i v,x=.ref p/\y=.int i/\SqL K H p xs/\atI xs i=some v/\Q v H
def M0(K:PySem.W.Frag):R2:=fun x y H Q=>∃p xs i v,x=.ref p/\y=.int i/\SqT K H p xs/\atI xs i=some v/\Q v H
theorem Ed:IxR X (M3 X.K):=by
 intro value slice pins s σ H x y v u Q I rx ry h hs
 obtain⟨p,xs,i,z,rfl,rfl,hq,he,q⟩:=h
 cases rx
 obtain⟨t,rfl⟩:=ry
 obtain⟨its,r,pl,hz⟩:=I.list hq
 obtain⟨j,h1,h2,h3,h4,h5⟩:=yV he
 obtain⟨w,ew,rw'⟩:=r.get h2
 have hl:=r.length
 have hn:=uH
 have fin:EP X pins σ Q w s:=⟨z,H,I,rw',q⟩
 by_cases h0:0<=i
 ·have hj:i.toNat=j:=by
   rw[seqIndex_of h0 h5]at h1
   exact Option.some.inj h1
  exact item_listR pl.isList h0 (by omega) (by rw[hj];simpa using ew) fin hs
 ·have hj:(i+(its.toArray.size:Int)).toNat=j:=by
   rw[seqIndex_neg (by omega) h4]at h1
   rw[List.size_toArray,<-hl]
   exact Option.some.inj h1
  exact subscriptTail_builtinR (x:=w) pl.isList.typeIs slot_list_getitem.lookup
   (wpAny_getItem_list_neg (Q:=fun r s'=>r=w/\EP X pins σ Q r s') pl.isList (by omega) (by rw[List.size_toArray]<;>omega) (by omega) (by rw[hj];simpa using ew) ⟨rfl,fin⟩) hs
theorem HU:IxR X (M0 X.K):=by
 intro value slice pins s σ H x y v u Q I rx ry h hs
 obtain⟨p,xs,i,z,rfl,rfl,hq,he,q⟩:=h
 cases rx
 obtain⟨t,rfl⟩:=ry
 obtain⟨its,r,pl,hz⟩:=I.tuple hq
 obtain⟨j,h1,h2,h3,h4,h5⟩:=yV he
 obtain⟨w,ew,rw'⟩:=r.get h2
 have hl:=r.length
 have hn:=uH
 have fin:EP X pins σ Q w s:=⟨z,H,I,rw',q⟩
 exact subscriptTail_builtinR (x:=w) pl.typeIs slot_tuple_getitem.lookup
  (getItem_tuple (j:=j) (Q:=fun r s'=>r=w/\EP X pins σ Q r s') pl (by omega) (by omega) (by rw[List.size_toArray,<-hl];exact h1) (by simpa using ew) ⟨rfl,fin⟩) hs
theorem vA(its:List Value)(n j:Nat)(u:Value):Obj.mapSeq (·.setIfInBounds j u) { cls:=.type "list",data:=.seq its.toArray n }={ cls:=.type "list",data:=.seq (its.set j u).toArray n }:=by
 simp[Obj.mapSeq]
theorem Inv.lst{pins:List (Addr×Obj)}{σ:St}{H:Hp}{s:Shared}{p:Addr}{xs:List V}(I:Inv X pins σ H s)(h:H p=some (.lst xs)) :
  ∃(its:List Value) (n:Nat),cI xs its/\s.heap.get? p=some { cls:=.type "list",data:=.seq its.toArray n }/\xs.length<=sizeLine:=by
 obtain⟨z,its,n,r,e⟩:=I.hok p _ h
 exact⟨its,n,r,e,z⟩
theorem Inv.lstUpd{pins:List (Addr×Obj)}{σ:St}{H:Hp}{s:Shared}{p:Addr}{xs ys:List V}{its its':List Value}{n n':Nat}{f:Obj->Obj}(I:Inv X pins σ H s)(h:H p=some (.lst xs))
  (ho:s.heap.get? p=some { cls:=.type "list",data:=.seq its.toArray n }) (hf:f { cls:=.type "list",data:=.seq its.toArray n }={ cls:=.type "list",data:=.seq its'.toArray n' }) (r:cI ys its') (hz:ys.length<=sizeLine) (t:Nat) :
  Inv X pins σ (upd H p (.lst ys)) { s with heap:=s.heap.update p f,toks:=t }:=by
 have e:(s.heap.update p f).get? p=some { cls:=.type "list",data:=.seq its'.toArray n' }:=by
  rw[Heap.get?_update_self f ho (by rw[hf]<;>rfl),hf]
 refine I.write (x:=p) (e:=p) (by rw[h];trivial) (.inl rfl) (fun b u hb q=>(Heap.get?_update_other _ _ (Ne.symm hb)).trans q) ⟨_,e⟩ ?_
 exact⟨hz,its',n',r,e⟩
def Ku:V->V->V->Hp->(Hp->Prop)->Prop:=fun o i v H Q=>∃p xs k j,o=.ref p/\i=.int k/\H p=some (.lst xs)/\ixN xs.length k=some j/\Q (upd H p (.lst (xs.set j v)))
theorem zM:LU X Ku:=by
 intro pins s σ H o i v ov iv u Q I ro ri rv h
 obtain⟨p,xs,k,j,rfl,rfl,hp,hj,q⟩:=h
 cases ro
 obtain⟨t,rfl⟩:=ri
 obtain⟨its,n,r,ho,hz⟩:=I.lst hp
 obtain⟨h1,h2,h3,h4⟩:=xS hj
 have hl:=r.length
 have hn:=uH
 have I':Inv X pins σ (upd H p (.lst (xs.set j v))) { s with heap:=s.heap.update p (Obj.mapSeq (·.setIfInBounds j u)) }:=
  I.lstUpd hp ho (vA its n j u) (r.set rv j) (by rw[List.length_set];exact hz) s.toks
 by_cases h0:0<=k
 ·have hk:k.toNat=j:=by
   rw[seqIndex_of h0 h4]at h1
   exact Option.some.inj h1
  exact PySem.W.ki_setAt ho h0 (by omega) (by rw[List.size_toArray,<-hl];exact h4) (by rw[hk];exact⟨_,I',q⟩)
 ·have hk:(k+(its.toArray.size:Int)).toNat=j:=by
   rw[seqIndex_neg (by omega) h3]at h1
   rw[List.size_toArray,<-hl]
   exact Option.some.inj h1
  exact PySem.W.ki_setBack ho (by omega) (by rw[List.size_toArray,<-hl];exact h3) (by omega) (by rw[hk];exact⟨_,I',q⟩)
theorem qH(lo hi:Option Int)(n:Nat):(sliceBounds lo hi none n).1=((HT.sIx n 0 lo:Nat):Int)/\(sliceBounds lo hi none n).2.1=((HT.sIx n n hi:Nat):Int)/\(sliceBounds lo hi none n).2.2=1:=by
 refine⟨?_,?_,rfl⟩
 ·cases lo with
  |none=>simp[sliceBounds,HT.sIx]
  |some i=>
   simp only[sliceBounds,HT.sIx,Option.getD_none,show(1:Int)>0 by decide,if_true]
   by_cases h:i<0
   ·simp only[h,if_true]<;>omega
   ·simp only[h,if_false]<;>omega
 ·cases hi with
  |none=>simp[sliceBounds,HT.sIx]
  |some i=>
   simp only[sliceBounds,HT.sIx,Option.getD_none,show(1:Int)>0 by decide,if_true]
   by_cases h:i<0
   ·simp only[h,if_true]<;>omega
   ·simp only[h,if_false]<;>omega
theorem pB(its:List Value)(lo hi:Option Int):slicePick its.toArray lo hi none=((its.drop (HT.sIx its.length 0 lo)).take (HT.sIx its.length its.length hi-HT.sIx its.length 0 lo)).toArray:=by
 obtain⟨h1,h2,h3⟩:=qH lo hi its.toArray.size
 unfold slicePick
 rw[h1,h2,h3]
 simp only[sliceRange_one,pick_run,List.size_toArray]<;>rfl
def MZ(K:PySem.W.Frag):V->Option Int->Option Int->Hp->VK->Prop:=fun x lo hi H Q=>∃a xs,x=.ref a/\SqL K H a xs/\∀p,H p=none->Q (.ref p) (upd H p (.lst (yA xs lo hi)))
theorem wR:SlR X (MZ X.K):=by
 intro pins s σ H x v vl vu lo hi sl Q I rx hs pl pu h
 obtain⟨a,xs,rfl,hx,q⟩:=h
 cases rx
 obtain⟨its,r,ht,hz⟩:=I.list hx
 have hlen:=r.length
 refine⟨"list",_,slot_list_getitem.lookup,ht.isList.typeIs,?_⟩
 refine wpAny_getItem_list_slice ht.isList hs pl pu .none (by simp) ?_ (by rw[List.size_toArray]<;>omega)
 rw[pB,<-hlen]
 refine⟨.ref s.heap.objs.size,_,I.laid (t':=s.toks) (o:=.lst (yA xs lo hi)) (fun b ob q=>Heap.get?_push_of_some _ q) (Nat.le_refl _) ?_,rfl,q _ (I.hok.fresh (Nat.le_refl _))⟩
 exact⟨Nat.le_trans (nF xs lo hi) hz,_,0,(r.drop (HT.sIx xs.length 0 lo)).take (HT.sIx xs.length xs.length hi-HT.sIx xs.length 0 lo),Heap.get?_push_size _ rfl⟩
def oh:V->Bool
 |.non=>true
 |.bl _=>true
 |.int _=>true
 |.str _=>true
 |_=>false
def eqV:V->V->Bool
 |.non,.non=>true
 |.bl a,.bl b=>a == b
 |.bl a,.int b=>(if a then 1 else 0) == b
 |.int a,.bl b=>a == (if b then 1 else 0)
 |.int a,.int b=>a == b
 |.str a,.str b=>a == b
 |_,_=>false
theorem Iq{A:Around}{s:Shared}{y x:V}{u v:Value}(ry:dB y u)(rx:dB x v)(fy:oh y=true)(fx:oh x=true):SeqAt.EqAt A s u v (eqV y x):=by
 cases y with
 |non=>
  cases ry
  cases x with
  |non=>cases rx;exact SeqAt.EqAt.same _
  |bl b=>cases rx;exact SeqAt.EqAt.none_bool b
  |int b=>obtain⟨t,rfl⟩:=rx;exact SeqAt.EqAt.none_int b t
  |str b=>obtain⟨t,rfl⟩:=rx;exact SeqAt.EqAt.none_str b t
  |_=>exact absurd (show false=true from fx) Bool.false_ne_true
 |bl a=>
  cases ry
  cases x with
  |non=>cases rx;exact SeqAt.EqAt.bool_none a
  |bl b=>cases rx;exact SeqAt.EqAt.bool_bool a b
  |int b=>obtain⟨t,rfl⟩:=rx;exact SeqAt.EqAt.bool_int a b t
  |str b=>obtain⟨t,rfl⟩:=rx;exact SeqAt.EqAt.bool_str a b t
  |_=>exact absurd (show false=true from fx) Bool.false_ne_true
 |int a=>
  obtain⟨t',rfl⟩:=ry
  cases x with
  |non=>cases rx;exact SeqAt.EqAt.int_none a t'
  |bl b=>cases rx;exact SeqAt.EqAt.int_bool a t' b
  |int b=>obtain⟨t,rfl⟩:=rx;exact SeqAt.EqAt.int_int a t' b t
  |str b=>obtain⟨t,rfl⟩:=rx;exact SeqAt.EqAt.int_str a t' b t
  |_=>exact absurd (show false=true from fx) Bool.false_ne_true
 |str a=>
  obtain⟨t',rfl⟩:=ry
  cases x with
  |non=>cases rx;exact SeqAt.EqAt.str_none a t'
  |bl b=>cases rx;exact SeqAt.EqAt.str_bool a t' b
  |int b=>obtain⟨t,rfl⟩:=rx;exact SeqAt.EqAt.str_int a t' b t
  |str b=>obtain⟨t,rfl⟩:=rx;exact SeqAt.EqAt.str_str a t' b t
  |_=>exact absurd (show false=true from fx) Bool.false_ne_true
 |_=>exact absurd (show false=true from fy) Bool.false_ne_true
def eqU(x:V)(u:Value):Bool:=match u with
 |.none=>eqV .non x
 |.bool b=>eqV (.bl b) x
 |.int i _=>eqV (.int i) x
 |.str z _=>eqV (.str z) x
 |_=>false
theorem BK{x y:V}{u:Value}(r:dB y u)(f:oh y=true):eqU x u=eqV y x:=by
 cases y with
 |non=>cases r;rfl
 |bl b=>cases r;rfl
 |int i=>obtain⟨t,rfl⟩:=r;rfl
 |str z=>obtain⟨t,rfl⟩:=r;rfl
 |_=>exact absurd (show false=true from f) Bool.false_ne_true
theorem nO{x:V}:∀{xs:List V} {us:List Value},cI xs us->xs.all oh=true->us.any (eqU x)=xs.any fun y=>eqV y x
 |_,_,.nil,_=>rfl
 |y::xs,u::us,.cons r t,f=>by
  rw[List.all_cons,Bool.and_eq_true]at f
  rw[List.any_cons,List.any_cons,BK r f.1,nO t f.2]
theorem kf{A:Around}{s:Shared}{x:V}{v:Value}(rx:dB x v)(fx:oh x=true):∀{xs:List V} {us:List Value},cI xs us->xs.all oh=true->∀u∈us,SeqAt.EqAt A s u v (eqU x u)
 |_,_,.nil,_=>fun u hu=>by cases hu
 |y::xs,u::us,.cons r t,f=>fun u' hu=>by
  rw[List.all_cons,Bool.and_eq_true]at f
  rcases List.mem_cons.mp hu with rfl|hu
  ·rw[BK r f.1];exact Iq r rx f.1 fx
  ·exact kf rx fx t f.2 u' hu
def inV(x:V)(xs:List V):Bool:=xs.any fun y=>eqV y x
def rIn(K:PySem.W.Frag)(neg:Bool):R2:=fun x y H Q=>∃p xs,y=.ref p/\(SqL K H p xs\/SqT K H p xs)/\oh x=true/\xs.all oh=true/\Q (.bl (if neg then !inV x xs else inV x xs)) H
theorem xo:OpR X (compareOp .In) (rIn X.K false):=by
 intro pins s σ H x y v u Q I rx ry h
 obtain⟨p,xs,rfl,hq,fx,fs,q⟩:=h
 cases ry
 rcases hq with hq|hq
 ·obtain⟨its,r,pl,hz⟩:=I.list hq
  refine SeqAt.in_listAt (eqU x) pl.isList (fun w hw=>kf rx fx r fs w (by simpa using hw)) ⟨.bl _,H,I,rfl,?_⟩
  rw[show its.toArray.any (eqU x)=its.any (eqU x)by simp,nO r fs]
  exact q
 ·obtain⟨its,r,pl,hz⟩:=I.tuple hq
  refine SeqAt.in_tupleAt (eqU x) pl (fun w hw=>kf rx fx r fs w (by simpa using hw)) ⟨.bl _,H,I,rfl,?_⟩
  rw[show its.toArray.any (eqU x)=its.any (eqU x)by simp,nO r fs]
  exact q
theorem qP:OpR X (compareOp .NotIn) (rIn X.K true):=by
 intro pins s σ H x y v u Q I rx ry h
 obtain⟨p,xs,rfl,hq,fx,fs,q⟩:=h
 cases ry
 rcases hq with hq|hq
 ·obtain⟨its,r,pl,hz⟩:=I.list hq
  refine SeqAt.notIn_listAt (eqU x) pl.isList (fun w hw=>kf rx fx r fs w (by simpa using hw)) ⟨.bl _,H,I,rfl,?_⟩
  rw[show its.toArray.any (eqU x)=its.any (eqU x)by simp,nO r fs]
  exact q
 ·obtain⟨its,r,pl,hz⟩:=I.tuple hq
  refine SeqAt.notIn_tupleAt (eqU x) pl (fun w hw=>kf rx fx r fs w (by simpa using hw)) ⟨.bl _,H,I,rfl,?_⟩
  rw[show its.toArray.any (eqU x)=its.any (eqU x)by simp,nO r fs]
  exact q
theorem rM:fT X (.builtin "len") (fun xs H Q=>∃p ys,xs=[.ref p]/\(SqL X.K H p ys\/SqT X.K H p ys)/\Q (.int ys.length) H):=by
 intro pins s σ H xs us Q I r h
 obtain⟨p,ys,rfl,hq,q⟩:=h
 obtain⟨u,rfl,rx⟩:=mF r
 cases rx
 have hn:=uH
 rcases hq with hq|hq
 ·obtain⟨its,r',pl,hz⟩:=I.list hq
  have hlen:=r'.length
  exact Calls.call_len_list pl.isList (by simp only[List.size_toArray]<;>omega) ⟨.int ys.length,H,I.tok _,⟨s.toks+1,by rw[List.size_toArray,hlen]⟩,q⟩
 ·obtain⟨its,r',pl,hz⟩:=I.tuple hq
  have hlen:=r'.length
  exact len_tuple pl (by simp only[List.size_toArray]<;>omega) ⟨.int ys.length,H,I.tok _,⟨s.toks+1,by rw[List.size_toArray,hlen]⟩,q⟩
theorem fT.or{f:Value}{r r':List V->Hp->VK->Prop}(h:fT X f r)(h':fT X f r'):fT X f (fun xs H Q=>r xs H Q\/r' xs H Q):=by
 intro pins s σ H xs us Q I rs q
 rcases q with q|q
 ·exact h pins s σ H xs us Q I rs q
 ·exact h' pins s σ H xs us Q I rs q
theorem dg:fT X (.type "list") (fun xs H Q=>∃p ys,xs=[.ref p]/\(SqL X.K H p ys\/SqT X.K H p ys)/\∀l,H l=none->Q (.ref l) (upd H l (.lst ys))):=by
 intro pins s σ H xs us Q I r h
 obtain⟨p,ys,rfl,hq,q⟩:=h
 obtain⟨u,rfl,rx⟩:=mF r
 cases rx
 have fin:∀(its:List Value),cI ys its->ys.length<=sizeLine->∀(h':Heap) (c':Nat),(∀b o',s.heap.get? b=some o'->h'.get? b=some o')->
   h'.get? s.heap.objs.size=some { cls:=.type "list",dict:=none,data:=.seq its.toArray c',slots:=#[] }->EP X pins σ Q (.ref s.heap.objs.size) { s with heap:=h' }:=fun its r' hz h' c' kp e=>
  ⟨.ref s.heap.objs.size,_,I.laid (t':=s.toks) kp (Nat.le_refl _) (show cM X.prog X.w _ h' _ (.lst ys)from⟨hz,its,c',r',e⟩),rfl,q _ (I.hok.fresh (Nat.le_refl _))⟩
 rcases hq with hq|hq
 ·obtain⟨its,r',pl,hz⟩:=I.list hq
  have hlen:=r'.length
  obtain⟨o,ho,hc,n,hd⟩:=pl.isList
  exact call_list_seq p (.inl rfl) ho hc hd (fun h' c' kp e=>fin its r' hz h' c' kp e) (by simp only[List.size_toArray]<;>omega)
 ·obtain⟨its,r',pl,hz⟩:=I.tuple hq
  have hlen:=r'.length
  obtain⟨o,ho,hc,n,hd⟩:=pl
  exact call_list_seq p (.inr rfl) ho hc hd (fun h' c' kp e=>fin its r' hz h' c' kp e) (by simp only[List.size_toArray]<;>omega)
theorem cR:fT X (.type "tuple") (fun xs H Q=>∃p ys,xs=[.ref p]/\((SqL X.K H p ys/\∀l,H l=none->Q (.ref l) (upd H l (.tup ys)))\/(SqT X.K H p ys/\Q (.ref p) H))):=by
 intro pins s σ H xs us Q I r h
 obtain⟨p,ys,rfl,h⟩:=h
 obtain⟨u,rfl,rx⟩:=mF r
 cases rx
 rcases h with⟨hq,q⟩|⟨hq,q⟩
 ·obtain⟨its,r',pl,hz⟩:=I.list hq
  have hlen:=r'.length
  refine call_tuple_list pl.isList (fun h' kp=>?_) (by simp only[List.size_toArray]<;>omega)
  have I1:Inv X pins σ H { s with heap:=h' }:=I.kept (t':=s.toks) kp
  have I2:Inv X pins σ (upd H h'.objs.size (.tup ys)) { s with heap:=h'.push { cls:=.type "tuple",data:=.seq its.toArray } }:=
   I1.laid (t':=s.toks) (fun b o e=>Heap.get?_push_of_some _ e) (Nat.le_refl _) (show cM X.prog X.w _ _ _ (.tup ys)from⟨hz,its,r',IsTup.new _ _⟩)
  exact⟨.ref h'.objs.size,_,I2,rfl,q _ (I1.hok.fresh (Nat.le_refl _))⟩
 ·obtain⟨its,r',pl,hz⟩:=I.tuple hq
  exact call_tuple_same pl ⟨.ref p,H,I,rfl,q⟩
def tyV(K:PySem.W.Frag)(T:String)(x:V)(H:Hp):Prop:=match x with
 |.str _=>T="str"
 |.int _=>T="int"
 | .ref p=>(T="list"/\∃xs,SqL K H p xs)\/(T="tuple"/\∃o,K.lookup p=some o/\o.cls=.type "tuple"/\o.dict=none)\/
   (T="dict"/\((∃kvs,H p=some (.dK kvs))\/∃kvs,H p=some (.dT kvs)))\/(T="set"/\∃S n,H p=some (.set S n))
 |_=>False
theorem F2{pins:List (Addr×Obj)}{σ:St}{H:Hp}{s:Shared}{T:String}{x:V}{v:Value}(I:Inv X pins σ H s)(r:dB x v)(ty:tyV X.K T x H) :
  s.TypeIs v T/\∀a,v=.ref a->∃ob,s.heap.get? a=some ob/\ob.dict=none:=by
 cases x with
 |str z=>
  obtain⟨t,rfl⟩:=r
  cases (show T="str" from ty)
  exact⟨typeIs_str s z t,fun _ e=>nomatch e⟩
 |int i=>
  obtain⟨t,rfl⟩:=r
  cases (show T="int" from ty)
  exact⟨typeIs_int s i t,fun _ e=>nomatch e⟩
 |ref p=>
  cases r
  rcases ty with⟨rfl,xs,hq⟩|⟨rfl,o,hk,hc,hd⟩|⟨rfl,hk⟩|⟨rfl,S,n,hk⟩
  ·obtain⟨its,_,pl,_⟩:=I.list hq
   refine⟨pl.isList.typeIs,fun a e=>?_⟩
   cases e
   obtain⟨o,n,e,c,hd,_⟩:=pl
   exact⟨o,e,hd⟩
  ·refine⟨⟨o,I.kIn p o hk,hc⟩,fun a e=>?_⟩
   cases e
   exact⟨o,I.kIn _ o hk,hd⟩
  ·have z:∃o,s.heap.get? p=some o/\o.ExactDict:=by
    rcases hk with⟨kvs,hk⟩|⟨kvs,hk⟩
    ·obtain⟨_,_,_,_,o,_,_,e,ex,_⟩:=I.hok p _ hk
     exact⟨o,e,ex⟩
    ·obtain⟨_,_,_,_,o,_,_,e,ex,_⟩:=I.hok p _ hk
     exact⟨o,e,ex⟩
   obtain⟨o,e,ex⟩:=z
   refine⟨⟨o,e,ex.1⟩,fun a e2=>?_⟩
   cases e2
   exact⟨o,e,ex.2.1⟩
  ·obtain⟨o,_,_,_,e,ex,_⟩:=I.hok p _ hk
   refine⟨⟨o,e,ex.1⟩,fun a e2=>?_⟩
   cases e2
   exact⟨o,e,ex.2.1⟩
 |_=>exact False.elim ty
def tBM(K:PySem.W.Frag)(T:String)(r:V->List V->Hp->VK->Prop)(to:TE)(t:TA):TE:=fun σ H Q=>to σ H fun x H1=>tyV K T x H1/\t σ H1 fun xs H2=>r x xs H2 Q
variable{o e:Expr}{es:List Expr}{to:TE}{t:TA}{name:Str}{apos cpos:Pos}{T id:String}{r:V->List V->Hp->VK->Prop}
theorem KI(pa:PlainAttrs T)(slot:Slot T name id)(hty:typeOf (.builtin id)=pure (.type "method_descriptor"))(hm:MtR X id r)(ho:PE X o to)(ha:PA X (e::es) t)
  (hbase:attributeBase o name X.env (eval o X.env)=eval o X.env:=by rfl)
  (hfew:((backTo cpos (starEach (e::es) X.env)).all (fun x=>!x.1)&&(backToKw cpos (keywordEach [] X.env)).all (fun x=>x.1.isSome)
   && decide ((e::es).length+([]:List Keyword).length+(if ([]:List Keyword).isEmpty then 0 else 1)<30))=true:=by rfl)
  (hline:(apos.endLine == cpos.line)=true:=by rfl) (hs:starEach (e::es) X.env=(false,eval e X.env)::starEach es X.env:=by rfl) (hplain:(backTo cpos (starEach es X.env)).any (·.1)=false:=by rfl) :
  PE X (.Call (.Attribute o name apos) (e::es) [] cpos) (tBM X.K T r to t):=by
 intro pins s σ H Q I h
 refine wpAny_Call_method_late hbase hfew hline rfl (thn (ho pins s σ H _ I h) fun v s1 hz=>?_)
 obtain⟨x,H1,I1,r1,ty,q1⟩:=hz
 obtain⟨h1,h2⟩:=F2 I1 r1 ty
 refine⟨T,id,pa,slot,hty,h1,h2,?_⟩
 have hA:=ha cpos pins s1 σ H1 _ I1 q1
 rw[hs]at hA ⊢
 refine Calls.callWith_builtin (by show(false||(backTo cpos (starEach es X.env)).any (·.1))=false;rw[hplain]<;>rfl) (Calls.evalArgs_plain ?_)
 exact thn hA fun us s2 ⟨vs,H2,I2,r2,q2⟩=>hm pins s2 σ H2 x vs v us Q I2 r1 r2 q2
end
def MtM(X:Cx)(id:String)(r:V->List V->Hp->VK->Prop):Prop:=
 ∀(pins:List (Addr×Obj)) (s:Shared) (σ:St) (H:Hp) (x:V) (xs:List V) (v:Value) (us:List Value) (Q:VK),Inv X pins σ H s->dB x v->cI xs us->r x xs H Q->
  wpAny (model X.prog X.w) X.A (call (.builtin id) (v::us)) (EP X pins σ Q) X.xe s
theorem cI.one:∀{x:V} {us:List Value},cI [x] us->∃u,us=[u]/\dB x u
 |_,_,.cons r .nil=>⟨_,rfl,r⟩
theorem cI.eraseIdx:∀{xs:List V} {us:List Value} (i:Nat),cI xs us->cI (xs.eraseIdx i) (us.eraseIdx i)
 |_,_,_,.nil=>.nil
 |_,_,0,.cons _ t=>t
 |_,_,i+1,.cons r t=>.cons r (cI.eraseIdx i t)
theorem cI.rep{xs:List V}{us:List Value}(h:cI xs us):∀k:Nat,cI (List.replicate k xs).flatten (List.replicate k us).flatten
 |0=>.nil
 |k+1=>by
  rw[List.replicate_succ,List.replicate_succ,List.flatten_cons,List.flatten_cons]
  exact cI.append h (cI.rep h k)
theorem qU{α:Type}:∀(l:List α) (i:Nat),(l.eraseIdx i).length<=l.length
 |[],_=>Nat.le_refl _
 |_::_,0=>Nat.le_succ _
 |_::r,i+1=>Nat.succ_le_succ (qU r i)
theorem nB(its:List Value):∀(k:Nat) (acc:List Value),
  List.foldl (fun x1 x2=>x1++x2) acc.toArray (List.replicate k its.toArray)=(acc++(List.replicate k its).flatten).toArray
 |0,acc=>by simp
 |k+1,acc=>by
  have e:acc.toArray++its.toArray=(acc++its).toArray:=by simp
  have e2:(acc++its)++(List.replicate k its).flatten=acc++(List.replicate (k+1) its).flatten:=by
   rw[List.replicate_succ,List.flatten_cons,List.append_assoc]
  rw[<-e2,<-nB its k (acc++its),<-e,List.replicate_succ,List.foldl_cons]
section
variable{X:Cx}{pins:List (Addr×Obj)}{σ:St}{H:Hp}{s:Shared}{l b:Addr}{xs ys zs:List V}
theorem Inv.lset{its its':List Value}{n:Nat}{f:Array Value->Array Value}{t':Nat}(I:Inv X pins σ H s)(hH:H l=some (.lst xs))
  (e:s.heap.get? l=some { cls:=.type "list",data:=.seq its.toArray n }) (hf:f its.toArray=its'.toArray) (hv:cI ys its') (hz:ys.length<=sizeLine) :
  Inv X pins σ (upd H l (.lst ys)) { s with heap:=s.heap.update l (Obj.mapSeq f),toks:=t' }:=by
 have q:=PySem.IsL.update e f
 rw[hf]at q
 refine I.write (x:=l) (e:=l) (by rw[hH];exact trivial) (.inl rfl) (fun b' u hb hu=>(Heap.get?_update_other s.heap (Obj.mapSeq f) (Ne.symm hb)).trans hu) ⟨_,q⟩ ?_
 exact⟨hz,its',_,hv,q⟩
theorem Inv.lnew{its:List Value}{t':Nat}(I:Inv X pins σ H s)(hv:cI ys its)(hz:ys.length<=sizeLine) :
  Inv X pins σ (upd H s.heap.objs.size (.lst ys)) { s with heap:=s.heap.push { cls:=.type "list",data:=.seq its.toArray },toks:=t' }:=
 I.laid (fun _ _ q=>Heap.get?_push_of_some _ q) (Nat.le_refl _) ⟨hz,its,0,hv,Heap.get?_push_size _ rfl⟩
theorem Inv.fresh(I:Inv X pins σ H s):H s.heap.objs.size=none:=I.hok.fresh (Nat.le_refl _)
theorem Inv.lstM(I:Inv X pins σ H s)(hH:H l=some (.lst xs)):xs.length<=sizeLine/\∃(its:List Value) (n:Nat),cI xs its/\xs.length=its.length/\s.heap.get? l=some { cls:=.type "list",data:=.seq its.toArray n }:=by
 obtain⟨z,its,n,r,e⟩:=I.hok l _ hH
 exact⟨z,its,n,r,r.length,e⟩
theorem Am{n:Nat}(h:n<=sizeLine):Builtin.List.listTooLong n=false:=by
 unfold Builtin.List.listTooLong
 exact decide_eq_false (by omega)
end
section
variable{X:Cx}
def w4:V->List V->Hp->VK->Prop:=fun x vs H Q=>∃l xs y,x=.ref l/\vs=[y]/\H l=some (.lst xs)/\xs.length<sizeLine/\Q .non (upd H l (.lst (xs++[y])))
theorem nj:MtM X "list.append" w4:=by
 intro pins s σ H x vs v us Q I rx rv h
 obtain⟨l,xs,y,rfl,rfl,hH,hz,q⟩:=h
 cases rx
 obtain⟨u,rfl,ru⟩:=rv.one
 obtain⟨z,its,n,r,hl,e⟩:=I.lstM hH
 refine call_meets F.slot_list_append ⟨_,e,rfl⟩ F.entry_list_append (F.args_list_append_2 _ _) (PySem.list_append l its.toArray n u (by rw[List.size_toArray];omega)) ⟨e,?_⟩
 refine⟨.non,_,I.lset (its':=its++[u]) hH e (by simp) (r.append (.cons ru .nil)) ?_,rfl,q⟩
 rw[List.length_append,List.length_singleton]
 omega
def Bp:V->List V->Hp->VK->Prop:=fun x vs H Q=>∃l xs i k y,x=.ref l/\vs=[.int i]/\H l=some (.lst xs)/\-(2^63)<=i/\i<2^63/\seqIndex? i xs.length=some k/\xs[k]?=some y/\Q y (upd H l (.lst (xs.eraseIdx k)))
theorem Aq:MtM X "list.pop" Bp:=by
 intro pins s σ H x vs v us Q I rx rv h
 obtain⟨l,xs,i,k,y,rfl,rfl,hH,h1,h2,hk,hy,q⟩:=h
 cases rx
 obtain⟨u,rfl,ru⟩:=rv.one
 obtain⟨t,rfl⟩:=ru
 obtain⟨z,its,n,r,hl,e⟩:=I.lstM hH
 obtain⟨w,hw,rw'⟩:=r.get hy
 refine call_meets F.slot_list_pop ⟨_,e,rfl⟩ F.entry_list_pop (F.args_list_pop_2 _ _)
  (MeetsSeq.list_pop_at l its.toArray n i t k w (fitsIndex_both h1 h2) (by rw[List.size_toArray,<-hl];exact hk) (by rw[<-Array.getElem?_toList];exact hw) (by rw[List.size_toArray];omega)) ⟨e,?_⟩
 refine⟨y,_,I.lset (its':=its.eraseIdx k) hH e ?_ (r.eraseIdx k) ?_,rw',q⟩
 ·show its.toArray.eraseIdxIfInBounds k=(its.eraseIdx k).toArray
  rw[List.eraseIdxIfInBounds_toArray]
 ·have:=qU xs k
  omega
def IW:R2:=fun x y H Q=>∃l b xs zs,x=.ref l/\y=.ref b/\H l=some (.lst xs)/\H b=some (.lst zs)/\xs.length+zs.length<=sizeLine/\∀p,H p=none->Q (.ref p) (upd H p (.lst (xs++zs)))
theorem Hb:OpR X (binaryOp .Add) IW:=by
 intro pins s σ H x y v u Q I rx ry h
 obtain⟨l,b,xs,zs,rfl,rfl,hH,hB,hz,q⟩:=h
 cases rx
 cases ry
 obtain⟨z,its,n,r,hl,e⟩:=I.lstM hH
 obtain⟨z2,its2,n2,r2,hl2,e2⟩:=I.lstM hB
 refine PySem.P.add_list e e2 ?_ (by rw[List.size_toArray,List.size_toArray];omega)
 have ea:its.toArray++its2.toArray=(its++its2).toArray:=by simp
 rw[ea]
 exact⟨.ref _,_,I.lnew (t':=s.toks) (r.append r2) (by rw[List.length_append];omega),rfl,q _ I.fresh⟩
def Kv:R2:=fun x y H Q=>∃l k xs,x=.ref l/\y=.int k/\H l=some (.lst xs)/\-(2^63)<=k/\k<2^63/\xs.length*k.toNat<=sizeLine/\
 ∀p,H p=none->Q (.ref p) (upd H p (.lst (List.replicate k.toNat xs).flatten))
theorem sP{α:Type}(xs:List α)(k:Nat):(List.replicate k xs).flatten.length=k*xs.length:=by
 induction k with
 |zero=>simp
 |succ k ih=>rw[List.replicate_succ,List.flatten_cons,List.length_append,ih,Nat.succ_mul,Nat.add_comm]
theorem G9:OpR X (binaryOp .Mult) Kv:=by
 intro pins s σ H x y v u Q I rx ry h
 obtain⟨l,k,xs,rfl,rfl,hH,h1,h2,hz,q⟩:=h
 cases rx
 obtain⟨t,rfl⟩:=ry
 obtain⟨z,its,n,r,hl,e⟩:=I.lstM hH
 have hlen:its.toArray.size*k.toNat<=sizeLine:=by rw[List.size_toArray,<-hl];exact hz
 have hcap:¬its.toArray.size*k.toNat>(2^63-1) / 8:=by
  have:(sizeLine:Nat)<=(2^63-1) / 8:=by decide
  omega
 have hfit:¬(!Builtin.List.listFitsIndex k)=true:=by
  rw[fitsIndex_both h1 h2]
  exact Bool.false_ne_true
 have hlong:¬Builtin.List.listTooLong (its.toArray.size*k.toNat)=true:=by
  rw[Am hlen]
  exact Bool.false_ne_true
 have hnew:List.foldl (fun x1 x2=>x1++x2) #[] (List.replicate (if its.toArray.isEmpty=true then 0 else k.toNat) its.toArray)=(List.replicate k.toNat its).flatten.toArray:=by
  have f0:∀m:Nat,List.foldl (fun x1 x2=>x1++x2) #[] (List.replicate m its.toArray)=(List.replicate m its).flatten.toArray:=fun m=>by
   have:=nB its m []
   rw[List.nil_append]at this
   exact this
  rw[f0]
  cases its with
  |nil=>simp
  |cons a r'=>rw[if_neg (by simp)]
 refine wpAny_binaryOp_repeat_ref (T:="list") (U:="int") (by decide) ⟨_,e,rfl⟩ (fun s'=>typeIs_int s' k t) noFill_list_mul F.fills_int_mul F.slot_int_rmul repeat_list F.slot_int_index.lookup
  (call_meets F.slot_int_rmul (typeIs_int s k t) F.entry_int_rmul (F.args_int_rmul_2 _ _) (int___rmul___int_list k t l its.toArray n)
   ⟨e,rfl,⟨_,e,rfl⟩,call_meets F.slot_list_mul ⟨_,e,rfl⟩ F.entry_list_mul (F.args_list_mul_2 _ _) (AutoListH.list___mul___list_int_3 l its.toArray n k t hfit hcap hlong) ⟨e,?_⟩⟩)
 rw[hnew]
 exact⟨.ref _,_,I.lnew (t':=s.toks) (r.rep k.toNat) (by rw[sP,Nat.mul_comm];exact hz),rfl,q _ I.fresh⟩
end
section
variable{κ:Type}[DecidableEq κ]
def fX(kvs:List (κ×V))(k:κ):Option V:=(kvs.find? fun kv=>decide (kv.1=k)).map (·.2)
def mv(kvs:List (κ×V))(k:κ)(v:V):List (κ×V):=
 if (kvs.any fun kv=>decide (kv.1=k))=true then kvs.map (fun kv=>if kv.1=k then(kv.1,v)else kv)else kvs++[(k,v)]
theorem d4{p:κ×V}{r:List (κ×V)}{k:κ}(e:p.1=k):fX (p::r) k=some p.2:=by simp[fX,List.find?_cons,e]
theorem d5{p:κ×V}{r:List (κ×V)}{k:κ}(e:¬p.1=k):fX (p::r) k=fX r k:=by simp[fX,List.find?_cons,e]
theorem jW(k:κ):∀kvs:List (κ×V),(kvs.any fun kv=>decide (kv.1=k))=(fX kvs k).isSome
 |[]=>rfl
 |p::r=>by
  rw[List.any_cons]
  by_cases e:p.1=k
  ·simp only[d4 e,decide_eq_true e,Bool.true_or,Option.isSome_some]
  ·rw[d5 e,decide_eq_false e,Bool.false_or];exact jW k r
theorem uh(k j:κ)(y:V):∀kvs:List (κ×V),fX (kvs.map fun kv=>if kv.1=k then(kv.1,y)else kv) j=(fX kvs j).map fun x=>if j=k then y else x
 |[]=>rfl
 |p::r=>by
  have ih:=uh k j y r
  rw[List.map_cons]
  by_cases h:p.1=k
  ·rw[if_pos h]
   by_cases e:p.1=j
   ·rw[d4 (p:=(p.1,y)) e,d4 e,Option.map_some,if_pos (e.symm.trans h)]
   ·rw[d5 (p:=(p.1,y)) e,d5 e,ih]
  ·rw[if_neg h]
   by_cases e:p.1=j
   ·rw[d4 (p:=p) e,d4 e,Option.map_some,if_neg (fun z=>h (e.trans z))]
   ·rw[d5 (p:=p) e,d5 e,ih]
theorem qz(k j:κ)(y:V):∀kvs:List (κ×V),fX kvs k=none->fX (kvs++[(k,y)]) j=if j=k then some y else fX kvs j
 |[],_=>by
  by_cases e:k=j
  ·rw[if_pos e.symm];exact d4 (p:=(k,y)) e
  ·rw[if_neg (fun z=>e z.symm)];exact d5 (p:=(k,y)) e
 |p::r,hn=>by
  rw[List.cons_append]
  have hk:¬p.1=k:=fun z=>by rw[d4 z]at hn;cases hn
  rw[d5 hk]at hn
  have ih:=qz k j y r hn
  by_cases e:p.1=j
  ·rw[d4 e,d4 e,if_neg (fun z=>hk (e.trans z))]
  ·rw[d5 e,d5 e,ih]
theorem zE(kvs:List (κ×V))(k j:κ)(y:V):fX (mv kvs k y) j=if j=k then some y else fX kvs j:=by
 unfold mv
 by_cases a:(kvs.any fun kv=>decide (kv.1=k))=true
 ·rw[if_pos a,uh]
  rw[jW]at a
  by_cases e:j=k
  ·obtain⟨x,hx⟩:=Option.isSome_iff_exists.mp a
   rw[if_pos e,e,hx,Option.map_some,if_pos rfl]
  ·rw[if_neg e]
   cases fX kvs j with
   |none=>rfl
   |some x=>rw[Option.map_some,if_neg e]
 ·rw[if_neg a]
  refine qz k j y kvs ?_
  rw[jW]at a
  cases q:fX kvs k with
  |none=>rfl
  |some x=>rw[q]at a;exact(a rfl).elim
theorem jH(kvs:List (κ×V))(k:κ)(v:V):(mv kvs k v).length<=kvs.length+1:=by
 unfold mv
 split
 ·rw[List.length_map];omega
 ·rw[List.length_append,List.length_cons,List.length_nil];omega
theorem qk.isSome_eq{o:Option V}{u:Option Value}(r:qk o u):o.isSome=u.isSome:=by
 cases o with
 |none=>cases u with
  |none=>rfl
  |some _=>exact(show False from r).elim
 |some _=>cases u with
  |none=>exact(show False from r).elim
  |some _=>rfl
theorem KV.val{kvs:List (κ×V)}{vs:List (κ×Value)}(r:KV kvs vs)(k:κ):qk (fX kvs k) (valueAt vs k):=by
 unfold KV at r
 induction r with
 |nil=>exact True.intro
 |@cons p q ps qs h t ih=>
  obtain⟨h1,h2⟩:=h
  by_cases e:p.1=k
  ·have e':q.1=k:=h1.symm.trans e
   have b:valueAt (q::qs) k=some q.2:=by simp[valueAt,List.find?_cons,e']
   rw[d4 e,b];exact h2
  ·have e':¬q.1=k:=fun z=>e (h1.trans z)
   have b:valueAt (q::qs) k=valueAt qs k:=by simp[valueAt,List.find?_cons,e']
   rw[d5 e,b];exact ih
theorem KV.any{kvs:List (κ×V)}{vs:List (κ×Value)}(r:KV kvs vs)(k:κ):(kvs.any fun kv=>decide (kv.1=k))=vs.any fun kv=>decide (kv.1=k):=by
 unfold KV at r
 induction r with
 |nil=>rfl
 |cons h t ih=>rw[List.any_cons,List.any_cons,ih,h.1]
theorem KV.repl{kvs:List (κ×V)}{vs:List (κ×Value)}(r:KV kvs vs)(k:κ){y:V}{u:Value}(ry:dB y u) :
  KV (kvs.map fun kv=>if kv.1=k then(kv.1,y)else kv) (vs.map fun kv=>if kv.1=k then(kv.1,u)else kv):=by
 unfold KV at r ⊢
 induction r with
 |nil=>exact .nil
 |@cons p q ps qs h t ih=>
  rw[List.map_cons,List.map_cons]
  refine .cons ?_ ih
  obtain⟨h1,h2⟩:=h
  by_cases e:p.1=k
  ·rw[if_pos e,if_pos (h1.symm.trans e)];exact⟨h1,ry⟩
  ·rw[if_neg e,if_neg (fun z=>e (h1.trans z))];exact⟨h1,h2⟩
theorem KV.put{kvs:List (κ×V)}{vs:List (κ×Value)}(r:KV kvs vs)(k:κ){y:V}{u:Value}(ry:dB y u):KV (mv kvs k y) (stored vs k u):=by
 unfold mv stored
 rw[r.any k]
 by_cases e:(vs.any fun kv=>decide (kv.1=k))=true
 ·rw[if_pos e,if_pos e];exact r.repl k ry
 ·rw[if_neg e,if_neg e];exact Paired.snoc r ⟨rfl,ry⟩
theorem KV.length{kvs:List (κ×V)}{vs:List (κ×Value)}(r:KV kvs vs):kvs.length=vs.length:=Paired.length r
end
theorem vE{P:Program}{w:World}{k:Key}{u:Value}(r:dB (kV k) u):(dc P w).is k u=true:=by
 cases k with
 |inl i=>obtain⟨t,e⟩:=(show ∃t,u=Value.int i t from r);subst e;exact sJ P w i t
 |inr x=>obtain⟨t,e⟩:=(show ∃t,u=Value.str x t from r);subst e;exact sI P w x t
theorem qY{P:Program}{w:World}:∀{ks:List Key} {us:List Value},cI (ks.map kV) us->ItemsAre (dc P w) ks us
 |[],_,r=>by rw[List.map_nil]at r;cases r;exact .nil
 |k::ks,_,r=>by
  rw[List.map_cons]at r
  cases r with
  |cons h t=>exact .cons (vE h) (qY t)
abbrev KT(H:Hp):List (List Key×V)->List (List Key×Addr×Value)->Prop:=Paired fun p q=>p.1=q.1/\H q.2.1=some (.tup (p.1.map kV))/\dB p.2 q.2.2
theorem KT.val{H:Hp}{kvs:List (List Key×V)}{xs:List (List Key×Addr×Value)}(r:KT H kvs xs)(k:List Key):qk (fX kvs k) ((atKey xs k).map (·.2)):=by
 induction r with
 |nil=>exact True.intro
 |@cons p q ps qs h t ih=>
  obtain⟨h1,_,h2⟩:=h
  by_cases e:p.1=k
  ·have e':q.1=k:=h1.symm.trans e
   have b:atKey (q::qs) k=some q.2:=by simp[atKey,List.find?_cons,e']
   rw[d4 e,b];exact h2
  ·have e':¬q.1=k:=fun z=>e (h1.trans z)
   have b:atKey (q::qs) k=atKey qs k:=by simp[atKey,List.find?_cons,e']
   rw[d5 e,b];exact ih
theorem KT.repl{H:Hp}{kvs:List (List Key×V)}{xs:List (List Key×Addr×Value)}(r:KT H kvs xs)(k:List Key){y:V}{u:Value}(ry:dB y u) :
  KT H (kvs.map fun kv=>if kv.1=k then(kv.1,y)else kv) (xs.map (putAt k u)):=by
 induction r with
 |nil=>exact .nil
 |@cons p q ps qs h t ih=>
  rw[List.map_cons,List.map_cons]
  refine .cons ?_ ih
  obtain⟨h1,h2,h3⟩:=h
  unfold putAt
  by_cases e:p.1=k
  ·rw[if_pos e,if_pos (h1.symm.trans e)];exact⟨h1,h2,ry⟩
  ·rw[if_neg e,if_neg (fun z=>e (h1.trans z))];exact⟨h1,h2,h3⟩
theorem KT.put{H:Hp}{kvs:List (List Key×V)}{xs:List (List Key×Addr×Value)}(r:KT H kvs xs)(k:List Key){b:Addr}{y:V}{u:Value}(hb:H b=some (.tup (k.map kV)))(ry:dB y u) :
  KT H (mv kvs k y) (storedH xs k b u):=by
 have e:(kvs.any fun kv=>decide (kv.1=k))=(atKey xs k).isSome:=by
  rw[jW,(r.val k).isSome_eq,Option.isSome_map]
 unfold mv storedH
 rw[e]
 by_cases q:(atKey xs k).isSome=true
 ·rw[if_pos q,if_pos q];exact r.repl k ry
 ·rw[if_neg q,if_neg q];exact Paired.snoc r ⟨rfl,hb,ry⟩
theorem KT.keeps{H H':Hp}{kvs:List (List Key×V)}{xs:List (List Key×Addr×Value)}(r:KT H kvs xs)(ht:∀b ys,H b=some (.tup ys)->H' b=some (.tup ys)):KT H' kvs xs:=
 Paired.mapP r fun _ _ z=>⟨z.1,ht _ _ z.2.1,z.2.2⟩
section
variable{P:Program}{w:World}{H:Hp}{h:Heap}{a:Addr}
theorem Gm{u:HO}(ok:HOk P w H h)(e:Rd H a u):cM P w H h a u:=e.ok ok
theorem vP{kvs:List (Key×V)}(ok:HOk P w H h)(e:Rd H a (.dK kvs)):kvs.length<=sizeLine/\(a == sysModules)=false/\∃vs,KV kvs vs/\h.DictOf (dc P w) a vs:=
 show cM P w H h a (.dK kvs)from Gm ok e
theorem AX{kvs:List (Key×V)}(ok:HOk P w H h)(e:H a=some (.dK kvs)):kvs.length<=sizeLine/\(a == sysModules)=false/\∃vs,KV kvs vs/\h.DictOf (dc P w) a vs:=vP ok (.inl e)
theorem qX{ks:List Key}(ok:HOk P w H h)(e:H a=some (.tup (ks.map kV))):(tupleKind (dc P w)).is h ks a:=by
 obtain⟨_,its,r,o,h1,h2,n,h3⟩:=(show cM P w H h a (.tup (ks.map kV))from ok a _ e)
 exact⟨o,its.toArray,n,h1,h2,h3,by simpa using qY r⟩
theorem yq{kvs:List (List Key×V)}(ok:HOk P w H h)(e:Rd H a (.dT kvs)):kvs.length<=sizeLine/\(a == sysModules)=false/\
  ∃xs,KT H kvs xs/\h.DictOfH (tupleKind (dc P w)) a xs:=by
 obtain⟨z,y,xs,r,o,es,ep,h1,h2,h3,h4,h5⟩:=(show cM P w H h a (.dT kvs)from Gm ok e)
 refine⟨z,y,xs,r,o,es,ep,h1,h2,h3,h4,fun x hx=>?_,h5⟩
 have all:∀{l:List (List Key×V)} {m:List (List Key×Addr×Value)},KT H l m->∀x∈m,(tupleKind (dc P w)).is h x.1 x.2.1:=by
  intro l m q
  induction q with
  |nil=>intro x hx;exact nomatch hx
  |@cons p q ps qs hq t ih=>
   intro x hx
   rcases List.mem_cons.mp hx with e|hx
   ·subst e
    exact qX ok (by rw[<-hq.1];exact hq.2.1)
   ·exact ih x hx
 exact all r x hx
theorem LG{kvs:List (List Key×V)}(ok:HOk P w H h)(e:H a=some (.dT kvs)):kvs.length<=sizeLine/\(a == sysModules)=false/\
  ∃xs,KT H kvs xs/\h.DictOfH (tupleKind (dc P w)) a xs:=yq ok (.inl e)
end
def DGet(H:Hp)(a:Addr)(y:V)(r:Option V):Prop:=
 (∃kvs k,Rd H a (.dK kvs)/\y=kV k/\r=fX kvs k)\/∃kvs k b,Rd H a (.dT kvs)/\y=.ref b/\H b=some (.tup (k.map kV))/\r=fX kvs k
def IQ(H:Hp)(a:Addr)(y v:V)(H':Hp):Prop:=
 (∃kvs k,H a=some (.dK kvs)/\y=kV k/\kvs.length<sizeLine/\H'=upd H a (.dK (mv kvs k v)))\/
 ∃kvs k b,H a=some (.dT kvs)/\y=.ref b/\H b=some (.tup (k.map kV))/\kvs.length<sizeLine/\H'=upd H a (.dT (mv kvs k v))
theorem DGet.k{H:Hp}{a:Addr}{kvs:List (Key×V)}{k:Key}(e:H a=some (.dK kvs)):DGet H a (kV k) (fX kvs k):=.inl ⟨kvs,k,.inl e,rfl,rfl⟩
theorem IQ.k{H:Hp}{a:Addr}{kvs:List (Key×V)}{k:Key}{v:V}(e:H a=some (.dK kvs))(hl:kvs.length<sizeLine):IQ H a (kV k) v (upd H a (.dK (mv kvs k v))):=.inl ⟨kvs,k,e,rfl,hl,rfl⟩
section
variable{X:Cx}{pins:List (Addr×Obj)}{σ:St}{H:Hp}{s:Shared}{a:Addr}{y v:V}{u r:Value}{o:Option V}{A:Around}{E:Value->Shared->Prop}
theorem Inv.big(I:Inv X pins σ H s):sysModules<s.heap.objs.size:=by
 have h:mainGlobals<s.heap.objs.size:=(I.mod.glob.keeps I.bk).lt
 exact Nat.lt_trans (by decide) h
theorem yz{Q:Value->Shared->Prop}(hu:A.units+1<cLine)(I:Inv X pins σ H s)(g:DGet H a y (some v))(ry:dB y u)(h:∀w' s',Inv X pins σ H s'->dB v w'->Q w' s') :
  wpAny (model X.prog X.w) A (getItem (.ref a) u) Q E s:=by
 rcases g with⟨kvs,k,e,ey,l⟩|⟨kvs,k,b,e,ey,eb,l⟩
 ·subst ey
  obtain⟨z,hd,vs,rel,dd⟩:=vP I.hok e
  obtain⟨w',hw,rw'⟩:=qk.some_of (v:=v) (o:=valueAt vs k) (by rw[l];exact rel.val k)
  exact wpAny_getItem_of (vE ry) dd.mapOf hw (h w' _ (I.tok _) rw')
 ·subst ey
  cases (show u=Value.ref b from ry)
  obtain⟨z,hd,xs,rel,dd⟩:=yq I.hok e
  obtain⟨w',hw,rw'⟩:=qk.some_of (v:=v) (o:=(atKey xs k).map (·.2)) (by rw[l];exact rel.val k)
  obtain⟨p,hp,hp2⟩:=Option.map_eq_some_iff.mp hw
  refine wpAny_getItem_heap (tupleKind_room_in1 hu) (qX I.hok eb) dd hp ?_
  rw[hp2]
  exact h w' _ (I.tok _) rw'
theorem Nj{Q:Value->Shared->Prop}(hu:A.units+1<cLine)(I:Inv X pins σ H s)(g:DGet H a y o)(ry:dB y u)(h:∀s',Inv X pins σ H s'->Q (.bool o.isSome) s') :
  wpAny (model X.prog X.w) A (compareOp .In u (.ref a)) Q E s:=by
 rcases g with⟨kvs,k,e,ey,l⟩|⟨kvs,k,b,e,ey,eb,l⟩
 ·subst ey
  obtain⟨z,hd,vs,rel,dd⟩:=vP I.hok e
  refine wpAny_in_of (vE ry) hd dd.mapOf ?_
  rw[<-(rel.val k).isSome_eq,<-l]
  exact h _ (I.tok _)
 ·subst ey
  cases (show u=Value.ref b from ry)
  obtain⟨z,hd,xs,rel,dd⟩:=yq I.hok e
  refine wpAny_in_heap (tupleKind_room_in1 hu) (qX I.hok eb) hd dd ?_
  have q:=(rel.val k).isSome_eq
  rw[Option.isSome_map]at q
  rw[<-q,<-l]
  exact h _ (I.tok _)
theorem Ez{Q:Value->Shared->Prop}(hu:A.units+1<cLine)(I:Inv X pins σ H s)(g:DGet H a y o)(ry:dB y u)(h:∀s',Inv X pins σ H s'->Q (.bool (!o.isSome)) s') :
  wpAny (model X.prog X.w) A (compareOp .NotIn u (.ref a)) Q E s:=by
 rcases g with⟨kvs,k,e,ey,l⟩|⟨kvs,k,b,e,ey,eb,l⟩
 ·subst ey
  obtain⟨z,hd,vs,rel,dd⟩:=vP I.hok e
  refine wpAny_notIn_of (vE ry) hd dd.mapOf ?_
  rw[<-(rel.val k).isSome_eq,<-l]
  exact h _ (I.tok _)
 ·subst ey
  cases (show u=Value.ref b from ry)
  obtain⟨z,hd,xs,rel,dd⟩:=yq I.hok e
  refine wpAny_notIn_heap (tupleKind_room_in1 hu) (qX I.hok eb) hd dd ?_
  have q:=(rel.val k).isSome_eq
  rw[Option.isSome_map]at q
  rw[<-q,<-l]
  exact h _ (I.tok _)
theorem nE{h':Heap}{t':Nat}{ob:HO}(I:Inv X pins σ H s)(mu:Mut (H a))(hs:Heap.SameBut a s.heap h')(he:∃q,h'.get? a=some q)(new:cM X.prog X.w (upd H a ob) h' a ob) :
  Inv X pins σ (upd H a ob) { s with heap:=h',toks:=t' }:=
 I.write (x:=a) (e:=a) mu (.inl rfl) (fun b q hb z=>(hs.2 b hb).trans z) he new
theorem BM{P:Program}{w:World}{H':Hp}{h':Heap}{kvs:List (Key×V)}{vs:List (Key×Value)}(z:kvs.length<=sizeLine)(hd:(a == sysModules)=false)(rel:KV kvs vs)(dd:h'.DictOf (dc P w) a vs) :
  cM P w H' h' a (.dK kvs):=⟨z,hd,vs,rel,dd⟩
theorem yy{H':Hp}{Q:Unit->Shared->Prop}(hu:A.units+1<cLine)(I:Inv X pins σ H s)(g:IQ H a y v H')(ry:dB y u)(rv:dB v r)(h:∀s',Inv X pins σ H' s'->Q () s') :
  wpAny (model X.prog X.w) A (setItem (.ref a) u r) Q E s:=by
 rcases g with⟨kvs,k,e,ey,l,eH⟩|⟨kvs,k,b,e,ey,eb,l,eH⟩
 ·subst ey eH
  obtain⟨z,hd,vs,rel,dd⟩:=AX I.hok e
  have hz:vs.length<=sizeLine:=by rw[<-rel.length];exact z
  have hl:(mv kvs k v).length<=sizeLine:=by have:=jH kvs k v;omega
  refine wpAny_setItem_pairs (hsz:=hz) (vE ry) dd fun h' dd' hs=>h _ ?_
  have he:∃q,h'.get? a=some q:=let ⟨q,_,_,hq,_⟩:=dd';⟨q,hq⟩
  exact nE I (by rw[e];exact True.intro) hs he (BM hl hd (rel.put k rv) dd')
 ·subst ey eH
  cases (show u=Value.ref b from ry)
  obtain⟨z,hd,xs,rel,dd⟩:=LG I.hok e
  have hz:xs.length<=sizeLine:=by rw[<-Paired.length rel];exact z
  have hl:(mv kvs k v).length<=sizeLine:=by have:=jH kvs k v;omega
  refine wpAny_setItem_heap (hsz:=hz) (tupleKind_room_in1 hu) (qX I.hok eb) dd fun h' dd' hs=>h _ ?_
  obtain⟨q,es,ep,hq,h2,h3,h4,_,h5⟩:=dd'
  refine nE I (by rw[e];exact True.intro) hs ⟨q,hq⟩ ⟨hl,hd,_,(rel.put k eb rv).keeps fun c ys ec=>?_,q,es,ep,hq,h2,h3,h4,h5⟩
  rw[bP (KU ec e (fun z=>nomatch z))]
  exact ec
end
section
variable{X:Cx}{pins:List (Addr×Obj)}{σ:St}{H:Hp}{s:Shared}{a:Addr}{kvs:List (Key×V)}{k:Key}{u:Value}{A:Around}{E:Value->Shared->Prop}
theorem LJ{Q:Value->Shared->Prop}(I:Inv X pins σ H s)(e:Rd H a (.dK kvs))(h:∀t s',Inv X pins σ H s'->Q (.int kvs.length t) s'):wpAny (model X.prog X.w) A (call (.builtin "len") [.ref a]) Q E s:=by
 obtain⟨z,hd,vs,rel,dd⟩:=vP I.hok e
 refine call_len_dict hd dd (by rw[<-rel.length];rw[sizeLine_eq]at z;omega) ?_
 rw[<-rel.length]
 exact h _ _ (I.tok _)
end
def E3(i:Expr):Prop:=∀ov iv,subscripted i false ov iv=operate [ov,iv] (getItem ov iv)
theorem wM{prog:Program}{w:World}{A:Around}{E:Value->Shared->Prop}{s:Shared}{env:Env}{value slice:Expr}{pos:Pos}{T id:String}{Q:Value->Shared->Prop}
  (hl:typeLookup (.type T) "__getitem__"=pure (some (.builtin id))) (hs:E3 slice)
  (h:wpAny (model prog w) A (eval value env) (fun o s₁=>wpAny (model prog w) A (eval slice env) (fun i s₂=>s₂.TypeIs o T/\wpAny (model prog w) A (getItem o i) Q E s₂) E s₁) E s) :
  wpAny (model prog w) A (eval (.Subscript value slice pos) env) Q E s:=by
 refine Subscript_ (wpAny_mono h (fun o s₁ h₁=>wpAny_mono h₁ (fun i s₂ h₂=>?_) fun _ _ x=>x) fun _ _ x=>x)
 obtain⟨hT,h₂⟩:=h₂
 unfold subscriptTail
 refine wpAny_bind ?_
 rw[getitemInPython_of_ne hT.not_modules]
 refine wpAny_bind (wpAny_specialOf hT hl ?_)
 have fin:wpAny (model prog w) A (subscripted slice false o i) (fun r s₃=>wpAny (model prog w) A (letTemporaryGo value o r >>= fun _=>pure r) Q E s₃) E s₂:=by
  rw[hs o i]
  exact wpAny_operating (wpAny_mono h₂ (fun r s₃ h₃=>wpAny_bind (wpAny_letTemporaryGo (wpAny_pure h₃))) fun _ _ x=>x)
 first
  |exact wpAny_pure (wpAny_bind fin)
  |exact wpAny_bind (wpAny_pure (wpAny_bind fin))
  |exact wpAny_bind fin
theorem tL{X:Cx}{pins:List (Addr×Obj)}{σ:St}{H:Hp}{s:Shared}{a:Addr}{y:V}{o:Option V}(I:Inv X pins σ H s)(g:DGet H a y o):s.TypeIs (.ref a) "dict":=by
 rcases g with⟨kvs,k,e,_,_⟩|⟨kvs,k,b,e,_,_,_⟩
 ·obtain⟨_,_,vs,_,dd⟩:=vP I.hok e
  exact dd.typeIs
 ·obtain⟨_,_,xs,_,dd⟩:=yq I.hok e
  exact dd.typeIs
def Ga(td ty:TE):TE:=fun σ H Q=>td σ H fun x H1=>ty σ H1 fun y H2=>∃a v,x=.ref a/\DGet H2 a y (some v)/\Q v H2
def Km(ty td:TE):TE:=fun σ H Q=>ty σ H fun y H1=>td σ H1 fun x H2=>∃a o,x=.ref a/\DGet H2 a y o/\Q (.bl o.isSome) H2
def sv(ty td:TE):TE:=fun σ H Q=>ty σ H fun y H1=>td σ H1 fun x H2=>∃a o,x=.ref a/\DGet H2 a y o/\Q (.bl (!o.isSome)) H2
def Gk(td ty tv:TE):TS:=fun D σ H=>tv σ H fun v H1=>td σ H1 fun x H2=>ty σ H2 fun y H3=>∃a H4,x=.ref a/\IQ H3 a y v H4/\D.nx σ H4
section
variable{X:Cx}{o i e value:Expr}{pos pos' tpos:Pos}{td ty tv:TE}
theorem DN(hu:X.A.units+1<cLine)(ho:PE X o td)(hi:PE X i ty)(hs:E3 i):PE X (.Subscript o i pos) (Ga td ty):=by
 intro pins s σ H Q I h
 refine wM PySem.F.slot_dict_getitem.lookup hs (thn (ho pins s σ H _ I h) fun u s1 ⟨x,H1,I1,rx,q1⟩=>thn (hi pins s1 σ H1 _ I1 q1) fun iv s2 hz=>?_)
 obtain⟨y,H2,I2,ry,a,v,ex,g,q2⟩:=hz
 subst ex
 obtain rfl:u=Value.ref a:=rx
 exact⟨tL I2 g,yz hu I2 g ry fun w' s3 I3 rw'=>⟨v,H2,I3,rw',q2⟩⟩
theorem GU(hu:X.A.units+1<cLine)(hi:PE X i ty)(ho:PE X o td):PC X .In i o (Km ty td):=by
 intro pins s σ H Q I h
 refine thn (hi pins s σ H _ I h) fun iv s1 ⟨y,H1,I1,ry,q1⟩=>thn (ho pins s1 σ H1 _ I1 q1) fun u s2 hz=>?_
 obtain⟨x,H2,I2,rx,a,ov,ex,g,q2⟩:=hz
 subst ex
 obtain rfl:u=Value.ref a:=rx
 exact Nj hu I2 g ry fun s3 I3=>⟨.bl ov.isSome,H2,I3,rfl,q2⟩
theorem xk(hu:X.A.units+1<cLine)(hi:PE X i ty)(ho:PE X o td):PC X .NotIn i o (sv ty td):=by
 intro pins s σ H Q I h
 refine thn (hi pins s σ H _ I h) fun iv s1 ⟨y,H1,I1,ry,q1⟩=>thn (ho pins s1 σ H1 _ I1 q1) fun u s2 hz=>?_
 obtain⟨x,H2,I2,rx,a,ov,ex,g,q2⟩:=hz
 subst ex
 obtain rfl:u=Value.ref a:=rx
 exact Ez hu I2 g ry fun s3 I3=>⟨.bl (!ov.isSome),H2,I3,rfl,q2⟩
theorem Dz(hu:X.A.units+1<cLine)(ho:PE X o td)(hi:PE X i ty)(hv:PE X value tv)(hs:swapsWith value (some (.Subscript o i pos')) pos.line X.env=pure false) :
  PS X (.Assign [.Subscript o i pos'] value pos) (Gk td ty tv):=by
 intro pins s σ H D I h
 refine wpAny_Assign_Subscript (thn (hv pins s σ H _ I h) fun r s1 ⟨v,H1,I1,rv,q1⟩=>thn (ho pins s1 σ H1 _ I1 q1) fun u s2 ⟨x,H2,I2,rx,q2⟩=>thn (hi pins s2 σ H2 _ I2 q2) fun iv s3 hz=>?_) hs
 obtain⟨y,H3,I3,ry,a,H4,ex,g,q3⟩:=hz
 subst ex
 obtain rfl:u=Value.ref a:=rx
 exact yy hu I3 g ry rv fun s4 I4=>⟨σ,H4,I4,q3⟩
end
theorem uX{P:Program}{w:World}{H:Hp}(h:Heap)(hb:sysModules<h.objs.size):cM P w H (h.push { cls:=.type "dict",data:=.dict #[] }) h.objs.size (.dK []):=
 ⟨Nat.zero_le _,beq_eq_false_iff_ne.mpr (Ne.symm (Nat.ne_of_lt hb)),[],.nil,Heap.DictOf.new h⟩
def Bk:TE:=fun _ H Q=>∀p,H p=none->Q (.ref p) (upd H p (.dK []))
section
variable{X:Cx}{pos:Pos}
theorem Aa:PE X (.Dict [] [] pos) Bk:=fun pins s σ H Q I h=>
 wpAny_Dict_empty ⟨.ref s.heap.objs.size,_,I.laid (a:=s.heap.objs.size) (o:=.dK []) (t':=s.toks) (fun _ _ q=>Heap.get?_push_of_some _ q) (Nat.le_refl _) (uX s.heap I.big),rfl,h _ (I.hok.fresh (Nat.le_refl _))⟩
end
def qC:List (TE×TE)->St->Hp->(List (V×V)->Hp->Prop)->Prop
 |[],_,H,Q=>Q [] H
 |(tk,tv)::r,σ,H,Q=>tk σ H fun x H1=>tv σ H1 fun y H2=>qC r σ H2 fun ps H3=>Q ((x,y)::ps) H3
abbrev VV:List (V×V)->List (Value×Value)->Prop:=Paired fun p q=>dB p.1 q.1/\dB p.2 q.2
def PPs(X:Cx)(pos:Pos)(keys:List (Option Expr))(values:List Expr)(trs:List (TE×TE)):Prop:=
 ∀(pins:List (Addr×Obj)) (s:Shared) (σ:St) (H:Hp) (Q:List (V×V)->Hp->Prop),Inv X pins σ H s->qC trs σ H Q->
  wpAny (model X.prog X.w) X.A (evalPairs (pairTrees keys values X.env pos)) (fun vs s'=>∃ps H',Inv X pins σ H' s'/\VV ps vs/\Q ps H') X.xe s
theorem xg{X:Cx}{pos:Pos}:PPs X pos [] [] []:=fun pins s σ H Q I h=>pairTrees_nil_walk ⟨[],H,I,.nil,h⟩
theorem uy{X:Cx}{pos:Pos}{k v:Expr}{ks:List (Option Expr)}{vs:List Expr}{tk tv:TE}{trs:List (TE×TE)}(hk:PE X k tk)(hv:PE X v tv)(hr:PPs X pos ks vs trs) :
  PPs X pos (some k::ks) (v::vs) ((tk,tv)::trs):=fun pins s σ H Q I h=>
 pairTrees_cons_walk (thn (hk pins s σ H _ I h) fun u s1 ⟨x,H1,I1,rx,q1⟩=>thn (hv pins s1 σ H1 _ I1 q1) fun w2 s2 ⟨y,H2,I2,ry,q2⟩=>
  thn (hr pins s2 σ H2 _ I2 q2) fun ws s3 ⟨ps,H3,I3,rel,q3⟩=>⟨(x,y)::ps,H3,I3,.cons ⟨rx,ry⟩ rel,q3⟩)
def lP(kvs more:List (Key×V)):List (Key×V):=more.foldl (fun acc kv=>mv acc kv.1 kv.2) kvs
theorem KV.merge:∀{more:List (Key×V)} {rs:List (Key×Value)} {kvs:List (Key×V)} {vs:List (Key×Value)},KV more rs->KV kvs vs->KV (lP kvs more) (merged vs rs):=by
 intro more rs kvs vs r
 unfold KV at r
 induction r generalizing kvs vs with
 |nil=>intro q;exact q
 |@cons p q ps qs h t ih=>
  intro r0
  have e:KV (mv kvs p.1 p.2) (stored vs q.1 q.2):=by
   have:=r0.put p.1 h.2
   rw[<-h.1];exact this
  exact ih e
theorem kg:∀(more kvs:List (Key×V)),(lP kvs more).length<=kvs.length+more.length
 |[],kvs=>by show kvs.length<=kvs.length+0;omega
 |p::r,kvs=>by
  have h1:=kg r (mv kvs p.1 p.2)
  have h2:=jH kvs p.1 p.2
  show(lP (mv kvs p.1 p.2) r).length<=_
  rw[List.length_cons];omega
theorem oX{P:Program}{w:World}:∀{kvs:List (Key×V)} {ws:List (Value×Value)},VV (kvs.map fun kv=>(kV kv.1,kv.2)) ws->∃rs,Carries (dc P w) ws rs/\KV kvs rs
 |[],_,r=>by rw[List.map_nil]at r;cases r;exact⟨[],True.intro,.nil⟩
 |p::kvs,_,r=>by
  rw[List.map_cons]at r
  cases r with
  |@cons a b as bs h t=>
   obtain⟨rs,c,q⟩:=oX (P:=P) (w:=w) t
   obtain⟨b1,b2⟩:=b
   exact⟨(p.1,b2)::rs,⟨vE h.1,rfl,c⟩,.cons ⟨rfl,h.2⟩ q⟩
def F9(trs:List (TE×TE)):TE:=fun σ H Q=>∀p,H p=none->qC trs σ (upd H p (.dK [])) fun ps H2=>H2 p=some (.dK [])/\∃kvs:List (Key×V),ps=kvs.map (fun kv=>(kV kv.1,kv.2))/\kvs.length<=15/\Q (.ref p) (upd H2 p (.dK (lP [] kvs)))
theorem DM{X:Cx}{pos:Pos}{keys:List (Option Expr)}{values:List Expr}{trs:List (TE×TE)}(h:PPs X pos keys values trs)(hall:keys.all (·.isSome)=true)(hl:keys.length=values.length)(h0:keys≠[])
  (h15:keys.length<=15):PE X (.Dict keys values pos) (F9 trs):=by
 intro pins s σ H Q I q
 have hn:=I.hok.fresh (Nat.le_refl s.heap.objs.size)
 have I1:=I.laid (a:=s.heap.objs.size) (o:=.dK []) (h':=s.heap.push { cls:=.type "dict",data:=.dict #[] }) (t':=s.toks) (fun _ _ q=>Heap.get?_push_of_some _ q) (Nat.le_refl _) (uX s.heap I.big)
 refine wpAny_Dict_walk (knd:=dc X.prog X.w) hall hl h0 h15 (thn (h pins _ σ _ _ I1 (q _ hn)) fun ws s2 hz=>?_)
 obtain⟨ps,H2,I2,rel,e,kvs,ep,lk,q2⟩:=hz
 subst ep
 obtain⟨rs,c,rk⟩:=oX (P:=X.prog) (w:=X.w) rel
 obtain⟨z,hd,vs0,r0,dd⟩:=AX I2.hok e
 cases r0
 refine⟨rs,c,dd,fun h' dd' hs=>⟨.ref s.heap.objs.size,_,?_,rfl,q2⟩⟩
 have hz:(lP [] kvs).length<=sizeLine:=by
  have h1:=kg kvs []
  rw[List.length_nil]at h1
  rw[sizeLine_eq];omega
 have he:∃q,h'.get? s.heap.objs.size=some q:=let ⟨q,_,_,hq,_⟩:=dd';⟨q,hq⟩
 exact nE I2 (by rw[e];exact True.intro) hs he (BM hz hd (rk.merge .nil) dd')
end L2
namespace Att
open PySem PySem.W PySem.Calls PyProof.Rows
theorem ny{P:Params}{h:Heap}:∀(ns:List Int) (vs:List Value),WellAll P h vs (ns.map WData.int)->IntsAre vs ns:=by
 intro ns
 induction ns with
 |nil=>
  intro vs w
  rw[List.map_nil]at w
  cases w
  exact .nil
 |cons n ns ih=>
  intro vs w
  rw[List.map_cons]at w
  cases w with
  |cons a b=>
   cases a
   exact .cons _ _ (ih _ b)
theorem wU{l:OpenLaw}{n:Nat}(hn:l.most=some n){P:Params}{h:Heap}{args:List WData}{vals:List Value}
  (hpre:l.row.toRowW.claim.pre args=true) (hwl:WellAll P h vals args) :
  ∃a vs ns,vals=[Value.ref a]/\args=[WData.list (ns.map WData.int)]/\h.get? a=some { cls:=.type "list",data:=.seq vs.toArray }/\IntsAre vs ns/\ns.length<=n:=by
 have hsh:WShape.hasAll [] args [.list .int]=true:=(pre_splitW hpre).1
 have hc:l.pre.holds [] { args:=args }=true:=(pre_splitW hpre).2
 obtain⟨d,r,rfl,h1,h2⟩:=hasAllW_cons hsh
 obtain rfl:=hasAllW_nil h2
 obtain⟨xs,rfl,h3⟩:=hasW_list h1
 obtain⟨ns,rfl⟩:=items_int h3
 have hlen:ns.length<=n:=by
  unfold OpenLaw.pre at hc
  have h4:(WTm.not (.lt (.lit (.int (n:Int))) (.len (.arg 0)))).holds [] { args:=[.list (ns.map .int)] }=true:=by
   have h4:=(holds_andW hc).1
   rw[hn]at h4
   exact h4
  have h5:=condW_of h4 (w_not (w_lt w_lit (w_len_list (w_arg rfl))))
  rw[List.length_map]at h5
  refine Nat.le_of_not_lt fun q=>?_
  have q':(n:Int)<((ns.length:Nat):Int):=by omega
  first
   |(rw[decide_eq_true q']at h5;exact absurd h5 (by decide))
   |(simp at h5;omega)
 cases hwl with
 |cons w1 w2=>
  cases w2
  cases w1 with
  |list ho hall=>exact⟨_,_,ns,rfl,rfl,ho,ny ns _ hall,hlen⟩
theorem xh(l:OpenLaw)(args:List WData):l.row.toRowW.claim.post args (.bool true) args=true:=
 postW_of (r:=l.row.toRowW) (X:=(true == true))
  (show WShape.has [] (.bool true) .bool=true by first|rfl|decide|simp[WShape.has,WShape.arms,WShape.armsAll])
  (show(WTm.eq .res (.lit (.bool true))).value [] { args:=args,res:=some (.bool true),after:=args }=some (.bool (true == true))from w_eq_bool (w_res rfl) w_lit) rfl
theorem attach_call{l:OpenLaw}{n:Nat}{q:Program}{loose:List Str}{XP:(Str->Option Value)->Heap->Prop}{YP:World->Heap->Prop}{d:DefRec}
  (hn:l.most=some n) (hdf:d.params.defaults=[])
  (call:∀(w:World) (s₀ s₁:Shared) (mg mb:Str->Option Value) (fa:Addr) (o:Obj) (pm cd doc:Value) (a:Addr) (vs:List Value) (ns:List Int),
   Ground q loose [] XP w s₀ mg mb s₁.heap->YP w s₁.heap->
   s₁.heap.get? fa=some o->o.data=.func (docDef d.name d.params d.body d.scope pm cd doc)->s₁.heap.CodeRec cd d.name->mg d.name=some (.ref fa)->
   s₁.heap.get? a=some { cls:=.type "list",data:=.seq vs.toArray }->IntsAre vs ns->ns.length<=n->s₁.gens=#[]->
   codeAny (model l.prog w) callerA (.call (.ref fa) ⟨[.ref a],[]⟩) (fun r s'=>r=.ok (.ret (.bool true))/\OldK s₁.heap s'.heap/\s'.os=s₁.os/\AllBare s'.gens) s₁) :
  WalkO q loose XP YP l.row.toRowW d [] (fun f vs=>PySem.call f vs):=by
 intro w s₀ s₁ mg mb G Y fa o pm cd doc dV kV ho hd hcd hD hmg hg args vals as hpre hlay hrd hwl hlo
 obtain rfl:dV=.none:=Dflts.none hD hdf
 obtain rfl:kV=.none:=Dflts.noKw hD
 obtain⟨a,vs,ns,rfl,rfl,hobj,hints,hlen⟩:=wU hn hpre hwl
 refine enter_call (codeAny_mono (call w s₀ s₁ mg mb fa o pm cd doc a vs ns G Y ho (fd_plain hd) hcd hmg hobj hints hlen hg) fun r s' hq=>?_)
 obtain⟨rfl,h2,h3,h4⟩:=hq
 exact⟨.inl ⟨.bool true,.bool true,[],rfl,fun _=>rfl,.bool true,xh l _,fun _=>⟨List.Pairwise.nil,fun _ hm=>(nomatch hm)⟩⟩,h2,h3,h4⟩
end Att
namespace L2
open PySem PySem.Spec PyProof.Rows
theorem fD:∀{vs:List Value} {ns:List Int},IntsAre vs ns->cI (ns.map V.int) vs
 |_,_,.nil=>.nil
 |_,_,.cons n t h=>.cons ⟨t,rfl⟩ (fD h)
def LV(H:Hp):Prop:=∀b,H b=none\/∃o xs,H b=some (.frz o (.lst xs))
theorem Ay{P:Program}{w:World}{K:PySem.W.Frag}{mg mb:Str->Option Value}{CX:CXT}{k:Nat}{fa a:Addr}{fd:FuncData}{x:Str}{sp:Sp}{s₁:Shared}{vs:List Value}{ns:List Int}
  (KX:K.In s₁.heap) (hns:s₁.heap.Ns mainGlobals mg) (hb:s₁.heap.Ns builtinsNs mb) (hbb:∀x:Str,x≠"__name__"->mb x=bootBuiltins x) (hlim:s₁.heap.NoLimit) (hg:s₁.gens=#[])
  (ha:s₁.heap.get? a=some { cls:=.type "list",data:=.seq vs.toArray }) (hi:IntsAre vs ns) (hl:ns.length<=sizeLine) (hr:gJ k callerA)
  (F:∀base:Heap,K.In base->base.Ns mainGlobals mg->lW P w K mg base CX k fa fd [x] sp) (hbind:∀(s:Shared) (u:Value),BindsTo s fd ⟨[u],[]⟩ [(x,u)])
  (hsp:∀H:Hp,LV H->SqL K H a (ns.map V.int)->sp [.ref a] H (fun v _=>v=.bl true) fun _ _ _=>False)
  (hCX:∀H e s',CX [] H s₁ (fun _ _ _=>False) e s'->False) :
  codeAny (model P w) callerA (.call (.ref fa) ⟨[.ref a],[]⟩) (fun r s'=>r=.ok (.ret (.bool true))/\OldK s₁.heap s'.heap/\s'.os=s₁.os/\AllBare s'.gens) s₁:=by
 have rv:=fD hi
 have lenV:=hi.length
 have core:∀H:Hp,LV H->SqL K H a (ns.map V.int)->HOk P w H s₁.heap->(∀b,H b≠none->b=a)->(H a≠none->K.lookup a=none)->
   codeAny (model P w) callerA (.call (.ref fa) ⟨[.ref a],[]⟩) (fun r s'=>r=.ok (.ret (.bool true))/\OldK s₁.heap s'.heap/\s'.os=s₁.os/\AllBare s'.gens) s₁:=by
  intro H hO hS hok hA hK
  have base_of:∀{b:Addr} {o:Obj},s₁.heap.get? b=some o->H b=none->(AH s₁.heap H).get? b=some o:=fun e n=>AG e n
  have noA:∀{b:Addr} {o:Obj} {es:Array DictEntry} {ep:Nat},s₁.heap.get? b=some o->o.data=.dict es ep->H b=none:=fun{b o es ep} e d=>by
   cases q:H b with
   |none=>rfl
   |some u=>
    have e':b=a:=hA b (by rw[q];simp)
    subst e'
    rw[ha]at e;cases e
    have d':Data.seq vs.toArray _=Data.dict es ep:=d
    cases d'
  have nsK:∀{b:Addr} {m:Str->Option Value},s₁.heap.Ns b m->(AH s₁.heap H).Ns b m:=fun{b m} ⟨o,es,ep,e,d,r⟩=>⟨o,es,ep,base_of e (noA e d),d,r⟩
  have hKb:K.In (AH s₁.heap H):=fun b o e=>base_of (KX b o e) (by
   cases q:H b with
   |none=>rfl
   |some u=>
    have e':b=a:=hA b (by rw[q];simp)
    subst e'
    rw[hK (by rw[q];simp)]at e;cases e)
  have hM:Mod K mg (AH s₁.heap H):=⟨hKb,nsK hns,⟨mb,nsK hb,hbb⟩,let ⟨mc,h1,h2⟩:=hlim;⟨mc,nsK h1,h2⟩⟩
  have e0:ES P w K mg (AH s₁.heap H) callerA [] s₁ H:=⟨rfl,hM,fun b o e=>D1 e,Nat.le_of_eq (x5 _ _),trivial,fun b hb=>absurd (show b∈([]:List Addr)from hb) (by simp),hok,.of_eq hg⟩
  refine codeAny_mono ((F _ hKb (nsK hns)).run callerA [] s₁ H ⟨[.ref a],[]⟩ [.ref a] [.ref a] _ _ hr e0 (hbind s₁ (.ref a)) (.cons rfl .nil) (hsp H hO hS)) fun r s' h=>?_
  cases r with
  |error e=>exact(hCX H e s' h).elim
  |ok fl=>
   cases fl with
   |next=>exact False.elim h
   |brk=>exact False.elim h
   |cont=>exact False.elim h
   |ret u=>
    obtain⟨v,H',os,bare,un,hok',r',q⟩:=h
    have q':v=.bl true:=q
    subst q'
    obtain rfl:u=Value.bool true:=r'
    refine⟨rfl,OldK.of_keep fun b o e=>?_,os,bare⟩
    cases q:H b with
    |none=>exact un.keep b o e q (by intro z;exact absurd (show b∈([]:List Addr)from z) (by simp)) (by simp)
    |some u=>
     rcases hO b with z|⟨ob,xs,z⟩
     ·rw[q]at z;cases z
     ·have z2:=un.frzs b ob _ z
      obtain⟨e1,_⟩:=hok b _ z
      obtain⟨e2,_⟩:=hok' b _ z2
      rw[e]at e1;cases e1
      exact e2
 cases hk:K.lookup a with
 |some o=>
  have e:=KX a o hk
  rw[ha]at e
  cases e
  refine core (fun _=>none) (fun _=>.inl rfl) (.inr ⟨_,vs.toArray,_,hk,rfl,rfl,rfl,by rw[List.size_toArray,lenV];exact hl,by simpa using rv⟩) (fun b u z=>by have z':(none:Option HO)=some u:=z;cases z') (fun b z=>absurd rfl z) fun z=>absurd rfl z
 |none=>
  refine core (fun b=>if b=a then some (.frz { cls:=.type "list",data:=.seq vs.toArray } (.lst (ns.map V.int)))else none) (fun b=>?_) (.inl (.inr ⟨{ cls:=.type "list",data:=.seq vs.toArray },if_pos rfl⟩)) (fun b u z=>?_) (fun b z=>?_) fun _=>hk
  ·by_cases hb:b=a
   ·exact .inr ⟨_,_,if_pos hb⟩
   ·exact .inl (if_neg hb)
  ·by_cases hb:b=a
   ·have z':=(if_pos hb).symm.trans z
    cases z'
    subst hb
    exact⟨ha,by rw[List.length_map];exact hl,vs,_,rv,ha⟩
   ·have z':=(if_neg hb).symm.trans z
    cases z'
  ·by_cases hb:b=a
   ·exact hb
   ·exact absurd (if_neg hb) z
theorem C3{l:PySem.W.OpenLaw}{n k:Nat}{q:Program}{loose:List Str}{XP:(Str->Option Value)->Heap->Prop}{YP:World->Heap->Prop}{d:DefRec}{K:Params->PySem.W.Frag}{CX:World->CXT}{sp:World->Sp}{x:Str}
  (hn:l.most=some n) (hn2:n<=sizeLine) (hdf:d.params.defaults=[]) (hr:gJ k callerA)
  (hY:∀(w:World) (h:Heap),YP w h->(K w.params).In h)
  (F:∀(w:World) (mg:Str->Option Value) (fa:Addr) (h:Heap),(K w.params).In h->h.Ns mainGlobals mg->mg d.name=some (.ref fa)->
   ∃fd:FuncData,(∀(s:Shared) (u:Value),BindsTo s fd ⟨[u],[]⟩ [(x,u)])/\
    ∀base:Heap,(K w.params).In base->base.Ns mainGlobals mg->lW l.prog w (K w.params) mg base (CX w) k fa fd [x] (sp w))
  (hsp:∀(w:World) (H:Hp) (a:Addr) (ns:List Int),ns.length<=n->LV H->SqL (K w.params) H a (ns.map V.int)->sp w [.ref a] H (fun v _=>v=.bl true) fun _ _ _=>False)
  (hCX:∀(w:World) (H:Hp) (s:Shared) (e:Value) (s':Shared),CX w [] H s (fun _ _ _=>False) e s'->False) :
  PySem.W.WalkO q loose XP YP l.row.toRowW d [] (fun f vs=>PySem.call f vs):=by
 refine Att.attach_call hn hdf fun w s₀ s₁ mg mb fa o pm cd doc a vs ns G Y ho hd hcd hmg hobj hints hlen hg=>?_
 have KX:=hY w _ Y
 obtain⟨fd,hb,hF⟩:=F w mg fa _ KX G.T.g hmg
 exact Ay KX G.T.g G.T.b G.T.builtins G.T.nolimit hg hobj hints (Nat.le_trans hlen hn2) hr hF hb (fun H hO hS=>hsp w H a ns hlen hO hS) fun H e s'=>hCX w H s₁ e s'
def fM(s:Stmt)(j:Nat):Stmt:=match s with
 |.ClassDef _ _ _ body _ _ _ _ _ _ _=>body.getD j (.Pass ⟨0,0,0,0⟩)
 |_=>.Pass ⟨0,0,0,0⟩
def jO(s:Stmt):Arguments:=match s with
 |.FunctionDef _ a _ _ _ _ _ _ _ _=>a
 |_=>{ posonlyargs:=[],args:=[],vararg:=none,kwonlyargs:=[],kw_defaults:=[],kwarg:=none,defaults:=[] }
def ej(s:Stmt):List Stmt:=match s with
 |.FunctionDef _ _ b _ _ _ _ _ _ _=>b
 |_=>[]
def ay(s:Stmt):Scope:=match s with
 |.FunctionDef _ _ _ _ _ _ sc _ _ _=>sc
 |_=>{ kind:=.function,names:=[],isGenerator:=false,isCoroutine:=false }
abbrev CX0:CXT:=fun _ _ _ _ _ _=>False
abbrev E0:XK:=fun _ _ _=>False
theorem Ac{X:Cx}:jn CX0 X E0:=fun _ _ _ _ _ _ _ h=>h.elim
structure Fun(K:PySem.W.Frag)(x qual:Str)(st:Stmt)(f:Addr)(fd:FuncData):Prop where
 ex:∃(oc:Value) (od:Option Addr) (kV doc pm:Value) (an:Option Addr) (cdv ct:Value) (osl:Array (Option Value)),
  fd=PySem.W.fnOf x qual (jO st) (ej st) (ay st) .none kV doc pm an cdv ct/\K.lookup f=some ⟨oc,od,.func fd,osl⟩/\PySem.W.codeIn K cdv qual=true
 kp:PySem.W.keepIn K (.ref f)=true
section
variable{P:Program}{w:World}{K:PySem.W.Frag}{mg:Str->Option Value}{base:Heap}
theorem Fun.ok{x qual:Str}{st:Stmt}{f:Addr}{fd:FuncData}{N ps:List Str}{k:Nat}{sp:Sp}(F:Fun K x qual st f fd)(S:aQ N ps (ay st))(len:∀vs H Q E,sp vs H Q E->vs.length=ps.length)
  (hbody:∀(cdv:Value) (A:Around) (outer:List Env) (s:Shared) (H:Hp) (vs:List V) (Q:VK) (E:XK),gJ k (A.deeper (envOfC qual (ay st) s.heap.objs.size f cdv))->sp vs H Q E->
   ∃t,PSs (uZ CX0 P w K mg base N qual (ay st) f cdv A outer s H E).nox (ej st) t/\t { nx:=fun _ H'=>Q .non H',rt:=Q } (jX N vs) H):lW P w K mg base CX0 (k+1) f fd ps sp:=by
 obtain⟨oc,od,kV,doc,pm,an,cdv,ct,osl,rfl,lk,hcd⟩:=F.ex
 refine LC lk hcd S len fun A outer s H vs Q E hr hsp=>?_
 obtain⟨t,h,q⟩:=hbody cdv A outer s H vs Q E hr hsp
 exact⟨t,h.nox,q⟩
theorem Fun.binds{x qual:Str}{st:Stmt}{f:Addr}{fd:FuncData}{ps:List Str}(F:Fun K x qual st f fd)
  (h:∀(kV doc pm:Value) (an:Option Addr) (cdv ct:Value) (us:List Value),us.length=ps.length->bindArgs (PySem.W.fnOf x qual (jO st) (ej st) (ay st) .none kV doc pm an cdv ct) ⟨us,[]⟩=pure (ps.zip us)):iB K fd ps []:=by
 obtain⟨oc,od,kV,doc,pm,an,cdv,ct,osl,rfl,lk,hcd⟩:=F.ex
 exact .all (h kV doc pm an cdv ct)
theorem BG{x qual:Str}{st:Stmt}{f:Addr}{oc:Value}{od an:Option Addr}{osl:Array (Option Value)}{kV doc pm cdv ct:Value}(l:K.lookup f=some ⟨oc,od,.func (PySem.W.fnOf x qual (jO st) (ej st) (ay st) .none kV doc pm an cdv ct),osl⟩)
  (c:PySem.W.codeIn K cdv qual=true) (k:PySem.W.keepIn K (.ref f)=true):Fun K x qual st f (PySem.W.fnOf x qual (jO st) (ej st) (ay st) .none kV doc pm an cdv ct):=⟨⟨oc,od,kV,doc,pm,an,cdv,ct,osl,rfl,l,c⟩,k⟩
end
theorem de{A:Around}{k:Nat}(hr:gJ k A):A.units+1<cLine:=Nat.lt_of_le_of_lt (Nat.add_le_add_left (by decide:1<=64) _) hr.units
theorem wQ{n:Nat}(h:n<=1000):n<sizeLine:=Nat.lt_of_le_of_lt h (by decide)
section
variable{X:Cx}
theorem pv(i:Nat){x:Str}{pos:Pos}(hN:X.N[i]?=some x:=by rfl)(hv:Vis X.env.scope x:=by first|exact Or.inl rfl|exact Or.inr (Or.inl rfl)|exact Or.inr (Or.inr rfl))(hd:(x == ("__debug__":Str))=false:=by decide)
  (hcd:(x == ("__classdict__":Str))=false:=by decide):PE X (.Name x pos) (IU i):=GJ hN hv hd hcd
theorem yK:fT X (.builtin "len") (fun xs H Q=>∃a kvs,xs=[V.ref a]/\H a=some (.dK kvs)/\Q (.int kvs.length) H):=by
 intro pins s σ H xs us Q I r h
 obtain⟨a,kvs,rfl,ha,q⟩:=h
 obtain⟨u,rfl,ru⟩:=mF r
 cases ru
 exact LJ I (.inl ha) fun t s' I'=>⟨.int kvs.length,H,I',⟨t,rfl⟩,q⟩
end
theorem EU{A B:Prop}(h:B):if false=true then A else B:=by
 rw[if_neg Bool.false_ne_true]
 exact h
theorem ET{A B:Prop}(h:A):if true=true then A else B:=by
 rw[if_pos rfl]
 exact h
def tW(H H':Hp):Prop:=∀b o,H b=some o->H' b=some o
theorem tW.refl(H:Hp):tW H H:=fun _ _ h=>h
theorem tW.trans{H H1 H2:Hp}(a:tW H H1)(b:tW H1 H2):tW H H2:=fun c o h=>b c o (a c o h)
theorem tW.free{H H':Hp}(e:tW H H'){l:Addr}(h:H' l=Option.none):H l=Option.none:=by
 cases q:H l with
 |none=>rfl
 |some o=>
  rw[e l o q]at h
  cases h
end L2
namespace OG
open PySem PySem.Spec PyProof.Rows L2
structure WE(X:Cx)(e:Expr)(t:TE):Prop where
 h:PE X e t
structure WT(X:Cx)(e:Expr)(t:TT):Prop where
 h:PT X e t
structure WW(X:Cx)(e:Expr)(t:TT):Prop where
 h:PW X e t
structure WA(X:Cx)(es:List Expr)(t:TA):Prop where
 h:PA X es t
structure WS(X:Cx)(st:Stmt)(t:TS):Prop where
 h:PS X st t
structure WSs(X:Cx)(st:List Stmt)(t:TS):Prop where
 h:PSs X st t
structure WI(X:Cx)(tg iter:Expr)(wi:TI):Prop where
 h:PI X tg iter wi
structure WG(X:Cx)(target:Expr)(t:TG):Prop where
 h:PG X target t
structure WGs(X:Cx)(ts:List Expr)(t:TGs):Prop where
 h:PGs X ts t
structure WC(X:Cx)(op:CmpOp)(a b:Expr)(t:TE):Prop where
 h:PC X op a b t
structure WO(X:Cx)(e:Option Expr)(t:TO):Prop where
 h:PO X e t
section
variable{X:Cx}
theorem ag{i j pos}:WE X (.Constant (.int i) j pos) (tC (.int i)):=⟨GQ ⟩
end
section
variable{X:Cx}
theorem eD{b j pos}:WE X (.Constant (.bool b) j pos) (tC (.bl b)):=⟨KJ ⟩
end
section
variable{X:Cx}
theorem gK{j pos}:WE X (.Constant .none j pos) (tC .non):=⟨GO ⟩
end
section
variable{X:Cx}
theorem aC{x j pos}:WE X (.Constant (.str x) j pos) (tC (.str x)):=⟨GL ⟩
end
section
variable{X:Cx}
variable{a b:Expr}{ta tb:TE}{pos:Pos}
theorem sg{op:CmpOp}{t:TE}(h:WC X op a b t)(h1:behindInMarks op b=false:=by first|exact nobehind _ (by decide) (by decide)|rfl):WT X (.Compare a [op] [b] pos) (tB t):=⟨Gz h.h h1⟩
end
section
variable{X:Cx}
variable{a b:Expr}{ta tb:TE}{pos:Pos}
theorem CK{e:Expr}{t:TE}(h:WE X e t)(he:∀whole,isTrue e X.env whole=(do let v <-whole;standAt e.pos;holding [v] (truthy v)):=by intro _;rfl):WT X e (tB t):=⟨Gx h.h he⟩
end
section
variable{X:Cx}
variable{a b:Expr}{ta tb:TE}{pos:Pos}
variable{tA tB':TT}{rest:List Expr}
theorem zf(ha:WT X a tA):WW X (.BoolOp .And [a] pos) tA:=⟨Du ha.h⟩
end
section
variable{X:Cx}
variable{a b:Expr}{ta tb:TE}{pos:Pos}
variable{tA tB':TT}{rest:List Expr}
theorem CH(ha:WT X a tA):WW X (.BoolOp .Or [a] pos) tA:=⟨Gv ha.h⟩
end
section
variable{X:Cx}
variable{a b:Expr}{ta tb:TE}{pos:Pos}
variable{tA tB':TT}{rest:List Expr}
theorem CJ(ha:WT X a tA)(hb:WW X (.BoolOp .And (b::rest) pos) tB'):WW X (.BoolOp .And (a::b::rest) pos) (L8 tA tB'):=⟨Gw ha.h hb.h⟩
end
section
variable{X:Cx}
variable{a b:Expr}{ta tb:TE}{pos:Pos}
variable{tA tB':TT}{rest:List Expr}
theorem FX(ha:WT X a tA)(hb:WW X (.BoolOp .Or (b::rest) pos) tB'):WW X (.BoolOp .Or (a::b::rest) pos) (tOr tA tB'):=⟨Kz ha.h hb.h⟩
end
section
variable{X:Cx}
variable{a b:Expr}{ta tb:TE}{pos:Pos}
variable{tA tB':TT}{rest:List Expr}
theorem CL(ha:WT X a tA):WT X (.UnaryOp .Not a pos) (L4 tA):=⟨Gy ha.h⟩
end
section
variable{X:Cx}
variable{a b:Expr}{ta tb:TE}{pos:Pos}
variable{tA tB':TT}{rest:List Expr}
theorem CU{op}{t:TE}(h:WE X a t):WE X (.BoolOp op [a] pos) t:=⟨GN h.h⟩
end
section
variable{X:Cx}
variable{a b:Expr}{ta tb:TE}{pos:Pos}
variable{tA tB':TT}{rest:List Expr}
theorem CW(ha:WE X a ta)(hb:WE X (.BoolOp .And (b::rest) pos) tb):WE X (.BoolOp .And (a::b::rest) pos) (Gf ta tb):=⟨GS ha.h hb.h⟩
end
section
variable{X:Cx}{st:Stmt}{rest:List Stmt}{t u:TS}{e:Expr}{te:TE}{pos:Pos}
theorem zg :WSs X [] F5:=⟨Dx ⟩
end
section
variable{X:Cx}{st:Stmt}{rest:List Stmt}{t u:TS}{e:Expr}{te:TE}{pos:Pos}
theorem qt(h1:WS X st t)(h2:WSs X rest u):WSs X (st::rest) (L1 t u):=⟨z3 h1.h h2.h⟩
end
section
variable{X:Cx}{st:Stmt}{rest:List Stmt}{t u:TS}{e:Expr}{te:TE}{pos:Pos}
theorem uc(h1:WS X st t):WSs X [st] t:=⟨Dw h1.h⟩
end
section
variable{X:Cx}{st:Stmt}{rest:List Stmt}{t u:TS}{e:Expr}{te:TE}{pos:Pos}
theorem zh(he:WE X e te)(hs:swapsWith e none pos.line X.env=pure false:=by rfl):WS X (.Expr e pos) (F8 te):=⟨Dy he.h hs⟩
end
section
variable{X:Cx}{st:Stmt}{rest:List Stmt}{t u:TS}{e:Expr}{te:TE}{pos:Pos}
theorem wo(he:WE X e te):WS X (.Return (some e) pos) (L3 te):=⟨GB he.h⟩
end
section
variable{X:Cx}{st:Stmt}{rest:List Stmt}{t u:TS}{e:Expr}{te:TE}{pos:Pos}
theorem FY{c:Expr}{a b:List Stmt}{tc:TT}(hc:WT X c tc)(ha:WSs X a t)(hb:WSs X b u):WS X (.If c a b pos) (L6 tc t u):=⟨KA hc.h ha.h hb.h⟩
end
section
variable{X:Cx}{pos:Pos}
theorem bh{i:Nat}{x:Str}(hN:X.N.Nodup)(hi:X.N[i]?=some x)(hx:Loc X.env.scope x)(hf:X.fn x=true\/X.env.scope.names.lookup x=some .local:=by first|exact .inl rfl|exact .inr rfl|assumption):WG X (.Name x pos) (vI i):=⟨DJ hN hi hx hf⟩
end
section
variable{X:Cx}{pos:Pos}
theorem zm :WGs X [] Mr:=⟨DI ⟩
end
section
variable{X:Cx}{pos:Pos}
theorem wu{e:Expr}{es:List Expr}{t:TG}{u:TGs}(h1:WG X e t)(h2:WGs X es u)(hs:(assignEach (e::es) X.env).map (·.2)=assign e X.env::(assignEach es X.env).map (·.2):=by rfl):WGs X (e::es) (Im t u):=⟨z7 h1.h h2.h hs⟩
end
section
variable{X:Cx}{pos:Pos}
theorem CO{es:List Expr}{k:Nat}{t:TGs}{n:Nat}(hc:X.calm=true)(h:WGs X es t)(hn:(assignEach es X.env).length=n:=by rfl)(hst:(assignEach es X.env).findIdx? (·.1)=none:=by rfl):WG X (.Tuple es k pos) (Mp X.K n t):=⟨GH hc h.h hn hst⟩
end
section
variable{X:Cx}{pos:Pos}
theorem CP {o i : Expr} {to ti : TE} {t : Je} (ho : WE X o to) (hi : WE X i ti) (hs : LU X t) (ha : ∀ v, assign (.Subscript o i pos) X.env v = (do
   let ov <-holding [v] (eval o X.env)
   let iv <-holding [v,ov] (eval i X.env)
   standAt pos
   holding [v,ov,iv] (setItem ov iv v)
   release [v,ov,iv] []):=by intro _;rfl):WG X (.Subscript o i pos) (Mq to ti t):=⟨GI ho.h hi.h hs ha⟩
end
section
variable{X:Cx}{pos:Pos}
theorem wq{tg e:Expr}{te:TE}{g:TG}(he:WE X e te)(hg:WG X tg g)(hs:swapsWithSole [tg] e pos.line X.env=pure false:=by rfl)(hw:swappedStores [tg] e X.env=pure none:=by rfl)(h1:(assignEach [tg] X.env).map (·.2)=[assign tg X.env]:=by rfl):WS X (.Assign [tg] e pos) (Ge te g):=⟨GF he.h hg.h hs hw h1⟩
end
section
variable{X:Cx}{pos:Pos}
theorem wm{i:Nat}{x:Str}{e:Expr}{te:TE}{pos':Pos}(hN:X.N.Nodup)(hi:X.N[i]?=some x)(hx:Loc X.env.scope x)(he:WE X e te)(hs:swapsWith e (some (.Name x pos')) pos.line X.env=pure false:=by rfl)(hf:X.fn x=true\/X.env.scope.names.lookup x=some .local:=by first|exact .inl rfl|exact .inr rfl|assumption):WS X (.Assign [.Name x pos'] e pos) (Ge te (vI i)):=⟨GA hN hi hx he.h hs hf⟩
end
section
variable{X:Cx}{pos:Pos}
theorem wk{c:Expr}{body:List Stmt}{tc:TT}{tb:TS}(hp:PassesOwn (model X.prog X.w) X.A X.env X.xe)(hc:WT X c tc)(hb:WSs X body tb):WS X (.While c body [] pos) (wI tc tb):=⟨z4 hp hc.h hb.h⟩
end
section
variable{X:Cx}{tg:Expr}
theorem zj{l:Expr}{tl:TE}(hl:WE X l tl):WI X tg l (Ih X.K tl):=⟨DH hl.h⟩
end
section
variable{X:Cx}{tg:Expr}
theorem CN{l:Expr}{tl:TE}(hl:WE X l tl):WI X tg l (Mo X.K tl):=⟨GG hl.h⟩
end
section
variable{X:Cx}{tg:Expr}
theorem vi{a:Expr}{ta:TA}{p pos:Pos}(hg:Gl X "range")(hm:X.mg "range"=none)(ha:WA X [a] ta)(hs:starEach [a] X.env=[(false,eval a X.env)]:=by rfl):WI X tg (.Call (.Name "range" p) [a] [] pos) (Ig ta):=⟨xi hg hm ha.h hs⟩
end
section
variable{X:Cx}{tg:Expr}
theorem sh{iter:Expr}{body:List Stmt}{wi:TI}{g:TG}{tb:TS}{pos:Pos}(hp:PassesOwn (model X.prog X.w) X.A X.env X.xe)(hc:X.calm=true)(hi:WI X tg iter wi)(hg:WG X tg g)(hb:WSs X body tb)(hs:∀x,foldedSetIterable iter X.env x=pure x:=by intro _;rfl):WS X (.For tg iter body [] pos) (F7 wi g tb):=⟨GC hp hc hi.h hg.h hb.h hs⟩
end
section
variable{X:Cx}{a b c:Expr}{ta tb tc:TE}{pos:Pos}
theorem FZ{op:Operator}{r:R2}(ho:OpR X (binaryOp op) r)(ha:WE X a ta)(hb:WE X b tb):WE X (.BinOp a op b pos) (tOp r ta tb):=⟨KG ho ha.h hb.h⟩
end
section
variable{X:Cx}{a b c:Expr}{ta tb tc:TE}{pos:Pos}
theorem zu{op:CmpOp}{r:R2}(ho:OpR X (compareOp op) r)(ha:WE X a ta)(hb:WE X b tb)(hm:behindInMarks op b=false):WE X (.Compare a [op] [b] pos) (tOp r ta tb):=⟨DO ho ha.h hb.h hm⟩
end
section
variable{X:Cx}{a b c:Expr}{ta tb tc:TE}{pos:Pos}
theorem ph{op:CmpOp}{r:R2}(ho:OpR X (compareOp op) r)(ha:WE X a ta)(hb:WE X b tb)(hm:behindInMarks op b=false):WT X (.Compare a [op] [b] pos) (zH (tOp r ta tb)):=⟨Dv ho ha.h hb.h hm⟩
end
section
variable{X:Cx}{a b c:Expr}{ta tb tc:TE}{pos:Pos}
theorem wj{op op':CmpOp}{r r':R2}(ho:OpR X (compareOp op) r)(ho':OpR X (compareOp op') r')(ha:WE X a ta)(hb:WE X b tb)(hc:WE X c tc)(hm:lastMarks [op,op'] [b,c]=false:=by with_unfolding_all rfl):WT X (.Compare a [op,op'] [b,c] pos) (zH (wL r r' ta tb tc)):=⟨zZ ho ho' ha.h hb.h hc.h hm⟩
end
section
variable{X:Cx}{o e value:Expr}{f:Str}{pos pos' tpos:Pos}{ta tv:TE}
theorem CV(he:WE X e ta)(hb:attributeBase e f X.env (eval e X.env)=eval e X.env):WE X (.Attribute e f pos) (L7 X.K ta f):=⟨GR he.h hb⟩
end
section
variable{X:Cx}{o e value:Expr}{f:Str}{pos pos' tpos:Pos}{ta tv:TE}
theorem CM(ha:WE X o ta)(hv:WE X value tv)(hs:swapsWith value (some (.Attribute o f pos')) pos.line X.env=pure false):WS X (.Assign [.Attribute o f pos'] value pos) (L9 X.K ta tv f):=⟨GD ha.h hv.h hs⟩
end
section
variable{X:Cx}{e:Expr}{es:List Expr}{te:TE}{t:TA}{pos:Pos}
theorem kF :WA X [] IV:=⟨GW ⟩
end
section
variable{X:Cx}{e:Expr}{es:List Expr}{te:TE}{t:TA}{pos:Pos}
theorem fu(ha:WE X e te)(hr:WA X es t)(hs:starEach (e::es) X.env=(false,eval e X.env)::starEach es X.env:=by rfl):WA X (e::es) (Gb te t):=⟨DR ha.h hr.h hs⟩
end
section
variable{X:Cx}{e:Expr}{es:List Expr}{te:TE}{t:TA}{pos:Pos}
theorem CQ{x1}(h:WA X es t):WE X (.Tuple es x1 pos) (L0 t):=⟨GK h.h⟩
end
section
variable{X:Cx}{e:Expr}{es:List Expr}{te:TE}{t:TA}{pos:Pos}
theorem wy(h:WA X es t):WE X (.List es pos) (L5 t):=⟨GP h.h⟩
end
section
variable{X:Cx}{CX:CXT}{k:Nat}{f C:Addr}{fd:FuncData}{ps:List Str}{sp:Sp}{dvs:List V}{ds:List Value}{E:XK}{x m:Str}{p pos apos:Pos}{e o:Expr}{es:List Expr}{ta:TE}{t:TA}
theorem zo {pl : Sem Bool} (he : WE X o ta) (c : Cls X.K C) (hm : ER X.K C m f) (F : lW X.prog X.w X.K X.mg X.base CX k f fd ps sp) (hr : gJ k X.A) (hb : iB X.K fd ps ds) (hd : cI dvs ds) (hx : jn CX X E) (ha : WA X (e :: es) t) (hst : starEach (e :: es) X.env = (false, eval e X.env) :: starEach es X.env := by rfl) (hpl : (backTo pos (starEach es X.env)).any (·.1) = false := by rfl) (ht : eval (.Call (.Attribute o m apos) (e :: es) [] pos) X.env = (do
   let ov <-eval o X.env
   standAt apos.atName
   let (f,first) <-holding [ov] (getMethod ov m pl)
   callWith pos f first (backTo pos (starEach (e::es) X.env)) (backToKw pos (keywordEach [] X.env))):=by rfl):WE X (.Call (.Attribute o m apos) (e::es) [] pos) (wK C m sp dvs E ta t):=⟨DK he.h c hm F hr hb hd hx ha.h hst hpl ht⟩
end
section
variable{X:Cx}{CX:CXT}{k:Nat}{f C:Addr}{fd:FuncData}{ps:List Str}{sp:Sp}{dvs:List V}{ds:List Value}{E:XK}{x m:Str}{p pos apos:Pos}{e o:Expr}{es:List Expr}{ta:TE}{t:TA}
theorem wx {pl : Sem Bool} (he : WE X o ta) (c : Cls X.K C) (hm : ER X.K C m f) (F : lW X.prog X.w X.K X.mg X.base CX k f fd ps sp) (hr : gJ k X.A) (hb : iB X.K fd ps ds) (hd : cI dvs ds) (hx : jn CX X E) (ht : eval (.Call (.Attribute o m apos) [] [] pos) X.env = (do
   let ov <-eval o X.env
   standAt apos.atName
   let (f,first) <-holding [ov] (getMethod ov m pl)
   callWith pos f first (backTo pos (starEach [] X.env)) (backToKw pos (keywordEach [] X.env))):=by rfl):WE X (.Call (.Attribute o m apos) [] [] pos) (wK C m sp dvs E ta IV):=⟨z9 he.h c hm F hr hb hd hx ht⟩
end
section
variable{X:Cx}{CX:CXT}{k:Nat}{f C:Addr}{fd:FuncData}{ps:List Str}{sp:Sp}{dvs:List V}{ds:List Value}{E:XK}{x m:Str}{p pos apos:Pos}{e o:Expr}{es:List Expr}{ta:TE}{t:TA}
theorem zp(M:Mk X.K C f)(F:lW X.prog X.w X.K X.mg X.base CX k f fd ps sp)(hr:gJ (k+1) X.A)(hg:Gl X x)(hm:X.mg x=some (.ref C))(hb:iB X.K fd ps ds)(hd:cI dvs ds)(hx:jn CX X E)(ha:WA X (e::es) t)(hdb:(x == ("__debug__":Str))=false:=by decide)(he:starEach (e::es) X.env=(false,eval e X.env)::starEach es X.env:=by rfl)(hpl:(backTo pos (starEach es X.env)).any (·.1)=false:=by rfl):WE X (.Call (.Name x p) (e::es) [] pos) (C5 C sp dvs E t):=⟨DL M F hr hg hm hb hd hx ha.h hdb he hpl⟩
end
section
variable{X:Cx}{x:Str}{p pos:Pos}{e:Expr}{es:List Expr}{t:TA}{id T:String}{r:List V->Hp->VK->Prop}
theorem qw(hc:fT X (.builtin id) r)(hg:Gl X x)(hm:X.mg x=none)(hv:bootBuiltins x=some (.builtin id))(ha:WA X (e::es) t)(hn:x≠"__name__":=by decide)(hdb:(x == ("__debug__":Str))=false:=by decide)(he:starEach (e::es) X.env=(false,eval e X.env)::starEach es X.env:=by rfl)(hpl:(backTo pos (starEach es X.env)).any (·.1)=false:=by rfl):WE X (.Call (.Name x p) (e::es) [] pos) (tCB r t):=⟨Ab hc hg hm hv ha.h hn hdb he hpl⟩
end
section
variable{X:Cx}{x:Str}{p pos:Pos}{e:Expr}{es:List Expr}{t:TA}{id T:String}{r:List V->Hp->VK->Prop}
theorem oz(hc:fT X (.type T) r)(hg:Gl X x)(hm:X.mg x=none)(hv:bootBuiltins x=some (.type T))(ha:WA X (e::es) t)(hn:x≠"__name__":=by decide)(hdb:(x == ("__debug__":Str))=false:=by decide)(he:starEach (e::es) X.env=(false,eval e X.env)::starEach es X.env:=by rfl)(hpl:(backTo pos (starEach es X.env)).any (·.1)=false:=by rfl):WE X (.Call (.Name x p) (e::es) [] pos) (tCB r t):=⟨xj hc hg hm hv ha.h hn hdb he hpl⟩
end
section
variable{X:Cx}{e:Expr}{te:TE}{lo hi:Option Expr}{tl th:TO}{pos p2:Pos}
theorem ue :WO X none wJ:=⟨DD ⟩
end
section
variable{X:Cx}{e:Expr}{te:TE}{lo hi:Option Expr}{tl th:TO}{pos p2:Pos}
theorem ud(h:WE X e te):WO X (some e) (F3 te):=⟨DC h.h⟩
end
section
variable{X:Cx}{e:Expr}{te:TE}{lo hi:Option Expr}{tl th:TO}{pos p2:Pos}
theorem qv{r:V->Option Int->Option Int->Hp->VK->Prop}(hr:SlR X r)(he:WE X e te)(hl:WO X lo tl)(hu:WO X hi th):WE X (.Subscript e (.Slice lo hi none p2) pos) (tSl r te tl th):=⟨z8 hr he.h hl.h hu.h⟩
end
section
variable{X:Cx}{a b:Expr}{ta tb:TE}{pos:Pos}
theorem F0{r:R2}(hr:IxR X r)(ha:WE X a ta)(hb:WE X b tb)(hs:tX b):WE X (.Subscript a b pos) (tOp r ta tb):=⟨KH hr ha.h hb.h hs⟩
end
section
variable{X:Cx}{a b:Expr}{ta tb:TE}{pos:Pos}
variable{o e:Expr}{es:List Expr}{to:TE}{t:TA}{name:Str}{apos cpos:Pos}{T id:String}{r:V->List V->Hp->VK->Prop}
theorem Bi (pa : PlainAttrs T) (slot : Slot T name id) (hty : typeOf (.builtin id) = pure (.type "method_descriptor")) (hm : MtR X id r) (ho : WE X o to) (ha : WA X (e :: es) t) (hbase : attributeBase o name X.env (eval o X.env) = eval o X.env := by rfl) (hfew : ((backTo cpos (starEach (e :: es) X.env)).all (fun x => !x.1) && (backToKw cpos (keywordEach [] X.env)).all (fun x => x.1.isSome)
   && decide ((e::es).length+([]:List Keyword).length+(if ([]:List Keyword).isEmpty then 0 else 1)<30))=true:=by rfl) (hline:(apos.endLine == cpos.line)=true:=by rfl) (hs:starEach (e::es) X.env=(false,eval e X.env)::starEach es X.env:=by rfl) (hplain:(backTo cpos (starEach es X.env)).any (·.1)=false:=by rfl):WE X (.Call (.Attribute o name apos) (e::es) [] cpos) (tBM X.K T r to t):=⟨KI pa slot hty hm ho.h ha.h hbase hfew hline hs hplain⟩
end
section
variable{X:Cx}{o i e value:Expr}{pos pos' tpos:Pos}{td ty tv:TE}
theorem zr(hu:X.A.units+1<cLine)(ho:WE X o td)(hi:WE X i ty)(hs:E3 i):WE X (.Subscript o i pos) (Ga td ty):=⟨DN hu ho.h hi.h hs⟩
end
section
variable{X:Cx}{o i e value:Expr}{pos pos' tpos:Pos}{td ty tv:TE}
theorem CY(hu:X.A.units+1<cLine)(hi:WE X i ty)(ho:WE X o td):WC X .In i o (Km ty td):=⟨GU hu hi.h ho.h⟩
end
section
variable{X:Cx}{o i e value:Expr}{pos pos' tpos:Pos}{td ty tv:TE}
theorem vk(hu:X.A.units+1<cLine)(hi:WE X i ty)(ho:WE X o td):WC X .NotIn i o (sv ty td):=⟨xk hu hi.h ho.h⟩
end
section
variable{X:Cx}{o i e value:Expr}{pos pos' tpos:Pos}{td ty tv:TE}
theorem zi(hu:X.A.units+1<cLine)(ho:WE X o td)(hi:WE X i ty)(hv:WE X value tv)(hs:swapsWith value (some (.Subscript o i pos')) pos.line X.env=pure false):WS X (.Assign [.Subscript o i pos'] value pos) (Gk td ty tv):=⟨Dz hu ho.h hi.h hv.h hs⟩
end
section
variable{X:Cx}{pos:Pos}
theorem wz :WE X (.Dict [] [] pos) Bk:=⟨Aa ⟩
end
section
theorem zq{X:Cx}{pos:Pos}{keys:List (Option Expr)}{values:List Expr}{trs:List (TE×TE)}(h:PPs X pos keys values trs)(hall:keys.all (·.isSome)=true)(hl:keys.length=values.length)(h0:keys≠[])(h15:keys.length<=15):WE X (.Dict keys values pos) (F9 trs):=⟨DM h hall hl h0 h15⟩
end
section
variable{X:Cx}
theorem wpv(i:Nat){x:Str}{pos:Pos}(hN:X.N[i]?=some x:=by rfl)(hv:Vis X.env.scope x:=by first|exact Or.inl rfl|exact Or.inr (Or.inl rfl)|exact Or.inr (Or.inr rfl))(hd:(x == ("__debug__":Str))=false:=by decide)(hcd:(x == ("__classdict__":Str))=false:=by decide):WE X (.Name x pos) (IU i):=⟨pv i hN hv hd hcd⟩
end
theorem WW.pt{X:Cx}{e:Expr}{t:TT}(h:WW X e t):WT X e t:=⟨h.h.pt⟩
section
variable{X:Cx}{a b c e:Expr}{ta tb tc:TE}{pos:Pos}
def vW(i j:Int):Prop:=0<j/\j.natAbs.log2<9000
theorem pM:OpR X (binaryOp .FloorDiv) (rI vW fun i j=>.int (i / j)):=opI fun i j _ _ _ _ _ hc q=>by
 refine PyProof.Rows.floordiv_int (by have:=hc.1;omega) ?_ (.inl (PyProof.noPylong_of_log2 hc.2))
 rw[Int.fdiv_eq_ediv_of_nonneg i (Int.le_of_lt hc.1)]
 exact q
theorem tN:fT X (.builtin "isinstance") (fun xs H Q=>∃(x:V) (T:String) (t:Value) (k:Bool),xs=[x,.ty T]/\ve X.K H x t/\PySem.W.kitOne X.K t (.type T)=some k/\Q (.bl k) H):=by
 rintro pins s σ H xs us Q I r ⟨x,T,t,k,rfl,ty,e,q⟩
 obtain⟨u,w',rfl,ru,rw'⟩:=C4 r
 cases rw'
 exact xU I ru ty e fun tk=>⟨.bl k,H,I.tok tk,rfl,q⟩
end
theorem d6{H:Hp}{p:Addr}(h:H p=none)(o:HO):tW H (upd H p o):=fun b u q=>by rw[bP (cV q h)];exact q
def Def(K:PySem.W.Frag)(mg:Str->Option Value)(x:Str)(st:Stmt)(ps:List Str):Prop:=
 ∃f fd,Fun K x x st f fd/\iB K fd ps []/\mg x=some (.ref f)
def Has(P:Program)(w:World)(K:PySem.W.Frag)(mg:Str->Option Value)(base:Heap)(x:Str)(k:Nat)(ps:List Str)(sp:Sp):Prop:=
 ∃f fd,lW P w K mg base CX0 k f fd ps sp/\iB K fd ps []/\PySem.W.keepIn K (.ref f)=true/\mg x=some (.ref f)
section
variable{P:Program}{w:World}{K:PySem.W.Frag}{mg:Str->Option Value}{base:Heap}{x:Str}{st:Stmt}{ps N:List Str}{k j:Nat}{sp sp':Sp}
theorem Has.mono(h:Has P w K mg base x j ps sp)(l:j<=k):Has P w K mg base x k ps sp:=by
 obtain⟨f,fd,a,b,c,d⟩:=h
 exact⟨f,fd,a.mono l,b,c,d⟩
theorem Def.has(d:Def K mg x st ps)(S:aQ N ps (ay st))(len:∀vs H Q E,sp vs H Q E->vs.length=ps.length)
  (hbody:∀(f:Addr) (cdv:Value) (A:Around) (outer:List Env) (s:Shared) (H:Hp) (vs:List V) (Q:VK) (E:XK),gJ k (A.deeper (envOfC x (ay st) s.heap.objs.size f cdv))->sp vs H Q E->
   ∃t,WSs (uZ CX0 P w K mg base N x (ay st) f cdv A outer s H E).nox (ej st) t/\t { nx:=fun _ H'=>Q .non H',rt:=Q } (jX N vs) H):Has P w K mg base x (k+1) ps sp:=by
 obtain⟨f,fd,F,b,m⟩:=d
 exact⟨f,fd,F.ok S len (fun cdv A outer s H vs Q E hr h=>let ⟨t,a,b⟩:=hbody f cdv A outer s H vs Q E hr h;⟨t,a.h,b⟩),b,F.kp,m⟩
theorem Def.none(d:Def K mg x st ps)(no:∀vs H Q E,¬sp vs H Q E):Has P w K mg base x k ps sp:=by
 obtain⟨f,fd,F,b,m⟩:=d
 exact⟨f,fd,⟨fun vs H Q E h=>absurd h (no vs H Q E),fun A outer s H args us vs Q E _ _ _ _ h=>absurd h (no vs H Q E)⟩,b,F.kp,m⟩
end
theorem Bh{X:Cx}{k:Nat}{ps:List Str}{sp:Sp}{x:Str}{p pos:Pos}{e:Expr}{es:List Expr}{t:TA}(F:Has X.prog X.w X.K X.mg X.base x k ps sp)(hr:gJ k X.A)(hg:Gl X x)
  (ha:WA X (e::es) t) (hdb:(x == ("__debug__":Str))=false:=by decide) (he:starEach (e::es) X.env=(false,eval e X.env)::starEach es X.env:=by rfl) (hpl:(backTo pos (starEach es X.env)).any (·.1)=false:=by rfl) :
  WE X (.Call (.Name x p) (e::es) [] pos) (Gd sp [] E0 t):=by
 obtain⟨f,fd,a,b,c,d⟩:=F
 exact⟨DP a hr hg d c b .nil Ac ha.h hdb he hpl⟩
structure Blt(mg:Str->Option Value):Prop where
 len:mg "len"=none
 isinstance:mg "isinstance"=none
 int:mg "int"=none
 bool:mg "bool"=none
 str:mg "str"=none
 tuple:mg "tuple"=none
 list:mg "list"=none
 range:mg "range"=none
 min:mg "min"=none
 sum:mg "sum"=none
 all:mg "all"=none
 zip:mg "zip"=none
 sorted:mg "sorted"=none
 dict:mg "dict"=none
 enumerate:mg "enumerate"=none
 any:mg "any"=none
 max:mg "max"=none
 set:mg "set"=none
theorem qG{n:Nat}(h:n<=1000):n<=sizeLine:=Nat.le_of_lt (wQ h)
theorem vD{n:Nat}(h:n<2^60):n.log2<1920:=by
 by_cases e:n=0
 ·subst e;decide
 ·have:=(Nat.log2_lt e).mpr h;omega
theorem AZ(ns:List Int)(lo hi:Option Int):yA (ns.map V.int) lo hi=((ns.drop (HT.sIx (ns.map V.int).length 0 lo)).take (HT.sIx (ns.map V.int).length (ns.map V.int).length hi-HT.sIx (ns.map V.int).length 0 lo)).map V.int:=by
 unfold yA
 rw[List.map_take,List.map_drop]
def zK(K:PySem.W.Frag):Sp:=fun vs H Q _=>∃(a:Addr) (ns:List Int),vs=[.ref a]/\SqL K H a (ns.map V.int)/\ns.length<=63/\∀H',Q (.bl true) H'
theorem mC:bootBuiltins "int"=some (.type "int"):=rfl
theorem yQ:bootBuiltins "bool"=some (.type "bool"):=rfl
theorem A8:bootBuiltins "str"=some (.type "str"):=rfl
theorem dX:bootBuiltins "tuple"=some (.type "tuple"):=rfl
theorem eB:bootBuiltins "list"=some (.type "list"):=rfl
theorem nJ:bootBuiltins "isinstance"=some (.builtin "isinstance"):=rfl
theorem u9:bootBuiltins "min"=some (.builtin "min"):=rfl
theorem gZ:bootBuiltins "sorted"=some (.builtin "sorted"):=rfl
theorem qu{X:Cx}{x:Str}{T:String}{pos:Pos}(hg:Gl X x)(hm:X.mg x=none)(hv:bootBuiltins x=some (.type T))(hn:x≠"__name__":=by decide)(hd:(x == ("__debug__":Str))=false:=by decide):WE X (.Name x pos) (tC (.ty T)):=
 ⟨DQ hg hm hv rfl hn hd⟩
theorem lS{α:Type}{xs:List α}{k:Int}{v:α}(h0:0<=k)(h:xs[k.toNat]?=some v):atI xs k=some v:=by
 have ek:k=((k.toNat:Nat):Int):=by omega
 rw[ek];exact nN h
theorem Fun.okW{P:Program}{w:World}{K:PySem.W.Frag}{mg:Str->Option Value}{base:Heap}{x qual:Str}{st:Stmt}{f:Addr}{fd:FuncData}{N ps:List Str}{k:Nat}{sp:Sp}(F:Fun K x qual st f fd)(S:aQ N ps (ay st))(len:∀vs H Q E,sp vs H Q E->vs.length=ps.length)
  (hbody:∀(cdv:Value) (A:Around) (outer:List Env) (s:Shared) (H:Hp) (vs:List V) (Q:VK) (E:XK),gJ k (A.deeper (envOfC qual (ay st) s.heap.objs.size f cdv))->sp vs H Q E->
   ∃t,WSs (uZ CX0 P w K mg base N qual (ay st) f cdv A outer s H E).nox (ej st) t/\t { nx:=fun _ H'=>Q .non H',rt:=Q } (jX N vs) H):lW P w K mg base CX0 (k+1) f fd ps sp:=
 F.ok S len fun cdv A outer s H vs Q E hr h=>let ⟨t,a,b⟩:=hbody cdv A outer s H vs Q E hr h;⟨t,a.h,b⟩
def vX(env:Env):List (Str×Addr)->Prop
 |[]=>True
 |p::r=>env.cells.lookup p.1=some p.2/\vX env r
theorem vX.look{env:Env}:∀{cl:List (Str×Addr)} {y:Str} {c:Addr},vX env cl->cl.lookup y=some c->env.cells.lookup y=some c
 |[],_,_,_,h=>by simp at h
 |(n,d)::r,y,c,a,h=>by
  obtain⟨a1,a2⟩:=a
  rw[List.lookup_cons]at h
  by_cases e:(y == n)=true
  ·rw[e]at h
   have e':y=n:=by simpa using e
   subst e'
   cases h
   exact a1
  ·have e':(y == n)=false:=by simpa using e
   rw[e']at h
   exact vX.look a2 h
abbrev cxC(X:Cx)(Nc:List Str)(scope:Scope)(cl:List (Str×Addr))(s3:Shared)(H3:Hp)(fp:List Addr):Cx where
 prog:=X.prog
 w:=X.w
 K:=X.K
 mg:=X.mg
 base:=X.base
 A:=X.A
 N:=Nc
 s₀:=s3
 H₀:=H3
 env:=compEnvC scope cl s3.heap.objs.size X.env
 outer:=X.stack
 stack:=X.stack
 ex:=fp
 fn:=fun _=>false
 calm:=X.calm
 pn:=[]
 xe:=fun _ _=>False
def stC(n:Nat)(caps:List Nat)(σ:L2.St):L2.St:=List.replicate n none++caps.map fun i=>(σ[i]?).getD none
def C6(wi:TI)(g:TG)(te:TE)(n:Nat)(caps:List Nat):TE:=fun σ H Q=>wi σ H fun J H1=>∀l,H1 l=none->∃W:Nat->Nat->L2.St->Hp->Prop,(∃m,W 0 m (stC n caps σ) (upd H1 l (.lst [])))/\
 ∀i m σ' H2,W i m σ' H2->(J.stop i H2/\Q (.ref l) H2)\/(J.go i H2/\∃N:L2.St->Hp->Prop,(∀σ'' H',N σ'' H'->∃m',m'<m/\W (i+1) m' σ'' H')/\
  ∀x H3,J.yld i H2 x H3->g x σ' H3 fun σ2 H4=>te σ2 H4 fun v H5=>∃ys,H5 l=some (.lst ys)/\ys.length<sizeLine/\N σ2 (upd H5 l (.lst (ys++[v]))))
theorem rK{prog:Program}{w:World}{A:Around}{R:Result->Shared->Prop}{s:Shared}{elt target iter:Expr}{scope:Scope}{pos:Pos}{it acc:Value}{env:Env}(I:Nat->Shared->Prop)
  (turn:∀n s,I n s->wpAny (model prog w) A (pyNext it) (fun r s₁=>match r with
   |none=>R (.ok .next) s₁
   | some v=>wpAny (model prog w) A (letOwnedTupleGo target it v) (fun _ s₁'=>wpAny (model prog w) A (assign target env v) (fun _ s₂=>wpAny (model prog w) A (eval elt env) (fun x s₃=>
     wpAny (model prog w) A (call (.builtin "list.append") [acc,x]) (fun _ s₄=>∃m,m<n/\I m s₄) (fun _ _=>False) s₃)
     (fun _ _=>False) s₂) (fun _ _=>False) s₁') (fun _ _=>False) s₁) (fun _ _=>False) s)
  (n:Nat) (h:I n s) :
  codeAny (model prog w) A (.compLoop (.ListComp elt [⟨target,iter,[],0⟩] scope pos) 0 it acc env) R s:=by
 refine codeAny_loop rfl I (fun n s hI=>?_) n h
 show wpAny _ _ ((compTurn (.ListComp elt [⟨target,iter,[],0⟩] scope pos) 0 it acc env).onRaise (fun x=>do noteFrame x env;theTreesLotGoes x)) _ _ s
 refine wpAny_noted ?_
 rw[compTurn_list1]
 refine wpAny_bind (wpAny_standAt (wpAny_bind (wpAny_mono (turn n s hI) (fun r s₁ h₁=>?_) fun _ _ h'=>h'.elim)))
 cases r with
 |none=>exact wpAny_pure h₁
 |some v=>
  refine wpAny_bind (wpAny_mono h₁ (fun _ s₁' h₁'=>?_) fun _ _ h'=>h'.elim)
  exact wpAny_bind (wpAny_mono h₁' (fun _ s₂ h₂=>wpAny_bind (wpAny_bind (wpAny_mono h₂ (fun x s₃ h₃=>wpAny_bind (wpAny_mono h₃
   (fun _ s₄ h₄=>wpAny_pure (wpAny_pure ⟨rfl,h₄⟩)) fun _ _ h'=>h'.elim)) fun _ _ h'=>h'.elim))) fun _ _ h'=>h'.elim)
section
variable{X:Cx}{pins:List (Addr×Obj)}{σ:L2.St}{H:Hp}{s:Shared}{Nc capN:List Str}{scope:Scope}{cl:List (Str×Addr)}{fp:List Addr}{n:Nat}{caps:List Nat}{tg iter elt:Expr}{pos:Pos}{wi:TI}{g:TG}{te:TE}
def Cap(X:Cx)(scope:Scope)(cl:List (Str×Addr))(i:Nat)(y:Str):Prop:=X.N[i]?=some y/\X.env.scope.names.lookup y=some .cell/\(relabel scope X.env).names.lookup y=some .cell/\∃c,cl.lookup y=some c
theorem Inv.comp{h1:Heap}{t':Nat}(I:Inv X pins σ H s)(hc:X.calm=true)(f2:∀b∈fp,vZ X pins H b)(fo:∀b∈fp,b<s.heap.objs.size)(hkind:scope.kind=.function)(hcl:vX X.env cl)
  (hhas:((relabel scope X.env).names.all fun p=>!(p.2 == .cell||p.2 == .free)||(cl.lookup p.1).isSome)=true)
  (hcap:Paired (Cap X scope cl) caps capN) (tn:List Str) (hN:Nc=tn++capN) (hn:tn.length=n)
  (hns:h1.Ns s.heap.objs.size (fun _=>none)) (hk:∀b o,s.heap.get? b=some o->h1.get? b=some o) :
  Inv (cxC X Nc scope cl s H fp) [] (stC n caps σ) H { s with heap:=h1,toks:=t' }:=by
 have lkc:∀y c,cl.lookup y=some c->X.env.cells.lookup y=some c:=fun y c e=>hcl.look e
 refine⟨⟨I.ok.mod,?_,I.ok.glob,I.ok.blt,Nat.le_refl _,fun x y c a b=>I.ok.inj x y c (lkc _ _ a) (lkc _ _ b),fun x hx=>?_,fun x c z=>(nomatch z),I.ok.hd,I.ok.frames,.inl rfl,fun b hb=>⟨Nat.ne_of_lt (fo b hb),fun x c e=>(f2 b hb).2.2.2.2.1 x c (lkc _ _ e)⟩,I.bs,Nat.le_trans I.ok.bsz I.sz,
  fun b o e hb=>?_,fun b hb z=>?_,I.stack,I.stkFree⟩,rfl,I.bare,Un.kept hk,⟨_,hns,fun i y v h1' h2 h3=>?_⟩,fun y c e=>?_,I.hok.fresh (Nat.le_refl _),fun y c e=>I.freeC y c (lkc _ _ e),fun p hp=>(by simp at hp),I.hok.kept hk,?_⟩
 ·exact hkind
 ·have hx':(relabel scope X.env).names.lookup x=some .cell\/(relabel scope X.env).names.lookup x=some .free:=hx
  have mem:∀{k},(relabel scope X.env).names.lookup x=some k->(x,k)∈(relabel scope X.env).names:=fun{k} e=>by
   generalize (relabel scope X.env).names=L at e
   induction L with
   |nil=>simp at e
   |cons p r ih=>
    obtain⟨a,b⟩:=p
    rw[List.lookup_cons]at e
    by_cases q:(x == a)=true
    ·rw[q]at e;cases e
     have:x=a:=by simpa using q
     subst this;exact List.mem_cons_self
    ·rw[show(x == a)=false by simpa using q]at e
     exact List.mem_cons_of_mem _ (ih e)
  have fin:∀{k},(k=NameKind.cell\/k=.free)->(relabel scope X.env).names.lookup x=some k->∃c,cl.lookup x=some c:=fun{k} hk' e=>by
   have:=List.all_eq_true.mp hhas _ (mem e)
   dsimp only at this
   have q:(cl.lookup x).isSome=true:=by
    rcases hk' with z|z<;>subst z<;>simpa using this
   exact Option.isSome_iff_exists.mp q
  rcases hx' with e|e
  ·exact fin (.inl rfl) e
  ·exact fin (.inr rfl) e
 ·rcases(f2 b hb).2.2.2.1 with z|z
  ·exact I.ok.noex b o e z
  ·exact absurd (Nat.lt_of_lt_of_le (Heap.lt_size e) I.ok.bsz) (Nat.not_lt.mpr z)
 ·rcases List.mem_cons.mp (I.stkSub b z)with q|q
  ·exact(f2 b hb).2.1 q
  ·exact(f2 b hb).2.2.1 q
 ·obtain⟨m,hm,hl⟩:=I.loc
  have h2':(stC n caps σ)[i]?=some (some v):=h2
  have h1'':Nc[i]?=some y:=h1'
  unfold stC at h2'
  by_cases hi:i<n
  ·rw[List.getElem?_append_left (by simpa using hi),List.getElem?_replicate,if_pos hi]at h2'
   cases h2'
  ·rw[List.getElem?_append_right (by simp;omega),List.length_replicate,List.getElem?_map]at h2'
   rw[hN,List.getElem?_append_right (by omega),hn]at h1''
   have key:∀(j:Nat) {caps:List Nat} {capN:List Str},Paired (Cap X scope cl) caps capN->capN[j]?=some y->(Option.map (fun i=>(σ[i]?).getD none) caps[j]?)=some (some v)->∃k,Cap X scope cl k y/\σ[k]?=some (some v):=by
    intro j
    induction j with
    |zero=>
     intro caps capN P e1 e2
     cases P with
     |nil=>simp at e1
     |@cons a b l r p t=>
      simp at e1 e2
      subst e1
      cases q:σ[a]? with
      |none=>rw[q]at e2;simp at e2
      |some w'=>rw[q]at e2;simp at e2;subst e2;exact⟨a,p,q⟩
    |succ j ih=>
     intro caps capN P e1 e2
     cases P with
     |nil=>simp at e1
     |cons p t=>exact ih t (by simpa using e1) (by simpa using e2)
   obtain⟨k,⟨c1,c2,c3,c,c4⟩,e⟩:=key _ hcap h1'' h2'
   obtain⟨u,r,lk⟩:=hl k y v c1 e (.inr (.inl c2))
   refine⟨u,r,.inr ⟨.inl c3,c,c4,?_⟩⟩
   rcases lk with⟨z,_⟩|⟨_,c',e',o,ho,hd⟩
   ·have z':X.env.scope.names.lookup y=some .local:=z
    rw[c2]at z';cases z'
   ·rw[lkc _ _ c4]at e'
    cases e'
    exact⟨o,hk _ _ ho,hd⟩
 ·obtain⟨v,o,ho,hd⟩:=I.cell y c (lkc _ _ e)
  exact⟨v,o,hk _ _ ho,hd⟩
 ·show(stC n caps σ).length=Nc.length
  have pl:caps.length=capN.length:=Paired.length hcap
  unfold stC
  rw[List.length_append,List.length_replicate,List.length_map,hN,List.length_append,hn,pl]
end
theorem A2{X:Cx}{Nc capN tn:List Str}{scope:Scope}{cl:List (Str×Addr)}{n:Nat}{caps:List Nat}{tg iter elt:Expr}{pos:Pos}{wi:TI}{g:TG}{te:TE}
  (hc:X.calm=true) (hi:WI X tg iter wi) (hg:∀s3 H3 fp,WG (cxC X Nc scope cl s3 H3 fp) tg g) (he:∀s3 H3 fp,WE (cxC X Nc scope cl s3 H3 fp) elt te)
  (hclos:closureFor scope X.env=pure cl) (hkind:scope.kind=.function) (hnl:∀x∈scope.names,x.2=.local->scope.names.lookup x.1=some .local) (hcell:∀x∈scope.names,x.2≠.cell)
  (hcl:vX X.env cl) (hhas:((relabel scope X.env).names.all fun p=>!(p.2 == .cell||p.2 == .free)||(cl.lookup p.1).isSome)=true)
  (hcap:Paired (Cap X scope cl) caps capN) (hN:Nc=tn++capN) (hn:tn.length=n)
  {use:Option (Value->Sem Unit)} {pins:List (Addr×Obj)} {σ:L2.St} {H:Hp} {s:Shared} {Q:VK} {Qf:Value->Shared->Prop} (I:Inv X pins σ H s) (h:C6 wi g te n caps σ H Q)
  (hend:∀(D C:Addr) (s6:Shared) (H5:Hp) (m:Str->Option Value),Inv X pins σ H5 s6->s6.heap.Ns C m->H5 C=none->C≠X.env.locals->X.s₀.heap.objs.size<=C->(∀x c,X.env.cells.lookup x=some c->c≠C)->(∀p∈X.pn++pins,p.1≠C)->Q (.ref D) H5->compPost (model X.prog X.w) X.A X.xe use Qf (.ref D) C (.ok .next) s6)
  (hs:∀x,foldedSetIterable iter X.env x=pure x) :
  wpAny (model X.prog X.w) X.A (comprehension (.ListComp elt [⟨tg,iter,[],0⟩] scope pos) scope X.env (firstIterPos [⟨tg,iter,[],0⟩] pos) (newList []) (firstAsync [⟨tg,iter,[],0⟩]) (firstIter [⟨tg,iter,[],0⟩] X.env) use) Qf X.xe s:=by
 refine wpAny_comprehension_free (use:=use) (g:=⟨tg,iter,[],0⟩) (gs:=[]) rfl hs hclos hkind hnl (thn (hi.h pins s σ H _ I h) fun v s1 h1=>thn h1 fun itv s2 h2=>?_)
 obtain⟨it,fp,tnn,J,H2,rfl,I2,T,st2,f2,hW⟩:=h2
 have hD:=I2.fresh
 obtain⟨W,⟨m0,w0⟩,turn⟩:=hW _ hD
 refine wpAny_newObj_type (wpAny_newFunctionEnv hcell (by intro y hy;simp at hy) (fun h₁ hns₁ hsb₁=>?_) hkind)
 dsimp only at hns₁ hsb₁ ⊢
 have I3:Inv X pins σ (upd H2 s2.heap.objs.size (.lst [])) { s2 with heap:=s2.heap.push { cls:=.type "list",dict:=none,data:=.seq ([]:List Value).toArray },toks:=s2.toks }:=I2.lnew (its:=[]) .nil (Nat.zero_le _)
 generalize hs3:({ s2 with heap:=s2.heap.push { cls:=.type "list",dict:=none,data:=.seq ([]:List Value).toArray },toks:=s2.toks }:Shared)=s3 at I3
 have es3:s3.heap=s2.heap.push { cls:=.type "list",dict:=none,data:=.seq ([]:List Value).toArray }:=by rw[<-hs3]
 generalize hDD:s2.heap.objs.size=D at *
 have kept:∀b o,s3.heap.get? b=some o->h₁.get? b=some o:=fun b o e=>by
  have lt:=Heap.lt_size e
  rw[es3]at lt e
  exact hsb₁.extBut b o (Nat.ne_of_lt lt) (Heap.get?_push_of_some _ e)
 have old:∀b o,s2.heap.get? b=some o->s3.heap.get? b=some o:=fun b o e=>by rw[es3];exact Heap.get?_push_of_some _ e
 have ltD:∀b∈fp,b<D:=fun b hb=>by
  obtain⟨o,e,_⟩:=T.obj 0 _ st2 b hb
  rw[<-hDD];exact Heap.lt_size e
 have fo:∀b∈fp,b<s3.heap.objs.size:=fun b hb=>by
  obtain⟨o,e,_⟩:=T.obj 0 _ st2 b hb
  exact Heap.lt_size (old _ _ e)
 have f3:∀b∈fp,vZ X pins (upd H2 D (.lst [])) b:=fun b hb=>by
  refine⟨?_,(f2 b hb).2⟩
  rw[bP (Nat.ne_of_lt (ltD b hb))]
  exact(f2 b hb).1
 rw[<-es3]at hns₁ hsb₁ ⊢
 have Ic:=fun t'=>Inv.comp (h1:=h₁) (t':=t') (Nc:=Nc) (n:=n) I3 hc f3 fo hkind hcl hhas hcap tn hN hn hns₁ kept
 have stat:∀{H':Hp},(∀b∈fp,H' b=none)->∀b∈fp,vZ (cxC X Nc scope cl s3 (upd H2 D (.lst [])) fp) [] H' b:=fun hn' b hb=>by
  refine⟨hn' b hb,Nat.ne_of_lt (fo b hb),fun z=>?_,.inl hb,fun x c e=>(f2 b hb).2.2.2.2.1 x c (hcl.look e),fun p hp=>(by simp at hp)⟩
  rcases List.mem_cons.mp (I3.stkSub b z)with q|q
  ·exact(f2 b hb).2.1 q
  ·exact(f2 b hb).2.2.1 q
 have loop:∀s4:Shared,(∃t',s4={ s3 with heap:=h₁,toks:=t' })->codeAny (model X.prog X.w) X.A (.compLoop (.ListComp elt [⟨tg,iter,[],0⟩] scope pos) 0 (.ref it) (.ref D) (compEnvC scope cl s3.heap.objs.size X.env))
   (compPost (model X.prog X.w) X.A X.xe use Qf (.ref D) s3.heap.objs.size) s4:=by
  rintro s4 ⟨t',rfl⟩
  refine rK (fun n' s'=>∃i σ' H',Inv (cxC X Nc scope cl s3 (upd H2 D (.lst [])) fp) [] σ' H' s'/\tnn i s'.heap/\(∀b∈fp,H' b=none)/\W i n' σ' H') ?_ m0
   ⟨0,_,_,Ic t',T.keep 0 _ _ st2 fun b hb o e=>kept _ _ (old _ _ e),fun b hb=>(f3 b hb).1,w0⟩
  rintro n' s5 ⟨i,σ5,H5,I5,st5,fr5,w5⟩
  rcases turn i n' σ5 H5 w5 with⟨stop,qn⟩|⟨go,N,hN',step⟩
  ·refine thn (T.done (cxC X Nc scope cl s3 (upd H2 D (.lst [])) fp) rfl rfl rfl hc i [] s5 σ5 H5 (fun _ _=>False) I5 (stat fr5) st5 stop) fun r s6 ⟨hr,I6⟩=>?_
   subst hr
   obtain⟨m,hm,_⟩:=I6.loc
   have I7:Inv X pins σ H5 s6:=Inv.call' (ch:=fp) I3 I6.os I6.base I6.hok I6.bare fun b hb=>⟨(f2 b hb).2.2.2.1,(f2 b hb).2.1,(f2 b hb).2.2.2.2.1,(f2 b hb).2.2.2.2.2⟩
   exact hend D _ s6 H5 m I7 hm I6.free (Ne.symm (Nat.ne_of_lt I3.lt)) I3.sz (fun x c e=>by
     obtain⟨v',o,ho,_⟩:=I3.cell x c e
     exact Nat.ne_of_lt (Heap.lt_size ho)) (fun p hp=>Nat.ne_of_lt (Heap.lt_size (I3.pin p hp).1)) qn
  ·refine thn (T.item (cxC X Nc scope cl s3 (upd H2 D (.lst [])) fp) rfl rfl rfl hc i [] s5 σ5 H5 (fun _ _=>False) I5 (stat fr5) st5 go) fun r s6 ⟨u,hr,h6⟩=>?_
   subst hr
   refine thn h6 fun _ s7 hz=>?_
   obtain⟨x,H7,I7,r7,y7,st7,fr7⟩:=hz
   have I7':=I7.pinned (stat fr7) (T.obj _ _ st7)
   refine thn ((hg s3 (upd H2 D (.lst [])) fp).h _ s7 σ5 H7 x u _ I7' r7 (step x H7 y7)) fun _ s8 hz=>?_
   obtain⟨σ8,H8,I8,q8⟩:=hz
   refine thn ((he s3 (upd H2 D (.lst [])) fp).h _ s8 σ8 H8 _ I8 q8) fun v9 s9 hz=>?_
   obtain⟨x9,H9,I9,r9,ys,hy,hlt,q9⟩:=hz
   refine thn (nj (X:=cxC X Nc scope cl s3 (upd H2 D (.lst [])) fp) _ s9 σ8 H9 (.ref D) [x9] (.ref D) [v9] (fun _ H'=>N σ8 H') I9 rfl (.cons r9 .nil) ⟨D,ys,x9,rfl,rfl,hy,hlt,q9⟩) fun _ s10 hz=>?_
   obtain⟨_,H10,I10,_,q10⟩:=hz
   obtain⟨m',hm,w10⟩:=hN' σ8 H10 q10
   refine⟨m',hm,i+1,σ8,H10,I10.unpinned,T.keep _ _ _ st7 fun b hb o e=>(I10.pin (b,o) (List.mem_append_right _ (List.mem_append_right _ (fz hb e)))).1,fun b hb=>?_,w10⟩
   obtain⟨o,e,d⟩:=T.obj _ _ st7 b hb
   exact(I10.pin (b,o) (List.mem_append_right _ (List.mem_append_right _ (fz hb e)))).2.1
 have e4:∀t',({ s2 with heap:=h₁,toks:=t' }:Shared)={ s3 with heap:=h₁,toks:=t' }:=fun t'=>by rw[<-hs3]
 refine codeAny_compStart_list (loop _ ⟨_,e4 _⟩) (T.self _ 0 _ _ _ (T.keep 0 _ _ st2 fun b hb o e=>kept _ _ (old _ _ e)) (loop _ ⟨_,e4 _⟩))
theorem zt{X:Cx}{Nc capN tn:List Str}{scope:Scope}{cl:List (Str×Addr)}{n:Nat}{caps:List Nat}{tg iter elt:Expr}{pos:Pos}{wi:TI}{g:TG}{te:TE}
  (hc:X.calm=true) (hi:WI X tg iter wi) (hg:∀s3 H3 fp,WG (cxC X Nc scope cl s3 H3 fp) tg g) (he:∀s3 H3 fp,WE (cxC X Nc scope cl s3 H3 fp) elt te)
  (hclos:closureFor scope X.env=pure cl) (hkind:scope.kind=.function) (hnl:∀x∈scope.names,x.2=.local->scope.names.lookup x.1=some .local) (hcell:∀x∈scope.names,x.2≠.cell)
  (hcl:vX X.env cl) (hhas:((relabel scope X.env).names.all fun p=>!(p.2 == .cell||p.2 == .free)||(cl.lookup p.1).isSome)=true)
  (hcap:Paired (Cap X scope cl) caps capN) (hN:Nc=tn++capN) (hn:tn.length=n)
  (hs:∀x,foldedSetIterable iter X.env x=pure x:=by intro _;rfl) :
  WE X (.ListComp elt [⟨tg,iter,[],0⟩] scope pos) (C6 wi g te n caps):=by
 constructor
 intro pins s σ H Q I h
 rw[eval_ListComp]
 refine A2 hc hi hg he hclos hkind hnl hcell hcl hhas hcap hN hn I h (fun D C s6 H5 m I7 hm fr nl sz cn pn qn=>⟨m,hm,fun h' hs'=>?_⟩) hs
 exact⟨.ref D,H5,I7.turned (t':=s6.toks) (it:=C) (fun b o hb e=>hs'.extBut b o hb e) fr nl (.inr sz) cn pn,rfl,qn⟩
open PySem.AutoSeq1 (wpAny_loadPart')
theorem A5{prog:Program}{w:World}{A:Around}{E:Value->Shared->Prop}{s:Shared}{t b:Addr}{vs ws:List Value}{Q:Value->Shared->Prop}(ht:IsTup s.heap t vs.toArray)(hb:IsTup s.heap b ws.toArray)(hv:vs=[])
  (h1:Q (.ref b) s):wpAny (model prog w) A (binaryOp .Add (.ref t) (.ref b)) Q E s:=by
 obtain⟨⟨cls,dd,data,sl⟩,ho,hc,n,hd⟩:=id ht
 obtain⟨⟨cls2,dd2,data2,sl2⟩,ho2,hc2,n2,hd2⟩:=id hb
 simp only at hc hd hc2 hd2
 subst hc hd hc2 hd2
 exact concat_meets ⟨_,ho,rfl⟩ ⟨_,ho2,rfl⟩ noFill_tuple_add seq_tuple_add PySem.F.slot_tuple_add PySem.F.entry_tuple_add (PySem.F.args_tuple_add_2 _ _)
   (tuple_addW0 t b vs.toArray ws.toArray n n2 dd dd2 sl sl2 (by simp[hv])) ⟨ho,ho2,h1⟩
theorem l5:fillsNumberSlot (.type "tuple") "mul"=pure false:=
 PySem.fillsNumberSlot_seq (id:="tuple.__mul__") (r:=some (.builtin "tuple.__rmul__")) F.slot_tuple_mul.lookup (by decide +kernel) F.slot_tuple_rmul.lookup (by decide +kernel)
theorem qJ:seqRepeat? (.type "tuple")=pure (some (.builtin "tuple.__mul__")):=by
 unfold seqRepeat?
 rw[PySem.seqSlot_of (T:="tuple") (name:="__mul__") (id:="tuple.__mul__") F.slot_tuple_mul.lookup (by decide +kernel),PySem.seqSlot_of (T:="tuple") (name:="__rmul__") (id:="tuple.__rmul__") F.slot_tuple_rmul.lookup (by decide +kernel)]
 rfl
theorem oe(a:Int)(t:Tok)(l:Addr)(items:Array Value)(n:Nat)(dd:Option Addr)(sl:Array (Option Value)) :
  Meets (Builtin.«int.__rmul__» ⟨[.int a t,.ref l],[]⟩) (fun _ R s=>s.heap.get? l=some { cls:=.type "tuple",dict:=dd,data:=.seq items n,slots:=sl }/\R (.ok (.ret Value.notImplemented)) s):=
 .of_wp fun prog w A R s h=>by obtain⟨hp,g,d,tk,os⟩:=s;obtain⟨hl,h⟩:=h;wp_walk using wpAny_loadPart' hl;exact⟨_,rfl,h⟩
theorem su(l:Addr)(items:Array Value)(n:Nat)(dd:Option Addr)(sl:Array (Option Value))(t:Tok) :
  Meets (Builtin.«tuple.__mul__» ⟨[.ref l,.int 1 t],[]⟩) (fun _ R s=>s.heap.get? l=some { cls:=.type "tuple",dict:=dd,data:=.seq items n,slots:=sl }/\R (.ok (.ret (Value.ref l))) s):=
 .of_wp fun prog w A R s h=>by obtain⟨hp,g,d,tk,os⟩:=s;obtain⟨hl,h⟩:=h;have f1:=AutoSeq1.idx_int;wp_walk using wpAny_loadPart' hl;exact⟨_,rfl,h⟩
theorem sk(l:Addr)(items:Array Value)(n:Nat)(dd:Option Addr)(sl:Array (Option Value))(k:Int)(t:Tok)(hc0:¬(decide (k < -2^63)||decide (k≥2^63))=true)(hc1:¬(items.isEmpty||k == 1)=true)(hc2:¬(decide (k<=0)||items.isEmpty)=true)
  (hc3:¬((items.size:Int)*k>(2^63-1) / 8)) (hc4:¬Builtin.Tuple.tupleTooMany ((items.size:Int)*k)=true) (hz:(List.foldl (fun x1 x2=>x1++x2) #[] (List.replicate k.toNat items)).size<=sizeLine) :
  Meets (Builtin.«tuple.__mul__» ⟨[.ref l,.int k t],[]⟩) (fun _ R s=>s.heap.get? l=some { cls:=.type "tuple",dict:=dd,data:=.seq items n,slots:=sl }/\
   R (.ok (.ret (Value.ref s.heap.objs.size))) { s with heap:=s.heap.push { cls:=Value.type "tuple",data:=Data.seq (List.foldl (fun x1 x2=>x1++x2) #[] (List.replicate k.toNat items)) } }):=
 .of_wp fun prog w A R s h=>by
  obtain⟨hp,g,d,tk,os⟩:=s
  obtain⟨hl,h⟩:=h
  have f1:=AutoSeq1.idx_int
  have g0:(decide (k < -2^63)||decide (k≥2^63))=false:=by simpa using hc0
  have g1:(items.isEmpty||k == 1)=false:=by simpa using hc1
  have g2:(decide (k<=0)||items.isEmpty)=false:=by simpa using hc2
  have g4:Builtin.Tuple.tupleTooMany ((items.size:Int)*k)=false:=by simpa using hc4
  wp_walk using wpAny_loadPart' hl
  refine PySem.W.KFB.if_not g0 ?_
  wp_walk using wpAny_loadPart' hl
  try (refine PySem.W.KFB.if_not g1 ?_;wp_walk using wpAny_loadPart' hl)
  try (refine PySem.W.KFB.if_not g2 ?_;wp_walk using wpAny_loadPart' hl)
  try (rw[if_neg hc3];wp_walk using wpAny_loadPart' hl)
  try (refine PySem.W.KFB.if_not g4 ?_;wp_walk using wpAny_loadPart' hl)
  try (refine wpAny_ite_false (decide_eq_false (Nat.not_lt.mpr hz)) ?_;wp_walk)
  exact⟨_,rfl,h⟩
structure Mx(H:Hp)(p xs:Addr):Prop where
 ex:∃(ns:List Int) (at' cur:Int),H p=some (.lst [.ref xs,.int at',.int cur])/\H xs=some (.lst (ns.map V.int))/\xs≠p/\0<=at'/\0<=cur
def Bl(K:PySem.W.Frag):Sp:=fun vs H Q _=>∃(a:Addr) (ns:List Int),vs=[.ref a]/\SqL K H a (ns.map V.int)/\∀(q xs:Addr) (H':Hp),tW H H'->Mx H' q xs->H q=none->Q (.ref q) H'
theorem xG{m:Int}(h0:0<=m)(h:m<2^60):m.natAbs.log2<9000:=by
 have:=vD (n:=m.natAbs) (by omega)
 omega
end OG
namespace OP
open PySem PySem.Spec PyProof.Rows L2 OG
inductive U where
 |non|bl (b:Bool)|int (i:Int)|str (x:Str)|tup (us:List U)|ref (l:Nat)|kl (ns:List Int)
structure Cl where
 C:Addr
 ns:List Str
inductive O where
 |lst (us:List U)|dic (kvs:List (Key×U))|ins (c:Cl) (fs:List (Option U))|fdc (ep:Nat) (kvs:List (Key×U))|dit (kvs:List (List Key×U))|fdt (ep:Nat) (kvs:List (List Key×U))|dnt (kvs:List (List (List Int)×U))|fdn (ep:Nat) (kvs:List (List (List Int)×U))
abbrev Sto:=List O
abbrev Rho:=List (Option U)
def KL(K:PySem.W.Frag)(H:Hp)(a:Addr)(ns:List Int):Prop:=
 (∃o,H a=some (.frz o (.lst (ns.map V.int))))\/
  ∃(o:Obj) (its:Array Value) (n:Nat),K.lookup a=some o/\o.cls=.type "list"/\o.dict=none/\o.data=.seq its n/\its.size<=sizeLine/\cI (ns.map V.int) its.toList
theorem KL.sq{K:PySem.W.Frag}{H:Hp}{a:Addr}{ns:List Int}(h:KL K H a ns):SqL K H a (ns.map V.int):=by
 rcases h with h|h
 ·exact .inl (.inr h)
 ·exact .inr h
mutual
def Is(K:PySem.W.Frag)(m:List Addr)(H:Hp):V->U->Prop
 |v,.non=>v=.non
 |v,.bl b=>v=.bl b
 |v,.int i=>v=.int i
 |v,.str x=>v=.str x
 |v,.tup us=>∃a xs,v=.ref a/\SqT K H a xs/\IsL K m H xs us
 |v,.ref l=>∃a,m[l]?=some a/\v=.ref a
 |v,.kl ns=>∃a,v=.ref a/\KL K H a ns
def IsL(K:PySem.W.Frag)(m:List Addr)(H:Hp):List V->List U->Prop
 |xs,[]=>xs=[]
 |xs,u::us=>∃x r,xs=x::r/\Is K m H x u/\IsL K m H r us
end
structure Be(K:PySem.W.Frag)(H H':Hp):Prop where
 t:∀a xs,SqT K H a xs->SqT K H' a xs
 l:∀a ns,KL K H a ns->KL K H' a ns
structure Ext(K:PySem.W.Frag)(m:List Addr)(H:Hp)(m':List Addr)(H':Hp):Prop where
 pre:∃t,m'=m++t
 keep:Be K H H'
section
variable{K:PySem.W.Frag}{m m' m'':List Addr}{H H' H'':Hp}{v x:V}{u:U}{xs ys:List V}{us ws:List U}{a q:Addr}{o:HO}
theorem Ext.refl:Ext K m H m H:=⟨⟨[],by simp⟩,fun _ _ h=>h,fun _ _ h=>h⟩
theorem Ext.trans(a:Ext K m H m' H')(b:Ext K m' H' m'' H''):Ext K m H m'' H'':=by
 obtain⟨t,rfl⟩:=a.pre
 obtain⟨t',rfl⟩:=b.pre
 exact⟨⟨t++t',by simp⟩,fun c ys h=>b.keep.t c ys (a.keep.t c ys h),fun c ys h=>b.keep.l c ys (a.keep.l c ys h)⟩
theorem Ext.of(k:Be K H H'):Ext K m H m H':=⟨⟨[],by simp⟩,k⟩
theorem Ext.new(k:Be K H H'):Ext K m H (m++[q]) H':=⟨⟨[q],rfl⟩,k⟩
theorem Ext.get{l:Nat}(e:Ext K m H m' H')(h:m[l]?=some a):m'[l]?=some a:=by
 obtain⟨t,rfl⟩:=e.pre
 rw[List.getElem?_append_left (List.getElem?_eq_some_iff.mp h).1]
 exact h
mutual
theorem Is.mono(e:Ext K m H m' H'):∀{v:V} {u:U},Is K m H v u->Is K m' H' v u
 |v,.non,h=>by unfold Is at h ⊢;exact h
 |v,.bl b,h=>by unfold Is at h ⊢;exact h
 |v,.int i,h=>by unfold Is at h ⊢;exact h
 |v,.str x,h=>by unfold Is at h ⊢;exact h
 |v,.tup us,h=>by
  unfold Is at h ⊢
  obtain⟨a,xs,e1,k,l⟩:=h
  exact⟨a,xs,e1,e.keep.t _ _ k,IsL.mono e l⟩
 |v,.ref l,h=>by
  unfold Is at h ⊢
  obtain⟨a,k,e1⟩:=h
  exact⟨a,e.get k,e1⟩
 |v,.kl ns,h=>by
  unfold Is at h ⊢
  obtain⟨a,e1,k⟩:=h
  exact⟨a,e1,e.keep.l _ _ k⟩
theorem IsL.mono(e:Ext K m H m' H'):∀{xs:List V} {us:List U},IsL K m H xs us->IsL K m' H' xs us
 |xs,[],h=>by unfold IsL at h ⊢;exact h
 |xs,u::us,h=>by
  unfold IsL at h ⊢
  obtain⟨x,r,e1,k,l⟩:=h
  exact⟨x,r,e1,Is.mono e k,IsL.mono e l⟩
end
theorem Is.int_{i:Int}:Is K m H (.int i) (.int i):=by unfold Is;rfl
theorem Is.bl_{b:Bool}:Is K m H (.bl b) (.bl b):=by unfold Is;rfl
theorem Is.non_:Is K m H .non .non:=by unfold Is;rfl
theorem Is.str_{x:Str}:Is K m H (.str x) (.str x):=by unfold Is;rfl
theorem Is.of_int{i:Int}(h:Is K m H v (.int i)):v=.int i:=by unfold Is at h;exact h
theorem Is.of_bl{b:Bool}(h:Is K m H v (.bl b)):v=.bl b:=by unfold Is at h;exact h
theorem Is.of_non(h:Is K m H v .non):v=.non:=by unfold Is at h;exact h
theorem Is.of_str{x:Str}(h:Is K m H v (.str x)):v=.str x:=by unfold Is at h;exact h
theorem Is.of_tup(h:Is K m H v (.tup us)):∃a xs,v=.ref a/\SqT K H a xs/\IsL K m H xs us:=by unfold Is at h;exact h
theorem Is.of_ref{l:Nat}(h:Is K m H v (.ref l)):∃a,m[l]?=some a/\v=.ref a:=by unfold Is at h;exact h
theorem Is.of_kl{ns:List Int}(h:Is K m H v (.kl ns)):∃a,v=.ref a/\KL K H a ns:=by unfold Is at h;exact h
theorem Is.tup_(e:SqT K H a xs)(h:IsL K m H xs us):Is K m H (.ref a) (.tup us):=by unfold Is;exact⟨a,xs,rfl,e,h⟩
theorem Is.ref_{l:Nat}(e:m[l]?=some a):Is K m H (.ref a) (.ref l):=by unfold Is;exact⟨a,e,rfl⟩
theorem IsL.nil_:IsL K m H [] []:=by unfold IsL;rfl
theorem IsL.cons_(h:Is K m H x u)(t:IsL K m H xs us):IsL K m H (x::xs) (u::us):=by unfold IsL;exact⟨x,xs,rfl,h,t⟩
theorem IsL.of_nil(h:IsL K m H xs []):xs=[]:=by unfold IsL at h;exact h
theorem IsL.of_cons(h:IsL K m H xs (u::us)):∃x r,xs=x::r/\Is K m H x u/\IsL K m H r us:=by unfold IsL at h;exact h
theorem IsL.length:∀{xs:List V} {us:List U},IsL K m H xs us->xs.length=us.length
 |xs,[],h=>by rw[h.of_nil];rfl
 |xs,d::ds,h=>by
  obtain⟨x,r,rfl,_,t⟩:=h.of_cons
  rw[List.length_cons,List.length_cons,IsL.length t]
theorem IsL.getD:∀{xs:List V} {us:List U} {i:Nat} {u:U},IsL K m H xs us->us[i]?=some u->∃x,xs[i]?=some x/\Is K m H x u
 |xs,[],i,x,h,e=>by simp at e
 |xs,d::ds,0,x,h,e=>by
  obtain⟨y,r,rfl,k,t⟩:=h.of_cons
  simp at e;subst e;exact⟨y,by simp,k⟩
 |xs,d::ds,i+1,x,h,e=>by
  obtain⟨y,r,rfl,k,t⟩:=h.of_cons
  obtain⟨d',e1,e2⟩:=IsL.getD (i:=i) (u:=x) t (by simpa using e)
  exact⟨d',by simpa using e1,e2⟩
theorem IsL.append:∀{xs:List V} {us:List U},IsL K m H xs us->IsL K m H ys ws->IsL K m H (xs++ys) (us++ws)
 |xs,[],h,k=>by rw[h.of_nil];exact k
 |xs,d::ds,h,k=>by
  obtain⟨y,r,rfl,z,t⟩:=h.of_cons
  exact .cons_ z (IsL.append t k)
theorem IsL.set:∀{xs:List V} {us:List U} {j:Nat},IsL K m H xs us->Is K m H x u->IsL K m H (xs.set j x) (us.set j u)
 |xs,[],j,h,k=>by rw[h.of_nil];exact .nil_
 |xs,d::ds,0,h,k=>by
  obtain⟨y,r,rfl,z,t⟩:=h.of_cons
  exact .cons_ k t
 |xs,d::ds,j+1,h,k=>by
  obtain⟨y,r,rfl,z,t⟩:=h.of_cons
  exact .cons_ z (IsL.set t k)
theorem IsL.drop:∀{xs:List V} {us:List U} (n:Nat),IsL K m H xs us->IsL K m H (xs.drop n) (us.drop n)
 |xs,us,0,h=>h
 |xs,[],n+1,h=>by rw[h.of_nil];exact .nil_
 |xs,d::ds,n+1,h=>by
  obtain⟨y,r,rfl,z,t⟩:=h.of_cons
  exact IsL.drop n t
theorem IsL.take:∀{xs:List V} {us:List U} (n:Nat),IsL K m H xs us->IsL K m H (xs.take n) (us.take n)
 |xs,us,0,h=>.nil_
 |xs,[],n+1,h=>by rw[h.of_nil];exact .nil_
 |xs,d::ds,n+1,h=>by
  obtain⟨y,r,rfl,z,t⟩:=h.of_cons
  exact .cons_ z (IsL.take n t)
theorem IsL.erase:∀{xs:List V} {us:List U} (n:Nat),IsL K m H xs us->IsL K m H (xs.eraseIdx n) (us.eraseIdx n)
 |xs,[],n,h=>by rw[h.of_nil];exact .nil_
 |xs,d::ds,0,h=>by
  obtain⟨y,r,rfl,z,t⟩:=h.of_cons
  exact t
 |xs,d::ds,n+1,h=>by
  obtain⟨y,r,rfl,z,t⟩:=h.of_cons
  exact .cons_ z (IsL.erase n t)
theorem IsL.rep:∀(n:Nat),IsL K m H xs us->IsL K m H (List.replicate n xs).flatten (List.replicate n us).flatten
 |0,h=>.nil_
 |n+1,h=>by
  rw[List.replicate_succ,List.replicate_succ,List.flatten_cons,List.flatten_cons]
  exact h.append (IsL.rep n h)
theorem uK(h:H a=some o)(nt:∀xs,o≠.tup xs)(nf:∀ob xs,o≠.frz ob (.tup xs))(nl:∀ob xs,o≠.frz ob (.lst xs))(o':HO):Be K H (upd H a o'):=by
 refine⟨fun b xs q=>?_,fun b ns q=>?_⟩
 ·rcases q with(q|⟨ob,q⟩)|q
  ·have n:b≠a:=fun z=>by subst z;rw[q]at h;cases h;exact nt _ rfl
   exact .inl (.inl (by rw[bP n];exact q))
  ·have n:b≠a:=fun z=>by subst z;rw[q]at h;cases h;exact nf _ _ rfl
   exact .inl (.inr ⟨ob,by rw[bP n];exact q⟩)
  ·exact .inr q
 ·rcases q with⟨ob,q⟩|q
  ·have n:b≠a:=fun z=>by subst z;rw[q]at h;cases h;exact nl _ _ rfl
   exact .inl ⟨ob,by rw[bP n];exact q⟩
  ·exact .inr q
theorem eZ(s:tW H H'):Be K H H':=by
 refine⟨fun b xs q=>?_,fun b ns q=>?_⟩
 ·rcases q with(q|⟨ob,q⟩)|q
  ·exact .inl (.inl (s _ _ q))
  ·exact .inl (.inr ⟨ob,s _ _ q⟩)
  ·exact .inr q
 ·rcases q with⟨ob,q⟩|q
  ·exact .inl ⟨ob,s _ _ q⟩
  ·exact .inr q
theorem cK(h:H q=none)(o':HO):Be K H (upd H q o'):=eZ (d6 h o')
end
abbrev NK:=List (List Int)
def hNK(ks:NK):Int:=reduceHash (Builtin.Tuple.tupleHashOf (ks.map fun k=>reduceHash (Builtin.Tuple.tupleHashOf (k.map hashInt))))
abbrev KN:List ((NK×Addr)×V)->List (NK×Addr×Value)->Prop:=Paired fun p q=>p.1.1=q.1/\p.1.2=q.2.1/\dB p.2 q.2.2
def dNo(a:Addr)(kvs:List ((NK×Addr)×V)):HO:=.ext fun h=>kvs.length<=sizeLine/\(a == sysModules)=false/\∃xs,KN kvs xs/\
 ∃o es ep,h.get? a=some o/\o.ExactDict/\o.data=.dict es ep/\es.toList=(xs.map fun x=>(⟨hNK x.1,.ref x.2.1,x.2.2⟩:DictEntry))/\(xs.map (·.1)).Nodup
def lj(K:PySem.W.Frag)(H:Hp)(b:Addr)(k:NK):Prop:=∃cs:List Addr,SqT K H b (cs.map V.ref)/\Paired (fun(l:List Int) c=>SqT K H c (l.map V.int)) k cs
theorem lj.mono{K:PySem.W.Frag}{H H':Hp}{b:Addr}{k:NK}(e:Be K H H')(h:lj K H b k):lj K H' b k:=let ⟨cs,p,q⟩:=h;⟨cs,e.t _ _ p,Paired.mapP q fun _ _ z=>e.t _ _ z⟩
def nP(kvs:List ((NK×Addr)×V)):List (NK×V):=kvs.map fun p=>(p.1.1,p.2)
def IsP{κ:Type}(K:PySem.W.Frag)(m:List Addr)(H:Hp)(kvs:List (κ×V))(kus:List (κ×U)):Prop:=kvs.map (·.1)=kus.map (·.1)/\IsL K m H (kvs.map (·.2)) (kus.map (·.2))
def Rf(K:PySem.W.Frag)(m:List Addr)(H:Hp):Option V->Option U->Prop
 |some v,some u=>Is K m H v u
 |none,none=>True
 |_,_=>False
structure InF(K:PySem.W.Frag)(m:List Addr)(H:Hp)(c:Cl)(fs:List (Str×V))(fus:List (Option U)):Prop where
 nd:c.ns.Nodup
 few:c.ns.length<1000
 knd:(fs.map (·.1)).Nodup
 sub:∀x∈fs.map (·.1),x∈c.ns
 len:fus.length=c.ns.length
 at_:∀(i:Nat) (x:Str),c.ns[i]?=some x->Rf K m H (fs.lookup x) ((fus[i]?).join)
theorem Rf.mono{K:PySem.W.Frag}{m m':List Addr}{H H':Hp}{v:Option V}{u:Option U}(e:Ext K m H m' H')(h:Rf K m H v u):Rf K m' H' v u:=by
 cases v with
 |none=>cases u with
  |none=>trivial
  |some u=>exact h.elim
 |some v=>cases u with
  |none=>exact h.elim
  |some u=>exact Is.mono e h
theorem InF.mono{K:PySem.W.Frag}{m m':List Addr}{H H':Hp}{c:Cl}{fs:List (Str×V)}{fus:List (Option U)}(e:Ext K m H m' H')(h:InF K m H c fs fus):InF K m' H' c fs fus:=⟨h.nd,h.few,h.knd,h.sub,h.len,fun i x q=>(h.at_ i x q).mono e⟩
def Ob(K:PySem.W.Frag)(m:List Addr)(H:Hp)(a:Addr):O->Prop
 |.lst us=>∃xs,H a=some (.lst xs)/\IsL K m H xs us
 |.dic kus=>∃kvs,H a=some (.dK kvs)/\IsP K m H kvs kus
 |.ins c fus=>∃dx fs,H a=some (.ins c.C dx fs)/\InF K m H c fs fus
 |.fdc ep kus=>∃ob es kvs,H a=some (.frz ob (.dK kvs))/\ob.data=.dict es ep/\IsP K m H kvs kus
 |.dit kus=>∃kvs,H a=some (.dT kvs)/\IsP K m H kvs kus
 |.fdt ep kus=>∃ob es kvs,H a=some (.frz ob (.dT kvs))/\ob.data=.dict es ep/\IsP K m H kvs kus
 |.dnt kus=>∃kvs,H a=some (dNo a kvs)/\(∀p∈kvs,lj K H p.1.2 p.1.1)/\IsP K m H (nP kvs) kus
 |.fdn ep kus=>∃ob es kvs,H a=some (.frz ob (dNo a kvs))/\ob.data=.dict es ep/\(∀p∈kvs,lj K H p.1.2 p.1.1)/\IsP K m H (nP kvs) kus
structure Sr(K:PySem.W.Frag)(m:List Addr)(S:Sto)(H:Hp):Prop where
 len:m.length=S.length
 nd:m.Nodup
 ob:∀(l:Nat) (a:Addr) (o:O),m[l]?=some a->S[l]?=some o->Ob K m H a o
structure Lr(K:PySem.W.Frag)(m:List Addr)(H:Hp)(ρ:Rho)(σ:L2.St):Prop where
 len:ρ.length=σ.length
 at_:∀(i:Nat) (u:U),ρ[i]?=some (some u)->∃v,σ[i]?=some (some v)/\Is K m H v u
section
variable{κ:Type}{K:PySem.W.Frag}{m m':List Addr}{H H':Hp}{S S':Sto}{ρ:Rho}{σ:L2.St}{a q:Addr}{l:Nat}{o:O}{ho:HO}{us:List U}{v:V}{u:U}{kvs:List (κ×V)}{kus:List (κ×U)}
theorem IsP.mono(e:Ext K m H m' H')(h:IsP K m H kvs kus):IsP K m' H' kvs kus:=⟨h.1,h.2.mono e⟩
theorem IsP.length(h:IsP K m H kvs kus):kvs.length=kus.length:=by have:=h.2.length;simpa using this
theorem IsP.nil_:IsP (κ:=κ) K m H [] []:=⟨rfl,.nil_⟩
theorem IsP.cons_{k:κ}(h:Is K m H v u)(t:IsP K m H kvs kus):IsP K m H ((k,v)::kvs) ((k,u)::kus):=⟨by simp[t.1],.cons_ h t.2⟩
theorem IsP.ind{P:List (κ×V)->List (κ×U)->Prop}(h0:P [] [])(h1:∀k v u kvs kus,Is K m H v u->IsP K m H kvs kus->P kvs kus->P ((k,v)::kvs) ((k,u)::kus)):∀{kvs:List (κ×V)} {kus:List (κ×U)},IsP K m H kvs kus->P kvs kus
 |[],[],_=>h0
 |[],p::r,h=>by have:=h.length;simp at this
 |p::r,[],h=>by have:=h.length;simp at this
 |(k,v)::r,(k',u)::r',h=>by
  obtain⟨e,i⟩:=h
  simp only[List.map_cons,List.cons.injEq]at e
  obtain⟨e1,e2⟩:=e
  subst e1
  obtain⟨x,t,e3,iu,it⟩:=i.of_cons
  cases e3
  exact h1 k v u r r' iu ⟨e2,it⟩ (IsP.ind h0 h1 (⟨e2,it⟩:IsP K m H r r'))
theorem Ob.mono(e:Ext K m H m' H')(h1:H' a=H a)(h:Ob K m H a o):Ob K m' H' a o:=by
 cases o with
 |lst us=>obtain⟨xs,k,i⟩:=h;exact⟨xs,h1.trans k,i.mono e⟩
 |dic kus=>obtain⟨xs,k,i⟩:=h;exact⟨xs,h1.trans k,i.mono e⟩
 |ins C fus=>obtain⟨dx,fs,k,i⟩:=h;exact⟨dx,fs,h1.trans k,i.mono e⟩
 |fdc ep kus=>obtain⟨ob,es,kvs,k,d,i⟩:=h;exact⟨ob,es,kvs,h1.trans k,d,i.mono e⟩
 |dit kus=>obtain⟨xs,k,i⟩:=h;exact⟨xs,h1.trans k,i.mono e⟩
 |fdt ep kus=>obtain⟨ob,es,kvs,k,d,i⟩:=h;exact⟨ob,es,kvs,h1.trans k,d,i.mono e⟩
 |dnt kus=>obtain⟨kvs,k,y,i⟩:=h;exact⟨kvs,h1.trans k,fun p hp=>(y p hp).mono e.keep,i.mono e⟩
 |fdn ep kus=>obtain⟨ob,es,kvs,k,d,y,i⟩:=h;exact⟨ob,es,kvs,h1.trans k,d,fun p hp=>(y p hp).mono e.keep,i.mono e⟩
theorem Ob.some(h:Ob K m H a o):∃ho,H a=some ho/\(∀xs,ho≠.tup xs)/\(∀ob xs,ho≠.frz ob (.tup xs))/\(∀ob xs,ho≠.frz ob (.lst xs)):=by
 cases o with
 |lst us=>obtain⟨xs,k,i⟩:=h;exact⟨_,k,by simp,by simp,by simp⟩
 |dic kus=>obtain⟨xs,k,i⟩:=h;exact⟨_,k,by simp,by simp,by simp⟩
 |ins C fus=>obtain⟨dx,fs,k,i⟩:=h;exact⟨_,k,by simp,by simp,by simp⟩
 |fdc ep kus=>obtain⟨ob,es,kvs,k,d,i⟩:=h;exact⟨_,k,by simp,by simp,by simp⟩
 |dit kus=>obtain⟨xs,k,i⟩:=h;exact⟨_,k,by simp,by simp,by simp⟩
 |fdt ep kus=>obtain⟨ob,es,kvs,k,d,i⟩:=h;exact⟨_,k,by simp,by simp,by simp⟩
 |dnt kus=>obtain⟨kvs,k,y,i⟩:=h;exact⟨_,k,by simp[dNo],by simp[dNo],by simp[dNo]⟩
 |fdn ep kus=>obtain⟨ob,es,kvs,k,d,y,i⟩:=h;exact⟨_,k,by simp,by simp[dNo],by simp[dNo]⟩
theorem Lr.mono(e:Ext K m H m' H')(h:Lr K m H ρ σ):Lr K m' H' ρ σ:=⟨h.len,fun i u e1=>let ⟨v,e2,e3⟩:=h.at_ i u e1;⟨v,e2,e3.mono e⟩⟩
theorem Lr.set(h:Lr K m H ρ σ)(i:Nat)(hv:Is K m H v u):Lr K m H (ρ.set i (some u)) (σ.set i (some v)):=by
 refine⟨by simp[h.len],fun j w e=>?_⟩
 by_cases c:i=j
 ·subst c
  rw[List.getElem?_set_self' ]at e
  rw[List.getElem?_set_self']
  have hl:=h.len
  cases e1:ρ[i]? with
  |none=>rw[e1]at e;simp at e
  |some z=>
   rw[e1]at e
   simp at e
   subst e
   have:i < σ.length:=by rw[<-hl];exact(List.getElem?_eq_some_iff.mp e1).1
   rw[List.getElem?_eq_getElem this]
   exact⟨v,rfl,hv⟩
 ·rw[List.getElem?_set_ne c]at e
  rw[List.getElem?_set_ne c]
  exact h.at_ j w e
theorem Sr.get(r:Sr K m S H)(h:S[l]?=some o):∃a,m[l]?=some a/\Ob K m H a o:=by
 have hl:l<m.length:=by rw[r.len];exact(List.getElem?_eq_some_iff.mp h).1
 exact⟨_,List.getElem?_eq_getElem hl,r.ob _ _ _ (List.getElem?_eq_getElem hl) h⟩
theorem Sr.at_(r:Sr K m S H)(h:m[l]?=some a):∃o,S[l]?=some o/\Ob K m H a o:=by
 have hl:l<S.length:=by rw[<-r.len];exact(List.getElem?_eq_some_iff.mp h).1
 exact⟨_,List.getElem?_eq_getElem hl,r.ob _ _ _ h (List.getElem?_eq_getElem hl)⟩
theorem Sr.same(r:Sr K m S H)(s:tW H H'):Sr K m S H':=⟨r.len,r.nd,fun l a o h1 h2=>by
 have q:=r.ob l a o h1 h2
 obtain⟨ho,e,_⟩:=q.some
 exact q.mono (.of (eZ s)) (by rw[s _ _ e,e])⟩
theorem Sr.new(r:Sr K m S H)(h:H q=none)(n:Ob K (m++[q]) (upd H q ho) q o):Sr K (m++[q]) (S++[o]) (upd H q ho):=by
 have hq:q∉m:=fun z=>by
  obtain⟨l,e⟩:=List.getElem?_of_mem z
  obtain⟨o,_,k⟩:=r.at_ e
  obtain⟨ho,e2,_⟩:=k.some
  rw[h]at e2;cases e2
 refine⟨by simp[r.len],?_,fun l a o' h1 h2=>?_⟩
 ·rw[List.nodup_append]
  exact⟨r.nd,by simp,fun x hx y hy z=>by simp at hy;subst hy;subst z;exact hq hx⟩
 ·by_cases c:l<m.length
  ·rw[List.getElem?_append_left c]at h1
   rw[List.getElem?_append_left (by rw[<-r.len];exact c)]at h2
   have q':=r.ob l a o' h1 h2
   obtain⟨ho',e,_⟩:=q'.some
   exact q'.mono (.new (cK h _)) (by rw[bP (cV e h)])
  ·have e:l=m.length:=by
    have:=(List.getElem?_eq_some_iff.mp h1).1
    simp at this;omega
   subst e
   rw[List.getElem?_append_right (Nat.le_refl _)]at h1
   rw[List.getElem?_append_right (by rw[r.len];exact Nat.le_refl _)]at h2
   simp[r.len]at h1 h2
   subst h1;subst h2
   exact n
theorem Sr.put(r:Sr K m S H)(h:m[l]?=some a)(n:Ob K m (upd H a ho) a o):Sr K m (S.set l o) (upd H a ho):=by
 obtain⟨o0,h0,k0⟩:=r.at_ h
 obtain⟨ho',e,nt,nf,nl⟩:=k0.some
 refine⟨by simp[r.len],r.nd,fun l' a' o' h1 h2=>?_⟩
 by_cases c:l=l'
 ·subst c
  rw[h]at h1;cases h1
  rw[List.getElem?_set_self (List.getElem?_eq_some_iff.mp h0).1]at h2
  cases h2
  exact n
 ·rw[List.getElem?_set_ne c]at h2
  have na:a'≠a:=fun z=>by
   subst z
   obtain⟨p1,e1⟩:=List.getElem?_eq_some_iff.mp h
   obtain⟨p2,e2⟩:=List.getElem?_eq_some_iff.mp h1
   exact c ((List.getElem_inj r.nd).mp (e1.trans e2.symm))
  exact(r.ob l' a' o' h1 h2).mono (.of (uK e nt nf nl _)) (by rw[bP na])
theorem Sr.keep(r:Sr K m S H)(h:m[l]?=some a)(ho:HO):Be K H (upd H a ho):=by
 obtain⟨o0,h0,k0⟩:=r.at_ h
 obtain⟨ho',e,nt,nf,nl⟩:=k0.some
 exact uK e nt nf nl _
end
def kC(K:PySem.W.Frag)(m:List Addr)(H:Hp)(Q:VK)(u:U)(S':Sto):Prop:=∀m' v H',Ext K m H m' H'->Sr K m' S' H'->Is K m' H' v u->Q v H'
abbrev CE:=Rho->Sto->Option (U×Sto)
abbrev CT:=Rho->Sto->Option (Bool×Sto)
abbrev CA:=Rho->Sto->Option (List U×Sto)
inductive Out where
 |nx|rt (u:U)|bk|ct
abbrev CS:=Rho->Sto->Option (Out×Rho×Sto)
def Bb(K:PySem.W.Frag)(m:List Addr)(H:Hp)(Q:Bool->Hp->Prop)(b:Bool)(S':Sto):Prop:=∀m' H',Ext K m H m' H'->Sr K m' S' H'->Q b H'
def LS(K:PySem.W.Frag)(m:List Addr)(H:Hp)(Q:List V->Hp->Prop)(us:List U)(S':Sto):Prop:=∀m' vs H',Ext K m H m' H'->Sr K m' S' H'->IsL K m' H' vs us->Q vs H'
def gH(K:PySem.W.Frag)(m:List Addr)(H:Hp)(Q:L2.St->Hp->Prop)(ρ':Rho)(S':Sto):Prop:=∀m' σ' H',Ext K m H m' H'->Sr K m' S' H'->Lr K m' H' ρ' σ'->Q σ' H'
def vU(K:PySem.W.Frag)(m:List Addr)(H:Hp)(D:v8):Out->Rho->Sto->Prop
 |.nx,ρ',S'=>gH K m H D.nx ρ' S'
 |.bk,ρ',S'=>gH K m H D.bk ρ' S'
 |.ct,ρ',S'=>gH K m H D.ct ρ' S'
 |.rt u,_,S'=>kC K m H D.rt u S'
theorem nX{α β γ δ ε:Type}{A B C D:α->β->γ->δ->ε->Prop}{p:Prop}(h:∃a b c d e,A a b c d e/\B a b c d e/\C a b c d e/\D a b c d e)(f:∀a b c d e,A a b c d e->B a b c d e->C a b c d e->D a b c d e->p):p:=by
 obtain⟨a,b,c,d,e,h1,h2,h3,h4⟩:=h
 exact f a b c d e h1 h2 h3 h4
theorem vM{α β γ δ ε ζ:Type}{A B C D:α->β->γ->δ->ε->ζ->Prop}{p:Prop}(h:∃a b c d e g,A a b c d e g/\B a b c d e g/\C a b c d e g/\D a b c d e g)(f:∀a b c d e g,A a b c d e g->B a b c d e g->C a b c d e g->D a b c d e g->p):p:=by
 obtain⟨a,b,c,d,e,g,h1,h2,h3,h4⟩:=h
 exact f a b c d e g h1 h2 h3 h4
theorem Ms{α β γ δ ε ζ:Type}{A B C D E:α->β->γ->δ->ε->ζ->Prop}{p:Prop}(h:∃a b c d e g,A a b c d e g/\B a b c d e g/\C a b c d e g/\D a b c d e g/\E a b c d e g)(f:∀a b c d e g,A a b c d e g->B a b c d e g->C a b c d e g->D a b c d e g->E a b c d e g->p):p:=by
 obtain⟨a,b,c,d,e,g,h1,h2,h3,h4,h5⟩:=h
 exact f a b c d e g h1 h2 h3 h4 h5
def tE(K:PySem.W.Frag)(c:CE):TE:=fun σ H Q=>∃m ρ S u S',Sr K m S H/\Lr K m H ρ σ/\c ρ S=some (u,S')/\kC K m H Q u S'
def tT(K:PySem.W.Frag)(c:CT):TT:=fun σ H Q=>∃m ρ S u S',Sr K m S H/\Lr K m H ρ σ/\c ρ S=some (u,S')/\Bb K m H Q u S'
def tA(K:PySem.W.Frag)(c:CA):TA:=fun σ H Q=>∃m ρ S u S',Sr K m S H/\Lr K m H ρ σ/\c ρ S=some (u,S')/\LS K m H Q u S'
def tS(K:PySem.W.Frag)(c:CS):TS:=fun D σ H=>∃m ρ S o ρ' S',Sr K m S H/\Lr K m H ρ σ/\c ρ S=some (o,ρ',S')/\vU K m H D o ρ' S'
abbrev QE(X:Cx)(e:Expr)(c:CE):Prop:=WE X e (tE X.K c)
abbrev QT(X:Cx)(e:Expr)(c:CT):Prop:=WT X e (tT X.K c)
abbrev QW(X:Cx)(e:Expr)(c:CT):Prop:=WW X e (tT X.K c)
abbrev QS(X:Cx)(e:Stmt)(c:CS):Prop:=WS X e (tS X.K c)
abbrev QSs(X:Cx)(e:List Stmt)(c:CS):Prop:=WSs X e (tS X.K c)
structure QA(X:Cx)(es:List Expr)(c:CA):Prop where
 h:WA X es (tA X.K c)
 len:∀ρ S us S',c ρ S=some (us,S')->us.length=es.length
section
variable{X:Cx}{e:Expr}{es:List Expr}{st:Stmt}{sts:List Stmt}
theorem _root_.OG.WE.imp{t t':TE}(h:WE X e t)(i:∀σ H Q,t' σ H Q->t σ H Q):WE X e t':=⟨fun pins s σ H Q I k=>h.h pins s σ H Q I (i σ H Q k)⟩
theorem _root_.OG.WT.imp{t t':TT}(h:WT X e t)(i:∀σ H Q,t' σ H Q->t σ H Q):WT X e t':=⟨fun pins s σ H Q I k=>h.h pins s σ H Q I (i σ H Q k)⟩
theorem _root_.OG.WW.imp{t t':TT}(h:WW X e t)(i:∀σ H Q,t' σ H Q->t σ H Q):WW X e t':=⟨fun wh pins s σ H Q I k=>h.h wh pins s σ H Q I (i σ H Q k)⟩
theorem _root_.OG.WA.imp{t t':TA}(h:WA X es t)(i:∀σ H Q,t' σ H Q->t σ H Q):WA X es t':=⟨fun pos pins s σ H Q I k=>h.h pos pins s σ H Q I (i σ H Q k)⟩
theorem _root_.OG.WS.imp{t t':TS}(h:WS X st t)(i:∀D σ H,t' D σ H->t D σ H):WS X st t':=⟨fun pins s σ H D I k=>h.h pins s σ H D I (i D σ H k)⟩
theorem _root_.OG.WSs.imp{t t':TS}(h:WSs X sts t)(i:∀D σ H,t' D σ H->t D σ H):WSs X sts t':=⟨fun pins s σ H D I k=>h.h pins s σ H D I (i D σ H k)⟩
theorem _root_.OG.WI.imp{tg:Expr}{t t':TI}(h:WI X tg e t)(i:∀σ H R,t' σ H R->t σ H R):WI X tg e t':=⟨fun pins s σ H R I k=>h.h pins s σ H R I (i σ H R k)⟩
theorem _root_.OG.WG.imp{t t':TG}(h:WG X e t)(i:∀v σ H Q,t' v σ H Q->t v σ H Q):WG X e t':=⟨fun pins s σ H v u Q I r k=>h.h pins s σ H v u Q I r (i v σ H Q k)⟩
theorem _root_.OG.WGs.imp{t t':TGs}(h:WGs X es t)(i:∀v σ H Q,t' v σ H Q->t v σ H Q):WGs X es t':=⟨fun pins s σ H v u Q I r k=>h.h pins s σ H v u Q I r (i v σ H Q k)⟩
theorem _root_.OG.WE.or{t t':TE}(h:WE X e t)(h':WE X e t'):WE X e (fun σ H Q=>t σ H Q\/t' σ H Q):=⟨fun pins s σ H Q I k=>k.elim (h.h pins s σ H Q I) (h'.h pins s σ H Q I)⟩
theorem _root_.OG.WT.or{t t':TT}(h:WT X e t)(h':WT X e t'):WT X e (fun σ H Q=>t σ H Q\/t' σ H Q):=⟨fun pins s σ H Q I k=>k.elim (h.h pins s σ H Q I) (h'.h pins s σ H Q I)⟩
theorem _root_.OG.WS.or{t t':TS}(h:WS X st t)(h':WS X st t'):WS X st (fun D σ H=>t D σ H\/t' D σ H):=⟨fun pins s σ H D I k=>k.elim (h.h pins s σ H D I) (h'.h pins s σ H D I)⟩
theorem _root_.OG.WI.or{tg:Expr}{t t':TI}(h:WI X tg e t)(h':WI X tg e t'):WI X tg e (fun σ H D=>t σ H D\/t' σ H D):=⟨fun pins s σ H D I k=>k.elim (h.h pins s σ H D I) (h'.h pins s σ H D I)⟩
end
section
variable{K:PySem.W.Frag}{m m':List Addr}{H H':Hp}{Q:VK}{R:L2.St->Hp->Prop}{D:v8}{u:U}{o:Out}{S':Sto}{ρ':Rho}
theorem kC.mono(e:Ext K m H m' H')(p:kC K m H Q u S'):kC K m' H' Q u S':=fun m2 v H2 e2 r i=>p m2 v H2 (e.trans e2) r i
theorem Bb.mono{Q:Bool->Hp->Prop}{b:Bool}(e:Ext K m H m' H')(p:Bb K m H Q b S'):Bb K m' H' Q b S':=fun m2 H2 e2 r=>p m2 H2 (e.trans e2) r
theorem gH.mono(e:Ext K m H m' H')(p:gH K m H R ρ' S'):gH K m' H' R ρ' S':=fun m2 v H2 e2 r i=>p m2 v H2 (e.trans e2) r i
theorem vU.mono(e:Ext K m H m' H')(p:vU K m H D o ρ' S'):vU K m' H' D o ρ' S':=by
 cases o with
 |nx=>exact gH.mono e p
 |rt u=>exact kC.mono e p
 |bk=>exact gH.mono e p
 |ct=>exact gH.mono e p
end
def LIM:Nat:=100000
theorem lim{n:Nat}(h:n<=LIM):n<=sizeLine:=Nat.le_trans h (by unfold LIM sizeLine;decide)
theorem Hl{n:Nat}(h:n<LIM):n<sizeLine:=Nat.lt_of_lt_of_le h (by unfold LIM sizeLine;decide)
def ah(i:Nat):CE:=fun ρ S=>match ρ[i]? with
 |some (some u)=>some (u,S)
 |_=>none
def cC(u:U):CE:=fun _ S=>some (u,S)
section
variable{X:Cx}{e a b c:Expr}{ca cb cc:CE}{pos:Pos}
theorem af{i:Nat}(h:WE X e (IU i)):QE X e (ah i):=h.imp fun σ H Q hz=>nX hz fun m ρ S u S' sr lr hc post=>by
 unfold ah at hc
 split at hc
 ·rename_i u' e
  cases hc
  obtain⟨v,e1,e2⟩:=lr.at_ i u e
  exact⟨v,e1,post m v H .refl sr e2⟩
 ·cases hc
theorem q_c{v:V}{u:U}(h:WE X e (tC v))(hi:∀m H,Is X.K m H v u):QE X e (cC u):=h.imp fun σ H Q hz=>nX hz fun m ρ S u' S' sr lr hc post=>by
 cases hc
 exact post m v H .refl sr (hi m H)
theorem ar{i:Int}(h:WE X e (tC (.int i))):QE X e (cC (.int i)):=q_c h fun _ _=>.int_
theorem qj{i:Bool}(h:WE X e (tC (.bl i))):QE X e (cC (.bl i)):=q_c h fun _ _=>.bl_
theorem aY{i:Str}(h:WE X e (tC (.str i))):QE X e (cC (.str i)):=q_c h fun _ _=>.str_
theorem pF(h:WE X e (tC .non)):QE X e (cC .non):=q_c h fun _ _=>.non_
def cOp(f:U->U->Sto->Option (U×Sto))(ca cb:CE):CE:=fun ρ S=>(ca ρ S).bind fun p=>(cb ρ p.2).bind fun q=>f p.1 q.1 q.2
def OpP(K:PySem.W.Frag)(r:R2)(f:U->U->Sto->Option (U×Sto)):Prop:=
 ∀m S H x y v w u S' Q,Sr K m S H->Is K m H v x->Is K m H w y->f x y S=some (u,S')->kC K m H Q u S'->r v w H Q
theorem xp{K:PySem.W.Frag}{r:R2}{f:U->U->Sto->Option (U×Sto)}(hp:OpP K r f):∀σ H Q,tE K (cOp f ca cb) σ H Q->tOp r (tE K ca) (tE K cb) σ H Q:=by
 rintro σ H Q ⟨m,ρ,S,u,S',sr,lr,hc,post⟩
 obtain⟨⟨x,S1⟩,h1,h⟩:=Option.bind_eq_some_iff.mp hc
 obtain⟨⟨y,S2⟩,h2,h3⟩:=Option.bind_eq_some_iff.mp h
 exact⟨m,ρ,S,x,S1,sr,lr,h1,fun m1 v1 H1 e1 sr1 i1=>⟨m1,ρ,S1,y,S2,sr1,lr.mono e1,h2,fun m2 v2 H2 e2 sr2 i2=>hp m2 S2 H2 x y v1 v2 u S' Q sr2 (i1.mono e2) i2 h3 (post.mono (e1.trans e2))⟩⟩
theorem dG{op:Operator}{r:R2}{f:U->U->Sto->Option (U×Sto)}(ho:OpR X (binaryOp op) r)(hp:OpP X.K r f)(ha:QE X a ca)(hb:QE X b cb):QE X (.BinOp a op b pos) (cOp f ca cb):=(FZ ho ha hb).imp (xp hp)
theorem pG{op:CmpOp}{r:R2}{f:U->U->Sto->Option (U×Sto)}(ho:OpR X (compareOp op) r)(hp:OpP X.K r f)(ha:QE X a ca)(hb:QE X b cb)(hm:behindInMarks op b=false):QE X (.Compare a [op] [b] pos) (cOp f ca cb):=(zu ho ha hb hm).imp (xp hp)
def aH(c:CE):CT:=fun ρ S=>(c ρ S).bind fun p=>match p.1 with
 |.bl b=>some (b,p.2)
 |_=>none
theorem i8{K:PySem.W.Frag}{c:CE}{t:TE}(h:∀σ H Q,tE K c σ H Q->t σ H Q):∀σ H Q,tT K (aH c) σ H Q->t σ H fun x H'=>∃k,x=.bl k/\Q k H':=by
 rintro σ H Q ⟨m,ρ,S,u,S',sr,lr,hc,post⟩
 obtain⟨⟨x,S1⟩,h1,h2⟩:=Option.bind_eq_some_iff.mp hc
 refine h σ H _ ⟨m,ρ,S,x,S1,sr,lr,h1,fun m1 v1 H1 e1 sr1 i1=>?_⟩
 cases x<;>simp at h2
 obtain⟨rfl,rfl⟩:=h2
 exact⟨_,i1.of_bl,post m1 H1 e1 sr1⟩
theorem aR{op:CmpOp}{r:R2}{f:U->U->Sto->Option (U×Sto)}(ho:OpR X (compareOp op) r)(hp:OpP X.K r f)(ha:QE X a ca)(hb:QE X b cb)(hm:behindInMarks op b=false):QT X (.Compare a [op] [b] pos) (aH (cOp f ca cb)):=(ph ho ha hb hm).imp (i8 (xp hp))
theorem gB(h:QE X e ca)(he:∀whole,isTrue e X.env whole=(do let v <-whole;standAt e.pos;holding [v] (truthy v)):=by intro _;rfl):QT X e (aH ca):=(CK h he).imp (i8 fun _ _ _ z=>z)
variable{ta tb:CT}{rest:List Expr}
def me(ta tb:CT):CT:=fun ρ S=>(ta ρ S).bind fun p=>if p.1=true then tb ρ p.2 else some (false,p.2)
def cOr(ta tb:CT):CT:=fun ρ S=>(ta ρ S).bind fun p=>if p.1=true then some (true,p.2)else tb ρ p.2
def yN(ta:CT):CT:=fun ρ S=>(ta ρ S).bind fun p=>some (!p.1,p.2)
theorem sE(h:QW X e ta):QT X e ta:=WW.pt h
theorem jj(ha:QT X a ta):QW X (.BoolOp .And [a] pos) ta:=zf ha
theorem w9(ha:QT X a ta):QW X (.BoolOp .Or [a] pos) ta:=CH ha
theorem kI(ha:QT X a ta)(hb:QW X (.BoolOp .And (b::rest) pos) tb):QW X (.BoolOp .And (a::b::rest) pos) (me ta tb):=(CJ ha hb).imp fun σ H Q hz=>nX hz fun m ρ S u S' sr lr hc post=>by
 obtain⟨⟨x,S1⟩,h1,h2⟩:=Option.bind_eq_some_iff.mp hc
 refine⟨m,ρ,S,x,S1,sr,lr,h1,fun m1 H1 e1 sr1=>?_⟩
 cases x with
 |true=>exact ET ⟨m1,ρ,S1,u,S',sr1,lr.mono e1,h2,post.mono e1⟩
 |false=>cases h2;exact EU (post m1 H1 e1 sr1)
theorem Dp(ha:QT X a ta)(hb:QW X (.BoolOp .Or (b::rest) pos) tb):QW X (.BoolOp .Or (a::b::rest) pos) (cOr ta tb):=(FX ha hb).imp fun σ H Q hz=>nX hz fun m ρ S u S' sr lr hc post=>by
 obtain⟨⟨x,S1⟩,h1,h2⟩:=Option.bind_eq_some_iff.mp hc
 refine⟨m,ρ,S,x,S1,sr,lr,h1,fun m1 H1 e1 sr1=>?_⟩
 cases x with
 |true=>cases h2;exact ET (post m1 H1 e1 sr1)
 |false=>exact EU ⟨m1,ρ,S1,u,S',sr1,lr.mono e1,h2,post.mono e1⟩
theorem lO(ha:QT X a ta):QT X (.UnaryOp .Not a pos) (yN ta):=(CL ha).imp fun σ H Q hz=>nX hz fun m ρ S u S' sr lr hc post=>by
 obtain⟨⟨x,S1⟩,h1,h2⟩:=Option.bind_eq_some_iff.mp hc
 cases h2
 exact⟨m,ρ,S,x,_,sr,lr,h1,fun m1 H1 e1 sr1=>post m1 H1 e1 sr1⟩
def tU(ca cb:CE):CE:=fun ρ S=>(ca ρ S).bind fun p=>match p.1 with
 |.bl true=>cb ρ p.2
 |.bl false=>some (.bl false,p.2)
 |_=>none
def Mt(ca cb:CE):CE:=fun ρ S=>(ca ρ S).bind fun p=>match p.1 with
 |.bl false=>cb ρ p.2
 |.bl true=>some (.bl true,p.2)
 |_=>none
def IB(ca:CE):CE:=fun ρ S=>(ca ρ S).bind fun p=>match p.1 with
 |.bl b=>some (.bl (!b),p.2)
 |_=>none
theorem Dq{op}(h:QE X a ca):QE X (.BoolOp op [a] pos) ca:=CU h
theorem xc(ha:QE X a ca)(hb:QE X (.BoolOp .And (b::rest) pos) cb):QE X (.BoolOp .And (a::b::rest) pos) (tU ca cb):=(CW ha hb).imp fun σ H Q hz=>nX hz fun m ρ S u S' sr lr hc post=>by
 obtain⟨⟨x,S1⟩,h1,h2⟩:=Option.bind_eq_some_iff.mp hc
 refine⟨m,ρ,S,x,S1,sr,lr,h1,fun m1 v1 H1 e1 sr1 i1=>?_⟩
 cases x with
 |bl k=>
  refine⟨k,i1.of_bl,?_⟩
  cases k with
  |true=>exact ET ⟨m1,ρ,S1,u,S',sr1,lr.mono e1,h2,post.mono e1⟩
  |false=>cases h2;exact EU (post m1 _ H1 e1 sr1 .bl_)
 |_=>simp at h2
def cIf(t:CT)(ca cb:CE):CE:=fun ρ S=>(t ρ S).bind fun p=>if p.1=true then ca ρ p.2 else cb ρ p.2
def rN(f f':U->U->Sto->Option (U×Sto))(ca cb cc:CE):CE:=fun ρ S=>(ca ρ S).bind fun p=>(cb ρ p.2).bind fun q=>(f p.1 q.1 q.2).bind fun r=>match r.1 with
 |.bl true=>(cc ρ r.2).bind fun z=>f' q.1 z.1 z.2
 |.bl false=>some (.bl false,r.2)
 |_=>none
theorem yI{K:PySem.W.Frag}{r r':R2}{f f':U->U->Sto->Option (U×Sto)}(hp:OpP K r f)(hp':OpP K r' f'):∀σ H Q,tE K (rN f f' ca cb cc) σ H Q->wL r r' (tE K ca) (tE K cb) (tE K cc) σ H Q:=by
 rintro σ H Q ⟨m,ρ,S,u,S',sr,lr,hc,post⟩
 obtain⟨⟨x,S1⟩,h1,h⟩:=Option.bind_eq_some_iff.mp hc
 obtain⟨⟨y,S2⟩,h2,h⟩:=Option.bind_eq_some_iff.mp h
 obtain⟨⟨z,S3⟩,h3,h4⟩:=Option.bind_eq_some_iff.mp h
 refine⟨m,ρ,S,x,S1,sr,lr,h1,fun m1 v1 H1 e1 sr1 i1=>⟨m1,ρ,S1,y,S2,sr1,lr.mono e1,h2,fun m2 v2 H2 e2 sr2 i2=>hp m2 S2 H2 x y v1 v2 z S3 _ sr2 (i1.mono e2) i2 h3 fun m3 v3 H3 e3 sr3 i3=>?_⟩⟩
 have e03:=(e1.trans e2).trans e3
 cases z with
 |bl k=>
  refine⟨k,i3.of_bl,?_⟩
  cases k with
  |true=>
   obtain⟨⟨w,S4⟩,h5,h6⟩:=Option.bind_eq_some_iff.mp h4
   exact ET ⟨m3,ρ,S3,w,S4,sr3,lr.mono e03,h5,fun m4 v4 H4 e4 sr4 i4=>hp' m4 S4 H4 y w v2 v4 u S' Q sr4 (i2.mono (e3.trans e4)) i4 h6 (post.mono (e03.trans e4))⟩
  |false=>cases h4;exact EU (post m3 _ H3 e03 sr3 .bl_)
 |_=>simp at h4
theorem zS{op op':CmpOp}{r r':R2}{f f':U->U->Sto->Option (U×Sto)}(ho:OpR X (compareOp op) r)(hp:OpP X.K r f)(ho':OpR X (compareOp op') r')(hp':OpP X.K r' f')(ha:QE X a ca)(hb:QE X b cb)(hc:QE X c cc)
  (hm:lastMarks [op,op'] [b,c]=false:=by with_unfolding_all rfl):QT X (.Compare a [op,op'] [b,c] pos) (aH (rN f f' ca cb cc)):=(wj ho ho' ha hb hc hm).imp (i8 (yI hp hp'))
variable{es:List Expr}{cr:CA}
def aA:CA:=fun _ S=>some ([],S)
def ae(ca:CE)(cr:CA):CA:=fun ρ S=>(ca ρ S).bind fun p=>(cr ρ p.2).bind fun q=>some (p.1::q.1,q.2)
theorem aw:QA X [] aA:=⟨kF.imp fun σ H Q hz=>nX hz fun m ρ S u S' sr lr hc post=>by cases hc;exact post m [] H .refl sr .nil_,fun ρ S us S' h=>by cases h;rfl⟩
theorem ab(ha:QE X e ca)(hr:QA X es cr)(hs:starEach (e::es) X.env=(false,eval e X.env)::starEach es X.env:=by rfl):QA X (e::es) (ae ca cr):=⟨(fu ha hr.h hs).imp fun σ H Q hz=>nX hz fun m ρ S u S' sr lr hc post=>by
 obtain⟨⟨x,S1⟩,h1,h⟩:=Option.bind_eq_some_iff.mp hc
 obtain⟨⟨y,S2⟩,h2,h3⟩:=Option.bind_eq_some_iff.mp h
 cases h3
 exact⟨m,ρ,S,x,S1,sr,lr,h1,fun m1 v1 H1 e1 sr1 i1=>⟨m1,ρ,S1,y,S2,sr1,lr.mono e1,h2,fun m2 v2 H2 e2 sr2 i2=>post m2 _ H2 (e1.trans e2) sr2 (.cons_ (i1.mono e2) i2)⟩⟩,
 fun ρ S us S' h=>by
 obtain⟨⟨x,S1⟩,h1,h⟩:=Option.bind_eq_some_iff.mp h
 obtain⟨⟨y,S2⟩,h2,h3⟩:=Option.bind_eq_some_iff.mp h
 cases h3
 simp[hr.len ρ S1 y S2 h2]⟩
def cL(cr:CA):CE:=fun ρ S=>(cr ρ S).bind fun p=>some (.tup p.1,p.2)
def gG(cr:CA):CE:=fun ρ S=>(cr ρ S).bind fun p=>some (.ref p.2.length,p.2++[.lst p.1])
theorem ef{m:List Addr}{S:Sto}{q:Addr}(h:m.length=S.length):(m++[q])[S.length]?=some q:=by rw[List.getElem?_append_right (by omega)];simp[h]
theorem pH{K:PySem.W.Frag}{m:List Addr}{H:Hp}{S:Sto}{us:List U}{xs:List V}{Q:VK}{p:Addr}(sr:Sr K m S H)(i:IsL K m H xs us)(post:kC K m H Q (.tup us) S)(hp:H p=none):Q (.ref p) (upd H p (.tup xs)):=
 post m _ _ (.of (cK hp _)) (sr.same (d6 hp _)) (.tup_ (SqT.of aS) (i.mono (.of (cK hp _))))
theorem eR{K:PySem.W.Frag}{m:List Addr}{H:Hp}{S:Sto}{us:List U}{xs:List V}{Q:VK}{p:Addr}(sr:Sr K m S H)(i:IsL K m H xs us)(post:kC K m H Q (.ref S.length) (S++[.lst us]))(hp:H p=none):Q (.ref p) (upd H p (.lst xs)):=
 post (m++[p]) _ _ (.new (cK hp _)) (sr.new hp ⟨xs,aS,i.mono (.new (cK hp _))⟩) (.ref_ (ef sr.len))
theorem bt{x1}(h:QA X es cr)(hl:es.length<=1000:=by exact Nat.le_of_ble_eq_true rfl):QE X (.Tuple es x1 pos) (cL cr):=(CQ h.h).imp fun σ H Q hz=>nX hz fun m ρ S u S' sr lr hc post=>by
 obtain⟨⟨us,S1⟩,h1,h2⟩:=Option.bind_eq_some_iff.mp hc
 cases h2
 refine⟨m,ρ,S,us,_,sr,lr,h1,fun m1 v1 H1 e1 sr1 i1=>⟨qG ?_,fun p hp=>pH sr1 i1 (post.mono e1) hp⟩⟩
 rw[i1.length,h.len _ _ _ _ h1];exact hl
theorem gu(h:QA X es cr)(hl:es.length<=1000:=by exact Nat.le_of_ble_eq_true rfl):QE X (.List es pos) (gG cr):=(wy h.h).imp fun σ H Q hz=>nX hz fun m ρ S u S' sr lr hc post=>by
 obtain⟨⟨us,S1⟩,h1,h2⟩:=Option.bind_eq_some_iff.mp hc
 cases h2
 refine⟨m,ρ,S,us,_,sr,lr,h1,fun m1 v1 H1 e1 sr1 i1=>⟨qG ?_,fun p hp=>eR sr1 i1 (post.mono e1) hp⟩⟩
 rw[i1.length,h.len _ _ _ _ h1];exact hl
def cCB(f:List U->Sto->Option (U×Sto))(cr:CA):CE:=fun ρ S=>(cr ρ S).bind fun p=>f p.1 p.2
def mf(K:PySem.W.Frag)(r:List V->Hp->VK->Prop)(f:List U->Sto->Option (U×Sto)):Prop:=
 ∀m S H us vs u S' Q,Sr K m S H->IsL K m H vs us->f us S=some (u,S')->kC K m H Q u S'->r vs H Q
theorem BQ{K:PySem.W.Frag}{r:List V->Hp->VK->Prop}{f:List U->Sto->Option (U×Sto)}(hp:mf K r f):∀σ H Q,tE K (cCB f cr) σ H Q->tCB r (tA K cr) σ H Q:=by
 rintro σ H Q ⟨m,ρ,S,u,S',sr,lr,hc,post⟩
 obtain⟨⟨us,S1⟩,h1,h2⟩:=Option.bind_eq_some_iff.mp hc
 exact⟨m,ρ,S,us,S1,sr,lr,h1,fun m1 v1 H1 e1 sr1 i1=>hp m1 S1 H1 us v1 u S' Q sr1 i1 h2 (post.mono e1)⟩
theorem bC{id:String}{x:Str}{p:Pos}{r:List V->Hp->VK->Prop}{f:List U->Sto->Option (U×Sto)}(hc:fT X (.builtin id) r)(hp:mf X.K r f)(hg:Gl X x)(hm:X.mg x=none)(hv:bootBuiltins x=some (.builtin id))(ha:QA X (e::es) cr)(hn:x≠"__name__":=by decide)(hdb:(x == ("__debug__":Str))=false:=by decide)(he:starEach (e::es) X.env=(false,eval e X.env)::starEach es X.env:=by rfl)(hpl:(backTo pos (starEach es X.env)).any (·.1)=false:=by rfl) :
  QE X (.Call (.Name x p) (e::es) [] pos) (cCB f cr):=(qw hc hg hm hv ha.h hn hdb he hpl).imp (BQ hp)
theorem cq{id:String}{x:Str}{p:Pos}{r:List V->Hp->VK->Prop}{f:List U->Sto->Option (U×Sto)}(hc:fT X (.type id) r)(hp:mf X.K r f)(hg:Gl X x)(hm:X.mg x=none)(hv:bootBuiltins x=some (.type id))(ha:QA X (e::es) cr)(hn:x≠"__name__":=by decide)(hdb:(x == ("__debug__":Str))=false:=by decide)(he:starEach (e::es) X.env=(false,eval e X.env)::starEach es X.env:=by rfl)(hpl:(backTo pos (starEach es X.env)).any (·.1)=false:=by rfl) :
  QE X (.Call (.Name x p) (e::es) [] pos) (cCB f cr):=(oz hc hg hm hv ha.h hn hdb he hpl).imp (BQ hp)
end
def zJ(K:PySem.W.Frag)(f:List U->Sto->Option (U×Sto)):Sp:=fun vs H Q _=>∃m us S u S',IsL K m H vs us/\Sr K m S H/\f us S=some (u,S')/\kC K m H Q u S'
abbrev Fn:=List U->Sto->Option (U×Sto)
abbrev c8(P:Program)(w:World)(K:PySem.W.Frag)(mg:Str->Option Value)(base:Heap)(x:Str)(k:Nat)(ps:List Str)(f:Fn):Prop:=Has P w K mg base x k ps (zJ K f)
def qE(n:Nat)(us:List U):Rho:=us.map some++List.replicate (n-us.length) none
def fnU(n k:Nat)(c:CS):Fn:=fun us S=>if us.length=k then(c (qE n us) S).bind fun r=>match r.1 with
 |.rt u=>some (u,r.2.2)
 |.nx=>some (.non,r.2.2)
 |_=>none else none
section
variable{P:Program}{w:World}{K:PySem.W.Frag}{mg:Str->Option Value}{base:Heap}{x:Str}{st:Stmt}{ps N:List Str}{k:Nat}{c:CS}{f:Fn}
theorem Ax{m:List Addr}{H:Hp}{vs:List V}{us:List U}(i:IsL K m H vs us):Lr K m H (qE N.length us) (L2.jX N vs):=by
 have hl:=i.length
 refine⟨by simp[qE,L2.jX,hl],fun j u e=>?_⟩
 unfold qE at e
 unfold L2.jX
 by_cases c:j<us.length
 ·rw[List.getElem?_append_left (by simpa using c),List.getElem?_map]at e
  rw[List.getElem?_append_left (by simpa [hl] using c),List.getElem?_map]
  rw[List.getElem?_eq_getElem c]at e
  simp at e
  obtain⟨v,e1,e2⟩:=i.getD (List.getElem?_eq_getElem c)
  rw[e1]
  subst e
  exact⟨v,rfl,e2⟩
 ·rw[List.getElem?_append_right (by simpa using c),List.getElem?_replicate]at e
  split at e<;>cases e
theorem yf{X:Cx}{body:List Stmt}{Q:VK}{E:XK}{vs:List V}{H:Hp}(hK:X.K=K)(h:zJ K (fnU N.length ps.length c) vs H Q E):tS X.K c { nx:=fun _ H'=>Q .non H',rt:=Q } (L2.jX N vs) H:=by
 subst hK
 obtain⟨m,us,S,u,S',i,sr,hf,post⟩:=h
 unfold fnU at hf
 split at hf
 ·obtain⟨⟨o,ρ',S2⟩,h1,h2⟩:=Option.bind_eq_some_iff.mp hf
  refine⟨m,_,S,o,ρ',S2,sr,Ax i,h1,?_⟩
  cases o with
  |rt v=>cases h2;exact post
  |nx=>cases h2;exact fun m1 σ1 H1 e1 sr1 _=>post m1 _ H1 e1 sr1 .non_
  |bk=>simp at h2
  |ct=>simp at h2
 ·cases hf
theorem uk{vs:List V}{H:Hp}{Q:VK}{E:XK}{n k:Nat}(h:zJ K (fnU n k c) vs H Q E):vs.length=k:=by
 obtain⟨m,us,S,u,S',i,sr,hf,post⟩:=h
 unfold fnU at hf
 split at hf
 ·rename_i e
  rw[i.length,e]
 ·cases hf
theorem _root_.OG.Def.pure(d:Def K mg x st ps)(S:aQ N ps (ay st))
  (hb:∀(f:Addr) (cdv:Value) (A:Around) (outer:List Env) (s:Shared) (H:Hp) (E:XK),gJ k (A.deeper (envOfC x (ay st) s.heap.objs.size f cdv))->
   WSs (uZ CX0 P w K mg base N x (ay st) f cdv A outer s H E).nox (ej st) (tS K c)):c8 P w K mg base x (k+1) ps (fnU N.length ps.length c):=
 d.has S (fun vs H Q E h=>uk h) fun f cdv A outer s H vs Q E hr h=>⟨_,hb f cdv A outer s H E hr,yf (X:=(uZ CX0 P w K mg base N x (ay st) f cdv A outer s H E).nox) (body:=[]) (ps:=ps) rfl h⟩
theorem _root_.OG.Def.no(d:Def K mg x st ps):c8 P w K mg base x k ps (fun _ _=>none):=d.none fun vs H Q E h=>by
 obtain⟨m,us,S,u,S',i,sr,hf,post⟩:=h
 cases hf
theorem aP{X:Cx}{e:Expr}{es:List Expr}{cr:CA}{p pos:Pos}(F:Has X.prog X.w X.K X.mg X.base x k ps (zJ X.K f))(hr:gJ k X.A)(hg:Gl X x)(ha:QA X (e::es) cr)
  (hdb:(x == ("__debug__":Str))=false:=by decide) (he:starEach (e::es) X.env=(false,eval e X.env)::starEach es X.env:=by rfl) (hpl:(backTo pos (starEach es X.env)).any (·.1)=false:=by rfl) :
  QE X (.Call (.Name x p) (e::es) [] pos) (cCB f cr):=(Bh F hr hg ha.h hdb he hpl).imp fun σ H Q hz=>nX hz fun m ρ S u S' sr lr hc post=>by
 obtain⟨⟨us,S1⟩,h1,h2⟩:=Option.bind_eq_some_iff.mp hc
 exact⟨m,ρ,S,us,S1,sr,lr,h1,fun m1 v1 H1 e1 sr1 i1=>⟨m1,us,S1,u,S',by simpa using i1,sr1,h2,post.mono e1⟩⟩
end
section
variable{X:Cx}{e a b c:Expr}{ca cb cc:CE}{pos:Pos}{st:Stmt}{sts:List Stmt}{c1 c2:CS}
def cf:CS:=fun ρ S=>some (.nx,ρ,S)
def bg(c1 c2:CS):CS:=fun ρ S=>(c1 ρ S).bind fun r=>match r.1 with
 |.nx=>c2 r.2.1 r.2.2
 |o=>some (o,r.2.1,r.2.2)
theorem bz:QSs X [] cf:=zg.imp fun D σ H hz=>vM hz fun m ρ S o ρ' S' sr lr hc post=>by cases hc;exact post m σ H .refl sr lr
theorem aq(h1:QS X st c1)(h2:QSs X sts c2):QSs X (st::sts) (bg c1 c2):=(qt h1 h2).imp fun D σ H hz=>vM hz fun m ρ S o ρ' S' sr lr hc post=>by
 obtain⟨⟨o1,ρ1,S1⟩,h1,h2⟩:=Option.bind_eq_some_iff.mp hc
 refine⟨m,ρ,S,o1,ρ1,S1,sr,lr,h1,?_⟩
 cases o1 with
 |nx=>exact fun m1 σ1 H1 e1 sr1 lr1=>⟨m1,ρ1,S1,o,ρ',S',sr1,lr1,h2,post.mono e1⟩
 |rt u=>cases h2;exact post
 |bk=>cases h2;exact post
 |ct=>cases h2;exact post
theorem ax(h1:QS X st c1):QSs X [st] c1:=uc h1
def d3(ca:CE):CS:=fun ρ S=>(ca ρ S).bind fun p=>some (.nx,ρ,p.2)
theorem b7(he:QE X e ca)(hs:swapsWith e none pos.line X.env=pure false:=by rfl):QS X (.Expr e pos) (d3 ca):=(zh he hs).imp fun D σ H hz=>vM hz fun m ρ S o ρ' S' sr lr hc post=>by
 obtain⟨⟨u,S1⟩,h1,h2⟩:=Option.bind_eq_some_iff.mp hc
 cases h2
 exact⟨m,ρ,S,u,_,sr,lr,h1,fun m1 v1 H1 e1 sr1 i1=>post m1 σ H1 e1 sr1 (lr.mono e1)⟩
def eV(ca:CE):CS:=fun ρ S=>(ca ρ S).bind fun p=>some (.rt p.1,ρ,p.2)
theorem aZ(he:QE X e ca):QS X (.Return (some e) pos) (eV ca):=(wo he).imp fun D σ H hz=>vM hz fun m ρ S o ρ' S' sr lr hc post=>by
 obtain⟨⟨u,S1⟩,h1,h2⟩:=Option.bind_eq_some_iff.mp hc
 cases h2
 exact⟨m,ρ,S,u,_,sr,lr,h1,post⟩
def dM(t:CT)(c1 c2:CS):CS:=fun ρ S=>(t ρ S).bind fun p=>if p.1=true then c1 ρ p.2 else c2 ρ p.2
theorem bL{t:CT}{s1 s2:List Stmt}(hc:QT X c t)(h1:QSs X s1 c1)(h2:QSs X s2 c2):QS X (.If c s1 s2 pos) (dM t c1 c2):=(FY hc h1 h2).imp fun D σ H hz=>vM hz fun m ρ S o ρ' S' sr lr hc post=>by
 obtain⟨⟨x,S1⟩,h1,h2⟩:=Option.bind_eq_some_iff.mp hc
 refine⟨m,ρ,S,x,S1,sr,lr,h1,fun m1 H1 e1 sr1=>?_⟩
 cases x with
 |true=>exact ET ⟨m1,ρ,S1,o,ρ',S',sr1,lr.mono e1,h2,post.mono e1⟩
 |false=>exact EU ⟨m1,ρ,S1,o,ρ',S',sr1,lr.mono e1,h2,post.mono e1⟩
abbrev CG:=U->Rho->Sto->Option (Rho×Sto)
def tG(K:PySem.W.Frag)(g:CG):TG:=fun v σ H Q=>∃m ρ S u ρ' S',Sr K m S H/\Lr K m H ρ σ/\Is K m H v u/\g u ρ S=some (ρ',S')/\gH K m H Q ρ' S'
abbrev QG(X:Cx)(e:Expr)(g:CG):Prop:=WG X e (tG X.K g)
def gNm(i:Nat):CG:=fun u ρ S=>some (ρ.set i (some u),S)
theorem fJ{i:Nat}(h:WG X e (vI i)):QG X e (gNm i):=h.imp fun v σ H Q hz=>Ms hz fun m ρ S u ρ' S' sr lr iu hc post=>by
 cases hc
 exact post m _ H .refl sr (lr.set i iu)
def ib:List Nat->List U->Rho->Option Rho
 |[],[],ρ=>some ρ
 |i::is,u::us,ρ=>ib is us (ρ.set i (some u))
 |_,_,_=>none
def tGs(K:PySem.W.Frag)(is:List Nat):TGs:=fun vs σ H Q=>∃m ρ S us ρ',Sr K m S H/\Lr K m H ρ σ/\IsL K m H vs us/\ib is us ρ=some ρ'/\gH K m H Q ρ' S
abbrev QGs(X:Cx)(es:List Expr)(is:List Nat):Prop:=WGs X es (tGs X.K is)
theorem jE:QGs X [] []:=zm.imp fun v σ H Q ⟨m,ρ,S,us,ρ',sr,lr,iu,hc,post⟩=>by
 cases us with
 |nil=>cases hc;exact⟨iu.of_nil,post m σ H .refl sr lr⟩
 |cons a r=>simp[ib]at hc
theorem cN{i:Nat}{is:List Nat}{es:List Expr}(h:WG X e (vI i))(h2:QGs X es is)(hs:(assignEach (e::es) X.env).map (·.2)=assign e X.env::(assignEach es X.env).map (·.2):=by rfl):QGs X (e::es) (i::is):=(wu h h2 hs).imp fun v σ H Q ⟨m,ρ,S,us,ρ',sr,lr,iu,hc,post⟩=>by
 cases us with
 |nil=>simp[ib]at hc
 |cons u r=>
  obtain⟨x,xr,rfl,i1,i2⟩:=iu.of_cons
  exact⟨x,xr,rfl,m,ρ.set i (some u),S,r,ρ',sr,lr.set i i1,i2,hc,post⟩
def gTp(is:List Nat):CG:=fun u ρ S=>match u with
 |.tup us=>(ib is us ρ).bind fun ρ'=>some (ρ',S)
 |_=>none
theorem oH:∀{is:List Nat} {us:List U} {ρ ρ':Rho},ib is us ρ=some ρ'->us.length=is.length
 |[],[],_,_,_=>rfl
 |[],_::_,_,_,h=>by simp[ib]at h
 |_::_,[],_,_,h=>by simp[ib]at h
 |i::is,u::us,ρ,ρ',h=>by
  have:=oH (is:=is) (us:=us) h
  simp[this]
theorem ng{is:List Nat}{es:List Expr}{k:Nat}(hc:X.calm=true)(h:QGs X es is)(hn:(assignEach es X.env).length=is.length:=by rfl)(hst:(assignEach es X.env).findIdx? (·.1)=none:=by rfl):QG X (.Tuple es k pos) (gTp is):=(CO hc h hn hst).imp fun v σ H Q hz=>Ms hz fun m ρ S u ρ' S' sr lr iu hc post=>by
 cases u with
 |tup us=>
  obtain⟨ρ2,h1,h2⟩:=Option.bind_eq_some_iff.mp hc
  cases h2
  obtain⟨a,xs,rfl,sq,il⟩:=iu.of_tup
  refine⟨a,xs,rfl,sq,?_,m,ρ,S,us,ρ',sr,lr,il,h1,post⟩
  rw[il.length];exact oH h1
 |_=>simp[gTp]at hc
def ID(ca:CE)(g:CG):CS:=fun ρ S=>(ca ρ S).bind fun p=>(g p.1 ρ p.2).bind fun q=>some (.nx,q.1,q.2)
theorem EL{K:PySem.W.Frag}{g:CG}:∀D σ H,tS K (ID ca g) D σ H->Ge (tE K ca) (tG K g) D σ H:=by
 rintro D σ H ⟨m,ρ,S,o,ρ',S',sr,lr,hc,post⟩
 obtain⟨⟨u,S1⟩,h1,h2⟩:=Option.bind_eq_some_iff.mp hc
 obtain⟨⟨ρ2,S2⟩,h3,h4⟩:=Option.bind_eq_some_iff.mp h2
 cases h4
 exact⟨m,ρ,S,u,S1,sr,lr,h1,fun m1 v1 H1 e1 sr1 i1=>⟨m1,ρ,S1,u,_,_,sr1,lr.mono e1,i1,h3,gH.mono e1 post⟩⟩
theorem Gq{tg:Expr}{g:CG}(he:QE X e ca)(hg:QG X tg g)(hs:swapsWithSole [tg] e pos.line X.env=pure false:=by rfl)(hw:swappedStores [tg] e X.env=pure none:=by rfl)
  (h1:(assignEach [tg] X.env).map (·.2)=[assign tg X.env]:=by rfl):QS X (.Assign [tg] e pos) (ID ca g):=(wq he hg hs hw h1).imp EL
def bO(i:Nat)(ca:CE):CS:=fun ρ S=>(ca ρ S).bind fun p=>some (.nx,ρ.set i (some p.1),p.2)
theorem aI{i:Nat}{x:Str}{pos':Pos}(hN:X.N.Nodup)(hi:X.N[i]?=some x)(hx:Loc X.env.scope x)(he:QE X e ca)(hs:swapsWith e (some (.Name x pos')) pos.line X.env=pure false:=by rfl)(hf:X.fn x=true\/X.env.scope.names.lookup x=some .local:=by first|exact .inl rfl|exact .inr rfl|assumption) :
  QS X (.Assign [.Name x pos'] e pos) (bO i ca):=(wm hN hi hx he hs hf).imp fun D σ H hz=>vM hz fun m ρ S o ρ' S' sr lr hc post=>by
 obtain⟨⟨u,S1⟩,h1,h2⟩:=Option.bind_eq_some_iff.mp hc
 cases h2
 exact⟨m,ρ,S,u,_,sr,lr,h1,fun m1 v1 H1 e1 sr1 i1=>post m1 _ H1 e1 sr1 ((lr.mono e1).set i i1)⟩
abbrev CI:=Rho->Sto->Option (List U×(Sto->Prop)×Sto)
def y9(K:PySem.W.Frag)(J:It)(m:List Addr)(H:Hp)(us:List U)(ok:Sto->Prop):Prop:=∀m2 S2 H2 i,Ext K m H m2 H2->Sr K m2 S2 H2->ok S2->
 (∀u,us[i]?=some u->J.go i H2/\∀x H3,J.yld i H2 x H3->Ext K m2 H2 m2 H3/\Sr K m2 S2 H3/\Is K m2 H3 x u)/\(us.length<=i->J.stop i H2)
def tI(K:PySem.W.Frag)(ci:CI):TI:=fun σ H R=>∃m ρ S us ok S',Sr K m S H/\Lr K m H ρ σ/\ci ρ S=some (us,ok,S')/\∀m' H' J,Ext K m H m' H'->Sr K m' S' H'->y9 K J m' H' us ok->R J H'
abbrev QI(X:Cx)(tg iter:Expr)(ci:CI):Prop:=WI X tg iter (tI X.K ci)
open Classical in
def cP(ok:Sto->Prop)(g:CG)(cb:CS):List U->CS
 |[]=>fun ρ S=>if ok S then some (.nx,ρ,S)else none
 |u::us=>fun ρ S=>if ok S then(g u ρ S).bind fun p=>(cb p.1 p.2).bind fun r=>match r.1 with
  |.nx=>cP ok g cb us r.2.1 r.2.2
  |.ct=>cP ok g cb us r.2.1 r.2.2
  |.bk=>some (.nx,r.2.1,r.2.2)
  |.rt v=>some (.rt v,r.2.1,r.2.2)else none
def jV(ci:CI)(g:CG)(cb:CS):CS:=fun ρ S=>(ci ρ S).bind fun p=>cP p.2.1 g cb p.1 ρ p.2.2
theorem ko{α:Type}{us:List α}{i:Nat}{u:α}(h:us[i]?=some u):us.drop i=u::us.drop (i+1):=by
 obtain⟨hl,e⟩:=List.getElem?_eq_some_iff.mp h
 rw[List.drop_eq_getElem_cons hl,e]
theorem pO{K:PySem.W.Frag}{g:CG}{cb:CS}{J:It}{us:List U}{ok:Sto->Prop}{D:v8}{m1:List Addr}{H1:Hp}{ρ ρ':Rho}{σ:L2.St}{S1 S':Sto}{o:Out}(sr1:Sr K m1 S1 H1)(lr1:Lr K m1 H1 ρ σ)(ito:y9 K J m1 H1 us ok)(h2:cP ok g cb us ρ S1=some (o,ρ',S'))(post:vU K m1 H1 D o ρ' S') :
  ∃W:Nat->Nat->L2.St->Hp->Prop,(∃n,W 0 n σ H1)/\∀i n σ H,W i n σ H->
   (J.stop i H/\D.nx σ H)\/(J.go i H/\∃N:L2.St->Hp->Prop,(∀σ' H',N σ' H'->∃n',n'<n/\W (i+1) n' σ' H')/\∀x H',J.yld i H x H'->tG K g x σ H' fun σ2 H2=>tS K cb { D with nx:=N,ct:=N,bk:=D.nx } σ2 H2):=by
 let W:Nat->Nat->L2.St->Hp->Prop:=fun i n σ2 H2=>n=us.length-i/\i<=us.length/\∃m2 ρ2 S2,Ext K m1 H1 m2 H2/\Sr K m2 S2 H2/\Lr K m2 H2 ρ2 σ2/\cP ok g cb (us.drop i) ρ2 S2=some (o,ρ',S')
 refine⟨W,⟨us.length,by simp,Nat.zero_le _,m1,ρ,S1,.refl,sr1,lr1,by simpa using h2⟩,?_⟩
 rintro i n σ2 H2 ⟨rfl,hi,m2,ρ2,S2,e2,sr2,lr2,hl⟩
 by_cases hlt:i<us.length
 ·have hu:=List.getElem?_eq_getElem hlt
  rw[ko hu]at hl
  unfold cP at hl
  split at hl
  ·rename_i hok
   obtain⟨⟨ρ3,S3⟩,h3,hl⟩:=Option.bind_eq_some_iff.mp hl
   obtain⟨⟨o4,ρ4,S4⟩,h4,hl⟩:=Option.bind_eq_some_iff.mp hl
   obtain⟨hgo,hy⟩:=(ito m2 S2 H2 i e2 sr2 hok).1 _ hu
   refine .inr ⟨hgo,W (i+1) (us.length-(i+1)),fun σ' H' w'=>⟨_,by omega,w'⟩,fun x H3 y=>?_⟩
   obtain⟨e3,sr3,ix⟩:=hy x H3 y
   refine⟨m2,ρ2,S2,_,ρ3,S3,sr3,lr2.mono e3,ix,h3,fun m4 σ4 H4 e4 sr4 lr4=>⟨m4,ρ3,S3,o4,ρ4,S4,sr4,lr4,h4,?_⟩⟩
   have e14:=(e2.trans e3).trans e4
   have nxt:cP ok g cb (us.drop (i+1)) ρ4 S4=some (o,ρ',S')->gH K m4 H4 (W (i+1) (us.length-(i+1))) ρ4 S4:=fun hn m5 σ5 H5 e5 sr5 lr5=>⟨rfl,hlt,m5,ρ4,S4,e14.trans e5,sr5,lr5,hn⟩
   cases o4 with
   |nx=>exact nxt hl
   |ct=>exact nxt hl
   |bk=>cases hl;exact gH.mono e14 post
   |rt v=>cases hl;exact kC.mono e14 post
  ·cases hl
 ·have e:i=us.length:=by omega
  subst e
  rw[List.drop_length]at hl
  unfold cP at hl
  split at hl
  ·rename_i hok
   cases hl
   exact .inl ⟨(ito m2 _ H2 _ e2 sr2 hok).2 (Nat.le_refl _),post m2 σ2 H2 e2 sr2 lr2⟩
  ·cases hl
theorem Er{K:PySem.W.Frag}{ci:CI}{g:CG}{cb:CS}:∀D σ H,tS K (jV ci g cb) D σ H->F7 (tI K ci) (tG K g) (tS K cb) D σ H:=by
 rintro D σ H ⟨m,ρ,S,o,ρ',S',sr,lr,hc,post⟩
 obtain⟨⟨us,ok,S1⟩,h1,h2⟩:=Option.bind_eq_some_iff.mp hc
 exact⟨m,ρ,S,us,ok,S1,sr,lr,h1,fun m1 H1 J e1 sr1 ito=>pO sr1 (lr.mono e1) ito h2 (vU.mono e1 post)⟩
theorem ik{tg iter:Expr}{body:List Stmt}{ci:CI}{g:CG}{cb:CS}(hp:PassesOwn (model X.prog X.w) X.A X.env X.xe)(hc:X.calm=true)(hi:QI X tg iter ci)(hg:QG X tg g)(hb:QSs X body cb)(hs:∀x,foldedSetIterable iter X.env x=pure x:=by intro _;rfl):QS X (.For tg iter body [] pos) (jV ci g cb):=(sh hp hc hi hg hb hs).imp Er
def cH(t:CT)(cb:CS):Nat->CS
 |0=>fun _ _=>none
 |n+1=>fun ρ S=>(t ρ S).bind fun p=>if p.1=true then(cb ρ p.2).bind fun r=>match r.1 with
  |.nx=>cH t cb n r.2.1 r.2.2
  |.ct=>cH t cb n r.2.1 r.2.2
  |.bk=>some (.nx,r.2.1,r.2.2)
  |.rt v=>some (.rt v,r.2.1,r.2.2)else some (.nx,ρ,p.2)
theorem wB{K:PySem.W.Frag}{t:CT}{cb:CS}{n:Nat}:∀D σ H,tS K (cH t cb n) D σ H->wI (tT K t) (tS K cb) D σ H:=by
 rintro D σ H ⟨m,ρ,S,o,ρ',S',sr,lr,hc,post⟩
 let W:Nat->L2.St->Hp->Prop:=fun n σ2 H2=>∃m2 ρ2 S2,Ext K m H m2 H2/\Sr K m2 S2 H2/\Lr K m2 H2 ρ2 σ2/\cH t cb n ρ2 S2=some (o,ρ',S')
 refine⟨W,⟨n,m,ρ,S,.refl,sr,lr,hc⟩,?_⟩
 rintro k σ2 H2 ⟨m2,ρ2,S2,e2,sr2,lr2,hl⟩
 cases k with
 |zero=>cases hl
 |succ k=>
  unfold cH at hl
  obtain⟨⟨x,S3⟩,h3,hl⟩:=Option.bind_eq_some_iff.mp hl
  refine⟨m2,ρ2,S2,x,S3,sr2,lr2,h3,fun m3 H3 e3 sr3=>?_⟩
  have e13:=e2.trans e3
  cases x with
  |true=>
   rw[if_pos rfl]at hl
   refine ET ?_
   obtain⟨⟨o4,ρ4,S4⟩,h4,hl⟩:=Option.bind_eq_some_iff.mp hl
   refine⟨W k,fun σ' H' w'=>⟨k,Nat.lt_succ_self _,w'⟩,m3,ρ2,S3,o4,ρ4,S4,sr3,lr2.mono e3,h4,?_⟩
   have nxt:cH t cb k ρ4 S4=some (o,ρ',S')->gH K m3 H3 (W k) ρ4 S4:=fun hn m5 σ5 H5 e5 sr5 lr5=>⟨m5,ρ4,S4,e13.trans e5,sr5,lr5,hn⟩
   cases o4 with
   |nx=>exact nxt hl
   |ct=>exact nxt hl
   |bk=>cases hl;exact gH.mono e13 post
   |rt v=>cases hl;exact kC.mono e13 post
  |false=>
   rw[if_neg Bool.false_ne_true]at hl
   refine EU ?_
   cases hl
   exact post m3 σ2 H3 e13 sr3 (lr2.mono e3)
theorem mr{body:List Stmt}{t:CT}{cb:CS}(n:Nat)(hp:PassesOwn (model X.prog X.w) X.A X.env X.xe)(hc:QT X c t)(hb:QSs X body cb):QS X (.While c body [] pos) (cH t cb n):=(wk hp hc hb).imp wB
def iTp(ca:CE):CI:=fun ρ S=>(ca ρ S).bind fun p=>match p.1 with
 |.tup us=>some (us,fun _=>True,p.2)
 |.ref l=>match p.2[l]? with
  |some (.lst us)=>some (us,fun S=>S[l]?=some (.lst us),p.2)
  |_=>none
 |_=>none
theorem HV{K:PySem.W.Frag}{m:List Addr}{H:Hp}{us:List U}{a:Addr}{xs:List V}(sq:SqT K H a xs)(il:IsL K m H xs us):y9 K (Itt K a) m H us (fun _=>True):=by
 intro m2 S2 H2 i e2 sr2 _
 have sq2:=e2.keep.t _ _ sq
 have il2:=il.mono e2
 refine⟨fun u hu=>?_,fun hi=>⟨xs,sq2,by rw[il2.length];exact hi⟩⟩
 obtain⟨x,hx,ix⟩:=il2.getD hu
 refine⟨⟨xs,x,sq2,hx⟩,fun y H3 hy=>?_⟩
 obtain⟨rfl,hy⟩:=hy
 have:=hy xs sq2
 rw[hx]at this;cases this
 exact⟨.refl,sr2,ix⟩
theorem HX{K:PySem.W.Frag}{m:List Addr}{H:Hp}{us:List U}{a:Addr}{l:Nat}(hl:m[l]?=some a):y9 K (Itl K a) m H us (fun S=>S[l]?=some (.lst us)):=by
 intro m2 S2 H2 i e2 sr2 hok
 obtain⟨a',ha',xs,hx,il⟩:=sr2.get hok
 rw[e2.get hl]at ha'
 cases ha'
 refine⟨fun u hu=>?_,fun hi=>⟨xs,SqL.of hx,by rw[il.length];exact hi⟩⟩
 obtain⟨x,hx',ix⟩:=il.getD hu
 refine⟨⟨xs,x,SqL.of hx,hx'⟩,fun y H3 hy=>?_⟩
 obtain⟨rfl,hy⟩:=hy
 have:=hy xs (SqL.of hx)
 rw[hx']at this;cases this
 exact⟨.refl,sr2,ix⟩
theorem oK{tg:Expr}(h:QE X e ca):QI X tg e (iTp ca):=((CN h).or (zj h)).imp fun σ H R hz=>vM hz fun m ρ S us ok S' sr lr hc post=>by
 obtain⟨⟨u,S1⟩,h1,h2⟩:=Option.bind_eq_some_iff.mp hc
 cases u with
 |tup ws=>
  cases h2
  refine .inl ⟨m,ρ,S,.tup us,_,sr,lr,h1,fun m1 v1 H1 e1 sr1 i1=>?_⟩
  obtain⟨a,xs,rfl,sq,il⟩:=i1.of_tup
  exact⟨a,rfl,⟨xs,sq⟩,post m1 H1 _ e1 sr1 (HV sq il)⟩
 |ref l=>
  simp only at h2
  split at h2
  ·rename_i us' hS
   cases h2
   refine .inr ⟨m,ρ,S,.ref l,_,sr,lr,h1,fun m1 v1 H1 e1 sr1 i1=>?_⟩
   obtain⟨a,hl,rfl⟩:=i1.of_ref
   obtain⟨a',ha',xs,hx,il⟩:=sr1.get hS
   rw[hl]at ha';cases ha'
   exact⟨a,rfl,⟨xs,SqL.of hx⟩,post m1 H1 _ e1 sr1 (HX hl)⟩
  ·cases h2
 |_=>simp at h2
def fG(lo:Int)(n:Nat):List U:=(List.range n).map fun i=>.int (lo+(i:Nat))
theorem AF{K:PySem.W.Frag}{m:List Addr}{H:Hp}{lo:Int}{n:Nat}:y9 K (Itr lo n) m H (fG lo n) (fun _=>True):=by
 intro m2 S2 H2 i e2 sr2 _
 refine⟨fun u hu=>?_,fun hi=>by show n<=i;simpa [fG] using hi⟩
 unfold fG at hu
 rw[List.getElem?_map]at hu
 by_cases c:i<n
 ·rw[List.getElem?_range c]at hu
  simp at hu
  subst hu
  refine⟨c,fun y H3 hy=>?_⟩
  obtain⟨rfl,rfl⟩:=hy
  exact⟨.refl,sr2,.int_⟩
 ·rw[List.getElem?_eq_none (by simpa using c)]at hu
  cases hu
def fh(cr:CA):CI:=fun ρ S=>(cr ρ S).bind fun p=>match p.1 with
 |[.int j]=>if -(2^62)<=j/\j<2^62 then some (fG 0 j.toNat,fun _=>True,p.2)else none
 |_=>none
theorem iV{tg:Expr}{cr:CA}{p:Pos}(hg:Gl X "range")(hm:X.mg "range"=none)(ha:QA X [a] cr)(hs:starEach [a] X.env=[(false,eval a X.env)]:=by rfl):QI X tg (.Call (.Name "range" p) [a] [] pos) (fh cr):=(vi hg hm ha.h hs).imp fun σ H R hz=>vM hz fun m ρ S us ok S' sr lr hc post=>by
 obtain⟨⟨ws,S1⟩,h1,h2⟩:=Option.bind_eq_some_iff.mp hc
 simp only at h2
 split at h2
 ·rename_i j
  split at h2
  ·rename_i hj
   cases h2
   refine⟨m,ρ,S,_,S',sr,lr,h1,fun m1 v1 H1 e1 sr1 i1=>?_⟩
   obtain⟨x,r,rfl,ix,ir⟩:=i1.of_cons
   rw[ir.of_nil,ix.of_int]
   exact⟨j,rfl,hj.1,hj.2,post m1 H1 _ e1 sr1 AF⟩
  ·cases h2
 ·cases h2
end
def fI(g:Int->Int->Option U):U->U->Sto->Option (U×Sto)
 |.int i,.int j,S=>(g i j).bind fun u=>some (u,S)
 |_,_,_=>none
section
variable{X:Cx}{K:PySem.W.Frag}
theorem IX{C:Int->Int->Prop}{gV:Int->Int->V}{g:Int->Int->Option U}(h:∀i j u,g i j=some u->C i j/\∀m H,Is K m H (gV i j) u):OpP K (rI C gV) (fI g):=by
 intro m S H x y v w u S' Q sr ix iy hf post
 cases x<;>cases y<;>simp only[fI]at hf<;>try cases hf
 rename_i i j
 obtain⟨u1,h1,h2⟩:=Option.bind_eq_some_iff.mp hf
 cases h2
 obtain⟨hc,hi⟩:=h i j u h1
 exact⟨i,j,ix.of_int,iy.of_int,hc,post m _ H .refl sr (hi m H)⟩
theorem xl{gV:Int->Int->V}{g:Int->Int->Option U}(h:∀i j u,g i j=some u->∀m H,Is K m H (gV i j) u):OpP K (rI0 gV) (fI g):=by
 intro m S H x y v w u S' Q sr ix iy hf post
 cases x<;>cases y<;>simp only[fI]at hf<;>try cases hf
 rename_i i j
 obtain⟨u1,h1,h2⟩:=Option.bind_eq_some_iff.mp hf
 cases h2
 exact⟨i,j,ix.of_int,iy.of_int,post m _ H .refl sr (h i j u h1 m H)⟩
def zR(K:PySem.W.Frag):R2:=fun x y H Q=>∃a b xs ys,x=.ref a/\y=.ref b/\SqT K H a xs/\SqT K H b ys/\xs.length+ys.length<=sizeLine/\∀q H',tW H H'->SqT K H' q (xs++ys)->Q (.ref q) H'
theorem D0:OpR X (binaryOp .Add) (zR X.K):=by
 intro pins s σ H x y v u Q I rx ry h
 obtain⟨a,b,xs,ys,rfl,rfl,ha,hb,hz,q⟩:=h
 by_cases e:xs=[]
 ·cases rx
  cases ry
  obtain⟨its,r1,p1,_⟩:=I.tuple ha
  obtain⟨its2,r2,p2,_⟩:=I.tuple hb
  refine A5 p1 p2 (r1.nil_iff.mpr e) ⟨.ref b,H,I,rfl,q b H (.refl _) (by rw[e];exact hb)⟩
 ·refine DZ pins s σ H _ _ v u Q I rx ry ⟨a,b,xs,ys,rfl,rfl,ha,hb,e,hz,fun z=>q a H (.refl _) (by rw[z,List.append_nil];exact ha),fun _ p hp=>q p _ (d6 hp _) (SqT.of aS)⟩
def yh:U->U->Sto->Option (U×Sto)
 |.tup a,.tup b,S=>if a.length+b.length<=LIM then some (.tup (a++b),S)else none
 |_,_,_=>none
theorem Ae:OpP K (zR K) yh:=by
 intro m S H x y v w u S' Q sr ix iy hf post
 cases x<;>cases y<;>simp only[yh]at hf<;>try cases hf
 split at hf<;>try cases hf
 rename_i hl
 obtain⟨a,xs,rfl,sa,la⟩:=ix.of_tup
 obtain⟨b,ys,rfl,sb,lb⟩:=iy.of_tup
 refine⟨a,b,xs,ys,rfl,rfl,sa,sb,lim (by rw[la.length,lb.length];exact hl),fun q H' s sq=>?_⟩
 exact post m _ H' (.of (eZ s)) (sr.same s) (.tup_ sq ((la.append lb).mono (.of (eZ s))))
def jL:U->U->Sto->Option (U×Sto)
 |.ref l,.ref k,S=>match S[l]?,S[k]? with
  |some (.lst a),some (.lst b)=>if a.length+b.length<=LIM then some (.ref S.length,S++[.lst (a++b)])else none
  |_,_=>none
 |_,_,_=>none
theorem Ag:OpP K IW jL:=by
 intro m S H x y v w u S' Q sr ix iy hf post
 cases x<;>cases y<;>simp only[jL]at hf<;>try cases hf
 rename_i l k
 split at hf<;>try cases hf
 rename_i a b h1 h2
 split at hf<;>try cases hf
 rename_i hl
 obtain⟨p,hp,rfl⟩:=ix.of_ref
 obtain⟨q,hq,rfl⟩:=iy.of_ref
 obtain⟨p',hp',xs,hx,il⟩:=sr.get h1
 obtain⟨q',hq',ys,hy,il'⟩:=sr.get h2
 rw[hp]at hp';cases hp'
 rw[hq]at hq';cases hq'
 exact⟨p,q,xs,ys,rfl,rfl,hx,hy,lim (by rw[il.length,il'.length];exact hl),fun r hr=>eR sr (il.append il') post hr⟩
def yi:U->U->Sto->Option (U×Sto)
 |.str a,.str b,S=>if a.length+b.length<=LIM then some (.str (a++b),S)else none
 |_,_,_=>none
theorem Af:OpP K (fun x y H Q=>∃i j,x=.str i/\y=.str j/\i.length+j.length<=sizeLine/\Q (.str (i++j)) H) yi:=by
 intro m S H x y v w u S' Q sr ix iy hf post
 cases x<;>cases y<;>simp only[yi]at hf<;>try cases hf
 split at hf<;>try cases hf
 rename_i hl
 exact⟨_,_,ix.of_str,iy.of_str,lim hl,post m _ H .refl sr .str_⟩
def eF:U->U->Sto->Option (U×Sto)
 |.int i,.int j,S=>some (.int (i+j),S)
 |.tup a,.tup b,S=>if a.length+b.length<=LIM then some (.tup (a++b),S)else none
 |.str a,.str b,S=>if a.length+b.length<=LIM then some (.str (a++b),S)else none
 |.ref l,.ref k,S=>jL (.ref l) (.ref k) S
 |_,_,_=>none
theorem dE:OpR X (binaryOp .Add) (fun x y H Q=>rI0 (fun i j=>.int (i+j)) x y H Q\/(IW x y H Q\/(zR X.K x y H Q\/∃i j,x=.str i/\y=.str j/\i.length+j.length<=sizeLine/\Q (.str (i++j)) H))):=Hc.or (Hb.or (D0.or vz))
theorem dD:OpP K (fun x y H Q=>rI0 (fun i j=>.int (i+j)) x y H Q\/(IW x y H Q\/(zR K x y H Q\/∃i j,x=.str i/\y=.str j/\i.length+j.length<=sizeLine/\Q (.str (i++j)) H))) eF:=by
 intro m S H x y v w u S' Q sr ix iy hf post
 cases x<;>cases y<;>simp only[eF]at hf<;>try cases hf
 ·exact .inl ⟨_,_,ix.of_int,iy.of_int,post m _ H .refl sr .int_⟩
 ·exact .inr (.inr (.inr (Af m S H _ _ v w u S' Q sr ix iy hf post)))
 ·exact .inr (.inr (.inl (Ae m S H _ _ v w u S' Q sr ix iy hf post)))
 ·exact .inr (.inl (Ag m S H _ _ v w u S' Q sr ix iy hf post))
def pZ:=fI fun i j=>some (.int (i-j))
theorem pI:OpP K (rI0 fun i j=>.int (i-j)) pZ:=xl fun i j u h m H=>by cases h;exact .int_
instance {i j:Int}:Decidable (wa i j):=by unfold wa;exact inferInstance
def mz:=fI fun i j=>if wa i j then some (.int (i*j))else none
theorem pJ:OpP K (rI wa fun i j=>.int (i*j)) mz:=IX fun i j u h=>by
 split at h
 ·rename_i c;cases h;exact⟨c,fun m H=>.int_⟩
 ·cases h
instance {i j:Int}:Decidable (vW i j):=by unfold vW;exact inferInstance
def AO:=fI fun i j=>if vW i j then some (.int (i / j))else none
theorem DW:OpP K (rI vW fun i j=>.int (i / j)) AO:=IX fun i j u h=>by
 split at h
 ·rename_i c;cases h;exact⟨c,fun m H=>.int_⟩
 ·cases h
def p6:=fI fun i j=>if 0<j then some (.int (i % j))else none
theorem pK:OpP K (rI (fun _ j=>0<j) fun i j=>.int (i % j)) p6:=IX fun i j u h=>by
 split at h
 ·rename_i c;cases h;exact⟨c,fun m H=>.int_⟩
 ·cases h
instance {i j:Int}:Decidable (E4 i j):=by unfold E4;exact inferInstance
def EV:=fI fun i j=>if E4 i j then some (.int (i^j.toNat))else none
theorem GX:OpP K (rI E4 fun i j=>.int (i^j.toNat)) EV:=IX fun i j u h=>by
 split at h
 ·rename_i c;cases h;exact⟨c,fun m H=>.int_⟩
 ·cases h
def fLt:=fI fun i j=>some (.bl (decide (i<j)))
def fLe:=fI fun i j=>some (.bl (decide (i<=j)))
def fGt:=fI fun i j=>some (.bl (decide (j<i)))
def fGe:=fI fun i j=>some (.bl (decide (j<=i)))
theorem pL:OpP K (rI0 fun i j=>.bl (decide (i<j))) fLt:=xl fun i j u h m H=>by cases h;exact .bl_
theorem M6:OpP K (rI0 fun i j=>.bl (decide (i<=j))) fLe:=xl fun i j u h m H=>by cases h;exact .bl_
theorem Bt:OpP K (rI0 fun i j=>.bl (decide (j<i))) fGt:=xl fun i j u h m H=>by cases h;exact .bl_
theorem KP:OpP K (rI0 fun i j=>.bl (decide (j<=i))) fGe:=xl fun i j u h m H=>by cases h;exact .bl_
def eqS:U->U->Option Bool
 |.int i,.int j=>some (decide (i=j))
 |.bl i,.bl j=>some (decide (i=j))
 |.str i,.str j=>some (decide (i=j))
 |.non,.non=>some true
 |.non,.int _=>some false|.int _,.non=>some false
 |.non,.bl _=>some false|.bl _,.non=>some false
 |.non,.str _=>some false|.str _,.non=>some false
 |.int _,.str _=>some false|.str _,.int _=>some false
 |.bl _,.str _=>some false|.str _,.bl _=>some false
 |_,_=>none
def fEq:U->U->Sto->Option (U×Sto):=fun x y S=>(eqS x y).bind fun b=>some (.bl b,S)
def fNe:U->U->Sto->Option (U×Sto):=fun x y S=>(eqS x y).bind fun b=>some (.bl (!b),S)
theorem BL{m:List Addr}{H:Hp}{x y:U}{v w:V}{b:Bool}(ix:Is K m H v x)(iy:Is K m H w y)(h:eqS x y=some b):Kt v w=true/\decide (v=w)=b:=by
 cases x<;>cases y<;>simp only[eqS]at h<;>(first|cases h|skip)
 all_goals
  (first|(have e1:=ix.of_int)|(have e1:=ix.of_bl)|(have e1:=ix.of_str)|(have e1:=ix.of_non))
  (first|(have e2:=iy.of_int)|(have e2:=iy.of_bl)|(have e2:=iy.of_str)|(have e2:=iy.of_non))
  subst e1 e2
  exact⟨rfl,by simp⟩
theorem lZ:OpP K rEq fEq:=by
 intro m S H x y v w u S' Q sr ix iy hf post
 obtain⟨b,h1,h2⟩:=Option.bind_eq_some_iff.mp hf
 cases h2
 obtain⟨e1,e2⟩:=BL ix iy h1
 exact⟨e1,by rw[e2];exact post m _ H .refl sr .bl_⟩
theorem GY:OpP K rNe fNe:=by
 intro m S H x y v w u S' Q sr ix iy hf post
 obtain⟨b,h1,h2⟩:=Option.bind_eq_some_iff.mp hf
 cases h2
 obtain⟨e1,e2⟩:=BL ix iy h1
 exact⟨e1,by rw[e2];exact post m _ H .refl sr .bl_⟩
def pQ:U->Bool
 |.non=>true
 |_=>false
def EW:U->U->Sto->Option (U×Sto)
 |x,.non,S=>some (.bl (pQ x),S)
 |_,_,_=>none
def oj:U->U->Sto->Option (U×Sto)
 |x,.non,S=>some (.bl (!pQ x),S)
 |_,_,_=>none
theorem uQ{m:List Addr}{H:Hp}{x:U}{v:V}(ix:Is K m H v x):decide (v=.non)=pQ x:=by
 cases x with
 |non=>rw[ix.of_non];rfl
 |bl b=>rw[ix.of_bl];rfl
 |int i=>rw[ix.of_int];rfl
 |str i=>rw[ix.of_str];rfl
 |tup us=>obtain⟨a,xs,rfl,_⟩:=ix.of_tup;rfl
 |ref l=>obtain⟨a,_,rfl⟩:=ix.of_ref;rfl
 |kl ns=>obtain⟨a,rfl,_⟩:=ix.of_kl;rfl
theorem G7:OpP K (fun x y H Q=>y=.non/\Q (.bl (decide (x=.non))) H) EW:=by
 intro m S H x y v w u S' Q sr ix iy hf post
 cases y<;>simp only[EW]at hf<;>cases hf
 exact⟨iy.of_non,by rw[uQ ix];exact post m _ H .refl sr .bl_⟩
theorem xm:OpP K (fun x y H Q=>y=.non/\Q (.bl (!decide (x=.non))) H) oj:=by
 intro m S H x y v w u S' Q sr ix iy hf post
 cases y<;>simp only[oj]at hf<;>cases hf
 exact⟨iy.of_non,by rw[uQ ix];exact post m _ H .refl sr .bl_⟩
section
variable{κ:Type}[DecidableEq κ]
def cE{α:Type}(kvs:List (κ×α))(k:κ):Option α:=(kvs.find? fun kv=>decide (kv.1=k)).map (·.2)
def kE{α:Type}(kvs:List (κ×α))(k:κ)(v:α):List (κ×α):=
 if (kvs.any fun kv=>decide (kv.1=k))=true then kvs.map (fun kv=>if kv.1=k then(kv.1,v)else kv)else kvs++[(k,v)]
variable{m:List Addr}{H:Hp}{kvs:List (κ×V)}{kus:List (κ×U)}{k:κ}{v:V}{u:U}
theorem IsP.val(h:IsP K m H kvs kus):Rf K m H (fX kvs k) (cE kus k):=by
 refine IsP.ind (P:=fun kvs kus=>Rf K m H (fX kvs k) (cE kus k)) trivial (fun k' v u kvs kus i _ ih=>?_) h
 by_cases e:k'=k
 ·subst e
  simp[fX,cE,List.find?_cons,Rf,i]
 ·simp only[fX,cE,List.find?_cons,decide_eq_false e]at ih ⊢
  exact ih
theorem IsP.any_(h:IsP K m H kvs kus):(kvs.any fun kv=>decide (kv.1=k))=(kus.any fun kv=>decide (kv.1=k)):=
 IsP.ind (P:=fun kvs kus=>(kvs.any fun kv=>decide (kv.1=k))=(kus.any fun kv=>decide (kv.1=k))) rfl (fun k' v u kvs kus i _ ih=>by simp only[List.any_cons,ih]) h
theorem IsP.append{kvs':List (κ×V)}{kus':List (κ×U)}(h:IsP K m H kvs kus)(h':IsP K m H kvs' kus'):IsP K m H (kvs++kvs') (kus++kus'):=⟨by simp[h.1,h'.1],by simpa using h.2.append h'.2⟩
theorem IsP.put(h:IsP K m H kvs kus)(i:Is K m H v u):IsP K m H (mv kvs k v) (kE kus k u):=by
 unfold mv kE
 rw[h.any_]
 split
 ·refine IsP.ind (P:=fun kvs kus=>IsP K m H (kvs.map fun kv=>if kv.1=k then(kv.1,v)else kv) (kus.map fun kv=>if kv.1=k then(kv.1,u)else kv)) .nil_ (fun k' v' u' kvs kus i' _ ih=>?_) h
  simp only[List.map_cons]
  by_cases e:k'=k
  ·simp only[e,if_true];exact .cons_ i ih
  ·simp only[e,if_false];exact .cons_ i' ih
 ·exact h.append (.cons_ i .nil_)
end
def iA:U->Option Key
 |.int i=>some (.inl i)
 |.str x=>some (.inr x)
 |_=>none
theorem kL{m:List Addr}{H:Hp}{x:U}{v:V}{k:Key}(ix:Is K m H v x)(h:iA x=some k):v=kV k:=by
 cases x<;>simp only[iA]at h<;>cases h
 ·exact ix.of_int
 ·exact ix.of_str
def gv:U->Bool
 |.non=>true|.bl _=>true|.int _=>true|.str _=>true|_=>false
def eqF:U->U->Bool
 |.non,.non=>true
 |.bl a,.bl b=>a == b
 |.bl a,.int b=>(if a then 1 else 0) == b
 |.int a,.bl b=>a == (if b then 1 else 0)
 |.int a,.int b=>a == b
 |.str a,.str b=>a == b
 |_,_=>false
def inU(x:U)(us:List U):Bool:=us.any fun y=>eqF y x
theorem tj{m:List Addr}{H:Hp}{x:U}{v:V}(ix:Is K m H v x)(h:gv x=true):oh v=true:=by
 cases x with
 |non=>rw[ix.of_non];rfl
 |bl b=>rw[ix.of_bl];rfl
 |int i=>rw[ix.of_int];rfl
 |str i=>rw[ix.of_str];rfl
 |tup us=>cases h
 |ref l=>cases h
 |kl l=>cases h
theorem Ip{m:List Addr}{H:Hp}{x y:U}{v w:V}(ix:Is K m H v x)(iy:Is K m H w y)(hx:gv x=true)(hy:gv y=true):eqV v w=eqF x y:=by
 cases x<;>(first|cases hx|skip)<;>cases y<;>(first|cases hy|skip)
 all_goals
  (first|(have e1:=ix.of_int)|(have e1:=ix.of_bl)|(have e1:=ix.of_str)|(have e1:=ix.of_non))
  (first|(have e2:=iy.of_int)|(have e2:=iy.of_bl)|(have e2:=iy.of_str)|(have e2:=iy.of_non))
  subst e1 e2
  rfl
theorem pX{m:List Addr}{H:Hp}:∀{xs:List V} {us:List U},IsL K m H xs us->us.all gv=true->xs.all oh=true
 |xs,[],h,_=>by rw[h.of_nil];rfl
 |xs,u::us,h,k=>by
  obtain⟨x,r,rfl,i,t⟩:=h.of_cons
  rw[List.all_cons,Bool.and_eq_true]at k ⊢
  exact⟨tj i k.1,pX t k.2⟩
theorem xY{m:List Addr}{H:Hp}{x:U}{v:V}(ix:Is K m H v x)(hx:gv x=true):∀{xs:List V} {us:List U},IsL K m H xs us->us.all gv=true->inV v xs=inU x us
 |xs,[],h,_=>by rw[h.of_nil];rfl
 |xs,u::us,h,k=>by
  obtain⟨y,r,rfl,i,t⟩:=h.of_cons
  rw[List.all_cons,Bool.and_eq_true]at k
  have ih:=xY ix hx t k.2
  unfold inV inU at ih ⊢
  rw[List.any_cons,List.any_cons,ih,Ip i ix k.1 hx]
theorem _root_.L2.DGet.kz{H:Hp}{a:Addr}{ob:Obj}{kvs:List (Key×V)}{k:Key}(e:H a=some (.frz ob (.dK kvs))):DGet H a (kV k) (fX kvs k):=.inl ⟨kvs,k,.inr ⟨ob,e⟩,rfl,rfl⟩
def fIn(neg:Bool):U->U->Sto->Option (U×Sto):=fun x y S=>match y with
 |.tup us=>if gv x=true/\us.all gv=true then some (.bl (if neg then !inU x us else inU x us),S)else none
 |.ref l=>match S[l]? with
  |some (.lst us)=>if gv x=true/\us.all gv=true then some (.bl (if neg then !inU x us else inU x us),S)else none
  |some (.dic kus)=>(iA x).bind fun k=>some (.bl (if neg then !(cE kus k).isSome else(cE kus k).isSome),S)
  |some (.fdc ep kus)=>(iA x).bind fun k=>some (.bl (if neg then !(cE kus k).isSome else(cE kus k).isSome),S)
  |_=>none
 |_=>none
theorem Rf.isSome{m:List Addr}{H:Hp}{v:Option V}{u:Option U}(h:Rf K m H v u):v.isSome=u.isSome:=by
 cases v<;>cases u<;>first|rfl|exact h.elim
theorem BF{ca cb:CE}{neg:Bool}(t2:TE->TE->TE)(h2:∀ta tb σ H Q,(ta σ H fun y H1=>tb σ H1 fun x H2=>∃a o,x=.ref a/\DGet H2 a y o/\Q (.bl (if neg then !o.isSome else o.isSome)) H2)->t2 ta tb σ H Q):∀σ H Q,tE K (cOp (fIn neg) ca cb) σ H Q->tOp (rIn K neg) (tE K ca) (tE K cb) σ H Q\/t2 (tE K ca) (tE K cb) σ H Q:=by
 rintro σ H Q ⟨m,ρ,S,u,S',sr,lr,hc,post⟩
 obtain⟨⟨x,S1⟩,h1,h⟩:=Option.bind_eq_some_iff.mp hc
 obtain⟨⟨y,S2⟩,h3,h4⟩:=Option.bind_eq_some_iff.mp h
 cases y with
 |tup us=>
  simp only[fIn]at h4
  split at h4<;>try cases h4
  rename_i hf
  refine .inl ⟨m,ρ,S,x,S1,sr,lr,h1,fun m1 v1 H1 e1 sr1 i1=>⟨m1,ρ,S1,.tup us,S',sr1,lr.mono e1,h3,fun m2 v2 H2 e2 sr2 i2=>?_⟩⟩
  obtain⟨a,xs,rfl,sa,la⟩:=i2.of_tup
  refine⟨a,xs,rfl,.inr sa,tj (i1.mono e2) hf.1,pX la hf.2,?_⟩
  rw[xY (i1.mono e2) hf.1 la hf.2]
  exact post m2 _ H2 (e1.trans e2) sr2 .bl_
 |ref l=>
  simp only[fIn]at h4
  split at h4<;>try cases h4
  ·rename_i us hS
   split at h4<;>try cases h4
   rename_i hf
   refine .inl ⟨m,ρ,S,x,S1,sr,lr,h1,fun m1 v1 H1 e1 sr1 i1=>⟨m1,ρ,S1,.ref l,S',sr1,lr.mono e1,h3,fun m2 v2 H2 e2 sr2 i2=>?_⟩⟩
   obtain⟨a,ha,rfl⟩:=i2.of_ref
   obtain⟨a',ha',xs,hx,la⟩:=sr2.get hS
   rw[ha]at ha';cases ha'
   refine⟨a,xs,rfl,.inl (SqL.of hx),tj (i1.mono e2) hf.1,pX la hf.2,?_⟩
   rw[xY (i1.mono e2) hf.1 la hf.2]
   exact post m2 _ H2 (e1.trans e2) sr2 .bl_
  ·rename_i kus hS
   obtain⟨k,hk,h5⟩:=Option.bind_eq_some_iff.mp h4
   cases h5
   refine .inr (h2 _ _ _ _ _ ⟨m,ρ,S,x,S1,sr,lr,h1,fun m1 v1 H1 e1 sr1 i1=>⟨m1,ρ,S1,.ref l,S',sr1,lr.mono e1,h3,fun m2 v2 H2 e2 sr2 i2=>?_⟩⟩)
   obtain⟨a,ha,rfl⟩:=i2.of_ref
   obtain⟨a',ha',kvs,hx,ip⟩:=sr2.get hS
   rw[ha]at ha';cases ha'
   have ek:=kL (i1.mono e2) hk
   subst ek
   refine⟨a,_,rfl,DGet.k hx,?_⟩
   rw[(IsP.val ip).isSome]
   exact post m2 _ H2 (e1.trans e2) sr2 .bl_
  ·rename_i ep kus hS
   obtain⟨k,hk,h5⟩:=Option.bind_eq_some_iff.mp h4
   cases h5
   refine .inr (h2 _ _ _ _ _ ⟨m,ρ,S,x,S1,sr,lr,h1,fun m1 v1 H1 e1 sr1 i1=>⟨m1,ρ,S1,.ref l,S',sr1,lr.mono e1,h3,fun m2 v2 H2 e2 sr2 i2=>?_⟩⟩)
   obtain⟨a,ha,rfl⟩:=i2.of_ref
   obtain⟨a',ha',ob,es,kvs,hx,hd,ip⟩:=sr2.get hS
   rw[ha]at ha';cases ha'
   have ek:=kL (i1.mono e2) hk
   subst ek
   refine⟨a,_,rfl,DGet.kz hx,?_⟩
   rw[(IsP.val ip).isSome]
   exact post m2 _ H2 (e1.trans e2) sr2 .bl_
 |_=>simp[fIn]at h4
variable{e a b c:Expr}{ca cb cc:CE}{pos:Pos}
theorem Ky(hu:X.A.units+1<cLine)(ha:QE X a ca)(hb:QE X b cb)(hm:behindInMarks .In b=false):QT X (.Compare a [.In] [b] pos) (aH (cOp (fIn false) ca cb)):=
 ((ph xo ha hb hm).or (sg (CY hu ha hb) hm)).imp (i8 (BF (neg:=false) Km fun _ _ _ _ _ h=>h))
theorem j7(hu:X.A.units+1<cLine)(ha:QE X a ca)(hb:QE X b cb)(hm:behindInMarks .NotIn b=false):QT X (.Compare a [.NotIn] [b] pos) (aH (cOp (fIn true) ca cb)):=
 ((ph qP ha hb hm).or (sg (vk hu ha hb) hm)).imp (i8 (BF (neg:=true) sv fun _ _ _ _ _ h=>h))
def fIx:U->U->Sto->Option (U×Sto):=fun x y S=>match x with
 |.tup us=>match y with
  |.int i=>(atI us i).bind fun u=>some (u,S)
  |_=>none
 |.ref l=>match S[l]? with
  |some (.lst us)=>(match y with
   |.int i=>(atI us i).bind fun u=>some (u,S)
   |_=>none)
  |some (.dic kus)=>(iA y).bind fun k=>(cE kus k).bind fun u=>some (u,S)
  |some (.fdc ep kus)=>(iA y).bind fun k=>(cE kus k).bind fun u=>some (u,S)
  |_=>none
 |.kl ns=>match y with
  |.int i=>(atI (ns.map U.int) i).bind fun u=>some (u,S)
  |_=>none
 |_=>none
theorem uR{K:PySem.W.Frag}{m:List Addr}{H:Hp}:∀ns:List Int,IsL K m H (ns.map V.int) (ns.map U.int)
 |[]=>.nil_
 |n::ns=>.cons_ .int_ (uR ns)
theorem yU{m:List Addr}{H:Hp}{xs:List V}{us:List U}{i:Int}{u:U}(l:IsL K m H xs us)(h:atI us i=some u):∃v,atI xs i=some v/\Is K m H v u:=by
 unfold atI at h ⊢
 rw[l.length]
 obtain⟨j,e1,e2⟩:=Option.bind_eq_some_iff.mp h
 rw[e1]
 obtain⟨v,e3,e4⟩:=l.getD e2
 exact⟨v,e3,e4⟩
theorem bo(hu:X.A.units+1<cLine)(ha:QE X a ca)(hb:QE X b cb)(hs:tX b)(hs2:E3 b):QE X (.Subscript a b pos) (cOp fIx ca cb):=
 ((F0 (Ed.or HU) ha hb hs).or (zr hu ha hb hs2)).imp fun σ H Q hz=>nX hz fun m ρ S u S' sr lr hc post=>by
 obtain⟨⟨x,S1⟩,h1,h⟩:=Option.bind_eq_some_iff.mp hc
 obtain⟨⟨y,S2⟩,h3,h4⟩:=Option.bind_eq_some_iff.mp h
 cases x with
 |tup us=>
  simp only[fIx]at h4
  split at h4<;>try cases h4
  rename_i i
  obtain⟨w,hw,h5⟩:=Option.bind_eq_some_iff.mp h4
  cases h5
  refine .inl ⟨m,ρ,S,_,S1,sr,lr,h1,fun m1 v1 H1 e1 sr1 i1=>⟨m1,ρ,S1,_,S',sr1,lr.mono e1,h3,fun m2 v2 H2 e2 sr2 i2=>.inr ?_⟩⟩
  obtain⟨a,xs,rfl,sa,la⟩:=(i1.mono e2).of_tup
  obtain⟨z,ez,iz⟩:=yU la hw
  exact⟨a,xs,i,z,rfl,i2.of_int,sa,ez,post m2 _ H2 (e1.trans e2) sr2 iz⟩
 |ref l=>
  simp only[fIx]at h4
  split at h4<;>try cases h4
  ·rename_i us hS
   split at h4<;>try cases h4
   rename_i i
   obtain⟨w,hw,h5⟩:=Option.bind_eq_some_iff.mp h4
   cases h5
   refine .inl ⟨m,ρ,S,_,S1,sr,lr,h1,fun m1 v1 H1 e1 sr1 i1=>⟨m1,ρ,S1,_,S',sr1,lr.mono e1,h3,fun m2 v2 H2 e2 sr2 i2=>.inl ?_⟩⟩
   obtain⟨a,ha,rfl⟩:=(i1.mono e2).of_ref
   obtain⟨a',ha',xs,hx,la⟩:=sr2.get hS
   rw[ha]at ha';cases ha'
   obtain⟨z,ez,iz⟩:=yU la hw
   exact⟨a,xs,i,z,rfl,i2.of_int,SqL.of hx,ez,post m2 _ H2 (e1.trans e2) sr2 iz⟩
  ·rename_i kus hS
   obtain⟨k,hk,h5⟩:=Option.bind_eq_some_iff.mp h4
   obtain⟨w,hw,h6⟩:=Option.bind_eq_some_iff.mp h5
   cases h6
   refine .inr ⟨m,ρ,S,_,S1,sr,lr,h1,fun m1 v1 H1 e1 sr1 i1=>⟨m1,ρ,S1,_,S',sr1,lr.mono e1,h3,fun m2 v2 H2 e2 sr2 i2=>?_⟩⟩
   obtain⟨a,ha,rfl⟩:=(i1.mono e2).of_ref
   obtain⟨a',ha',kvs,hx,ip⟩:=sr2.get hS
   rw[ha]at ha';cases ha'
   have ek:=kL i2 hk
   subst ek
   have rf:=IsP.val (k:=k) ip
   rw[hw]at rf
   cases hv:fX kvs k with
   |none=>rw[hv]at rf;exact rf.elim
   |some z=>
    rw[hv]at rf
    exact⟨a,z,rfl,by have:=DGet.k (k:=k) hx;rw[hv]at this;exact this,post m2 _ H2 (e1.trans e2) sr2 rf⟩
  ·rename_i ep kus hS
   obtain⟨k,hk,h5⟩:=Option.bind_eq_some_iff.mp h4
   obtain⟨w,hw,h6⟩:=Option.bind_eq_some_iff.mp h5
   cases h6
   refine .inr ⟨m,ρ,S,_,S1,sr,lr,h1,fun m1 v1 H1 e1 sr1 i1=>⟨m1,ρ,S1,_,S',sr1,lr.mono e1,h3,fun m2 v2 H2 e2 sr2 i2=>?_⟩⟩
   obtain⟨a,ha,rfl⟩:=(i1.mono e2).of_ref
   obtain⟨a',ha',ob,es,kvs,hx,hd,ip⟩:=sr2.get hS
   rw[ha]at ha';cases ha'
   have ek:=kL i2 hk
   subst ek
   have rf:=IsP.val (k:=k) ip
   rw[hw]at rf
   cases hv:fX kvs k with
   |none=>rw[hv]at rf;exact rf.elim
   |some z=>
    rw[hv]at rf
    exact⟨a,z,rfl,by have:=DGet.kz (k:=k) hx;rw[hv]at this;exact this,post m2 _ H2 (e1.trans e2) sr2 rf⟩
 |kl ns=>
  simp only[fIx]at h4
  split at h4<;>try cases h4
  rename_i i
  obtain⟨w,hw,h5⟩:=Option.bind_eq_some_iff.mp h4
  cases h5
  refine .inl ⟨m,ρ,S,_,S1,sr,lr,h1,fun m1 v1 H1 e1 sr1 i1=>⟨m1,ρ,S1,_,S',sr1,lr.mono e1,h3,fun m2 v2 H2 e2 sr2 i2=>.inl ?_⟩⟩
  obtain⟨a,rfl,ka⟩:=(i1.mono e2).of_kl
  obtain⟨z,ez,iz⟩:=yU (uR (K:=X.K) (m:=m2) (H:=H2) ns) hw
  exact⟨a,_,i,z,rfl,i2.of_int,ka.sq,ez,post m2 _ H2 (e1.trans e2) sr2 iz⟩
 |_=>simp[fIx]at h4
def iX:U->U->U->Sto->Option Sto:=fun o i v S=>match o with
 |.ref l=>match S[l]? with
  |some (.lst us)=>(match i with
   |.int k=>(ixN us.length k).bind fun j=>some (S.set l (.lst (us.set j v)))
   |_=>none)
  |some (.dic kus)=>(iA i).bind fun k=>if kus.length<LIM then some (S.set l (.dic (kE kus k v)))else none
  |_=>none
 |_=>none
def gk(co ci cv:CE):CS:=fun ρ S=>(cv ρ S).bind fun p=>(co ρ p.2).bind fun q=>(ci ρ q.2).bind fun r=>(iX q.1 r.1 p.1 r.2).bind fun S'=>some (.nx,ρ,S')
theorem d7{o i:Expr}{co ci cv:CE}{pos':Pos}(hu:X.A.units+1<cLine)(ho:QE X o co)(hi:QE X i ci)(hv:QE X e cv)
  (hs0:swapsWithSole [.Subscript o i pos'] e pos.line X.env=pure false:=by rfl) (hw:swappedStores [.Subscript o i pos'] e X.env=pure none:=by rfl)
  (h1:(assignEach [.Subscript o i pos'] X.env).map (·.2)=[assign (.Subscript o i pos') X.env]:=by rfl)
  (hs:swapsWith e (some (.Subscript o i pos')) pos.line X.env=pure false:=by rfl)
  (ha:∀v,assign (.Subscript o i pos') X.env v=(do
   let ov <-holding [v] (eval o X.env)
   let iv <-holding [v,ov] (eval i X.env)
   standAt pos'
   holding [v,ov,iv] (setItem ov iv v)
   release [v,ov,iv] []):=by intro _;rfl):QS X (.Assign [.Subscript o i pos'] e pos) (gk co ci cv):=
 ((wq hv (CP ho hi zM ha) hs0 hw h1).or (zi hu ho hi hv hs)).imp fun D σ H hz=>vM hz fun m ρ S o ρ' S' sr lr hc post=>by
 obtain⟨⟨v,S1⟩,h1,h⟩:=Option.bind_eq_some_iff.mp hc
 obtain⟨⟨ou,S2⟩,h2,h⟩:=Option.bind_eq_some_iff.mp h
 obtain⟨⟨iu,S3⟩,h3,h⟩:=Option.bind_eq_some_iff.mp h
 obtain⟨S4,h4,h⟩:=Option.bind_eq_some_iff.mp h
 cases h
 cases ou with
 |ref l=>
  simp only[iX]at h4
  split at h4<;>try cases h4
  ·rename_i us hS
   split at h4<;>try cases h4
   rename_i k
   obtain⟨j,hj,h5⟩:=Option.bind_eq_some_iff.mp h4
   cases h5
   refine .inl ⟨m,ρ,S,v,S1,sr,lr,h1,fun m1 v1 H1 e1 sr1 i1=>⟨m1,ρ,S1,_,S2,sr1,lr.mono e1,h2,fun m2 v2 H2 e2 sr2 i2=>⟨m2,ρ,S2,_,S3,sr2,lr.mono (e1.trans e2),h3,fun m3 v3 H3 e3 sr3 i3=>?_⟩⟩⟩
   obtain⟨a,ha,rfl⟩:=(i2.mono e3).of_ref
   obtain⟨a',ha',xs,hx,la⟩:=sr3.get hS
   rw[ha]at ha';cases ha'
   have e13:=(e1.trans e2).trans e3
   have ek:Ext X.K m3 H3 m3 (upd H3 a (.lst (xs.set j v1))):=.of (sr3.keep ha _)
   refine⟨a,xs,k,j,rfl,i3.of_int,hx,by rw[la.length];exact hj,post m3 σ _ (e13.trans ek) (sr3.put ha ⟨_,aS,((la.set (i1.mono (e2.trans e3)))).mono ek⟩) (lr.mono (e13.trans ek))⟩
  ·rename_i kus hS
   obtain⟨k,hk,h5⟩:=Option.bind_eq_some_iff.mp h4
   split at h5<;>try cases h5
   have hlen:kus.length<LIM:=by assumption
   refine .inr ⟨m,ρ,S,v,S1,sr,lr,h1,fun m1 v1 H1 e1 sr1 i1=>⟨m1,ρ,S1,_,S2,sr1,lr.mono e1,h2,fun m2 v2 H2 e2 sr2 i2=>⟨m2,ρ,S2,_,S3,sr2,lr.mono (e1.trans e2),h3,fun m3 v3 H3 e3 sr3 i3=>?_⟩⟩⟩
   obtain⟨a,ha,rfl⟩:=(i2.mono e3).of_ref
   obtain⟨a',ha',kvs,hx,ip⟩:=sr3.get hS
   rw[ha]at ha';cases ha'
   have ek:=kL i3 hk
   subst ek
   have e13:=(e1.trans e2).trans e3
   have ee:Ext X.K m3 H3 m3 (upd H3 a (.dK (mv kvs k v1))):=.of (sr3.keep ha _)
   exact⟨a,_,rfl,IQ.k hx (Hl (by rw[IsP.length ip];exact hlen)),post m3 σ _ (e13.trans ee) (sr3.put ha ⟨_,aS,(IsP.put ip (i1.mono (e2.trans e3))).mono ee⟩) (lr.mono (e13.trans ee))⟩
 |_=>simp[iX]at h4
end
theorem ke{α:Type}[DecidableEq α]:∀{l l':List α},l.Nodup->(∀x∈l,x∈l')->l.length<=l'.length
 |[],_,_,_=>Nat.zero_le _
 |x::r,l',nd,s=>by
  obtain⟨h1,h2⟩:=List.nodup_cons.mp nd
  have hx:=s x List.mem_cons_self
  have:=ke (l:=r) (l':=l'.erase x) h2 fun y hy=>(List.mem_erase_of_ne (fun z=>h1 (by rw[<-z];exact hy))).mpr (s y (List.mem_cons_of_mem _ hy))
  rw[List.length_erase_of_mem hx]at this
  have hp:=List.length_pos_of_mem hx
  rw[List.length_cons]
  omega
theorem fK(f:Str)(v:V):∀fs:List (Str×V),(n8 f v fs).map (·.1)=if f∈fs.map (·.1)then fs.map (·.1)else fs.map (·.1)++[f]
 |[]=>by simp[n8]
 |(g,x)::r=>by
  unfold n8
  by_cases e:g=f
  ·simp[e]
  ·have ih:=fK f v r
   rw[if_neg e,List.map_cons,List.map_cons,ih]
   by_cases c:f∈r.map (·.1)
   ·rw[if_pos c,if_pos (List.mem_cons_of_mem _ c)]
   ·rw[if_neg c,if_neg (fun z=>by rcases List.mem_cons.mp z with z|z;exact e z.symm;exact c z)]
    rfl
section
variable{X:Cx}{K:PySem.W.Frag}{m:List Addr}{H:Hp}{c:Cl}{fs:List (Str×V)}{fus:List (Option U)}
theorem InF.room(h:InF K m H c fs fus):fs.length<1000:=by
 have:=ke h.knd h.sub
 rw[List.length_map]at this
 have:=h.few
 omega
theorem nq{f:Str}:∀{fs:List (Str×V)},f∉fs.map (·.1)->fs.lookup f=none
 |[],_=>rfl
 |(g,x)::r,h=>by
  rw[List.lookup_cons]
  have h1:(f == g)=false:=by
   apply beq_eq_false_iff_ne.mpr
   intro z;exact h (by rw[z];exact List.mem_cons_self)
  rw[h1]
  exact nq fun z=>h (List.mem_cons_of_mem _ z)
theorem InF.none_{f:Str}(h:InF K m H c fs fus)(hf:f∉c.ns):fs.lookup f=none:=nq fun z=>hf (h.sub f z)
theorem InF.put{f:Str}{i:Nat}{v:V}{u:U}(h:InF K m H c fs fus)(hi:c.ns[i]?=some f)(hv:Is K m H v u):InF K m H c (n8 f v fs) (fus.set i (some u)):=by
 have hfm:f∈c.ns:=List.mem_of_getElem? hi
 refine⟨h.nd,h.few,?_,fun x hx=>?_,by simp[h.len],fun j x hj=>?_⟩
 ·rw[fK]
  split
  ·exact h.knd
  ·rename_i hn
   rw[List.nodup_append]
   exact⟨h.knd,by simp,fun a ha b hb z=>by simp at hb;subst hb;subst z;exact hn ha⟩
 ·rw[fK]at hx
  split at hx
  ·exact h.sub x hx
  ·rcases List.mem_append.mp hx with z|z
   ·exact h.sub x z
   ·simp at z;subst z;exact hfm
 ·rw[jG]
  by_cases e:i=j
  ·subst e
   rw[hi]at hj;cases hj
   rw[if_pos rfl]
   have:i<fus.length:=by rw[h.len];exact(List.getElem?_eq_some_iff.mp hi).1
   rw[List.getElem?_set_self this]
   exact hv
  ·have ne:x≠f:=fun z=>by
    subst z
    obtain⟨p1,e1⟩:=List.getElem?_eq_some_iff.mp hi
    obtain⟨p2,e2⟩:=List.getElem?_eq_some_iff.mp hj
    exact e ((List.getElem_inj h.nd).mp (e1.trans e2.symm))
   rw[if_neg ne,List.getElem?_set_ne e]
   exact h.at_ j x hj
theorem InF.new(nd:c.ns.Nodup)(few:c.ns.length<1000):InF K m H c [] (List.replicate c.ns.length none):=by
 refine⟨nd,few,by simp,fun x hx=>by simp at hx,by simp,fun i x hi=>?_⟩
 rw[List.getElem?_replicate]
 split<;>exact trivial
open Classical in
def EX(c:Cl)(i:Nat)(x:U)(S:Sto):Option (U×Sto):=match x with
 |.ref l=>match S[l]? with
  |some (.ins c' fus)=>if c'=c then(fus[i]?).join.bind fun u=>some (u,S)else none
  |_=>none
 |_=>none
def nY(c:Cl)(i:Nat)(ca:CE):CE:=fun ρ S=>(ca ρ S).bind fun p=>EX c i p.1 p.2
open Classical in
def tm(c:Cl)(i:Nat)(x v:U)(S:Sto):Option Sto:=match x with
 |.ref l=>match S[l]? with
  |some (.ins c' fus)=>if c'=c then some (S.set l (.ins c (fus.set i (some v))))else none
  |_=>none
 |_=>none
def kq(c:Cl)(i:Nat)(ca cv:CE):CS:=fun ρ S=>(cv ρ S).bind fun p=>(ca ρ p.2).bind fun q=>(tm c i q.1 p.1 q.2).bind fun S'=>some (.nx,ρ,S')
variable{e:Expr}{ca cv:CE}{pos:Pos}{f:Str}{i:Nat}
theorem gQ(hcl:Cls X.K c.C)(hna:jq X.K c.C f)(hi:c.ns[i]?=some f)(h:QE X e ca)(hb:attributeBase e f X.env (eval e X.env)=eval e X.env:=by rfl):QE X (.Attribute e f pos) (nY c i ca):=(CV h hb).imp fun σ H Q hz=>nX hz fun m ρ S u S' sr lr hc post=>by
 obtain⟨⟨x,S1⟩,h1,h2⟩:=Option.bind_eq_some_iff.mp hc
 refine⟨m,ρ,S,x,S1,sr,lr,h1,fun m1 v1 H1 e1 sr1 i1=>?_⟩
 cases x with
 |ref l=>
  simp only[EX]at h2
  split at h2<;>try cases h2
  rename_i c' fus hS
  split at h2<;>try cases h2
  rename_i hc'
  subst hc'
  obtain⟨w,hw,h3⟩:=Option.bind_eq_some_iff.mp h2
  cases h3
  obtain⟨a,ha,rfl⟩:=i1.of_ref
  obtain⟨a',ha',dx,fs,hx,inf⟩:=sr1.get hS
  rw[ha]at ha';cases ha'
  have rf:=inf.at_ i f hi
  rw[hw]at rf
  cases hv:fs.lookup f with
  |none=>rw[hv]at rf;exact rf.elim
  |some z=>
   rw[hv]at rf
   exact⟨a,_,dx,fs,z,rfl,hx,hcl,hna,hv,post m1 _ H1 e1 sr1 rf⟩
 |_=>simp[EX]at h2
theorem fH{o:Expr}{co:CE}{pos':Pos}(hcl:Cls X.K c.C)(hna:jq X.K c.C f)(hi:c.ns[i]?=some f)(ho:QE X o co)(hv:QE X e cv)(hs:swapsWith e (some (.Attribute o f pos')) pos.line X.env=pure false:=by rfl):QS X (.Assign [.Attribute o f pos'] e pos) (kq c i co cv):=(CM ho hv hs).imp fun D σ H hz=>vM hz fun m ρ S o ρ' S' sr lr hc post=>by
 obtain⟨⟨v,S1⟩,h1,h⟩:=Option.bind_eq_some_iff.mp hc
 obtain⟨⟨x,S2⟩,h2,h⟩:=Option.bind_eq_some_iff.mp h
 obtain⟨S3,h3,h⟩:=Option.bind_eq_some_iff.mp h
 cases h
 refine⟨m,ρ,S,v,S1,sr,lr,h1,fun m1 v1 H1 e1 sr1 i1=>⟨m1,ρ,S1,x,S2,sr1,lr.mono e1,h2,fun m2 v2 H2 e2 sr2 i2=>?_⟩⟩
 cases x with
 |ref l=>
  simp only[tm]at h3
  split at h3<;>try cases h3
  rename_i c' fus hS
  split at h3<;>try cases h3
  have hc':c'=c:=by assumption
  subst hc'
  obtain⟨a,ha,rfl⟩:=i2.of_ref
  obtain⟨a',ha',dx,fs,hx,inf⟩:=sr2.get hS
  rw[ha]at ha';cases ha'
  have ee:Ext X.K m2 H2 m2 (upd H2 a (.ins c'.C dx (n8 f v1 fs))):=.of (sr2.keep ha _)
  have e12:=e1.trans e2
  exact⟨a,_,dx,fs,rfl,hx,hcl,hna,inf.room,post m2 σ _ (e12.trans ee) (sr2.put ha ⟨dx,_,aS,(inf.put hi (i1.mono e2)).mono ee⟩) (lr.mono (e12.trans ee))⟩
 |_=>simp[tm]at h3
structure jr(P:Program)(w:World)(K:PySem.W.Frag)(mg:Str->Option Value)(base:Heap)(c:Cl)(mn:Str)(k:Nat)(ps:List Str)(f:Fn):Prop where
 ex:∃fa fd,ER K c.C mn fa/\lW P w K mg base CX0 k fa fd ps (zJ K f)/\iB K fd ps []
theorem jr.mono{P:Program}{w:World}{mg:Str->Option Value}{base:Heap}{mn:Str}{j k:Nat}{ps:List Str}{f:Fn}(h:jr P w K mg base c mn j ps f)(l:j<=k):jr P w K mg base c mn k ps f:=by
 obtain⟨fa,fd,a,b,d⟩:=h.ex
 exact⟨fa,fd,a,b.mono l,d⟩
open Classical in
def vK(c:Cl)(f:Fn)(x:U)(S:Sto)(args:Sto->Option (List U×Sto)):Option (U×Sto):=match x with
 |.ref l=>match S[l]? with
  |some (.ins c' _)=>if c'=c then(args S).bind fun q=>f (.ref l::q.1) q.2 else none
  |_=>none
 |_=>none
def fi(c:Cl)(f:Fn)(ca:CE)(cr:CA):CE:=fun ρ S=>(ca ρ S).bind fun p=>vK c f p.1 p.2 (cr ρ)
theorem uF{mn:Str}{g:Fn}{co:CE}{cr:CA}(hmn:mn∉c.ns):∀σ H Q,tE K (fi c g co cr) σ H Q->wK c.C mn (zJ K g) [] E0 (tE K co) (tA K cr) σ H Q:=by
 rintro σ H Q ⟨m,ρ,S,u,S',sr,lr,hc,post⟩
 obtain⟨⟨x,S1⟩,h1,h2⟩:=Option.bind_eq_some_iff.mp hc
 refine⟨m,ρ,S,x,S1,sr,lr,h1,fun m1 v1 H1 e1 sr1 i1=>?_⟩
 cases x with
 |ref l=>
  simp only[vK]at h2
  split at h2<;>try cases h2
  rename_i c' fus hS
  split at h2<;>try cases h2
  rename_i hc'
  subst hc'
  obtain⟨⟨us,S2⟩,h3,h4⟩:=Option.bind_eq_some_iff.mp h2
  obtain⟨a,ha,rfl⟩:=i1.of_ref
  obtain⟨a',ha',dx,fs,hx,inf⟩:=sr1.get hS
  rw[ha]at ha';cases ha'
  refine⟨a,dx,fs,rfl,hx,inf.none_ hmn,m1,ρ,S1,us,S2,sr1,lr.mono e1,h3,fun m2 vs H2 e2 sr2 i2=>?_⟩
  exact⟨m2,_,S2,u,S',.cons_ (i1.mono e2) (by simpa using i2),sr2,h4,post.mono (e1.trans e2)⟩
 |_=>simp[vK]at h2
theorem ji{mn:Str}{g:Fn}{k:Nat}{ps:List Str}{o:Expr}{es:List Expr}{co:CE}{cr:CA}{apos:Pos}{pl:Sem Bool}(hcl:Cls X.K c.C)(F:jr X.prog X.w X.K X.mg X.base c mn k ps g)(hr:gJ k X.A)(hmn:mn∉c.ns)(ho:QE X o co)(ha:QA X (e::es) cr)
  (hst:starEach (e::es) X.env=(false,eval e X.env)::starEach es X.env:=by rfl) (hpl:(backTo pos (starEach es X.env)).any (·.1)=false:=by rfl) (ht:eval (.Call (.Attribute o mn apos) (e::es) [] pos) X.env=(do
   let ov <-eval o X.env
   standAt apos.atName
   let (f,first) <-holding [ov] (getMethod ov mn pl)
   callWith pos f first (backTo pos (starEach (e::es) X.env)) (backToKw pos (keywordEach [] X.env))):=by rfl):QE X (.Call (.Attribute o mn apos) (e::es) [] pos) (fi c g co cr):=by
 obtain⟨fa,fd,hm,F,hb⟩:=F.ex
 exact(zo ho hcl hm F hr hb .nil Ac ha.h hst hpl ht).imp (uF hmn)
theorem gP{mn:Str}{g:Fn}{k:Nat}{ps:List Str}{o:Expr}{co:CE}{apos:Pos}{pl:Sem Bool}(hcl:Cls X.K c.C)(F:jr X.prog X.w X.K X.mg X.base c mn k ps g)(hr:gJ k X.A)(hmn:mn∉c.ns)(ho:QE X o co)
  (ht:eval (.Call (.Attribute o mn apos) [] [] pos) X.env=(do
   let ov <-eval o X.env
   standAt apos.atName
   let (f,first) <-holding [ov] (getMethod ov mn pl)
   callWith pos f first (backTo pos (starEach [] X.env)) (backToKw pos (keywordEach [] X.env))):=by rfl):QE X (.Call (.Attribute o mn apos) [] [] pos) (fi c g co aA):=by
 obtain⟨fa,fd,hm,F,hb⟩:=F.ex
 refine(wx ho hcl hm F hr hb .nil Ac ht).imp fun σ H Q h=>?_
 obtain⟨m,ρ,S,u,S',sr,lr,hc,k⟩:=uF hmn σ H Q h
 refine⟨m,ρ,S,u,S',sr,lr,hc,fun m1 v1 H1 e1 sr1 i1=>?_⟩
 obtain⟨a,dx,fs,h1,h2,h3,m2,ρ2,S2,us,S3,sr2,lr2,h4,h5⟩:=k m1 v1 H1 e1 sr1 i1
 cases h4
 exact⟨a,dx,fs,h1,h2,h3,h5 m2 [] H1 .refl sr2 .nil_⟩
structure CMk(P:Program)(w:World)(K:PySem.W.Frag)(mg:Str->Option Value)(base:Heap)(c:Cl)(x:Str)(k:Nat)(ps:List Str)(f:Fn):Prop where
 ex:∃fa fd,Mk K c.C fa/\lW P w K mg base CX0 k fa fd ps (zJ K f)/\iB K fd ps []/\mg x=some (.ref c.C)
 nd:c.ns.Nodup
 few:c.ns.length<1000
theorem CMk.mono{P:Program}{w:World}{mg:Str->Option Value}{base:Heap}{x:Str}{j k:Nat}{ps:List Str}{f:Fn}(h:CMk P w K mg base c x j ps f)(l:j<=k):CMk P w K mg base c x k ps f:=by
 obtain⟨fa,fd,a,b,d⟩:=h.ex
 exact⟨⟨fa,fd,a,b.mono l,d⟩,h.nd,h.few⟩
def tq(c:Cl)(f:Fn):Fn:=fun us S=>(f (.ref S.length::us) (S++[.ins c (List.replicate c.ns.length none)])).bind fun p=>match p.1 with
 |.non=>some (.ref S.length,p.2)
 |_=>none
theorem Av{g:Fn}{cr:CA}(nd:c.ns.Nodup)(few:c.ns.length<1000):∀σ H Q,tE K (cCB (tq c g) cr) σ H Q->C5 c.C (zJ K g) [] E0 (tA K cr) σ H Q:=by
 rintro σ H Q ⟨m,ρ,S,u,S',sr,lr,hc,post⟩
 obtain⟨⟨us,S1⟩,h1,h2⟩:=Option.bind_eq_some_iff.mp hc
 obtain⟨⟨w,S2⟩,h3,h4⟩:=Option.bind_eq_some_iff.mp h2
 refine⟨m,ρ,S,us,S1,sr,lr,h1,fun m1 vs H1 e1 sr1 i1 x dx hx hdx ne=>?_⟩
 cases w with
 |non=>
  cases h4
  have s1:tW H1 (upd H1 dx (.own x)):=d6 hdx _
  have hx2:(upd H1 dx (.own x)) x=none:=by rw[bP (Ne.symm ne)];exact hx
  have ee:Ext K m1 H1 (m1++[x]) (upd (upd H1 dx (.own x)) x (.ins c.C dx [])):=.new ⟨fun b xs q=>(cK hx2 _).t b xs ((eZ s1).t b xs q),fun b xs q=>(cK hx2 _).l b xs ((eZ s1).l b xs q)⟩
  refine⟨m1++[x],.ref S1.length::us,S1++[.ins c (List.replicate c.ns.length none)],.non,S2,.cons_ (.ref_ (ef sr1.len)) (by simpa using i1.mono ee),(sr1.same s1).new (o:=.ins c (List.replicate c.ns.length none)) hx2 ⟨dx,[],aS,InF.new nd few⟩,h3,fun m2 v2 H2 e2 sr2 i2=>⟨i2.of_non,?_⟩⟩
  exact post m2 _ H2 ((e1.trans ee).trans e2) sr2 (.ref_ (e2.get (ef sr1.len)))
 |_=>simp at h4
theorem Gr{x:Str}{g:Fn}{k:Nat}{ps:List Str}{es:List Expr}{cr:CA}{p:Pos}(M:CMk X.prog X.w X.K X.mg X.base c x k ps g)(hr:gJ (k+1) X.A)(hg:Gl X x)(ha:QA X (e::es) cr)
  (hdb:(x == ("__debug__":Str))=false:=by decide) (he:starEach (e::es) X.env=(false,eval e X.env)::starEach es X.env:=by rfl) (hpl:(backTo pos (starEach es X.env)).any (·.1)=false:=by rfl):QE X (.Call (.Name x p) (e::es) [] pos) (cCB (tq c g) cr):=by
 obtain⟨fa,fd,hm,F,hb,hx⟩:=M.ex
 exact(zp hm F hr hg hx hb .nil Ac ha.h hdb he hpl).imp (Av M.nd M.few)
def A6:CE:=fun _ S=>some (.ref S.length,S++[.dic []])
theorem Gs:QE X (.Dict [] [] pos) A6:=wz.imp fun σ H Q hz=>nX hz fun m ρ S u S' sr lr hc post=>by
 cases hc
 exact fun p hp=>post (m++[p]) _ _ (.new (cK hp _)) (sr.new hp ⟨[],aS,.nil_⟩) (.ref_ (ef sr.len))
def IC(cd ck cx:CE):CE:=fun ρ S=>(cd ρ S).bind fun p=>match p.1 with
 |.ref l=>match p.2[l]? with
  |some (.dic _)=>(ck ρ p.2).bind fun q=>(cx ρ q.2).bind fun r=>match r.2[l]? with
   |some (.dic kus)=>(iA q.1).bind fun k=>some ((cE kus k).getD r.1,r.2)
   |_=>none
  |_=>none
 |_=>none
end
def ur(n:Nat)(caps:List Nat)(ρ:Rho):Rho:=List.replicate n none++caps.map fun i=>(ρ[i]?).getD none
open Classical in
def md(ok:Sto->Prop)(g:CG)(ce:CE)(l:Nat):List U->Rho->Sto->Option Sto
 |[],_,S=>if ok S then some S else none
 |u::us,ρ,S=>if ok S then(g u ρ S).bind fun p=>(ce p.1 p.2).bind fun r=>match r.2[l]? with
  |some (.lst ys)=>if ys.length<LIM then md ok g ce l us p.1 (r.2.set l (.lst (ys++[r.1])))else none
  |_=>none else none
def A7(ci:CI)(g:CG)(ce:CE)(n:Nat)(caps:List Nat):CE:=fun ρ S=>(ci ρ S).bind fun p=>(md p.2.1 g ce p.2.2.length p.1 (ur n caps ρ) (p.2.2++[.lst []])).bind fun S'=>some (.ref p.2.2.length,S')
section
variable{X:Cx}{K:PySem.W.Frag}
theorem xE{m:List Addr}{H:Hp}{ρ:Rho}{σ:L2.St}{n:Nat}{caps:List Nat}(lr:Lr K m H ρ σ):Lr K m H (ur n caps ρ) (OG.stC n caps σ):=by
 refine⟨by simp[ur,OG.stC],fun j u e=>?_⟩
 unfold ur at e
 unfold OG.stC
 by_cases c:j<n
 ·rw[List.getElem?_append_left (by simpa using c),List.getElem?_replicate]at e
  split at e<;>cases e
 ·rw[List.getElem?_append_right (by simp;omega),List.getElem?_map]at e ⊢
  simp only[List.length_replicate]at e ⊢
  cases q:caps[j-n]? with
  |none=>rw[q]at e;simp at e
  |some i=>
   rw[q]at e
   simp only[Option.map_some,Option.some.injEq]at e ⊢
   have e2:ρ[i]?=some (some u):=by
    cases z:ρ[i]? with
    |none=>rw[z]at e;simp at e
    |some y=>rw[z]at e;simp at e;rw[e]
   obtain⟨v,h1,h2⟩:=lr.at_ i u e2
   exact⟨v,by rw[h1];rfl,h2⟩
theorem yB{g:CG}{ce:CE}{n:Nat}{caps:List Nat}{J:It}{us:List U}{ok:Sto->Prop}{Q:VK}{m1:List Addr}{H1:Hp}{S1 S':Sto}{ρ:Rho}{σ:L2.St}{l:Addr}(sr1:Sr K m1 S1 H1)(lr:Lr K m1 H1 ρ σ)(ito:y9 K J m1 H1 us ok)(hl:H1 l=none)(h2:md ok g ce S1.length us (ur n caps ρ) (S1++[.lst []])=some S')
  (post:∀m2 H2,Ext K (m1++[l]) (upd H1 l (.lst [])) m2 H2->Sr K m2 S' H2->Q (.ref l) H2) :
  ∃W:Nat->Nat->L2.St->Hp->Prop,(∃m,W 0 m (OG.stC n caps σ) (upd H1 l (.lst [])))/\
 ∀i m σ' H2,W i m σ' H2->(J.stop i H2/\Q (.ref l) H2)\/(J.go i H2/\∃N:L2.St->Hp->Prop,(∀σ'' H',N σ'' H'->∃m',m'<m/\W (i+1) m' σ'' H')/\
  ∀x H3,J.yld i H2 x H3->tG K g x σ' H3 fun σ2 H4=>tE K ce σ2 H4 fun v H5=>∃ys,H5 l=some (.lst ys)/\ys.length<sizeLine/\N σ2 (upd H5 l (.lst (ys++[v])))):=by
 have ee:Ext K m1 H1 (m1++[l]) (upd H1 l (.lst [])):=.new (cK hl _)
 let W:Nat->Nat->L2.St->Hp->Prop:=fun i k σ2 H2=>k=us.length-i/\i<=us.length/\∃m2 ρ2 S2,Ext K (m1++[l]) (upd H1 l (.lst [])) m2 H2/\Sr K m2 S2 H2/\Lr K m2 H2 ρ2 σ2/\md ok g ce S1.length (us.drop i) ρ2 S2=some S'
 refine⟨W,⟨us.length,by simp,Nat.zero_le _,m1++[l],ur n caps ρ,S1++[.lst []],.refl,sr1.new (o:=.lst []) hl ⟨[],aS,.nil_⟩,xE (lr.mono ee),by simpa using h2⟩,?_⟩
 rintro i k σ2 H2 ⟨rfl,hi,m2,ρ2,S2,e2,sr2,lr2,hl2⟩
 by_cases hlt:i<us.length
 ·have hu:=List.getElem?_eq_getElem hlt
  rw[ko hu]at hl2
  unfold md at hl2
  split at hl2
  ·rename_i hok
   obtain⟨⟨ρ3,S3⟩,h3,hl2⟩:=Option.bind_eq_some_iff.mp hl2
   obtain⟨⟨u4,S4⟩,h4,hl2⟩:=Option.bind_eq_some_iff.mp hl2
   simp only at hl2
   split at hl2<;>try cases hl2
   rename_i ys hys
   split at hl2<;>try cases hl2
   rename_i hlen
   obtain⟨hgo,hy⟩:=(ito m2 S2 H2 i (ee.trans e2) sr2 hok).1 _ hu
   refine .inr ⟨hgo,W (i+1) (us.length-(i+1)),fun σ' H' w'=>⟨_,by omega,w'⟩,fun x H3 y=>?_⟩
   obtain⟨e3,sr3,ix⟩:=hy x H3 y
   refine⟨m2,ρ2,S2,_,ρ3,S3,sr3,lr2.mono e3,ix,h3,fun m4 σ4 H4 e4 sr4 lr4=>⟨m4,ρ3,S3,u4,S4,sr4,lr4,h4,fun m5 v5 H5 e5 sr5 i5=>?_⟩⟩
   obtain⟨a',ha',xs,hx,il⟩:=sr5.get hys
   have ha:m5[S1.length]?=some l:=(((e2.trans e3).trans e4).trans e5).get (ef sr1.len)
   rw[ha]at ha';cases ha'
   have eu:Ext K m5 H5 m5 (upd H5 l (.lst (xs++[v5]))):=.of (sr5.keep ha _)
   refine⟨xs,hx,Hl (by rw[il.length];exact hlen),rfl,hlt,m5,ρ3,_,((((e2.trans e3).trans e4).trans e5).trans eu),sr5.put (o:=.lst (ys++[u4])) ha ⟨_,aS,(il.append (.cons_ i5 .nil_)).mono eu⟩,(lr4.mono (e5.trans eu)),hl2⟩
  ·cases hl2
 ·have e:i=us.length:=by omega
  subst e
  rw[List.drop_length]at hl2
  unfold md at hl2
  split at hl2
  ·rename_i hok
   cases hl2
   exact .inl ⟨(ito m2 _ H2 _ (ee.trans e2) sr2 hok).2 (Nat.le_refl _),post m2 H2 e2 sr2⟩
  ·cases hl2
theorem A1{ci:CI}{g:CG}{ce:CE}{n:Nat}{caps:List Nat}:∀σ H Q,tE K (A7 ci g ce n caps) σ H Q->C6 (tI K ci) (tG K g) (tE K ce) n caps σ H Q:=by
 rintro σ H Q ⟨m,ρ,S,u,S',sr,lr,hc,post⟩
 obtain⟨⟨us,ok,S1⟩,h1,h2⟩:=Option.bind_eq_some_iff.mp hc
 obtain⟨S2,h2,h3⟩:=Option.bind_eq_some_iff.mp h2
 cases h3
 refine⟨m,ρ,S,us,ok,S1,sr,lr,h1,fun m1 H1 J e1 sr1 ito l hl=>?_⟩
 have ee:Ext K m1 H1 (m1++[l]) (upd H1 l (.lst [])):=.new (cK hl _)
 exact yB sr1 (lr.mono e1) ito hl h2 fun m2 H2 e2 sr2=>post m2 _ H2 ((e1.trans ee).trans e2) sr2 (.ref_ (e2.get (ef sr1.len)))
theorem Gu{Nc capN tn:List Str}{scope:Scope}{cl:List (Str×Addr)}{n:Nat}{caps:List Nat}{tg iter elt:Expr}{pos:Pos}{ci:CI}{g:CG}{ce:CE}
  (hc:X.calm=true) (hi:QI X tg iter ci) (hg:∀s3 H3 fp,WG (cxC X Nc scope cl s3 H3 fp) tg (tG X.K g)) (he:∀s3 H3 fp,WE (cxC X Nc scope cl s3 H3 fp) elt (tE X.K ce))
  (hclos:closureFor scope X.env=pure cl) (hkind:scope.kind=.function) (hnl:∀x∈scope.names,x.2=.local->scope.names.lookup x.1=some .local) (hcell:∀x∈scope.names,x.2≠.cell)
  (hcl:vX X.env cl) (hhas:((relabel scope X.env).names.all fun p=>!(p.2 == .cell||p.2 == .free)||(cl.lookup p.1).isSome)=true)
  (hcap:Paired (Cap X scope cl) caps capN) (hN:Nc=tn++capN) (hn:tn.length=n)
  (hs:∀x,foldedSetIterable iter X.env x=pure x:=by intro _;rfl) :
  QE X (.ListComp elt [⟨tg,iter,[],0⟩] scope pos) (A7 ci g ce n caps):=(zt hc hi hg he hclos hkind hnl hcell hcl hhas hcap hN hn hs).imp A1
def fU:Fn
 |[.tup us],S=>some (.int us.length,S)
 |[.ref l],S=>match S[l]? with
  |some (.lst us)=>some (.int us.length,S)
  |some (.dic us)=>some (.int us.length,S)
  |_=>none
 |[.kl ns],S=>some (.int ns.length,S)
 |_,_=>none
abbrev Ma(K:PySem.W.Frag):List V->Hp->VK->Prop:=fun xs H Q=>(∃p ys,xs=[.ref p]/\(SqL K H p ys\/SqT K H p ys)/\Q (.int ys.length) H)\/∃a kvs,xs=[V.ref a]/\H a=some (.dK kvs)/\Q (.int kvs.length) H
theorem fW:fT X (.builtin "len") (Ma X.K):=rM.or yK
theorem IsL.one{m:List Addr}{H:Hp}{vs:List V}{u:U}(h:IsL K m H vs [u]):∃v,vs=[v]/\Is K m H v u:=by
 obtain⟨x,r,rfl,i,t⟩:=h.of_cons
 rw[t.of_nil];exact⟨x,rfl,i⟩
theorem IsL.two{m:List Addr}{H:Hp}{vs:List V}{u w:U}(h:IsL K m H vs [u,w]):∃v x,vs=[v,x]/\Is K m H v u/\Is K m H x w:=by
 obtain⟨x,r,rfl,i,t⟩:=h.of_cons
 obtain⟨y,rfl,j⟩:=t.one
 exact⟨x,y,rfl,i,j⟩
theorem fV:mf K (Ma K) fU:=by
 intro m S H us vs u S' Q sr i hf post
 match us,hf with
 |[.tup ws],hf=>
  cases hf
  obtain⟨v,rfl,iv⟩:=i.one
  obtain⟨a,xs,rfl,sa,la⟩:=iv.of_tup
  exact .inl ⟨a,xs,rfl,.inr sa,by rw[la.length];exact post m _ H .refl sr .int_⟩
 |[.ref l],hf=>
  obtain⟨v,rfl,iv⟩:=i.one
  obtain⟨a,ha,rfl⟩:=iv.of_ref
  simp only[fU]at hf
  split at hf<;>try cases hf
  ·rename_i ws hS
   obtain⟨a',ha',xs,hx,la⟩:=sr.get hS
   rw[ha]at ha';cases ha'
   exact .inl ⟨a,xs,rfl,.inl (SqL.of hx),by rw[la.length];exact post m _ H .refl sr .int_⟩
  ·rename_i ws hS
   obtain⟨a',ha',xs,hx,la⟩:=sr.get hS
   rw[ha]at ha';cases ha'
   exact .inr ⟨a,xs,rfl,hx,by rw[IsP.length la];exact post m _ H .refl sr .int_⟩
 |[.kl ns],hf=>
  cases hf
  obtain⟨v,rfl,iv⟩:=i.one
  obtain⟨a,rfl,ka⟩:=iv.of_kl
  exact .inl ⟨a,_,rfl,.inl ka.sq,by rw[List.length_map];exact post m _ H .refl sr .int_⟩
def jM:Fn
 |[.tup us],S=>some (.ref S.length,S++[.lst us])
 |[.ref l],S=>match S[l]? with
  |some (.lst us)=>some (.ref S.length,S++[.lst us])
  |_=>none
 |_,_=>none
theorem oN:mf K (fun xs H Q=>∃p ys,xs=[.ref p]/\(SqL K H p ys\/SqT K H p ys)/\∀l,H l=none->Q (.ref l) (upd H l (.lst ys))) jM:=by
 intro m S H us vs u S' Q sr i hf post
 match us,hf with
 |[.tup ws],hf=>
  cases hf
  obtain⟨v,rfl,iv⟩:=i.one
  obtain⟨a,xs,rfl,sa,la⟩:=iv.of_tup
  exact⟨a,xs,rfl,.inr sa,fun l hl=>eR sr la post hl⟩
 |[.ref l],hf=>
  obtain⟨v,rfl,iv⟩:=i.one
  obtain⟨a,ha,rfl⟩:=iv.of_ref
  simp only[jM]at hf
  split at hf<;>try cases hf
  rename_i ws hS
  obtain⟨a',ha',xs,hx,la⟩:=sr.get hS
  rw[ha]at ha';cases ha'
  exact⟨a,xs,rfl,.inl (SqL.of hx),fun l hl=>eR sr la post hl⟩
def gC:Fn
 |[.tup us],S=>some (.tup us,S)
 |[.ref l],S=>match S[l]? with
  |some (.lst us)=>some (.tup us,S)
  |_=>none
 |_,_=>none
theorem jF:mf K (fun xs H Q=>∃p ys,xs=[.ref p]/\((SqL K H p ys/\∀l,H l=none->Q (.ref l) (upd H l (.tup ys)))\/(SqT K H p ys/\Q (.ref p) H))) gC:=by
 intro m S H us vs u S' Q sr i hf post
 match us,hf with
 |[.tup ws],hf=>
  cases hf
  obtain⟨v,rfl,iv⟩:=i.one
  obtain⟨a,xs,rfl,sa,la⟩:=iv.of_tup
  exact⟨a,xs,rfl,.inr ⟨sa,post m _ H .refl sr iv⟩⟩
 |[.ref l],hf=>
  obtain⟨v,rfl,iv⟩:=i.one
  obtain⟨a,ha,rfl⟩:=iv.of_ref
  simp only[gC]at hf
  split at hf<;>try cases hf
  rename_i ws hS
  obtain⟨a',ha',xs,hx,la⟩:=sr.get hS
  rw[ha]at ha';cases ha'
  exact⟨a,xs,rfl,.inl ⟨SqL.of hx,fun l hl=>pH sr la post hl⟩⟩
def y6:Fn
 |[.int i],S=>some (.int i,S)
 |[.bl b],S=>some (.int (if b then 1 else 0),S)
 |_,_=>none
theorem DU:mf K (fun xs H Q=>(∃i,xs=[.int i]/\Q (.int i) H)\/∃k,xs=[.bl k]/\Q (.int (if k then 1 else 0)) H) y6:=by
 intro m S H us vs u S' Q sr i hf post
 match us,hf with
 |[.int j],hf=>
  cases hf
  obtain⟨v,rfl,iv⟩:=i.one
  exact .inl ⟨j,by rw[iv.of_int],post m _ H .refl sr .int_⟩
 |[.bl j],hf=>
  cases hf
  obtain⟨v,rfl,iv⟩:=i.one
  exact .inr ⟨j,by rw[iv.of_bl],post m _ H .refl sr .int_⟩
def LF:Fn
 |[.int i,.int j],S=>some (.int (if j<i then j else i),S)
 |_,_=>none
theorem KO:mf K (fun xs H Q=>∃i j,xs=[.int i,.int j]/\Q (.int (if j<i then j else i)) H) LF:=by
 intro m S H us vs u S' Q sr i hf post
 match us,hf with
 |[.int j,.int k],hf=>
  cases hf
  obtain⟨v,w,rfl,iv,iw⟩:=i.two
  exact⟨j,k,by rw[iv.of_int,iw.of_int],post m _ H .refl sr .int_⟩
def n9:List U->Option (List Int)
 |[]=>some []
 |.int i::r=>(n9 r).map (i::·)
 |_=>none
theorem ki:∀{us:List U} {ns:List Int},n9 us=some ns->us=ns.map U.int
 |[],ns,h=>by cases h;rfl
 |u::r,ns,h=>by
  cases u<;>simp only[n9]at h<;>try cases h
  obtain⟨ms,e,h⟩:=Option.map_eq_some_iff.mp h
  subst h
  rw[ki e];rfl
theorem iW:∀(ns:List Int),n9 (ns.map U.int)=some ns
 |[]=>rfl
 |n::r=>by simp[n9,iW r]
theorem IsL.ints{m:List Addr}{H:Hp}:∀{xs:List V} {ns:List Int},IsL K m H xs (ns.map U.int)->xs=ns.map V.int
 |xs,[],h=>h.of_nil
 |xs,n::ns,h=>by
  obtain⟨x,r,rfl,i,t⟩:=h.of_cons
  rw[IsL.ints t,i.of_int];rfl
theorem jb{m:List Addr}{H:Hp}:∀(ns:List Int),IsL K m H (ns.map V.int) (ns.map U.int)
 |[]=>.nil_
 |n::ns=>.cons_ .int_ (jb ns)
inductive Ty where
 |non|bool|int|str|tuple|list|dict
def Ty.nm:Ty->String
 |.non=>"NoneType"|.bool=>"bool"|.int=>"int"|.str=>"str"|.tuple=>"tuple"|.list=>"list"|.dict=>"dict"
def tyU:U->Sto->Option Ty
 |.non,_=>some .non|.bl _,_=>some .bool|.int _,_=>some .int|.str _,_=>some .str|.tup _,_=>some .tuple
 |.ref l,S=>match S[l]? with
  |some (.lst _)=>some .list
  |some (.dic _)=>some .dict
  |_=>none
 |.kl _,_=>none
def y4:Ty->Ty->Bool
 |.non,.non=>true|.bool,.bool=>true|.bool,.int=>true|.int,.int=>true|.str,.str=>true|.tuple,.tuple=>true|.list,.list=>true|.dict,.dict=>true
 |_,_=>false
theorem nu(a b:Ty)(hb:b≠.non):PySem.W.kitOne K (.type a.nm) (.type b.nm)=some (y4 a b):=by
 cases b<;>first|exact absurd rfl hb|(cases a<;>rfl)
abbrev M4(K:PySem.W.Frag):List V->Hp->VK->Prop:=fun xs H Q=>(∃(x:V) (T:String) (t:Value) (k:Bool),xs=[x,.ty T]/\ve K H x t/\PySem.W.kitOne K t (.type T)=some k/\Q (.bl k) H)\/
 ∃(a:Addr) (ys:List V) (T:String) (k:Bool),xs=[.ref a,.ty T]/\SqT K H a ys/\PySem.W.kitOne K (.type "tuple") (.type T)=some k/\Q (.bl k) H
theorem KR:fT X (.builtin "isinstance") (M4 X.K):=by
 refine tN.or ?_
 rintro pins s σ H xs us Q I r ⟨a,ys,T,k,rfl,sq,e,q⟩
 obtain⟨u,w',rfl,ru,rw'⟩:=C4 r
 cases rw'
 cases ru
 obtain⟨its,rv,ht,hz⟩:=I.tuple sq
 obtain⟨o,h1,h2,_⟩:=ht
 exact PySem.W.kia_one PySem.W.kitx_tuple I.kIn ⟨o,h1,h2⟩ e (fun z=>nomatch z) fun tk=>⟨.bl k,H,I.tok tk,rfl,q⟩
def EG(T:Ty)(ca:CE):CE:=fun ρ S=>(ca ρ S).bind fun p=>(tyU p.1 p.2).bind fun t=>some (.bl (y4 t T),p.2)
theorem xa{T:Ty}{e eT:Expr}{ca:CE}{p pos:Pos}(hT0:T≠.non)(he:QE X e ca)(hT:WE X eT (tC (.ty T.nm)))(hg:Gl X "isinstance")(hm:X.mg "isinstance"=none)
  (h1:starEach [e,eT] X.env=(false,eval e X.env)::starEach [eT] X.env:=by rfl) (h2:starEach [eT] X.env=(false,eval eT X.env)::starEach [] X.env:=by rfl) (hpl:(backTo pos (starEach [eT] X.env)).any (·.1)=false:=by rfl) :
  QE X (.Call (.Name "isinstance" p) [e,eT] [] pos) (EG T ca):=(qw KR hg hm OG.nJ (fu he (fu hT kF h2) h1) (by decide) (by decide) h1 hpl).imp fun σ H Q hz=>nX hz fun m ρ S u S' sr lr hc post=>by
 obtain⟨⟨x,S1⟩,h1,h2⟩:=Option.bind_eq_some_iff.mp hc
 obtain⟨t,ht,h3⟩:=Option.bind_eq_some_iff.mp h2
 cases h3
 refine⟨m,ρ,S,x,_,sr,lr,h1,fun m1 v1 H1 e1 sr1 i1=>?_⟩
 have fin:=post m1 _ H1 e1 sr1 (Is.bl_ (b:=y4 t T))
 cases x with
 |non=>cases ht;rw[i1.of_non];exact .inl ⟨_,_,_,_,rfl,.non,nu .non T hT0,fin⟩
 |bl b=>cases ht;rw[i1.of_bl];exact .inl ⟨_,_,_,_,rfl,.bl b,nu .bool T hT0,fin⟩
 |int i=>cases ht;rw[i1.of_int];exact .inl ⟨_,_,_,_,rfl,.int i,nu .int T hT0,fin⟩
 |str i=>cases ht;rw[i1.of_str];exact .inl ⟨_,_,_,_,rfl,.str i,nu .str T hT0,fin⟩
 |tup us=>
  cases ht
  obtain⟨a,xs,rfl,sa,la⟩:=i1.of_tup
  exact .inr ⟨a,xs,_,_,rfl,sa,nu .tuple T hT0,fin⟩
 |ref l=>
  obtain⟨a,ha,rfl⟩:=i1.of_ref
  simp only[tyU]at ht
  split at ht<;>try cases ht
  ·rename_i ws hS
   obtain⟨a',ha',xs,hx,la⟩:=sr1.get hS
   rw[ha]at ha';cases ha'
   exact .inl ⟨_,_,_,_,rfl,.lst hx,nu .list T hT0,fin⟩
  ·rename_i ws hS
   obtain⟨a',ha',xs,hx,la⟩:=sr1.get hS
   rw[ha]at ha';cases ha'
   exact .inl ⟨_,_,_,_,rfl,.dK hx,nu .dict T hT0,fin⟩
 |kl ns=>cases ht
def cBM(f:U->List U->Sto->Option (U×Sto))(co:CE)(cr:CA):CE:=fun ρ S=>(co ρ S).bind fun p=>match p.1 with
 |.ref l=>match p.2[l]? with
  |some (.lst _)=>(cr ρ p.2).bind fun q=>f p.1 q.1 q.2
  |_=>none
 |_=>none
def MtP(K:PySem.W.Frag)(r:V->List V->Hp->VK->Prop)(f:U->List U->Sto->Option (U×Sto)):Prop:=
 ∀m S H x v us vs u S' Q,Sr K m S H->Is K m H v x->IsL K m H vs us->f x us S=some (u,S')->kC K m H Q u S'->r v vs H Q
theorem BR{r:V->List V->Hp->VK->Prop}{f:U->List U->Sto->Option (U×Sto)}{co:CE}{cr:CA}(hp:MtP K r f):∀σ H Q,tE K (cBM f co cr) σ H Q->tBM K "list" r (tE K co) (tA K cr) σ H Q:=by
 rintro σ H Q ⟨m,ρ,S,u,S',sr,lr,hc,post⟩
 obtain⟨⟨x,S1⟩,h1,h2⟩:=Option.bind_eq_some_iff.mp hc
 refine⟨m,ρ,S,x,S1,sr,lr,h1,fun m1 v1 H1 e1 sr1 i1=>?_⟩
 cases x with
 |ref l=>
  simp only at h2
  split at h2<;>try cases h2
  rename_i ws hS
  obtain⟨⟨us,S2⟩,h3,h4⟩:=Option.bind_eq_some_iff.mp h2
  obtain⟨a,ha,rfl⟩:=id i1.of_ref
  obtain⟨a',ha',xs,hx,la⟩:=sr1.get hS
  rw[ha]at ha';cases ha'
  exact⟨.inl ⟨rfl,xs,SqL.of hx⟩,m1,ρ,S1,us,S2,sr1,lr.mono e1,h3,fun m2 vs H2 e2 sr2 i2=>hp m2 S2 H2 _ _ us vs u S' Q sr2 (i1.mono e2) i2 h4 (post.mono (e1.trans e2))⟩
 |_=>simp at h2
def bU:U->List U->Sto->Option (U×Sto)
 |.ref l,[u],S=>match S[l]? with
  |some (.lst us)=>if us.length<LIM then some (.non,S.set l (.lst (us++[u])))else none
  |_=>none
 |_,_,_=>none
theorem Ah:MtP K w4 bU:=by
 intro m S H x v us vs u S' Q sr ix i hf post
 match x,us,hf with
 |.ref l,[w],hf=>
  simp only[bU]at hf
  split at hf<;>try cases hf
  rename_i ws hS
  split at hf<;>try cases hf
  rename_i hl
  obtain⟨a,ha,rfl⟩:=ix.of_ref
  obtain⟨a',ha',xs,hx,la⟩:=sr.get hS
  rw[ha]at ha';cases ha'
  obtain⟨y,rfl,iy⟩:=i.one
  have eu:Ext K m H m (upd H a (.lst (xs++[y]))):=.of (sr.keep ha _)
  exact⟨a,xs,y,rfl,rfl,hx,Hl (by rw[la.length];exact hl),post m _ _ eu (sr.put ha ⟨_,aS,(la.append (.cons_ iy .nil_)).mono eu⟩) .non_⟩
variable{e:Expr}{es:List Expr}{co:CE}{cr:CA}{o:Expr}{apos cpos:Pos}
theorem du (ho : QE X o co) (ha : QA X (e :: es) cr) (hbase : attributeBase o "append" X.env (eval o X.env) = eval o X.env := by rfl) (hfew : ((backTo cpos (starEach (e :: es) X.env)).all (fun x => !x.1) && (backToKw cpos (keywordEach [] X.env)).all (fun x => x.1.isSome)
   && decide ((e::es).length+([]:List Keyword).length+(if ([]:List Keyword).isEmpty then 0 else 1)<30))=true:=by rfl) (hline:(apos.endLine == cpos.line)=true:=by rfl) (hs:starEach (e::es) X.env=(false,eval e X.env)::starEach es X.env:=by rfl) (hplain:(backTo cpos (starEach es X.env)).any (·.1)=false:=by rfl) :
  QE X (.Call (.Attribute o "append" apos) (e::es) [] cpos) (cBM bU co cr):=(Bi PySem.F.plainAttrs_list PySem.F.slot_list_append PySem.F.type_list_append nj ho ha.h hbase hfew hline hs hplain).imp (BR Ah)
end
structure TC(K:PySem.W.Frag)(c:Cl)(NS:List Str):Prop where
 cl:Cls K c.C
 ns:c.ns=NS
 nas:∀f∈NS,jq K c.C f
section
variable{K:PySem.W.Frag}{c:Cl}{NS:List Str}
theorem TC.ix(T:TC K c NS){i:Nat}{f:Str}(h:NS[i]?=some f):c.ns[i]?=some f:=by rw[T.ns];exact h
theorem TC.na(T:TC K c NS)(i:Nat){f:Str}(h:NS[i]?=some f):jq K c.C f:=T.nas f (List.mem_of_getElem? h)
theorem TC.nm(T:TC K c NS){f:Str}(h:f∉NS):f∉c.ns:=by rw[T.ns];exact h
end
theorem _root_.L2.Fun.pure{P:Program}{w:World}{K:PySem.W.Frag}{mg:Str->Option Value}{base:Heap}{x qual:Str}{st:Stmt}{f:Addr}{fd:FuncData}{N ps:List Str}{k:Nat}{c:CS}(F:Fun K x qual st f fd)(S:aQ N ps (ay st))
  (hb:∀(cdv:Value) (A:Around) (outer:List Env) (s:Shared) (H:Hp) (E:XK),gJ k (A.deeper (envOfC qual (ay st) s.heap.objs.size f cdv))->
   WSs (uZ CX0 P w K mg base N qual (ay st) f cdv A outer s H E).nox (ej st) (tS K c)):lW P w K mg base CX0 (k+1) f fd ps (zJ K (fnU N.length ps.length c)):=
 Fun.okW F S (fun vs H Q E h=>uk h) fun cdv A outer s H vs Q E hr h=>⟨_,hb cdv A outer s H E hr,yf (X:=(uZ CX0 P w K mg base N qual (ay st) f cdv A outer s H E).nox) (body:=[]) (ps:=ps) rfl h⟩
def SI:Bool->Heap->Addr->Addr->Nat->Prop
 |true,h,it,a,i=>h.IsListIter it a i
 |false,h,it,a,i=>h.IsTupleIter it a i
def SA:Bool->Heap->Addr->Array Value->Prop
 |true,h,a,xs=>h.IsList a xs
 |false,h,a,xs=>h.IsTuple a xs
theorem SI.at_{b:Bool}{h h':Heap}{it a:Addr}{i:Nat}(x:SI b h it a i)(k:∀o,h.get? it=some o->h'.get? it=some o):SI b h' it a i:=by
 cases b with
 |true=>obtain⟨o,e,r⟩:=x;exact⟨o,k o e,r⟩
 |false=>obtain⟨o,e,r⟩:=x;exact⟨o,k o e,r⟩
theorem SA.at_{b:Bool}{h h':Heap}{a:Addr}{xs:Array Value}(x:SA b h a xs)(k:∀o,h.get? a=some o->h'.get? a=some o):SA b h' a xs:=by
 cases b with
 |true=>obtain⟨o,e,r⟩:=x;exact⟨o,k o e,r⟩
 |false=>obtain⟨o,e,r⟩:=x;exact⟨o,k o e,r⟩
theorem SI.obj{b:Bool}{h:Heap}{it a:Addr}{i:Nat}(x:SI b h it a i):∃o,h.get? it=some o/\∀v,o.data≠.cell v:=by
 cases b with
 |true=>obtain⟨o,e,c,d⟩:=x;exact⟨o,e,fun v z=>by rw[d]at z;cases z⟩
 |false=>obtain⟨o,e,c,d⟩:=x;exact⟨o,e,fun v z=>by rw[d]at z;cases z⟩
theorem SA.lt{b:Bool}{h:Heap}{a:Addr}{xs:Array Value}(x:SA b h a xs):a<h.objs.size:=by
 cases b with
 |true=>obtain⟨o,e,_⟩:=x;exact Heap.lt_size e
 |false=>obtain⟨o,e,_⟩:=x;exact Heap.lt_size e
section
variable{prog:Program}{w:World}{A:Around}{E:Value->Shared->Prop}{s:Shared}
theorem zF{I t:Addr}{j:Nat}{ys:Array Value}{y:Value}{Q:Value->Shared->Prop}(hI:s.heap.IsTupleIter I t j)(hT:s.heap.IsTuple t ys)(hy:ys[j]?=some y)
  (k:∀h',h'.IsTupleIter I t (j+1)->Heap.SameBut I s.heap h'->Q y { s with heap:=h' }):wpAny (model prog w) A (Builtin.SmallTypes.nextOf (.ref I)) Q E s:=by
 obtain⟨oi,gi,ci,di⟩:=id hI
 obtain⟨ot,gt,_,nt,dt⟩:=hT
 unfold Builtin.SmallTypes.nextOf
 refine wpAny_bind (wpAny_callSpecial?_slot (name:=Str.ofString "__next__") hI.typeIs PySem.F.slot_tuple_iterator_next (wpAny_call_entry PySem.F.slot_tuple_iterator_next hI.typeIs PySem.F.entry_tuple_iterator_next ?_ (PySem.F.args_tuple_iterator_next_1 _)))
 show wpAny _ _ (field (.ref I) 0 >>= _) _ _ s
 refine wpAny_bind (wpAny_field gi di (x:=.ref t) rfl ?_)
 show wpAny _ _ (ite ((Value.ref t == Value.none)=true) _ _) _ _ s
 rw[if_neg (by exact Bool.false_ne_true)]
 show wpAny _ _ (field (.ref I) 1 >>= _) _ _ s
 refine wpAny_bind (wpAny_field gi di (x:=.int j 0) rfl ?_)
 show wpAny _ _ (seqItems? (.ref t) >>= _) _ _ s
 refine wpAny_bind (wpAny_seqItems gt dt ?_)
 simp only[hy,Int.toNat_natCast]
 refine wpAny_bind (wpAny_setField gi di (by simp) (wpAny_pure ⟨y,rfl,wpAny_pure (k _ ⟨_,Heap.get?_update_self _ gi (Obj.isFreed_of_fields (Obj.data_mapFields di _)),(Obj.cls_mapFields ..).trans ci,?_⟩ (Heap.SameBut.update ..))⟩))
 rw[Obj.data_mapFields di];simp[rawInt]
theorem qB{I t:Addr}{j:Nat}{ys:Array Value}{Q:Value->Shared->Prop}(hh:A.handled=none)(hI:s.heap.IsTupleIter I t j)(hT:s.heap.IsTuple t ys)(hy:ys[j]?=none)
  (k:∀h' e,Heap.ExtBut I s.heap h'->(∃o,h'.get? e=some o/\o.cls=.type "StopIteration")->E (.ref e) { s with heap:=h' }):wpAny (model prog w) A (Builtin.SmallTypes.nextOf (.ref I)) Q E s:=by
 obtain⟨oi,gi,ci,di⟩:=id hI
 obtain⟨ot,gt,_,nt,dt⟩:=hT
 unfold Builtin.SmallTypes.nextOf
 refine wpAny_bind (wpAny_callSpecial?_slot (name:=Str.ofString "__next__") hI.typeIs PySem.F.slot_tuple_iterator_next (wpAny_call_entry PySem.F.slot_tuple_iterator_next hI.typeIs PySem.F.entry_tuple_iterator_next ?_ (PySem.F.args_tuple_iterator_next_1 _)))
 show wpAny _ _ (field (.ref I) 0 >>= _) _ _ s
 refine wpAny_bind (wpAny_field gi di (x:=.ref t) rfl ?_)
 show wpAny _ _ (ite ((Value.ref t == Value.none)=true) _ _) _ _ s
 rw[if_neg (by exact Bool.false_ne_true)]
 show wpAny _ _ (field (.ref I) 1 >>= _) _ _ s
 refine wpAny_bind (wpAny_field gi di (x:=.int j 0) rfl ?_)
 show wpAny _ _ (seqItems? (.ref t) >>= _) _ _ s
 refine wpAny_bind (wpAny_seqItems gt dt ?_)
 simp only[hy,Int.toNat_natCast]
 refine wpAny_bind (wpAny_rule (wpAny_bind (wpAny_setField gi di (by simp) ?_)))
 show wpAny _ _ (newExc (.type "StopIteration") [] >>= _) _ _ _
 simp only[newExc,newTuple];refine wpAny_bind ?_
 refine wpAny_bind (wpAny_newObj_type ?_ (by(size_fits)))
 refine wpAny_bind (m:=firstArgMember _ _) (wpAny_of_eq (a:=Value.none) (by simp only[firstArgMember]<;>rfl) ?_)
 refine wpAny_newObj_type ?_ (by(size_fits))
 simp only[raiseNew]
 refine wpAny_bind (wpAny_handled ?_)
 rw[show A.in1.handled=none from hh]
 exact wpAny_bind (wpAny_pure (wpAny_throw (k _ _ (((Heap.SameBut.update ..).extBut.push _).push _) ⟨_,Heap.get?_push_size _ rfl,rfl⟩)))
theorem C8{b:Bool}{I t:Addr}{j:Nat}{ys:Array Value}{y:Value}{Q:Value->Shared->Prop}(hI:SI b s.heap I t j)(hT:SA b s.heap t ys)(hy:ys[j]?=some y)
  (k:∀h',SI b h' I t (j+1)->Heap.SameBut I s.heap h'->Q y { s with heap:=h' }):wpAny (model prog w) A (Builtin.SmallTypes.nextOf (.ref I)) Q E s:=by
 cases b with
 |true=>exact wpAny_nextOf_list_item hI hT hy k
 |false=>exact zF hI hT hy k
theorem mG{b:Bool}{I t:Addr}{j:Nat}{ys:Array Value}{Q:Value->Shared->Prop}(hh:A.handled=none)(hI:SI b s.heap I t j)(hT:SA b s.heap t ys)(hy:ys[j]?=none)
  (k:∀h' e,Heap.ExtBut I s.heap h'->(∃o,h'.get? e=some o/\o.cls=.type "StopIteration")->E (.ref e) { s with heap:=h' }):wpAny (model prog w) A (Builtin.SmallTypes.nextOf (.ref I)) Q E s:=by
 cases b with
 |true=>exact wpAny_nextOf_list_end hh hI hT hy k
 |false=>exact qB hh hI hT hy k
def itO(b:Bool)(a:Addr):Obj:={ cls:=.type (if b then "list_iterator" else "tuple_iterator"),data:=.fields #[.ref a,.int 0 0] }
theorem HZ{b:Bool}{a i:Addr}{h:Heap}(e:h.get? i=some (itO b a)):SI b h i a 0:=by
 cases b with
 |true=>exact⟨_,e,rfl,rfl⟩
 |false=>exact⟨_,e,rfl,rfl⟩
end
def Sq(K:PySem.W.Frag):Bool->Hp->Addr->List V->Prop
 |true,H,a,xs=>SqL K H a xs
 |false,H,a,xs=>SqT K H a xs
section
variable{X:Cx}{pins:List (Addr×Obj)}{σ:L2.St}{H:Hp}{s:Shared}{h':Heap}
theorem _root_.L2.Inv.turnedL{t':Nat}{ch:List Addr}(I:Inv X pins σ H s)(k:∀b o,b∉ch->s.heap.get? b=some o->h'.get? b=some o)(hf:∀b∈ch,vZ X pins H b):Inv X pins σ H { s with heap:=h',toks:=t' }:=by
 have nit:∀b u,H b=some u->b∉ch:=fun b u e z=>by rw[(hf b z).1]at e;cases e
 refine I.step (g':=s.gens) (d':=s.drawn) (ch:=ch) (fun b hb=>⟨(hf b hb).2.2.2.1,(hf b hb).2.1,(hf b hb).2.2.2.2.1,(hf b hb).2.2.2.2.2⟩) (fun b o _ _ hc e _=>k b o hc e) (fun b o _ _ hc e _=>⟨o.slots,k b o hc e⟩) (fun _ _ _ _ n=>n)
  (fun b o hc e=>⟨o,k b o hc e⟩) (fun _ _ e=>e) (fun _ _ _ e=>e) (fun b ps e=>⟨#[],by rw[e];simp⟩) (fun m hm=>?_) (fun b u e=>?_) I.bare
 ·obtain⟨o,es,ep,ho,r⟩:=hm
  exact⟨o,es,ep,k _ o (fun z=>(hf _ z).2.1 rfl) ho,r⟩
 ·refine(I.hok b u e).stay (fun c v hc q=>k c v ?_ q) (fun _ q=>q) fun _ _ q=>q
  rcases hc with z|z
  ·rw[z];exact nit b u e
  ·exact nit c _ z
theorem _root_.L2.Inv.sq{b:Bool}{a:Addr}{xs:List V}(I:Inv X pins σ H s)(h:Sq X.K b H a xs):∃its:List Value,cI xs its/\SA b s.heap a its.toArray:=by
 cases b with
 |true=>obtain⟨its,r,p,_⟩:=I.list h;exact⟨its,r,p.isList⟩
 |false=>obtain⟨its,r,p,_⟩:=I.tuple h;exact⟨its,r,p⟩
theorem _root_.L2.Inv.sq_inj{b:Bool}{a:Addr}{xs ys:List V}(I:Inv X pins σ H s)(h:Sq X.K b H a xs)(h2:Sq X.K b H a ys):xs=ys:=by
 cases b with
 |true=>exact I.list_inj h h2
 |false=>exact I.tuple_inj h h2
end
theorem zY{h:Heap}{ob o:Obj}{e:Addr}(q:(h.push ob).get? e=some o)(ne:e≠h.objs.size):h.get? e=some o:=(Heap.get?_push_ne h e ob ne).symm.trans q
theorem Ad{P:Program}{w:World}{H:Hp}{h:Heap}{a:Addr}{x y:V}{u v:Value}(e:h.get? a=some { cls:=.type "tuple",data:=.seq #[u,v] })(rx:dB x u)(ry:dB y v):cM P w H h a (.tup [x,y]):=
 ⟨by show 2<=sizeLine;decide,[u,v],.cons rx (.cons ry .nil),⟨_,e,rfl,_,rfl⟩⟩
section
variable{X:Cx}{pos:Pos}
def Bm:U->Sto->Option (List U×(Sto->Prop))
 |.tup us,_=>some (us,fun _=>True)
 |.ref l,S=>match S[l]? with
  |some (.lst us)=>some (us,fun S=>S[l]?=some (.lst us))
  |_=>none
 |_,_=>none
theorem Gi{K:PySem.W.Frag}{m:List Addr}{S:Sto}{H:Hp}{u:U}{v:V}{us:List U}{ok:Sto->Prop}(sr:Sr K m S H)(iu:Is K m H v u)(h:Bm u S=some (us,ok)) :
  ∃b a,v=.ref a/\(∃xs,Sq K b H a xs)/\∀m2 S2 H2,Ext K m H m2 H2->Sr K m2 S2 H2->ok S2->∃xs,Sq K b H2 a xs/\IsL K m2 H2 xs us:=by
 cases u with
 |tup ws=>
  cases h
  obtain⟨a,xs,rfl,sq,il⟩:=iu.of_tup
  exact⟨false,a,rfl,⟨xs,sq⟩,fun m2 S2 H2 e _ _=>⟨xs,e.keep.t _ _ sq,il.mono e⟩⟩
 |ref l=>
  simp only[Bm]at h
  split at h<;>try cases h
  rename_i us hS
  obtain⟨a,ha,rfl⟩:=iu.of_ref
  obtain⟨a',ha',xs,hx,il⟩:=sr.get hS
  rw[ha]at ha';cases ha'
  refine⟨true,a,rfl,⟨xs,SqL.of hx⟩,fun m2 S2 H2 e sr2 hok=>?_⟩
  obtain⟨a',ha',xs,hx,il⟩:=sr2.get hok
  rw[e.get ha]at ha';cases ha'
  exact⟨xs,SqL.of hx,il⟩
 |_=>simp[Bm]at h
end
theorem Ex{b:Bool}{prog:Program}{w:World}{A:Around}(hh:A.handled=none)(it a:Addr)(hne:a≠it)(ys:Array Value) :
  Draws prog w A it [it,a] ys.size (fun i v=>ys[i]?=some v) (fun i h=>SI b h it a i/\SA b h a ys) where
 live:=fun _ _ st=>let ⟨o,ho,_⟩:=st.1.obj;⟨o,ho⟩
 frame:=fun _ _ _ st hk=>⟨st.1.at_ fun o e=>hk it (by simp) o e,st.2.at_ fun o e=>hk a (by simp) o e⟩
 item:=fun i s Q E hi st hQ=>C8 st.1 st.2 (y:=ys[i]) (by simp[hi]) fun h' it' s'=>hQ _ h' s.toks (by simp[hi]) ⟨it',st.2.at_ fun o e=>s'.extBut _ _ hne e⟩ s'
 done:=fun s Q E st hE=>mG hh st.1 st.2 (by simp) hE
structure ESt(b:Bool)(h:Heap)(e it a:Addr)(n:Nat):Prop where
 he:∃old,IsEnum h e it n old
 hi:SI b h it a n
theorem yk(l:Addr)(ys:Array Value)(n:Nat)(dct:Option Addr)(sl:Array (Option Value)) :
  Meets (Builtin.«enumerate.__new__» ⟨[.type "enumerate",.ref l],[]⟩) (fun _ R s=>s.heap.get? l=some { cls:=.type "tuple",dict:=dct,data:=.seq ys n,slots:=sl }/\
   R (.ok (.ret (.ref (s.heap.push (itO false l)).objs.size))) { s with heap:=(s.heap.push (itO false l)).push { cls:=.type "enumerate",data:=.fields #[.none,.bool false,.ref s.heap.objs.size,rawInt 0,.none,.none] } }):=
 .of_wp fun prog w A R s q=>by
  obtain⟨hp,g,d,tk,os⟩:=s
  obtain⟨gl,q⟩:=q
  have sb:=sub_enumerate
  have tl:Heap.IsTuple (Shared.heap ⟨hp,g,d,tk,os⟩) l ys:=⟨_,gl,rfl,n,rfl⟩
  wp_walk using wpAny_loadPart' gl
  refine wpAny_stack_any (fun st=>wpAny_pure ?_)
  split
  ·rename_i c _ _ _ _ _
   cases (c == Value.type "enumerate")<;>(wp_walk using wpAny_loadPart' gl,wpAny_pyIter_tuple tl;exact⟨_,rfl,q⟩)
  ·wp_walk using wpAny_loadPart' gl,wpAny_pyIter_tuple tl
   exact⟨_,rfl,q⟩
theorem yl{b:Bool}{prog:Program}{w:World}{A:Around}{E:Value->Shared->Prop}{s:Shared}{a:Addr}{ys:Array Value}{Q:Value->Shared->Prop}(ha:SA b s.heap a ys)
  (k:∀h' e it,e≠it->s.heap.objs.size<=e->s.heap.objs.size<=it->ESt b h' e it a 0->(∀c o,s.heap.get? c=some o->h'.get? c=some o)->Q (.ref e) { s with heap:=h' }) :
  wpAny (model prog w) A (call (.type "enumerate") [.ref a]) Q E s:=by
 cases b with
 |true=>exact call_enumerate_list ha fun h' e1 e2 sz up=>k h' _ _ (by omega) (Nat.le_add_right _ _) (Nat.le_refl _) ⟨⟨_,e1⟩,e2⟩ up
 |false=>
  obtain⟨⟨c,dct,dt,sl⟩,gl,hc,n,hd⟩:=ha
  simp only at hc hd
  subst hc hd
  refine callType_new PySem.F.called_enumerate (by decide) (PySem.F.typeCall_enumerate_1 _) (PySem.F.newCall_enumerate_1 _) (fun obj=>PySem.F.args_object_init_2 obj _) PySem.F.entry_enumerate_new (yk a ys n dct sl) ⟨gl,?_⟩
  have n1:(s.heap.push (itO false a)).objs.size=s.heap.objs.size+1:=Heap.size_push ..
  have p2:=Heap.get?_push_size (s.heap.push (itO false a)) (o:={ cls:=.type "enumerate",data:=.fields #[.none,.bool false,.ref s.heap.objs.size,rawInt 0,.none,.none] }) rfl
  have p1:((s.heap.push (itO false a)).push { cls:=.type "enumerate",data:=.fields #[.none,.bool false,.ref s.heap.objs.size,rawInt 0,.none,.none] }).get? s.heap.objs.size=some (itO false a):=Heap.get?_push_of_some _ (Heap.get?_push_size _ rfl)
  rw[n1]at p2
  show _/\_
  rw[n1]
  exact⟨⟨_,p2,rfl⟩,k _ (s.heap.objs.size+1) s.heap.objs.size (Nat.ne_of_gt (Nat.lt_succ_self _)) (Nat.le_add_right _ _) (Nat.le_refl _) ⟨⟨_,p2⟩,HZ p1⟩ fun c o x=>Heap.get?_push_of_some _ (Heap.get?_push_of_some _ x)⟩
theorem AQ{b:Bool}{prog:Program}{w:World}{A:Around}{E:Value->Shared->Prop}{s:Shared}{e it a:Addr}{i:Int}{j:Nat}{ys:Array Value}{old:Value}{Q:Option Value->Shared->Prop}(hh:A.in1.handled=none)(he:IsEnum s.heap e it i old)(hi:SI b s.heap it a j)(ha:SA b s.heap a ys)(hx:ys[j]?=none)
  (k:∀h',Heap.ExtBut it s.heap h'->Q none { s with heap:=h' }):wpAny (model prog w) A (pyNext (.ref e)) Q E s:=by
 have ty:s.TypeIs (.ref e) "enumerate":=⟨_,he,rfl⟩
 unfold pyNext
 refine wpAny_bind (wpAny_attempt (wpAny_callSpecial?_slot (name:=Str.ofString "__next__") ty PySem.F.slot_enumerate_next (wpAny_call_entry PySem.F.slot_enumerate_next ty PySem.F.entry_enumerate_next ?_ (PySem.F.args_enumerate_next_1 _))))
 show wpAny _ _ (field (.ref e) 2 >>= fun _=>_) _ _ _
 refine wpAny_bind (wpAny_field he rfl (x:=.ref it) rfl (wpAny_bind (mG hh hi ha hx fun h' x he' hx'=>?_)))
 obtain⟨o,ho,co⟩:=hx'
 exact wpAny_bind (wpAny_isInstance (T:="StopIteration") (b:=true) ⟨o,ho,co⟩ isSubtype_stop (wpAny_pure (k _ he')))
def Ite(K:PySem.W.Frag)(b:Bool)(a:Addr):It:=
  ⟨fun i H=>∃xs x,Sq K b H a xs/\xs[i]?=some x,
   fun i H v H'=>∃p x,v=.ref p/\H p=none/\H'=upd H p (.tup [.int i,x])/\∀xs,Sq K b H a xs->xs[i]?=some x,
   fun i H=>∃xs,Sq K b H a xs/\xs.length<=i⟩
theorem wF{P:Program}{w:World}{K:PySem.W.Frag}{es:List Expr}{k:Nat}{pos:Pos}{b:Bool}{e it a:Addr}(ne:e≠it)(nae:a≠e)(nai:a≠it) :
  EM P w K (.Tuple es k pos) (Ite K b a) [e,it] e (fun n h=>ESt b h e it a n) where
 mem:=by simp
 obj:=fun n h st c hc=>by
  obtain⟨⟨old,he⟩,hi⟩:=st
  simp only[List.mem_cons,List.not_mem_nil,or_false]at hc
  rcases hc with rfl|rfl
  ·exact⟨_,he,fun v q=>by cases q⟩
  ·exact hi.obj
 keep:=fun n h h' st kp=>let ⟨old,he⟩:=st.he;⟨⟨old,kp e (by simp) _ he⟩,st.hi.at_ fun o q=>kp it (by simp) o q⟩
 item:=by
  intro X hP hw hK hc n pins s σ H E Iv hf st hg
  subst hP hw hK
  obtain⟨xs,x,qa,hx⟩:=hg
  obtain⟨ia,ra,sa⟩:=Iv.sq qa
  obtain⟨u,hu,ru⟩:=ra.get hx
  obtain⟨⟨old,he⟩,hi⟩:=st
  have hlt:n<ia.toArray.size:=by simpa using (List.getElem?_eq_some_iff.mp hu).1
  refine wpAny_pyNext_enum_itemD (Ex (b:=b) (show X.A.in1.handled=none from Iv.ok.hd hc) it a nai ia.toArray) he ⟨hi,sa⟩ hlt ne (by simp[ne,Ne.symm nae]) fun y h1 tk py out1 st1 T1 sz1 up1=>⟨_,rfl,wpAny_letOwnedTupleGo_enum out1 fun h2 e2 s2=>?_⟩
  have ey:y=u:=by
   have p':ia.toArray[n]?=some y:=py
   rw[List.getElem?_toArray,hu]at p';cases p';rfl
  subst ey
  have hfr:H s.heap.objs.size=none:=Iv.hok.fresh (Nat.le_refl _)
  have elt:e<s.heap.objs.size:=Heap.lt_size he
  have ilt:it<s.heap.objs.size:=by obtain⟨o,q,_⟩:=hi.obj;exact Heap.lt_size q
  have sz:∀c∈[e,it],c<s.heap.objs.size:=fun c hc=>by
   simp only[List.mem_cons,List.not_mem_nil,or_false]at hc
   rcases hc with rfl|rfl
   ·exact elt
   ·exact ilt
  have T2:h2.get? s.heap.objs.size=some { cls:=.type "tuple",data:=.seq #[.int n tk,y] }:=s2.extBut _ _ (Nat.ne_of_gt elt) T1
  have I1:Inv X pins σ (upd H s.heap.objs.size (.tup [.int n,x])) { s with heap:=s.heap.push { cls:=.type "tuple",data:=.seq #[.int n tk,y] },toks:=s.toks }:=
   Iv.laid (fun b o e=>Heap.get?_push_of_some _ e) (Nat.le_refl _) (Ad (Heap.get?_push_size _ rfl) ⟨tk,rfl⟩ ru)
  have fr2:∀c∈[e,it],(upd H s.heap.objs.size (.tup [.int n,x])) c=none:=fun c hc=>by rw[bP (Nat.ne_of_lt (sz c hc))];exact(hf c hc).1
  have I2:Inv X pins σ (upd H s.heap.objs.size (.tup [.int n,x])) { s with heap:=h2,toks:=tk+1 }:=
   Inv.turnedL (s:={ s with heap:=s.heap.push { cls:=.type "tuple",data:=.seq #[.int n tk,y] },toks:=s.toks }) (h':=h2) (t':=tk+1) (ch:=[e,it]) I1 (fun c o hn q=>by
    by_cases ce:c=s.heap.objs.size
    ·subst ce
     have q':(s.heap.push { cls:=.type "tuple",data:=.seq #[.int n tk,y] }).get? s.heap.objs.size=some o:=q
     rw[Heap.get?_push_size _ rfl]at q'
     cases q';exact T2
    ·have q':s.heap.get? c=some o:=zY q ce
     simp only[List.mem_cons,List.not_mem_nil,or_false,not_or]at hn
     exact s2.extBut _ _ hn.1 (up1 c o hn.1 hn.2 q')) fun c hc=>⟨fr2 c hc,(hf c hc).2⟩
  refine⟨.ref s.heap.objs.size,_,I2,rfl,⟨_,x,rfl,hfr,rfl,fun xs' q=>by rw[Iv.sq_inj q qa];exact hx⟩,⟨⟨_,by simpa using e2⟩,st1.1.at_ fun o q=>s2.extBut _ _ (Ne.symm ne) q⟩,fr2⟩
 done:=by
  intro X hP hw hK hc n pins s σ H E Iv hf st hg
  subst hP hw hK
  obtain⟨xs,qa,hx⟩:=hg
  obtain⟨ia,ra,sa⟩:=Iv.sq qa
  have la:=ra.length
  obtain⟨⟨old,he⟩,hi⟩:=st
  refine AQ (show X.A.in1.handled=none from Iv.ok.hd hc) he hi sa (by simp;omega) fun h1 up1=>⟨rfl,?_⟩
  exact Iv.turnedL (t':=s.toks) (ch:=[e,it]) (fun c o hn q=>by
   simp only[List.mem_cons,List.not_mem_nil,or_false,not_or]at hn
   exact up1 c o hn.2 q) hf
 self:=fun _ _ _ _ _ st h=>let ⟨old,he⟩:=st.he;wpAny_pyIter_enum he h
def Ik(K:PySem.W.Frag)(ta:TA):TI:=fun σ H R=>ta σ H fun vs H2=>∃b a,vs=[.ref a]/\(∃xs,Sq K b H2 a xs)/\R (Ite K b a) H2
theorem yP:bootBuiltins "enumerate"=some (.type "enumerate"):=rfl
section
variable{X:Cx}{pos:Pos}
theorem CZ{es:List Expr}{k:Nat}{tp p:Pos}{a:Expr}{ta:TA}(hg:Gl X "enumerate")(hm:X.mg "enumerate"=none)(ha:WA X [a] ta)
  (hs:starEach [a] X.env=(false,eval a X.env)::starEach [] X.env:=by rfl) (hpl:(backTo pos (starEach [] X.env)).any (·.1)=false:=by rfl):WI X (.Tuple es k tp) (.Call (.Name "enumerate" p) [a] [] pos) (Ik X.K ta):=by
 constructor
 intro pins s σ H R I h
 refine wpAny_Call_Name_kw (qV I hg hm OP.yP ?_)
 refine PyProof.Rows.callWith_type1 (thn (ha.h pos pins s σ H _ I h) fun us s1 hz=>?_) hs hpl
 obtain⟨vs,H1,I1,r1,q1⟩:=hz
 obtain⟨b,aa,rfl,⟨xs,qa⟩,q⟩:=q1
 obtain⟨u,rfl,ru⟩:=mF r1
 cases ru
 obtain⟨ia,ra,sa⟩:=I1.sq qa
 refine yl sa fun h1 e it ne he hi st up=>?_
 obtain⟨old,hE⟩:=st.he
 refine wpAny_pyIter_enum hE ⟨e,[e,it],_,_,H1,rfl,I1.kept (t':=s1.toks) up,wF ne (Nat.ne_of_lt (Nat.lt_of_lt_of_le sa.lt he)) (Nat.ne_of_lt (Nat.lt_of_lt_of_le sa.lt hi)),st,fun c hc=>?_,q⟩
 simp only[List.mem_cons,List.not_mem_nil,or_false]at hc
 rcases hc with rfl|rfl
 ·exact I1.fpOk he (I1.hok.fresh he)
 ·exact I1.fpOk hi (I1.hok.fresh hi)
def vN(us:List U):List U:=us.zipIdx.map fun p=>.tup [.int p.2,p.1]
def pS(ca:CE):CI:=fun ρ S=>(ca ρ S).bind fun p=>(Bm p.1 p.2).bind fun x=>some (vN x.1,x.2,p.2)
theorem sD{es:List Expr}{k:Nat}{tp p:Pos}{a:Expr}{ca:CE}(hg:Gl X "enumerate")(hm:X.mg "enumerate"=none)(ha:QE X a ca)
  (hs:starEach [a] X.env=(false,eval a X.env)::starEach [] X.env:=by rfl) (hpl:(backTo pos (starEach [] X.env)).any (·.1)=false:=by rfl) :
  QI X (.Tuple es k tp) (.Call (.Name "enumerate" p) [a] [] pos) (pS ca):=(CZ hg hm (fu ha kF hs) hs hpl).imp fun σ H R hz=>vM hz fun m ρ S us ok S' sr lr hf post=>by
 obtain⟨⟨x,S1⟩,h1,h⟩:=Option.bind_eq_some_iff.mp hf
 obtain⟨⟨xs,okx⟩,h3,h⟩:=Option.bind_eq_some_iff.mp h
 cases h
 refine⟨m,ρ,S,x,_,sr,lr,h1,fun m1 v1 H1 e1 sr1 i1=>?_⟩
 obtain⟨b,aa,rfl,q1,k1⟩:=Gi sr1 i1 h3
 refine⟨b,aa,rfl,q1,post m1 H1 _ e1 sr1 fun m3 S3 H3 i e3 sr3 hok=>?_⟩
 obtain⟨vs,sq1,l1⟩:=k1 m3 S3 H3 e3 sr3 hok
 have n1:=l1.length
 refine⟨fun u hu=>?_,fun hi=>⟨vs,sq1,?_⟩⟩
 ·simp only[vN,List.getElem?_map,Option.map_eq_some_iff,List.getElem?_zipIdx]at hu
  obtain⟨⟨p,q⟩,⟨y,hp,e⟩,rfl⟩:=hu
  cases e
  obtain⟨vp,ep,ip⟩:=l1.getD hp
  refine⟨⟨vs,vp,sq1,ep⟩,fun v H4 hy=>?_⟩
  obtain⟨r,x',rfl,hr,rfl,f1⟩:=hy
  have:=f1 vs sq1
  rw[ep]at this;cases this
  have ee:Ext X.K m3 H3 m3 (upd H3 r (.tup [.int i,vp])):=.of (cK hr _)
  exact⟨ee,sr3.same (d6 hr _),.tup_ (SqT.of aS) (.cons_ (by simp only[Nat.zero_add];exact .int_) (.cons_ (ip.mono ee) .nil_))⟩
 ·simp only[vN,List.length_map,List.length_zipIdx]at hi
  omega
def gh:List (CE×CE)->Rho->Sto->Option (List (Key×U)×Sto)
 |[],_,S=>some ([],S)
 |(ck,cv)::r,ρ,S=>(ck ρ S).bind fun p=>(cv ρ p.2).bind fun q=>(iA p.1).bind fun k=>(gh r ρ q.2).bind fun z=>some ((k,q.1)::z.1,z.2)
def xD(kus:List (Key×U))(au:List (Key×U)):List (Key×U):=kus.foldl (fun acc kv=>kE acc kv.1 kv.2) au
def oO(kus:List (Key×U)):List (Key×U):=xD kus []
def tR(prs:List (CE×CE)):CE:=fun ρ S=>(gh prs ρ (S++[.dic []])).bind fun q=>match q.2[S.length]? with
 |some (.dic [])=>some (.ref S.length,q.2.set S.length (.dic (oO q.1)))
 |_=>none
def QP(X:Cx)(pos:Pos)(keys:List (Option Expr))(values:List Expr)(prs:List (CE×CE)):Prop:=PPs X pos keys values (prs.map fun p=>(tE X.K p.1,tE X.K p.2))
theorem Br:QP X pos [] [] []:=xg
theorem jD{k v:Expr}{ks:List (Option Expr)}{vs:List Expr}{ck cv:CE}{prs:List (CE×CE)}(hk:QE X k ck)(hv:QE X v cv)(hr:QP X pos ks vs prs):QP X pos (some k::ks) (v::vs) ((ck,cv)::prs):=uy hk.h hv.h hr
theorem qN{K:PySem.W.Frag}{ρ:Rho}{σ:L2.St}:∀{prs:List (CE×CE)} {m:List Addr} {S S':Sto} {H:Hp} {kus:List (Key×U)} {R:List (V×V)->Hp->Prop},Sr K m S H->Lr K m H ρ σ->gh prs ρ S=some (kus,S')->
  (∀m' kvs H',Ext K m H m' H'->Sr K m' S' H'->IsP K m' H' kvs kus->R (kvs.map fun kv=>(kV kv.1,kv.2)) H')->qC (prs.map fun p=>(tE K p.1,tE K p.2)) σ H R
 |[],m,S,S',H,kus,R,sr,lr,hc,k=>by cases hc;exact k m [] H .refl sr .nil_
 |(ck,cv)::r,m,S,S',H,kus,R,sr,lr,hc,k=>by
  obtain⟨⟨x,S1⟩,h1,h⟩:=Option.bind_eq_some_iff.mp hc
  obtain⟨⟨y,S2⟩,h2,h⟩:=Option.bind_eq_some_iff.mp h
  obtain⟨kk,h3,h⟩:=Option.bind_eq_some_iff.mp h
  obtain⟨⟨zs,S3⟩,h4,h⟩:=Option.bind_eq_some_iff.mp h
  cases h
  refine⟨m,ρ,S,x,S1,sr,lr,h1,fun m1 v1 H1 e1 sr1 i1=>⟨m1,ρ,S1,y,S2,sr1,lr.mono e1,h2,fun m2 v2 H2 e2 sr2 i2=>?_⟩⟩
  refine qN (prs:=r) sr2 (lr.mono (e1.trans e2)) h4 fun m3 kvs H3 e3 sr3 ip=>?_
  have ek:=kL i1 h3
  subst ek
  exact k m3 ((kk,v2)::kvs) H3 ((e1.trans e2).trans e3) sr3 (.cons_ (i2.mono e3) ip)
theorem oM:∀{prs:List (CE×CE)} {ρ:Rho} {S S':Sto} {kus:List (Key×U)},gh prs ρ S=some (kus,S')->kus.length=prs.length
 |[],_,_,_,_,h=>by cases h;rfl
 |(ck,cv)::r,ρ,S,S',kus,hc=>by
  obtain⟨⟨x,S1⟩,h1,h⟩:=Option.bind_eq_some_iff.mp hc
  obtain⟨⟨y,S2⟩,h2,h⟩:=Option.bind_eq_some_iff.mp h
  obtain⟨kk,h3,h⟩:=Option.bind_eq_some_iff.mp h
  obtain⟨⟨zs,S3⟩,h4,h⟩:=Option.bind_eq_some_iff.mp h
  cases h
  simp[oM h4]
theorem IsP.merge{K:PySem.W.Frag}{m:List Addr}{H:Hp}{kvs:List (Key×V)}{kus:List (Key×U)}(h:IsP K m H kvs kus):∀(av:List (Key×V)) (au:List (Key×U)),IsP K m H av au->IsP K m H (lP av kvs) (xD kus au):=
 IsP.ind (P:=fun kvs kus=>∀(av:List (Key×V)) (au:List (Key×U)),IsP K m H av au->IsP K m H (lP av kvs) (xD kus au)) (fun _ _ h=>h) (fun k v u kvs kus i _ ih av au ha=>ih _ _ (ha.put (k:=k) i)) h
theorem Bs{keys:List (Option Expr)}{values:List Expr}{prs:List (CE×CE)}(h:QP X pos keys values prs)(hall:keys.all (·.isSome)=true)(hl:keys.length=values.length)(h0:keys≠[])(h15:keys.length<=15)(hp:prs.length<=15):QE X (.Dict keys values pos) (tR prs):=
 (zq h hall hl h0 h15).imp fun σ H Q hz=>nX hz fun m ρ S u S' sr lr hc post=>by
 obtain⟨⟨kus,S1⟩,h1,h2⟩:=Option.bind_eq_some_iff.mp hc
 simp only at h2
 split at h2<;>try cases h2
 rename_i hS
 intro p hp'
 have ee:Ext X.K m H (m++[p]) (upd H p (.dK [])):=.new (cK hp' _)
 refine qN (sr.new (o:=.dic []) hp' ⟨[],aS,.nil_⟩) (lr.mono ee) h1 fun m1 kvs H1 e1 sr1 ip=>?_
 have ha:m1[S.length]?=some p:=e1.get (ef sr.len)
 obtain⟨a',ha',kv0,hx,ip0⟩:=sr1.get hS
 rw[ha]at ha';cases ha'
 have e0:kv0=[]:=by have:=IsP.length ip0;simpa using this
 subst e0
 have eu:Ext X.K m1 H1 m1 (upd H1 p (.dK (lP [] kvs))):=.of (sr1.keep ha _)
 refine⟨hx,kvs,rfl,by rw[IsP.length ip,oM h1];exact hp,post m1 _ _ ((ee.trans e1).trans eu) (sr1.put (o:=.dic (oO kus)) ha ⟨_,aS,(IsP.merge ip _ _ .nil_).mono eu⟩) (.ref_ ha)⟩
end
theorem qZ:∀{vs:List Value} {ns:List Int},IntsAre vs ns->cI (ns.map V.int) vs
 |_,_,.nil=>.nil
 |_,_,.cons n t r=>.cons ⟨t,rfl⟩ (qZ r)
theorem fD:∀{ns:List Int} {vs:List Value},cI (ns.map V.int) vs->IntsAre vs ns
 |[],_,h=>by cases h;exact .nil
 |n::ns,_,.cons r t=>by
  obtain⟨k,rfl⟩:=r
  exact .cons n k (fD t)
def wZ(K:PySem.W.Frag):List V->Hp->VK->Prop:=fun xs H Q=>∃(p:Addr) (ns:List Int),xs=[.ref p]/\(SqL K H p (ns.map V.int)\/∃kvs,H p=some (.dK kvs)/\kvs.map (·.1)=ns.map Sum.inl)/\ns.length<64/\
 ∀(l:Addr) (ms:List Int),H l=none->ms.Perm ns->ms.Pairwise (·<=·)->Q (.ref l) (upd H l (.lst (ms.map V.int)))
theorem xK{κ:Type}:∀{kvs:List (κ×V)} {vs:List (κ×Value)},KV kvs vs->vs.map (·.1)=kvs.map (·.1)
 |_,_,.nil=>rfl
 |_,_,.cons r t=>by rw[List.map_cons,List.map_cons,xK t,r.1]
theorem sN{P:Program}{w:World}{H:Hp}{h:Heap}{a:Addr}{ms:List Int}{out:Array Value}{e:Nat}(g:h.get? a=some (seqObj "list" out e))(hI:IntsAre out.toList ms)(hl:ms.length<64):cM P w H h a (.lst (ms.map V.int)):=
 ⟨by rw[List.length_map];exact Nat.le_of_lt (Nat.lt_of_lt_of_le hl (by unfold sizeLine;decide)),out.toList,e,qZ hI,by rw[Array.toArray_toList];exact g⟩
theorem uD{X:Cx}(hc:X.calm=true):fT X (.builtin "sorted") (wZ X.K):=by
 rintro pins s σ H xs us Q I r ⟨p,ns,rfl,src,h64,q⟩
 obtain⟨u,rfl,ru⟩:=mF r
 cases ru
 rcases src with hL|⟨kvs,hD,hk⟩
 ·obtain⟨its,rv,pl,hz⟩:=I.list hL
  have hI:=fD rv
  have hlen:=rv.length
  rw[List.length_map]at hlen
  refine sorted_ints pl.isList hI (by omega) fun out ms a1 a2 a3=>?_
  obtain⟨e,ge⟩:=sortedAll_at s.heap its out
  have hf:=I.hok.fresh (Nat.le_succ s.heap.objs.size)
  exact⟨.ref (s.heap.objs.size+1),_,I.laid (t':=s.toks) (fun b o e=>sortedAll_old e) (Nat.le_succ _) (sN ge a1 (by rw[a2.length_eq];exact h64)),rfl,q _ ms hf a2 a3⟩
 ·obtain⟨z,hd,vs,rel,dd⟩:=AX I.hok hD
  obtain⟨ep,da⟩:=dd.dictAt
  have lkv:kvs.length=ns.length:=by have:=congrArg List.length hk;simpa using this
  have lv:vs.length=ns.length:=by rw[<-Paired.length rel];exact lkv
  have ks:vs.map (·.1)=ns.map Sum.inl:=by
   rw[<-hk];exact xK rel
  refine Calls.call_function_entry kind_sorted plain_sorted entry_sorted (args_sorted1 _) ?_
  unfold Builtin.«sorted»
  refine wpAny_bind (m:=checkCount "sorted" 1 1 _) (wpAny_pure (wpAny_bind (PySem.W.kdu_collect (PySem.W.kdl_dict (kvs:=vs) (ep:=ep) hd) (show X.A.in1.handled=none from I.ok.hd hc) da (by rw[lv,<-lkv];exact z) fun h1 tk acc up hac=>?_)))
  have hla:acc.toList.length=ns.length:=by rw[Array.length_toList,hac.1,lv]
  have hI:IntsAre acc.toList ns:=by
   have key:∀(i:Nat) (v:Value),acc.toList[i]?=some v->∃(n:Int) (t:Tok),ns[i]?=some n/\v=Value.int n t:=fun i v e=>by
    obtain⟨k,x,e1,e2⟩:=hac.2 i v (by rw[<-Array.getElem?_toList];exact e)
    have e3:(vs.map (·.1))[i]?=some k:=by rw[List.getElem?_map,e1];rfl
    rw[ks,List.getElem?_map]at e3
    obtain⟨n,e4,e5⟩:=Option.map_eq_some_iff.mp e3
    subst e5
    rcases b5 (k:=Sum.inl n) e2 with⟨j,t,e6,e7⟩|⟨j,t,e6,e7⟩
    ·cases e6;exact⟨n,t,e4,e7⟩
    ·cases e6
   clear hac
   generalize acc.toList=L at key hla
   clear ks lv lkv h64 q hk
   induction L generalizing ns with
   |nil=>cases ns with
    |nil=>exact .nil
    |cons a b=>simp at hla
   |cons a b ih=>cases ns with
    |nil=>simp at hla
    |cons c d=>
     obtain⟨n,t,e1,e2⟩:=key 0 a (by simp)
     simp at e1;subst e1;subst e2
     exact .cons _ t (ih _ (fun i v e=>by have:=key (i+1) v (by simpa using e);simpa using this) (by simpa using hla))
  refine wpAny_bind (wpAny_newList ?_ (by rw[hla,<-lkv];exact z))
  have gL:(h1.push { cls:=.type "list",data:=.seq acc.toList.toArray }).get? h1.objs.size=some (seqObj "list" acc.toList.toArray 0):=Heap.get?_push_size _ rfl
  refine wpAny_bind (wpAny_holding (wpAny_call_entry slot_list_sort ⟨_,gL,rfl⟩ entry_list_sort (list_sort_tree (s:={ s with heap:=h1.push { cls:=.type "list",data:=.seq acc.toList.toArray },toks:=tk }) gL hI (by omega) fun out ms a1 a2 a3=>⟨_,rfl,?_⟩) (args_list_sort _)))
  obtain⟨e,ge⟩:=sortedHeap_at (out:=out) gL
  have I1:Inv X pins σ H { s with heap:=h1,toks:=tk }:=I.kept up
  have hf:=I1.hok.fresh (Nat.le_refl h1.objs.size)
  refine wpAny_pure ⟨_,rfl,.ref h1.objs.size,_,Inv.laid (s:={ s with heap:=h1,toks:=tk }) (h':=sortedHeap (h1.push { cls:=.type "list",data:=.seq acc.toList.toArray }) h1.objs.size acc.toList out) (t':=tk) I1 (fun b o g1=>?_) (Nat.le_refl _) (sN ge a1 (by rw[a2.length_eq];exact h64)),rfl,q _ ms hf a2 a3⟩
  have g1:h1.get? b=some o:=g1
  have lt1:=Heap.lt_size g1
  rw[sortedHeap_old (Nat.ne_of_lt lt1) (by rw[Heap.size_push];exact Nat.lt_succ_of_lt lt1)]
  exact Heap.get?_push_of_some _ g1
def dr(ns:List Int):List Int:=ns.mergeSort (fun a b=>decide (a<=b))
theorem cg(ns:List Int):(dr ns).Perm ns:=List.mergeSort_perm ..
theorem iF(ns:List Int):(dr ns).Pairwise (·<=·):=by
 have:=List.pairwise_mergeSort (le:=fun(a b:Int)=>decide (a<=b)) (fun a b c h1 h2=>by simp at h1 h2 ⊢;omega) (fun a b=>by simp;omega) ns
 exact this.imp fun h=>by simpa using h
theorem mj{ns ms:List Int}(p:ms.Perm ns)(s:ms.Pairwise (·<=·)):ms=dr ns:=PySem.W.lks_uniq (p.trans (cg ns).symm) s (iF ns)
def sQ:List (Key×U)->Option (List Int)
 |[]=>some []
 |(.inl n,_)::r=>(sQ r).map (n::·)
 |_=>none
theorem uJ:∀{kus:List (Key×U)} {ns:List Int},sQ kus=some ns->kus.map (·.1)=ns.map Sum.inl
 |[],ns,h=>by cases h;rfl
 |(k,u)::r,ns,h=>by
  cases k<;>simp only[sQ]at h<;>try cases h
  obtain⟨ms,e,h⟩:=Option.map_eq_some_iff.mp h
  subst h
  simp[uJ e]
def gY:Fn
 |[.ref l],S=>match S[l]? with
  |some (.lst us)=>(n9 us).bind fun ns=>if ns.length<64 then some (.ref S.length,S++[.lst ((dr ns).map U.int)])else none
  |some (.dic kus)=>(sQ kus).bind fun ns=>if ns.length<64 then some (.ref S.length,S++[.lst ((dr ns).map U.int)])else none
  |_=>none
 |_,_=>none
theorem uA{K:PySem.W.Frag}:mf K (wZ K) gY:=by
 intro m S H us vs u S' Q sr i hf post
 match us,hf with
 |[.ref l],hf=>
  obtain⟨v,rfl,iv⟩:=i.one
  obtain⟨a,ha,rfl⟩:=iv.of_ref
  simp only[gY]at hf
  split at hf<;>try cases hf
  ·rename_i ws hS
   obtain⟨ns,hn,h⟩:=Option.bind_eq_some_iff.mp hf
   split at h<;>try cases h
   have hc:ns.length<64:=by assumption
   obtain⟨a',ha',xs,hx,la⟩:=sr.get hS
   rw[ha]at ha';cases ha'
   rw[ki hn]at la
   rw[la.ints]at hx
   refine⟨a,ns,rfl,.inl (SqL.of hx),hc,fun p ms hp pm sm=>?_⟩
   rw[mj pm sm]
   exact eR sr (jb _) post hp
  ·rename_i ws hS
   obtain⟨ns,hn,h⟩:=Option.bind_eq_some_iff.mp hf
   split at h<;>try cases h
   have hc:ns.length<64:=by assumption
   obtain⟨a',ha',kvs,hx,ip⟩:=sr.get hS
   rw[ha]at ha';cases ha'
   refine⟨a,ns,rfl,.inr ⟨kvs,hx,by rw[ip.1,uJ hn]⟩,hc,fun p ms hp pm sm=>?_⟩
   rw[mj pm sm]
   exact eR sr (jb _) post hp
section
variable{ρ:Rho}{S:Sto}{c1 c2:CS}{t ta tb:CT}{ca cb cc:CE}{cr:CA}{u x y:U}{us:List U}{i l:Nat}{f g:U->U->Sto->Option (U×Sto)}{b:Bool}
def Md(S:Sto):Option (Option U)->Option (U×Sto)
 |some (some u)=>some (u,S)
 |_=>none
theorem wc:ah i ρ S=Md S (ρ[i]?):=rfl
theorem qm:Md S (some (some u))=some (u,S):=rfl
theorem x_c:cC u ρ S=some (u,S):=rfl
def Ln(f:U->U->Sto->Option (U×Sto))(x:U)(q:U×Sto):=f x q.1 q.2
def Mi(f:U->U->Sto->Option (U×Sto))(cb:CE)(ρ:Rho)(p:U×Sto):=(cb ρ p.2).bind (Ln f p.1)
theorem Cb:cOp f ca cb ρ S=(ca ρ S).bind (Mi f cb ρ):=rfl
theorem se:Mi f cb ρ (x,S)=(cb ρ S).bind (Ln f x):=rfl
theorem sd:Ln f x (y,S)=f x y S:=rfl
def HM:U×Sto->Option (Bool×Sto)
 |(.bl b,S)=>some (b,S)
 |_=>none
theorem t8:aH ca ρ S=(ca ρ S).bind HM:=by
 unfold aH;congr 1;funext p;obtain⟨u,S⟩:=p;cases u<;>rfl
theorem pf:HM (.bl b,S)=some (b,S):=rfl
def Ly(tb:CT)(ρ:Rho)(p:Bool×Sto):=if p.1=true then tb ρ p.2 else some (false,p.2)
def kOr(tb:CT)(ρ:Rho)(p:Bool×Sto):=if p.1=true then some (true,p.2)else tb ρ p.2
def Mj(p:Bool×Sto):Option (Bool×Sto):=some (!p.1,p.2)
theorem Kh:me ta tb ρ S=(ta ρ S).bind (Ly tb ρ):=rfl
theorem FU:Ly tb ρ (true,S)=tb ρ S:=rfl
theorem FT:Ly tb ρ (false,S)=some (false,S):=rfl
theorem MK:cOr ta tb ρ S=(ta ρ S).bind (kOr tb ρ):=rfl
theorem JA:kOr tb ρ (true,S)=some (true,S):=rfl
theorem Jz:kOr tb ρ (false,S)=tb ρ S:=rfl
theorem JB:yN ta ρ S=(ta ρ S).bind Mj:=rfl
theorem Fv:Mj (b,S)=some (!b,S):=rfl
def Ec(cb:CE)(ρ:Rho):U×Sto->Option (U×Sto)
 |(.bl true,S)=>cb ρ S
 |(.bl false,S)=>some (.bl false,S)
 |_=>none
def Lm(cb:CE)(ρ:Rho):U×Sto->Option (U×Sto)
 |(.bl false,S)=>cb ρ S
 |(.bl true,S)=>some (.bl true,S)
 |_=>none
def HQ:U×Sto->Option (U×Sto)
 |(.bl b,S)=>some (.bl (!b),S)
 |_=>none
theorem FR:tU ca cb ρ S=(ca ρ S).bind (Ec cb ρ):=by
 unfold tU;congr 1;funext p;obtain⟨u,S⟩:=p;cases u with
 |bl b=>cases b<;>rfl
 |_=>rfl
theorem CC:Ec cb ρ (.bl true,S)=cb ρ S:=rfl
theorem CB:Ec cb ρ (.bl false,S)=some (.bl false,S):=rfl
theorem Jy:Mt ca cb ρ S=(ca ρ S).bind (Lm cb ρ):=by
 unfold Mt;congr 1;funext p;obtain⟨u,S⟩:=p;cases u with
 |bl b=>cases b<;>rfl
 |_=>rfl
theorem Ft:Lm cb ρ (.bl false,S)=cb ρ S:=rfl
theorem Fs:Lm cb ρ (.bl true,S)=some (.bl true,S):=rfl
theorem Fu:IB ca ρ S=(ca ρ S).bind HQ:=by
 unfold IB;congr 1;funext p;obtain⟨u,S⟩:=p;cases u<;>rfl
theorem Cc:HQ (.bl b,S)=some (.bl (!b),S):=rfl
def xR(u:U)(q:List U×Sto):Option (List U×Sto):=some (u::q.1,q.2)
def BD(cr:CA)(ρ:Rho)(p:U×Sto):=(cr ρ p.2).bind (xR p.1)
theorem wd:aA ρ S=some ([],S):=rfl
theorem qq:ae ca cr ρ S=(ca ρ S).bind (BD cr ρ):=rfl
theorem mE:BD cr ρ (u,S)=(cr ρ S).bind (xR u):=rfl
theorem mD:xR u (us,S)=some (u::us,S):=rfl
def Me(p:List U×Sto):Option (U×Sto):=some (.tup p.1,p.2)
def Ml(p:List U×Sto):Option (U×Sto):=some (.ref p.2.length,p.2++[.lst p.1])
theorem Jn:cL cr ρ S=(cr ρ S).bind Me:=rfl
theorem Fd:Me (us,S)=some (.tup us,S):=rfl
theorem JK:gG cr ρ S=(cr ρ S).bind Ml:=rfl
theorem Fx:Ml (us,S)=some (.ref S.length,S++[.lst us]):=rfl
def kCB(f:Fn)(p:List U×Sto):=f p.1 p.2
theorem Cz{f:Fn}:cCB f cr ρ S=(cr ρ S).bind (kCB f):=rfl
theorem sf{f:Fn}:kCB f (us,S)=f us S:=rfl
def Mm(T:Ty)(p:U×Sto):Option (U×Sto):=(tyU p.1 p.2).bind fun t=>some (.bl (y4 t T),p.2)
theorem JR{T:Ty}:EG T ca ρ S=(ca ρ S).bind (Mm T):=rfl
theorem FE{T:Ty}:Mm T (u,S)=(tyU u S).bind fun t=>some (.bl (y4 t T),S):=rfl
def HN(c2:CS):Out×Rho×Sto->Option (Out×Rho×Sto)
 |(.nx,ρ,S)=>c2 ρ S
 |(o,ρ,S)=>some (o,ρ,S)
theorem Fe:cf ρ S=some (.nx,ρ,S):=rfl
theorem Ca:bg c1 c2 ρ S=(c1 ρ S).bind (HN c2):=by
 unfold bg;congr 1;funext p;obtain⟨o,ρ,S⟩:=p;cases o<;>rfl
theorem Bf:HN c2 (.nx,ρ,S)=c2 ρ S:=rfl
theorem Fm:HN c2 (.rt u,ρ,S)=some (.rt u,ρ,S):=rfl
theorem Fl:HN c2 (.bk,ρ,S)=some (.bk,ρ,S):=rfl
theorem Fj:HN c2 (.ct,ρ,S)=some (.ct,ρ,S):=rfl
def HS(ρ:Rho)(p:U×Sto):Option (Out×Rho×Sto):=some (.nx,ρ,p.2)
def Mh(ρ:Rho)(p:U×Sto):Option (Out×Rho×Sto):=some (.rt p.1,ρ,p.2)
theorem FL:d3 ca ρ S=(ca ρ S).bind (HS ρ):=rfl
theorem Cr:HS ρ (u,S)=some (.nx,ρ,S):=rfl
theorem Fp:eV ca ρ S=(ca ρ S).bind (Mh ρ):=rfl
theorem Fo:Mh ρ (u,S)=some (.rt u,ρ,S):=rfl
def Lo(c1 c2:CS)(ρ:Rho)(p:Bool×Sto):=if p.1=true then c1 ρ p.2 else c2 ρ p.2
theorem FI:dM t c1 c2 ρ S=(t ρ S).bind (Lo c1 c2 ρ):=rfl
theorem FH:Lo c1 c2 ρ (true,S)=c1 ρ S:=rfl
theorem FG:Lo c1 c2 ρ (false,S)=c2 ρ S:=rfl
def kIf(ca cb:CE)(ρ:Rho)(p:Bool×Sto):=if p.1=true then ca ρ p.2 else cb ρ p.2
theorem MT:cIf t ca cb ρ S=(t ρ S).bind (kIf ca cb ρ):=rfl
theorem JV:kIf ca cb ρ (true,S)=ca ρ S:=rfl
theorem JU:kIf ca cb ρ (false,S)=cb ρ S:=rfl
def Mf(i:Nat)(ρ:Rho)(p:U×Sto):Option (Out×Rho×Sto):=some (.nx,ρ.set i (some p.1),p.2)
theorem rZ:bO i ca ρ S=(ca ρ S).bind (Mf i ρ):=rfl
theorem Fi:Mf i ρ (u,S)=some (.nx,ρ.set i (some u),S):=rfl
def Eb(q:Rho×Sto):Option (Out×Rho×Sto):=some (.nx,q.1,q.2)
def Mn(g:CG)(ρ:Rho)(p:U×Sto):=(g p.1 ρ p.2).bind Eb
theorem Kf{g:CG}:ID ca g ρ S=(ca ρ S).bind (Mn g ρ):=rfl
theorem FQ{g:CG}:Mn g ρ (u,S)=(g u ρ S).bind Eb:=rfl
theorem FP:Eb (ρ,S)=some (.nx,ρ,S):=rfl
theorem JX:gNm i u ρ S=some (ρ.set i (some u),S):=rfl
theorem JW{is:List Nat}:gTp is (.tup us) ρ S=(ib is us ρ).bind fun ρ'=>some (ρ',S):=rfl
theorem FW:ib [] [] ρ=some ρ:=rfl
theorem FV{is:List Nat}:ib (i::is) (u::us) ρ=ib is us (ρ.set i (some u)):=rfl
def HP(ρ:Rho)(S':Sto):Option (Out×Rho×Sto):=some (.nx,ρ,S')
def Lk(o v:U)(ρ:Rho)(r:U×Sto):=(iX o r.1 v r.2).bind (HP ρ)
def Ll(ci:CE)(v:U)(ρ:Rho)(q:U×Sto):=(ci ρ q.2).bind (Lk q.1 v ρ)
def kSI(co ci:CE)(ρ:Rho)(p:U×Sto):=(co ρ p.2).bind (Ll ci p.1 ρ)
theorem ME:gk ca cb cc ρ S=(cc ρ S).bind (kSI ca cb ρ):=rfl
theorem Jt:kSI ca cb ρ (u,S)=(ca ρ S).bind (Ll cb u ρ):=rfl
theorem Js:Ll cb y ρ (u,S)=(cb ρ S).bind (Lk u y ρ):=rfl
theorem Jr:Lk x y ρ (u,S)=(iX x u y S).bind (HP ρ):=rfl
theorem Jq:HP ρ S=some (.nx,ρ,S):=rfl
def kIx(y:U)(S:Sto):Option O->Option (U×Sto)
 | some (.lst us)=>(match y with
   |.int i=>(atI us i).bind fun u=>some (u,S)
   |_=>none)
 |some (.dic kus)=>(iA y).bind fun k=>(cE kus k).bind fun u=>some (u,S)
 |some (.fdc _ kus)=>(iA y).bind fun k=>(cE kus k).bind fun u=>some (u,S)
 |_=>none
theorem JM{j:Int}:fIx (.tup us) (.int j) S=(atI us j).bind fun u=>some (u,S):=rfl
theorem FD:fIx (.ref l) y S=kIx y S S[l]?:=by
 unfold fIx kIx;dsimp only<;>(generalize S[l]?=q;rcases q with _|o<;>first|rfl|(cases o<;>rfl))
theorem JN{j:Int}:kIx (.int j) S (some (.lst us))=(atI us j).bind fun u=>some (u,S):=rfl
theorem Cp{ep:Nat}{kus:List (Key×U)}:kIx y S (some (.fdc ep kus))=(iA y).bind fun k=>(cE kus k).bind fun u=>some (u,S):=rfl
theorem JO{kus:List (Key×U)}:kIx y S (some (.dic kus))=(iA y).bind fun k=>(cE kus k).bind fun u=>some (u,S):=rfl
def IZ(l:Nat)(i v:U)(S:Sto):Option O->Option Sto
 | some (.lst us)=>(match i with
   |.int k=>(ixN us.length k).bind fun j=>some (S.set l (.lst (us.set j v)))
   |_=>none)
 |some (.dic kus)=>(iA i).bind fun k=>if kus.length<LIM then some (S.set l (.dic (kE kus k v)))else none
 |_=>none
theorem Jp:iX (.ref l) x y S=IZ l x y S S[l]?:=by
 unfold iX IZ;dsimp only<;>(generalize S[l]?=q;rcases q with _|o<;>first|rfl|(cases o<;>rfl))
theorem Ff{j:Int}:IZ l (.int j) y S (some (.lst us))=(ixN us.length j).bind fun j=>some (S.set l (.lst (us.set j y))):=rfl
theorem Fg{kus:List (Key×U)}:IZ l x y S (some (.dic kus))=(iA x).bind fun k=>if kus.length<LIM then some (S.set l (.dic (kE kus k y)))else none:=rfl
theorem at0{α:Type}{a:α}{r:List α}:atI (a::r) 0=some a:=by show atI _ ((0:Nat):Int)=_;exact nN rfl
theorem at1{α:Type}{a b:α}{r:List α}:atI (a::b::r) 1=some b:=by show atI _ ((1:Nat):Int)=_;exact nN rfl
theorem at2{α:Type}{a b c:α}{r:List α}:atI (a::b::c::r) 2=some c:=by show atI _ ((2:Nat):Int)=_;exact nN rfl
theorem at3{α:Type}{a b c d:α}{r:List α}:atI (a::b::c::d::r) 3=some d:=by show atI _ ((3:Nat):Int)=_;exact nN rfl
theorem ix0{n:Nat}:ixN (n+1) 0=some 0:=by simp[ixN]
theorem ix1{n:Nat}:ixN (n+1+1) 1=some 1:=by simp[ixN];omega
theorem ix2{n:Nat}:ixN (n+1+1+1) 2=some 2:=by simp[ixN];omega
def Jb(S:Sto):Option O->Option (U×Sto)
 |some (.lst us)=>some (.int us.length,S)
 |some (.dic us)=>some (.int us.length,S)
 |_=>none
theorem t9:fU [.ref l] S=Jb S S[l]?:=by
 unfold fU Jb;dsimp only<;>(generalize S[l]?=q;rcases q with _|o<;>first|rfl|(cases o<;>rfl))
theorem ua:Jb S (some (.lst us))=some (.int us.length,S):=rfl
theorem FA{kus:List (Key×U)}:Jb S (some (.dic kus))=some (.int kus.length,S):=rfl
theorem Fy:fU [.tup us] S=some (.int us.length,S):=rfl
variable{j k:Int}
theorem Ki:eF (.int j) (.int k) S=some (.int (j+k),S):=rfl
theorem Jo:pZ (.int j) (.int k) S=some (.int (j-k),S):=rfl
theorem ze(h:wa j k):mz (.int j) (.int k) S=some (.int (j*k),S):=by simp[mz,fI,h]
theorem Cu(h:vW j k):AO (.int j) (.int k) S=some (.int (j / k),S):=by simp[AO,fI,h]
theorem qp(h:0<k):p6 (.int j) (.int k) S=some (.int (j % k),S):=by simp[p6,fI,h]
theorem Jx(h:E4 j k):EV (.int j) (.int k) S=some (.int (j^k.toNat),S):=by simp[EV,fI,h]
theorem IT:fLt (.int j) (.int k) S=some (.bl (decide (j<k)),S):=rfl
theorem LY:fLe (.int j) (.int k) S=some (.bl (decide (j<=k)),S):=rfl
theorem LZ:fGt (.int j) (.int k) S=some (.bl (decide (k<j)),S):=rfl
theorem MU:fGe (.int j) (.int k) S=some (.bl (decide (k<=j)),S):=rfl
theorem J2:fEq (.int j) (.int k) S=some (.bl (decide (j=k)),S):=rfl
theorem JE:fNe (.int j) (.int k) S=some (.bl (!decide (j=k)),S):=rfl
theorem J1{a c:Str}:fEq (.str a) (.str c) S=some (.bl (decide (a=c)),S):=rfl
theorem JD{a c:Str}:fNe (.str a) (.str c) S=some (.bl (!decide (a=c)),S):=rfl
theorem J3{a c:Bool}:fEq (.bl a) (.bl c) S=some (.bl (decide (a=c)),S):=rfl
theorem JF{a c:Bool}:fNe (.bl a) (.bl c) S=some (.bl (!decide (a=c)),S):=rfl
def kFn:Out×Rho×Sto->Option (U×Sto)
 |(.rt u,_,S)=>some (u,S)
 |(.nx,_,S)=>some (.non,S)
 |_=>none
theorem jd{n k:Nat}(h:us.length=k):fnU n k c1 us S=(c1 (qE n us) S).bind kFn:=by
 unfold fnU;rw[if_pos h];congr 1;funext p;obtain⟨o,ρ,S⟩:=p;cases o<;>rfl
theorem JZ:kFn (.rt u,ρ,S)=some (u,S):=rfl
theorem JY:kFn (.nx,ρ,S)=some (.non,S):=rfl
end
section
variable{ρ:Rho}{S:Sto}{c1 c2:CS}{t ta tb:CT}{ca cb cc:CE}{cr:CA}{u x y:U}{us:List U}{i l:Nat}{b:Bool}{c:Cl}{fus:List (Option U)}{g:Fn}
open Classical in
def AE(c:Cl)(i:Nat)(S:Sto):Option O->Option (U×Sto)
 |some (.ins c' fus)=>if c'=c then(fus[i]?).join.bind fun u=>some (u,S)else none
 |_=>none
def Lp(c:Cl)(i:Nat)(p:U×Sto):=EX c i p.1 p.2
theorem J0:nY c i ca ρ S=(ca ρ S).bind (Lp c i):=rfl
theorem FK:Lp c i (.ref l,S)=AE c i S S[l]?:=by
 unfold Lp EX AE;dsimp only<;>(generalize S[l]?=q;rcases q with _|o<;>first|rfl|(cases o<;>rfl))
theorem FJ:AE c i S (some (.ins c fus))=((fus[i]?).join).bind fun u=>some (u,S):=by
 unfold AE;dsimp only;rw[if_pos rfl]
open Classical in
def I0(c:Cl)(i l:Nat)(v:U)(S:Sto):Option O->Option Sto
 |some (.ins c' fus)=>if c'=c then some (S.set l (.ins c (fus.set i (some v))))else none
 |_=>none
def Ja(c:Cl)(i:Nat)(v:U)(ρ:Rho)(q:U×Sto):=(tm c i q.1 v q.2).bind (HP ρ)
def Mg(c:Cl)(i:Nat)(ca:CE)(ρ:Rho)(p:U×Sto):=(ca ρ p.2).bind (Ja c i p.1 ρ)
theorem MF:kq c i ca cb ρ S=(cb ρ S).bind (Mg c i ca ρ):=rfl
theorem Jw:Mg c i ca ρ (u,S)=(ca ρ S).bind (Ja c i u ρ):=rfl
theorem Jv:Ja c i u ρ (.ref l,S)=(I0 c i l u S S[l]?).bind (HP ρ):=by
 unfold Ja tm I0;dsimp only<;>(generalize S[l]?=q;rcases q with _|o<;>first|rfl|(cases o<;>rfl))
theorem Ju:I0 c i l u S (some (.ins c fus))=some (S.set l (.ins c (fus.set i (some u)))):=by
 unfold I0;dsimp only;rw[if_pos rfl]
def xQ(g:Fn)(l:Nat)(q:List U×Sto):=g (.ref l::q.1) q.2
open Classical in
def uM(c:Cl)(g:Fn)(cr:CA)(ρ:Rho)(l:Nat)(S:Sto):Option O->Option (U×Sto)
 |some (.ins c' _)=>if c'=c then(cr ρ S).bind (xQ g l)else none
 |_=>none
def Ea(c:Cl)(g:Fn)(cr:CA)(ρ:Rho)(p:U×Sto):=vK c g p.1 p.2 (cr ρ)
theorem Fw:fi c g ca cr ρ S=(ca ρ S).bind (Ea c g cr ρ):=rfl
theorem Cg:Ea c g cr ρ (.ref l,S)=uM c g cr ρ l S S[l]?:=by
 unfold Ea vK uM;dsimp only<;>(generalize S[l]?=q;rcases q with _|o<;>first|rfl|(cases o<;>rfl))
theorem Ce:uM c g cr ρ l S (some (.ins c fus))=(cr ρ S).bind (xQ g l):=by
 unfold uM;dsimp only;rw[if_pos rfl]
theorem Cd:xQ g l (us,S)=g (.ref l::us) S:=rfl
def HR(n:Nat):U×Sto->Option (U×Sto)
 |(.non,S)=>some (.ref n,S)
 |_=>none
theorem Bg:tq c g us S=(g (.ref S.length::us) (S++[.ins c (List.replicate c.ns.length none)])).bind (HR S.length):=by
 unfold tq;congr 1;funext p;obtain⟨u,S⟩:=p;cases u<;>rfl
theorem Cj:HR i (.non,S)=some (.ref i,S):=rfl
def kIn(neg:Bool)(x:U)(S:Sto):Option O->Option (U×Sto)
 |some (.lst us)=>if gv x=true/\us.all gv=true then some (.bl (if neg then !inU x us else inU x us),S)else none
 |some (.dic kus)=>(iA x).bind fun k=>some (.bl (if neg then !(cE kus k).isSome else(cE kus k).isSome),S)
 |some (.fdc _ kus)=>(iA x).bind fun k=>some (.bl (if neg then !(cE kus k).isSome else(cE kus k).isSome),S)
 |_=>none
theorem JS{neg:Bool}:fIn neg x (.ref l) S=kIn neg x S S[l]?:=by
 unfold fIn kIn;dsimp only<;>(generalize S[l]?=q;rcases q with _|o<;>first|rfl|(cases o<;>rfl))
theorem JT{neg:Bool}{kus:List (Key×U)}:kIn neg x S (some (.dic kus))=(iA x).bind fun k=>some (.bl (if neg then !(cE kus k).isSome else(cE kus k).isSome),S):=rfl
theorem wg{neg:Bool}(h:gv x=true/\us.all gv=true):kIn neg x S (some (.lst us))=some (.bl (if neg then !inU x us else inU x us),S):=by
 unfold kIn;dsimp only;rw[if_pos h]
theorem JL{j:Int}:iA (.int j)=some (.inl j):=rfl
theorem FC{z:Str}:iA (.str z)=some (.inr z):=rfl
def Lw(f:U->List U->Sto->Option (U×Sto))(x:U)(q:List U×Sto):=f x q.1 q.2
def Lx(f:U->List U->Sto->Option (U×Sto))(cr:CA)(ρ:Rho)(x:U)(S:Sto):Option O->Option (U×Sto)
 |some (.lst _)=>(cr ρ S).bind (Lw f x)
 |_=>none
def kBM(f:U->List U->Sto->Option (U×Sto))(cr:CA)(ρ:Rho):U×Sto->Option (U×Sto)
 |(.ref l,S)=>Lx f cr ρ (.ref l) S S[l]?
 |_=>none
variable{fm:U->List U->Sto->Option (U×Sto)}
theorem MW:cBM fm ca cr ρ S=(ca ρ S).bind (kBM fm cr ρ):=by
 unfold cBM;congr 1;funext p;obtain⟨u,S⟩:=p
 cases u<;>try rfl
theorem Ke:kBM fm cr ρ (.ref l,S)=Lx fm cr ρ (.ref l) S S[l]?:=rfl
theorem Kd:Lx fm cr ρ x S (some (.lst us))=(cr ρ S).bind (Lw fm x):=rfl
theorem Kc:Lw fm x (us,S)=fm x us S:=rfl
def Jc(l:Nat)(u:U)(S:Sto):Option O->Option (U×Sto)
 |some (.lst us)=>if us.length<LIM then some (.non,S.set l (.lst (us++[u])))else none
 |_=>none
theorem Kg:bU (.ref l) [u] S=Jc l u S S[l]?:=by
 unfold bU Jc;dsimp only<;>(generalize S[l]?=q;rcases q with _|o<;>first|rfl|(cases o<;>rfl))
theorem fq(h:us.length<LIM):Jc l u S (some (.lst us))=some (.non,S.set l (.lst (us++[u]))):=by
 unfold Jc;dsimp only;rw[if_pos h]
def Lq(ku xu:U)(S:Sto):Option O->Option (U×Sto)
 |some (.dic kus)=>(iA ku).bind fun k=>some ((cE kus k).getD xu,S)
 |_=>none
def Ls(l:Nat)(ku:U)(r:U×Sto):=Lq ku r.1 r.2 r.2[l]?
def Lu(l:Nat)(cx:CE)(ρ:Rho)(q:U×Sto):=(cx ρ q.2).bind (Ls l q.1)
def Lv(l:Nat)(ck cx:CE)(ρ:Rho)(S:Sto):Option O->Option (U×Sto)
 |some (.dic _)=>(ck ρ S).bind (Lu l cx ρ)
 |_=>none
def kDG(ck cx:CE)(ρ:Rho):U×Sto->Option (U×Sto)
 |(.ref l,S)=>Lv l ck cx ρ S S[l]?
 |_=>none
theorem MV:IC ca cb cc ρ S=(ca ρ S).bind (kDG cb cc ρ):=by
 unfold IC;congr 1;funext p;obtain⟨u,S⟩:=p
 cases u<;>try rfl
theorem J8:kDG cb cc ρ (.ref l,S)=Lv l cb cc ρ S S[l]?:=rfl
theorem J7{kus:List (Key×U)}:Lv l cb cc ρ S (some (.dic kus))=(cb ρ S).bind (Lu l cc ρ):=rfl
theorem J6:Lu l cc ρ (u,S)=(cc ρ S).bind (Ls l u):=rfl
theorem J5:Ls l u (x,S)=Lq u x S S[l]?:=rfl
theorem J4{kus:List (Key×U)}:Lq u x S (some (.dic kus))=(iA u).bind fun k=>some ((cE kus k).getD x,S):=rfl
theorem FN:A6 ρ S=some (.ref S.length,S++[.dic []]):=rfl
def kP3(k:Key)(u:U)(z:List (Key×U)×Sto):Option (List (Key×U)×Sto):=some ((k,u)::z.1,z.2)
def kP2(r:List (CE×CE))(ρ:Rho)(x:U)(q:U×Sto):=(iA x).bind fun k=>(gh r ρ q.2).bind (kP3 k q.1)
def kP1(cv:CE)(r:List (CE×CE))(ρ:Rho)(p:U×Sto):=(cv ρ p.2).bind (kP2 r ρ p.1)
variable{pr:List (CE×CE)}
theorem MJ:gh [] ρ S=some ([],S):=rfl
theorem x_p:gh ((ca,cb)::pr) ρ S=(ca ρ S).bind (kP1 cb pr ρ):=rfl
theorem MI:kP1 cb pr ρ (u,S)=(cb ρ S).bind (kP2 pr ρ u):=rfl
theorem MH:kP2 pr ρ x (u,S)=(iA x).bind fun k=>(gh pr ρ S).bind (kP3 k u):=rfl
theorem MG{k:Key}{z:List (Key×U)}:kP3 k u (z,S)=some ((k,u)::z,S):=rfl
def kD1(n:Nat)(kus:List (Key×U))(S:Sto):Option O->Option (U×Sto)
 |some (.dic [])=>some (.ref n,S.set n (.dic (oO kus)))
 |_=>none
def kD(n:Nat)(q:List (Key×U)×Sto):=kD1 n q.1 q.2 q.2[n]?
theorem FO:tR pr ρ S=(gh pr ρ (S++[.dic []])).bind (kD S.length):=by
 unfold tR;congr 1
theorem Cy{z:List (Key×U)}:kD i (z,S)=kD1 i z S S[i]?:=rfl
theorem Cw{z:List (Key×U)}:kD1 i z S (some (.dic []))=some (.ref i,S.set i (.dic (oO z))):=rfl
theorem E9:gC [.tup us] S=some (.tup us,S):=rfl
def Lj(S:Sto):Option O->Option (U×Sto)
 |some (.lst us)=>some (.tup us,S)
 |_=>none
theorem Fb:gC [.ref l] S=Lj S S[l]?:=by
 unfold gC Lj;dsimp only<;>(generalize S[l]?=q;rcases q with _|o<;>first|rfl|(cases o<;>rfl))
theorem Fc:Lj S (some (.lst us))=some (.tup us,S):=rfl
theorem Ck:jM [.tup us] S=some (.ref S.length,S++[.lst us]):=rfl
def kLs(S:Sto):Option O->Option (U×Sto)
 |some (.lst us)=>some (.ref S.length,S++[.lst us])
 |_=>none
theorem Cn:jM [.ref l] S=kLs S S[l]?:=by
 unfold jM kLs;dsimp only<;>(generalize S[l]?=q;rcases q with _|o<;>first|rfl|(cases o<;>rfl))
theorem Co:kLs S (some (.lst us))=some (.ref S.length,S++[.lst us]):=rfl
theorem FF:y6 [.bl b] S=some (.int (if b then 1 else 0),S):=rfl
theorem ga{X:Sto}{n:Nat}:(S++X)[S.length+n]?=X[n]?:=by rw[List.getElem?_append_right (Nat.le_add_right _ _),Nat.add_sub_cancel_left]
theorem ga0{X:Sto}:(S++X)[S.length]?=X[0]?:=ga (n:=0)
theorem gs{X:Sto}{n:Nat}{o:O}:(S++X).set (S.length+n) o=S++X.set n o:=by rw[List.set_append_right _ _ (Nat.le_add_right _ _),Nat.add_sub_cancel_left]
theorem gs0{X:Sto}{o:O}:(S++X).set S.length o=S++X.set 0 o:=gs (n:=0)
section
variable{ok:Sto->Prop}{gg:CG}{cbd:CS}{ρ0 ρ1:Rho}{S0 S1:Sto}
theorem d9(h:ok S):cP ok gg cbd [] ρ S=some (.nx,ρ,S):=by unfold cP;rw[if_pos h]
theorem bF(h:ok S)(hg:gg u ρ S=some (ρ0,S0))(hb:cbd ρ0 S0=some (.nx,ρ1,S1)):cP ok gg cbd (u::us) ρ S=cP ok gg cbd us ρ1 S1:=by
 rw[cP];dsimp only;rw[if_pos h,hg,Option.bind_some];dsimp only;rw[hb,Option.bind_some]
theorem sO(h:ok S)(hg:gg u ρ S=some (ρ0,S0))(hb:cbd ρ0 S0=some (.rt x,ρ1,S1)):cP ok gg cbd (u::us) ρ S=some (.rt x,ρ1,S1):=by
 rw[cP];dsimp only;rw[if_pos h,hg,Option.bind_some];dsimp only;rw[hb,Option.bind_some]
theorem mh{n:Nat}(ht:t ρ S=some (true,S0))(hb:cbd ρ S0=some (.nx,ρ1,S1)):cH t cbd (n+1) ρ S=cH t cbd n ρ1 S1:=by
 rw[cH];dsimp only;rw[ht,Option.bind_some];dsimp only;rw[if_pos rfl,hb,Option.bind_some]
theorem zw{n:Nat}(ht:t ρ S=some (true,S0))(hb:cbd ρ S0=some (.rt x,ρ1,S1)):cH t cbd (n+1) ρ S=some (.rt x,ρ1,S1):=by
 rw[cH];dsimp only;rw[ht,Option.bind_some];dsimp only;rw[if_pos rfl,hb,Option.bind_some]
theorem iD{n:Nat}(ht:t ρ S=some (false,S0)):cH t cbd (n+1) ρ S=some (.nx,ρ,S0):=by
 rw[cH];dsimp only;rw[ht,Option.bind_some];dsimp only;rw[if_neg (by decide)]
theorem yC{ce:CE}{ys:List U}(h:ok S)(hg:gg u ρ S=some (ρ0,S0))(he:ce ρ0 S0=some (x,S1))(hl:S1[l]?=some (.lst ys))(hn:ys.length<LIM):md ok gg ce l (u::us) ρ S=md ok gg ce l us ρ0 (S1.set l (.lst (ys++[x]))):=by
 rw[md,if_pos h,hg,Option.bind_some];dsimp only;rw[he,Option.bind_some];dsimp only;rw[hl];dsimp only;rw[if_pos hn]
theorem A0{ce:CE}(h:ok S):md ok gg ce l [] ρ S=some S:=by rw[md,if_pos h]
end
end
theorem D5{K:PySem.W.Frag}{H:Hp}{p xs:Addr}{c:CS}{r:Rho}{σ:L2.St}{v0:Option V}{Q:VK}{nx bk ct:L2.St->Hp->Prop}(P:Mx H p xs)
  (ok:∀(ns:List Int) (a b:Int),0<=a->0<=b->∃ρ' S',c (none::some (.ref 1)::r) [.lst (ns.map U.int),.lst [.ref 0,.int a,.int b]]=some (.rt (.bl true),ρ',S')) (q:∀H',Q (.bl true) H')
  (hr:r=List.replicate r.length none:=by rfl) (hl:σ.length=r.length:=by rfl):tS K c { nx:=nx,rt:=Q,bk:=bk,ct:=ct } (v0::some (.ref p)::σ) H:=by
 obtain⟨ns,a,b,h1,h2,h3,h4,h5⟩:=P
 obtain⟨ρ',S',e⟩:=ok ns a b h4 h5
 refine⟨[xs,p],_,_,_,ρ',S',⟨rfl,by simp[h3],fun l ad o e1 e2=>?_⟩,⟨by simp[hl],fun i u e1=>?_⟩,e,fun m' v H' _ _ iv=>by rw[iv.of_bl];exact q H'⟩
 ·match l,e1,e2 with
  |0,e1,e2=>
   simp at e1 e2
   subst e1;subst e2
   exact⟨_,h2,jb ns⟩
  |1,e1,e2=>
   simp at e1 e2
   subst e1;subst e2
   exact⟨_,h1,.cons_ (.ref_ rfl) (.cons_ .int_ (.cons_ .int_ .nil_))⟩
  |l+2,e1,e2=>simp at e1
 ·match i,e1 with
  |0,e1=>simp at e1
  |1,e1=>
   simp at e1
   subst e1
   exact⟨.ref p,rfl,.ref_ rfl⟩
  |i+2,e1=>
   simp at e1
   rw[hr,List.getElem?_replicate]at e1
   split at e1<;>cases e1
theorem EY{p:List Value->Prop}(h:p [])(us:List Value)(e:us.length=0):p us:=by rw[List.length_eq_zero_iff.mp e];exact h
theorem LN{n:Nat}{p:List Value->Prop}(h:∀a us,us.length=n->p (a::us))(us:List Value)(e:us.length=n+1):p us:=by
 cases us with
 |nil=>cases e
 |cons a us=>exact h a us (Nat.succ.inj e)
def LW(H:Hp)(a:Addr)(ep:Nat)(ks:List Key):Prop:=∃ob es kvs,H a=some (.frz ob (.dK kvs))/\ob.data=.dict es ep/\kvs.map (·.1)=ks
def Itd(a:Addr)(ep:Nat)(ks:List Key):It:=
 ⟨fun i H=>i<ks.length/\LW H a ep ks,fun i H x H'=>H'=H/\∃k,ks[i]?=some k/\x=kV k,fun i H=>ks.length<=i/\LW H a ep ks⟩
theorem BH{P:Program}{w:World}{H:Hp}{h:Heap}{a:Addr}{ob:Obj}{kvs:List (Key×V)}{es:Array DictEntry}{ep:Nat}(ok:HOk P w H h)(e:H a=some (.frz ob (.dK kvs)))(d:ob.data=.dict es ep):∃vs,KV kvs vs/\h.DictAt (dc P w) a vs ep:=by
 obtain⟨e1,_,_,vs,r,o,es',ep',e2,e3,e4,rest⟩:=(show cM P w H h a (.frz ob (.dK kvs))from ok a _ e)
 rw[e1]at e2;cases e2
 rw[d]at e4;cases e4
 exact⟨vs,r,ob,es,e1,e3,d,rest⟩
theorem BA{κ:Type}:∀{kvs:List (κ×V)} {vs:List (κ×Value)} {i:Nat} {k:κ} {v:V},KV kvs vs->kvs[i]?=some (k,v)->∃u,vs[i]?=some (k,u)
 |_,_,i,k,v,.nil,h=>by simp at h
 |_,_,0,k,v,.cons (b:=(k',u)) r t,h=>by
  simp at h;subst h
  have:k=k':=r.1
  subst this
  exact⟨u,by simp⟩
 |_,_,i+1,k,v,.cons r t,h=>by
  obtain⟨u,e⟩:=BA (i:=i) t (by simpa using h)
  exact⟨u,by simpa using e⟩
theorem D7{k:Key}{u:Value}(h:sR k u=true):dB (kV k) u:=by
 rcases b5 h with⟨i,t,rfl,rfl⟩|⟨i,t,rfl,rfl⟩
 ·exact⟨t,rfl⟩
 ·exact⟨t,rfl⟩
theorem wG{P:Program}{w:World}{K:PySem.W.Frag}{tg:Expr}(a it:Addr){ks:List Key}{ep:Nat} :
  EM P w K tg (Itd a ep ks) [it] it (fun n h=>h.IsKeyIter it a n ks.length ep) where
 mem:=by simp
 obj:=fun n h st c hc=>by
  simp only[List.mem_cons,List.not_mem_nil,or_false]at hc
  subst hc
  obtain⟨o,e,_,q⟩:=st
  exact⟨o,e,fun v z=>by rw[q]at z;cases z⟩
 keep:=fun n h h' st kp=>Heap.IsKeyIter.at st fun o q=>kp it (by simp) o q
 item:=by
  intro X hP hw hK hc n pins s σ H E Iv hf st hg
  subst hP hw hK
  obtain⟨hi,ob,es,kvs,hq,d,ek⟩:=hg
  obtain⟨vs,rv,da⟩:=BH Iv.hok hq d
  have hl:ks.length=vs.length:=by rw[<-ek,List.length_map];exact Paired.length rv
  have hi':n<kvs.length:=by rw[<-ek,List.length_map]at hi;exact hi
  have hx:kvs[n]?=some ((kvs[n]).1,(kvs[n]).2):=List.getElem?_eq_getElem hi'
  obtain⟨u,hu⟩:=BA rv hx
  obtain⟨f0,f1,f2,f3⟩:=hf it (by simp)
  have st':s.heap.IsKeyIter it a n vs.length ep:=by rw[<-hl];exact st
  refine wpAny_pyNext_dict_item st' da hu fun key h1 hk st1 sb=>⟨key,rfl,?_⟩
  have I1:Inv X pins σ H { s with heap:=h1 }:=Iv.turned (t':=s.toks) (fun b o hb e=>(sb.2 b hb).trans e) f0 f1 f3.1 f3.2.1 f3.2.2
  have st2:h1.IsKeyIter it a (n+1) ks.length ep:=by rw[hl];exact st1
  obtain⟨o,e,c,q⟩:=id st2
  exact yc (s:={ s with heap:=h1 }) e c q (by decide) ⟨kV (kvs[n]).1,H,I1,D7 hk,⟨rfl,_,by rw[<-ek,List.getElem?_map,hx];rfl,rfl⟩,st2,fun b hb=>(hf b hb).1⟩
 done:=by
  intro X hP hw hK hc n pins s σ H E Iv hf st hg
  subst hP hw hK
  obtain⟨hi,ob,es,kvs,hq,d,ek⟩:=hg
  obtain⟨vs,rv,da⟩:=BH Iv.hok hq d
  have hl:ks.length=vs.length:=by rw[<-ek,List.length_map];exact Paired.length rv
  obtain⟨f0,f1,f2,f3⟩:=hf it (by simp)
  have st':s.heap.IsKeyIter it a n vs.length ep:=by rw[<-hl];exact st
  exact wpAny_pyNext_dict_end (Iv.ok.hd hc) st' da (by rw[List.getElem?_eq_none_iff];omega) fun h1 eb=>⟨rfl,Iv.turned (t':=s.toks) (fun b o hb e=>eb b o hb e) f0 f1 f3.1 f3.2.1 f3.2.2⟩
 self:=fun _ _ _ _ _ st h=>wpAny_pyIter_keyiter st h
theorem my{X:Cx}{pins:List (Addr×Obj)}{σ:L2.St}{H:Hp}{s:Shared}{a:Addr}{o u:HO}(I:Inv X pins σ H s)(e:H a=some o)(nt:∀xs,o≠.tup xs)(no:∀x,o≠.own x)(nb:∀ps,o≠.tbl ps)
  (nf:∀ob u,X.H₀ a≠some (.frz ob u)) (new:cM X.prog X.w (upd H a u) s.heap a u):Inv X pins σ (upd H a u) s:=by
 have nn:∀b,H b=none->upd H a u b=none:=fun b q=>by rw[bP (Ne.symm (cV e q))];exact q
 have ho:∀b x,H b=some (.own x)->upd H a u b=some (.own x):=fun b x q=>by
  rw[bP];exact q
  intro z;subst z;rw[e]at q;cases q;exact no _ rfl
 have ht:∀b xs,H b=some (.tup xs)->upd H a u b=some (.tup xs):=fun b x q=>by
  rw[bP];exact q
  intro z;subst z;rw[e]at q;cases q;exact nt _ rfl
 refine⟨I.ok,I.os,I.bare,⟨I.base.keep,I.base.slot,fun b ob q1 q2 q3=>nn _ (I.base.free b ob q1 q2 q3),I.base.there,fun b xs q=>ht _ _ (I.base.tups b xs q),fun b ob v q=>?_,fun b ps q=>?_⟩,I.loc,I.cell,nn _ I.free,fun x c q=>nn _ (I.freeC x c q),fun p hp=>?_,fun b v q=>?_,I.len⟩
 ·rw[bP];exact I.base.frzs b ob v q
  intro z;subst z;exact nf _ _ q
 ·obtain⟨more,q'⟩:=I.base.tbls b ps q
  refine⟨more,?_⟩
  rw[bP];exact q'
  intro z;subst z;rw[e]at q';cases q';exact nb _ rfl
 ·obtain⟨p1,p2,p3⟩:=I.pin p hp
  exact⟨p1,nn _ p2,p3⟩
 ·by_cases hb:b=a
  ·subst hb;rw[aS]at q;cases q;exact new
  ·rw[bP hb]at q
   exact(I.hok b v q).stay (fun _ _ _ g=>g) (fun c g=>ho c b g) fun c xs g=>ht c xs g
def rW(X:Cx)(a:Addr):Prop:=∀ob u,X.H₀ a≠some (.frz ob u)
def Il(X:Cx)(tl:TE):TI:=fun σ H R=>tl σ H fun x H1=>∃a kvs,x=.ref a/\H1 a=some (.dK kvs)/\∀ob es ep,rW X a->ob.data=.dict es ep->R (Itd a ep (kvs.map (·.1))) (upd H1 a (.frz ob (.dK kvs)))
theorem C0{X:Cx}{tg l:Expr}{tl:TE}(hl:WE X l tl):WI X tg l (Il X tl):=by
 constructor
 intro pins s σ H R I h
 refine thn (hl.h pins s σ H _ I h) fun v s1 hz=>?_
 obtain⟨x,H1,I1,r1,q1⟩:=hz
 obtain⟨a,kvs,rfl,hq,q⟩:=q1
 cases r1
 obtain⟨hz,hs,vs,rv,ob,es,ep,e1,e2,e3,rest⟩:=AX I1.hok hq
 have da:s1.heap.DictAt (dc X.prog X.w) a vs ep:=⟨ob,es,e1,e2,e3,rest⟩
 have hl:kvs.length=vs.length:=Paired.length rv
 have nf:rW X a:=fun ob' u' z=>by have:=I1.base.frzs a ob' u' z;rw[hq]at this;cases this
 have I2:Inv X pins σ (upd H1 a (.frz ob (.dK kvs))) s1:=my I1 hq (by simp) (by simp) (by simp) nf ⟨e1,hz,hs,vs,rv,ob,es,ep,e1,e2,e3,rest⟩
 refine wpAny_pyIter_dict hs da ?_
 refine⟨s1.heap.objs.size,[s1.heap.objs.size],_,_,_,rfl,I2.kept (t':=s1.toks) fun b o g=>Heap.get?_push_of_some _ g,wG a _,⟨_,Heap.get?_push_size _ rfl,rfl,by rw[List.length_map,hl];rfl⟩,fun b hb=>?_,q ob es ep nf e3⟩
 simp only[List.mem_cons,List.not_mem_nil,or_false]at hb
 subst hb
 exact I2.fpOk (Nat.le_refl _) (I2.hok.fresh (Nat.le_refl _))
def IL(X:Cx)(D:v8):v8 where
 nx:=fun σ H=>∃a ob kvs,rW X a/\H a=some (.frz ob (.dK kvs))/\D.nx σ (upd H a (.dK kvs))
 rt:=fun v H=>∃a ob kvs,rW X a/\H a=some (.frz ob (.dK kvs))/\D.rt v (upd H a (.dK kvs))
 bk:=fun σ H=>∃a ob kvs,rW X a/\H a=some (.frz ob (.dK kvs))/\D.bk σ (upd H a (.dK kvs))
 ct:=fun σ H=>∃a ob kvs,rW X a/\H a=some (.frz ob (.dK kvs))/\D.ct σ (upd H a (.dK kvs))
theorem mx{X:Cx}{pins:List (Addr×Obj)}{σ:L2.St}{H:Hp}{s:Shared}{a:Addr}{ob:Obj}{kvs:List (Key×V)}(I:Inv X pins σ H s)(nf:rW X a)(e:H a=some (.frz ob (.dK kvs))):Inv X pins σ (upd H a (.dK kvs)) s:=
 my I e (by simp) (by simp) (by simp) nf (show cM X.prog X.w H s.heap a (.frz ob (.dK kvs))from I.hok a _ e).2
theorem CD{X:Cx}{st:Stmt}{t:TS}(h:WS X st t):WS X st (fun D σ H=>t (IL X D) σ H):=by
 constructor
 intro pins s σ H D I k
 refine thn (h.h pins s σ H _ I k) fun f s1 q=>?_
 cases f with
 |next=>obtain⟨σ1,H1,I1,a,ob,kvs,nf,e,r⟩:=q;exact⟨σ1,_,mx I1 nf e,r⟩
 |brk=>obtain⟨σ1,H1,I1,a,ob,kvs,nf,e,r⟩:=q;exact⟨σ1,_,mx I1 nf e,r⟩
 |cont=>obtain⟨σ1,H1,I1,a,ob,kvs,nf,e,r⟩:=q;exact⟨σ1,_,mx I1 nf e,r⟩
 |ret u=>obtain⟨v,σ1,H1,I1,rv,a,ob,kvs,nf,e,r⟩:=q;exact⟨v,σ1,_,mx I1 nf e,rv,r⟩
def kU:Key->U
 |.inl i=>.int i
 |.inr x=>.str x
theorem Ib{K:PySem.W.Frag}{m:List Addr}{H:Hp}(k:Key):Is K m H (kV k) (kU k):=by
 cases k with
 |inl i=>exact .int_
 |inr x=>exact .str_
open Classical in
def uni{α:Type}(F:Nat->Option α):Option α:=if h:∃r,∀n,F n=some r then some h.choose else none
theorem ui{α:Type}{F:Nat->Option α}{r:α}(h:∀n,F n=some r):uni F=some r:=by
 have hx:∃r,∀n,F n=some r:=⟨r,h⟩
 unfold uni
 rw[dif_pos hx]
 have:=hx.choose_spec 0
 rw[h 0]at this
 exact this.symm
theorem mi{α:Type}{F:Nat->Option α}{r:α}(h:uni F=some r)(n:Nat):F n=some r:=by
 unfold uni at h
 split at h
 ·rename_i hx
  cases h
  exact hx.choose_spec n
 ·cases h
def tQ(ce:CE)(g:CG)(cb:CS):CS:=fun ρ S=>(ce ρ S).bind fun p=>match p.1 with
 |.ref l=>match p.2[l]? with
  |some (.dic kus)=>uni fun ep=>(cP (fun S'=>S'[l]?=some (.fdc ep kus)) g cb (kus.map fun q=>kU q.1) ρ (p.2.set l (.fdc ep kus))).bind fun r=>match r.2.2[l]? with
   |some (.fdc _ kus')=>some (r.1,r.2.1,r.2.2.set l (.dic kus'))
   |_=>none
  |_=>none
 |_=>none
theorem Eh{K:PySem.W.Frag}{m:List Addr}{H:Hp}{a:Addr}{l ep:Nat}{kus:List (Key×U)}(ha:m[l]?=some a):y9 K (Itd a ep (kus.map (·.1))) m H (kus.map fun q=>kU q.1) (fun S'=>S'[l]?=some (.fdc ep kus)):=by
 intro m2 S2 H2 i e sr hok
 obtain⟨a',ha',ob,es,kvs,hx,hd,ip⟩:=sr.get hok
 have ha2:=e.get ha
 rw[ha2]at ha';cases ha'
 have hz:LW H2 a ep (kus.map (·.1)):=⟨ob,es,kvs,hx,hd,ip.1⟩
 refine⟨fun u hu=>?_,fun hu=>⟨by simpa using hu,hz⟩⟩
 have hi:i<kus.length:=by have:=(List.getElem?_eq_some_iff.mp hu).1;simpa using this
 refine⟨⟨by simpa using hi,hz⟩,?_⟩
 rintro x H3 ⟨rfl,k,hk,rfl⟩
 refine⟨.refl,sr,?_⟩
 rw[List.getElem?_map]at hk hu
 rw[List.getElem?_eq_getElem hi]at hk hu
 cases hk;cases hu
 exact Ib _
theorem AK{X:Cx}{ce:CE}{g:CG}{cb:CS}:∀D σ H,tS X.K (tQ ce g cb) D σ H->F7 (Il X (tE X.K ce)) (tG X.K g) (tS X.K cb) (IL X D) σ H:=by
 rintro D σ H ⟨m,ρ,S,o,ρ',S',sr,lr,hc,post⟩
 obtain⟨⟨x,S1⟩,h1,h⟩:=Option.bind_eq_some_iff.mp hc
 refine⟨m,ρ,S,x,S1,sr,lr,h1,fun m1 v1 H1 e1 sr1 i1=>?_⟩
 cases x with
 |ref l=>
  simp only at h
  split at h<;>try cases h
  rename_i kus hS
  obtain⟨a,ha,rfl⟩:=i1.of_ref
  obtain⟨a',ha',kvs,hx,ip⟩:=sr1.get hS
  rw[ha]at ha';cases ha'
  refine⟨a,kvs,rfl,hx,fun ob es ep nf hd=>?_⟩
  obtain⟨⟨o1,ρ1,S2⟩,h2,h3⟩:=Option.bind_eq_some_iff.mp (mi h ep)
  simp only at h3
  split at h3<;>try cases h3
  rename_i ep' kus' hS2
  have kp:Be X.K H1 (upd H1 a (.frz ob (.dK kvs))):=sr1.keep ha _
  have ee:Ext X.K m1 H1 m1 (upd H1 a (.frz ob (.dK kvs))):=.of kp
  have sr2:Sr X.K m1 (S1.set l (.fdc ep kus)) (upd H1 a (.frz ob (.dK kvs))):=sr1.put ha ⟨ob,es,kvs,aS,hd,ip.mono ee⟩
  rw[ip.1]
  refine pO sr2 (lr.mono (e1.trans ee)) (Eh ha) h2 ?_
  have back:∀m3 H3,Ext X.K m1 (upd H1 a (.frz ob (.dK kvs))) m3 H3->Sr X.K m3 S2 H3->∃ob' kvs',H3 a=some (.frz ob' (.dK kvs'))/\Ext X.K m3 H3 m3 (upd H3 a (.dK kvs'))/\Sr X.K m3 (S2.set l (.dic kus')) (upd H3 a (.dK kvs')):=fun m3 H3 e3 sr3=>by
   obtain⟨a3,ha3,ob3,es3,kvs3,hx3,hd3,ip3⟩:=sr3.get hS2
   rw[e3.get ha]at ha3;cases ha3
   have e4:Ext X.K m3 H3 m3 (upd H3 a (.dK kvs3)):=.of (sr3.keep (e3.get ha) _)
   exact⟨ob3,kvs3,hx3,e4,sr3.put (e3.get ha) ⟨kvs3,aS,ip3.mono e4⟩⟩
  have nxt:∀(R:L2.St->Hp->Prop),gH X.K m H R ρ' (S2.set l (.dic kus'))->gH X.K m1 (upd H1 a (.frz ob (.dK kvs))) (fun σ H=>∃a ob kvs,rW X a/\H a=some (.frz ob (.dK kvs))/\R σ (upd H a (.dK kvs))) ρ' S2:=fun R p m3 σ3 H3 e3 sr3 lr3=>by
   obtain⟨ob3,kvs3,hx3,e4,sr4⟩:=back m3 H3 e3 sr3
   exact⟨a,ob3,kvs3,nf,hx3,p m3 σ3 _ (((e1.trans ee).trans e3).trans e4) sr4 (lr3.mono e4)⟩
  cases o with
  |nx=>exact nxt _ post
  |bk=>exact nxt _ post
  |ct=>exact nxt _ post
  | rt v=>
    intro m3 v3 H3 e3 sr3 i3
    obtain⟨ob3,kvs3,hx3,e4,sr4⟩:=back m3 H3 e3 sr3
    exact⟨a,ob3,kvs3,nf,hx3,post m3 v3 _ (((e1.trans ee).trans e3).trans e4) sr4 (i3.mono e4)⟩
 |_=>cases h
theorem Dk{X:Cx}{tg iter:Expr}{body:List Stmt}{ce:CE}{g:CG}{cb:CS}{pos:Pos}(hp:PassesOwn (model X.prog X.w) X.A X.env X.xe)(hc:X.calm=true)(hi:QE X iter ce)(hg:QG X tg g)(hb:QSs X body cb)(hs:∀x,foldedSetIterable iter X.env x=pure x:=by intro _;rfl):QS X (.For tg iter body [] pos) (tQ ce g cb):=
 (CD (sh hp hc (C0 hi) hg hb hs)).imp AK
end OP
namespace OG
open PySem PySem.Spec PyProof.Rows L2
def pz(wi:TI)(g:TG)(tt:TT)(te:TE)(n:Nat)(caps:List Nat):TE:=fun σ H Q=>wi σ H fun J H1=>∀l,H1 l=none->∃W:Nat->Nat->L2.St->Hp->Prop,(∃m,W 0 m (stC n caps σ) (upd H1 l (.lst [])))/\
 ∀i m σ' H2,W i m σ' H2->(J.stop i H2/\Q (.ref l) H2)\/(J.go i H2/\∃N:L2.St->Hp->Prop,(∀σ'' H',N σ'' H'->∃m',m'<m/\W (i+1) m' σ'' H')/\
  ∀x H3,J.yld i H2 x H3->g x σ' H3 fun σ2 H4=>tt σ2 H4 fun b H5=>match b with
   |true=>te σ2 H5 fun v H6=>∃ys,H6 l=some (.lst ys)/\ys.length<sizeLine/\N σ2 (upd H6 l (.lst (ys++[v])))
   |false=>N σ2 H5)
theorem ox{prog:Program}{w:World}{A:Around}{R:Result->Shared->Prop}{s:Shared}{elt target iter c:Expr}{scope:Scope}{pos:Pos}{it acc:Value}{env:Env}(I:Nat->Shared->Prop)
  (turn:∀n s,I n s->wpAny (model prog w) A (pyNext it) (fun r s₁=>match r with
   |none=>R (.ok .next) s₁
   |some v=>wpAny (model prog w) A (letOwnedTupleGo target it v) (fun _ s₁'=>wpAny (model prog w) A (assign target env v) (fun _ s₂=>wpAny (model prog w) A (PySem.isTrue c env (eval c env)) (fun b s₂'=>match b with
    |true=>wpAny (model prog w) A (eval elt env) (fun x s₃=>
     wpAny (model prog w) A (call (.builtin "list.append") [acc,x]) (fun _ s₄=>∃m,m<n/\I m s₄) (fun _ _=>False) s₃)
     (fun _ _=>False) s₂'
    |false=>∃m,m<n/\I m s₂') (fun _ _=>False) s₂) (fun _ _=>False) s₁') (fun _ _=>False) s₁) (fun _ _=>False) s)
  (n:Nat) (h:I n s) :
  codeAny (model prog w) A (.compLoop (.ListComp elt [⟨target,iter,[c],0⟩] scope pos) 0 it acc env) R s:=by
 refine codeAny_loop rfl I (fun n s hI=>?_) n h
 show wpAny _ _ ((compTurn (.ListComp elt [⟨target,iter,[c],0⟩] scope pos) 0 it acc env).onRaise (fun x=>do noteFrame x env;theTreesLotGoes x)) _ _ s
 refine wpAny_noted ?_
 rw[compTurn_list]
 refine wpAny_bind (wpAny_standAt (wpAny_bind (wpAny_mono (turn n s hI) (fun r s₁ h₁=>?_) fun _ _ h'=>h'.elim)))
 cases r with
 |none=>exact wpAny_pure h₁
 |some v=>
  refine wpAny_bind (wpAny_mono h₁ (fun _ s₁' h₁'=>?_) fun _ _ h'=>h'.elim)
  refine wpAny_bind (wpAny_mono h₁' (fun _ s₂ h₂=>?_) fun _ _ h'=>h'.elim)
  dsimp only
  simp only[List.forIn_cons,List.forIn_nil,if_true,bind_assoc,pure_bind]
  refine wpAny_bind (wpAny_mono h₂ (fun b s₂' h₂'=>?_) fun _ _ h'=>h'.elim)
  cases b with
  |true=>
   rw[if_pos rfl]
   exact wpAny_bind (wpAny_mono h₂' (fun x s₃ h₃=>wpAny_bind (wpAny_mono h₃
    (fun _ s₄ h₄=>wpAny_pure ⟨rfl,h₄⟩) fun _ _ h'=>h'.elim)) fun _ _ h'=>h'.elim)
  |false=>
   rw[if_neg Bool.false_ne_true]
   exact wpAny_pure ⟨rfl,h₂'⟩
theorem oW{X:Cx}{Nc capN tn:List Str}{scope:Scope}{cl:List (Str×Addr)}{n:Nat}{caps:List Nat}{tg iter elt:Expr}{pos:Pos}{wi:TI}{g:TG}{te:TE}{tt:TT}{c:Expr}
  (hc:X.calm=true) (hi:WI X tg iter wi) (hg:∀s3 H3 fp,WG (cxC X Nc scope cl s3 H3 fp) tg g) (he:∀s3 H3 fp,WE (cxC X Nc scope cl s3 H3 fp) elt te)
  (ht:∀s3 H3 fp,WT (cxC X Nc scope cl s3 H3 fp) c tt)
  (hclos:closureFor scope X.env=pure cl) (hkind:scope.kind=.function) (hnl:∀x∈scope.names,x.2=.local->scope.names.lookup x.1=some .local) (hcell:∀x∈scope.names,x.2≠.cell)
  (hcl:vX X.env cl) (hhas:((relabel scope X.env).names.all fun p=>!(p.2 == .cell||p.2 == .free)||(cl.lookup p.1).isSome)=true)
  (hcap:Paired (Cap X scope cl) caps capN) (hN:Nc=tn++capN) (hn:tn.length=n)
  {use:Option (Value->Sem Unit)} {pins:List (Addr×Obj)} {σ:L2.St} {H:Hp} {s:Shared} {Q:VK} {Qf:Value->Shared->Prop} (I:Inv X pins σ H s) (h:pz wi g tt te n caps σ H Q)
  (hend:∀(D C:Addr) (s6:Shared) (H5:Hp) (m:Str->Option Value),Inv X pins σ H5 s6->s6.heap.Ns C m->H5 C=none->C≠X.env.locals->X.s₀.heap.objs.size<=C->(∀x c,X.env.cells.lookup x=some c->c≠C)->(∀p∈X.pn++pins,p.1≠C)->Q (.ref D) H5->compPost (model X.prog X.w) X.A X.xe use Qf (.ref D) C (.ok .next) s6)
  (hs:∀x,foldedSetIterable iter X.env x=pure x) :
  wpAny (model X.prog X.w) X.A (comprehension (.ListComp elt [⟨tg,iter,[c],0⟩] scope pos) scope X.env (firstIterPos [⟨tg,iter,[c],0⟩] pos) (newList []) (firstAsync [⟨tg,iter,[c],0⟩]) (firstIter [⟨tg,iter,[c],0⟩] X.env) use) Qf X.xe s:=by
 refine wpAny_comprehension_free (use:=use) (g:=⟨tg,iter,[c],0⟩) (gs:=[]) rfl hs hclos hkind hnl (thn (hi.h pins s σ H _ I h) fun v s1 h1=>thn h1 fun itv s2 h2=>?_)
 obtain⟨it,fp,tnn,J,H2,rfl,I2,T,st2,f2,hW⟩:=h2
 have hD:=I2.fresh
 obtain⟨W,⟨m0,w0⟩,turn⟩:=hW _ hD
 refine wpAny_newObj_type (wpAny_newFunctionEnv hcell (by intro y hy;simp at hy) (fun h₁ hns₁ hsb₁=>?_) hkind)
 dsimp only at hns₁ hsb₁ ⊢
 have I3:Inv X pins σ (upd H2 s2.heap.objs.size (.lst [])) { s2 with heap:=s2.heap.push { cls:=.type "list",dict:=none,data:=.seq ([]:List Value).toArray },toks:=s2.toks }:=I2.lnew (its:=[]) .nil (Nat.zero_le _)
 generalize hs3:({ s2 with heap:=s2.heap.push { cls:=.type "list",dict:=none,data:=.seq ([]:List Value).toArray },toks:=s2.toks }:Shared)=s3 at I3
 have es3:s3.heap=s2.heap.push { cls:=.type "list",dict:=none,data:=.seq ([]:List Value).toArray }:=by rw[<-hs3]
 generalize hDD:s2.heap.objs.size=D at *
 have kept:∀b o,s3.heap.get? b=some o->h₁.get? b=some o:=fun b o e=>by
  have lt:=Heap.lt_size e
  rw[es3]at lt e
  exact hsb₁.extBut b o (Nat.ne_of_lt lt) (Heap.get?_push_of_some _ e)
 have old:∀b o,s2.heap.get? b=some o->s3.heap.get? b=some o:=fun b o e=>by rw[es3];exact Heap.get?_push_of_some _ e
 have ltD:∀b∈fp,b<D:=fun b hb=>by
  obtain⟨o,e,_⟩:=T.obj 0 _ st2 b hb
  rw[<-hDD];exact Heap.lt_size e
 have fo:∀b∈fp,b<s3.heap.objs.size:=fun b hb=>by
  obtain⟨o,e,_⟩:=T.obj 0 _ st2 b hb
  exact Heap.lt_size (old _ _ e)
 have f3:∀b∈fp,vZ X pins (upd H2 D (.lst [])) b:=fun b hb=>by
  refine⟨?_,(f2 b hb).2⟩
  rw[bP (Nat.ne_of_lt (ltD b hb))]
  exact(f2 b hb).1
 rw[<-es3]at hns₁ hsb₁ ⊢
 have Ic:=fun t'=>Inv.comp (h1:=h₁) (t':=t') (Nc:=Nc) (n:=n) I3 hc f3 fo hkind hcl hhas hcap tn hN hn hns₁ kept
 have stat:∀{H':Hp},(∀b∈fp,H' b=none)->∀b∈fp,vZ (cxC X Nc scope cl s3 (upd H2 D (.lst [])) fp) [] H' b:=fun hn' b hb=>by
  refine⟨hn' b hb,Nat.ne_of_lt (fo b hb),fun z=>?_,.inl hb,fun x c e=>(f2 b hb).2.2.2.2.1 x c (hcl.look e),fun p hp=>(by simp at hp)⟩
  rcases List.mem_cons.mp (I3.stkSub b z)with q|q
  ·exact(f2 b hb).2.1 q
  ·exact(f2 b hb).2.2.1 q
 have loop:∀s4:Shared,(∃t',s4={ s3 with heap:=h₁,toks:=t' })->codeAny (model X.prog X.w) X.A (.compLoop (.ListComp elt [⟨tg,iter,[c],0⟩] scope pos) 0 (.ref it) (.ref D) (compEnvC scope cl s3.heap.objs.size X.env))
   (compPost (model X.prog X.w) X.A X.xe use Qf (.ref D) s3.heap.objs.size) s4:=by
  rintro s4 ⟨t',rfl⟩
  refine ox (fun n' s'=>∃i σ' H',Inv (cxC X Nc scope cl s3 (upd H2 D (.lst [])) fp) [] σ' H' s'/\tnn i s'.heap/\(∀b∈fp,H' b=none)/\W i n' σ' H') ?_ m0
   ⟨0,_,_,Ic t',T.keep 0 _ _ st2 fun b hb o e=>kept _ _ (old _ _ e),fun b hb=>(f3 b hb).1,w0⟩
  rintro n' s5 ⟨i,σ5,H5,I5,st5,fr5,w5⟩
  rcases turn i n' σ5 H5 w5 with⟨stop,qn⟩|⟨go,N,hN',step⟩
  ·refine thn (T.done (cxC X Nc scope cl s3 (upd H2 D (.lst [])) fp) rfl rfl rfl hc i [] s5 σ5 H5 (fun _ _=>False) I5 (stat fr5) st5 stop) fun r s6 ⟨hr,I6⟩=>?_
   subst hr
   obtain⟨m,hm,_⟩:=I6.loc
   have I7:Inv X pins σ H5 s6:=Inv.call' (ch:=fp) I3 I6.os I6.base I6.hok I6.bare fun b hb=>⟨(f2 b hb).2.2.2.1,(f2 b hb).2.1,(f2 b hb).2.2.2.2.1,(f2 b hb).2.2.2.2.2⟩
   exact hend D _ s6 H5 m I7 hm I6.free (Ne.symm (Nat.ne_of_lt I3.lt)) I3.sz (fun x c e=>by
     obtain⟨v',o,ho,_⟩:=I3.cell x c e
     exact Nat.ne_of_lt (Heap.lt_size ho)) (fun p hp=>Nat.ne_of_lt (Heap.lt_size (I3.pin p hp).1)) qn
  ·refine thn (T.item (cxC X Nc scope cl s3 (upd H2 D (.lst [])) fp) rfl rfl rfl hc i [] s5 σ5 H5 (fun _ _=>False) I5 (stat fr5) st5 go) fun r s6 ⟨u,hr,h6⟩=>?_
   subst hr
   refine thn h6 fun _ s7 hz=>?_
   obtain⟨x,H7,I7,r7,y7,st7,fr7⟩:=hz
   have I7':=I7.pinned (stat fr7) (T.obj _ _ st7)
   refine thn ((hg s3 (upd H2 D (.lst [])) fp).h _ s7 σ5 H7 x u _ I7' r7 (step x H7 y7)) fun _ s8 hz=>?_
   obtain⟨σ8,H8,I8,q8⟩:=hz
   have fin:∀{s10:Shared} {H10:Hp},Inv (cxC X Nc scope cl s3 (upd H2 D (.lst [])) fp) _ σ8 H10 s10->N σ8 H10->∃m',m'<n'/\∃i' σ' H',Inv (cxC X Nc scope cl s3 (upd H2 D (.lst [])) fp) [] σ' H' s10/\tnn i' s10.heap/\(∀b∈fp,H' b=none)/\W i' m' σ' H':=fun{s10 H10} I10 q10=>by
    obtain⟨m',hm,w10⟩:=hN' σ8 H10 q10
    refine⟨m',hm,i+1,σ8,H10,Inv.unpinned I10,T.keep _ _ _ st7 fun b hb o e=>(Inv.pin I10 (b,o) (List.mem_append_right _ (List.mem_append_right _ (fz hb e)))).1,fun b hb=>?_,w10⟩
    obtain⟨o,e,d⟩:=T.obj _ _ st7 b hb
    exact(Inv.pin I10 (b,o) (List.mem_append_right _ (List.mem_append_right _ (fz hb e)))).2.1
   refine thn ((ht s3 (upd H2 D (.lst [])) fp).h _ s8 σ8 H8 _ I8 q8) fun b9 s9' h9=>?_
   obtain⟨H9',I9',q9'⟩:=h9
   cases b9 with
   |false=>exact fin I9' q9'
   |true=>
    refine thn ((he s3 (upd H2 D (.lst [])) fp).h _ s9' σ8 H9' _ I9' q9') fun v9 s9 hz=>?_
    obtain⟨x9,H9,I9,r9,ys,hy,hlt,q9⟩:=hz
    exact thn (nj (X:=cxC X Nc scope cl s3 (upd H2 D (.lst [])) fp) _ s9 σ8 H9 (.ref D) [x9] (.ref D) [v9] (fun _ H'=>N σ8 H') I9 rfl (.cons r9 .nil) ⟨D,ys,x9,rfl,rfl,hy,hlt,q9⟩) fun _ s10 ⟨_,H10,I10,_,q10⟩=>fin I10 q10
 have e4:∀t',({ s2 with heap:=h₁,toks:=t' }:Shared)={ s3 with heap:=h₁,toks:=t' }:=fun t'=>by rw[<-hs3]
 refine codeAny_compStart_list (loop _ ⟨_,e4 _⟩) (T.self _ 0 _ _ _ (T.keep 0 _ _ st2 fun b hb o e=>kept _ _ (old _ _ e)) (loop _ ⟨_,e4 _⟩))
theorem vj{X:Cx}{Nc capN tn:List Str}{scope:Scope}{cl:List (Str×Addr)}{n:Nat}{caps:List Nat}{tg iter elt:Expr}{pos:Pos}{wi:TI}{g:TG}{te:TE}{tt:TT}{c:Expr}
  (hc:X.calm=true) (hi:WI X tg iter wi) (hg:∀s3 H3 fp,WG (cxC X Nc scope cl s3 H3 fp) tg g) (he:∀s3 H3 fp,WE (cxC X Nc scope cl s3 H3 fp) elt te)
  (ht:∀s3 H3 fp,WT (cxC X Nc scope cl s3 H3 fp) c tt)
  (hclos:closureFor scope X.env=pure cl) (hkind:scope.kind=.function) (hnl:∀x∈scope.names,x.2=.local->scope.names.lookup x.1=some .local) (hcell:∀x∈scope.names,x.2≠.cell)
  (hcl:vX X.env cl) (hhas:((relabel scope X.env).names.all fun p=>!(p.2 == .cell||p.2 == .free)||(cl.lookup p.1).isSome)=true)
  (hcap:Paired (Cap X scope cl) caps capN) (hN:Nc=tn++capN) (hn:tn.length=n)
  (hs:∀x,foldedSetIterable iter X.env x=pure x:=by intro _;rfl) :
  WE X (.ListComp elt [⟨tg,iter,[c],0⟩] scope pos) (pz wi g tt te n caps):=by
 constructor
 intro pins s σ H Q I h
 rw[eval_ListComp]
 refine oW hc hi hg he ht hclos hkind hnl hcell hcl hhas hcap hN hn I h (fun D C s6 H5 m I7 hm fr nl sz cn pn qn=>⟨m,hm,fun h' hs'=>?_⟩) hs
 exact⟨.ref D,H5,I7.turned (t':=s6.toks) (it:=C) (fun b o hb e=>hs'.extBut b o hb e) fr nl (.inr sz) cn pn,rfl,qn⟩
end OG
namespace OP
open PySem PySem.Spec PyProof.Rows L2 OG
open Classical in
def b8(ok:Sto->Prop)(g:CG)(ct:CT)(ce:CE)(l:Nat):List U->Rho->Sto->Option Sto
 |[],_,S=>if ok S then some S else none
 |u::us,ρ,S=>if ok S then(g u ρ S).bind fun p=>(ct p.1 p.2).bind fun q=>if q.1=true then(ce p.1 q.2).bind fun r=>match r.2[l]? with
  |some (.lst ys)=>if ys.length<LIM then b8 ok g ct ce l us p.1 (r.2.set l (.lst (ys++[r.1])))else none
  |_=>none else b8 ok g ct ce l us p.1 q.2 else none
def kY(ci:CI)(g:CG)(ct:CT)(ce:CE)(n:Nat)(caps:List Nat):CE:=fun ρ S=>(ci ρ S).bind fun p=>(b8 p.2.1 g ct ce p.2.2.length p.1 (ur n caps ρ) (p.2.2++[.lst []])).bind fun S'=>some (.ref p.2.2.length,S')
section
variable{X:Cx}{K:PySem.W.Frag}
theorem nG{g:CG}{ct:CT}{ce:CE}{n:Nat}{caps:List Nat}{J:It}{us:List U}{ok:Sto->Prop}{Q:VK}{m1:List Addr}{H1:Hp}{S1 S':Sto}{ρ:Rho}{σ:L2.St}{l:Addr}(sr1:Sr K m1 S1 H1)(lr:Lr K m1 H1 ρ σ)(ito:y9 K J m1 H1 us ok)(hl:H1 l=none)(h2:b8 ok g ct ce S1.length us (ur n caps ρ) (S1++[.lst []])=some S')
  (post:∀m2 H2,Ext K (m1++[l]) (upd H1 l (.lst [])) m2 H2->Sr K m2 S' H2->Q (.ref l) H2) :
  ∃W:Nat->Nat->L2.St->Hp->Prop,(∃m,W 0 m (OG.stC n caps σ) (upd H1 l (.lst [])))/\
 ∀i m σ' H2,W i m σ' H2->(J.stop i H2/\Q (.ref l) H2)\/(J.go i H2/\∃N:L2.St->Hp->Prop,(∀σ'' H',N σ'' H'->∃m',m'<m/\W (i+1) m' σ'' H')/\
  ∀x H3,J.yld i H2 x H3->tG K g x σ' H3 fun σ2 H4=>tT K ct σ2 H4 fun b H5=>match b with
   |true=>tE K ce σ2 H5 fun v H6=>∃ys,H6 l=some (.lst ys)/\ys.length<sizeLine/\N σ2 (upd H6 l (.lst (ys++[v])))
   |false=>N σ2 H5):=by
 have ee:Ext K m1 H1 (m1++[l]) (upd H1 l (.lst [])):=.new (cK hl _)
 let W:Nat->Nat->L2.St->Hp->Prop:=fun i k σ2 H2=>k=us.length-i/\i<=us.length/\∃m2 ρ2 S2,Ext K (m1++[l]) (upd H1 l (.lst [])) m2 H2/\Sr K m2 S2 H2/\Lr K m2 H2 ρ2 σ2/\b8 ok g ct ce S1.length (us.drop i) ρ2 S2=some S'
 refine⟨W,⟨us.length,by simp,Nat.zero_le _,m1++[l],ur n caps ρ,S1++[.lst []],.refl,sr1.new (o:=.lst []) hl ⟨[],aS,.nil_⟩,xE (lr.mono ee),by simpa using h2⟩,?_⟩
 rintro i k σ2 H2 ⟨rfl,hi,m2,ρ2,S2,e2,sr2,lr2,hl2⟩
 by_cases hlt:i<us.length
 ·have hu:=List.getElem?_eq_getElem hlt
  rw[ko hu]at hl2
  unfold b8 at hl2
  split at hl2
  ·rename_i hok
   obtain⟨⟨ρ3,S3⟩,h3,hl2⟩:=Option.bind_eq_some_iff.mp hl2
   obtain⟨⟨b4,S4⟩,h4,hl2⟩:=Option.bind_eq_some_iff.mp hl2
   obtain⟨hgo,hy⟩:=(ito m2 S2 H2 i (ee.trans e2) sr2 hok).1 _ hu
   refine .inr ⟨hgo,W (i+1) (us.length-(i+1)),fun σ' H' w'=>⟨_,by omega,w'⟩,fun x H3 y=>?_⟩
   obtain⟨e3,sr3,ix⟩:=hy x H3 y
   refine⟨m2,ρ2,S2,_,ρ3,S3,sr3,lr2.mono e3,ix,h3,fun m4 σ4 H4 e4 sr4 lr4=>⟨m4,ρ3,S3,b4,S4,sr4,lr4,h4,fun m4' H4' e4' sr4'=>?_⟩⟩
   cases b4 with
   |false=>
    rw[if_neg Bool.false_ne_true]at hl2
    exact⟨rfl,hlt,m4',ρ3,_,(((e2.trans e3).trans e4).trans e4'),sr4',lr4.mono e4',hl2⟩
   |true=>
    rw[if_pos rfl]at hl2
    obtain⟨⟨u5,S5⟩,h5,hl2⟩:=Option.bind_eq_some_iff.mp hl2
    simp only at hl2
    split at hl2<;>try cases hl2
    rename_i ys hys
    split at hl2<;>try cases hl2
    rename_i hlen
    refine⟨m4',ρ3,S4,u5,S5,sr4',lr4.mono e4',h5,fun m5 v5 H5 e5 sr5 i5=>?_⟩
    obtain⟨a',ha',xs,hx,il⟩:=sr5.get hys
    have ha:m5[S1.length]?=some l:=((((e2.trans e3).trans e4).trans e4').trans e5).get (ef sr1.len)
    rw[ha]at ha';cases ha'
    have eu:Ext K m5 H5 m5 (upd H5 l (.lst (xs++[v5]))):=.of (sr5.keep ha _)
    exact⟨xs,hx,Hl (by rw[il.length];exact hlen),rfl,hlt,m5,ρ3,_,(((((e2.trans e3).trans e4).trans e4').trans e5).trans eu),sr5.put (o:=.lst (ys++[u5])) ha ⟨_,aS,(il.append (.cons_ i5 .nil_)).mono eu⟩,(lr4.mono ((e4'.trans e5).trans eu)),hl2⟩
  ·cases hl2
 ·have e:i=us.length:=by omega
  subst e
  rw[List.drop_length]at hl2
  unfold b8 at hl2
  split at hl2
  ·rename_i hok
   cases hl2
   exact .inl ⟨(ito m2 _ H2 _ (ee.trans e2) sr2 hok).2 (Nat.le_refl _),post m2 H2 e2 sr2⟩
  ·cases hl2
theorem vQ{ci:CI}{g:CG}{ct:CT}{ce:CE}{n:Nat}{caps:List Nat}:∀σ H Q,tE K (kY ci g ct ce n caps) σ H Q->pz (tI K ci) (tG K g) (tT K ct) (tE K ce) n caps σ H Q:=by
 rintro σ H Q ⟨m,ρ,S,u,S',sr,lr,hc,post⟩
 obtain⟨⟨us,ok,S1⟩,h1,h2⟩:=Option.bind_eq_some_iff.mp hc
 obtain⟨S2,h2,h3⟩:=Option.bind_eq_some_iff.mp h2
 cases h3
 refine⟨m,ρ,S,us,ok,S1,sr,lr,h1,fun m1 H1 J e1 sr1 ito l hl=>?_⟩
 have ee:Ext K m1 H1 (m1++[l]) (upd H1 l (.lst [])):=.new (cK hl _)
 exact nG sr1 (lr.mono e1) ito hl h2 fun m2 H2 e2 sr2=>post m2 _ H2 ((e1.trans ee).trans e2) sr2 (.ref_ (e2.get (ef sr1.len)))
theorem zT{Nc capN tn:List Str}{scope:Scope}{cl:List (Str×Addr)}{n:Nat}{caps:List Nat}{tg iter elt:Expr}{pos:Pos}{ci:CI}{g:CG}{ct:CT}{ce:CE}{c:Expr}
  (hc:X.calm=true) (hi:QI X tg iter ci) (hg:∀s3 H3 fp,WG (cxC X Nc scope cl s3 H3 fp) tg (tG X.K g)) (ht:∀s3 H3 fp,WT (cxC X Nc scope cl s3 H3 fp) c (tT X.K ct)) (he:∀s3 H3 fp,WE (cxC X Nc scope cl s3 H3 fp) elt (tE X.K ce))
  (hclos:closureFor scope X.env=pure cl) (hkind:scope.kind=.function) (hnl:∀x∈scope.names,x.2=.local->scope.names.lookup x.1=some .local) (hcell:∀x∈scope.names,x.2≠.cell)
  (hcl:vX X.env cl) (hhas:((relabel scope X.env).names.all fun p=>!(p.2 == .cell||p.2 == .free)||(cl.lookup p.1).isSome)=true)
  (hcap:Paired (Cap X scope cl) caps capN) (hN:Nc=tn++capN) (hn:tn.length=n)
  (hs:∀x,foldedSetIterable iter X.env x=pure x:=by intro _;rfl) :
  QE X (.ListComp elt [⟨tg,iter,[c],0⟩] scope pos) (kY ci g ct ce n caps):=(vj hc hi hg he ht hclos hkind hnl hcell hcl hhas hcap hN hn hs).imp vQ
end
end OP
namespace OP
open PySem PySem.Spec PyProof PyProof.Rows L2 OG
mutual
inductive RdV(K:PySem.W.Frag)(H:Hp):V->PyData->Prop
 |non:RdV K H .non .none
 |bl (b:Bool):RdV K H (.bl b) (.bool b)
 |int (i:Int):RdV K H (.int i) (.int i)
 |str (x:Str):RdV K H (.str x) (.str x)
 |lst {a:Addr} {xs:List V} {ds:List PyData}:SqL K H a xs->y3 K H xs ds->RdV K H (.ref a) (.list ds)
 |tup {a:Addr} {xs:List V} {ds:List PyData}:SqT K H a xs->y3 K H xs ds->RdV K H (.ref a) (.tuple ds)
inductive y3(K:PySem.W.Frag)(H:Hp):List V->List PyData->Prop
 |nil:y3 K H [] []
 |cons {x:V} {xs:List V} {d:PyData} {ds:List PyData}:RdV K H x d->y3 K H xs ds->y3 K H (x::xs) (d::ds)
end
mutual
inductive Dt(S:Sto):U->PyData->Prop
 |non:Dt S .non .none
 |bl (b:Bool):Dt S (.bl b) (.bool b)
 |int (i:Int):Dt S (.int i) (.int i)
 |str (x:Str):Dt S (.str x) (.str x)
 |lst {l:Nat} {us:List U} {ds:List PyData}:S[l]?=some (.lst us)->DtL S us ds->Dt S (.ref l) (.list ds)
 |tup {us:List U} {ds:List PyData}:DtL S us ds->Dt S (.tup us) (.tuple ds)
inductive DtL(S:Sto):List U->List PyData->Prop
 |nil:DtL S [] []
 |cons {x:U} {xs:List U} {d:PyData} {ds:List PyData}:Dt S x d->DtL S xs ds->DtL S (x::xs) (d::ds)
end
section
variable{X:Cx}{K:PySem.W.Frag}{pins:List (Addr×Obj)}{σ:L2.St}{H:Hp}{s:Shared}
mutual
theorem RdV.reads(I:Inv X pins σ H s):∀{x:V} {d:PyData} {v:Value},RdV X.K H x d->dB x v->∃as,Reads s.heap v d as
 |_,_,_,.non,r=>by cases r;exact⟨_,.none⟩
 |_,_,_,.bl b,r=>by cases r;exact⟨_,.bool b⟩
 |_,_,_,.int i,r=>by obtain⟨t,rfl⟩:=r;exact⟨_,.int i t⟩
 |_,_,_,.str i,r=>by obtain⟨t,rfl⟩:=r;exact⟨_,.str i t⟩
 |_,_,_,.lst (a:=a) h t,r=>by
  cases r
  obtain⟨its,rv,pl,_⟩:=I.list h
  obtain⟨as,k⟩:=y3.reads I t rv
  obtain⟨o,h1,h2,n,h3⟩:=pl.isList
  exact⟨_,.list h1 h2 h3 (by simpa using k)⟩
 |_,_,_,.tup (a:=a) h t,r=>by
  cases r
  obtain⟨its,rv,pl,_⟩:=I.tuple h
  obtain⟨as,k⟩:=y3.reads I t rv
  obtain⟨o,h1,h2,n,h3⟩:=pl
  exact⟨_,.tuple h1 h2 h3 (by simpa using k)⟩
theorem y3.reads(I:Inv X pins σ H s):∀{xs:List V} {ds:List PyData} {vs:List Value},y3 X.K H xs ds->cI xs vs->∃as,ReadsAll s.heap vs ds as
 |_,_,_,.nil,r=>by cases r;exact⟨_,.nil⟩
 |_,_,_,.cons h t,.cons r rs=>by
  obtain⟨as,a⟩:=RdV.reads I h r
  obtain⟨bs,b⟩:=y3.reads I t rs
  exact⟨_,.cons a b⟩
end
mutual
theorem Dt.rd{m:List Addr}{S:Sto}(sr:Sr K m S H):∀{u:U} {d:PyData} {v:V},Dt S u d->Is K m H v u->RdV K H v d
 |_,_,_,.non,i=>by rw[i.of_non];exact .non
 |_,_,_,.bl b,i=>by rw[i.of_bl];exact .bl b
 |_,_,_,.int b,i=>by rw[i.of_int];exact .int b
 |_,_,_,.str b,i=>by rw[i.of_str];exact .str b
 |_,_,_,.lst h t,i=>by
  obtain⟨a,ha,rfl⟩:=i.of_ref
  obtain⟨a',ha',xs,hx,il⟩:=sr.get h
  rw[ha]at ha';cases ha'
  exact .lst (SqL.of hx) (DtL.rd sr t il)
 |_,_,_,.tup t,i=>by
  obtain⟨a,xs,rfl,sa,la⟩:=i.of_tup
  exact .tup sa (DtL.rd sr t la)
theorem DtL.rd{m:List Addr}{S:Sto}(sr:Sr K m S H):∀{us:List U} {ds:List PyData} {vs:List V},DtL S us ds->IsL K m H vs us->y3 K H vs ds
 |_,_,_,.nil,i=>by rw[i.of_nil];exact .nil
 |_,_,_,.cons h t,i=>by
  obtain⟨x,r,rfl,i1,i2⟩:=i.of_cons
  exact .cons (Dt.rd sr h i1) (DtL.rd sr t i2)
end
mutual
theorem Dt.uniq{S:Sto}:∀{u:U} {d e:PyData},Dt S u d->Dt S u e->d=e
 |_,_,_,.non,.non=>rfl
 |_,_,_,.bl _,.bl _=>rfl
 |_,_,_,.int _,.int _=>rfl
 |_,_,_,.str _,.str _=>rfl
 |_,_,_,.lst h t,.lst h' t'=>by
  rw[h]at h';cases h'
  rw[DtL.uniq t t']
 |_,_,_,.tup t,.tup t'=>by rw[DtL.uniq t t']
theorem DtL.uniq{S:Sto}:∀{us:List U} {ds es:List PyData},DtL S us ds->DtL S us es->ds=es
 |_,_,_,.nil,.nil=>rfl
 |_,_,_,.cons h t,.cons h' t'=>by rw[Dt.uniq h h',DtL.uniq t t']
end
def Bc(d:PyData):Prop:=d.canLay0=true/\d.depth<=60
def Kw(K:PySem.W.Frag)(neg:Bool):R2:=fun x y H Q=>(∃dx dy,RdV K H x dx/\RdV K H y dy/\Bc dx/\Bc dy/\Q (.bl (if neg then !dx.eqv dy else dx.eqv dy)) H)\/
 ∃a b xs ys,x=.ref a/\y=.ref b/\SqL K H a xs/\SqL K H b ys/\xs.length≠ys.length/\Q (.bl neg) H
theorem Bw(hu:X.A.units+64<cLine):OpR X (compareOp .Eq) (Kw X.K false):=by
 rintro pins s σ H x y v u Q I rx ry (⟨dx,dy,hx,hy,lx,ly,q⟩|⟨a,b,xs,ys,rfl,rfl,ha,hb,ne,q⟩)
 ·obtain⟨as,hx⟩:=hx.reads I rx
  obtain⟨bs,hy⟩:=hy.reads I ry
  exact SeqAt.compareEq_reads hx hy lx.1 ly.1 (by have:=lx.2;omega) ⟨.bl _,H,I,rfl,q⟩
 ·cases rx
  cases ry
  obtain⟨i1,r1,p1,_⟩:=I.list ha
  obtain⟨i2,r2,p2,_⟩:=I.list hb
  have l1:=r1.length
  have l2:=r2.length
  exact SeqAt.RcAt.lists_lengths p1.isList p2.isList (by simp;omega) (by omega) X.prog X.w X.xe _ ⟨.bl false,H,I,rfl,q⟩
theorem Ha(hu:X.A.units+64<cLine):OpR X (compareOp .NotEq) (Kw X.K true):=by
 rintro pins s σ H x y v u Q I rx ry (⟨dx,dy,hx,hy,lx,ly,q⟩|⟨a,b,xs,ys,rfl,rfl,ha,hb,ne,q⟩)
 ·obtain⟨as,hx⟩:=hx.reads I rx
  obtain⟨bs,hy⟩:=hy.reads I ry
  exact SeqAt.compareNe_reads hx hy lx.1 ly.1 (by have:=lx.2;omega) ⟨.bl _,H,I,rfl,q⟩
 ·cases rx
  cases ry
  obtain⟨i1,r1,p1,_⟩:=I.list ha
  obtain⟨i2,r2,p2,_⟩:=I.list hb
  have l1:=r1.length
  have l2:=r2.length
  exact SeqAt.RcNeAt.lists_lengths p1.isList p2.isList (by simp;omega) (by omega) X.prog X.w X.xe _ ⟨.bl true,H,I,rfl,q⟩
def za(x y:U)(S:Sto)(b:Bool):Prop:=(∃dx dy,Dt S x dx/\Dt S y dy/\Bc dx/\Bc dy/\b=dx.eqv dy)\/∃l l' us vs,x=.ref l/\y=.ref l'/\S[l]?=some (.lst us)/\S[l']?=some (.lst vs)/\us.length≠vs.length/\b=false
theorem DtL.length{S:Sto}:∀{us:List U} {ds:List PyData},DtL S us ds->us.length=ds.length
 |_,_,.nil=>rfl
 |_,_,.cons _ t=>by rw[List.length_cons,List.length_cons,DtL.length t]
theorem za.mix{l l':Nat}{us vs:List U}{S:Sto}{dx dy:PyData}(h1:Dt S (.ref l) dx)(h2:Dt S (.ref l') dy)(k1:S[l]?=some (.lst us))(k2:S[l']?=some (.lst vs))(ne:us.length≠vs.length):dx.eqv dy=false:=by
 cases h1 with
 |lst a1 t1=>
  cases h2 with
  |lst a2 t2=>
   rw[k1]at a1;cases a1
   rw[k2]at a2;cases a2
   show PyData.eqvAll _ _=false
   exact SeqAt.eqvAll_other_length (by rw[<-t1.length,<-t2.length];exact ne)
theorem za.uniq{x y:U}{S:Sto}{b c:Bool}(h:za x y S b)(k:za x y S c):b=c:=by
 rcases h with⟨dx,dy,h1,h2,_,_,rfl⟩|⟨l,l',us,vs,rfl,rfl,h1,h2,ne,rfl⟩
 ·rcases k with⟨ex,ey,k1,k2,_,_,rfl⟩|⟨l,l',us,vs,rfl,rfl,k1,k2,ne,rfl⟩
  ·rw[h1.uniq k1,h2.uniq k2]
  ·exact za.mix h1 h2 k1 k2 ne
 ·rcases k with⟨ex,ey,k1,k2,_,_,rfl⟩|⟨_,_,_,_,_,_,_,_,_,rfl⟩
  ·exact(za.mix k1 k2 h1 h2 ne).symm
  ·rfl
open Classical in
def vL(neg:Bool):U->U->Sto->Option (U×Sto):=fun x y S=>if h:∃b,za x y S b then some (.bl (if neg then !h.choose else h.choose),S)else none
theorem tu{x y:U}{S:Sto}{b:Bool}(neg:Bool)(h:za x y S b):vL neg x y S=some (.bl (if neg then !b else b),S):=by
 unfold vL
 rw[dif_pos ⟨b,h⟩]
 have e:(⟨b,h⟩:∃b,za x y S b).choose=b:=(Exists.choose_spec (⟨b,h⟩:∃b,za x y S b)).uniq h
 rw[e]
theorem DV{neg:Bool}:OpP K (Kw K neg) (vL neg):=by
 intro m S H x y v w u S' Q sr ix iy hf post
 unfold vL at hf
 split at hf<;>try cases hf
 rename_i h
 have hb:=h.choose_spec
 generalize h.choose=b at hb post
 rcases hb with⟨dx,dy,h1,h2,l1,l2,rfl⟩|⟨l,l',us,vs,rfl,rfl,h1,h2,ne,rfl⟩
 ·exact .inl ⟨dx,dy,h1.rd sr ix,h2.rd sr iy,l1,l2,post m _ H .refl sr .bl_⟩
 ·obtain⟨a,ha,rfl⟩:=ix.of_ref
  obtain⟨a',ha',xs,hx,la⟩:=sr.get h1
  rw[ha]at ha';cases ha'
  obtain⟨c,hc,rfl⟩:=iy.of_ref
  obtain⟨c',hc',ys,hy,lc⟩:=sr.get h2
  rw[hc]at hc';cases hc'
  refine .inr ⟨a,c,xs,ys,rfl,rfl,SqL.of hx,SqL.of hy,by rw[la.length,lc.length];exact ne,?_⟩
  have e:(if neg=true then !false else false)=neg:=by cases neg<;>rfl
  have:=post m _ H .refl sr (Is.bl_ (b:=if neg=true then !false else false))
  rw[e]at this
  exact this
def BP(us:List U)(lo hi:Option Int):List U:=(us.drop (HT.sIx us.length 0 lo)).take (HT.sIx us.length us.length hi-HT.sIx us.length 0 lo)
theorem BO{m:List Addr}{xs:List V}{us:List U}{lo hi:Option Int}(i:IsL K m H xs us):IsL K m H (yA xs lo hi) (BP us lo hi):=by
 unfold yA BP
 rw[i.length]
 exact(i.drop _).take _
def fSl(x:U)(lo hi:Option Int)(S:Sto):Option (U×Sto):=match x with
 |.tup us=>if HT.sIx us.length 0 lo=0/\HT.sIx us.length us.length hi=us.length then none else some (.tup (BP us lo hi),S)
 |.ref l=>match S[l]? with
  |some (.lst us)=>some (.ref S.length,S++[.lst (BP us lo hi)])
  |_=>none
 |_=>none
def oy:Option CE->Rho->Sto->Option (Option Int×Sto)
 |none,_,S=>some (none,S)
 |some c,ρ,S=>(c ρ S).bind fun p=>match p.1 with
  |.int i=>some (some i,p.2)
  |_=>none
def cSl(ca:CE)(cl ch:Option CE):CE:=fun ρ S=>(ca ρ S).bind fun p=>(oy cl ρ p.2).bind fun q=>(oy ch ρ q.2).bind fun r=>fSl p.1 q.1 r.1 r.2
def LR(K:PySem.W.Frag)(m:List Addr)(H:Hp)(Q:Option Int->Hp->Prop)(o:Option Int)(S':Sto):Prop:=∀m' H',Ext K m H m' H'->Sr K m' S' H'->Q o H'
def tO(K:PySem.W.Frag)(c:Option CE):TO:=fun σ H Q=>∃m ρ S o S',Sr K m S H/\Lr K m H ρ σ/\oy c ρ S=some (o,S')/\LR K m H Q o S'
abbrev QO(X:Cx)(e:Option Expr)(c:Option CE):Prop:=WO X e (tO X.K c)
theorem w8:QO X none none:=⟨fun pins s σ H Q I hz=>nX hz fun m ρ S o S' sr lr hc post=>ue.h pins s σ H Q I (by cases hc;exact post m H .refl sr)⟩
theorem w6{e:Expr}{ca:CE}(h:QE X e ca):QO X (some e) (some ca):=⟨fun pins s σ H Q I hz=>nX hz fun m ρ S o S' sr lr hc post=>(ud h).h pins s σ H Q I (by
 obtain⟨⟨x,S1⟩,h1,h2⟩:=Option.bind_eq_some_iff.mp hc
 refine⟨m,ρ,S,x,S1,sr,lr,h1,fun m1 v1 H1 e1 sr1 i1=>?_⟩
 cases x<;>simp at h2
 obtain⟨rfl,rfl⟩:=h2
 exact⟨_,i1.of_int,post m1 H1 e1 sr1⟩)⟩
theorem Mb{e:Expr}{lo hi:Option Expr}{ca:CE}{cl ch:Option CE}{pos p2:Pos}(ha:QE X e ca)(hl:QO X lo cl)(hh:QO X hi ch):QE X (.Subscript e (.Slice lo hi none p2) pos) (cSl ca cl ch):=(qv (wR.or Gh) ha hl hh).imp fun σ H Q hz=>nX hz fun m ρ S u S' sr lr hc post=>by
 obtain⟨⟨x,S1⟩,h1,ha⟩:=Option.bind_eq_some_iff.mp hc
 obtain⟨⟨l,S2⟩,h2,hb⟩:=Option.bind_eq_some_iff.mp ha
 obtain⟨⟨k,S3⟩,h3,h⟩:=Option.bind_eq_some_iff.mp hb
 clear ha hb hc
 refine⟨m,ρ,S,x,S1,sr,lr,h1,fun m1 v1 H1 e1 sr1 i1=>⟨m1,ρ,S1,l,S2,sr1,lr.mono e1,h2,fun m2 H2 e2 sr2=>⟨m2,ρ,S2,k,S3,sr2,lr.mono (e1.trans e2),h3,fun m3 H3 e3 sr3=>?_⟩⟩⟩
 have i3:=i1.mono (e2.trans e3)
 have e03:=(e1.trans e2).trans e3
 cases x with
 |tup us=>
  simp only[fSl]at h
  split at h<;>try cases h
  rename_i hw
  obtain⟨a,xs,rfl,sa,la⟩:=i3.of_tup
  exact .inr ⟨a,xs,rfl,sa,by rw[la.length];exact hw,fun p hp=>pH sr3 (BO la) (post.mono e03) hp⟩
 |ref r=>
  simp only[fSl]at h
  split at h<;>try cases h
  rename_i us hS
  obtain⟨a,ha,rfl⟩:=i3.of_ref
  obtain⟨a',ha',xs,hx,la⟩:=sr3.get hS
  rw[ha]at ha';cases ha'
  exact .inl ⟨a,xs,rfl,SqL.of hx,fun p hp=>eR sr3 (BO la) (post.mono e03) hp⟩
 |_=>simp[fSl]at h
end
section
variable{X:Cx}{K:PySem.W.Frag}
def Di(K:PySem.W.Frag):R2:=fun x y H Q=>∃a k xs,x=.ref a/\y=.int k/\SqT K H a xs/\xs≠[]/\1<=k/\xs.length*k.toNat<=1000/\∀q H',tW H H'->SqT K H' q (List.replicate k.toNat xs).flatten->Q (.ref q) H'
theorem DX:OpR X (binaryOp .Mult) (Di X.K):=by
 intro pins s σ H x y v u Q I rx ry h
 obtain⟨a,k,xs,rfl,rfl,ha,hne,hk,hz,q⟩:=h
 cases rx
 obtain⟨t,rfl⟩:=ry
 obtain⟨its,r1,p1,hzz⟩:=I.tuple ha
 have hlen:=r1.length
 obtain⟨⟨cls,dd,data,sl⟩,ho,hc,n,hd⟩:=id p1
 simp only at hc hd
 subst hc hd
 have hne':its≠[]:=fun z=>hne (r1.nil_iff.mp z)
 refine wpAny_binaryOp_repeat_ref (T:="tuple") (U:="int") (by decide) ⟨_,ho,rfl⟩ (fun s'=>typeIs_int s' k t) l5 F.fills_int_mul F.slot_int_rmul qJ F.slot_int_index.lookup
  (call_meets F.slot_int_rmul (typeIs_int s k t) F.entry_int_rmul (F.args_int_rmul_2 _ _) (oe k t a its.toArray n dd sl) ⟨ho,rfl,⟨_,ho,rfl⟩,?_⟩)
 by_cases k1:k=1
 ·subst k1
  refine call_meets F.slot_tuple_mul ⟨_,ho,rfl⟩ F.entry_tuple_mul (F.args_tuple_mul_2 _ _) (su a its.toArray n dd sl t) ⟨ho,⟨.ref a,H,I,rfl,q a H (.refl _) ?_⟩⟩
  simpa using ha
 ·have hfold:List.foldl (fun x1 x2=>x1++x2) #[] (List.replicate k.toNat its.toArray)=(List.replicate k.toNat its).flatten.toArray:=by
   have:=nB its k.toNat []
   rw[List.nil_append]at this
   exact this
  have hfl:(List.replicate k.toNat its).flatten.length<=1000:=by rw[sP,<-hlen,Nat.mul_comm];exact hz
  have hlp:0<its.length:=List.length_pos_iff.mpr hne'
  have hk2:k.toNat<=1000:=Nat.le_trans (Nat.le_mul_of_pos_left _ (by rw[hlen];exact hlp)) hz
  have hsz:(its.toArray.size:Int)*k<=1000:=by
   rw[List.size_toArray,<-hlen]
   have e:k=((k.toNat:Nat):Int):=by omega
   rw[e,<-Int.natCast_mul]
   omega
  refine call_meets F.slot_tuple_mul ⟨_,ho,rfl⟩ F.entry_tuple_mul (F.args_tuple_mul_2 _ _) (sk a its.toArray n dd sl k t ?_ ?_ ?_ ?_ ?_ ?_) ⟨ho,?_⟩
  ·simp;omega
  ·simp[hne',k1]
  ·simp[hne'];omega
  ·omega
  ·unfold Builtin.Tuple.tupleTooMany
   have:¬(its.toArray.size:Int)*k>(sizeLine:Int):=by
    have:(1000:Nat)<=sizeLine:=qG (Nat.le_refl _)
    omega
   simpa using this
  ·rw[hfold,List.size_toArray];exact qG hfl
  ·rw[hfold]
   refine⟨.ref s.heap.objs.size,_,I.laid (t':=s.toks) (o:=.tup (List.replicate k.toNat xs).flatten) (fun b ob q=>Heap.get?_push_of_some _ q) (Nat.le_refl _) ?_,rfl,q _ _ (d6 (I.hok.fresh (Nat.le_refl _)) _) (SqT.of aS)⟩
   exact⟨qG (by rw[sP,Nat.mul_comm];exact hz),_,r1.rep k.toNat,IsTup.new _ _⟩
def vJ:U->U->Sto->Option (U×Sto)
 |.int i,.int j,S=>if wa i j then some (.int (i*j),S)else none
 |.tup us,.int k,S=>if us≠[]/\1<=k/\us.length*k.toNat<=1000 then some (.tup (List.replicate k.toNat us).flatten,S)else none
 |.ref l,.int k,S=>match S[l]? with
  |some (.lst us)=>if 0<=k/\k<=100000/\us.length*k.toNat<=LIM then some (.ref S.length,S++[.lst (List.replicate k.toNat us).flatten])else none
  |_=>none
 |_,_,_=>none
theorem He:OpR X (binaryOp .Mult) (fun x y H Q=>rI wa (fun i j=>.int (i*j)) x y H Q\/(Di X.K x y H Q\/Kv x y H Q)):=jk.or (DX.or G9)
instance {us:List U}:Decidable (us≠[]):=match us with
 |[]=>.isFalse fun h=>h rfl
 |_::_=>.isTrue fun h=>by cases h
theorem GZ:OpP K (fun x y H Q=>rI wa (fun i j=>.int (i*j)) x y H Q\/(Di K x y H Q\/Kv x y H Q)) vJ:=by
 intro m S H x y v w u S' Q sr ix iy hf post
 cases x<;>cases y<;>simp only[vJ]at hf<;>try cases hf
 ·split at hf<;>try cases hf
  rename_i hc
  exact .inl ⟨_,_,ix.of_int,iy.of_int,hc,post m _ H .refl sr .int_⟩
 ·rename_i us k
  split at hf<;>try cases hf
  rename_i hc
  obtain⟨a,xs,rfl,sa,la⟩:=ix.of_tup
  refine .inr (.inl ⟨a,k,xs,rfl,iy.of_int,sa,fun z=>hc.1 ?_,hc.2.1,by rw[la.length];exact hc.2.2,fun q H' s sq=>?_⟩)
  ·subst z
   have:=la.length
   exact List.length_eq_zero_iff.mp this.symm
  ·exact post m _ H' (.of (eZ s)) (sr.same s) (.tup_ sq ((la.rep k.toNat).mono (.of (eZ s))))
 ·rename_i l k
  split at hf<;>try cases hf
  rename_i us hS
  split at hf<;>try cases hf
  rename_i hc
  obtain⟨a,ha,rfl⟩:=ix.of_ref
  obtain⟨a',ha',xs,hx,la⟩:=sr.get hS
  rw[ha]at ha';cases ha'
  exact .inr (.inr ⟨a,k,xs,rfl,iy.of_int,hx,by omega,by omega,lim (by rw[la.length];exact hc.2.2),fun p hp=>eR sr (la.rep k.toNat) post hp⟩)
end
end OP
namespace OG
open PySem PySem.Spec PyProof.Rows L2
theorem Hg{C a:Addr}{m:Str->Option Value}{h h':Heap}(n:h.Ns C m)(s:Heap.SameBut a h h')(ne:C≠a):h'.Ns C m:=by
 obtain⟨o,es,ep,e,r⟩:=n
 exact⟨o,es,ep,(s.2 C ne).trans e,r⟩
theorem qr{X:Cx}{Nc capN tn:List Str}{scope:Scope}{cl:List (Str×Addr)}{n:Nat}{caps:List Nat}{tg iter elt:Expr}{pos:Pos}{wi:TI}{g:TG}{te:TE}{tt:TT}{c:Expr}
  (hc:X.calm=true) (hi:WI X tg iter wi) (hg:∀s3 H3 fp,WG (cxC X Nc scope cl s3 H3 fp) tg g) (he:∀s3 H3 fp,WE (cxC X Nc scope cl s3 H3 fp) elt te)
  (ht:∀s3 H3 fp,WT (cxC X Nc scope cl s3 H3 fp) c tt)
  (hclos:closureFor scope X.env=pure cl) (hkind:scope.kind=.function) (hnl:∀x∈scope.names,x.2=.local->scope.names.lookup x.1=some .local) (hcell:∀x∈scope.names,x.2≠.cell)
  (hcl:vX X.env cl) (hhas:((relabel scope X.env).names.all fun p=>!(p.2 == .cell||p.2 == .free)||(cl.lookup p.1).isSome)=true)
  (hcap:Paired (Cap X scope cl) caps capN) (hN:Nc=tn++capN) (hn:tn.length=n)
  {i₀:Nat} {x₀:Str} {pos₀ pos':Pos} (hN0:X.N.Nodup) (hi0:X.N[i₀]?=some x₀) (hx0:X.env.scope.names.lookup x₀=some .local)
  (hsw:swapsWith (.ListComp elt [⟨tg,iter,[c],0⟩] scope pos) (some (.Name x₀ pos')) pos₀.line X.env=pure true)
  (hs:∀x,foldedSetIterable iter X.env x=pure x:=by intro _;rfl) :
  WS X (.Assign [.Name x₀ pos'] (.ListComp elt [⟨tg,iter,[c],0⟩] scope pos) pos₀) (fun D σ H=>pz wi g tt te n caps σ H fun v H'=>D.nx (σ.set i₀ (some v)) H'):=by
 constructor
 intro pins s σ H Dn I h
 rw[exec_Assign_arm]
 refine wpAny_bind (wpAny_standAt ?_)
 have hsw':swapsWithSole [.Name x₀ pos'] (.ListComp elt [⟨tg,iter,[c],0⟩] scope pos) pos₀.line X.env=pure true:=hsw
 rw[hsw']
 refine wpAny_bind (wpAny_pure ?_)
 rw[if_pos rfl,arm_evalThenUse_ListComp]
 refine wpAny_bind (wpAny_bind (oW (Qf:=fun _ s'=>wpAny (model X.prog X.w) X.A (pure ()) (fun _ s'=>wpAny (model X.prog X.w) X.A (pure Flow.next) (SP X pins Dn) X.xe s') X.xe s') hc hi hg he ht hclos hkind hnl hcell hcl hhas hcap hN hn I h (fun D C s6 H5 m I7 hm fr nl sz cn pn qn=>?_) hs))
 show wpAny _ _ (assign (.Name x₀ pos') X.env (.ref D)) _ _ s6
 rw[arm_assign_Name]
 refine wpAny_bind (wpAny_standAt (wpAny_bindName (qD (v:=.ref D) I7 hN0 hi0 (.inl hx0) rfl (fun s7 I7' hsb=>?_) (.inr hx0))))
 obtain⟨a7,hsb,ha7⟩:=hsb
 have cNe:C≠a7:=by
  rcases ha7 with z|z
  ·rw[z];exact nl
  ·exact Ne.symm (cn _ _ z)
 refine⟨m,Hg hm hsb cNe,fun h' hs'=>wpAny_pure (wpAny_pure ⟨_,H5,?_,qn⟩)⟩
 exact I7'.turned (t':=s7.toks) (it:=C) (fun b o hb e=>hs'.extBut b o hb e) fr nl (.inr sz) cn pn
end OG
namespace OP
open PySem PySem.Spec PyProof PyProof.Rows L2 OG
section
variable{X:Cx}{K:PySem.W.Frag}
def nC:U->List U->Sto->Option (U×Sto)
 |.ref l,[.int i],S=>match S[l]? with
  |some (.lst us)=>if 0<=i/\i<us.length/\us.length<=LIM then(us[i.toNat]?).bind fun u=>some (u,S.set l (.lst (us.eraseIdx i.toNat)))else none
  |_=>none
 |_,_,_=>none
theorem DS:MtP K Bp nC:=by
 intro m S H x v us vs u S' Q sr ix i hf post
 match x,us,hf with
 |.ref l,[.int k],hf=>
  simp only[nC]at hf
  split at hf<;>try cases hf
  rename_i ws hS
  split at hf<;>try cases hf
  rename_i hk
  obtain⟨w,hw,h⟩:=Option.bind_eq_some_iff.mp hf
  cases h
  obtain⟨a,ha,rfl⟩:=ix.of_ref
  obtain⟨a',ha',xs,hx,la⟩:=sr.get hS
  rw[ha]at ha';cases ha'
  obtain⟨y,hy,iy⟩:=la.getD hw
  obtain⟨z,rfl,iz⟩:=i.one
  have eu:Ext K m H m (upd H a (.lst (xs.eraseIdx k.toNat))):=.of (sr.keep ha _)
  have hL:ws.length<=100000:=hk.2.2
  exact⟨a,xs,k,k.toNat,y,rfl,by rw[iz.of_int],hx,by omega,by omega,seqIndex_of hk.1 (by rw[la.length];exact hk.2.1),hy,post m _ _ eu (sr.put ha ⟨_,aS,(la.erase _).mono eu⟩) (iy.mono eu)⟩
variable{e:Expr}{es:List Expr}{co:CE}{cr:CA}{o:Expr}{apos cpos:Pos}
theorem Dm (ho : QE X o co) (ha : QA X (e :: es) cr) (hbase : attributeBase o "pop" X.env (eval o X.env) = eval o X.env := by rfl) (hfew : ((backTo cpos (starEach (e :: es) X.env)).all (fun x => !x.1) && (backToKw cpos (keywordEach [] X.env)).all (fun x => x.1.isSome)
   && decide ((e::es).length+([]:List Keyword).length+(if ([]:List Keyword).isEmpty then 0 else 1)<30))=true:=by rfl) (hline:(apos.endLine == cpos.line)=true:=by rfl) (hs:starEach (e::es) X.env=(false,eval e X.env)::starEach es X.env:=by rfl) (hplain:(backTo cpos (starEach es X.env)).any (·.1)=false:=by rfl) :
  QE X (.Call (.Attribute o "pop" apos) (e::es) [] cpos) (cBM nC co cr):=(Bi PySem.F.plainAttrs_list PySem.F.slot_list_pop PySem.F.type_list_pop Aq ho ha.h hbase hfew hline hs hplain).imp (BR DS)
end
end OP
namespace OP
open PySem PySem.Spec PyProof PyProof.Rows L2 OG PySem.W
section
variable{cmp:Nat->Nat->(Bool->Shared->Prop)->Shared->Prop}{s:Shared}{n:Nat}{lt:Nat->Nat->Bool}
def Asc(lt:Nat->Nat->Bool)(p:Array Nat)(k:Nat):Prop:=∀i j,i<j->j<k->lt (p.getD i 0) (p.getD j 0)=true
variable{p:Array Nat}
end
end OP
namespace OP
open PySem PySem.Spec PyProof PyProof.Rows L2 OG
section
variable{prog:Program}{w:World}{A:Around}{E:Value->Shared->Prop}{s:Shared}{d it:Addr}{o:Obj}{es:Array DictEntry}{ep i:Nat}
theorem uv{Q:Value->Shared->Prop}(hd:(d == sysModules)=false)(ho:s.heap.get? d=some o)(hc:o.ExactDict)(he:o.data=.dict es ep)
  (q:Q (.ref s.heap.objs.size) { s with heap:=s.heap.push { cls:=.type "dict_keyiterator",data:=.fields #[.ref d,.int 0 0,.int es.size 0,.int ep 0] } }):wpAny (model prog w) A (pyIter (.ref d)) Q E s:=by
 have T:s.TypeIs (.ref d) "dict":=⟨o,ho,hc.1⟩
 refine wpAny_pyIter_slot T F.slot_dict_iter (wpAny_call_entry F.slot_dict_iter T F.entry_dict_iter ?_ (F.args_dict_iter_1 _))
 unfold Builtin.«dict.__iter__»;refine wpAny_bind ?_
 unfold Builtin.Dict.dictSlotNone;refine wpAny_bind (wpAny_notOrdered_dict T ?_)
 refine wpAny_pure (show wpAny _ _ (Builtin.Dict.showsAll d >>= _) _ _ s from ?_)
 unfold Builtin.Dict.showsAll;rw[if_neg (by rw[hd];exact Bool.false_ne_true)]
 refine wpAny_bind (wpAny_pure (wpAny_bind (wpAny_dictEntries ho he (wpAny_bind (wpAny_dictEpoch ho he ?_)))))
 refine wpAny_bind (wpAny_newObj_type (wpAny_pure ⟨_,rfl,"dict_keyiterator",_,⟨_,Heap.get?_push_size _ rfl,rfl⟩,F.slot_dict_keyiterator_next.lookup,q⟩))
theorem uw{Q:Option Value->Shared->Prop}(hit:s.heap.IsKeyIter it d i es.size ep)(ho:s.heap.get? d=some o)(he:o.data=.dict es ep)(hi:i<es.size)
  (q:∀h',h'.IsKeyIter it d (i+1) es.size ep->Heap.SameBut it s.heap h'->Q (some es[i].key) { s with heap:=h' }):wpAny (model prog w) A (pyNext (.ref it)) Q E s:=by
 obtain⟨io,hio,ic,id'⟩:=id hit
 unfold pyNext;refine wpAny_bind (wpAny_attempt (wpAny_callSpecial?_slot (name:=Str.ofString "__next__") hit.typeIs F.slot_dict_keyiterator_next (wpAny_call_entry F.slot_dict_keyiterator_next hit.typeIs F.entry_dict_keyiterator_next ?_ (F.args_dict_keyiterator_next_1 _))))
 refine wpAny_bind (wpAny_pure (wpAny_bind (wpAny_bind ?_)))
 first|refine wpAny_bind (wpAny_typeNameOfWhole_keyiter hit.typeIs (wpAny_pure (wpAny_bind (wpAny_fieldsOf hio id' ?_))))|refine wpAny_bind (wpAny_typeNameOf_keyiter hit.typeIs (wpAny_pure (wpAny_bind (wpAny_fieldsOf hio id' ?_))))
 simp only[show Builtin.Dict_items.ownsTuple "dict_keyiterator"=false by decide,Bool.false_eq_true,if_false]
 refine(show wpAny _ _ (if (Value.ref d == Value.none)=true then _ else _) _ _ s from ?_)
 rw[if_neg (show ¬((Value.ref d == Value.none)=true)from Bool.false_ne_true)];refine wpAny_bind (wpAny_pure (wpAny_bind (wpAny_dictEntries ho he ?_)))
 rw[if_neg (by simp)];refine wpAny_bind (wpAny_pure (wpAny_bind (wpAny_dictEpoch ho he ?_)))
 rw[if_neg (by simp)];refine wpAny_pure ?_
 simp only[show ¬((i:Int)<0)by omega,if_false,Int.toNat_natCast,Array.getElem?_eq_getElem hi];refine wpAny_bind ?_
 first|refine wpAny_bind (wpAny_typeNameOfWhole_keyiter hit.typeIs (wpAny_pure (wpAny_bind (wpAny_isOneOf_keyiter hit.typeIs ?_))))|refine wpAny_bind (wpAny_typeNameOf_keyiter hit.typeIs (wpAny_pure (wpAny_bind (wpAny_isOneOf_keyiter hit.typeIs ?_))))
 refine(show wpAny _ _ (setField (.ref it) 1 (rawInt ((i:Int)+1)) >>= _) _ _ s from wpAny_bind (wpAny_setField hio id' (by simp) ?_))
 have hit2:(s.heap.update it (Obj.mapFields (·.setIfInBounds 1 (rawInt ((i:Int)+1))))).IsKeyIter it d (i+1) es.size ep:=⟨_,Heap.get?_update_self _ hio (Obj.isFreed_of_fields (Obj.data_mapFields id' _)),(Obj.cls_mapFields ..).trans ic,by rw[Obj.data_mapFields id'];simp[rawInt]⟩
 refine wpAny_bind (wpAny_holding (wpAny_bind (wpAny_isOneOf_keyiter (s:={ s with heap:=s.heap.update it (Obj.mapFields (·.setIfInBounds 1 (rawInt ((i:Int)+1)))) }) hit2.typeIs ?_)))
 exact(show wpAny _ _ (pure es[i].key) _ _ _ from wpAny_pure (wpAny_pure ⟨_,rfl,wpAny_pure (q _ hit2 (Heap.SameBut.update ..))⟩))
theorem wY{Q:Option Value->Shared->Prop}(hh:A.handled=none)(hit:s.heap.IsKeyIter it d i es.size ep)(ho:s.heap.get? d=some o)(he:o.data=.dict es ep)(hi:es.size<=i)
  (q:∀h',Heap.ExtBut it s.heap h'->Q none { s with heap:=h' }):wpAny (model prog w) A (pyNext (.ref it)) Q E s:=by
 obtain⟨io,hio,ic,id'⟩:=id hit
 unfold pyNext;refine wpAny_bind (wpAny_attempt (wpAny_callSpecial?_slot (name:=Str.ofString "__next__") hit.typeIs F.slot_dict_keyiterator_next (wpAny_call_entry F.slot_dict_keyiterator_next hit.typeIs F.entry_dict_keyiterator_next ?_ (F.args_dict_keyiterator_next_1 _))))
 refine wpAny_bind (wpAny_pure (wpAny_bind (wpAny_bind ?_)))
 first|refine wpAny_bind (wpAny_typeNameOfWhole_keyiter hit.typeIs (wpAny_pure (wpAny_bind (wpAny_fieldsOf hio id' ?_))))|refine wpAny_bind (wpAny_typeNameOf_keyiter hit.typeIs (wpAny_pure (wpAny_bind (wpAny_fieldsOf hio id' ?_))))
 simp only[show Builtin.Dict_items.ownsTuple "dict_keyiterator"=false by decide,Bool.false_eq_true,if_false]
 refine(show wpAny _ _ (if (Value.ref d == Value.none)=true then _ else _) _ _ s from ?_)
 rw[if_neg (show ¬((Value.ref d == Value.none)=true)from Bool.false_ne_true)];refine wpAny_bind (wpAny_pure (wpAny_bind (wpAny_dictEntries ho he ?_)))
 rw[if_neg (by simp)];refine wpAny_bind (wpAny_pure (wpAny_bind (wpAny_dictEpoch ho he ?_)))
 rw[if_neg (by simp)];refine wpAny_pure ?_
 simp only[show ¬((i:Int)<0)by omega,if_false,Int.toNat_natCast,Array.getElem?_eq_none hi];refine wpAny_bind ?_
 first|refine wpAny_bind (wpAny_typeNameOfWhole_keyiter hit.typeIs (wpAny_pure ?_));skip|refine wpAny_bind (wpAny_typeNameOf_keyiter hit.typeIs (wpAny_pure ?_));skip
 refine(show wpAny _ _ (setField (.ref it) 0 .none >>= _) _ _ s from wpAny_bind (wpAny_setField hio id' (by simp) ?_))
 refine(show wpAny _ _ (newExc (.type "StopIteration") [] >>= _) _ _ _ from wpAny_bind ?_)
 simp only[newExc,newTuple];refine wpAny_bind (wpAny_newObj_type ?_ (by size_fits));refine wpAny_bind (m:=firstArgMember _ _) (wpAny_of_eq (a:=Value.none) (by first|rfl|(simp only[firstArgMember];rfl)) (wpAny_newObj_type ?_ (by size_fits)))
 simp only[raiseNew];refine wpAny_bind (wpAny_handled ?_);rw[show A.in1.handled=none from hh]
 refine wpAny_bind (wpAny_pure (wpAny_throw ?_));refine wpAny_bind (wpAny_isInstance (T:="StopIteration") (b:=true) ⟨_,Heap.get?_push_size _ rfl,rfl⟩ isSubtype_stop ?_);exact wpAny_pure (q _ (((Heap.SameBut.update ..).extBut.push _).push _))
end
def FzT(H:Hp)(a:Addr)(ep:Nat)(ks:List (List Key)):Prop:=∃ob es kvs,H a=some (.frz ob (.dT kvs))/\ob.data=.dict es ep/\kvs.map (·.1)=ks
def Itt(a:Addr)(ep:Nat)(ks:List (List Key)):It:=
 ⟨fun i H=>i<ks.length/\FzT H a ep ks,fun i H x H'=>H'=H/\∃k p,ks[i]?=some k/\x=.ref p/\H p=some (.tup (k.map kV)),fun i H=>ks.length<=i/\FzT H a ep ks⟩
end OP
namespace OP
open PySem PySem.Spec PyProof PyProof.Rows L2 OG PySem.W
theorem Dh{prog:Program}{w:World}{d:Addr}{o:Obj}{es:Array DictEntry}{ep:Nat}(hd:(d == sysModules)=false)(hc:o.ExactDict)(he:o.data=.dict es ep) :
  KdlSrc prog w "dict" d d es.size (fun i v=>∃h:i<es.size,v=es[i].key) (fun h=>h.get? d=some o) where
 type:=fun s g=>⟨o,g,hc.1⟩
 there:=fun h g=>⟨Heap.lt_size g,Heap.lt_size g⟩
 keep:=fun h h' g m=>m d (.inl rfl) o g
 notList:=by decide
 notTuple:=by decide
 hint:=fun A E s Q g q=>kdl_hint_dict ⟨o,g,hc.1⟩ q
 iter:=fun A s hh g=>by
  refine⟨_,fun i h=>h.IsKeyIter s.heap.objs.size d i es.size ep/\h.get? d=some o,fun E Q q=>uv hd g hc he q,?_,⟨⟨_,Heap.get?_push_size _ rfl,rfl,rfl⟩,Heap.get?_push_of_some _ g⟩⟩
  refine⟨fun b hb=>by simp at hb;simp[hb],fun i h h' st m=>?_,fun i s' Q E hi st k=>?_,fun s' Q E st k=>?_,fun i s' Q E st q=>?_⟩
  ·obtain⟨⟨o1,g1,c1,d1⟩,g2⟩:=st
   exact⟨⟨o1,m _ (by simp) o1 g1,c1,d1⟩,m _ (by simp) o g2⟩
  ·refine uw st.1 st.2 he hi fun h' it' sb=>k _ h' _ ⟨hi,rfl⟩ ⟨it',?_⟩ fun b o' hb g'=>?_
   ·have:d≠s.heap.objs.size:=Nat.ne_of_lt (Heap.lt_size g)
    rw[sb.2 d this];exact st.2
   ·rw[sb.2 b (by simpa using hb)];exact g'
  ·exact wY hh st.1 st.2 he (Nat.le_refl _) fun h' eb=>k h' _ fun b o' hb g'=>eb b o' (by simpa using hb) g'
  ·exact wpAny_pyIter_keyiter st.1 q
section
variable{prog:Program}{w:World}{A:Around}{E:Value->Shared->Prop}{s:Shared}{κ:SortKind}{LT:Keyed->Keyed->Bool}{X:Keyed->Prop}
def My(prog:Program)(w:World)(A:Around)(E:Value->Shared->Prop)(s:Shared)(κ:SortKind)(LT:Keyed->Keyed->Bool)(X:Keyed->Prop):Prop:=
 ∀x y st (Q:Option Bool->SortSt->Shared->Prop),X x->X y->Rows.kindOf st=κ->Q (some (LT x y)) st s->kasC (model prog w) A E (lt' x y) Q st s
theorem yn{arr:Array Keyed}{i:Nat}{x:Keyed}{st:SortSt}{Q:Keyed->SortSt->Shared->Prop}(h:arr[i]?=some x)(q:Q x st s):kasC (model prog w) A E (elem' arr i) Q st s:=by
 rw[elem'_eq,h]
 exact kasC_pure q
end
section
variable{α:Type}{LT:α->α->Bool}{a b o:List α}{i j k:Nat}
def MA(LT:α->α->Bool)(l:List α):Prop:=l.Pairwise fun x y=>LT x y=true
end
section
variable{prog:Program}{w:World}{A:Around}{E:Value->Shared->Prop}{s:Shared}{κ:SortKind}{LT:Keyed->Keyed->Bool}{X:Keyed->Prop}
def Gl(st st':SortSt):Prop:=∃g,st'=SortSt.mk' (Rows.kindOf st) (arrOf st) (pendingOf st) g (failedOf st)
theorem oP{l:Array Keyed}{i:Nat}(h:i<l.size):l[i]?=some (kas_item l i):=by
 unfold kas_item;simp[Array.getD,h]
theorem Eg{l:Array Keyed}{i:Nat}(h:i<l.size):l.toList.drop i=kas_item l i::l.toList.drop (i+1):=by
 rw[List.drop_eq_getElem_cons (by simpa using h)]
 congr 1
 have:=oP h
 simpa [h] using this
theorem HW{l:Array Keyed}{i:Nat}(h:i<l.size):kas_item l i∈l.toList:=List.mem_of_mem_drop (i:=i) (by rw[Eg h];exact List.mem_cons_self)
theorem Lz{l:Array Keyed}{i:Nat}{x:Keyed}(h:x∈l.toList.drop i):∃t,i+t<l.size/\x=kas_item l (i+t):=by
 obtain⟨t,ht,e⟩:=List.getElem_of_mem h
 rw[List.length_drop]at ht
 have hz:i+t<l.size:=by simp at ht;omega
 refine⟨t,hz,?_⟩
 rw[<-e,List.getElem_drop]
 have:=oP hz
 simpa [hz] using this
theorem Ef{l:Array Keyed}{i k:Nat}{x:Keyed}(h:x∈(l.toList.drop i).take k):∃t,t<k/\i+t<l.size/\x=kas_item l (i+t):=by
 obtain⟨t,ht,e⟩:=List.getElem_of_mem h
 rw[List.length_take,List.length_drop]at ht
 have hz:i+t<l.size:=by simp at ht;omega
 refine⟨t,by omega,hz,?_⟩
 rw[<-e,List.getElem_take,List.getElem_drop]
 have:=oP hz
 simpa [hz] using this
theorem HY{l:Array Keyed}{i j:Nat}(h:MA LT l.toList)(hij:i<j)(hj:j<l.size):LT (kas_item l i) (kas_item l j)=true:=by
 have hi:i<l.size:=by omega
 have:=List.pairwise_iff_getElem.mp h i j (by simpa using hi) (by simpa using hj) hij
 have e1:=oP hi
 have e2:=oP hj
 simp only[hi,hj,getElem?_pos,Option.some.injEq]at e1 e2
 rw[<-e1,<-e2]
 simpa using this
variable{a b out:Array Keyed}{i j k:Nat}
end
section
variable{LT:Keyed->Keyed->Bool}{X:Keyed->Prop}{a b out:Array Keyed}{i j p:Nat}
theorem Ej{l:Array Keyed}{x:Keyed}(h:x∈l.toList.take i):∃t,t<i/\t<l.size/\x=kas_item l t:=by
 obtain⟨t,h1,h2,e⟩:=Ef (i:=0) (k:=i) h
 exact⟨t,h1,by omega,by rw[e,Nat.zero_add]⟩
end
section
variable{prog:Program}{w:World}{A:Around}{E:Value->Shared->Prop}{s:Shared}{κ:SortKind}{LT:Keyed->Keyed->Bool}{X:Keyed->Prop}
theorem uN{P R S:List Keyed}{arr:Array Keyed}(h:arr.toList=P++(R++S)){i:Nat}(hi:i<R.length):P.length+i<arr.size/\arr[P.length+i]?=some (kas_item R.toArray i):=by
 have hz:arr.size=P.length+(R.length+S.length):=by rw[<-Array.length_toList,h,List.length_append,List.length_append]
 refine⟨by omega,?_⟩
 rw[<-Array.getElem?_toList,h,List.getElem?_append_right (by omega),Nat.add_sub_cancel_left,List.getElem?_append_left hi]
 have:=oP (l:=R.toArray) (i:=i) (by simpa using hi)
 simpa using this
end
section
variable{prog:Program}{w:World}{A:Around}{E:Value->Shared->Prop}{s:Shared}{κ:SortKind}{LT:Keyed->Keyed->Bool}{X:Keyed->Prop}
variable{R1 R2 P S:List Keyed}{k m:Nat}
theorem im{l:List Keyed}{i:Nat}(h:i<l.length):kas_item l.toArray i∈l:=by
 have:=HW (l:=l.toArray) (i:=i) (by simpa using h)
 simpa using this
theorem ia{l:List Keyed}{i j:Nat}(ha:MA LT l)(h:i<j)(hj:j<l.length):LT (kas_item l.toArray i) (kas_item l.toArray j)=true:=HY (l:=l.toArray) (by simpa using ha) h (by simpa using hj)
theorem io{l:List Keyed}{x:Keyed}(h:x∈l.drop k):∃t,k<=t/\t<l.length/\x=kas_item l.toArray t:=by
 obtain⟨t,h1,h2⟩:=Lz (l:=l.toArray) (i:=k) (by simpa using h)
 exact⟨k+t,by omega,by simpa using h1,h2⟩
theorem ip{l:List Keyed}{x:Keyed}(h:x∈l.take k):∃t,t<k/\t<l.length/\x=kas_item l.toArray t:=by
 obtain⟨t,h1,h2,h3⟩:=Ej (l:=l.toArray) (i:=k) (by simpa using h)
 exact⟨t,h1,by simpa using h2,h3⟩
end
section
variable{prog:Program}{w:World}{A:Around}{E:Value->Shared->Prop}{s:Shared}{κ:SortKind}{LT:Keyed->Keyed->Bool}{X:Keyed->Prop}{P W:List Keyed}
structure Od(LT:Keyed->Keyed->Bool)(X:Keyed->Prop)(W:List Keyed):Prop where
 xx:∀x∈W,X x
 tr:∀{x y z},X x->X y->X z->LT x y=true->LT y z=true->LT x z=true
 asym:∀{x y},X x->X y->LT x y=true->LT y x=false
 pw:W.Pairwise fun x y=>LT x y=true\/LT y x=true
theorem Hk(hl:My prog w A E s κ LT X)(O:Od LT X W){st:SortSt}{i j:Nat}{Q:Option Bool->SortSt->Shared->Prop}(hk:Rows.kindOf st=κ)(ha:(arrOf st).toList=P++W)(hi:i<W.length)(hj:j<W.length)(q:Q (some (LT (kas_item W.toArray i) (kas_item W.toArray j))) st s):kasC (model prog w) A E (ltAt' (P.length+i) (P.length+j)) Q st s:=by
 have h':(arrOf st).toList=P++(W++[]):=by rw[ha,List.append_nil]
 rw[ltAt'_eq]
 refine kasC_bind (kasC_get ?_)
 refine kasC_bind (yn (uN h' hi).2 ?_)
 refine kasC_bind (yn (uN h' hj).2 ?_)
 exact hl _ _ _ _ (O.xx _ (im hi)) (O.xx _ (im hj)) hk q
end
section
variable{prog:Program}{w:World}{A:Around}{E:Value->Shared->Prop}{s:Shared}{κ:SortKind}{LT:Keyed->Keyed->Bool}{X:Keyed->Prop}{P W:List Keyed}
theorem lt1(hl:My prog w A E s κ LT X)(O:Od LT X W){st:SortSt}{n:Nat}{Q:Option Bool->SortSt->Shared->Prop}(hk:Rows.kindOf st=κ)(ha:(arrOf st).toList=P++W)(h1:1<=n)(hn:n<W.length)(q:Q (some (LT (kas_item W.toArray n) (kas_item W.toArray (n-1)))) st s):kasC (model prog w) A E (ltAt' (P.length+n) (P.length+n-1)) Q st s:=by
 rw[show P.length+n-1=P.length+(n-1)by omega]
 exact Hk hl O hk ha hn (by omega) q
end
end OP
namespace OP
open PySem PySem.Spec PyProof.Rows L2 OG
section
variable{P:Program}{w:World}{K:PySem.W.Frag}{h base:Heap}{mg:Str->Option Value}{x q:Str}{st:Stmt}{f C:Addr}{oc:Value}{od an:Option Addr}{osl:Array (Option Value)}{kV doc pm cdv ct:Value}{ps N:List Str}{k:Nat}{c:CS}{cl:Cl}
def Mz(K:PySem.W.Frag)(x q:Str)(st:Stmt)(f:Addr):Prop:=∃fd,Fun K x q st f fd
abbrev fAt(x q:Str)(st:Stmt)(oc:Value)(od an:Option Addr)(osl:Array (Option Value))(kV doc pm cdv ct:Value):Obj:=⟨oc,od,.func (PySem.W.fnOf x q (jO st) (ej st) (ay st) .none kV doc pm an cdv ct),osl⟩
def IP(K:PySem.W.Frag)(x:Str)(st:Stmt):Prop:=∃f,PySem.W.nsIn K mainGlobals x=some (some (.ref f))/\Mz K x x st f
theorem Ni(a:PySem.W.nsIn K mainGlobals x=some (some (.ref f)))(l:K.lookup f=some (fAt x x st oc od an osl kV doc pm cdv ct))(c:PySem.W.codeIn K cdv x=true)(k:PySem.W.keepIn K (.ref f)=true):IP K x st:=⟨f,a,_,BG l c k⟩
def IM(K:PySem.W.Frag):List (Str×Stmt)->Prop
 |[]=>True
 |(x,st)::r=>IP K x st/\IM K r
def IK(K:PySem.W.Frag)(C:Addr)(x q:Str)(st:Stmt):Prop:=∃f,PySem.W.findIn K (.ref C) x=some (some (.ref f))/\PySem.W.isFn K (.ref f)=true/\Mz K x q st f
theorem M7(a:PySem.W.findIn K (.ref C) x=some (some (.ref f)))(i:PySem.W.isFn K (.ref f)=true)(l:K.lookup f=some (fAt x q st oc od an osl kV doc pm cdv ct))(c:PySem.W.codeIn K cdv q=true)(k:PySem.W.keepIn K (.ref f)=true):IK K C x q st:=⟨f,a,i,_,BG l c k⟩
def IJ(K:PySem.W.Frag)(C:Addr):List (Str×Str×Stmt)->Prop
 |[]=>True
 |(x,q,st)::r=>IK K C x q st/\IJ K C r
def II(K:PySem.W.Frag)(C:Addr):List Str->Prop
 |[]=>True
 |x::r=>PySem.W.findIn K (.ref C) x=some none/\II K C r
def Jf(K:PySem.W.Frag):List Str->Prop
 |[]=>True
 |x::r=>PySem.W.nsIn K mainGlobals x=some none/\Jf K r
structure IS(K:PySem.W.Frag)(x:Str)(C:Addr)(ns:List Str)(ms:List (Str×Str×Stmt)):Prop where
 a:PySem.W.nsIn K mainGlobals x=some (some (.ref C))
 pg:PySem.W.plainGet K C Str.empty=true
 hd:PySem.W.hasDictIn K C=true
 po:PySem.W.plainOver K C=true
 sa:PySem.W.findIn K (.ref C) "__setattr__"=some (some (.builtin "object.__setattr__"))
 mc:PySem.W.makesIn K C=true
 kc:PySem.W.keepIn K (.ref C)=true
 nf:II K C ns
 ms:IJ K C ms
theorem II.nas:∀{ns:List Str},II K C ns->∀f∈ns,PySem.W.findIn K (.ref C) f=some none
 |[],_,f,h=>by cases h
 |x::r,h,f,hf=>by
  rcases List.mem_cons.mp hf with rfl|z
  ·exact h.1
  ·exact II.nas h.2 f z
theorem IS.tc{ns:List Str}{ms:List (Str×Str×Stmt)}(h:IS K x C ns ms):TC K (⟨C,ns⟩:Cl) ns:=⟨⟨h.pg,h.hd,h.po,h.sa⟩,rfl,fun f hf=>h.nf.nas f hf⟩
abbrev Bd(x q:Str)(st:Stmt)(ps:List Str):Prop:=∀us:List Value,us.length=ps.length->∀(kV doc pm:Value) (an:Option Addr) (cdv ct:Value),bindArgs (PySem.W.fnOf x q (jO st) (ej st) (ay st) .none kV doc pm an cdv ct) ⟨us,[]⟩=pure (ps.zip us)
theorem IP.df(d:IP K x st)(X:K.In h)(G:h.Ns mainGlobals mg)(b:Bd x x st ps:=by first|exact EY fun _ _ _ _ _ _=>rfl|(repeat (first|exact EY fun _ _ _ _ _ _=>rfl|refine LN fun _=>?_))):Def K mg x st ps:=by
 obtain⟨f,a,fd,F⟩:=d
 exact⟨f,fd,F,F.binds fun kV doc pm an cdv ct us hl=>b us hl kV doc pm an cdv ct,PySem.W.mg_of X G a⟩
def MtD(K:PySem.W.Frag)(C:Addr)(x q:Str)(st:Stmt)(ps:List Str):Prop:=∃fa fd,Fun K x q st fa fd/\iB K fd ps []/\ER K C x fa
theorem IK.mt(d:IK K C x q st)(b:Bd x q st ps:=by first|exact EY fun _ _ _ _ _ _=>rfl|(repeat (first|exact EY fun _ _ _ _ _ _=>rfl|refine LN fun _=>?_))):MtD K C x q st ps:=by
 obtain⟨f,a,i,fd,F⟩:=d
 exact⟨f,fd,F,F.binds fun kV doc pm an cdv ct us hl=>b us hl kV doc pm an cdv ct,a,i,F.kp⟩
theorem MtD.pure(d:MtD K cl.C x q st ps)(S:aQ N ps (ay st))
  (hb:∀(f:Addr) (cdv:Value) (A:Around) (outer:List Env) (s:Shared) (H:Hp) (E:XK),gJ k (A.deeper (envOfC q (ay st) s.heap.objs.size f cdv))->WSs (uZ CX0 P w K mg base N q (ay st) f cdv A outer s H E).nox (ej st) (tS K c)) :
  jr P w K mg base cl x (k+1) ps (fnU N.length ps.length c):=by
 obtain⟨fa,fd,F,b,m⟩:=d
 exact⟨fa,fd,m,F.pure S (hb fa),b⟩
def MkD(K:PySem.W.Frag)(mg:Str->Option Value)(C:Addr)(x q:Str)(st:Stmt)(ps:List Str):Prop:=∃fa fd,Fun K "__init__" q st fa fd/\iB K fd ps []/\Mk K C fa/\mg x=some (.ref C)
theorem IS.mkd{ns:List Str}{ms:List (Str×Str×Stmt)}(h0:IS K x C ns ms)(d:IK K C "__init__" q st)(X:K.In h)(G:h.Ns mainGlobals mg)(b:Bd "__init__" q st ps:=by first|exact EY fun _ _ _ _ _ _=>rfl|(repeat (first|exact EY fun _ _ _ _ _ _=>rfl|refine LN fun _=>?_))):MkD K mg C x q st ps:=by
 obtain⟨f,a,i,fd,F⟩:=d
 exact⟨f,fd,F,F.binds fun kV doc pm an cdv ct us hl=>b us hl kV doc pm an cdv ct,⟨h0.mc,a,i,h0.kc⟩,PySem.W.mg_of X G h0.a⟩
theorem MkD.pure{NS:List Str}(d:MkD K mg cl.C x q st ps)(T:TC K cl NS)(S:aQ N ps (ay st))
  (hb:∀(f:Addr) (cdv:Value) (A:Around) (outer:List Env) (s:Shared) (H:Hp) (E:XK),gJ k (A.deeper (envOfC q (ay st) s.heap.objs.size f cdv))->WSs (uZ CX0 P w K mg base N q (ay st) f cdv A outer s H E).nox (ej st) (tS K c))
  (nd:NS.Nodup:=by decide +kernel) (few:NS.length<1000:=by decide):CMk P w K mg base cl x (k+1) ps (fnU N.length ps.length c):=by
 obtain⟨fa,fd,F,b,m,g⟩:=d
 exact⟨⟨fa,fd,m,F.pure S (hb fa),b,g⟩,by rw[T.ns];exact nd,by rw[T.ns];exact few⟩
def Mu:List Str:=["len","isinstance","int","bool","str","tuple","list","range","min","sum","all","zip","sorted","dict","enumerate","any","max","set"]
theorem Jf.blt(z:Jf K Mu)(X:K.In h)(G:h.Ns mainGlobals mg):Blt mg:=by
 obtain⟨a,b,c,d,e,f,g,i,j,k,l,m,n,o,p,q,r,s,-⟩:=z
 constructor<;>(refine PySem.W.mg_none_of X G ?_;assumption)
theorem Hn{sp:Sp}{fa:Addr}(d:IP K "law" st)(X:K.In h)(G:h.Ns mainGlobals mg)(hfa:mg "law"=some (.ref fa))(ok:∀fd,Fun K "law" "law" st fa fd->∀base:Heap,lW P w K mg base CX0 k fa fd ["script"] sp)
  (b:∀(kV doc pm:Value) (an:Option Addr) (cdv ct v:Value),bindArgs (PySem.W.fnOf "law" "law" (jO st) (ej st) (ay st) .none kV doc pm an cdv ct) ⟨[v],[]⟩=pure [(("script":Str),v)]:=by intros;rfl) :
  ∃fd:FuncData,(∀(s:Shared) (v:Value),BindsTo s fd ⟨[v],[]⟩ [("script",v)])/\∀base:Heap,K.In base->base.Ns mainGlobals mg->lW P w K mg base CX0 k fa fd ["script"] sp:=by
 obtain⟨f,a,fd,F⟩:=d
 cases hfa.symm.trans (PySem.W.mg_of X G a)
 refine⟨fd,fun s v=>?_,fun base _ _=>ok fd F base⟩
 obtain⟨oc,od,kV,doc,pm,an,cdv,ct,osl,rfl,lk,hcd⟩:=F.ex
 exact .of_eq (b kV doc pm an cdv ct v)
end
end OP
namespace OP
open PySem PySem.Spec PyProof PyProof.Rows L2 OG PySem.W
section
variable{P:Program}{w:World}
def NI(P:Program)(w:World)(h:Heap)(k:List Int)(v:Value):Prop:=∃b,v=.ref b/\IsTupleKey (intKind P w) h k b
def tZ(P:Program)(w:World)(h:Heap)(ks:NK)(a:Addr):Prop:=∃o its n,h.get? a=some o/\o.cls=.type "tuple"/\o.data=.seq its n/\Paired (NI P w h) ks its.toList
def dNK(ks:NK):Nat:=(ks.map fun k=>k.length+1).sum
variable{h:Heap}{s:Shared}{A:Around}{E:Value->Shared->Prop}
theorem tZ.ty{ks:NK}{a:Addr}(x:tZ P w s.heap ks a):s.TypeIs (.ref a) "tuple":=let ⟨o,_,_,g,c,_⟩:=x;⟨o,g,c⟩
theorem By:∀{ks ls:NK} {vs:List Value},Paired (NI P w h) ks vs->Paired (NI P w h) ls vs->ks=ls
 |_,_,_,.nil,.nil=>rfl
 |_,_,_,.cons a r,.cons b t=>by
  obtain⟨x,rfl,p⟩:=a
  obtain⟨y,e,q⟩:=b
  cases e
  rw[p.inj q,By r t]
theorem tZ.inj{ks ls:NK}{a:Addr}(x:tZ P w h ks a)(y:tZ P w h ls a):ks=ls:=by
 obtain⟨o,its,n,g,_,d,r⟩:=x
 obtain⟨o',its',n',g',_,d',r'⟩:=y
 rw[g]at g';cases g'
 rw[d]at d';cases d'
 exact By r r'
theorem tZ.keeps{h':Heap}{ks:NK}{a d:Addr}{o:Obj}{es ep}(x:tZ P w h ks a)(g0:h.get? d=some o)(d0:o.data=.dict es ep)(sb:Heap.SameBut d h h'):tZ P w h' ks a:=by
 obtain⟨ob,its,n,g,c,e,r⟩:=x
 have ne:a≠d:=fun z=>by subst z;rw[g]at g0;cases g0;rw[e]at d0;cases d0
 exact⟨ob,its,n,(sb.2 a ne).trans g,c,e,Paired.mapP r fun k v ⟨b,e1,t⟩=>⟨b,e1,t.keeps g0 d0 sb⟩⟩
theorem D3{ks:NK}{a:Addr}{Q:Int->Shared->Prop}(hu:A.units+1<cLine)(hk:tZ P w s.heap ks a)(q:Q (hNK ks) { s with toks:=s.toks+(dNK ks+1) }):wpAny (model P w) A (pyHash (.ref a)) Q E s:=by
 have T:=hk.ty
 obtain⟨o,its,n,g,_,d,r⟩:=hk
 have eh:hNK ks=reduceHash (Builtin.Tuple.tupleHashOf (ks.map (tupleKeyHash (intKind P w)))):=rfl
 rw[eh]at q
 clear eh
 unfold pyHash
 first|unfold pyHashByItsType|skip
 first|refine wpAny_bind (wpAny_cRoomFor_or (Or.inr (Nat.lt_of_succ_lt hu)) ?_)|skip
 refine wpAny_bind (wpAny_specialOf T PySem.F.slot_tuple_hash.lookup ?_)
 have nb:¬(some (Value.builtin "tuple.__hash__") == some Value.none)=true:=by rw[beq_builtin_none];exact Bool.false_ne_true
 dsimp only
 rw[if_neg nb]
 refine wpAny_bind (wpAny_specialOf T PySem.F.slot_tuple_hash.lookup ?_)
 refine wpAny_bind (wpAny_callSpecialIfBoundUnlessNone?_slot T PySem.F.slot_tuple_hash (wpAny_call_entry PySem.F.slot_tuple_hash T PySem.F.entry_tuple_hash ?_ (PySem.F.args_tuple_hash_1 _)))
 refine wpAny_bind (m:=Builtin.Tuple.tupleItemsOf (.ref a)) (wpAny_tupleItemsOf g d ?_)
 refine wpAny_bind ?_
 rw[<-Array.forIn_toList]
 refine wpAny_forIn_list _ (fun rest (b:Array Int) s'=>∃fore aft,ks=fore++aft/\Paired (NI P w s.heap) aft rest/\b.toList=fore.map (tupleKeyHash (intKind P w))/\s'={ s with toks:=s.toks+dNK fore }) _ ?_ ?_ _ _ ⟨[],ks,rfl,r,rfl,rfl⟩
 ·rintro x rest b s' ⟨fore,aft,rfl,hl,hb,rfl⟩
  cases hl with
  |@cons k _ ks' _ h1 hl'=>
   obtain⟨c,rfl,t⟩:=h1
   refine wpAny_bind (wpAny_pyHash_tuple (s:={ s with toks:=s.toks+dNK fore }) hu t ?_)
   have fin:∃fore' aft',fore++k::ks'=fore'++aft'/\Paired (NI P w s.heap) aft' rest/\(b.push (tupleKeyHash (intKind P w) k)).toList=fore'.map (tupleKeyHash (intKind P w))/\({ s with toks:=s.toks+dNK fore+(k.length+1) }:Shared)={ s with toks:=s.toks+dNK fore' }:=⟨fore++[k],ks',by simp,hl',by simp[hb],by simp[dNK,Nat.add_assoc]⟩
   first
    |exact wpAny_pure fin
    |exact wpAny_bind (wpAny_pure (wpAny_pure fin))
 ·rintro b s' ⟨fore,aft,rfl,hl,hb,rfl⟩
  cases hl
  rw[List.append_nil]at q
  show wpAny _ _ (retInt (Builtin.Tuple.tupleHashOf b.toList)) _ _ _
  rw[hb]
  refine wpAny_ret_mkInt ?_
  unfold reduceHash at q
  unfold pyHashByItsType.reduced
  dsimp only
  split at q
  ·rename_i c
   rw[if_pos c]
   exact wpAny_pure (by simpa [Nat.add_assoc] using q)
  ·rename_i c
   rw[if_neg c]
   exact wpAny_bind (wpAny_rule (wpAny_pure (by simpa [Nat.add_assoc] using q)))
theorem Hi{x y:NK}{a b:Addr}{R:PySem.Fin->Shared->Prop}(hu:A.units<cLine)(hx:tZ P w s.heap x a)(hy:tZ P w s.heap y b)(q:R (.done (.ret (.bool (decide (x=y))))) s) :
  wpAny (model P w) A (Builtin.«tuple.__eq__» ⟨[.ref a,.ref b],[]⟩) R E s:=by
 have T:=hy.ty
 obtain⟨oa,xs,na,ga,_,da,ra⟩:=hx
 obtain⟨ob,ys,nb,gb,_,db,rb⟩:=hy
 refine wpAny_bind (m:=isInstance (.ref b) (.type "tuple")) (wpAny_isInstance T isSubtype_tuple_tuple ?_)
 simp only[Bool.not_true,Bool.false_eq_true,if_false]
 refine wpAny_bind (wpAny_tupleItemsOf ga da (wpAny_bind (wpAny_tupleItemsOf gb db (wpAny_bind ?_))))
 refine wpAny_forIn_list _ (fun rest r s'=>r.1=none/\s'=s/\∃x' y' us vs,rest=List.zip us vs/\Paired (NI P w s.heap) x' us/\Paired (NI P w s.heap) y' vs/\decide (x'=y')=decide (x=y)/\(us.length == vs.length)=(xs.size == ys.size)) _ ?_ ?_ _ _ ⟨rfl,rfl,x,y,xs.toList,ys.toList,rfl,ra,rb,rfl,by simp⟩
 ·rintro⟨u,v⟩ rest r s' ⟨hr,rfl,x',y',us,vs,hz,h1,h2,hd,hl⟩
  cases h1 with
  |nil=>simp at hz
  |@cons k1 _ x2 us2 p1 t1=>cases h2 with
   |nil=>simp at hz
   |@cons k2 _ y2 vs2 p2 t2=>
    rw[List.zip_cons_cons]at hz
    injection hz with e1 e2
    injection e1 with e3 e4
    subst e2;subst e3;subst e4
    obtain⟨c1,rfl,q1⟩:=p1
    obtain⟨c2,rfl,q2⟩:=p2
    refine wpAny_bind (wpAny_eqBool_tuple hu q1 q2 ?_)
    by_cases hk:k1=k2
    ·subst hk
     rw[decide_eq_true rfl]
     simp only[Bool.not_true,Bool.false_eq_true,if_false]
     refine wpAny_pure ⟨rfl,rfl,x2,y2,us2,vs2,rfl,t1,t2,?_,by simpa using hl⟩
     rw[<-hd]
     by_cases hxy:x2=y2<;>simp[hxy]
    ·rw[decide_eq_false hk]
     simp only[Bool.not_false,if_true]
     have hf:decide (x=y)=false:=by rw[<-hd];simp[hk]
     rw[hf]at q
     exact wpAny_bind (wpAny_pure (wpAny_pure (wpAny_pure q)))
 ·rintro⟨r1,r2⟩ s' ⟨hr,rfl,x',y',us,vs,hz,h1,h2,hd,hl⟩
  dsimp only at hr
  subst hr
  refine wpAny_pure ?_
  have e:(xs.size == ys.size)=decide (x=y):=by
   rw[<-hd,<-hl]
   cases h1 with
   |nil=>cases h2 with
    |nil=>simp
    |cons _ _=>simp
   |cons _ _=>cases h2 with
    |nil=>simp
    |cons _ _=>simp at hz
  rw[<-e]at q
  exact q
theorem KS{x y:NK}{a b:Addr}{Q:Bool->Shared->Prop}(hu:A.units+1<cLine)(hx:tZ P w s.heap x a)(hy:tZ P w s.heap y b)(q:Q (decide (x=y)) s):wpAny (model P w) A (eqBool (.ref a) (.ref b)) Q E s:=by
 unfold eqBool
 try with_reducible refine wpAny_holding ?_
 dsimp only
 by_cases hab:(Value.ref a == Value.ref b)=true
 ·rw[if_pos hab]
  have e:a=b:=by have:=eq_of_beq hab;injection this
  subst e
  obtain rfl:=hx.inj hy
  exact wpAny_bind (wpAny_rule (wpAny_pure (by simpa using q)))
 ·rw[if_neg hab]
  exact wpAny_bind (wpAny_richCompare_same_room (op:=.Eq) hx.ty hy.ty PySem.F.slot_tuple_eq (wpAny_call_entry PySem.F.slot_tuple_eq hx.ty PySem.F.entry_tuple_eq (Hi hu hx hy ⟨_,rfl,(fun e=>nomatch e),wpAny_truthy_bool q⟩) (PySem.F.args_tuple_eq_2 _ _)) (Nat.lt_of_succ_lt hu))
theorem xA{ks:List Int}{a:Addr}{n:Nat}{Q:Bool->Shared->Prop}(hk:IsTupleKey (intKind P w) s.heap ks a)(q:Q true s):wpAny (model P w) A (eqIsQuiet (n+1) (.ref a)) Q E s:=by
 have T:=hk.typeIs
 obtain⟨o,its,k,g,_,d,i⟩:=hk
 unfold eqIsQuiet
 refine wpAny_bind (wpAny_specialOf T PySem.F.slot_tuple_eq.lookup ?_)
 refine wpAny_bind (m:=isInstance (.ref a) (.type "tuple")) (wpAny_isInstance T isSubtype_tuple_tuple ?_)
 simp only[Bool.not_true,Bool.false_eq_true,if_false]
 refine wpAny_bind (wpAny_seqItems g d (wpAny_bind ?_))
 change wpAny _ _ (forIn its _ _) _ _ s
 rw[<-Array.forIn_toList]
 refine wpAny_forIn_list _ (fun rest r s'=>r.1=none/\s'=s/\∀v∈rest,carriedByValue v=true) _ ?_ ?_ _ _ ⟨rfl,rfl,i.byValue⟩
 ·rintro v rest r s' ⟨hr,rfl,all⟩
  rw[eqIsQuiet_byValue _ (all v List.mem_cons_self)]
  refine wpAny_bind (wpAny_pure ?_)
  simp only[Bool.not_true,Bool.false_eq_true,if_false]
  exact wpAny_pure ⟨rfl,rfl,fun u hu'=>all u (List.mem_cons_of_mem _ hu')⟩
 ·rintro⟨r1,r2⟩ s' ⟨hr,rfl,_⟩
  dsimp only at hr
  subst hr
  exact wpAny_pure q
theorem Ao{ks:NK}{a:Addr}{Q:Bool->Shared->Prop}(hk:tZ P w s.heap ks a)(q:Q true s):wpAny (model P w) A (eqIsQuiet 8 (.ref a)) Q E s:=by
 have T:=hk.ty
 obtain⟨o,its,k,g,_,d,i⟩:=hk
 unfold eqIsQuiet
 refine wpAny_bind (wpAny_specialOf T PySem.F.slot_tuple_eq.lookup ?_)
 refine wpAny_bind (m:=isInstance (.ref a) (.type "tuple")) (wpAny_isInstance T isSubtype_tuple_tuple ?_)
 simp only[Bool.not_true,Bool.false_eq_true,if_false]
 refine wpAny_bind (wpAny_seqItems g d (wpAny_bind ?_))
 change wpAny _ _ (forIn its _ _) _ _ s
 rw[<-Array.forIn_toList]
 refine wpAny_forIn_list _ (fun rest r s'=>r.1=none/\s'=s/\∃ls,Paired (NI P w s.heap) ls rest) _ ?_ ?_ _ _ ⟨rfl,rfl,ks,i⟩
 ·rintro v rest r s' ⟨hr,rfl,ls,all⟩
  cases all with
  |cons p t=>
   obtain⟨c,rfl,p⟩:=p
   refine wpAny_bind (xA p ?_)
   simp only[Bool.not_true,Bool.false_eq_true,if_false]
   exact wpAny_pure ⟨rfl,rfl,_,t⟩
 ·rintro⟨r1,r2⟩ s' ⟨hr,rfl,_⟩
  dsimp only at hr
  subst hr
  exact wpAny_pure q
end
def gS(P:Program)(w:World):HeapKind P w NK where
 is:=tZ P w
 hash:=hNK
 draws:=fun ks=>dNK ks+1
 room:=fun A=>A.units+1<cLine
 inj:=fun x y=>x.inj y
 keeps:=fun x g d sb=>x.keeps g d sb
 pyHash:=fun hu hk q=>D3 hu hk q
 eqBool:=fun hu x y q=>KS hu x y q
 quiet:=fun hk q=>Ao hk q
section
variable{P:Program}{w:World}{K:PySem.W.Frag}{m:List Addr}{H:Hp}
theorem uS:∀{ns:List Int} {us:List Value},cI (ns.map V.int) us->ItemsAre (intKind P w) ns us
 |[],_,r=>by cases r;exact .nil
 |n::ns,_,r=>by
  cases r with
  |cons a t=>obtain⟨k,rfl⟩:=a;exact .cons (intKind_is _ _ _ _) (uS t)
theorem uu:∀{cs:List Addr} {us:List Value},cI (cs.map V.ref) us->us=cs.map Value.ref
 |[],_,r=>by cases r;rfl
 |c::cs,_,r=>by
  cases r with
  |cons a t=>cases a;rw[uu t];rfl
variable{X:Cx}{pins:List (Addr×Obj)}{σ:L2.St}{s:Shared}{a b:Addr}{k:NK}{kvs:List ((NK×Addr)×V)}{v:V}{A:Around}{E:Value->Shared->Prop}
theorem xJ(I:Inv X pins σ H s)(h:lj X.K H b k):(gS X.prog X.w).is s.heap k b:=by
 obtain⟨cs,p,q⟩:=h
 obtain⟨its,r,⟨o,h1,h2,n,h3⟩,hz⟩:=I.tuple p
 have e:=uu r
 subst e
 refine⟨o,_,n,h1,h2,h3,?_⟩
 clear p r h3 hz
 induction q with
 |nil=>exact .nil
 |cons z _ ih=>
  refine .cons ?_ ih
  obtain⟨its,r,⟨o,h1,h2,n,h3⟩,_⟩:=I.tuple z
  exact⟨_,rfl,o,its.toArray,n,h1,h2,h3,by simpa using uS r⟩
theorem KN.val{xs:List (NK×Addr×Value)}(r:KN kvs xs)(k:NK):qk (fX (nP kvs) k) ((atKey xs k).map (·.2)):=by
 induction r with
 |nil=>exact True.intro
 |@cons p q ps qs h t ih=>
  obtain⟨h1,_,h2⟩:=h
  by_cases e:p.1.1=k
  ·have e':q.1=k:=h1.symm.trans e
   have b:atKey (q::qs) k=some q.2:=by simp[atKey,List.find?_cons,e']
   have c:fX (nP (p::ps)) k=some p.2:=by simp[fX,nP,List.find?_cons,e]
   rw[c,b];exact h2
  ·have e':¬q.1=k:=fun z=>e (h1.trans z)
   have b:atKey (q::qs) k=atKey qs k:=by simp[atKey,List.find?_cons,e']
   have c:fX (nP (p::ps)) k=fX (nP ps) k:=by simp[fX,nP,List.find?_cons,e]
   rw[c,b];exact ih
def xf(kvs:List ((NK×Addr)×V))(k:NK)(b:Addr)(v:V):List ((NK×Addr)×V):=if (fX (nP kvs) k).isSome=true then kvs.map fun p=>if p.1.1=k then(p.1,v)else p else kvs++[((k,b),v)]
theorem Hj:nP (xf kvs k b v)=mv (nP kvs) k v:=by
 unfold xf mv
 have e:((nP kvs).any fun kv=>decide (kv.1=k))=(fX (nP kvs) k).isSome:=by rw[jW]
 rw[e]
 split
 ·unfold nP
  rw[List.map_map,List.map_map]
  refine List.map_congr_left fun p _=>?_
  dsimp only[Function.comp]
  by_cases c:p.1.1=k
  ·rw[if_pos c,if_pos c]
  ·rw[if_neg c,if_neg c]
 ·unfold nP;rw[List.map_append];rfl
theorem zV{p:(NK×Addr)×V}(h:p∈xf kvs k b v):(∃q∈kvs,q.1=p.1)\/p.1=(k,b):=by
 unfold xf at h
 split at h
 ·obtain⟨q,hq,e⟩:=List.mem_map.mp h
  refine .inl ⟨q,hq,?_⟩
  split at e
  ·rw[<-e]
  ·rw[e]
 ·rcases List.mem_append.mp h with z|z
  ·exact .inl ⟨p,z,rfl⟩
  ·rw[List.mem_singleton.mp z];exact .inr rfl
theorem zW:(xf kvs k b v).length<=kvs.length+1:=by
 unfold xf
 split
 ·rw[List.length_map];omega
 ·rw[List.length_append];exact Nat.le_refl _
theorem KN.put{xs:List (NK×Addr×Value)}{u:Value}(r:KN kvs xs)(ru:dB v u):KN (xf kvs k b v) (storedH xs k b u):=by
 have e:=(r.val k).isSome_eq
 rw[Option.isSome_map]at e
 unfold xf storedH
 rw[e]
 split
 ·clear e
  rename_i hs
  clear hs
  induction r with
  |nil=>exact .nil
  |@cons p q ps qs h t ih=>
   rw[List.map_cons,List.map_cons]
   refine .cons ?_ ih
   obtain⟨h1,h2,h3⟩:=h
   unfold putAt
   by_cases c:p.1.1=k
   ·rw[if_pos c,if_pos (h1.symm.trans c)];exact⟨h1,h2,ru⟩
   ·rw[if_neg c,if_neg (fun z=>c (h1.trans z))];exact⟨h1,h2,h3⟩
 ·exact Paired.snoc r ⟨rfl,rfl,ru⟩
theorem yt(I:Inv X pins σ H s)(e:Rd H a (dNo a kvs))(ky:∀p∈kvs,lj X.K H p.1.2 p.1.1):kvs.length<=sizeLine/\(a == sysModules)=false/\∃xs,KN kvs xs/\s.heap.DictOfH (gS X.prog X.w) a xs:=by
 obtain⟨⟨z,y,xs,r,o,es,ep,h1,h2,h3,h4,h5⟩,rest⟩:=(show cM X.prog X.w H s.heap a (dNo a kvs)from e.ok I.hok)
 refine⟨z,y,xs,r,o,es,ep,h1,h2,h3,h4,fun x hx=>?_,h5⟩
 clear h4 h5 e z rest
 induction r with
 |nil=>exact nomatch hx
 |@cons p q ps qs hq t ih=>
  rcases List.mem_cons.mp hx with e|hx
  ·subst e
   have:=xJ I (ky p List.mem_cons_self)
   rw[hq.1,hq.2.1]at this
   exact this
  ·exact ih (fun p hp=>ky p (List.mem_cons_of_mem _ hp)) hx
theorem KZ{Q:Value->Shared->Prop}(hu:A.units+2<cLine)(I:Inv X pins σ H s)(e:Rd H a (dNo a kvs))(ky:∀p∈kvs,lj X.K H p.1.2 p.1.1)(kb:lj X.K H b k)(l:fX (nP kvs) k=some v)(q:∀w' s',Inv X pins σ H s'->dB v w'->Q w' s') :
  wpAny (model X.prog X.w) A (getItem (.ref a) (.ref b)) Q E s:=by
 obtain⟨z,hd,xs,rel,dd⟩:=yt I e ky
 obtain⟨w',hw,rw'⟩:=qk.some_of (v:=v) (o:=(atKey xs k).map (·.2)) (by rw[<-l];exact rel.val k)
 obtain⟨p,hp,hp2⟩:=Option.map_eq_some_iff.mp hw
 refine wpAny_getItem_heap (knd:=gS X.prog X.w) hu (xJ I kb) dd hp ?_
 rw[hp2]
 exact q w' _ (I.tok _) rw'
theorem KY{Q:Value->Shared->Prop}(hu:A.units+2<cLine)(I:Inv X pins σ H s)(e:Rd H a (dNo a kvs))(ky:∀p∈kvs,lj X.K H p.1.2 p.1.1)(kb:lj X.K H b k)(q:∀s',Inv X pins σ H s'->Q (.bool (!(fX (nP kvs) k).isSome)) s') :
  wpAny (model X.prog X.w) A (compareOp .NotIn (.ref b) (.ref a)) Q E s:=by
 obtain⟨z,hd,xs,rel,dd⟩:=yt I e ky
 refine wpAny_notIn_heap (knd:=gS X.prog X.w) hu (xJ I kb) hd dd ?_
 have e1:=(rel.val k).isSome_eq
 rw[Option.isSome_map]at e1
 rw[<-e1]
 exact q _ (I.tok _)
theorem yu{h':Heap}{P:Program}{w:World}{xs:List (NK×Addr×Value)}(z:kvs.length<=sizeLine)(hd:(a == sysModules)=false)(rel:KN kvs xs)(dd:h'.DictOfH (gS P w) a xs):cM P w H h' a (dNo a kvs):=by
 obtain⟨o,es,ep,h1,h2,h3,h4,_,h5⟩:=dd
 refine⟨⟨z,hd,xs,rel,o,es,ep,h1,h2,h3,h4,h5⟩,⟨o,h1⟩,fun g1 g2 ⟨z,y,xs,r,o,es,ep,h1,h2⟩ k=>⟨z,y,xs,r,o,es,ep,k o h1,h2⟩⟩
theorem KW{u:Value}{Q:Unit->Shared->Prop}(hu:A.units+2<cLine)(I:Inv X pins σ H s)(e:H a=some (dNo a kvs))(ky:∀p∈kvs,lj X.K H p.1.2 p.1.1)(kb:lj X.K H b k)(hl:kvs.length<sizeLine)(ru:dB v u)
  (q:∀s',Inv X pins σ (upd H a (dNo a (xf kvs k b v))) s'->Q () s'):wpAny (model X.prog X.w) A (setItem (.ref a) (.ref b) u) Q E s:=by
 obtain⟨z,hd,xs,rel,dd⟩:=yt I (.inl e) ky
 have hz:xs.length<=sizeLine:=by rw[<-Paired.length rel];exact z
 refine wpAny_setItem_heap (hsz:=hz) (knd:=gS X.prog X.w) hu (xJ I kb) dd fun h' dd' hs=>q _ ?_
 obtain⟨o,es,ep,h1,_⟩:=id dd'
 exact nE I (by rw[e];exact True.intro) hs ⟨o,h1⟩ (yu (by have:=zW (kvs:=kvs) (k:=k) (b:=b) (v:=v);omega) hd (rel.put ru) dd')
end
section
variable{X:Cx}{K:PySem.W.Frag}{m:List Addr}{H:Hp}
def xy:List U->Option NK
 |[]=>some []
 |.tup us::r=>(n9 us).bind fun k=>(xy r).map (k::·)
 |_=>none
theorem xw:∀{us:List U} {xs:List V} {ks:NK},IsL K m H xs us->xy us=some ks->∃cs:List Addr,xs=cs.map V.ref/\Paired (fun(l:List Int) c=>SqT K H c (l.map V.int)) ks cs
 |[],xs,ks,i,h=>by cases h;exact⟨[],i.of_nil,.nil⟩
 |u::us,xs,ks,i,h=>by
  unfold xy at h
  split at h
  ·rename_i e;cases e
  ·rename_i us' r e
   injection e with e1 e2
   subst e1;subst e2
   obtain⟨k,hk,h⟩:=Option.bind_eq_some_iff.mp h
   obtain⟨ks',hk',rfl⟩:=Option.map_eq_some_iff.mp h
   obtain⟨x,r,rfl,ix,ir⟩:=i.of_cons
   obtain⟨c,ys,rfl,sq,il⟩:=ix.of_tup
   rw[ki hk]at il
   rw[IsL.ints il]at sq
   obtain⟨cs,rfl,q⟩:=xw ir hk'
   exact⟨c::cs,rfl,.cons sq q⟩
  ·cases h
theorem Az{us:List U}{v:V}{ks:NK}(i:Is K m H v (.tup us))(h:xy us=some ks):∃b,v=.ref b/\lj K H b ks:=by
 obtain⟨b,xs,rfl,sq,il⟩:=i.of_tup
 obtain⟨cs,rfl,q⟩:=xw il h
 exact⟨b,rfl,cs,sq,q⟩
def Ey(S:Sto)(l:Nat):Option (List (NK×U)):=match S[l]? with
 |some (.dnt kus)=>some kus
 |some (.fdn _ kus)=>some kus
 |_=>none
theorem Iw{S:Sto}{l:Nat}{kus:List (NK×U)}{a:Addr}(sr:Sr K m S H)(ha:m[l]?=some a)(h:Ey S l=some kus):∃kvs,Rd H a (dNo a kvs)/\(∀p∈kvs,lj K H p.1.2 p.1.1)/\IsP K m H (nP kvs) kus:=by
 unfold Ey at h
 split at h<;>try cases h
 ·rename_i hS
  obtain⟨a',ha',kvs,hx,ky,ip⟩:=sr.get hS
  rw[ha]at ha';cases ha'
  exact⟨kvs,.inl hx,ky,ip⟩
 ·rename_i ep hS
  obtain⟨a',ha',ob,es,kvs,hx,hd,ky,ip⟩:=sr.get hS
  rw[ha]at ha';cases ha'
  exact⟨kvs,.inr ⟨ob,hx⟩,ky,ip⟩
def Kl(K:PySem.W.Frag)(td ty:TE):TE:=fun σ H Q=>td σ H fun x H1=>ty σ H1 fun y H2=>∃a b kvs k v,x=.ref a/\y=.ref b/\Rd H2 a (dNo a kvs)/\(∀p∈kvs,lj K H2 p.1.2 p.1.1)/\lj K H2 b k/\fX (nP kvs) k=some v/\Q v H2
theorem C1{o i:Expr}{td ty:TE}{pos:Pos}(hu:X.A.units+2<cLine)(ho:WE X o td)(hi:WE X i ty)(hs:E3 i):WE X (.Subscript o i pos) (Kl X.K td ty):=by
 constructor
 intro pins s σ H Q I h
 refine wM PySem.F.slot_dict_getitem.lookup hs (thn (ho.h pins s σ H _ I h) fun u s1 hz=>?_)
 obtain⟨x,H1,I1,rx,q1⟩:=hz
 refine thn (hi.h pins s1 σ H1 _ I1 q1) fun iv s2 hz=>?_
 obtain⟨y,H2,I2,ry,a,b,kvs,k,v,rfl,rfl,e,ky,kb,l,q2⟩:=hz
 cases rx
 cases ry
 obtain⟨_,_,xs,rel,dd⟩:=yt I2 e ky
 exact⟨dd.typeIs,KZ hu I2 e ky kb l fun w' s' I' r=>⟨v,H2,I',r,q2⟩⟩
def vY:U->U->Sto->Option (U×Sto):=fun x y S=>match x with
 |.ref l=>match y with
  |.tup us=>(xy us).bind fun ks=>(Ey S l).bind fun kus=>(cE kus ks).bind fun u=>some (u,S)
  |_=>none
 |_=>none
theorem Dr{a b:Expr}{ca cb:CE}{pos:Pos}(hu:X.A.units+2<cLine)(ha:QE X a ca)(hb:QE X b cb)(hs:E3 b):QE X (.Subscript a b pos) (cOp vY ca cb):=
 (C1 hu ha hb hs).imp fun σ H Q hz=>nX hz fun m ρ S u S' sr lr hc post=>by
 obtain⟨⟨x,S1⟩,h1,h⟩:=Option.bind_eq_some_iff.mp hc
 obtain⟨⟨y,S2⟩,h3,h4⟩:=Option.bind_eq_some_iff.mp h
 refine⟨m,ρ,S,_,S1,sr,lr,h1,fun m1 v1 H1 e1 sr1 i1=>⟨m1,ρ,S1,_,S2,sr1,lr.mono e1,h3,fun m2 v2 H2 e2 sr2 i2=>?_⟩⟩
 cases x with
 |ref l=>cases y with
  |tup us=>
   simp only[vY]at h4
   obtain⟨ks,hk,h5⟩:=Option.bind_eq_some_iff.mp h4
   obtain⟨kus,hd,h6⟩:=Option.bind_eq_some_iff.mp h5
   obtain⟨z,hv,h7⟩:=Option.bind_eq_some_iff.mp h6
   cases h7
   obtain⟨a,ha,rfl⟩:=(i1.mono e2).of_ref
   obtain⟨b,rfl,kb⟩:=Az i2 hk
   obtain⟨kvs,rd,ky,ip⟩:=Iw sr2 ha hd
   have rf:=IsP.val (k:=ks) ip
   rw[hv]at rf
   cases hw:fX (nP kvs) ks with
   |none=>rw[hw]at rf;exact rf.elim
   |some w=>
    rw[hw]at rf
    exact⟨a,b,kvs,ks,w,rfl,rfl,rd,ky,kb,hw,post m2 _ H2 (e1.trans e2) sr2 rf⟩
  |_=>cases h4
 |_=>cases h4
def F4(K:PySem.W.Frag)(ty td:TE):TE:=fun σ H Q=>ty σ H fun y H1=>td σ H1 fun x H2=>∃a b kvs k,x=.ref a/\y=.ref b/\Rd H2 a (dNo a kvs)/\(∀p∈kvs,lj K H2 p.1.2 p.1.1)/\lj K H2 b k/\Q (.bl (!(fX (nP kvs) k).isSome)) H2
theorem C2{o i:Expr}{td ty:TE}(hu:X.A.units+2<cLine)(hi:WE X i ty)(ho:WE X o td):WC X .NotIn i o (F4 X.K ty td):=by
 constructor
 intro pins s σ H Q I h
 refine thn (hi.h pins s σ H _ I h) fun iv s1 hz=>?_
 obtain⟨y,H1,I1,ry,q1⟩:=hz
 refine thn (ho.h pins s1 σ H1 _ I1 q1) fun u s2 hz=>?_
 obtain⟨x,H2,I2,rx,a,b,kvs,k,rfl,rfl,e,ky,kb,q2⟩:=hz
 cases rx
 cases ry
 exact KY hu I2 e ky kb fun s3 I3=>⟨.bl _,H2,I3,rfl,q2⟩
def AN:U->U->Sto->Option (U×Sto):=fun y x S=>match x with
 |.ref l=>match y with
  |.tup us=>(xy us).bind fun ks=>(Ey S l).bind fun kus=>some (.bl (!(cE kus ks).isSome),S)
  |_=>none
 |_=>none
theorem An{ca cb:CE}:∀σ H Q,tE X.K (cOp AN ca cb) σ H Q->F4 X.K (tE X.K ca) (tE X.K cb) σ H Q:=by
 rintro σ H Q ⟨m,ρ,S,u,S',sr,lr,hc,post⟩
 obtain⟨⟨y,S1⟩,h1,h⟩:=Option.bind_eq_some_iff.mp hc
 obtain⟨⟨x,S2⟩,h3,h4⟩:=Option.bind_eq_some_iff.mp h
 refine⟨m,ρ,S,_,S1,sr,lr,h1,fun m1 v1 H1 e1 sr1 i1=>⟨m1,ρ,S1,_,S2,sr1,lr.mono e1,h3,fun m2 v2 H2 e2 sr2 i2=>?_⟩⟩
 cases x with
 |ref l=>cases y with
  |tup us=>
   simp only[AN]at h4
   obtain⟨ks,hk,h5⟩:=Option.bind_eq_some_iff.mp h4
   obtain⟨kus,hd,h6⟩:=Option.bind_eq_some_iff.mp h5
   cases h6
   obtain⟨a,ha,rfl⟩:=i2.of_ref
   obtain⟨b,rfl,kb⟩:=Az (i1.mono e2) hk
   obtain⟨kvs,rd,ky,ip⟩:=Iw sr2 ha hd
   have rf:=IsP.val (k:=ks) ip
   have es:(fX (nP kvs) ks).isSome=(cE kus ks).isSome:=by
    cases h7:fX (nP kvs) ks<;>cases h8:cE kus ks<;>rw[h7,h8]at rf<;>first|rfl|exact rf.elim
   refine⟨a,b,kvs,ks,rfl,rfl,rd,ky,kb,?_⟩
   rw[es]
   exact post m2 _ H2 (e1.trans e2) sr2 .bl_
  |_=>cases h4
 |_=>cases h4
theorem qL{a b:Expr}{ca cb:CE}{pos:Pos}(hu:X.A.units+2<cLine)(ha:QE X a ca)(hb:QE X b cb)(hm:behindInMarks .NotIn b=false):QT X (.Compare a [.NotIn] [b] pos) (aH (cOp AN ca cb)):=(sg (C2 hu ha hb) hm).imp (i8 An)
def Kk(K:PySem.W.Frag)(td ty tv:TE):TS:=fun D σ H=>tv σ H fun v H1=>td σ H1 fun x H2=>ty σ H2 fun y H3=>∃a b kvs k,x=.ref a/\y=.ref b/\H3 a=some (dNo a kvs)/\(∀p∈kvs,lj K H3 p.1.2 p.1.1)/\lj K H3 b k/\kvs.length<sizeLine/\D.nx σ (upd H3 a (dNo a (xf kvs k b v)))
theorem CF{o i e:Expr}{td ty tv:TE}{pos pos':Pos}(hu:X.A.units+2<cLine)(ho:WE X o td)(hi:WE X i ty)(hv:WE X e tv)(hs:swapsWith e (some (.Subscript o i pos')) pos.line X.env=pure false):WS X (.Assign [.Subscript o i pos'] e pos) (Kk X.K td ty tv):=by
 constructor
 intro pins s σ H D I h
 refine wpAny_Assign_Subscript (thn (hv.h pins s σ H _ I h) fun r s1 hz=>?_) hs
 obtain⟨v,H1,I1,rv,q1⟩:=hz
 refine thn (ho.h pins s1 σ H1 _ I1 q1) fun u s2 hz=>?_
 obtain⟨x,H2,I2,rx,q2⟩:=hz
 refine thn (hi.h pins s2 σ H2 _ I2 q2) fun iv s3 hz=>?_
 obtain⟨y,H3,I3,ry,a,b,kvs,k,rfl,rfl,e1,ky,kb,hl,q3⟩:=hz
 cases rx
 cases ry
 exact KW hu I3 e1 ky kb hl rv fun s4 I4=>⟨σ,_,I4,q3⟩
def kX(co ci cv:CE):CS:=fun ρ S=>(cv ρ S).bind fun p=>(co ρ p.2).bind fun q=>(ci ρ q.2).bind fun r=>match q.1 with
 |.ref l=>match r.1 with
  |.tup us=>match r.2[l]? with
   |some (.dnt kus)=>(xy us).bind fun k=>if kus.length<LIM then some (.nx,ρ,r.2.set l (.dnt (kE kus k p.1)))else none
   |_=>none
  |_=>none
 |_=>none
theorem qK{o i e:Expr}{co ci cv:CE}{pos pos':Pos}(hu:X.A.units+2<cLine)(ho:QE X o co)(hi:QE X i ci)(hv:QE X e cv)(hs:swapsWith e (some (.Subscript o i pos')) pos.line X.env=pure false:=by rfl):QS X (.Assign [.Subscript o i pos'] e pos) (kX co ci cv):=
 (CF hu ho hi hv hs).imp fun D σ H hz=>vM hz fun m ρ S oo ρ' S' sr lr hc post=>by
 obtain⟨⟨v,S1⟩,h1,ha⟩:=Option.bind_eq_some_iff.mp hc
 obtain⟨⟨ou,S2⟩,h2,hb⟩:=Option.bind_eq_some_iff.mp ha
 obtain⟨⟨iu,S3⟩,h3,h⟩:=Option.bind_eq_some_iff.mp hb
 clear ha hb hc
 cases ou with
 |ref l=>cases iu with
  |tup us=>
   simp only at h
   split at h<;>try cases h
   rename_i kus hS
   obtain⟨k,hk,h4⟩:=Option.bind_eq_some_iff.mp h
   split at h4<;>try cases h4
   rename_i hlen
   refine⟨m,ρ,S,v,S1,sr,lr,h1,fun m1 v1 H1 e1 sr1 i1=>⟨m1,ρ,S1,_,S2,sr1,lr.mono e1,h2,fun m2 v2 H2 e2 sr2 i2=>⟨m2,ρ,S2,_,S3,sr2,lr.mono (e1.trans e2),h3,fun m3 v3 H3 e3 sr3 i3=>?_⟩⟩⟩
   obtain⟨a,ha,rfl⟩:=(i2.mono e3).of_ref
   obtain⟨a',ha',kvs,hx,ky,ip⟩:=sr3.get hS
   rw[ha]at ha';cases ha'
   obtain⟨b,rfl,kb⟩:=Az i3 hk
   have e13:=(e1.trans e2).trans e3
   have ee:Ext X.K m3 H3 m3 (upd H3 a (dNo a (xf kvs k b v1))):=.of (sr3.keep ha _)
   have hl:kvs.length<sizeLine:=Hl (by have:=IsP.length ip;unfold nP at this;rw[List.length_map]at this;rw[this];exact hlen)
   refine⟨a,b,kvs,k,rfl,rfl,hx,ky,kb,hl,post m3 σ _ (e13.trans ee) (sr3.put ha ⟨_,aS,fun p hp=>?_,?_⟩) (lr.mono (e13.trans ee))⟩
   ·rcases zV hp with⟨q,hq,e⟩|e
    ·rw[<-e];exact(ky q hq).mono ee.keep
    ·rw[e];exact kb.mono ee.keep
   ·rw[Hj]
    exact(IsP.put ip (i1.mono (e2.trans e3))).mono ee
  |_=>cases h
 |_=>cases h
end
section
variable{X:Cx}{K:PySem.W.Frag}{m:List Addr}{H:Hp}{a:Addr}{kvs:List ((NK×Addr)×V)}
def F6(K:PySem.W.Frag)(tk tv:TE):TE:=fun σ H Q=>∀p,H p=none->qC [(tk,tv)] σ (upd H p (dNo p [])) fun ps H2=>H2 p=some (dNo p [])/\∃b k v,ps=[(.ref b,v)]/\lj K H2 b k/\Q (.ref p) (upd H2 p (dNo p [((k,b),v)]))
theorem AW{P:Program}{w:World}(h:Heap)(hb:sysModules<h.objs.size):cM P w H (h.push { cls:=.type "dict",data:=.dict #[] }) h.objs.size (dNo h.objs.size []):=by
 refine yu (xs:=[]) (Nat.zero_le _) (beq_eq_false_iff_ne.mpr (Ne.symm (Nat.ne_of_lt hb))) .nil ?_
 exact⟨_,#[],0,Heap.get?_push_size _ rfl,⟨rfl,rfl,rfl⟩,rfl,rfl,fun x hx=>(List.not_mem_nil hx).elim,List.nodup_nil⟩
theorem zx{k v:Expr}{tk tv:TE}{pos:Pos}(hu:X.A.units+2<cLine)(hk:WE X k tk)(hv:WE X v tv):WE X (.Dict [some k] [v] pos) (F6 X.K tk tv):=by
 constructor
 intro pins s σ H Q I q
 have hn:=I.hok.fresh (Nat.le_refl s.heap.objs.size)
 have I1:=I.laid (a:=s.heap.objs.size) (o:=dNo s.heap.objs.size []) (h':=s.heap.push { cls:=.type "dict",data:=.dict #[] }) (t':=s.toks) (fun _ _ q=>Heap.get?_push_of_some _ q) (Nat.le_refl _) (AW s.heap I.big)
 refine wpAny_Dict_any rfl rfl (by simp) (by simp) (thn (uy hk.h hv.h xg pins _ σ _ _ I1 (q _ hn)) fun ws s2 hz=>?_)
 obtain⟨ps,H2,I2,rel,e,b,k,v,rfl,kb,q2⟩:=hz
 cases rel with
 |cons r t=>
  cases t
  rename_i w0
  obtain⟨w1,w2⟩:=w0
  obtain⟨r1,r2⟩:=r
  cases (show w1=Value.ref b from r1)
  obtain⟨z,hd,xs,rel,dd⟩:=yt I2 (.inl e) (fun p hp=>(List.not_mem_nil hp).elim)
  cases rel
  unfold storeAll
  rw[List.forIn_cons]
  refine wpAny_bind (wpAny_bind (wpAny_dictSet_heap (hsz:=Nat.zero_le _) (knd:=gS X.prog X.w) (Nat.lt_of_succ_lt hu) (xJ I2 kb) dd fun h' dd' hs=>wpAny_pure ?_))
  dsimp only
  rw[List.forIn_nil]
  obtain⟨o,es,ep,h1,_⟩:=id dd'
  refine wpAny_pure ⟨.ref s.heap.objs.size,_,nE I2 (by rw[e];exact True.intro) hs ⟨o,h1⟩ (yu (kvs:=[((k,b),v)]) (show 1<=sizeLine by decide) hd (KN.put (kvs:=[]) (k:=k) (b:=b) .nil r2) dd'),rfl,q2⟩
def jm(ck cv:CE):CE:=fun ρ S=>(ck ρ (S++[.dnt []])).bind fun p=>(cv ρ p.2).bind fun q=>match p.1 with
 |.tup us=>(xy us).bind fun k=>match q.2[S.length]? with
  |some (.dnt [])=>some (.ref S.length,q.2.set S.length (.dnt [(k,q.1)]))
  |_=>none
 |_=>none
theorem xb{k v:Expr}{ck cv:CE}{pos:Pos}(hu:X.A.units+2<cLine)(hk:QE X k ck)(hv:QE X v cv):QE X (.Dict [some k] [v] pos) (jm ck cv):=
 (zx hu hk hv).imp fun σ H Q hz=>nX hz fun m ρ S u S' sr lr hc post=>by
 obtain⟨⟨x,S1⟩,h1,h⟩:=Option.bind_eq_some_iff.mp hc
 obtain⟨⟨y,S2⟩,h2,h3⟩:=Option.bind_eq_some_iff.mp h
 cases x with
 |tup us=>
  simp only at h3
  obtain⟨kk,hk,h4⟩:=Option.bind_eq_some_iff.mp h3
  split at h4<;>try cases h4
  rename_i hS
  intro p hp
  have ee:Ext X.K m H (m++[p]) (upd H p (dNo p [])):=.new (cK hp _)
  refine⟨m++[p],ρ,_,_,S1,sr.new (o:=.dnt []) hp ⟨[],aS,(fun q hq=>(List.not_mem_nil hq).elim),.nil_⟩,lr.mono ee,h1,fun m1 v1 H1 e1 sr1 i1=>⟨m1,ρ,S1,y,S2,sr1,lr.mono (ee.trans e1),h2,fun m2 v2 H2 e2 sr2 i2=>?_⟩⟩
  have ha:m2[S.length]?=some p:=(e1.trans e2).get (ef sr.len)
  obtain⟨a',ha',kv0,hx,ky,ip0⟩:=sr2.get hS
  rw[ha]at ha';cases ha'
  have e0:kv0=[]:=by have:=IsP.length ip0;unfold nP at this;simpa using this
  subst e0
  obtain⟨b,rfl,kb⟩:=Az (i1.mono e2) hk
  have eu:Ext X.K m2 H2 m2 (upd H2 p (dNo p [((kk,b),v2)])):=.of (sr2.keep ha _)
  refine⟨hx,b,kk,v2,rfl,kb,post m2 _ _ (((ee.trans e1).trans e2).trans eu) (sr2.put (o:=.dnt [(kk,y)]) ha ⟨_,aS,fun q hq=>?_,.cons_ (i2.mono eu) .nil_⟩) (.ref_ ha)⟩
  rw[List.mem_singleton.mp hq]
  exact kb.mono eu.keep
 |_=>cases h3
def FzN(K:PySem.W.Frag)(H:Hp)(a:Addr)(ep:Nat)(ks:List NK):Prop:=∃ob es kvs,H a=some (.frz ob (dNo a kvs))/\ob.data=.dict es ep/\(∀p∈kvs,lj K H p.1.2 p.1.1)/\(nP kvs).map (·.1)=ks
def Itn(K:PySem.W.Frag)(a:Addr)(ep:Nat)(ks:List NK):It:=
 ⟨fun i H=>i<ks.length/\FzN K H a ep ks,fun i H x H'=>H'=H/\∃k p,ks[i]?=some k/\x=.ref p/\lj K H p k,fun i H=>ks.length<=i/\FzN K H a ep ks⟩
theorem tf{P:Program}{w:World}{h:Heap}{ob:Obj}{es:Array DictEntry}{ep:Nat}(ok:HOk P w H h)(e:Rd H a (dNo a kvs))(g:h.get? a=some ob)(d:ob.data=.dict es ep) :
  es.size=kvs.length/\∀(i:Nat) (hi:i<es.size),∃q,kvs[i]?=some q/\es[i].key=.ref q.1.2:=by
 obtain⟨⟨_,_,xs,r,o,es',ep',e2,e3,e4,e5,_⟩,_⟩:=(show cM P w H h a (dNo a kvs)from e.ok ok)
 rw[g]at e2;cases e2
 rw[d]at e4;cases e4
 have hl:kvs.length=xs.length:=Paired.length r
 have hs:es.size=xs.length:=by rw[<-Array.length_toList,e5,List.length_map]
 refine⟨by omega,fun i hi=>?_⟩
 have key:∀{l:List ((NK×Addr)×V)} {m:List (NK×Addr×Value)} {i:Nat} {x:NK×Addr×Value},KN l m->m[i]?=some x->∃q,l[i]?=some q/\q.1.2=x.2.1:=by
  intro l m i x q
  induction q generalizing i with
  |nil=>intro z;simp at z
  |@cons p q ps qs hq t ih=>
   intro z
   cases i with
   |zero=>simp at z;subst z;exact⟨p,rfl,hq.2.1⟩
   |succ i=>exact ih (by simpa using z)
 have hx:xs[i]?=some xs[i]:=List.getElem?_eq_getElem (by omega)
 obtain⟨q,k1,k2⟩:=key r hx
 refine⟨q,k1,?_⟩
 have h1:es.toList[i]?=some (⟨hNK xs[i].1,.ref xs[i].2.1,xs[i].2.2⟩:DictEntry):=by rw[e5,List.getElem?_map,hx];rfl
 rw[Array.getElem?_toList,Array.getElem?_eq_getElem hi]at h1
 rw[Option.some.inj h1,k2]
theorem K0{q:(NK×Addr)×V}{i:Nat}(h:kvs[i]?=some q):((nP kvs).map (·.1))[i]?=some q.1.1:=by unfold nP;rw[List.map_map,List.getElem?_map,h];rfl
theorem xC:((nP kvs).map (·.1)).length=kvs.length:=by unfold nP;rw[List.length_map,List.length_map]
theorem vt{P:Program}{w:World}{tg:Expr}(a it:Addr){ks:List NK}{ep:Nat} :
  EM P w K tg (Itn K a ep ks) [it] it (fun n h=>h.IsKeyIter it a n ks.length ep) where
 mem:=by simp
 obj:=fun n h st c hc=>by
  simp only[List.mem_cons,List.not_mem_nil,or_false]at hc
  subst hc
  obtain⟨o,e,_,q⟩:=st
  exact⟨o,e,fun v z=>by rw[q]at z;cases z⟩
 keep:=fun n h h' st kp=>Heap.IsKeyIter.at st fun o q=>kp it (by simp) o q
 item:=by
  intro X hP hw hK hc n pins s σ H E Iv hf st hg
  subst hP hw hK
  obtain⟨hi,ob,es,kvs,hq,d,ky,ek⟩:=hg
  have g1:s.heap.get? a=some ob:=(show cM X.prog X.w H s.heap a (.frz ob (dNo a kvs))from Iv.hok a _ hq).1
  obtain⟨g2,g3⟩:=tf Iv.hok (.inr ⟨ob,hq⟩) g1 d
  have hl:ks.length=es.size:=by rw[<-ek,xC,g2]
  have hi':n<es.size:=by omega
  obtain⟨q,k1,k2⟩:=g3 n hi'
  obtain⟨f0,f1,f2,f3⟩:=hf it (by simp)
  refine uw (by rw[<-hl];exact st) g1 d hi' fun h1 st1 sb=>⟨_,rfl,?_⟩
  have I1:Inv X pins σ H { s with heap:=h1 }:=Iv.turned (t':=s.toks) (fun b o hb e=>(sb.2 b hb).trans e) f0 f1 f3.1 f3.2.1 f3.2.2
  have st2:h1.IsKeyIter it a (n+1) ks.length ep:=by rw[hl];exact st1
  obtain⟨o,e,c,z⟩:=id st2
  exact yc (s:={ s with heap:=h1 }) e c z (by decide) ⟨.ref q.1.2,H,I1,by rw[k2];rfl,⟨rfl,q.1.1,q.1.2,by rw[<-ek];exact K0 k1,rfl,ky q (List.mem_of_getElem? k1)⟩,st2,fun b hb=>(hf b hb).1⟩
 done:=by
  intro X hP hw hK hc n pins s σ H E Iv hf st hg
  subst hP hw hK
  obtain⟨hi,ob,es,kvs,hq,d,ky,ek⟩:=hg
  have g1:s.heap.get? a=some ob:=(show cM X.prog X.w H s.heap a (.frz ob (dNo a kvs))from Iv.hok a _ hq).1
  obtain⟨g2,g3⟩:=tf Iv.hok (.inr ⟨ob,hq⟩) g1 d
  have hl:ks.length=es.size:=by rw[<-ek,xC,g2]
  obtain⟨f0,f1,f2,f3⟩:=hf it (by simp)
  exact wY (Iv.ok.hd hc) (by rw[<-hl];exact st) g1 d (by omega) fun h1 eb=>⟨rfl,Iv.turned (t':=s.toks) (fun b o hb e=>eb b o hb e) f0 f1 f3.1 f3.2.1 f3.2.2⟩
 self:=fun _ _ _ _ _ st h=>wpAny_pyIter_keyiter st h
def xZ(X:Cx)(tl:TE):TI:=fun σ H R=>tl σ H fun x H1=>∃a kvs,x=.ref a/\H1 a=some (dNo a kvs)/\∀ob es ep,rW X a->ob.data=.dict es ep->R (Itn X.K a ep ((nP kvs).map (·.1))) (upd H1 a (.frz ob (dNo a kvs)))
theorem uf{tg l:Expr}{tl:TE}(hl:WE X l tl):WI X tg l (xZ X tl):=by
 constructor
 intro pins s σ H R I h
 refine thn (hl.h pins s σ H _ I h) fun v s1 hz=>?_
 obtain⟨x,H1,I1,r1,a,kvs,rfl,hq,q⟩:=hz
 cases r1
 have ok:=(show cM X.prog X.w H1 s1.heap a (dNo a kvs)from I1.hok a _ hq)
 obtain⟨⟨hz,hs,xs,rv,ob,es,ep,e1,e2,e3,e4,e5⟩,st⟩:=id ok
 have hl:kvs.length=es.size:=by rw[<-Array.length_toList,e4,List.length_map];exact Paired.length rv
 have nf:rW X a:=fun ob' u' z=>by have:=I1.base.frzs a ob' u' z;rw[hq]at this;cases this
 have I2:Inv X pins σ (upd H1 a (.frz ob (dNo a kvs))) s1:=my I1 hq (by simp[dNo]) (by simp[dNo]) (by simp[dNo]) nf ⟨e1,ok⟩
 refine uv hs e1 e2 e3 ?_
 refine⟨s1.heap.objs.size,[s1.heap.objs.size],_,_,_,rfl,I2.kept (t':=s1.toks) fun b o g=>Heap.get?_push_of_some _ g,vt a _,⟨_,Heap.get?_push_size _ rfl,rfl,by rw[xC,hl];rfl⟩,fun b hb=>?_,q ob es ep nf e3⟩
 simp only[List.mem_cons,List.not_mem_nil,or_false]at hb
 subst hb
 exact I2.fpOk (Nat.le_refl _) (I2.hok.fresh (Nat.le_refl _))
def BX(X:Cx)(D:v8):v8 where
 nx:=fun σ H=>∃a ob kvs,rW X a/\H a=some (.frz ob (dNo a kvs))/\D.nx σ (upd H a (dNo a kvs))
 rt:=fun v H=>∃a ob kvs,rW X a/\H a=some (.frz ob (dNo a kvs))/\D.rt v (upd H a (dNo a kvs))
 bk:=fun σ H=>∃a ob kvs,rW X a/\H a=some (.frz ob (dNo a kvs))/\D.bk σ (upd H a (dNo a kvs))
 ct:=fun σ H=>∃a ob kvs,rW X a/\H a=some (.frz ob (dNo a kvs))/\D.ct σ (upd H a (dNo a kvs))
theorem kh{pins:List (Addr×Obj)}{σ:L2.St}{s:Shared}{ob:Obj}(I:Inv X pins σ H s)(nf:rW X a)(e:H a=some (.frz ob (dNo a kvs))):Inv X pins σ (upd H a (dNo a kvs)) s:=
 my I e (by simp) (by simp) (by simp) nf (show cM X.prog X.w H s.heap a (.frz ob (dNo a kvs))from I.hok a _ e).2
theorem ub{st:Stmt}{t:TS}(h:WS X st t):WS X st (fun D σ H=>t (BX X D) σ H):=by
 constructor
 intro pins s σ H D I k
 refine thn (h.h pins s σ H _ I k) fun f s1 q=>?_
 cases f with
 |next=>obtain⟨σ1,H1,I1,a,ob,kvs,nf,e,r⟩:=q;exact⟨σ1,_,kh I1 nf e,r⟩
 |brk=>obtain⟨σ1,H1,I1,a,ob,kvs,nf,e,r⟩:=q;exact⟨σ1,_,kh I1 nf e,r⟩
 |cont=>obtain⟨σ1,H1,I1,a,ob,kvs,nf,e,r⟩:=q;exact⟨σ1,_,kh I1 nf e,r⟩
 |ret u=>obtain⟨v,σ1,H1,I1,rv,a,ob,kvs,nf,e,r⟩:=q;exact⟨v,σ1,_,kh I1 nf e,rv,r⟩
def nU(k:NK):U:=.tup (k.map fun l=>.tup (l.map U.int))
theorem Ia{p:Addr}{k:NK}(h:lj K H p k):Is K m H (.ref p) (nU k):=by
 obtain⟨cs,sq,q⟩:=h
 refine .tup_ sq ?_
 clear sq
 induction q with
 |nil=>exact .nil_
 |cons z _ ih=>exact .cons_ (.tup_ z (jb _)) ih
theorem uP{l ep:Nat}{kus:List (NK×U)}(ha:m[l]?=some a):y9 K (Itn K a ep (kus.map (·.1))) m H (kus.map fun q=>nU q.1) (fun S'=>S'[l]?=some (.fdn ep kus)):=by
 intro m2 S2 H2 i e sr hok
 obtain⟨a',ha',ob,es,kvs,hx,hd,ky,ip⟩:=sr.get hok
 rw[e.get ha]at ha';cases ha'
 have hz:FzN K H2 a ep (kus.map (·.1)):=⟨ob,es,kvs,hx,hd,ky,ip.1⟩
 refine⟨fun u hu=>?_,fun hu=>⟨by simpa using hu,hz⟩⟩
 have hi:i<kus.length:=by have:=(List.getElem?_eq_some_iff.mp hu).1;simpa using this
 refine⟨⟨by simpa using hi,hz⟩,?_⟩
 rintro x H3 ⟨rfl,k,p,hk,rfl,hp⟩
 refine⟨.refl,sr,?_⟩
 rw[List.getElem?_map]at hk hu
 rw[List.getElem?_eq_getElem hi]at hk hu
 cases hk;cases hu
 exact Ia hp
theorem uW{m1:List Addr}{H1:Hp}{S1:Sto}{l ep:Nat}{kus:List (NK×U)}{ob:Obj}{es:Array DictEntry}(sr:Sr X.K m1 S1 H1)(ha:m1[l]?=some a)(ky:∀p∈kvs,lj X.K H1 p.1.2 p.1.1)(ip:IsP X.K m1 H1 (nP kvs) kus)(hd:ob.data=.dict es ep) :
  Ext X.K m1 H1 m1 (upd H1 a (.frz ob (dNo a kvs)))/\Sr X.K m1 (S1.set l (.fdn ep kus)) (upd H1 a (.frz ob (dNo a kvs))):=by
 have ee:Ext X.K m1 H1 m1 (upd H1 a (.frz ob (dNo a kvs))):=.of (sr.keep ha _)
 exact⟨ee,sr.put ha ⟨ob,es,kvs,aS,hd,fun p hp=>(ky p hp).mono ee.keep,ip.mono ee⟩⟩
theorem tK{m3:List Addr}{H3:Hp}{S2:Sto}{l ep:Nat}{kus:List (NK×U)}(sr3:Sr X.K m3 S2 H3)(ha:m3[l]?=some a)(hS:S2[l]?=some (.fdn ep kus)) :
  ∃ob' kvs',H3 a=some (.frz ob' (dNo a kvs'))/\Ext X.K m3 H3 m3 (upd H3 a (dNo a kvs'))/\Sr X.K m3 (S2.set l (.dnt kus)) (upd H3 a (dNo a kvs')):=by
 obtain⟨a3,ha3,ob3,es3,kvs3,hx3,hd3,ky3,ip3⟩:=sr3.get hS
 rw[ha]at ha3;cases ha3
 have e4:Ext X.K m3 H3 m3 (upd H3 a (dNo a kvs3)):=.of (sr3.keep ha _)
 exact⟨ob3,kvs3,hx3,e4,sr3.put ha ⟨kvs3,aS,fun p hp=>(ky3 p hp).mono e4.keep,ip3.mono e4⟩⟩
def yO(ce:CE)(g:CG)(cb:CS):CS:=fun ρ S=>(ce ρ S).bind fun p=>match p.1 with
 |.ref l=>match p.2[l]? with
  |some (.dnt kus)=>uni fun ep=>(cP (fun S'=>S'[l]?=some (.fdn ep kus)) g cb (kus.map fun q=>nU q.1) ρ (p.2.set l (.fdn ep kus))).bind fun r=>match r.2.2[l]? with
   |some (.fdn _ kus')=>some (r.1,r.2.1,r.2.2.set l (.dnt kus'))
   |_=>none
  |_=>none
 |_=>none
theorem AJ{ce:CE}{g:CG}{cb:CS}:∀D σ H,tS X.K (yO ce g cb) D σ H->F7 (xZ X (tE X.K ce)) (tG X.K g) (tS X.K cb) (BX X D) σ H:=by
 rintro D σ H ⟨m,ρ,S,o,ρ',S',sr,lr,hc,post⟩
 obtain⟨⟨x,S1⟩,h1,h⟩:=Option.bind_eq_some_iff.mp hc
 refine⟨m,ρ,S,x,S1,sr,lr,h1,fun m1 v1 H1 e1 sr1 i1=>?_⟩
 cases x with
 |ref l=>
  simp only at h
  split at h<;>try cases h
  rename_i kus hS
  obtain⟨a,ha,rfl⟩:=i1.of_ref
  obtain⟨a',ha',kvs,hx,ky,ip⟩:=sr1.get hS
  rw[ha]at ha';cases ha'
  refine⟨a,kvs,rfl,hx,fun ob es ep nf hd=>?_⟩
  obtain⟨⟨o1,ρ1,S2⟩,h2,h3⟩:=Option.bind_eq_some_iff.mp (mi h ep)
  simp only at h3
  split at h3<;>try cases h3
  rename_i ep' kus' hS2
  obtain⟨ee,sr2⟩:=uW sr1 ha ky ip hd
  rw[ip.1]
  refine pO sr2 (lr.mono (e1.trans ee)) (uP ha) h2 ?_
  have nxt:∀(R:L2.St->Hp->Prop),gH X.K m H R ρ' (S2.set l (.dnt kus'))->gH X.K m1 (upd H1 a (.frz ob (dNo a kvs))) (fun σ H=>∃a ob kvs,rW X a/\H a=some (.frz ob (dNo a kvs))/\R σ (upd H a (dNo a kvs))) ρ' S2:=fun R p m3 σ3 H3 e3 sr3 lr3=>by
   obtain⟨ob3,kvs3,hx3,e4,sr4⟩:=tK sr3 (e3.get ha) hS2
   exact⟨a,ob3,kvs3,nf,hx3,p m3 σ3 _ (((e1.trans ee).trans e3).trans e4) sr4 (lr3.mono e4)⟩
  cases o with
  |nx=>exact nxt _ post
  |bk=>exact nxt _ post
  |ct=>exact nxt _ post
  | rt v=>
    intro m3 v3 H3 e3 sr3 i3
    obtain⟨ob3,kvs3,hx3,e4,sr4⟩:=tK sr3 (e3.get ha) hS2
    exact⟨a,ob3,kvs3,nf,hx3,post m3 v3 _ (((e1.trans ee).trans e3).trans e4) sr4 (i3.mono e4)⟩
 |_=>cases h
theorem Dj{tg iter:Expr}{body:List Stmt}{ce:CE}{g:CG}{cb:CS}{pos:Pos}(hp:PassesOwn (model X.prog X.w) X.A X.env X.xe)(hc:X.calm=true)(hi:QE X iter ce)(hg:QG X tg g)(hb:QSs X body cb)(hs:∀x,foldedSetIterable iter X.env x=pure x:=by intro _;rfl):QS X (.For tg iter body [] pos) (yO ce g cb):=
 (ub (sh hp hc (uf hi) hg hb hs)).imp AJ
def yM(ce:CE)(f:(Sto->Prop)->Nat->List U->Rho->Sto->Option Sto)(n:Nat)(caps:List Nat):CE:=fun ρ S=>(ce ρ S).bind fun p=>match p.1 with
 |.ref l=>match p.2[l]? with
  |some (.dnt kus)=>uni fun ep=>(f (fun S'=>S'[l]?=some (.fdn ep kus)) p.2.length (kus.map fun q=>nU q.1) (ur n caps ρ) (p.2.set l (.fdn ep kus)++[.lst []])).bind fun S'=>match S'[l]? with
   |some (.fdn _ kus')=>some (.ref p.2.length,S'.set l (.dnt kus'))
   |_=>none
  |_=>none
 |_=>none
def kr(ce:CE)(g:CG)(ct:CT)(el:CE)(n:Nat)(caps:List Nat):CE:=yM ce (fun ok l=>b8 ok g ct el l) n caps
theorem wC{ce:CE}{f:(Sto->Prop)->Nat->List U->Rho->Sto->Option Sto}{n:Nat}{caps:List Nat}{G:It->Hp->L2.St->VK->Prop}
  (core:∀{J:It} {us:List U} {ok:Sto->Prop} {Q:VK} {m1:List Addr} {H1:Hp} {S1 S':Sto} {ρ:Rho} {σ:L2.St},Sr X.K m1 S1 H1->Lr X.K m1 H1 ρ σ->y9 X.K J m1 H1 us ok->f ok S1.length us (ur n caps ρ) (S1++[.lst []])=some S'->
   (∀l,H1 l=none->∀m2 H2,Ext X.K (m1++[l]) (upd H1 l (.lst [])) m2 H2->Sr X.K m2 S' H2->Q (.ref l) H2)->G J H1 σ Q) :
  ∀σ H Q,tE X.K (yM ce f n caps) σ H Q->xZ X (tE X.K ce) σ H fun J H1=>G J H1 σ fun v H'=>∃a ob kvs,rW X a/\H' a=some (.frz ob (dNo a kvs))/\Q v (upd H' a (dNo a kvs)):=by
 intro σ H Q hz
 refine nX hz fun m ρ S u S' sr lr hc post=>?_
 obtain⟨⟨x,S1⟩,h1,h⟩:=Option.bind_eq_some_iff.mp hc
 refine⟨m,ρ,S,x,S1,sr,lr,h1,fun m1 v1 H1 e1 sr1 i1=>?_⟩
 cases x with
 |ref l=>
  simp only at h
  split at h<;>try cases h
  rename_i kus hS
  obtain⟨a,ha,rfl⟩:=i1.of_ref
  obtain⟨a',ha',kvs,hx,ky,ip⟩:=sr1.get hS
  rw[ha]at ha';cases ha'
  refine⟨a,kvs,rfl,hx,fun ob es ep nf hd=>?_⟩
  obtain⟨S2,h2,h3⟩:=Option.bind_eq_some_iff.mp (mi h ep)
  try simp only at h3
  split at h3<;>try cases h3
  rename_i ep' kus' hS2
  obtain⟨ee,sr2⟩:=uW sr1 ha ky ip hd
  rw[ip.1]
  have hln:(S1.set l (.fdn ep kus)).length=S1.length:=by simp
  refine core sr2 (lr.mono (e1.trans ee)) (uP ha) (by rw[hln];exact h2) fun p hp m3 H3 e3 sr3=>?_
  have en:Ext X.K m1 (upd H1 a (.frz ob (dNo a kvs))) (m1++[p]) (upd (upd H1 a (.frz ob (dNo a kvs))) p (.lst [])):=.new (cK hp _)
  have e03:=en.trans e3
  obtain⟨ob3,kvs3,hx3,e4,sr4⟩:=tK sr3 (e03.get ha) hS2
  refine⟨a,ob3,kvs3,nf,hx3,post m3 _ _ (((e1.trans ee).trans e03).trans e4) sr4 ?_⟩
  have lg:(m1++[p])[S1.length]?=some p:=ef sr1.len
  exact .ref_ (e3.get lg)
 |_=>cases h
variable{Nc capN tn:List Str}{scope:Scope}{cl:List (Str×Addr)}{n:Nat}{caps:List Nat}{tg iter elt c:Expr}{pos:Pos}{ci:CE}{g:CG}{ct:CT}{ce:CE}
def Bq(K:PySem.W.Frag):List V->Hp->VK->Prop:=fun xs H Q=>∃d kvs,xs=[.ref d]/\H d=some (dNo d kvs)/\∀l,H l=none->Q (.ref l) (upd H l (.lst (kvs.map fun p=>.ref p.1.2)))
theorem D2(hc:X.calm=true):fT X (.type "list") (Bq X.K):=by
 rintro pins s σ H xs us Q I r ⟨d,kvs,rfl,hD,q⟩
 obtain⟨u,rfl,ru⟩:=mF r
 cases ru
 obtain⟨⟨hz,hs,xs,rv,ob,es,ep,e1,e2,e3,e4,e5⟩,st⟩:=(show cM X.prog X.w H s.heap d (dNo d kvs)from I.hok d _ hD)
 obtain⟨g2,g3⟩:=tf I.hok (.inl hD) e1 e3
 refine kdl_call (Dh hs e2 e3) (I.ok.hd hc) e1 (by rw[g2];exact hz) fun h' tk acc c up gl hac=>?_
 have hv:cI (kvs.map fun p=>V.ref p.1.2) acc.toList:=by
  have ea:acc.toList=kvs.map fun p=>Value.ref p.1.2:=by
   refine List.ext_getElem? fun i=>?_
   by_cases hi:i<es.size
   ·have hi':i<acc.size:=by rw[hac.1];exact hi
    obtain⟨_,e6⟩:=hac.2 i acc[i] (Array.getElem?_eq_getElem hi')
    obtain⟨q,k1,k2⟩:=g3 i hi
    rw[Array.getElem?_toList,Array.getElem?_eq_getElem hi',e6,k2,List.getElem?_map,k1];rfl
   ·rw[List.getElem?_eq_none (by rw[Array.length_toList,hac.1];omega),List.getElem?_eq_none (by rw[List.length_map,<-g2];omega)]
  rw[ea]
  clear hac e4 rv g3 hz g2 hD q st gl ea
  induction kvs with
  |nil=>exact .nil
  |cons p r ih=>exact .cons rfl ih
 exact⟨.ref s.heap.objs.size,_,I.laid (o:=.lst (kvs.map fun p=>.ref p.1.2)) (t':=tk) up (Nat.le_refl _) ⟨by rw[List.length_map];exact hz,_,c,hv,by rw[gl]⟩,rfl,q _ (I.hok.fresh (Nat.le_refl _))⟩
def oS:Fn
 |[.ref l],S=>match S[l]? with
  |some (.dnt kus)=>some (.ref S.length,S++[.lst (kus.map fun p=>nU p.1)])
  |_=>none
 |_,_=>none
theorem xV:∀{kvs:List ((NK×Addr)×V)},(∀p∈kvs,lj K H p.1.2 p.1.1)->IsL K m H (kvs.map fun p=>.ref p.1.2) (((nP kvs).map (·.1)).map nU)
 |[],_=>.nil_
 |p::r,h=>.cons_ (Ia (h p List.mem_cons_self)) (xV fun q hq=>h q (List.mem_cons_of_mem _ hq))
theorem DT:mf K (Bq K) oS:=by
 intro m S H us vs u S' Q sr i hf post
 match us,hf with
 |[.ref l],hf=>
  obtain⟨v,rfl,iv⟩:=i.one
  obtain⟨a,ha,rfl⟩:=iv.of_ref
  simp only[oS]at hf
  split at hf<;>try cases hf
  rename_i ws hS
  obtain⟨a',ha',kvs,hx,ky,ip⟩:=sr.get hS
  rw[ha]at ha';cases ha'
  refine⟨a,kvs,rfl,hx,fun p hp=>?_⟩
  have il:=xV (m:=m) ky
  rw[ip.1,List.map_map]at il
  exact eR sr il post hp
end
theorem kj{A:Around}{k:Nat}(hr:gJ k A):A.units+2<cLine:=Nat.lt_of_le_of_lt (Nat.add_le_add_left (by decide:2<=64) _) hr.units
section
variable{prog:Program}{w:World}{A:Around}{E:Value->Shared->Prop}{s:Shared}
theorem tM{l:Addr}{vs:List Value}{Q:List Value->Shared->Prop}(ht:IsTup s.heap l vs.toArray)(hz:vs.length<=sizeLine)
  (q:Q vs { s with heap:=(s.heap.push (seqObj "list" #[] 0)).update s.heap.objs.size (Obj.mapSeq fun x=>x++vs.toArray) }):wpAny (model prog w) A (collect (.ref l)) Q E s:=by
 obtain⟨o,g,c,n,d⟩:=id ht
 have g':(s.heap.push (seqObj "list" #[] 0)).get? l=some o:=Heap.get?_push_of_some _ g
 have g0:(s.heap.push (seqObj "list" #[] 0)).get? s.heap.objs.size=some (seqObj "list" #[] 0):=Heap.get?_push_size _ rfl
 unfold collect
 refine wpAny_bind (wpAny_runValue (codeAny_builtin entry_proto_collect' ?_))
 refine wpAny_bind (m:=newList []) (wpAny_newList (wpAny_pure ⟨Code.quiet_builtin _ (by decide +kernel),codeAny_builtin entry_list_iadd' ?_⟩))
 refine(show wpAny _ _ (Builtin.List.listExtendWith (.ref s.heap.objs.size) (.ref l) (.ref s.heap.objs.size)) _ _ { s with heap:=s.heap.push (seqObj "list" #[] 0) } from ?_)
 unfold Builtin.List.listExtendWith
 refine wpAny_bind (wpAny_typeOf (T:="tuple") ⟨o,g',c⟩ ?_)
 have tt:(Value.type "tuple" == Value.type "tuple")=true:=by rfl
 rw[if_pos (by rw[tt,Bool.or_true])]
 refine wpAny_bind (listItems_at g' d (wpAny_bind (listItems_at g0 rfl ?_)))
 rw[if_neg (by simp)]
 refine wpAny_bind (listUpdate_at g0 rfl ?_ (Nat.zero_le _) (by simp only[Array.size_append,List.size_toArray,List.length_nil];omega))
 refine wpAny_pure ?_
 refine wpAny_bind (m:=load s.heap.objs.size) (wpAny_load (get?_update_seq g0 fun x=>x++vs.toArray) ?_)
 dsimp only
 have e:((#[]:Array Value)++vs.toArray).toList=vs:=by simp
 show wpAny _ _ (pure ((#[]:Array Value)++vs.toArray).toList) Q E _
 rw[e]
 exact wpAny_pure q
theorem vv{l:Addr}{vs:List Value}{ns:List Int}{Q:Value->Shared->Prop}(ht:IsTup s.heap l vs.toArray)(hI:IntsAre vs ns)(h64:vs.length<64)
  (q:∀(out:Array Value) (ms:List Int),IntsAre out.toList ms->ms.Perm ns->ms.Pairwise (·<=·)->Q (.ref (s.heap.objs.size+1)) { s with heap:=sortedAll s.heap vs out }) :
  wpAny (model prog w) A (call (.builtin "sorted") [.ref l]) Q E s:=by
 have hz:vs.length<=sizeLine:=by unfold sizeLine;omega
 refine Calls.call_function_entry kind_sorted plain_sorted entry_sorted (args_sorted1 _) ?_
 unfold Builtin.«sorted»
 refine wpAny_bind (m:=checkCount "sorted" 1 1 _) (wpAny_pure (wpAny_bind (tM ht hz (wpAny_bind (wpAny_newList ?_ hz)))))
 have sz:((s.heap.push (seqObj "list" #[] 0)).update s.heap.objs.size (Obj.mapSeq fun x=>x++vs.toArray)).objs.size=s.heap.objs.size+1:=by rw[Heap.size_update,size_push']
 have gL:(((s.heap.push (seqObj "list" #[] 0)).update s.heap.objs.size (Obj.mapSeq fun x=>x++vs.toArray)).push (seqObj "list" vs.toArray 0)).get? (s.heap.objs.size+1)=some (seqObj "list" vs.toArray 0):=by
  rw[<-sz];exact Heap.get?_push_size _ rfl
 refine(show wpAny _ _ _ _ _ { s with heap:=((s.heap.push (seqObj "list" #[] 0)).update s.heap.objs.size (Obj.mapSeq fun x=>x++vs.toArray)).push (seqObj "list" vs.toArray 0) } from ?_)
 rw[sz]
 refine wpAny_bind (wpAny_holding (wpAny_call_entry slot_list_sort ⟨_,gL,rfl⟩ entry_list_sort (list_sort_tree gL hI h64 fun out ms a1 a2 a3=>⟨_,rfl,?_⟩) (args_list_sort _)))
 exact wpAny_pure ⟨_,rfl,q out ms a1 a2 a3⟩
end
def ux(K:PySem.W.Frag):List V->Hp->VK->Prop:=fun xs H Q=>∃(p:Addr) (ns:List Int),xs=[.ref p]/\SqT K H p (ns.map V.int)/\ns.length<64/\∀(l:Addr) (ms:List Int),H l=none->ms.Perm ns->ms.Pairwise (·<=·)->Q (.ref l) (upd H l (.lst (ms.map V.int)))
theorem qR{X:Cx}:fT X (.builtin "sorted") (ux X.K):=by
 rintro pins s σ H xs us Q I r ⟨p,ns,rfl,sq,h64,q⟩
 obtain⟨u,rfl,ru⟩:=mF r
 cases ru
 obtain⟨its,rv,tp,hz⟩:=I.tuple sq
 have hlen:=rv.length
 rw[List.length_map]at hlen
 refine vv tp (fD rv) (by omega) fun out ms a1 a2 a3=>?_
 obtain⟨e,ge⟩:=sortedAll_at s.heap its out
 have hf:=I.hok.fresh (Nat.le_succ s.heap.objs.size)
 exact⟨.ref (s.heap.objs.size+1),_,I.laid (t':=s.toks) (fun b o e=>sortedAll_old e) (Nat.le_succ _) (sN ge a1 (by rw[a2.length_eq];exact h64)),rfl,q _ ms hf a2 a3⟩
def gX:Fn
 |[.tup us],S=>(n9 us).bind fun ns=>if ns.length<64 then some (.ref S.length,S++[.lst ((dr ns).map U.int)])else none
 |_,_=>none
theorem qO{K:PySem.W.Frag}:mf K (ux K) gX:=by
 intro m S H us vs u S' Q sr i hf post
 match us,hf with
 |[.tup ws],hf=>
  obtain⟨v,rfl,iv⟩:=i.one
  simp only[gX]at hf
  obtain⟨ns,hn,h⟩:=Option.bind_eq_some_iff.mp hf
  split at h<;>try cases h
  have hc:ns.length<64:=by assumption
  obtain⟨a,xs,rfl,sq,il⟩:=iv.of_tup
  rw[ki hn]at il
  rw[il.ints]at sq
  refine⟨a,ns,rfl,sq,hc,fun p ms hp pm sm=>?_⟩
  rw[mj pm sm]
  exact eR sr (jb _) post hp
def Gn(K:PySem.W.Frag):List V->Hp->VK->Prop:=fun xs H Q=>∃(p:Addr) (ns:List Int),xs=[.ref p]/\SqL K H p (ns.map V.int)/\0<ns.length/\∀M,M∈ns->(∀a∈ns,M<=a)->Q (.int M) H
theorem Hf{X:Cx}(hc:X.calm=true):fT X (.builtin "min") (Gn X.K):=by
 rintro pins s σ H xs us Q I r ⟨p,ns,rfl,hL,h0,q⟩
 obtain⟨u,rfl,ru⟩:=mF r
 cases ru
 obtain⟨its,rv,pl,hz⟩:=I.list hL
 have hI:=fD rv
 obtain⟨ys,e⟩:=hI.allInts.items
 have hns:ns=ys.toList.map (·.1):=by rw[<-hI.numsOf,<-nums_intItems,<-e]
 have hsz:0<ys.size:=by have h3:=h0;rw[hns,List.length_map,Array.length_toList]at h3;exact h3
 have hl:=pl.isList
 rw[e]at hl
 refine min_intList (I.ok.hd hc) hl hsz fun v h' tk hv hk=>?_
 obtain⟨t,rfl⟩:=intItems_at hv
 obtain⟨h1,h2⟩:=argBest_lt (numAt ys) (ys.size-1)
 refine⟨.int _,H,I.kept hk,⟨t,rfl⟩,q _ ?_ fun a ha=>?_⟩
 ·rw[hns,numAt_eq];exact getD_mem (by rw[List.length_map,Array.length_toList];omega)
 ·rw[hns]at ha
  obtain⟨j,hj,rfl⟩:=mem_getD ha
  rw[List.length_map,Array.length_toList]at hj
  rw[<-numAt_eq];exact h2 j (by omega)
def Bz(ns:List Int):Int:=(dr ns).headD 0
theorem sM{ns:List Int}{M:Int}(h:M∈ns)(k:∀a∈ns,M<=a):Bz ns=M:=by
 unfold Bz
 have hm:=(cg ns).mem_iff.mpr h
 have hs:=iF ns
 cases e:dr ns with
 |nil=>rw[e]at hm;cases hm
 |cons x r=>
  rw[e]at hm hs
  have hx:=k x ((cg ns).mem_iff.mp (by rw[e];exact List.mem_cons_self))
  rcases List.mem_cons.mp hm with rfl|hm
  ·rfl
  ·have:=(List.pairwise_cons.mp hs).1 M hm
   show x=M
   omega
def yj:Fn
 |[.ref l],S=>match S[l]? with
  |some (.lst us)=>(n9 us).bind fun ns=>if 0<ns.length then some (.int (Bz ns),S)else none
  |_=>none
 |_,_=>none
theorem G5{K:PySem.W.Frag}:mf K (Gn K) yj:=by
 intro m S H us vs u S' Q sr i hf post
 match us,hf with
 |[.ref l],hf=>
  obtain⟨v,rfl,iv⟩:=i.one
  obtain⟨a,ha,rfl⟩:=iv.of_ref
  simp only[yj]at hf
  split at hf<;>try cases hf
  rename_i ws hS
  obtain⟨ns,hn,h⟩:=Option.bind_eq_some_iff.mp hf
  split at h<;>try cases h
  have hc:0<ns.length:=by assumption
  obtain⟨a',ha',xs,hx,la⟩:=sr.get hS
  rw[ha]at ha';cases ha'
  rw[ki hn]at la
  rw[la.ints]at hx
  refine⟨a,ns,rfl,SqL.of hx,hc,fun M h1 h2=>?_⟩
  rw[<-sM h1 h2]
  exact post m _ H .refl sr .int_
section
variable{X:Cx}
theorem pE{i₀:Nat}{x₀:Str}{pos₀ pos':Pos}{Nc capN tn:List Str}{scope:Scope}{cl:List (Str×Addr)}{n:Nat}{caps:List Nat}{tg iter elt c:Expr}{pos:Pos}{ci:CE}{g:CG}{ct:CT}{ce:CE}
  (hc:X.calm=true) (hi:QE X iter ci) (hg:∀s3 H3 fp,WG (cxC X Nc scope cl s3 H3 fp) tg (tG X.K g)) (ht:∀s3 H3 fp,WT (cxC X Nc scope cl s3 H3 fp) c (tT X.K ct)) (he:∀s3 H3 fp,WE (cxC X Nc scope cl s3 H3 fp) elt (tE X.K ce))
  (hclos:closureFor scope X.env=pure cl) (hkind:scope.kind=.function) (hnl:∀x∈scope.names,x.2=.local->scope.names.lookup x.1=some .local) (hcell:∀x∈scope.names,x.2≠.cell)
  (hcl:vX X.env cl) (hhas:((relabel scope X.env).names.all fun p=>!(p.2 == .cell||p.2 == .free)||(cl.lookup p.1).isSome)=true)
  (hcap:Paired (Cap X scope cl) caps capN) (hN:Nc=tn++capN) (hn:tn.length=n)
  (hN0:X.N.Nodup) (hi0:X.N[i₀]?=some x₀) (hx0:X.env.scope.names.lookup x₀=some .local)
  (hsw:swapsWith (.ListComp elt [⟨tg,iter,[c],0⟩] scope pos) (some (.Name x₀ pos')) pos₀.line X.env=pure true)
  (hs:∀x,foldedSetIterable iter X.env x=pure x:=by intro _;rfl) :
  QS X (.Assign [.Name x₀ pos'] (.ListComp elt [⟨tg,iter,[c],0⟩] scope pos) pos₀) (bO i₀ (kr ci g ct ce n caps)):=
 (ub (qr hc (uf hi) hg he ht hclos hkind hnl hcell hcl hhas hcap hN hn hN0 hi0 hx0 hsw hs)).imp fun D σ H hz=>vM hz fun m ρ S o ρ' S' sr lr hc post=>by
 obtain⟨⟨u,S1⟩,h1,h2⟩:=Option.bind_eq_some_iff.mp hc
 cases h2
 exact wC (G:=fun J H1 σ Q=>∀l,H1 l=none->∃W:Nat->Nat->L2.St->Hp->Prop,(∃m,W 0 m (OG.stC n caps σ) (upd H1 l (.lst [])))/\
  ∀i m σ' H2,W i m σ' H2->(J.stop i H2/\Q (.ref l) H2)\/(J.go i H2/\∃N:L2.St->Hp->Prop,(∀σ'' H',N σ'' H'->∃m',m'<m/\W (i+1) m' σ'' H')/\
  ∀x H3,J.yld i H2 x H3->tG X.K g x σ' H3 fun σ2 H4=>tT X.K ct σ2 H4 fun b H5=>match b with
   |true=>tE X.K ce σ2 H5 fun v H6=>∃ys,H6 l=some (.lst ys)/\ys.length<sizeLine/\N σ2 (upd H6 l (.lst (ys++[v])))
   |false=>N σ2 H5)) (fun sr lr ito h2 post l hl=>nG sr lr ito hl h2 (post l hl))
  σ H (fun v H'=>D.nx (σ.set i₀ (some v)) H') ⟨m,ρ,S,u,_,sr,lr,h1,fun m1 v1 H1 e1 sr1 i1=>post m1 _ H1 e1 sr1 ((lr.mono e1).set i₀ i1)⟩
end
structure Fz where
 l:Nat
 e:Nat
 e':Nat
 k:List (NK×U)
def Fz.on(z:Fz)(S:Sto):Prop:=S[z.l]?=some (.fdn z.e z.k)
def Fz.to(z:Fz)(S:Sto):Sto:=S.set z.l (.fdn z.e' z.k)
def Cm{α:Type}(z:Fz)(f:Sto->Option (α×Sto)):Prop:=∀S a S',z.on S->f S=some (a,S')->f (z.to S)=some (a,z.to S')/\z.on S'
def Cs(z:Fz)(f:Sto->Option (Out×Rho×Sto)):Prop:=∀S o ρ S',z.on S->f S=some (o,ρ,S')->f (z.to S)=some (o,ρ,z.to S')/\z.on S'
def Ct(z:Fz)(f:Sto->Option Sto):Prop:=∀S S',z.on S->f S=some S'->f (z.to S)=some (z.to S')/\z.on S'
def OkZ(z:Fz)(ok:Sto->Prop):Prop:=∀S,z.on S->(ok S↔ok (z.to S))
def Ci(z:Fz)(f:Sto->Option (List U×(Sto->Prop)×Sto)):Prop:=∀S us ok S',z.on S->f S=some (us,ok,S')->f (z.to S)=some (us,ok,z.to S')/\z.on S'/\OkZ z ok
section
variable{z:Fz}{α β:Type}{S S':Sto}
theorem Fz.lt(h:z.on S):z.l<S.length:=(List.getElem?_eq_some_iff.mp h).1
theorem Fz.len:(z.to S).length=S.length:=List.length_set ..
theorem Fz.get{k:Nat}{o:O}(h:z.on S)(hk:S[k]?=some o)(ne:∀e ks,o≠.fdn e ks):(z.to S)[k]?=some o/\z.l≠k:=by
 have:z.l≠k:=fun e=>by
  unfold Fz.on at h
  rw[e,hk]at h
  cases h
  exact ne _ _ rfl
 exact⟨by unfold Fz.to;rw[List.getElem?_set_ne this];exact hk,this⟩
theorem Fz.app(h:z.on S){T:Sto}:z.to (S++T)=z.to S++T:=List.set_append_left _ _ (Fz.lt h)
theorem Fz.app_on(h:z.on S){T:Sto}:z.on (S++T):=(List.getElem?_append_left (Fz.lt h)).trans h
theorem Fz.put{k:Nat}{o:O}(ne:z.l≠k):z.to (S.set k o)=(z.to S).set k o:=List.set_comm _ _ (Ne.symm ne)
theorem Fz.put_on{k:Nat}{o:O}(h:z.on S)(ne:z.l≠k):z.on (S.set k o):=by unfold Fz.on;rw[List.getElem?_set_ne (Ne.symm ne)];exact h
theorem Cm.bind{f:Sto->Option (α×Sto)}{g:α->Sto->Option (β×Sto)}(hf:Cm z f)(hg:∀a,Cm z (g a)):Cm z fun S=>(f S).bind fun p=>g p.1 p.2:=fun S b S2 h e=>by
 obtain⟨⟨a,S1⟩,e1,e2⟩:=Option.bind_eq_some_iff.mp e
 obtain⟨k1,h1⟩:=hf S a S1 h e1
 obtain⟨k2,h2⟩:=hg a S1 b S2 h1 e2
 exact⟨by dsimp only;rw[k1];exact k2,h2⟩
theorem Cm.bindS{f:Sto->Option (α×Sto)}{g:α->Sto->Option (Out×Rho×Sto)}(hf:Cm z f)(hg:∀a,Cs z (g a)):Cs z fun S=>(f S).bind fun p=>g p.1 p.2:=fun S o ρ S2 h e=>by
 obtain⟨⟨a,S1⟩,e1,e2⟩:=Option.bind_eq_some_iff.mp e
 obtain⟨k1,h1⟩:=hf S a S1 h e1
 obtain⟨k2,h2⟩:=hg a S1 o ρ S2 h1 e2
 exact⟨by dsimp only;rw[k1];exact k2,h2⟩
theorem Cm.bindI{f:Sto->Option (α×Sto)}{g:α->Sto->Option (List U×(Sto->Prop)×Sto)}(hf:Cm z f)(hg:∀a,Ci z (g a)):Ci z fun S=>(f S).bind fun p=>g p.1 p.2:=fun S us ok S2 h e=>by
 obtain⟨⟨a,S1⟩,e1,e2⟩:=Option.bind_eq_some_iff.mp e
 obtain⟨k1,h1⟩:=hf S a S1 h e1
 obtain⟨k2,h2⟩:=hg a S1 us ok S2 h1 e2
 exact⟨by dsimp only;rw[k1];exact k2,h2⟩
theorem Cm.pure{a:α}:Cm z fun S=>some (a,S):=fun S b S2 h e=>by cases e;exact⟨rfl,h⟩
theorem Cm.none:Cm z (fun _=>(none:Option (α×Sto))):=fun S b S2 h e=>by cases e
theorem Cm.opt{x:Option β}{g:β->Sto->Option (α×Sto)}(hg:∀b,Cm z (g b)):Cm z fun S=>x.bind fun b=>g b S:=by
 cases x with
 |none=>exact Cm.none
 |some b=>exact hg b
theorem Cm.ite{p:Prop}{_:Decidable p}{f g:Sto->Option (α×Sto)}(hf:Cm z f)(hg:Cm z g):Cm z fun S=>if p then f S else g S:=by
 by_cases c:p
 ·simp only[if_pos c];exact hf
 ·simp only[if_neg c];exact hg
theorem Cm.new{g:Nat->α}{o:O}:Cm z fun S=>some (g S.length,S++[o]):=fun S b S2 h e=>by
 cases e
 exact⟨by dsimp only;rw[Fz.len,Fz.app h],Fz.app_on h⟩
theorem Cs.pure{o:Out}{ρ:Rho}:Cs z fun S=>some (o,ρ,S):=fun S b ρ S2 h e=>by cases e;exact⟨rfl,h⟩
theorem Cs.none:Cs z (fun _=>none):=fun S b ρ S2 h e=>by cases e
theorem Cs.ite{p:Prop}{_:Decidable p}{f g:Sto->Option (Out×Rho×Sto)}(hf:Cs z f)(hg:Cs z g):Cs z fun S=>if p then f S else g S:=by
 by_cases c:p
 ·simp only[if_pos c];exact hf
 ·simp only[if_neg c];exact hg
theorem Cs.bind{f:Sto->Option (Out×Rho×Sto)}{g:Out->Rho->Sto->Option (Out×Rho×Sto)}(hf:Cs z f)(hg:∀o ρ,Cs z (g o ρ)):Cs z fun S=>(f S).bind fun r=>g r.1 r.2.1 r.2.2:=fun S o ρ S2 h e=>by
 obtain⟨⟨a,b,S1⟩,e1,e2⟩:=Option.bind_eq_some_iff.mp e
 obtain⟨k1,h1⟩:=hf S a b S1 h e1
 obtain⟨k2,h2⟩:=hg a b S1 o ρ S2 h1 e2
 exact⟨by dsimp only;rw[k1];exact k2,h2⟩
theorem Ct.bindS{f:Sto->Option Sto}{o:Out}{ρ:Rho}(hf:Ct z f):Cs z fun S=>(f S).bind fun S'=>some (o,ρ,S'):=fun S o ρ S2 h e=>by
 obtain⟨S1,e1,e2⟩:=Option.bind_eq_some_iff.mp e
 cases e2
 obtain⟨k1,h1⟩:=hf S _ h e1
 exact⟨by dsimp only;rw[k1];rfl,h1⟩
abbrev CmE(z:Fz)(c:CE):Prop:=∀ρ,Cm z (c ρ)
abbrev CmT(z:Fz)(c:CT):Prop:=∀ρ,Cm z (c ρ)
abbrev CmA(z:Fz)(c:CA):Prop:=∀ρ,Cm z (c ρ)
abbrev CmS(z:Fz)(c:CS):Prop:=∀ρ,Cs z (c ρ)
abbrev CmG(z:Fz)(g:CG):Prop:=∀u ρ,Cm z (g u ρ)
abbrev CmI(z:Fz)(c:CI):Prop:=∀ρ,Ci z (c ρ)
abbrev CmO(z:Fz)(f:U->U->Sto->Option (U×Sto)):Prop:=∀x y,Cm z (f x y)
abbrev CmF(z:Fz)(f:Fn):Prop:=∀us,Cm z (f us)
variable{ca cb cc:CE}{ta tb:CT}{cr:CA}{c1 c2:CS}{g:CG}{f:Fn}{op:U->U->Sto->Option (U×Sto)}{i:Nat}{ci:CI}{cl:Cl}
theorem K3:CmE z (ah i):=fun ρ=>by
 unfold ah
 split
 ·exact Cm.pure
 ·exact Cm.none
theorem k_c{u:U}:CmE z (cC u):=fun ρ=>Cm.pure
theorem K9:CmA z aA:=fun ρ=>Cm.pure
theorem Nb(h:CmO z op)(ha:CmE z ca)(hb:CmE z cb):CmE z (cOp op ca cb):=fun ρ=>(ha ρ).bind fun x=>(hb ρ).bind fun y=>h x y
theorem HK(ha:CmE z ca)(hr:CmA z cr):CmA z (ae ca cr):=fun ρ=>(ha ρ).bind fun x=>(hr ρ).bind fun y=>Cm.pure
theorem K4(hr:CmA z cr):CmE z (cL cr):=fun ρ=>(hr ρ).bind fun y=>Cm.pure
theorem La(hr:CmA z cr):CmE z (gG cr):=fun ρ=>Cm.bind (f:=cr ρ) (g:=fun us S=>some (U.ref S.length,S++[O.lst us])) (hr ρ) fun y=>Cm.new (g:=fun n=>U.ref n) (o:=O.lst y)
theorem Nf(h:CmF z f)(hr:CmA z cr):CmE z (cCB f cr):=fun ρ=>(hr ρ).bind fun y=>h y
theorem HI:CmE z A6:=fun ρ=>Cm.new (g:=fun n=>U.ref n) (o:=.dic [])
theorem Hz(ha:CmE z ca):CmT z (aH ca):=fun ρ=>Cm.bind (f:=ca ρ) (g:=fun u S=>match u with|.bl b=>some (b,S)|_=>none) (ha ρ) fun x=>by
 cases x with
 |bl b=>exact Cm.pure
 |_=>exact Cm.none
theorem Li(ha:CmT z ta)(hb:CmT z tb):CmT z (me ta tb):=fun ρ=>(ha ρ).bind (g:=fun b S=>if b=true then tb ρ S else some (false,S)) fun x=>.ite (hb ρ) .pure
theorem Na(ha:CmT z ta)(hb:CmT z tb):CmT z (cOr ta tb):=fun ρ=>(ha ρ).bind (g:=fun b S=>if b=true then some (true,S)else tb ρ S) fun x=>.ite .pure (hb ρ)
theorem K8(ha:CmT z ta):CmT z (yN ta):=fun ρ=>Cm.bind (f:=ta ρ) (g:=fun b S=>some (!b,S)) (ha ρ) fun x=>.pure
theorem HL(ha:CmE z ca)(hb:CmE z cb):CmE z (tU ca cb):=fun ρ=>Cm.bind (f:=ca ρ) (g:=fun u S=>match u with|.bl true=>cb ρ S|.bl false=>some (.bl false,S)|_=>none) (ha ρ) fun x=>by
 cases x with
 |bl b=>cases b with
  |true=>exact hb ρ
  |false=>exact Cm.pure
 |_=>exact Cm.none
theorem K6(h1:CmS z c1)(h2:CmS z c2):CmS z (bg c1 c2):=fun ρ=>(h1 ρ).bind (g:=fun o ρ S=>match o with|.nx=>c2 ρ S|o=>some (o,ρ,S)) fun o ρ'=>by
 cases o with
 |nx=>exact h2 ρ'
 |_=>exact Cs.pure
theorem HA:CmS z cf:=fun ρ=>Cs.pure
theorem K7(ha:CmE z ca):CmS z (eV ca):=fun ρ=>Cm.bindS (f:=ca ρ) (g:=fun u S=>some (.rt u,ρ,S)) (ha ρ) fun x=>.pure
theorem K5(ha:CmE z ca):CmS z (bO i ca):=fun ρ=>Cm.bindS (f:=ca ρ) (g:=fun u S=>some (.nx,ρ.set i (some u),S)) (ha ρ) fun x=>.pure
theorem HH(ha:CmE z ca):CmS z (d3 ca):=fun ρ=>Cm.bindS (f:=ca ρ) (g:=fun u S=>some (.nx,ρ,S)) (ha ρ) fun x=>.pure
theorem Lc(ht:CmT z ta)(h1:CmS z c1)(h2:CmS z c2):CmS z (dM ta c1 c2):=fun ρ=>(ht ρ).bindS (g:=fun b S=>if b=true then c1 ρ S else c2 ρ S) fun x=>.ite (h1 ρ) (h2 ρ)
theorem Le:CmG z (gNm i):=fun u ρ=>.pure
theorem Ld{is:List Nat}:CmG z (gTp is):=fun u ρ=>by
 cases u with
 |tup us=>exact Cm.opt (g:=fun ρ' S=>some (ρ',S)) fun _=>.pure
 |_=>exact Cm.none
theorem Lh(ha:CmE z ca)(hg:CmG z g):CmS z (ID ca g):=fun ρ=>Cm.bindS (f:=ca ρ) (g:=fun u S=>(g u ρ S).bind fun q=>some (.nx,q.1,q.2)) (ha ρ) fun x=>Cm.bindS (f:=g x ρ) (g:=fun ρ' S=>some (.nx,ρ',S)) (hg x ρ) fun ρ'=>.pure
theorem sU(ht:CmT z ta)(hb:CmS z c1):∀n,CmS z (cH ta c1 n)
 |0=>fun ρ=>Cs.none
 |n+1=>fun ρ=>(ht ρ).bindS (g:=fun b S=>if b=true then(c1 ρ S).bind fun r=>match r.1 with
  |.nx=>cH ta c1 n r.2.1 r.2.2
  |.ct=>cH ta c1 n r.2.1 r.2.2
  |.bk=>some (.nx,r.2.1,r.2.2)
  |.rt v=>some (.rt v,r.2.1,r.2.2)else some (.nx,ρ,S)) fun b=>.ite ((hb ρ).bind (g:=fun o ρ' S=>match o with
  |.nx=>cH ta c1 n ρ' S
  |.ct=>cH ta c1 n ρ' S
  |.bk=>some (.nx,ρ',S)
  |.rt v=>some (.rt v,ρ',S)) fun o ρ'=>by
   cases o with
   |nx=>exact sU ht hb n ρ'
   |ct=>exact sU ht hb n ρ'
   |bk=>exact Cs.pure
   |rt v=>exact Cs.pure) .pure
theorem uL{ok:Sto->Prop}(ho:OkZ z ok)(hg:CmG z g)(hb:CmS z c1):∀us,CmS z (cP ok g c1 us)
 |[]=>fun ρ S o ρ' S' h e=>by
  unfold cP at e ⊢
  split at e<;>cases e
  rename_i c
  rw[if_pos ((ho S h).mp c)]
  exact⟨rfl,h⟩
 |u::us=>fun ρ S o ρ' S' h e=>by
  have key:Cs z fun S=>(g u ρ S).bind fun p=>(c1 p.1 p.2).bind fun r=>match r.1 with
   |.nx=>cP ok g c1 us r.2.1 r.2.2
   |.ct=>cP ok g c1 us r.2.1 r.2.2
   |.bk=>some (.nx,r.2.1,r.2.2)
   |.rt v=>some (.rt v,r.2.1,r.2.2):=(hg u ρ).bindS fun ρ1=>(hb ρ1).bind (g:=fun o ρ' S=>match o with
    |.nx=>cP ok g c1 us ρ' S
    |.ct=>cP ok g c1 us ρ' S
    |.bk=>some (.nx,ρ',S)
    |.rt v=>some (.rt v,ρ',S)) fun o ρ'=>by
     cases o with
     |nx=>exact uL ho hg hb us ρ'
     |ct=>exact uL ho hg hb us ρ'
     |bk=>exact Cs.pure
     |rt v=>exact Cs.pure
  unfold cP at e ⊢
  split at e
  ·rename_i c
   rw[if_pos ((ho S h).mp c)]
   exact key S o ρ' S' h e
  ·cases e
theorem Lf(hi:CmI z ci)(hg:CmG z g)(hb:CmS z c1):CmS z (jV ci g c1):=fun ρ S o ρ' S' h e=>by
 obtain⟨⟨us,ok,S1⟩,e1,e2⟩:=Option.bind_eq_some_iff.mp e
 obtain⟨k1,h1,ho⟩:=hi ρ S us ok S1 h e1
 obtain⟨k2,h2⟩:=uL ho hg hb us ρ S1 o ρ' S' h1 e2
 refine⟨?_,h2⟩
 unfold jV
 rw[k1]
 exact k2
theorem uC:OkZ z fun _=>True:=fun _ _=>Iff.rfl
theorem xq{k:Nat}{us:List U}:OkZ z fun S=>S[k]?=some (.lst us):=fun S h=>by
 refine⟨fun e=>(Fz.get h e (by intro _ _ c;cases c)).1,fun e=>?_⟩
 by_cases c:z.l=k
 ·subst c
  unfold Fz.to at e
  rw[List.getElem?_set_self (Fz.lt h)]at e
  cases e
 ·unfold Fz.to at e
  dsimp only at e
  rw[List.getElem?_set_ne c]at e
  exact e
theorem Lb(ha:CmE z ca):CmI z (iTp ca):=fun ρ=>Cm.bindI (f:=ca ρ) (g:=fun u S=>match u with
  |.tup us=>some (us,fun _=>True,S)
  |.ref l=>match S[l]? with
   |some (.lst us)=>some (us,fun S=>S[l]?=some (.lst us),S)
   |_=>none
  |_=>none) (ha ρ) fun u=>by
 cases u with
 |tup us=>exact fun S vs ok S' h e=>by cases e;exact⟨rfl,h,uC⟩
 |ref l=>
  intro S vs ok S' h e
  dsimp only at e ⊢
  split at e<;>try cases e
  rename_i us hS
  rw[(Fz.get h hS (by intro _ _ c;cases c)).1]
  exact⟨rfl,h,xq⟩
 |_=>exact fun S vs ok S' h e=>by cases e
theorem HG(ha:CmE z ca):CmI z (pS ca):=fun ρ=>Cm.bindI (f:=ca ρ) (g:=fun u S=>(Bm u S).bind fun x=>some (vN x.1,x.2,S)) (ha ρ) fun u=>fun S vs ok S' h e=>by
 obtain⟨⟨us,ok1⟩,e1,e2⟩:=Option.bind_eq_some_iff.mp e
 cases e2
 cases u with
 |tup us=>cases e1;exact⟨rfl,h,uC⟩
 |ref l=>
  simp only[Bm]at e1 ⊢
  split at e1<;>try cases e1
  rename_i us hS
  rw[(Fz.get h hS (by intro _ _ c;cases c)).1]
  exact⟨rfl,h,xq⟩
 |_=>cases e1
theorem Nd{n k:Nat}(h1:CmS z c1):CmF z (fnU n k c1):=fun us=>by
 unfold fnU
 refine .ite (fun S a S' h e=>?_) .none
 obtain⟨⟨o,ρ,S1⟩,e1,e2⟩:=Option.bind_eq_some_iff.mp e
 obtain⟨k1,hz⟩:=h1 _ S o ρ S1 h e1
 rw[k1]
 cases o with
 |rt u=>cases e2;exact⟨rfl,hz⟩
 |nx=>cases e2;exact⟨rfl,hz⟩
 |_=>cases e2
theorem Cm.rdo{k:Nat}{F:Option O->Sto->Option (α×Sto)}(h0:∀e ks S,F (some (.fdn e ks)) S=Option.none)(hf:z.l≠k->∀o,Cm z (F o)):Cm z fun S=>F S[k]? S:=fun S a S' h e=>by
 dsimp only at e ⊢
 cases c:S[k]? with
 |none=>
  have:z.l≠k:=fun x=>by unfold Fz.on at h;rw[x,c]at h;cases h
  rw[c]at e
  unfold Fz.to
  rw[List.getElem?_set_ne this,c]
  exact hf this _ S a S' h e
 |some o=>
  rw[c]at e
  have ne:∀e ks,o≠.fdn e ks:=fun _ _ c=>by rw[c,h0]at e;cases e
  rw[(Fz.get h c ne).1]
  exact hf (Fz.get h c ne).2 _ S a S' h e
theorem Ct.rdo{k:Nat}{F:Option O->Sto->Option Sto}(h0:∀e ks S,F (some (.fdn e ks)) S=Option.none)(hf:z.l≠k->∀o,Ct z (F o)):Ct z fun S=>F S[k]? S:=fun S S' h e=>by
 dsimp only at e ⊢
 cases c:S[k]? with
 |none=>
  have:z.l≠k:=fun x=>by unfold Fz.on at h;rw[x,c]at h;cases h
  rw[c]at e
  unfold Fz.to
  rw[List.getElem?_set_ne this,c]
  exact hf this _ S S' h e
 |some o=>
  rw[c]at e
  have ne:∀e ks,o≠.fdn e ks:=fun _ _ c=>by rw[c,h0]at e;cases e
  rw[(Fz.get h c ne).1]
  exact hf (Fz.get h c ne).2 _ S S' h e
theorem Ct.none:Ct z (fun _=>(none:Option Sto)):=fun S S2 h e=>by cases e
theorem Ct.opt{x:Option β}{g:β->Sto->Option Sto}(hg:∀b,Ct z (g b)):Ct z fun S=>x.bind fun b=>g b S:=by
 cases x with
 |none=>exact Ct.none
 |some b=>exact hg b
theorem Ct.ite{p:Prop}{_:Decidable p}{f g:Sto->Option Sto}(hf:Ct z f)(hg:Ct z g):Ct z fun S=>if p then f S else g S:=by
 by_cases c:p
 ·simp only[if_pos c];exact hf
 ·simp only[if_neg c];exact hg
theorem Ct.put{k:Nat}{o:O}(nk:z.l≠k):Ct z fun S=>some (S.set k o):=fun S S' h e=>by
 cases e
 exact⟨by rw[Fz.put nk],Fz.put_on h nk⟩
theorem Cm.put{a:α}{k:Nat}{o:O}(nk:z.l≠k):Cm z fun S=>some (a,S.set k o):=fun S _ S' h e=>by
 cases e
 exact⟨by rw[Fz.put nk],Fz.put_on h nk⟩
theorem MD{g:Int->Int->Option U}:CmO z (fI g):=fun x y=>by
 cases x<;>cases y<;>first|exact Cm.opt (g:=fun u S=>some (u,S)) fun _=>.pure|exact Cm.none
theorem Jk:CmO z fEq:=fun x y=>Cm.opt (x:=eqS x y) (g:=fun b S=>some (U.bl b,S)) fun _=>.pure
theorem Jg:CmO z fNe:=fun x y=>Cm.opt (x:=eqS x y) (g:=fun b S=>some (U.bl (!b),S)) fun _=>.pure
theorem Ji:CmO z EW:=fun x y=>by cases y<;>first|exact Cm.pure|exact Cm.none
theorem E6:CmO z oj:=fun x y=>by cases y<;>first|exact Cm.pure|exact Cm.none
theorem Cm.o1{x:Option U}:Cm z fun S=>x.bind fun u=>some (u,S):=Cm.opt (g:=fun u S=>some (u,S)) fun _=>.pure
theorem MB:CmO z fIx:=fun x y=>by
 cases x with
 |tup us=>cases y<;>first|exact Cm.o1|exact Cm.none
 |kl us=>cases y<;>first|exact Cm.o1|exact Cm.none
 |ref l=>
  refine Cm.rdo (k:=l) (F:=fun o S=>match o with
   |some (.lst us)=>(match y with
    |.int i=>(atI us i).bind fun u=>some (u,S)
    |_=>none)
   |some (.dic kus)=>(iA y).bind fun k=>(cE kus k).bind fun u=>some (u,S)
   |some (.fdc ep kus)=>(iA y).bind fun k=>(cE kus k).bind fun u=>some (u,S)
   |_=>none) (fun _ _ _=>rfl) fun nk o=>?_
  rcases o with _|o
  ·exact Cm.none
  cases o with
  |lst us=>cases y<;>first|exact Cm.o1|exact Cm.none
  |dic kus=>exact Cm.opt (x:=iA y) (g:=fun k S=>(cE kus k).bind fun u=>some (u,S)) fun _=>Cm.o1
  |fdc ep kus=>exact Cm.opt (x:=iA y) (g:=fun k S=>(cE kus k).bind fun u=>some (u,S)) fun _=>Cm.o1
  |_=>exact Cm.none
 |_=>exact Cm.none
theorem Jh:CmF z fU:=fun us=>by
 match us with
 |[.tup us]=>exact Cm.pure
 |[.kl us]=>exact Cm.pure
 |[.ref l]=>
  refine Cm.rdo (k:=l) (F:=fun o S=>match o with
   |some (.lst us)=>some (U.int us.length,S)
   |some (.dic us)=>some (U.int us.length,S)
   |_=>none) (fun _ _ _=>rfl) fun nk o=>?_
  rcases o with _|o
  ·exact Cm.none
  cases o<;>first|exact Cm.pure|exact Cm.none
 |[.non]|[.bl _]|[.int _]|[.str _]|[]=>exact Cm.none
 |x::_::_=>cases x<;>exact Cm.none
theorem E8:CmF z jM:=fun us=>by
 match us with
 |[.tup us]=>exact Cm.new (g:=fun n=>U.ref n) (o:=.lst us)
 |[.ref l]=>
  refine Cm.rdo (k:=l) (F:=fun o S=>match o with
   |some (.lst us)=>some (U.ref S.length,S++[.lst us])
   |_=>none) (fun _ _ _=>rfl) fun nk o=>?_
  rcases o with _|o
  ·exact Cm.none
  cases o with
  |lst us=>exact Cm.new (g:=fun n=>U.ref n) (o:=.lst us)
  |_=>exact Cm.none
 |[.non]|[.bl _]|[.int _]|[.str _]|[.kl _]|[]=>exact Cm.none
 |x::_::_=>cases x<;>exact Cm.none
theorem BY:CmF z gC:=fun us=>by
 match us with
 |[.tup us]=>exact Cm.pure
 |[.ref l]=>
  refine Cm.rdo (k:=l) (F:=fun o S=>match o with
   |some (.lst us)=>some (U.tup us,S)
   |_=>none) (fun _ _ _=>rfl) fun nk o=>?_
  rcases o with _|o
  ·exact Cm.none
  cases o<;>first|exact Cm.pure|exact Cm.none
 |[.non]|[.bl _]|[.int _]|[.str _]|[.kl _]|[]=>exact Cm.none
 |x::_::_=>cases x<;>exact Cm.none
theorem E5{x:Option (List Int)}:Cm z fun S=>x.bind fun ns=>if ns.length<64 then some (U.ref S.length,S++[.lst ((dr ns).map U.int)])else none:=
 Cm.opt (x:=x) (g:=fun ns S=>if ns.length<64 then some (U.ref S.length,S++[O.lst ((dr ns).map U.int)])else none) fun ns=>.ite (Cm.new (g:=fun n=>U.ref n) (o:=.lst ((dr ns).map U.int))) .none
theorem zb:CmF z gY:=fun us=>by
 match us with
 |[.ref l]=>
  refine Cm.rdo (k:=l) (F:=fun o S=>match o with
   |some (.lst us)=>(n9 us).bind fun ns=>if ns.length<64 then some (U.ref S.length,S++[.lst ((dr ns).map U.int)])else none
   |some (.dic kus)=>(sQ kus).bind fun ns=>if ns.length<64 then some (U.ref S.length,S++[.lst ((dr ns).map U.int)])else none
   |_=>none) (fun _ _ _=>rfl) fun nk o=>?_
  rcases o with _|o
  ·exact Cm.none
  cases o<;>first|exact E5|exact Cm.none
 |[.tup _]|[.non]|[.bl _]|[.int _]|[.str _]|[.kl _]|[]=>exact Cm.none
 |x::_::_=>cases x<;>exact Cm.none
theorem wb:CmF z gX:=fun us=>by
 match us with
 |[.tup us]=>exact E5
 |[.ref _]|[.non]|[.bl _]|[.int _]|[.str _]|[.kl _]|[]=>exact Cm.none
 |x::_::_=>cases x<;>exact Cm.none
theorem MC{neg:Bool}:CmO z (fIn neg):=fun x y=>by
 cases y with
 |tup us=>exact Cm.ite .pure .none
 |ref l=>
  refine Cm.rdo (k:=l) (F:=fun o S=>match o with
   |some (.lst us)=>if gv x=true/\us.all gv=true then some (U.bl (if neg then !inU x us else inU x us),S)else none
   |some (.dic kus)=>(iA x).bind fun k=>some (U.bl (if neg then !(cE kus k).isSome else(cE kus k).isSome),S)
   |some (.fdc ep kus)=>(iA x).bind fun k=>some (U.bl (if neg then !(cE kus k).isSome else(cE kus k).isSome),S)
   |_=>none) (fun _ _ _=>rfl) fun nk o=>?_
  rcases o with _|o
  ·exact Cm.none
  cases o with
  |lst us=>exact Cm.ite .pure .none
  |dic kus=>exact Cm.opt (x:=iA x) (g:=fun k S=>some (U.bl (if neg then !(cE kus k).isSome else(cE kus k).isSome),S)) fun _=>.pure
  |fdc ep kus=>exact Cm.opt (x:=iA x) (g:=fun k S=>some (U.bl (if neg then !(cE kus k).isSome else(cE kus k).isSome),S)) fun _=>.pure
  |_=>exact Cm.none
 |_=>exact Cm.none
theorem zc{x:U}{us:List U}:Cm z (bU x us):=by
 match x,us with
 |.ref l,[u]=>
  refine Cm.rdo (k:=l) (F:=fun o S=>match o with
   |some (.lst us)=>if us.length<LIM then some (U.non,S.set l (.lst (us++[u])))else none
   |_=>none) (fun _ _ _=>rfl) fun nk o=>?_
  rcases o with _|o
  ·exact Cm.none
  cases o with
  |lst us=>exact Cm.ite (.put nk) .none
  |_=>exact Cm.none
 |.ref l,[]|.ref l,_::_::_=>exact Cm.none
 |.non,_|.bl _,_|.int _,_|.str _,_|.tup _,_|.kl _,_=>exact Cm.none
theorem Jl{l k:Nat}:Cm z (jL (.ref l) (.ref k)):=fun S a S' h e=>by
 simp only[jL]at e ⊢
 split at e<;>try cases e
 rename_i x y h1 h2
 rw[(Fz.get h h1 (by intro _ _ c;cases c)).1,(Fz.get h h2 (by intro _ _ c;cases c)).1]
 dsimp only
 split at e<;>cases e
 rename_i c
 rw[if_pos c,Fz.len,Fz.app h]
 exact⟨rfl,Fz.app_on h⟩
theorem Jm:CmO z eF:=fun x y=>by
 cases x<;>cases y<;>first|exact Cm.pure|exact Jl|exact Cm.ite .pure .none|exact Cm.none
theorem E7:CmO z vJ:=fun x y=>by
 match x,y with
 |.int _,.int _=>exact Cm.ite .pure .none
 |.tup _,.int _=>exact Cm.ite .pure .none
 |.ref l,.int k=>
  refine Cm.rdo (k:=l) (F:=fun o S=>match o with
   |some (.lst us)=>if 0<=k/\k<=100000/\us.length*k.toNat<=LIM then some (U.ref S.length,S++[.lst (List.replicate k.toNat us).flatten])else none
   |_=>none) (fun _ _ _=>rfl) fun nk o=>?_
  rcases o with _|o
  ·exact Cm.none
  cases o with
  |lst us=>exact Cm.ite (Cm.new (g:=fun n=>U.ref n) (o:=.lst (List.replicate k.toNat us).flatten)) .none
  |_=>exact Cm.none
 |.non,_|.bl _,_|.str _,_|.kl _,_=>exact Cm.none
 |.int _,.non|.int _,.bl _|.int _,.str _|.int _,.tup _|.int _,.ref _|.int _,.kl _=>exact Cm.none
 |.tup _,.non|.tup _,.bl _|.tup _,.str _|.tup _,.tup _|.tup _,.ref _|.tup _,.kl _=>exact Cm.none
 |.ref _,.non|.ref _,.bl _|.ref _,.str _|.ref _,.tup _|.ref _,.ref _|.ref _,.kl _=>exact Cm.none
theorem Jj:CmF z y6:=fun us=>by
 match us with
 |[.int _]=>exact Cm.pure
 |[.bl _]=>exact Cm.pure
 |[.ref _]|[.non]|[.tup _]|[.str _]|[.kl _]|[]=>exact Cm.none
 |x::_::_=>cases x<;>exact Cm.none
theorem BZ{x y v:U}:Ct z (iX x y v):=by
 cases x with
 |ref l=>
  refine Ct.rdo (k:=l) (F:=fun o S=>match o with
   |some (.lst us)=>(match y with
    |.int k=>(ixN us.length k).bind fun j=>some (S.set l (.lst (us.set j v)))
    |_=>none)
   |some (.dic kus)=>(iA y).bind fun k=>if kus.length<LIM then some (S.set l (.dic (kE kus k v)))else none
   |_=>none) (fun _ _ _=>rfl) fun nk o=>?_
  rcases o with _|o
  ·exact Ct.none
  cases o with
  |lst us=>cases y with
   |int k=>exact Ct.opt (x:=ixN us.length k) (g:=fun j S=>some (S.set l (.lst (us.set j v)))) fun _=>.put nk
   |_=>exact Ct.none
  |dic kus=>exact Ct.opt (x:=iA y) (g:=fun k S=>if kus.length<LIM then some (S.set l (.dic (kE kus k v)))else none) fun _=>.ite (.put nk) .none
  |_=>exact Ct.none
 |_=>exact Ct.none
theorem D9(ho:CmE z ca)(hi:CmE z cb)(hv:CmE z cc):CmS z (gk ca cb cc):=fun ρ=>
 Cm.bindS (f:=cc ρ) (g:=fun v S=>(ca ρ S).bind fun q=>(cb ρ q.2).bind fun r=>(iX q.1 r.1 v r.2).bind fun S'=>some (.nx,ρ,S')) (hv ρ) fun v=>
 Cm.bindS (f:=ca ρ) (g:=fun x S=>(cb ρ S).bind fun r=>(iX x r.1 v r.2).bind fun S'=>some (.nx,ρ,S')) (ho ρ) fun x=>
 Cm.bindS (f:=cb ρ) (g:=fun y S=>(iX x y v S).bind fun S'=>some (.nx,ρ,S')) (hi ρ) fun y=>Ct.bindS BZ
open Classical in
theorem Lg:CmE z ca->CmE z (nY cl i ca):=fun ha ρ=>Cm.bind (f:=ca ρ) (g:=fun x S=>EX cl i x S) (ha ρ) fun x=>by
 cases x with
 |ref l=>
  refine Cm.rdo (k:=l) (F:=fun o S=>match o with
   |some (.ins c' fus)=>if c'=cl then(fus[i]?).join.bind fun u=>some (u,S)else none
   |_=>none) (fun _ _ _=>rfl) fun nk o=>?_
  rcases o with _|o
  ·exact Cm.none
  cases o with
  |ins c' fus=>exact Cm.ite Cm.o1 .none
  |_=>exact Cm.none
 |_=>exact Cm.none
open Classical in
theorem HB(ha:CmE z ca)(hv:CmE z cb):CmS z (kq cl i ca cb):=fun ρ=>
 Cm.bindS (f:=cb ρ) (g:=fun v S=>(ca ρ S).bind fun q=>(tm cl i q.1 v q.2).bind fun S'=>some (.nx,ρ,S')) (hv ρ) fun v=>
 Cm.bindS (f:=ca ρ) (g:=fun x S=>(tm cl i x v S).bind fun S'=>some (.nx,ρ,S')) (ha ρ) fun x=>Ct.bindS (by
  cases x with
  |ref l=>
   refine Ct.rdo (k:=l) (F:=fun o S=>match o with
    |some (.ins c' fus)=>if c'=cl then some (S.set l (.ins cl (fus.set i (some v))))else none
    |_=>none) (fun _ _ _=>rfl) fun nk o=>?_
   rcases o with _|o
   ·exact Ct.none
   cases o with
   |ins c' fus=>exact Ct.ite (.put nk) .none
   |_=>exact Ct.none
  |_=>exact Ct.none)
open Classical in
theorem HD(hf:CmF z f)(ha:CmE z ca)(hr:CmA z cr):CmE z (fi cl f ca cr):=fun ρ=>Cm.bind (f:=ca ρ) (g:=fun x S=>vK cl f x S (cr ρ)) (ha ρ) fun x=>by
 cases x with
 |ref l=>
  refine Cm.rdo (k:=l) (F:=fun o S=>match o with
   |some (.ins c' _)=>if c'=cl then(cr ρ S).bind fun q=>f (.ref l::q.1) q.2 else none
   |_=>none) (fun _ _ _=>rfl) fun nk o=>?_
  rcases o with _|o
  ·exact Cm.none
  cases o with
  |ins c' fus=>exact Cm.ite (Cm.bind (f:=cr ρ) (g:=fun us S=>f (.ref l::us) S) (hr ρ) fun us=>hf _) .none
  |_=>exact Cm.none
 |_=>exact Cm.none
theorem Ng{fm:U->List U->Sto->Option (U×Sto)}(hf:∀x us,Cm z (fm x us))(ha:CmE z ca)(hr:CmA z cr):CmE z (cBM fm ca cr):=fun ρ=>Cm.bind (f:=ca ρ) (g:=fun x S=>match x with
  |.ref l=>match S[l]? with
   |some (.lst _)=>(cr ρ S).bind fun q=>fm x q.1 q.2
   |_=>none
  |_=>none) (ha ρ) fun x=>by
 cases x with
 |ref l=>
  refine Cm.rdo (k:=l) (F:=fun o S=>match o with
   |some (.lst _)=>(cr ρ S).bind fun q=>fm (.ref l) q.1 q.2
   |_=>none) (fun _ _ _=>rfl) fun nk o=>?_
  rcases o with _|o
  ·exact Cm.none
  cases o with
  |lst us=>exact Cm.bind (f:=cr ρ) (g:=fun us S=>fm (.ref l) us S) (hr ρ) fun us=>hf _ _
  |_=>exact Cm.none
 |_=>exact Cm.none
theorem HE(hf:CmF z f):CmF z (tq cl f):=fun us S a S' h e=>by
 unfold tq at e ⊢
 obtain⟨⟨u,S1⟩,e1,e2⟩:=Option.bind_eq_some_iff.mp e
 obtain⟨k1,h1⟩:=hf _ _ _ _ (Fz.app_on h) e1
 rw[Fz.app h]at k1
 rw[Fz.len,k1,Option.bind_some]
 cases u<;>first|cases e2;exact⟨rfl,h1⟩|cases e2
theorem xP:∀{prs:List (CE×CE)},(∀p∈prs,CmE z p.1/\CmE z p.2)->∀ρ,Cm z (gh prs ρ)
 |[],_,ρ=>Cm.pure
 |(ck,cv)::r,h,ρ=>Cm.bind (f:=ck ρ) (g:=fun x S=>(cv ρ S).bind fun q=>(iA x).bind fun k=>(gh r ρ q.2).bind fun z=>some ((k,q.1)::z.1,z.2)) ((h _ List.mem_cons_self).1 ρ) fun x=>
  Cm.bind (f:=cv ρ) (g:=fun y S=>(iA x).bind fun k=>(gh r ρ S).bind fun z=>some ((k,y)::z.1,z.2)) ((h _ List.mem_cons_self).2 ρ) fun y=>
  Cm.opt (x:=iA x) (g:=fun k S=>(gh r ρ S).bind fun z=>some ((k,y)::z.1,z.2)) fun k=>
  Cm.bind (f:=gh r ρ) (g:=fun zs S=>some ((k,y)::zs,S)) (xP (fun p hp=>h p (List.mem_cons_of_mem _ hp)) ρ) fun _=>.pure
theorem HJ{prs:List (CE×CE)}(hp:∀p∈prs,CmE z p.1/\CmE z p.2):CmE z (tR prs):=fun ρ S a S' h e=>by
 unfold tR at e ⊢
 obtain⟨⟨u,S1⟩,e1,e2⟩:=Option.bind_eq_some_iff.mp e
 obtain⟨k1,h1⟩:=xP hp ρ _ _ _ (Fz.app_on h) e1
 rw[Fz.app h]at k1
 rw[Fz.len,k1,Option.bind_some]
 dsimp only at e2 ⊢
 split at e2<;>try cases e2
 rename_i hS
 obtain⟨g1,g2⟩:=Fz.get h1 hS (by intro _ _ c;cases c)
 rw[g1]
 exact⟨by rw[Fz.put g2],Fz.put_on h1 g2⟩
theorem BC{c:Option CE}(h:∀x,c=some x->CmE z x):∀ρ,Cm z (oy c ρ):=fun ρ=>by
 cases c with
 |none=>exact Cm.pure
 | some x=>exact Cm.bind (f:=x ρ) (g:=fun u S=>match u with
   |.int i=>some (some i,S)
   |_=>none) (h x rfl ρ) fun u=>by cases u<;>first|exact Cm.pure|exact Cm.none
theorem M9{lo hi:Option CE}(ha:CmE z ca)(h1:∀x,lo=some x->CmE z x)(h2:∀x,hi=some x->CmE z x):CmE z (cSl ca lo hi):=fun ρ=>
 Cm.bind (f:=ca ρ) (g:=fun x S=>(oy lo ρ S).bind fun q=>(oy hi ρ q.2).bind fun r=>fSl x q.1 r.1 r.2) (ha ρ) fun x=>
 Cm.bind (f:=oy lo ρ) (g:=fun q S=>(oy hi ρ S).bind fun r=>fSl x q r.1 r.2) (BC h1 ρ) fun q=>
 Cm.bind (f:=oy hi ρ) (g:=fun r S=>fSl x q r S) (BC h2 ρ) fun r=>by
  cases x with
  |tup us=>exact Cm.ite .none .pure
  |ref l=>
   refine Cm.rdo (k:=l) (F:=fun o S=>match o with
    |some (.lst us)=>some (U.ref S.length,S++[.lst (BP us q r)])
    |_=>none) (fun _ _ _=>rfl) fun nk o=>?_
   rcases o with _|o
   ·exact Cm.none
   cases o with
   |lst us=>exact Cm.new (g:=fun n=>U.ref n) (o:=.lst (BP us q r))
   |_=>exact Cm.none
  |_=>exact Cm.none
theorem nv{ok:Sto->Prop}{k:Nat}(ho:OkZ z ok)(hg:CmG z g)(ht:CmT z ta)(he:CmE z ca):∀us ρ,Ct z (b8 ok g ta ca k us ρ)
 |[],ρ=>fun S S' h e=>by
  unfold b8 at e ⊢
  split at e<;>cases e
  rename_i c
  rw[if_pos ((ho _ h).mp c)]
  exact⟨rfl,h⟩
 |u::us,ρ=>fun S S' h e=>by
  unfold b8 at e ⊢
  split at e<;>try cases e
  rename_i c
  rw[if_pos ((ho _ h).mp c)]
  obtain⟨⟨ρ1,S1⟩,e1,e⟩:=Option.bind_eq_some_iff.mp e
  obtain⟨k1,h1⟩:=hg _ _ _ _ _ h e1
  rw[k1,Option.bind_some]
  obtain⟨⟨b,S2⟩,e2,e⟩:=Option.bind_eq_some_iff.mp e
  obtain⟨k2,h2⟩:=ht _ _ _ _ h1 e2
  dsimp only at e k2 ⊢
  rw[k2,Option.bind_some]
  cases b with
  |false=>exact nv ho hg ht he us ρ1 S2 S' h2 e
  |true=>
   dsimp only at e ⊢
   rw[if_pos rfl]at e ⊢
   obtain⟨⟨v,S3⟩,e3,e⟩:=Option.bind_eq_some_iff.mp e
   obtain⟨k3,h3⟩:=he _ _ _ _ h2 e3
   rw[k3,Option.bind_some]
   dsimp only at e ⊢
   split at e<;>try cases e
   rename_i ys hS
   obtain⟨g1,g2⟩:=Fz.get h3 hS (by intro _ _ c;cases c)
   rw[g1]
   dsimp only
   split at e<;>try cases e
   rename_i cl
   rw[if_pos cl,<-Fz.put g2]
   exact nv ho hg ht he us ρ1 _ S' (Fz.put_on h3 g2) e
theorem AD{n:Nat}{caps:List Nat}(hi:CmI z ci)(hg:CmG z g)(ht:CmT z ta)(he:CmE z ca):CmE z (kY ci g ta ca n caps):=fun ρ S a S' h e=>by
 unfold kY at e ⊢
 obtain⟨⟨us,ok,S1⟩,e1,e⟩:=Option.bind_eq_some_iff.mp e
 obtain⟨k1,h1,ho⟩:=hi ρ S us ok S1 h e1
 rw[k1,Option.bind_some]
 dsimp only at e ⊢
 obtain⟨S2,e2,e3⟩:=Option.bind_eq_some_iff.mp e
 cases e3
 obtain⟨k2,h2⟩:=nv ho hg ht he us _ _ _ (Fz.app_on h1) e2
 rw[Fz.app h1]at k2
 rw[Fz.len,k2]
 exact⟨rfl,h2⟩
theorem HF(he:CmE z ca)(hg:CmG z g)(hb:CmS z c1):CmS z (tQ ca g c1):=fun ρ S o ρ' S' h e=>by
 unfold tQ at e ⊢
 obtain⟨⟨u,S1⟩,e1,e⟩:=Option.bind_eq_some_iff.mp e
 obtain⟨k1,h1⟩:=he ρ S u S1 h e1
 rw[k1,Option.bind_some]
 cases u with
 |ref l=>
  dsimp only at e ⊢
  split at e<;>try cases e
  rename_i kus hS
  obtain⟨g1,g2⟩:=Fz.get h1 hS (by intro _ _ c;cases c)
  rw[g1]
  dsimp only
  have all:∀ep,_:=mi e
  have key:∀ep,(cP (fun S'=>S'[l]?=some (.fdc ep kus)) g c1 (kus.map fun q=>kU q.1) ρ ((z.to S1).set l (.fdc ep kus))).bind (fun r=>match r.2.2[l]? with
    |some (.fdc _ kus')=>some (r.1,r.2.1,r.2.2.set l (.dic kus'))
    |_=>none)=some (o,ρ',z.to S')/\z.on S':=fun ep=>by
   obtain⟨⟨o1,ρ1,S2⟩,e2,e3⟩:=Option.bind_eq_some_iff.mp (all ep)
   have okz:OkZ z fun S'=>S'[l]?=some (.fdc ep kus):=fun T hT=>by
    unfold Fz.to
    dsimp only
    rw[List.getElem?_set_ne g2]
   obtain⟨k2,h2⟩:=uL okz hg hb _ ρ _ _ _ _ (Fz.put_on h1 g2) e2
   rw[Fz.put g2]at k2
   rw[k2,Option.bind_some]
   dsimp only at e3 ⊢
   cases hS2:S2[l]? with
   |none=>rw[hS2]at e3;cases e3
   |some x=>
    rw[hS2]at e3
    cases x with
    |fdc e9 k9=>
     cases e3
     rw[(Fz.get h2 hS2 (by intro _ _ c;cases c)).1]
     exact⟨by rw[Fz.put g2],Fz.put_on h2 g2⟩
    |_=>cases e3
  exact⟨ui fun ep=>(key ep).1,(key 0).2⟩
 |_=>cases e
theorem HC:CmF z fun _ _=>none:=fun _=>.none
end
end OP
namespace OQ
open PySem PySem.Spec PyProof.Rows L2 OG OP
def eP:CS:=
 (bg (dM (aH (cOp fEq (cOp fIx (ah 0) (cC (.int 2))) (cC (.int 0)))) (bg (bO 2 (cOp fIx (ah 0) (cC (.int 1))))
  (bg (gk (ah 0) (cC (.int 1)) (cOp eF (ah 2) (cC (.int 1))))
  (bg (bO 3 (cC (.int 0)))
  (bg (dM (aH (cOp fLt (ah 2) (cCB fU (ae (cOp fIx (ah 0) (cC (.int 0))) aA)))) (bO 3 (cOp fIx (cOp fIx (ah 0) (cC (.int 0))) (ah 2))) (dM (aH (cOp fGt (cCB fU (ae (cOp fIx (ah 0) (cC (.int 0))) aA)) (cC (.int 0)))) (bO 3 (cOp eF (cOp p6 (cOp fIx (cOp fIx (ah 0) (cC (.int 0))) (cOp p6 (cOp mz (ah 2) (cC (.int 3))) (cCB fU (ae (cOp fIx (ah 0) (cC (.int 0))) aA)))) (cC (.int 1000003))) (cOp mz (cC (.int 97)) (ah 2)))) cf))
  (bg (bO 4 (cOp p6 (cOp mz (cOp eF (cOp eF (cOp p6 (ah 3) (cC (.int 998244353))) (cOp mz (cC (.int 53)) (ah 2))) (cC (.int 1))) (cC (.int 48271))) (cC (.int 2147483647))))
  (bg (bO 5 (cOp p6 (cOp eF (cOp eF (cOp mz (ah 4) (ah 4)) (cOp mz (cC (.int 69621)) (ah 2))) (cC (.int 5))) (cC (.int 1000000007))))
  (bg (bO 6 (cOp p6 (cOp eF (cOp mz (ah 5) (ah 5)) (ah 4)) (cC (.int 998244353))))
  (bg (gk (ah 0) (cC (.int 2)) (cOp eF (cOp AO (cOp eF (cOp mz (ah 5) (cC (.int 998244353))) (ah 6)) (cC (.int 16))) (cC (.int 1))))
  (dM (aH (cOp fGe (ah 3) (cOp EV (cC (.int 10)) (cC (.int 18))))) (gk (ah 0) (cC (.int 2)) (cOp AO (ah 3) (cOp EV (cC (.int 10)) (cC (.int 18))))) cf))))))))) cf)
  (bg (bO 7 (cOp p6 (cOp fIx (ah 0) (cC (.int 2))) (ah 1)))
  (bg (gk (ah 0) (cC (.int 2)) (cOp AO (cOp fIx (ah 0) (cC (.int 2))) (ah 1)))
  (eV (ah 7)))))
theorem tD{a0 a1:U}{S:Sto}:fnU 8 2 (eP ) [a0,a1] S=((eP ) [some a0,some a1,none,none,none,none,none,none] S).bind kFn:=jd rfl
def e8(ak:Fn):CS:=
 (eV (cL (ae (cOp eF (cC (.int 1)) (cCB ak (ae (ah 0) (ae (cC (.int 6)) aA)))) (ae (cOp fIx (gG (ae (cC (.int 2)) (ae (cC (.int 3)) (ae (cC (.int 5)) (ae (cC (.int 10)) (ae (cOp eF (cC (.int 2)) (cCB ak (ae (ah 0) (ae (cC (.int 999)) aA)))) aA)))))) (cCB ak (ae (ah 0) (ae (cC (.int 5)) aA)))) aA))))
theorem rC{ak:Fn}{a0:U}{S:Sto}:fnU 1 1 (e8 ak) [a0] S=((e8 ak) [some a0] S).bind kFn:=jd rfl
def fv(aM:Fn):CS:=
 (bg (bO 1 (cOp eF (ah 1) (cC (.int 1))))
  (dM (aH (cOp fEq (cOp fIx (ah 2) (cC (.int 0))) (cC (.str "try")))) (bO 1 (cOp eF (cOp eF (ah 1) (cCB aM (ae (cOp fIx (ah 2) (cC (.int 1))) aA))) (cCB aM (ae (cOp fIx (ah 2) (cC (.int 2))) aA)))) cf))
def fO(aM:Fn):CS:=
 (bg (bO 1 (cC (.int 0)))
  (bg (jV (iTp (ah 0)) (gNm 2) (fv aM))
  (eV (ah 1))))
theorem tF{aM:Fn}{a0:U}{S:Sto}:fnU 3 1 (fO aM) [a0] S=((fO aM) [some a0,none,none] S).bind kFn:=jd rfl
def bf(ak:Fn):CS:=
 (bg (dM (aH (cOp fLt (ah 2) (cC (.int 4)))) (eV (cL (ae (cC (.str "look")) (ae (ah 3) (ae (cCB ak (ae (ah 0) (ae (cOp fIx (ah 1) (cC (.int 0))) aA))) aA))))) cf)
  (bg (dM (aH (cOp fLt (ah 2) (cC (.int 7)))) (eV (cL (ae (cC (.str "put")) (ae (cCB ak (ae (ah 0) (ae (cOp fIx (ah 1) (cC (.int 0))) aA))) (ae (ah 3) aA))))) cf)
  (bg (dM (aH (cOp fLt (ah 2) (cC (.int 9)))) (eV (cL (ae (cC (.str "set")) (ae (ah 3) (ae (cCB ak (ae (ah 0) (ae (cOp fIx (ah 1) (cC (.int 1))) aA))) aA))))) cf)
  (bg (dM (aH (cOp fLt (ah 2) (cC (.int 11)))) (eV (cL (ae (cC (.str "plus")) (ae (ah 3) (ae (cCB ak (ae (ah 0) (ae (cC (.int 4)) aA))) aA))))) cf)
  (eV (cL (ae (cC (.str "leap")) (ae (ah 3) (ae (cOp eF (cC (.int 1)) (cCB ak (ae (ah 0) (ae (cOp fIx (gG (ae (cC (.int 2)) (ae (cC (.int 12)) aA))) (cCB ak (ae (ah 0) (ae (cC (.int 2)) aA)))) aA)))) aA)))))))))
theorem kR{ak:Fn}{a0 a1 a2 a3:U}{S:Sto}:fnU 4 4 (bf ak) [a0,a1,a2,a3] S=((bf ak) [some a0,some a1,some a2,some a3] S).bind kFn:=jd rfl
def dN(ak aU aE aM:Fn):CS:=
 (bg (bO 7 (cCB ak (ae (ah 0) (ae (cC (.int 16)) aA))))
  (bg (bO 8 (cCB ak (ae (ah 0) (ae (cC (.int 4)) aA))))
  (dM (me (aH (cOp fGt (ah 5) (cC (.int 0)))) (me (aH (cOp fLt (cCB fU (ae (ah 4) aA)) (cC (.int 12)))) (aH (cOp fLt (ah 7) (cC (.int 13)))))) (bg (d3 (cBM bU (ah 4) (ae (cCB aU (ae (ah 0) (ae (ah 1) (ae (ah 7) (ae (ah 8) aA))))) aA)))
  (bO 5 (cOp pZ (ah 5) (cC (.int 1))))) (dM (me (aH (cOp fGt (ah 5) (cC (.int 0)))) (me (aH (cOp fLt (cCB fU (ae (ah 4) aA)) (cC (.int 12)))) (cOr (aH (cOp fEq (ah 7) (cC (.int 13)))) (aH (cOp fEq (ah 3) (cC (.int 0))))))) (bg (dM (me (aH (cOp fGt (ah 5) (cC (.int 1)))) (me (aH (cOp fLt (cCB fU (ae (ah 4) aA)) (cC (.int 11)))) (aH (cOp fGt (cCB ak (ae (ah 0) (ae (cC (.int 4)) aA))) (cC (.int 0)))))) (bg (d3 (cBM bU (ah 4) (ae (cL (ae (cC (.str "leap")) (ae (ah 8) (ae (cC (.int 1)) aA)))) aA)))
  (bO 5 (cOp pZ (ah 5) (cC (.int 1))))) cf)
  (bg (d3 (cBM bU (ah 4) (ae (cL (ae (cC (.str "wait")) aA)) aA)))
  (bO 5 (cOp pZ (ah 5) (cC (.int 1)))))) (dM (me (aH (cOp fGt (ah 5) (cC (.int 0)))) (aH (cOp fLt (cCB fU (ae (ah 4) aA)) (cC (.int 12))))) (bg (bO 9 (cCB aE (ae (ah 0) (ae (ah 1) (ae (cCB ak (ae (ah 0) (ae (ah 5) aA))) (ae (cOp pZ (ah 3) (cC (.int 1))) aA))))))
  (bg (bO 5 (cOp pZ (cOp pZ (ah 5) (cC (.int 1))) (cCB aM (ae (ah 9) aA))))
  (bg (bO 10 (cCB aE (ae (ah 0) (ae (ah 1) (ae (cCB ak (ae (ah 0) (ae (cOp eF (ah 5) (cC (.int 1))) aA))) (ae (cOp pZ (ah 3) (cC (.int 1))) aA))))))
  (bg (bO 5 (cOp pZ (ah 5) (cCB aM (ae (ah 10) aA))))
  (d3 (cBM bU (ah 4) (ae (cL (ae (cC (.str "try")) (ae (ah 9) (ae (ah 10) aA)))) aA))))))) cf)))))
def dH(ak aU aE aM:Fn):CS:=
 (bg (bO 4 (gG aA))
  (bg (bO 5 (ah 2))
  (bg (jV (fh (ae (cCB ak (ae (ah 0) (ae (cOp eF (cCB LF (ae (cC (.int 12)) (ae (ah 2) aA))) (cC (.int 1))) aA))) aA)) (gNm 6) (dN ak aU aE aM))
  (eV (cCB gC (ae (ah 4) aA))))))
theorem ow{ak aU aE aM:Fn}{a0 a1 a2 a3:U}{S:Sto}:fnU 11 4 (dH ak aU aE aM) [a0,a1,a2,a3] S=((dH ak aU aE aM) [some a0,some a1,some a2,some a3,none,none,none,none,none,none,none] S).bind kFn:=jd rfl
def bA:CS:=
 (bg (ID (ah 1) (gTp [3,4,5]))
  (dM (aH (cOp fEq (ah 3) (cC (.str "look")))) (bg (dM (me (aH (cOp (fIn true) (ah 5) (cOp fIx (ah 2) (cC (.str "own"))))) (aH (cOp (fIn true) (ah 5) (cOp fIx (ah 2) (cC (.str "looked")))))) (d3 (cBM bU (cOp fIx (ah 2) (cC (.str "looked"))) (ae (ah 5) aA))) cf)
  (gk (cOp fIx (ah 2) (cC (.str "hands"))) (ah 4) (cOp fIx (cOp fIx (ah 2) (cC (.str "state"))) (ah 5)))) (dM (aH (cOp fEq (ah 3) (cC (.str "put")))) (bg (gk (cOp fIx (ah 2) (cC (.str "state"))) (ah 4) (cOp fIx (cOp fIx (ah 2) (cC (.str "hands"))) (ah 5)))
  (dM (aH (cOp (fIn true) (ah 4) (cOp fIx (ah 2) (cC (.str "own"))))) (d3 (cBM bU (cOp fIx (ah 2) (cC (.str "own"))) (ae (ah 4) aA))) cf)) (dM (aH (cOp fEq (ah 3) (cC (.str "set")))) (gk (cOp fIx (ah 2) (cC (.str "hands"))) (ah 4) (ah 5)) (gk (cOp fIx (ah 2) (cC (.str "hands"))) (ah 4) (cOp p6 (cOp eF (cOp fIx (cOp fIx (ah 2) (cC (.str "hands"))) (ah 4)) (cOp fIx (cOp fIx (ah 2) (cC (.str "hands"))) (ah 5))) (cOp fIx (ah 0) (cC (.int 1)))))))))
theorem rE{a0 a1 a2:U}{S:Sto}:fnU 6 3 (bA ) [a0,a1,a2] S=((bA ) [some a0,some a1,some a2,none,none,none] S).bind kFn:=jd rfl
def cG(bN aN:Fn):CS:=
 (gk (ah 2) (ah 6) (cOp fIx (ah 5) (ah 6)))
def bb(bN aN:Fn):CS:=
 (dM (aH (cOp fGt (ah 3) (cC (.int 0)))) (bO 3 (cOp pZ (ah 3) (cC (.int 1)))) (dM (aH (cOp fEq (cOp fIx (ah 4) (cC (.int 0))) (cC (.str "wait")))) (eV (cC (.bl true))) (dM (aH (cOp fEq (cOp fIx (ah 4) (cC (.int 0))) (cC (.str "leap")))) (bO 3 (cOp mz (cOp fIx (ah 4) (cC (.int 2))) (cCB y6 (ae (cOp fEq (cOp fIx (cOp fIx (ah 2) (cC (.str "hands"))) (cOp fIx (ah 4) (cC (.int 1)))) (cC (.int 0))) aA)))) (dM (aH (cOp fNe (cOp fIx (ah 4) (cC (.int 0))) (cC (.str "try")))) (d3 (cCB bN (ae (ah 0) (ae (ah 4) (ae (ah 2) aA))))) (bg (bO 5 (tR [((cC (.str "state")),(cCB jM (ae (cOp fIx (ah 2) (cC (.str "state"))) aA))),((cC (.str "own")),(cCB jM (ae (cOp fIx (ah 2) (cC (.str "own"))) aA))),((cC (.str "hands")),(cCB jM (ae (cOp fIx (ah 2) (cC (.str "hands"))) aA)))]))
  (dM (aH (cCB aN (ae (ah 0) (ae (cOp fIx (ah 4) (cC (.int 1))) (ae (ah 2) aA))))) (bg (tQ (ah 5) (gNm 6) (cG bN aN))
  (dM (aH (cCB aN (ae (ah 0) (ae (cOp fIx (ah 4) (cC (.int 2))) (ae (ah 2) aA))))) (eV (cC (.bl true))) cf)) cf))))))
def dh(bN aN:Fn):CS:=
 (bg (bO 3 (cC (.int 0)))
  (bg (jV (iTp (ah 1)) (gNm 4) (bb bN aN))
  (eV (cC (.bl false)))))
theorem rD{bN aN:Fn}{a0 a1 a2:U}{S:Sto}:fnU 7 3 (dh bN aN) [a0,a1,a2] S=((dh bN aN) [some a0,some a1,some a2,none,none,none,none] S).bind kFn:=jd rfl
def gE:CS:=
 (eV (cOp eF (cOp eF (cSl (ah 0) none (some (ah 1))) (cL (ae (ah 2) aA))) (cSl (ah 0) (some (cOp eF (ah 1) (cC (.int 1)))) none)))
theorem yo{a0 a1 a2:U}{S:Sto}:fnU 3 3 (gE ) [a0,a1,a2] S=((gE ) [some a0,some a1,some a2] S).bind kFn:=jd rfl
def g5(fuel:Nat):CS:=
 (bO 1 (cOp fIx (ah 1) (cC (.int 2))))
def gF(fuel:Nat):CS:=
 (bg (bO 1 (ah 0))
  (bg (cH (me (aH (cOp fGe (cOp fIx (ah 1) (cC (.int 1))) (cCB fU (ae (cOp fIx (ah 1) (cC (.int 0))) aA)))) (aH (cOp oj (cOp fIx (ah 1) (cC (.int 2))) (cC .non)))) (g5 fuel) fuel)
  (eV (ah 1))))
theorem yp{fuel:Nat}{a0:U}{S:Sto}:fnU 2 1 (gF fuel) [a0] S=((gF fuel) [some a0,none] S).bind kFn:=jd rfl
def dn(ao:Cl):CS:=
 (bg (dM (aH (cOp fGe (cOp fIx (nY ao 3 (ah 0)) (cC (.int 1))) (cCB fU (ae (cOp fIx (nY ao 3 (ah 0)) (cC (.int 0))) aA)))) (eV (cC .non)) cf)
  (eV (cOp fIx (cOp fIx (nY ao 3 (ah 0)) (cC (.int 0))) (cOp fIx (nY ao 3 (ah 0)) (cC (.int 1))))))
theorem lQ{ao:Cl}{a0:U}{S:Sto}:fnU 1 1 (dn ao) [a0] S=((dn ao) [some a0] S).bind kFn:=jd rfl
def dq(aD:Fn)(ao:Cl):CS:=
 (bg (bO 1 (fi ao aD (ah 0) aA))
  (eV (tU (cOp fEq (cOp fIx (ah 1) (cC (.int 0))) (cC (.str "look"))) (cOp EW (cOp fIx (nY ao 2 (ah 0)) (cOp fIx (ah 1) (cC (.int 2)))) (cC .non)))))
theorem lR{aD:Fn}{ao:Cl}{a0:U}{S:Sto}:fnU 2 1 (dq aD ao) [a0] S=((dq aD ao) [some a0,none] S).bind kFn:=jd rfl
def dU(b6:Fn)(ao:Cl):CS:=
 (kq ao 1 (ah 0) (cCB b6 (ae (nY ao 1 (ah 0)) (ae (ah 1) (ae (ah 2) aA)))))
theorem rH{b6:Fn}{ao:Cl}{a0 a1 a2:U}{S:Sto}:fnU 3 3 (dU b6 ao) [a0,a1,a2] S=((dU b6 ao) [some a0,some a1,some a2] S).bind kFn:=jd rfl
def bJ(ao:Cl):CS:=
 (bg (bO 2 (nY ao 3 (ah 0)))
  (eV (cL (ae (cOp fIx (ah 2) (cC (.int 0))) (ae (cOp eF (cOp eF (cOp fIx (ah 2) (cC (.int 1))) (cC (.int 1))) (ah 1)) (ae (cOp fIx (ah 2) (cC (.int 2))) (ae (cOp fIx (ah 2) (cC (.int 3))) aA)))))))
theorem jN{ao:Cl}{a0 a1:U}{S:Sto}:fnU 3 2 (bJ ao) [a0,a1] S=((bJ ao) [some a0,some a1,none] S).bind kFn:=jd rfl
def bX(a9 aF:Fn)(ao:Cl):CS:=
 (kq ao 3 (ah 0) (cCB a9 (ae (fi ao aF (ah 0) (ae (ah 1) aA)) aA)))
theorem kT{a9 aF:Fn}{ao:Cl}{a0 a1:U}{S:Sto}:fnU 2 2 (bX a9 aF ao) [a0,a1] S=((bX a9 aF ao) [some a0,some a1] S).bind kFn:=jd rfl
def dW(aW aD aK:Fn)(ao:Cl):CS:=
 (bg (d3 (fi ao aW (ah 0) (ae (cOp fIx (fi ao aD (ah 0) aA) (cC (.int 1))) (ae (ah 1) aA))))
  (d3 (fi ao aK (ah 0) (ae (cC (.int 0)) aA))))
theorem rJ{aW aD aK:Fn}{ao:Cl}{a0 a1:U}{S:Sto}:fnU 2 2 (dW aW aD aK ao) [a0,a1] S=((dW aW aD aK ao) [some a0,some a1] S).bind kFn:=jd rfl
def bY(a9 aF:Fn)(ao:Cl):CS:=
 (bg (bO 3 (fi ao aF (ah 0) (ae (cC (.int 0)) aA)))
  (bg (bO 4 (cCB a9 (ae (cL (ae (ah 2) (ae (cC (.int 0)) (ae (ah 3) (ae (cOp fIx (ah 3) (cC (.int 3))) aA))))) aA)))
  (kq ao 3 (ah 0) (cCB a9 (ae (cL (ae (ah 1) (ae (cC (.int 0)) (ae (ah 3) (ae (cL (ae (nY ao 1 (ah 0)) (ae (nY ao 2 (ah 0)) (ae (ah 4) aA)))) aA))))) aA)))))
theorem kW{a9 aF:Fn}{ao:Cl}{a0 a1 a2:U}{S:Sto}:fnU 5 3 (bY a9 aF ao) [a0,a1,a2] S=((bY a9 aF ao) [some a0,some a1,some a2,none,none] S).bind kFn:=jd rfl
def bK(ao:Cl):CS:=
 (bg (bO 1 (cOp fIx (nY ao 3 (ah 0)) (cC (.int 3))))
  (bg (dM (aH (cOp EW (ah 1) (cC .non))) (eV (cC (.bl false))) cf)
  (bg (kq ao 1 (ah 0) (cOp fIx (ah 1) (cC (.int 0))))
  (bg (kq ao 2 (ah 0) (cOp fIx (ah 1) (cC (.int 1))))
  (bg (kq ao 3 (ah 0) (cOp fIx (ah 1) (cC (.int 2))))
  (eV (cC (.bl true))))))))
theorem gD{ao:Cl}{a0:U}{S:Sto}:fnU 2 1 (bK ao) [a0] S=((bK ao) [some a0,none] S).bind kFn:=jd rfl
def aV(b6 aD bH bI aW aK:Fn)(ao:Cl):CS:=
 (bg (bO 1 (fi ao aD (ah 0) aA))
  (bg (bO 2 (cOp fIx (ah 1) (cC (.int 0))))
  (bg (dM (aH (cOp fEq (ah 2) (cC (.str "wait")))) (eV (fi ao bH (ah 0) aA)) cf)
  (bg (dM (aH (cOp fEq (ah 2) (cC (.str "try")))) (bg (d3 (fi ao bI (ah 0) (ae (cOp fIx (ah 1) (cC (.int 1))) (ae (cOp fIx (ah 1) (cC (.int 2))) aA))))
  (eV (cC (.bl true)))) cf)
  (bg (bO 3 (cC (.int 0)))
  (bg (dM (aH (cOp fEq (ah 2) (cC (.str "look")))) (d3 (fi ao aW (ah 0) (ae (cOp fIx (ah 1) (cC (.int 1))) (ae (cOp fIx (nY ao 2 (ah 0)) (cOp fIx (ah 1) (cC (.int 2)))) aA)))) (dM (aH (cOp fEq (ah 2) (cC (.str "put")))) (kq ao 2 (ah 0) (cCB b6 (ae (nY ao 2 (ah 0)) (ae (cOp fIx (ah 1) (cC (.int 1))) (ae (cOp fIx (nY ao 1 (ah 0)) (cOp fIx (ah 1) (cC (.int 2)))) aA))))) (dM (aH (cOp fEq (ah 2) (cC (.str "set")))) (d3 (fi ao aW (ah 0) (ae (cOp fIx (ah 1) (cC (.int 1))) (ae (cOp fIx (ah 1) (cC (.int 2))) aA)))) (dM (aH (cOp fEq (ah 2) (cC (.str "plus")))) (d3 (fi ao aW (ah 0) (ae (cOp fIx (ah 1) (cC (.int 1))) (ae (cOp p6 (cOp eF (cOp fIx (nY ao 1 (ah 0)) (cOp fIx (ah 1) (cC (.int 1)))) (cOp fIx (nY ao 1 (ah 0)) (cOp fIx (ah 1) (cC (.int 2))))) (nY ao 0 (ah 0))) aA)))) (dM (aH (cOp fEq (cOp fIx (nY ao 1 (ah 0)) (cOp fIx (ah 1) (cC (.int 1)))) (cC (.int 0)))) (bO 3 (cOp fIx (ah 1) (cC (.int 2)))) cf)))))
  (bg (d3 (fi ao aK (ah 0) (ae (ah 3) aA)))
  (eV (cC (.bl true))))))))))
theorem fN{b6 aD bH bI aW aK:Fn}{ao:Cl}{a0:U}{S:Sto}:fnU 4 1 (aV b6 aD bH bI aW aK ao) [a0] S=((aV b6 aD bH bI aW aK ao) [some a0,none,none,none] S).bind kFn:=jd rfl
def bW(ao:Cl):CS:=
 (eV (kY (pS (nY ao 2 (ah 0))) (gTp [0,1]) (aH (cOp oj (ah 1) (cC .non))) (cL (ae (ah 0) (ae (ah 1) aA))) 2 []))
theorem kS{ao:Cl}{a0:U}{S:Sto}:fnU 1 1 (bW ao) [a0] S=((bW ao) [some a0] S).bind kFn:=jd rfl
def dS(a9:Fn)(ao:Cl):CS:=
 (bg (kq ao 0 (ah 0) (cOp fIx (ah 1) (cC (.int 1))))
  (bg (kq ao 1 (ah 0) (cL (ae (cC (.int 0)) (ae (cC (.int 0)) (ae (cC (.int 0)) (ae (cC (.int 0)) aA))))))
  (bg (kq ao 2 (ah 0) (cOp vJ (cL (ae (cC .non) aA)) (cOp fIx (ah 1) (cC (.int 0)))))
  (kq ao 3 (ah 0) (cCB a9 (ae (cL (ae (ah 2) (ae (cC (.int 0)) (ae (cC .non) (ae (cC .non) aA))))) aA))))))
theorem rG{a9:Fn}{ao:Cl}{a0 a1 a2:U}{S:Sto}:fnU 3 3 (dS a9 ao) [a0,a1,a2] S=((dS a9 ao) [some a0,some a1,some a2] S).bind kFn:=jd rfl
def bB(aD cA cy bx:Fn)(ao:Cl)(fuel:Nat):CS:=
 (dM (aH (fi ao cA (ah 0) aA)) (bg (bO 3 (cOp fIx (fi ao aD (ah 0) aA) (cC (.int 2))))
  (bg (gk (ah 2) (ah 3) (cC (.bl true)))
  (d3 (fi ao cy (ah 0) (ae (cOp fIx (ah 1) (ah 3)) aA))))) (dM (yN (aH (fi ao bx (ah 0) aA))) (eV (cC (.bl false))) cf))
def cF(aD cA cy bx:Fn)(ao:Cl)(fuel:Nat):CS:=
 (bg (cH (aH (cOp oj (fi ao aD (ah 0) aA) (cC .non))) (bB aD cA cy bx ao fuel) fuel)
  (eV (cC (.bl true))))
theorem om{aD cA cy bx:Fn}{ao:Cl}{fuel:Nat}{a0 a1 a2:U}{S:Sto}:fnU 4 3 (cF aD cA cy bx ao fuel) [a0,a1,a2] S=((cF aD cA cy bx ao fuel) [some a0,some a1,some a2,none] S).bind kFn:=jd rfl
def dk(aN:Fn):CS:=
 (bg (bO 3 (tR [((cC (.str "state")),(cCB jM (ae (ah 2) aA))),((cC (.str "own")),(gG aA)),((cC (.str "hands")),(gG (ae (cC (.int 0)) (ae (cC (.int 0)) (ae (cC (.int 0)) (ae (cC (.int 0)) aA)))))),((cC (.str "looked")),(gG aA))]))
  (bg (dM (aH (cCB aN (ae (ah 0) (ae (ah 1) (ae (ah 3) aA))))) (eV (cL (ae (cC (.str "waits")) (ae (cCB gY (ae (cOp fIx (ah 3) (cC (.str "looked"))) aA)) aA)))) cf)
  (eV (cL (ae (cC (.str "done")) (ae (cCB gC (ae (cOp fIx (ah 3) (cC (.str "state"))) aA)) (ae (cCB gC (ae (cOp fIx (ah 3) (cC (.str "hands"))) aA)) aA)))))))
theorem rF{aN:Fn}{a0 a1 a2:U}{S:Sto}:fnU 4 3 (dk aN) [a0,a1,a2] S=((dk aN) [some a0,some a1,some a2,none] S).bind kFn:=jd rfl
def kx(bM bc cw:Fn)(ao:Cl):CS:=
 (gk (ah 5) (ah 6) (ah 7))
def jP(bM bc cw:Fn)(ao:Cl):CS:=
 (bg (bO 3 (cCB (tq ao cw) (ae (ah 0) (ae (ah 1) aA))))
  (bg (bO 4 A6)
  (bg (dM (yN (aH (cCB bM (ae (ah 3) (ae (ah 2) (ae (ah 4) aA)))))) (eV (cL (ae (cC (.str "waits")) (ae (cCB gY (ae (ah 4) aA)) aA)))) cf)
  (bg (bO 5 (cCB jM (ae (ah 2) aA)))
  (bg (jV (iTp (fi ao bc (ah 3) aA)) (gTp [6,7]) (kx bM bc cw ao))
  (eV (cL (ae (cC (.str "done")) (ae (cCB gC (ae (ah 5) aA)) (ae (nY ao 1 (ah 3)) aA))))))))))
theorem Eu{bM bc cw:Fn}{ao:Cl}{a0 a1 a2:U}{S:Sto}:fnU 8 3 (jP bM bc cw ao) [a0,a1,a2] S=((jP bM bc cw ao) [some a0,some a1,some a2,none,none,none,none,none] S).bind kFn:=jd rfl
end OQ
local macro_rules
 | `(tactic| rwa $s:rwRuleSeq) => do
  let ts : Array (Lean.TSyntax `term) := s.raw[1].getSepArgs.map fun r => ⟨r[1]⟩
  let us : Array (Lean.TSyntax `term) := (("wc qm x_c Cb se sd t8 pf Kh FU FT MK JA Jz JB Fv FR CC CB Jy Ft Fs Fu Cc wd qq mE mD Jn Fd JK Fx Cz sf JR FE Fe Ca Bf Fm Fl Fj FL Cr Fp Fo FI FH FG MT JV JU rZ Fi Kf FQ FP JX JW FW FV ME Jt Js Jr Jq JM FD JN JO Jp Ff Fg t9 ua FA Fy Ki Jo IT LY LZ MU J2 JE J1 JD J3 JF JZ JY at0 at1 at2 at3 ix0 ix1 ix2 Option.bind_some List.getElem?_cons_zero List.getElem?_cons_succ List.set_cons_zero List.set_cons_succ List.length_cons List.length_nil List.map_cons List.map_nil decide_true decide_false Bool.not_true Bool.not_false J0 FK FJ MF Jw Jv Ju Fw Cg Ce Cd Cj JS JT JL FC MW Ke Kd Kc Kg MV J8 J7 J6 J5 J4 FN MJ x_p MI MH MG FO Cy Cw E9 Fb Fc Ck Cn Co FF ga ga0 gs gs0 Option.join_some Nat.add_zero List.cons_append List.nil_append List.append_assoc" : String).splitOn " ").toArray.map fun x => ⟨(Lean.mkIdent ((x.splitOn ".").foldl Lean.Name.str Lean.Name.anonymous)).raw⟩
  let vs:=ts++us
  `(tactic| simp only [$[$vs:term],*])
namespace OQ
open PySem PySem.Spec PyProof.Rows L2 OG OP
def pen(a c:Int):O:=.lst [.ref 0,.int a,.int c]
section
variable{S:Sto}{j k:Int}
theorem we(h:-(2^64)<k/\k<2^64):mz (.int j) (.int k) S=some (.int (j*k),S):=ze (.inr h)
theorem qo(h:-(2^64)<j/\j<2^64):mz (.int j) (.int k) S=some (.int (j*k),S):=ze (.inl h)
theorem MS:mz (.int j) (.int 3) S=some (.int (j*3),S):=we (by decide)
theorem JI:mz (.int 97) (.int k) S=some (.int (97*k),S):=qo (by decide)
theorem JJ:mz (.int 53) (.int k) S=some (.int (53*k),S):=qo (by decide)
theorem MR:mz (.int j) (.int 48271) S=some (.int (j*48271),S):=we (by decide)
theorem MQ:mz (.int 69621) (.int k) S=some (.int (69621*k),S):=qo (by decide)
theorem MP:mz (.int j) (.int 998244353) S=some (.int (j*998244353),S):=we (by decide)
theorem JH:mz (.int (j % 2147483647)) (.int k) S=some (.int (j % 2147483647*k),S):=qo (by have:=Int.emod_nonneg j (show(2147483647:Int)≠0 by decide);have:=Int.emod_lt_of_pos j (show(0:Int)<2147483647 by decide);omega)
theorem JG:mz (.int (j % 1000000007)) (.int k) S=some (.int (j % 1000000007*k),S):=qo (by have:=Int.emod_nonneg j (show(1000000007:Int)≠0 by decide);have:=Int.emod_lt_of_pos j (show(0:Int)<1000000007 by decide);omega)
theorem MO:p6 (.int j) (.int 998244353) S=some (.int (j % 998244353),S):=qp (by decide)
theorem MN:p6 (.int j) (.int 2147483647) S=some (.int (j % 2147483647),S):=qp (by decide)
theorem MM:p6 (.int j) (.int 1000000007) S=some (.int (j % 1000000007),S):=qp (by decide)
theorem ML:p6 (.int j) (.int 1000003) S=some (.int (j % 1000003),S):=qp (by decide)
theorem Ka:AO (.int j) (.int 16) S=some (.int (j / 16),S):=Cu ⟨by decide,by decide +kernel⟩
theorem Fq:EV (.int 10) (.int 18) S=some (.int 1000000000000000000,S):=Jx (j:=10) (k:=18) ⟨by decide,by decide,by decide⟩
theorem J9:AO (.int j) (.int 1000000000000000000) S=some (.int (j / 1000000000000000000),S):=Cu ⟨by decide,by decide +kernel⟩
theorem atU{ns:List Int}{k:Int}(h0:0<=k)(h1:k<(ns.length:Int)):∃v:Int,atI (ns.map U.int) k=some (.int v):=by
 have hk:k.toNat<ns.length:=by omega
 exact⟨ns[k.toNat],lS h0 (by rw[List.getElem?_map,List.getElem?_eq_getElem hk];rfl)⟩
end
def fQ:Fn:=fnU 8 2 eP
theorem bR(ns:List Int)(T:Sto){a c m:Int}(ha:0<=a)(hc:0<=c)(hm:0<m)(hb:m.natAbs.log2<9000) :
  ∃f a' c',fQ [.ref 1,.int m] (.lst (ns.map U.int)::pen a c::T)=some (.int f,.lst (ns.map U.int)::pen a' c'::T)/\0<=f/\f<m/\0<=a'/\0<=c':=by
 unfold fQ
 rw[tD]
 have dm:∀{j:Int} {S:Sto},AO (.int j) (.int m) S=some (.int (j / m),S):=Cu ⟨hm,hb⟩
 have mm:∀{j:Int} {S:Sto},p6 (.int j) (.int m) S=some (.int (j % m),S):=qp hm
 have fin:∀{a' c':Int},0<=a'->0<=c'->0<=c' % m/\c' % m<m/\0<=a'/\0<=c' / m:=fun h1 h2=>⟨Int.emod_nonneg _ (by omega),Int.emod_lt_of_pos _ hm,h1,Int.ediv_nonneg h2 (by omega)⟩
 by_cases c0:c=0
 ·subst c0
  have cell : ∃ z : Int, (dM (aH (cOp fLt (ah 2) (cCB fU (ae (cOp fIx (ah 0) (cC (U.int 0))) aA))))
              (bO 3 (cOp fIx (cOp fIx (ah 0) (cC (U.int 0))) (ah 2)))
              (dM
               (aH (cOp fGt (cCB fU (ae (cOp fIx (ah 0) (cC (U.int 0))) aA)) (cC (U.int 0))))
               (bO 3
                (cOp eF
                 (cOp p6
                  (cOp fIx (cOp fIx (ah 0) (cC (U.int 0)))
                   (cOp p6 (cOp mz (ah 2) (cC (U.int 3)))
                    (cCB fU (ae (cOp fIx (ah 0) (cC (U.int 0))) aA))))
                  (cC (U.int 1000003)))
                 (cOp mz (cC (U.int 97)) (ah 2))))
               cf)) [some (.ref 1),some (.int m),some (.int a),some (.int 0),none,none,none,none] (O.lst (ns.map U.int)::.lst [.ref 0,.int (a+1),.int 0]::T)=some (.nx,[some (.ref 1),some (.int m),some (.int a),some (.int z),none,none,none,none],O.lst (ns.map U.int)::.lst [.ref 0,.int (a+1),.int 0]::T):=by
   by_cases h1:a<(ns.length:Int)
   ·obtain⟨z,hz⟩:=atU ha h1
    exact⟨z,by rwa[hz,h1,List.length_map]⟩
   ·by_cases h2:(0:Int)<(ns.length:Int)
    ·obtain⟨z,hz⟩:=atU (ns:=ns) (k:=a*3 % (ns.length:Int)) (Int.emod_nonneg _ (by omega)) (Int.emod_lt_of_pos _ h2)
     exact⟨z % 1000003+97*a,by rwa[h1,h2,MS,qp h2,hz,ML,JI,List.length_map]⟩
    ·exact⟨0,by rwa[h1,h2,List.length_map]⟩
  obtain⟨z,hz⟩:=cell
  rwa[eP,pen,hz,MO,MN,MM,JJ,MR,MQ,MP,JH,JG,Ka,Fq]
  by_cases h3:(1000000000000000000:Int)<=z
  ·rwa[h3,Fq,J9,mm,dm]
   exact⟨_,_,_,rfl,fin (by omega) (Int.ediv_nonneg (by omega) (by omega))⟩
  ·rwa[h3,mm,dm]
   refine⟨_,_,_,rfl,fin (by omega) ?_⟩
   exact Int.add_nonneg (Int.ediv_nonneg (Int.add_nonneg (Int.mul_nonneg (Int.emod_nonneg _ (by decide)) (by decide)) (Int.emod_nonneg _ (by decide))) (by decide)) (by decide)
 ·rwa[eP,pen,c0,mm,dm]
  exact⟨_,_,_,rfl,fin ha hc⟩
theorem l9{m:Int}(h0:0<=m)(h:m<2^60):m.natAbs.log2<9000:=xG h0 h
abbrev scr(ns:List Int):O:=.lst (ns.map U.int)
theorem KD{f g:Int}(g0:0<=g)(g1:g<999)(f0:0<=f)(f1:f<5):∃v:Int,atI [U.int 2,U.int 3,U.int 5,U.int 10,U.int (2+g)] f=some (.int v)/\2<=v/\v<=1000:=by
 have:f=0\/f=1\/f=2\/f=3\/f=4:=by omega
 rcases this with rfl|rfl|rfl|rfl|rfl
 ·exact⟨2,rfl,by omega,by omega⟩
 ·exact⟨3,rfl,by omega,by omega⟩
 ·exact⟨5,rfl,by omega,by omega⟩
 ·exact⟨10,rfl,by omega,by omega⟩
 ·exact⟨2+g,rfl,by omega,by omega⟩
def jS:Fn:=fnU 1 1 (e8 fQ)
theorem zv(ns:List Int)(T:Sto){a c:Int}(ha:0<=a)(hc:0<=c) :
  ∃n w a' c' G,jS [.ref 1] (scr ns::pen a c::T)=some (.tup [.int n,.int w],scr ns::pen a' c'::(T++G))/\1<=n/\n<=6/\2<=w/\w<=1000/\0<=a'/\0<=c':=by
 unfold jS
 rw[rC]
 obtain⟨f1,a1,c1,h1,p1,q1,ha1,hc1⟩:=bR ns T (m:=6) ha hc (by decide) (by decide +kernel)
 obtain⟨f2,a2,c2,h2,p2,q2,ha2,hc2⟩:=bR ns T (m:=999) ha1 hc1 (by decide) (by decide +kernel)
 obtain⟨f3,a3,c3,h3,p3,q3,ha3,hc3⟩:=bR ns (T++[.lst [.int 2,.int 3,.int 5,.int 10,.int (2+f2)]]) (m:=5) ha2 hc2 (by decide) (by decide +kernel)
 obtain⟨v,hv,v0,v1⟩:=KD p2 q2 p3 q3
 refine⟨1+f1,v,a3,c3,[.lst [.int 2,.int 3,.int 5,.int 10,.int (2+f2)]],?_,by omega,by omega,v0,v1,ha3,hc3⟩
 rwa[e8,h1,h2,h3,hv]
inductive fb where
 |look (h b:Int)|put (b h:Int)|set (h v:Int)|plus (h g:Int)|leap (h k:Int)|wait
def fb.u:fb->U
 |.look h b=>.tup [.str "look",.int h,.int b]
 |.put b h=>.tup [.str "put",.int b,.int h]
 |.set h v=>.tup [.str "set",.int h,.int v]
 |.plus h g=>.tup [.str "plus",.int h,.int g]
 |.leap h k=>.tup [.str "leap",.int h,.int k]
 |.wait=>.tup [.str "wait"]
def fb.ok(n w:Int):fb->Prop
 |.look h b=>0<=h/\h<4/\0<=b/\b<n
 |.put b h=>0<=h/\h<4/\0<=b/\b<n
 |.set h v=>0<=h/\h<4/\0<=v/\v<w
 |.plus h g=>0<=h/\h<4/\0<=g/\g<4
 |.leap h k=>0<=h/\h<4/\1<=k/\k<=12
 |.wait=>True
def k8:Fn:=fnU 4 4 (bf fQ)
theorem z5(ns:List Int)(T:Sto){a c n w way hand:Int}(ha:0<=a)(hc:0<=c)(n0:1<=n)(n1:n<=6)(w0:2<=w)(w1:w<=1000)(y0:0<=way)(h0:0<=hand)(h1:hand<4) :
  ∃(d:fb) (a' c':Int) (G:Sto),k8 [.ref 1,.tup [.int n,.int w],.int way,.int hand] (scr ns::pen a c::T)=some (d.u,scr ns::pen a' c'::(T++G))/\d.ok n w/\0<=a'/\0<=c':=by
 unfold k8
 rw[kR]
 by_cases c4:way<4
 ·obtain⟨f,a1,c1,e1,p1,q1,ha1,hc1⟩:=bR ns T (m:=n) ha hc (by omega) (l9 (by omega) (by omega))
  exact⟨.look hand f,a1,c1,[],by rwa[bf,c4,e1,fb.u,List.append_nil],⟨h0,h1,p1,q1⟩,ha1,hc1⟩
 by_cases c7:way<7
 ·obtain⟨f,a1,c1,e1,p1,q1,ha1,hc1⟩:=bR ns T (m:=n) ha hc (by omega) (l9 (by omega) (by omega))
  exact⟨.put f hand,a1,c1,[],by rwa[bf,c4,c7,e1,fb.u,List.append_nil],⟨h0,h1,p1,q1⟩,ha1,hc1⟩
 by_cases c9:way<9
 ·obtain⟨f,a1,c1,e1,p1,q1,ha1,hc1⟩:=bR ns T (m:=w) ha hc (by omega) (l9 (by omega) (by omega))
  exact⟨.set hand f,a1,c1,[],by rwa[bf,c4,c7,c9,e1,fb.u,List.append_nil],⟨h0,h1,p1,q1⟩,ha1,hc1⟩
 by_cases c11:way<11
 ·obtain⟨f,a1,c1,e1,p1,q1,ha1,hc1⟩:=bR ns T (m:=4) ha hc (by omega) (l9 (by omega) (by omega))
  exact⟨.plus hand f,a1,c1,[],by rwa[bf,c4,c7,c9,c11,e1,fb.u,List.append_nil],⟨h0,h1,p1,q1⟩,ha1,hc1⟩
 obtain⟨f,a1,c1,e1,p1,q1,ha1,hc1⟩:=bR ns (T++[.lst [.int 2,.int 12]]) (m:=2) ha hc (by decide) (by decide +kernel)
 have key:∃z:Int,atI [U.int 2,U.int 12] f=some (.int z)/\0<z/\z<=12:=by
  have:f=0\/f=1:=by omega
  rcases this with rfl|rfl
  ·exact⟨2,rfl,by omega,by omega⟩
  ·exact⟨12,rfl,by omega,by omega⟩
 obtain⟨z,hz,z0,z1⟩:=key
 obtain⟨g,a2,c2,e2,p2,q2,ha2,hc2⟩:=bR ns (T++[.lst [.int 2,.int 12]]) (m:=z) ha1 hc1 z0 (l9 (by omega) (by omega))
 exact⟨.leap hand (1+g),a2,c2,[.lst [.int 2,.int 12]],by rwa[bf,c4,c7,c9,c11,e1,e2,hz,fb.u],⟨h0,h1,by omega,by omega⟩,ha2,hc2⟩
def vg(fd fs:Fn):Fn:=fnU 11 4 (dH fQ k8 fd fs)
theorem lB:decide (("wait":Str)="leap")=false:=by decide +kernel
theorem mH:decide (("wait":Str)="try")=false:=by decide +kernel
theorem lA:decide (("wait":Str)="look")=false:=by decide +kernel
theorem mJ:decide (("wait":Str)="put")=false:=by decide +kernel
theorem mI:decide (("wait":Str)="set")=false:=by decide +kernel
theorem lz:decide (("wait":Str)="plus")=false:=by decide +kernel
theorem lE:decide (("leap":Str)="wait")=false:=by decide +kernel
theorem mW:decide (("leap":Str)="try")=false:=by decide +kernel
theorem lG:decide (("leap":Str)="look")=false:=by decide +kernel
theorem mY:decide (("leap":Str)="put")=false:=by decide +kernel
theorem mX:decide (("leap":Str)="set")=false:=by decide +kernel
theorem lF:decide (("leap":Str)="plus")=false:=by decide +kernel
theorem mK:decide (("try":Str)="wait")=false:=by decide +kernel
theorem mN:decide (("try":Str)="leap")=false:=by decide +kernel
theorem mM:decide (("try":Str)="look")=false:=by decide +kernel
theorem oC:decide (("try":Str)="put")=false:=by decide +kernel
theorem oB:decide (("try":Str)="set")=false:=by decide +kernel
theorem mL:decide (("try":Str)="plus")=false:=by decide +kernel
theorem iI:decide (("look":Str)="wait")=false:=by decide +kernel
theorem iJ:decide (("look":Str)="leap")=false:=by decide +kernel
theorem gN:decide (("look":Str)="try")=false:=by decide +kernel
theorem mV:decide (("look":Str)="put")=false:=by decide +kernel
theorem mU:decide (("look":Str)="set")=false:=by decide +kernel
theorem lD:decide (("look":Str)="plus")=false:=by decide +kernel
theorem ju:decide (("put":Str)="wait")=false:=by decide +kernel
theorem jv:decide (("put":Str)="leap")=false:=by decide +kernel
theorem ja:decide (("put":Str)="try")=false:=by decide +kernel
theorem mR:decide (("put":Str)="look")=false:=by decide +kernel
theorem oF:decide (("put":Str)="set")=false:=by decide +kernel
theorem mQ:decide (("put":Str)="plus")=false:=by decide +kernel
theorem js:decide (("set":Str)="wait")=false:=by decide +kernel
theorem jt:decide (("set":Str)="leap")=false:=by decide +kernel
theorem i9:decide (("set":Str)="try")=false:=by decide +kernel
theorem mP:decide (("set":Str)="look")=false:=by decide +kernel
theorem oE:decide (("set":Str)="put")=false:=by decide +kernel
theorem mO:decide (("set":Str)="plus")=false:=by decide +kernel
theorem iG:decide (("plus":Str)="wait")=false:=by decide +kernel
theorem iH:decide (("plus":Str)="leap")=false:=by decide +kernel
theorem gM:decide (("plus":Str)="try")=false:=by decide +kernel
theorem lC:decide (("plus":Str)="look")=false:=by decide +kernel
theorem mT:decide (("plus":Str)="put")=false:=by decide +kernel
theorem mS:decide (("plus":Str)="set")=false:=by decide +kernel
theorem SNX:type_of% @lB/\type_of% @mH/\type_of% @lA/\type_of% @mJ/\type_of% @mI/\type_of% @lz/\type_of% @lE/\type_of% @mW/\type_of% @lG/\type_of% @mY/\type_of% @mX/\type_of% @lF/\type_of% @mK/\type_of% @mN/\type_of% @mM/\type_of% @oC/\type_of% @oB/\type_of% @mL/\type_of% @iI/\type_of% @iJ/\type_of% @gN/\type_of% @mV/\type_of% @mU/\type_of% @lD/\type_of% @ju/\type_of% @jv/\type_of% @ja/\type_of% @mR/\type_of% @oF/\type_of% @mQ/\type_of% @js/\type_of% @jt/\type_of% @i9/\type_of% @mP/\type_of% @oE/\type_of% @mO/\type_of% @iG/\type_of% @iH/\type_of% @gM/\type_of% @lC/\type_of% @mT/\type_of% @mS:=⟨@lB,@mH,@lA,@mJ,@mI,@lz,@lE,@mW,@lG,@mY,@mX,@lF,@mK,@mN,@mM,@oC,@oB,@mL,@iI,@iJ,@gN,@mV,@mU,@lD,@ju,@jv,@ja,@mR,@oF,@mQ,@js,@jt,@i9,@mP,@oE,@mO,@iG,@iH,@gM,@lC,@mT,@mS⟩
structure M where
 hs:List Int
 ps:List (Int×Int)
 lk:List Int
def tV(lk:List Int)(b:Int):List Int:=if b∈lk then lk else lk++[b]
def qT(first:List Int)(m:M)(b:Int):Int:=(cE m.ps b).getD (first.getD b.toNat 0)
def step(w:Int)(first:List Int)(m:M):fb->M
 |.look h b=>⟨m.hs.set h.toNat (qT first m b),m.ps,if (cE m.ps b).isSome then m.lk else tV m.lk b⟩
 |.put b h=>⟨m.hs,kE m.ps b (m.hs.getD h.toNat 0),m.lk⟩
 |.set h v=>⟨m.hs.set h.toNat v,m.ps,m.lk⟩
 |.plus h g=>⟨m.hs.set h.toNat ((m.hs.getD h.toNat 0+m.hs.getD g.toNat 0) % w),m.ps,m.lk⟩
 |.leap _ _=>m
 |.wait=>m
def vO(lk:List Int):List (Key×U):=lk.map fun b=>(.inl b,.bl true)
theorem zU(b:Int)(lk:List Int):kE (vO lk) (.inl b) (.bl true)=vO (tV lk b):=by
 have ha:((vO lk).any fun kv=>decide (kv.1=Sum.inl b))=decide (b∈lk):=by
  unfold vO
  induction lk with
  |nil=>rfl
  |cons k r ih=>
   simp only[List.map_cons,List.any_cons,ih]
   by_cases e:k=b
   ·subst e;simp
   ·rw[decide_eq_false (fun z:(Sum.inl k:Key)=Sum.inl b=>e (Sum.inl.inj z))]
    simp[Ne.symm e]
 unfold kE tV
 rw[ha]
 by_cases c:b∈lk
 ·rw[if_pos (decide_eq_true c),if_pos c]
  unfold vO
  rw[List.map_map]
  refine List.map_congr_left fun p _=>?_
  simp only[Function.comp]
  split<;>rfl
 ·rw[if_neg (by simpa using c),if_neg c]
  simp[vO]
theorem at4{hs:List Int}{h:Int}(l:hs.length=4)(h0:0<=h)(h1:h<4):atI (hs.map U.int) h=some (.int (hs.getD h.toNat 0)):=by
 have hk:h.toNat<hs.length:=by omega
 refine lS h0 ?_
 rw[List.getElem?_map,List.getElem?_eq_getElem hk,List.getD_eq_getElem?_getD,List.getElem?_eq_getElem hk];rfl
theorem ixL{us:List U}{h:Int}{n:Nat}(l:us.length=n)(h0:0<=h)(h1:h<n):ixN us.length h=some h.toNat:=by
 unfold ixN;rw[if_pos h0,if_pos (by omega)]
theorem atF{first:List Int}{b n:Int}(l:first.length=n.toNat)(h0:0<=b)(h1:b<n):atI (first.map U.int) b=some (.int (first.getD b.toNat 0)):=by
 have hk:b.toNat<first.length:=by omega
 refine lS h0 ?_
 rw[List.getElem?_map,List.getElem?_eq_getElem hk,List.getD_eq_getElem?_getD,List.getElem?_eq_getElem hk];rfl
theorem map_set{hs:List Int}{k:Nat}{v:Int}:(hs.map U.int).set k (.int v)=(hs.set k v).map U.int:=by rw[List.map_set]
inductive DF(α:Type) where
 |pl (d:fb)|tr (a b:List α)
def DF.u{α:Type}(f:α->U):DF α->U
 |.pl d=>d.u
 |.tr a b=>.tup [.str "try",.tup (a.map f),.tup (b.map f)]
section
variable{α:Type}(w:Int)(first:List Int)(rn:List α->M->Bool×M)
def Kj(a b:List α)(m:M):Bool×M:=match rn a m with
 |(true,m')=>(true,m')
 |(false,m')=>rn b ⟨m.hs,m.ps,m'.lk⟩
def eE:List (DF α)->Nat->M->Bool×M
 |[],_,m=>(true,m)
 |_::r,k+1,m=>eE r k m
 |.tr a b::r,0,m=>match Kj rn a b m with
  |(true,m')=>eE r 0 m'
  |(false,m')=>(false,m')
 |.pl .wait::_,0,m=>(false,m)
 |.pl (.leap h k)::r,0,m=>eE r (if m.hs.getD h.toNat 0=0 then k.toNat else 0) m
 |.pl (.look h b)::r,0,m=>eE r 0 (step w first m (.look h b))
 |.pl (.put h b)::r,0,m=>eE r 0 (step w first m (.put h b))
 |.pl (.set h b)::r,0,m=>eE r 0 (step w first m (.set h b))
 |.pl (.plus h b)::r,0,m=>eE r 0 (step w first m (.plus h b))
theorem qI:∀(ds:List (DF α)) (k:Nat) (m:M),eE w first rn ds k m=eE w first rn (ds.drop k) 0 m
 |[],k,m=>by simp[eE]
 |d::r,0,m=>by simp
 |d::r,k+1,m=>by rw[eE,qI r k m];rfl
end
def Dl:Nat->Type
 |0=>DF Empty
 |j+1=>DF (Dl j)
def Dl.u:(j:Nat)->Dl j->U
 |0,d=>DF.u (fun x=>nomatch x) d
 |j+1,d=>DF.u (Dl.u j) d
def DF.ok{α:Type}(n w:Int)(k:List α->Prop):DF α->Prop
 |.pl d=>d.ok n w
 |.tr a b=>k a/\k b
structure Wf(n:Int)(m:M):Prop where
 h4:m.hs.length=4
 pk:(m.ps.map (·.1)).Nodup
 pb:∀k∈m.ps.map (·.1),0<=k/\k<n
 lk:m.lk.Nodup
 lb:∀k∈m.lk,0<=k/\k<n
theorem few:∀(n:Nat) (l:List Int),l.Nodup->(∀k∈l,0<=k/\k<n)->l.length<=n
 |0,l,_,h=>by
  cases l with
  |nil=>simp
  |cons a r=>have:=h a (by simp);omega
 |n+1,l,nd,h=>by
  have ih:=few n (l.erase (n:Int)) (nd.erase _) fun k hk=>by
   have h1:=h k (List.mem_of_mem_erase hk)
   have h2:k≠(n:Int):=fun z=>by subst z;exact(nd.not_mem_erase) hk
   omega
  rw[List.length_erase]at ih
  split at ih<;>omega
theorem Wf.few{n:Int}{m:M}(h:Wf n m)(n0:0<=n)(n1:n<=6):m.ps.length<=6/\m.lk.length<=6:=by
 have a:=OQ.few n.toNat _ h.pk fun k hk=>by have:=h.pb k hk;omega
 have b:=OQ.few n.toNat _ h.lk fun k hk=>by have:=h.lb k hk;omega
 rw[List.length_map]at a
 omega
theorem y1{l:List Int}{b:Int}(h:l.Nodup):(tV l b).Nodup:=by
 unfold tV
 split
 ·exact h
 ·rename_i c
  rw[List.nodup_append]
  exact⟨h,by simp,fun x hx y hy z=>by simp at hy;subst hy;subst z;exact c hx⟩
theorem vc{l:List Int}{b k:Int}(h:k∈tV l b):k∈l\/k=b:=by
 unfold tV at h
 split at h
 ·exact .inl h
 ·simpa using h
theorem nh(b v:Int)(ps:List (Int×Int)):(kE ps b v).map (·.1)=tV (ps.map (·.1)) b:=by
 have ha:(ps.any fun kv=>decide (kv.1=b))=decide (b∈ps.map (·.1)):=by
  induction ps with
  |nil=>rfl
  |cons p r ih=>
   simp only[List.any_cons,ih,List.map_cons]
   by_cases e:p.1=b
   ·simp[e]
   ·simp[e,Ne.symm e]
 unfold kE tV
 rw[ha]
 by_cases c:b∈ps.map (·.1)
 ·rw[if_pos (decide_eq_true c),if_pos c,List.map_map]
  refine List.map_congr_left fun p _=>?_
  simp only[Function.comp]
  split<;>rfl
 ·rw[if_neg (by simpa using c),if_neg c]
  simp
theorem wN{n w:Int}{first:List Int}{m:M}{d:fb}(h:Wf n m)(od:d.ok n w):Wf n (step w first m d):=by
 cases d with
 |look g b=>
  obtain⟨_,_,b0,b1⟩:=od
  refine⟨by simpa [step] using h.h4,h.pk,h.pb,?_,?_⟩
  ·simp only[step];split
   ·exact h.lk
   ·exact y1 h.lk
  ·simp only[step];split
   ·exact h.lb
   ·exact fun k hk=>(vc hk).elim (h.lb k) fun e=>by subst e;exact⟨b0,b1⟩
 |put b g=>
  obtain⟨b0,b1,b2,b3⟩:=od
  refine⟨h.h4,?_,?_,h.lk,h.lb⟩
  ·simp only[step];rw[nh];exact y1 h.pk
  ·simp only[step];rw[nh]
   exact fun k hk=>(vc hk).elim (h.pb k) fun e=>by subst e;constructor<;>omega
 |set g v=>exact⟨by simpa [step] using h.h4,h.pk,h.pb,h.lk,h.lb⟩
 |plus g v=>exact⟨by simpa [step] using h.h4,h.pk,h.pb,h.lk,h.lb⟩
 |leap g k=>exact h
 |wait=>exact h
structure Fr(ls:List Nat)(S S':Sto):Prop where
 len:S.length<=S'.length
 old:∀l,l<S.length->l∉ls->S'[l]?=S[l]?
theorem Fr.refl{ls:List Nat}{S:Sto}:Fr ls S S:=⟨Nat.le_refl _,fun _ _ _=>rfl⟩
theorem Fr.set{ls:List Nat}{S:Sto}{l:Nat}{o:O}(h:l∈ls):Fr ls S (S.set l o):=⟨by simp,fun k _ hk=>by rw[List.getElem?_set_ne (fun z=>hk (by subst z;exact h))]⟩
theorem Fr.trans{ls:List Nat}{S S' S'':Sto}(a:Fr ls S S')(b:Fr ls S' S''):Fr ls S S'':=⟨Nat.le_trans a.len b.len,fun l hl hn=>by rw[b.old l (Nat.lt_of_lt_of_le hl a.len) hn,a.old l hl hn]⟩
theorem bu{α:Type}{l:List α}{k:Nat}{x:α}(h:l[k]?=some x):k<l.length:=(List.getElem?_eq_some_iff.mp h).1
theorem aJ{α:Type}{l r:List α}{k:Nat}{x:α}(h:l[k]?=some x):(l++r)[k]?=some x:=by rw[List.getElem?_append_left (bu h)];exact h
def nZ(w:Int)(first:List Int):(j:Nat)->List (Dl j)->M->Bool×M
 |0,ds,m=>eE w first (fun _ m=>(true,m)) ds 0 m
 |j+1,ds,m=>eE w first (nZ w first j) ds 0 m
def OkL(n w:Int):(j:Nat)->List (Dl j)->Prop
 |0,ds=>ds.length<=30/\∀d∈ds,DF.ok n w (fun _=>False) d
 |j+1,ds=>ds.length<=30/\∀d∈ds,DF.ok n w (OkL n w j) d
def m0:M:=⟨[0,0,0,0],[],[]⟩
theorem qW:∀lk:List Int,sQ (vO lk)=some lk
 |[]=>rfl
 |b::r=>by
  have ih:=qW r
  unfold vO at ih ⊢
  simp only[List.map_cons,sQ,ih,Option.map_some]
def beh(first:List Int)(ps:List (Int×Int))(k:Nat):List Int:=(first.zipIdx k).map fun p=>(cE ps (p.2:Int)).getD p.1
def told(r:Bool×M)(first:List Int)(l:Nat):U:=match r with
 |(true,m)=>.tup [.str "done",.tup ((beh first m.ps 0).map U.int),.tup (m.hs.map U.int)]
 |(false,_)=>.tup [.str "waits",.ref l]
theorem ye{ls:List Nat}{S0 S':Sto}(len:S0.length<=S'.length)(old:∀l,l<S0.length->S'[l]?=S0[l]?):∃G,S'=S0++G:=by
 refine⟨S'.drop S0.length,List.ext_getElem? fun l=>?_⟩
 by_cases c:l<S0.length
 ·rw[old l c,List.getElem?_append_left c]
 ·rw[List.getElem?_append_right (by omega),List.getElem?_drop];congr 1;omega
theorem inI(b:Int):∀l:List Int,inU (.int b) (l.map U.int)=decide (b∈l)
 |[]=>by simp[inU]
 |x::r=>by
  have ih:=inI b r
  unfold inU at ih ⊢
  rw[List.map_cons,List.any_cons,ih,show eqF (.int x) (.int b)=(x == b)from rfl]
  by_cases e:x=b
  ·subst e;simp
  ·have:(x == b)=false:=by simpa using e
   rw[this];simp[Ne.symm e]
theorem LD(l:List Int):(l.map U.int).all gv=true:=by
 induction l with
 |nil=>rfl
 |cons x r ih=>rw[List.map_cons,List.all_cons,ih];rfl
theorem BB(b:Int):∀ps:List (Int×Int),decide (b∈ps.map (·.1))=(cE ps b).isSome
 |[]=>rfl
 |(k,v)::r=>by
  have ih:=BB b r
  unfold cE at ih ⊢
  simp only[List.map_cons,List.find?_cons]
  by_cases e:k=b
  ·subst e;simp
  ·rw[decide_eq_false e,<-ih]
   simp[Ne.symm e]
theorem sj(b v j:Int)(ps:List (Int×Int)):cE (kE ps b v) j=if j=b then some v else cE ps j:=by
 have e1:∀ps:List (Int×Int),cE ps j=(fX (ps.map fun p=>(p.1,V.int p.2)) j).map fun x=>match x with|.int i=>i|_=>0:=fun ps=>by
  unfold cE fX
  induction ps with
  |nil=>rfl
  |cons p r ih=>
   simp only[List.map_cons,List.find?_cons]
   by_cases e:p.1=j
   ·simp[e]
   ·rw[decide_eq_false e];exact ih
 have e2:(kE ps b v).map (fun p=>(p.1,V.int p.2))=mv (ps.map fun p=>(p.1,V.int p.2)) b (.int v):=by
  unfold kE mv
  have:(ps.map fun p=>(p.1,V.int p.2)).any (fun kv=>decide (kv.1=b))=ps.any fun kv=>decide (kv.1=b):=by rw[List.any_map];rfl
  rw[this]
  split
  ·rw[List.map_map,List.map_map]
   refine List.map_congr_left fun p _=>?_
   simp only[Function.comp]
   split<;>rfl
  ·simp
 rw[e1,e2,zE]
 split
 ·rfl
 ·exact(e1 ps).symm
theorem jQ(first:List Int)(ps:List (Int×Int))(k:Nat):(beh first ps k).length=first.length:=by simp[beh]
theorem nK(first:List Int)(ps:List (Int×Int))(k i:Nat)(h:i<first.length):(beh first ps k)[i]?=some ((cE ps ((k+i:Nat):Int)).getD (first.getD i 0)):=by
 unfold beh
 rw[List.getElem?_map,List.getElem?_zipIdx,List.getElem?_eq_getElem h]
 simp[List.getD_eq_getElem?_getD,List.getElem?_eq_getElem h]
theorem IE{first:List Int}{m:M}{n b:Int}(lf:first.length=n.toNat)(b0:0<=b)(b1:b<n):atI ((beh first m.ps 0).map U.int) b=some (.int (qT first m b)):=by
 have hb:b.toNat<first.length:=by omega
 refine lS b0 ?_
 rw[List.getElem?_map,nK _ _ _ _ hb]
 unfold qT
 have:((0+b.toNat:Nat):Int)=b:=by omega
 rw[this];rfl
theorem EH{first:List Int}{ps:List (Int×Int)}{n b v:Int}(lf:first.length=n.toNat)(b0:0<=b)(b1:b<n):(beh first ps 0).set b.toNat v=beh first (kE ps b v) 0:=by
 refine List.ext_getElem? fun i=>?_
 by_cases hi:i<first.length
 ·rw[nK _ _ _ _ hi,List.getElem?_set,jQ]
  by_cases e:b.toNat=i
  ·have:((0+i:Nat):Int)=b:=by omega
   rw[if_pos e,if_pos (by omega),sj,this,if_pos rfl];rfl
  ·rw[if_neg e,nK _ _ _ _ hi,sj,if_neg (by omega)]
 ·rw[List.getElem?_eq_none (by simp[jQ];omega),List.getElem?_eq_none (by rw[jQ];omega)]
section
variable{first:List Int}
theorem EI:beh first [] 0=first:=by
 refine List.ext_getElem? fun i=>?_
 by_cases hi:i<first.length
 ·rw[nK _ _ _ _ hi,List.getElem?_eq_getElem hi]
  simp[cE,List.getD_eq_getElem?_getD,List.getElem?_eq_getElem hi]
 ·rw[List.getElem?_eq_none (by rw[jQ];omega),List.getElem?_eq_none (by omega)]
end
def mw(ls lo lh ll:Nat):List (Key×U):=[(.inr "state",.ref ls),(.inr "own",.ref lo),(.inr "hands",.ref lh),(.inr "looked",.ref ll)]
section
variable{ls lo lh ll:Nat}
theorem dJ:cE (mw ls lo lh ll) (.inr "state")=some (.ref ls):=by rfl
theorem jl:cE (mw ls lo lh ll) (.inr "own")=some (.ref lo):=by rfl
theorem cX:cE (mw ls lo lh ll) (.inr "hands")=some (.ref lh):=by rfl
theorem d8:cE (mw ls lo lh ll) (.inr "looked")=some (.ref ll):=by rfl
theorem Aj{x:Nat}:kE (mw ls lo lh ll) (.inr "state") (.ref x)=mw x lo lh ll:=by rfl
theorem Hh{x:Nat}:kE (mw ls lo lh ll) (.inr "own") (.ref x)=mw ls x lh ll:=by rfl
theorem Ak{x:Nat}:kE (mw ls lo lh ll) (.inr "hands") (.ref x)=mw ls lo x ll:=by rfl
end
structure Al(first:List Int)(i ls lo lh ll:Nat)(m:M)(S:Sto):Prop where
 ei:S[i]?=some (.dic (mw ls lo lh ll))
 es:S[ls]?=some (.lst ((beh first m.ps 0).map U.int))
 eo:S[lo]?=some (.lst ((m.ps.map (·.1)).map U.int))
 eh:S[lh]?=some (.lst (m.hs.map U.int))
 el:S[ll]?=some (.lst (m.lk.map U.int))
 nd:ls≠lo/\ls≠lh/\ls≠ll/\lo≠lh/\lo≠ll/\lh≠ll
section
variable{w:Int}{first:List Int}{i ls lo lh ll:Nat}{m:M}{S:Sto}
theorem Ap{x y:Nat}{kus:List (Key×U)}{us:List U}(a:S[x]?=some (.dic kus))(b:S[y]?=some (.lst us)):x≠y:=fun z=>by rw[z,b]at a;cases a
theorem Al.ns(h:Al first i ls lo lh ll m S):i≠ls/\i≠lo/\i≠lh/\i≠ll:=⟨Ap h.ei h.es,Ap h.ei h.eo,Ap h.ei h.eh,Ap h.ei h.el⟩
theorem Al.app(h:Al first i ls lo lh ll m S)(T:Sto):Al first i ls lo lh ll m (S++T):=⟨aJ h.ei,aJ h.es,aJ h.eo,aJ h.eh,aJ h.el,h.nd⟩
theorem Al.setH(h:Al first i ls lo lh ll m S)(hs:List Int):Al first i ls lo lh ll ⟨hs,m.ps,m.lk⟩ (S.set lh (.lst (hs.map U.int))):=by
 obtain⟨n1,n2,n3,n4,n5,n6⟩:=h.nd
 obtain⟨k1,k2,k3,k4⟩:=h.ns
 exact⟨by rw[List.getElem?_set_ne (Ne.symm k3)];exact h.ei,by rw[List.getElem?_set_ne (Ne.symm n2)];exact h.es,by rw[List.getElem?_set_ne (Ne.symm n4)];exact h.eo,List.getElem?_set_self (bu h.eh),by rw[List.getElem?_set_ne n6];exact h.el,h.nd⟩
theorem Al.setL(h:Al first i ls lo lh ll m S)(lk:List Int):Al first i ls lo lh ll ⟨m.hs,m.ps,lk⟩ (S.set ll (.lst (lk.map U.int))):=by
 obtain⟨n1,n2,n3,n4,n5,n6⟩:=h.nd
 obtain⟨k1,k2,k3,k4⟩:=h.ns
 exact⟨by rw[List.getElem?_set_ne (Ne.symm k4)];exact h.ei,by rw[List.getElem?_set_ne (Ne.symm n3)];exact h.es,by rw[List.getElem?_set_ne (Ne.symm n5)];exact h.eo,by rw[List.getElem?_set_ne (Ne.symm n6)];exact h.eh,List.getElem?_set_self (bu h.el),h.nd⟩
theorem pD{α:Type}{l:List α}{k:Nat}{x:α}(h:l[k]?=some x):l.set k x=l:=by
 refine List.ext_getElem? fun j=>?_
 by_cases c:k=j
 ·subst c;rw[List.getElem?_set_self (bu h),h]
 ·rw[List.getElem?_set_ne c]
theorem Al.setP(h:Al first i ls lo lh ll m S)(ps:List (Int×Int)){S':Sto}(e:S'=(S.set ls (.lst ((beh first ps 0).map U.int))).set lo (.lst ((ps.map (·.1)).map U.int))):Al first i ls lo lh ll ⟨m.hs,ps,m.lk⟩ S':=by
 obtain⟨n1,n2,n3,n4,n5,n6⟩:=h.nd
 obtain⟨k1,k2,k3,k4⟩:=h.ns
 subst e
 exact⟨by rw[List.getElem?_set_ne (Ne.symm k2),List.getElem?_set_ne (Ne.symm k1)];exact h.ei,by rw[List.getElem?_set_ne (Ne.symm n1)];exact List.getElem?_set_self (bu h.es),List.getElem?_set_self (by simpa using bu h.eo),by rw[List.getElem?_set_ne n4,List.getElem?_set_ne n2];exact h.eh,by rw[List.getElem?_set_ne n5,List.getElem?_set_ne n3];exact h.el,h.nd⟩
def BW:Fn:=fnU 6 3 bA
theorem K1{n:Int}{d:fb}(h:Al first i ls lo lh ll m S)(wf:Wf n m)(od:d.ok n w)(lf:first.length=n.toNat)(n0:0<=n)(n1:n<=6)(w0:2<=w)(nw:d≠.wait)(nl:∀h k,d≠.leap h k) :
  ∃S',BW [.tup [.int n,.int w],d.u,.ref i] S=some (.non,S')/\Al first i ls lo lh ll (step w first m d) S'/\Fr [i,ls,lo,lh,ll] S S':=by
 unfold BW
 rw[rE]
 obtain⟨f1,f2⟩:=wf.few n0 n1
 have h4:=wf.h4
 have i4:∀{h:Int},0<=h->h<4->ixN (m.hs.map U.int).length h=some h.toNat:=fun h0 h1=>ixL (n:=4) (by simpa using h4) h0 h1
 have fl:∀{b:Int} {l:List Int},gv (.int b)=true/\(l.map U.int).all gv=true:=fun{b l}=>⟨rfl,LD l⟩
 have hp':((m.ps.map (·.1)).map U.int).length<LIM:=by simp;unfold LIM;omega
 have hl':(m.lk.map U.int).length<LIM:=by simp;unfold LIM;omega
 cases d with
 |wait=>exact absurd rfl nw
 |leap h k=>exact absurd rfl (nl h k)
 |look g b=>
  obtain⟨h0,h1,b0,b1⟩:=od
  have ba:=IE (m:=m) lf b0 b1
  cases hv:(cE m.ps b).isSome with
  |true=>
   have h2:=h.setH (m.hs.set g.toNat (qT first m b))
   refine⟨_,?_,by simp only[step,hv,if_true];exact h2,.set (by simp)⟩
   rwa[bA,fb.u,h.ei,h.es,h.eo,h.eh,h.el,jl,cX,dJ,d8,wg fl,inI,BB,hv,ba,i4 h0 h1,map_set,if_true,SNX]
  |false=>
   by_cases hk:b∈m.lk
   ·have h2:=h.setH (m.hs.set g.toNat (qT first m b))
    refine⟨_,?_,by simp only[step,hv,tV,hk,if_true,Bool.false_eq_true,if_false];exact h2,.set (by simp)⟩
    rwa[bA,fb.u,h.ei,h.es,h.eo,h.eh,h.el,jl,cX,dJ,d8,wg fl,inI,BB,hv,hk,ba,i4 h0 h1,map_set,if_true,if_false,Bool.false_eq_true,SNX]
   ·have h1':=h.setL (m.lk++[b])
    have h2:=h1'.setH (m.hs.set g.toNat (qT first m b))
    simp only[List.map_append,List.map_cons,List.map_nil]at h1' h2
    refine⟨_,?_,by simp only[step,hv,tV,hk,if_true,Bool.false_eq_true,if_false];exact h2,Fr.trans (.set (by simp)) (.set (by simp))⟩
    rwa[bA,fb.u,h.ei,h.es,h.eo,h.eh,h.el,h1'.ei,h1'.es,h1'.eh,jl,cX,dJ,d8,wg fl,fq hl',inI,BB,hv,hk,ba,i4 h0 h1,map_set,if_true,if_false,Bool.false_eq_true,SNX]
 |put b g=>
  obtain⟨h0,h1,b0,b1⟩:=od
  have bi:ixN ((beh first m.ps 0).map U.int).length b=some b.toNat:=ixL (n:=n.toNat) (by simp[jQ,lf]) b0 (by omega)
  have bp:=EH (ps:=m.ps) (v:=m.hs.getD g.toNat 0) lf b0 b1
  have hk:=nh b (m.hs.getD g.toNat 0) m.ps
  obtain⟨m1,m2,m3,m4,m5,m6⟩:=h.nd
  obtain⟨k1,k2,k3,k4⟩:=h.ns
  have g1:∀X,(S.set ls X)[i]?=some (.dic (mw ls lo lh ll)):=fun X=>by rw[List.getElem?_set_ne (Ne.symm k1)];exact h.ei
  have g2:∀X,(S.set ls X)[lo]?=some (.lst ((m.ps.map (·.1)).map U.int)):=fun X=>by rw[List.getElem?_set_ne m1];exact h.eo
  cases hv:(cE m.ps b).isSome with
  |true=>
   have hm:b∈m.ps.map (·.1):=of_decide_eq_true (by rw[BB,hv])
   rw[tV,if_pos hm]at hk
   have h2:=h.setP (kE m.ps b (m.hs.getD g.toNat 0)) (S':=S.set ls (.lst ((beh first (kE m.ps b (m.hs.getD g.toNat 0)) 0).map U.int))) (by
    rw[hk,pD (g2 _)])
   refine⟨_,?_,h2,.set (by simp)⟩
   rwa[bA,fb.u,h.ei,h.es,h.eo,h.eh,h.el,g1,g2,jl,cX,dJ,d8,wg fl,inI,BB,hv,bi,bp,at4 h4 h0 h1,map_set,if_true,SNX]
  |false=>
   have hm:¬b∈m.ps.map (·.1):=of_decide_eq_false (by rw[BB,hv])
   rw[tV,if_neg hm]at hk
   have h2:=h.setP (kE m.ps b (m.hs.getD g.toNat 0)) rfl
   refine⟨_,?_,h2,Fr.trans (.set (by simp)) (.set (by simp))⟩
   rwa[bA,fb.u,h.ei,h.es,h.eo,h.eh,h.el,g1,g2,jl,cX,dJ,d8,wg fl,fq hp',inI,BB,hv,bi,bp,hk,at4 h4 h0 h1,map_set,if_true,List.map_append,SNX]
 |set g v=>
  obtain⟨h0,h1,b0,b1⟩:=od
  have h2:=h.setH (m.hs.set g.toNat v)
  refine⟨_,?_,h2,.set (by simp)⟩
  rwa[bA,fb.u,h.ei,h.es,h.eo,h.eh,h.el,jl,cX,dJ,d8,i4 h0 h1,map_set,SNX]
 |plus g k=>
  obtain⟨h0,h1,g0,g1⟩:=od
  have h2:=h.setH (m.hs.set g.toNat ((m.hs.getD g.toNat 0+m.hs.getD k.toNat 0) % w))
  refine⟨_,?_,h2,.set (by simp)⟩
  rwa[bA,fb.u,h.ei,h.es,h.eo,h.eh,h.el,jl,cX,dJ,d8,i4 h0 h1,at4 h4 h0 h1,at4 h4 g0 g1,qp (show 0<w by omega),map_set,SNX]
end
section
variable{w:Int}{first:List Int}{i ls lo lh ll:Nat}{m:M}{S:Sto}{n:Int}
theorem DG{x x1 x2:Nat}{S1:Sto}(len:S.length<=S1.length)(p:x1=x\/S.length<=x1)(q:x2=x1\/S1.length<=x2):x2=x\/S.length<=x2:=by omega
theorem BJ{ls1 lo1 lh1:Nat}{S1 S2:Sto}(a:Fr [i,ls,lo,lh,ll] S S1)(p:ls1=ls\/S.length<=ls1)(q:lo1=lo\/S.length<=lo1)(r:lh1=lh\/S.length<=lh1)(b:Fr [i,ls1,lo1,lh1,ll] S1 S2):Fr [i,ls,lo,lh,ll] S S2:=
 ⟨Nat.le_trans a.len b.len,fun l hl hn=>by
  rw[b.old l (Nat.lt_of_lt_of_le hl a.len) ?_,a.old l hl hn]
  simp only[List.mem_cons,List.not_mem_nil,or_false,not_or]at hn ⊢
  omega⟩
def ReL(first:List Int)(i ls lo lh ll:Nat)(S S':Sto)(r:Bool×M):Prop:=
 ∃ls' lo' lh',Al first i ls' lo' lh' ll r.2 S'/\Fr [i,ls,lo,lh,ll] S S'/\(ls'=ls\/S.length<=ls')/\(lo'=lo\/S.length<=lo')/\(lh'=lh\/S.length<=lh')
theorem ReL.here(h:Al first i ls lo lh ll m S){b:Bool}:ReL first i ls lo lh ll S S (b,m):=⟨ls,lo,lh,h,.refl,.inl rfl,.inl rfl,.inl rfl⟩
theorem ReL.go{ls1 lo1 lh1:Nat}{S1 S2:Sto}{r:Bool×M}(a:Fr [i,ls,lo,lh,ll] S S1)(p:ls1=ls\/S.length<=ls1)(q:lo1=lo\/S.length<=lo1)(t:lh1=lh\/S.length<=lh1)(h:ReL first i ls1 lo1 lh1 ll S1 S2 r):ReL first i ls lo lh ll S S2 r:=by
 obtain⟨ls',lo',lh',e1,e2,e3,e4,e5⟩:=h
 exact⟨ls',lo',lh',e1,BJ a p q t e2,DG a.len p e3,DG a.len q e4,DG a.len t e5⟩
variable{α:Type}{fw:Fn}{rn:List α->M->Bool×M}{f:α->U}{k:List α->Prop}
def jI(N:Nat):List (Key×U):=[(.inr "state",.ref (N+1)),(.inr "own",.ref (N+2)),(.inr "hands",.ref (N+3))]
theorem D6(N:Nat):oO [(.inr "state",.ref (N+1)),(.inr "own",.ref (N+2)),(.inr "hands",.ref (N+3))]=jI N:=by rfl
theorem AA(N:Nat):cE (jI N) (.inr "state")=some (.ref (N+1)):=by rfl
theorem Ho(N:Nat):cE (jI N) (.inr "own")=some (.ref (N+2)):=by rfl
theorem AB(N:Nat):cE (jI N) (.inr "hands")=some (.ref (N+3)):=by rfl
theorem pN{a b c d:Nat}:(mw a b c d).length<LIM:=by show 4<LIM;unfold LIM;omega
theorem EJ{fp:Fn}{N:Nat}{ρ:Rho}(hi:S[i]?=some (.dic (mw ls lo lh ll)))(hN:S[N]?=some (.dic (jI N))){r0 r1 r3 r4 r6:Option U} :
  ∃r6',tQ (ah 5) (gNm 6) (cG fp fw) [r0,r1,some (.ref i),r3,r4,some (.ref N),r6] S=some (.nx,[r0,r1,some (.ref i),r3,r4,some (.ref N),r6'],S.set i (.dic (mw (N+1) (N+2) (N+3) ll))):=by
 have ni:i≠N:=fun z=>by subst z;rw[hi]at hN;cases hN
 have li:=bu hi
 have lN:=bu hN
 refine⟨some (.str "hands"),?_⟩
 unfold tQ
 simp only[wc,List.getElem?_cons_succ,List.getElem?_cons_zero,qm,Option.bind_some,hN]
 refine ui fun ep=>?_
 have g0:∀X Y,((S.set N X).set i Y)[N]?=some X:=fun X Y=>by rw[List.getElem?_set_ne ni];exact List.getElem?_set_self lN
 have g00:∀X,(S.set N X)[N]?=some X:=fun X=>List.getElem?_set_self lN
 have g1:∀X Y,((S.set N X).set i Y)[i]?=some Y:=fun X Y=>List.getElem?_set_self (by simpa using li)
 have g2:∀X,(S.set N X)[i]?=some (.dic (mw ls lo lh ll)):=fun X=>by rw[List.getElem?_set_ne (Ne.symm ni)];exact hi
 have e:cP (fun S'=>S'[N]?=some (.fdc ep (jI N))) (gNm 6) (cG fp fw) ((jI N).map fun q=>kU q.1) [r0,r1,some (.ref i),r3,r4,some (.ref N),r6] (S.set N (.fdc ep (jI N)))
   = some (.nx,[r0,r1,some (.ref i),r3,r4,some (.ref N),some (.str "hands")],(S.set N (.fdc ep (jI N))).set i (.dic (mw (N+1) (N+2) (N+3) ll))):=by
  refine(bF (ρ1:=[r0,r1,some (.ref i),r3,r4,some (.ref N),some (.str "state")]) (S1:=(S.set N (.fdc ep (jI N))).set i (.dic (mw (N+1) lo lh ll))) (g00 _) rfl ?_).trans ?_
  ·rwa[cG,kU,g00,g2,Cp,AA,Aj,pN,if_true]
  refine(bF (ρ1:=[r0,r1,some (.ref i),r3,r4,some (.ref N),some (.str "own")]) (S1:=(S.set N (.fdc ep (jI N))).set i (.dic (mw (N+1) (N+2) lh ll))) (g0 _ _) rfl ?_).trans ?_
  ·rwa[cG,kU,g0,g1,Cp,Ho,Hh,pN,if_true,List.set_set]
  refine(bF (ρ1:=[r0,r1,some (.ref i),r3,r4,some (.ref N),some (.str "hands")]) (S1:=(S.set N (.fdc ep (jI N))).set i (.dic (mw (N+1) (N+2) (N+3) ll))) (g0 _ _) rfl ?_).trans ?_
  ·rwa[cG,kU,g0,g1,Cp,AB,Ak,pN,if_true,List.set_set]
  exact d9 (g0 _ _)
 rw[e,Option.bind_some]
 simp only[g0]
 congr 3
 rw[List.set_comm _ _ ni,List.set_set,pD hN]
end
theorem Fr.app{ls:List Nat}{S:Sto}(T:Sto):Fr ls S (S++T):=⟨by simp,fun l hl _=>by rw[List.getElem?_append_left hl]⟩
section
variable{w:Int}{first:List Int}{i ls lo lh ll:Nat}{m:M}{S:Sto}{n:Int}
variable{α:Type}{fw:Fn}{rn:List α->M->Bool×M}{f:α->U}{k:List α->Prop}
def HwT(first:List Int)(n w:Int)(i:Nat)(fw:Fn)(rn:List α->M->Bool×M)(f:α->U)(k:List α->Prop):Prop:=∀(a:List α) (m:M) (ls lo lh ll:Nat) (S:Sto),k a->Al first i ls lo lh ll m S->Wf n m->∃S',fw [.tup [.int n,.int w],.tup (a.map f),.ref i] S=some (.bl (!(rn a m).1),S')/\ReL first i ls lo lh ll S S' (rn a m)/\Wf n (rn a m).2
theorem fC(Hw:HwT first n w i fw rn f k)(all:U)(lf:first.length=n.toNat)(n0:0<=n)(n1:n<=6)(w0:2<=w):∀(ds:List (DF α)) (out:Nat) (r4 r5 r6:Option U) (m:M) (ls lo lh:Nat) (S:Sto),(∀d∈ds,d.ok n w k)->Al first i ls lo lh ll m S->Wf n m->
  ∃ρ S',cP (fun _=>True) (gNm 4) (bb BW fw) (ds.map (DF.u f)) [some (.tup [.int n,.int w]),some all,some (.ref i),some (.int out),r4,r5,r6] S=some (if (eE w first rn ds out m).1 then Out.nx else Out.rt (.bl true),ρ,S')/\ReL first i ls lo lh ll S S' (eE w first rn ds out m)/\Wf n (eE w first rn ds out m).2
 |[],out,r4,r5,r6,m,ls,lo,lh,S,_,h,wf=>⟨_,S,by rw[eE];exact d9 trivial,by rw[eE];exact .here h,by rw[eE];exact wf⟩
 |d::r,out+1,r4,r5,r6,m,ls,lo,lh,S,oa,h,wf=>by
  obtain⟨ρ,S',e,ih⟩:=fC Hw all lf n0 n1 w0 r out (some (d.u f)) r5 r6 m ls lo lh S (fun x hx=>oa x (List.mem_cons_of_mem _ hx)) h wf
  rw[eE]
  refine⟨ρ,S',(bF trivial rfl ?_).trans e,ih⟩
  have e1:(0:Int)<((out+1:Nat):Int):=by omega
  have e2:((out+1:Nat):Int)-1=(out:Int):=by omega
  rwa[bb,e1,e2]
 |d::r,0,r4,r5,r6,m,ls,lo,lh,S,oa,h,wf=>by
  have od:=oa d List.mem_cons_self
  have or:∀x∈r,x.ok n w k:=fun x hx=>oa x (List.mem_cons_of_mem _ hx)
  have z0:¬((0:Int)<((0:Nat):Int)):=by decide
  have h4:=wf.h4
  have plain:∀d':fb,d=.pl d'->d'≠.wait->(∀h k,d'≠.leap h k)->(∃x rr,d'.u=.tup (.str x::rr)/\decide (x=("wait":Str))=false/\decide (x=("leap":Str))=false/\decide (x=("try":Str))=false)->eE w first rn (.pl d'::r) 0 m=eE w first rn r 0 (step w first m d')->
    ∃ρ S',cP (fun _=>True) (gNm 4) (bb BW fw) ((d::r).map (DF.u f)) [some (.tup [.int n,.int w]),some all,some (.ref i),some (.int (0:Nat)),r4,r5,r6] S=some (if (eE w first rn (.pl d'::r) 0 m).1 then Out.nx else Out.rt (.bl true),ρ,S')/\ReL first i ls lo lh ll S S' (eE w first rn (.pl d'::r) 0 m)/\Wf n (eE w first rn (.pl d'::r) 0 m).2:=by
   rintro d' rfl nw nl ⟨x,rr,e0,s1,s2,s3⟩ e
   obtain⟨S1,hg,a1,f1⟩:=K1 (w:=w) h wf od lf n0 n1 w0 nw nl
   obtain⟨ρ,S',el,ih,iw⟩:=fC Hw all lf n0 n1 w0 r 0 (some d'.u) r5 r6 (step w first m d') ls lo lh S1 or a1 (wN wf od)
   rw[e]
   refine⟨ρ,S',(bF trivial rfl ?_).trans el,.go f1 (.inl rfl) (.inl rfl) (.inl rfl) ih,iw⟩
   simp only[DF.u]
   rw[e0]at hg ⊢
   rwa[bb,z0,s1,s2,s3,hg]
  cases d with
  |tr a b=>
   obtain⟨ka,kb⟩:=od
   have li:=bu h.ei
   have l1:=bu h.es
   have l2:=bu h.eo
   have l3:=bu h.eh
   have l4:=bu h.el
   have h1:=h.app [.dic []]
   have h2:=h.app [.dic [],.lst ((beh first m.ps 0).map U.int)]
   have h3:=h.app [.dic [],.lst ((beh first m.ps 0).map U.int),.lst ((m.ps.map (·.1)).map U.int)]
   have h4:=h.app [.dic (jI S.length),.lst ((beh first m.ps 0).map U.int),.lst ((m.ps.map (·.1)).map U.int),.lst (m.hs.map U.int)]
   obtain⟨S5,er,⟨ls5,lo5,lh5,a5,f5,p5,q5,t5⟩,wf5⟩:=Hw a m ls lo lh ll _ ka h4 wf
   have ff:Fr [i,ls,lo,lh,ll] S S5:=Fr.trans (Fr.app _) f5
   have len5:=f5.len
   simp only[List.length_append,List.length_cons,List.length_nil]at len5 p5 q5 t5
   rw[eE]
   unfold Kj
   cases e:rn a m with
   |mk t m'=>
    rw[e]at er a5 wf5
    cases t with
    |true=>
     obtain⟨ρ,S',el,ih,iw⟩:=fC Hw all lf n0 n1 w0 r 0 (some (DF.u f (.tr a b))) (some (.ref S.length)) r6 m' ls5 lo5 lh5 S5 or a5 wf5
     refine⟨ρ,S',(bF trivial rfl ?_).trans el,.go ff (by omega) (by omega) (by omega) ih,iw⟩
     rwa[bb,DF.u,z0,h.ei,h1.ei,h1.es,h2.ei,h2.eo,h3.ei,h3.eh,dJ,jl,cX,D6,er,List.length_append,Nat.zero_add,Nat.reduceAdd,SNX]
    |false=>
     have old:∀x,x<4->S5[S.length+x]?=[O.dic (jI S.length),.lst ((beh first m.ps 0).map U.int),.lst ((m.ps.map (·.1)).map U.int),.lst (m.hs.map U.int)][x]?:=fun x hx=>by
      rw[f5.old _ (by simp;omega) (by simp;omega),ga]
     have o0:S5[S.length]?=some (.dic (jI S.length)):=old 0 (by omega)
     obtain⟨r6',eb⟩:=EJ (fw:=fw) (fp:=BW) (ρ:=[]) (r0:=some (.tup [.int n,.int w])) (r1:=some all) (r3:=some (.int (0:Nat))) (r4:=some (DF.u f (.tr a b))) (r6:=r6) a5.ei o0
     have k5:=a5.ns
     have a6:Al first i (S.length+1) (S.length+2) (S.length+3) ll ⟨m.hs,m.ps,m'.lk⟩ (S5.set i (.dic (mw (S.length+1) (S.length+2) (S.length+3) ll))):=
      ⟨List.getElem?_set_self (bu a5.ei),by rw[List.getElem?_set_ne (by omega)];exact old 1 (by omega),by rw[List.getElem?_set_ne (by omega)];exact old 2 (by omega),by rw[List.getElem?_set_ne (by omega)];exact old 3 (by omega),by rw[List.getElem?_set_ne k5.2.2.2];exact a5.el,by omega⟩
     have f6:Fr [i,ls,lo,lh,ll] S (S5.set i (.dic (mw (S.length+1) (S.length+2) (S.length+3) ll))):=ff.trans (.set (by simp))
     obtain⟨S7,er7,⟨ls7,lo7,lh7,a7,f7,p7,q7,t7⟩,wf7⟩:=Hw b ⟨m.hs,m.ps,m'.lk⟩ _ _ _ _ _ kb a6 ⟨wf.h4,wf.pk,wf.pb,wf5.lk,wf5.lb⟩
     have ff7:Fr [i,ls,lo,lh,ll] S S7:=BJ f6 (.inr (by omega)) (.inr (by omega)) (.inr (by omega)) f7
     have len7:=f7.len
     simp only[List.length_set]at len7 p7 q7 t7
     simp only[DF.u]at eb
     have e6:=a6.ei
     cases e2:rn b ⟨m.hs,m.ps,m'.lk⟩with
     |mk t2 m2=>
      rw[e2]at er7 a7 wf7
      cases t2 with
      |true=>
       obtain⟨ρ,S',el,ih,iw⟩:=fC Hw all lf n0 n1 w0 r 0 (some (DF.u f (.tr a b))) (some (.ref S.length)) r6' m2 ls7 lo7 lh7 S7 or a7 wf7
       simp only[e2]
       refine⟨ρ,S',(bF trivial rfl ?_).trans el,.go ff7 (.inr (by omega)) (.inr (by omega)) (.inr (by omega)) ih,iw⟩
       rwa[bb,DF.u,z0,h.ei,h1.ei,h1.es,h2.ei,h2.eo,h3.ei,h3.eh,dJ,jl,cX,D6,er,eb,er7,List.length_append,Nat.zero_add,Nat.reduceAdd,SNX]
      |false=>
       simp only[e2]
       refine⟨[some (.tup [.int n,.int w]),some all,some (.ref i),some (.int (0:Nat)),some (DF.u f (.tr a b)),some (.ref S.length),r6'],S7,sO trivial rfl ?_,⟨ls7,lo7,lh7,a7,ff7,.inr (by omega),.inr (by omega),.inr (by omega)⟩,wf7⟩
       rwa[bb,DF.u,z0,h.ei,h1.ei,h1.es,h2.ei,h2.eo,h3.ei,h3.eh,dJ,jl,cX,D6,er,eb,er7,List.length_append,Nat.zero_add,Nat.reduceAdd,SNX]
  |pl d=>
   cases d with
   |wait=>
    refine⟨[some (.tup [.int n,.int w]),some all,some (.ref i),some (.int (0:Nat)),some (fb.u .wait),r5,r6],S,(sO trivial rfl ?_).trans (by rw[eE];rfl),by rw[eE];exact .here h,by rw[eE];exact wf⟩
    rwa[bb,z0,DF.u,fb.u,SNX]
   |leap g j=>
    obtain⟨h0,h4',k0,k1⟩:=od
    rw[eE]
    have cm:∀{x:Int},wa j x:=fun{x}=>.inl ⟨by omega,by omega⟩
    by_cases z:m.hs.getD g.toNat 0=0
    ·rw[if_pos z]
     obtain⟨ρ,S',el,ih⟩:=fC Hw all lf n0 n1 w0 r j.toNat (some (fb.u (.leap g j))) r5 r6 m ls lo lh S or h wf
     refine⟨ρ,S',(bF trivial rfl ?_).trans el,ih⟩
     have e1:((j.toNat:Nat):Int)=j*1:=by omega
     rw[e1]
     rwa[bb,z0,DF.u,fb.u,h.ei,h.eh,cX,at4 h4 h0 h4',z,ze cm,if_true,SNX]
    ·rw[if_neg z]
     obtain⟨ρ,S',el,ih⟩:=fC Hw all lf n0 n1 w0 r 0 (some (fb.u (.leap g j))) r5 r6 m ls lo lh S or h wf
     refine⟨ρ,S',(bF trivial rfl ?_).trans el,ih⟩
     have e1:((0:Nat):Int)=j*0:=by omega
     rw[e1]
     rwa[bb,Int.mul_zero,Int.lt_irrefl,DF.u,fb.u,h.ei,h.eh,cX,at4 h4 h0 h4',z,ze cm,if_false,Bool.false_eq_true,SNX]
   |look g b=>exact plain _ rfl (by simp) (by simp) ⟨_,_,rfl,iI,iJ,gN⟩ (by rw[eE])
   |put g b=>exact plain _ rfl (by simp) (by simp) ⟨_,_,rfl,ju,jv,ja⟩ (by rw[eE])
   |set g b=>exact plain _ rfl (by simp) (by simp) ⟨_,_,rfl,js,jt,i9⟩ (by rw[eE])
   |plus g b=>exact plain _ rfl (by simp) (by simp) ⟨_,_,rfl,iG,iH,gM⟩ (by rw[eE])
end
section
variable{w:Int}{first:List Int}{i ls lo lh ll:Nat}{m:M}{S:Sto}{n:Int}
def kZ(fw:Fn):Fn:=fnU 7 3 (dh BW fw)
theorem pq{α:Type}{fw:Fn}{rn:List α->M->Bool×M}{f:α->U}{k:List α->Prop}(Hw:HwT first n w i fw rn f k)(lf:first.length=n.toNat)(n0:0<=n)(n1:n<=6)(w0:2<=w)(ds:List (DF α))(oa:∀d∈ds,d.ok n w k)(h:Al first i ls lo lh ll m S)(wf:Wf n m) :
  ∃S',kZ fw [.tup [.int n,.int w],.tup (ds.map (DF.u f)),.ref i] S=some (.bl (!(eE w first rn ds 0 m).1),S')/\ReL first i ls lo lh ll S S' (eE w first rn ds 0 m)/\Wf n (eE w first rn ds 0 m).2:=by
 unfold kZ
 rw[rD]
 obtain⟨ρ,S',e1,e2,e3⟩:=fC Hw (.tup (ds.map (DF.u f))) lf n0 n1 w0 ds 0 none none none m ls lo lh S oa h wf
 refine⟨S',?_,e2,e3⟩
 have z:((0:Nat):Int)=0:=rfl
 rw[z]at e1
 cases e:(eE w first rn ds 0 m).1 with
 |true=>rw[e]at e1;simp only[if_true]at e1;rwa[dh,jV,iTp,e1]
 |false=>rw[e]at e1;simp only[Bool.false_eq_true,if_false]at e1;rwa[dh,jV,iTp,e1]
def rS:Nat->Fn
 |0=>kZ fun _ _=>none
 |j+1=>kZ (rS j)
theorem ug(lf:first.length=n.toNat)(n0:0<=n)(n1:n<=6)(w0:2<=w):∀J j:Nat,j<=J->HwT first n w i (rS J) (nZ w first j) (Dl.u j) (OkL n w j)
 |0,0,_=>fun a m ls lo lh ll S ka h wf=>pq (k:=fun _=>False) (fun a m ls lo lh ll S ka=>ka.elim) lf n0 n1 w0 a ka.2 h wf
 |J+1,0,_=>fun a m ls lo lh ll S ka h wf=>pq (k:=fun _=>False) (fun a m ls lo lh ll S ka=>ka.elim) lf n0 n1 w0 a ka.2 h wf
 |J+1,j+1,hJ=>fun a m ls lo lh ll S ka h wf=>pq (ug lf n0 n1 w0 J j (by omega)) lf n0 n1 w0 a ka.2 h wf
def cZ(j:Nat):Fn:=fnU 4 3 (dk (rS j))
theorem Bx(N:Nat):oO [(.inr "state",.ref (N+1)),(.inr "own",.ref (N+2)),(.inr "hands",.ref (N+3)),(.inr "looked",.ref (N+4))]=mw (N+1) (N+2) (N+3) (N+4):=by rfl
theorem xI{J j:Nat}(hJ:j<=J)(S0:Sto)(ds:List (Dl j))(od:OkL n w j ds)(lf:first.length=n.toNat)(n0:0<=n)(n1:n<=6)(w0:2<=w) :
  ∃G l,cZ J [.tup [.int n,.int w],.tup (ds.map (Dl.u j)),.tup (first.map U.int)] S0=some (told (nZ w first j ds m0) first l,S0++G)/\((nZ w first j ds m0).1=false->(S0++G)[l]?=some (.lst ((dr (nZ w first j ds m0).2.lk).map U.int))/\S0.length<=l)/\Wf n (nZ w first j ds m0).2:=by
 unfold cZ
 rw[rF]
 have h0:Al first S0.length (S0.length+1) (S0.length+2) (S0.length+3) (S0.length+4) m0 (S0++[.dic (mw (S0.length+1) (S0.length+2) (S0.length+3) (S0.length+4)),.lst (first.map U.int),.lst [],.lst [.int 0,.int 0,.int 0,.int 0],.lst []]):=
  ⟨by rw[ga0];rfl,by rw[ga];simp[m0,EI],by rw[ga];rfl,by rw[ga];rfl,by rw[ga];rfl,by omega⟩
 obtain⟨S1,er,⟨ls1,lo1,lh1,a1,f1,p1,q1,t1⟩,wf1⟩:=ug lf n0 n1 w0 J j hJ ds m0 _ _ _ _ _ od h0 ⟨rfl,by simp[m0],by simp[m0],by simp[m0],by simp[m0]⟩
 obtain⟨G1,rfl⟩:∃G,S1=S0++G:=ye (ls:=[]) (by have:=f1.len;simp at this;omega) fun l hl=>by
  rw[f1.old l (by simp;omega) (by simp;omega),List.getElem?_append_left hl]
 obtain⟨_,k2⟩:=wf1.few n0 n1
 unfold told
 cases e:nZ w first j ds m0 with
 |mk b m=>
  rw[e]at er a1 k2 wf1
  cases b with
  |true=>
   refine⟨G1,0,?_,by simp,wf1⟩
   rwa[dk,Bx,dJ,cX,d8,er,a1.ei,a1.es,a1.eh,List.length_append,Nat.zero_add,Nat.reduceAdd]
  |false=>
   have l0:m.lk.length<64:=Nat.lt_of_le_of_lt k2 (by decide)
   have hs:gY [.ref (S0.length+4)] (S0++G1)=some (.ref (S0++G1).length,(S0++G1)++[.lst ((dr m.lk).map U.int)]):=by
    simp only[gY,a1.el,iW,Option.bind_some,l0,if_true]
   refine⟨G1++[.lst ((dr m.lk).map U.int)],(S0++G1).length,?_,fun _=>⟨?_,by simp⟩,wf1⟩
   ·rwa[dk,Bx,dJ,cX,d8,er,a1.ei,hs,List.length_append,Nat.zero_add,Nat.reduceAdd]
   ·rw[<-List.append_assoc,ga0];rfl
end
theorem Cq{x:U}{S:Sto}:EW x .non S=some (.bl (pQ x),S):=rfl
section
variable{α:Type}{n w:Int}{f:α->U}{k:List α->Prop}{s:List α->Int}
def szF(s:List α->Int):List (DF α)->Int
 |[]=>0
 |.pl _::r=>1+szF s r
 |.tr a b::r=>1+s a+s b+szF s r
theorem pA(s:List α->Int):∀(x y:List (DF α)),szF s (x++y)=szF s x+szF s y
 |[],y=>by simp[szF]
 |.pl d::r,y=>by simp only[List.cons_append,szF,pA s r y];omega
 |.tr a b::r,y=>by simp only[List.cons_append,szF,pA s r y];omega
def HsT(fs:Fn)(f:α->U)(k:List α->Prop)(s:List α->Int):Prop:=∀(a:List α) (S:Sto),k a->fs [.tup (a.map f)] S=some (.int (s a),S)
def vf(fs:Fn):Fn:=fnU 3 1 (fO fs)
theorem mZ{fs:Fn}(Hs:HsT fs f k s)(x:U):∀(ds:List (DF α)) (many:Int) (r2:Option U) (S:Sto),(∀d∈ds,d.ok n w k)->
  ∃r2',cP (fun _=>True) (gNm 2) (fv fs) (ds.map (DF.u f)) [some x,some (.int many),r2] S=some (.nx,[some x,some (.int (many+szF s ds)),r2'],S)
 |[],many,r2,S,_=>⟨r2,by simp only[szF,Int.add_zero,List.map_nil];exact d9 trivial⟩
 |d::r,many,r2,S,oa=>by
  have od:=oa d List.mem_cons_self
  cases d with
  |pl d=>
   obtain⟨r2',ih⟩:=mZ Hs x r (many+1) (some d.u) S fun y hy=>oa y (List.mem_cons_of_mem _ hy)
   have e:many+szF s (.pl d::r)=many+1+szF s r:=by simp only[szF];omega
   rw[e]
   refine⟨r2',(bF trivial rfl ?_).trans ih⟩
   have h0:∃y rr,d.u=.tup (.str y::rr)/\decide (y=("try":Str))=false:=by
    cases d<;>first|exact⟨_,_,rfl,gN⟩|exact⟨_,_,rfl,ja⟩|exact⟨_,_,rfl,i9⟩|exact⟨_,_,rfl,gM⟩|exact⟨_,_,rfl,by decide +kernel⟩
   obtain⟨y,rr,e0,e1⟩:=h0
   simp only[DF.u]
   rw[e0]
   rwa[fv,e1]
  |tr a b=>
   obtain⟨ka,kb⟩:=od
   obtain⟨r2',ih⟩:=mZ Hs x r (many+1+s a+s b) (some (DF.u f (.tr a b))) S fun y hy=>oa y (List.mem_cons_of_mem _ hy)
   have e:many+szF s (.tr a b::r)=many+1+s a+s b+szF s r:=by simp only[szF];omega
   rw[e]
   refine⟨r2',(bF trivial rfl ?_).trans ih⟩
   rwa[fv,DF.u,Hs a _ ka,Hs b _ kb,SNX]
theorem sx{fs:Fn}(Hs:HsT fs f k s)(ds:List (DF α))(S:Sto)(oa:∀d∈ds,d.ok n w k):vf fs [.tup (ds.map (DF.u f))] S=some (.int (szF s ds),S):=by
 unfold vf
 rw[tF]
 obtain⟨r2,e⟩:=mZ Hs (.tup (ds.map (DF.u f))) ds 0 none S oa
 rw[Int.zero_add]at e
 rwa[fO,jV,iTp,e]
end
def vT:Nat->Fn
 |0=>vf fun _ _=>none
 |j+1=>vf (vT j)
def Dd:(j:Nat)->List (Dl j)->Int
 |0,ds=>szF (fun _=>0) ds
 |j+1,ds=>szF (Dd j) ds
theorem pC{n w:Int}:∀J j:Nat,j<=J->HsT (vT J) (Dl.u j) (OkL n w j) (Dd j)
 |0,0,_=>fun a S ka=>sx (n:=n) (w:=w) (k:=fun _=>False) (fun _ _ z=>z.elim) a S ka.2
 |J+1,0,_=>fun a S ka=>sx (n:=n) (w:=w) (k:=fun _=>False) (fun _ _ z=>z.elim) a S ka.2
 |J+1,j+1,h=>fun a S ka=>sx (n:=n) (w:=w) (pC J j (by omega)) a S ka.2
section
variable{α:Type}{f:α->U}{k:List α->Prop}{s:List α->Int}
def HdT(n w t:Int)(fd:Fn)(f:α->U)(k:List α->Prop)(s:List α->Int):Prop:=∀(ns:List Int) (T:Sto) (a c room:Int),0<=a->0<=c->0<=room->room<=40->
 ∃(ds:List α) (a' c':Int) (G:Sto),fd [.ref 1,.tup [.int n,.int w],.int room,.int t] (scr ns::pen a c::T)=some (.tup (ds.map f),scr ns::pen a' c'::(T++G))/\k ds/\s ds<=room/\0<=s ds/\0<=a'/\0<=c'/\ds.length<=12
def jh(ak aU aE aM:Fn):CS:=
 (dM (me (aH (cOp fGt (ah 5) (cC (.int 0)))) (me (aH (cOp fLt (cCB fU (ae (ah 4) aA)) (cC (.int 12)))) (aH (cOp fLt (ah 7) (cC (.int 13)))))) (bg (d3 (cBM bU (ah 4) (ae (cCB aU (ae (ah 0) (ae (ah 1) (ae (ah 7) (ae (ah 8) aA))))) aA)))
  (bO 5 (cOp pZ (ah 5) (cC (.int 1))))) (dM (me (aH (cOp fGt (ah 5) (cC (.int 0)))) (me (aH (cOp fLt (cCB fU (ae (ah 4) aA)) (cC (.int 12)))) (cOr (aH (cOp fEq (ah 7) (cC (.int 13)))) (aH (cOp fEq (ah 3) (cC (.int 0))))))) (bg (dM (me (aH (cOp fGt (ah 5) (cC (.int 1)))) (me (aH (cOp fLt (cCB fU (ae (ah 4) aA)) (cC (.int 11)))) (aH (cOp fGt (cCB ak (ae (ah 0) (ae (cC (.int 4)) aA))) (cC (.int 0)))))) (bg (d3 (cBM bU (ah 4) (ae (cL (ae (cC (.str "leap")) (ae (ah 8) (ae (cC (.int 1)) aA)))) aA)))
  (bO 5 (cOp pZ (ah 5) (cC (.int 1))))) cf)
  (bg (d3 (cBM bU (ah 4) (ae (cL (ae (cC (.str "wait")) aA)) aA)))
  (bO 5 (cOp pZ (ah 5) (cC (.int 1)))))) (dM (me (aH (cOp fGt (ah 5) (cC (.int 0)))) (aH (cOp fLt (cCB fU (ae (ah 4) aA)) (cC (.int 12))))) (bg (bO 9 (cCB aE (ae (ah 0) (ae (ah 1) (ae (cCB ak (ae (ah 0) (ae (ah 5) aA))) (ae (cOp pZ (ah 3) (cC (.int 1))) aA))))))
  (bg (bO 5 (cOp pZ (cOp pZ (ah 5) (cC (.int 1))) (cCB aM (ae (ah 9) aA))))
  (bg (bO 10 (cCB aE (ae (ah 0) (ae (ah 1) (ae (cCB ak (ae (ah 0) (ae (cOp eF (ah 5) (cC (.int 1))) aA))) (ae (cOp pZ (ah 3) (cC (.int 1))) aA))))))
  (bg (bO 5 (cOp pZ (ah 5) (cCB aM (ae (ah 10) aA))))
  (d3 (cBM bU (ah 4) (ae (cL (ae (cC (.str "try")) (ae (ah 9) (ae (ah 10) aA)))) aA))))))) cf)))
theorem IF{f g h i:Fn}:dN f g h i=bg (bO 7 (cCB f (ae (ah 0) (ae (cC (.int 16)) aA)))) (bg (bO 8 (cCB f (ae (ah 0) (ae (cC (.int 4)) aA)))) (jh f g h i)):=rfl
theorem dz(ns:List Int)(T:Sto){n w room t:Int}{fd fs:Fn}(Hs:HsT fs f k s)(Hd:t≠0->HdT n w (t-1) fd f k s)(n0:1<=n)(n1:n<=6)(w0:2<=w)(w1:w<=1000)(rm:room<=40):∀(us:List U) (r6 r7 r8 r9 r10:Option U) (left:Int) (ds:List (DF α)) (G:Sto) {a c:Int},0<=a->0<=c->ds.length<=12->(∀d∈ds,d.ok n w k)->0<=left->szF s ds+left<=room->0<=szF s ds->
  ∃(ds':List (DF α)) (ρ:Rho) (a' c':Int) (G':Sto),cP (fun _=>True) (gNm 6) (dN fQ k8 fd fs) us [some (.ref 1),some (.tup [.int n,.int w]),some (.int room),some (.int t),some (.ref (T.length+1+1)),some (.int left),r6,r7,r8,r9,r10] (scr ns::pen a c::(T++.lst (ds.map (DF.u f))::G))
   = some (.nx,some (.ref 1)::some (.tup [.int n,.int w])::some (.int room)::some (.int t)::some (.ref (T.length+1+1))::ρ,scr ns::pen a' c'::(T++.lst (ds'.map (DF.u f))::G'))/\ds'.length<=12/\(∀d∈ds',d.ok n w k)/\szF s ds'<=room/\0<=szF s ds'/\0<=a'/\0<=c'
 |[],r6,r7,r8,r9,r10,left,ds,G,a,c,ha,hc,hl,hd,l0,sz,s0=>⟨ds,_,a,c,G,by simp[cP];rfl,hl,hd,by omega,s0,ha,hc⟩
 |u::us,r6,r7,r8,r9,r10,left,ds,G,a,c,ha,hc,hl,hd,l0,sz,s0=>by
  obtain⟨f1,a1,c1,e1,p1,q1,ha1,hc1⟩:=bR ns (T++.lst (ds.map (DF.u f))::G) (m:=16) ha hc (by decide) (by decide +kernel)
  obtain⟨f2,a2,c2,e2,p2,q2,ha2,hc2⟩:=bR ns (T++.lst (ds.map (DF.u f))::G) (m:=4) ha1 hc1 (by decide) (by decide +kernel)
  have pre:dN fQ k8 fd fs [some (.ref 1),some (.tup [.int n,.int w]),some (.int room),some (.int t),some (.ref (T.length+1+1)),some (.int left),some u,r7,r8,r9,r10] (scr ns::pen a c::(T++.lst (ds.map (DF.u f))::G))
    = jh fQ k8 fd fs [some (.ref 1),some (.tup [.int n,.int w]),some (.int room),some (.int t),some (.ref (T.length+1+1)),some (.int left),some u,some (.int f1),some (.int f2),r9,r10] (scr ns::pen a2 c2::(T++.lst (ds.map (DF.u f))::G)):=by
   rw[IF]
   rwa[e1,e2]
  by_cases hL:0<left
  case neg=>
   obtain⟨ds',ρ,a',c',G',h,kk⟩:=dz ns T (room:=room) (t:=t) (fd:=fd) (fs:=fs) Hs Hd n0 n1 w0 w1 rm us (some u) (some (.int f1)) (some (.int f2)) r9 r10 left ds G ha2 hc2 hl hd l0 sz s0
   exact⟨ds',ρ,a',c',G',(bF trivial rfl (pre.trans (by rwa[jh,hL]))).trans h,kk⟩
  by_cases hN:(ds.length:Int)<12
  case neg=>
   obtain⟨ds',ρ,a',c',G',h,kk⟩:=dz ns T (room:=room) (t:=t) (fd:=fd) (fs:=fs) Hs Hd n0 n1 w0 w1 rm us (some u) (some (.int f1)) (some (.int f2)) r9 r10 left ds G ha2 hc2 hl hd l0 sz s0
   exact⟨ds',ρ,a',c',G',(bF trivial rfl (pre.trans (by rwa[jh,hL,hN,List.length_map]))).trans h,kk⟩
  have hlm:(ds.map (DF.u f)).length<LIM:=by unfold LIM;simp;omega
  have okd:∀{ds:List (DF α)} {d:DF α},(∀d∈ds,d.ok n w k)->d.ok n w k->∀x∈ds++[d],x.ok n w k:=fun h1 h2 x hx=>by
   rcases List.mem_append.mp hx with z|z
   ·exact h1 x z
   ·simp at z;subst z;exact h2
  have s1:∀(x:List (DF α)) (d:fb),szF s (x++[.pl d])=szF s x+1:=fun x d=>by rw[pA];simp[szF]
  by_cases hW:f1<13
  ·obtain⟨d,a3,c3,G3,e3,od,ha3,hc3⟩:=z5 ns (T++.lst (ds.map (DF.u f))::G) ha2 hc2 n0 n1 w0 w1 p1 p2 q2
   obtain⟨ds',ρ,a',c',G',h,kk⟩:=dz ns T (room:=room) (t:=t) (fd:=fd) (fs:=fs) Hs Hd n0 n1 w0 w1 rm us (some u) (some (.int f1)) (some (.int f2)) r9 r10 (left-1) (ds++[.pl d]) (G++G3) ha3 hc3 (by simp;omega) (okd hd (show DF.ok n w k (.pl d)from od)) (by omega) (by rw[s1];omega) (by rw[s1];omega)
   simp only[List.map_append,List.map_cons,List.map_nil,DF.u]at h
   exact⟨ds',ρ,a',c',G',(bF trivial rfl (pre.trans (by rwa[jh,e3,hL,hN,hW,fq hlm,List.length_map]))).trans h,kk⟩
  ·have wt:DF.u f (.pl .wait)=U.tup [.str "wait"]:=rfl
   obtain⟨bE,hE⟩:∃b,decide (f1=13)=b:=⟨_,rfl⟩
   obtain⟨bT,hT⟩:∃b,decide (t=0)=b:=⟨_,rfl⟩
   by_cases hX:bE=false/\bT=false
   ·obtain⟨rfl,rfl⟩:=hX
    have tz:t≠0:=of_decide_eq_false hT
    obtain⟨f3,a3,c3,e3,p3,q3,ha3,hc3⟩:=bR ns (T++.lst (ds.map (DF.u f))::G) (m:=left) ha2 hc2 hL (l9 (by omega) (by omega))
    obtain⟨A,a4,c4,G4,e4,kA,sA,sA0,ha4,hc4,_⟩:=Hd tz ns (T++.lst (ds.map (DF.u f))::G) a3 c3 f3 ha3 hc3 p3 (by omega)
    obtain⟨f5,a5,c5,e5,p5,q5,ha5,hc5⟩:=bR ns (T++.lst (ds.map (DF.u f))::(G++G4)) (m:=left-1-s A+1) ha4 hc4 (by omega) (l9 (by omega) (by omega))
    obtain⟨B,a6,c6,G6,e6,kB,sB,sB0,ha6,hc6,_⟩:=Hd tz ns (T++.lst (ds.map (DF.u f))::(G++G4)) a5 c5 f5 ha5 hc5 p5 (by omega)
    have s2:szF s (ds++[.tr A B])=szF s ds+1+s A+s B:=by rw[pA];simp only[szF];omega
    obtain⟨ds',ρ,a',c',G',h,kk⟩:=dz ns T (room:=room) (t:=t) (fd:=fd) (fs:=fs) Hs Hd n0 n1 w0 w1 rm us (some u) (some (.int f1)) (some (.int f2)) (some (.tup (A.map f))) (some (.tup (B.map f))) (left-1-s A-s B) (ds++[.tr A B]) (G++(G4++G6)) ha6 hc6 (by simp;omega) (okd hd (show DF.ok n w k (.tr A B)from⟨kA,kB⟩)) (by omega) (by rw[s2];omega) (by rw[s2];omega)
    simp only[List.map_append,List.map_cons,List.map_nil,DF.u]at h
    simp only[List.append_assoc,List.cons_append]at e4 e6
    exact⟨ds',ρ,a',c',G',(bF trivial rfl (pre.trans (by rwa[jh,e3,e4,e5,e6,Hs A _ kA,Hs B _ kB,hL,hN,hW,hE,hT,fq hlm,List.length_map]))).trans h,kk⟩
   have hO:(bE||bT)=true:=by cases bE<;>cases bT<;>simp_all
   have hC:∀S':Sto,(cOr (aH (cOp fEq (ah 7) (cC (.int 13)))) (aH (cOp fEq (ah 3) (cC (.int 0))))) [some (.ref 1),some (.tup [.int n,.int w]),some (.int room),some (.int t),some (.ref (T.length+1+1)),some (.int left),some u,some (.int f1),some (.int f2),r9,r10] S'=some (true,S'):=fun S'=>by
    cases bE<;>cases bT<;>first|(exact absurd hO (by decide))|rwa[hE,hT]
   by_cases hM:1<left
   case neg=>
    obtain⟨ds',ρ,a',c',G',h,kk⟩:=dz ns T (room:=room) (t:=t) (fd:=fd) (fs:=fs) Hs Hd n0 n1 w0 w1 rm us (some u) (some (.int f1)) (some (.int f2)) r9 r10 (left-1) (ds++[.pl .wait]) G ha2 hc2 (by simp;omega) (okd hd (show DF.ok n w k (.pl .wait)from trivial)) (by omega) (by rw[s1];omega) (by rw[s1];omega)
    simp only[List.map_append,List.map_cons,List.map_nil]at h
    refine⟨ds',ρ,a',c',G',(bF trivial rfl ?_).trans h,kk⟩
    refine pre.trans ?_
    rwa[jh,hC,hL,hN,hW,hM,wt,fq hlm,List.length_map]
   by_cases hK:(ds.length:Int)<11
   case neg=>
    obtain⟨ds',ρ,a',c',G',h,kk⟩:=dz ns T (room:=room) (t:=t) (fd:=fd) (fs:=fs) Hs Hd n0 n1 w0 w1 rm us (some u) (some (.int f1)) (some (.int f2)) r9 r10 (left-1) (ds++[.pl .wait]) G ha2 hc2 (by simp;omega) (okd hd (show DF.ok n w k (.pl .wait)from trivial)) (by omega) (by rw[s1];omega) (by rw[s1];omega)
    simp only[List.map_append,List.map_cons,List.map_nil]at h
    refine⟨ds',ρ,a',c',G',(bF trivial rfl ?_).trans h,kk⟩
    refine pre.trans ?_
    rwa[jh,hC,hL,hN,hW,hM,hK,wt,fq hlm,List.length_map]
   obtain⟨f3,a3,c3,e3,p3,q3,ha3,hc3⟩:=bR ns (T++.lst (ds.map (DF.u f))::G) (m:=4) ha2 hc2 (by decide) (by decide +kernel)
   by_cases hZ:0<f3
   ·have lp:DF.u f (.pl (.leap f2 1))=U.tup [.str "leap",.int f2,.int 1]:=rfl
    have hlm2:(ds.map (DF.u f)++[U.tup [.str "leap",.int f2,.int 1]]).length<LIM:=by unfold LIM;simp;omega
    obtain⟨ds',ρ,a',c',G',h,kk⟩:=dz ns T (room:=room) (t:=t) (fd:=fd) (fs:=fs) Hs Hd n0 n1 w0 w1 rm us (some u) (some (.int f1)) (some (.int f2)) r9 r10 (left-1-1) (ds++[.pl (.leap f2 1)]++[.pl .wait]) G ha3 hc3 (by simp;omega) (okd (okd hd (show DF.ok n w k (.pl (.leap f2 1))from⟨p2,q2,by omega,by omega⟩)) (show DF.ok n w k (.pl .wait)from trivial)) (by omega) (by rw[s1,s1];omega) (by rw[s1,s1];omega)
    simp only[List.map_append,List.map_cons,List.map_nil]at h
    refine⟨ds',ρ,a',c',G',(bF trivial rfl ?_).trans h,kk⟩
    refine pre.trans ?_
    rwa[jh,hC,e3,hL,hN,hW,hM,hK,hZ,lp,wt,fq hlm,fq hlm2,List.length_map]
   ·obtain⟨ds',ρ,a',c',G',h,kk⟩:=dz ns T (room:=room) (t:=t) (fd:=fd) (fs:=fs) Hs Hd n0 n1 w0 w1 rm us (some u) (some (.int f1)) (some (.int f2)) r9 r10 (left-1) (ds++[.pl .wait]) G ha3 hc3 (by simp;omega) (okd hd (show DF.ok n w k (.pl .wait)from trivial)) (by omega) (by rw[s1];omega) (by rw[s1];omega)
    simp only[List.map_append,List.map_cons,List.map_nil]at h
    refine⟨ds',ρ,a',c',G',(bF trivial rfl ?_).trans h,kk⟩
    refine pre.trans ?_
    rwa[jh,hC,e3,hL,hN,hW,hM,hK,hZ,wt,fq hlm,List.length_map]
theorem mB{n w t:Int}{fd fs:Fn}(Hs:HsT fs f k s)(Hd:t≠0->HdT n w (t-1) fd f k s)(n0:1<=n)(n1:n<=6)(w0:2<=w)(w1:w<=1000):HdT n w t (vg fd fs) (DF.u f) (fun ds=>ds.length<=30/\∀d∈ds,DF.ok n w k d) (szF s):=by
 intro ns T a c room ha hc r0 r1
 unfold vg
 rw[ow]
 have hm:LF [.int 12,.int room]=fun S=>some (.int (if room<12 then room else 12),S):=rfl
 have hk:0<=(if room<12 then room else 12)/\(if room<12 then room else 12)<=12:=by split<;>omega
 generalize (if room<12 then room else 12)=mm at hm hk
 obtain⟨f1,a1,c1,e1,p1,q1,ha1,hc1⟩:=bR ns (T++[.lst []]) (m:=mm+1) ha hc (by omega) (l9 (by omega) (by omega))
 obtain⟨ds,ρ,a',c',G,h,k1,k2,k3,k4,k5,k6⟩:=dz ns T (room:=room) (t:=t) (fd:=fd) (fs:=fs) Hs Hd n0 n1 w0 w1 r1 (fG 0 f1.toNat) none none none none none room [] [] ha1 hc1 (by simp) (by simp) r0 (by simp[szF]) (by simp[szF])
 refine⟨ds,a',c',.lst (ds.map (DF.u f))::G,?_,⟨by omega,k2⟩,k3,k4,k5,k6,k1⟩
 have hr:-(2^62)<=f1/\f1<2^62:=by omega
 simp only[List.map_nil]at h
 rwa[dH,jV,fh,hm,e1,hr,h,if_true,and_self]
end
def qi:Nat->Fn
 |0=>vg (fun _ _=>none) fun _ _=>none
 |j+1=>vg (qi j) (vT j)
theorem uY{n w:Int}(n0:1<=n)(n1:n<=6)(w0:2<=w)(w1:w<=1000):∀(J j t:Nat),t<=j->j<=J->HdT n w t (qi J) (Dl.u j) (OkL n w j) (Dd j)
 |0,0,0,_,_=>mB (k:=fun _=>False) (fun _ _ z=>z.elim) (fun z=>absurd rfl z) n0 n1 w0 w1
 |J+1,0,0,_,_=>mB (k:=fun _=>False) (fun _ _ z=>z.elim) (fun z=>absurd rfl z) n0 n1 w0 w1
 |J+1,j+1,0,_,h=>mB (pC J j (by omega)) (fun z=>absurd rfl z) n0 n1 w0 w1
 | J+1,j+1,t+1,h,h'=>mB (pC J j (by omega)) (fun _=>by
   have e:((t+1:Nat):Int)-1=(t:Int):=by omega
   rw[e];exact uY n0 n1 w0 w1 J j t (by omega) (by omega)) n0 n1 w0 w1
theorem vh{x:U}{S:Sto}:oj x .non S=some (.bl (!pQ x),S):=rfl
theorem uT:pQ .non=true:=rfl
theorem xX{us:List U}:pQ (.tup us)=false:=rfl
theorem Ie{i:Int}:pQ (.int i)=false:=rfl
theorem Ks{us:List U}{k:Nat}{S:Sto}(h:k<us.length):fSl (.tup us) none (some (k:Int)) S=some (.tup (us.take k),S):=by
 have e:HT.sIx us.length us.length (some (k:Int))=k:=by rw[HT.sIx_nat];omega
 simp only[fSl,HT.sIx_none,e,BP,List.drop_zero,Nat.sub_zero]
 rw[if_neg (by omega)]
theorem Dc{us:List U}{k:Nat}{S:Sto}(h0:0<k)(h:k<=us.length):fSl (.tup us) (some (k:Int)) none S=some (.tup (us.drop k),S):=by
 have e:HT.sIx us.length 0 (some (k:Int))=k:=by rw[HT.sIx_nat];omega
 simp only[fSl,HT.sIx_none,e,BP]
 rw[if_neg (by omega),List.take_of_length_le (by simp)]
def oZ:Fn:=fnU 3 3 gE
theorem wA{us:List U}{k:Int}{v:U}{S:Sto}(k0:0<=k)(h:k<us.length)(hl:us.length<=50):oZ [.tup us,.int k,v] S=some (.tup (us.set k.toNat v),S):=by
 unfold oZ
 rw[yo]
 have ek:k=((k.toNat:Nat):Int):=by omega
 have hk:k.toNat<us.length:=by omega
 have e1:k+1=((k.toNat+1:Nat):Int):=by omega
 have a1:fSl (.tup us) none (some k) S=some (.tup (us.take k.toNat),S):=by rw[ek];exact Ks hk
 have a2:fSl (.tup us) (some (k+1)) none S=some (.tup (us.drop (k.toNat+1)),S):=by rw[e1];exact Dc (by omega) (by omega)
 have b1:eF (.tup (us.take k.toNat)) (.tup [v]) S=some (.tup (us.take k.toNat++[v]),S):=by
  unfold eF;simp only;rw[if_pos (by simp;unfold LIM;omega)]
 have b2:eF (.tup (us.take k.toNat++[v])) (.tup (us.drop (k.toNat+1))) S=some (.tup (us.take k.toNat++[v]++us.drop (k.toNat+1)),S):=by
  unfold eF;simp only;rw[if_pos (by simp;unfold LIM;omega)]
 rw[List.set_eq_take_append_cons_drop,if_pos hk]
 rwa[gE,cSl,oy,a1,a2,b1,b2]
def pt(ds:List U)(q:Int)(A B:U):U:=.tup [.tup ds,.int q,A,B]
inductive Onw:Nat->U->U->Prop
 |stop {d:Nat} {ds:List U} {q:Int} {A B:U}:q<ds.length->Onw d (pt ds q A B) (pt ds q A B)
 |top {d:Nat} {ds:List U} {q:Int} {B:U}:Onw d (pt ds q .non B) (pt ds q .non B)
 |up {d:Nat} {ds ds':List U} {q q':Int} {A' B B' y:U}:(ds.length:Int)<=q->Onw d (pt ds' q' A' B') y->Onw (d+1) (pt ds q (pt ds' q' A' B') B) y
def rT:Fn:=fnU 2 1 (gF 100)
theorem Ai{F:Nat}{d:Nat}{x y:U}{S:Sto}{r:Option U}(h:Onw d x y):∀(fuel:Nat),d<fuel->
  cH (me (aH (cOp fGe (cOp fIx (ah 1) (cC (.int 1))) (cCB fU (ae (cOp fIx (ah 1) (cC (.int 0))) aA)))) (aH (cOp oj (cOp fIx (ah 1) (cC (.int 2))) (cC .non)))) (g5 F) fuel [r,some x] S=some (.nx,[r,some y],S):=by
 induction h with
 |@stop d ds q A B h=>
  intro fuel hf
  obtain⟨f,rfl⟩:∃f,fuel=f+1:=⟨fuel-1,by omega⟩
  have c:¬(ds.length:Int)<=q:=by omega
  refine iD ?_
  unfold pt
  rwa[c]
 |@top d ds q B=>
  intro fuel hf
  obtain⟨f,rfl⟩:∃f,fuel=f+1:=⟨fuel-1,by omega⟩
  refine iD ?_
  unfold pt
  by_cases c:(ds.length:Int)<=q
  ·rwa[c,vh,uT]
  ·rwa[c]
 |@up d ds ds' q q' A' B B' y h _ ih=>
  intro fuel hf
  obtain⟨f,rfl⟩:∃f,fuel=f+1:=⟨fuel-1,by omega⟩
  refine(mh (ρ1:=[r,some (pt ds' q' A' B')]) (S1:=S) (S0:=S) ?_ ?_).trans (ih f (by omega))
  ·unfold pt
   rwa[h,vh,xX]
  ·unfold pt
   rwa[g5]
theorem uB{d:Nat}{x y:U}{S:Sto}(h:Onw d x y)(hd:d<100):rT [x] S=some (y,S):=by
 unfold rT
 rw[yp]
 rwa[gF,Ai h 100 hd]
def tw(n:Nat)(ps:List (Int×Int)):List U:=(List.range n).map fun b:Nat=>((cE ps (b:Int)).map U.int).getD .non
theorem km{n:Nat}{ps:List (Int×Int)}:(tw n ps).length=n:=by simp[tw]
theorem ym{n:Nat}{ps:List (Int×Int)}{b:Int}(b0:0<=b)(b1:b<n):atI (tw n ps) b=some (((cE ps b).map U.int).getD .non):=by
 refine lS b0 ?_
 unfold tw
 rw[List.getElem?_map,List.getElem?_range (by omega)]
 have:((b.toNat:Nat):Int)=b:=by omega
 simp[this]
theorem AS{n:Nat}{ps:List (Int×Int)}{b v:Int}(b0:0<=b)(b1:b<n):(tw n ps).set b.toNat (.int v)=tw n (kE ps b v):=by
 refine List.ext_getElem? fun i=>?_
 by_cases hi:i<n
 ·rw[List.getElem?_set,km]
  unfold tw
  rw[List.getElem?_map,List.getElem?_map,List.getElem?_range hi]
  simp only[Option.map_some,sj]
  by_cases e:b.toNat=i
  ·have:(i:Int)=b:=by omega
   rw[if_pos e,if_pos (by omega),this,if_pos rfl];rfl
  ·rw[if_neg e,if_neg (by omega)]
 ·rw[List.getElem?_eq_none (by rw[List.length_set,km];omega),List.getElem?_eq_none (by rw[km];omega)]
theorem AU{n:Nat}:tw n []=List.replicate n .non:=by
 unfold tw
 refine List.ext_getElem? fun i=>?_
 by_cases hi:i<n
 ·rw[List.getElem?_map,List.getElem?_range hi,List.getElem?_replicate,if_pos hi];rfl
 ·rw[List.getElem?_eq_none (by simp;omega),List.getElem?_eq_none (by simp;omega)]
def dO(cD:Cl)(w:Int)(n:Nat)(m:M)(x:U):O:=.ins cD [some (.int w),some (.tup (m.hs.map U.int)),some (.tup (tw n m.ps)),some x]
structure Cf(cD:Cl)(w:Int)(n i ll:Nat)(m:M)(x:U)(S:Sto):Prop where
 ei:S[i]?=some (dO cD w n m x)
 el:S[ll]?=some (.dic (vO m.lk))
structure Kp(ls:List Nat)(S S':Sto):Prop where
 len:S'.length=S.length
 old:∀l,l∉ls->S'[l]?=S[l]?
theorem Kp.refl{ls:List Nat}{S:Sto}:Kp ls S S:=⟨rfl,fun _ _=>rfl⟩
theorem Kp.set{ls:List Nat}{S:Sto}{l:Nat}{o:O}(h:l∈ls):Kp ls S (S.set l o):=⟨by simp,fun k hk=>by rw[List.getElem?_set_ne (fun z=>hk (by subst z;exact h))]⟩
theorem Kp.trans{ls:List Nat}{S S' S'':Sto}(a:Kp ls S S')(b:Kp ls S' S''):Kp ls S S'':=⟨b.len.trans a.len,fun l hn=>by rw[b.old l hn,a.old l hn]⟩
section
variable{cD:Cl}{w:Int}{n i ll:Nat}{m:M}{x A B:U}{S:Sto}{ds:List U}{q:Int}
theorem Cf.ne(h:Cf cD w n i ll m x S):i≠ll:=fun z=>by have a:=h.ei;have b:=h.el;rw[z,b]at a;cases a
theorem Cf.setI(h:Cf cD w n i ll m x S)(hs:List Int)(ps:List (Int×Int))(y:U):Cf cD w n i ll ⟨hs,ps,m.lk⟩ y (S.set i (dO cD w n ⟨hs,ps,m.lk⟩ y)):=
 ⟨List.getElem?_set_self (bu h.ei),by rw[List.getElem?_set_ne h.ne];exact h.el⟩
theorem Cf.setL(h:Cf cD w n i ll m x S)(lk:List Int):Cf cD w n i ll ⟨m.hs,m.ps,lk⟩ x (S.set ll (.dic (vO lk))):=
 ⟨by rw[List.getElem?_set_ne (Ne.symm h.ne)];exact h.ei,List.getElem?_set_self (bu h.el)⟩
def iq(cD:Cl):Fn:=fnU 1 1 (dn cD)
theorem iY{u:U}(h:Cf cD w n i ll m (pt ds q A B) S)(q0:0<=q)(hu:ds[q.toNat]?=some u):iq cD [.ref i] S=some (u,S):=by
 unfold iq
 rw[lQ]
 have hl:=bu hu
 have c:¬(ds.length:Int)<=q:=by omega
 have ha:atI ds q=some u:=lS q0 hu
 have e:=h.ei
 unfold dO pt at e
 rwa[dn,e,c,ha]
theorem AY(h:Cf cD w n i ll m (pt ds q A B) S)(hq:(ds.length:Int)<=q):iq cD [.ref i] S=some (.non,S):=by
 unfold iq
 rw[lQ]
 have e:=h.ei
 unfold dO pt at e
 rwa[dn,e,hq]
def o8(cD:Cl):Fn:=fnU 3 3 (dU oZ cD)
theorem pT{k v:Int}(h:Cf cD w n i ll m x S)(h4:m.hs.length=4)(k0:0<=k)(k1:k<4):o8 cD [.ref i,.int k,.int v] S=some (.non,S.set i (dO cD w n ⟨m.hs.set k.toNat v,m.ps,m.lk⟩ x)):=by
 unfold o8
 rw[rH]
 have e:=h.ei
 unfold dO at e ⊢
 have hw:=wA (us:=m.hs.map U.int) (v:=.int v) (S:=S) k0 (by simp;omega) (by simp;omega)
 rw[map_set]at hw
 rwa[dU,e,hw]
def E1(cD:Cl):Fn:=fnU 3 2 (bJ cD)
theorem GV{k:Int}(h:Cf cD w n i ll m (pt ds q A B) S):E1 cD [.ref i,.int k] S=some (pt ds (q+1+k) A B,S):=by
 unfold E1
 rw[jN]
 have e:=h.ei
 unfold dO pt at e
 unfold pt
 rwa[bJ,e]
def E2(cD:Cl):Fn:=fnU 2 2 (bX rT (E1 cD) cD)
theorem vH{k:Int}{d:Nat}{y:U}(h:Cf cD w n i ll m (pt ds q A B) S)(ho:Onw d (pt ds (q+1+k) A B) y)(hd:d<100):E2 cD [.ref i,.int k] S=some (.non,S.set i (dO cD w n m y)):=by
 unfold E2
 rw[kT]
 have e:=h.ei
 have ep:=GV (k:=k) h
 have eo:=uB (S:=S) ho hd
 unfold dO at e ⊢
 rwa[bX,e,ep,eo]
def o9(cD:Cl):Fn:=fnU 2 2 (dW (o8 cD) (iq cD) (E2 cD) cD)
theorem Ek{g b v:Int}{d:Nat}{y:U}(h:Cf cD w n i ll m (pt ds q A B) S)(h4:m.hs.length=4)(q0:0<=q)(hu:ds[q.toNat]?=some (fb.u (.look g b)))(g0:0<=g)(g1:g<4)(ho:Onw d (pt ds (q+1+0) A B) y)(hd:d<100) :
  o9 cD [.ref i,.int v] S=some (.non,S.set i (dO cD w n ⟨m.hs.set g.toNat v,m.ps,m.lk⟩ y)):=by
 unfold o9
 rw[rJ]
 have e:=h.ei
 have ed:=iY h q0 hu
 have eh:=pT (v:=v) h h4 g0 g1
 have h2:=h.setI (m.hs.set g.toNat v) m.ps (pt ds q A B)
 have e2:=h2.ei
 have eg:=vH h2 ho hd
 unfold dO at e e2 eh eg ⊢
 rw[List.set_set]at eg
 unfold fb.u at ed
 rwa[dW,e,ed,eh,e2,eg]
def lT(cD:Cl):Fn:=fnU 2 1 (bK cD)
theorem yT(h:Cf cD w n i ll m (pt ds q A .non) S):lT cD [.ref i] S=some (.bl false,S):=by
 unfold lT
 rw[gD]
 have e:=h.ei
 unfold dO pt at e
 rwa[bK,e,Cq,uT]
def bk(n:Nat)(hs:List Int)(ps:List (Int×Int))(y:U):U:=.tup [.tup (hs.map U.int),.tup (tw n ps),y]
theorem yS{hs:List Int}{ps:List (Int×Int)}{y:U}(h:Cf cD w n i ll m (pt ds q A (bk n hs ps y)) S):lT cD [.ref i] S=some (.bl true,S.set i (dO cD w n ⟨hs,ps,m.lk⟩ y)):=by
 unfold lT
 rw[gD]
 have l:=bu h.ei
 have e:=h.ei
 unfold dO pt bk at e
 unfold dO
 have g:∀o:O,(S.set i o)[i]?=some o:=fun o=>List.getElem?_set_self l
 rwa[bK,e,Cq,xX,g,List.set_set]
def nR(cD:Cl):Fn:=fnU 5 3 (bY rT (E1 cD) cD)
theorem AR{a b:List U}{d d':Nat}{y z:U}(h:Cf cD w n i ll m (pt ds q A B) S)(ho:Onw d (pt b 0 (pt ds (q+1+0) A B) B) z)(hd:d<100)
  (ho':Onw d' (pt a 0 (pt ds (q+1+0) A B) (bk n m.hs m.ps z)) y) (hd':d'<100):nR cD [.ref i,.tup a,.tup b] S=some (.non,S.set i (dO cD w n m y)):=by
 unfold nR
 rw[kW]
 have e:=h.ei
 have ep:=GV (k:=0) h
 have e1:=uB (S:=S) ho hd
 have e2:=uB (S:=S) ho' hd'
 unfold dO at e ⊢
 unfold pt at ep e1 e2 e
 unfold bk at e2
 rwa[bY,e,ep,e1,e2]
end
def lv(m:M):fb->Int
 |.leap h k=>if m.hs.getD h.toNat 0=0 then k else 0
 |_=>0
section
variable{cD:Cl}{w n:Int}{first:List Int}{i ll:Nat}{m:M}{A B:U}{S:Sto}{ds:List U}{q:Int}{r3:Option U}{F:Nat}
def jo(cD:Cl):Fn:=fnU 2 1 (dq (iq cD) cD)
theorem qc{x:Str}{r:List U}(h:Cf cD w n.toNat i ll m (pt ds q A B) S)(q0:0<=q)(hu:ds[q.toNat]?=some (.tup (.str x::r)))(hx:decide (x=("look":Str))=false):jo cD [.ref i] S=some (.bl false,S):=by
 unfold jo
 rw[lR]
 have e:=h.ei
 have ed:=iY h q0 hu
 unfold dO at e
 rwa[dq,e,ed,hx]
theorem yW{g b:Int}(h:Cf cD w n.toNat i ll m (pt ds q A B) S)(q0:0<=q)(hu:ds[q.toNat]?=some (fb.u (.look g b)))(b0:0<=b)(b1:b<n):jo cD [.ref i] S=some (.bl (!(cE m.ps b).isSome),S):=by
 unfold jo
 rw[lR]
 have e:=h.ei
 have ed:=iY h q0 hu
 have ea:=ym (n:=n.toNat) (ps:=m.ps) b0 (by omega)
 have ei:pQ (((cE m.ps b).map U.int).getD .non)=!(cE m.ps b).isSome:=by cases cE m.ps b<;>rfl
 unfold dO at e
 unfold fb.u at ed
 rwa[dq,e,ed,ea,Cq,ei,SNX]
def y8(cD:Cl):Fn:=fnU 4 1 (aV oZ (iq cD) (lT cD) (nR cD) (o8 cD) (E2 cD) cD)
theorem yr(h:Cf cD w n.toNat i ll m (pt ds q A B) S)(q0:0<=q)(hu:ds[q.toNat]?=some (fb.u .wait)){r:U×Sto}(hb:lT cD [.ref i] S=some r):y8 cD [.ref i] S=some r:=by
 unfold y8
 rw[fN]
 have e:=h.ei
 have ed:=iY h q0 hu
 unfold dO at e
 unfold fb.u at ed
 obtain⟨u,S'⟩:=r
 rwa[aV,e,ed,hb,SNX]
theorem Iu{a b:List U}{d d':Nat}{y z:U}(h:Cf cD w n.toNat i ll m (pt ds q A B) S)(q0:0<=q)(hu:ds[q.toNat]?=some (.tup [.str "try",.tup a,.tup b]))(ho:Onw d (pt b 0 (pt ds (q+1+0) A B) B) z)(hd:d<100)
  (ho':Onw d' (pt a 0 (pt ds (q+1+0) A B) (bk n.toNat m.hs m.ps z)) y) (hd':d'<100):y8 cD [.ref i] S=some (.bl true,S.set i (dO cD w n.toNat m y)):=by
 unfold y8
 rw[fN]
 have e:=h.ei
 have ed:=iY h q0 hu
 have en:=AR h ho hd ho' hd'
 unfold dO at e en ⊢
 rwa[aV,e,ed,en,SNX]
theorem AV{d:fb}{dd:Nat}{y:U}(nw:d≠.wait)(h:Cf cD w n.toNat i ll m (pt ds q A B) S)(wf:Wf n m)(w0:2<=w)(n1:n<=6)(od:d.ok n w)(q0:0<=q)(hu:ds[q.toNat]?=some d.u)(ha:∀g b,d=.look g b->(cE m.ps b).isSome=true)(ho:Onw dd (pt ds (q+1+lv m d) A B) y)(hd:dd<100) :
  y8 cD [.ref i] S=some (.bl true,S.set i (dO cD w n.toNat (step w first m d) y)):=by
 unfold y8
 rw[fN]
 have e:=h.ei
 have ed:=iY h q0 hu
 have h4:=wf.h4
 cases d with
 |wait=>exact absurd rfl nw
 |look g b=>
  obtain⟨g0,g1,b0,b1⟩:=od
  obtain⟨v,hv⟩:=Option.isSome_iff_exists.mp (ha g b rfl)
  have ea:=ym (n:=n.toNat) (ps:=m.ps) b0 (by omega)
  rw[hv,Option.map_some,Option.getD_some]at ea
  have eh:=pT (v:=v) h h4 g0 g1
  have h2:=h.setI (m.hs.set g.toNat v) m.ps (pt ds q A B)
  have e2:=h2.ei
  have eg:=vH h2 ho hd
  unfold dO at e e2 eh eg ⊢
  rw[List.set_set]at eg
  unfold fb.u at ed
  simp only[step,qT,hv,Option.getD_some,Option.isSome_some,if_true]
  simp only[lv]at eg
  rwa[aV,e,ed,ea,eh,e2,eg,SNX]
 |put b g=>
  obtain⟨g0,g1,b0,b1⟩:=od
  have hw:=wA (us:=tw n.toNat m.ps) (v:=.int (m.hs.getD g.toNat 0)) (S:=S) b0 (by rw[km];omega) (by rw[km];omega)
  rw[AS b0 (by omega)]at hw
  have h2:=h.setI m.hs (kE m.ps b (m.hs.getD g.toNat 0)) (pt ds q A B)
  have e2:=h2.ei
  have eg:=vH h2 ho hd
  unfold dO at e e2 eg ⊢
  rw[List.set_set]at eg
  unfold fb.u at ed
  simp only[lv]at eg
  simp only[step]
  rwa[aV,e,ed,at4 h4 g0 g1,hw,e2,eg,SNX]
 |set g v=>
  obtain⟨g0,g1,b0,b1⟩:=od
  have eh:=pT (v:=v) h h4 g0 g1
  have h2:=h.setI (m.hs.set g.toNat v) m.ps (pt ds q A B)
  have e2:=h2.ei
  have eg:=vH h2 ho hd
  unfold dO at e e2 eh eg ⊢
  rw[List.set_set]at eg
  unfold fb.u at ed
  simp only[lv]at eg
  simp only[step]
  rwa[aV,e,ed,eh,e2,eg,SNX]
 |plus g k=>
  obtain⟨g0,g1,b0,b1⟩:=od
  have eh:=pT (v:=(m.hs.getD g.toNat 0+m.hs.getD k.toNat 0) % w) h h4 g0 g1
  have h2:=h.setI (m.hs.set g.toNat ((m.hs.getD g.toNat 0+m.hs.getD k.toNat 0) % w)) m.ps (pt ds q A B)
  have e2:=h2.ei
  have eg:=vH h2 ho hd
  unfold dO at e e2 eh eg ⊢
  rw[List.set_set]at eg
  unfold fb.u at ed
  simp only[lv]at eg
  simp only[step]
  rwa[aV,e,ed,at4 h4 g0 g1,at4 h4 b0 b1,qp (show 0<w by omega),eh,e2,eg,SNX]
 |leap g k=>
  obtain⟨g0,g1,b0,b1⟩:=od
  have eg:=vH h ho hd
  unfold dO at e eg ⊢
  unfold fb.u at ed
  simp only[step]
  simp only[lv]at eg
  by_cases z:m.hs.getD g.toNat 0=0
  ·rw[if_pos z]at eg
   rwa[aV,e,ed,at4 h4 g0 g1,z,eg,SNX]
  ·rw[if_neg z]at eg
   rwa[aV,e,ed,at4 h4 g0 g1,z,eg,SNX]
abbrev bG(cD:Cl)(F:Nat):CS:=bB (iq cD) (jo cD) (o9 cD) (y8 cD) cD F
theorem F1(d:fb):∃x r,d.u=.tup (.str x::r):=by cases d<;>exact⟨_,_,rfl⟩
theorem uO{d:fb}{dd:Nat}{y:U}(nw:d≠.wait)(h:Cf cD w n.toNat i ll m (pt ds q A B) S)(wf:Wf n m)(lf:first.length=n.toNat)(w0:2<=w)(n0:0<=n)(n1:n<=6)(od:d.ok n w)(q0:0<=q)(hu:ds[q.toNat]?=some d.u)(ho:Onw dd (pt ds (q+1+lv m d) A B) y)(hd:dd<100) :
  ∃r3' S',bG cD F [some (.ref i),some (.tup (first.map U.int)),some (.ref ll),r3] S=some (.nx,[some (.ref i),some (.tup (first.map U.int)),some (.ref ll),r3'],S')/\Cf cD w n.toNat i ll (step w first m d) y S'/\Kp [i,ll] S S':=by
 have e:=h.ei
 have go:(∀g b,d=.look g b->(cE m.ps b).isSome=true)->jo cD [.ref i] S=some (.bl false,S)->(step w first m d).lk=m.lk->∃r3' S',bG cD F [some (.ref i),some (.tup (first.map U.int)),some (.ref ll),r3] S=some (.nx,[some (.ref i),some (.tup (first.map U.int)),some (.ref ll),r3'],S')/\Cf cD w n.toNat i ll (step w first m d) y S'/\Kp [i,ll] S S':=by
  intro ha hk hl
  have ed:=AV (first:=first) nw h wf w0 n1 od q0 hu ha ho hd
  refine⟨r3,_,?_,⟨List.getElem?_set_self (bu h.ei),by rw[List.getElem?_set_ne h.ne,hl];exact h.el⟩,.set (by simp)⟩
  unfold dO at e
  rwa[bG,bB,e,hk,ed]
 have other:∀x r,d.u=.tup (.str x::r)->decide (x=("look":Str))=false->jo cD [.ref i] S=some (.bl false,S):=fun x r e1 e2=>qc h q0 (by rw[hu,e1]) e2
 cases d with
 |wait=>exact absurd rfl nw
 |put b g=>exact go (by intro _ _ z;cases z) (other _ _ rfl (by decide +kernel)) rfl
 |set b g=>exact go (by intro _ _ z;cases z) (other _ _ rfl (by decide +kernel)) rfl
 |plus b g=>exact go (by intro _ _ z;cases z) (other _ _ rfl (by decide +kernel)) rfl
 |leap b g=>exact go (by intro _ _ z;cases z) (other _ _ rfl (by decide +kernel)) rfl
 |look g b=>
  obtain⟨g0,g1,b0,b1⟩:=id od
  have hk:=yW h q0 hu b0 b1
  cases hv:cE m.ps b with
  |some v=>
   rw[hv]at hk
   exact go (by intro _ _ z;cases z;rw[hv];rfl) hk (by simp[step,hv])
  |none=>
   rw[hv]at hk
   have h2:=h.setL (tV m.lk b)
   have ed:=iY h q0 hu
   have eh:=Ek (v:=first.getD b.toNat 0) h2 wf.h4 q0 hu g0 g1 ho hd
   have h3:=h2.setI (m.hs.set g.toNat (first.getD b.toNat 0)) m.ps y
   have e2:=h2.ei
   have es:step w first m (.look g b)=⟨m.hs.set g.toNat (first.getD b.toNat 0),m.ps,tV m.lk b⟩:=by simp[step,qT,hv]
   rw[es]
   refine⟨some (.int b),_,?_,h3,(Kp.set (by simp)).trans (.set (by simp))⟩
   have fl:(vO m.lk).length<LIM:=by have:=(wf.few n0 n1).2;unfold vO LIM;simp;omega
   unfold dO at e e2
   unfold fb.u at ed
   simp only[Option.isSome_none]at hk
   rwa[bG,bB,e,hk,ed,h.el,zU,fl,if_true,e2,atF lf b0 b1,eh]
theorem BE{a b:List U}{d d':Nat}{y z:U}(h:Cf cD w n.toNat i ll m (pt ds q A B) S)(q0:0<=q)(hu:ds[q.toNat]?=some (.tup [.str "try",.tup a,.tup b]))(ho:Onw d (pt b 0 (pt ds (q+1+0) A B) B) z)(hd:d<100)
  (ho':Onw d' (pt a 0 (pt ds (q+1+0) A B) (bk n.toNat m.hs m.ps z)) y) (hd':d'<100) :
  ∃S',bG cD F [some (.ref i),some (.tup (first.map U.int)),some (.ref ll),r3] S=some (.nx,[some (.ref i),some (.tup (first.map U.int)),some (.ref ll),r3],S')/\Cf cD w n.toNat i ll m y S'/\Kp [i,ll] S S':=by
 have e:=h.ei
 have hk:=qc h q0 hu (by decide +kernel)
 have ed:=Iu h q0 hu ho hd ho' hd'
 refine⟨_,?_,h.setI m.hs m.ps y,.set (by simp)⟩
 unfold dO at e
 rwa[bG,bB,e,hk,ed]
theorem xT{hs:List Int}{ps:List (Int×Int)}{y:U}(h:Cf cD w n.toNat i ll m (pt ds q A (bk n.toNat hs ps y)) S)(q0:0<=q)(hu:ds[q.toNat]?=some (fb.u .wait)) :
  ∃S',bG cD F [some (.ref i),some (.tup (first.map U.int)),some (.ref ll),r3] S=some (.nx,[some (.ref i),some (.tup (first.map U.int)),some (.ref ll),r3],S')/\Cf cD w n.toNat i ll ⟨hs,ps,m.lk⟩ y S'/\Kp [i,ll] S S':=by
 have e:=h.ei
 have hk:=qc h q0 hu (by decide +kernel)
 have ed:=yr h q0 hu (yS h)
 refine⟨_,?_,h.setI hs ps y,.set (by simp)⟩
 unfold dO at e
 rwa[bG,bB,e,hk,ed]
theorem Ee(h:Cf cD w n.toNat i ll m (pt ds q A .non) S)(q0:0<=q)(hu:ds[q.toNat]?=some (fb.u .wait)) :
  bG cD F [some (.ref i),some (.tup (first.map U.int)),some (.ref ll),r3] S=some (.rt (.bl false),[some (.ref i),some (.tup (first.map U.int)),some (.ref ll),r3],S):=by
 have e:=h.ei
 have hk:=qc h q0 hu (by decide +kernel)
 have ed:=yr h q0 hu (yT h)
 unfold dO at e
 rwa[bG,bB,e,hk,ed]
end
def OnA(dep:Nat)(ds:List U)(A B:U):Prop:=∀p:Int,(ds.length:Int)<=p->∃y,Onw dep (pt ds p A B) y
theorem OnA.any{dep:Nat}{ds:List U}{A B:U}(h:OnA dep ds A B)(p:Int):∃y,Onw dep (pt ds p A B) y:=by
 by_cases c:p<ds.length
 ·exact⟨_,.stop c⟩
 ·exact h p (by omega)
theorem OnA.top{dep:Nat}{ds:List U}{B:U}:OnA dep ds .non B:=fun p _=>⟨_,.top⟩
theorem OnA.up{dep:Nat}{ds ds':List U}{q':Int}{A' B B' y:U}(h:Onw dep (pt ds' q' A' B') y):OnA (dep+1) ds (pt ds' q' A' B') B:=fun p hp=>⟨y,.up hp h⟩
theorem Onw.here{dep:Nat}{ds:List U}{q:Int}{A B x:U}(h:Onw dep (pt ds q A B) x)(c:q<ds.length):x=pt ds q A B:=by
 generalize e:pt ds q A B=z at h
 cases h with
 |stop _=>rfl
 |top=>rfl
 |up h' _=>
  unfold pt at e
  injection e with e
  injection e with e1 e2
  injection e1 with e1
  injection e2 with e2 _
  injection e2 with e2
  subst e1 e2
  omega
theorem Onw.upInv{dep:Nat}{ds ds':List U}{q q':Int}{A' B B' x:U}(h:Onw (dep+1) (pt ds q (pt ds' q' A' B') B) x)(c:(ds.length:Int)<=q):Onw dep (pt ds' q' A' B') x:=by
 generalize e:pt ds q (pt ds' q' A' B') B=z at h
 generalize e0:dep+1=k at h
 cases h with
 |stop h'=>
  unfold pt at e
  injection e with e
  injection e with e1 e2
  injection e1 with e1
  injection e2 with e2 _
  injection e2 with e2
  subst e1 e2
  omega
 |top=>
  unfold pt at e
  injection e with e
  injection e with _ e
  injection e with _ e
  injection e with e _
  cases e
 |up h' h2=>
  unfold pt at e
  injection e with e
  injection e with _ e
  injection e with _ e
  injection e with e _
  injection e with e
  injection e with e1 e
  injection e1 with e1
  injection e with e2 e
  injection e2 with e2
  injection e with e3 e
  injection e with e4 _
  subst e1 e2 e3 e4
  cases e0
  exact h2
section
variable{cD:Cl}{w n:Int}{first:List Int}{i ll F:Nat}
abbrev tG(cD:Cl):CT:=aH (cOp oj (fi cD (iq cD) (ah 0) aA) (cC .non))
theorem px{m:M}{ds us:List U}{q:Int}{A B:U}{S:Sto}{ρ:Rho}(h:Cf cD w n.toNat i ll m (pt ds q A B) S)(q0:0<=q)(hu:ds[q.toNat]?=some (.tup us)):tG cD (some (.ref i)::ρ) S=some (true,S):=by
 have e:=h.ei
 have ed:=iY h q0 hu
 unfold dO at e
 rwa[tG,e,ed,vh,xX]
theorem zG{m:M}{ds:List U}{q:Int}{A B:U}{S:Sto}{ρ:Rho}(h:Cf cD w n.toNat i ll m (pt ds q A B) S)(hq:(ds.length:Int)<=q):tG cD (some (.ref i)::ρ) S=some (false,S):=by
 have e:=h.ei
 have ed:=AY h hq
 unfold dO at e
 rwa[tG,e,ed,vh,uT]
abbrev Ir(first:List Int)(i ll:Nat)(r3:Option U):Rho:=[some (.ref i),some (.tup (first.map U.int)),some (.ref ll),r3]
def Rch(cD:Cl)(F:Nat)(first:List Int)(i ll s:Nat)(S S':Sto):Prop:=∀r3,∃r3',∀fuel,cH (tG cD) (bG cD F) (fuel+s) (Ir first i ll r3) S=cH (tG cD) (bG cD F) fuel (Ir first i ll r3') S'
theorem Rch.refl{S:Sto}:Rch cD F first i ll 0 S S:=fun r3=>⟨r3,fun _=>rfl⟩
theorem Rch.trans{s t:Nat}{S S' S'':Sto}(a:Rch cD F first i ll s S S')(b:Rch cD F first i ll t S' S''):Rch cD F first i ll (s+t) S S'':=fun r3=>by
 obtain⟨r4,ha⟩:=a r3
 obtain⟨r5,hb⟩:=b r4
 exact⟨r5,fun fuel=>by rw[show fuel+(s+t)=fuel+t+s by omega,ha,hb]⟩
theorem Rch.one{S S':Sto}(ht:∀r3,tG cD (Ir first i ll r3) S=some (true,S))(h:∀r3,∃r3',bG cD F (Ir first i ll r3) S=some (.nx,Ir first i ll r3',S')):Rch cD F first i ll 1 S S':=fun r3=>by
 obtain⟨r4,h⟩:=h r3
 exact⟨r4,fun fuel=>mh (ht r3) h⟩
def AtW(B x:U):Prop:=∃ds q A,x=pt ds q A B/\0<=q/\ds[q.toNat]?=some (fb.u .wait)
def LX(dep:Nat)(ds:List U)(A B x:U):Bool->Prop
 |true=>∃p:Int,(ds.length:Int)<=p/\Onw dep (pt ds p A B) x
 |false=>AtW B x
def HrT{α:Type}(cD:Cl)(F:Nat)(w n:Int)(first:List Int)(i ll D c:Nat)(rn:List α->M->Bool×M)(f:α->U)(k:List α->Prop):Prop:=
 ∀(a:List α) (m:M) (dep:Nat) (A B x:U) (S:Sto),k a->Wf n m->dep<=D->OnA dep (a.map f) A B->Onw dep (pt (a.map f) 0 A B) x->Cf cD w n.toNat i ll m x S->
  Wf n (rn a m).2/\∃s x' S',s<=c/\Cf cD w n.toNat i ll (rn a m).2 x' S'/\Kp [i,ll] S S'/\Rch cD F first i ll s S S'/\LX dep (a.map f) A B x' (rn a m).1
variable{α:Type}{rn:List α->M->Bool×M}{f:α->U}{k:List α->Prop}{D c:Nat}
theorem zO(Hr:HrT cD F w n first i ll (D+1) c rn f k)(hD:D<=90)(lf:first.length=n.toNat)(w0:2<=w)(n0:0<=n)(n1:n<=6)(all:List (DF α))(oa:∀d∈all,d.ok n w k){dep:Nat}{A B:U}(hdep:dep<=D)(hA:OnA dep (all.map (DF.u f)) A B) :
  ∀(N place:Nat) (m:M) (x:U) (S:Sto),all.length-place<=N->Wf n m->Onw dep (pt (all.map (DF.u f)) place A B) x->Cf cD w n.toNat i ll m x S->
  Wf n (eE w first rn (all.drop place) 0 m).2/\∃s x' S',s<=N*(2*c+2)/\Cf cD w n.toNat i ll (eE w first rn (all.drop place) 0 m).2 x' S'/\Kp [i,ll] S S'/\Rch cD F first i ll s S S'/\LX dep (all.map (DF.u f)) A B x' (eE w first rn (all.drop place) 0 m).1:=by
 intro N
 induction N with
 |zero=>
  intro place m x S hN wf ho h
  rw[List.drop_eq_nil_of_le (by omega),eE]
  exact⟨wf,0,x,S,Nat.zero_le _,h,.refl,.refl,(place:Int),by simp;omega,ho⟩
 |succ N ih=>
  intro place m x S hN wf ho h
  by_cases cl:place<all.length
  case neg=>
   rw[List.drop_eq_nil_of_le (by omega),eE]
   exact⟨wf,0,x,S,Nat.zero_le _,h,.refl,.refl,(place:Int),by simp;omega,ho⟩
  have hd:=List.getElem?_eq_getElem cl
  have od:=oa _ (List.getElem_mem cl)
  generalize all[place]=d at hd od
  rw[ko hd]
  have hx:=ho.here (by simp;omega)
  subst hx
  have hu:(all.map (DF.u f))[(place:Int).toNat]?=some (d.u f):=by rw[Int.toNat_natCast,List.getElem?_map,hd];rfl
  have q0:(0:Int)<=place:=by omega
  have c2:(N+1)*(2*c+2)=N*(2*c+2)+(2*c+2):=by rw[Nat.succ_mul]
  have goon:∀(p:Nat) (m':M) (x':U) (s1:Nat) (S1:Sto),place<p->Wf n m'->Onw dep (pt (all.map (DF.u f)) p A B) x'->Cf cD w n.toNat i ll m' x' S1->Kp [i,ll] S S1->s1<=2*c+2->Rch cD F first i ll s1 S S1->
    Wf n (eE w first rn (all.drop p) 0 m').2/\∃s x' S',s<=(N+1)*(2*c+2)/\Cf cD w n.toNat i ll (eE w first rn (all.drop p) 0 m').2 x' S'/\Kp [i,ll] S S'/\Rch cD F first i ll s S S'/\LX dep (all.map (DF.u f)) A B x' (eE w first rn (all.drop p) 0 m').1:=by
   intro p m' x' s1 S1 hp wf1 ho1 h1 k1 l1 r1
   obtain⟨wf2,s2,x2,S2,l2,h2,k2,r2,e2⟩:=ih p m' x' S1 (by omega) wf1 ho1 h1
   exact⟨wf2,s1+s2,x2,S2,by omega,h2,k1.trans k2,r1.trans r2,e2⟩
  cases d with
  |pl d=>
   by_cases dw:d=.wait
   ·subst dw
    rw[eE]
    exact⟨wf,0,_,S,Nat.zero_le _,h,.refl,.refl,_,_,_,rfl,q0,hu⟩
   ·have lv0:0<=lv m d:=by
     cases d<;>simp only[lv]<;>try exact Int.le_refl _
     obtain⟨_,_,b,_⟩:=od
     split<;>omega
    obtain⟨y,hy⟩:=hA.any ((place:Int)+1+lv m d)
    have e1:(place:Int)+1+lv m d=((place+1+(lv m d).toNat:Nat):Int):=by omega
    have one:∃S1,Rch cD F first i ll 1 S S1/\Cf cD w n.toNat i ll (step w first m d) y S1/\Kp [i,ll] S S1:=by
     obtain⟨_,S1,e0,h1,k1⟩:=uO (F:=F) (r3:=none) dw h wf lf w0 n0 n1 od q0 hu hy (by omega)
     refine⟨S1,.one (fun r3=>?_) (fun r3=>?_),h1,k1⟩
     ·obtain⟨x0,r0,ex⟩:=F1 d
      exact px h q0 (by rw[hu];simp only[DF.u];rw[ex])
     ·obtain⟨r4,S2,e2,h2,k2⟩:=uO (F:=F) (r3:=r3) dw h wf lf w0 n0 n1 od q0 hu hy (by omega)
      have es:S2=S1:=by
       refine List.ext_getElem? fun l=>?_
       by_cases z1:l=i
       ·subst z1;rw[h2.ei,h1.ei]
       ·by_cases z2:l=ll
        ·subst z2;rw[h2.el,h1.el]
        ·rw[k2.old l (by simp[z1,z2]),k1.old l (by simp[z1,z2])]
      exact⟨r4,by rw[e2,es]⟩
    obtain⟨S1,r1,h1,k1⟩:=one
    have er:eE w first rn (.pl d::all.drop (place+1)) 0 m=eE w first rn (all.drop (place+1+(lv m d).toNat)) 0 (step w first m d):=by
     cases d with
     |wait=>exact absurd rfl dw
     |leap g j=>
      rw[eE,qI,List.drop_drop]
      simp only[lv,step]
      split<;>simp
     |look g b=>rw[eE];simp[lv]
     |put g b=>rw[eE];simp[lv]
     |set g b=>rw[eE];simp[lv]
     |plus g b=>rw[eE];simp[lv]
    rw[er]
    rw[e1]at hy
    exact goon _ _ y 1 S1 (by omega) (wN wf od) hy h1 k1 (by omega) r1
  |tr a b=>
   obtain⟨ka,kb⟩:=od
   simp only[DF.u]at hu
   obtain⟨yb,hyb⟩:=hA.any ((place:Int)+1+0)
   have onb:∀(ds:List U) (B':U),OnA (dep+1) ds (pt (all.map (DF.u f)) ((place:Int)+1+0) A B) B':=fun ds B'=>.up hyb
   obtain⟨z,hz⟩:=(onb (b.map f) B).any 0
   obtain⟨y,hy⟩:=(onb (a.map f) (bk n.toNat m.hs m.ps z)).any 0
   have e1:(place:Int)+1+0=((place+1:Nat):Int):=by omega
   have one:∃S1,Rch cD F first i ll 1 S S1/\Cf cD w n.toNat i ll m y S1/\Kp [i,ll] S S1:=by
    obtain⟨S1,e0,h1,k1⟩:=BE (F:=F) (first:=first) (r3:=none) h q0 hu hz (by omega) hy (by omega)
    refine⟨S1,.one (fun r3=>px h q0 hu) (fun r3=>?_),h1,k1⟩
    obtain⟨S2,e2,h2,k2⟩:=BE (F:=F) (first:=first) (r3:=r3) h q0 hu hz (by omega) hy (by omega)
    have es:S2=S1:=by
     refine List.ext_getElem? fun l=>?_
     by_cases z1:l=i
     ·subst z1;rw[h2.ei,h1.ei]
     ·by_cases z2:l=ll
      ·subst z2;rw[h2.el,h1.el]
      ·rw[k2.old l (by simp[z1,z2]),k1.old l (by simp[z1,z2])]
    exact⟨r3,by rw[e2,es]⟩
   obtain⟨S1,r1,h1,k1⟩:=one
   obtain⟨wf2,s2,x2,S2,l2,h2,k2,r2,e2⟩:=Hr a m (dep+1) _ _ y S1 ka wf (by omega) (onb _ _) hy h1
   rw[eE]
   unfold Kj
   cases er:rn a m with
   |mk t m'=>
    rw[er]at wf2 h2 e2
    cases t with
    |true=>
     obtain⟨p,hp,hp2⟩:=e2
     have:=hp2.upInv hp
     rw[e1]at this
     exact goon (place+1) m' x2 (1+s2) S2 (by omega) wf2 this h2 (k1.trans k2) (by omega) (r1.trans r2)
    |false=>
     obtain⟨ds',q',A',rfl,q0',hw⟩:=e2
     have back:∃S3,Rch cD F first i ll 1 S2 S3/\Cf cD w n.toNat i ll ⟨m.hs,m.ps,m'.lk⟩ z S3/\Kp [i,ll] S2 S3:=by
      obtain⟨S3,e0,h3,k3⟩:=xT (F:=F) (first:=first) (r3:=none) h2 q0' hw
      refine⟨S3,.one (fun r3=>px h2 q0' hw) (fun r3=>?_),h3,k3⟩
      obtain⟨S4,e4,h4,k4⟩:=xT (F:=F) (first:=first) (r3:=r3) h2 q0' hw
      have es:S4=S3:=by
       refine List.ext_getElem? fun l=>?_
       by_cases z1:l=i
       ·subst z1;rw[h4.ei,h3.ei]
       ·by_cases z2:l=ll
        ·subst z2;rw[h4.el,h3.el]
        ·rw[k4.old l (by simp[z1,z2]),k3.old l (by simp[z1,z2])]
      exact⟨r3,by rw[e4,es]⟩
     obtain⟨S3,r3,h3,k3⟩:=back
     obtain⟨wf4,s4,x4,S4,l4,h4,k4,r4,e4⟩:=Hr b ⟨m.hs,m.ps,m'.lk⟩ (dep+1) _ _ z S3 kb ⟨wf.h4,wf.pk,wf.pb,wf2.lk,wf2.lb⟩ (by omega) (onb _ _) hz h3
     have kk:=((k1.trans k2).trans k3).trans k4
     have rr:=((r1.trans r2).trans r3).trans r4
     simp only
     cases er2:rn b ⟨m.hs,m.ps,m'.lk⟩with
     |mk t2 m2=>
      rw[er2]at wf4 h4 e4
      cases t2 with
      |true=>
       obtain⟨p,hp,hp2⟩:=e4
       have:=hp2.upInv hp
       rw[e1]at this
       exact goon (place+1) m2 x4 (1+s2+1+s4) S4 (by omega) wf4 this h4 kk (by omega) rr
      |false=>exact⟨wf4,1+s2+1+s4,x4,S4,by omega,h4,kk,rr,e4⟩
theorem Bo(Hr:HrT cD F w n first i ll (D+1) c rn f k)(hD:D<=90)(lf:first.length=n.toNat)(w0:2<=w)(n0:0<=n)(n1:n<=6):HrT cD F w n first i ll D (30*(2*c+2)) (fun ds m=>eE w first rn ds 0 m) (DF.u f) (fun ds=>ds.length<=30/\∀d∈ds,DF.ok n w k d):=by
 intro a m dep A B x S ka wf hdep hA ho h
 exact zO Hr hD lf w0 n0 n1 a ka.2 hdep hA 30 0 m x S (by omega) wf ho h
def cJ:Nat->Nat
 |0=>60
 |j+1=>30*(2*cJ j+2)
theorem wW(lf:first.length=n.toNat)(w0:2<=w)(n0:0<=n)(n1:n<=6):∀(j D:Nat),D+j<=90->HrT cD F w n first i ll D (cJ j) (nZ w first j) (Dl.u j) (OkL n w j)
 |0,D,hD=>Bo (c:=0) (k:=fun _=>False) (fun a m dep A B x S ka=>ka.elim) (by omega) lf w0 n0 n1
 |j+1,D,hD=>Bo (k:=OkL n w j) (wW lf w0 n0 n1 j (D+1) (by omega)) (by omega) lf w0 n0 n1
def pe(cD:Cl):Fn:=fnU 4 3 (cF (iq cD) (jo cD) (o9 cD) (y8 cD) cD 20000000)
theorem Eo{j:Nat}(hj:j<=3)(lf:first.length=n.toNat)(w0:2<=w)(n0:0<=n)(n1:n<=6)(ds:List (Dl j))(od:OkL n w j ds){m:M}{S:Sto}(wf:Wf n m)(h:Cf cD w n.toNat i ll m (pt (ds.map (Dl.u j)) 0 .non .non) S) :
  Wf n (nZ w first j ds m).2/\∃x' S',pe cD [.ref i,.tup (first.map U.int),.ref ll] S=some (.bl (nZ w first j ds m).1,S')/\Cf cD w n.toNat i ll (nZ w first j ds m).2 x' S'/\Kp [i,ll] S S':=by
 obtain⟨wf1,s,x',S',ls,h1,k1,r1,e1⟩:=wW (cD:=cD) (F:=20000000) (i:=i) (ll:=ll) lf w0 n0 n1 j 0 (by omega) ds m 0 .non .non _ S od wf (Nat.le_refl _) .top .top h
 refine⟨wf1,x',S',?_,h1,k1⟩
 have hc:cJ j<=13179660:=by
  have:j=0\/j=1\/j=2\/j=3:=by omega
  rcases this with rfl|rfl|rfl|rfl<;>decide
 obtain⟨r3,r1⟩:=r1 none
 have r2:=r1 (20000000-s)
 rw[show 20000000-s+s=20000000 by omega]at r2
 unfold pe
 rw[om]
 obtain⟨fl,hfl⟩:∃fl,20000000-s=fl+1:=⟨20000000-s-1,by omega⟩
 rw[hfl]at r2
 cases er:(nZ w first j ds m).1 with
 |true=>
  rw[er]at e1
  obtain⟨p,hp,ho⟩:=e1
  have hx:x'=pt (ds.map (Dl.u j)) p .non .non:=by
   generalize ez:pt (ds.map (Dl.u j)) p .non .non=z at ho
   cases ho with
   |stop _=>rfl
   |top=>rfl
  subst hx
  have ht:=zG (ρ:=[some (.tup (first.map U.int)),some (.ref ll),r3]) h1 hp
  have r4:=r2.trans (iD ht)
  rwa[cF,r4]
 |false=>
  rw[er]at e1
  obtain⟨ds',q',A',rfl,q0',hw⟩:=e1
  have ht:=px (ρ:=[some (.tup (first.map U.int)),some (.ref ll),r3]) h1 q0' hw
  have r4:=r2.trans (zw ht (Ee h1 q0' hw))
  rwa[cF,r4]
end
def prs:List (Option Int)->Nat->List (Int×Int)
 |[],_=>[]
 |none::r,k=>prs r (k+1)
 |some v::r,k=>((k:Int),v)::prs r (k+1)
def oq(n:Nat)(ps:List (Int×Int)):List (Option Int):=(List.range n).map fun b:Nat=>cE ps (b:Int)
def ou:Option Int->U
 |none=>.non
 |some v=>.int v
theorem Es{n:Nat}{ps:List (Int×Int)}:tw n ps=(oq n ps).map ou:=by
 unfold tw oq
 rw[List.map_map]
 refine List.map_congr_left fun b _=>?_
 simp only[Function.comp]
 cases cE ps (b:Int)<;>rfl
def pU(p:Int×Int):U:=.tup [.int p.1,.int p.2]
theorem oV{ok:Sto->Prop}{g:CG}{ct:CT}{ce:CE}{l:Nat}{ρ:Rho}{S:Sto}(h:ok S):b8 ok g ct ce l [] ρ S=some S:=by rw[b8,if_pos h]
theorem rL{ok:Sto->Prop}{g:CG}{ct:CT}{ce:CE}{l:Nat}{ρ ρ0:Rho}{S S0 S1:Sto}{u:U}{us:List U}(h:ok S)(hg:g u ρ S=some (ρ0,S0))(ht:ct ρ0 S0=some (false,S1)):b8 ok g ct ce l (u::us) ρ S=b8 ok g ct ce l us ρ0 S1:=by
 rw[b8,if_pos h,hg,Option.bind_some,ht,Option.bind_some,if_neg Bool.false_ne_true]
theorem oU{ok:Sto->Prop}{g:CG}{ct:CT}{ce:CE}{l:Nat}{ρ ρ0:Rho}{S S0 S1 S2:Sto}{u x:U}{us ys:List U}(h:ok S)(hg:g u ρ S=some (ρ0,S0))(ht:ct ρ0 S0=some (true,S1))(he:ce ρ0 S1=some (x,S2))(hl:S2[l]?=some (.lst ys))(hn:ys.length<LIM) :
  b8 ok g ct ce l (u::us) ρ S=b8 ok g ct ce l us ρ0 (S2.set l (.lst (ys++[x]))):=by
 rw[b8,if_pos h,hg,Option.bind_some,ht,Option.bind_some,if_pos rfl,he,Option.bind_some]
 simp only[hl,hn,if_true]
theorem sG(S:Sto):∀(qs:List (Option Int)) (k:Nat) (ys:List (Int×Int)) (r0 r1:Option U),ys.length+qs.length<=1000->
  b8 (fun _=>True) (gTp [0,1]) (aH (cOp oj (ah 1) (cC .non))) (cL (ae (ah 0) (ae (ah 1) aA))) S.length (((qs.map ou).zipIdx k).map fun p=>.tup [.int p.2,p.1]) [r0,r1] (S++[.lst (ys.map pU)])
   = some (S++[.lst ((ys++prs qs k).map pU)])
 |[],k,ys,r0,r1,hl=>by
  simp only[List.map_nil,List.zipIdx_nil,prs,List.append_nil]
  exact oV trivial
 |none::qs,k,ys,r0,r1,hl=>by
  have ih:=sG S qs (k+1) ys (some (.int k)) (some .non) (by simp at hl ⊢;omega)
  simp only[List.map_cons,List.zipIdx_cons,prs,ou]
  refine(rL (ρ0:=[some (.int k),some .non]) (S0:=S++[.lst (ys.map pU)]) (S1:=S++[.lst (ys.map pU)]) trivial rfl ?_).trans ih
  rwa[vh,uT]
 |some v::qs,k,ys,r0,r1,hl=>by
  have ih:=sG S qs (k+1) (ys++[((k:Int),v)]) (some (.int k)) (some (.int v)) (by simp at hl ⊢;omega)
  simp only[List.map_cons,List.zipIdx_cons,prs,ou]
  refine(oU (ρ0:=[some (.int k),some (.int v)]) (S0:=S++[.lst (ys.map pU)]) (S1:=S++[.lst (ys.map pU)]) (S2:=S++[.lst (ys.map pU)]) (x:=pU (k,v)) (ys:=ys.map pU) trivial rfl ?_ ?_ ?_ (by simp at hl ⊢;unfold LIM;omega)).trans ?_
  ·rwa[vh,Ie]
  ·rwa[pU]
  ·rwa[]
  ·have e5:(S++[O.lst (ys.map pU)]).set S.length (.lst (ys.map pU++[pU ((k:Int),v)]))=S++[.lst ((ys++[((k:Int),v)]).map pU)]:=by
    rwa[List.map_append,List.map_cons,List.map_nil]
   rw[e5,ih]
   simp
section
variable{cD:Cl}{w n:Int}{first:List Int}{i ll:Nat}{m:M}{x:U}{S:Sto}
def EZ(cD:Cl):Fn:=fnU 1 1 (bW cD)
def ppL(n:Int)(m:M):List (Int×Int):=prs (oq n.toNat m.ps) 0
theorem KC(h:Cf cD w n.toNat i ll m x S)(n1:n<=6):EZ cD [.ref i] S=some (.ref S.length,S++[.lst ((ppL n m).map pU)]):=by
 unfold EZ
 rw[kS]
 have e:=h.ei
 unfold dO at e
 have hb:=sG S (oq n.toNat m.ps) 0 [] none none (by simp[oq];omega)
 simp only[List.nil_append,List.map_nil]at hb
 rw[Es]at e
 unfold ppL
 rwa[bW,kY,pS,Bm,vN,ur,e,hb,List.replicate]
theorem sF:∀(qs:List (Option Int)) (k:Nat) (p:Int×Int),p∈prs qs k->∃j:Nat,p.1=((k+j:Nat):Int)/\qs[j]?=some (some p.2)
 |[],k,p,h=>by simp[prs]at h
 |none::r,k,p,h=>by
  obtain⟨j,e1,e2⟩:=sF r (k+1) p (by simpa [prs] using h)
  exact⟨j+1,by rw[e1];omega,by simpa using e2⟩
 |some v::r,k,p,h=>by
  simp only[prs,List.mem_cons]at h
  rcases h with rfl|h
  ·exact⟨0,by simp,by simp⟩
  ·obtain⟨j,e1,e2⟩:=sF r (k+1) p h
   exact⟨j+1,by rw[e1];omega,by simpa using e2⟩
theorem G8{ps:List (Int×Int)}{j:Nat}{v:Int}:(oq n.toNat ps)[j]?=some (some v)↔(j<n.toNat/\cE ps (j:Int)=some v):=by
 unfold oq
 rw[List.getElem?_map]
 by_cases c:j<n.toNat
 ·rw[List.getElem?_range c];simp[c]
 ·rw[List.getElem?_eq_none (by simpa using c)];simp[c]
theorem DB{p:Int×Int}(h:p∈ppL n m):0<=p.1/\p.1<n/\cE m.ps p.1=some p.2:=by
 obtain⟨j,e1,e2⟩:=sF _ _ _ h
 obtain⟨e3,e4⟩:=G8.mp e2
 rw[Nat.zero_add]at e1
 rw[e1]
 exact⟨by omega,by omega,e4⟩
theorem pW:∀(qs:List (Option Int)) (k:Nat) (R:List Int) (j:Nat),((prs qs k).foldl (fun r p=>r.set p.1.toNat p.2) R)[j]?=(R[j]?).map fun x=>if k<=j then((qs[j-k]?).join).getD x else x
 |[],k,R,j=>by simp[prs]
 |none::r,k,R,j=>by
  rw[prs,pW r (k+1) R j]
  congr 1
  funext x
  by_cases h1:k+1<=j
  ·rw[if_pos h1,if_pos (by omega),show j-k=j-(k+1)+1 by omega,List.getElem?_cons_succ]
  ·rw[if_neg h1]
   by_cases h2:k<=j
   ·rw[if_pos h2,show j-k=0 by omega];simp
   ·rw[if_neg h2]
 |some v::r,k,R,j=>by
  rw[prs,List.foldl_cons,pW r (k+1) _ j]
  simp only[Int.toNat_natCast]
  by_cases h1:k+1<=j
  ·rw[List.getElem?_set_ne (by omega)]
   congr 1
   funext x
   rw[if_pos h1,if_pos (by omega),show j-k=j-(k+1)+1 by omega,List.getElem?_cons_succ]
  ·by_cases h2:k=j
   ·subst h2
    rw[List.getElem?_set_self']
    cases R[k]? with
    |none=>rfl
    |some z=>simp;intro h;omega
   ·rw[List.getElem?_set_ne h2]
    congr 1
    funext x
    rw[if_neg h1,if_neg (by omega)]
theorem AL(lf:first.length=n.toNat):(ppL n m).foldl (fun r p=>r.set p.1.toNat p.2) first=beh first m.ps 0:=by
 refine List.ext_getElem? fun j=>?_
 unfold ppL
 rw[pW]
 by_cases c:j<first.length
 ·rw[nK _ _ _ _ c,List.getElem?_eq_getElem c]
  have e:(oq n.toNat m.ps)[j]?=some (cE m.ps (j:Int)):=by unfold oq;rw[List.getElem?_map,List.getElem?_range (by omega)];rfl
  simp only[Option.map_some,Nat.zero_le,if_true,Nat.sub_zero,e,Option.join_some,Nat.zero_add,List.getD_eq_getElem?_getD,List.getElem?_eq_getElem c,Option.getD_some]
 ·rw[List.getElem?_eq_none (l:=first) (by omega),List.getElem?_eq_none (l:=beh first m.ps 0) (by rw[jQ];omega)];rfl
end
section
variable{cD:Cl}{w n:Int}{first:List Int}
def o7(cD:Cl):Fn:=fnU 3 3 (dS rT cD)
theorem Ei{S0:Sto}{ds:List U}(n0:1<=n)(n1:n<=6):o7 cD [.ref S0.length,.tup [.int n,.int w],.tup ds] (S0++[.ins cD [none,none,none,none]])=some (.non,S0++[dO cD w n.toNat m0 (pt ds 0 .non .non)]):=by
 unfold o7
 rw[rG]
 have eo:∀S:Sto,rT [.tup [.tup ds,.int 0,.non,.non]] S=some (.tup [.tup ds,.int 0,.non,.non],S):=fun S=>uB (d:=0) (.top:Onw 0 (pt ds 0 .non .non) _) (by decide)
 have em:∀S:Sto,vJ (.tup [.non]) (.int n) S=some (.tup (tw n.toNat []),S):=fun S=>by
  unfold vJ
  simp only
  rw[if_pos ⟨by simp,n0,by simp;omega⟩,AU]
  congr 3
  induction n.toNat with
  |zero=>rfl
  |succ k ih=>rw[List.replicate_succ,List.replicate_succ,List.flatten_cons,ih];rfl
 unfold dO pt m0
 rwa[dS,em,eo]
theorem wO{S:Sto}{ll:Nat}{lk:List Int}(h:S[ll]?=some (.dic (vO lk)))(hl:lk.length<64):gY [.ref ll] S=some (.ref S.length,S++[.lst ((dr lk).map U.int)]):=by
 simp only[gY,h,qW,Option.bind_some,hl,if_true]
theorem Hq{S0:Sto}{X:Sto}{S':Sto}{a b:Nat}(k:Kp [a,b] (S0++X) S')(ha:S0.length<=a)(hb:S0.length<=b):∃Y,S'=S0++Y/\Y.length=X.length:=by
 obtain⟨Y,rfl⟩:=ye (ls:=[]) (S0:=S0) (S':=S') (by have:=k.len;simp at this;omega) fun l hl=>by
  rw[k.old l (by simp;omega),List.getElem?_append_left hl]
 exact⟨Y,rfl,by have:=k.len;simp at this;omega⟩
theorem wf0:Wf n m0:=⟨rfl,by simp[m0],by simp[m0],by simp[m0],by simp[m0]⟩
def hU(cD:Cl):Fn:=fnU 8 3 (jP (pe cD) (EZ cD) (o7 cD) cD)
theorem yY{x3 x4:Option U}{lr lp:Nat}{us:List U}{xs:U}{ys:U}{f1 f2 f3:Fn}:∀(ps:List (Int×Int)) (R:List Int) (S:Sto) (r6 r7:Option U),S[lr]?=some (.lst (R.map U.int))->S[lp]?=some (.lst us)->lr≠lp->(∀p∈ps,0<=p.1/\p.1<R.length)->
  ∃r6' r7',cP (fun S=>S[lp]?=some (.lst us)) (gTp [6,7]) (kx f1 f2 f3 cD) (ps.map pU) [some xs,some ys,some (.tup (first.map U.int)),x3,x4,some (.ref lr),r6,r7] S
   = some (.nx,[some xs,some ys,some (.tup (first.map U.int)),x3,x4,some (.ref lr),r6',r7'],S.set lr (.lst ((ps.foldl (fun r p=>r.set p.1.toNat p.2) R).map U.int)))
 |[],R,S,r6,r7,h1,h2,ne,_=>⟨r6,r7,by rw[List.map_nil,d9 h2,List.foldl_nil,pD h1]⟩
 |p::ps,R,S,r6,r7,h1,h2,ne,hb=>by
  obtain⟨b0,b1⟩:=hb p List.mem_cons_self
  have h1':(S.set lr (.lst ((R.set p.1.toNat p.2).map U.int)))[lr]?=some (.lst ((R.set p.1.toNat p.2).map U.int)):=List.getElem?_set_self (bu h1)
  obtain⟨r6',r7',ih⟩:=yY (x3:=x3) (x4:=x4) (lr:=lr) (lp:=lp) (us:=us) (xs:=xs) (ys:=ys) (f1:=f1) (f2:=f2) (f3:=f3) ps (R.set p.1.toNat p.2) (S.set lr (.lst ((R.set p.1.toNat p.2).map U.int))) (some (.int p.1)) (some (.int p.2)) h1' (by rw[List.getElem?_set_ne ne];exact h2) ne fun q hq=>by rw[List.length_set];exact hb q (List.mem_cons_of_mem _ hq)
  rw[List.set_set]at ih
  refine⟨r6',r7',?_⟩
  rw[List.map_cons,List.foldl_cons]
  refine(bF h2 (ρ0:=[some xs,some ys,some (.tup (first.map U.int)),x3,x4,some (.ref lr),some (.int p.1),some (.int p.2)]) (S0:=S) (by rwa[pU]) ?_).trans ih
  have ix:ixN (R.map U.int).length p.1=some p.1.toNat:=by unfold ixN;rw[if_pos b0,if_pos (by simp;omega)]
  rwa[kx,h1,ix,map_set]
theorem A9{j:Nat}(hj:j<=3)(S0:Sto)(hns:cD.ns.length=4)(ds:List (Dl j))(od:OkL n w j ds)(lf:first.length=n.toNat)(n0:1<=n)(n1:n<=6)(w0:2<=w) :
  Wf n (nZ w first j ds m0).2/\∃G l,hU cD [.tup [.int n,.int w],.tup (ds.map (Dl.u j)),.tup (first.map U.int)] S0=some (told (nZ w first j ds m0) first l,S0++G)/\((nZ w first j ds m0).1=false->(S0++G)[l]?=some (.lst ((dr (nZ w first j ds m0).2.lk).map U.int))/\S0.length<=l):=by
 have c0:Cf cD w n.toNat S0.length (S0.length+1) m0 (pt (ds.map (Dl.u j)) 0 .non .non) (S0++[dO cD w n.toNat m0 (pt (ds.map (Dl.u j)) 0 .non .non),.dic []]):=⟨by rw[ga0];rfl,by rw[ga];rfl⟩
 obtain⟨wf,x',S',eg,c1,k1⟩:=Eo hj lf w0 (by omega) n1 ds od wf0 c0
 refine⟨wf,?_⟩
 have hi:=Ei (cD:=cD) (w:=w) (S0:=S0) (ds:=ds.map (Dl.u j)) n0 n1
 obtain⟨Y,rfl,lY⟩:=Hq k1 (Nat.le_refl _) (by omega)
 have lk6:=(wf.few (by omega) n1).2
 unfold hU
 rw[Eu]
 have es:=wO c1.el (by omega)
 unfold told
 cases er:nZ w first j ds m0 with
 |mk t m=>
  rw[er]at eg c1 es lk6 wf
  cases t with
  |false=>
   refine⟨Y++[.lst ((dr m.lk).map U.int)],S0.length+Y.length,?_,fun _=>⟨?_,by omega⟩⟩
   ·simp only[List.length_append,List.append_assoc]at es
    rwa[jP,Bg,hns,List.replicate,hi,eg,es,List.length_append]
   ·rw[<-List.append_assoc,<-List.length_append,ga0];rfl
  |true=>
   have c2:Cf cD w n.toNat S0.length (S0.length+1) m x' (S0++(Y++[.lst (first.map U.int)])):=by rw[<-List.append_assoc];exact⟨aJ c1.ei,aJ c1.el⟩
   have ep:=KC c2 n1
   have ei:=c2.ei
   have c3:Cf cD w n.toNat S0.length (S0.length+1) m x' (S0++(Y++[.lst ((beh first m.ps 0).map U.int),.lst ((ppL n m).map pU)])):=by rw[<-List.append_assoc];exact⟨aJ c1.ei,aJ c1.el⟩
   have e3:=c3.ei
   obtain⟨r6,r7,el⟩:=yY (first:=first) (cD:=cD) (f1:=pe cD) (f2:=EZ cD) (f3:=o7 cD) (x3:=some (.ref S0.length)) (x4:=some (.ref (S0.length+1))) (xs:=.tup [.int n,.int w]) (ys:=.tup (ds.map (Dl.u j))) (lr:=S0.length+Y.length) (lp:=S0.length+(Y.length+1)) (us:=(ppL n m).map pU) (ppL n m) first (S0++(Y++[.lst (first.map U.int),.lst ((ppL n m).map pU)])) none none
    (by rw[<-List.append_assoc,<-List.length_append,ga0];rfl) (by rw[<-List.append_assoc,<-Nat.add_assoc,<-List.length_append,ga];rfl) (by omega) (fun p hp=>by obtain⟨a,b,_⟩:=DB hp;omega)
   rw[AL lf]at el
   have gset:(S0++(Y++[O.lst (first.map U.int),.lst ((ppL n m).map pU)])).set (S0.length+Y.length) (.lst ((beh first m.ps 0).map U.int))=S0++(Y++[.lst ((beh first m.ps 0).map U.int),.lst ((ppL n m).map pU)]):=by
    rw[gs,gs0];rfl
   rw[gset]at el
   have gl:(S0++(Y++[O.lst (first.map U.int),.lst ((ppL n m).map pU)]))[S0.length+(Y.length+1)]?=some (.lst ((ppL n m).map pU)):=by rw[<-List.append_assoc,<-Nat.add_assoc,<-List.length_append,ga];rfl
   have gr:(S0++(Y++[O.lst ((beh first m.ps 0).map U.int),.lst ((ppL n m).map pU)]))[S0.length+Y.length]?=some (.lst ((beh first m.ps 0).map U.int)):=by rw[<-List.append_assoc,<-List.length_append,ga0];rfl
   refine⟨Y++[.lst ((beh first m.ps 0).map U.int),.lst ((ppL n m).map pU)],0,?_,fun z=>by cases z⟩
   simp only[List.length_append,List.append_assoc,List.length_cons,List.length_nil,Nat.zero_add,List.cons_append,List.nil_append]at ep
   unfold dO at ei e3
   rwa[jP,Bg,hns,List.replicate,hi,eg,ep,ei,jV,iTp,el,e3,gl,gr,List.length_append]
end
def Lay(k:Nat)(S:Sto)(u:U):Prop:=∃d,Dt S u d/\d.canLay0=true/\d.depth<=k
def jR(k:Nat)(S:Sto)(u v:U):Prop:=∃d,Dt S u d/\Dt S v d/\d.canLay0=true/\d.depth<=k
def i6(k:Nat)(S:Sto)(us vs:List U):Prop:=∃ds,DtL S us ds/\DtL S vs ds/\PyData.canLayAll0 ds=true/\PyData.depthAll ds<=k
section
variable{k j:Nat}{S:Sto}{u v:U}{us vs:List U}
theorem Lay.mono(h:Lay k S u)(l:k<=j):Lay j S u:=by obtain⟨d,a,b,c⟩:=h;exact⟨d,a,b,Nat.le_trans c l⟩
theorem Lay.int{i:Int}:Lay k S (.int i):=⟨_,.int i,rfl,Nat.zero_le _⟩
theorem Lay.str{x:Str}(h:PyData.strOk x=true):Lay k S (.str x):=⟨_,.str x,h,Nat.zero_le _⟩
theorem jR.refl(h:Lay k S u):jR k S u u:=by obtain⟨d,a,b,c⟩:=h;exact⟨d,a,a,b,c⟩
theorem i6.nil:i6 k S [] []:=⟨[],.nil,.nil,rfl,Nat.zero_le _⟩
theorem i6.cons(h:jR k S u v)(t:i6 k S us vs):i6 k S (u::us) (v::vs):=by
 obtain⟨d,a,b,c,e⟩:=h
 obtain⟨ds,a',b',c',e'⟩:=t
 refine⟨d::ds,.cons a a',.cons b b',by unfold PyData.canLayAll0;rw[c,c'];rfl,?_⟩
 unfold PyData.depthAll
 exact Nat.max_le.mpr ⟨e,e'⟩
theorem i6.all:∀{us:List U},(∀u∈us,Lay k S u)->i6 k S us us
 |[],_=>.nil
 |u::us,h=>.cons (.refl (h u List.mem_cons_self)) (i6.all fun x hx=>h x (List.mem_cons_of_mem _ hx))
theorem jR.tup(h:i6 k S us vs):jR (k+1) S (.tup us) (.tup vs):=by
 obtain⟨ds,a,b,c,e⟩:=h
 refine⟨.tuple ds,.tup a,.tup b,by unfold PyData.canLay0;exact c,?_⟩
 unfold PyData.depth
 omega
theorem jR.lst{l l':Nat}(h1:S[l]?=some (.lst us))(h2:S[l']?=some (.lst vs))(h:i6 k S us vs):jR (k+1) S (.ref l) (.ref l'):=by
 obtain⟨ds,a,b,c,e⟩:=h
 refine⟨.list ds,.lst h1 a,.lst h2 b,by unfold PyData.canLay0;exact c,?_⟩
 unfold PyData.depth
 omega
theorem Lay.tup(h:∀u∈us,Lay k S u):Lay (k+1) S (.tup us):=by
 obtain⟨d,a,_,b,c⟩:=jR.tup (i6.all h)
 exact⟨d,a,b,c⟩
theorem jR.eq(h:jR k S u v)(hk:k<=60):vL false u v S=some (.bl true,S):=by
 obtain⟨d,a,b,c,e⟩:=h
 exact tu false (.inl ⟨d,d,a,b,⟨c,Nat.le_trans e hk⟩,⟨c,Nat.le_trans e hk⟩,(SeqAt.eqv_refl d c).symm⟩)
theorem jR.ne(h:jR k S u v)(hk:k<=60):vL true u v S=some (.bl false,S):=by
 obtain⟨d,a,b,c,e⟩:=h
 exact tu true (.inl ⟨d,d,a,b,⟨c,Nat.le_trans e hk⟩,⟨c,Nat.le_trans e hk⟩,(SeqAt.eqv_refl d c).symm⟩)
theorem Lay.deed(d:fb):Lay 1 S d.u:=by
  cases d
  all_goals
    refine .tup fun u hu=>?_
    simp only[List.mem_cons,List.not_mem_nil,or_false]at hu
    first
    | (rcases hu with rfl | rfl | rfl
       · exact .str (by decide +kernel)
       · exact .int
       · exact .int)
    |(subst hu;exact .str (by decide +kernel))
theorem Lay.df{α:Type}{f:α->U}(hf:∀a,Lay k S (f a))(d:DF α):Lay (k+2) S (d.u f):=by
 cases d with
 |pl d=>exact(Lay.deed d).mono (by omega)
 |tr a b=>
  refine .tup fun u hu=>?_
  simp only[List.mem_cons,List.not_mem_nil,or_false]at hu
  rcases hu with rfl|rfl|rfl
  ·exact .str (by decide +kernel)
  ·refine .tup fun u hu=>?_
   obtain⟨i,_,rfl⟩:=List.mem_map.mp hu
   exact hf i
  ·refine .tup fun u hu=>?_
   obtain⟨i,_,rfl⟩:=List.mem_map.mp hu
   exact hf i
theorem Lay.dl:∀(j:Nat) (d:Dl j),Lay (2*j+2) S (Dl.u j d)
 |0,d=>Lay.df (k:=0) (fun a=>nomatch a) d
 |j+1,d=>(Lay.df (k:=2*j+2) (Lay.dl j) d).mono (by omega)
theorem Lay.dls{j:Nat}(ds:List (Dl j)):Lay (2*j+3) S (.tup (ds.map (Dl.u j))):=.tup fun u hu=>by
 obtain⟨i,_,rfl⟩:=List.mem_map.mp hu
 exact Lay.dl j i
end
def dlU{j:Nat}(d:List (Dl j)):U:=.tup (d.map (Dl.u j))
section
variable{cD:Cl}{n w:Int}{j:Nat}{Ds:List (List (Dl j))}{ld lo:Nat}{x2:Option U}{us:List U}
theorem LI{o:Int}(o0:0<=o)(o1:o<Ds.length):atI (Ds.map dlU) o=some (dlU (Ds.getD o.toNat [])):=by
 have hk:o.toNat<Ds.length:=by omega
 refine lS o0 ?_
 rw[List.getElem?_map,List.getElem?_eq_getElem hk,List.getD_eq_getElem?_getD,List.getElem?_eq_getElem hk];rfl
theorem LH{o:Int}(hd:∀d∈Ds,OkL n w j d)(o0:0<=o)(o1:o<Ds.length):OkL n w j (Ds.getD o.toNat []):=by
 have hk:o.toNat<Ds.length:=by omega
 rw[List.getD_eq_getElem?_getD,List.getElem?_eq_getElem hk]
 exact hd _ (List.getElem_mem hk)
end
def dR(ak:Fn):CS:=
 (bg (bO 2 (cCB ak (ae (ah 0) (ae (cOp fIx (ah 1) (cC (.int 0))) aA))))
  (bg (bO 3 (cCB ak (ae (ah 0) (ae (cOp fIx (ah 1) (cC (.int 0))) aA))))
  (bg (bO 4 (cCB ak (ae (ah 0) (ae (cC (.int 5)) aA))))
  (bg (bO 5 (cL (ae (cL (ae (cC (.str "look")) (ae (cC (.int 0)) (ae (ah 2) aA)))) (ae (cL (ae (cC (.str "leap")) (ae (cC (.int 0)) (ae (cC (.int 1)) aA)))) (ae (cL (ae (cC (.str "wait")) aA)) aA)))))
  (bg (dM (aH (cOp fEq (ah 4) (cC (.int 0)))) (bO 5 (cL (ae (cL (ae (cC (.str "look")) (ae (cC (.int 0)) (ae (ah 2) aA)))) (ae (cL (ae (cC (.str "set")) (ae (cC (.int 1)) (ae (cC (.int 1)) aA)))) (ae (cL (ae (cC (.str "leap")) (ae (cC (.int 0)) (ae (cC (.int 1)) aA)))) (ae (cL (ae (cC (.str "leap")) (ae (cC (.int 2)) (ae (cC (.int 1)) aA)))) (ae (cL (ae (cC (.str "wait")) aA)) aA))))))) cf)
  (bg (dM (aH (cOp fEq (ah 4) (cC (.int 1)))) (bg (bO 6 (cL (ae (cL (ae (cC (.str "look")) (ae (cC (.int 0)) (ae (ah 3) aA)))) (ae (cL (ae (cC (.str "leap")) (ae (cC (.int 0)) (ae (cC (.int 1)) aA)))) (ae (cL (ae (cC (.str "wait")) aA)) aA)))))
  (bO 5 (cL (ae (cL (ae (cC (.str "look")) (ae (cC (.int 0)) (ae (ah 2) aA)))) (ae (cL (ae (cC (.str "try")) (ae (cL (ae (cL (ae (cC (.str "leap")) (ae (cC (.int 0)) (ae (cC (.int 1)) aA)))) (ae (cL (ae (cC (.str "leap")) (ae (cC (.int 2)) (ae (cC (.int 1)) aA)))) (ae (cL (ae (cC (.str "wait")) aA)) aA)))) (ae (ah 6) aA)))) aA))))) cf)
  (bg (bO 7 (cOp fIx (gG (ae (ah 2) (ae (ah 3) aA))) (cCB ak (ae (ah 0) (ae (cC (.int 2)) aA)))))
  (eV (cOp eF (ah 5) (cL (ae (cL (ae (cC (.str "set")) (ae (cC (.int 3)) (ae (cCB ak (ae (ah 0) (ae (cC (.int 2)) aA))) aA)))) (ae (cL (ae (cC (.str "put")) (ae (ah 7) (ae (cC (.int 3)) aA)))) aA))))))))))))
theorem tJ{ak:Fn}{a0 a1:U}{S:Sto}:fnU 8 2 (dR ak) [a0,a1] S=((dR ak) [some a0,some a1,none,none,none,none,none,none] S).bind kFn:=jd rfl
def bj(ak aE cQ:Fn):CS:=
 (dM (me (aH (cOp fLt (ah 4) (cC (.int 5)))) (aH (cOp fEq (cCB ak (ae (ah 0) (ae (cC (.int 4)) aA))) (cC (.int 0))))) (d3 (cBM bU (ah 3) (ae (cCB aE (ae (ah 0) (ae (ah 1) (ae (cC (.int 10)) (ae (cC (.int 2)) aA))))) aA))) (d3 (cBM bU (ah 3) (ae (cCB cQ (ae (ah 0) (ae (ah 1) aA))) aA))))
def bQ(ak aE cQ:Fn):CS:=
 (bg (bO 3 (gG aA))
  (bg (bO 4 (cOp eF (cC (.int 1)) (cCB ak (ae (ah 0) (ae (ah 2) aA)))))
  (bg (jV (fh (ae (ah 4) aA)) (gNm 5) (bj ak aE cQ))
  (eV (ah 3)))))
theorem jf{ak aE cQ:Fn}{a0 a1 a2:U}{S:Sto}:fnU 6 3 (bQ ak aE cQ) [a0,a1,a2] S=((bQ ak aE cQ) [some a0,some a1,some a2,none,none,none] S).bind kFn:=jd rfl
def cU(ak:Fn):CS:=
 (eV (cCB gC (ae (A7 (fh (ae (cOp fIx (ah 1) (cC (.int 0))) aA)) (gNm 0) (cCB ak (ae (ah 1) (ae (cOp fIx (gG (ae (cC (.int 2)) (ae (cOp fIx (ah 2) (cC (.int 1))) aA))) (cCB y6 (ae (cOp fEq (cCB ak (ae (ah 1) (ae (cC (.int 4)) aA))) (cC (.int 0))) aA))) aA))) 1 [0,1]) aA)))
theorem ma{ak:Fn}{a0 a1:U}{S:Sto}:fnU 2 2 (cU ak) [a0,a1] S=((cU ak) [some a0,some a1] S).bind kFn:=jd rfl
def qb(a8:Fn):CS:=
 (dM (aH (cOp (fIn true) (ah 4) (cOp fIx (ah 2) (cC (.int 0))))) (bg (bO 6 (cCB a8 (ae (ah 0) (ae (ah 5) (ae (cOp fIx (ah 2) (cC (.int 1))) aA)))))
  (dM (aH (cOp fEq (cOp fIx (ah 6) (cC (.int 0))) (cC (.str "done")))) (d3 (cBM bU (ah 3) (ae (cL (ae (ah 4) (ae (cL (ae (cCB gC (ae (cCB gX (ae (cOp eF (cOp fIx (ah 2) (cC (.int 0))) (cL (ae (ah 4) aA))) aA)) aA)) (ae (cOp fIx (ah 6) (cC (.int 1))) aA))) aA))) aA))) cf)) cf)
def tP(a8:Fn):CS:=
 (bg (bO 3 (gG aA))
  (bg (jV (pS (ah 1)) (gTp [4,5]) (qb a8))
  (eV (ah 3))))
def g9(aG:Fn)(fuel:Nat):CS:=
 (dM (aH (cOp AN (ah 7) (ah 4))) (bg (kX (ah 4) (ah 7) (cOp eF (cOp vY (ah 4) (cOp fIx (ah 3) (ah 5))) (gG (ae (ah 6) aA))))
  (d3 (cBM bU (ah 3) (ae (ah 7) aA)))) cf)
def g6(aG:Fn)(fuel:Nat):CS:=
 (bg (jV (iTp (cCB aG (ae (ah 0) (ae (ah 2) (ae (cOp fIx (ah 3) (ah 5)) aA))))) (gTp [6,7]) (g9 aG fuel))
  (bO 5 (cOp eF (ah 5) (cC (.int 1)))))
def fP(aG:Fn)(fuel:Nat):CS:=
 (bg (bO 3 (gG (ae (cL (ae (cL aA) (ae (ah 1) aA))) aA)))
  (bg (bO 4 (jm (cOp fIx (ah 3) (cC (.int 0))) (gG aA)))
  (bg (bO 5 (cC (.int 0)))
  (bg (cH (aH (cOp fLt (ah 5) (cCB fU (ae (ah 3) aA)))) (g6 aG fuel) fuel)
  (eV (ah 4))))))
theorem tH{aG:Fn}{fuel:Nat}{a0 a1 a2:U}{S:Sto}:fnU 8 3 (fP aG fuel) [a0,a1,a2] S=((fP aG fuel) [some a0,some a1,some a2,none,none,none,none,none] S).bind kFn:=jd rfl
def cB(gW:Fn):CS:=
 (dM (aH (cOp (fIn true) (ah 4) (cOp fIx (ah 2) (cC (.int 0))))) (bg (bO 6 (cCB gW (ae (ah 0) (ae (ah 5) (ae (cOp fIx (ah 2) (cC (.int 1))) aA)))))
  (dM (aH (cOp fEq (cOp fIx (ah 6) (cC (.int 0))) (cC (.str "done")))) (d3 (cBM bU (ah 3) (ae (cL (ae (ah 4) (ae (cL (ae (cCB gC (ae (cCB gX (ae (cOp eF (cOp fIx (ah 2) (cC (.int 0))) (cL (ae (ah 4) aA))) aA)) aA)) (ae (cOp fIx (ah 6) (cC (.int 1))) aA))) aA))) aA))) cf)) cf)
def eO(gW:Fn):CS:=
 (bg (bO 3 (gG aA))
  (bg (jV (pS (ah 1)) (gTp [4,5]) (cB gW))
  (eV (ah 3))))
theorem tx{gW:Fn}{a0 a1 a2:U}{S:Sto}:fnU 7 3 (eO gW) [a0,a1,a2] S=((eO gW) [some a0,some a1,some a2,none,none,none,none] S).bind kFn:=jd rfl
def gm(aX:Fn)(fuel:Nat):CS:=
 (dM (aH (cOp AN (ah 7) (ah 3))) (bg (kX (ah 3) (ah 7) (cOp eF (cOp vY (ah 3) (ah 5)) (gG (ae (ah 6) aA))))
  (d3 (cBM bU (ah 4) (ae (ah 7) aA)))) cf)
def eC(aX:Fn)(fuel:Nat):CS:=
 (bg (bO 5 (cBM nC (ah 4) (ae (cC (.int 0)) aA)))
  (jV (iTp (cCB aX (ae (ah 0) (ae (ah 2) (ae (ah 5) aA))))) (gTp [6,7]) (gm aX fuel)))
def cT(aX:Fn)(fuel:Nat):CS:=
 (bg (bO 3 (jm (cL (ae (cL aA) (ae (ah 1) aA))) (gG aA)))
  (bg (bO 4 (gG (ae (cL (ae (cL aA) (ae (ah 1) aA))) aA)))
  (bg (cH (aH (cOp fGt (cCB fU (ae (ah 4) aA)) (cC (.int 0)))) (eC aX fuel) fuel)
  (eV (ah 3)))))
theorem l8{aX:Fn}{fuel:Nat}{a0 a1 a2:U}{S:Sto}:fnU 8 3 (cT aX fuel) [a0,a1,a2] S=((cT aX fuel) [some a0,some a1,some a2,none,none,none,none,none] S).bind kFn:=jd rfl
def eA(dQ aG:Fn):CS:=
 (bg (bO 3 (cCB dQ (ae (ah 0) (ae (ah 1) (ae (ah 2) aA)))))
  (bg (bO 4 (kr (ah 3) (gNm 0) (me (aH (cOp fLt (cCB fU (ae (cOp fIx (ah 0) (cC (.int 0))) aA)) (cCB fU (ae (ah 1) aA)))) (aH (cOp (vL false) (cCB aG (ae (ah 2) (ae (ah 1) (ae (ah 0) aA)))) (gG aA)))) (cCB fU (ae (cOp fIx (ah 0) (cC (.int 0))) aA)) 1 [2,0]))
  (eV (cCB yj (ae (cOp eF (ah 4) (gG (ae (cC (.int 7)) aA))) aA)))))
theorem p8{dQ aG:Fn}{a0 a1 a2:U}{S:Sto}:fnU 5 3 (eA dQ aG) [a0,a1,a2] S=((eA dQ aG) [some a0,some a1,some a2,none,none] S).bind kFn:=jd rfl
def dA(a8 aG:Fn):CS:=
 (bg (dM (cOr (yN (aH (EG .int (ah 5)))) (cOr (aH (EG .bool (ah 5))) (yN (aH (rN fLe fLt (cC (.int 0)) (ah 5) (cCB fU (ae (ah 1) aA))))))) (eV (cC (.bl false))) cf)
  (bg (bO 6 (cCB a8 (ae (ah 0) (ae (cOp fIx (ah 1) (ah 5)) (ae (ah 2) aA)))))
  (bg (dM (cOr (aH (cOp (fIn false) (ah 5) (ah 4))) (aH (cOp fNe (cOp fIx (ah 6) (cC (.int 0))) (cC (.str "done"))))) (eV (cC (.bl false))) cf)
  (bg (bO 2 (cOp fIx (ah 6) (cC (.int 1))))
  (bO 4 (cOp eF (ah 4) (cL (ae (ah 5) aA))))))))
def dj(a8 aG:Fn):CS:=
 (bg (bO 4 (cL aA))
  (bg (jV (iTp (ah 3)) (gNm 5) (dA a8 aG))
  (eV (tU (cOp fLt (cCB fU (ae (ah 4) aA)) (cCB fU (ae (ah 1) aA))) (cOp (vL false) (cCB aG (ae (ah 0) (ae (ah 1) (ae (cL (ae (ah 4) (ae (ah 2) aA))) aA)))) (gG aA))))))
theorem nD{a8 aG:Fn}{a0 a1 a2 a3:U}{S:Sto}:fnU 7 4 (dj a8 aG) [a0,a1,a2,a3] S=((dj a8 aG) [some a0,some a1,some a2,some a3,none,none,none] S).bind kFn:=jd rfl
def fA(aX:Fn):CS:=
 (eV (tU (cOp fLt (cCB fU (ae (cOp fIx (ah 2) (cC (.int 0))) aA)) (cCB fU (ae (ah 1) aA))) (cOp fEq (cCB fU (ae (cCB aX (ae (ah 0) (ae (ah 1) (ae (ah 2) aA)))) aA)) (cC (.int 0)))))
theorem oT{aX:Fn}{a0 a1 a2:U}{S:Sto}:fnU 3 3 (fA aX) [a0,a1,a2] S=((fA aX) [some a0,some a1,some a2] S).bind kFn:=jd rfl
def iZ(bq dv:Fn):CS:=
 (dM (aH (cCB dv (ae (ah 0) (ae (ah 2) (ae (ah 4) aA))))) (eV (cL (ae (cC (.str "stuck")) (ae (cOp vY (ah 3) (ah 4)) aA)))) cf)
def nI(bq dv:Fn):CS:=
 (bg (bO 3 (cCB bq (ae (ah 0) (ae (ah 1) (ae (ah 2) aA)))))
  (bg (yO (ah 3) (gNm 4) (iZ bq dv))
  (eV (cL (ae (cC (.str "free")) (ae (cCB oS (ae (ah 3) aA)) aA))))))
theorem Et{bq dv:Fn}{a0 a1 a2:U}{S:Sto}:fnU 5 3 (nI bq dv) [a0,a1,a2] S=((nI bq dv) [some a0,some a1,some a2,none,none] S).bind kFn:=jd rfl
end OQ
namespace OL
open PySem PySem.Spec PyProof.Rows L2 OG OP OQ
def top(i:Nat):Stmt:=PySem.Challenge.pw_oneglance_k55_stuck_or_free.main.body.getD i (.Pass ⟨0,0,0,0⟩)
abbrev iQ:Stmt:=fM (top 1) 0
abbrev iT:Stmt:=fM (top 1) 1
abbrev iU:Stmt:=fM (top 1) 2
abbrev iS:Stmt:=fM (top 1) 3
abbrev fF:Stmt:=fM (top 1) 4
abbrev iR:Stmt:=fM (top 1) 5
abbrev dP:Stmt:=fM (top 1) 6
abbrev eM:Stmt:=fM (top 1) 7
abbrev eN:Stmt:=fM (top 1) 8
abbrev eK:Stmt:=fM (top 1) 9
abbrev eJ:Stmt:=fM (top 1) 10
abbrev m9:Stmt:=top 2
abbrev nc:Stmt:=top 3
abbrev gp:Stmt:=top 4
abbrev sC:Stmt:=top 5
abbrev jw:Stmt:=top 7
abbrev fc:Stmt:=top 8
abbrev kG:Stmt:=top 9
abbrev sy:Stmt:=top 10
abbrev kH:Stmt:=top 12
abbrev jx:Stmt:=top 13
abbrev iM:Stmt:=top 14
abbrev jy:Stmt:=top 16
abbrev eI:Stmt:=top 17
abbrev gq:Stmt:=top 18
abbrev iO:Stmt:=top 19
abbrev iN:Stmt:=top 20
abbrev iP:Stmt:=top 21
abbrev jC:Stmt:=top 22
abbrev dC:Stmt:=top 23
abbrev fe:Stmt:=top 24
abbrev jB:Stmt:=top 25
abbrev jA:Stmt:=top 26
abbrev gO:Stmt:=top 27
abbrev fE:Stmt:=top 28
abbrev Df:Stmt:=top 29
section
variable{P:Program}{w:World}{K:PySem.W.Frag}{mg:Str->Option Value}{base:Heap}
theorem lI:aQ ["pen","many","at","cell","one","two","three","found"] ["pen","many"] (ay jx):=⟨rfl,rfl,rfl,by decide +kernel,rfl,by decide +kernel,by decide +kernel⟩
theorem sW{k:Nat}(d:Def K mg "_law_take" jx ["pen","many"])(B:Blt mg):c8 P w K mg base "_law_take" (k+1) ["pen","many"] (fnU 8 2 (eP )):=
 d.pure lI fun f cdv A outer s H E hr=>(by
  have hu:=de hr
  have nd:=lI.nd
  exact(aq (bL (aR fg lZ (bo hu (af (wpv 0)) (ar ag) (fun _ _=>rfl) (fun _ _=>rfl)) (ar ag) (aL _)) (aq (aI (i:=2) nd rfl (by first|exact Or.inl rfl|exact Or.inr rfl) (bo hu (af (wpv 0)) (ar ag) (fun _ _=>rfl) (fun _ _=>rfl)))
   (aq (d7 hu (af (wpv 0)) (ar ag) (dG dE dD (af (wpv 2)) (ar ag)))
   (aq (aI (i:=3) nd rfl (by first|exact Or.inl rfl|exact Or.inr rfl) (ar ag))
   (aq (bL (aR gR pL (af (wpv 2)) (bC fW fV rfl B.len PySem.boot_len (ab (bo hu (af (wpv 0)) (ar ag) (fun _ _=>rfl) (fun _ _=>rfl)) aw)) (aL _)) (ax (aI (i:=3) nd rfl (by first|exact Or.inl rfl|exact Or.inr rfl) (bo hu (bo hu (af (wpv 0)) (ar ag) (fun _ _=>rfl) (fun _ _=>rfl)) (af (wpv 2)) (fun _ _=>rfl) (fun _ _=>rfl)))) (ax (bL (aR qQ Bt (bC fW fV rfl B.len PySem.boot_len (ab (bo hu (af (wpv 0)) (ar ag) (fun _ _=>rfl) (fun _ _=>rfl)) aw)) (ar ag) (aL _)) (ax (aI (i:=3) nd rfl (by first|exact Or.inl rfl|exact Or.inr rfl) (dG dE dD (dG j9 pK (bo hu (bo hu (af (wpv 0)) (ar ag) (fun _ _=>rfl) (fun _ _=>rfl)) (dG j9 pK (dG jk pJ (af (wpv 2)) (ar ag)) (bC fW fV rfl B.len PySem.boot_len (ab (bo hu (af (wpv 0)) (ar ag) (fun _ _=>rfl) (fun _ _=>rfl)) aw))) (fun _ _=>rfl) (fun _ _=>rfl)) (ar ag)) (dG jk pJ (ar ag) (af (wpv 2)))))) bz)))
   (aq (aI (i:=4) nd rfl (by first|exact Or.inl rfl|exact Or.inr rfl) (dG j9 pK (dG jk pJ (dG dE dD (dG dE dD (dG j9 pK (af (wpv 3)) (ar ag)) (dG jk pJ (ar ag) (af (wpv 2)))) (ar ag)) (ar ag)) (ar ag)))
   (aq (aI (i:=5) nd rfl (by first|exact Or.inl rfl|exact Or.inr rfl) (dG j9 pK (dG dE dD (dG dE dD (dG jk pJ (af (wpv 4)) (af (wpv 4))) (dG jk pJ (ar ag) (af (wpv 2)))) (ar ag)) (ar ag)))
   (aq (aI (i:=6) nd rfl (by first|exact Or.inl rfl|exact Or.inr rfl) (dG j9 pK (dG dE dD (dG jk pJ (af (wpv 5)) (af (wpv 5))) (af (wpv 4))) (ar ag)))
   (aq (d7 hu (af (wpv 0)) (ar ag) (dG dE dD (dG pM DW (dG dE dD (dG jk pJ (af (wpv 5)) (ar ag)) (af (wpv 6))) (ar ag)) (ar ag)))
   (ax (bL (aR DY KP (af (wpv 3)) (dG Bu GX (ar ag) (ar ag)) (aL _)) (ax (d7 hu (af (wpv 0)) (ar ag) (dG pM DW (af (wpv 3)) (dG Bu GX (ar ag) (ar ag))))) bz)))))))))) bz)
   (aq (aI (i:=7) nd rfl (by first|exact Or.inl rfl|exact Or.inr rfl) (dG j9 pK (bo hu (af (wpv 0)) (ar ag) (fun _ _=>rfl) (fun _ _=>rfl)) (af (wpv 1))))
   (aq (d7 hu (af (wpv 0)) (ar ag) (dG pM DW (bo hu (af (wpv 0)) (ar ag) (fun _ _=>rfl) (fun _ _=>rfl)) (af (wpv 1))))
   (ax (aZ (af (wpv 7))))))))
theorem jY:aQ ["pen"] ["pen"] (ay iM):=⟨rfl,rfl,rfl,by decide +kernel,rfl,by decide +kernel,by decide +kernel⟩
theorem rg{k:Nat}{ak:Fn}(d:Def K mg "_law_world" iM ["pen"])(B:Blt mg)(aB:c8 P w K mg base "_law_take" (k) ["pen","many"] ak):c8 P w K mg base "_law_world" (k+1) ["pen"] (fnU 1 1 (e8 ak)):=
 d.pure jY fun f cdv A outer s H E hr=>(by
  have hu:=de hr
  have nd:=jY.nd
  exact(ax (aZ (bt (ab (dG dE dD (ar ag) (aP aB hr rfl (ab (af (wpv 0)) (ab (ar ag) aw)))) (ab (bo hu (gu (ab (ar ag) (ab (ar ag) (ab (ar ag) (ab (ar ag) (ab (dG dE dD (ar ag) (aP aB hr rfl (ab (af (wpv 0)) (ab (ar ag) aw)))) aw)))))) (aP aB hr rfl (ab (af (wpv 0)) (ab (ar ag) aw))) (fun _ _=>rfl) (fun _ _=>rfl)) aw))))))
theorem lJ:aQ ["dealing","many","deed"] ["dealing"] (ay jy):=⟨rfl,rfl,rfl,by decide +kernel,rfl,by decide +kernel,by decide +kernel⟩
theorem jJ{k:Nat}{aM:Fn}(d:Def K mg "_law_size" jy ["dealing"])(B:Blt mg)(fR:c8 P w K mg base "_law_size" (k) ["dealing"] aM):c8 P w K mg base "_law_size" (k+1) ["dealing"] (fnU 3 1 (fO aM)):=
 d.pure lJ fun f cdv A outer s H E hr=>(by
  have hu:=de hr
  have nd:=lJ.nd
  exact(aq (aI (i:=1) nd rfl (by first|exact Or.inl rfl|exact Or.inr rfl) (ar ag))
   (aq (ik PassesOwn.never rfl (oK (af (wpv 0))) (fJ (bh (i:=2) nd rfl (by first|exact Or.inl rfl|exact Or.inr rfl))) (aq (aI (i:=1) nd rfl (by first|exact Or.inl rfl|exact Or.inr rfl) (dG dE dD (af (wpv 1)) (ar ag)))
   (ax (bL (aR fg lZ (bo hu (af (wpv 2)) (ar ag) (fun _ _=>rfl) (fun _ _=>rfl)) (aY aC) (aL _)) (ax (aI (i:=1) nd rfl (by first|exact Or.inl rfl|exact Or.inr rfl) (dG dE dD (dG dE dD (af (wpv 1)) (aP fR hr rfl (ab (bo hu (af (wpv 2)) (ar ag) (fun _ _=>rfl) (fun _ _=>rfl)) aw))) (aP fR hr rfl (ab (bo hu (af (wpv 2)) (ar ag) (fun _ _=>rfl) (fun _ _=>rfl)) aw))))) bz))))
   (ax (aZ (af (wpv 1)))))))
theorem fY:aQ ["pen","world","way","hand"] ["pen","world","way","hand"] (ay eI):=⟨rfl,rfl,rfl,by decide +kernel,rfl,by decide +kernel,by decide +kernel⟩
theorem kM{k:Nat}{ak:Fn}(d:Def K mg "_law_plain_deed" eI ["pen","world","way","hand"])(B:Blt mg)(aB:c8 P w K mg base "_law_take" (k) ["pen","many"] ak):c8 P w K mg base "_law_plain_deed" (k+1) ["pen","world","way","hand"] (fnU 4 4 (bf ak)):=
 d.pure fY fun f cdv A outer s H E hr=>(by
  have hu:=de hr
  have nd:=fY.nd
  exact(aq (bL (aR gR pL (af (wpv 2)) (ar ag) (aL _)) (ax (aZ (bt (ab (aY aC) (ab (af (wpv 3)) (ab (aP aB hr rfl (ab (af (wpv 0)) (ab (bo hu (af (wpv 1)) (ar ag) (fun _ _=>rfl) (fun _ _=>rfl)) aw))) aw)))))) bz)
   (aq (bL (aR gR pL (af (wpv 2)) (ar ag) (aL _)) (ax (aZ (bt (ab (aY aC) (ab (aP aB hr rfl (ab (af (wpv 0)) (ab (bo hu (af (wpv 1)) (ar ag) (fun _ _=>rfl) (fun _ _=>rfl)) aw))) (ab (af (wpv 3)) aw)))))) bz)
   (aq (bL (aR gR pL (af (wpv 2)) (ar ag) (aL _)) (ax (aZ (bt (ab (aY aC) (ab (af (wpv 3)) (ab (aP aB hr rfl (ab (af (wpv 0)) (ab (bo hu (af (wpv 1)) (ar ag) (fun _ _=>rfl) (fun _ _=>rfl)) aw))) aw)))))) bz)
   (aq (bL (aR gR pL (af (wpv 2)) (ar ag) (aL _)) (ax (aZ (bt (ab (aY aC) (ab (af (wpv 3)) (ab (aP aB hr rfl (ab (af (wpv 0)) (ab (ar ag) aw))) aw)))))) bz)
   (ax (aZ (bt (ab (aY aC) (ab (af (wpv 3)) (ab (dG dE dD (ar ag) (aP aB hr rfl (ab (af (wpv 0)) (ab (bo hu (gu (ab (ar ag) (ab (ar ag) aw))) (aP aB hr rfl (ab (af (wpv 0)) (ab (ar ag) aw))) (fun _ _=>rfl) (fun _ _=>rfl)) aw)))) aw)))))))))))
theorem iL:aQ ["pen","world","room","tries","deeds","left","k","way","hand","one","other"] ["pen","world","room","tries"] (ay gq):=⟨rfl,rfl,rfl,by decide +kernel,rfl,by decide +kernel,by decide +kernel⟩
theorem eU{k:Nat}{ak aU aE aM:Fn}(d:Def K mg "_law_dealing" gq ["pen","world","room","tries"])(B:Blt mg)(aB:c8 P w K mg base "_law_take" (k) ["pen","many"] ak)(bZ:c8 P w K mg base "_law_plain_deed" (k) ["pen","world","way","hand"] aU)(eW:c8 P w K mg base "_law_dealing" (k) ["pen","world","room","tries"] aE)(fR:c8 P w K mg base "_law_size" (k) ["dealing"] aM):c8 P w K mg base "_law_dealing" (k+1) ["pen","world","room","tries"] (fnU 11 4 (dH ak aU aE aM)):=
 d.pure iL fun f cdv A outer s H E hr=>(by
  have hu:=de hr
  have nd:=iL.nd
  exact(aq (aI (i:=4) nd rfl (by first|exact Or.inl rfl|exact Or.inr rfl) (gu aw))
   (aq (aI (i:=5) nd rfl (by first|exact Or.inl rfl|exact Or.inr rfl) (af (wpv 2)))
   (aq (ik PassesOwn.never rfl (iV rfl B.range (ab (aP aB hr rfl (ab (af (wpv 0)) (ab (dG dE dD (bC (yJ rfl) KO rfl B.min OG.u9 (ab (ar ag) (ab (af (wpv 2)) aw))) (ar ag)) aw))) aw)) (fJ (bh (i:=6) nd rfl (by first|exact Or.inl rfl|exact Or.inr rfl))) (aq (aI (i:=7) nd rfl (by first|exact Or.inl rfl|exact Or.inr rfl) (aP aB hr rfl (ab (af (wpv 0)) (ab (ar ag) aw))))
   (aq (aI (i:=8) nd rfl (by first|exact Or.inl rfl|exact Or.inr rfl) (aP aB hr rfl (ab (af (wpv 0)) (ab (ar ag) aw))))
   (ax (bL (sE (kI (aR qQ Bt (af (wpv 5)) (ar ag) (aL _)) (kI (aR gR pL (bC fW fV rfl B.len PySem.boot_len (ab (af (wpv 4)) aw)) (ar ag) (aL _)) (jj (aR gR pL (af (wpv 7)) (ar ag) (aL _)))))) (aq (b7 (du (af (wpv 4)) (ab (aP bZ hr rfl (ab (af (wpv 0)) (ab (af (wpv 1)) (ab (af (wpv 7)) (ab (af (wpv 8)) aw))))) aw)))
   (ax (aI (i:=5) nd rfl (by first|exact Or.inl rfl|exact Or.inr rfl) (dG j8 pI (af (wpv 5)) (ar ag))))) (ax (bL (sE (kI (aR qQ Bt (af (wpv 5)) (ar ag) (aL _)) (kI (aR gR pL (bC fW fV rfl B.len PySem.boot_len (ab (af (wpv 4)) aw)) (ar ag) (aL _)) (jj (sE (Dp (aR fg lZ (af (wpv 7)) (ar ag) (aL _)) (w9 (aR fg lZ (af (wpv 3)) (ar ag) (aL _))))))))) (aq (bL (sE (kI (aR qQ Bt (af (wpv 5)) (ar ag) (aL _)) (kI (aR gR pL (bC fW fV rfl B.len PySem.boot_len (ab (af (wpv 4)) aw)) (ar ag) (aL _)) (jj (aR qQ Bt (aP aB hr rfl (ab (af (wpv 0)) (ab (ar ag) aw))) (ar ag) (aL _)))))) (aq (b7 (du (af (wpv 4)) (ab (bt (ab (aY aC) (ab (af (wpv 8)) (ab (ar ag) aw)))) aw)))
   (ax (aI (i:=5) nd rfl (by first|exact Or.inl rfl|exact Or.inr rfl) (dG j8 pI (af (wpv 5)) (ar ag))))) bz)
   (aq (b7 (du (af (wpv 4)) (ab (bt (ab (aY aC) aw)) aw)))
   (ax (aI (i:=5) nd rfl (by first|exact Or.inl rfl|exact Or.inr rfl) (dG j8 pI (af (wpv 5)) (ar ag)))))) (ax (bL (sE (kI (aR qQ Bt (af (wpv 5)) (ar ag) (aL _)) (jj (aR gR pL (bC fW fV rfl B.len PySem.boot_len (ab (af (wpv 4)) aw)) (ar ag) (aL _))))) (aq (aI (i:=9) nd rfl (by first|exact Or.inl rfl|exact Or.inr rfl) (aP eW hr rfl (ab (af (wpv 0)) (ab (af (wpv 1)) (ab (aP aB hr rfl (ab (af (wpv 0)) (ab (af (wpv 5)) aw))) (ab (dG j8 pI (af (wpv 3)) (ar ag)) aw))))))
   (aq (aI (i:=5) nd rfl (by first|exact Or.inl rfl|exact Or.inr rfl) (dG j8 pI (dG j8 pI (af (wpv 5)) (ar ag)) (aP fR hr rfl (ab (af (wpv 9)) aw))))
   (aq (aI (i:=10) nd rfl (by first|exact Or.inl rfl|exact Or.inr rfl) (aP eW hr rfl (ab (af (wpv 0)) (ab (af (wpv 1)) (ab (aP aB hr rfl (ab (af (wpv 0)) (ab (dG dE dD (af (wpv 5)) (ar ag)) aw))) (ab (dG j8 pI (af (wpv 3)) (ar ag)) aw))))))
   (aq (aI (i:=5) nd rfl (by first|exact Or.inl rfl|exact Or.inr rfl) (dG j8 pI (af (wpv 5)) (aP fR hr rfl (ab (af (wpv 10)) aw))))
   (ax (b7 (du (af (wpv 4)) (ab (bt (ab (aY aC) (ab (af (wpv 9)) (ab (af (wpv 10)) aw)))) aw)))))))) bz)))))))))
   (ax (aZ (cq cR jF rfl B.tuple OG.dX (ab (af (wpv 4)) aw))))))))
theorem j0:aQ ["world","deed","now","word","one","other"] ["world","deed","now"] (ay iO):=⟨rfl,rfl,rfl,by decide +kernel,rfl,by decide +kernel,by decide +kernel⟩
theorem rh{k:Nat}(d:Def K mg "_law_plain" iO ["world","deed","now"])(B:Blt mg):c8 P w K mg base "_law_plain" (k+1) ["world","deed","now"] (fnU 6 3 (bA )):=
 d.pure j0 fun f cdv A outer s H E hr=>(by
  have hu:=de hr
  have nd:=j0.nd
  exact(aq (Gq (af (wpv 1)) (ng rfl (cN (bh (i:=3) nd rfl (by first|exact Or.inl rfl|exact Or.inr rfl)) (cN (bh (i:=4) nd rfl (by first|exact Or.inl rfl|exact Or.inr rfl)) (cN (bh (i:=5) nd rfl (by first|exact Or.inl rfl|exact Or.inr rfl)) jE)))))
   (ax (bL (aR fg lZ (af (wpv 3)) (aY aC) (aL _)) (aq (bL (sE (kI (j7 hu (af (wpv 5)) (bo hu (af (wpv 2)) (aY aC) (fun _ _=>rfl) (fun _ _=>rfl)) (by with_unfolding_all rfl)) (jj (j7 hu (af (wpv 5)) (bo hu (af (wpv 2)) (aY aC) (fun _ _=>rfl) (fun _ _=>rfl)) (by with_unfolding_all rfl))))) (ax (b7 (du (bo hu (af (wpv 2)) (aY aC) (fun _ _=>rfl) (fun _ _=>rfl)) (ab (af (wpv 5)) aw)))) bz)
   (ax (d7 hu (bo hu (af (wpv 2)) (aY aC) (fun _ _=>rfl) (fun _ _=>rfl)) (af (wpv 4)) (bo hu (bo hu (af (wpv 2)) (aY aC) (fun _ _=>rfl) (fun _ _=>rfl)) (af (wpv 5)) (fun _ _=>rfl) (fun _ _=>rfl))))) (ax (bL (aR fg lZ (af (wpv 3)) (aY aC) (aL _)) (aq (d7 hu (bo hu (af (wpv 2)) (aY aC) (fun _ _=>rfl) (fun _ _=>rfl)) (af (wpv 4)) (bo hu (bo hu (af (wpv 2)) (aY aC) (fun _ _=>rfl) (fun _ _=>rfl)) (af (wpv 5)) (fun _ _=>rfl) (fun _ _=>rfl)))
   (ax (bL (j7 hu (af (wpv 4)) (bo hu (af (wpv 2)) (aY aC) (fun _ _=>rfl) (fun _ _=>rfl)) (by with_unfolding_all rfl)) (ax (b7 (du (bo hu (af (wpv 2)) (aY aC) (fun _ _=>rfl) (fun _ _=>rfl)) (ab (af (wpv 4)) aw)))) bz))) (ax (bL (aR fg lZ (af (wpv 3)) (aY aC) (aL _)) (ax (d7 hu (bo hu (af (wpv 2)) (aY aC) (fun _ _=>rfl) (fun _ _=>rfl)) (af (wpv 4)) (af (wpv 5)))) (ax (d7 hu (bo hu (af (wpv 2)) (aY aC) (fun _ _=>rfl) (fun _ _=>rfl)) (af (wpv 4)) (dG j9 pK (dG dE dD (bo hu (bo hu (af (wpv 2)) (aY aC) (fun _ _=>rfl) (fun _ _=>rfl)) (af (wpv 4)) (fun _ _=>rfl) (fun _ _=>rfl)) (bo hu (bo hu (af (wpv 2)) (aY aC) (fun _ _=>rfl) (fun _ _=>rfl)) (af (wpv 5)) (fun _ _=>rfl) (fun _ _=>rfl))) (bo hu (af (wpv 0)) (ar ag) (fun _ _=>rfl) (fun _ _=>rfl)))))))))))))
theorem jZ:aQ ["world","dealing","now","out","deed","kept","part"] ["world","dealing","now"] (ay iN):=⟨rfl,rfl,rfl,by decide +kernel,rfl,by decide +kernel,by decide +kernel⟩
theorem gj{k:Nat}{bN aN:Fn}(d:Def K mg "_law_waits" iN ["world","dealing","now"])(B:Blt mg)(dY:c8 P w K mg base "_law_plain" (k) ["world","deed","now"] bN)(gn:c8 P w K mg base "_law_waits" (k) ["world","dealing","now"] aN):c8 P w K mg base "_law_waits" (k+1) ["world","dealing","now"] (fnU 7 3 (dh bN aN)):=
 d.pure jZ fun f cdv A outer s H E hr=>(by
  have hu:=de hr
  have nd:=jZ.nd
  exact(aq (aI (i:=3) nd rfl (by first|exact Or.inl rfl|exact Or.inr rfl) (ar ag))
   (aq (ik PassesOwn.never rfl (oK (af (wpv 1))) (fJ (bh (i:=4) nd rfl (by first|exact Or.inl rfl|exact Or.inr rfl))) (ax (bL (aR qQ Bt (af (wpv 3)) (ar ag) (aL _)) (ax (aI (i:=3) nd rfl (by first|exact Or.inl rfl|exact Or.inr rfl) (dG j8 pI (af (wpv 3)) (ar ag)))) (ax (bL (aR fg lZ (bo hu (af (wpv 4)) (ar ag) (fun _ _=>rfl) (fun _ _=>rfl)) (aY aC) (aL _)) (ax (aZ (qj eD))) (ax (bL (aR fg lZ (bo hu (af (wpv 4)) (ar ag) (fun _ _=>rfl) (fun _ _=>rfl)) (aY aC) (aL _)) (ax (aI (i:=3) nd rfl (by first|exact Or.inl rfl|exact Or.inr rfl) (dG jk pJ (bo hu (af (wpv 4)) (ar ag) (fun _ _=>rfl) (fun _ _=>rfl)) (cq nH DU rfl B.int OG.mC (ab (pG fg lZ (bo hu (bo hu (af (wpv 2)) (aY aC) (fun _ _=>rfl) (fun _ _=>rfl)) (bo hu (af (wpv 4)) (ar ag) (fun _ _=>rfl) (fun _ _=>rfl)) (fun _ _=>rfl) (fun _ _=>rfl)) (ar ag) (aL _)) aw))))) (ax (bL (aR xn GY (bo hu (af (wpv 4)) (ar ag) (fun _ _=>rfl) (fun _ _=>rfl)) (aY aC) (aL _)) (ax (b7 (aP dY hr rfl (ab (af (wpv 0)) (ab (af (wpv 4)) (ab (af (wpv 2)) aw)))))) (aq (aI (i:=5) nd rfl (by first|exact Or.inl rfl|exact Or.inr rfl) (Bs (jD (aY aC) (cq dg oN rfl B.list OG.eB (ab (bo hu (af (wpv 2)) (aY aC) (fun _ _=>rfl) (fun _ _=>rfl)) aw)) (jD (aY aC) (cq dg oN rfl B.list OG.eB (ab (bo hu (af (wpv 2)) (aY aC) (fun _ _=>rfl) (fun _ _=>rfl)) aw)) (jD (aY aC) (cq dg oN rfl B.list OG.eB (ab (bo hu (af (wpv 2)) (aY aC) (fun _ _=>rfl) (fun _ _=>rfl)) aw)) Br))) rfl rfl (by simp) (by exact Nat.le_of_ble_eq_true rfl) (by exact Nat.le_of_ble_eq_true rfl)))
   (ax (bL (gB (aP gn hr rfl (ab (af (wpv 0)) (ab (bo hu (af (wpv 4)) (ar ag) (fun _ _=>rfl) (fun _ _=>rfl)) (ab (af (wpv 2)) aw))))) (aq (Dk PassesOwn.never rfl (af (wpv 5)) (fJ (bh (i:=6) nd rfl (by first|exact Or.inl rfl|exact Or.inr rfl))) (ax (d7 hu (af (wpv 2)) (af (wpv 6)) (bo hu (af (wpv 5)) (af (wpv 6)) (fun _ _=>rfl) (fun _ _=>rfl)))))
   (ax (bL (gB (aP gn hr rfl (ab (af (wpv 0)) (ab (bo hu (af (wpv 4)) (ar ag) (fun _ _=>rfl) (fun _ _=>rfl)) (ab (af (wpv 2)) aw))))) (ax (aZ (qj eD))) bz))) bz))))))))))))
   (ax (aZ (qj eD))))))
theorem j1:aQ ["world","dealing","state","now"] ["world","dealing","state"] (ay iP):=⟨rfl,rfl,rfl,by decide +kernel,rfl,by decide +kernel,by decide +kernel⟩
theorem rj{k:Nat}{aN:Fn}(d:Def K mg "_law_alone" iP ["world","dealing","state"])(B:Blt mg)(gn:c8 P w K mg base "_law_waits" (k) ["world","dealing","now"] aN):c8 P w K mg base "_law_alone" (k+1) ["world","dealing","state"] (fnU 4 3 (dk aN)):=
 d.pure j1 fun f cdv A outer s H E hr=>(by
  have hu:=de hr
  have nd:=j1.nd
  exact(aq (aI (i:=3) nd rfl (by first|exact Or.inl rfl|exact Or.inr rfl) (Bs (jD (aY aC) (cq dg oN rfl B.list OG.eB (ab (af (wpv 2)) aw)) (jD (aY aC) (gu aw) (jD (aY aC) (gu (ab (ar ag) (ab (ar ag) (ab (ar ag) (ab (ar ag) aw))))) (jD (aY aC) (gu aw) Br)))) rfl rfl (by simp) (by exact Nat.le_of_ble_eq_true rfl) (by exact Nat.le_of_ble_eq_true rfl)))
   (aq (bL (gB (aP gn hr rfl (ab (af (wpv 0)) (ab (af (wpv 1)) (ab (af (wpv 3)) aw))))) (ax (aZ (bt (ab (aY aC) (ab (bC (uD rfl) uA rfl B.sorted OG.gZ (ab (bo hu (af (wpv 3)) (aY aC) (fun _ _=>rfl) (fun _ _=>rfl)) aw)) aw))))) bz)
   (ax (aZ (bt (ab (aY aC) (ab (cq cR jF rfl B.tuple OG.dX (ab (bo hu (af (wpv 3)) (aY aC) (fun _ _=>rfl) (fun _ _=>rfl)) aw)) (ab (cq cR jF rfl B.tuple OG.dX (ab (bo hu (af (wpv 3)) (aY aC) (fun _ _=>rfl) (fun _ _=>rfl)) aw)) aw)))))))))
theorem oI:aQ ["row","place","value"] ["row","place","value"] (ay m9):=⟨rfl,rfl,rfl,by decide +kernel,rfl,by decide +kernel,by decide +kernel⟩
theorem x8{k:Nat}(d:Def K mg "with_at" m9 ["row","place","value"])(B:Blt mg):c8 P w K mg base "with_at" (k+1) ["row","place","value"] (fnU 3 3 (gE )):=
 d.pure oI fun f cdv A outer s H E hr=>(by
  have hu:=de hr
  have nd:=oI.nd
  exact(ax (aZ (dG dE dD (dG dE dD (Mb (af (wpv 0)) w8 (w6 (af (wpv 1)))) (bt (ab (af (wpv 2)) aw))) (Mb (af (wpv 0)) (w6 (dG dE dD (af (wpv 1)) (ar ag))) w8)))))
theorem oJ:aQ ["part","reached"] ["part"] (ay nc):=⟨rfl,rfl,rfl,by decide +kernel,rfl,by decide +kernel,by decide +kernel⟩
theorem ya{k:Nat}{fuel:Nat}(d:Def K mg "onwards" nc ["part"])(B:Blt mg):c8 P w K mg base "onwards" (k+1) ["part"] (fnU 2 1 (gF fuel)):=
 d.pure oJ fun f cdv A outer s H E hr=>(by
  have hu:=de hr
  have nd:=oJ.nd
  exact(aq (aI (i:=1) nd rfl (by first|exact Or.inl rfl|exact Or.inr rfl) (af (wpv 0)))
   (aq (mr fuel PassesOwn.never (sE (kI (aR DY KP (bo hu (af (wpv 1)) (ar ag) (fun _ _=>rfl) (fun _ _=>rfl)) (bC fW fV rfl B.len PySem.boot_len (ab (bo hu (af (wpv 1)) (ar ag) (fun _ _=>rfl) (fun _ _=>rfl)) aw)) (aL _)) (jj (aR sH xm (bo hu (af (wpv 1)) (ar ag) (fun _ _=>rfl) (fun _ _=>rfl)) (pF gK) (aL _))))) (ax (aI (i:=1) nd rfl (by first|exact Or.inl rfl|exact Or.inr rfl) (bo hu (af (wpv 1)) (ar ag) (fun _ _=>rfl) (fun _ _=>rfl)))))
   (ax (aZ (af (wpv 1)))))))
theorem j5:aQ ["self"] ["self"] (ay iT):=⟨rfl,rfl,rfl,by decide +kernel,rfl,by decide +kernel,by decide +kernel⟩
theorem rA{k:Nat}{ao:Cl}(d:MtD K ao.C "deed" "Doing.deed" iT ["self"])(B:Blt mg)(TDoing:TC K ao ["wheel","held","puts","part"]):jr P w K mg base ao "deed" (k+1) ["self"] (fnU 1 1 (dn ao)):=
 d.pure j5 fun f cdv A outer s H E hr=>(by
  have hu:=de hr
  have nd:=j5.nd
  exact(aq (bL (aR DY KP (bo hu (gQ TDoing.cl (TDoing.na 3 rfl) (TDoing.ix rfl) (af (wpv 0))) (ar ag) (fun _ _=>rfl) (fun _ _=>rfl)) (bC fW fV rfl B.len PySem.boot_len (ab (bo hu (gQ TDoing.cl (TDoing.na 3 rfl) (TDoing.ix rfl) (af (wpv 0))) (ar ag) (fun _ _=>rfl) (fun _ _=>rfl)) aw)) (aL _)) (ax (aZ (pF gK))) bz)
   (ax (aZ (bo hu (bo hu (gQ TDoing.cl (TDoing.na 3 rfl) (TDoing.ix rfl) (af (wpv 0))) (ar ag) (fun _ _=>rfl) (fun _ _=>rfl)) (bo hu (gQ TDoing.cl (TDoing.na 3 rfl) (TDoing.ix rfl) (af (wpv 0))) (ar ag) (fun _ _=>rfl) (fun _ _=>rfl)) (fun _ _=>rfl) (fun _ _=>rfl))))))
theorem j6:aQ ["self","deed"] ["self"] (ay iU):=⟨rfl,rfl,rfl,by decide +kernel,rfl,by decide +kernel,by decide +kernel⟩
theorem rB{k:Nat}{aD:Fn}{ao:Cl}(d:MtD K ao.C "asks" "Doing.asks" iU ["self"])(B:Blt mg)(TDoing:TC K ao ["wheel","held","puts","part"])(M_Doing_deed:jr P w K mg base ao "deed" (k) ["self"] aD):jr P w K mg base ao "asks" (k+1) ["self"] (fnU 2 1 (dq aD ao)):=
 d.pure j6 fun f cdv A outer s H E hr=>(by
  have hu:=de hr
  have nd:=j6.nd
  exact(aq (aI (i:=1) nd rfl (by first|exact Or.inl rfl|exact Or.inr rfl) (gP TDoing.cl M_Doing_deed hr (TDoing.nm (by decide +kernel)) (af (wpv 0))))
   (ax (aZ (xc (pG fg lZ (bo hu (af (wpv 1)) (ar ag) (fun _ _=>rfl) (fun _ _=>rfl)) (aY aC) (aL _)) (Dq (pG Bv G7 (bo hu (gQ TDoing.cl (TDoing.na 2 rfl) (TDoing.ix rfl) (af (wpv 0))) (bo hu (af (wpv 1)) (ar ag) (fun _ _=>rfl) (fun _ _=>rfl)) (fun _ _=>rfl) (fun _ _=>rfl)) (pF gK) (aL _))))))))
theorem j3:aQ ["self","hand","number"] ["self","hand","number"] (ay iR):=⟨rfl,rfl,rfl,by decide +kernel,rfl,by decide +kernel,by decide +kernel⟩
theorem rq{k:Nat}{b6:Fn}{ao:Cl}(d:MtD K ao.C "hold" "Doing.hold" iR ["self","hand","number"])(B:Blt mg)(TDoing:TC K ao ["wheel","held","puts","part"])(gI:c8 P w K mg base "with_at" (k) ["row","place","value"] b6):jr P w K mg base ao "hold" (k+1) ["self","hand","number"] (fnU 3 3 (dU b6 ao)):=
 d.pure j3 fun f cdv A outer s H E hr=>(by
  have hu:=de hr
  have nd:=j3.nd
  exact(ax (fH TDoing.cl (TDoing.na 1 rfl) (TDoing.ix rfl) (af (wpv 0)) (aP gI hr rfl (ab (gQ TDoing.cl (TDoing.na 1 rfl) (TDoing.ix rfl) (af (wpv 0))) (ab (af (wpv 1)) (ab (af (wpv 2)) aw)))))))
theorem ft:aQ ["self","left_out","part"] ["self","left_out"] (ay dP):=⟨rfl,rfl,rfl,by decide +kernel,rfl,by decide +kernel,by decide +kernel⟩
theorem jK{k:Nat}{ao:Cl}(d:MtD K ao.C "part_behind" "Doing.part_behind" dP ["self","left_out"])(B:Blt mg)(TDoing:TC K ao ["wheel","held","puts","part"]):jr P w K mg base ao "part_behind" (k+1) ["self","left_out"] (fnU 3 2 (bJ ao)):=
 d.pure ft fun f cdv A outer s H E hr=>(by
  have hu:=de hr
  have nd:=ft.nd
  exact(aq (aI (i:=2) nd rfl (by first|exact Or.inl rfl|exact Or.inr rfl) (gQ TDoing.cl (TDoing.na 3 rfl) (TDoing.ix rfl) (af (wpv 0))))
   (ax (aZ (bt (ab (bo hu (af (wpv 2)) (ar ag) (fun _ _=>rfl) (fun _ _=>rfl)) (ab (dG dE dD (dG dE dD (bo hu (af (wpv 2)) (ar ag) (fun _ _=>rfl) (fun _ _=>rfl)) (ar ag)) (af (wpv 1))) (ab (bo hu (af (wpv 2)) (ar ag) (fun _ _=>rfl) (fun _ _=>rfl)) (ab (bo hu (af (wpv 2)) (ar ag) (fun _ _=>rfl) (fun _ _=>rfl)) aw)))))))))
theorem gc:aQ ["self","left_out"] ["self","left_out"] (ay eM):=⟨rfl,rfl,rfl,by decide +kernel,rfl,by decide +kernel,by decide +kernel⟩
theorem kP{k:Nat}{a9 aF:Fn}{ao:Cl}(d:MtD K ao.C "go_behind" "Doing.go_behind" eM ["self","left_out"])(B:Blt mg)(TDoing:TC K ao ["wheel","held","puts","part"])(dI:c8 P w K mg base "onwards" (k) ["part"] a9)(M_Doing_part_behind:jr P w K mg base ao "part_behind" (k) ["self","left_out"] aF):jr P w K mg base ao "go_behind" (k+1) ["self","left_out"] (fnU 2 2 (bX a9 aF ao)):=
 d.pure gc fun f cdv A outer s H E hr=>(by
  have hu:=de hr
  have nd:=gc.nd
  exact(ax (fH TDoing.cl (TDoing.na 3 rfl) (TDoing.ix rfl) (af (wpv 0)) (aP dI hr rfl (ab (ji TDoing.cl M_Doing_part_behind hr (TDoing.nm (by decide +kernel)) (af (wpv 0)) (ab (af (wpv 1)) aw)) aw)))))
theorem j4:aQ ["self","number"] ["self","number"] (ay iS):=⟨rfl,rfl,rfl,by decide +kernel,rfl,by decide +kernel,by decide +kernel⟩
theorem rz{k:Nat}{aW aD aK:Fn}{ao:Cl}(d:MtD K ao.C "hear" "Doing.hear" iS ["self","number"])(B:Blt mg)(TDoing:TC K ao ["wheel","held","puts","part"])(M_Doing_hold:jr P w K mg base ao "hold" (k) ["self","hand","number"] aW)(M_Doing_deed:jr P w K mg base ao "deed" (k) ["self"] aD)(M_Doing_go_behind:jr P w K mg base ao "go_behind" (k) ["self","left_out"] aK):jr P w K mg base ao "hear" (k+1) ["self","number"] (fnU 2 2 (dW aW aD aK ao)):=
 d.pure j4 fun f cdv A outer s H E hr=>(by
  have hu:=de hr
  have nd:=j4.nd
  exact(aq (b7 (ji TDoing.cl M_Doing_hold hr (TDoing.nm (by decide +kernel)) (af (wpv 0)) (ab (bo hu (gP TDoing.cl M_Doing_deed hr (TDoing.nm (by decide +kernel)) (af (wpv 0))) (ar ag) (fun _ _=>rfl) (fun _ _=>rfl)) (ab (af (wpv 1)) aw))))
   (ax (b7 (ji TDoing.cl M_Doing_go_behind hr (TDoing.nm (by decide +kernel)) (af (wpv 0)) (ab (ar ag) aw))))))
theorem gf:aQ ["self","one","other","behind","instead"] ["self","one","other"] (ay eN):=⟨rfl,rfl,rfl,by decide +kernel,rfl,by decide +kernel,by decide +kernel⟩
theorem kQ{k:Nat}{a9 aF:Fn}{ao:Cl}(d:MtD K ao.C "enter_try" "Doing.enter_try" eN ["self","one","other"])(B:Blt mg)(TDoing:TC K ao ["wheel","held","puts","part"])(dI:c8 P w K mg base "onwards" (k) ["part"] a9)(M_Doing_part_behind:jr P w K mg base ao "part_behind" (k) ["self","left_out"] aF):jr P w K mg base ao "enter_try" (k+1) ["self","one","other"] (fnU 5 3 (bY a9 aF ao)):=
 d.pure gf fun f cdv A outer s H E hr=>(by
  have hu:=de hr
  have nd:=gf.nd
  exact(aq (aI (i:=3) nd rfl (by first|exact Or.inl rfl|exact Or.inr rfl) (ji TDoing.cl M_Doing_part_behind hr (TDoing.nm (by decide +kernel)) (af (wpv 0)) (ab (ar ag) aw)))
   (aq (aI (i:=4) nd rfl (by first|exact Or.inl rfl|exact Or.inr rfl) (aP dI hr rfl (ab (bt (ab (af (wpv 2)) (ab (ar ag) (ab (af (wpv 3)) (ab (bo hu (af (wpv 3)) (ar ag) (fun _ _=>rfl) (fun _ _=>rfl)) aw))))) aw)))
   (ax (fH TDoing.cl (TDoing.na 3 rfl) (TDoing.ix rfl) (af (wpv 0)) (aP dI hr rfl (ab (bt (ab (af (wpv 1)) (ab (ar ag) (ab (af (wpv 3)) (ab (bt (ab (gQ TDoing.cl (TDoing.na 1 rfl) (TDoing.ix rfl) (af (wpv 0))) (ab (gQ TDoing.cl (TDoing.na 2 rfl) (TDoing.ix rfl) (af (wpv 0))) (ab (af (wpv 4)) aw)))) aw))))) aw)))))))
theorem f9:aQ ["self","back"] ["self"] (ay eK):=⟨rfl,rfl,rfl,by decide +kernel,rfl,by decide +kernel,by decide +kernel⟩
theorem kO{k:Nat}{ao:Cl}(d:MtD K ao.C "goes_back" "Doing.goes_back" eK ["self"])(B:Blt mg)(TDoing:TC K ao ["wheel","held","puts","part"]):jr P w K mg base ao "goes_back" (k+1) ["self"] (fnU 2 1 (bK ao)):=
 d.pure f9 fun f cdv A outer s H E hr=>(by
  have hu:=de hr
  have nd:=f9.nd
  exact(aq (aI (i:=1) nd rfl (by first|exact Or.inl rfl|exact Or.inr rfl) (bo hu (gQ TDoing.cl (TDoing.na 3 rfl) (TDoing.ix rfl) (af (wpv 0))) (ar ag) (fun _ _=>rfl) (fun _ _=>rfl)))
   (aq (bL (aR Bv G7 (af (wpv 1)) (pF gK) (aL _)) (ax (aZ (qj eD))) bz)
   (aq (fH TDoing.cl (TDoing.na 1 rfl) (TDoing.ix rfl) (af (wpv 0)) (bo hu (af (wpv 1)) (ar ag) (fun _ _=>rfl) (fun _ _=>rfl)))
   (aq (fH TDoing.cl (TDoing.na 2 rfl) (TDoing.ix rfl) (af (wpv 0)) (bo hu (af (wpv 1)) (ar ag) (fun _ _=>rfl) (fun _ _=>rfl)))
   (aq (fH TDoing.cl (TDoing.na 3 rfl) (TDoing.ix rfl) (af (wpv 0)) (bo hu (af (wpv 1)) (ar ag) (fun _ _=>rfl) (fun _ _=>rfl)))
   (ax (aZ (qj eD)))))))))
theorem ig:aQ ["self","deed","word","left_out"] ["self"] (ay fF):=⟨rfl,rfl,rfl,by decide +kernel,rfl,by decide +kernel,by decide +kernel⟩
theorem nA{k:Nat}{b6 aD bH bI aW aK:Fn}{ao:Cl}(d:MtD K ao.C "do_deed" "Doing.do_deed" fF ["self"])(B:Blt mg)(TDoing:TC K ao ["wheel","held","puts","part"])(gI:c8 P w K mg base "with_at" (k) ["row","place","value"] b6)(M_Doing_deed:jr P w K mg base ao "deed" (k) ["self"] aD)(M_Doing_goes_back:jr P w K mg base ao "goes_back" (k) ["self"] bH)(M_Doing_enter_try:jr P w K mg base ao "enter_try" (k) ["self","one","other"] bI)(M_Doing_hold:jr P w K mg base ao "hold" (k) ["self","hand","number"] aW)(M_Doing_go_behind:jr P w K mg base ao "go_behind" (k) ["self","left_out"] aK):jr P w K mg base ao "do_deed" (k+1) ["self"] (fnU 4 1 (aV b6 aD bH bI aW aK ao)):=
 d.pure ig fun f cdv A outer s H E hr=>(by
  have hu:=de hr
  have nd:=ig.nd
  exact(aq (aI (i:=1) nd rfl (by first|exact Or.inl rfl|exact Or.inr rfl) (gP TDoing.cl M_Doing_deed hr (TDoing.nm (by decide +kernel)) (af (wpv 0))))
   (aq (aI (i:=2) nd rfl (by first|exact Or.inl rfl|exact Or.inr rfl) (bo hu (af (wpv 1)) (ar ag) (fun _ _=>rfl) (fun _ _=>rfl)))
   (aq (bL (aR fg lZ (af (wpv 2)) (aY aC) (aL _)) (ax (aZ (gP TDoing.cl M_Doing_goes_back hr (TDoing.nm (by decide +kernel)) (af (wpv 0))))) bz)
   (aq (bL (aR fg lZ (af (wpv 2)) (aY aC) (aL _)) (aq (b7 (ji TDoing.cl M_Doing_enter_try hr (TDoing.nm (by decide +kernel)) (af (wpv 0)) (ab (bo hu (af (wpv 1)) (ar ag) (fun _ _=>rfl) (fun _ _=>rfl)) (ab (bo hu (af (wpv 1)) (ar ag) (fun _ _=>rfl) (fun _ _=>rfl)) aw))))
   (ax (aZ (qj eD)))) bz)
   (aq (aI (i:=3) nd rfl (by first|exact Or.inl rfl|exact Or.inr rfl) (ar ag))
   (aq (bL (aR fg lZ (af (wpv 2)) (aY aC) (aL _)) (ax (b7 (ji TDoing.cl M_Doing_hold hr (TDoing.nm (by decide +kernel)) (af (wpv 0)) (ab (bo hu (af (wpv 1)) (ar ag) (fun _ _=>rfl) (fun _ _=>rfl)) (ab (bo hu (gQ TDoing.cl (TDoing.na 2 rfl) (TDoing.ix rfl) (af (wpv 0))) (bo hu (af (wpv 1)) (ar ag) (fun _ _=>rfl) (fun _ _=>rfl)) (fun _ _=>rfl) (fun _ _=>rfl)) aw))))) (ax (bL (aR fg lZ (af (wpv 2)) (aY aC) (aL _)) (ax (fH TDoing.cl (TDoing.na 2 rfl) (TDoing.ix rfl) (af (wpv 0)) (aP gI hr rfl (ab (gQ TDoing.cl (TDoing.na 2 rfl) (TDoing.ix rfl) (af (wpv 0))) (ab (bo hu (af (wpv 1)) (ar ag) (fun _ _=>rfl) (fun _ _=>rfl)) (ab (bo hu (gQ TDoing.cl (TDoing.na 1 rfl) (TDoing.ix rfl) (af (wpv 0))) (bo hu (af (wpv 1)) (ar ag) (fun _ _=>rfl) (fun _ _=>rfl)) (fun _ _=>rfl) (fun _ _=>rfl)) aw)))))) (ax (bL (aR fg lZ (af (wpv 2)) (aY aC) (aL _)) (ax (b7 (ji TDoing.cl M_Doing_hold hr (TDoing.nm (by decide +kernel)) (af (wpv 0)) (ab (bo hu (af (wpv 1)) (ar ag) (fun _ _=>rfl) (fun _ _=>rfl)) (ab (bo hu (af (wpv 1)) (ar ag) (fun _ _=>rfl) (fun _ _=>rfl)) aw))))) (ax (bL (aR fg lZ (af (wpv 2)) (aY aC) (aL _)) (ax (b7 (ji TDoing.cl M_Doing_hold hr (TDoing.nm (by decide +kernel)) (af (wpv 0)) (ab (bo hu (af (wpv 1)) (ar ag) (fun _ _=>rfl) (fun _ _=>rfl)) (ab (dG j9 pK (dG dE dD (bo hu (gQ TDoing.cl (TDoing.na 1 rfl) (TDoing.ix rfl) (af (wpv 0))) (bo hu (af (wpv 1)) (ar ag) (fun _ _=>rfl) (fun _ _=>rfl)) (fun _ _=>rfl) (fun _ _=>rfl)) (bo hu (gQ TDoing.cl (TDoing.na 1 rfl) (TDoing.ix rfl) (af (wpv 0))) (bo hu (af (wpv 1)) (ar ag) (fun _ _=>rfl) (fun _ _=>rfl)) (fun _ _=>rfl) (fun _ _=>rfl))) (gQ TDoing.cl (TDoing.na 0 rfl) (TDoing.ix rfl) (af (wpv 0)))) aw))))) (ax (bL (aR fg lZ (bo hu (gQ TDoing.cl (TDoing.na 1 rfl) (TDoing.ix rfl) (af (wpv 0))) (bo hu (af (wpv 1)) (ar ag) (fun _ _=>rfl) (fun _ _=>rfl)) (fun _ _=>rfl) (fun _ _=>rfl)) (ar ag) (aL _)) (ax (aI (i:=3) nd rfl (by first|exact Or.inl rfl|exact Or.inr rfl) (bo hu (af (wpv 1)) (ar ag) (fun _ _=>rfl) (fun _ _=>rfl)))) bz)))))))))
   (aq (b7 (ji TDoing.cl M_Doing_go_behind hr (TDoing.nm (by decide +kernel)) (af (wpv 0)) (ab (af (wpv 3)) aw)))
   (ax (aZ (qj eD)))))))))))
theorem fZ:aQ ["self"] ["self"] (ay eJ):=⟨rfl,rfl,rfl,by decide +kernel,rfl,by decide +kernel,by decide +kernel⟩
theorem kN{k:Nat}{ao:Cl}(d:MtD K ao.C "put_pairs" "Doing.put_pairs" eJ ["self"])(B:Blt mg)(TDoing:TC K ao ["wheel","held","puts","part"]):jr P w K mg base ao "put_pairs" (k+1) ["self"] (fnU 1 1 (bW ao)):=
 d.pure fZ fun f cdv A outer s H E hr=>(by
  have hu:=de hr
  have nd:=fZ.nd
  exact(ax (aZ (zT (Nc:=["box","number"]) (tn:=["box","number"]) (capN:=[]) (caps:=[]) rfl (sD rfl B.enumerate (gQ TDoing.cl (TDoing.na 2 rfl) (TDoing.ix rfl) (af (wpv 0)))) (fun _ _ _=>(ng rfl (cN (bh (i:=0) (show(["box","number"]:List Str).Nodup by decide +kernel) rfl (by first|exact Or.inl rfl|exact Or.inr rfl)) (cN (bh (i:=1) (show(["box","number"]:List Str).Nodup by decide +kernel) rfl (by first|exact Or.inl rfl|exact Or.inr rfl)) jE)))) (fun _ _ _=>(aR sH xm (af (wpv 1)) (pF gK) (aL _))) (fun _ _ _=>(bt (ab (af (wpv 0)) (ab (af (wpv 1)) aw)))) rfl rfl (by decide +kernel) (by decide +kernel) trivial rfl .nil rfl rfl))))
theorem j2:aQ ["self","world","dealing"] ["self","world","dealing"] (ay iQ):=⟨rfl,rfl,rfl,by decide +kernel,rfl,by decide +kernel,by decide +kernel⟩
theorem rp{k:Nat}{a9:Fn}{ao:Cl}(d:MkD K mg ao.C "Doing" "Doing.__init__" iQ ["self","world","dealing"])(B:Blt mg)(TDoing:TC K ao ["wheel","held","puts","part"])(dI:c8 P w K mg base "onwards" (k) ["part"] a9):CMk P w K mg base ao "Doing" (k+1) ["self","world","dealing"] (fnU 3 3 (dS a9 ao)):=
 d.pure TDoing j2 fun f cdv A outer s H E hr=>(by
  have hu:=de hr
  have nd:=j2.nd
  exact(aq (fH TDoing.cl (TDoing.na 0 rfl) (TDoing.ix rfl) (af (wpv 0)) (bo hu (af (wpv 1)) (ar ag) (fun _ _=>rfl) (fun _ _=>rfl)))
   (aq (fH TDoing.cl (TDoing.na 1 rfl) (TDoing.ix rfl) (af (wpv 0)) (bt (ab (ar ag) (ab (ar ag) (ab (ar ag) (ab (ar ag) aw))))))
   (aq (fH TDoing.cl (TDoing.na 2 rfl) (TDoing.ix rfl) (af (wpv 0)) (dG He GZ (bt (ab (pF gK) aw)) (bo hu (af (wpv 1)) (ar ag) (fun _ _=>rfl) (fun _ _=>rfl))))
   (ax (fH TDoing.cl (TDoing.na 3 rfl) (TDoing.ix rfl) (af (wpv 0)) (aP dI hr rfl (ab (bt (ab (af (wpv 2)) (ab (ar ag) (ab (pF gK) (ab (pF gK) aw))))) aw))))))))
theorem iK:aQ ["doing","state","looked","box"] ["doing","state","looked"] (ay gp):=⟨rfl,rfl,rfl,by decide +kernel,rfl,by decide +kernel,by decide +kernel⟩
theorem og{k:Nat}{aD cA cy bx:Fn}{ao:Cl}{fuel:Nat}(d:Def K mg "goes_through" gp ["doing","state","looked"])(B:Blt mg)(TDoing:TC K ao ["wheel","held","puts","part"])(M_Doing_deed:jr P w K mg base ao "deed" (k) ["self"] aD)(M_Doing_asks:jr P w K mg base ao "asks" (k) ["self"] cA)(M_Doing_hear:jr P w K mg base ao "hear" (k) ["self","number"] cy)(M_Doing_do_deed:jr P w K mg base ao "do_deed" (k) ["self"] bx):c8 P w K mg base "goes_through" (k+1) ["doing","state","looked"] (fnU 4 3 (cF aD cA cy bx ao fuel)):=
 d.pure iK fun f cdv A outer s H E hr=>(by
  have hu:=de hr
  have nd:=iK.nd
  exact(aq (mr fuel PassesOwn.never (aR sH xm (gP TDoing.cl M_Doing_deed hr (TDoing.nm (by decide +kernel)) (af (wpv 0))) (pF gK) (aL _)) (ax (bL (gB (gP TDoing.cl M_Doing_asks hr (TDoing.nm (by decide +kernel)) (af (wpv 0)))) (aq (aI (i:=3) nd rfl (by first|exact Or.inl rfl|exact Or.inr rfl) (bo hu (gP TDoing.cl M_Doing_deed hr (TDoing.nm (by decide +kernel)) (af (wpv 0))) (ar ag) (fun _ _=>rfl) (fun _ _=>rfl)))
   (aq (d7 hu (af (wpv 2)) (af (wpv 3)) (qj eD))
   (ax (b7 (ji TDoing.cl M_Doing_hear hr (TDoing.nm (by decide +kernel)) (af (wpv 0)) (ab (bo hu (af (wpv 1)) (af (wpv 3)) (fun _ _=>rfl) (fun _ _=>rfl)) aw)))))) (ax (bL (lO (gB (gP TDoing.cl M_Doing_do_deed hr (TDoing.nm (by decide +kernel)) (af (wpv 0))))) (ax (aZ (qj eD))) bz)))))
   (ax (aZ (qj eD)))))
theorem uq:aQ ["world","dealing","state","doing","looked","reached","box","number"] ["world","dealing","state"] (ay sC):=⟨rfl,rfl,rfl,by decide +kernel,rfl,by decide +kernel,by decide +kernel⟩
theorem En{k:Nat}{bM bc cw:Fn}{ao:Cl}(d:Def K mg "alone" sC ["world","dealing","state"])(B:Blt mg)(TDoing:TC K ao ["wheel","held","puts","part"])(gx:c8 P w K mg base "goes_through" (k+1) ["doing","state","looked"] bM)(M_Doing_put_pairs:jr P w K mg base ao "put_pairs" (k+1) ["self"] bc)(M_Doing:CMk P w K mg base ao "Doing" k ["self","world","dealing"] cw):c8 P w K mg base "alone" (k+1+1) ["world","dealing","state"] (fnU 8 3 (jP bM bc cw ao)):=
 d.pure uq fun f cdv A outer s H E hr=>(by
  have hu:=de hr
  have nd:=uq.nd
  exact(aq (aI (i:=3) nd rfl (by first|exact Or.inl rfl|exact Or.inr rfl) (Gr M_Doing hr rfl (ab (af (wpv 0)) (ab (af (wpv 1)) aw))))
   (aq (aI (i:=4) nd rfl (by first|exact Or.inl rfl|exact Or.inr rfl) Gs)
   (aq (bL (lO (gB (aP gx hr rfl (ab (af (wpv 3)) (ab (af (wpv 2)) (ab (af (wpv 4)) aw)))))) (ax (aZ (bt (ab (aY aC) (ab (bC (uD rfl) uA rfl B.sorted OG.gZ (ab (af (wpv 4)) aw)) aw))))) bz)
   (aq (aI (i:=5) nd rfl (by first|exact Or.inl rfl|exact Or.inr rfl) (cq dg oN rfl B.list OG.eB (ab (af (wpv 2)) aw)))
   (aq (ik PassesOwn.never rfl (oK (gP TDoing.cl M_Doing_put_pairs hr (TDoing.nm (by decide +kernel)) (af (wpv 3)))) (ng rfl (cN (bh (i:=6) nd rfl (by first|exact Or.inl rfl|exact Or.inr rfl)) (cN (bh (i:=7) nd rfl (by first|exact Or.inl rfl|exact Or.inr rfl)) jE))) (ax (d7 hu (af (wpv 5)) (af (wpv 6)) (af (wpv 7)))))
   (ax (aZ (bt (ab (aY aC) (ab (cq cR jF rfl B.tuple OG.dX (ab (af (wpv 5)) aw)) (ab (gQ TDoing.cl (TDoing.na 1 rfl) (TDoing.ix rfl) (af (wpv 3))) aw))))))))))))
theorem lM:aQ ["pen","world","box","there","way","guard","other","goal"] ["pen","world"] (ay jC):=⟨rfl,rfl,rfl,by decide +kernel,rfl,by decide +kernel,by decide +kernel⟩
theorem sZ{k:Nat}{ak:Fn}(d:Def K mg "_law_keen" jC ["pen","world"])(B:Blt mg)(aB:c8 P w K mg base "_law_take" (k) ["pen","many"] ak):c8 P w K mg base "_law_keen" (k+1) ["pen","world"] (fnU 8 2 (dR ak)):=
 d.pure lM fun f cdv A outer s H E hr=>(by
  have hu:=de hr
  have nd:=lM.nd
  exact(aq (aI (i:=2) nd rfl (by first|exact Or.inl rfl|exact Or.inr rfl) (aP aB hr rfl (ab (af (wpv 0)) (ab (bo hu (af (wpv 1)) (ar ag) (fun _ _=>rfl) (fun _ _=>rfl)) aw))))
   (aq (aI (i:=3) nd rfl (by first|exact Or.inl rfl|exact Or.inr rfl) (aP aB hr rfl (ab (af (wpv 0)) (ab (bo hu (af (wpv 1)) (ar ag) (fun _ _=>rfl) (fun _ _=>rfl)) aw))))
   (aq (aI (i:=4) nd rfl (by first|exact Or.inl rfl|exact Or.inr rfl) (aP aB hr rfl (ab (af (wpv 0)) (ab (ar ag) aw))))
   (aq (aI (i:=5) nd rfl (by first|exact Or.inl rfl|exact Or.inr rfl) (bt (ab (bt (ab (aY aC) (ab (ar ag) (ab (af (wpv 2)) aw)))) (ab (bt (ab (aY aC) (ab (ar ag) (ab (ar ag) aw)))) (ab (bt (ab (aY aC) aw)) aw)))))
   (aq (bL (aR fg lZ (af (wpv 4)) (ar ag) (aL _)) (ax (aI (i:=5) nd rfl (by first|exact Or.inl rfl|exact Or.inr rfl) (bt (ab (bt (ab (aY aC) (ab (ar ag) (ab (af (wpv 2)) aw)))) (ab (bt (ab (aY aC) (ab (ar ag) (ab (ar ag) aw)))) (ab (bt (ab (aY aC) (ab (ar ag) (ab (ar ag) aw)))) (ab (bt (ab (aY aC) (ab (ar ag) (ab (ar ag) aw)))) (ab (bt (ab (aY aC) aw)) aw)))))))) bz)
   (aq (bL (aR fg lZ (af (wpv 4)) (ar ag) (aL _)) (aq (aI (i:=6) nd rfl (by first|exact Or.inl rfl|exact Or.inr rfl) (bt (ab (bt (ab (aY aC) (ab (ar ag) (ab (af (wpv 3)) aw)))) (ab (bt (ab (aY aC) (ab (ar ag) (ab (ar ag) aw)))) (ab (bt (ab (aY aC) aw)) aw)))))
   (ax (aI (i:=5) nd rfl (by first|exact Or.inl rfl|exact Or.inr rfl) (bt (ab (bt (ab (aY aC) (ab (ar ag) (ab (af (wpv 2)) aw)))) (ab (bt (ab (aY aC) (ab (bt (ab (bt (ab (aY aC) (ab (ar ag) (ab (ar ag) aw)))) (ab (bt (ab (aY aC) (ab (ar ag) (ab (ar ag) aw)))) (ab (bt (ab (aY aC) aw)) aw)))) (ab (af (wpv 6)) aw)))) aw)))))) bz)
   (aq (aI (i:=7) nd rfl (by first|exact Or.inl rfl|exact Or.inr rfl) (bo hu (gu (ab (af (wpv 2)) (ab (af (wpv 3)) aw))) (aP aB hr rfl (ab (af (wpv 0)) (ab (ar ag) aw))) (fun _ _=>rfl) (fun _ _=>rfl)))
   (ax (aZ (dG dE dD (af (wpv 5)) (bt (ab (bt (ab (aY aC) (ab (ar ag) (ab (aP aB hr rfl (ab (af (wpv 0)) (ab (ar ag) aw))) aw)))) (ab (bt (ab (aY aC) (ab (af (wpv 7)) (ab (ar ag) aw)))) aw))))))))))))))
theorem eY:aQ ["pen","world","most","found","many","k"] ["pen","world","most"] (ay dC):=⟨rfl,rfl,rfl,by decide +kernel,rfl,by decide +kernel,by decide +kernel⟩
theorem je{k:Nat}{ak aE cQ:Fn}(d:Def K mg "_law_some_dealings" dC ["pen","world","most"])(B:Blt mg)(aB:c8 P w K mg base "_law_take" (k) ["pen","many"] ak)(eW:c8 P w K mg base "_law_dealing" (k) ["pen","world","room","tries"] aE)(jU:c8 P w K mg base "_law_keen" (k) ["pen","world"] cQ):c8 P w K mg base "_law_some_dealings" (k+1) ["pen","world","most"] (fnU 6 3 (bQ ak aE cQ)):=
 d.pure eY fun f cdv A outer s H E hr=>(by
  have hu:=de hr
  have nd:=eY.nd
  exact(aq (aI (i:=3) nd rfl (by first|exact Or.inl rfl|exact Or.inr rfl) (gu aw))
   (aq (aI (i:=4) nd rfl (by first|exact Or.inl rfl|exact Or.inr rfl) (dG dE dD (ar ag) (aP aB hr rfl (ab (af (wpv 0)) (ab (af (wpv 2)) aw)))))
   (aq (ik PassesOwn.never rfl (iV rfl B.range (ab (af (wpv 4)) aw)) (fJ (bh (i:=5) nd rfl (by first|exact Or.inl rfl|exact Or.inr rfl))) (ax (bL (sE (kI (aR gR pL (af (wpv 4)) (ar ag) (aL _)) (jj (aR fg lZ (aP aB hr rfl (ab (af (wpv 0)) (ab (ar ag) aw))) (ar ag) (aL _))))) (ax (b7 (du (af (wpv 3)) (ab (aP eW hr rfl (ab (af (wpv 0)) (ab (af (wpv 1)) (ab (ar ag) (ab (ar ag) aw))))) aw)))) (ax (b7 (du (af (wpv 3)) (ab (aP jU hr rfl (ab (af (wpv 0)) (ab (af (wpv 1)) aw))) aw)))))))
   (ax (aZ (af (wpv 3))))))))
theorem gA:aQ ["pen","world"] ["pen","world"] (ay fe):=⟨rfl,rfl,rfl,by decide +kernel,rfl,by decide +kernel,by decide +kernel⟩
theorem l7{k:Nat}{ak:Fn}(d:Def K mg "_law_few_state" fe ["pen","world"])(B:Blt mg)(aB:c8 P w K mg base "_law_take" (k) ["pen","many"] ak):c8 P w K mg base "_law_few_state" (k+1) ["pen","world"] (fnU 2 2 (cU ak)):=
 d.pure gA fun f cdv A outer s H E hr=>(by
  have hu:=de hr
  have nd:=gA.nd
  exact(ax (aZ (cq cR jF rfl B.tuple OG.dX (ab (Gu (Nc:=["box","pen","world"]) (tn:=["box"]) (capN:=["pen","world"]) (caps:=[0,1]) rfl (iV rfl B.range (ab (bo hu (af (wpv 1)) (ar ag) (fun _ _=>rfl) (fun _ _=>rfl)) aw)) (fun _ _ _=>(fJ (bh (i:=0) (show(["box","pen","world"]:List Str).Nodup by decide +kernel) rfl (by first|exact Or.inl rfl|exact Or.inr rfl)))) (fun _ _ _=>(aP aB hr rfl (ab (af (wpv 1)) (ab (bo hu (gu (ab (ar ag) (ab (bo hu (af (wpv 2)) (ar ag) (fun _ _=>rfl) (fun _ _=>rfl)) aw))) (cq nH DU rfl B.int OG.mC (ab (pG fg lZ (aP aB hr rfl (ab (af (wpv 1)) (ab (ar ag) aw))) (ar ag) (aL _)) aw)) (fun _ _=>rfl) (fun _ _=>rfl)) aw)))) rfl rfl (by decide +kernel) (by decide +kernel) ⟨rfl,rfl,trivial⟩ rfl (.cons ⟨rfl,rfl,rfl,_,rfl⟩ (.cons ⟨rfl,rfl,rfl,_,rfl⟩ .nil)) rfl rfl) aw)))))
theorem lL:aQ ["world","dealings","row","found","number","dealing","told"] ["world","dealings","row"] (ay jB):=⟨rfl,rfl,rfl,by decide +kernel,rfl,by decide +kernel,by decide +kernel⟩
theorem sY{k:Nat}{a8:Fn}(d:Def K mg "_law_next" jB ["world","dealings","row"])(B:Blt mg)(dZ:c8 P w K mg base "_law_alone" (k) ["world","dealing","state"] a8):c8 P w K mg base "_law_next" (k+1) ["world","dealings","row"] (fnU 7 3 (tP a8)):=
 d.pure lL fun f cdv A outer s H E hr=>(by
  have hu:=de hr
  have nd:=lL.nd
  exact(aq (aI (i:=3) nd rfl (by first|exact Or.inl rfl|exact Or.inr rfl) (gu aw))
   (aq (ik PassesOwn.never rfl (sD rfl B.enumerate (af (wpv 1))) (ng rfl (cN (bh (i:=4) nd rfl (by first|exact Or.inl rfl|exact Or.inr rfl)) (cN (bh (i:=5) nd rfl (by first|exact Or.inl rfl|exact Or.inr rfl)) jE))) (ax (bL (j7 hu (af (wpv 4)) (bo hu (af (wpv 2)) (ar ag) (fun _ _=>rfl) (fun _ _=>rfl)) (by with_unfolding_all rfl)) (aq (aI (i:=6) nd rfl (by first|exact Or.inl rfl|exact Or.inr rfl) (aP dZ hr rfl (ab (af (wpv 0)) (ab (af (wpv 5)) (ab (bo hu (af (wpv 2)) (ar ag) (fun _ _=>rfl) (fun _ _=>rfl)) aw)))))
   (ax (bL (aR fg lZ (bo hu (af (wpv 6)) (ar ag) (fun _ _=>rfl) (fun _ _=>rfl)) (aY aC) (aL _)) (ax (b7 (du (af (wpv 3)) (ab (bt (ab (af (wpv 4)) (ab (bt (ab (cq cR jF rfl B.tuple OG.dX (ab (bC qR qO rfl B.sorted OG.gZ (ab (dG dE dD (bo hu (af (wpv 2)) (ar ag) (fun _ _=>rfl) (fun _ _=>rfl)) (bt (ab (af (wpv 4)) aw))) aw)) aw)) (ab (bo hu (af (wpv 6)) (ar ag) (fun _ _=>rfl) (fun _ _=>rfl)) aw))) aw))) aw)))) bz))) bz)))
   (ax (aZ (af (wpv 3)))))))
theorem lK:aQ ["world","state","dealings","rows","known","at","number","row"] ["world","state","dealings"] (ay jA):=⟨rfl,rfl,rfl,by decide +kernel,rfl,by decide +kernel,by decide +kernel⟩
theorem sX{k:Nat}{aG:Fn}{fuel:Nat}(d:Def K mg "_law_rows" jA ["world","state","dealings"])(B:Blt mg)(cS:c8 P w K mg base "_law_next" (k) ["world","dealings","row"] aG):c8 P w K mg base "_law_rows" (k+1) ["world","state","dealings"] (fnU 8 3 (fP aG fuel)):=
 d.pure lK fun f cdv A outer s H E hr=>(by
  have hu:=de hr
  have nd:=lK.nd
  exact(aq (aI (i:=3) nd rfl (by first|exact Or.inl rfl|exact Or.inr rfl) (gu (ab (bt (ab (bt aw) (ab (af (wpv 1)) aw))) aw)))
   (aq (aI (i:=4) nd rfl (by first|exact Or.inl rfl|exact Or.inr rfl) (xb (kj hr) (bo hu (af (wpv 3)) (ar ag) (fun _ _=>rfl) (fun _ _=>rfl)) (gu aw)))
   (aq (aI (i:=5) nd rfl (by first|exact Or.inl rfl|exact Or.inr rfl) (ar ag))
   (aq (mr fuel PassesOwn.never (aR gR pL (af (wpv 5)) (bC fW fV rfl B.len PySem.boot_len (ab (af (wpv 3)) aw)) (aL _)) (aq (ik PassesOwn.never rfl (oK (aP cS hr rfl (ab (af (wpv 0)) (ab (af (wpv 2)) (ab (bo hu (af (wpv 3)) (af (wpv 5)) (fun _ _=>rfl) (fun _ _=>rfl)) aw))))) (ng rfl (cN (bh (i:=6) nd rfl (by first|exact Or.inl rfl|exact Or.inr rfl)) (cN (bh (i:=7) nd rfl (by first|exact Or.inl rfl|exact Or.inr rfl)) jE))) (ax (bL (qL (kj hr) (af (wpv 7)) (af (wpv 4)) (by with_unfolding_all rfl)) (aq (qK (kj hr) (af (wpv 4)) (af (wpv 7)) (dG dE dD (Dr (kj hr) (af (wpv 4)) (bo hu (af (wpv 3)) (af (wpv 5)) (fun _ _=>rfl) (fun _ _=>rfl)) (fun _ _=>rfl)) (gu (ab (af (wpv 6)) aw))))
   (ax (b7 (du (af (wpv 3)) (ab (af (wpv 7)) aw))))) bz)))
   (ax (aI (i:=5) nd rfl (by first|exact Or.inl rfl|exact Or.inr rfl) (dG dE dD (af (wpv 5)) (ar ag))))))
   (ax (aZ (af (wpv 4)))))))))
theorem jg:aQ ["world","state","dealings","known","found"] ["world","state","dealings"] (ay gO):=⟨rfl,rfl,rfl,by decide +kernel,rfl,by decide +kernel,by decide +kernel⟩
theorem pV{k:Nat}{dQ aG:Fn}(d:Def K mg "_law_fewest" gO ["world","state","dealings"])(B:Blt mg)(jT:c8 P w K mg base "_law_rows" (k) ["world","state","dealings"] dQ)(cS:c8 P w K mg base "_law_next" (k) ["world","dealings","row"] aG):c8 P w K mg base "_law_fewest" (k+1) ["world","state","dealings"] (fnU 5 3 (eA dQ aG)):=
 d.pure jg fun f cdv A outer s H E hr=>(by
  have hu:=de hr
  have nd:=jg.nd
  exact(aq (aI (i:=3) nd rfl (by first|exact Or.inl rfl|exact Or.inr rfl) (aP jT hr rfl (ab (af (wpv 0)) (ab (af (wpv 1)) (ab (af (wpv 2)) aw)))))
   (aq (pE (Nc:=["row","dealings","world"]) (tn:=["row"]) (capN:=["dealings","world"]) (caps:=[2,0]) rfl (af (wpv 3)) (fun _ _ _=>(fJ (bh (i:=0) (show(["row","dealings","world"]:List Str).Nodup by decide +kernel) rfl (by first|exact Or.inl rfl|exact Or.inr rfl)))) (fun _ _ _=>(sE (kI (aR gR pL (bC fW fV rfl B.len PySem.boot_len (ab (bo hu (af (wpv 0)) (ar ag) (fun _ _=>rfl) (fun _ _=>rfl)) aw)) (bC fW fV rfl B.len PySem.boot_len (ab (af (wpv 1)) aw)) (aL _)) (jj (aR (Bw hr.units) DV (aP cS hr rfl (ab (af (wpv 2)) (ab (af (wpv 1)) (ab (af (wpv 0)) aw)))) (gu aw) (aL _)))))) (fun _ _ _=>(bC fW fV rfl B.len PySem.boot_len (ab (bo hu (af (wpv 0)) (ar ag) (fun _ _=>rfl) (fun _ _=>rfl)) aw))) rfl rfl (by decide +kernel) (by decide +kernel) ⟨rfl,rfl,trivial⟩ rfl (.cons ⟨rfl,rfl,rfl,_,rfl⟩ (.cons ⟨rfl,rfl,rfl,_,rfl⟩ .nil)) rfl rfl nd rfl rfl rfl)
   (ax (aZ (bC (Hf rfl) G5 rfl B.min OG.u9 (ab (dG dE dD (af (wpv 4)) (gu (ab (ar ag) aw))) aw)))))))
theorem ie:aQ ["world","dealings","state","order","done","number","told"] ["world","dealings","state","order"] (ay fE):=⟨rfl,rfl,rfl,by decide +kernel,rfl,by decide +kernel,by decide +kernel⟩
theorem nz{k:Nat}{a8 aG:Fn}(d:Def K mg "_law_is_stuck" fE ["world","dealings","state","order"])(B:Blt mg)(dZ:c8 P w K mg base "_law_alone" (k) ["world","dealing","state"] a8)(cS:c8 P w K mg base "_law_next" (k) ["world","dealings","row"] aG):c8 P w K mg base "_law_is_stuck" (k+1) ["world","dealings","state","order"] (fnU 7 4 (dj a8 aG)):=
 d.pure ie fun f cdv A outer s H E hr=>(by
  have hu:=de hr
  have nd:=ie.nd
  exact(aq (aI (i:=4) nd rfl (by first|exact Or.inl rfl|exact Or.inr rfl) (bt aw))
   (aq (ik PassesOwn.never rfl (oK (af (wpv 3))) (fJ (bh (i:=5) nd rfl (by first|exact Or.inl rfl|exact Or.inr rfl))) (aq (bL (sE (Dp (lO (gB (xa (T:=.int) (by intro z;cases z) (af (wpv 5)) (qu rfl B.int OG.mC) rfl B.isinstance))) (Dp (gB (xa (T:=.bool) (by intro z;cases z) (af (wpv 5)) (qu rfl B.bool OG.yQ) rfl B.isinstance)) (w9 (lO (zS KQ M6 gR pL (ar ag) (af (wpv 5)) (bC fW fV rfl B.len PySem.boot_len (ab (af (wpv 1)) aw)))))))) (ax (aZ (qj eD))) bz)
   (aq (aI (i:=6) nd rfl (by first|exact Or.inl rfl|exact Or.inr rfl) (aP dZ hr rfl (ab (af (wpv 0)) (ab (bo hu (af (wpv 1)) (af (wpv 5)) (fun _ _=>rfl) (fun _ _=>rfl)) (ab (af (wpv 2)) aw)))))
   (aq (bL (sE (Dp (Ky hu (af (wpv 5)) (af (wpv 4)) (by with_unfolding_all rfl)) (w9 (aR xn GY (bo hu (af (wpv 6)) (ar ag) (fun _ _=>rfl) (fun _ _=>rfl)) (aY aC) (aL _))))) (ax (aZ (qj eD))) bz)
   (aq (aI (i:=2) nd rfl (by first|exact Or.inl rfl|exact Or.inr rfl) (bo hu (af (wpv 6)) (ar ag) (fun _ _=>rfl) (fun _ _=>rfl)))
   (ax (aI (i:=4) nd rfl (by first|exact Or.inl rfl|exact Or.inr rfl) (dG dE dD (af (wpv 4)) (bt (ab (af (wpv 5)) aw))))))))))
   (ax (aZ (xc (pG gR pL (bC fW fV rfl B.len PySem.boot_len (ab (af (wpv 4)) aw)) (bC fW fV rfl B.len PySem.boot_len (ab (af (wpv 1)) aw)) (aL _)) (Dq (pG (Bw hr.units) DV (aP cS hr rfl (ab (af (wpv 0)) (ab (af (wpv 1)) (ab (bt (ab (af (wpv 4)) (ab (af (wpv 2)) aw))) aw)))) (gu aw) (aL _)))))))))
theorem lH:aQ ["world","dealings","place","ways","number","dealing","told"] ["world","dealings","place"] (ay jw):=⟨rfl,rfl,rfl,by decide +kernel,rfl,by decide +kernel,by decide +kernel⟩
theorem sV{k:Nat}{gW:Fn}(d:Def K mg "ways_from" jw ["world","dealings","place"])(B:Blt mg)(t6:c8 P w K mg base "alone" (k) ["world","dealing","state"] gW):c8 P w K mg base "ways_from" (k+1) ["world","dealings","place"] (fnU 7 3 (eO gW)):=
 d.pure lH fun f cdv A outer s H E hr=>(by
  have hu:=de hr
  have nd:=lH.nd
  exact(aq (aI (i:=3) nd rfl (by first|exact Or.inl rfl|exact Or.inr rfl) (gu aw))
   (aq (ik PassesOwn.never rfl (sD rfl B.enumerate (af (wpv 1))) (ng rfl (cN (bh (i:=4) nd rfl (by first|exact Or.inl rfl|exact Or.inr rfl)) (cN (bh (i:=5) nd rfl (by first|exact Or.inl rfl|exact Or.inr rfl)) jE))) (ax (bL (j7 hu (af (wpv 4)) (bo hu (af (wpv 2)) (ar ag) (fun _ _=>rfl) (fun _ _=>rfl)) (by with_unfolding_all rfl)) (aq (aI (i:=6) nd rfl (by first|exact Or.inl rfl|exact Or.inr rfl) (aP t6 hr rfl (ab (af (wpv 0)) (ab (af (wpv 5)) (ab (bo hu (af (wpv 2)) (ar ag) (fun _ _=>rfl) (fun _ _=>rfl)) aw)))))
   (ax (bL (aR fg lZ (bo hu (af (wpv 6)) (ar ag) (fun _ _=>rfl) (fun _ _=>rfl)) (aY aC) (aL _)) (ax (b7 (du (af (wpv 3)) (ab (bt (ab (af (wpv 4)) (ab (bt (ab (cq cR jF rfl B.tuple OG.dX (ab (bC qR qO rfl B.sorted OG.gZ (ab (dG dE dD (bo hu (af (wpv 2)) (ar ag) (fun _ _=>rfl) (fun _ _=>rfl)) (bt (ab (af (wpv 4)) aw))) aw)) aw)) (ab (bo hu (af (wpv 6)) (ar ag) (fun _ _=>rfl) (fun _ _=>rfl)) aw))) aw))) aw)))) bz))) bz)))
   (ax (aZ (af (wpv 3)))))))
theorem gz:aQ ["world","state","dealings","rows","left","place","number","reached"] ["world","state","dealings"] (ay fc):=⟨rfl,rfl,rfl,by decide +kernel,rfl,by decide +kernel,by decide +kernel⟩
theorem l6{k:Nat}{aX:Fn}{fuel:Nat}(d:Def K mg "rows_to_places" fc ["world","state","dealings"])(B:Blt mg)(eQ:c8 P w K mg base "ways_from" (k) ["world","dealings","place"] aX):c8 P w K mg base "rows_to_places" (k+1) ["world","state","dealings"] (fnU 8 3 (cT aX fuel)):=
 d.pure gz fun f cdv A outer s H E hr=>(by
  have hu:=de hr
  have nd:=gz.nd
  exact(aq (aI (i:=3) nd rfl (by first|exact Or.inl rfl|exact Or.inr rfl) (xb (kj hr) (bt (ab (bt aw) (ab (af (wpv 1)) aw))) (gu aw)))
   (aq (aI (i:=4) nd rfl (by first|exact Or.inl rfl|exact Or.inr rfl) (gu (ab (bt (ab (bt aw) (ab (af (wpv 1)) aw))) aw)))
   (aq (mr fuel PassesOwn.never (aR qQ Bt (bC fW fV rfl B.len PySem.boot_len (ab (af (wpv 4)) aw)) (ar ag) (aL _)) (aq (aI (i:=5) nd rfl (by first|exact Or.inl rfl|exact Or.inr rfl) (Dm (af (wpv 4)) (ab (ar ag) aw)))
   (ax (ik PassesOwn.never rfl (oK (aP eQ hr rfl (ab (af (wpv 0)) (ab (af (wpv 2)) (ab (af (wpv 5)) aw))))) (ng rfl (cN (bh (i:=6) nd rfl (by first|exact Or.inl rfl|exact Or.inr rfl)) (cN (bh (i:=7) nd rfl (by first|exact Or.inl rfl|exact Or.inr rfl)) jE))) (ax (bL (qL (kj hr) (af (wpv 7)) (af (wpv 3)) (by with_unfolding_all rfl)) (aq (qK (kj hr) (af (wpv 3)) (af (wpv 7)) (dG dE dD (Dr (kj hr) (af (wpv 3)) (af (wpv 5)) (fun _ _=>rfl)) (gu (ab (af (wpv 6)) aw))))
   (ax (b7 (du (af (wpv 4)) (ab (af (wpv 7)) aw))))) bz))))))
   (ax (aZ (af (wpv 3))))))))
theorem m7:aQ ["world","dealings","place"] ["world","dealings","place"] (ay kG):=⟨rfl,rfl,rfl,by decide +kernel,rfl,by decide +kernel,by decide +kernel⟩
theorem vF{k:Nat}{aX:Fn}(d:Def K mg "is_stuck" kG ["world","dealings","place"])(B:Blt mg)(eQ:c8 P w K mg base "ways_from" (k) ["world","dealings","place"] aX):c8 P w K mg base "is_stuck" (k+1) ["world","dealings","place"] (fnU 3 3 (fA aX)):=
 d.pure m7 fun f cdv A outer s H E hr=>(by
  have hu:=de hr
  have nd:=m7.nd
  exact(ax (aZ (xc (pG gR pL (bC fW fV rfl B.len PySem.boot_len (ab (bo hu (af (wpv 2)) (ar ag) (fun _ _=>rfl) (fun _ _=>rfl)) aw)) (bC fW fV rfl B.len PySem.boot_len (ab (af (wpv 1)) aw)) (aL _)) (Dq (pG fg lZ (bC fW fV rfl B.len PySem.boot_len (ab (aP eQ hr rfl (ab (af (wpv 0)) (ab (af (wpv 1)) (ab (af (wpv 2)) aw)))) aw)) (ar ag) (aL _)))))))
theorem uo:aQ ["world","state","dealings","rows","place"] ["world","state","dealings"] (ay sy):=⟨rfl,rfl,rfl,by decide +kernel,rfl,by decide +kernel,by decide +kernel⟩
theorem Em{k:Nat}{bq dv:Fn}(d:Def K mg "stuck" sy ["world","state","dealings"])(B:Blt mg)(fj:c8 P w K mg base "rows_to_places" (k) ["world","state","dealings"] bq)(lq:c8 P w K mg base "is_stuck" (k) ["world","dealings","place"] dv):c8 P w K mg base "stuck" (k+1) ["world","state","dealings"] (fnU 5 3 (nI bq dv)):=
 d.pure uo fun f cdv A outer s H E hr=>(by
  have hu:=de hr
  have nd:=uo.nd
  exact(aq (aI (i:=3) nd rfl (by first|exact Or.inl rfl|exact Or.inr rfl) (aP fj hr rfl (ab (af (wpv 0)) (ab (af (wpv 1)) (ab (af (wpv 2)) aw)))))
   (aq (Dj PassesOwn.never rfl (af (wpv 3)) (fJ (bh (i:=4) nd rfl (by first|exact Or.inl rfl|exact Or.inr rfl))) (ax (bL (gB (aP lq hr rfl (ab (af (wpv 0)) (ab (af (wpv 2)) (ab (af (wpv 4)) aw))))) (ax (aZ (bt (ab (aY aC) (ab (Dr (kj hr) (af (wpv 3)) (af (wpv 4)) (fun _ _=>rfl)) aw))))) bz)))
   (ax (aZ (bt (ab (aY aC) (ab (cq (D2 rfl) DT rfl B.list OG.eB (ab (af (wpv 3)) aw)) aw))))))))
theorem Bn:aQ ["script","pen","world","turn","state","dealings","fewest","again","handed","found"] ["script"] (ay Df):=⟨rfl,rfl,rfl,by decide +kernel,rfl,by decide +kernel,by decide +kernel⟩
def nM(cu br aT bS gU bw:Fn):CS:=
 (bg (bO 8 (cCB jM (ae (ah 5) aA)))
  (bg (bO 9 (cCB gU (ae (ah 2) (ae (ah 4) (ae (ah 8) aA)))))
  (bg (dM (cOr (yN (aH (EG .tuple (ah 9)))) (cOr (aH (cOp fNe (cCB fU (ae (ah 9) aA)) (cC (.int 2)))) (aH (cOp (vL true) (ah 8) (ah 5))))) (eV (cC (.bl false))) cf)
  (bg (dM (yN (aH (EG .list (cOp fIx (ah 9) (cC (.int 1)))))) (eV (cC (.bl false))) cf)
  (bg (dM (cOr (aH (cOp fNe (cOp fIx (ah 9) (cC (.int 0))) (cOp fIx (gG (ae (cC (.str "free")) (ae (cC (.str "stuck")) aA))) (cCB y6 (ae (cOp fLt (ah 6) (cC (.int 7))) aA))))) (yN (aH (EG .str (cOp fIx (ah 9) (cC (.int 0))))))) (eV (cC (.bl false))) cf)
  (bg (dM (me (aH (cOp fLt (ah 6) (cC (.int 7)))) (aH (cOp fNe (cCB fU (ae (cOp fIx (ah 9) (cC (.int 1))) aA)) (ah 6)))) (eV (cC (.bl false))) cf)
  (bg (dM (me (aH (cOp fLt (ah 6) (cC (.int 7)))) (yN (aH (cCB bw (ae (ah 2) (ae (ah 5) (ae (ah 4) (ae (cOp fIx (ah 9) (cC (.int 1))) aA)))))))) (eV (cC (.bl false))) cf)
  (d3 (cBM bU (cOp fIx (ah 9) (cC (.int 1))) (ae (cC (.int 0)) aA))))))))))
def nL(cu br aT bS gU bw:Fn):CS:=
 (bg (bO 4 (cCB br (ae (ah 1) (ae (ah 2) aA))))
  (bg (bO 5 (cCB aT (ae (ah 1) (ae (ah 2) (ae (cC (.int 6)) aA)))))
  (bg (bO 6 (cCB bS (ae (ah 2) (ae (ah 4) (ae (ah 5) aA)))))
  (jV (fh (ae (cC (.int 2)) aA)) (gNm 7) (nM cu br aT bS gU bw)))))
def yL(cu br aT bS gU bw:Fn):CS:=
 (bg (bO 2 (cCB cu (ae (ah 1) aA)))
  (bg (jV (fh (ae (cC (.int 2)) aA)) (gNm 3) (nL cu br aT bS gU bw))
  (eV (cC (.bl true)))))
theorem LB{k:Nat}{cu br aT bS gU bw:Fn}{fa:Addr}{fd:FuncData}(F:Fun K "law" "law" Df fa fd)(B:Blt mg)(vV:Has P w K mg base "_law_pen" k ["script"] (Bl K))(i7:c8 P w K mg base "_law_world" k ["pen"] cu)(fk:c8 P w K mg base "_law_few_state" k ["pen","world"] br)(dF:c8 P w K mg base "_law_some_dealings" k ["pen","world","most"] aT)(hV:c8 P w K mg base "_law_fewest" k ["world","state","dealings"] bS)(t4:c8 P w K mg base "stuck" k ["world","state","dealings"] gU)(fS:c8 P w K mg base "_law_is_stuck" k ["world","dealings","state","order"] bw)
  (ok:∀(ns:List Int) (a c:Int),0<=a->0<=c->∃ρ' S',yL cu br aT bS gU bw [none,some (.ref 1),none,none,none,none,none,none,none,none] [.lst (ns.map U.int),.lst [.ref 0,.int a,.int c]]=some (.rt (.bl true),ρ',S')):lW P w K mg base CX0 (k+1) fa fd ["script"] (zK K):=by
 refine Fun.okW F Bn (fun vs H Q E h=>(by obtain⟨a,ns,rfl,_⟩:=h;rfl)) fun cdv A outer s H vs Q E hr h=>?_
 obtain⟨a,ns,rfl,hS,hlen,q⟩:=h
 have hu:=de hr
 have nd:=Bn.nd
 refine⟨_,qt (u:=tS K (yL cu br aT bS gU bw)) (wm (i:=1) nd rfl (by first|exact Or.inl rfl|exact Or.inr rfl) (Bh vV hr rfl (fu (wpv 0) kF))) (aq (aI (i:=2) nd rfl (by first|exact Or.inl rfl|exact Or.inr rfl) (aP i7 hr rfl (ab (af (wpv 1)) aw)))
   (aq (ik PassesOwn.never rfl (iV rfl B.range (ab (ar ag) aw)) (fJ (bh (i:=3) nd rfl (by first|exact Or.inl rfl|exact Or.inr rfl))) (aq (aI (i:=4) nd rfl (by first|exact Or.inl rfl|exact Or.inr rfl) (aP fk hr rfl (ab (af (wpv 1)) (ab (af (wpv 2)) aw))))
   (aq (aI (i:=5) nd rfl (by first|exact Or.inl rfl|exact Or.inr rfl) (aP dF hr rfl (ab (af (wpv 1)) (ab (af (wpv 2)) (ab (ar ag) aw)))))
   (aq (aI (i:=6) nd rfl (by first|exact Or.inl rfl|exact Or.inr rfl) (aP hV hr rfl (ab (af (wpv 2)) (ab (af (wpv 4)) (ab (af (wpv 5)) aw)))))
   (ax (ik PassesOwn.never rfl (iV rfl B.range (ab (ar ag) aw)) (fJ (bh (i:=7) nd rfl (by first|exact Or.inl rfl|exact Or.inr rfl))) (aq (aI (i:=8) nd rfl (by first|exact Or.inl rfl|exact Or.inr rfl) (cq dg oN rfl B.list OG.eB (ab (af (wpv 5)) aw)))
   (aq (aI (i:=9) nd rfl (by first|exact Or.inl rfl|exact Or.inr rfl) (aP t4 hr rfl (ab (af (wpv 2)) (ab (af (wpv 4)) (ab (af (wpv 8)) aw)))))
   (aq (bL (sE (Dp (lO (gB (xa (T:=.tuple) (by intro z;cases z) (af (wpv 9)) (qu rfl B.tuple OG.dX) rfl B.isinstance))) (Dp (aR xn GY (bC fW fV rfl B.len PySem.boot_len (ab (af (wpv 9)) aw)) (ar ag) (aL _)) (w9 (aR (Ha hr.units) DV (af (wpv 8)) (af (wpv 5)) (aL _)))))) (ax (aZ (qj eD))) bz)
   (aq (bL (lO (gB (xa (T:=.list) (by intro z;cases z) (bo hu (af (wpv 9)) (ar ag) (fun _ _=>rfl) (fun _ _=>rfl)) (qu rfl B.list OG.eB) rfl B.isinstance))) (ax (aZ (qj eD))) bz)
   (aq (bL (sE (Dp (aR xn GY (bo hu (af (wpv 9)) (ar ag) (fun _ _=>rfl) (fun _ _=>rfl)) (bo hu (gu (ab (aY aC) (ab (aY aC) aw))) (cq nH DU rfl B.int OG.mC (ab (pG gR pL (af (wpv 6)) (ar ag) (aL _)) aw)) (fun _ _=>rfl) (fun _ _=>rfl)) (aL _)) (w9 (lO (gB (xa (T:=.str) (by intro z;cases z) (bo hu (af (wpv 9)) (ar ag) (fun _ _=>rfl) (fun _ _=>rfl)) (qu rfl B.str OG.A8) rfl B.isinstance)))))) (ax (aZ (qj eD))) bz)
   (aq (bL (sE (kI (aR gR pL (af (wpv 6)) (ar ag) (aL _)) (jj (aR xn GY (bC fW fV rfl B.len PySem.boot_len (ab (bo hu (af (wpv 9)) (ar ag) (fun _ _=>rfl) (fun _ _=>rfl)) aw)) (af (wpv 6)) (aL _))))) (ax (aZ (qj eD))) bz)
   (aq (bL (sE (kI (aR gR pL (af (wpv 6)) (ar ag) (aL _)) (jj (lO (gB (aP fS hr rfl (ab (af (wpv 2)) (ab (af (wpv 5)) (ab (af (wpv 4)) (ab (bo hu (af (wpv 9)) (ar ag) (fun _ _=>rfl) (fun _ _=>rfl)) aw)))))))))) (ax (aZ (qj eD))) bz)
   (ax (b7 (du (bo hu (af (wpv 9)) (ar ag) (fun _ _=>rfl) (fun _ _=>rfl)) (ab (ar ag) aw)))))))))))))))))
   (ax (aZ (qj eD))))),?_⟩
 refine⟨_,rfl,a,ns,rfl,hS,fun p xs H1 s1 P1 n1=>?_⟩
 exact D5 P1 ok q
end
end OL
namespace OQ
open PySem PySem.Spec PyProof.Rows L2 OG OP
abbrev Pl:=List Int×List Int
def plU(p:Pl):U:=.tup [.tup (p.1.map U.int),.tup (p.2.map U.int)]
def nkP(p:Pl):NK:=[p.1,p.2]
abbrev Kn:=List (Pl×List Int)
def goD(w:Int)(st:List Int)(d:List (Dl 2)):Option (List Int):=match nZ w st 2 d m0 with
 |(true,m)=>some (beh st m.ps 0)
 |(false,_)=>none
def zD(w:Int)(p:Pl)(d:List (Dl 2))(k:Nat):List (Int×Pl):=if (k:Int)∈p.1 then[]else match goD w p.2 d with
 |some st=>[((k:Int),(dr (p.1++[(k:Int)]),st))]
 |none=>[]
def bD(w:Int)(p:Pl):List (List (Dl 2))->Nat->List (Int×Pl)
 |[],_=>[]
 |d::r,k=>zD w p d k++bD w p r (k+1)
def rY(row:List Int):List (Int×Pl)->Kn->Kn
 |[],kn=>kn
 |(a,p)::r,kn=>rY row r (if p∈kn.map (·.1)then kn else kn++[(p,row++[a])])
section
variable{w:Int}{Ds:List (List (Dl 2))}{st0:List Int}{p p':Pl}{a:Int}{r row:List Int}{kn:Kn}
theorem yd{st st':List Int}{d:List (Dl 2)}(h:goD w st d=some st'):st'.length=st.length:=by
 unfold goD at h
 split at h
 ·cases h;rw[jQ]
 ·cases h
theorem fB:∀{ds:List (List (Dl 2))} {k:Nat},(a,p')∈bD w p ds k->∃i:Nat,a=((k+i:Nat):Int)/\i<ds.length/\a∉p.1/\∃st,goD w p.2 (ds.getD i [])=some st/\p'=(dr (p.1++[a]),st)
 |[],k,h=>by cases h
 |d::ds,k,h=>by
  rcases List.mem_append.mp h with h|h
  ·unfold zD at h
   split at h
   ·cases h
   ·rename_i hn
    split at h
    ·rename_i st hg
     rw[List.mem_singleton]at h
     cases h
     exact⟨0,rfl,by simp,hn,st,hg,rfl⟩
    ·cases h
  ·obtain⟨i,h1,h2,h3,st,h4,h5⟩:=fB h
   exact⟨i+1,by rw[h1];congr 1;omega,by rw[List.length_cons];omega,h3,st,by simpa using h4,h5⟩
theorem qy:∀{ds:List (List (Dl 2))} {k i:Nat} {st:List Int},i<ds.length->((k+i:Nat):Int)∉p.1->goD w p.2 (ds.getD i [])=some st->(((k+i:Nat):Int),(dr (p.1++[((k+i:Nat):Int)]),st))∈bD w p ds k
 |[],k,i,st,h,_,_=>by cases h
 |d::ds,k,0,st,h,hn,hg=>by
  refine List.mem_append_left _ ?_
  unfold zD
  rw[if_neg (by simpa using hn)]
  have:goD w p.2 d=some st:=by simpa using hg
  rw[this]
  exact List.mem_singleton.mpr rfl
 |d::ds,k,i+1,st,h,hn,hg=>by
  refine List.mem_append_right _ ?_
  have e:k+(i+1)=k+1+i:=by omega
  rw[e]at hn ⊢
  exact qy (by rw[List.length_cons]at h;omega) hn (by simpa using hg)
inductive ql(w:Int)(Ds:List (List (Dl 2)))(st0:List Int):List Int->Pl->Prop
 |nil:ql w Ds st0 [] ([],st0)
 |snoc {r:List Int} {p p':Pl} {a:Int}:ql w Ds st0 r p->(a,p')∈bD w p Ds 0->ql w Ds st0 (r++[a]) p'
theorem vw:dr (dr r++[a])=dr (r++[a]):=
 (mj ((cg _).trans ((cg r).append_right [a])) (iF _))
structure IH(Ds:List (List (Dl 2)))(st0 r:List Int)(p:Pl):Prop where
 nd:r.Nodup
 bd:∀b∈r,0<=b/\b<(Ds.length:Int)
 gone:p.1=dr r
 len:p.2.length=st0.length
theorem ql.ok(h:ql w Ds st0 r p):IH Ds st0 r p:=by
 induction h with
 |nil=>exact⟨List.nodup_nil,fun b hb=>(List.not_mem_nil hb).elim,by simp[dr],rfl⟩
 |@snoc r p p' a _ hw ih=>
  obtain⟨i,h1,h2,h3,st,h4,h5⟩:=fB hw
  subst h5
  have na:a∉r:=fun z=>h3 (by rw[ih.gone];exact(cg r).mem_iff.mpr z)
  refine⟨List.nodup_append.mpr ⟨ih.nd,by simp,fun x hx y hy e=>na (by rw[List.mem_singleton.mp hy]at e;rw[<-e];exact hx)⟩,fun b hb=>?_,by rw[ih.gone,vw],by rw[yd h4,ih.len]⟩
  rcases List.mem_append.mp hb with z|z
  ·exact ih.bd b z
  ·rw[List.mem_singleton.mp z,h1];omega
theorem zB{p1 p2:Pl}(h1:(a,p1)∈bD w p Ds 0)(h2:(a,p2)∈bD w p Ds 0):p1=p2:=by
 obtain⟨i,e1,_,_,st,g1,rfl⟩:=fB h1
 obtain⟨j,e2,_,_,st',g2,rfl⟩:=fB h2
 have:i=j:=by omega
 subst this
 rw[g1]at g2;cases g2;rfl
theorem ql.det(h:ql w Ds st0 r p):∀{p'},ql w Ds st0 r p'->p=p':=by
 induction h with
 |nil=>
  intro p' h
  generalize e:([]:List Int)=r at h
  cases h with
  |nil=>rfl
  |snoc _ _=>exact absurd e.symm (by simp)
 |@snoc r p q a h1 hw ih=>
  intro p' h
  generalize e:r++[a]=s at h
  cases h with
  |nil=>exact absurd e (by simp)
  |@snoc r' p2 _ a' h2 hw'=>
   obtain⟨e1,e2⟩:=List.append_inj' e rfl
   cases e2
   subst e1
   have:=ih h2
   subst this
   exact zB hw hw'
def Nh(r:List Int):List (List Int):=([0,1,2,3,4,5]:List Int).filterMap fun a=>if a∈r then none else some (r++[a])
def K2:Nat->List (List Int)
 |0=>[[]]
 |k+1=>(K2 k).flatMap Nh
def Mv:List (List Int):=[0,1,2,3,4,5,6].flatMap K2
theorem Ba:Mv.length=1957:=by decide +kernel
theorem ql.lev(hN:Ds.length<=6)(h:ql w Ds st0 r p):r∈K2 r.length:=by
 induction h with
 |nil=>exact List.mem_singleton.mpr rfl
 |@snoc r p p' a h0 hw ih=>
  have ok:=(ql.snoc h0 hw).ok
  rw[List.length_append,List.length_singleton]
  refine List.mem_flatMap.mpr ⟨r,ih,List.mem_filterMap.mpr ⟨a,?_,?_⟩⟩
  ·have:=ok.bd a (List.mem_append_right _ List.mem_cons_self)
   simp only[List.mem_cons,List.not_mem_nil,or_false]
   omega
  ·rw[if_neg fun z=>(List.nodup_append.mp ok.nd).2.2 a z a List.mem_cons_self rfl]
theorem ql.few(hN:Ds.length<=6)(h:ql w Ds st0 r p):r.length<=Ds.length:=by
 have ok:=h.ok
 have:=List.Nodup.length_le_of_subset ok.nd (l₂:=(List.range Ds.length).map fun i:Nat=>(i:Int)) fun b hb=>by
  obtain⟨h1,h2⟩:=ok.bd b hb
  exact List.mem_map.mpr ⟨b.toNat,List.mem_range.mpr (by omega),by omega⟩
 simpa using this
structure KnI(w:Int)(Ds:List (List (Dl 2)))(st0:List Int)(kn:Kn):Prop where
 nd:(kn.map (·.1)).Nodup
 pa:∀q∈kn,ql w Ds st0 q.2 q.1
theorem KnI.few(h:KnI w Ds st0 kn)(hN:Ds.length<=6):kn.length<=1957:=by
 have nd:(kn.map (·.2)).Nodup:=by
  refine List.pairwise_map.mpr (List.Pairwise.imp_of_mem (fun{x y} hx hy hn e=>hn ?_) (List.pairwise_map.mp h.nd))
  have h1:=h.pa x hx
  have h2:=h.pa y hy
  rw[<-e]at h2
  exact h1.det h2
 have:=List.Nodup.length_le_of_subset nd (l₂:=Mv) fun x hx=>by
  obtain⟨q,hq,rfl⟩:=List.mem_map.mp hx
  have hp:=h.pa q hq
  have hl:=hp.few hN
  refine List.mem_flatMap.mpr ⟨q.2.length,?_,hp.lev hN⟩
  have:q.2.length<=6:=by omega
  generalize q.2.length=z at this
  match z,this with
  |0,_=>simp
  |1,_=>simp
  |2,_=>simp
  |3,_=>simp
  |4,_=>simp
  |5,_=>simp
  |6,_=>simp
  |z+7,h=>omega
 rw[Ba,List.length_map]at this
 exact this
theorem KnI.add(hp:ql w Ds st0 row p):∀(ws:List (Int×Pl)) (kn:Kn),KnI w Ds st0 kn->(∀x∈ws,x∈bD w p Ds 0)->KnI w Ds st0 (rY row ws kn)
 |[],kn,h,_=>h
 |(a,q)::ws,kn,h,hw=>by
  unfold rY
  refine KnI.add hp ws _ ?_ fun x hx=>hw x (List.mem_cons_of_mem _ hx)
  split
  ·exact h
  ·rename_i hn
   refine⟨?_,fun x hx=>?_⟩
   ·rw[List.map_append,List.nodup_append]
    exact⟨h.nd,by simp,fun x hx y hy e=>hn (by rw[List.map_cons,List.map_nil,List.mem_singleton]at hy;rw[e,hy]at hx;exact hx)⟩
   ·rcases List.mem_append.mp hx with z|z
    ·exact h.pa x z
    ·rw[List.mem_singleton.mp z];exact .snoc hp (hw _ List.mem_cons_self)
theorem jc:∀(ws:List (Int×Pl)) (kn:Kn),∃t,rY row ws kn=kn++t
 |[],kn=>⟨[],(List.append_nil _).symm⟩
 |(a,q)::ws,kn=>by
  unfold rY
  split
  ·exact jc ws kn
  ·obtain⟨t,e⟩:=jc ws (kn++[(q,row++[a])])
   exact⟨[(q,row++[a])]++t,by rw[e,List.append_assoc]⟩
def kn0(st0:List Int):Kn:=[(([],st0),[])]
theorem xM:KnI w Ds st0 (kn0 st0):=⟨by simp[kn0],fun q hq=>by rw[List.mem_singleton.mp hq];exact .nil⟩
def bfs(w:Int)(Ds:List (List (Dl 2))):Nat->Nat->Kn->Kn
 |0,_,kn=>kn
 |f+1,i,kn=>match kn[i]? with
  |none=>kn
  |some q=>bfs w Ds f (i+1) (rY q.2 (bD w q.1 Ds 0) kn)
theorem BS:∀(f i:Nat) (kn:Kn),KnI w Ds st0 kn->KnI w Ds st0 (bfs w Ds f i kn)
 |0,_,kn,h=>h
 |f+1,i,kn,h=>by
  unfold bfs
  split
  ·exact h
  ·rename_i q hq
   exact BS f (i+1) _ (KnI.add (h.pa q (List.mem_of_getElem? hq)) _ _ h fun x hx=>hx)
def cW(w:Int)(Ds:List (List (Dl 2)))(st0:List Int):Kn:=bfs w Ds 3000 0 (kn0 st0)
theorem mq:KnI w Ds st0 (cW w Ds st0):=BS _ _ _ xM
end
theorem ml{ca cb:CS}{ρ ρ':Rho}{S S':Sto}(h:ca ρ S=some (.nx,ρ',S')):bg ca cb ρ S=cb ρ' S':=by rw[Ca,h,Option.bind_some,Bf]
def iE(x:Int×Pl):U:=.tup [.int x.1,plU x.2]
section
variable{n w:Int}{Ds:List (List (Dl 2))}{p:Pl}{f:Fn}{S:Sto}{ld:Nat}
def iC(n w:Int)(f:Fn):Prop:=∀(d:List (Dl 2)) (st:List Int) (S:Sto),OkL n w 2 d->st.length=n.toNat->∃G l,f [.tup [.int n,.int w],dlU d,.tup (st.map U.int)] S=some (told (nZ w st 2 d m0) st l,S++G)
theorem xv{k:Int}{xs:List Int}{S:Sto}:fIn true (.int k) (.tup (xs.map U.int)) S=some (.bl (!decide (k∈xs)),S):=by
 have h1:(xs.map U.int).all gv=true:=by rw[List.all_map];exact List.all_eq_true.mpr fun _ _=>rfl
 have h2:inU (.int k) (xs.map U.int)=decide (k∈xs):=by
  induction xs with
  |nil=>rfl
  |cons x xs ih=>
   have ih:=ih (by rw[List.all_map];exact List.all_eq_true.mpr fun _ _=>rfl)
   unfold inU at ih ⊢
   rw[List.map_cons,List.any_cons,ih]
   have:eqF (.int x) (.int k)=(x == k):=rfl
   rw[this]
   by_cases e:x=k
   ·subst e;simp
   ·have e':¬k=x:=fun z=>e z.symm
    simp[e,e']
 unfold fIn
 dsimp only
 rw[if_pos ⟨rfl,h1⟩,h2]
 rfl
theorem zL{xs:List Int}{k:Int}{S:Sto}(h:xs.length<=40):gX [.tup (xs.map U.int++[.int k])] S=some (.ref S.length,S++[.lst ((dr (xs++[k])).map U.int)]):=by
 have e:xs.map U.int++[U.int k]=(xs++[k]).map U.int:=by rw[List.map_append];rfl
 have hl:(xs++[k]).length<64:=by rw[List.length_append,List.length_singleton];omega
 rw[e]
 simp only[gX,iW,Option.bind_some,if_pos hl]
theorem Gg:decide (("done":Str)="done")=true:=by decide +kernel
theorem Ko:decide (("waits":Str)="done")=false:=by decide +kernel
theorem zC(hf:iC n w f){d:List (Dl 2)}{k:Nat}(od:OkL n w 2 d)(hp:p.1.length<=40)(hs:p.2.length=n.toNat){acc:List (Int×Pl)}{G:Sto}{r6:Option U}(ha:acc.length<=900) :
  ∃G' r6',cB f [some (.tup [.int n,.int w]),some (.ref ld),some (plU p),some (.ref S.length),some (.int k),some (dlU d),r6] (S++(.lst (acc.map iE)::G))
   = some (.nx,[some (.tup [.int n,.int w]),some (.ref ld),some (plU p),some (.ref S.length),some (.int k),some (dlU d),r6'],S++(.lst ((acc++zD w p d k).map iE)::(G++G'))):=by
 unfold zD
 have hL:(acc.map iE).length<LIM:=by unfold LIM;rw[List.length_map];omega
 have hA:(p.1.map U.int).length+1<=LIM:=by unfold LIM;rw[List.length_map];omega
 by_cases hk:(k:Int)∈p.1
 ·rw[if_pos hk]
  refine⟨[],r6,?_⟩
  have h1:∀Y,fIn true (.int k) (.tup (p.1.map U.int)) Y=some (.bl false,Y):=fun Y=>by rw[xv,decide_eq_true hk];rfl
  rwa[cB,plU,h1,List.append_nil]
 ·rw[if_neg hk]
  have h1:∀Y,fIn true (.int k) (.tup (p.1.map U.int)) Y=some (.bl true,Y):=fun Y=>by rw[xv,decide_eq_false hk];rfl
  obtain⟨G1,l,h2⟩:=hf d p.2 (S++(.lst (acc.map iE)::G)) od hs
  unfold goD
  cases er:nZ w p.2 2 d m0 with
  |mk t m=>
   rw[er]at h2
   cases t with
   |false=>
    refine⟨G1,some (.tup [.str "waits",.ref l]),?_⟩
    dsimp only[told]at h2
    simp only[List.append_assoc,List.cons_append]at h2
    rwa[cB,plU,h1,h2,Ko,List.append_nil]
   |true=>
    dsimp only[told]at h2
    obtain⟨Y1,hY⟩:∃Y1,Y1=S++(.lst (acc.map iE)::G)++G1:=⟨_,rfl⟩
    rw[<-hY]at h2
    have h3:∀Y,eF (.tup (p.1.map U.int)) (.tup [.int k]) Y=some (.tup (p.1.map U.int++[.int k]),Y):=fun Y=>by
     simp only[eF];rw[if_pos (by simpa using hA)]
    have g1:∀X,(Y1++X)[S.length]?=some (.lst (acc.map iE)):=fun X=>by rw[hY];exact aJ (aJ (by rw[ga0];rfl))
    have g0:∀Z:Sto,(Y1++Z)[Y1.length]?=Z[0]?:=fun Z=>ga0
    refine⟨G1++[.lst ((dr (p.1++[(k:Int)])).map U.int)],some (.tup [.str "done",.tup ((beh p.2 m.ps 0).map U.int),.tup (m.hs.map U.int)]),?_⟩
    have eS:S++(O.lst ((acc++[((k:Int),(dr (p.1++[(k:Int)]),beh p.2 m.ps 0))]).map iE)::(G++(G1++[O.lst ((dr (p.1++[(k:Int)])).map U.int)])))=(Y1++[O.lst ((dr (p.1++[(k:Int)])).map U.int)]).set S.length (O.lst (acc.map iE++[U.tup [.int k,.tup [.tup ((dr (p.1++[(k:Int)])).map U.int),.tup ((beh p.2 m.ps 0).map U.int)]]])):=by
     rw[hY,List.append_assoc,List.append_assoc,gs0,List.map_append]
     simp only[List.cons_append,List.set_cons_zero]
     rfl
    dsimp only
    rw[eS]
    obtain⟨Sl,hSl⟩:∃Sl,Sl=S.length:=⟨_,rfl⟩
    rw[<-hSl]at g1 ⊢
    have h2':f [.tup [.int n,.int w],dlU d,.tup (p.2.map U.int)] (S++(.lst (acc.map iE)::G))=_:=h2
    obtain⟨Y0,hY0⟩:∃Y0,Y0=S++(O.lst (acc.map iE)::G):=⟨_,rfl⟩
    rw[<-hY0]at h2' ⊢
    clear hY eS hY0 h2
    have g2:Y1[Sl]?=some (.lst (acc.map iE)):=by have:=g1 [];rw[List.append_nil]at this;exact this
    rwa[cB,plU,h1,h2',Gg,h3,zL hp,g0,g1,g2,fq hL]
theorem qx(hf:iC n w f)(hp:p.1.length<=40)(hs:p.2.length=n.toNat)(hd:S[ld]?=some (.lst (Ds.map dlU))):∀(ds:List (List (Dl 2))) (k:Nat) (acc:List (Int×Pl)) (G:Sto) (r4 r5 r6:Option U),(∀d∈ds,OkL n w 2 d)->acc.length+ds.length<=900->
  ∃G' r4' r5' r6',cP (fun Z=>Z[ld]?=some (.lst (Ds.map dlU))) (gTp [4,5]) (cB f) (((ds.map dlU).zipIdx k).map fun p=>.tup [.int p.2,p.1]) [some (.tup [.int n,.int w]),some (.ref ld),some (plU p),some (.ref S.length),r4,r5,r6] (S++(.lst (acc.map iE)::G))
   = some (.nx,[some (.tup [.int n,.int w]),some (.ref ld),some (plU p),some (.ref S.length),r4',r5',r6'],S++(.lst ((acc++bD w p ds k).map iE)::G'))
 |[],k,acc,G,r4,r5,r6,_,_=>⟨G,r4,r5,r6,by rw[show bD w p [] k=[]from rfl,List.append_nil];exact d9 (aJ hd)⟩
 |d::ds,k,acc,G,r4,r5,r6,ok,hl=>by
  rw[List.length_cons]at hl
  obtain⟨G1,r6',h1⟩:=zC (S:=S) (ld:=ld) (k:=k) (acc:=acc) (G:=G) (r6:=r6) hf (ok d List.mem_cons_self) hp hs (by omega)
  have hw:(zD w p d k).length<=1:=by unfold zD;split;exact Nat.zero_le _;split;exact Nat.le_refl _;exact Nat.zero_le _
  obtain⟨G',a4,a5,a6,ih⟩:=qx hf hp hs hd ds (k+1) (acc++zD w p d k) (G++G1) (some (.int k)) (some (dlU d)) r6' (fun x hx=>ok x (List.mem_cons_of_mem _ hx)) (by rw[List.length_append];omega)
  refine⟨G',a4,a5,a6,?_⟩
  rw[List.map_cons,List.zipIdx_cons,List.map_cons,show bD w p (d::ds) k=zD w p d k++bD w p ds (k+1)from rfl,<-List.append_assoc]
  exact(bF (aJ hd) rfl h1).trans ih
def cY(f:Fn):Fn:=fnU 7 3 (eO f)
theorem pj(hf:iC n w f)(hp:p.1.length<=40)(hs:p.2.length=n.toNat)(hd:S[ld]?=some (.lst (Ds.map dlU)))(ok:∀d∈Ds,OkL n w 2 d)(hl:Ds.length<=900) :
  ∃G,cY f [.tup [.int n,.int w],.ref ld,plU p] S=some (.ref S.length,S++(.lst ((bD w p Ds 0).map iE)::G)):=by
 unfold cY
 rw[tx]
 obtain⟨G,r4,r5,r6,h⟩:=qx (S:=S) (ld:=ld) hf hp hs hd Ds 0 [] [] none none none ok (by rw[List.length_nil];omega)
 refine⟨G,?_⟩
 rw[List.nil_append]at h
 have e1:bO 3 (gG aA) [some (.tup [.int n,.int w]),some (.ref ld),some (plU p),none,none,none,none] S=some (.nx,[some (.tup [.int n,.int w]),some (.ref ld),some (plU p),some (.ref S.length),none,none,none],S++[.lst []]):=rfl
 have gl:(S++[O.lst []])[ld]?=some (.lst (Ds.map dlU)):=aJ hd
 have e2:jV (pS (ah 1)) (gTp [4,5]) (cB f) [some (.tup [.int n,.int w]),some (.ref ld),some (plU p),some (.ref S.length),none,none,none] (S++[.lst []])=some (.nx,[some (.tup [.int n,.int w]),some (.ref ld),some (plU p),some (.ref S.length),r4,r5,r6],S++(.lst ((bD w p Ds 0).map iE)::G)):=by
  have ei:pS (ah 1) [some (.tup [.int n,.int w]),some (.ref ld),some (plU p),some (.ref S.length),none,none,none] (S++[.lst []])=some (vN (Ds.map dlU),fun Z=>Z[ld]?=some (.lst (Ds.map dlU)),S++[.lst []]):=by
   have v0:ah 1 [some (.tup [.int n,.int w]),some (.ref ld),some (plU p),some (.ref S.length),none,none,none] (S++[.lst []])=some (.ref ld,S++[.lst []]):=rfl
   unfold pS
   rw[v0,Option.bind_some]
   simp only[Bm,gl,Option.bind_some]
  unfold jV
  rw[ei,Option.bind_some]
  exact h
 unfold eO
 rw[ml e1,ml e2]
 rfl
end
theorem xB{p q:Pl}(h:nkP p=nkP q):p=q:=by
 unfold nkP at h
 simp only[List.cons.injEq,and_true]at h
 exact Prod.ext h.1 h.2
def RA(b:Nat)(no:List Nat)(Y:Sto):Kn->List (NK×U)->Prop:=Paired fun(q:Pl×List Int) (k:NK×U)=>k.1=nkP q.1/\∃l,k.2=.ref l/\b<=l/\l∉no/\Y[l]?=some (.lst (q.2.map U.int))
section
variable{b:Nat}{no:List Nat}{Y Y':Sto}{kn:Kn}{kus:List (NK×U)}{p:Pl}{row:List Int}{a:Int}
theorem RA.mono(h:RA b no Y kn kus)(m:∀l,b<=l->l∉no->∀o,Y[l]?=some o->Y'[l]?=some o):RA b no Y' kn kus:=Paired.mapP h fun q k ⟨e,l,h1,h2,h3,h4⟩=>⟨e,l,h1,h2,h3,m l h2 h3 _ h4⟩
theorem RA.length(h:RA b no Y kn kus):kn.length=kus.length:=Paired.length h
theorem RA.none(h:RA b no Y kn kus)(hp:p∉kn.map (·.1)):cE kus (nkP p)=none:=by
 induction h with
 |nil=>rfl
 |@cons q k ks us r t ih=>
  rw[List.map_cons,List.mem_cons,not_or]at hp
  have ne:¬k.1=nkP p:=fun z=>hp.1 (xB (z.symm.trans r.1))
  have:=ih hp.2
  unfold cE at this ⊢
  rw[List.find?_cons,decide_eq_false ne]
  exact this
theorem RA.val(h:RA b no Y kn kus)(nd:(kn.map (·.1)).Nodup){q:Pl×List Int}(hq:q∈kn):∃l,cE kus (nkP q.1)=some (.ref l)/\b<=l/\l∉no/\Y[l]?=some (.lst (q.2.map U.int)):=by
 induction h with
 |nil=>cases hq
 |@cons x k ks us r t ih=>
  rw[List.map_cons,List.nodup_cons]at nd
  obtain⟨e,l,h1,h2,h3,h4⟩:=r
  rcases List.mem_cons.mp hq with rfl|hq
  ·refine⟨l,?_,h2,h3,h4⟩
   unfold cE
   rw[List.find?_cons,decide_eq_true e,Option.map_some,h1]
  ·obtain⟨l',v,rest⟩:=ih nd.2 hq
   have ne:¬k.1=nkP q.1:=fun z=>nd.1 (by rw[xB (e.symm.trans z)];exact List.mem_map.mpr ⟨q,hq,rfl⟩)
   refine⟨l',?_,rest⟩
   unfold cE at v ⊢
   rw[List.find?_cons,decide_eq_false ne]
   exact v
theorem zX{κ α:Type}[DecidableEq κ]{kus:List (κ×α)}{k:κ}{u:α}(h:cE kus k=none):kE kus k u=kus++[(k,u)]:=by
 induction kus with
 |nil=>rfl
 |cons x r ih=>
  unfold cE at h
  rw[List.find?_cons]at h
  by_cases e:x.1=k
  ·rw[decide_eq_true e]at h;cases h
  ·rw[decide_eq_false e]at h
   have:=ih h
   simp only[kE,e,List.any_cons,decide_false,Bool.false_or,List.map_cons,if_false]at this ⊢
   split at this
   ·rename_i c
    rw[if_pos c,this]
    try rfl
   ·rename_i c
    rw[if_neg c]
    try rfl
structure BI(Z:Sto)(dl ll:Nat)(kn:Kn)(lus:List U)(kus:List (NK×U))(Y:Sto):Prop where
 pre:∃G,Y=Z++G
 hd:Y[dl]?=some (.dnt kus)
 hl:Y[ll]?=some (.lst lus)
 ne:dl≠ll
 zd:Z.length<=dl
 zl:Z.length<=ll
 ra:RA Z.length [dl,ll] Y kn kus
variable{Z:Sto}{dl ll:Nat}{lus:List U}
def BV(Y:Sto)(dl ll:Nat)(kus:List (NK×U))(lus:List U)(row:List Int)(a:Int)(p:Pl):Sto:=
 ((Y++[O.lst [.int a],O.lst ((row++[a]).map U.int)]).set dl (O.dnt (kus++[(nkP p,.ref (Y.length+1))]))).set ll (O.lst (lus++[plU p]))
theorem BI.grow(B:BI Z dl ll kn lus kus Y)(G:Sto):BI Z dl ll kn lus kus (Y++G):=by
 obtain⟨G0,e⟩:=B.pre
 exact⟨⟨G0++G,by rw[e,List.append_assoc]⟩,aJ B.hd,aJ B.hl,B.ne,B.zd,B.zl,B.ra.mono fun l _ _ o h=>aJ h⟩
theorem vb(B:BI Z dl ll kn lus kus Y){l:Nat}{o:O}(h1:l≠dl)(h2:l≠ll)(h:Y[l]?=some o):(BV Y dl ll kus lus row a p)[l]?=some o:=by
 unfold BV
 rw[List.getElem?_set_ne (Ne.symm h2),List.getElem?_set_ne (Ne.symm h1)]
 exact aJ h
theorem BI.add(B:BI Z dl ll kn lus kus Y):BI Z dl ll (kn++[(p,row++[a])]) (lus++[plU p]) (kus++[(nkP p,.ref (Y.length+1))]) (BV Y dl ll kus lus row a p):=by
 obtain⟨G0,e⟩:=B.pre
 have ld:dl<Y.length:=(List.getElem?_eq_some_iff.mp B.hd).1
 have l2:ll<Y.length:=(List.getElem?_eq_some_iff.mp B.hl).1
 have zy:Z.length<=Y.length:=by rw[e,List.length_append];omega
 refine⟨?_,?_,?_,B.ne,B.zd,B.zl,?_⟩
 ·unfold BV
  rw[e,List.append_assoc,List.set_append_right _ _ B.zd,List.set_append_right _ _ B.zl]
  exact⟨_,rfl⟩
 ·unfold BV
  rw[List.getElem?_set_ne (Ne.symm B.ne),List.getElem?_set_self (by rw[List.length_append];omega)]
 ·unfold BV
  rw[List.getElem?_set_self (by rw[List.length_set,List.length_append];omega)]
 ·refine Paired.snoc (B.ra.mono fun l h1 h2 o h=>?_) ⟨rfl,Y.length+1,rfl,by omega,?_,?_⟩
  ·simp only[List.mem_cons,List.not_mem_nil,or_false,not_or]at h2
   exact vb B h2.1 h2.2 h
  ·simp only[List.mem_cons,List.not_mem_nil,or_false,not_or]
   omega
  ·unfold BV
   rw[List.getElem?_set_ne (by omega),List.getElem?_set_ne (by omega),ga]
   rfl
theorem BI.left(B:BI Z dl ll kn lus kus Y)(lus':List U):BI Z dl ll kn lus' kus (Y.set ll (.lst lus')):=by
 obtain⟨G0,e⟩:=B.pre
 have l2:ll<Y.length:=(List.getElem?_eq_some_iff.mp B.hl).1
 refine⟨?_,by rw[List.getElem?_set_ne (Ne.symm B.ne)];exact B.hd,List.getElem?_set_self l2,B.ne,B.zd,B.zl,B.ra.mono fun l h1 h2 o h=>?_⟩
 ·rw[e,List.set_append_right _ _ B.zl];exact⟨_,rfl⟩
 ·simp only[List.mem_cons,List.not_mem_nil,or_false,not_or]at h2
  rw[List.getElem?_set_ne (Ne.symm h2.2)];exact h
theorem kJ:xy [.tup (p.1.map U.int),.tup (p.2.map U.int)]=some (nkP p):=by simp only[xy,iW,Option.bind_some,Option.map_some,nkP]
theorem JC{l:Nat}(h:Y[l]?=some (.dnt kus)):AN (plU p) (.ref l) Y=some (.bl (!(cE kus (nkP p)).isSome),Y):=by
 unfold AN plU
 dsimp only
 rw[kJ,Option.bind_some]
 unfold Ey
 rw[h]
 rfl
theorem JP{l:Nat}{u:U}(h:Y[l]?=some (.dnt kus))(v:cE kus (nkP p)=some u):vY (.ref l) (plU p) Y=some (u,Y):=by
 unfold vY plU
 dsimp only
 rw[kJ,Option.bind_some]
 unfold Ey
 rw[h]
 dsimp only
 rw[Option.bind_some,v]
 rfl
theorem Fh{co ci cv:CE}{ρ:Rho}{S1 S2 S3:Sto}{v:U}{l:Nat}(h1:cv ρ Y=some (v,S1))(h2:co ρ S1=some (.ref l,S2))(h3:ci ρ S2=some (plU p,S3))(h:S3[l]?=some (.dnt kus))(hl:kus.length<LIM)(hn:cE kus (nkP p)=none) :
  kX co ci cv ρ Y=some (.nx,ρ,S3.set l (.dnt (kus++[(nkP p,v)]))):=by
 unfold kX
 rw[h1,Option.bind_some]
 dsimp only
 rw[h2,Option.bind_some]
 dsimp only
 rw[h3,Option.bind_some]
 dsimp only[plU]
 rw[h]
 dsimp only
 rw[kJ,Option.bind_some,if_pos hl,zX hn]
theorem Kb{l k:Nat}{r1 r2:List Int}(h1:Y[l]?=some (.lst (r1.map U.int)))(h2:Y[k]?=some (.lst (r2.map U.int)))(hl:r1.length+r2.length<=900):eF (.ref l) (.ref k) Y=some (.ref Y.length,Y++[.lst ((r1++r2).map U.int)]):=by
 have:(r1.map U.int).length+(r2.map U.int).length<=LIM:=by unfold LIM;rw[List.length_map,List.length_map];omega
 simp only[eF,jL,h1,h2]
 rw[if_pos this,List.map_append]
end
section
variable{kn:Kn}{kus:List (NK×U)}{p p0:Pl}{row:List Int}{a n w:Int}{Z Y:Sto}{dl ll ld wl F:Nat}{lus:List U}{fw f:Fn}{W st:U}{Ds:List (List (Dl 2))}{st0:List Int}
def knA(kn:Kn)(row:List Int)(a:Int)(p:Pl):Kn:=if p∈kn.map (·.1)then kn else kn++[(p,row++[a])]
def luA(kn:Kn)(lus:List U)(p:Pl):List U:=if p∈kn.map (·.1)then lus else lus++[plU p]
def stA(kn:Kn)(Y:Sto)(dl ll:Nat)(kus:List (NK×U))(lus:List U)(row:List Int)(a:Int)(p:Pl):Sto:=if p∈kn.map (·.1)then Y else BV Y dl ll kus lus row a p
theorem BI.stA(B:BI Z dl ll kn lus kus Y):∃kus',BI Z dl ll (knA kn row a p) (luA kn lus p) kus' (stA kn Y dl ll kus lus row a p):=by
 unfold knA luA OQ.stA
 split
 ·exact⟨_,B⟩
 ·exact⟨_,B.add⟩
theorem C7(B:BI Z dl ll kn lus kus Y){l:Nat}{o:O}(h1:l≠dl)(h2:l≠ll)(h:Y[l]?=some o):(stA kn Y dl ll kus lus row a p)[l]?=some o:=by
 unfold stA
 split
 ·exact h
 ·exact vb B h1 h2 h
theorem wH{cd cl cp cn cr:CE}{ρ:Rho}(B:BI Z dl ll kn lus kus Y)(nd:(kn.map (·.1)).Nodup)(hq:(p0,row)∈kn)(hk:kn.length<=1957)(hl:lus.length<=1957)(hr:row.length<=6)
  (vd:∀S,cd ρ S=some (.ref dl,S)) (vl:∀S,cl ρ S=some (.ref ll,S)) (vp:cp ρ Y=some (plU p0,Y)) (vn:∀S,cn ρ S=some (.int a,S)) (vr:∀S,cr ρ S=some (plU p,S)) :
  dM (aH (cOp AN cr cd)) (bg (kX cd cr (cOp eF (cOp vY cd cp) (gG (ae cn aA)))) (d3 (cBM bU cl (ae cr aA)))) cf ρ Y=some (.nx,ρ,stA kn Y dl ll kus lus row a p):=by
 have t1:aH (cOp AN cr cd) ρ Y=some (!(cE kus (nkP p)).isSome,Y):=by
  rwa[vr,vd,JC B.hd]
 rw[FI,t1,Option.bind_some]
 unfold stA
 by_cases hp:p∈kn.map (·.1)
 ·rw[if_pos hp]
  obtain⟨q,hq',e⟩:=List.mem_map.mp hp
  obtain⟨l,v,_⟩:=B.ra.val nd hq'
  rw[e]at v
  rw[v]
  rfl
 ·rw[if_neg hp]
  have hn:=B.ra.none hp
  rw[hn]
  obtain⟨l,v,l1,l2,l3⟩:=B.ra.val nd hq
  dsimp only at v l3
  have e1:(Y++[O.lst [.int a]])[Y.length]?=some (.lst ([a].map U.int)):=by rw[ga0];rfl
  have hv:cOp eF (cOp vY cd cp) (gG (ae cn aA)) ρ Y=some (.ref (Y.length+1),Y++[O.lst [.int a],O.lst ((row++[a]).map U.int)]):=by
   have s1:cOp vY cd cp ρ Y=some (.ref l,Y):=by
    rwa[vd,vp,JP B.hd v]
   have s2:gG (ae cn aA) ρ Y=some (.ref Y.length,Y++[O.lst [.int a]]):=by
    rwa[vn]
   have s3:=Kb (Y:=Y++[O.lst [.int a]]) (aJ l3) e1 (by rw[List.length_singleton];omega)
   rw[Cb,s1,Option.bind_some,se,s2,Option.bind_some,sd,s3,List.append_assoc,List.length_append]
   rfl
  have hd2:(Y++[O.lst [.int a],O.lst ((row++[a]).map U.int)])[dl]?=some (.dnt kus):=aJ B.hd
  have hs:=Fh (ρ:=ρ) hv (vd _) (vr _) hd2 (by rw[<-B.ra.length];unfold LIM;omega) hn
  have gl:((Y++[O.lst [.int a],O.lst ((row++[a]).map U.int)]).set dl (.dnt (kus++[(nkP p,.ref (Y.length+1))])))[ll]?=some (.lst lus):=by
   rw[List.getElem?_set_ne B.ne];exact aJ B.hl
  have hL:lus.length<LIM:=by unfold LIM;omega
  show bg _ _ ρ Y=_
  rw[ml hs]
  rwa[vl,vr,gl,fq hL]
  rfl
theorem yZ{ws:List (Int×Pl)}:rY row ((a,p)::ws) kn=rY row ws (knA kn row a p):=rfl
def luW(lus:List U):List (Int×Pl)->Kn->List Int->List U
 |[],_,_=>lus
 |(a,p)::ws,kn,row=>luW (luA kn lus p) ws (knA kn row a p) row
theorem uG:∀(ws:List (Int×Pl)) (kn:Kn) (lus:List U) (t:List (Pl×List Int)),rY row ws kn=kn++t->luW lus ws kn row=lus++t.map fun q=>plU q.1
 |[],kn,lus,t,h=>by
  have:t=[]:=by have:=congrArg List.length h;rw[show rY row [] kn=kn from rfl,List.length_append]at this;exact List.eq_nil_of_length_eq_zero (by omega)
  subst this
  exact(List.append_nil _).symm
 |(a,p)::ws,kn,lus,t,h=>by
  rw[yZ]at h
  unfold luW
  by_cases hp:p∈kn.map (·.1)
  ·have e1:knA kn row a p=kn:=by unfold knA;rw[if_pos hp]
   have e2:luA kn lus p=lus:=by unfold luA;rw[if_pos hp]
   rw[e1]at h
   rw[e1,e2]
   exact uG ws kn lus t h
  ·have e1:knA kn row a p=kn++[(p,row++[a])]:=by unfold knA;rw[if_neg hp]
   have e2:luA kn lus p=lus++[plU p]:=by unfold luA;rw[if_neg hp]
   rw[e1]at h
   rw[e1,e2]
   obtain⟨t',e⟩:=jc (row:=row) ws (kn++[(p,row++[a])])
   rw[e,List.append_assoc]at h
   have ht:t=[(p,row++[a])]++t':=(List.append_cancel_left h).symm
   rw[uG ws _ (lus++[plU p]) t' e,ht,List.append_assoc,List.map_append]
   rfl
theorem si(R:List U->Prop)(Rm:∀l u,R l->R (l++[u])){ρ0:Option U->Option U->Rho}{cb:CS}{us:List U}(hp:ql w Ds st0 row p0)(hN:Ds.length<=6)(g67:∀u6 u7 v6 v7 S,gTp [6,7] (.tup [u6,u7]) (ρ0 v6 v7) S=some (ρ0 (some u6) (some u7),S))
  (body:∀{kn:Kn} {lus:List U} {kus:List (NK×U)} {Y:Sto} {a:Int} {p:Pl},BI Z dl ll kn lus kus Y->(kn.map (·.1)).Nodup->(p0,row)∈kn->kn.length<=1957->lus.length<=1957->R lus->cb (ρ0 (some (.int a)) (some (plU p))) Y=some (.nx,ρ0 (some (.int a)) (some (plU p)),stA kn Y dl ll kus lus row a p))
  (h1:wl≠dl) (h2:wl≠ll):∀(ws:List (Int×Pl)) (kn:Kn) (lus:List U) (kus:List (NK×U)) (Y:Sto) (v6 v7:Option U),(∀x∈ws,x∈bD w p0 Ds 0)->KnI w Ds st0 kn->(p0,row)∈kn->lus.length<=kn.length->R lus->BI Z dl ll kn lus kus Y->Y[wl]?=some (.lst us)->
  ∃kus' Y' v6' v7',cP (fun Z=>Z[wl]?=some (.lst us)) (gTp [6,7]) cb (ws.map iE) (ρ0 v6 v7) Y=some (.nx,ρ0 v6' v7',Y')/\BI Z dl ll (rY row ws kn) (luW lus ws kn row) kus' Y'
 |[],kn,lus,kus,Y,v6,v7,_,_,_,_,_,B,hw=>⟨kus,Y,v6,v7,d9 hw,B⟩
 |(a,p)::ws,kn,lus,kus,Y,v6,v7,hws,I,hq,hll,hR,B,hw=>by
  have few:=I.few hN
  have I':KnI w Ds st0 (knA kn row a p):=KnI.add hp [(a,p)] kn I fun x hx=>by rw[List.mem_singleton.mp hx];exact hws _ List.mem_cons_self
  have hq':(p0,row)∈knA kn row a p:=by unfold knA;split;exact hq;exact List.mem_append_left _ hq
  have hb:=body (a:=a) (p:=p) B I.nd hq few (by omega) hR
  obtain⟨kus1,B1⟩:=B.stA (row:=row) (a:=a) (p:=p)
  have hll':(luA kn lus p).length<=(knA kn row a p).length:=by
   unfold luA knA
   split
   ·exact hll
   ·rw[List.length_append,List.length_append];exact Nat.add_le_add_right hll _
  obtain⟨kus',Y',a6,a7,ih,B'⟩:=si R Rm hp hN g67 body h1 h2 ws _ _ kus1 _ (some (.int a)) (some (plU p)) (fun x hx=>hws x (List.mem_cons_of_mem _ hx)) I' hq' hll' (by unfold luA;split;exact hR;exact Rm _ _ hR) B1 (C7 B h1 h2 hw)
  refine⟨kus',Y',a6,a7,?_,B'⟩
  rw[List.map_cons]
  exact(bF hw (g67 _ _ _ _ _) hb).trans ih
end
def plQ(q:Pl×List Int):U:=plU q.1
section
variable{kn:Kn}{kus:List (NK×U)}{n w:Int}{Z Y S:Sto}{dl ll ld F:Nat}{f:Fn}{st:U}{Ds:List (List (Dl 2))}{st0:List Int}
abbrev rhP(n w:Int)(st:U)(ld dl ll:Nat)(r5 r6 r7:Option U):Rho:=[some (.tup [.int n,.int w]),some st,some (.ref ld),some (.ref dl),some (.ref ll),r5,r6,r7]
abbrev wtP:CT:=aH (cOp fGt (cCB fU (ae (ah 4) aA)) (cC (.int 0)))
theorem M5{us:List U}{u:U}{l:Nat}(h:Y[l]?=some (.lst (u::us)))(hl:us.length<=1957):nC (.ref l) [.int 0] Y=some (u,Y.set l (.lst us)):=by
 have c:(0:Int)<=0/\(0:Int)<((u::us).length:Int)/\(u::us).length<=LIM:=⟨Int.le_refl _,by rw[List.length_cons];omega,by unfold LIM;rw[List.length_cons];omega⟩
 simp only[nC,h]
 rw[if_pos c]
 rfl
theorem Ew{i:Nat}{q:Pl×List Int}(h:kn[i]?=some q):kn.drop i=q::kn.drop (i+1):=by
 obtain⟨hi,e⟩:=List.getElem?_eq_some_iff.mp h
 rw[List.drop_eq_getElem_cons hi,e]
theorem qM(hf:iC n w f)(hN:Ds.length<=6)(hs:st0.length=n.toNat)(ok:∀d∈Ds,OkL n w 2 d)(hz:Z[ld]?=some (.lst (Ds.map dlU))):∀(g i:Nat) (kn:Kn) (kus:List (NK×U)) (Y:Sto) (r5 r6 r7:Option U),KnI w Ds st0 kn->i<=kn.length->1958<=g+i->BI Z dl ll kn ((kn.drop i).map plQ) kus Y->
  ∃kus' lus' Y' r5' r6' r7',cH wtP (eC (cY f) F) g (rhP n w st ld dl ll r5 r6 r7) Y=some (.nx,rhP n w st ld dl ll r5' r6' r7',Y')/\BI Z dl ll (bfs w Ds g i kn) lus' kus' Y'
 |0,i,kn,kus,Y,r5,r6,r7,I,hi,hg,B=>by have:=I.few hN;omega
 |g+1,i,kn,kus,Y,r5,r6,r7,I,hi,hg,B=>by
  have few:=I.few hN
  unfold bfs
  cases hq:kn[i]? with
  |none=>
   have e:i=kn.length:=by have:=List.getElem?_eq_none_iff.mp hq;omega
   have eL:(kn.drop i).map plQ=[]:=by rw[e,List.drop_length];rfl
   have hl:=B.hl
   rw[eL]at hl
   refine⟨kus,_,Y,r5,r6,r7,iD ?_,B⟩
   rwa[wtP,rhP,hl]
   rfl
  |some q=>
   dsimp only
   have hm:q∈kn:=List.mem_of_getElem? hq
   have pa:=I.pa q hm
   have pok:=pa.ok
   have rl:=pa.few hN
   have ed:=Ew hq
   have hl:=B.hl
   rw[ed,List.map_cons]at hl
   have dl1:((kn.drop (i+1)).map plQ).length<=1957:=by rw[List.length_map,List.length_drop];omega
   have B1:=B.left ((kn.drop (i+1)).map plQ)
   obtain⟨Y1,hY1⟩:∃Y1,Y1=Y.set ll (.lst ((kn.drop (i+1)).map plQ)):=⟨_,rfl⟩
   rw[<-hY1]at B1
   have z1:Y1[ld]?=some (.lst (Ds.map dlU)):=by obtain⟨G,e⟩:=B1.pre;rw[e];exact aJ hz
   obtain⟨G,hw⟩:=pj (S:=Y1) (p:=q.1) hf (by rw[pok.gone,(cg _).length_eq];omega) (by rw[pok.len];exact hs) z1 ok (by omega)
   obtain⟨Y2,hY2⟩:∃Y2,Y2=Y1++(O.lst ((bD w q.1 Ds 0).map iE)::G):=⟨_,rfl⟩
   have B2:=B1.grow (O.lst ((bD w q.1 Ds 0).map iE)::G)
   rw[<-hY2]at B2 hw
   have gw:Y2[Y1.length]?=some (.lst ((bD w q.1 Ds 0).map iE)):=by rw[hY2,ga0];rfl
   have d1:Y1.length≠dl:=by have:=(List.getElem?_eq_some_iff.mp B1.hd).1;omega
   have d2:Y1.length≠ll:=by have:=(List.getElem?_eq_some_iff.mp B1.hl).1;omega
   obtain⟨kus',Y',a6,a7,hL,B'⟩:=si (fun _=>True) (fun _ _ _=>trivial) (ρ0:=fun v6 v7=>rhP n w st ld dl ll (some (plU q.1)) v6 v7) (cb:=gm (cY f) F) (row:=q.2) pa hN (fun _ _ _ _ _=>rfl)
    (fun{kn lus kus Y a p} B nd hq hk hl _=>wH B nd hq hk hl (by omega) (fun _=>rfl) (fun _=>rfl) rfl (fun _=>rfl) (fun _=>rfl)) d1 d2 _ kn ((kn.drop (i+1)).map plQ) kus Y2 r6 r7 (fun x hx=>hx) I hm (by rw[List.length_map,List.length_drop];omega) trivial B2 gw
   obtain⟨t,et⟩:=jc (row:=q.2) (bD w q.1 Ds 0) kn
   have el:=uG (row:=q.2) (bD w q.1 Ds 0) kn ((kn.drop (i+1)).map plQ) t et
   have hi1:i+1<=kn.length:=(List.getElem?_eq_some_iff.mp hq).1
   have el2:luW ((kn.drop (i+1)).map plQ) (bD w q.1 Ds 0) kn q.2=((rY q.2 (bD w q.1 Ds 0) kn).drop (i+1)).map plQ:=by
    rw[el,et,List.drop_append_of_le_length hi1,List.map_append];rfl
   rw[el2]at B'
   have I':=KnI.add pa (bD w q.1 Ds 0) kn I fun x hx=>hx
   obtain⟨kus2,lus2,Y3,c5,c6,c7,ih,B3⟩:=qM hf hN hs ok hz g (i+1) _ kus' Y' (some (plU q.1)) a6 a7 I' (by rw[et,List.length_append];omega) (by omega) B'
   refine⟨kus2,lus2,Y3,c5,c6,c7,(mh (S0:=Y) ?_ ?_).trans ih,B3⟩
   ·have ge:decide (((plQ q::(kn.drop (i+1)).map plQ).length:Int)>0)=true:=by rw[List.length_cons];exact decide_eq_true (by omega)
    simp only[wtP,rhP,hl,wc,qm,Cb,se,sd,Cz,sf,qq,mE,mD,wd,x_c,t8,pf,t9,ua,LZ,ge,List.getElem?_cons_zero,List.getElem?_cons_succ,Option.bind_some]
   ·unfold eC
    have e5:bO 5 (cBM nC (ah 4) (ae (cC (.int 0)) aA)) (rhP n w st ld dl ll r5 r6 r7) Y=some (.nx,rhP n w st ld dl ll (some (plU q.1)) r6 r7,Y1):=by
     have:=M5 hl dl1
     rw[<-hY1]at this
     rwa[rhP,hl,this,plQ]
    rw[ml e5]
    have ei:iTp (cCB (cY f) (ae (ah 0) (ae (ah 2) (ae (ah 5) aA)))) (rhP n w st ld dl ll (some (plU q.1)) r6 r7) Y1=some ((bD w q.1 Ds 0).map iE,fun Z=>Z[Y1.length]?=some (.lst ((bD w q.1 Ds 0).map iE)),Y2):=by
     have ec:cCB (cY f) (ae (ah 0) (ae (ah 2) (ae (ah 5) aA))) (rhP n w st ld dl ll (some (plU q.1)) r6 r7) Y1=some (.ref Y1.length,Y2):=hw
     unfold iTp
     rw[ec,Option.bind_some]
     simp only[gw]
    unfold jV
    rw[ei,Option.bind_some]
    exact hL
def o3(f:Fn)(F:Nat):Fn:=fnU 8 3 (cT (cY f) F)
theorem va{X:Sto}{dl ll k:Nat}(hZ:∃G,X=S++G)(h1:X[dl]?=some (.dnt [(nkP ([],st0),.ref k)]))(h2:X[ll]?=some (.lst [plU ([],st0)]))(h3:X[k]?=some (.lst []))(ne:dl≠ll)(k1:k≠dl)(k2:k≠ll)(zd:S.length<=dl)(zl:S.length<=ll)(zk:S.length<=k):BI S dl ll (kn0 st0) ((kn0 st0).map plQ) [(nkP ([],st0),.ref k)] X:=
 ⟨hZ,h1,h2,ne,zd,zl,.cons ⟨rfl,k,rfl,zk,by simp[k1,k2],h3⟩ .nil⟩
theorem Dg(hf:iC n w f)(hN:Ds.length<=6)(hs:st0.length=n.toNat)(ok:∀d∈Ds,OkL n w 2 d)(hz:S[ld]?=some (.lst (Ds.map dlU))) :
  ∃kus lus Y,o3 f 3000 [.tup [.int n,.int w],.tup (st0.map U.int),.ref ld] S=some (.ref S.length,Y)/\BI S S.length (S.length+2) (cW w Ds st0) lus kus Y:=by
 unfold o3
 rw[l8]
 obtain⟨Y0,hY0⟩:∃Y0,Y0=S++[O.dnt [(nkP ([],st0),.ref (S.length+1))],O.lst [],O.lst [plU ([],st0)]]:=⟨_,rfl⟩
 have B0:=va (S:=S) (X:=Y0) (st0:=st0) (dl:=S.length) (ll:=S.length+2) (k:=S.length+1) ⟨_,hY0⟩ (by rw[hY0,ga0];rfl) (by rw[hY0,ga];rfl) (by rw[hY0,ga];rfl) (by omega) (by omega) (by omega) (Nat.le_refl _) (by omega) (by omega)
 obtain⟨kus,lus,Y,r5,r6,r7,hL,B⟩:=qM (Z:=S) (F:=3000) (st:=.tup (st0.map U.int)) hf hN hs ok hz 3000 0 (kn0 st0) _ Y0 none none none xM (Nat.zero_le _) (by omega) B0
 refine⟨kus,lus,Y,?_,B⟩
 have e1:bO 3 (jm (cL (ae (cL aA) (ae (ah 1) aA))) (gG aA)) [some (.tup [.int n,.int w]),some (.tup (st0.map U.int)),some (.ref ld),none,none,none,none,none] S=some (.nx,[some (.tup [.int n,.int w]),some (.tup (st0.map U.int)),some (.ref ld),some (.ref S.length),none,none,none,none],S++[O.dnt [(nkP ([],st0),.ref (S.length+1))],O.lst []]):=by
  have ed:jm (cL (ae (cL aA) (ae (ah 1) aA))) (gG aA) [some (.tup [.int n,.int w]),some (.tup (st0.map U.int)),some (.ref ld),none,none,none,none,none] S=some (.ref S.length,S++[O.dnt [(nkP ([],st0),.ref (S.length+1))],O.lst []]):=by
   have k1:cL (ae (cL aA) (ae (ah 1) aA)) [some (.tup [.int n,.int w]),some (.tup (st0.map U.int)),some (.ref ld),none,none,none,none,none] (S++[.dnt []])=some (.tup [.tup [],.tup (st0.map U.int)],S++[.dnt []]):=rfl
   have k2:gG aA [some (.tup [.int n,.int w]),some (.tup (st0.map U.int)),some (.ref ld),none,none,none,none,none] (S++[.dnt []])=some (.ref (S++[O.dnt []]).length,S++[.dnt []]++[.lst []]):=rfl
   have nk:xy [.tup [],.tup (st0.map U.int)]=some (nkP ([],st0)):=kJ (p:=([],st0))
   unfold jm
   rw[k1,Option.bind_some]
   dsimp only
   rw[k2,Option.bind_some]
   dsimp only
   rw[nk,Option.bind_some,List.append_assoc,ga0]
   dsimp only[List.cons_append,List.nil_append,List.getElem?_cons_zero]
   rw[gs0,List.length_append]
   rfl
  rw[rZ,ed]
  rfl
 have e2:bO 4 (gG (ae (cL (ae (cL aA) (ae (ah 1) aA))) aA)) [some (.tup [.int n,.int w]),some (.tup (st0.map U.int)),some (.ref ld),some (.ref S.length),none,none,none,none] (S++[O.dnt [(nkP ([],st0),.ref (S.length+1))],O.lst []])=some (.nx,rhP n w (.tup (st0.map U.int)) ld S.length (S.length+2) none none none,Y0):=by
  rw[hY0]
  have:(S++[O.dnt [(nkP ([],st0),.ref (S.length+1))],O.lst []]).length=S.length+2:=by rw[List.length_append];rfl
  have e:gG (ae (cL (ae (cL aA) (ae (ah 1) aA))) aA) [some (.tup [.int n,.int w]),some (.tup (st0.map U.int)),some (.ref ld),some (.ref S.length),none,none,none,none] (S++[O.dnt [(nkP ([],st0),.ref (S.length+1))],O.lst []])=some (.ref (S++[O.dnt [(nkP ([],st0),.ref (S.length+1))],O.lst []]).length,S++[O.dnt [(nkP ([],st0),.ref (S.length+1))],O.lst []]++[.lst [plU ([],st0)]]):=rfl
  rw[rZ,e,this,List.append_assoc]
  rfl
 unfold cT
 rw[ml e1,ml e2,ml hL]
 rfl
end
section
variable{kn:Kn}{kus:List (NK×U)}{n w:Int}{Z Y S:Sto}{dl ll ld F:Nat}{f:Fn}{st:U}{Ds:List (List (Dl 2))}{st0:List Int}
abbrev rhW(n w:Int)(st:U)(ld dl ll i:Nat)(r6 r7:Option U):Rho:=[some (.tup [.int n,.int w]),some st,some (.ref ld),some (.ref ll),some (.ref dl),some (.int i),r6,r7]
abbrev wtW:CT:=aH (cOp fLt (ah 5) (cCB fU (ae (ah 3) aA)))
theorem BU{i:Nat}{q:Pl×List Int}{t:List U}(h:kn[i]?=some q):atI (kn.map plQ++t) (i:Int)=some (plU q.1):=by
 refine lS (by omega) ?_
 have:((i:Int)).toNat=i:=rfl
 rw[this]
 exact aJ (by rw[List.getElem?_map,h];rfl)
theorem uI(hf:iC n w f)(hN:Ds.length<=6)(hs:st0.length=n.toNat)(ok:∀d∈Ds,OkL n w 2 d)(hz:Z[ld]?=some (.lst (Ds.map dlU))):∀(g i:Nat) (kn:Kn) (kus:List (NK×U)) (Y:Sto) (r6 r7:Option U),KnI w Ds st0 kn->i<=kn.length->1958<=g+i->BI Z dl ll kn (kn.map plQ) kus Y->
  ∃kus' lus' Y' i' r6' r7',cH wtW (g6 (cY f) F) g (rhW n w st ld dl ll i r6 r7) Y=some (.nx,rhW n w st ld dl ll i' r6' r7',Y')/\BI Z dl ll (bfs w Ds g i kn) lus' kus' Y'
 |0,i,kn,kus,Y,r6,r7,I,hi,hg,B=>by have:=I.few hN;omega
 |g+1,i,kn,kus,Y,r6,r7,I,hi,hg,B=>by
  have few:=I.few hN
  unfold bfs
  have hl:=B.hl
  have ln:(kn.map plQ).length=kn.length:=List.length_map ..
  cases hq:kn[i]? with
  |none=>
   have e:i=kn.length:=by have:=List.getElem?_eq_none_iff.mp hq;omega
   refine⟨kus,_,Y,i,r6,r7,iD (S0:=Y) ?_,B⟩
   have ge:decide ((i:Int)<((kn.map plQ).length:Int))=false:=decide_eq_false (by omega)
   simp only[wtW,rhW,hl,wc,qm,Cb,se,sd,Cz,sf,qq,mE,mD,wd,t8,pf,t9,ua,IT,ge,List.getElem?_cons_zero,List.getElem?_cons_succ,Option.bind_some]
  |some q=>
   dsimp only
   have hm:q∈kn:=List.mem_of_getElem? hq
   have pa:=I.pa q hm
   have pok:=pa.ok
   have rl:=pa.few hN
   have hi1:i<kn.length:=(List.getElem?_eq_some_iff.mp hq).1
   have z1:Y[ld]?=some (.lst (Ds.map dlU)):=by obtain⟨G,e⟩:=B.pre;rw[e];exact aJ hz
   obtain⟨G,hw⟩:=pj (S:=Y) (p:=q.1) hf (by rw[pok.gone,(cg _).length_eq];omega) (by rw[pok.len];exact hs) z1 ok (by omega)
   obtain⟨Y2,hY2⟩:∃Y2,Y2=Y++(O.lst ((bD w q.1 Ds 0).map iE)::G):=⟨_,rfl⟩
   have B2:=B.grow (O.lst ((bD w q.1 Ds 0).map iE)::G)
   rw[<-hY2]at B2 hw
   have gw:Y2[Y.length]?=some (.lst ((bD w q.1 Ds 0).map iE)):=by rw[hY2,ga0];rfl
   have d1:Y.length≠dl:=by have:=(List.getElem?_eq_some_iff.mp B.hd).1;omega
   have d2:Y.length≠ll:=by have:=(List.getElem?_eq_some_iff.mp B.hl).1;omega
   obtain⟨kus',Y',a6,a7,hL,B'⟩:=si (fun lus=>∃t,lus=kn.map plQ++t) (fun l u ⟨t,e⟩=>⟨t++[u],by rw[e,List.append_assoc]⟩) (ρ0:=fun v6 v7=>rhW n w st ld dl ll i v6 v7) (cb:=g9 (cY f) F) (row:=q.2) pa hN (fun _ _ _ _ _=>rfl)
    (fun{kn' lus kus Y a p} B nd hq' hk hl hR=>by
     obtain⟨t,et⟩:=hR
     have ea:=BU (t:=t) hq
     rw[<-et]at ea
     have gl:=B.hl
     refine wH (cp:=cOp fIx (ah 3) (ah 5)) B nd hq' hk hl (by omega) (fun _=>rfl) (fun _=>rfl) ?_ (fun _=>rfl) (fun _=>rfl)
     rwa[rhW,gl,ea]) d1 d2 _ kn (kn.map plQ) kus Y2 r6 r7 (fun x hx=>hx) I hm (by rw[ln];exact Nat.le_refl _) ⟨[],(List.append_nil _).symm⟩ B2 gw
   obtain⟨t,et⟩:=jc (row:=q.2) (bD w q.1 Ds 0) kn
   have el:=uG (row:=q.2) (bD w q.1 Ds 0) kn (kn.map plQ) t et
   have el2:luW (kn.map plQ) (bD w q.1 Ds 0) kn q.2=(rY q.2 (bD w q.1 Ds 0) kn).map plQ:=by rw[el,et,List.map_append];rfl
   rw[el2]at B'
   have I':=KnI.add pa (bD w q.1 Ds 0) kn I fun x hx=>hx
   obtain⟨kus2,lus2,Y3,i',c6,c7,ih,B3⟩:=uI hf hN hs ok hz g (i+1) _ kus' Y' a6 a7 I' (by rw[et,List.length_append];omega) (by omega) B'
   refine⟨kus2,lus2,Y3,i',c6,c7,(mh (S0:=Y) ?_ ?_).trans ih,B3⟩
   ·have ge:decide ((i:Int)<((kn.map plQ).length:Int))=true:=decide_eq_true (by omega)
    simp only[wtW,rhW,hl,wc,qm,Cb,se,sd,Cz,sf,qq,mE,mD,wd,t8,pf,t9,ua,IT,ge,List.getElem?_cons_zero,List.getElem?_cons_succ,Option.bind_some]
   ·unfold g6
    have ea:=BU (t:=[]) hq
    rw[List.append_nil]at ea
    have ei:iTp (cCB (cY f) (ae (ah 0) (ae (ah 2) (ae (cOp fIx (ah 3) (ah 5)) aA)))) (rhW n w st ld dl ll i r6 r7) Y=some ((bD w q.1 Ds 0).map iE,fun Z=>Z[Y.length]?=some (.lst ((bD w q.1 Ds 0).map iE)),Y2):=by
     have ec:cCB (cY f) (ae (ah 0) (ae (ah 2) (ae (cOp fIx (ah 3) (ah 5)) aA))) (rhW n w st ld dl ll i r6 r7) Y=some (.ref Y.length,Y2):=by
      rwa[rhW,hl,ea,hw]
     unfold iTp
     rw[ec,Option.bind_some]
     simp only[gw]
    have e5:jV (iTp (cCB (cY f) (ae (ah 0) (ae (ah 2) (ae (cOp fIx (ah 3) (ah 5)) aA))))) (gTp [6,7]) (g9 (cY f) F) (rhW n w st ld dl ll i r6 r7) Y=some (.nx,rhW n w st ld dl ll i a6 a7,Y'):=by
     unfold jV
     rw[ei,Option.bind_some]
     exact hL
    rw[ml e5]
    rfl
theorem Cv{ck cv:CE}{ρ:Rho}{T Y1 Y2:Sto}{p:Pl}{v:U}(h1:ck ρ (T++[.dnt []])=some (plU p,Y1))(h2:cv ρ Y1=some (v,Y2))(h3:Y2[T.length]?=some (.dnt [])):jm ck cv ρ T=some (.ref T.length,Y2.set T.length (.dnt [(nkP p,v)])):=by
 unfold jm
 rw[h1,Option.bind_some]
 dsimp only
 rw[h2,Option.bind_some]
 dsimp only[plU]
 rw[kJ,Option.bind_some,h3]
def qd(f:Fn)(F:Nat):Fn:=fnU 8 3 (fP (cY f) F)
theorem Aw(hf:iC n w f)(hN:Ds.length<=6)(hs:st0.length=n.toNat)(ok:∀d∈Ds,OkL n w 2 d)(hz:S[ld]?=some (.lst (Ds.map dlU))) :
  ∃kus lus Y,qd f 3000 [.tup [.int n,.int w],.tup (st0.map U.int),.ref ld] S=some (.ref (S.length+1),Y)/\BI S (S.length+1) S.length (cW w Ds st0) lus kus Y:=by
 unfold qd
 rw[tH]
 obtain⟨Y0,hY0⟩:∃Y0,Y0=S++[O.lst [plU ([],st0)],O.dnt [(nkP ([],st0),.ref (S.length+2))],O.lst []]:=⟨_,rfl⟩
 have B0:=va (S:=S) (X:=Y0) (st0:=st0) (dl:=S.length+1) (ll:=S.length) (k:=S.length+2) ⟨_,hY0⟩ (by rw[hY0,ga];rfl) (by rw[hY0,ga0];rfl) (by rw[hY0,ga];rfl) (by omega) (by omega) (by omega) (by omega) (Nat.le_refl _) (by omega)
 obtain⟨kus,lus,Y,i,r6,r7,hL,B⟩:=uI (Z:=S) (F:=3000) (st:=.tup (st0.map U.int)) hf hN hs ok hz 3000 0 (kn0 st0) _ Y0 none none xM (Nat.zero_le _) (by omega) B0
 refine⟨kus,lus,Y,?_,B⟩
 have e1:bO 3 (gG (ae (cL (ae (cL aA) (ae (ah 1) aA))) aA)) [some (.tup [.int n,.int w]),some (.tup (st0.map U.int)),some (.ref ld),none,none,none,none,none] S=some (.nx,[some (.tup [.int n,.int w]),some (.tup (st0.map U.int)),some (.ref ld),some (.ref S.length),none,none,none,none],S++[O.lst [plU ([],st0)]]):=rfl
 have e2:bO 4 (jm (cOp fIx (ah 3) (cC (.int 0))) (gG aA)) [some (.tup [.int n,.int w]),some (.tup (st0.map U.int)),some (.ref ld),some (.ref S.length),none,none,none,none] (S++[O.lst [plU ([],st0)]])=some (.nx,[some (.tup [.int n,.int w]),some (.tup (st0.map U.int)),some (.ref ld),some (.ref S.length),some (.ref (S.length+1)),none,none,none],Y0):=by
  have ed:jm (cOp fIx (ah 3) (cC (.int 0))) (gG aA) [some (.tup [.int n,.int w]),some (.tup (st0.map U.int)),some (.ref ld),some (.ref S.length),none,none,none,none] (S++[O.lst [plU ([],st0)]])=some (.ref (S.length+1),Y0):=by
   have g:(S++[O.lst [plU ([],st0)]]++[O.dnt []])[S.length]?=some (.lst [plU ([],st0)]):=aJ (by rw[ga0];rfl)
   have k1:cOp fIx (ah 3) (cC (.int 0)) [some (.tup [.int n,.int w]),some (.tup (st0.map U.int)),some (.ref ld),some (.ref S.length),none,none,none,none] (S++[O.lst [plU ([],st0)]]++[.dnt []])=some (plU ([],st0),S++[O.lst [plU ([],st0)]]++[.dnt []]):=by
    have v3:ah 3 [some (.tup [.int n,.int w]),some (.tup (st0.map U.int)),some (.ref ld),some (.ref S.length),none,none,none,none] (S++[O.lst [plU ([],st0)]]++[.dnt []])=some (.ref S.length,S++[O.lst [plU ([],st0)]]++[.dnt []]):=rfl
    rw[Cb,v3,Option.bind_some,se,x_c,Option.bind_some,sd,FD,g]
    rfl
   have k2:∀T:Sto,gG aA [some (.tup [.int n,.int w]),some (.tup (st0.map U.int)),some (.ref ld),some (.ref S.length),none,none,none,none] T=some (.ref T.length,T++[.lst []]):=fun _=>rfl
   have l1:(S++[O.lst [plU ([],st0)]]).length=S.length+1:=by rw[List.length_append];rfl
   have g2:(S++[O.lst [plU ([],st0)]]++[O.dnt []]++[O.lst []])[(S++[O.lst [plU ([],st0)]]).length]?=some (.dnt []):=aJ (by rw[ga0];rfl)
   have g3:(S++[O.lst [plU ([],st0)]]++[O.dnt []]++[O.lst []]).set (S++[O.lst [plU ([],st0)]]).length (.dnt [(nkP ([],st0),.ref (S++[O.lst [plU ([],st0)]]++[O.dnt []]).length)])=Y0:=by
    rw[List.append_assoc (S++[O.lst [plU ([],st0)]]),gs0,hY0,List.length_append,List.length_append,List.append_assoc]
    rfl
   rw[Cv (p:=([],st0)) k1 (k2 _) g2,g3,l1]
  rw[rZ,ed]
  rfl
 have e3:bO 5 (cC (.int 0)) [some (.tup [.int n,.int w]),some (.tup (st0.map U.int)),some (.ref ld),some (.ref S.length),some (.ref (S.length+1)),none,none,none] Y0=some (.nx,rhW n w (.tup (st0.map U.int)) ld (S.length+1) S.length 0 none none,Y0):=rfl
 unfold fP
 rw[ml e1,ml e2,ml e3,ml hL]
 rfl
end
def tY:Fn:=fnU 2 2 (cU fQ)
theorem uV(ns:List Int)(T:Sto){n w:Int}(w0:2<=w)(w1:w<=1000):∀(us:List U) (r:Option U) (ys:List Int) (G:Sto) {a c:Int},0<=a->0<=c->ys.length+us.length<=1000->
  ∃(zs:List Int) (a' c':Int) (G':Sto),md (fun _=>True) (gNm 0) (cCB fQ (ae (ah 1) (ae (cOp fIx (gG (ae (cC (.int 2)) (ae (cOp fIx (ah 2) (cC (.int 1))) aA))) (cCB y6 (ae (cOp fEq (cCB fQ (ae (ah 1) (ae (cC (.int 4)) aA))) (cC (.int 0))) aA))) aA))) (T.length+1+1) us [r,some (.ref 1),some (.tup [.int n,.int w])] (scr ns::pen a c::(T++.lst (ys.map U.int)::G))
   = some (scr ns::pen a' c'::(T++.lst (zs.map U.int)::G'))/\zs.length=ys.length+us.length/\0<=a'/\0<=c'
 |[],r,ys,G,a,c,ha,hc,hl=>⟨ys,a,c,G,A0 trivial,rfl,ha,hc⟩
 |u::us,r,ys,G,a,c,ha,hc,hl=>by
  obtain⟨f,a1,c1,h1,p1,q1,ha1,hc1⟩:=bR ns (T++.lst (ys.map U.int)::(G++[.lst [.int 2,.int w]])) (m:=4) ha hc (by decide) (by decide +kernel)
  obtain⟨z,hz,z0,z1⟩:∃z:Int,atI [U.int 2,U.int w] (if (decide (f=0))=true then 1 else 0)=some (.int z)/\0<z/\z<=1000:=by
   by_cases e:f=0
   ·rw[if_pos (decide_eq_true e)];exact⟨w,rfl,by omega,w1⟩
   ·rw[decide_eq_false e];exact⟨2,rfl,by omega,by omega⟩
  obtain⟨g,a2,c2,h2,p2,q2,ha2,hc2⟩:=bR ns (T++.lst (ys.map U.int)::(G++[.lst [.int 2,.int w]])) (m:=z) ha1 hc1 z0 (l9 (by omega) (by omega))
  obtain⟨zs,a3,c3,G',h3,e3,ha3,hc3⟩:=uV ns T (n:=n) w0 w1 us (some u) (ys++[g]) (G++[.lst [.int 2,.int w]]) ha2 hc2 (by simp at hl ⊢;omega)
  refine⟨zs,a3,c3,G',?_,by simp at e3 ⊢;omega,ha3,hc3⟩
  refine(yC (ρ0:=[some u,some (.ref 1),some (.tup [.int n,.int w])]) (S0:=scr ns::pen a c::(T++.lst (ys.map U.int)::G)) (S1:=scr ns::pen a2 c2::(T++.lst (ys.map U.int)::(G++[.lst [.int 2,.int w]]))) (x:=.int g) (ys:=ys.map U.int) trivial rfl ?_ ?_ (by unfold LIM;simp at hl ⊢;omega)).trans ?_
  ·have gg:(T++O.lst (ys.map U.int)::(G++[O.lst [.int 2,.int w]]))[T.length+(G.length+1)]?=some (.lst [.int 2,.int w]):=by rw[ga,List.getElem?_cons_succ,ga0];rfl
   rwa[h1,h2,hz,gg,List.length_append]
  ·rwa[]
  ·rw[<-h3]
   rwa[List.map_append,List.map_cons,List.map_nil]
theorem Io(ns:List Int)(T:Sto){a c n w:Int}(ha:0<=a)(hc:0<=c)(n0:1<=n)(n1:n<=6)(w0:2<=w)(w1:w<=1000) :
  ∃(zs:List Int) (a' c':Int) (G:Sto),tY [.ref 1,.tup [.int n,.int w]] (scr ns::pen a c::T)=some (.tup (zs.map U.int),scr ns::pen a' c'::(T++G))/\zs.length=n.toNat/\0<=a'/\0<=c':=by
 unfold tY
 rw[ma]
 obtain⟨zs,a',c',G',h,e,ha',hc'⟩:=uV ns T (n:=n) w0 w1 (fG 0 n.toNat) none [] [] ha hc (by simp[fG];omega)
 refine⟨zs,a',c',.lst (zs.map U.int)::G',?_,by rw[e];simp[fG],ha',hc'⟩
 have hr:-(2^62)<=n/\n<2^62:=by omega
 simp only[List.map_nil]at h
 rwa[cU,A7,fh,ur,hr,h,if_true,and_self,List.replicate,Option.getD_some]
def o6:Fn:=fnU 8 2 (dR fQ)
abbrev pd(d:fb):Dl 2:=DF.pl d
abbrev pd1(d:fb):Dl 1:=DF.pl d
abbrev td(a b:List fb):Dl 2:=DF.tr (a.map pd1) (b.map pd1)
theorem ok1{n w:Int}{ds:List fb}(h:∀d∈ds,d.ok n w)(hl:ds.length<=30):OkL n w 1 (ds.map pd1):=⟨by rw[List.length_map];exact hl,fun d hd=>by
 obtain⟨x,hx,rfl⟩:=List.mem_map.mp hd
 exact h x hx⟩
theorem ok2{n w:Int}{ds:List (Dl 2)}{b v:Int}(h:ds.length<=20)(k:∀d∈ds,DF.ok n w (OkL n w 1) d)(b0:0<=b)(b1:b<n)(v0:0<=v)(v1:v<w):OkL n w 2 (ds++[pd (.set 3 v),pd (.put b 3)]):=⟨by rw[List.length_append];simp;omega,fun d hd=>by
 rcases List.mem_append.mp hd with z|z
 ·exact k d z
 ·simp only[List.mem_cons,List.not_mem_nil,or_false]at z
  rcases z with rfl|rfl
  ·exact⟨by omega,by omega,v0,v1⟩
  ·exact⟨by omega,by omega,b0,b1⟩⟩
theorem D8(ns:List Int)(T:Sto){a c n w:Int}(ha:0<=a)(hc:0<=c)(n0:1<=n)(n1:n<=6)(w0:2<=w)(w1:w<=1000) :
  ∃(d:List (Dl 2)) (a' c':Int) (G:Sto),o6 [.ref 1,.tup [.int n,.int w]] (scr ns::pen a c::T)=some (dlU d,scr ns::pen a' c'::(T++G))/\OkL n w 2 d/\0<=a'/\0<=c':=by
 unfold o6
 rw[tJ]
 obtain⟨f,a1,c1,e1,p1,q1,ha1,hc1⟩:=bR ns T (m:=n) ha hc (by omega) (l9 (by omega) (by omega))
 obtain⟨g,a2,c2,e2,p2,q2,ha2,hc2⟩:=bR ns T (m:=n) ha1 hc1 (by omega) (l9 (by omega) (by omega))
 obtain⟨k,a3,c3,e3,p3,q3,ha3,hc3⟩:=bR ns T (m:=5) ha2 hc2 (by decide) (by decide +kernel)
 obtain⟨t,a4,c4,e4,p4,q4,ha4,hc4⟩:=bR ns (T++[.lst [.int f,.int g]]) (m:=2) ha3 hc3 (by decide) (by decide +kernel)
 obtain⟨v,a5,c5,e5,p5,q5,ha5,hc5⟩:=bR ns (T++[.lst [.int f,.int g]]) (m:=2) ha4 hc4 (by decide) (by decide +kernel)
 obtain⟨b,hb,b0,b1⟩:∃b:Int,atI [U.int f,U.int g] t=some (.int b)/\0<=b/\b<n:=by
  have:t=0\/t=1:=by omega
  rcases this with rfl|rfl
  ·exact⟨f,rfl,p1,q1⟩
  ·exact⟨g,rfl,p2,q2⟩
 have cat:∀(x y z u v:U) (S:Sto),eF (.tup [x,y,z]) (.tup [u,v]) S=some (.tup [x,y,z,u,v],S):=fun _ _ _ _ _ _=>rfl
 have cat2:∀(x y u v:U) (S:Sto),eF (.tup [x,y]) (.tup [u,v]) S=some (.tup [x,y,u,v],S):=fun _ _ _ _ _=>rfl
 have cat5:∀(x y z p q u v:U) (S:Sto),eF (.tup [x,y,z,p,q]) (.tup [u,v]) S=some (.tup [x,y,z,p,q,u,v],S):=fun _ _ _ _ _ _ _ _=>rfl
 by_cases k0:k=0
 ·refine⟨[pd (.look 0 f),pd (.set 1 1),pd (.leap 0 1),pd (.leap 2 1),pd .wait]++[pd (.set 3 v),pd (.put b 3)],a5,c5,[.lst [.int f,.int g]],?_,ok2 (by simp) (fun d hd=>?_) b0 b1 p5 (by omega),ha5,hc5⟩
  ·have t0:decide (k=0)=true:=decide_eq_true k0
   have t1:decide (k=1)=false:=decide_eq_false (by omega)
   rwa[dR,e1,e2,e3,t0,t1,e4,hb,e5,cat,cat2,cat5]
   rfl
  ·simp only[List.mem_cons,List.not_mem_nil,or_false]at hd
   rcases hd with rfl|rfl|rfl|rfl|rfl
   ·exact⟨by omega,by omega,p1,q1⟩
   ·exact⟨by omega,by omega,by omega,by omega⟩
   ·exact⟨by omega,by omega,by omega,by omega⟩
   ·exact⟨by omega,by omega,by omega,by omega⟩
   ·exact trivial
 have t0:decide (k=0)=false:=decide_eq_false k0
 by_cases k1:k=1
 ·refine⟨[pd (.look 0 f),td [.leap 0 1,.leap 2 1,.wait] [.look 0 g,.leap 0 1,.wait]]++[pd (.set 3 v),pd (.put b 3)],a5,c5,[.lst [.int f,.int g]],?_,ok2 (by simp) (fun d hd=>?_) b0 b1 p5 (by omega),ha5,hc5⟩
  ·have t1:decide (k=1)=true:=decide_eq_true k1
   rwa[dR,e1,e2,e3,t0,t1,e4,hb,e5,cat,cat2,cat5]
   rfl
  ·simp only[List.mem_cons,List.not_mem_nil,or_false]at hd
   rcases hd with rfl|rfl
   ·exact⟨by omega,by omega,p1,q1⟩
   ·refine⟨ok1 (fun d hd=>?_) (by simp),ok1 (fun d hd=>?_) (by simp)⟩
    ·simp only[List.mem_cons,List.not_mem_nil,or_false]at hd
     rcases hd with rfl|rfl|rfl
     ·exact⟨by omega,by omega,by omega,by omega⟩
     ·exact⟨by omega,by omega,by omega,by omega⟩
     ·exact trivial
    ·simp only[List.mem_cons,List.not_mem_nil,or_false]at hd
     rcases hd with rfl|rfl|rfl
     ·exact⟨by omega,by omega,p2,q2⟩
     ·exact⟨by omega,by omega,by omega,by omega⟩
     ·exact trivial
 ·refine⟨[pd (.look 0 f),pd (.leap 0 1),pd .wait]++[pd (.set 3 v),pd (.put b 3)],a5,c5,[.lst [.int f,.int g]],?_,ok2 (by simp) (fun d hd=>?_) b0 b1 p5 (by omega),ha5,hc5⟩
  ·have t1:decide (k=1)=false:=decide_eq_false k1
   rwa[dR,e1,e2,e3,t0,t1,e4,hb,e5,cat,cat2,cat5]
   rfl
  ·simp only[List.mem_cons,List.not_mem_nil,or_false]at hd
   rcases hd with rfl|rfl|rfl
   ·exact⟨by omega,by omega,p1,q1⟩
   ·exact⟨by omega,by omega,by omega,by omega⟩
   ·exact trivial
def nQ:Fn:=fnU 6 3 (bQ fQ (qi 3) o6)
theorem qF(ns:List Int)(T:Sto){n w m:Int}(n0:1<=n)(n1:n<=6)(w0:2<=w)(w1:w<=1000):∀(us:List U) (r:Option U) (ys:List (List (Dl 2))) (G:Sto) {a c:Int},0<=a->0<=c->ys.length+us.length<=900->(∀d∈ys,OkL n w 2 d)->
  ∃(zs:List (List (Dl 2))) (a' c':Int) (G':Sto) (r':Option U),cP (fun _=>True) (gNm 5) (bj fQ (qi 3) o6) us [some (.ref 1),some (.tup [.int n,.int w]),some (.int 6),some (.ref (T.length+1+1)),some (.int m),r] (scr ns::pen a c::(T++.lst (ys.map dlU)::G))
   = some (.nx,[some (.ref 1),some (.tup [.int n,.int w]),some (.int 6),some (.ref (T.length+1+1)),some (.int m),r'],scr ns::pen a' c'::(T++.lst (zs.map dlU)::G'))/\zs.length=ys.length+us.length/\(∀d∈zs,OkL n w 2 d)/\0<=a'/\0<=c'
 |[],r,ys,G,a,c,ha,hc,hl,hy=>⟨ys,a,c,G,r,d9 trivial,rfl,hy,ha,hc⟩
 |u::us,r,ys,G,a,c,ha,hc,hl,hy=>by
  have step:∃(d:List (Dl 2)) (a1 c1:Int) (G1:Sto),bj fQ (qi 3) o6 [some (.ref 1),some (.tup [.int n,.int w]),some (.int 6),some (.ref (T.length+1+1)),some (.int m),some u] (scr ns::pen a c::(T++.lst (ys.map dlU)::G))
    = some (.nx,[some (.ref 1),some (.tup [.int n,.int w]),some (.int 6),some (.ref (T.length+1+1)),some (.int m),some u],scr ns::pen a1 c1::(T++.lst ((ys++[d]).map dlU)::(G++G1)))/\OkL n w 2 d/\0<=a1/\0<=c1:=by
   have hL:(ys.map dlU).length<LIM:=by unfold LIM;simp at hl ⊢;omega
   have em:∀d:List (Dl 2),(ys++[d]).map dlU=ys.map dlU++[dlU d]:=fun d=>by rw[List.map_append];rfl
   obtain⟨f,a1,c1,e1,p1,q1,ha1,hc1⟩:=bR ns (T++.lst (ys.map dlU)::G) (m:=4) ha hc (by decide) (by decide +kernel)
   have mk:∀{a c:Int},0<=a->0<=c->∃(d:List (Dl 2)) (a1 c1:Int) (G1:Sto),o6 [.ref 1,.tup [.int n,.int w]] (scr ns::pen a c::(T++.lst (ys.map dlU)::G))=some (dlU d,scr ns::pen a1 c1::(T++.lst (ys.map dlU)::(G++G1)))/\OkL n w 2 d/\0<=a1/\0<=c1:=fun ha hc=>by
    obtain⟨d,a1,c1,G1,h,k⟩:=D8 ns (T++.lst (ys.map dlU)::G) ha hc n0 n1 w0 w1
    exact⟨d,a1,c1,G1,by rw[h,List.append_assoc,List.cons_append],k⟩
   by_cases m5:m<5
   ·have t5:decide (m<5)=true:=decide_eq_true m5
    by_cases f0:f=0
    ·have t0:decide (f=0)=true:=decide_eq_true f0
     obtain⟨d,a2,c2,G1,h1,kd,_,_,ha2,hc2,_⟩:=uY n0 n1 w0 w1 3 2 2 (by omega) (by omega) ns (T++.lst (ys.map dlU)::G) a1 c1 10 ha1 hc1 (by omega) (by omega)
     have c2':((2:Nat):Int)=2:=rfl
     simp only[c2',List.append_assoc,List.cons_append]at h1
     refine⟨d,a2,c2,G1,?_,kd,ha2,hc2⟩
     rw[em]
     rwa[bj,e1,t5,t0,h1,fq hL,dlU]
    ·have t0:decide (f=0)=false:=decide_eq_false f0
     obtain⟨d,a2,c2,G1,h1,kd,ha2,hc2⟩:=mk ha1 hc1
     refine⟨d,a2,c2,G1,?_,kd,ha2,hc2⟩
     rw[em]
     rwa[bj,e1,t5,t0,h1,fq hL]
   ·have t5:decide (m<5)=false:=decide_eq_false m5
    obtain⟨d,a2,c2,G1,h1,kd,ha2,hc2⟩:=mk ha hc
    refine⟨d,a2,c2,G1,?_,kd,ha2,hc2⟩
    rw[em]
    rwa[bj,t5,h1,fq hL]
  obtain⟨d,a1,c1,G1,h1,kd,ha1,hc1⟩:=step
  obtain⟨zs,a2,c2,G2,r',h2,e2,b2,ha2,hc2⟩:=qF ns T n0 n1 w0 w1 us (some u) (ys++[d]) (G++G1) (m:=m) ha1 hc1 (by simp at hl ⊢;omega) (fun x hx=>by
   rcases List.mem_append.mp hx with z|z
   ·exact hy x z
   ·rw[List.mem_singleton.mp z];exact kd)
  exact⟨zs,a2,c2,G2,r',(bF trivial rfl h1).trans h2,by simp at e2 ⊢;omega,b2,ha2,hc2⟩
theorem C9(ns:List Int)(T:Sto){a c n w:Int}(ha:0<=a)(hc:0<=c)(n0:1<=n)(n1:n<=6)(w0:2<=w)(w1:w<=1000) :
  ∃(Ds:List (List (Dl 2))) (a' c':Int) (G:Sto),nQ [.ref 1,.tup [.int n,.int w],.int 6] (scr ns::pen a c::T)=some (.ref (T.length+1+1),scr ns::pen a' c'::(T++.lst (Ds.map dlU)::G))/\Ds.length<=6/\(∀d∈Ds,OkL n w 2 d)/\0<=a'/\0<=c':=by
 unfold nQ
 rw[jf]
 obtain⟨f,a1,c1,e1,p1,q1,ha1,hc1⟩:=bR ns (T++[.lst []]) (m:=6) ha hc (by decide) (by decide +kernel)
 obtain⟨zs,a2,c2,G2,r',h2,e2,b2,ha2,hc2⟩:=qF ns T n0 n1 w0 w1 (fG 0 (1+f).toNat) none [] [] (m:=1+f) ha1 hc1 (by simp[fG];omega) (by simp)
 refine⟨zs,a2,c2,G2,?_,by rw[e2];simp[fG];omega,b2,ha2,hc2⟩
 have hr:-(2^62)<=1+f/\1+f<2^62:=by omega
 simp only[List.map_nil]at h2
 rwa[bQ,jV,fh,e1,hr,h2,if_true,and_self]
section
variable{kn:Kn}{kus:List (NK×U)}{n w:Int}{Z Y S:Sto}{dl ll ld F:Nat}{f:Fn}{st:U}{Ds:List (List (Dl 2))}{st0:List Int}{b:Nat}{no:List Nat}
theorem RA.keys(h:RA b no Y kn kus):(kus.map fun q=>nU q.1)=kn.map plQ:=by
 induction h with
 |nil=>rfl
 |@cons q k ks us r t ih=>
  rw[List.map_cons,List.map_cons,ih,r.1]
  rfl
theorem JQ{l:Nat}{u:U}{p:Pl}{ep:Nat}(h:Y[l]?=some (.fdn ep kus))(v:cE kus (nkP p)=some u):vY (.ref l) (plU p) Y=some (u,Y):=by
 unfold vY plU
 dsimp only
 rw[kJ,Option.bind_some]
 unfold Ey
 rw[h]
 dsimp only
 rw[Option.bind_some,v]
 rfl
theorem um{o1 o2:O}(h:Y[dl]?=some o2):(Y.set dl o1).set dl o2=Y:=by
 rw[List.set_set]
 refine List.ext_getElem? fun i=>?_
 by_cases e:dl=i
 ·subst e
  rw[List.getElem?_set_self (List.getElem?_eq_some_iff.mp h).1,h]
 ·rw[List.getElem?_set_ne e]
def follow(w:Int)(Ds:List (List (Dl 2))):List Int->List Int->Option (List Int)
 |[],st=>some st
 |o::os,st=>(goD w st (Ds.getD o.toNat [])).bind (follow w Ds os)
theorem oR:∀(os ps:List Int) (st:List Int),follow w Ds (os++ps) st=(follow w Ds os st).bind (follow w Ds ps)
 |[],ps,st=>rfl
 |o::os,ps,st=>by
  rw[List.cons_append]
  unfold follow
  cases goD w st (Ds.getD o.toNat [])with
  |none=>rfl
  |some s=>rw[Option.bind_some,Option.bind_some];exact oR os ps s
theorem ql.follow{r:List Int}{p:Pl}(h:ql w Ds st0 r p):OQ.follow w Ds r st0=some p.2:=by
 induction h with
 |nil=>rfl
 |@snoc r p p' a _ hw ih=>
  obtain⟨i,h1,h2,h3,st,h4,h5⟩:=fB hw
  rw[oR,ih,Option.bind_some]
  unfold OQ.follow
  rw[h1,Nat.zero_add,Int.toNat_natCast,h4,h5]
  rfl
end
local macro_rules
 | `(tactic| and_intros) => `(tactic| (repeat' first | assumption | exact K3 | exact k_c | exact K9 | exact HA | exact HI | exact Le | exact Ld | exact MB | exact MD | exact Jk | exact Jg | exact Ji | exact E6 | exact Jh | exact E8 | exact BY | exact zb | exact wb | exact MC | exact Jm | exact E7 | exact Jj | exact (fun _ _ => zc) | apply Nd | apply K6 | apply K5 | apply K7 | apply HH | apply Lc | apply Nb | apply HK | apply K4 | apply La | apply Nf | apply Hz | apply Li | apply Na | apply K8 | apply HL | apply Lg | apply HB | apply HD | apply HE | apply Ng | apply D9 | apply Lh | apply sU | apply Lf | apply Lb | apply HG | apply HF | apply AD | apply M9 | (apply HJ; simp only [List.forall_mem_cons, List.forall_mem_nil, and_true]) | (intro _ hx; cases hx) | (intro _ hx; cases hx; done) | apply And.intro))
variable{z:Fz}{cD:Cl}{f:Fn}
theorem yE:CmF z rT:=by unfold rT gF g5;and_intros
theorem yD:CmF z oZ:=by unfold oZ gE;and_intros
theorem p9:CmF z (iq cD):=by unfold iq dn;and_intros
theorem yG:CmF z (o8 cD):=by have:=yD (z:=z);unfold o8 dU;and_intros
theorem Iy:CmF z (E1 cD):=by unfold E1 bJ;and_intros
theorem IA:CmF z (E2 cD):=by have:=yE (z:=z);have:=Iy (z:=z) (cD:=cD);unfold E2 bX;and_intros
theorem EE:CmF z (lT cD):=by unfold lT bK;and_intros
theorem A3:CmF z (nR cD):=by have:=yE (z:=z);have:=Iy (z:=z) (cD:=cD);unfold nR bY;and_intros
theorem EC:CmF z (o9 cD):=by have:=yG (z:=z) (cD:=cD);have:=p9 (z:=z) (cD:=cD);have:=IA (z:=z) (cD:=cD);unfold o9 dW;and_intros
theorem EF:CmF z (jo cD):=by have:=p9 (z:=z) (cD:=cD);unfold jo dq;and_intros
theorem LM:CmF z (y8 cD):=by have:=yD (z:=z);have:=p9 (z:=z) (cD:=cD);have:=EE (z:=z) (cD:=cD);have:=A3 (z:=z) (cD:=cD);have:=yG (z:=z) (cD:=cD);have:=IA (z:=z) (cD:=cD);unfold y8 aV;and_intros
theorem ED:CmF z (pe cD):=by have:=p9 (z:=z) (cD:=cD);have:=EF (z:=z) (cD:=cD);have:=EC (z:=z) (cD:=cD);have:=LM (z:=z) (cD:=cD);unfold pe cF bB;and_intros
theorem LK:CmF z (EZ cD):=by unfold EZ bW;and_intros
theorem EB:CmF z (o7 cD):=by have:=yE (z:=z);unfold o7 dS;and_intros
theorem A4:CmF z (hU cD):=by have:=ED (z:=z) (cD:=cD);have:=LK (z:=z) (cD:=cD);have:=EB (z:=z) (cD:=cD);unfold hU jP kx;and_intros
theorem LL:CmF z BW:=by unfold BW bA;and_intros
theorem u0(h:CmF z f):CmF z (kZ f):=by have:=LL (z:=z);unfold kZ dh bb cG;and_intros
theorem u2:∀J,CmF z (rS J)
 |0=>u0 HC
 |J+1=>u0 (u2 J)
theorem yF:CmF z (cZ 3):=by have:=u2 (z:=z) 3;unfold cZ dk;and_intros
theorem EA(h:CmF z f):CmF z (cY f):=by unfold cY eO cB;and_intros
section
variable{kn:Kn}{kus:List (NK×U)}{n w:Int}{Z Y S X:Sto}{dl ll ld F:Nat}{f:Fn}{st:U}{Ds:List (List (Dl 2))}{st0:List Int}{b:Nat}{no:List Nat}{p:Pl}
abbrev ln(q:Pl×List Int):Nat:=q.1.1.length
structure Asc(L:Nat)(kn:Kn):Prop where
 so:kn.Pairwise fun a b=>ln a<=ln b
 le:∀q∈kn,ln q<=L
theorem Asc.add{L:Nat}{row:List Int}:∀(ws:List (Int×Pl)) (kn:Kn),Asc L kn->(∀x∈ws,x.2.1.length=L)->Asc L (rY row ws kn)
 |[],kn,h,_=>h
 |(a,p)::ws,kn,h,hw=>by
  unfold rY
  refine Asc.add ws _ ?_ fun x hx=>hw x (List.mem_cons_of_mem _ hx)
  split
  ·exact h
  ·have hp:p.1.length=L:=hw _ List.mem_cons_self
   refine⟨List.pairwise_append.mpr ⟨h.so,List.pairwise_singleton _ _,fun x hx y hy=>?_⟩,fun q hq=>?_⟩
   ·rw[List.mem_singleton.mp hy]
    have:=h.le x hx
    show _<=p.1.length
    omega
   ·rcases List.mem_append.mp hq with z|z
    ·exact h.le q z
    ·rw[List.mem_singleton.mp z];exact Nat.le_of_eq hp
theorem zA{x:Int×Pl}(h:x∈bD w p Ds 0):x.2.1.length=p.1.length+1:=by
 obtain⟨a,p'⟩:=x
 obtain⟨i,_,_,_,s,_,rfl⟩:=fB h
 show(dr (p.1++[a])).length=_
 rw[(cg _).length_eq,List.length_append]
 rfl
theorem yR:∀(g i:Nat) (kn:Kn),kn.Pairwise (fun a b=>ln a<=ln b)->(∀q,kn[i]?=some q->Asc (ln q+1) kn)->(bfs w Ds g i kn).Pairwise fun a b=>ln a<=ln b
 |0,_,kn,h,_=>h
 |g+1,i,kn,h,hi=>by
  unfold bfs
  split
  ·exact h
  ·rename_i q hq
   have A:=Asc.add (row:=q.2) (bD w q.1 Ds 0) kn (hi q hq) fun x hx=>zA hx
   refine yR g (i+1) _ A.so fun q' hq'=>⟨A.so,fun x hx=>?_⟩
   have h1:=A.le x hx
   have h2:ln q<=ln q':=by
    obtain⟨t,e⟩:=jc (row:=q.2) (bD w q.1 Ds 0) kn
    have hq2:(rY q.2 (bD w q.1 Ds 0) kn)[i]?=some q:=by rw[e];exact aJ hq
    obtain⟨l1,e1⟩:=List.getElem?_eq_some_iff.mp hq2
    obtain⟨l2,e2⟩:=List.getElem?_eq_some_iff.mp hq'
    have:=List.pairwise_iff_getElem.mp A.so i (i+1) l1 l2 (Nat.lt_succ_self i)
    rw[e1,e2]at this
    exact this
   omega
theorem wX:(cW w Ds st0).Pairwise fun a b=>ln a<=ln b:=yR _ _ _ (List.pairwise_singleton _ _) fun q hq=>by
 have:q=(([],st0),[]):=by
  have:(kn0 st0)[0]?=some (([],st0),[]):=rfl
  rw[this]at hq;injection hq with hq;exact hq.symm
 subst this
 exact⟨List.pairwise_singleton _ _,fun x hx=>by rw[List.mem_singleton.mp hx];exact Nat.zero_le _⟩
theorem uU{α:Type}{R:α->α->Prop}{t:α->Bool}(rr:∀a,R a a):∀{l:List α} {q:α},l.Pairwise R->l.find? t=some q->∀b∈l,t b=true->R q b
 |a::l,q,h,hq,b,hb,tb=>by
  rw[List.find?_cons]at hq
  rw[List.pairwise_cons]at h
  cases ha:t a with
  |true=>
   rw[ha]at hq
   injection hq with hq
   subst hq
   rcases List.mem_cons.mp hb with rfl|hb
   ·exact rr _
   ·exact h.1 b hb
  |false=>
   rw[ha]at hq
   rcases List.mem_cons.mp hb with rfl|hb
   ·rw[ha]at tb;cases tb
   ·exact uU rr h.2 hq b hb tb
def stk(w:Int)(Ds:List (List (Dl 2)))(q:Pl×List Int):Bool:=decide ((q.1.1.length:Int)<(Ds.length:Int))&&decide (((bD w q.1 Ds 0).length:Int)=0)
abbrev Yf(Y:Sto)(dl ep:Nat)(kus:List (NK×U)):Sto:=Y.set dl (.fdn ep kus)
theorem yX{f:Fn}{us:List U}{u:U}{G:Sto}(hc:∀z,CmF z f)(hl:dl<Y.length)(h:f us (Yf Y dl 0 kus++X)=some (u,Yf Y dl 0 kus++X++G))(ep:Nat):f us (Yf Y dl ep kus++X)=some (u,Yf Y dl ep kus++(X++G)):=by
 let z:Fz:=⟨dl,0,ep,kus⟩
 have on0:z.on (Yf Y dl 0 kus):=List.getElem?_set_self hl
 have to0:z.to (Yf Y dl 0 kus)=Yf Y dl ep kus:=List.set_set ..
 have k:=(hc z us _ _ _ (Fz.app_on on0) h).1
 rw[Fz.app on0,List.append_assoc,Fz.app on0,to0]at k
 exact k
theorem Bj(hf:iC n w f)(hc:∀z,CmF z f)(hl:dl<Y.length)(ne:ld≠dl)(hp:p.1.length<=40)(hs:p.2.length=n.toNat)(hd:Y[ld]?=some (.lst (Ds.map dlU)))(ok:∀d∈Ds,OkL n w 2 d)(hN:Ds.length<=6)(X:Sto) :
  ∃G,∀ep,cY f [.tup [.int n,.int w],.ref ld,plU p] (Yf Y dl ep kus++X)=some (.ref (Y.length+X.length),Yf Y dl ep kus++(X++(.lst ((bD w p Ds 0).map iE)::G))):=by
 have hd0:(Yf Y dl 0 kus++X)[ld]?=some (.lst (Ds.map dlU)):=aJ (by rw[List.getElem?_set_ne (Ne.symm ne)];exact hd)
 obtain⟨G,h⟩:=pj (p:=p) hf hp hs hd0 ok (by omega)
 refine⟨G,fun ep=>?_⟩
 have:=yX (fun z=>EA (hc z)) hl h ep
 rw[List.length_append,List.length_set]at this
 exact this
def rV(f:Fn):Fn:=fnU 3 3 (fA (cY f))
theorem H0(hf:iC n w f)(hc:∀z,CmF z f)(hl:dl<Y.length)(ne:ld≠dl)(q:Pl×List Int)(hp:q.1.1.length<=40)(hs:q.1.2.length=n.toNat)(hd:Y[ld]?=some (.lst (Ds.map dlU)))(ok:∀d∈Ds,OkL n w 2 d)(hN:Ds.length<=6)(X:Sto) :
  ∃G,∀ep,rV f [.tup [.int n,.int w],.ref ld,plU q.1] (Yf Y dl ep kus++X)=some (.bl (stk w Ds q),Yf Y dl ep kus++(X++G)):=by
 obtain⟨G,h⟩:=Bj (kus:=kus) hf hc hl ne hp hs hd ok hN X
 have l1:((q.1.1.map U.int).length:Int)=(q.1.1.length:Int):=by rw[List.length_map]
 have l2:((Ds.map dlU).length:Int)=(Ds.length:Int):=by rw[List.length_map]
 have l3:(((bD w q.1 Ds 0).map iE).length:Int)=((bD w q.1 Ds 0).length:Int):=by rw[List.length_map]
 have g:∀ep,(Yf Y dl ep kus++X)[ld]?=some (.lst (Ds.map dlU)):=fun ep=>aJ (by rw[List.getElem?_set_ne (Ne.symm ne)];exact hd)
 unfold rV
 cases c:decide ((q.1.1.length:Int)<(Ds.length:Int))with
 |false=>
  refine⟨[],fun ep=>?_⟩
  rw[oT,List.append_nil]
  unfold stk
  rw[c]
  rwa[fA,plU,l1,l2,g,c,Bool.false_and]
 |true=>
  refine⟨.lst ((bD w q.1 Ds 0).map iE)::G,fun ep=>?_⟩
  have hw:=h ep
  obtain⟨T,hT⟩:∃T,T=Yf Y dl ep kus++(X++(.lst ((bD w q.1 Ds 0).map iE)::G)):=⟨_,rfl⟩
  have gw:T[Y.length+X.length]?=some (.lst ((bD w q.1 Ds 0).map iE)):=by
   rw[hT,<-List.append_assoc,show Y.length+X.length=(Yf Y dl ep kus++X).length by rw[List.length_append,List.length_set],ga0];rfl
  rw[<-hT]at hw ⊢
  rw[oT]
  unfold stk
  rw[c]
  simp only[plU]at hw
  rwa[fA,plU,l1,l2,l3,g,c,hw,gw,Bool.true_and]
end
section
variable{kn:Kn}{kus:List (NK×U)}{n w:Int}{Y S:Sto}{dl ll ld:Nat}{f:Fn}{Ds:List (List (Dl 2))}{st0:List Int}
def Jd(kus:List (NK×U))(w:Int)(Ds:List (List (Dl 2)))(kn:Kn):Out:=match kn.find? (stk w Ds)with
 |some q=>.rt (.tup [.str "stuck",(cE kus (nkP q.1)).getD .non])
 |none=>.nx
def zQ(w:Int)(Ds:List (List (Dl 2))):Kn->Option U->Option U
 |[],r=>r
 |q::kn,_=>if stk w Ds q=true then some (plU q.1)else zQ w Ds kn (some (plU q.1))
theorem oA(hf:iC n w f)(hc:∀z,CmF z f)(hl:dl<Y.length)(ne:ld≠dl)(hd:Y[ld]?=some (.lst (Ds.map dlU)))(ok:∀d∈Ds,OkL n w 2 d)(hN:Ds.length<=6){x1:Option U}:∀(kn:Kn) (r4:Option U) (X:Sto),(∀q∈kn,∃u,cE kus (nkP q.1)=some u)->(∀q∈kn,q.1.1.length<=40/\q.1.2.length=n.toNat)->
  ∃X',∀ep,cP (fun S'=>S'[dl]?=some (.fdn ep kus)) (gNm 4) (iZ (o3 f 3000) (rV f)) (kn.map plQ) [some (.tup [.int n,.int w]),x1,some (.ref ld),some (.ref dl),r4] (Yf Y dl ep kus++X)=some (Jd kus w Ds kn,[some (.tup [.int n,.int w]),x1,some (.ref ld),some (.ref dl),zQ w Ds kn r4],Yf Y dl ep kus++X')
 |[],r4,X,_,_=>⟨X,fun ep=>d9 (aJ (List.getElem?_set_self hl))⟩
 |q::kn,r4,X,hv,hk=>by
  obtain⟨G,h⟩:=H0 (kus:=kus) hf hc hl ne q (hk q List.mem_cons_self).1 (hk q List.mem_cons_self).2 hd ok hN X
  obtain⟨u,v⟩:=hv q List.mem_cons_self
  have on:∀ep T,(Yf Y dl ep kus++T)[dl]?=some (.fdn ep kus):=fun ep T=>aJ (List.getElem?_set_self hl)
  unfold Jd zQ
  rw[List.find?_cons,List.map_cons]
  cases c:stk w Ds q with
  |true=>
   refine⟨X++G,fun ep=>sO (on ep X) rfl ?_⟩
   have he:=h ep
   have hx:=JQ (on ep (X++G)) v
   obtain⟨T,hT⟩:∃T,T=Yf Y dl ep kus++(X++G):=⟨_,rfl⟩
   rw[<-hT]at he hx ⊢
   rw[c]at he
   rw[v]
   rwa[iZ,plQ,he,hx,Option.getD_some,if_true]
  |false=>
   obtain⟨X',ih⟩:=oA hf hc hl ne hd ok hN (x1:=x1) kn (some (plU q.1)) (X++G) (fun x hx=>hv x (List.mem_cons_of_mem _ hx)) (fun x hx=>hk x (List.mem_cons_of_mem _ hx))
   refine⟨X',fun ep=>(bF (on ep X) rfl ?_).trans (ih ep)⟩
   have he:=h ep
   obtain⟨T,hT⟩:∃T,T=Yf Y dl ep kus++(X++G):=⟨_,rfl⟩
   rw[<-hT]at he ⊢
   rw[c]at he
   rwa[iZ,plQ,he]
def k7(f:Fn):Fn:=fnU 5 3 (nI (o3 f 3000) (rV f))
def EN(S Y:Sto)(w:Int)(Ds:List (List (Dl 2)))(kn:Kn)(v:U):Prop:=∃l,S.length<=l/\match kn.find? (stk w Ds)with
 |some q=>v=.tup [.str "stuck",.ref l]/\Y[l]?=some (.lst (q.2.map U.int))
 |none=>v=.tup [.str "free",.ref l]/\∃us,us.length<=1957/\Y[l]?=some (.lst us)
theorem Ht(hN:Ds.length<=6)(hs:st0.length=n.toNat):∀q∈cW w Ds st0,q.1.1.length<=40/\q.1.2.length=n.toNat:=fun q hq=>by
 have pa:=(mq (w:=w) (Ds:=Ds) (st0:=st0)).pa q hq
 have po:=pa.ok
 have:=pa.few hN
 exact⟨by rw[po.gone,(cg _).length_eq];omega,by rw[po.len];exact hs⟩
theorem zI(hf:iC n w f)(hc:∀z,CmF z f)(hN:Ds.length<=6)(hs:st0.length=n.toNat)(ok:∀d∈Ds,OkL n w 2 d)(hz:S[ld]?=some (.lst (Ds.map dlU))) :
  ∃v G,k7 f [.tup [.int n,.int w],.tup (st0.map U.int),.ref ld] S=some (v,S++G)/\EN S (S++G) w Ds (cW w Ds st0) v:=by
 unfold k7
 rw[Et]
 obtain⟨kus,lus,Y,e1,B⟩:=Dg hf hN hs ok hz
 obtain⟨G,eG⟩:=B.pre
 have I:=mq (w:=w) (Ds:=Ds) (st0:=st0)
 have few:=I.few hN
 have hl:S.length<Y.length:=(List.getElem?_eq_some_iff.mp B.hd).1
 have ldS:ld<S.length:=(List.getElem?_eq_some_iff.mp hz).1
 have s1:bO 3 (cCB (o3 f 3000) (ae (ah 0) (ae (ah 1) (ae (ah 2) aA)))) [some (.tup [.int n,.int w]),some (.tup (st0.map U.int)),some (.ref ld),none,none] S=some (.nx,[some (.tup [.int n,.int w]),some (.tup (st0.map U.int)),some (.ref ld),some (.ref S.length),none],Y):=by
  rwa[e1]
 obtain⟨X,hX⟩:=oA (kus:=kus) (x1:=some (.tup (st0.map U.int))) hf hc hl (by omega:ld≠S.length) (by rw[eG];exact aJ hz) ok hN (cW w Ds st0) none [] (fun q hq=>by
  obtain⟨l,v,_⟩:=B.ra.val I.nd hq
  exact⟨_,v⟩) (Ht hN hs)
 have lp:yO (ah 3) (gNm 4) (iZ (o3 f 3000) (rV f)) [some (.tup [.int n,.int w]),some (.tup (st0.map U.int)),some (.ref ld),some (.ref S.length),none] Y=some (Jd kus w Ds (cW w Ds st0),[some (.tup [.int n,.int w]),some (.tup (st0.map U.int)),some (.ref ld),some (.ref S.length),zQ w Ds (cW w Ds st0) none],Y++X):=by
  have v3:ah 3 [some (.tup [.int n,.int w]),some (.tup (st0.map U.int)),some (.ref ld),some (.ref S.length),none] Y=some (.ref S.length,Y):=rfl
  unfold yO
  rw[v3,Option.bind_some]
  dsimp only
  rw[B.hd]
  dsimp only
  rw[B.ra.keys]
  refine ui fun ep=>?_
  have hx:=hX ep
  rw[List.append_nil]at hx
  rw[hx,Option.bind_some]
  dsimp only
  rw[aJ (List.getElem?_set_self hl)]
  dsimp only
  rw[List.set_append_left _ _ (by rw[List.length_set];exact hl),um B.hd]
 unfold nI
 rw[ml s1]
 unfold Jd at lp
 cases hq:(cW w Ds st0).find? (stk w Ds)with
 |some q=>
  rw[hq]at lp
  obtain⟨l,v,l1,l2,l3⟩:=B.ra.val I.nd (List.mem_of_find?_eq_some hq)
  dsimp only at lp
  rw[v]at lp
  refine⟨.tup [.str "stuck",.ref l],G++X,?_,l,l1,?_⟩
  ·rw[Ca,lp,<-List.append_assoc,<-eG];rfl
  ·rw[hq,<-List.append_assoc,<-eG];exact⟨rfl,aJ l3⟩
 |none=>
  rw[hq]at lp
  have hd2:(Y++X)[S.length]?=some (.dnt kus):=aJ B.hd
  refine⟨.tup [.str "free",.ref (Y++X).length],G++X++[.lst ((cW w Ds st0).map plQ)],?_,(Y++X).length,by rw[List.length_append];omega,?_⟩
  ·have el:∀ρ:Rho,ρ[3]?=some (some (.ref S.length))->eV (cL (ae (cC (.str "free")) (ae (cCB oS (ae (ah 3) aA)) aA))) ρ (Y++X)=some (.rt (.tup [.str "free",.ref (Y++X).length]),ρ,Y++X++[.lst ((cW w Ds st0).map plQ)]):=fun ρ h=>by
    have h3:oS [.ref S.length] (Y++X)=some (.ref (Y++X).length,Y++X++[.lst ((cW w Ds st0).map plQ)]):=by
     simp only[oS,hd2,B.ra.keys]
    obtain⟨T,hT⟩:∃T,T=Y++X:=⟨_,rfl⟩
    rw[<-hT]at h3 ⊢
    rwa[h,h3]
   rw[ml lp,el _ rfl,<-List.append_assoc,<-List.append_assoc,<-eG]
   rfl
  ·rw[hq]
   refine⟨rfl,_,?_,by rw[<-List.append_assoc,<-List.append_assoc,<-eG,ga0];rfl⟩
   rw[List.length_map];exact few
abbrev kK(w:Int)(Ds:List (List (Dl 2)))(kn:Kn):List Int:=(kn.filter (stk w Ds)).map fun q=>(q.1.1.length:Int)
abbrev ctF(f:Fn):CT:=me (aH (cOp fLt (cCB fU (ae (cOp fIx (ah 0) (cC (.int 0))) aA)) (cCB fU (ae (ah 1) aA)))) (aH (cOp (vL false) (cCB (cY f) (ae (ah 2) (ae (ah 1) (ae (ah 0) aA)))) (gG aA)))
theorem AM(hf:iC n w f)(hc:∀z,CmF z f)(hl:dl<Y.length)(ne:ld≠dl)(q:Pl×List Int)(hp:q.1.1.length<=40)(hs:q.1.2.length=n.toNat)(hd:Y[ld]?=some (.lst (Ds.map dlU)))(ok:∀d∈Ds,OkL n w 2 d)(hN:Ds.length<=6)(X:Sto) :
  ∃G,∀ep,ctF f [some (plQ q),some (.ref ld),some (.tup [.int n,.int w])] (Yf Y dl ep kus++X)=some (stk w Ds q,Yf Y dl ep kus++(X++G)):=by
 obtain⟨G,h⟩:=Bj (kus:=kus) hf hc hl ne hp hs hd ok hN X
 have l1:((q.1.1.map U.int).length:Int)=(q.1.1.length:Int):=by rw[List.length_map]
 have l2:((Ds.map dlU).length:Int)=(Ds.length:Int):=by rw[List.length_map]
 have g:∀ep,(Yf Y dl ep kus++X)[ld]?=some (.lst (Ds.map dlU)):=fun ep=>aJ (by rw[List.getElem?_set_ne (Ne.symm ne)];exact hd)
 cases c:decide ((q.1.1.length:Int)<(Ds.length:Int))with
 |false=>
  refine⟨[],fun ep=>?_⟩
  unfold stk
  rw[List.append_nil,c]
  rwa[plQ,plU,l1,l2,g,c,Bool.false_and]
 |true=>
  refine⟨.lst ((bD w q.1 Ds 0).map iE)::G++[.lst []],fun ep=>?_⟩
  have hw:=h ep
  obtain⟨T,hT⟩:∃T,T=Yf Y dl ep kus++(X++(.lst ((bD w q.1 Ds 0).map iE)::G)):=⟨_,rfl⟩
  have gw:∀T',(T++T')[Y.length+X.length]?=some (.lst ((bD w q.1 Ds 0).map iE)):=fun T'=>aJ (by
   rw[hT,<-List.append_assoc,show Y.length+X.length=(Yf Y dl ep kus++X).length by rw[List.length_append,List.length_set],ga0];rfl)
  have eT:Yf Y dl ep kus++(X++(.lst ((bD w q.1 Ds 0).map iE)::G++[.lst []]))=T++[.lst []]:=by rw[hT];simp only[List.append_assoc,List.cons_append]
  rw[eT]
  rw[<-hT]at hw
  have eq:vL false (.ref (Y.length+X.length)) (.ref T.length) (T++[.lst []])=some (.bl (decide (((bD w q.1 Ds 0).length:Int)=0)),T++[.lst []]):=by
   have g1:=gw [.lst []]
   have g2:(T++[O.lst []])[T.length]?=some (.lst []):=by rw[ga0];rfl
   cases hW:bD w q.1 Ds 0 with
   |nil=>
    rw[hW]at g1
    exact(jR.lst (k:=0) g1 g2 .nil).eq (by omega)
   |cons x r=>
    rw[hW]at g1
    have:=tu (x:=.ref (Y.length+X.length)) (y:=.ref T.length) false (.inr ⟨_,_,_,_,rfl,rfl,g1,g2,by simp,rfl⟩)
    rw[this,decide_eq_false (by simp only[List.length_cons];omega)]
    rfl
  unfold stk
  rw[c]
  simp only[plU]at hw
  rwa[plQ,plU,l1,l2,g,c,hw,eq,Bool.true_and]
end
section
variable{kn:Kn}{kus:List (NK×U)}{n w:Int}{Y S:Sto}{dl ll ld:Nat}{f:Fn}{Ds:List (List (Dl 2))}{st0:List Int}
theorem pY(hf:iC n w f)(hc:∀z,CmF z f)(hl:dl<Y.length)(ne:ld≠dl)(hd:Y[ld]?=some (.lst (Ds.map dlU)))(ok:∀d∈Ds,OkL n w 2 d)(hN:Ds.length<=6):∀(kn:Kn) (r:Option U) (ys:List Int) (X:Sto),(∀q∈kn,q.1.1.length<=40/\q.1.2.length=n.toNat)->ys.length+kn.length<=2000->
  ∃X',∀ep,b8 (fun S'=>S'[dl]?=some (.fdn ep kus)) (gNm 0) (ctF f) (cCB fU (ae (cOp fIx (ah 0) (cC (.int 0))) aA)) Y.length (kn.map plQ) [r,some (.ref ld),some (.tup [.int n,.int w])] (Yf Y dl ep kus++(.lst (ys.map U.int)::X))=some (Yf Y dl ep kus++(.lst ((ys++kK w Ds kn).map U.int)::X'))
 |[],r,ys,X,_,_=>⟨X,fun ep=>by rw[show kK w Ds []=[]from rfl,List.append_nil];exact oV (aJ (List.getElem?_set_self hl))⟩
 |q::kn,r,ys,X,hk,hy=>by
  rw[List.length_cons]at hy
  have on:∀ep T,(Yf Y dl ep kus++T)[dl]?=some (.fdn ep kus):=fun ep T=>aJ (List.getElem?_set_self hl)
  obtain⟨G,h⟩:=AM (kus:=kus) hf hc hl ne q (hk q List.mem_cons_self).1 (hk q List.mem_cons_self).2 hd ok hN (.lst (ys.map U.int)::X)
  unfold kK
  rw[List.filter_cons,List.map_cons]
  cases c:stk w Ds q with
  |false=>
   obtain⟨X',ih⟩:=pY hf hc hl ne hd ok hN kn (some (plQ q)) ys (X++G) (fun x hx=>hk x (List.mem_cons_of_mem _ hx)) (by omega)
   refine⟨X',fun ep=>?_⟩
   have he:=h ep
   rw[c]at he
   rw[if_neg Bool.false_ne_true]
   exact(rL (on ep _) rfl he).trans (ih ep)
  |true=>
   obtain⟨X',ih⟩:=pY hf hc hl ne hd ok hN kn (some (plQ q)) (ys++[(q.1.1.length:Int)]) (X++G) (fun x hx=>hk x (List.mem_cons_of_mem _ hx)) (by rw[List.length_append,List.length_singleton];omega)
   refine⟨X',fun ep=>?_⟩
   have he:=h ep
   rw[c]at he
   have l1:((q.1.1.map U.int).length:Int)=(q.1.1.length:Int):=by rw[List.length_map]
   have gy:(Yf Y dl ep kus++(.lst (ys.map U.int)::X++G))[Y.length]?=some (.lst (ys.map U.int)):=by
    have:(Yf Y dl ep kus++(.lst (ys.map U.int)::X++G))[(Yf Y dl ep kus).length]?=some (.lst (ys.map U.int)):=by rw[ga0];rfl
    rw[List.length_set]at this
    exact this
   refine(oU (x:=.int (q.1.1.length:Int)) (on ep _) rfl he ?_ gy (by unfold LIM;rw[List.length_map];omega)).trans ?_
   ·rwa[plQ,plU,l1]
   ·have e1:(Yf Y dl ep kus++(.lst (ys.map U.int)::X++G)).set Y.length (.lst (ys.map U.int++[.int (q.1.1.length:Int)]))=Yf Y dl ep kus++(.lst ((ys++[(q.1.1.length:Int)]).map U.int)::(X++G)):=by
     have:Y.length=(Yf Y dl ep kus).length:=(List.length_set ..).symm
     rw[this,gs0,List.map_append]
     rfl
    rw[e1,if_pos rfl,List.map_cons]
    have:=ih ep
    rw[List.append_assoc]at this
    exact this
def hG(f:Fn):Fn:=fnU 5 3 (eA (qd f 3000) (cY f))
theorem yg(hf:iC n w f)(hc:∀z,CmF z f)(hN:Ds.length<=6)(hs:st0.length=n.toNat)(ok:∀d∈Ds,OkL n w 2 d)(hz:S[ld]?=some (.lst (Ds.map dlU))) :
  ∃G,hG f [.tup [.int n,.int w],.tup (st0.map U.int),.ref ld] S=some (.int (Bz (kK w Ds (cW w Ds st0)++[7])),S++G):=by
 unfold hG
 rw[p8]
 obtain⟨kus,lus,Y,e1,B⟩:=Aw hf hN hs ok hz
 obtain⟨G,eG⟩:=B.pre
 have I:=mq (w:=w) (Ds:=Ds) (st0:=st0)
 have few:=I.few hN
 have hl:S.length+1<Y.length:=(List.getElem?_eq_some_iff.mp B.hd).1
 have ldS:ld<S.length:=(List.getElem?_eq_some_iff.mp hz).1
 obtain⟨X,hX⟩:=pY (kus:=kus) hf hc hl (by omega:ld≠S.length+1) (by rw[eG];exact aJ hz) ok hN (cW w Ds st0) none [] [] (Ht hN hs) (by simp;omega)
 have s1:bO 3 (cCB (qd f 3000) (ae (ah 0) (ae (ah 1) (ae (ah 2) aA)))) [some (.tup [.int n,.int w]),some (.tup (st0.map U.int)),some (.ref ld),none,none] S=some (.nx,[some (.tup [.int n,.int w]),some (.tup (st0.map U.int)),some (.ref ld),some (.ref (S.length+1)),none],Y):=by
  rwa[e1]
 obtain⟨T,hT⟩:∃T,T=Y++(.lst ((kK w Ds (cW w Ds st0)).map U.int)::X):=⟨_,rfl⟩
 have gT:T[Y.length]?=some (.lst ((kK w Ds (cW w Ds st0)).map U.int)):=by rw[hT,ga0];rfl
 have s2:bO 4 (kr (ah 3) (gNm 0) (ctF f) (cCB fU (ae (cOp fIx (ah 0) (cC (.int 0))) aA)) 1 [2,0]) [some (.tup [.int n,.int w]),some (.tup (st0.map U.int)),some (.ref ld),some (.ref (S.length+1)),none] Y=some (.nx,[some (.tup [.int n,.int w]),some (.tup (st0.map U.int)),some (.ref ld),some (.ref (S.length+1)),some (.ref Y.length)],T):=by
  have ec:kr (ah 3) (gNm 0) (ctF f) (cCB fU (ae (cOp fIx (ah 0) (cC (.int 0))) aA)) 1 [2,0] [some (.tup [.int n,.int w]),some (.tup (st0.map U.int)),some (.ref ld),some (.ref (S.length+1)),none] Y=some (.ref Y.length,T):=by
   have v3:ah 3 [some (.tup [.int n,.int w]),some (.tup (st0.map U.int)),some (.ref ld),some (.ref (S.length+1)),none] Y=some (.ref (S.length+1),Y):=rfl
   have hr:ur 1 [2,0] [some (.tup [.int n,.int w]),some (.tup (st0.map U.int)),some (.ref ld),some (.ref (S.length+1)),none]=[none,some (.ref ld),some (.tup [.int n,.int w])]:=rfl
   unfold kr yM
   rw[v3,Option.bind_some]
   dsimp only
   rw[B.hd]
   dsimp only
   refine ui fun ep=>?_
   have hx:=hX ep
   rw[List.nil_append]at hx
   have hx':b8 (fun S'=>S'[S.length+1]?=some (.fdn ep kus)) (gNm 0) (ctF f) (cCB fU (ae (cOp fIx (ah 0) (cC (.int 0))) aA)) Y.length ((cW w Ds st0).map plQ) [none,some (.ref ld),some (.tup [.int n,.int w])] (Yf Y (S.length+1) ep kus++[.lst []])=_:=hx
   rw[B.ra.keys,hr,hx',Option.bind_some]
   rw[aJ (List.getElem?_set_self hl)]
   dsimp only
   rw[List.set_append_left _ _ (by rw[List.length_set];exact hl),um B.hd,hT]
  rw[rZ,ec]
  rfl
 refine⟨G++(.lst ((kK w Ds (cW w Ds st0)).map U.int)::X)++[.lst [.int 7],.lst ((kK w Ds (cW w Ds st0)++[7]).map U.int)],?_⟩
 have eT:S++(G++(.lst ((kK w Ds (cW w Ds st0)).map U.int)::X)++[.lst [.int 7],.lst ((kK w Ds (cW w Ds st0)++[7]).map U.int)])=T++[.lst [.int 7],.lst ((kK w Ds (cW w Ds st0)++[7]).map U.int)]:=by
  rw[hT,eG];simp only[List.append_assoc]
 rw[eT]
 have ll':(kK w Ds (cW w Ds st0)).length<=1957:=by
  rw[List.length_map]
  exact Nat.le_trans (List.length_filter_le _ _) few
 have g7:(T++[O.lst [.int 7]])[T.length]?=some (.lst ([(7:Int)].map U.int)):=by rw[ga0];rfl
 have e2:eF (.ref Y.length) (.ref T.length) (T++[.lst [.int 7]])=some (.ref (T.length+1),T++[.lst [.int 7],.lst ((kK w Ds (cW w Ds st0)++[7]).map U.int)]):=by
  have hh:((kK w Ds (cW w Ds st0)).map U.int).length+([(7:Int)].map U.int).length<=LIM:=by
   have h9:((kK w Ds (cW w Ds st0)).map U.int).length=(kK w Ds (cW w Ds st0)).length:=List.length_map ..
   have h8:([(7:Int)].map U.int).length=1:=rfl
   rw[h9,h8]
   unfold LIM
   omega
  have gy:(T++[O.lst [.int 7]])[Y.length]?=some (.lst ((kK w Ds (cW w Ds st0)).map U.int)):=aJ gT
  simp only[eF,jL,gy,g7]
  rw[if_pos hh,List.append_assoc,List.length_append,List.map_append]
  rfl
 have g8:(T++[O.lst [.int 7],.lst ((kK w Ds (cW w Ds st0)++[7]).map U.int)])[T.length+1]?=some (.lst ((kK w Ds (cW w Ds st0)++[7]).map U.int)):=by rw[ga];rfl
 have e3:yj [.ref (T.length+1)] (T++[.lst [.int 7],.lst ((kK w Ds (cW w Ds st0)++[7]).map U.int)])=some (.int (Bz (kK w Ds (cW w Ds st0)++[7])),T++[.lst [.int 7],.lst ((kK w Ds (cW w Ds st0)++[7]).map U.int)]):=by
  have:0<(kK w Ds (cW w Ds st0)++[7]).length:=by rw[List.length_append,List.length_singleton];omega
  simp only[yj,g8,iW,Option.bind_some,if_pos this]
 have el:gG (ae (cC (.int 7)) aA) [some (.tup [.int n,.int w]),some (.tup (st0.map U.int)),some (.ref ld),some (.ref (S.length+1)),some (.ref Y.length)] T=some (.ref T.length,T++[.lst [.int 7]]):=rfl
 have ev:ah 4 [some (.tup [.int n,.int w]),some (.tup (st0.map U.int)),some (.ref ld),some (.ref (S.length+1)),some (.ref Y.length)] T=some (.ref Y.length,T):=rfl
 unfold eA
 rw[ml s1,ml s2,Fp,Cz,qq,Cb,ev,Option.bind_some,se,el,Option.bind_some,sd,e2,Option.bind_some,mE,wd,Option.bind_some,mD,Option.bind_some,sf,e3]
 rfl
theorem As(h:kn.find? (stk w Ds)=none):Bz (kK w Ds kn++[7])=7:=by
 have h0:kn.filter (stk w Ds)=[]:=List.filter_eq_nil_iff.mpr fun x hx=>by simpa using List.find?_eq_none.mp h x hx
 unfold kK
 rw[h0]
 exact sM (by simp) (by simp)
theorem Ar(hN:Ds.length<=6)(so:kn.Pairwise fun a b=>ln a<=ln b){q:Pl×List Int}(h:kn.find? (stk w Ds)=some q):Bz (kK w Ds kn++[7])=(q.1.1.length:Int)/\q.1.1.length<Ds.length/\bD w q.1 Ds 0=[]:=by
 have hs:=List.find?_some h
 unfold stk at hs
 rw[Bool.and_eq_true]at hs
 have h1:=of_decide_eq_true hs.1
 have h2:=of_decide_eq_true hs.2
 refine⟨sM ?_ fun a ha=>?_,by omega,List.eq_nil_of_length_eq_zero (by omega)⟩
 ·exact List.mem_append_left _ (List.mem_map.mpr ⟨q,List.mem_filter.mpr ⟨List.mem_of_find?_eq_some h,List.find?_some h⟩,rfl⟩)
 ·rcases List.mem_append.mp ha with z|z
  ·obtain⟨b,hb,rfl⟩:=List.mem_map.mp z
   obtain⟨b1,b2⟩:=List.mem_filter.mp hb
   have:=uU (R:=fun a b=>ln a<=ln b) (fun _=>Nat.le_refl _) so h b b1 b2
   have t:q.1.1.length<=b.1.1.length:=this
   omega
  ·rw[List.mem_singleton.mp z];omega
end
section
variable{n w:Int}{S:Sto}{ld:Nat}{f:Fn}{Ds:List (List (Dl 2))}
theorem LA{k:Int}{xs:List Int}{S:Sto}:fIn false (.int k) (.tup (xs.map U.int)) S=some (.bl (decide (k∈xs)),S):=by
 have h1:(xs.map U.int).all gv=true:=by rw[List.all_map];exact List.all_eq_true.mpr fun _ _=>rfl
 have h:=xv (k:=k) (xs:=xs) (S:=S)
 unfold fIn at h ⊢
 dsimp only at h ⊢
 rw[if_pos ⟨rfl,h1⟩]at h ⊢
 simp only[if_true,Option.some.injEq,Prod.mk.injEq,U.bl.injEq,and_true]at h
 have h2:inU (.int k) (xs.map U.int)=decide (k∈xs):=by
  cases a:inU (.int k) (xs.map U.int)<;>cases b:decide (k∈xs)<;>rw[a,b]at h<;>first|rfl|cases h
 rw[h2]
 rfl
theorem vm{p p':Pl}(h:bD w p Ds 0=[])(e1:∀a,a∈p'.1↔a∈p.1)(e2:p'.2=p.2):bD w p' Ds 0=[]:=by
 refine List.eq_nil_iff_forall_not_mem.mpr fun x hx=>?_
 obtain⟨a,q⟩:=x
 obtain⟨i,h1,h2,h3,s,h4,_⟩:=fB hx
 have:((0+i:Nat):Int)∉p.1:=fun z=>h3 (by rw[h1];exact(e1 _).mpr z)
 have m:=qy (w:=w) (k:=0) h2 this (by rw[<-e2];exact h4)
 rw[h]at m
 cases m
def o5(f:Fn):Fn:=fnU 7 4 (dj f (cY f))
theorem qS{lo:Nat}{us:List U}(hf:iC n w f)(ok:∀d∈Ds,OkL n w 2 d)(hN:Ds.length<=6):∀(os pre:List Int) (st:List Int) (S:Sto) (r5 r6:Option U) (st':List Int),S[ld]?=some (.lst (Ds.map dlU))->S[lo]?=some (.lst us)->(∀o∈os,0<=o/\o<(Ds.length:Int))->(pre++os).Nodup->pre.length+os.length<=40->st.length=n.toNat->follow w Ds os st=some st'->
  ∃X r5' r6',cP (fun S=>S[lo]?=some (.lst us)) (gNm 5) (dA f (cY f)) (os.map U.int) [some (.tup [.int n,.int w]),some (.ref ld),some (.tup (st.map U.int)),some (.ref lo),some (.tup (pre.map U.int)),r5,r6] S=some (.nx,[some (.tup [.int n,.int w]),some (.ref ld),some (.tup (st'.map U.int)),some (.ref lo),some (.tup ((pre++os).map U.int)),r5',r6'],S++X)/\st'.length=n.toNat
 |[],pre,st,S,r5,r6,st',h1,h2,_,_,_,hs,hg=>by
  cases hg
  exact⟨[],r5,r6,by rw[List.append_nil,List.append_nil];exact d9 h2,hs⟩
 |o::os,pre,st,S,r5,r6,st',h1,h2,ho,nd,hl,hs,hg=>by
  obtain⟨o0,o1⟩:=ho o List.mem_cons_self
  rw[List.length_cons]at hl
  obtain⟨G,l,e1⟩:=hf (Ds.getD o.toNat []) st S (LH ok o0 o1) hs
  have ea:=LI o0 o1
  unfold follow at hg
  cases hgo:goD w st (Ds.getD o.toNat [])with
  |none=>rw[hgo]at hg;cases hg
  |some st1=>
   rw[hgo,Option.bind_some]at hg
   have hle:=yd hgo
   unfold goD at hgo
   cases er:nZ w st 2 (Ds.getD o.toNat []) m0 with
   |mk t m=>
    rw[er]at e1 hgo
    cases t with
    |false=>cases hgo
    |true=>
     dsimp only at hgo
     have hb:beh st m.ps 0=st1:=by injection hgo
     dsimp only[told]at e1
     rw[hb]at e1
     have ep:pre++o::os=pre++[o]++os:=by rw[List.append_assoc];rfl
     obtain⟨X,r5',r6',ih,hs'⟩:=qS hf ok hN os (pre++[o]) st1 (S++G) (some (.int o)) (some (.tup [.str "done",.tup (st1.map U.int),.tup (m.hs.map U.int)])) st' (aJ h1) (aJ h2) (fun x hx=>ho x (List.mem_cons_of_mem _ hx)) (by rw[<-ep];exact nd) (by rw[List.length_append,List.length_singleton];omega) (by omega) hg
     refine⟨G++X,r5',r6',?_,hs'⟩
     rw[<-List.append_assoc,ep,<-ih,List.map_cons]
     refine bF h2 rfl ?_
     have nin:o∉pre:=fun z=>(List.nodup_append.mp nd).2.2 o z o List.mem_cons_self rfl
     have hin:∀T:Sto,fIn false (.int o) (.tup (pre.map U.int)) T=some (.bl false,T):=fun T=>by rw[LA,decide_eq_false nin]
     have hcat:∀T:Sto,eF (.tup (pre.map U.int)) (.tup [.int o]) T=some (.tup ((pre++[o]).map U.int),T):=fun T=>by
      have:(pre.map U.int).length + [U.int o].length<=LIM:=by unfold LIM;rw[List.length_map,List.length_singleton];omega
      simp only[eF]
      rw[if_pos this,List.map_append]
      rfl
     have hch:∀(ρ:Rho) (T:Sto),ρ[5]?=some (some (.int o))->ρ[1]?=some (some (.ref ld))->T[ld]?=some (.lst (Ds.map dlU))->rN fLe fLt (cC (.int 0)) (ah 5) (cCB fU (ae (ah 1) aA)) ρ T=some (.bl true,T):=fun ρ T h5 h1 hT=>by
      have v5:ah 5 ρ T=some (.int o,T):=by rwa[h5]
      have vl:cCB fU (ae (ah 1) aA) ρ T=some (.int ((Ds.map dlU).length:Int),T):=by rwa[h1,hT]
      have t1:fLe (.int 0) (.int o) T=some (.bl true,T):=by rw[LY,decide_eq_true o0]
      have t2:fLt (.int o) (.int ((Ds.map dlU).length:Int)) T=some (.bl true,T):=by rw[IT,decide_eq_true (by rw[List.length_map];exact o1)]
      unfold rN
      rw[show cC (.int 0) ρ T=some (.int 0,T)from rfl,Option.bind_some,v5,Option.bind_some,t1,Option.bind_some]
      dsimp only
      rw[vl,Option.bind_some]
      exact t2
     have hc1:=hch [some (.tup [.int n,.int w]),some (.ref ld),some (.tup (st.map U.int)),some (.ref lo),some (.tup (pre.map U.int)),some (.int o),r6] S rfl rfl h1
     have tI:∀T:Sto,tyU (.int o) T=some .int:=fun _=>rfl
     have s1:y4 .int .int=true:=rfl
     have s2:y4 .int .bool=false:=rfl
     rwa[dA,tI,s1,s2,hc1,h1,ea,e1,hin,Gg,hcat]
theorem D4{lo:Nat}{os:List Int}{st st':List Int}(hf:iC n w f)(ok:∀d∈Ds,OkL n w 2 d)(hN:Ds.length<=6)(h1:S[ld]?=some (.lst (Ds.map dlU)))(h2:S[lo]?=some (.lst (os.map U.int)))(ho:∀o∈os,0<=o/\o<(Ds.length:Int))(nd:os.Nodup)(hl:os.length<Ds.length)(hs:st.length=n.toNat)(hg:follow w Ds os st=some st')(hw:bD w (os,st') Ds 0=[]) :
  ∃X,o5 f [.tup [.int n,.int w],.ref ld,.tup (st.map U.int),.ref lo] S=some (.bl true,S++X):=by
 unfold o5
 rw[nD]
 obtain⟨X,r5,r6,e,hs'⟩:=qS (us:=os.map U.int) (lo:=lo) hf ok hN os [] st S none none st' h1 h2 ho (by rw[List.nil_append];exact nd) (by simp;omega) hs hg
 rw[List.nil_append]at e
 have hi:iTp (ah 3) [some (.tup [.int n,.int w]),some (.ref ld),some (.tup (st.map U.int)),some (.ref lo),some (.tup []),none,none] S=some (os.map U.int,fun S=>S[lo]?=some (.lst (os.map U.int)),S):=by
  have v0:ah 3 [some (.tup [.int n,.int w]),some (.ref ld),some (.tup (st.map U.int)),some (.ref lo),some (.tup []),none,none] S=some (.ref lo,S):=rfl
  unfold iTp
  rw[v0,Option.bind_some]
  simp only[h2]
 have hc:jV (iTp (ah 3)) (gNm 5) (dA f (cY f)) [some (.tup [.int n,.int w]),some (.ref ld),some (.tup (st.map U.int)),some (.ref lo),some (.tup []),none,none] S=some (.nx,[some (.tup [.int n,.int w]),some (.ref ld),some (.tup (st'.map U.int)),some (.ref lo),some (.tup (os.map U.int)),r5,r6],S++X):=by
  unfold jV
  rw[hi,Option.bind_some]
  exact e
 obtain⟨T,hT⟩:∃T,T=S++X:=⟨_,rfl⟩
 have hd:T[ld]?=some (.lst (Ds.map dlU)):=by rw[hT];exact aJ h1
 obtain⟨G,hv⟩:=pj (p:=(os,st')) hf (by show os.length<=40;omega) hs' hd ok (by omega)
 rw[hw]at hv
 have s0:bO 4 (cL aA) [some (.tup [.int n,.int w]),some (.ref ld),some (.tup (st.map U.int)),some (.ref lo),none,none,none] S=some (.nx,[some (.tup [.int n,.int w]),some (.ref ld),some (.tup (st.map U.int)),some (.ref lo),some (.tup []),none,none],S):=rfl
 obtain⟨T2,hT2⟩:∃T2,T2=T++(O.lst []::G):=⟨_,rfl⟩
 have g1:(T2++[O.lst []])[T.length]?=some (.lst []):=by rw[hT2];exact aJ (by rw[ga0];rfl)
 have g2:(T2++[O.lst []])[T2.length]?=some (.lst []):=by rw[ga0];rfl
 have eq:vL false (.ref T.length) (.ref T2.length) (T2++[.lst []])=some (.bl true,T2++[.lst []]):=(jR.lst (k:=0) g1 g2 .nil).eq (by omega)
 refine⟨X++(.lst []::G++[.lst []]),?_⟩
 have eS:S++(X++(.lst []::G++[.lst []]))=T2++[.lst []]:=by rw[hT2,hT];simp only[List.append_assoc,List.cons_append]
 rw[eS]
 unfold dj
 rw[ml s0,ml hc,<-hT]
 have hv':cY f [.tup [.int n,.int w],.ref ld,.tup [.tup (os.map U.int),.tup (st'.map U.int)]] T=some (.ref T.length,T2):=by rw[hT2];exact hv
 have lt:decide (((os.map U.int).length:Int)<((Ds.map dlU).length:Int))=true:=decide_eq_true (by rw[List.length_map,List.length_map];omega)
 clear hT hT2 eS
 rwa[hd,lt,hv',eq]
end
end OQ
namespace OL
open PySem PySem.Spec PyProof.Rows L2 OG OP OQ
abbrev fL(cD:Cl)(f:Fn->Fn->Fn->Fn->Fn->Fn->CS):CS:=f jS tY nQ (hG (cZ 3)) (k7 (hU cD)) (o5 (cZ 3))
abbrev mn(w:Int)(Ds:List (List (Dl 2)))(st:List Int):Int:=Bz (kK w Ds (cW w Ds st)++[7])
section
variable{cD:Cl}{n w:Int}{Ds:List (List (Dl 2))}{st:List Int}{ld lh:Nat}
theorem Nk(hns:cD.ns.length=4)(n0:1<=n)(n1:n<=6)(w0:2<=w):iC n w (hU cD):=fun d st S od hs=>by
 obtain⟨_,G,l,h,_⟩:=A9 (cD:=cD) (j:=2) (by omega) S hns d od hs n0 n1 w0
 exact⟨G,l,h⟩
theorem Mw(n0:1<=n)(n1:n<=6)(w0:2<=w):iC n w (cZ 3):=fun d st S od hs=>by
 obtain⟨G,l,h,_⟩:=xI (J:=3) (j:=2) (by omega) S d od hs (by omega) n1 w0
 exact⟨G,l,h⟩
theorem Kq:decide (("stuck":Str)="stuck")=true:=by decide +kernel
theorem Kr:decide (("free":Str)="free")=true:=by decide +kernel
theorem LP:atI [U.str "free",U.str "stuck"] 1=some (.str "stuck"):=rfl
theorem LQ:atI [U.str "free",U.str "stuck"] 0=some (.str "free"):=rfl
theorem vR(hns:cD.ns.length=4)(n0:1<=n)(n1:n<=6)(w0:2<=w)(hN:Ds.length<=6)(ok:∀d∈Ds,OkL n w 2 d)(hs:st.length=n.toNat){S:Sto}{x3 r7 r8 r9:Option U}(h1:S[ld]?=some (.lst (Ds.map dlU))) :
  ∃X r8' r9',fL cD nM [none,some (.ref 1),some (.tup [.int n,.int w]),x3,some (.tup (st.map U.int)),some (.ref ld),some (.int (mn w Ds st)),r7,r8,r9] S
   = some (.nx,[none,some (.ref 1),some (.tup [.int n,.int w]),x3,some (.tup (st.map U.int)),some (.ref ld),some (.int (mn w Ds st)),r7,r8',r9'],S++X):=by
 obtain⟨S0,hS0⟩:∃S0,S0=S++[O.lst (Ds.map dlU)]:=⟨_,rfl⟩
 have h1':S0[ld]?=some (.lst (Ds.map dlU)):=by rw[hS0];exact aJ h1
 have h2:S0[S.length]?=some (.lst (Ds.map dlU)):=by rw[hS0,ga0];rfl
 have e0:jM [.ref ld] S=some (.ref S.length,S0):=by simp only[jM,h1,hS0]
 obtain⟨v,G,e1,l,ll,D⟩:=zI (Nk hns n0 n1 w0) (fun z=>A4) hN hs ok h2
 have ll':S.length<=l:=by rw[hS0,List.length_append]at ll;omega
 obtain⟨S1,hS1⟩:∃S1,S1=S0++G:=⟨_,rfl⟩
 have sl:S.length<=S1.length:=by rw[hS1,hS0,List.length_append,List.length_append];omega
 have old:∀i,i<S.length->S1[i]?=S[i]?:=fun i hi=>by rw[hS1,hS0,List.append_assoc,List.getElem?_append_left hi]
 have k1:S1[ld]?=some (.lst (Ds.map dlU)):=by rw[hS1];exact aJ h1'
 have k2:S1[S.length]?=some (.lst (Ds.map dlU)):=by rw[hS1];exact aJ h2
 rw[<-hS1]at e1 D
 clear hS1 hS0
 have en:vL true (.ref S.length) (.ref ld) S1=some (.bl false,S1):=by
  refine(jR.lst (k:=9) k2 k1 (.all fun x hx=>?_)).ne (by omega)
  obtain⟨d,_,rfl⟩:=List.mem_map.mp hx
  exact(Lay.dls d).mono (by omega)
 have fin:∀{Y:Sto} {us:List U} {o:O},(∃Z,Y=S1++Z)->S1[l]?=some (.lst us)->∃X,Y.set l o=S++X:=fun{Y us o} ⟨Z,e⟩ hl=>by
  refine ye (ls:=[]) (by rw[List.length_set,e,List.length_append];omega) fun i hi=>?_
  rw[List.getElem?_set_ne (by omega),e,List.getElem?_append_left (by omega),old i hi]
 have ty:∀{us:List U},S1[l]?=some (.lst us)->tyU (.ref l) S1=some .list:=fun{us} h=>by simp only[tyU,h]
 have l2:decide (((0+1+1:Nat):Int)=2)=true:=rfl
 have sL:y4 .list .list=true:=rfl
 have sT:y4 .tuple .tuple=true:=rfl
 have sS:y4 .str .str=true:=rfl
 have tT:∀{us:List U} {Y:Sto},tyU (.tup us) Y=some .tuple:=rfl
 have tS:∀{x:Str} {Y:Sto},tyU (.str x) Y=some .str:=rfl
 obtain⟨N,hNN⟩:∃N,N=S.length:=⟨_,rfl⟩
 rw[<-hNN]at e0 e1 en
 show ∃X r8' r9',nM jS tY nQ (hG (cZ 3)) (k7 (hU cD)) (o5 (cZ 3)) _ _=_
 unfold nM
 have e0':bO 8 (cCB jM (ae (ah 5) aA)) [none,some (.ref 1),some (.tup [.int n,.int w]),x3,some (.tup (st.map U.int)),some (.ref ld),some (.int (mn w Ds st)),r7,r8,r9] S=some (.nx,[none,some (.ref 1),some (.tup [.int n,.int w]),x3,some (.tup (st.map U.int)),some (.ref ld),some (.int (mn w Ds st)),r7,some (.ref N),r9],S0):=by
  have v5:ae (ah 5) aA [none,some (.ref 1),some (.tup [.int n,.int w]),x3,some (.tup (st.map U.int)),some (.ref ld),some (.int (mn w Ds st)),r7,r8,r9] S=some ([.ref ld],S):=rfl
  rw[rZ,Cz,v5,Option.bind_some,sf,e0]
  rfl
 rw[ml e0']
 cases hq:(cW w Ds st).find? (stk w Ds)with
 |none=>
  rw[hq]at D
  obtain⟨rfl,us,lu,gl⟩:=D
  obtain⟨X,eX⟩:=fin (Y:=S1++[.lst [.str "free",.str "stuck"]]) (o:=.lst (us++[.int 0])) ⟨_,rfl⟩ gl
  refine⟨X,some (.ref N),some (.tup [.str "free",.ref l]),?_⟩
  rw[<-eX]
  have gl2:(S1++[.lst [.str "free",.str "stuck"]])[l]?=some (.lst us):=aJ gl
  have hL:us.length<LIM:=by unfold LIM;omega
  have i0:∀{Y:Sto},y6 [.bl false] Y=some (.int 0,Y):=rfl
  have hm:decide (mn w Ds st<7)=false:=decide_eq_false (by rw[mn,As hq];omega)
  rwa[hm,e1,l2,tT,sT,en,ty gl,sL,tS,sS,i0,LQ,Kr,gl2,fq hL]
 |some q=>
  rw[hq]at D
  obtain⟨rfl,gl⟩:=D
  have I:=mq (w:=w) (Ds:=Ds) (st0:=st)
  have pa:=I.pa q (List.mem_of_find?_eq_some hq)
  have pok:=pa.ok
  obtain⟨m1,m2,m3⟩:=Ar hN wX hq
  have rl:q.2.length=q.1.1.length:=by rw[pok.gone,(cg _).length_eq]
  obtain⟨S2,hS2⟩:∃S2,S2=S1++[O.lst [.str "free",.str "stuck"]]:=⟨_,rfl⟩
  have gl2:S2[l]?=some (.lst (q.2.map U.int)):=by rw[hS2];exact aJ gl
  have k12:S2[ld]?=some (.lst (Ds.map dlU)):=by rw[hS2];exact aJ k1
  obtain⟨Z,e6⟩:=D4 (Mw n0 n1 w0) ok hN k12 gl2 pok.bd pok.nd (by omega) hs pa.follow (vm m3 (fun a=>by rw[pok.gone];exact(cg _).mem_iff.symm) rfl)
  obtain⟨S6,hS6⟩:∃S6,S6=S2++Z:=⟨_,rfl⟩
  rw[<-hS6]at e6
  have gl6:S6[l]?=some (.lst (q.2.map U.int)):=by rw[hS6];exact aJ gl2
  obtain⟨X,eX⟩:=fin (Y:=S6) (o:=.lst (q.2.map U.int++[.int 0])) ⟨_,by rw[hS6,hS2,List.append_assoc]⟩ gl
  refine⟨X,some (.ref N),some (.tup [.str "stuck",.ref l]),?_⟩
  rw[<-eX]
  have hL:(q.2.map U.int).length<LIM:=by unfold LIM;rw[List.length_map];omega
  have i1:∀{Y:Sto},y6 [.bl true] Y=some (.int 1,Y):=rfl
  have hm:decide (mn w Ds st<7)=true:=decide_eq_true (by rw[mn,m1];omega)
  have hm2:decide (((q.2.map U.int).length:Int)=mn w Ds st)=true:=decide_eq_true (by rw[mn,m1,List.length_map];omega)
  have en2:aH (cOp fNe (cOp fIx (ah 9) (cC (.int 0))) (cOp fIx (gG (ae (cC (.str "free")) (ae (cC (.str "stuck")) aA))) (cCB y6 (ae (cOp fLt (ah 6) (cC (.int 7))) aA)))) [none,some (.ref 1),some (.tup [.int n,.int w]),x3,some (.tup (st.map U.int)),some (.ref ld),some (.int (mn w Ds st)),r7,some (.ref N),some (.tup [.str "stuck",.ref l])] S1=some (false,S2):=by
   rw[hS2]
   rwa[hm,i1,LP,Kq]
  clear hS2 hS6 m1 m2
  rwa[hm,hm2,e1,l2,tT,sT,en,ty gl,sL,en2,tS,sS,gl2,e6,gl6,fq hL]
theorem oY(hns:cD.ns.length=4)(n0:1<=n)(n1:n<=6)(w0:2<=w)(hN:Ds.length<=6)(ok:∀d∈Ds,OkL n w 2 d)(hs:st.length=n.toNat){x3:Option U}:∀(vs:List U) (S:Sto) (r7 r8 r9:Option U),S[ld]?=some (.lst (Ds.map dlU))->
  ∃X r7' r8' r9',cP (fun _=>True) (gNm 7) (fL cD nM) vs [none,some (.ref 1),some (.tup [.int n,.int w]),x3,some (.tup (st.map U.int)),some (.ref ld),some (.int (mn w Ds st)),r7,r8,r9] S
   = some (.nx,[none,some (.ref 1),some (.tup [.int n,.int w]),x3,some (.tup (st.map U.int)),some (.ref ld),some (.int (mn w Ds st)),r7',r8',r9'],S++X)
 |[],S,r7,r8,r9,_=>⟨[],r7,r8,r9,by rw[List.append_nil];exact d9 trivial⟩
 |v::vs,S,r7,r8,r9,h1=>by
  obtain⟨X,r8',r9',e1⟩:=vR (r7:=some v) (r8:=r8) (r9:=r9) (x3:=x3) hns n0 n1 w0 hN ok hs h1
  obtain⟨Y,r7'',r8'',r9'',e2⟩:=oY hns n0 n1 w0 hN ok hs vs (S++X) (some v) r8' r9' (aJ h1)
  exact⟨X++Y,r7'',r8'',r9'',((bF trivial rfl e1).trans e2).trans (by rw[List.append_assoc])⟩
theorem qA(hns:cD.ns.length=4)(ns:List Int)(n0:1<=n)(n1:n<=6)(w0:2<=w)(w1:w<=1000):∀(us:List U) (T:Sto) (a c:Int) (r3 r4 r5 r6 r7 r8 r9:Option U),0<=a->0<=c->
  ∃ρ S',cP (fun _=>True) (gNm 3) (fL cD nL) us [none,some (.ref 1),some (.tup [.int n,.int w]),r3,r4,r5,r6,r7,r8,r9] (scr ns::pen a c::T)=some (.nx,ρ,S')
 |[],T,a,c,r3,r4,r5,r6,r7,r8,r9,_,_=>⟨_,_,d9 trivial⟩
 |u::us,T,a,c,r3,r4,r5,r6,r7,r8,r9,ha,hc=>by
  obtain⟨st,a1,c1,G1,e1,hs,ha1,hc1⟩:=Io ns T ha hc n0 n1 w0 w1
  obtain⟨Ds,a2,c2,G2,e2,hN,ok,ha2,hc2⟩:=C9 ns (T++G1) ha1 hc1 n0 n1 w0 w1
  obtain⟨S2,hS2⟩:∃S2,S2=scr ns::pen a2 c2::(T++G1++.lst (Ds.map dlU)::G2):=⟨_,rfl⟩
  obtain⟨ld,hld⟩:∃ld,ld=(T++G1).length+1+1:=⟨_,rfl⟩
  have g2:S2[ld]?=some (.lst (Ds.map dlU)):=by
   rw[hS2,hld]
   simp only[List.getElem?_cons_succ]
   rw[ga0];rfl
  rw[<-hS2,<-hld]at e2
  obtain⟨G3,e3⟩:=yg (Mw n0 n1 w0) (fun z=>yF) hN hs ok g2
  have s4:bO 4 (cCB tY (ae (ah 1) (ae (ah 2) aA))) [none,some (.ref 1),some (.tup [.int n,.int w]),some u,r4,r5,r6,r7,r8,r9] (scr ns::pen a c::T)=some (.nx,[none,some (.ref 1),some (.tup [.int n,.int w]),some u,some (.tup (st.map U.int)),r5,r6,r7,r8,r9],scr ns::pen a1 c1::(T++G1)):=by rwa[e1]
  have s5:bO 5 (cCB nQ (ae (ah 1) (ae (ah 2) (ae (cC (.int 6)) aA)))) [none,some (.ref 1),some (.tup [.int n,.int w]),some u,some (.tup (st.map U.int)),r5,r6,r7,r8,r9] (scr ns::pen a1 c1::(T++G1))=some (.nx,[none,some (.ref 1),some (.tup [.int n,.int w]),some u,some (.tup (st.map U.int)),some (.ref ld),r6,r7,r8,r9],S2):=by rwa[e2]
  have s6:bO 6 (cCB (hG (cZ 3)) (ae (ah 2) (ae (ah 4) (ae (ah 5) aA)))) [none,some (.ref 1),some (.tup [.int n,.int w]),some u,some (.tup (st.map U.int)),some (.ref ld),r6,r7,r8,r9] S2=some (.nx,[none,some (.ref 1),some (.tup [.int n,.int w]),some u,some (.tup (st.map U.int)),some (.ref ld),some (.int (mn w Ds st)),r7,r8,r9],S2++G3):=by
   have v:ae (ah 2) (ae (ah 4) (ae (ah 5) aA)) [none,some (.ref 1),some (.tup [.int n,.int w]),some u,some (.tup (st.map U.int)),some (.ref ld),r6,r7,r8,r9] S2=some ([.tup [.int n,.int w],.tup (st.map U.int),.ref ld],S2):=rfl
   rw[rZ,Cz,v,Option.bind_some,sf,e3]
   rfl
  obtain⟨X,r7',r8',r9',el⟩:=oY (cD:=cD) (x3:=some u) (ld:=ld) hns n0 n1 w0 hN ok hs (fG 0 2) (S2++G3) r7 r8 r9 (aJ g2)
  have eS:S2++G3++X=scr ns::pen a2 c2::(T++(G1++(.lst (Ds.map dlU)::(G2++(G3++X))))):=by
   rw[hS2]
   simp only[List.append_assoc,List.cons_append]
  rw[eS]at el
  obtain⟨ρ',S',ih⟩:=qA hns ns n0 n1 w0 w1 us (T++(G1++(.lst (Ds.map dlU)::(G2++(G3++X))))) a2 c2 (some u) (some (.tup (st.map U.int))) (some (.ref ld)) (some (.int (mn w Ds st))) r7' r8' r9' ha2 hc2
  refine⟨ρ',S',(bF trivial rfl ?_).trans ih⟩
  show nL jS tY nQ (hG (cZ 3)) (k7 (hU cD)) (o5 (cZ 3)) _ _=_
  unfold nL
  simp only[List.set_cons_succ,List.set_cons_zero]
  rw[ml s4,ml s5,ml s6]
  have r2:fh (ae (cC (.int 2)) aA)=fun ρ S=>some (fG 0 2,fun _=>True,S):=rfl
  rw[r2]
  exact el
theorem Hm{cD:Cl}(hns:cD.ns.length=4)(ns:List Int)(a c:Int)(ha:0<=a)(hc:0<=c):∃ρ' S',(fL cD yL) [none,some (.ref 1),none,none,none,none,none,none,none,none] [.lst (ns.map U.int),.lst [.ref 0,.int a,.int c]]=some (.rt (.bl true),ρ',S'):=by
 obtain⟨n,w,a1,c1,G,e1,n0,n1,w0,w1,ha1,hc1⟩:=zv ns [] ha hc
 obtain⟨ρ,S',e6⟩:=qA (cD:=cD) hns ns n0 n1 w0 w1 (fG 0 2) ([]++G) a1 c1 none none none none none none none ha1 hc1
 refine⟨ρ,S',?_⟩
 have s2:bO 2 (cCB jS (ae (ah 1) aA)) [none,some (.ref 1),none,none,none,none,none,none,none,none] [scr ns,pen a c]=some (.nx,[none,some (.ref 1),some (.tup [.int n,.int w]),none,none,none,none,none,none,none],scr ns::pen a1 c1::([]++G)):=by rwa[e1]
 have r2:fh (ae (cC (.int 2)) aA)=fun ρ S=>some (fG 0 2,fun _=>True,S):=rfl
 have e7:jV (fh (ae (cC (.int 2)) aA)) (gNm 3) (fL cD nL) [none,some (.ref 1),some (.tup [.int n,.int w]),none,none,none,none,none,none,none] (scr ns::pen a1 c1::([]++G))=some (.nx,ρ,S'):=by
  rw[r2];exact e6
 show yL jS tY nQ (hG (cZ 3)) (k7 (hU cD)) (o5 (cZ 3)) _ [scr ns,pen a c]=_
 unfold yL
 rw[ml s2,ml e7]
 rfl
end
section
variable{P:Program}{w:World}{K:PySem.W.Frag}{mg:Str->Option Value}{base:Heap}
theorem m8:aQ ["script"] ["script"] (ay kH):=⟨rfl,rfl,rfl,by decide +kernel,rfl,by decide +kernel,by decide +kernel⟩
theorem El{k:Nat}(B:Blt mg)(d:Def K mg "_law_pen" kH ["script"]):Has P w K mg base "_law_pen" (k+1) ["script"] (Bl K):=by
 refine d.has m8 (fun vs H Q E h=>?_) (fun f cdv A outer s H vs Q E hr h=>?_)
 ·obtain⟨a,ns,rfl,_⟩:=h;rfl
 obtain⟨a,ns,rfl,hS,q⟩:=h
 have nd:=m8.nd
 refine⟨_,(uc (wo (wy (fu (oz dg rfl B.list OG.eB (fu (qv wR (wpv 0) ue (ud ag)) kF)) (fu ag (fu ag kF)))))),?_⟩
 refine⟨_,rfl,_,rfl,a,_,rfl,hS,fun p hp=>⟨p,_,rfl,.inl (SqL.of aS),fun l hl=>⟨(by show 3<=sizeLine;decide),fun r hr'=>?_⟩⟩⟩
 obtain⟨ms,em⟩:∃ms:List Int,yA (ns.map V.int) none (some 63)=ms.map V.int:=⟨_,AZ _ _ _⟩
 rw[em]at hl hr' ⊢
 refine q r l _ (((d6 hp _).trans (d6 hl _)).trans (d6 hr' _)) ⟨ms,0,0,aS,?_,cV aS hr',by decide,by decide⟩ ?_
 ·rw[bP (cV aS hr')];exact aS
 ·exact(((d6 hp _).trans (d6 hl _))).free hr'
end
theorem IG{l:PySem.W.OpenLaw}{w:World}{K:PySem.W.Frag}{h:Heap}{mg:Str->Option Value}{fa:Addr}(X:K.In h)(G:h.Ns mainGlobals mg)(hfa:mg "law"=some (.ref fa))
  {CDoing:Addr}
  (ds:IM K [("_law_take",jx),("_law_world",iM),("_law_size",jy),("_law_plain_deed",eI),("_law_dealing",gq),("_law_plain",iO),("_law_waits",iN),("_law_alone",iP),("with_at",m9),("onwards",nc),("goes_through",gp),("alone",sC),("_law_keen",jC),("_law_some_dealings",dC),("_law_few_state",fe),("_law_next",jB),("_law_rows",jA),("_law_fewest",gO),("_law_is_stuck",fE),("ways_from",jw),("rows_to_places",fc),("is_stuck",kG),("stuck",sy),("_law_pen",kH),("law",Df)])
  (cl_Doing:IS K "Doing" CDoing ["wheel","held","puts","part"] [("__init__","Doing.__init__",iQ),("deed","Doing.deed",iT),("asks","Doing.asks",iU),("hold","Doing.hold",iR),("part_behind","Doing.part_behind",dP),("go_behind","Doing.go_behind",eM),("hear","Doing.hear",iS),("enter_try","Doing.enter_try",eN),("goes_back","Doing.goes_back",eK),("do_deed","Doing.do_deed",fF),("put_pairs","Doing.put_pairs",eJ)])
  (zs:Jf K Mu) :
  ∃fd:FuncData,(∀(s:Shared) (v:Value),BindsTo s fd ⟨[v],[]⟩ [("script",v)])/\∀base:Heap,K.In base->base.Ns mainGlobals mg->lW l.prog w K mg base CX0 10 fa fd ["script"] (zK K):=by
 obtain⟨d__law_take,d__law_world,d__law_size,d__law_plain_deed,d__law_dealing,d__law_plain,d__law_waits,d__law_alone,d_with_at,d_onwards,d_goes_through,d_alone,d__law_keen,d__law_some_dealings,d__law_few_state,d__law_next,d__law_rows,d__law_fewest,d__law_is_stuck,d_ways_from,d_rows_to_places,d_is_stuck,d_stuck,d__law_pen,d_law,-⟩:=ds
 obtain⟨m_Doing_init,m_Doing_deed,m_Doing_asks,m_Doing_hold,m_Doing_part_behind,m_Doing_go_behind,m_Doing_hear,m_Doing_enter_try,m_Doing_goes_back,m_Doing_do_deed,m_Doing_put_pairs,-⟩:=cl_Doing.ms
 have TDoing:=cl_Doing.tc
 have B:=zs.blt X G
 refine Hn d_law X G hfa fun fd F_law base=>?_
 have Gp:=El (P:=l.prog) (w:=w) (base:=base) (k:=0) B (d__law_pen.df X G)
 have aB:=sW (P:=l.prog) (w:=w) (base:=base) (k:=0) (d__law_take.df X G) B 
 have i7:=rg (P:=l.prog) (w:=w) (base:=base) (k:=1) (d__law_world.df X G) B aB
 have lV:c8 l.prog w K mg base "_law_size" 1 ["dealing"] (vT 0):=jJ (P:=l.prog) (w:=w) (base:=base) (k:=0) (d__law_size.df X G) B ((d__law_size.df X G (ps:=["dealing"])).no)
 have lU:c8 l.prog w K mg base "_law_size" 2 ["dealing"] (vT 1):=jJ (P:=l.prog) (w:=w) (base:=base) (k:=1) (d__law_size.df X G) B lV
 have rX:c8 l.prog w K mg base "_law_size" 3 ["dealing"] (vT 2):=jJ (P:=l.prog) (w:=w) (base:=base) (k:=2) (d__law_size.df X G) B lU
 have bZ:=kM (P:=l.prog) (w:=w) (base:=base) (k:=1) (d__law_plain_deed.df X G) B aB
 have nW:c8 l.prog w K mg base "_law_dealing" 3 ["pen","world","room","tries"] (qi 0):=eU (P:=l.prog) (w:=w) (base:=base) (k:=2) (d__law_dealing.df X G) B (Has.mono aB (by decide)) bZ ((d__law_dealing.df X G (ps:=["pen","world","room","tries"])).no) ((d__law_size.df X G (ps:=["dealing"])).no)
 have nV:c8 l.prog w K mg base "_law_dealing" 4 ["pen","world","room","tries"] (qi 1):=eU (P:=l.prog) (w:=w) (base:=base) (k:=3) (d__law_dealing.df X G) B (Has.mono aB (by decide)) (Has.mono bZ (by decide)) nW (Has.mono lV (by decide))
 have nT:c8 l.prog w K mg base "_law_dealing" 5 ["pen","world","room","tries"] (qi 2):=eU (P:=l.prog) (w:=w) (base:=base) (k:=4) (d__law_dealing.df X G) B (Has.mono aB (by decide)) (Has.mono bZ (by decide)) nV (Has.mono lU (by decide))
 have nS:c8 l.prog w K mg base "_law_dealing" 6 ["pen","world","room","tries"] (qi 3):=eU (P:=l.prog) (w:=w) (base:=base) (k:=5) (d__law_dealing.df X G) B (Has.mono aB (by decide)) (Has.mono bZ (by decide)) nT (Has.mono rX (by decide))
 have dY:=rh (P:=l.prog) (w:=w) (base:=base) (k:=0) (d__law_plain.df X G) B 
 have qh:c8 l.prog w K mg base "_law_waits" 2 ["world","dealing","now"] (rS 0):=gj (P:=l.prog) (w:=w) (base:=base) (k:=1) (d__law_waits.df X G) B dY ((d__law_waits.df X G (ps:=["world","dealing","now"])).no)
 have qg:c8 l.prog w K mg base "_law_waits" 3 ["world","dealing","now"] (rS 1):=gj (P:=l.prog) (w:=w) (base:=base) (k:=2) (d__law_waits.df X G) B (Has.mono dY (by decide)) qh
 have qf:c8 l.prog w K mg base "_law_waits" 4 ["world","dealing","now"] (rS 2):=gj (P:=l.prog) (w:=w) (base:=base) (k:=3) (d__law_waits.df X G) B (Has.mono dY (by decide)) qg
 have qe:c8 l.prog w K mg base "_law_waits" 5 ["world","dealing","now"] (rS 3):=gj (P:=l.prog) (w:=w) (base:=base) (k:=4) (d__law_waits.df X G) B (Has.mono dY (by decide)) qf
 have dZ:=rj (P:=l.prog) (w:=w) (base:=base) (k:=5) (d__law_alone.df X G) B qe
 have gI:=x8 (P:=l.prog) (w:=w) (base:=base) (k:=0) (d_with_at.df X G) B 
 have dI:=ya (P:=l.prog) (w:=w) (base:=base) (k:=0) (fuel:=100) (d_onwards.df X G) B 
 have M_Doing_deed:=rA (P:=l.prog) (w:=w) (base:=base) (k:=0) (m_Doing_deed.mt) B TDoing
 have M_Doing_asks:=rB (P:=l.prog) (w:=w) (base:=base) (k:=1) (m_Doing_asks.mt) B TDoing M_Doing_deed
 have M_Doing_hold:=rq (P:=l.prog) (w:=w) (base:=base) (k:=1) (m_Doing_hold.mt) B TDoing gI
 have M_Doing_part_behind:=jK (P:=l.prog) (w:=w) (base:=base) (k:=0) (m_Doing_part_behind.mt) B TDoing
 have M_Doing_go_behind:=kP (P:=l.prog) (w:=w) (base:=base) (k:=1) (m_Doing_go_behind.mt) B TDoing dI M_Doing_part_behind
 have M_Doing_hear:=rz (P:=l.prog) (w:=w) (base:=base) (k:=2) (m_Doing_hear.mt) B TDoing M_Doing_hold (M_Doing_deed.mono (by decide)) M_Doing_go_behind
 have M_Doing_enter_try:=kQ (P:=l.prog) (w:=w) (base:=base) (k:=1) (m_Doing_enter_try.mt) B TDoing dI M_Doing_part_behind
 have M_Doing_goes_back:=kO (P:=l.prog) (w:=w) (base:=base) (k:=0) (m_Doing_goes_back.mt) B TDoing
 have M_Doing_do_deed:=nA (P:=l.prog) (w:=w) (base:=base) (k:=2) (m_Doing_do_deed.mt) B TDoing (Has.mono gI (by decide)) (M_Doing_deed.mono (by decide)) (M_Doing_goes_back.mono (by decide)) M_Doing_enter_try M_Doing_hold M_Doing_go_behind
 have M_Doing_put_pairs:=kN (P:=l.prog) (w:=w) (base:=base) (k:=0) (m_Doing_put_pairs.mt) B TDoing
 have M_Doing_init:=rp (P:=l.prog) (w:=w) (base:=base) (k:=1) (cl_Doing.mkd m_Doing_init X G) B TDoing dI
 have gx:=og (P:=l.prog) (w:=w) (base:=base) (k:=3) (fuel:=20000000) (d_goes_through.df X G) B TDoing (M_Doing_deed.mono (by decide)) (M_Doing_asks.mono (by decide)) M_Doing_hear M_Doing_do_deed
 have t6:=En (P:=l.prog) (w:=w) (base:=base) (k:=3) (d_alone.df X G) B TDoing gx (M_Doing_put_pairs.mono (by decide)) (M_Doing_init.mono (by decide))
 have jU:=sZ (P:=l.prog) (w:=w) (base:=base) (k:=1) (d__law_keen.df X G) B aB
 have dF:=je (P:=l.prog) (w:=w) (base:=base) (k:=6) (d__law_some_dealings.df X G) B (Has.mono aB (by decide)) nS (Has.mono jU (by decide))
 have fk:=l7 (P:=l.prog) (w:=w) (base:=base) (k:=1) (d__law_few_state.df X G) B aB
 have cS:=sY (P:=l.prog) (w:=w) (base:=base) (k:=6) (d__law_next.df X G) B dZ
 have jT:=sX (P:=l.prog) (w:=w) (base:=base) (k:=7) (fuel:=3000) (d__law_rows.df X G) B cS
 have hV:=pV (P:=l.prog) (w:=w) (base:=base) (k:=8) (d__law_fewest.df X G) B jT (Has.mono cS (by decide))
 have fS:=nz (P:=l.prog) (w:=w) (base:=base) (k:=7) (d__law_is_stuck.df X G) B (Has.mono dZ (by decide)) cS
 have eQ:=sV (P:=l.prog) (w:=w) (base:=base) (k:=5) (d_ways_from.df X G) B t6
 have fj:=l6 (P:=l.prog) (w:=w) (base:=base) (k:=6) (fuel:=3000) (d_rows_to_places.df X G) B eQ
 have lq:=vF (P:=l.prog) (w:=w) (base:=base) (k:=6) (d_is_stuck.df X G) B eQ
 have t4:=Em (P:=l.prog) (w:=w) (base:=base) (k:=7) (d_stuck.df X G) B fj lq
 exact LB (P:=l.prog) (w:=w) (base:=base) (k:=9) F_law B (Has.mono Gp (by decide)) (Has.mono i7 (by decide)) (Has.mono fk (by decide)) (Has.mono dF (by decide)) hV (Has.mono t4 (by decide)) (Has.mono fS (by decide)) fun ns a c ha hc=>Hm (cD:=⟨CDoing,_⟩) rfl ns a c ha hc
theorem MX{l:PySem.W.OpenLaw}{q:Program}{loose:List Str}{XP:(Str->Option Value)->Heap->Prop}{YP:World->Heap->Prop}{d:DefRec}{K:Params->PySem.W.Frag}(hn:l.most=some 63)(hdf:d.params.defaults=[])
  (hY:∀(w:World) (h:Heap),YP w h->(K w.params).In h)
  (F:∀(w:World) (mg:Str->Option Value) (fa:Addr) (h:Heap),(K w.params).In h->h.Ns mainGlobals mg->mg d.name=some (.ref fa)->
   ∃fd:FuncData,(∀(s:Shared) (u:Value),BindsTo s fd ⟨[u],[]⟩ [("script",u)])/\∀base:Heap,(K w.params).In base->base.Ns mainGlobals mg->lW l.prog w (K w.params) mg base CX0 10 fa fd ["script"] (zK (K w.params))) :
  PySem.W.WalkO q loose XP YP l.row.toRowW d [] (fun f vs=>PySem.call f vs):=
 L2.C3 (n:=63) (k:=10) (x:="script") (CX:=fun _=>CX0) (sp:=fun w=>zK (K w.params)) hn (by decide) hdf ⟨rfl,by decide,by decide,rfl⟩ hY F (fun _ _ a ns hl _ hS=>⟨a,ns,rfl,hS,hl,fun _=>rfl⟩) fun _ _ _ _ _ z=>z
end OL
namespace PySem.W.Fast
def tw8782852797534840086:=0
def tw1497650636337930459:=0
def tw5739406365969416037:=0
def tw15626789500127909646:=0
def tw7907570904401408279:=0
def tw4006190900458095706:=0
def tw1197721704796488828:=0
def tw563253813719867917:=0
def tw10579080785560322268:=0
def tw17696189212259473170:=0
def tw11007216834694100891:=0
def tw2566067292794328295:=0
def tw17491656487715489960:=0
def tw2849972313433645006:=0
def tw17320023312293584880:=0
def tw3395295803884515682:=0
def tw12724353068845482152:=0
def tw14525455696591758599:=0
def tw8223107335770315727:=0
def tw9102434269214759678:=0
def tw4019490293003706582:=0
def tw17572628604037764338:=0
def tw1250944968027577090:=0
def tw11621275405660832283:=0
def tw17285999846761785535:=0
def tw1628527794291260282:=0
def tw5257497419819813338:=0
def tw12225322487032538454:=0
def tw18186679719362094819:=0
def tw1021769260677884506:=0
def tw6940344604688617997:=0
def tw10321369749280684251:=0
def tw14023751413246208835:=0
def tw11843489948162808580:=0
def tw4019440116346077376:=0
def tw10853710524486279707:=0
def tw14061793693586925172:=0
def tw1553664344592309798:=0
def tw3159063111412205715:=0
def tw4494944909821258062:=0
def tw3646178065416154541:=0
def tw6335223014091338829:=0
def tw16518368426054321915:=0
def tw16343437044338184654:=0
def tw2177571269483448529:=0
def tw4275112816681561834:=0
def tw10271606958104389254:=0
def tw442668438994213545:=0
def tw15848163777316525735:=0
def tw798759096264732031:=0
def tw17630075148971845488:=0
def tw1068285231476011343:=0
def tw12290150994439472200:=0
def tw8081147153488217719:=0
def tw9501046046750053391:=0
def tw532766992307921290:=0
def tw15825005095127201957:=0
def tw6881357488815581659:=0
def tw4590978327041027926:=0
def tw17377312578359002714:=0
def tw15061861822466760052:=0
def tw14997229120519407301:=0
def tw3386560685028139500:=0
def tw18155694842122245817:=0
def tw15044137136806390738:=0
def tw8377243134981152424:=0
def tw13157111769989866715:=0
def tw10883963769859131907:=0
def tw13368219728964227784:=0
def tw12149017666933000019:=0
def tw8177723432087740198:=0
def tw17606696449048756449:=0
def tw7121732543444832693:=0
def tw18093239529868450706:=0
def tw5585815061291534262:=0
def tw16442872831350626684:=0
def tw13716682228475654153:=0
def tw14587936154749231819:=0
def tw604790484412006602:=0
def tw7986311119733885794:=0
def tw10296585408419295926:=0
def tw461044212889095258:=0
def tw17478269212359039232:=0
def tw13022314896668375474:=0
def tw13264881944134503998:=0
def tw4691620144042428541:=0
def tw18154091245083361676:=0
def tw5006568894801591402:=0
def tw15488662859963104222:=0
def tw3967917127209040911:=0
def tw4884165494094490470:=0
def tw17175231272338438186:=0
def tw3803149448207801644:=0
def tw15938844898778457578:=0
def tw6244208743821347227:=0
def tw18209334420162932110:=0
def tw11510487754707154573:=0
def tw5864440286336440889:=0
def tw9565584976690034942:=0
def tw192801776655389305:=0
def tw17902345942011707690:=0
def tw2826354851566415370:=0
def tw13293363611503892603:=0
def tw5304014818418391272:=0
def tw15828919044104233155:=0
def tw16768415645917877792:=0
def tw15770235991991556663:=0
def tw4889280167901773913:=0
def tw1647435777881398568:=0
def tw11302284426143098206:=0
def tw12756164379261055894:=0
def tw7918762895241753054:=0
def tw3465253694472752485:=0
def tw17220029903988510212:=0
def tw1380000304719853352:=0
def tw14219048825768907302:=0
def tw12888761435851257481:=0
def tw16010378650336529462:=0
def tw15915805386850026107:=0
def tw16413955265725673697:=0
def tw13418129111780804868:=0
def tw9350693420496976507:=0
def tw3934894180608808834:=0
def tw7668332399827140177:=0
def tw7452916780138214136:=0
def tw8753650138083166465:=0
def tw2637186268983320183:=0
def tw16162418030411037085:=0
def tw13104335165400995707:=0
def tw8558299933936594918:=0
def tw7661143383786310272:=0
def tw16320665684506457881:=0
def tw11106832851889378175:=0
def tw16224937444711697043:=0
def tw8148485330163102080:=0
def tw5119235989389810654:=0
def tw2492563302892663336:=0
def tw1420589025721664329:=0
def tw11328120345262159774:=0
def tw6904426274105419482:=0
def tw11643987149635357754:=0
def tw9074926467516243675:=0
def tw5281045083481215827:=0
def tw2302425629005164969:=0
def tw17159272628373638546:=0
def tw5140059425860130475:=0
def tw5276659795880894050:=0
def tw14435811381213840491:=0
def tw13737771739973987815:=0
def tw16942540263700349251:=0
def tw15320865795176239485:=0
def tw16685261860187820769:=0
def tw6074255258665130261:=0
def tw4283193532711126996:=0
def tw5061920051229223254:=0
def tw1904249385380670055:=0
def tw107680859444993638:=0
def tw8087501974650797095:=0
def tw12454493830426623169:=0
def tw4469485484840584260:=0
end PySem.W.Fast
open PySem PySem.W PyProof.Rows
open OP in
set_option maxRecDepth 100000 in
set_option maxHeartbeats 0 in
theorem PySem.Challenge.cw_oneglance_k55_stuck_or_free_holds : PySem.Challenge.rw_oneglance_k55_stuck_or_free.Holds := by
 w_on; o_law; k_head; (case hw => w_witness2)
 k_fill
 refine OL.MX (l := PySem.Challenge.rw_oneglance_k55_stuck_or_free) rfl rfl (fun w h Y => PySem.W.kIn_of Y) ?F
 case F =>
  intro w mg fa h KX G hmg
  refine' OL.IG KX G hmg ?ds ?cl_Doing ?zs
  (case ds => (repeat (refine' ⟨Ni ?a ?l ?c ?k, ?_⟩; (case a => k_is); (case l => k_is); (case c => k_is); (case k => k_is))); exact trivial)
  (case cl_Doing => (refine' ⟨?a, ?b, ?c, ?d, ?e, ?f, ?g, ?n, ?m⟩; (case a => k_is); (case b => k_is); (case c => k_is); (case d => k_is); (case e => k_is); (case f => k_is); (case g => k_is); (case n => (repeat (refine' ⟨?a, ?_⟩; (case a => k_is))); exact trivial); (case m => (repeat (refine' ⟨M7 ?a ?i ?l ?c ?k, ?_⟩; (case a => k_is); (case i => k_is); (case l => k_is); (case c => k_is); (case k => k_is))); exact trivial)))
  (case zs => (repeat (refine' ⟨?a, ?_⟩; (case a => k_is))); exact trivial)
