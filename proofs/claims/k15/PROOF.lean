import PyProof.Rows.All
import Wide.All
import OpenK.AllK
import Wide.FinOn
import Lean
import PyProof.EqAt
import PyProof.EqKinds
import PyProof.TupleCall
import PySem.Challenge.RW_oneglance_k15_orders_looked_at
set_option maxHeartbeats 4000000
set_option Elab.async false
set_option linter.all false
set_option maxRecDepth 100000
namespace L2
open PySem PySem.Spec PyProof.Rows
noncomputable abbrev Key:=Sum Int Str
noncomputable def uf:Key->Value->Bool
 |.inl k,v=>Value.isInt k v
 |.inr x,v=>Value.isStrOf x v
noncomputable def ML(w:World):Key->Int
 |.inl k=>hashInt k
 |.inr x=>hashStr w x
theorem bZ:∀{k:Key} {v:Value},uf k v=true->(∃i t,k=Sum.inl i/\v=Value.int i t)\/(∃x t,k=Sum.inr x/\v=Value.str x t)
 |.inl i,v,h=>by
  obtain⟨t,e⟩:=Value.isInt_shape (k:=i) (v:=v) h
  exact .inl ⟨i,t,rfl,e⟩
 |.inr x,v,h=>by
  obtain⟨t,e⟩:=Value.isStrOf_shape (x:=x) (v:=v) h
  exact .inr ⟨x,t,rfl,e⟩
theorem yR(i:Int)(t:Tok):uf (.inl i) (.int i t)=true:=by simp[uf,Value.isInt]
theorem yQ(x:Str)(t:Tok):uf (.inr x) (.str x t)=true:=by simp[uf,Value.isStrOf]
theorem IF(a b:Int):decide ((Sum.inl a:Key)=Sum.inl b)=(a == b):=by
 by_cases e:a=b
 ·subst e;simp
 ·have h:¬(Sum.inl a:Key)=Sum.inl b:=fun q=>e (Sum.inl.inj q)
  rw[decide_eq_false h]
  exact(beq_eq_false_iff_ne.mpr e).symm
theorem IC(a b:Str):decide ((Sum.inr a:Key)=Sum.inr b)=decide (a=b):=by
 by_cases e:a=b
 ·subst e;simp
 ·have h:¬(Sum.inr a:Key)=Sum.inr b:=fun q=>e (Sum.inr.inj q)
  rw[decide_eq_false h,decide_eq_false e]
theorem IE(a:Int)(b:Str):decide ((Sum.inl a:Key)=Sum.inr b)=false:=decide_eq_false (fun q=>nomatch q)
theorem ID(a:Str)(b:Int):decide ((Sum.inr a:Key)=Sum.inl b)=false:=decide_eq_false (fun q=>nomatch q)
noncomputable def dM(prog:Program)(w:World):PySem.KeyKind prog w Key where
 is:=uf
 hash:=ML w
 inj:=fun v a b ha hb=>by
  rcases bZ ha with⟨i,t,rfl,rfl⟩|⟨x,t,rfl,rfl⟩
  ·rcases bZ hb with⟨j,u,rfl,e⟩|⟨y,u,rfl,e⟩
   ·injection e with e1 _;rw[e1]
   ·exact nomatch e
  ·rcases bZ hb with⟨j,u,rfl,e⟩|⟨y,u,rfl,e⟩
   ·exact nomatch e
   ·injection e with e1 _;rw[e1]
 byValue:=fun k v h=>by
  rcases bZ h with⟨i,t,rfl,rfl⟩|⟨x,t,rfl,rfl⟩<;>rfl
 pyHash:=fun hv h=>by
  rcases bZ hv with⟨i,t,rfl,rfl⟩|⟨x,t,rfl,rfl⟩
  ·exact wpAny_pyHash_int h
  ·exact wpAny_pyHash_str h
 eqBool:=fun hu hv h=>by
  rcases bZ hu with⟨i,t,rfl,rfl⟩|⟨x,t,rfl,rfl⟩
  ·rcases bZ hv with⟨j,u,rfl,rfl⟩|⟨y,u,rfl,rfl⟩
   ·rw[IF]at h;exact wpAny_eqBool_int h
   ·rw[IE]at h;exact SeqAt.EqAt.int_str i t y u _ _ _ _ h
  ·rcases bZ hv with⟨j,u,rfl,rfl⟩|⟨y,u,rfl,rfl⟩
   ·rw[ID]at h;exact SeqAt.EqAt.str_int x t j u _ _ _ _ h
   ·rw[IC]at h;exact wpAny_eqBool_str h
 «strs»:=fun k x t v h=>by
  rcases bZ h with⟨i,u,rfl,e⟩|⟨y,u,rfl,e⟩
  ·exact nomatch e
  ·injection e with e1 _
   subst e1
   cases v<;>rfl
theorem uc(prog:Program)(w:World)(i:Int)(t:Tok):(dM prog w).is (.inl i) (.int i t)=true:=yR i t
theorem ub(prog:Program)(w:World)(x:Str)(t:Tok):(dM prog w).is (.inr x) (.str x t)=true:=yQ x t
inductive V where
 |non|bl (b:Bool)|int (i:Int)|str (x:Str)|byt (b:Array UInt8)|flt (b:UInt64)|ref (a:Addr)|ty (n:String)
 deriving DecidableEq
noncomputable def dj:V->Value->Prop
 |.non,u=>u=Value.none
 |.bl b,u=>u=Value.bool b
 |.int i,u=>∃t,u=Value.int i t
 |.str x,u=>∃t,u=Value.str x t
 |.byt b,u=>∃t,u=Value.bytes b t
 |.flt b,u=>∃t,u=Value.float b t
 |.ref a,u=>u=Value.ref a
 |.ty n,u=>u=Value.type n
noncomputable abbrev b8:List V->List Value->Prop:=Paired dj
theorem b8.length{xs:List V}{us:List Value}(r:b8 xs us):xs.length=us.length:=Paired.length r
theorem b8.get:∀{xs:List V} {us:List Value} {i:Nat} {x:V},b8 xs us->xs[i]?=some x->∃u,us[i]?=some u/\dj x u
 |_,_,_,_,.nil,e=>by simp at e
 |_,_,0,_,.cons r _,e=>by simp at e;subst e;exact⟨_,rfl,r⟩
 |_,_,i+1,x,.cons _ t,e=>by
  obtain⟨u,h1,h2⟩:=b8.get (i:=i) (x:=x) t (by simpa using e)
  exact⟨u,by simpa using h1,h2⟩
theorem b8.set{x:V}{u:Value}(r:dj x u):∀{xs:List V} {us:List Value} (i:Nat),b8 xs us->b8 (xs.set i x) (us.set i u)
 |_,_,_,.nil=>.nil
 |_,_,0,.cons _ t=>.cons r t
 |_,_,i+1,.cons q t=>.cons q (b8.set r i t)
theorem b8.append:∀{xs ys:List V} {us ws:List Value},b8 xs us->b8 ys ws->b8 (xs++ys) (us++ws)
 |_,_,_,_,.nil,s=>s
 |_,_,_,_,.cons r t,s=>.cons r (b8.append t s)
theorem b8.take:∀{xs:List V} {us:List Value} (n:Nat),b8 xs us->b8 (xs.take n) (us.take n)
 |_,_,0,_=>.nil
 |_,_,_+1,.nil=>.nil
 |_,_,n+1,.cons r t=>.cons r (b8.take n t)
theorem b8.drop:∀{xs:List V} {us:List Value} (n:Nat),b8 xs us->b8 (xs.drop n) (us.drop n)
 |_,_,0,r=>r
 |_,_,_+1,.nil=>.nil
 |_,_,n+1,.cons _ t=>b8.drop n t
noncomputable def rC:Option V->Option Value->Prop
 |some v,some u=>dj v u
 |none,none=>True
 |_,_=>False
noncomputable def KV{κ:Type}:List (κ×V)->List (κ×Value)->Prop:=Paired fun(p:κ×V) (q:κ×Value)=>p.1=q.1/\dj p.2 q.2
noncomputable def kV:Key->V
 |.inl i=>.int i
 |.inr x=>.str x
inductive HO where
 |lst (xs:List V)
 |tup (xs:List V)
 |dK (kvs:List (Key×V))|dT (kvs:List (List Key×V))
 |set (S:Int->Bool) (n:Nat)
 |ins (C dx:Addr) (fs:List (Str×V))
 |own (x:Addr)
 |xd (fs:List (Str×V))
 |met (f x:Addr)
 |rng (lo hi:Int)
 |frz (o:Obj) (u:HO)
 |tbl (ps:Array Value)
 |ext (φ:Heap->Prop)
noncomputable abbrev Hp:=Addr->Option HO
noncomputable def upd(H:Hp)(a:Addr)(o:HO):Hp:=fun b=>if b=a then some o else H b
theorem aK{H:Hp}{a:Addr}{o:HO}:upd H a o a=some o:=by unfold upd;rw[if_pos rfl]
theorem bB{H:Hp}{a b:Addr}{o:HO}(h:b≠a):upd H a o b=H b:=by unfold upd;rw[if_neg h]
theorem K7{H:Hp}{a b:Addr}{o u:HO}(h:H a=some o)(h':H b=some u)(d:o≠u):a≠b:=by
 intro e;subst e;rw[h]at h';exact d (Option.some.inj h')
theorem cY{H:Hp}{a b:Addr}{o:HO}(h:H a=some o)(h':H b=none):a≠b:=by
 intro e;subst e;rw[h]at h';cases h'
section
variable(P:Program)(w:World)
noncomputable def dz(H:Hp)(h:Heap)(a:Addr):HO->Prop
 |.lst xs=>xs.length<=sizeLine/\∃(its:List Value) (n:Nat),b8 xs its/\h.get? a=some { cls:=.type "list",data:=.seq its.toArray n }
 |.tup xs=>xs.length<=sizeLine/\∃its:List Value,b8 xs its/\IsTup h a its.toArray
 |.dK kvs=>kvs.length<=sizeLine/\(a == sysModules)=false/\∃vs,KV kvs vs/\h.DictOf (dM P w) a vs
 | .dT kvs=>kvs.length<=sizeLine/\(a == sysModules)=false/\∃xs:List (List Key×Addr×Value),
   Paired (fun(p:List Key×V) (q:List Key×Addr×Value)=>p.1=q.1/\H q.2.1=some (.tup (p.1.map kV))/\dj p.2 q.2.2) kvs xs/\
   ∃o es ep,h.get? a=some o/\o.ExactDict/\o.data=.dict es ep/\es.toList=xs.map (entryOfKey (tupleKind (dM P w)))/\(xs.map (·.1)).Nodup
 |.set S n=>h.SetOf (intKind P w) a S n
 | .ins C dx fs=>H dx=some (.own a)/\fs.length<=1000/\dx≠a/\h.get? a=some (PySem.W.instObj C dx)/\
   ∃mA,h.Ns1 dx mA/\(∀f,rC (fs.lookup f) (mA f))/\PySem.Within mA (fs.map (·.1))
 |.own _=>∃o,h.get? a=some o
 |.xd fs=>∃mA,h.Ns1 a mA/\∀f,rC (fs.lookup f) (mA f)
 |.rng lo hi=>∃t u v,h.get? a=some { cls:=.type "range",data:=.fields #[.int lo t,.int hi u,.int 1 v] }
 |.frz o u=>h.get? a=some o/\dz H h a u
 |.tbl ps=>h.get? a=some { cls:=.none,data:=.fields ps }
 |.met f x=>h.get? a=some (PySem.W.methodObj (.ref f) (.ref x))
 |.ext φ=>φ h/\(∃o,h.get? a=some o)/\∀h1 h2:Heap,φ h1->(∀o,h1.get? a=some o->h2.get? a=some o)->φ h2
noncomputable def HOk(H:Hp)(h:Heap):Prop:=∀a o,H a=some o->dz P w H h a o
end
section
variable{P:Program}{w:World}{H H':Hp}{h h':Heap}{a:Addr}{o:HO}
theorem dz.lt(x:dz P w H h a o):a<h.objs.size:=by
 cases o with
 |lst xs=>obtain⟨_,_,_,_,e⟩:=x;exact Heap.lt_size e
 |tup xs=>obtain⟨_,_,_,p⟩:=x;exact p.lt
 |dK kvs=>obtain⟨_,_,_,_,o,_,_,e,_⟩:=x;exact Heap.lt_size e
 |dT kvs=>obtain⟨_,_,_,_,o,_,_,e,_⟩:=x;exact Heap.lt_size e
 |set S n=>obtain⟨o,_,_,_,e,_⟩:=x;exact Heap.lt_size e
 |ins C dx fs=>obtain⟨_,_,_,e,_⟩:=x;exact Heap.lt_size e
 |own y=>obtain⟨_,e⟩:=x;exact Heap.lt_size e
 |xd fs=>obtain⟨_,⟨_,_,_,e,_⟩,_⟩:=x;exact Heap.lt_size e
 |rng lo hi=>obtain⟨_,_,_,e⟩:=x;exact Heap.lt_size e
 |frz ob u=>obtain⟨e,_⟩:=x;exact Heap.lt_size e
 |tbl ps=>exact Heap.lt_size (show h.get? a=some _ from x)
 |met f y=>exact Heap.lt_size (show h.get? a=some _ from x)
 |ext φ=>obtain⟨_,⟨_,e⟩,_⟩:=x;exact Heap.lt_size e
theorem Paired.mapP{α β:Type}{F G:α->β->Prop}:∀{l₁:List α} {l₂:List β},Paired F l₁ l₂->(∀a b,F a b->G a b)->Paired G l₁ l₂
 |_,_,.nil,_=>.nil
 |_,_,.cons r t,f=>.cons (f _ _ r) (Paired.mapP t f)
theorem dz.stay(x:dz P w H h a o)(k:∀b u,(b=a\/H b=some (.own a))->h.get? b=some u->h'.get? b=some u)
  (ho:∀b,H b=some (.own a)->H' b=some (.own a)) (ht:∀b xs,H b=some (.tup xs)->H' b=some (.tup xs)):dz P w H' h' a o:=by
 induction o with
 |lst xs=>obtain⟨z,its,n,r,e⟩:=x;exact⟨z,its,n,r,k _ _ (.inl rfl) e⟩
 |tup xs=>obtain⟨z,its,r,ob,e,c⟩:=x;exact⟨z,its,r,ob,k _ _ (.inl rfl) e,c⟩
 |dK kvs=>obtain⟨z,y,vs,r,ob,es,ep,e,c⟩:=x;exact⟨z,y,vs,r,ob,es,ep,k _ _ (.inl rfl) e,c⟩
 |dT kvs=>
  obtain⟨z,y,xs,r,ob,es,ep,e,c⟩:=x
  exact⟨z,y,xs,Paired.mapP r fun p q z=>⟨z.1,ht _ _ z.2.1,z.2.2⟩,ob,es,ep,k _ _ (.inl rfl) e,c⟩
 |set S n=>obtain⟨ob,es,ep,t,e,c⟩:=x;exact⟨ob,es,ep,t,k _ _ (.inl rfl) e,c⟩
 |ins C dx fs=>
  obtain⟨d,z,ne,e,mA,⟨od,es,ep,e2,c⟩,r⟩:=x
  exact⟨ho _ d,z,ne,k _ _ (.inl rfl) e,mA,⟨od,es,ep,k _ _ (.inr d) e2,c⟩,r⟩
 |own y=>obtain⟨ob,e⟩:=x;exact⟨ob,k _ _ (.inl rfl) e⟩
 |xd fs=>obtain⟨mA,⟨od,es,ep,e,c⟩,r⟩:=x;exact⟨mA,⟨od,es,ep,k _ _ (.inl rfl) e,c⟩,r⟩
 |rng lo hi=>obtain⟨t,u,v,e⟩:=x;exact⟨t,u,v,k _ _ (.inl rfl) e⟩
 |frz ob u ih=>obtain⟨e,q⟩:=x;exact⟨k _ _ (.inl rfl) e,ih q⟩
 |tbl ps=>
  have e:h.get? a=some { cls:=.none,data:=.fields ps }:=x
  show h'.get? a=some { cls:=.none,data:=.fields ps }
  exact k a _ (.inl rfl) e
 |met f y=>
  have e:h.get? a=some (PySem.W.methodObj (.ref f) (.ref y)):=x
  show h'.get? a=some (PySem.W.methodObj (.ref f) (.ref y))
  exact k a _ (.inl rfl) e
 |ext φ=>obtain⟨p,⟨o,e⟩,st⟩:=x;exact⟨st _ _ p fun o q=>k _ _ (.inl rfl) q,⟨o,k _ _ (.inl rfl) e⟩,st⟩
theorem HOk.lt(x:HOk P w H h)(e:H a=some o):a<h.objs.size:=(x a o e).lt
theorem HOk.fresh(x:HOk P w H h)(e:h.objs.size<=a):H a=none:=by
 cases q:H a with
 |none=>rfl
 |some u=>exact absurd (Nat.lt_of_lt_of_le (x.lt q) e) (Nat.lt_irrefl _)
theorem HOk.kept(x:HOk P w H h)(k:∀b u,h.get? b=some u->h'.get? b=some u):HOk P w H h':=fun a o e=>
 (x a o e).stay (fun b u _ q=>k b u q) (fun _ q=>q) fun _ _ q=>q
theorem HOk.laid(x:HOk P w H h)(k:∀b u,h.get? b=some u->h'.get? b=some u)(hp:h.objs.size<=a)(new:dz P w (upd H a o) h' a o):HOk P w (upd H a o) h':=fun b u e=>by
 have hn:=x.fresh hp
 by_cases hb:b=a
 ·subst hb;rw[aK]at e;cases e;exact new
 ·rw[bB hb]at e
  exact(x b u e).stay (fun c v _ q=>k c v q) (fun c q=>by rw[bB (cY q hn)];exact q) fun c xs q=>by rw[bB (cY q hn)];exact q
end
noncomputable def Rd(H:Hp)(a:Addr)(u:HO):Prop:=H a=some u\/∃o,H a=some (.frz o u)
theorem Rd.ok{P:Program}{w:World}{H:Hp}{h:Heap}{a:Addr}{u:HO}(r:Rd H a u)(x:HOk P w H h):dz P w H h a u:=by
 rcases r with r|⟨o,r⟩
 ·exact x a u r
 ·obtain⟨_,q⟩:=x a _ r
  exact q
noncomputable def Mut:Option HO->Prop
 |some (.lst _)=>True
 |some (.dK _)=>True
 |some (.dT _)=>True
 |some (.set _ _)=>True
 |some (.ins _ _ _)=>True
 |some (.ext _)=>True
 |_=>False
section
variable{P:Program}{w:World}{H:Hp}{h h':Heap}{x e:Addr}{o':HO}
theorem HOk.write(ok:HOk P w H h)(mu:Mut (H x))(he:e=x\/H e=some (.own x))(k:∀b u,b≠e->h.get? b=some u->h'.get? b=some u)(heo:∃u,h'.get? e=some u)
  (new:dz P w (upd H x o') h' x o'):HOk P w (upd H x o') h':=fun b u q=>by
 have nown:∀c y,H c=some (.own y)->c≠x:=fun c y r z=>by subst z;rw[r]at mu;exact mu
 have ntup:∀c xs,H c=some (.tup xs)->c≠x:=fun c xs r z=>by subst z;rw[r]at mu;exact mu
 by_cases hb:b=x
 ·subst hb;rw[aK]at q;cases q;exact new
 ·rw[bB hb]at q
  by_cases hbe:b=e
  ·have q':H b=some (.own x):=by
    rcases he with z|z
    ·exact absurd (hbe.trans z) hb
    ·rw[hbe];exact z
   rw[q]at q';cases q'
   obtain⟨v,hv⟩:=heo
   exact⟨v,by rw[hbe];exact hv⟩
  ·refine(ok b u q).stay (fun c v hc r=>k c v ?_ r) (fun c r=>by rw[bB (nown c b r)];exact r) fun c xs r=>by rw[bB (ntup c xs r)];exact r
   rcases hc with rfl|hc
   ·exact hbe
   ·rintro rfl
    rcases he with z|z
    ·exact nown c b hc z
    ·rw[hc]at z;cases z;exact hb rfl
end
structure Un(fs ex:List Addr)(H H':Hp)(h h':Heap):Prop where
 keep:∀b o,h.get? b=some o->H b=none->b∉fs->b∉ex->h'.get? b=some o
 slot:∀b o,h.get? b=some o->H b=none->b∈fs->b∉ex->∃sl,h'.get? b=some { o with slots:=sl }
 free:∀b o,h.get? b=some o->H b=none->b∉ex->H' b=none
 there:∀b o,h.get? b=some o->b∉ex->∃o',h'.get? b=some o'
 tups:∀b xs,H b=some (.tup xs)->H' b=some (.tup xs)
 frzs:∀b o u,H b=some (.frz o u)->H' b=some (.frz o u)
 tbls:∀b ps,H b=some (.tbl ps)->∃more,H' b=some (.tbl (ps++more))
section
variable{fs fs' ex ex':List Addr}{H H1 H2:Hp}{h h1 h2 h':Heap}{a x e:Addr}{o:HO}
theorem Un.any(u:Un fs ex H H1 h h1){b:Addr}{ob:Obj}(q:h.get? b=some ob)(n:H b=none)(hx:b∉ex):∃sl,h1.get? b=some { ob with slots:=sl }:=by
 by_cases hb:b∈fs
 ·exact u.slot b ob q n hb hx
 ·exact⟨ob.slots,u.keep b ob q n hb hx⟩
theorem Un.kept(k:∀b u,h.get? b=some u->h'.get? b=some u):Un fs ex H H h h':=
 ⟨fun b ob q _ _ _=>k b ob q,fun b ob q _ _ _=>⟨ob.slots,k b ob q⟩,fun _ _ _ n _=>n,fun b ob q _=>⟨ob,k b ob q⟩,fun _ _ q=>q,fun _ _ _ q=>q,fun _ ps q=>⟨#[],by rw[q];simp⟩⟩
theorem Un.refl:Un fs ex H H h h:=Un.kept fun _ _ q=>q
theorem Un.laid(k:∀b u,h.get? b=some u->h'.get? b=some u)(hp:h.objs.size<=a)(hn:H a=none):Un fs ex H (upd H a o) h h' where
 keep:=fun b u q _ _ _=>k b u q
 slot:=fun b u q _ _ _=>⟨u.slots,k b u q⟩
 free:=fun b u q n _=>by rw[bB (Nat.ne_of_lt (Nat.lt_of_lt_of_le (Heap.lt_size q) hp))];exact n
 there:=fun b u q _=>⟨u,k b u q⟩
 tups:=fun b xs q=>by rw[bB (cY q hn)];exact q
 frzs:=fun b u xs q=>by rw[bB (cY q hn)];exact q
 tbls:=fun b ps q=>⟨#[],by rw[bB (cY q hn),q];simp⟩
theorem Un.write(mu:Mut (H x))(he:e=x\/H e=some (.own x))(k:∀b u,b≠e->h.get? b=some u->h'.get? b=some u)(heo:∃u,h'.get? e=some u):Un fs ex H (upd H x o) h h':=by
 have hx:∀b,H b=none->b≠x:=fun b n z=>by subst z;rw[n]at mu;exact mu
 have hb:∀b,H b=none->b≠e:=fun b n z=>by
  subst z
  rcases he with r|r
  ·exact hx b n r
  ·rw[n]at r;cases r
 have hm:∀b u,H b=some u->¬Mut (some u)->b≠x:=fun b u q nm z=>by subst z;rw[q]at mu;exact nm mu
 refine⟨fun b u q n _ _=>k b u (hb b n) q,fun b u q n _ _=>⟨u.slots,k b u (hb b n) q⟩,fun b u q n _=>by rw[bB (hx b n)];exact n,fun b u q _=>?_,
  fun b xs q=>by rw[bB (hm b _ q fun z=>z)];exact q,fun b u xs q=>by rw[bB (hm b _ q fun z=>z)];exact q,fun b ps q=>⟨#[],by rw[bB (hm b _ q fun z=>z),q];simp⟩⟩
 by_cases hbe:b=e
 ·subst hbe;exact heo
 ·exact⟨u,k b u hbe q⟩
end
noncomputable def trk(h:Heap)(H:Hp):List Addr:=(List.range h.objs.size).filter fun a=>(H a).isSome
noncomputable def BZ(h:Heap)(H:Hp):Heap:=PySem.W.hideAll h (trk h H)
theorem za(h:Heap)(H:Hp):(BZ h H).objs.size=h.objs.size:=PySem.W.hideAll_size _ _
theorem BY{h:Heap}{H:Hp}{b:Addr}{o:Obj}(e:h.get? b=some o)(n:H b=none):(BZ h H).get? b=some o:=
 PySem.W.hideAll_get _ e fun hm=>by
  have q:(H b).isSome=true:=(List.mem_filter.mp hm).2
  rw[n]at q;simp at q
theorem EZ{h:Heap}{H:Hp}{b:Addr}{o:Obj}(e:(BZ h H).get? b=some o):h.get? b=some o/\H b=none:=by
 have e':h.get? b=some o:=PySem.W.of_hideAll (trk h H) e
 refine⟨e',?_⟩
 cases q:H b with
 |none=>rfl
 |some x=>
  have hm:b∈trk h H:=List.mem_filter.mpr ⟨List.mem_range.mpr (Heap.lt_size e'),by simp[q]⟩
  have z:(BZ h H).get? b=none:=PySem.W.hideAll_none (trk h H) hm
  rw[z]at e;cases e
structure Mod(K:PySem.W.Frag)(mg:Str->Option Value)(base:Heap):Prop where
 kin:K.In base
 glob:base.Ns mainGlobals mg
 blt:∃mb,base.Ns builtinsNs mb/\∀x:Str,x≠"__name__"->mb x=bootBuiltins x
 nolimit:base.NoLimit
structure Cx where
 prog:Program
 w:World
 K:PySem.W.Frag
 mg:Str->Option Value
 base:Heap
 A:Around
 N:List Str
 s₀:Shared
 H₀:Hp
 env:Env
 outer:List Env
 stack:List Env
 ex:List Addr
 fn:Str->Bool
 calm:Bool
 pn:List (Addr×Obj)
 xe:Value->Shared->Prop
noncomputable def frs(l:List Env):List Addr:=l.filterMap (·.frame)
noncomputable abbrev Cx.fs(X:Cx):List Addr:=frs X.outer
noncomputable def Vis(sc:Scope)(x:Str):Prop:=sc.names.lookup x=some .local\/sc.names.lookup x=some .cell\/sc.names.lookup x=some .free
noncomputable def Loc(sc:Scope)(x:Str):Prop:=sc.names.lookup x=some .local\/sc.names.lookup x=some .cell
noncomputable def MQ(env:Env)(h:Heap)(m:Str->Option Value)(x:Str)(u:Value):Prop:=
 (env.kindOf x=some .local/\m x=some u)\/((env.kindOf x=some .cell\/env.kindOf x=some .free)/\∃c,env.cells.lookup x=some c/\h.IsCell c (some u))
structure Cx.Ok(X:Cx):Prop where
 mod:Mod X.K X.mg X.base
 kind:X.env.scope.kind=.function
 glob:X.env.globals=mainGlobals
 blt:X.env.builtins=builtinsNs
 above:X.s₀.heap.objs.size<=X.env.locals
 inj:∀x y c,X.env.cells.lookup x=some c->X.env.cells.lookup y=some c->x=y
 has:∀x,(X.env.kindOf x=some .cell\/X.env.kindOf x=some .free)->∃c,X.env.cells.lookup x=some c
 cab:∀x c,X.fn x=true->X.env.cells.lookup x=some c->X.s₀.heap.objs.size<=c
 hd:X.calm=true->X.A.handled=none
 frames:X.A.frames=some X.stack
 stk:X.stack=X.outer\/(X.stack=X.env::X.outer/\X.env.frame=some X.env.locals)
 exf:∀b∈X.ex,b≠X.env.locals/\∀x c,X.env.cells.lookup x=some c->c≠b
 bs:∀b o,X.base.get? b=some o->X.s₀.heap.get? b=some o/\X.H₀ b=none
 bsz:X.base.objs.size<=X.s₀.heap.objs.size
 noex:∀b o,X.base.get? b=some o->b∉X.ex
 exfs:∀b∈X.ex,b∉X.fs
 funs:X.s₀.heap.FunFrames X.base X.outer
 frf:∀b∈X.fs,X.H₀ b=none
structure Inv(X:Cx)(pins:List (Addr×Obj))(σ:List (Option V))(H:Hp)(s:Shared):Prop where
 ok:X.Ok
 os:s.os=X.s₀.os
 bare:AllBare s.gens
 base:Un X.fs X.ex X.H₀ H X.s₀.heap s.heap
 loc:∃m,s.heap.Ns X.env.locals m/\∀(i:Nat) (x:Str) (v:V),X.N[i]?=some x->σ[i]?=some (some v)->Vis X.env.scope x->∃u,dj v u/\MQ X.env s.heap m x u
 cell:∀x c,X.env.cells.lookup x=some c->∃v,s.heap.IsCell c v
 free:H X.env.locals=none
 freeC:∀x c,X.env.cells.lookup x=some c->H c=none
 pin:∀p∈X.pn++pins,s.heap.get? p.1=some p.2/\H p.1=none/\p.1≠X.env.locals/\p.1∉X.fs/\∀v,p.2.data≠.cell v
 hok:HOk X.prog X.w H s.heap
 len:σ.length=X.N.length
section
variable{X:Cx}{pins:List (Addr×Obj)}{σ:List (Option V)}{H H':Hp}{s:Shared}{h':Heap}
theorem Cx.Ok.nofr(ok:X.Ok){b:Addr}{o:Obj}(e:X.base.get? b=some o):b∉X.fs:=fun hb=>by
 have:=(ok.funs.mem hb).1
 rw[e]at this;cases this
theorem Inv.bs(I:Inv X pins σ H s):∀b o,X.base.get? b=some o->s.heap.get? b=some o/\H b=none:=fun b o e=>
 ⟨I.base.keep b o (I.ok.bs b o e).1 (I.ok.bs b o e).2 (I.ok.nofr e) (I.ok.noex b o e),I.base.free b o (I.ok.bs b o e).1 (I.ok.bs b o e).2 (I.ok.noex b o e)⟩
theorem Inv.bk(I:Inv X pins σ H s):∀b o,X.base.get? b=some o->s.heap.get? b=some o:=fun b o e=>(I.bs b o e).1
theorem Inv.mod(I:Inv X pins σ H s):Mod X.K X.mg X.base:=I.ok.mod
theorem Inv.kIn(I:Inv X pins σ H s):X.K.In s.heap:=I.ok.mod.kin.keeps I.bk
theorem Inv.lt(I:Inv X pins σ H s):X.env.locals<s.heap.objs.size:=let ⟨_,hn,_⟩:=I.loc;hn.lt
theorem Inv.sz(I:Inv X pins σ H s):X.s₀.heap.objs.size<=s.heap.objs.size:=Nat.le_trans I.ok.above (Nat.le_of_lt I.lt)
theorem Inv.nofs(I:Inv X pins σ H s){a:Addr}(h:s.heap.objs.size<=a):a∉X.fs:=fun hb=>by
 obtain⟨_,o,ho,_⟩:=I.ok.funs.mem hb
 exact absurd (Nat.lt_of_lt_of_le (Heap.lt_size ho) (Nat.le_trans I.sz h)) (Nat.lt_irrefl _)
theorem Inv.cne(I:Inv X pins σ H s):∀x c,X.env.cells.lookup x=some c->c≠X.env.locals:=fun x c e z=>by
 obtain⟨v,o,ho,hd⟩:=I.cell x c e
 obtain⟨m,⟨o',es,ep,ho',hd',_⟩,_⟩:=I.loc
 rw[z,ho']at ho;cases ho;rw[hd']at hd;cases hd
theorem Inv.funs(I:Inv X pins σ H s):s.heap.FunFrames X.base X.outer:=by
 have all:∀(l:List Env),(∀b∈frs l,b∈X.fs)->X.s₀.heap.FunFrames X.base l->s.heap.FunFrames X.base l:=by
  intro l
  induction l with
  |nil=>intro _ _;trivial
  |cons env r ih=>
   intro hs hl
   obtain⟨hk,⟨L,o,hf,hn,ho,hd⟩,hr⟩:=hl
   have hL:L∈X.fs:=hs L (by unfold frs;rw[List.filterMap_cons,hf];exact List.mem_cons_self)
   obtain⟨sl,e⟩:=I.base.slot L o ho (I.ok.frf L hL) hL fun z=>I.ok.exfs L z hL
   exact⟨hk,⟨L,_,hf,hn,e,hd⟩,ih (fun b hb=>hs b (by unfold frs;rw[List.filterMap_cons,hf];exact List.mem_cons_of_mem _ hb)) hr⟩
 exact all X.outer (fun _ hb=>hb) I.ok.funs
theorem Inv.stack(I:Inv X pins σ H s):s.heap.FunFrames X.base X.stack:=by
 rcases I.ok.stk with e|⟨e,hf⟩
 ·rw[e];exact I.funs
 ·rw[e]
  obtain⟨m,hn,_⟩:=I.loc
  refine .cons (by rw[I.ok.kind];decide) hf hn ?_ I.funs
  exact Heap.get?_none_of_le (Nat.le_trans I.ok.bsz I.ok.above)
theorem Inv.stkSub(I:Inv X pins σ H s):∀b∈frs X.stack,b∈X.env.locals::X.fs:=fun b hb=>by
 rcases I.ok.stk with e|⟨e,hf⟩
 ·rw[e]at hb;exact List.mem_cons_of_mem _ hb
 ·rw[e]at hb
  unfold frs at hb
  rw[List.filterMap_cons,hf]at hb
  exact hb
theorem Inv.stkFree(I:Inv X pins σ H s):∀b∈frs X.stack,H b=none:=fun b hb=>by
 rcases List.mem_cons.mp (I.stkSub b hb)with e|hb
 ·rw[e];exact I.free
 ·obtain⟨_,o,ho,_⟩:=I.ok.funs.mem hb
  exact I.base.free b o ho (I.ok.frf b hb) fun z=>I.ok.exfs b z hb
theorem Inv.step{g':Array GenState}{t':Nat}{d':Drawn}{ch:List Addr}(I:Inv X pins σ H s)
  (hch:∀b∈ch,(b∈X.ex\/X.s₀.heap.objs.size<=b)/\b≠X.env.locals/\(∀x c,X.env.cells.lookup x=some c->c≠b)/\∀p∈X.pn++pins,p.1≠b)
  (keep:∀b o,b≠X.env.locals->b∉X.fs->b∉ch->s.heap.get? b=some o->H b=none->h'.get? b=some o)
  (slot:∀b o,b≠X.env.locals->b∈X.fs->b∉ch->s.heap.get? b=some o->H b=none->∃sl,h'.get? b=some { o with slots:=sl }) (free:∀b o,b∉ch->s.heap.get? b=some o->H b=none->H' b=none)
  (there:∀b o,b∉ch->s.heap.get? b=some o->∃o',h'.get? b=some o')
  (tups:∀b xs,H b=some (.tup xs)->H' b=some (.tup xs)) (frzs:∀b o u,H b=some (.frz o u)->H' b=some (.frz o u)) (tbls:∀b ps,H b=some (.tbl ps)->∃more,H' b=some (.tbl (ps++more)))
  (ns:∀m,s.heap.Ns X.env.locals m->h'.Ns X.env.locals m) (hok:HOk X.prog X.w H' h') (hg:AllBare g') :
  Inv X pins σ H' { s with heap:=h',gens:=g',drawn:=d',toks:=t' }:=by
 have neL:∀b o,X.s₀.heap.get? b=some o->b≠X.env.locals:=fun b o e=>Nat.ne_of_lt (Nat.lt_of_lt_of_le (Heap.lt_size e) I.ok.above)
 have neC:∀b o,X.s₀.heap.get? b=some o->b∉X.ex->b∉ch:=fun b o e hx hb=>by
  rcases(hch b hb).1 with z|z
  ·exact hx z
  ·exact absurd (Nat.lt_of_lt_of_le (Heap.lt_size e) z) (Nat.lt_irrefl _)
 have cellK:∀x c,X.env.cells.lookup x=some c->∀v,s.heap.IsCell c v->h'.IsCell c v:=fun x c e v ⟨o,ho,hd⟩=>by
  have nch:c∉ch:=fun z=>(hch c z).2.2.1 x c e rfl
  by_cases hc:c∈X.fs
  ·obtain⟨sl,q⟩:=slot c o (I.cne x c e) hc nch ho (I.freeC x c e)
   exact⟨_,q,hd⟩
  ·exact⟨o,keep c o (I.cne x c e) hc nch ho (I.freeC x c e),hd⟩
 refine⟨I.ok,I.os,hg,⟨fun b o e n hb hx=>?_,fun b o e n hb hx=>?_,fun b o e n hx=>?_,fun b o e hx=>?_,fun b xs e=>tups b xs (I.base.tups b xs e),fun b o xs e=>frzs b o xs (I.base.frzs b o xs e),fun b ps e=>?_⟩,?_,fun x c e=>?_,?_,fun x c e=>?_,fun p hp=>?_,hok,I.len⟩
 ·exact keep b o (neL b o e) hb (neC b o e hx) (I.base.keep b o e n hb hx) (I.base.free b o e n hx)
 ·obtain⟨sl,e1⟩:=I.base.slot b o e n hb hx
  obtain⟨sl',e2⟩:=slot b _ (neL b o e) hb (neC b o e hx) e1 (I.base.free b o e n hx)
  exact⟨sl',e2⟩
 ·obtain⟨o',e1⟩:=I.base.there b o e hx
  exact free b o' (neC b o e hx) e1 (I.base.free b o e n hx)
 ·obtain⟨o',e1⟩:=I.base.there b o e hx
  exact there b o' (neC b o e hx) e1
 ·obtain⟨m1,e1⟩:=I.base.tbls b ps e
  obtain⟨m2,e2⟩:=tbls b _ e1
  exact⟨m1++m2,by rw[e2,Array.append_assoc]⟩
 ·obtain⟨m,hn,hl⟩:=I.loc
  refine⟨m,ns m hn,fun i x v e1 e2 e3=>?_⟩
  obtain⟨u,r,l⟩:=hl i x v e1 e2 e3
  refine⟨u,r,?_⟩
  rcases l with l|⟨k,c,e,z⟩
  ·exact .inl l
  ·exact .inr ⟨k,c,e,cellK x c e _ z⟩
 ·obtain⟨v,z⟩:=I.cell x c e
  exact⟨v,cellK x c e v z⟩
 ·obtain⟨m,⟨o,_,_,ho,_⟩,_⟩:=I.loc
  exact free _ o (fun z=>(hch _ z).2.1 rfl) ho I.free
 ·obtain⟨v,o,ho,hd⟩:=I.cell x c e
  exact free c o (fun z=>(hch c z).2.2.1 x c e rfl) ho (I.freeC x c e)
 ·obtain⟨e,n,ne,nf,d⟩:=I.pin p hp
  have nch:p.1∉ch:=fun z=>(hch p.1 z).2.2.2 p hp rfl
  exact⟨keep p.1 p.2 ne nf nch e n,free p.1 p.2 nch e n,ne,nf,d⟩
theorem Inv.un{t':Nat}(I:Inv X pins σ H s)(u:Un X.fs [] H H' s.heap h')(hok:HOk X.prog X.w H' h'):Inv X pins σ H' { s with heap:=h',toks:=t' }:=by
 obtain⟨m,⟨o,es,ep,ho,r⟩,_⟩:=id I.loc
 obtain⟨sl,hL⟩:=u.any ho I.free (by simp)
 exact I.step (g':=s.gens) (d':=s.drawn) (ch:=[]) (fun _ z=>nomatch z) (fun b o _ hb _ e n=>u.keep b o e n hb (by simp)) (fun b o _ hb _ e n=>u.slot b o e n hb (by simp)) (fun b o _ e n=>u.free b o e n (by simp)) (fun b o _ e=>u.there b o e (by simp)) u.tups u.frzs u.tbls (fun m' hm=>by
  obtain⟨o',es',ep',ho',r'⟩:=hm
  rw[ho]at ho';cases ho'
  exact⟨_,es',ep',hL,r'⟩) hok I.bare
theorem Inv.call{g':Array GenState}{t':Nat}{d':Drawn}{ch:List Addr}(I:Inv X pins σ H s)(u:Un (frs X.stack) ch H H' s.heap h')(hok:HOk X.prog X.w H' h')(hg:AllBare g')
  (hch:∀b∈ch,(b∈X.ex\/X.s₀.heap.objs.size<=b)/\b≠X.env.locals/\(∀x c,X.env.cells.lookup x=some c->c≠b)/\∀p∈X.pn++pins,p.1≠b) :
  Inv X pins σ H' { s with heap:=h',gens:=g',drawn:=d',toks:=t' }:=by
 obtain⟨m,⟨o,es,ep,ho,r⟩,_⟩:=id I.loc
 obtain⟨sl,hL⟩:=u.any ho I.free fun z=>(hch _ z).2.1 rfl
 exact I.step (ch:=ch) hch (fun b o hL hb hc e n=>u.keep b o e n (fun z=>(List.mem_cons.mp (I.stkSub b z)).elim hL hb) hc) (fun b o _ _ hc e n=>u.any e n hc) (fun b o hc e n=>u.free b o e n hc) (fun b o hc e=>u.there b o e hc) u.tups u.frzs u.tbls (fun m' hm=>by
  obtain⟨o',es',ep',ho',r'⟩:=hm
  rw[ho]at ho';cases ho'
  exact⟨_,es',ep',hL,r'⟩) hok hg
theorem Inv.turned{t':Nat}{it:Addr}(I:Inv X pins σ H s)(k:∀b o,b≠it->s.heap.get? b=some o->h'.get? b=some o)(hn:H it=none)(hL:it≠X.env.locals)
  (h1:it∈X.ex\/X.s₀.heap.objs.size<=it) (h2:∀x c,X.env.cells.lookup x=some c->c≠it) (h3:∀p∈X.pn++pins,p.1≠it):Inv X pins σ H { s with heap:=h',toks:=t' }:=by
 have nit:∀b u,H b=some u->b≠it:=fun b u e z=>by rw[z,hn]at e;cases e
 refine I.step (g':=s.gens) (d':=s.drawn) (ch:=[it]) (fun b hb=>?_) (fun b o _ _ hc e _=>k b o (fun z=>hc (by simp[z])) e) (fun b o _ _ hc e _=>⟨o.slots,k b o (fun z=>hc (by simp[z])) e⟩) (fun _ _ _ _ n=>n)
  (fun b o hc e=>⟨o,k b o (fun z=>hc (by simp[z])) e⟩) (fun _ _ e=>e) (fun _ _ _ e=>e) (fun b ps e=>⟨#[],by rw[e];simp⟩) (fun m hm=>?_) (fun b u e=>?_) I.bare
 ·have e:b=it:=by simpa using hb
  subst e
  exact⟨h1,hL,h2,h3⟩
 ·obtain⟨o,es,ep,ho,r⟩:=hm
  exact⟨o,es,ep,k _ o (Ne.symm hL) ho,r⟩
 ·refine(I.hok b u e).stay (fun c v hc q=>k c v ?_ q) (fun _ q=>q) fun _ _ q=>q
  rcases hc with z|z
  ·rw[z];exact nit b u e
  ·exact nit c _ z
theorem Inv.tok(I:Inv X pins σ H s)(t:Nat):Inv X pins σ H { s with toks:=t }:=I.un (h':=s.heap) (t':=t) Un.refl I.hok
theorem Inv.kept{t':Nat}(I:Inv X pins σ H s)(k:∀b u,s.heap.get? b=some u->h'.get? b=some u):Inv X pins σ H { s with heap:=h',toks:=t' }:=I.un (Un.kept k) (I.hok.kept k)
theorem Inv.laid{a:Addr}{o:HO}{t':Nat}(I:Inv X pins σ H s)(k:∀b u,s.heap.get? b=some u->h'.get? b=some u)(hp:s.heap.objs.size<=a)(new:dz X.prog X.w (upd H a o) h' a o) :
  Inv X pins σ (upd H a o) { s with heap:=h',toks:=t' }:=I.un (Un.laid k hp (I.hok.fresh hp)) (I.hok.laid k hp new)
theorem Inv.write{x e:Addr}{o:HO}{t':Nat}(I:Inv X pins σ H s)(mu:Mut (H x))(he:e=x\/H e=some (.own x))(k:∀b u,b≠e->s.heap.get? b=some u->h'.get? b=some u)(heo:∃u,h'.get? e=some u)
  (new:dz X.prog X.w (upd H x o) h' x o):Inv X pins σ (upd H x o) { s with heap:=h',toks:=t' }:=I.un (Un.write mu he k heo) (I.hok.write mu he k heo new)
theorem Inv.pins_of{pins':List (Addr×Obj)}(I:Inv X pins σ H s)(h:∀p∈pins',s.heap.get? p.1=some p.2/\H p.1=none/\p.1≠X.env.locals/\p.1∉X.fs/\∀v,p.2.data≠.cell v):Inv X pins' σ H s:=
 ⟨I.ok,I.os,I.bare,I.base,I.loc,I.cell,I.free,I.freeC,fun p hp=>(List.mem_append.mp hp).elim (fun z=>I.pin p (List.mem_append_left _ z)) (h p),I.hok,I.len⟩
theorem vo{N:List Str}(hN:N.Nodup){i j:Nat}{x:Str}(a:N[i]?=some x)(b:N[j]?=some x):i=j:=by
 obtain⟨h1,e1⟩:=List.getElem?_eq_some_iff.mp a
 obtain⟨h2,e2⟩:=List.getElem?_eq_some_iff.mp b
 exact(List.getElem_inj hN).mp (e1.trans e2.symm)
theorem rY{M:Model}{A:Around}{E:Value->Shared->Prop}{i:Nat}{x:Str}{v:V}{u:Value}{Q:Unit->Shared->Prop}(I:Inv X pins σ H s)(hN:X.N.Nodup)(hi:X.N[i]?=some x)(hx:Loc X.env.scope x)(r:dj v u)
  (h:∀s',Inv X pins (σ.set i (some v)) H s'->(∃a,Heap.SameBut a s.heap s'.heap/\(a=X.env.locals\/X.env.cells.lookup x=some a))->Q () s') (hf:X.fn x=true\/X.env.scope.names.lookup x=some .local:=by first|exact .inl rfl|exact .inr rfl|assumption):wpAny M A (storeName X.env x u) Q E s:=by
 obtain⟨m,hn,hl⟩:=id I.loc
 have hcls:(X.env.scope.kind == .class||(X.env.scope.kind == .module&&X.env.locals !=X.env.globals))=false:=by rw[I.ok.kind];rfl
 have hiσ:i < σ.length:=by rw[I.len];exact(List.getElem?_eq_some_iff.mp hi).1
 have cne:=I.cne
 have tracked:∀{a:Addr} {h':Heap},(∃o,s.heap.get? a=some o/\H a=none)->Heap.SameBut a s.heap h'->HOk X.prog X.w H h':=fun{a h'} ha hs b ob e=>by
  obtain⟨_,_,hfree⟩:=ha
  refine(I.hok b ob e).stay (fun c w' hc q=>(hs.2 c ?_).trans q) (fun _ q=>q) fun _ _ q=>q
  rintro rfl
  rcases hc with rfl|hc
  ·rw[hfree]at e;cases e
  ·rw[hfree]at hc;cases hc
 rcases hx with hk|hk
 ·refine wpAny_storeName_local hk hn (fun h' hn' hs=>?_) hcls
  obtain⟨oL,_,_,hoL,_⟩:=id hn
  refine h _ ⟨I.ok,I.os,I.bare,⟨fun b o e n hb hx=>?_,fun b o e n hb hx=>?_,I.base.free,fun b o e hx=>?_,I.base.tups,I.base.frzs,I.base.tbls⟩,⟨_,hn',fun j y v' e1 e2 e3=>?_⟩,fun y c e=>?_,I.free,I.freeC,fun p hp=>?_,tracked ⟨oL,hoL,I.free⟩ hs,by simpa using I.len⟩ ⟨_,hs,.inl rfl⟩
  ·exact(hs.2 b (Nat.ne_of_lt (Nat.lt_of_lt_of_le (Heap.lt_size e) I.ok.above))).trans (I.base.keep b o e n hb hx)
  ·obtain⟨sl,e1⟩:=I.base.slot b o e n hb hx
   exact⟨sl,(hs.2 b (Nat.ne_of_lt (Nat.lt_of_lt_of_le (Heap.lt_size e) I.ok.above))).trans e1⟩
  ·obtain⟨o',e1⟩:=I.base.there b o e hx
   exact⟨o',(hs.2 b (Nat.ne_of_lt (Nat.lt_of_lt_of_le (Heap.lt_size e) I.ok.above))).trans e1⟩
  ·by_cases hj:j=i
   ·subst hj
    rw[hi]at e1;cases e1
    rw[List.getElem?_set_self hiσ]at e2
    cases e2
    exact⟨u,r,.inl ⟨hk,by simp⟩⟩
   ·rw[List.getElem?_set_ne (Ne.symm hj)]at e2
    obtain⟨u',r',q⟩:=hl j y v' e1 e2 e3
    refine⟨u',r',?_⟩
    rcases q with⟨k,e⟩|⟨k,c,e,z⟩
    ·refine .inl ⟨k,?_⟩
     have:y≠x:=fun e=>hj (vo hN e1 (e▸hi))
     simp[this,e]
    ·exact .inr ⟨k,c,e,z.sameBut hs (cne y c e)⟩
  ·obtain⟨w',z⟩:=I.cell y c e
   exact⟨w',z.sameBut hs (cne y c e)⟩
  ·obtain⟨e,n,ne,nf,d⟩:=I.pin p hp
   exact⟨(hs.2 p.1 ne).trans e,n,ne,nf,d⟩
 ·have hfn:X.fn x=true:=by
   rcases hf with z|z
   ·exact z
   ·rw[z]at hk;cases hk
  obtain⟨c,hc⟩:=I.ok.has x (.inl hk)
  obtain⟨w',z⟩:=I.cell x c hc
  refine wpAny_storeName_cell I.ok.kind hk hc z (fun h' hc' hs=>?_)
  obtain⟨oc,hoc,hocd⟩:=id z
  refine h { s with heap:=h' } ⟨I.ok,I.os,I.bare,⟨fun b o e n hb hx=>?_,fun b o e n hb hx=>?_,I.base.free,fun b o e hx=>?_,I.base.tups,I.base.frzs,I.base.tbls⟩,⟨m,hn.sameBut hs (Ne.symm (cne x c hc)),fun j y v' e1 e2 e3=>?_⟩,fun y c' e=>?_,I.free,I.freeC,fun p hp=>?_,tracked ⟨oc,hoc,I.freeC x c hc⟩ hs,by simpa using I.len⟩ ⟨c,hs,.inr hc⟩
  ·exact(hs.2 b (Nat.ne_of_lt (Nat.lt_of_lt_of_le (Heap.lt_size e) (I.ok.cab x c hfn hc)))).trans (I.base.keep b o e n hb hx)
  ·obtain⟨sl,e1⟩:=I.base.slot b o e n hb hx
   exact⟨sl,(hs.2 b (Nat.ne_of_lt (Nat.lt_of_lt_of_le (Heap.lt_size e) (I.ok.cab x c hfn hc)))).trans e1⟩
  ·obtain⟨o',e1⟩:=I.base.there b o e hx
   exact⟨o',(hs.2 b (Nat.ne_of_lt (Nat.lt_of_lt_of_le (Heap.lt_size e) (I.ok.cab x c hfn hc)))).trans e1⟩
  ·by_cases hj:j=i
   ·subst hj
    rw[hi]at e1;cases e1
    rw[List.getElem?_set_self hiσ]at e2
    cases e2
    exact⟨u,r,.inr ⟨.inl hk,c,hc,hc'⟩⟩
   ·rw[List.getElem?_set_ne (Ne.symm hj)]at e2
    obtain⟨u',r',q⟩:=hl j y v' e1 e2 e3
    refine⟨u',r',?_⟩
    rcases q with q|⟨k,c',e,z'⟩
    ·exact .inl q
    ·refine .inr ⟨k,c',e,z'.sameBut hs ?_⟩
     rintro rfl
     exact hj (vo hN e1 (I.ok.inj _ _ _ e hc▸hi))
  ·by_cases hcc:c'=c
   ·subst hcc;exact⟨_,hc'⟩
   ·obtain⟨w2,z2⟩:=I.cell y c' e
    exact⟨w2,z2.sameBut hs hcc⟩
  ·obtain⟨e,n,ne,nf,d⟩:=I.pin p hp
   refine⟨(hs.2 p.1 ?_).trans e,n,ne,nf,d⟩
   intro q
   rw[q,hoc]at e
   have q':oc=p.2:=Option.some.inj e
   exact d w' (by rw[<-q'];exact hocd)
theorem u6{M:Model}{A:Around}{E:Value->Shared->Prop}{i:Nat}{x:Str}{v:V}{u:Value}{Q:Unit->Shared->Prop}(I:Inv X pins σ H s)(hN:X.N.Nodup)(hi:X.N[i]?=some x)(hx:Loc X.env.scope x)(r:dj v u)
  (h:∀s',Inv X pins (σ.set i (some v)) H s'->Q () s') (hf:X.fn x=true\/X.env.scope.names.lookup x=some .local:=by first|exact .inl rfl|exact .inr rfl|assumption):wpAny M A (storeName X.env x u) Q E s:=
 rY I hN hi hx r (fun s' I' _=>h s' I') hf
theorem Inv.call'{s':Shared}{ch:List Addr}(I:Inv X pins σ H s)(ho:s'.os=s.os)(u:Un (frs X.stack) ch H H' s.heap s'.heap)(hok:HOk X.prog X.w H' s'.heap)(hg:AllBare s'.gens)
  (hch:∀b∈ch,(b∈X.ex\/X.s₀.heap.objs.size<=b)/\b≠X.env.locals/\(∀x c,X.env.cells.lookup x=some c->c≠b)/\∀p∈X.pn++pins,p.1≠b):Inv X pins σ H' s':=by
 obtain⟨h',g',d',t',o'⟩:=s'
 have e:o'=s.os:=ho
 subst e
 exact I.call (g':=g') (t':=t') (d':=d') u hok hg hch
end
noncomputable abbrev XK:=Value->Option Addr->Hp->Prop
noncomputable abbrev St:=List (Option V)
noncomputable abbrev VK:=V->Hp->Prop
noncomputable abbrev TE:=St->Hp->VK->Prop
noncomputable abbrev TT:=St->Hp->(Bool->Hp->Prop)->Prop
noncomputable abbrev TA:=St->Hp->(List V->Hp->Prop)->Prop
structure Aw where
 nx:St->Hp->Prop
 rt:VK
 bk:St->Hp->Prop:=fun _ _=>False
 ct:St->Hp->Prop:=fun _ _=>False
noncomputable abbrev TS:=Aw->St->Hp->Prop
noncomputable def EP(X:Cx)(pins:List (Addr×Obj))(σ:St)(Q:VK)(u:Value)(s':Shared):Prop:=∃v H',Inv X pins σ H' s'/\dj v u/\Q v H'
noncomputable def TP(X:Cx)(pins:List (Addr×Obj))(σ:St)(Q:Bool->Hp->Prop)(b:Bool)(s':Shared):Prop:=∃H',Inv X pins σ H' s'/\Q b H'
noncomputable def AP(X:Cx)(pins:List (Addr×Obj))(σ:St)(Q:List V->Hp->Prop)(us:List Value)(s':Shared):Prop:=∃vs H',Inv X pins σ H' s'/\b8 vs us/\Q vs H'
noncomputable def SP(X:Cx)(pins:List (Addr×Obj))(D:Aw)(f:Flow)(s':Shared):Prop:=
 match f with
 |.next=>∃σ' H',Inv X pins σ' H' s'/\D.nx σ' H'
 |.brk=>∃σ' H',Inv X pins σ' H' s'/\D.bk σ' H'
 |.cont=>∃σ' H',Inv X pins σ' H' s'/\D.ct σ' H'
 |.ret u=>∃v σ' H',Inv X pins σ' H' s'/\dj v u/\D.rt v H'
noncomputable def PE(X:Cx)(e:Expr)(t:TE):Prop:=
 ∀(pins:List (Addr×Obj)) (s:Shared) (σ:St) (H:Hp) (Q:VK),Inv X pins σ H s->t σ H Q->wpAny (model X.prog X.w) X.A (eval e X.env) (EP X pins σ Q) X.xe s
noncomputable def PT(X:Cx)(e:Expr)(t:TT):Prop:=
 ∀(pins:List (Addr×Obj)) (s:Shared) (σ:St) (H:Hp) (Q:Bool->Hp->Prop),Inv X pins σ H s->t σ H Q->wpAny (model X.prog X.w) X.A (isTrue e X.env (eval e X.env)) (TP X pins σ Q) X.xe s
noncomputable def PW(X:Cx)(e:Expr)(t:TT):Prop:=
 ∀(whole:Sem Value) (pins:List (Addr×Obj)) (s:Shared) (σ:St) (H:Hp) (Q:Bool->Hp->Prop),Inv X pins σ H s->t σ H Q->wpAny (model X.prog X.w) X.A (isTrue e X.env whole) (TP X pins σ Q) X.xe s
theorem PW.pt{X:Cx}{e:Expr}{t:TT}(h:PW X e t):PT X e t:=h _
noncomputable def PA(X:Cx)(es:List Expr)(t:TA):Prop:=
 ∀(pos:Pos) (pins:List (Addr×Obj)) (s:Shared) (σ:St) (H:Hp) (Q:List V->Hp->Prop),Inv X pins σ H s->t σ H Q->wpAny (model X.prog X.w) X.A (spliced (backTo pos (starEach es X.env))) (AP X pins σ Q) X.xe s
noncomputable def PS(X:Cx)(st:Stmt)(t:TS):Prop:=
 ∀(pins:List (Addr×Obj)) (s:Shared) (σ:St) (H:Hp) (D:Aw),Inv X pins σ H s->t D σ H->wpAny (model X.prog X.w) X.A (exec st X.env) (SP X pins D) X.xe s
noncomputable def PSs(X:Cx)(st:List Stmt)(t:TS):Prop:=
 ∀(pins:List (Addr×Obj)) (s:Shared) (σ:St) (H:Hp) (D:Aw),Inv X pins σ H s->t D σ H->wpAny (model X.prog X.w) X.A (execs st X.env) (SP X pins D) X.xe s
theorem thn{α:Type}{t:Sem α}{Q Q':α->Shared->Prop}{M:Model}{A:Around}{E:Value->Shared->Prop}{s:Shared}(h:wpAny M A t Q E s)(hQ:∀a s,Q a s->Q' a s):wpAny M A t Q' E s:=wpAny_mono h hQ fun _ _ x=>x
section
variable{X:Cx}
noncomputable def Jt(i:Nat):TE:=fun σ H Q=>∃v,σ[i]?=some (some v)/\Q v H
noncomputable def tC(v:V):TE:=fun _ H Q=>Q v H
theorem HM{i:Nat}{x:Str}{pos:Pos}(hN:X.N[i]?=some x)(hv:Vis X.env.scope x)(hd:(x == ("__debug__":Str))=false:=by decide)(hcd:(x == ("__classdict__":Str))=false:=by decide):PE X (.Name x pos) (Jt i):=by
 intro pins s σ H Q I h
 obtain⟨v,e,h⟩:=h
 obtain⟨m,hn,hl⟩:=I.loc
 obtain⟨u,r,l⟩:=hl i x v hN e hv
 have fin:EP X pins σ Q u s:=⟨v,H,I,r,h⟩
 rcases l with⟨hk,hm⟩|⟨hk,c,hc,hcell⟩
 ·exact wpAny_Name (wpAny_loadName_local I.ok.kind hk hn hm fin) hd
 ·rcases hk with hk|hk
  ·exact wpAny_Name (wpAny_loadName_cell I.ok.kind hk hc hcell fin) hd
  ·exact wpAny_Name (wpAny_loadName_free I.ok.kind hk hc hcell fin hcd) hd
theorem HV{i j pos}:PE X (.Constant (.int i) j pos) (tC (.int i)):=fun _ _ _ H _ I h=>wpAny_Constant_int ⟨.int i,H,I.tok _,⟨_,rfl⟩,h⟩
theorem K1{b j pos}:PE X (.Constant (.bool b) j pos) (tC (.bl b)):=fun _ _ _ H _ I h=>Constant_bool ⟨.bl b,H,I,rfl,h⟩
theorem HS{j pos}:PE X (.Constant .none j pos) (tC .non):=fun _ _ _ H _ I h=>Constant_none ⟨.non,H,I,rfl,h⟩
theorem HP{x j pos}:PE X (.Constant (.str x) j pos) (tC (.str x)):=fun _ _ _ H _ I h=>Calls.Constant_str ⟨.str x,H,I.tok _,⟨_,rfl⟩,h⟩
noncomputable def Gl(X:Cx)(x:Str):Prop:=X.env.kindOf x=some .globalImplicit
theorem ue{E:Value->Shared->Prop}{pins:List (Addr×Obj)}{s:Shared}{σ:St}{H:Hp}{x:Str}{u:Value}{pos:Pos}{Q:Value->Shared->Prop}(I:Inv X pins σ H s)(hg:Gl X x)(hm:X.mg x=some u)(h:Q u s)
  (hd:(x == ("__debug__":Str))=false:=by decide):wpAny (model X.prog X.w) X.A (eval (.Name x pos) X.env) Q E s:=
 Calls.Name_function_global I.ok.kind hg (Calls.loadGlobal_global (by rw[I.ok.glob];exact I.mod.glob.keeps I.bk) hm h) hd
theorem mH{E:Value->Shared->Prop}{pins:List (Addr×Obj)}{s:Shared}{σ:St}{H:Hp}{x:Str}{u:Value}{pos:Pos}{Q:Value->Shared->Prop}(I:Inv X pins σ H s)(hg:Gl X x)(hm:X.mg x=none)(hv:bootBuiltins x=some u)(h:Q u s)
  (hn:x≠"__name__":=by decide) (hd:(x == ("__debug__":Str))=false:=by decide):wpAny (model X.prog X.w) X.A (eval (.Name x pos) X.env) Q E s:=by
 obtain⟨mb,h1,h2⟩:=I.mod.blt
 exact Calls.Name_function_global I.ok.kind hg (Calls.loadGlobal_builtin (by rw[I.ok.glob];exact I.mod.glob.keeps I.bk) hm (by rw[I.ok.blt];exact h1.keeps I.bk) ((h2 x hn).trans hv) h) hd
theorem EO{x:Str}{v:V}{u:Value}{pos:Pos}(hg:Gl X x)(hm:X.mg x=none)(hv:bootBuiltins x=some u)(r:dj v u)(hn:x≠"__name__":=by decide)(hd:(x == ("__debug__":Str))=false:=by decide):PE X (.Name x pos) (tC v):=
 fun _ _ _ H _ I h=>mH I hg hm hv ⟨v,H,I,r,h⟩ hn hd
variable{a b:Expr}{ta tb:TE}{pos:Pos}
noncomputable def PC(X:Cx)(op:CmpOp)(a b:Expr)(t:TE):Prop:=
 ∀(pins:List (Addr×Obj)) (s:Shared) (σ:St) (H:Hp) (Q:VK),Inv X pins σ H s->t σ H Q->
  wpAny (model X.prog X.w) X.A (eval a X.env) (fun v s₁=>wpAny (model X.prog X.w) X.A (eval b X.env) (fun u s₂=>wpAny (model X.prog X.w) X.A (compareOp op v u) (EP X pins σ Q) X.xe s₂) X.xe s₁) X.xe s
noncomputable def tB(t:TE):TT:=fun σ H Q=>t σ H fun x H1=>∃c,x=.bl c/\Q c H1
theorem HX{op:CmpOp}{t:TE}(h:PC X op a b t)(h1:behindInMarks op b=false:=by first|exact nobehind _ (by decide) (by decide)|rfl):PE X (.Compare a [op] [b] pos) t:=fun pins s σ H Q I hw=>wpAny_Compare1 (h pins s σ H Q I hw) h1
theorem HD{op:CmpOp}{t:TE}(h:PC X op a b t)(h1:behindInMarks op b=false:=by first|exact nobehind _ (by decide) (by decide)|rfl):PT X (.Compare a [op] [b] pos) (tB t):=by
 intro pins s σ H Q I hw
 refine wpAny_isTrue_Compare1 (thn (h pins s σ H _ I hw) fun v s1 h1=>thn h1 fun u s2 h2=>thn h2 fun c s3 hz=>?_) h1
 obtain⟨x,H1,I1,r1,q1⟩:=hz
 obtain⟨d,rfl,q⟩:=q1
 cases r1
 exact wpAny_truthy_bool ⟨H1,I1,q⟩
theorem HB{e:Expr}{t:TE}(h:PE X e t)(he:∀whole,isTrue e X.env whole=(do let v <-whole;standAt e.pos;holding [v] (truthy v)):=by intro _;rfl):PT X e (tB t):=by
 intro pins s σ H Q I hw
 refine isTrue_plain (thn (h pins s σ H _ I hw) fun v s1 ⟨x,H1,I1,r1,q1⟩=>?_) (he _)
 obtain⟨d,rfl,q⟩:=q1
 cases r1
 exact wpAny_truthy_bool ⟨H1,I1,q⟩
variable{tA tB':TT}{rest:List Expr}
noncomputable def LR(t u:TT):TT:=fun σ H Q=>t σ H fun c H1=>if c=true then u σ H1 Q else Q false H1
noncomputable def tOr(t u:TT):TT:=fun σ H Q=>t σ H fun c H1=>if c=true then Q true H1 else u σ H1 Q
noncomputable def LM(t:TT):TT:=fun σ H Q=>t σ H fun c H1=>Q (!c) H1
theorem Ex(ha:PT X a tA):PW X (.BoolOp .And [a] pos) tA:=by
 intro wh pins s σ H Q I h
 refine isTrue_and (thn (ha pins s σ H Q I h) fun c s1 e=>?_)
 cases c with
 |true=>exact isTrue_and_nil e
 |false=>exact e
theorem Hz(ha:PT X a tA):PW X (.BoolOp .Or [a] pos) tA:=by
 intro wh pins s σ H Q I h
 refine isTrue_or (thn (ha pins s σ H Q I h) fun c s1 e=>?_)
 cases c with
 |false=>exact isTrue_or_nil e
 |true=>exact e
theorem HA(ha:PT X a tA)(hb:PW X (.BoolOp .And (b::rest) pos) tB'):PW X (.BoolOp .And (a::b::rest) pos) (LR tA tB'):=by
 intro wh pins s σ H Q I h
 refine isTrue_and (thn (ha pins s σ H _ I h) fun c s1 ⟨H1,I1,q1⟩=>?_)
 cases c with
 |true=>exact hb wh pins s1 σ H1 Q I1 q1
 |false=>exact⟨H1,I1,q1⟩
theorem KQ(ha:PT X a tA)(hb:PW X (.BoolOp .Or (b::rest) pos) tB'):PW X (.BoolOp .Or (a::b::rest) pos) (tOr tA tB'):=by
 intro wh pins s σ H Q I h
 refine isTrue_or (thn (ha pins s σ H _ I h) fun c s1 ⟨H1,I1,q1⟩=>?_)
 cases c with
 |true=>exact⟨H1,I1,q1⟩
 |false=>exact hb wh pins s1 σ H1 Q I1 q1
theorem HC(ha:PT X a tA):PT X (.UnaryOp .Not a pos) (LM tA):=by
 intro pins s σ H Q I h
 exact isTrue_not (ha pins s σ H (fun c H1=>Q (!c) H1) I h)
noncomputable def Hq(ta tb:TE):TE:=fun σ H Q=>ta σ H fun x H1=>∃c,x=.bl c/\if c=true then tb σ H1 Q else Q (.bl false) H1
noncomputable def LL(ta tb:TE):TE:=fun σ H Q=>ta σ H fun x H1=>∃c,x=.bl c/\if c=true then Q (.bl true) H1 else tb σ H1 Q
noncomputable def Hi(ta:TE):TE:=fun σ H Q=>ta σ H fun x H1=>∃c,x=.bl c/\Q (.bl (!c)) H1
theorem HQ{op}{t:TE}(h:PE X a t):PE X (.BoolOp op [a] pos) t:=fun pins s σ H Q I hw=>BoolOp_one (h pins s σ H Q I hw)
theorem HZ(ha:PE X a ta)(hb:PE X (.BoolOp .And (b::rest) pos) tb):PE X (.BoolOp .And (a::b::rest) pos) (Hq ta tb):=by
 intro pins s σ H Q I h
 refine BoolOp_and (thn (ha pins s σ H _ I h) fun v s1 hz=>?_)
 obtain⟨x,H1,I1,r1,q1⟩:=hz
 obtain⟨c,rfl,q1⟩:=q1
 cases r1
 refine wpAny_truthy_bool ?_
 cases c with
 |true=>exact hb pins s1 σ H1 Q I1 q1
 |false=>exact⟨.bl false,H1,I1,rfl,q1⟩
theorem KW(ha:PE X a ta)(hb:PE X (.BoolOp .Or (b::rest) pos) tb):PE X (.BoolOp .Or (a::b::rest) pos) (LL ta tb):=by
 intro pins s σ H Q I h
 refine BoolOp_or (thn (ha pins s σ H _ I h) fun v s1 hz=>?_)
 obtain⟨x,H1,I1,r1,q1⟩:=hz
 obtain⟨c,rfl,q1⟩:=q1
 cases r1
 refine wpAny_truthy_bool ?_
 cases c with
 |false=>exact hb pins s1 σ H1 Q I1 q1
 |true=>exact⟨.bl true,H1,I1,rfl,q1⟩
theorem HR(ha:PE X a ta):PE X (.UnaryOp .Not a pos) (Hi ta):=by
 intro pins s σ H Q I h
 refine UnaryOp_ (thn (ha pins s σ H _ I h) fun v s1 hz=>?_)
 obtain⟨x,H1,I1,r1,q1⟩:=hz
 obtain⟨c,rfl,q1⟩:=q1
 cases r1
 exact not_of (wpAny_truthy_bool ⟨.bl (!c),H1,I1,rfl,q1⟩)
end
noncomputable def SqL(K:PySem.W.Frag)(H:Hp)(a:Addr)(xs:List V):Prop:=
 Rd H a (.lst xs)\/
  ∃(o:Obj) (its:Array Value) (n:Nat),K.lookup a=some o/\o.cls=.type "list"/\o.dict=none/\o.data=.seq its n/\its.size<=sizeLine/\b8 xs its.toList
noncomputable def SqT(K:PySem.W.Frag)(H:Hp)(a:Addr)(xs:List V):Prop:=
 Rd H a (.tup xs)\/
  ∃(o:Obj) (its:Array Value) (n:Nat),K.lookup a=some o/\o.cls=.type "tuple"/\o.data=.seq its n/\its.size<=sizeLine/\b8 xs its.toList
noncomputable def MP:Value->Option V
 |.none=>some .non
 |.bool b=>some (.bl b)
 |.int i _=>some (.int i)
 |.str x _=>some (.str x)
 |.bytes b _=>some (.byt b)
 |.float b _=>some (.flt b)
 |.ref a=>some (.ref a)
 |.type n=>some (.ty n)
 |_=>none
theorem dj.abs{x:V}{u:Value}(r:dj x u):MP u=some x:=by
 cases x with
 |non=>cases r;rfl
 |bl _=>cases r;rfl
 |int _=>obtain⟨t,rfl⟩:=r;rfl
 |str _=>obtain⟨t,rfl⟩:=r;rfl
 |byt _=>obtain⟨t,rfl⟩:=r;rfl
 |flt _=>obtain⟨t,rfl⟩:=r;rfl
 |ref _=>cases r;rfl
 |ty _=>cases r;rfl
theorem dj.inj{x y:V}{u:Value}(r:dj x u)(q:dj y u):x=y:=Option.some.inj (r.abs.symm.trans q.abs)
theorem b8.inj:∀{xs ys:List V} {us:List Value},b8 xs us->b8 ys us->xs=ys
 |_,_,_,.nil,.nil=>rfl
 |_,_,_,.cons r t,.cons r' t'=>by rw[r.inj r',b8.inj t t']
section
variable{X:Cx}{pins:List (Addr×Obj)}{σ:St}{H:Hp}{s:Shared}{a:Addr}{xs ys:List V}
theorem SqL.of{K:PySem.W.Frag}(h:H a=some (.lst xs)):SqL K H a xs:=.inl (.inl h)
theorem SqT.of{K:PySem.W.Frag}(h:H a=some (.tup xs)):SqT K H a xs:=.inl (.inl h)
theorem Inv.list(I:Inv X pins σ H s)(h:SqL X.K H a xs):∃its:List Value,b8 xs its/\PlainL s.heap a its.toArray/\xs.length<=sizeLine:=by
 rcases h with h|⟨o,its,n,hk,hc,hd,hs,hz,r⟩
 ·obtain⟨z,its,n,r,e⟩:=h.ok I.hok
  exact⟨its,r,⟨_,n,e,rfl,rfl,rfl⟩,z⟩
 ·refine⟨its.toList,r,⟨o,n,I.kIn a o hk,hc,hd,by simpa using hs⟩,?_⟩
  have e:=r.length
  simp only[Array.length_toList]at e
  omega
theorem Inv.tuple(I:Inv X pins σ H s)(h:SqT X.K H a xs):∃its:List Value,b8 xs its/\IsTup s.heap a its.toArray/\xs.length<=sizeLine:=by
 rcases h with h|⟨o,its,n,hk,hc,hs,hz,r⟩
 ·obtain⟨z,its,r,p⟩:=h.ok I.hok
  exact⟨its,r,p,z⟩
 ·refine⟨its.toList,r,⟨o,I.kIn a o hk,hc,n,by simpa using hs⟩,?_⟩
  have e:=r.length
  simp only[Array.length_toList]at e
  omega
theorem Inv.list_inj(I:Inv X pins σ H s)(h:SqL X.K H a xs)(h':SqL X.K H a ys):xs=ys:=by
 obtain⟨its,r,⟨o,n,e,_,_,d⟩,_⟩:=I.list h
 obtain⟨its',r',⟨o',n',e',_,_,d'⟩,_⟩:=I.list h'
 rw[e]at e';cases e'
 rw[d]at d'
 injection d' with d1 _
 have:its=its':=by simpa using congrArg Array.toList d1
 subst this
 exact r.inj r'
theorem Inv.tuple_inj(I:Inv X pins σ H s)(h:SqT X.K H a xs)(h':SqT X.K H a ys):xs=ys:=by
 obtain⟨its,r,⟨o,e,_,n,d⟩,_⟩:=I.tuple h
 obtain⟨its',r',⟨o',e',_,n',d'⟩,_⟩:=I.tuple h'
 rw[e]at e';cases e'
 rw[d]at d'
 injection d' with d1 _
 have:its=its':=by simpa using congrArg Array.toList d1
 subst this
 exact r.inj r'
end
noncomputable abbrev Cx.wish(X:Cx)(E:Value->Shared->Prop):Cx:={ X with xe:=E }
noncomputable abbrev Cx.nox(X:Cx):Cx:=X.wish fun _ _=>False
theorem Cx.Ok.wish{X:Cx}(ok:X.Ok)(E:Value->Shared->Prop):(X.wish E).Ok:=
 ⟨ok.mod,ok.kind,ok.glob,ok.blt,ok.above,ok.inj,ok.has,ok.cab,ok.hd,ok.frames,ok.stk,ok.exf,ok.bs,ok.bsz,ok.noex,ok.exfs,ok.funs,ok.frf⟩
theorem Cx.Ok.unwish{X:Cx}{E:Value->Shared->Prop}(ok:(X.wish E).Ok):X.Ok:=
 ⟨ok.mod,ok.kind,ok.glob,ok.blt,ok.above,ok.inj,ok.has,ok.cab,ok.hd,ok.frames,ok.stk,ok.exf,ok.bs,ok.bsz,ok.noex,ok.exfs,ok.funs,ok.frf⟩
section
variable{X:Cx}{pins:List (Addr×Obj)}{σ:St}{H:Hp}{s:Shared}{E:Value->Shared->Prop}
theorem Inv.wish(I:Inv X pins σ H s)(E:Value->Shared->Prop):Inv (X.wish E) pins σ H s:=⟨I.ok.wish E,I.os,I.bare,I.base,I.loc,I.cell,I.free,I.freeC,I.pin,I.hok,I.len⟩
theorem Inv.unwish(I:Inv (X.wish E) pins σ H s):Inv X pins σ H s:=⟨I.ok.unwish,I.os,I.bare,I.base,I.loc,I.cell,I.free,I.freeC,I.pin,I.hok,I.len⟩
theorem SP.unwish{D:Aw}{f:Flow}{s':Shared}(h:SP (X.wish E) pins D f s'):SP X pins D f s':=by
 cases f with
 |next=>obtain⟨σ',H',I,q⟩:=h;exact⟨σ',H',I.unwish,q⟩
 |brk=>obtain⟨σ',H',I,q⟩:=h;exact⟨σ',H',I.unwish,q⟩
 |cont=>obtain⟨σ',H',I,q⟩:=h;exact⟨σ',H',I.unwish,q⟩
 |ret u=>obtain⟨v,σ',H',I,r,q⟩:=h;exact⟨v,σ',H',I.unwish,r,q⟩
theorem PSs.nox{st:List Stmt}{t:TS}(h:PSs X.nox st t):PSs X st t:=fun pins s σ H D I hw=>
 wpAny_mono (h pins s σ H D (I.wish _) hw) (fun _ _ q=>q.unwish) fun _ _ z=>False.elim z
end
section
variable{X:Cx}{st:Stmt}{rest:List Stmt}{t u:TS}{e:Expr}{te:TE}{pos:Pos}
noncomputable def Hj:TS:=fun D σ H=>D.nx σ H
noncomputable def LJ(t u:TS):TS:=fun D σ H=>t { D with nx:=u D } σ H
theorem EB:PSs X [] Hj:=fun _ _ σ H _ I h=>wpAny_execs_nil ⟨σ,H,I,h⟩
theorem Bj(h1:PS X st t)(h2:PSs X rest u):PSs X (st::rest) (LJ t u):=by
 intro pins s σ H D I h
 refine wpAny_execs_cons (thn (h1 pins s σ H { D with nx:=u D } I h) fun f s1 q=>?_)
 cases f with
 |next=>
  obtain⟨σ',H',I',q⟩:=q
  exact h2 pins s1 σ' H' D I' q
 |ret v=>exact q
 |brk=>exact q
 |cont=>exact q
theorem EA(h1:PS X st t):PSs X [st] t:=by
 intro pins s σ H D I h
 refine wpAny_execs_cons (thn (h1 pins s σ H D I h) fun f s1 q=>?_)
 cases f with
 |next=>exact wpAny_execs_nil q
 |ret v=>exact q
 |brk=>exact q
 |cont=>exact q
theorem Inv.quiet{pins:List (Addr×Obj)}{σ:St}{H:Hp}{s:Shared}(I:Inv X pins σ H s):interactive X.env=false:=by simp[interactive,I.ok.kind]
noncomputable def Hk(te:TE):TS:=fun D σ H=>te σ H fun _ H1=>D.nx σ H1
theorem EC(he:PE X e te)(hs:swapsWith e none pos.line X.env=pure false:=by rfl):PS X (.Expr e pos) (Hk te):=by
 intro pins s σ H D I h
 exact wpAny_Expr_any (thn (he pins s σ H _ I h) fun v s1 ⟨x,H1,I1,r1,q1⟩=>⟨σ,H1,I1,q1⟩) I.quiet hs
noncomputable def LK(te:TE):TS:=fun D σ H=>te σ H D.rt
theorem HF(he:PE X e te):PS X (.Return (some e) pos) (LK te):=by
 intro pins s σ H D I h
 exact wpAny_Return_some (thn (he pins s σ H _ I h) fun v s1 ⟨x,H1,I1,r1,q1⟩=>⟨x,σ,H1,I1,r1,q1⟩)
noncomputable def LO(c:TT)(t u:TS):TS:=fun D σ H=>c σ H fun b H1=>if b=true then t D σ H1 else u D σ H1
theorem KR{c:Expr}{a b:List Stmt}{tc:TT}(hc:PT X c tc)(ha:PSs X a t)(hb:PSs X b u):PS X (.If c a b pos) (LO tc t u):=by
 intro pins s σ H D I h
 refine wpAny_If (thn (hc pins s σ H _ I h) fun d s1 ⟨H1,I1,q1⟩=>?_)
 cases d with
 |true=>exact ha pins s1 σ H1 D I1 q1
 |false=>exact hb pins s1 σ H1 D I1 q1
end
noncomputable abbrev TG:=V->St->Hp->(St->Hp->Prop)->Prop
noncomputable abbrev TGs:=List V->St->Hp->(St->Hp->Prop)->Prop
noncomputable def PG(X:Cx)(target:Expr)(t:TG):Prop:=
 ∀(pins:List (Addr×Obj)) (s:Shared) (σ:St) (H:Hp) (v:V) (u:Value) (Q:St->Hp->Prop),Inv X pins σ H s->dj v u->t v σ H Q->
  wpAny (model X.prog X.w) X.A (assign target X.env u) (fun _ s'=>∃σ' H',Inv X pins σ' H' s'/\Q σ' H') X.xe s
noncomputable def PGs(X:Cx)(ts:List Expr)(t:TGs):Prop:=
 ∀(pins:List (Addr×Obj)) (s:Shared) (σ:St) (H:Hp) (vs:List V) (us:List Value) (Q:St->Hp->Prop),Inv X pins σ H s->b8 vs us->t vs σ H Q->
  wpAny (model X.prog X.w) X.A (assignInOrder ((assignEach ts X.env).map (·.2)) us) (fun _ s'=>∃σ' H',Inv X pins σ' H' s'/\Q σ' H') X.xe s
noncomputable abbrev JH:=V->V->V->Hp->(Hp->Prop)->Prop
noncomputable def LD(X:Cx)(t:JH):Prop:=
 ∀(pins:List (Addr×Obj)) (s:Shared) (σ:St) (H:Hp) (o i v:V) (ov iv u:Value) (Q:Hp->Prop),Inv X pins σ H s->dj o ov->dj i iv->dj v u->t o i v H Q->
  wpAny (model X.prog X.w) X.A (setItem ov iv u) (fun _ s'=>∃H',Inv X pins σ H' s'/\Q H') X.xe s
section
variable{X:Cx}{pos:Pos}
noncomputable def wU(i:Nat):TG:=fun v σ H Q=>Q (σ.set i (some v)) H
theorem EI{i:Nat}{x:Str}(hN:X.N.Nodup)(hi:X.N[i]?=some x)(hx:Loc X.env.scope x)(hf:X.fn x=true\/X.env.scope.names.lookup x=some .local:=by first|exact .inl rfl|exact .inr rfl|assumption):PG X (.Name x pos) (wU i):=by
 intro pins s σ H v u Q I r h
 exact wpAny_assign_Name (u6 I hN hi hx r (fun s' I'=>⟨_,H,I',h⟩) hf)
noncomputable def Md:TGs:=fun vs σ H Q=>vs=[]/\Q σ H
noncomputable def I0(t:TG)(u:TGs):TGs:=fun vs σ H Q=>∃v r,vs=v::r/\t v σ H fun σ' H'=>u r σ' H' Q
theorem EH:PGs X [] Md:=by
 intro pins s σ H vs us Q I r h
 obtain⟨e,h⟩:=h
 subst e
 cases r
 exact assignInOrder_nil ⟨σ,H,I,h⟩
theorem Bm{e:Expr}{es:List Expr}{t:TG}{u:TGs}(h1:PG X e t)(h2:PGs X es u)
  (hs:(assignEach (e::es) X.env).map (·.2)=assign e X.env::(assignEach es X.env).map (·.2):=by rfl):PGs X (e::es) (I0 t u):=by
 intro pins s σ H vs us Q I r h
 obtain⟨v,vr,e1,h⟩:=h
 subst e1
 cases r with
 |cons r rr=>
  rw[hs]
  refine assignInOrder_cons (thn (h1 pins s σ H _ _ _ I r h) fun _ s1 hz=>?_)
  obtain⟨σ1,H1,I1,q1⟩:=hz
  exact h2 pins s1 σ1 H1 _ _ Q I1 rr q1
noncomputable def Mb(K:PySem.W.Frag)(n:Nat)(t:TGs):TG:=fun v σ H Q=>∃a xs,v=.ref a/\SqT K H a xs/\xs.length=n/\t xs σ H Q
theorem HK{es:List Expr}{k:Nat}{t:TGs}{n:Nat}(hc:X.calm=true)(h:PGs X es t)
  (hn:(assignEach es X.env).length=n:=by rfl) (hst:(assignEach es X.env).findIdx? (·.1)=none:=by rfl):PG X (.Tuple es k pos) (Mb X.K n t):=by
 intro pins s σ H v u Q I r hw
 obtain⟨a,xs,e1,hq,hl,hw⟩:=hw
 subst e1
 cases r
 obtain⟨its,rv,ht,hz⟩:=I.tuple hq
 refine assign_Tuple_tuple (I.ok.hd hc) ht (by simp[hn,<-hl,rv.length]) hst fun h' hx=>?_
 have I1:Inv X pins σ H { s with heap:=h' }:=I.kept (t':=s.toks) fun b o e=>hx b o (Nat.ne_of_lt (Heap.lt_size e)) e
 exact h pins _ σ H xs _ Q I1 (by simpa using rv) hw
noncomputable def Mc(to ti:TE)(t:JH):TG:=fun v σ H Q=>to σ H fun o H1=>ti σ H1 fun i H2=>t o i v H2 fun H3=>Q σ H3
theorem HL{o i:Expr}{to ti:TE}{t:JH}(ho:PE X o to)(hi:PE X i ti)(hs:LD X t)
  (ha:∀v,assign (.Subscript o i pos) X.env v=(do
   let ov <-holding [v] (eval o X.env)
   let iv <-holding [v,ov] (eval i X.env)
   standAt pos
   holding [v,ov,iv] (setItem ov iv v)
   release [v,ov,iv] []):=by intro _;rfl):PG X (.Subscript o i pos) (Mc to ti t):=by
 intro pins s σ H v u Q I r h
 rw[ha]
 refine wpAny_bind (wpAny_holding (thn (ho pins s σ H _ I h) fun ov s1 hz=>?_))
 obtain⟨x,H1,I1,r1,q1⟩:=hz
 refine wpAny_bind (wpAny_holding (thn (hi pins s1 σ H1 _ I1 q1) fun iv s2 hz=>?_))
 obtain⟨y,H2,I2,r2,q2⟩:=hz
 refine wpAny_bind (wpAny_standAt (wpAny_bind (wpAny_holding (thn (hs pins s2 σ H2 x y v ov iv u _ I2 r1 r2 r q2) fun _ s3 ⟨H3,I3,q3⟩=>?_))))
 exact wpAny_release ⟨σ,H3,I3,q3⟩
noncomputable def Ho(te:TE)(g:TG):TS:=fun D σ H=>te σ H fun x H1=>g x σ H1 D.nx
theorem HI{tg e:Expr}{te:TE}{g:TG}(he:PE X e te)(hg:PG X tg g)(hs:swapsWithSole [tg] e pos.line X.env=pure false:=by rfl)(hw:swappedStores [tg] e X.env=pure none:=by rfl)
  (h1:(assignEach [tg] X.env).map (·.2)=[assign tg X.env]:=by rfl):PS X (.Assign [tg] e pos) (Ho te g):=by
 intro pins s σ H D I h
 refine wpAny_Assign_stores (thn (he pins s σ H _ I h) fun v s1 hz=>?_) hs hw
 obtain⟨x,H1,I1,r1,q1⟩:=hz
 rw[h1]
 exact thn (hg pins s1 σ H1 x v _ I1 r1 q1) fun _ s2 q=>q
theorem HE{i:Nat}{x:Str}{e:Expr}{te:TE}{pos':Pos}(hN:X.N.Nodup)(hi:X.N[i]?=some x)(hx:Loc X.env.scope x)(he:PE X e te)(hs:swapsWith e (some (.Name x pos')) pos.line X.env=pure false:=by rfl)(hf:X.fn x=true\/X.env.scope.names.lookup x=some .local:=by first|exact .inl rfl|exact .inr rfl|assumption) :
  PS X (.Assign [.Name x pos'] e pos) (Ho te (wU i)):=by
 intro pins s σ H D I h
 refine wpAny_Assign_Name (thn (he pins s σ H _ I h) fun v s1 hz=>?_) hs
 obtain⟨y,H1,I1,r1,q1⟩:=hz
 exact u6 I1 hN hi hx r1 (fun s2 I2=>⟨_,H1,I2,q1⟩) hf
end
section
variable{X:Cx}{pos:Pos}
noncomputable def xP(c:TT)(tb:TS):TS:=fun D σ H=>∃W:Nat->St->Hp->Prop,(∃m,W m σ H)/\∀m σ H,W m σ H->
 c σ H fun b H1=>if b=true then ∃N:St->Hp->Prop,(∀σ' H',N σ' H'->∃m',m'<m/\W m' σ' H')/\tb { D with nx:=N,ct:=N,bk:=D.nx } σ H1 else D.nx σ H1
theorem Bk{c:Expr}{body:List Stmt}{tc:TT}{tb:TS}(hp:PassesOwn (model X.prog X.w) X.A X.env X.xe)(hc:PT X c tc)(hb:PSs X body tb):PS X (.While c body [] pos) (xP tc tb):=by
 intro pins s σ H D I h
 obtain⟨W,⟨m0,w0⟩,turn⟩:=h
 refine wpAny_While (codeAny_whileLoop (fun n s'=>∃σ' H',Inv X pins σ' H' s'/\W n σ' H') ?_ m0 ⟨σ,H,I,w0⟩)
 rintro n s1 ⟨σ1,H1,I1,w1⟩
 refine wpAny_passesOwn hp (thn (hc pins s1 σ1 H1 _ I1 (turn n σ1 H1 w1)) fun b s2 ⟨H2,I2,q2⟩=>?_)
 cases b with
 |true=>
  obtain⟨N,hN,q2⟩:=q2
  rw[if_pos rfl]
  refine wpAny_passesOwn hp (thn (hb pins s2 σ1 H2 _ I2 q2) fun f s3 q3=>?_)
  cases f with
  |next=>
   obtain⟨σ3,H3,I3,n3⟩:=q3
   obtain⟨m',hm,w3⟩:=hN σ3 H3 n3
   exact⟨m',hm,σ3,H3,I3,w3⟩
  |cont=>
   obtain⟨σ3,H3,I3,n3⟩:=q3
   obtain⟨m',hm,w3⟩:=hN σ3 H3 n3
   exact⟨m',hm,σ3,H3,I3,w3⟩
  |brk=>exact q3
  |ret v=>exact q3
 |false=>
  rw[if_neg Bool.false_ne_true]
  exact wpAny_execs_nil ⟨σ1,H2,I2,q2⟩
end
structure It where
 go:Nat->Hp->Prop
 yld:Nat->Hp->V->Hp->Prop
 stop:Nat->Hp->Prop
noncomputable def xi(X:Cx)(pins:List (Addr×Obj))(H:Hp)(b:Addr):Prop:=
 H b=none/\b≠X.env.locals/\b∉X.fs/\(b∈X.ex\/X.s₀.heap.objs.size<=b)/\(∀x c,X.env.cells.lookup x=some c->c≠b)/\∀p∈X.pn++pins,p.1≠b
theorem Inv.fpOk{X:Cx}{pins:List (Addr×Obj)}{σ:St}{H H':Hp}{s:Shared}{b:Addr}(I:Inv X pins σ H s)(hb:s.heap.objs.size<=b)(hn:H' b=none):xi X pins H' b:=by
 refine⟨hn,Nat.ne_of_gt (Nat.lt_of_lt_of_le I.lt hb),I.nofs hb,.inr (Nat.le_trans I.sz hb),fun x c e z=>?_,fun p hp z=>?_⟩
 ·obtain⟨v,q⟩:=I.cell x c e
  exact absurd (Nat.lt_of_lt_of_le q.lt (by rw[z];exact hb)) (Nat.lt_irrefl _)
 ·exact absurd (Nat.lt_of_lt_of_le (Heap.lt_size (I.pin p hp).1) (by rw[z];exact hb)) (Nat.lt_irrefl _)
structure Dx(P:Program)(w:World)(K:PySem.W.Frag)(tg:Expr)(J:It)(fp:List Addr)(it:Addr)(tn:Nat->Heap->Prop):Prop where
 mem:it∈fp
 obj:∀i h,tn i h->∀b∈fp,∃o,h.get? b=some o/\∀v,o.data≠.cell v
 keep:∀i h h',tn i h->(∀b∈fp,∀o,h.get? b=some o->h'.get? b=some o)->tn i h'
 item:∀(X:Cx),X.prog=P->X.w=w->X.K=K->X.calm=true->∀(i:Nat) (pins:List (Addr×Obj)) (s:Shared) (σ:St) (H:Hp) (E:Value->Shared->Prop),Inv X pins σ H s->(∀b∈fp,xi X pins H b)->tn i s.heap->J.go i H->
  wpAny (model P w) X.A (pyNext (.ref it)) (fun r s1=>∃u,r=some u/\
   wpAny (model P w) X.A (letOwnedTupleGo tg (.ref it) u) (fun _ s2=>∃x H',Inv X pins σ H' s2/\dj x u/\J.yld i H x H'/\tn (i+1) s2.heap/\∀b∈fp,H' b=none) E s1) E s
 done:∀(X:Cx),X.prog=P->X.w=w->X.K=K->X.calm=true->∀(i:Nat) (pins:List (Addr×Obj)) (s:Shared) (σ:St) (H:Hp) (E:Value->Shared->Prop),Inv X pins σ H s->(∀b∈fp,xi X pins H b)->tn i s.heap->J.stop i H->
  wpAny (model P w) X.A (pyNext (.ref it)) (fun r s1=>r=none/\Inv X pins σ H s1) E s
 self:∀(A:Around) (i:Nat) (s:Shared) (Q:Value->Shared->Prop) (E:Value->Shared->Prop),tn i s.heap->Q (.ref it) s->wpAny (model P w) A (pyIter (.ref it)) Q E s
noncomputable abbrev TI:=St->Hp->(It->Hp->Prop)->Prop
noncomputable def PIE(X:Cx)(pins:List (Addr×Obj))(σ:St)(tg:Expr)(R:It->Hp->Prop)(itv:Value)(s2:Shared):Prop:=
 ∃(it:Addr) (fp:List Addr) (tn:Nat->Heap->Prop) (J:It) (H':Hp),itv=.ref it/\Inv X pins σ H' s2/\Dx X.prog X.w X.K tg J fp it tn/\tn 0 s2.heap/\(∀b∈fp,xi X pins H' b)/\R J H'
noncomputable def PI(X:Cx)(tg iter:Expr)(wi:TI):Prop:=
 ∀(pins:List (Addr×Obj)) (s:Shared) (σ:St) (H:Hp) (R:It->Hp->Prop),Inv X pins σ H s->wi σ H R->
  wpAny (model X.prog X.w) X.A (eval iter X.env) (fun v s1=>wpAny (model X.prog X.w) X.A (pyIter v) (PIE X pins σ tg R) X.xe s1) X.xe s
theorem ze {M : Model} {A : Around} {E : Value -> Shared -> Prop} {s : Shared} {tg : Expr} {it : Addr} {u : Value} {o : Obj} {n : String} {vs : Array Value} {Q : Unit -> Shared -> Prop} (ho : s.heap.get? it = some o) (hc : o.cls = .type n) (hd : o.data = .fields vs)
    (hn:["enumerate","zip","dict_itemiterator","dict_reverseitemiterator","odict_iterator","itertools.zip_longest","itertools.pairwise"].contains n=false) (hQ:Q () s):wpAny M A (letOwnedTupleGo tg (.ref it) u) Q E s:=by
  unfold letOwnedTupleGo
  cases tg<;>first
    |exact wpAny_pure hQ
    | (cases u <;> first
        |exact wpAny_pure hQ
        | (refine wpAny_bind (wpAny_load ho ?_)
           rw[hc,hd]
           show wpAny M A (if (["enumerate","zip","dict_itemiterator","dict_reverseitemiterator","odict_iterator","itertools.zip_longest","itertools.pairwise"].contains n&&vs[0]? == some (rawInt _))=true then _ else _) Q E s
           rw[if_neg (by intro h;rw[hn,Bool.false_and]at h;cases h)]
           exact wpAny_pure hQ))
noncomputable def Itl(K:PySem.W.Frag)(a:Addr):It:=
 ⟨fun i H=>∃xs x,SqL K H a xs/\xs[i]?=some x,fun i H x H'=>H'=H/\∀xs,SqL K H a xs->xs[i]?=some x,fun i H=>∃xs,SqL K H a xs/\xs.length<=i⟩
noncomputable def Itt(K:PySem.W.Frag)(a:Addr):It:=
 ⟨fun i H=>∃xs x,SqT K H a xs/\xs[i]?=some x,fun i H x H'=>H'=H/\∀xs,SqT K H a xs->xs[i]?=some x,fun i H=>∃xs,SqT K H a xs/\xs.length<=i⟩
noncomputable def Itr(lo:Int)(n:Nat):It:=⟨fun i _=>i<n,fun i H x H'=>H'=H/\x=.int (lo+i),fun i _=>n<=i⟩
theorem xJ{P:Program}{w:World}{K:PySem.W.Frag}{tg:Expr}(a it:Addr):Dx P w K tg (Itl K a) [it] it (fun i h=>h.IsListIter it a i) where
 mem:=by simp
 obj:=fun i h st b hb=>by
  have e:b=it:=by simpa using hb
  subst e
  obtain⟨o,e,c,d⟩:=st
  exact⟨o,e,fun v z=>by rw[d]at z;cases z⟩
 keep:=fun i h h' st k=>st.at fun o e=>k it (by simp) o e
 item:=by
  intro X hP hw hK hc i pins s σ H E I hf st hg
  subst hP hw hK
  obtain⟨xs,x,hq,hx⟩:=hg
  obtain⟨its,rv,p,hz⟩:=I.list hq
  obtain⟨u,hu,ru⟩:=rv.get hx
  obtain⟨f0,f1,f2,f3,f4,f5⟩:=hf it (by simp)
  refine wpAny_pyNext_list_item st p.isList (x:=u) (by simpa using hu) fun h' st' sb=>?_
  have I1:Inv X pins σ H { s with heap:=h' }:=I.turned (t':=s.toks) (fun b o hb e=>(sb.2 b hb).trans e) f0 f1 f3 f4 f5
  obtain⟨o,e,c,d⟩:=id st'
  exact⟨u,rfl,ze (s:={ s with heap:=h' }) e c d (by decide) ⟨x,H,I1,ru,⟨rfl,fun ys hy=>by rw[I.list_inj hy hq];exact hx⟩,st',fun b hb=>(hf b hb).1⟩⟩
 done:=by
  intro X hP hw hK hc i pins s σ H E I hf st hg
  subst hP hw hK
  obtain⟨xs,hq,hx⟩:=hg
  obtain⟨its,rv,p,hz⟩:=I.list hq
  obtain⟨f0,f1,f2,f3,f4,f5⟩:=hf it (by simp)
  have hl:=rv.length
  exact wpAny_pyNext_list_end (I.ok.hd hc) st p.isList (by simp;omega) fun h' eb=>⟨rfl,I.turned (t':=s.toks) (fun b o hb e=>eb b o hb e) f0 f1 f3 f4 f5⟩
 self:=fun _ _ _ _ _ st h=>wpAny_pyIter_listiter st h
theorem we{P:Program}{w:World}{K:PySem.W.Frag}{tg:Expr}(a it:Addr):Dx P w K tg (Itt K a) [it] it (fun i h=>h.IsTupleIter it a i) where
 mem:=by simp
 obj:=fun i h st b hb=>by
  have e:b=it:=by simpa using hb
  subst e
  obtain⟨o,e,c,d⟩:=st
  exact⟨o,e,fun v z=>by rw[d]at z;cases z⟩
 keep:=fun i h h' st k=>st.at fun o e=>k it (by simp) o e
 item:=by
  intro X hP hw hK hc i pins s σ H E I hf st hg
  subst hP hw hK
  obtain⟨xs,x,hq,hx⟩:=hg
  obtain⟨its,rv,p,hz⟩:=I.tuple hq
  obtain⟨u,hu,ru⟩:=rv.get hx
  obtain⟨f0,f1,f2,f3,f4,f5⟩:=hf it (by simp)
  refine wpAny_pyNext_tuple_item st (show s.heap.IsTuple a its.toArray from p) (x:=u) (by simpa using hu) fun h' st' sb=>?_
  have I1:Inv X pins σ H { s with heap:=h' }:=I.turned (t':=s.toks) (fun b o hb e=>(sb.2 b hb).trans e) f0 f1 f3 f4 f5
  obtain⟨o,e,c,d⟩:=id st'
  exact⟨u,rfl,ze (s:={ s with heap:=h' }) e c d (by decide) ⟨x,H,I1,ru,⟨rfl,fun ys hy=>by rw[I.tuple_inj hy hq];exact hx⟩,st',fun b hb=>(hf b hb).1⟩⟩
 done:=by
  intro X hP hw hK hc i pins s σ H E I hf st hg
  subst hP hw hK
  obtain⟨xs,hq,hx⟩:=hg
  obtain⟨its,rv,p,hz⟩:=I.tuple hq
  obtain⟨f0,f1,f2,f3,f4,f5⟩:=hf it (by simp)
  have hl:=rv.length
  exact wpAny_pyNext_tuple_end (I.ok.hd hc) st (show s.heap.IsTuple a its.toArray from p) (by simp;omega) fun h' eb=>⟨rfl,I.turned (t':=s.toks) (fun b o hb e=>eb b o hb e) f0 f1 f3 f4 f5⟩
 self:=fun _ _ _ _ _ st h=>wpAny_pyIter_tupleiter st h
theorem wg{P:Program}{w:World}{K:PySem.W.Frag}{tg:Expr}(it:Addr)(lo:Int)(n:Nat):Dx P w K tg (Itr lo n) [it] it (fun i h=>IsRangeIter h it (lo+(i:Nat)*1) ((n:Int)-(i:Nat)) 1) where
 mem:=by simp
 obj:=fun i h st b hb=>by
  have e:b=it:=by simpa using hb
  subst e
  exact⟨_,st,fun v z=>by
   have z':Data.fields _=Data.cell v:=z
   cases z'⟩
 keep:=fun i h h' st k=>k it (by simp) _ st
 item:=by
  intro X hP hw hK hc i pins s σ H E I hf st hg
  subst hP hw hK
  obtain⟨f0,f1,f2,f3,f4,f5⟩:=hf it (by simp)
  have W:=Walks.range (prog:=X.prog) (w:=X.w) (I.ok.hd hc) it lo 1 n
  refine W.item i s _ _ hg st fun v h' tk hv st' kk=>?_
  obtain⟨t,rfl⟩:=hv
  have I1:Inv X pins σ H { s with heap:=h',toks:=tk }:=I.turned (fun b o hb e=>kk b o (by simpa using hb) e) f0 f1 f3 f4 f5
  refine⟨_,rfl,ze (s:={ s with heap:=h',toks:=tk }) (n:="range_iterator") st' rfl rfl (by decide) ⟨.int (lo+i),H,I1,⟨t,?_⟩,⟨rfl,rfl⟩,st',fun b hb=>(hf b hb).1⟩⟩
  rw[Int.mul_one]
 done:=by
  intro X hP hw hK hc i pins s σ H E I hf st hg
  subst hP hw hK
  obtain⟨f0,f1,f2,f3,f4,f5⟩:=hf it (by simp)
  exact wpAny_pyNext_range_end (I.ok.hd hc) st (by have:n<=i:=hg;omega) fun h' eb=>⟨rfl,I.turned (t':=s.toks) (fun b o hb e=>eb b o hb e) f0 f1 f3 f4 f5⟩
 self:=fun _ _ _ _ _ st h=>wpAny_pyIter_rangeiter st h
section
variable{X:Cx}{tg:Expr}
noncomputable def IW(K:PySem.W.Frag)(tl:TE):TI:=fun σ H R=>tl σ H fun x H1=>∃a,x=.ref a/\(∃xs,SqL K H1 a xs)/\R (Itl K a) H1
noncomputable def Ma(K:PySem.W.Frag)(tl:TE):TI:=fun σ H R=>tl σ H fun x H1=>∃a,x=.ref a/\(∃xs,SqT K H1 a xs)/\R (Itt K a) H1
theorem EG{l:Expr}{tl:TE}(hl:PE X l tl):PI X tg l (IW X.K tl):=by
 intro pins s σ H R I h
 refine thn (hl pins s σ H _ I h) fun v s1 hz=>?_
 obtain⟨x,H1,I1,r1,q1⟩:=hz
 obtain⟨a,e,⟨xs,hq⟩,q⟩:=q1
 subst e
 cases r1
 obtain⟨its,rv,p,hz⟩:=I1.list hq
 refine wpAny_pyIter_list p.isList ?_
 refine⟨s1.heap.objs.size,[s1.heap.objs.size],_,_,H1,rfl,I1.kept (t':=s1.toks) fun b o e=>Heap.get?_push_of_some _ e,xJ a _,⟨_,Heap.get?_push_size _ rfl,rfl,rfl⟩,fun b hb=>?_,q⟩
 have e:b=s1.heap.objs.size:=by simpa using hb
 subst e
 exact I1.fpOk (Nat.le_refl _) (I1.hok.fresh (Nat.le_refl _))
theorem HJ{l:Expr}{tl:TE}(hl:PE X l tl):PI X tg l (Ma X.K tl):=by
 intro pins s σ H R I h
 refine thn (hl pins s σ H _ I h) fun v s1 hz=>?_
 obtain⟨x,H1,I1,r1,q1⟩:=hz
 obtain⟨a,e,⟨xs,hq⟩,q⟩:=q1
 subst e
 cases r1
 obtain⟨its,rv,p,hz⟩:=I1.tuple hq
 refine wpAny_pyIter_tuple (show s1.heap.IsTuple a its.toArray from p) ?_
 refine⟨s1.heap.objs.size,[s1.heap.objs.size],_,_,H1,rfl,I1.kept (t':=s1.toks) fun b o e=>Heap.get?_push_of_some _ e,we a _,⟨_,Heap.get?_push_size _ rfl,rfl,rfl⟩,fun b hb=>?_,q⟩
 have e:b=s1.heap.objs.size:=by simpa using hb
 subst e
 exact I1.fpOk (Nat.le_refl _) (I1.hok.fresh (Nat.le_refl _))
theorem Ba{pins:List (Addr×Obj)}{σ:St}{H:Hp}{s:Shared}{R:It->Hp->Prop}{E:Value->Shared->Prop}{lo hi:Int}{t u v:Tok}{tk:Nat}(I:Inv X pins σ H s)(h1:-(2^62)<=lo)(h2:lo<2^62)(h3:-(2^62)<=hi)(h4:hi<2^62)
  (q:R (Itr lo (hi-lo).toNat) H):wpAny (model X.prog X.w) X.A (pyIter (.ref s.heap.objs.size)) (PIE X pins σ tg R) E { s with heap:=s.heap.push { cls:=.type "range",data:=.fields #[.int lo t,.int hi u,.int 1 v] },toks:=tk }:=by
 refine wpAny_pyIter_range (IsRange.new ..) (small_one h1 h2 h3 h4) ?_
 have I1:Inv X pins σ H { s with heap:=s.heap.push { cls:=.type "range",data:=.fields #[.int lo t,.int hi u,.int 1 v] },toks:=tk }:=I.kept fun b o e=>Heap.get?_push_of_some _ e
 refine⟨(s.heap.push { cls:=.type "range",data:=.fields #[.int lo t,.int hi u,.int 1 v] }).objs.size,[(s.heap.push { cls:=.type "range",data:=.fields #[.int lo t,.int hi u,.int 1 v] }).objs.size],_,_,H,rfl,
  I1.kept (t':=tk) fun b o e=>Heap.get?_push_of_some _ e,wg _ lo (hi-lo).toNat,?_,fun b hb=>?_,q⟩
 ·have e1:lo+((0:Nat):Int)*1=lo:=by simp
  have e2:(((hi-lo).toNat:Nat):Int)-((0:Nat):Int)=Builtin.Range.rangeSize lo hi 1:=by rw[rangeSize_one];split<;>omega
  show IsRangeIter _ _ (lo+((0:Nat):Int)*1) ((((hi-lo).toNat:Nat):Int)-((0:Nat):Int)) 1
  rw[e1,e2]
  exact Heap.get?_push_size _ rfl
 ·have e:b=(s.heap.push { cls:=.type "range",data:=.fields #[.int lo t,.int hi u,.int 1 v] }).objs.size:=by simpa using hb
  subst e
  exact I1.fpOk (Nat.le_refl _) (I1.hok.fresh (Nat.le_refl _))
noncomputable def IV(ta:TA):TI:=fun σ H R=>ta σ H fun vs H1=>∃j:Int,vs=[.int j]/\-(2^62)<=j/\j<2^62/\R (Itr 0 j.toNat) H1
theorem yq{a:Expr}{ta:TA}{p pos:Pos}(hg:Gl X "range")(hm:X.mg "range"=none)(ha:PA X [a] ta)(hs:starEach [a] X.env=[(false,eval a X.env)]:=by rfl):PI X tg (.Call (.Name "range" p) [a] [] pos) (IV ta):=by
 intro pins s σ H R I h
 refine Call_ (mH I hg hm boot_range (PyProof.Rows.callWith_type1 (thn (ha pos pins s σ H _ I h) fun us s1 ⟨vs,H1,I1,r1,q1⟩=>?_) hs rfl))
 obtain⟨j,e,q1,q2,q⟩:=q1
 subst e
 cases r1 with
 |cons r rr=>
  cases rr
  obtain⟨t,rfl⟩:=r
  exact call_range_1 (Ba I1 (by omega) (by omega) q1 q2 (by simpa using q))
noncomputable def Jv(wi:TI)(g:TG)(tb:TS):TS:=fun D σ H=>wi σ H fun J H1=>∃W:Nat->Nat->St->Hp->Prop,(∃m,W 0 m σ H1)/\∀i m σ H,W i m σ H->
 (J.stop i H/\D.nx σ H)\/(J.go i H/\∃N:St->Hp->Prop,(∀σ' H',N σ' H'->∃m',m'<m/\W (i+1) m' σ' H')/\∀x H',J.yld i H x H'->g x σ H' fun σ2 H2=>tb { D with nx:=N,ct:=N,bk:=D.nx } σ2 H2)
noncomputable def vh(fp:List Addr)(h:Heap):List (Addr×Obj):=fp.filterMap fun b=>(h.get? b).map fun o=>(b,o)
theorem gm{fp:List Addr}{h:Heap}{b:Addr}{o:Obj}(hb:b∈fp)(e:h.get? b=some o):(b,o)∈vh fp h:=List.mem_filterMap.mpr ⟨b,hb,by rw[e];rfl⟩
theorem yz{fp:List Addr}{h:Heap}{p:Addr×Obj}(hp:p∈vh fp h):p.1∈fp/\h.get? p.1=some p.2:=by
 obtain⟨b,hb,e⟩:=List.mem_filterMap.mp hp
 cases q:h.get? b with
 |none=>rw[q]at e;cases e
 |some o=>
  rw[q]at e
  have e':(b,o)=p:=Option.some.inj e
  subst e'
  exact⟨hb,q⟩
theorem Inv.pinned{pins:List (Addr×Obj)}{σ:St}{H:Hp}{s:Shared}{fp:List Addr}(I:Inv X pins σ H s)(hf:∀b∈fp,xi X pins H b)(ho:∀b∈fp,∃o,s.heap.get? b=some o/\∀v,o.data≠.cell v):Inv X (pins++vh fp s.heap) σ H s:=
 I.pins_of fun p hp=>(List.mem_append.mp hp).elim (fun z=>I.pin p (List.mem_append_right _ z)) fun z=>by
  obtain⟨hb,e⟩:=yz z
  obtain⟨f0,f1,f2,_⟩:=hf p.1 hb
  obtain⟨o,e',d⟩:=ho p.1 hb
  rw[e]at e';cases e'
  exact⟨e,f0,f1,f2,d⟩
theorem Inv.unpinned{pins pl:List (Addr×Obj)}{σ:St}{H:Hp}{s:Shared}(I:Inv X (pins++pl) σ H s):Inv X pins σ H s:=I.pins_of fun p hp=>I.pin p (List.mem_append_right _ (List.mem_append_left _ hp))
theorem HG{iter:Expr}{body:List Stmt}{wi:TI}{g:TG}{tb:TS}{pos:Pos}(hp:PassesOwn (model X.prog X.w) X.A X.env X.xe)(hc:X.calm=true)(hi:PI X tg iter wi)(hg:PG X tg g)(hb:PSs X body tb)
  (hs:∀x,foldedSetIterable iter X.env x=pure x:=by intro _;rfl):PS X (.For tg iter body [] pos) (Jv wi g tb):=by
 intro pins s σ H D I h
 refine wpAny_For (thn (hi pins s σ H _ I h) fun v s1 h1=>thn h1 fun itv s2 h2=>?_) hs
 obtain⟨it,fp,tn,J,H2,e,I2,T,st2,f2,W,⟨m0,w0⟩,turn⟩:=h2
 subst e
 have stat:∀{H':Hp},(∀b∈fp,H' b=none)->∀b∈fp,xi X pins H' b:=fun hn b hb=>⟨hn b hb,(f2 b hb).2⟩
 refine codeAny_forLoop_any (fun n s'=>∃i σ' H',Inv X pins σ' H' s'/\tn i s'.heap/\(∀b∈fp,H' b=none)/\W i n σ' H') ?_ m0 ⟨0,σ,H2,I2,st2,fun b hb=>(f2 b hb).1,w0⟩
 rintro n s3 ⟨i,σ3,H3,I3,st3,fr3,w3⟩
 rcases turn i n σ3 H3 w3 with⟨stop,qn⟩|⟨go,N,hN,step⟩
 ·refine wpAny_passesOwn hp (thn (T.done X rfl rfl rfl hc i pins s3 σ3 H3 X.xe I3 (stat fr3) st3 stop) fun r s4 ⟨hr,I4⟩=>?_)
  subst hr
  exact wpAny_execs_nil ⟨σ3,H3,I4,qn⟩
 ·refine wpAny_passesOwn hp (thn (T.item X rfl rfl rfl hc i pins s3 σ3 H3 X.xe I3 (stat fr3) st3 go) fun r s4 ⟨u,hr,h4⟩=>?_)
  subst hr
  refine wpAny_passesOwn hp (thn h4 fun _ s5 hz=>?_)
  obtain⟨x,H5,I5,r5,y5,st5,fr5⟩:=hz
  have I5':=I5.pinned (stat fr5) (T.obj _ _ st5)
  refine wpAny_passesOwn hp (thn (hg _ s5 σ3 H5 x u _ I5' r5 (step x H5 y5)) fun _ s6 hz=>?_)
  obtain⟨σ6,H6,I6,q6⟩:=hz
  refine wpAny_passesOwn hp (thn (hb _ s6 σ6 H6 _ I6 q6) fun f s7 q7=>?_)
  have again:∀{σ7:St} {H7:Hp},Inv X (pins++vh fp s5.heap) σ7 H7 s7->N σ7 H7->∃m,m<n/\∃i σ' H',Inv X pins σ' H' s7/\tn i s7.heap/\(∀b∈fp,H' b=none)/\W i m σ' H':=fun{σ7 H7} I7 n7=>by
   obtain⟨m',hm,w7⟩:=hN σ7 H7 n7
   refine⟨m',hm,i+1,σ7,H7,I7.unpinned,T.keep _ _ _ st5 fun b hb o e=>(I7.pin (b,o) (List.mem_append_right _ (List.mem_append_right _ (gm hb e)))).1,fun b hb=>?_,w7⟩
   obtain⟨o,e,d⟩:=T.obj _ _ st5 b hb
   exact(I7.pin (b,o) (List.mem_append_right _ (List.mem_append_right _ (gm hb e)))).2.1
  cases f with
  |next=>obtain⟨σ7,H7,I7,n7⟩:=q7;exact again I7 n7
  |cont=>obtain⟨σ7,H7,I7,n7⟩:=q7;exact again I7 n7
  |brk=>obtain⟨σ7,H7,I7,q7⟩:=q7;exact⟨σ7,H7,I7.unpinned,q7⟩
  |ret v=>obtain⟨x7,σ7,H7,I7,r7,q7⟩:=q7;exact⟨x7,σ7,H7,I7.unpinned,r7,q7⟩
end
noncomputable abbrev R2:=V->V->Hp->VK->Prop
noncomputable def OpR(X:Cx)(f:Value->Value->Sem Value)(r:R2):Prop:=
 ∀(pins:List (Addr×Obj)) (s:Shared) (σ:St) (H:Hp) (x y:V) (v u:Value) (Q:VK),Inv X pins σ H s->dj x v->dj y u->r x y H Q->
  wpAny (model X.prog X.w) X.A (f v u) (EP X pins σ Q) X.xe s
noncomputable def UnR(X:Cx)(f:Value->Sem Value)(r:V->Hp->VK->Prop):Prop:=
 ∀(pins:List (Addr×Obj)) (s:Shared) (σ:St) (H:Hp) (x:V) (v:Value) (Q:VK),Inv X pins σ H s->dj x v->r x H Q->
  wpAny (model X.prog X.w) X.A (f v) (EP X pins σ Q) X.xe s
noncomputable def iV(X:Cx)(f:Value)(r:List V->Hp->VK->Prop):Prop:=
 ∀(pins:List (Addr×Obj)) (s:Shared) (σ:St) (H:Hp) (xs:List V) (us:List Value) (Q:VK),Inv X pins σ H s->b8 xs us->r xs H Q->
  wpAny (model X.prog X.w) X.A (call f us) (EP X pins σ Q) X.xe s
noncomputable def tOp(r:R2)(ta tb:TE):TE:=fun σ H Q=>ta σ H fun x H1=>tb σ H1 fun y H2=>r x y H2 Q
noncomputable def tUn(r:V->Hp->VK->Prop)(ta:TE):TE:=fun σ H Q=>ta σ H fun x H1=>r x H1 Q
noncomputable def rI(C:Int->Int->Prop)(g:Int->Int->V):R2:=fun x y H Q=>∃i j,x=.int i/\y=.int j/\C i j/\Q (g i j) H
noncomputable def rI0(g:Int->Int->V):R2:=fun x y H Q=>∃i j,x=.int i/\y=.int j/\Q (g i j) H
noncomputable def rU(g:Int->V):V->Hp->VK->Prop:=fun x H Q=>∃i,x=.int i/\Q (g i) H
section
variable{X:Cx}{a b c:Expr}{ta tb tc:TE}{pos:Pos}
theorem Lx(ha:PE X a ta)(hb:PE X b tb){pins:List (Addr×Obj)}{s:Shared}{σ:St}{H:Hp}{R:V->V->Hp->Prop}(I:Inv X pins σ H s)
  (h:ta σ H fun x H1=>tb σ H1 fun y H2=>R x y H2) {Q:Value->Shared->Prop} {f:Value->Value->Sem Value}
  (hf:∀v u s2 x y H2,Inv X pins σ H2 s2->dj x v->dj y u->R x y H2->wpAny (model X.prog X.w) X.A (f v u) Q X.xe s2) :
  wpAny (model X.prog X.w) X.A (eval a X.env) (fun v s₁=>wpAny (model X.prog X.w) X.A (eval b X.env) (fun u s₂=>wpAny (model X.prog X.w) X.A (f v u) Q X.xe s₂) X.xe s₁) X.xe s:=by
 refine thn (ha pins s σ H _ I h) fun v s1 hz=>?_
 obtain⟨x,H1,I1,r1,q1⟩:=hz
 refine thn (hb pins s1 σ H1 _ I1 q1) fun u s2 hz=>?_
 obtain⟨y,H2,I2,r2,q2⟩:=hz
 exact hf v u s2 x y H2 I2 r1 r2 q2
theorem KY{op:Operator}{r:R2}(ho:OpR X (binaryOp op) r)(ha:PE X a ta)(hb:PE X b tb):PE X (.BinOp a op b pos) (tOp r ta tb):=by
 intro pins s σ H Q I h
 exact wpAny_BinOp (Lx ha hb I h fun v u s2 x y H2 I2 rx ry q=>ho pins s2 σ H2 x y v u Q I2 rx ry q)
theorem KU{op:UnaryOp}{r:V->Hp->VK->Prop}(ho:UnR X (unaryOp op) r)(ha:PE X a ta):PE X (.UnaryOp op a pos) (tUn r ta):=by
 intro pins s σ H Q I h
 exact UnaryOp_ (thn (ha pins s σ H _ I h) fun v s1 ⟨x,H1,I1,r1,q1⟩=>ho pins s1 σ H1 x v Q I1 r1 q1)
theorem opI{f:Value->Value->Sem Value}{C:Int->Int->Prop}{g:Int->Int->Int}
  (rule:∀(i j:Int) (t u:Tok) (s:Shared) (Q:Value->Shared->Prop) (E:Value->Shared->Prop),C i j->Q (.int (g i j) s.toks) { s with toks:=s.toks+1 }->wpAny (model X.prog X.w) X.A (f (.int i t) (.int j u)) Q E s) :
  OpR X f (rI C fun i j=>.int (g i j)):=by
 intro pins s σ H x y v u Q I rx ry h
 obtain⟨i,j,rfl,rfl,hc,q⟩:=h
 obtain⟨t,rfl⟩:=rx
 obtain⟨t',rfl⟩:=ry
 exact rule i j t t' s _ _ hc ⟨.int (g i j),H,I.tok _,⟨_,rfl⟩,q⟩
theorem LW{f:Value->Value->Sem Value}{g:Int->Int->Int}
  (rule:∀(i j:Int) (t u:Tok) (s:Shared) (Q:Value->Shared->Prop) (E:Value->Shared->Prop),Q (.int (g i j) s.toks) { s with toks:=s.toks+1 }->wpAny (model X.prog X.w) X.A (f (.int i t) (.int j u)) Q E s) :
  OpR X f (rI0 fun i j=>.int (g i j)):=by
 intro pins s σ H x y v u Q I rx ry h
 obtain⟨i,j,rfl,rfl,q⟩:=h
 obtain⟨t,rfl⟩:=rx
 obtain⟨t',rfl⟩:=ry
 exact rule i j t t' s _ _ ⟨.int (g i j),H,I.tok _,⟨_,rfl⟩,q⟩
theorem K5{f:Value->Value->Sem Value}{g:Int->Int->Bool}
  (rule:∀(i j:Int) (t u:Tok) (s:Shared) (Q:Value->Shared->Prop) (E:Value->Shared->Prop),Q (.bool (g i j)) s->wpAny (model X.prog X.w) X.A (f (.int i t) (.int j u)) Q E s) :
  OpR X f (rI0 fun i j=>.bl (g i j)):=by
 intro pins s σ H x y v u Q I rx ry h
 obtain⟨i,j,rfl,rfl,q⟩:=h
 obtain⟨t,rfl⟩:=rx
 obtain⟨t',rfl⟩:=ry
 exact rule i j t t' s _ _ ⟨.bl (g i j),H,I,rfl,q⟩
noncomputable def FZ(i j:Int):Prop:=0<=j/\j<=1000000/\i.natAbs<2^64
noncomputable def DB(i j:Int):Prop:=(-(2^64)<i/\i<2^64)\/(-(2^64)<j/\j<2^64)
theorem DB.ok{i j:Int}(h:DB i j):IntMulOk i j:=by
 rcases h with⟨h1,h2⟩|⟨h1,h2⟩
 ·exact .of_left (intBits_le_64 h1 h2)
 ·exact .of_right (intBits_le_64 h1 h2)
theorem Im:OpR X (binaryOp .Add) (rI0 fun i j=>.int (i+j)):=LW fun _ _ _ _ _ _ _ q=>add_int q
theorem C4:OpR X (binaryOp .Sub) (rI0 fun i j=>.int (i-j)):=LW fun _ _ _ _ _ _ _ q=>sub_int q
theorem mG:OpR X (binaryOp .Mult) (rI DB fun i j=>.int (i*j)):=opI fun _ _ _ _ _ _ _ hc q=>mul_int q hc.ok
theorem nM:OpR X (binaryOp .Mod) (rI (fun _ j=>0<j) fun i j=>.int (i % j)):=opI fun i j _ _ _ _ _ hc q=>by
 have h1:(0:Int)<j:=hc
 exact mod_int' (by omega) (by rw[Int.fmod_eq_emod_of_nonneg i (by omega)];exact q)
theorem yw:OpR X (binaryOp .Pow) (rI FZ fun i j=>.int (i^j.toNat)):=opI fun _ _ _ _ _ _ _ hc q=>pow_int_small hc.1 hc.2.1 hc.2.2 q
theorem unI{f:Value->Sem Value}{g:Int->Int}
  (rule:∀(i:Int) (t:Tok) (s:Shared) (Q:Value->Shared->Prop) (E:Value->Shared->Prop),Q (.int (g i) s.toks) { s with toks:=s.toks+1 }->wpAny (model X.prog X.w) X.A (f (.int i t)) Q E s) :
  UnR X f (rU fun i=>.int (g i)):=by
 intro pins s σ H x v Q I rx h
 obtain⟨i,rfl,q⟩:=h
 obtain⟨t,rfl⟩:=rx
 exact rule i t s _ _ ⟨.int (g i),H,I.tok _,⟨_,rfl⟩,q⟩
theorem CD:UnR X (unaryOp .USub) (rU fun i=>.int (-i)):=unI fun _ _ _ _ _ q=>neg_int q
end
noncomputable def KG:V->V->Bool
 |.non,.non=>true|.non,.int _=>true|.int _,.non=>true|.non,.bl _=>true|.bl _,.non=>true|.non,.str _=>true|.str _,.non=>true
 |.int _,.int _=>true|.bl _,.bl _=>true|.str _,.str _=>true|.byt _,.byt _=>true
 |.int _,.str _=>true|.str _,.int _=>true|.bl _,.str _=>true|.str _,.bl _=>true
 |_,_=>false
noncomputable def rEq:R2:=fun x y H Q=>KG x y=true/\Q (.bl (decide (x=y))) H
noncomputable def rNe:R2:=fun x y H Q=>KG x y=true/\Q (.bl (!decide (x=y))) H
theorem zE{i j:Int}:decide (V.int i=V.int j)=(i == j):=by
 rw[Bool.eq_iff_iff]
 simp
theorem Dm{i j:Bool}:decide (V.bl i=V.bl j)=(i == j):=by
 rw[Bool.eq_iff_iff]
 simp
theorem zD{i j:Str}:decide (V.str i=V.str j)=(i == j):=by
 rw[Bool.eq_iff_iff]
 simp
theorem zF{i j:Array UInt8}:decide (V.byt i=V.byt j)=(i.toList == j.toList):=by
 rw[Bool.eq_iff_iff]
 cases i
 cases j
 simp
section
variable{X:Cx}{a b c:Expr}{ta tb tc:TE}{pos:Pos}
theorem b5{pins:List (Addr×Obj)}{σ:St}{H:Hp}{s:Shared}{Q:VK}{k k':Bool}(I:Inv X pins σ H s)(q:Q (.bl k) H)(e:k=k'):EP X pins σ Q (.bool k') s:=by
 subst e
 exact⟨.bl k,H,I,rfl,q⟩
theorem eS:OpR X (compareOp .Eq) rEq:=by
 intro pins s σ H x y v u Q I rx ry h
 obtain⟨hs,q⟩:=h
 cases x with
 |non=>
  cases rx
  cases y with
  |non=>cases ry;exact PySem.EqNone.eq_none_none (b5 I q (by simp))
  |bl j=>cases ry;exact PySem.EqNone.eq_none_bool (b5 I q (by simp))
  |int j=>obtain⟨t',rfl⟩:=ry;exact PySem.EqNone.eq_none_int (b5 I q (by simp))
  |str j=>obtain⟨t',rfl⟩:=ry;exact PySem.EqNone.eq_none_str (b5 I q (by simp))
  |_=>exact absurd (show false=true from hs) Bool.false_ne_true
 |bl i=>
  cases rx
  cases y with
  |non=>cases ry;exact PySem.EqNone.eq_bool_none (b5 I q (by simp))
  |bl j=>cases ry;exact eq_bool (b5 I q Dm)
  |str j=>obtain⟨t',rfl⟩:=ry;exact PySem.EqMixed.eq_bool_str (b5 I q (by simp))
  |_=>exact absurd (show false=true from hs) Bool.false_ne_true
 |int i=>
  obtain⟨t,rfl⟩:=rx
  cases y with
  |non=>cases ry;exact PySem.EqNone.eq_int_none (b5 I q (by simp))
  |int j=>obtain⟨t',rfl⟩:=ry;exact eq_int (b5 I q zE)
  |str j=>obtain⟨t',rfl⟩:=ry;exact PySem.EqMixed.eq_int_str (b5 I q (by simp))
  |_=>exact absurd (show false=true from hs) Bool.false_ne_true
 |str i=>
  obtain⟨t,rfl⟩:=rx
  cases y with
  |non=>cases ry;exact PySem.EqNone.eq_str_none (b5 I q (by simp))
  |bl j=>cases ry;exact PySem.EqMixed.eq_str_bool (b5 I q (by simp))
  |int j=>obtain⟨t',rfl⟩:=ry;exact PySem.EqMixed.eq_str_int (b5 I q (by simp))
  |str j=>obtain⟨t',rfl⟩:=ry;exact eq_str (b5 I q zD)
  |_=>exact absurd (show false=true from hs) Bool.false_ne_true
 |byt i=>
  obtain⟨t,rfl⟩:=rx
  cases y with
  |byt j=>obtain⟨t',rfl⟩:=ry;exact PySem.W.eq_bytes (b5 I q zF)
  |_=>exact absurd (show false=true from hs) Bool.false_ne_true
 |_=>cases y<;>exact absurd (show false=true from hs) Bool.false_ne_true
theorem yx:OpR X (compareOp .NotEq) rNe:=by
 intro pins s σ H x y v u Q I rx ry h
 obtain⟨hs,q⟩:=h
 cases x with
 |non=>
  cases rx
  cases y with
  |non=>cases ry;exact PySem.EqNone.ne_none_none (b5 I q (by simp))
  |bl j=>cases ry;exact PySem.EqNone.ne_none_bool (b5 I q (by simp))
  |int j=>obtain⟨t',rfl⟩:=ry;exact PySem.EqNone.ne_none_int (b5 I q (by simp))
  |str j=>obtain⟨t',rfl⟩:=ry;exact PySem.EqNone.ne_none_str (b5 I q (by simp))
  |_=>exact absurd (show false=true from hs) Bool.false_ne_true
 |bl i=>
  cases rx
  cases y with
  |non=>cases ry;exact PySem.EqNone.ne_bool_none (b5 I q (by simp))
  |bl j=>cases ry;exact ne_bool (b5 I q (congrArg not Dm))
  |str j=>obtain⟨t',rfl⟩:=ry;exact PySem.EqMixed.ne_bool_str (b5 I q (by simp))
  |_=>exact absurd (show false=true from hs) Bool.false_ne_true
 |int i=>
  obtain⟨t,rfl⟩:=rx
  cases y with
  |non=>cases ry;exact PySem.EqNone.ne_int_none (b5 I q (by simp))
  |int j=>obtain⟨t',rfl⟩:=ry;exact ne_int (b5 I q (congrArg not zE))
  |str j=>obtain⟨t',rfl⟩:=ry;exact PySem.EqMixed.ne_int_str (b5 I q (by simp))
  |_=>exact absurd (show false=true from hs) Bool.false_ne_true
 |str i=>
  obtain⟨t,rfl⟩:=rx
  cases y with
  |non=>cases ry;exact PySem.EqNone.ne_str_none (b5 I q (by simp))
  |bl j=>cases ry;exact PySem.EqMixed.ne_str_bool (b5 I q (by simp))
  |int j=>obtain⟨t',rfl⟩:=ry;exact PySem.EqMixed.ne_str_int (b5 I q (by simp))
  |str j=>obtain⟨t',rfl⟩:=ry;exact ne_str (b5 I q (congrArg not zD))
  |_=>exact absurd (show false=true from hs) Bool.false_ne_true
 |byt i=>
  obtain⟨t,rfl⟩:=rx
  cases y with
  |byt j=>obtain⟨t',rfl⟩:=ry;exact PySem.W.ne_bytes (b5 I q (congrArg not zF))
  |_=>exact absurd (show false=true from hs) Bool.false_ne_true
 |_=>cases y<;>exact absurd (show false=true from hs) Bool.false_ne_true
theorem BD:OpR X (compareOp .Lt) (rI0 fun i j=>.bl (decide (i<j))):=K5 fun _ _ _ _ _ _ _ q=>lt_int q
theorem K3:OpR X (compareOp .Gt) (rI0 fun i j=>.bl (decide (j<i))):=K5 fun _ _ _ _ _ _ _ q=>gt_int q
theorem K4:OpR X (compareOp .GtE) (rI0 fun i j=>.bl (decide (j<=i))):=K5 fun _ _ _ _ _ _ _ q=>ge_int q
theorem C5:OpR X (compareOp .Is) (fun x y H Q=>y=.non/\Q (.bl (decide (x=.non))) H):=by
 intro pins s σ H x y v u Q I rx ry h
 obtain⟨rfl,q⟩:=h
 cases ry
 refine is_none_gen (b5 I q ?_)
 cases x<;>first
  |(cases rx;rfl)
  |(obtain⟨t,rfl⟩:=rx;rfl)
theorem OpR.or{f:Value->Value->Sem Value}{r r':R2}(h:OpR X f r)(h':OpR X f r'):OpR X f (fun x y H Q=>r x y H Q\/r' x y H Q):=by
 intro pins s σ H x y v u Q I rx ry q
 rcases q with q|q
 ·exact h pins s σ H x y v u Q I rx ry q
 ·exact h' pins s σ H x y v u Q I rx ry q
theorem aT(b:Expr){op:CmpOp}(h:op≠.In:=by decide)(h2:op≠.NotIn:=by decide):behindInMarks op b=false:=by
 have e1:(op == CmpOp.In)=false:=by cases op<;>first|rfl|exact absurd rfl h
 have e2:(op == CmpOp.NotIn)=false:=by cases op<;>first|rfl|exact absurd rfl h2
 cases b<;>simp[behindInMarks,e1,e2]
theorem EM{op:CmpOp}{r:R2}(ho:OpR X (compareOp op) r)(ha:PE X a ta)(hb:PE X b tb)(hm:behindInMarks op b=false):PE X (.Compare a [op] [b] pos) (tOp r ta tb):=by
 intro pins s σ H Q I h
 exact wpAny_Compare1 (Lx ha hb I h fun v u s2 x y H2 I2 rx ry q=>ho pins s2 σ H2 x y v u Q I2 rx ry q) hm
noncomputable def Hg(t:TE):TT:=fun σ H Q=>t σ H fun x H'=>∃k,x=.bl k/\Q k H'
theorem Ez{op:CmpOp}{r:R2}(ho:OpR X (compareOp op) r)(ha:PE X a ta)(hb:PE X b tb)(hm:behindInMarks op b=false):PT X (.Compare a [op] [b] pos) (Hg (tOp r ta tb)):=by
 intro pins s σ H Q I h
 refine wpAny_isTrue_Compare1 (thn (ha pins s σ H _ I h) fun v s1 ⟨x,H1,I1,r1,q1⟩=>thn (hb pins s1 σ H1 _ I1 q1) fun u s2 ⟨y,H2,I2,r2,q2⟩=>
  thn (ho pins s2 σ H2 x y v u _ I2 r1 r2 q2) fun c s3 ⟨z,H3,I3,r3,k,e,q3⟩=>?_) hm
 subst e
 cases r3
 exact wpAny_truthy_bool ⟨H3,I3,q3⟩
theorem vz:(sizeLine:Nat)<2^63:=by rw[sizeLine_eq];decide
theorem wz:OpR X (binaryOp .Add) (fun x y H Q=>∃i j,x=.str i/\y=.str j/\i.length+j.length<=sizeLine/\Q (.str (i++j)) H):=by
 intro pins s σ H x y v u Q I rx ry h
 obtain⟨i,j,rfl,rfl,hz,q⟩:=h
 obtain⟨t,rfl⟩:=rx
 obtain⟨t',rfl⟩:=ry
 exact add_str (fun t' tk=>⟨.str (i++j),H,I.tok _,⟨_,rfl⟩,q⟩) hz
theorem rR{x:V}{us:List Value}(r:b8 [x] us):∃u,us=[u]/\dj x u:=by
 cases r with
 |cons r1 r2=>cases r2;exact⟨_,rfl,r1⟩
theorem Eh{x y:V}{us:List Value}(r:b8 [x,y] us):∃u w',us=[u,w']/\dj x u/\dj y w':=by
 cases r with
 |cons r1 r2=>
  cases r2 with
  |cons r3 r4=>cases r4;exact⟨_,_,rfl,r1,r3⟩
end
structure FQ(h:Heap)(x dx C:Addr)(mA:Str->Option Value):Prop where
 obj:h.get? x=some (PySem.W.instObj C dx)
 ns:h.Ns1 dx mA
 ne:dx≠x
theorem yK{h:Heap}{dx:Addr}{mA:Str->Option Value}(n:h.Ns1 dx mA):∃od,h.get? dx=some od/\∀name,PySem.W.lookIn name od=some (mA name):=by
 obtain⟨o,es,ep,ho,hd,hk,_,hm⟩:=n
 refine⟨o,ho,fun name=>?_⟩
 have e:=hm name
 unfold nsFind findBy at e
 rw[<-Array.find?_toList]at e
 unfold PySem.W.lookIn
 rw[hd]
 dsimp only
 split
 ·rename_i y q
  rw[q]at e
  exact congrArg some e
 ·rename_i q
  rw[q]at e
  have a:es.toList.any (·.refKey)=false:=by
   rw[List.any_eq_false]
   intro y hy
   obtain⟨z,t,hkey⟩:=hk y (Array.mem_toList_iff.mp hy)
   simp[DictEntry.refKey,hkey]
  have a':¬es.toList.any (·.refKey)=true:=by rw[a];exact Bool.false_ne_true
  rw[if_neg a']
  exact congrArg some e
theorem FQ.look{h:Heap}{x dx C:Addr}{mA:Str->Option Value}(I:FQ h x dx C mA):∃od,PySem.W.InstAt h x (PySem.W.instObj C dx) C (some od)/\∀name,PySem.W.lookIn name od=some (mA name):=
 let ⟨od,ho,hl⟩:=yK I.ns
 ⟨od,⟨I.obj,rfl,rfl,ho⟩,hl⟩
section
variable{prog:Program}{w:World}{A:Around}{E:Value->Shared->Prop}{s:Shared}{K:PySem.W.Frag}{x dx C f:Addr}{mA:Str->Option Value}{name:Str}{v:Value}
theorem Fo{expr:Bool}{Q:Value->Shared->Prop}(X:K.In s.heap)(I:FQ s.heap x dx C mA)(hg:PySem.W.plainGet K C name=true)(hh:PySem.W.hasDictIn K C=true)
  (ha:PySem.W.findIn K (.ref C) name=some none) (hv:mA name=some v) (hv':PySem.W.handedIn v=true) (h:Q v { s with toks:=s.toks+1 }) :
  wpAny (model prog w) A (getAttr (.ref x) name expr) Q E s:=by
 obtain⟨od,J,hl⟩:=I.look
 exact PySem.W.get_value X J (PySem.W.plainGet_of hg).1 (PySem.W.findObj_own hh ha rfl (by rw[hl,hv])) hv' h
theorem B1{pl:Sem Bool}{Q:Value×List Value->Shared->Prop}(X:K.In s.heap)(I:FQ s.heap x dx C mA)(hg:PySem.W.plainGet K C name=true)
  (hf:PySem.W.findIn K (.ref C) name=some (some (.ref f))) (ht:PySem.W.isFn K (.ref f)=true) (hv:mA name=none) (h:Q (.ref f,[.ref x]) s) :
  wpAny (model prog w) A (getMethod (.ref x) name pl) Q E s:=by
 obtain⟨od,J,hl⟩:=I.look
 exact PySem.W.method_fn X J (PySem.W.plainGet_of hg).1 (PySem.W.plainGet_of hg).2 hf (beq_iff_eq.mp ht) (by show(PySem.W.lookIn name od).map (·.isSome)=some false;rw[hl,hv];rfl) h
theorem Ep{ns:List Str}{Q:Unit->Shared->Prop}(X:K.In s.heap)(I:FQ s.heap x dx C mA)
  (hs:PySem.W.findIn K (.ref C) "__setattr__"=some (some (.builtin "object.__setattr__"))) (hp:PySem.W.plainOver K C=true) (ht:PySem.W.takerIn K C name=some none) (hh:PySem.W.hasDictIn K C=true)
  (hw:PySem.Within mA ns) (hsz:ns.length<=sizeLine)
  (h:∀h',FQ h' x dx C (fun y=>if y=name then some v else mA y)->Heap.SameBut dx s.heap h'->Q () { s with heap:=h',toks:=s.toks+2 }) :
  wpAny (model prog w) A (setAttr (.ref x) name v) Q E s:=by
 obtain⟨od,J,hl⟩:=I.look
 refine PySem.W.set_plain X J hs (PySem.W.osa_open (s:={ s with toks:=s.toks+1 }) (r:=none) X J hp ht fun b=>?_)
 obtain⟨cd,hc,hd'⟩:=PySem.W.any_some hh
 have hx:s.heap.get? x=some ⟨.ref C,some dx,.plain,#[]⟩:=I.obj
 refine wpAny_bind (wpAny_pure (wpAny_bind (wpAny_bind (wpAny_loadPart hx (wpAny_bind (PySem.W.Looks.here (s:={ s with toks:=s.toks+1 }) (PySem.W.looks_clsIn X hc) ?_))))))
 rw[hd']
 refine wpAny_pure (a:=some dx) (wpAny_bind (wpAny_pure (wpAny_bind ?_)))
 refine wpAny_nsSet1 (s:={ s with toks:=s.toks+1 }) I.ns fun h' hn2 hs2=>?_
 obtain⟨oD,esD,epD,hoD,hdD,hcD⟩:=hn2.count (PySem.Within.cons name v hw)
 refine wpAny_bind (wpAny_lookBehind hoD (by rw[hdD];exact pastItsLine_dict (Nat.le_trans hcD (by rw[List.length_cons];omega))) ?_)
 exact wpAny_pure (h _ ⟨(hs2.2 _ (Ne.symm I.ne)).trans I.obj,hn2,I.ne⟩ hs2)
theorem BL{R:Result->Shared->Prop}{vs:List Value}{kw:List (Str×Value)}(X:K.In s.heap)(hm:PySem.W.makesIn K C=true)
  (hi:PySem.W.findIn K (.ref C) "__init__"=some (some (.ref f))) (hf:PySem.W.typeIn K (.ref f)=some (.type "function"))
  (h:codeAny (model prog w) (A.under (.builtin "type.__call__" ⟨.ref C::vs,kw⟩)) (.call (.ref f) ⟨.ref (s.heap.objs.size+1)::vs,kw⟩) (PySem.W.InitBack (s.heap.objs.size+1) R)
   { s with heap:=(s.heap.push PySem.W.emptyDict).push (PySem.W.instObj C s.heap.objs.size) }) :
  codeAny (model prog w) A (.call (.ref C) ⟨vs,kw⟩) R s:=by
 obtain⟨hh,g,d,t,os⟩:=s
 exact PySem.W.make_core (PySem.W.makes_of X hm) (PySem.W.looks_findIn X hi) (fun self=>PySem.W.bind_fn X self hf) (.inl rfl) h
end
noncomputable def oY(f:Str)(v:V):List (Str×V)->List (Str×V)
 |[]=>[(f,v)]
 |(g,x)::r=>if g=f then(g,v)::r else(g,x)::oY f v r
theorem ko(f g:Str)(v:V):∀fs:List (Str×V),(oY f v fs).lookup g=if g=f then some v else fs.lookup g
 |[]=>by
  show List.lookup g [(f,v)]=_
  by_cases h:g=f
  ·have hb:(g == f)=true:=beq_iff_eq.mpr h
   simp only[List.lookup,hb,if_pos h]
  ·have hb:(g == f)=false:=beq_eq_false_iff_ne.mpr h
   simp only[List.lookup,hb,if_neg h]
 |(k,x)::r=>by
  have ih:=ko f g v r
  rw[show oY f v ((k,x)::r)=(if k=f then(k,v)::r else(k,x)::oY f v r)from rfl]
  by_cases hk:k=f
  ·rw[if_pos hk]
   by_cases h:g=k
   ·have hb:(g == k)=true:=beq_iff_eq.mpr h
    simp only[List.lookup,hb,if_pos (h.trans hk)]
   ·have hb:(g == k)=false:=beq_eq_false_iff_ne.mpr h
    simp only[List.lookup,hb,if_neg (fun e:g=f=>h (e.trans hk.symm))]
  ·rw[if_neg hk]
   by_cases h:g=k
   ·have hb:(g == k)=true:=beq_iff_eq.mpr h
    simp only[List.lookup,hb,if_neg (fun e:g=f=>hk (h.symm.trans e))]
   ·have hb:(g == k)=false:=beq_eq_false_iff_ne.mpr h
    simp only[List.lookup,hb]
    exact ih
theorem gD(f:Str)(v:V):∀fs:List (Str×V),f∈(oY f v fs).map (·.1)/\∀g,g∈fs.map (·.1)->g∈(oY f v fs).map (·.1)
 |[]=>⟨by simp[oY],fun g h=>by simp at h⟩
 |(k,x)::r=>by
  obtain⟨i1,i2⟩:=gD f v r
  rw[show oY f v ((k,x)::r)=(if k=f then(k,v)::r else(k,x)::oY f v r)from rfl]
  by_cases hk:k=f
  ·rw[if_pos hk]
   subst hk
   exact⟨by simp,fun g h=>by simpa using h⟩
  ·rw[if_neg hk]
   refine⟨?_,fun g h=>?_⟩
   ·rw[List.map_cons]
    exact List.mem_cons_of_mem _ i1
   ·rw[List.map_cons]at h ⊢
    rcases List.mem_cons.mp h with e|e
    ·exact List.mem_cons.mpr (.inl e)
    ·exact List.mem_cons_of_mem _ (i2 g e)
theorem nT(f:Str)(v:V):∀fs:List (Str×V),(oY f v fs).length<=fs.length+1
 |[]=>by simp[oY]
 |(k,x)::r=>by
  have ih:=nT f v r
  rw[show oY f v ((k,x)::r)=(if k=f then(k,v)::r else(k,x)::oY f v r)from rfl]
  by_cases hk:k=f
  ·rw[if_pos hk,List.length_cons,List.length_cons];omega
  ·rw[if_neg hk,List.length_cons,List.length_cons];omega
theorem rC.some_of{v:V}{o:Option Value}(r:rC (some v) o):∃u,o=some u/\dj v u:=by
 cases o with
 |none=>exact(show False from r).elim
 |some u=>exact⟨u,rfl,r⟩
theorem rC.none_of{o:Option Value}(r:rC none o):o=none:=by
 cases o with
 |none=>rfl
 |some u=>exact(show False from r).elim
theorem zb{v:V}{u:Value}(r:dj v u):PySem.W.handedIn u=true:=by
 cases v with
 |non=>cases (show u=Value.none from r);rfl
 |bl b=>cases (show u=Value.bool b from r);rfl
 |int i=>obtain⟨t,e⟩:=(show ∃t,u=Value.int i t from r);cases e;rfl
 |str x=>obtain⟨t,e⟩:=(show ∃t,u=Value.str x t from r);cases e;rfl
 |byt b=>obtain⟨t,e⟩:=(show ∃t,u=Value.bytes b t from r);cases e;rfl
 |flt b=>obtain⟨t,e⟩:=(show ∃t,u=Value.float b t from r);cases e;rfl
 |ref a=>cases (show u=Value.ref a from r);rfl
 |ty n=>cases (show u=Value.type n from r);rfl
section
variable{P:Program}{w:World}{H H':Hp}{h h':Heap}{a C dx:Addr}{fs fs':List (Str×V)}
theorem qO(hok:HOk P w H h)(e:H a=some (.ins C dx fs)):∃mA,FQ h a dx C mA/\(∀f,rC (fs.lookup f) (mA f))/\PySem.Within mA (fs.map (·.1))/\fs.length<=1000/\H dx=some (.own a):=by
 obtain⟨d,z,ne,ob,mA,n,r,q⟩:=(show dz P w H h a (.ins C dx fs)from hok a _ e)
 exact⟨mA,⟨ob,n,ne⟩,r,q,z,d⟩
end
structure Cls(K:PySem.W.Frag)(C:Addr):Prop where
 pg:PySem.W.plainGet K C Str.empty=true
 hd:PySem.W.hasDictIn K C=true
 po:PySem.W.plainOver K C=true
 sa:PySem.W.findIn K (.ref C) "__setattr__"=some (some (.builtin "object.__setattr__"))
theorem Cls.get{K:PySem.W.Frag}{C:Addr}(c:Cls K C)(f:Str):PySem.W.plainGet K C f=true:=c.pg
noncomputable def ki(K:PySem.W.Frag)(C:Addr)(f:Str):Prop:=PySem.W.findIn K (.ref C) f=some none
theorem ki.taker{K:PySem.W.Frag}{C:Addr}{f:Str}(n:ki K C f):PySem.W.takerIn K C f=some none:=by
 unfold PySem.W.takerIn
 rw[show PySem.W.findIn K (.ref C) f=some none from n]
 rfl
structure vZ(K:PySem.W.Frag)(C:Addr)(m:Str)(f:Addr):Prop where
 at_:PySem.W.findIn K (.ref C) m=some (some (.ref f))
 fn:PySem.W.isFn K (.ref f)=true
 kp:PySem.W.keepIn K (.ref f)=true
section
variable{X:Cx}{pins:List (Addr×Obj)}{σ:St}{H:Hp}{s:Shared}{a C dx:Addr}{fs:List (Str×V)}{f:Str}{v:V}{A:Around}{E:Value->Shared->Prop}
theorem wR{b:Bool}{Q:Value->Shared->Prop}(I:Inv X pins σ H s)(e:H a=some (.ins C dx fs))(c:Cls X.K C)(n:ki X.K C f)(l:fs.lookup f=some v)
  (h:∀u s',Inv X pins σ H s'->dj v u->Q u s'):wpAny (model X.prog X.w) A (getAttr (.ref a) f b) Q E s:=by
 obtain⟨mA,O,r,_,_,_⟩:=qO I.hok e
 obtain⟨u,hu,ru⟩:=rC.some_of (v:=v) (o:=mA f) (by rw[<-l];exact r f)
 exact Fo I.kIn O (c.get f) c.hd n hu (zb ru) (h u _ (I.tok _) ru)
theorem wQ{m:Str}{g:Addr}{pl:Sem Bool}{Q:Value×List Value->Shared->Prop}(I:Inv X pins σ H s)(e:H a=some (.ins C dx fs))(c:Cls X.K C)(k:vZ X.K C m g)(l:fs.lookup m=none)
  (h:Q (.ref g,[.ref a]) s):wpAny (model X.prog X.w) A (getMethod (.ref a) m pl) Q E s:=by
 obtain⟨mA,O,r,_,_,_⟩:=qO I.hok e
 have hn:mA m=none:=rC.none_of (by rw[<-l];exact r m)
 exact B1 I.kIn O (c.get m) k.at_ k.fn hn h
theorem wk{y:V}{u:Value}{Q:Unit->Shared->Prop}(I:Inv X pins σ H s)(e:H a=some (.ins C dx fs))(c:Cls X.K C)(n:ki X.K C f)(hl:fs.length<1000)(ry:dj y u)
  (h:∀s',Inv X pins σ (upd H a (.ins C dx (oY f y fs))) s'->Q () s'):wpAny (model X.prog X.w) A (setAttr (.ref a) f u) Q E s:=by
 obtain⟨mA,O,r,wi,_,ho⟩:=qO I.hok e
 have hz:(fs.map (·.1)).length<=sizeLine:=by rw[List.length_map,sizeLine_eq];omega
 refine Ep I.kIn O c.sa c.po n.taker c.hd wi hz fun h' O' sb=>h _ ?_
 have hd:∃o,h'.get? dx=some o:=let ⟨o,_,_,e',_⟩:=O'.ns;⟨o,e'⟩
 refine I.write (x:=a) (e:=dx) (by rw[e];exact True.intro) (.inr ho) (fun b q hb z=>(sb.2 b hb).trans z) hd ?_
 refine⟨by rw[bB O.ne];exact ho,?_,O.ne,O'.obj,_,O'.ns,fun g=>?_,fun g hg=>?_⟩
 ·have:=nT f y fs;omega
 ·show rC ((oY f y fs).lookup g) (if g=f then some u else mA g)
  rw[ko]
  by_cases q:g=f
  ·rw[if_pos q,if_pos q];exact ry
  ·rw[if_neg q,if_neg q];exact r g
 ·by_cases q:g=f
  ·rw[q];exact(gD f y fs).1
  ·refine(gD f y fs).2 g (wi g fun z=>hg ?_)
   show(if g=f then some u else mA g)=none
   rw[if_neg q];exact z
theorem Inv.made(I:Inv X pins σ H s):Inv X pins σ (upd (upd H s.heap.objs.size (.own (s.heap.objs.size+1))) (s.heap.objs.size+1) (.ins C s.heap.objs.size []))
  { s with heap:=(s.heap.push PySem.W.emptyDict).push (PySem.W.instObj C s.heap.objs.size) }:=by
 have e1:(s.heap.push PySem.W.emptyDict).get? s.heap.objs.size=some PySem.W.emptyDict:=Heap.get?_push_size s.heap rfl
 have e2:((s.heap.push PySem.W.emptyDict).push (PySem.W.instObj C s.heap.objs.size)).get? (s.heap.objs.size+1)=some (PySem.W.instObj C s.heap.objs.size):=by
  have:=Heap.get?_push_size (s.heap.push PySem.W.emptyDict) (o:=PySem.W.instObj C s.heap.objs.size) rfl
  rwa[Heap.size_push]at this
 have e3:(s.heap.push PySem.W.emptyDict).Ns s.heap.objs.size (fun _=>none):=⟨PySem.W.emptyDict,#[],_,e1,rfl,(fun e he=>absurd he (by simp)),fun _=>rfl⟩
 have I1:=I.laid (a:=s.heap.objs.size) (o:=.own (s.heap.objs.size+1)) (h':=s.heap.push PySem.W.emptyDict) (t':=s.toks) (fun b u q=>Heap.get?_push_of_some _ q) (Nat.le_refl _) ⟨_,e1⟩
 refine I1.laid (a:=s.heap.objs.size+1) (o:=.ins C s.heap.objs.size []) (t':=s.toks) (fun b u q=>Heap.get?_push_of_some _ q) (Nat.le_of_eq (Heap.size_push _ _)) ?_
 have ne:s.heap.objs.size≠s.heap.objs.size+1:=Nat.ne_of_lt (Nat.lt_succ_self _)
 refine⟨by rw[bB ne,aK],Nat.zero_le _,ne,e2,fun _=>none,(Heap.Ns1.of_empty e3).at fun o q=>Heap.get?_push_of_some _ q,fun _=>True.intro,fun y hy=>absurd rfl hy⟩
theorem FO{prog:Program}{w:World}{env:Env}{e:Expr}{f:Str}{pos:Pos}{s:Shared}{Q:Value->Shared->Prop}(hb:attributeBase e f env (eval e env)=eval e env)
  (h:wpAny (model prog w) A (eval e env) (fun o s₁=>wpAny (model prog w) A (getAttr o f true) Q E s₁) E s):wpAny (model prog w) A (eval (.Attribute e f pos) env) Q E s:=
 Attribute_any_ h (by rw[arm_eval_Attribute,hb])
end
noncomputable def LP(K:PySem.W.Frag)(ta:TE)(f:Str):TE:=fun σ H Q=>ta σ H fun x H1=>∃a C dx fs v,x=.ref a/\H1 a=some (.ins C dx fs)/\Cls K C/\ki K C f/\fs.lookup f=some v/\Q v H1
noncomputable def LS(K:PySem.W.Frag)(ta tv:TE)(f:Str):TS:=fun D σ H=>tv σ H fun y H1=>ta σ H1 fun x H2=>∃a C dx fs,x=.ref a/\H2 a=some (.ins C dx fs)/\Cls K C/\ki K C f/\fs.length<1000/\
 D.nx σ (upd H2 a (.ins C dx (oY f y fs)))
section
variable{X:Cx}{o e value:Expr}{f:Str}{pos pos' tpos:Pos}{ta tv:TE}
theorem HW(he:PE X e ta)(hb:attributeBase e f X.env (eval e X.env)=eval e X.env):PE X (.Attribute e f pos) (LP X.K ta f):=by
 intro pins s σ H Q I h
 refine FO hb (thn (he pins s σ H _ I h) fun u s1 hz=>?_)
 obtain⟨x,H1,I1,rx,a,C,dx,fs,v,ex,ea,c,n,l,q⟩:=hz
 subst ex
 obtain rfl:u=Value.ref a:=rx
 exact wR I1 ea c n l fun u' s2 I2 ru=>⟨v,H1,I2,ru,q⟩
theorem HH(ha:PE X o ta)(hv:PE X value tv)(hs:swapsWith value (some (.Attribute o f pos')) pos.line X.env=pure false):PS X (.Assign [.Attribute o f pos'] value pos) (LS X.K ta tv f):=by
 intro pins s σ H D I h
 refine plainObj_wpAny_Assign_Attribute (thn (hv pins s σ H _ I h) fun u s1 ⟨y,H1,I1,ry,q⟩=>thn (ha pins s1 σ H1 _ I1 q) fun ov s2 hz=>?_) hs
 obtain⟨x,H2,I2,rx,a,C,dx,fs,ex,ea,c,n,l,q2⟩:=hz
 subst ex
 obtain rfl:ov=Value.ref a:=rx
 exact wk I2 ea c n l ry fun s3 I3=>⟨σ,_,I3,q2⟩
end
section
variable{X:Cx}{pins:List (Addr×Obj)}{σ:St}{H:Hp}{s:Shared}{A:Around}{E:Value->Shared->Prop}{Q:Value->Shared->Prop}{c:Value}{b:Bool}
inductive vY(K:PySem.W.Frag)(H:Hp):V->Value->Prop where
 |non:vY K H .non (.type "NoneType")
 |bl (x:Bool):vY K H (.bl x) (.type "bool")
 |int (i:Int):vY K H (.int i) (.type "int")
 |str (x:Str):vY K H (.str x) (.type "str")
 |flt (x:UInt64):vY K H (.flt x) (.type "float")
 |lst {a:Addr} {xs:List V} (e:H a=some (.lst xs)):vY K H (.ref a) (.type "list")
 |frz {a:Addr} {o:Obj} {xs:List V} (e:H a=some (.frz o (.lst xs))):vY K H (.ref a) (.type "list")
 |tup {a:Addr} {xs:List V} (e:H a=some (.tup xs)):vY K H (.ref a) (.type "tuple")
 |dK {a:Addr} {kvs:List (Key×V)} (e:H a=some (.dK kvs)):vY K H (.ref a) (.type "dict")
 |dT {a:Addr} {kvs:List (List Key×V)} (e:H a=some (.dT kvs)):vY K H (.ref a) (.type "dict")
 | ins {a C dx:Addr} {fs:List (Str×V)} (e:H a=some (.ins C dx fs)) (cl:Cls K C) (ha:PySem.W.findIn K (.ref C) "__class__"=some (some (.builtin "object.__class__")))
   (hn:PySem.W.specialIn K (.builtin "object.__class__") "__get__"=some (some (.builtin "getset_descriptor.__get__"))) (htk:PySem.W.takesIn K (.builtin "object.__class__")=some true)
   (hm:PySem.W.mroIn K C (.type "object")=some true):vY K H (.ref a) (.ref C)
theorem yY{x:V}{u t:Value}(I:Inv X pins σ H s)(rx:dj x u)(ty:vY X.K H x t)(e:PySem.W.kitOne X.K t c=some b)(h:∀tk,Q (.bool b) { s with toks:=tk }) :
  wpAny (model X.prog X.w) A (call (.builtin "isinstance") [u,c]) Q E s:=by
 cases ty with
 |non=>cases (show u=Value.none from rx);exact PySem.W.kia_one PySem.W.kitx_none I.kIn True.intro e (fun z=>nomatch z) h
 |bl y=>cases (show u=Value.bool y from rx);exact PySem.W.kia_one PySem.W.kitx_bool I.kIn True.intro e (fun z=>nomatch z) h
 |int i=>obtain⟨t,q⟩:=(show ∃t,u=Value.int i t from rx);cases q;exact PySem.W.kia_one PySem.W.kitx_int I.kIn True.intro e (fun z=>nomatch z) h
 |str y=>obtain⟨t,q⟩:=(show ∃t,u=Value.str y t from rx);cases q;exact PySem.W.kia_one PySem.W.kitx_str I.kIn True.intro e (fun z=>nomatch z) h
 |flt y=>obtain⟨t,q⟩:=(show ∃t,u=Value.float y t from rx);cases q;exact PySem.W.kia_one PySem.W.kitx_float I.kIn True.intro e (fun z=>nomatch z) h
 |@lst a xs ea=>
  cases (show u=Value.ref a from rx)
  obtain⟨_,_,n,_,h1⟩:=(show dz X.prog X.w H s.heap a (.lst xs)from I.hok a _ ea)
  exact PySem.W.kia_one PySem.W.kitx_list I.kIn ⟨_,h1,rfl⟩ e (fun z=>nomatch z) h
 |@frz a ob xs ea=>
  cases (show u=Value.ref a from rx)
  obtain⟨_,_,_,n,_,h1⟩:=(show dz X.prog X.w H s.heap a (.frz ob (.lst xs))from I.hok a _ ea)
  exact PySem.W.kia_one PySem.W.kitx_list I.kIn ⟨_,h1,rfl⟩ e (fun z=>nomatch z) h
 |@tup a xs ea=>
  cases (show u=Value.ref a from rx)
  obtain⟨_,_,_,p⟩:=(show dz X.prog X.w H s.heap a (.tup xs)from I.hok a _ ea)
  obtain⟨o,h1,h2,_⟩:=p
  exact PySem.W.kia_one PySem.W.kitx_tuple I.kIn ⟨o,h1,h2⟩ e (fun z=>nomatch z) h
 |@dK a kvs ea=>
  cases (show u=Value.ref a from rx)
  obtain⟨_,_,vs,_,p⟩:=(show dz X.prog X.w H s.heap a (.dK kvs)from I.hok a _ ea)
  obtain⟨o,es,ep,h1,h2,_⟩:=p
  exact PySem.W.kia_one PySem.W.kitx_dict I.kIn ⟨o,h1,h2.1⟩ e (fun z=>nomatch z) h
 |@dT a kvs ea=>
  cases (show u=Value.ref a from rx)
  obtain⟨_,_,xs,_,o,es,ep,h1,h2,_⟩:=(show dz X.prog X.w H s.heap a (.dT kvs)from I.hok a _ ea)
  exact PySem.W.kia_one PySem.W.kitx_dict I.kIn ⟨o,h1,h2.1⟩ e (fun z=>nomatch z) h
 |@ins a C dx fs ea cl ha hn htk hm=>
  cases (show u=Value.ref a from rx)
  obtain⟨mA,O,_⟩:=qO I.hok ea
  obtain⟨od,J,_⟩:=O.look
  exact PySem.W.kia_one (PySem.W.kitx_own (cl.get _) cl.hd ha hn htk hm) I.kIn J e (fun z=>nomatch z) h
end
structure jl(k:Nat)(A:Around):Prop where
 hd:A.handled=none
 dp:A.depth+3*k+5<recursionLimit
 un:A.units+16*k+200<cLine
 gd:A.guards=some []
theorem jl.mono{j k:Nat}{A:Around}(r:jl k A)(h:j<=k):jl j A:=⟨r.hd,by have:=r.dp;omega,by have:=r.un;omega,r.gd⟩
theorem jl.deeper{k:Nat}{A:Around}(r:jl (k+1) A)(env:Env):jl k (A.deeper env):=
 ⟨r.hd,by have:=r.dp;show A.depth+1+3*k+5<_;omega,by have:=r.un;show A.units+3+16*k+200<_;omega,r.gd⟩
theorem wC{A:Around}{C:Addr}{us:List Value}{kw:List (Str×Value)}:(A.under (.builtin "type.__call__" ⟨.ref C::us,kw⟩)).depth=A.depth+1:=by
 first|rfl|simp[Around.under,Code.weight,Code.isCreation,Code.isGuard,Code.isCaller,Code.frames,Code.isFrame,guardIds]
theorem wB{A:Around}{C:Addr}{us:List Value}{kw:List (Str×Value)}:(A.under (.builtin "type.__call__" ⟨.ref C::us,kw⟩)).units=A.units+1:=by
 first|rfl|simp[Around.under,Code.cUnits,Code.frames,Code.isFrame]
theorem jl.make{k:Nat}{A:Around}(r:jl (k+1) A)(C:Addr)(us:List Value)(kw:List (Str×Value)):jl k (A.under (.builtin "type.__call__" ⟨.ref C::us,kw⟩)):=
 ⟨r.hd,by have:=r.dp;rw[wC];omega,by have:=r.un;rw[wB];omega,r.gd⟩
theorem jl.depth{k:Nat}{A:Around}(r:jl k A):A.depth<recursionLimit:=by have:=r.dp;omega
theorem jl.units{k:Nat}{A:Around}(r:jl k A):A.units+64<cLine:=by have:=r.un;omega
noncomputable def Ju:TA:=fun _ H Q=>Q [] H
noncomputable def Hm(ta:TE)(tr:TA):TA:=fun σ H Q=>ta σ H fun x H1=>tr σ H1 fun xs H2=>Q (x::xs) H2
section
variable{X:Cx}{e:Expr}{es:List Expr}{te:TE}{t:TA}{pos:Pos}
theorem Ia:PA X [] Ju:=fun _ _ _ _ H Q I h=>Calls.spliced_nil ⟨[],H,I,.nil,h⟩
theorem ES(ha:PE X e te)(hr:PA X es t)(hs:starEach (e::es) X.env=(false,eval e X.env)::starEach es X.env:=by rfl):PA X (e::es) (Hm te t):=by
 intro pos pins s σ H Q I h
 rw[hs]
 show wpAny _ _ (spliced ((false,eval e X.env)::backTo pos (starEach es X.env))) _ _ s
 refine Calls.spliced_cons (thn (ha pins s σ H _ I h) fun u s1 hz=>?_)
 obtain⟨x,H1,I1,r1,q1⟩:=hz
 exact thn (hr pos pins s1 σ H1 _ I1 q1) fun us s2 ⟨xs,H2,I2,r2,q2⟩=>⟨x::xs,H2,I2,.cons r1 r2,q2⟩
noncomputable def LI(t:TA):TE:=fun σ H Q=>t σ H fun xs H1=>xs.length<=sizeLine/\∀p,H1 p=none->Q (.ref p) (upd H1 p (.tup xs))
noncomputable def LN(t:TA):TE:=fun σ H Q=>t σ H fun xs H1=>xs.length<=sizeLine/\∀p,H1 p=none->Q (.ref p) (upd H1 p (.lst xs))
theorem HN{x1}(h:PA X es t):PE X (.Tuple es x1 pos) (LI t):=by
 intro pins s σ H Q I hq
 refine wpAny_Tuple_spliced (thn (h pos pins s σ H _ I hq) fun us s1 ⟨xs,H1,I1,r,z,q⟩=>⟨by rw[<-r.length];exact z,?_⟩)
 have hf:H1 s1.heap.objs.size=none:=I1.hok.fresh (Nat.le_refl _)
 refine⟨.ref s1.heap.objs.size,upd H1 s1.heap.objs.size (.tup xs),I1.laid (t':=s1.toks) (fun b u e=>Heap.get?_push_of_some _ e) (Nat.le_refl _) ?_,rfl,q _ hf⟩
 exact⟨z,us,r,⟨_,Heap.get?_push_size _ rfl,rfl,_,rfl⟩⟩
theorem HU(h:PA X es t):PE X (.List es pos) (LN t):=by
 intro pins s σ H Q I hq
 refine wpAny_List_spliced (thn (h pos pins s σ H _ I hq) fun us s1 ⟨xs,H1,I1,r,z,q⟩=>⟨by rw[<-r.length];exact z,?_⟩)
 have hf:H1 s1.heap.objs.size=none:=I1.hok.fresh (Nat.le_refl _)
 refine⟨.ref s1.heap.objs.size,upd H1 s1.heap.objs.size (.lst xs),I1.laid (t':=s1.toks) (fun b u e=>Heap.get?_push_of_some _ e) (Nat.le_refl _) ?_,rfl,q _ hf⟩
 exact⟨z,us,0,r,Heap.get?_push_size _ rfl⟩
end
noncomputable abbrev Sp:=List V->Hp->VK->XK->Prop
noncomputable abbrev CXT:=List Env->Hp->Shared->XK->Value->Shared->Prop
structure FT(P:Program)(w:World)(K:PySem.W.Frag)(mg:Str->Option Value)(base:Heap)(A:Around)(outer:List Env)(s:Shared)(H:Hp):Prop where
 frames:A.frames=some outer
 mod:Mod K mg base
 bs:∀b o,base.get? b=some o->s.heap.get? b=some o/\H b=none
 bsz:base.objs.size<=s.heap.objs.size
 funs:s.heap.FunFrames base outer
 frf:∀b∈frs outer,H b=none
 hok:HOk P w H s.heap
 bare:AllBare s.gens
noncomputable def CE(outer:List Env)(P:Program)(w:World)(H:Hp)(s:Shared)(Q:VK)(u:Value)(s':Shared):Prop:=
 ∃v H',s'.os=s.os/\AllBare s'.gens/\Un (frs outer) [] H H' s.heap s'.heap/\HOk P w H' s'.heap/\dj v u/\Q v H'
noncomputable def CR(CX:CXT)(outer:List Env)(P:Program)(w:World)(H:Hp)(s:Shared)(Q:VK)(E:XK)(r:Result)(s':Shared):Prop:=
 match r with
 |.ok (.ret u)=>CE outer P w H s Q u s'
 |.ok _=>False
 |.error e=>CX outer H s E e s'
structure nh(P:Program)(w:World)(K:PySem.W.Frag)(mg:Str->Option Value)(base:Heap)(CX:CXT)(k:Nat)(f:Addr)(fd:FuncData)(ps:List Str)(sp:Sp):Prop where
 len:∀vs H Q E,sp vs H Q E->vs.length=ps.length
 run:∀(A:Around) (outer:List Env) (s:Shared) (H:Hp) (args:Args) (us:List Value) (vs:List V) (Q:VK) (E:XK),jl k A->FT P w K mg base A outer s H->BindsTo s fd args (ps.zip us)->b8 vs us->sp vs H Q E->
  codeAny (model P w) A (.call (.ref f) args) (CR CX outer P w H s Q E) s
theorem nh.mono{P:Program}{w:World}{K:PySem.W.Frag}{mg:Str->Option Value}{base:Heap}{CX:CXT}{j k:Nat}{f:Addr}{fd:FuncData}{ps:List Str}{sp:Sp}(F:nh P w K mg base CX j f fd ps sp)(h:j<=k) :
  nh P w K mg base CX k f fd ps sp:=⟨F.len,fun A outer s H args us vs Q E hr=>F.run A outer s H args us vs Q E (hr.mono h)⟩
theorem FT.make{P:Program}{w:World}{K:PySem.W.Frag}{mg:Str->Option Value}{base:Heap}{A:Around}{outer:List Env}{s:Shared}{H:Hp}(e:FT P w K mg base A outer s H)(C:Addr)(us:List Value)(kw:List (Str×Value)) :
  FT P w K mg base (A.under (.builtin "type.__call__" ⟨.ref C::us,kw⟩)) outer s H:=⟨by first|exact e.frames|(simpa [Around.under,Code.envs,Code.isFrame,pushEnvs] using e.frames),e.mod,e.bs,e.bsz,e.funs,e.frf,e.hok,e.bare⟩
section
variable{X:Cx}{pins:List (Addr×Obj)}{σ:St}{H:Hp}{s s':Shared}
theorem Inv.env0(I:Inv X pins σ H s):FT X.prog X.w X.K X.mg X.base X.A X.stack s H:=
 ⟨I.ok.frames,I.ok.mod,I.bs,Nat.le_trans I.ok.bsz I.sz,I.stack,I.stkFree,I.hok,I.bare⟩
theorem Inv.after{Q:VK}{u:Value}(I:Inv X pins σ H s)(h:CE X.stack X.prog X.w H s Q u s'):EP X pins σ Q u s':=by
 obtain⟨v,H',os,bare,un,hok,r,q⟩:=h
 obtain⟨hh,g,d,t,os'⟩:=s'
 obtain rfl:os'=s.os:=os
 exact⟨v,H',I.call (h':=hh) (g':=g) (d':=d) (t':=t) (ch:=[]) un hok bare (fun b z=>absurd z (by simp)),r,q⟩
end
noncomputable def Hn(sp:Sp)(dvs:List V)(E:XK)(t:TA):TE:=fun σ H Q=>t σ H fun vs H1=>sp (vs++dvs) H1 Q E
noncomputable def Ej(C:Addr)(m:Str)(sp:Sp)(dvs:List V)(E:XK)(ta:TE)(t:TA):TE:=fun σ H Q=>ta σ H fun x H1=>∃a dx fs,x=.ref a/\H1 a=some (.ins C dx fs)/\fs.lookup m=none/\
 t σ H1 fun vs H2=>sp (x::(vs++dvs)) H2 Q E
noncomputable def xR(C:Addr)(sp:Sp)(dvs:List V)(E:XK)(t:TA):TE:=fun σ H Q=>t σ H fun vs H1=>∀x dx,H1 x=none->H1 dx=none->dx≠x->
 sp (.ref x::(vs++dvs)) (upd (upd H1 dx (.own x)) x (.ins C dx [])) (fun v H2=>v=.non/\Q (.ref x) H2) E
noncomputable def gM(K:PySem.W.Frag)(fd:FuncData)(ps:List Str)(ds:List Value):Prop:=
 ∀(s:Shared) (us:List Value),K.In s.heap->(us++ds).length=ps.length->BindsTo s fd ⟨us,[]⟩ (ps.zip (us++ds))
theorem gM.all{K:PySem.W.Frag}{fd:FuncData}{ps:List Str}(h:∀us:List Value,us.length=ps.length->bindArgs fd ⟨us,[]⟩=pure (ps.zip us)):gM K fd ps []:=fun s us _ hl=>by
 rw[List.append_nil]at hl ⊢
 exact .of_eq (h us hl)
noncomputable def kh(CX:CXT)(X:Cx)(E:XK):Prop:=∀(pins:List (Addr×Obj)) (σ:St) (H:Hp) (s:Shared) (e:Value) (s':Shared),Inv X pins σ H s->CX X.stack H s E e s'->X.xe e s'
section
variable{X:Cx}{CX:CXT}{k:Nat}{f C:Addr}{fd:FuncData}{ps:List Str}{sp:Sp}{dvs:List V}{ds:List Value}{E:XK}{x m:Str}{p pos apos:Pos}{e o:Expr}{es:List Expr}{ta:TE}{t:TA}
theorem CP{pins:List (Addr×Obj)}{σ:St}{H:Hp}{s:Shared}{Q:VK}{us:List Value}{vs:List V}(F:nh X.prog X.w X.K X.mg X.base CX k f fd ps sp)(hr:jl k X.A)(hb:gM X.K fd ps ds)(hd:b8 dvs ds)(hx:kh CX X E)
  (I:Inv X pins σ H s) (r:b8 vs us) (h:sp (vs++dvs) H Q E):wpAny (model X.prog X.w) X.A (call (.ref f) us) (EP X pins σ Q) X.xe s:=by
 have r2:b8 (vs++dvs) (us++ds):=r.append hd
 have hl:(us++ds).length=ps.length:=by rw[<-r2.length];exact F.len _ _ _ _ h
 refine wpAny_call (codeAny_mono (F.run X.A X.stack s H ⟨us,[]⟩ (us++ds) (vs++dvs) Q E hr I.env0 (hb s us I.kIn hl) r2 h) fun r s' hq=>?_)
 cases r with
 |error e=>exact hx pins σ H s e s' I hq
 |ok fl=>
  cases fl with
  |ret u=>exact I.after hq
  |next=>exact False.elim hq
  |brk=>exact False.elim hq
  |cont=>exact False.elim hq
theorem EN(F:nh X.prog X.w X.K X.mg X.base CX k f fd ps sp)(hr:jl k X.A)(hg:Gl X x)(hm:X.mg x=some (.ref f))(hk:PySem.W.keepIn X.K (.ref f)=true)(hb:gM X.K fd ps ds)(hd:b8 dvs ds)(hx:kh CX X E)
  (ha:PA X (e::es) t) (hdb:(x == ("__debug__":Str))=false:=by decide) (he:starEach (e::es) X.env=(false,eval e X.env)::starEach es X.env:=by rfl) (hpl:(backTo pos (starEach es X.env)).any (·.1)=false:=by rfl) :
  PE X (.Call (.Name x p) (e::es) [] pos) (Hn sp dvs E t):=by
 intro pins s σ H Q I h
 refine wpAny_Call_Name_kw (ue I hg hm ?_ hdb)
 refine PySem.W.callWith_K (h₀:=X.base) I.ok.mod.kin hk (thn (ha pos pins s σ H _ I h) fun us s1 ⟨vs,H1,I1,r,q⟩=>⟨I1.kIn,?_⟩) he hpl
 exact CP F hr hb hd hx I1 r q
theorem EJ{pl:Sem Bool}(he:PE X o ta)(c:Cls X.K C)(hm:vZ X.K C m f)(F:nh X.prog X.w X.K X.mg X.base CX k f fd ps sp)(hr:jl k X.A)(hb:gM X.K fd ps ds)(hd:b8 dvs ds)(hx:kh CX X E)(ha:PA X (e::es) t)
  (hst:starEach (e::es) X.env=(false,eval e X.env)::starEach es X.env:=by rfl) (hpl:(backTo pos (starEach es X.env)).any (·.1)=false:=by rfl)
  (ht:eval (.Call (.Attribute o m apos) (e::es) [] pos) X.env=(do
   let ov <-eval o X.env
   standAt apos.atName
   let (f,first) <-holding [ov] (getMethod ov m pl)
   callWith pos f first (backTo pos (starEach (e::es) X.env)) (backToKw pos (keywordEach [] X.env))):=by rfl) :
  PE X (.Call (.Attribute o m apos) (e::es) [] pos) (Ej C m sp dvs E ta t):=by
 intro pins s σ H Q I h
 refine PySem.W.methodCall_KW (pl:=pl) (thn (he pins s σ H _ I h) fun u s1 hz=>?_) ht
 obtain⟨x,H1,I1,rx,a,dx,fs,ex,ea,l,q⟩:=hz
 subst ex
 obtain rfl:u=Value.ref a:=rx
 refine wQ I1 ea c hm l ?_
 refine PySem.W.callWith_K (first:=[.ref a]) (h₀:=X.base) I.ok.mod.kin hm.kp (thn (ha pos pins s1 σ H1 _ I1 q) fun us s2 ⟨vs,H2,I2,r,q2⟩=>⟨I2.kIn,?_⟩) hst hpl
 exact CP (us:=.ref a::us) (vs:=.ref a::vs) F hr hb hd hx I2 (.cons rfl r) q2
structure Mk(K:PySem.W.Frag)(C f:Addr):Prop where
 makes:PySem.W.makesIn K C=true
 init:PySem.W.findIn K (.ref C) "__init__"=some (some (.ref f))
 fn:PySem.W.isFn K (.ref f)=true
 kp:PySem.W.keepIn K (.ref C)=true
theorem va{pins:List (Addr×Obj)}{σ:St}{H:Hp}{s:Shared}{Q:VK}{us:List Value}{vs:List V}(M:Mk X.K C f)(F:nh X.prog X.w X.K X.mg X.base CX k f fd ps sp)(hr:jl (k+1) X.A)(hb:gM X.K fd ps ds)(hd:b8 dvs ds)
  (hx:kh CX X E) (I:Inv X pins σ H s) (r:b8 vs us)
  (h:∀x dx,H x=none->H dx=none->dx≠x->sp (.ref x::(vs++dvs)) (upd (upd H dx (.own x)) x (.ins C dx [])) (fun v H2=>v=.non/\Q (.ref x) H2) E) :
  wpAny (model X.prog X.w) X.A (call (.ref C) us) (EP X pins σ Q) X.xe s:=by
 have hq:=h (s.heap.objs.size+1) s.heap.objs.size (I.hok.fresh (Nat.le_succ _)) (I.hok.fresh (Nat.le_refl _)) (Nat.ne_of_lt (Nat.lt_succ_self _))
 have I2:=Inv.made (C:=C) I
 have r2:b8 (V.ref (s.heap.objs.size+1)::(vs++dvs)) (Value.ref (s.heap.objs.size+1)::(us++ds)):=.cons rfl (r.append hd)
 have hl:(Value.ref (s.heap.objs.size+1)::us++ds).length=ps.length:=by
  have e:=r2.length
  rw[F.len _ _ _ _ hq]at e
  exact e.symm
 refine wpAny_call (BL (f:=f) I.kIn M.makes M.init (beq_iff_eq.mp M.fn) (codeAny_mono (F.run _ X.stack _ _ ⟨Value.ref (s.heap.objs.size+1)::us,[]⟩ (Value.ref (s.heap.objs.size+1)::(us++ds)) _ _ E (hr.make C us [])
  (I2.env0.make C us []) (hb _ (Value.ref (s.heap.objs.size+1)::us) I2.kIn hl) r2 hq) fun r s' hq'=>?_))
 cases r with
 |error e=>exact hx pins σ _ _ e s' I2 hq'
 |ok fl=>
  cases fl with
  |ret u=>
   obtain⟨v,H',I3,rv,ev,q3⟩:=I2.after hq'
   subst ev
   exact⟨rv,⟨V.ref (s.heap.objs.size+1),H',I3,rfl,q3⟩⟩
  |next=>exact False.elim hq'
  |brk=>exact False.elim hq'
  |cont=>exact False.elim hq'
theorem EK(M:Mk X.K C f)(F:nh X.prog X.w X.K X.mg X.base CX k f fd ps sp)(hr:jl (k+1) X.A)(hg:Gl X x)(hm:X.mg x=some (.ref C))(hb:gM X.K fd ps ds)(hd:b8 dvs ds)(hx:kh CX X E)
  (ha:PA X (e::es) t) (hdb:(x == ("__debug__":Str))=false:=by decide) (he:starEach (e::es) X.env=(false,eval e X.env)::starEach es X.env:=by rfl) (hpl:(backTo pos (starEach es X.env)).any (·.1)=false:=by rfl) :
  PE X (.Call (.Name x p) (e::es) [] pos) (xR C sp dvs E t):=by
 intro pins s σ H Q I h
 refine wpAny_Call_Name_kw (ue I hg hm ?_ hdb)
 refine PySem.W.callWith_K (h₀:=X.base) I.ok.mod.kin M.kp (thn (ha pos pins s σ H _ I h) fun us s1 ⟨vs,H1,I1,r,q⟩=>⟨I1.kIn,?_⟩) he hpl
 exact va M F hr hb hd hx I1 r q
theorem Bo(M:Mk X.K C f)(F:nh X.prog X.w X.K X.mg X.base CX k f fd ps sp)(hr:jl (k+1) X.A)(hg:Gl X x)(hm:X.mg x=some (.ref C))(hb:gM X.K fd ps ds)(hd:b8 dvs ds)(hx:kh CX X E)
  (hdb:(x == ("__debug__":Str))=false:=by decide):PE X (.Call (.Name x p) [] [] pos) (xR C sp dvs E Ju):=by
 intro pins s σ H Q I h
 refine wpAny_Call_Name_kw (ue I hg hm ?_ hdb)
 exact PySem.W.callWith_K0 I.kIn M.kp (va (us:=[]) M F hr hb hd hx I .nil h)
end
structure aL(N P:List Str)(sc:Scope):Prop where
 kind:sc.kind=.function
 co:sc.isCoroutine=false
 gen:sc.isGenerator=false
 nd:N.Nodup
 pre:N.take P.length=P
 par:∀x∈P,sc.names.lookup x=some .local\/sc.names.lookup x=some .cell
 nofree:∀y∈sc.names,y.2≠.free
theorem tM{kindOf:Str->Option NameKind}{x:Str}:∀{binds:List (Str×Value)} {m:Str->Option Value},(∀v,(x,v)∉binds)->bindL kindOf binds m x=m x
 |[],_,_=>rfl
 |(n,v)::r,m,h=>by
  unfold bindL
  rw[tM fun w hw=>h w (List.mem_cons_of_mem _ hw)]
  split
  ·have:x≠n:=by rintro rfl;exact h v List.mem_cons_self
   simp[this]
  ·rfl
theorem tP{kindOf:Str->Option NameKind}{x:Str}:∀{binds:List (Str×Value)} {m:Str->Option Value},(∀v,(x,v)∉binds)->bindC kindOf binds m x=m x
 |[],_,_=>rfl
 |(n,v)::r,m,h=>by
  unfold bindC
  rw[tP fun w hw=>h w (List.mem_cons_of_mem _ hw)]
  split
  ·rfl
  ·have:x≠n:=by rintro rfl;exact h v List.mem_cons_self
   simp[this]
theorem tN{kindOf:Str->Option NameKind}{x:Str}{v:Value}:∀{P:List Str} {vs:List Value} {i:Nat} {m:Str->Option Value},P.Nodup->P[i]?=some x->vs[i]?=some v->kindOf x=some .local->
  bindL kindOf (P.zip vs) m x=some v
 |[],_,_,_,_,h,_,_=>by simp at h
 |_::_,[],_,_,_,_,h,_=>by simp at h
 |p::P,w::vs,0,m,nd,h1,h2,hk=>by
  simp at h1 h2;subst h1;subst h2
  show bindL kindOf ((p,w)::P.zip vs) m p=_
  unfold bindL
  rw[tM fun v hv=>(List.nodup_cons.mp nd).1 (List.of_mem_zip hv).1,if_pos hk]
  simp
 |p::P,w::vs,i+1,m,nd,h1,h2,hk=>by
  show bindL kindOf ((p,w)::P.zip vs) m x=_
  unfold bindL
  exact tN (i:=i) (List.nodup_cons.mp nd).2 (by simpa using h1) (by simpa using h2) hk
theorem tQ{kindOf:Str->Option NameKind}{x:Str}{v:Value}:∀{P:List Str} {vs:List Value} {i:Nat} {m:Str->Option Value},P.Nodup->P[i]?=some x->vs[i]?=some v->kindOf x≠some .local->
  bindC kindOf (P.zip vs) m x=some v
 |[],_,_,_,_,h,_,_=>by simp at h
 |_::_,[],_,_,_,_,h,_=>by simp at h
 |p::P,w::vs,0,m,nd,h1,h2,hk=>by
  simp at h1 h2;subst h1;subst h2
  show bindC kindOf ((p,w)::P.zip vs) m p=_
  unfold bindC
  rw[tP fun v hv=>(List.nodup_cons.mp nd).1 (List.of_mem_zip hv).1,if_neg hk]
  simp
 |p::P,w::vs,i+1,m,nd,h1,h2,hk=>by
  show bindC kindOf ((p,w)::P.zip vs) m x=_
  unfold bindC
  exact tQ (i:=i) (List.nodup_cons.mp nd).2 (by simpa using h1) (by simpa using h2) hk
noncomputable def kJ(N:List Str)(vs:List V):St:=vs.map some++List.replicate (N.length-vs.length) none
noncomputable def xg(CX:CXT)(P:Program)(w:World)(K:PySem.W.Frag)(mg:Str->Option Value)(base:Heap)(N:List Str)(qual:Str)(scope:Scope)(f:Addr)(cd:Value)(A:Around)(outer:List Env)(s:Shared)(H:Hp)(E:XK):Cx where
 prog:=P
 w:=w
 K:=K
 mg:=mg
 base:=base
 A:=A.deeper (envOfC qual scope s.heap.objs.size f cd)
 N:=N
 s₀:=s
 H₀:=H
 env:=envOfC qual scope s.heap.objs.size f cd
 outer:=outer
 stack:=envOfC qual scope s.heap.objs.size f cd::outer
 ex:=[]
 calm:=true
 fn:=fun _=>true
 pn:=[]
 xe:=fun e s'=>wpAny (model P w) (A.deeper (envOfC qual scope s.heap.objs.size f cd)) (leaving (envOfC qual scope s.heap.objs.size f cd) e) (fun _ s''=>CX outer H s E e s'') (fun e' s''=>CX outer H s E e' s'') s'
theorem vS{sc:Scope}{n:Nat}{x:Str}(h:sc.names.lookup x=some .cell):∃c,(cellsFrom n sc.names []).lookup x=some c:=by
 have q:=PySem.W.cellsFrom_some sc.names n [] (.inl h)
 exact Option.isSome_iff_exists.mp q
theorem y3{CX:CXT}{P:Program}{w:World}{K:PySem.W.Frag}{mg:Str->Option Value}{base:Heap}{N ps:List Str}{qual:Str}{scope:Scope}{f:Addr}{cd:Value}{A:Around}{outer:List Env}{s s1:Shared}{H:Hp}{E:XK}{us:List Value}{vs:List V}
  (S:aL N ps scope) (hd:A.handled=none) (e0:FT P w K mg base A outer s H) (hl:vs.length=ps.length) (r:b8 vs us)
  (x:InCallC s s.heap.objs.size (bindL (envOfC qual scope s.heap.objs.size f cd).kindOf (ps.zip us) fun _=>none) (cellsFrom (s.heap.objs.size+1) scope.names []) (bindC (envOfC qual scope s.heap.objs.size f cd).kindOf (ps.zip us) fun _=>none) s1) :
  Inv (xg CX P w K mg base N qual scope f cd A outer s H E) [] (kJ N vs) H s1:=by
 have hpl:ps.length<=N.length:=by have:=congrArg List.length S.pre;rw[List.length_take]at this;omega
 obtain⟨h1,tk,rfl,hk⟩:=x.done
 have noA:∀b:Addr,b∉(xg CX P w K mg base N qual scope f cd A outer s H E).ex:=fun b z=>absurd (show b∈([]:List Addr)from z) (by simp)
 refine⟨⟨e0.mod,S.kind,rfl,rfl,Nat.le_refl _,fun y z c h1 h2=>?_,fun y hy=>?_,fun y c _ h=>?_,fun _=>hd,Around.frames_deeper e0.frames,.inr ⟨rfl,rfl⟩,fun b z=>absurd z (noA b),e0.bs,e0.bsz,fun b _ _=>noA b,fun b z=>absurd z (noA b),e0.funs,e0.frf⟩,
  rfl,e0.bare,Un.kept hk,⟨_,x.toInCall.ns,fun i y v h1 h2 h3=>?_⟩,fun y c h=>⟨_,x.cell y c h⟩,e0.hok.fresh (Nat.le_refl _),fun y c h=>?_,fun p hp=>absurd (show p∈([]:List (Addr×Obj))from hp) (by simp),e0.hok.kept hk,?_⟩
 ·exact name_of_addr x.apart (PySem.mem_of_lookup h1) (PySem.mem_of_lookup h2)
 ·have hy:scope.names.lookup y=some .cell\/scope.names.lookup y=some .free:=hy
  rcases hy with hy|hy
  ·exact vS hy
  ·exact absurd rfl (S.nofree _ (PySem.mem_of_lookup hy))
 ·exact Nat.le_of_lt (x.above y c (PySem.mem_of_lookup h))
 ·have hi:i<vs.length:=by
   unfold kJ at h2
   by_cases hi:i<vs.length
   ·exact hi
   ·rw[List.getElem?_append_right (by simpa using hi)]at h2
    rw[List.getElem?_replicate]at h2
    split at h2<;>cases h2
  have ha:vs[i]?=some v:=by
   unfold kJ at h2
   rw[List.getElem?_append_left (by simpa using hi),List.getElem?_map]at h2
   cases e:vs[i]? with
   |none=>rw[e]at h2;cases h2
   |some a=>rw[e]at h2;cases h2;rfl
  obtain⟨u,hu,rv⟩:=r.get ha
  have hp:ps[i]?=some y:=by
   rw[<-S.pre,List.getElem?_take_of_lt (by omega)];exact h1
  have ndP:ps.Nodup:=by rw[<-S.pre];exact S.nd.sublist (List.take_sublist _ _)
  refine⟨u,rv,?_⟩
  rcases S.par y (List.mem_of_getElem? hp)with k|k
  ·exact .inl ⟨k,tN ndP hp hu k⟩
  ·obtain⟨c,e⟩:=vS (n:=s.heap.objs.size+1) k
   refine .inr ⟨.inl k,c,e,?_⟩
   have q:=x.cell y c e
   rw[tQ ndP hp hu (by show scope.names.lookup y≠_;rw[k];decide)]at q
   exact q
 ·exact e0.hok.fresh (Nat.le_of_lt (x.above y c (PySem.mem_of_lookup h)))
 ·unfold kJ
  show _=N.length
  rw[List.length_append,List.length_map,List.length_replicate]
  omega
theorem Ls{CX:CXT}{P:Program}{w:World}{K:PySem.W.Frag}{mg:Str->Option Value}{base:Heap}{k:Nat}{f:Addr}{name qual:Str}{params:Arguments}{body:List Stmt}{scope:Scope}{dV kV doc pm cdv ct oc:Value}{an od:Option Addr}
  {osl:Array (Option Value)} {N ps:List Str} {sp:Sp} (lk:K.lookup f=some ⟨oc,od,.func (PySem.W.fnOf name qual params body scope dV kV doc pm an cdv ct),osl⟩) (hcd:PySem.W.codeIn K cdv qual=true) (S:aL N ps scope)
  (len:∀vs H Q E,sp vs H Q E->vs.length=ps.length)
  (hbody:∀(A:Around) (outer:List Env) (s:Shared) (H:Hp) (vs:List V) (Q:VK) (E:XK),jl k (A.deeper (envOfC qual scope s.heap.objs.size f cdv))->sp vs H Q E->
   ∃t,PSs (xg CX P w K mg base N qual scope f cdv A outer s H E) body t/\t { nx:=fun _ H'=>Q .non H',rt:=Q } (kJ N vs) H) :
  nh P w K mg base CX (k+1) f (PySem.W.fnOf name qual params body scope dV kV doc pm an cdv ct) ps sp:=by
 refine⟨len,fun A outer s H args us vs Q E hr e0 hb r hsp=>?_⟩
 have hl:=len _ _ _ _ hsp
 have KX:K.In s.heap:=e0.mod.kin.keeps fun b o e=>(e0.bs b o e).1
 have lim:s.heap.NoLimit:=e0.mod.nolimit.keeps fun b o e=>(e0.bs b o e).1
 have hkind:∀y∈ps.zip us,scope.names.lookup y.1=some .local\/(scope.names.lookup y.1=some .cell/\((cellsFrom (s.heap.objs.size+1) scope.names []).lookup y.1).isSome=true):=fun⟨n,v⟩ hy=>by
  rcases S.par n (List.of_mem_zip hy).1 with q|q
  ·exact .inl q
  ·exact .inr ⟨q,PySem.W.cellsFrom_some _ _ _ (.inl q)⟩
 refine codeAny_call_function hr.depth (KX _ _ lk) rfl S.co S.gen rfl (PySem.W.codeRec_of KX hcd) (hb _ _ _ _ ?_)
 refine wpAny_newFunctionEnv_cells S.kind hkind fun env he s1 x=>?_
 subst he
 refine⟨lim.keeps x.toInCall.keep,codeAny_func ?_⟩
 obtain⟨t,ht,hq⟩:=hbody A outer s H vs Q E (hr.deeper _) hsp
 have I:Inv (xg CX P w K mg base N qual scope f cdv A outer s H E) [] (kJ N vs) H s1:=y3 S hr.hd e0 hl r x
 refine wpAny_mono (ht [] s1 (kJ N vs) H _ I hq) (fun fl s' hs=>?_) fun e s' hs=>hs
 have fin:∀{σ':St} {H':Hp} {v:V} {u:Value},Inv (xg CX P w K mg base N qual scope f cdv A outer s H E) [] σ' H' s'->dj v u->Q v H'->CE outer P w H s Q u s':=
  fun{σ' H' v u} J rv q=>⟨v,H',J.os,J.bare,J.base,J.hok,rv,q⟩
 cases fl with
 |ret u=>
  obtain⟨v,σ',H',J,rv,q⟩:=hs
  exact fin J rv q
 |next=>
  obtain⟨σ',H',J,q⟩:=hs
  exact fin (v:=V.non) (u:=Value.none) J rfl q
 |brk=>
  obtain⟨_,_,_,q⟩:=hs
  exact False.elim q
 |cont=>
  obtain⟨_,_,_,q⟩:=hs
  exact False.elim q
section
variable{X:Cx}{x:Str}{p pos:Pos}{e:Expr}{es:List Expr}{t:TA}{id T:String}{r:List V->Hp->VK->Prop}
noncomputable def tCB(r:List V->Hp->VK->Prop)(t:TA):TE:=fun σ H Q=>t σ H fun vs H1=>r vs H1 Q
theorem Bs(hc:iV X (.builtin id) r)(hg:Gl X x)(hm:X.mg x=none)(hv:bootBuiltins x=some (.builtin id))(ha:PA X (e::es) t)(hn:x≠"__name__":=by decide)(hdb:(x == ("__debug__":Str))=false:=by decide)
  (he:starEach (e::es) X.env=(false,eval e X.env)::starEach es X.env:=by rfl) (hpl:(backTo pos (starEach es X.env)).any (·.1)=false:=by rfl):PE X (.Call (.Name x p) (e::es) [] pos) (tCB r t):=by
 intro pins s σ H Q I h
 refine wpAny_Call_Name_kw (mH I hg hm hv ?_ hn hdb)
 exact PyProof.Rows.callWith_builtin1 (thn (ha pos pins s σ H _ I h) fun us s1 ⟨vs,H1,I1,r1,q1⟩=>hc pins s1 σ H1 vs us Q I1 r1 q1) he hpl
theorem yr(hc:iV X (.type T) r)(hg:Gl X x)(hm:X.mg x=none)(hv:bootBuiltins x=some (.type T))(ha:PA X (e::es) t)(hn:x≠"__name__":=by decide)(hdb:(x == ("__debug__":Str))=false:=by decide)
  (he:starEach (e::es) X.env=(false,eval e X.env)::starEach es X.env:=by rfl) (hpl:(backTo pos (starEach es X.env)).any (·.1)=false:=by rfl):PE X (.Call (.Name x p) (e::es) [] pos) (tCB r t):=by
 intro pins s σ H Q I h
 refine wpAny_Call_Name_kw (mH I hg hm hv ?_ hn hdb)
 exact PyProof.Rows.callWith_type1 (thn (ha pos pins s σ H _ I h) fun us s1 ⟨vs,H1,I1,r1,q1⟩=>hc pins s1 σ H1 vs us Q I1 r1 q1) he hpl
end
end L2
namespace HT
open PySem PyProof.Rows
section
variable{prog:Program}{w:World}{A:Around}{E:Value->Shared->Prop}{s:Shared}
theorem cat_tup{t b:Addr}{vs ws:List Value}{Q:Value->Shared->Prop}(ht:IsTup s.heap t vs.toArray)(hb:IsTup s.heap b ws.toArray)(hv:vs≠[])
  (h1:ws=[]->Q (.ref t) s) (h2:ws≠[]->Q (.ref s.heap.objs.size) { s with heap:=s.heap.push { cls:=.type "tuple",data:=.seq (vs++ws).toArray } })
  (hsz:vs.length+ws.length<=sizeLine):wpAny (model prog w) A (binaryOp .Add (.ref t) (.ref b)) Q E s:=by
 obtain⟨⟨cls,dd,data,sl⟩,ho,hc,n,hd⟩:=id ht
 obtain⟨⟨cls2,dd2,data2,sl2⟩,ho2,hc2,n2,hd2⟩:=id hb
 simp only at hc hd hc2 hd2
 subst hc hd hc2 hd2
 have e:vs.toArray++ws.toArray=(vs++ws).toArray:=by simp
 by_cases hw:ws=[]
 ·exact concat_meets ⟨_,ho,rfl⟩ ⟨_,ho2,rfl⟩ noFill_tuple_add seq_tuple_add PySem.F.slot_tuple_add PySem.F.entry_tuple_add (PySem.F.args_tuple_add_2 _ _)
   (tuple_addW1 t b vs.toArray ws.toArray n n2 dd dd2 sl sl2 (by simpa using hv) (by simp[hw])) ⟨ho,ho2,h1 hw⟩
 ·refine concat_meets ⟨_,ho,rfl⟩ ⟨_,ho2,rfl⟩ noFill_tuple_add seq_tuple_add PySem.F.slot_tuple_add PySem.F.entry_tuple_add (PySem.F.args_tuple_add_2 _ _)
   (tuple_addW2 t b vs.toArray ws.toArray n n2 dd dd2 sl sl2 (by simpa using hv) (by simpa using hw) (by rw[List.size_toArray,List.size_toArray];exact hsz)) ⟨ho,ho2,?_⟩
  rw[e]
  exact h2 hw
noncomputable def sIx(n d:Nat):Option Int->Nat
 |none=>d
 |some v=>if v<0 then(v+(n:Int)).toNat else min v.toNat n
theorem Hs(n d:Nat)(hd:d<=n)(o:Option Int):sIx n d o<=n:=by
 cases o with
 |none=>exact hd
 |some v=>
  show(if v<0 then(v+(n:Int)).toNat else min v.toNat n)<=n
  by_cases hv:v<0
  ·rw[if_pos hv];omega
  ·rw[if_neg hv];exact Nat.min_le_right _ _
theorem zL(v:Int)(n d:Nat):(if v<0 then max (v+(n:Int)) 0 else min v (n:Int))=((sIx n d (some v):Nat):Int):=by
 show(if v<0 then max (v+(n:Int)) 0 else min v (n:Int))=(((if v<0 then(v+(n:Int)).toNat else min v.toNat n):Nat):Int)
 by_cases hv:v<0
 ·simp only[if_pos hv];omega
 ·simp only[if_neg hv];omega
theorem w9(lo hi:Option Int)(n:Nat):Builtin.Slice.sliceAdjust lo hi 1 (n:Int)=(((sIx n 0 lo:Nat):Int),((sIx n n hi:Nat):Int)):=by
 have h1:¬((1:Int)<0):=by omega
 unfold Builtin.Slice.sliceAdjust
 simp only[h1,if_false]
 refine Prod.ext ?_ ?_
 ·cases lo with
  |none=>rfl
  |some v=>exact zL v n 0
 ·cases hi with
  |none=>rfl
  |some v=>exact zL v n n
theorem wx(i j:Nat):Builtin.Slice.slicePlaces (i:Int) (j:Int) 1=j-i:=by
 unfold Builtin.Slice.slicePlaces
 have h1:(1:Int)>0:=by omega
 simp only[h1,if_true,Int.ediv_one]
 split<;>omega
theorem pE{v:Value}{o:Option Int}{Q:Option Int->Shared->Prop}(p:IsPart v o)(h:Q o s):wpAny (model prog w) A (Builtin.Slice.slicePartIndex v) Q E s:=by
 cases p with
 |none=>exact slicePart_none h
 |int i t=>exact slicePart_int h
theorem mJ{sl:Addr}{vl vu:Value}{lo hi:Option Int}{n:Nat}{Q:Int×Int×Nat->Shared->Prop}(hs:s.heap.IsSliceOf sl vl vu .none)(pl:IsPart vl lo)(pu:IsPart vu hi)
  (h:Q (((sIx n 0 lo:Nat):Int),1,sIx n n hi-sIx n 0 lo) s):wpAny (model prog w) A (Builtin.Slice.sliceApplied (.ref sl) (pure (n:Int))) Q E s:=by
 obtain⟨os,hos,hcs,hds⟩:=id hs
 unfold Builtin.Slice.sliceApplied Builtin.Slice.sliceFields
 refine wpAny_bind (wpAny_bind (wpAny_field hos hds (x:=vl) rfl (wpAny_bind (wpAny_field hos hds (x:=vu) rfl (wpAny_bind (wpAny_field hos hds (x:=.none) rfl (wpAny_pure ?_)))))))
 refine wpAny_bind (slicePart_none ?_)
 show wpAny _ _ (if ((1:Int) == 0)=true then _ else _) _ _ s
 rw[if_neg (by decide)]
 refine wpAny_bind (pE pl (wpAny_bind (pE pu (wpAny_bind (wpAny_pure ?_)))))
 show wpAny _ _ (match Builtin.Slice.sliceAdjust lo hi 1 (n:Int)with|(lo,hi)=>pure (lo,(1:Int),Builtin.Slice.slicePlaces lo hi 1)) _ _ s
 rw[w9 lo hi n]
 show wpAny _ _ (pure (((sIx n 0 lo:Nat):Int),(1:Int),Builtin.Slice.slicePlaces ((sIx n 0 lo:Nat):Int) ((sIx n n hi:Nat):Int) 1)) _ _ s
 rw[wx]
 exact wpAny_pure h
theorem Bl(xs:Array Value)(i k:Nat):((List.range k).filterMap fun(m:Nat)=>xs[((i:Int)+(m:Int)*1).toNat]?).toArray=((xs.toList.drop i).take k).toArray:=by
 have e:(fun(m:Nat)=>xs[((i:Int)+(m:Int)*1).toNat]?)=fun m=>xs[i+m]?:=by
  funext m
  have:((i:Int)+(m:Int)*1).toNat=i+m:=by omega
  rw[this]
 rw[e]
 have:=pick_run xs i k
 rw[List.filterMap_map]at this
 have e2:((fun x=>xs[x]?) ∘ fun x=>i+x)=fun m=>xs[i+m]?:=rfl
 rw[e2]at this
 rw[this]
theorem getItem_tuple_cut{t sl:Addr}{items:Array Value}{vl vu:Value}{lo hi:Option Int}{Q:Value->Shared->Prop}(ht:IsTup s.heap t items)(hs:s.heap.IsSliceOf sl vl vu .none)(pl:IsPart vl lo)(pu:IsPart vu hi)
  (hw:¬(sIx items.size 0 lo=0/\sIx items.size items.size hi=items.size))
  (h:Q (.ref s.heap.objs.size) { s with heap:=s.heap.push { cls:=.type "tuple",data:=.seq ((items.toList.drop (sIx items.size 0 lo)).take (sIx items.size items.size hi-sIx items.size 0 lo)).toArray } })
  (hsz:items.size<=sizeLine):wpAny (model prog w) A (getItem (.ref t) (.ref sl)) Q E s:=by
 have htake:sizeOk (.seq ((items.toList.drop (sIx items.size 0 lo)).take (sIx items.size items.size hi-sIx items.size 0 lo)).toArray):=by
  show((items.toList.drop (sIx items.size 0 lo)).take (sIx items.size items.size hi-sIx items.size 0 lo)).toArray.size<=sizeLine
  rw[List.size_toArray,List.length_take,List.length_drop,Array.length_toList]
  omega
 have hj:sIx items.size items.size hi<=items.size:=Hs _ _ (Nat.le_refl _) hi
 obtain⟨os,hos,hcs,hds⟩:=id hs
 have hTs:s.TypeIs (.ref sl) "slice":=⟨os,hos,hcs⟩
 unfold getItem
 try with_reducible refine wpAny_holding ?_
 first|refine wpAny_bind (wpAny_pure ?_)|skip
 refine wpAny_bind (wpAny_sequenceKey ht.typeIs (by decide) ?_)
 refine wpAny_bind (wpAny_callSpecial?_slot (name:=Str.ofString "__getitem__") ht.typeIs PyProof.Rows.slot_tuple_getitem
  (wpAny_call_entry PyProof.Rows.slot_tuple_getitem ht.typeIs entry_tuple_getitem ?_ (args_tuple_getitem _ _)))
 show wpAny _ _ (Builtin.Tuple.tupleItemsOf (.ref t) >>= _) _ _ s
 refine wpAny_bind (tupleItemsOf_ ht ?_)
 refine wpAny_bind (wpAny_typeOf hTs ?_)
 rw[if_pos (by decide)]
 refine wpAny_bind (mJ hs pl pu ?_)
 have hno:¬((((sIx items.size 0 lo:Nat):Int) == 0&&(1:Int) == 1&&(sIx items.size items.size hi-sIx items.size 0 lo) == items.size)=true):=by
  intro q
  rw[Bool.and_eq_true,Bool.and_eq_true]at q
  have q1:((sIx items.size 0 lo:Nat):Int)=0:=eq_of_beq q.1.1
  have q2:sIx items.size items.size hi-sIx items.size 0 lo=items.size:=eq_of_beq q.2
  exact hw ⟨by omega,by omega⟩
 show wpAny _ _ (if (((sIx items.size 0 lo:Nat):Int) == 0&&(1:Int) == 1&&(sIx items.size items.size hi-sIx items.size 0 lo) == items.size)=true then _ else _) _ _ s
 rw[if_neg hno,Bl]
 first
  |exact wpAny_bind (m:=Builtin.Tuple.tupleExact _) (wpAny_newObj_type (wpAny_pure ⟨_,rfl,wpAny_pure h⟩) htake)
  |exact wpAny_bind (m:=Builtin.Tuple.tupleExact _) (wpAny_newObj_type (wpAny_bind (wpAny_pure (wpAny_pure ⟨_,rfl,wpAny_pure h⟩))) htake)
  |exact wpAny_bind (wpAny_bind (m:=Builtin.Tuple.tupleExact _) (wpAny_newObj_type (wpAny_pure (wpAny_pure ⟨_,rfl,wpAny_pure h⟩)) htake))
  |exact wpAny_bind (wpAny_bind (m:=Builtin.Tuple.tupleExact _) (wpAny_newObj_type (wpAny_pure ⟨_,rfl,wpAny_pure h⟩) htake))
end
end HT
namespace L2
open PySem PySem.Spec PyProof.Rows
noncomputable abbrev TO:=St->Hp->(Option Int->Hp->Prop)->Prop
noncomputable def PO(X:Cx)(e:Option Expr)(t:TO):Prop:=
 ∀(pins:List (Addr×Obj)) (s:Shared) (σ:St) (H:Hp) (Q:Option Int->Hp->Prop),Inv X pins σ H s->t σ H Q->
  wpAny (model X.prog X.w) X.A (evalPart e X.env) (fun u s'=>∃o H',Inv X pins σ H' s'/\IsPart u o/\Q o H') X.xe s
noncomputable def xQ:TO:=fun _ H Q=>Q none H
noncomputable def Hh(t:TE):TO:=fun σ H Q=>t σ H fun x H1=>∃i,x=.int i/\Q (some i) H1
section
variable{X:Cx}{e:Expr}{te:TE}{lo hi:Option Expr}{tl th:TO}{pos p2:Pos}
theorem EF:PO X none xQ:=by
 intro pins s σ H Q I h
 rw[evalPart_none]
 exact wpAny_pure ⟨none,H,I,.none,h⟩
theorem EE(h:PE X e te):PO X (some e) (Hh te):=by
 intro pins s σ H Q I hw
 rw[evalPart_some]
 refine thn (h pins s σ H _ I hw) fun u s1 hz=>?_
 obtain⟨x,H1,I1,r1,q1⟩:=hz
 obtain⟨i,rfl,q⟩:=q1
 obtain⟨t,rfl⟩:=r1
 exact⟨some i,H1,I1,.int i t,q⟩
noncomputable def SlR(X:Cx)(r:V->Option Int->Option Int->Hp->VK->Prop):Prop:=
 ∀(pins:List (Addr×Obj)) (s:Shared) (σ:St) (H:Hp) (x:V) (v vl vu:Value) (lo hi:Option Int) (sl:Addr) (Q:VK),Inv X pins σ H s->dj x v->s.heap.IsSliceOf sl vl vu .none->IsPart vl lo->IsPart vu hi->r x lo hi H Q->
  ∃T id,typeLookup (.type T) "__getitem__"=pure (some (.builtin id))/\s.TypeIs v T/\wpAny (model X.prog X.w) X.A (getItem v (.ref sl)) (EP X pins σ Q) X.xe s
theorem SlR.or{r r':V->Option Int->Option Int->Hp->VK->Prop}(h:SlR X r)(h':SlR X r'):SlR X (fun x lo hi H Q=>r x lo hi H Q\/r' x lo hi H Q):=by
 intro pins s σ H x v vl vu lo hi sl Q I rx hs pl pu q
 rcases q with q|q
 ·exact h pins s σ H x v vl vu lo hi sl Q I rx hs pl pu q
 ·exact h' pins s σ H x v vl vu lo hi sl Q I rx hs pl pu q
noncomputable def tSl(r:V->Option Int->Option Int->Hp->VK->Prop)(te:TE)(tl th:TO):TE:=fun σ H Q=>te σ H fun x H1=>tl σ H1 fun l H2=>th σ H2 fun u H3=>r x l u H3 Q
theorem Bn{r:V->Option Int->Option Int->Hp->VK->Prop}(hr:SlR X r)(he:PE X e te)(hl:PO X lo tl)(hu:PO X hi th):PE X (.Subscript e (.Slice lo hi none p2) pos) (tSl r te tl th):=by
 intro pins s σ H Q I h
 refine Subscript_ (thn (he pins s σ H _ I h) fun v s1 hz=>?_)
 obtain⟨x,H1,I1,r1,q1⟩:=hz
 refine wpAny_Slice (thn (hl pins s1 σ H1 _ I1 q1) fun vl s2 ⟨l,H2,I2,pl,q2⟩=>thn (hu pins s2 σ H2 _ I2 q2) fun vu s3 hz=>?_)
 obtain⟨u,H3,I3,pu,q3⟩:=hz
 rw[evalPart_none]
 refine wpAny_pure ?_
 have I4:Inv X pins σ H3 { s3 with heap:=s3.heap.push { cls:=.type "slice",data:=.fields #[vl,vu,.none] } }:=I3.kept (t':=s3.toks) fun b ob q=>Heap.get?_push_of_some _ q
 obtain⟨T,id,hT,ht,hg⟩:=hr pins { s3 with heap:=s3.heap.push { cls:=.type "slice",data:=.fields #[vl,vu,.none] } } σ H3 x v vl vu l u s3.heap.objs.size Q I4 r1 (Heap.IsSliceOf.new ..) pl pu q3
 show wpAny (model X.prog X.w) X.A (subscriptTail e (.Slice lo hi none p2) v (.ref s3.heap.objs.size)) (EP X pins σ Q) X.xe { s3 with heap:=s3.heap.push { cls:=.type "slice",data:=.fields #[vl,vu,.none] } }
 exact tail_any (ops:=[.ref s3.heap.objs.size,v]) ht hT hg (by with_unfolding_all rfl)
noncomputable def zJ(xs:List V)(lo hi:Option Int):List V:=(xs.drop (HT.sIx xs.length 0 lo)).take (HT.sIx xs.length xs.length hi-HT.sIx xs.length 0 lo)
theorem oy(xs:List V)(lo hi:Option Int):(zJ xs lo hi).length<=xs.length:=by
 unfold zJ
 rw[List.length_take,List.length_drop]
 omega
noncomputable def MD(K:PySem.W.Frag):V->Option Int->Option Int->Hp->VK->Prop:=fun x lo hi H Q=>∃a xs,x=.ref a/\SqT K H a xs/\
 ¬(HT.sIx xs.length 0 lo=0/\HT.sIx xs.length xs.length hi=xs.length)/\∀p,H p=none->Q (.ref p) (upd H p (.tup (zJ xs lo hi)))
theorem Hr:SlR X (MD X.K):=by
 intro pins s σ H x v vl vu lo hi sl Q I rx hs pl pu h
 obtain⟨a,xs,rfl,hx,hw,q⟩:=h
 cases rx
 obtain⟨its,r,ht,hz⟩:=I.tuple hx
 have fT:its.toArray.size=xs.length:=by rw[List.size_toArray];exact r.length.symm
 refine⟨"tuple",_,PyProof.Rows.slot_tuple_getitem.lookup,ht.typeIs,?_⟩
 refine HT.getItem_tuple_cut ht hs pl pu (by rw[fT];exact hw) ?_ (by rw[fT];exact hz)
 rw[fT]
 refine⟨.ref s.heap.objs.size,_,I.laid (t':=s.toks) (o:=.tup (zJ xs lo hi)) (fun b ob q=>Heap.get?_push_of_some _ q) (Nat.le_refl _) ?_,rfl,q _ (I.hok.fresh (Nat.le_refl _))⟩
 exact⟨Nat.le_trans (oy xs lo hi) hz,_,(r.drop (HT.sIx xs.length 0 lo)).take (HT.sIx xs.length xs.length hi-HT.sIx xs.length 0 lo),IsTup.new _ _⟩
noncomputable def KJ(K:PySem.W.Frag):R2:=fun x y H Q=>∃a b xs ys,x=.ref a/\y=.ref b/\SqT K H a xs/\SqT K H b ys/\xs≠[]/\xs.length+ys.length<=sizeLine/\
 (ys=[]->Q (.ref a) H)/\(ys≠[]->∀p,H p=none->Q (.ref p) (upd H p (.tup (xs++ys))))
theorem b8.nil_iff{xs:List V}{us:List Value}(r:b8 xs us):us=[]↔xs=[]:=by
 cases r with
 |nil=>simp
 |cons _ _=>simp
theorem EX:OpR X (binaryOp .Add) (KJ X.K):=by
 intro pins s σ H x y v u Q I rx ry h
 obtain⟨a,b,xs,ys,rfl,rfl,ha,hb,hx,hz,q1,q2⟩:=h
 cases rx
 cases ry
 obtain⟨its,r1,p1,_⟩:=I.tuple ha
 obtain⟨its2,r2,p2,_⟩:=I.tuple hb
 refine HT.cat_tup p1 p2 (fun z=>hx (r1.nil_iff.mp z)) (fun z=>⟨.ref a,H,I,rfl,q1 (r2.nil_iff.mp z)⟩) (fun z=>?_) (by rw[<-r1.length,<-r2.length];exact hz)
 refine⟨.ref s.heap.objs.size,_,I.laid (t':=s.toks) (o:=.tup (xs++ys)) (fun b ob q=>Heap.get?_push_of_some _ q) (Nat.le_refl _) ?_,rfl,q2 (fun w=>z (r2.nil_iff.mpr w)) _ (I.hok.fresh (Nat.le_refl _))⟩
 exact⟨by rw[List.length_append];exact hz,_,r1.append r2,IsTup.new _ _⟩
end
noncomputable def ixN(n:Nat)(i:Int):Option Nat:=if 0<=i then(if i<n then some i.toNat else none)else if -(n:Int)<=i then some (i+n).toNat else none
noncomputable def atI{α:Type}(xs:List α)(i:Int):Option α:=(ixN xs.length i).bind fun j=>xs[j]?
theorem yV{n:Nat}{i:Int}{j:Nat}(h:ixN n i=some j):seqIndex? i n=some j/\j<n/\-(n:Int)<=i/\i<n:=by
 unfold ixN at h
 by_cases h0:0<=i
 ·rw[if_pos h0]at h
  by_cases h1:i<n
  ·rw[if_pos h1]at h
   have e:i.toNat=j:=Option.some.inj h
   exact⟨by rw[seqIndex_of h0 h1,e],by omega,by omega,h1⟩
  ·rw[if_neg h1]at h;cases h
 ·rw[if_neg h0]at h
  by_cases h1:-(n:Int)<=i
  ·rw[if_pos h1]at h
   have e:(i+n).toNat=j:=Option.some.inj h
   exact⟨by rw[seqIndex_neg (by omega) h1,e],by omega,h1,by omega⟩
  ·rw[if_neg h1]at h;cases h
theorem z9{α:Type}{xs:List α}{i:Int}{v:α}(h:atI xs i=some v):∃j,seqIndex? i xs.length=some j/\xs[j]?=some v/\j<xs.length/\-(xs.length:Int)<=i/\i<xs.length:=by
 unfold atI at h
 cases e:ixN xs.length i with
 |none=>rw[e]at h;cases h
 |some j=>
  rw[e]at h
  obtain⟨h1,h2,h3,h4⟩:=yV e
  exact⟨j,h1,h,h2,h3,h4⟩
theorem oK{α:Type}{xs:List α}{j:Nat}{v:α}(h:xs[j]?=some v):atI xs (j:Int)=some v:=by
 have hj:j<xs.length:=(List.getElem?_eq_some_iff.mp h).1
 have e:ixN xs.length (j:Int)=some j:=by
  unfold ixN
  rw[if_pos (by omega),if_pos (by omega)];simp
 unfold atI;rw[e];exact h
noncomputable def uJ(b:Expr):Prop:=∀o i,subscripted b false o i=operate [o,i] (getItem o i)
noncomputable def IxR(X:Cx)(r:R2):Prop:=
 ∀(value slice:Expr) (pins:List (Addr×Obj)) (s:Shared) (σ:St) (H:Hp) (x y:V) (v u:Value) (Q:VK),Inv X pins σ H s->dj x v->dj y u->r x y H Q->
  subscripted slice false v u=operate [v,u] (getItem v u)->wpAny (model X.prog X.w) X.A (subscriptTail value slice v u) (EP X pins σ Q) X.xe s
noncomputable def MtR(X:Cx)(id:String)(r:V->List V->Hp->VK->Prop):Prop:=
 ∀(pins:List (Addr×Obj)) (s:Shared) (σ:St) (H:Hp) (x:V) (xs:List V) (v:Value) (us:List Value) (Q:VK),Inv X pins σ H s->dj x v->b8 xs us->r x xs H Q->
  wpAny (model X.prog X.w) X.A (call (.builtin id) (v::us)) (EP X pins σ Q) X.xe s
section
variable{X:Cx}{a b:Expr}{ta tb:TE}{pos:Pos}
theorem IxR.or{r r':R2}(h:IxR X r)(h':IxR X r'):IxR X (fun x y H Q=>r x y H Q\/r' x y H Q):=by
 intro value slice pins s σ H x y v u Q I rx ry q hs
 rcases q with q|q
 ·exact h value slice pins s σ H x y v u Q I rx ry q hs
 ·exact h' value slice pins s σ H x y v u Q I rx ry q hs
theorem KZ{r:R2}(hr:IxR X r)(ha:PE X a ta)(hb:PE X b tb)(hs:uJ b):PE X (.Subscript a b pos) (tOp r ta tb):=by
 intro pins s σ H Q I h
 exact Subscript_ (Lx ha hb I h fun v u s2 x y H2 I2 rx ry q=>hr a b pins s2 σ H2 x y v u Q I2 rx ry q (hs _ _))
noncomputable def MG(K:PySem.W.Frag):R2:=fun x y H Q=>∃p xs i v,x=.ref p/\y=.int i/\SqL K H p xs/\atI xs i=some v/\Q v H
noncomputable def MF(K:PySem.W.Frag):R2:=fun x y H Q=>∃p xs i v,x=.ref p/\y=.int i/\SqT K H p xs/\atI xs i=some v/\Q v H
theorem Fe:IxR X (MG X.K):=by
 intro value slice pins s σ H x y v u Q I rx ry h hs
 obtain⟨p,xs,i,z,rfl,rfl,hq,he,q⟩:=h
 cases rx
 obtain⟨t,rfl⟩:=ry
 obtain⟨its,r,pl,hz⟩:=I.list hq
 obtain⟨j,h1,h2,h3,h4,h5⟩:=z9 he
 obtain⟨w,ew,rw'⟩:=r.get h2
 have hl:=r.length
 have hn:=vz
 have fin:EP X pins σ Q w s:=⟨z,H,I,rw',q⟩
 by_cases h0:0<=i
 ·have hj:i.toNat=j:=by
   rw[seqIndex_of h0 h5]at h1
   exact Option.some.inj h1
  exact item_listR pl.isList h0 (by omega) (by rw[hj];simpa using ew) fin hs
 ·have hj:(i+(its.toArray.size:Int)).toNat=j:=by
   rw[seqIndex_neg (by omega) h4]at h1
   rw[List.size_toArray,<-hl]
   exact Option.some.inj h1
  exact subscriptTail_builtinR (x:=w) pl.isList.typeIs slot_list_getitem.lookup
   (wpAny_getItem_list_neg (Q:=fun r s'=>r=w/\EP X pins σ Q r s') pl.isList (by omega) (by rw[List.size_toArray]<;>omega) (by omega) (by rw[hj];simpa using ew) ⟨rfl,fin⟩) hs
theorem IQ:IxR X (MF X.K):=by
 intro value slice pins s σ H x y v u Q I rx ry h hs
 obtain⟨p,xs,i,z,rfl,rfl,hq,he,q⟩:=h
 cases rx
 obtain⟨t,rfl⟩:=ry
 obtain⟨its,r,pl,hz⟩:=I.tuple hq
 obtain⟨j,h1,h2,h3,h4,h5⟩:=z9 he
 obtain⟨w,ew,rw'⟩:=r.get h2
 have hl:=r.length
 have hn:=vz
 have fin:EP X pins σ Q w s:=⟨z,H,I,rw',q⟩
 exact subscriptTail_builtinR (x:=w) pl.typeIs slot_tuple_getitem.lookup
  (getItem_tuple (j:=j) (Q:=fun r s'=>r=w/\EP X pins σ Q r s') pl (by omega) (by omega) (by rw[List.size_toArray,<-hl];exact h1) (by simpa using ew) ⟨rfl,fin⟩) hs
theorem wA(its:List Value)(n j:Nat)(u:Value):Obj.mapSeq (·.setIfInBounds j u) { cls:=.type "list",data:=.seq its.toArray n }={ cls:=.type "list",data:=.seq (its.set j u).toArray n }:=by
 simp[Obj.mapSeq]
theorem Inv.lst{pins:List (Addr×Obj)}{σ:St}{H:Hp}{s:Shared}{p:Addr}{xs:List V}(I:Inv X pins σ H s)(h:H p=some (.lst xs)) :
  ∃(its:List Value) (n:Nat),b8 xs its/\s.heap.get? p=some { cls:=.type "list",data:=.seq its.toArray n }/\xs.length<=sizeLine:=by
 obtain⟨z,its,n,r,e⟩:=I.hok p _ h
 exact⟨its,n,r,e,z⟩
theorem Inv.lstUpd{pins:List (Addr×Obj)}{σ:St}{H:Hp}{s:Shared}{p:Addr}{xs ys:List V}{its its':List Value}{n n':Nat}{f:Obj->Obj}(I:Inv X pins σ H s)(h:H p=some (.lst xs))
  (ho:s.heap.get? p=some { cls:=.type "list",data:=.seq its.toArray n }) (hf:f { cls:=.type "list",data:=.seq its.toArray n }={ cls:=.type "list",data:=.seq its'.toArray n' }) (r:b8 ys its') (hz:ys.length<=sizeLine) (t:Nat) :
  Inv X pins σ (upd H p (.lst ys)) { s with heap:=s.heap.update p f,toks:=t }:=by
 have e:(s.heap.update p f).get? p=some { cls:=.type "list",data:=.seq its'.toArray n' }:=by
  rw[Heap.get?_update_self f ho (by rw[hf]<;>rfl),hf]
 refine I.write (x:=p) (e:=p) (by rw[h];trivial) (.inl rfl) (fun b u hb q=>(Heap.get?_update_other _ _ (Ne.symm hb)).trans q) ⟨_,e⟩ ?_
 exact⟨hz,its',n',r,e⟩
noncomputable def KH:V->V->V->Hp->(Hp->Prop)->Prop:=fun o i v H Q=>∃p xs k j,o=.ref p/\i=.int k/\H p=some (.lst xs)/\ixN xs.length k=some j/\Q (upd H p (.lst (xs.set j v)))
theorem A4:LD X KH:=by
 intro pins s σ H o i v ov iv u Q I ro ri rv h
 obtain⟨p,xs,k,j,rfl,rfl,hp,hj,q⟩:=h
 cases ro
 obtain⟨t,rfl⟩:=ri
 obtain⟨its,n,r,ho,hz⟩:=I.lst hp
 obtain⟨h1,h2,h3,h4⟩:=yV hj
 have hl:=r.length
 have hn:=vz
 have I':Inv X pins σ (upd H p (.lst (xs.set j v))) { s with heap:=s.heap.update p (Obj.mapSeq (·.setIfInBounds j u)) }:=
  I.lstUpd hp ho (wA its n j u) (r.set rv j) (by rw[List.length_set];exact hz) s.toks
 by_cases h0:0<=k
 ·have hk:k.toNat=j:=by
   rw[seqIndex_of h0 h4]at h1
   exact Option.some.inj h1
  exact PySem.W.ki_setAt ho h0 (by omega) (by rw[List.size_toArray,<-hl];exact h4) (by rw[hk];exact⟨_,I',q⟩)
 ·have hk:(k+(its.toArray.size:Int)).toNat=j:=by
   rw[seqIndex_neg (by omega) h3]at h1
   rw[List.size_toArray,<-hl]
   exact Option.some.inj h1
  exact PySem.W.ki_setBack ho (by omega) (by rw[List.size_toArray,<-hl];exact h3) (by omega) (by rw[hk];exact⟨_,I',q⟩)
theorem se(lo hi:Option Int)(n:Nat):(sliceBounds lo hi none n).1=((HT.sIx n 0 lo:Nat):Int)/\(sliceBounds lo hi none n).2.1=((HT.sIx n n hi:Nat):Int)/\(sliceBounds lo hi none n).2.2=1:=by
 refine⟨?_,?_,rfl⟩
 ·cases lo with
  |none=>simp[sliceBounds,HT.sIx]
  |some i=>
   simp only[sliceBounds,HT.sIx,Option.getD_none,show(1:Int)>0 by decide,if_true]
   by_cases h:i<0
   ·simp only[h,if_true]<;>omega
   ·simp only[h,if_false]<;>omega
 ·cases hi with
  |none=>simp[sliceBounds,HT.sIx]
  |some i=>
   simp only[sliceBounds,HT.sIx,Option.getD_none,show(1:Int)>0 by decide,if_true]
   by_cases h:i<0
   ·simp only[h,if_true]<;>omega
   ·simp only[h,if_false]<;>omega
theorem qx(its:List Value)(lo hi:Option Int):slicePick its.toArray lo hi none=((its.drop (HT.sIx its.length 0 lo)).take (HT.sIx its.length its.length hi-HT.sIx its.length 0 lo)).toArray:=by
 obtain⟨h1,h2,h3⟩:=se lo hi its.toArray.size
 unfold slicePick
 rw[h1,h2,h3]
 simp only[sliceRange_one,pick_run,List.size_toArray]<;>rfl
noncomputable def ME(K:PySem.W.Frag):V->Option Int->Option Int->Hp->VK->Prop:=fun x lo hi H Q=>∃a xs,x=.ref a/\SqL K H a xs/\∀p,H p=none->Q (.ref p) (upd H p (.lst (zJ xs lo hi)))
theorem xY:SlR X (ME X.K):=by
 intro pins s σ H x v vl vu lo hi sl Q I rx hs pl pu h
 obtain⟨a,xs,rfl,hx,q⟩:=h
 cases rx
 obtain⟨its,r,ht,hz⟩:=I.list hx
 have fT:=r.length
 refine⟨"list",_,slot_list_getitem.lookup,ht.isList.typeIs,?_⟩
 refine wpAny_getItem_list_slice ht.isList hs pl pu .none (by simp) ?_ (by rw[List.size_toArray]<;>omega)
 rw[qx,<-fT]
 refine⟨.ref s.heap.objs.size,_,I.laid (t':=s.toks) (o:=.lst (zJ xs lo hi)) (fun b ob q=>Heap.get?_push_of_some _ q) (Nat.le_refl _) ?_,rfl,q _ (I.hok.fresh (Nat.le_refl _))⟩
 exact⟨Nat.le_trans (oy xs lo hi) hz,_,0,(r.drop (HT.sIx xs.length 0 lo)).take (HT.sIx xs.length xs.length hi-HT.sIx xs.length 0 lo),Heap.get?_push_size _ rfl⟩
noncomputable def o7:V->Bool
 |.non=>true
 |.bl _=>true
 |.int _=>true
 |.str _=>true
 |_=>false
noncomputable def eqV:V->V->Bool
 |.non,.non=>true
 |.bl a,.bl b=>a == b
 |.bl a,.int b=>(if a then 1 else 0) == b
 |.int a,.bl b=>a == (if b then 1 else 0)
 |.int a,.int b=>a == b
 |.str a,.str b=>a == b
 |_,_=>false
theorem Jf{A:Around}{s:Shared}{y x:V}{u v:Value}(ry:dj y u)(rx:dj x v)(fy:o7 y=true)(fx:o7 x=true):SeqAt.EqAt A s u v (eqV y x):=by
 cases y with
 |non=>
  cases ry
  cases x with
  |non=>cases rx;exact SeqAt.EqAt.same _
  |bl b=>cases rx;exact SeqAt.EqAt.none_bool b
  |int b=>obtain⟨t,rfl⟩:=rx;exact SeqAt.EqAt.none_int b t
  |str b=>obtain⟨t,rfl⟩:=rx;exact SeqAt.EqAt.none_str b t
  |_=>exact absurd (show false=true from fx) Bool.false_ne_true
 |bl a=>
  cases ry
  cases x with
  |non=>cases rx;exact SeqAt.EqAt.bool_none a
  |bl b=>cases rx;exact SeqAt.EqAt.bool_bool a b
  |int b=>obtain⟨t,rfl⟩:=rx;exact SeqAt.EqAt.bool_int a b t
  |str b=>obtain⟨t,rfl⟩:=rx;exact SeqAt.EqAt.bool_str a b t
  |_=>exact absurd (show false=true from fx) Bool.false_ne_true
 |int a=>
  obtain⟨t',rfl⟩:=ry
  cases x with
  |non=>cases rx;exact SeqAt.EqAt.int_none a t'
  |bl b=>cases rx;exact SeqAt.EqAt.int_bool a t' b
  |int b=>obtain⟨t,rfl⟩:=rx;exact SeqAt.EqAt.int_int a t' b t
  |str b=>obtain⟨t,rfl⟩:=rx;exact SeqAt.EqAt.int_str a t' b t
  |_=>exact absurd (show false=true from fx) Bool.false_ne_true
 |str a=>
  obtain⟨t',rfl⟩:=ry
  cases x with
  |non=>cases rx;exact SeqAt.EqAt.str_none a t'
  |bl b=>cases rx;exact SeqAt.EqAt.str_bool a t' b
  |int b=>obtain⟨t,rfl⟩:=rx;exact SeqAt.EqAt.str_int a t' b t
  |str b=>obtain⟨t,rfl⟩:=rx;exact SeqAt.EqAt.str_str a t' b t
  |_=>exact absurd (show false=true from fx) Bool.false_ne_true
 |_=>exact absurd (show false=true from fy) Bool.false_ne_true
noncomputable def eqU(x:V)(u:Value):Bool:=match u with
 |.none=>eqV .non x
 |.bool b=>eqV (.bl b) x
 |.int i _=>eqV (.int i) x
 |.str z _=>eqV (.str z) x
 |_=>false
theorem Dh{x y:V}{u:Value}(r:dj y u)(f:o7 y=true):eqU x u=eqV y x:=by
 cases y with
 |non=>cases r;rfl
 |bl b=>cases r;rfl
 |int i=>obtain⟨t,rfl⟩:=r;rfl
 |str z=>obtain⟨t,rfl⟩:=r;rfl
 |_=>exact absurd (show false=true from f) Bool.false_ne_true
theorem oM{x:V}:∀{xs:List V} {us:List Value},b8 xs us->xs.all o7=true->us.any (eqU x)=xs.any fun y=>eqV y x
 |_,_,.nil,_=>rfl
 |y::xs,u::us,.cons r t,f=>by
  rw[List.all_cons,Bool.and_eq_true]at f
  rw[List.any_cons,List.any_cons,Dh r f.1,oM t f.2]
theorem kZ{A:Around}{s:Shared}{x:V}{v:Value}(rx:dj x v)(fx:o7 x=true):∀{xs:List V} {us:List Value},b8 xs us->xs.all o7=true->∀u∈us,SeqAt.EqAt A s u v (eqU x u)
 |_,_,.nil,_=>fun u hu=>by cases hu
 |y::xs,u::us,.cons r t,f=>fun u' hu=>by
  rw[List.all_cons,Bool.and_eq_true]at f
  rcases List.mem_cons.mp hu with rfl|hu
  ·rw[Dh r f.1];exact Jf r rx f.1 fx
  ·exact kZ rx fx t f.2 u' hu
noncomputable def inV(x:V)(xs:List V):Bool:=xs.any fun y=>eqV y x
noncomputable def rIn(K:PySem.W.Frag)(neg:Bool):R2:=fun x y H Q=>∃p xs,y=.ref p/\(SqL K H p xs\/SqT K H p xs)/\o7 x=true/\xs.all o7=true/\Q (.bl (if neg then !inV x xs else inV x xs)) H
theorem su:OpR X (compareOp .In) (rIn X.K false):=by
 intro pins s σ H x y v u Q I rx ry h
 obtain⟨p,xs,rfl,hq,fx,fs,q⟩:=h
 cases ry
 rcases hq with hq|hq
 ·obtain⟨its,r,pl,hz⟩:=I.list hq
  refine SeqAt.in_listAt (eqU x) pl.isList (fun w hw=>kZ rx fx r fs w (by simpa using hw)) ⟨.bl _,H,I,rfl,?_⟩
  rw[show its.toArray.any (eqU x)=its.any (eqU x)by simp,oM r fs]
  exact q
 ·obtain⟨its,r,pl,hz⟩:=I.tuple hq
  refine SeqAt.in_tupleAt (eqU x) pl (fun w hw=>kZ rx fx r fs w (by simpa using hw)) ⟨.bl _,H,I,rfl,?_⟩
  rw[show its.toArray.any (eqU x)=its.any (eqU x)by simp,oM r fs]
  exact q
theorem mF:OpR X (compareOp .NotIn) (rIn X.K true):=by
 intro pins s σ H x y v u Q I rx ry h
 obtain⟨p,xs,rfl,hq,fx,fs,q⟩:=h
 cases ry
 rcases hq with hq|hq
 ·obtain⟨its,r,pl,hz⟩:=I.list hq
  refine SeqAt.notIn_listAt (eqU x) pl.isList (fun w hw=>kZ rx fx r fs w (by simpa using hw)) ⟨.bl _,H,I,rfl,?_⟩
  rw[show its.toArray.any (eqU x)=its.any (eqU x)by simp,oM r fs]
  exact q
 ·obtain⟨its,r,pl,hz⟩:=I.tuple hq
  refine SeqAt.notIn_tupleAt (eqU x) pl (fun w hw=>kZ rx fx r fs w (by simpa using hw)) ⟨.bl _,H,I,rfl,?_⟩
  rw[show its.toArray.any (eqU x)=its.any (eqU x)by simp,oM r fs]
  exact q
theorem tJ:iV X (.builtin "len") (fun xs H Q=>∃p ys,xs=[.ref p]/\(SqL X.K H p ys\/SqT X.K H p ys)/\Q (.int ys.length) H):=by
 intro pins s σ H xs us Q I r h
 obtain⟨p,ys,rfl,hq,q⟩:=h
 obtain⟨u,rfl,rx⟩:=rR r
 cases rx
 have hn:=vz
 rcases hq with hq|hq
 ·obtain⟨its,r',pl,hz⟩:=I.list hq
  have fT:=r'.length
  exact Calls.call_len_list pl.isList (by simp only[List.size_toArray]<;>omega) ⟨.int ys.length,H,I.tok _,⟨s.toks+1,by rw[List.size_toArray,fT]⟩,q⟩
 ·obtain⟨its,r',pl,hz⟩:=I.tuple hq
  have fT:=r'.length
  exact len_tuple pl (by simp only[List.size_toArray]<;>omega) ⟨.int ys.length,H,I.tok _,⟨s.toks+1,by rw[List.size_toArray,fT]⟩,q⟩
theorem iV.or{f:Value}{r r':List V->Hp->VK->Prop}(h:iV X f r)(h':iV X f r'):iV X f (fun xs H Q=>r xs H Q\/r' xs H Q):=by
 intro pins s σ H xs us Q I rs q
 rcases q with q|q
 ·exact h pins s σ H xs us Q I rs q
 ·exact h' pins s σ H xs us Q I rs q
theorem jE:iV X (.type "list") (fun xs H Q=>∃p ys,xs=[.ref p]/\(SqL X.K H p ys\/SqT X.K H p ys)/\∀l,H l=none->Q (.ref l) (upd H l (.lst ys))):=by
 intro pins s σ H xs us Q I r h
 obtain⟨p,ys,rfl,hq,q⟩:=h
 obtain⟨u,rfl,rx⟩:=rR r
 cases rx
 have fin:∀(its:List Value),b8 ys its->ys.length<=sizeLine->∀(h':Heap) (c':Nat),(∀b o',s.heap.get? b=some o'->h'.get? b=some o')->
   h'.get? s.heap.objs.size=some { cls:=.type "list",dict:=none,data:=.seq its.toArray c',slots:=#[] }->EP X pins σ Q (.ref s.heap.objs.size) { s with heap:=h' }:=fun its r' hz h' c' kp e=>
  ⟨.ref s.heap.objs.size,_,I.laid (t':=s.toks) kp (Nat.le_refl _) (show dz X.prog X.w _ h' _ (.lst ys)from⟨hz,its,c',r',e⟩),rfl,q _ (I.hok.fresh (Nat.le_refl _))⟩
 rcases hq with hq|hq
 ·obtain⟨its,r',pl,hz⟩:=I.list hq
  have fT:=r'.length
  obtain⟨o,ho,hc,n,hd⟩:=pl.isList
  exact call_list_seq p (.inl rfl) ho hc hd (fun h' c' kp e=>fin its r' hz h' c' kp e) (by simp only[List.size_toArray]<;>omega)
 ·obtain⟨its,r',pl,hz⟩:=I.tuple hq
  have fT:=r'.length
  obtain⟨o,ho,hc,n,hd⟩:=pl
  exact call_list_seq p (.inr rfl) ho hc hd (fun h' c' kp e=>fin its r' hz h' c' kp e) (by simp only[List.size_toArray]<;>omega)
theorem gh:iV X (.type "tuple") (fun xs H Q=>∃p ys,xs=[.ref p]/\((SqL X.K H p ys/\∀l,H l=none->Q (.ref l) (upd H l (.tup ys)))\/(SqT X.K H p ys/\Q (.ref p) H))):=by
 intro pins s σ H xs us Q I r h
 obtain⟨p,ys,rfl,h⟩:=h
 obtain⟨u,rfl,rx⟩:=rR r
 cases rx
 rcases h with⟨hq,q⟩|⟨hq,q⟩
 ·obtain⟨its,r',pl,hz⟩:=I.list hq
  have fT:=r'.length
  refine call_tuple_list pl.isList (fun h' kp=>?_) (by simp only[List.size_toArray]<;>omega)
  have I1:Inv X pins σ H { s with heap:=h' }:=I.kept (t':=s.toks) kp
  have I2:Inv X pins σ (upd H h'.objs.size (.tup ys)) { s with heap:=h'.push { cls:=.type "tuple",data:=.seq its.toArray } }:=
   I1.laid (t':=s.toks) (fun b o e=>Heap.get?_push_of_some _ e) (Nat.le_refl _) (show dz X.prog X.w _ _ _ (.tup ys)from⟨hz,its,r',IsTup.new _ _⟩)
  exact⟨.ref h'.objs.size,_,I2,rfl,q _ (I1.hok.fresh (Nat.le_refl _))⟩
 ·obtain⟨its,r',pl,hz⟩:=I.tuple hq
  exact call_tuple_same pl ⟨.ref p,H,I,rfl,q⟩
noncomputable def tyV(K:PySem.W.Frag)(T:String)(x:V)(H:Hp):Prop:=match x with
 |.str _=>T="str"
 |.int _=>T="int"
 | .ref p=>(T="list"/\∃xs,SqL K H p xs)\/(T="tuple"/\∃o,K.lookup p=some o/\o.cls=.type "tuple"/\o.dict=none)\/
   (T="dict"/\((∃kvs,H p=some (.dK kvs))\/∃kvs,H p=some (.dT kvs)))\/(T="set"/\∃S n,H p=some (.set S n))
 |_=>False
theorem CH{pins:List (Addr×Obj)}{σ:St}{H:Hp}{s:Shared}{T:String}{x:V}{v:Value}(I:Inv X pins σ H s)(r:dj x v)(ty:tyV X.K T x H) :
  s.TypeIs v T/\∀a,v=.ref a->∃ob,s.heap.get? a=some ob/\ob.dict=none:=by
 cases x with
 |str z=>
  obtain⟨t,rfl⟩:=r
  cases (show T="str" from ty)
  exact⟨typeIs_str s z t,fun _ e=>nomatch e⟩
 |int i=>
  obtain⟨t,rfl⟩:=r
  cases (show T="int" from ty)
  exact⟨typeIs_int s i t,fun _ e=>nomatch e⟩
 |ref p=>
  cases r
  rcases ty with⟨rfl,xs,hq⟩|⟨rfl,o,hk,hc,hd⟩|⟨rfl,hk⟩|⟨rfl,S,n,hk⟩
  ·obtain⟨its,_,pl,_⟩:=I.list hq
   refine⟨pl.isList.typeIs,fun a e=>?_⟩
   cases e
   obtain⟨o,n,e,c,hd,_⟩:=pl
   exact⟨o,e,hd⟩
  ·refine⟨⟨o,I.kIn p o hk,hc⟩,fun a e=>?_⟩
   cases e
   exact⟨o,I.kIn _ o hk,hd⟩
  ·have z:∃o,s.heap.get? p=some o/\o.ExactDict:=by
    rcases hk with⟨kvs,hk⟩|⟨kvs,hk⟩
    ·obtain⟨_,_,_,_,o,_,_,e,ex,_⟩:=I.hok p _ hk
     exact⟨o,e,ex⟩
    ·obtain⟨_,_,_,_,o,_,_,e,ex,_⟩:=I.hok p _ hk
     exact⟨o,e,ex⟩
   obtain⟨o,e,ex⟩:=z
   refine⟨⟨o,e,ex.1⟩,fun a e2=>?_⟩
   cases e2
   exact⟨o,e,ex.2.1⟩
  ·obtain⟨o,_,_,_,e,ex,_⟩:=I.hok p _ hk
   refine⟨⟨o,e,ex.1⟩,fun a e2=>?_⟩
   cases e2
   exact⟨o,e,ex.2.1⟩
 |_=>exact False.elim ty
noncomputable def LQ(K:PySem.W.Frag)(T:String)(r:V->List V->Hp->VK->Prop)(to:TE):TE:=fun σ H Q=>to σ H fun x H1=>tyV K T x H1/\r x [] H1 Q
noncomputable def tBM(K:PySem.W.Frag)(T:String)(r:V->List V->Hp->VK->Prop)(to:TE)(t:TA):TE:=fun σ H Q=>to σ H fun x H1=>tyV K T x H1/\t σ H1 fun xs H2=>r x xs H2 Q
variable{o e:Expr}{es:List Expr}{to:TE}{t:TA}{name:Str}{apos cpos:Pos}{T id:String}{r:V->List V->Hp->VK->Prop}
theorem HY(pa:PlainAttrs T)(slot:Slot T name id)(hty:typeOf (.builtin id)=pure (.type "method_descriptor"))(hm:MtR X id r)(ho:PE X o to)
  (hbase:attributeBase o name X.env (eval o X.env)=eval o X.env:=by rfl) (hline:(apos.endLine == cpos.line)=true:=by rfl):PE X (.Call (.Attribute o name apos) [] [] cpos) (LQ X.K T r to):=by
 intro pins s σ H Q I h
 refine wpAny_Call_method0_late hbase hline (thn (ho pins s σ H _ I h) fun v s1 hz=>?_)
 obtain⟨x,H1,I1,r1,ty,q1⟩:=hz
 obtain⟨h1,h2⟩:=CH I1 r1 ty
 exact⟨T,id,pa,slot,hty,h1,h2,Calls.callWith_builtin rfl (PySem.evalArgs_none (hm pins s1 σ H1 x [] v [] Q I1 r1 .nil q1))⟩
theorem K0(pa:PlainAttrs T)(slot:Slot T name id)(hty:typeOf (.builtin id)=pure (.type "method_descriptor"))(hm:MtR X id r)(ho:PE X o to)(ha:PA X (e::es) t)
  (hbase:attributeBase o name X.env (eval o X.env)=eval o X.env:=by rfl)
  (hfew:((backTo cpos (starEach (e::es) X.env)).all (fun x=>!x.1)&&(backToKw cpos (keywordEach [] X.env)).all (fun x=>x.1.isSome)
   && decide ((e::es).length+([]:List Keyword).length+(if ([]:List Keyword).isEmpty then 0 else 1)<30))=true:=by rfl)
  (hline:(apos.endLine == cpos.line)=true:=by rfl) (hs:starEach (e::es) X.env=(false,eval e X.env)::starEach es X.env:=by rfl) (hplain:(backTo cpos (starEach es X.env)).any (·.1)=false:=by rfl) :
  PE X (.Call (.Attribute o name apos) (e::es) [] cpos) (tBM X.K T r to t):=by
 intro pins s σ H Q I h
 refine wpAny_Call_method_late hbase hfew hline rfl (thn (ho pins s σ H _ I h) fun v s1 hz=>?_)
 obtain⟨x,H1,I1,r1,ty,q1⟩:=hz
 obtain⟨h1,h2⟩:=CH I1 r1 ty
 refine⟨T,id,pa,slot,hty,h1,h2,?_⟩
 have hA:=ha cpos pins s1 σ H1 _ I1 q1
 rw[hs]at hA ⊢
 refine Calls.callWith_builtin (by show(false||(backTo cpos (starEach es X.env)).any (·.1))=false;rw[hplain]<;>rfl) (Calls.evalArgs_plain ?_)
 exact thn hA fun us s2 ⟨vs,H2,I2,r2,q2⟩=>hm pins s2 σ H2 x vs v us Q I2 r1 r2 q2
end
noncomputable def MtM(X:Cx)(id:String)(r:V->List V->Hp->VK->Prop):Prop:=
 ∀(pins:List (Addr×Obj)) (s:Shared) (σ:St) (H:Hp) (x:V) (xs:List V) (v:Value) (us:List Value) (Q:VK),Inv X pins σ H s->dj x v->b8 xs us->r x xs H Q->
  wpAny (model X.prog X.w) X.A (call (.builtin id) (v::us)) (EP X pins σ Q) X.xe s
theorem b8.one:∀{x:V} {us:List Value},b8 [x] us->∃u,us=[u]/\dj x u
 |_,_,.cons r .nil=>⟨_,rfl,r⟩
theorem b8.zero:∀{us:List Value},b8 [] us->us=[]
 |_,.nil=>rfl
theorem b8.dropLast{xs:List V}{us:List Value}(h:b8 xs us):b8 xs.dropLast us.dropLast:=by
 induction h with
 |nil=>exact .nil
 |cons r t ih=>
  cases t with
  |nil=>exact .nil
  |cons q t'=>exact .cons r ih
theorem b8.eraseIdx:∀{xs:List V} {us:List Value} (i:Nat),b8 xs us->b8 (xs.eraseIdx i) (us.eraseIdx i)
 |_,_,_,.nil=>.nil
 |_,_,0,.cons _ t=>t
 |_,_,i+1,.cons r t=>.cons r (b8.eraseIdx i t)
theorem wV{α:Type}(l:List α):l.eraseIdx (l.length-1)=l.dropLast:=by
 induction l with
 |nil=>rfl
 |cons a r ih=>
  cases r with
  |nil=>rfl
  |cons b r=>
   have e:(a::b::r).length-1=((b::r).length-1)+1:=by
    have h1:(a::b::r).length=r.length+2:=rfl
    have h2:(b::r).length=r.length+1:=rfl
    omega
   rw[e,List.eraseIdx_cons_succ,ih]
   all_goals rfl
theorem sy{α:Type}:∀(l:List α) (i:Nat),(l.eraseIdx i).length<=l.length
 |[],_=>Nat.le_refl _
 |_::_,0=>Nat.le_succ _
 |_::r,i+1=>Nat.succ_le_succ (sy r i)
section
variable{X:Cx}{pins:List (Addr×Obj)}{σ:St}{H:Hp}{s:Shared}{l b:Addr}{xs ys zs:List V}
theorem Inv.lset{its its':List Value}{n:Nat}{f:Array Value->Array Value}{t':Nat}(I:Inv X pins σ H s)(hH:H l=some (.lst xs))
  (e:s.heap.get? l=some { cls:=.type "list",data:=.seq its.toArray n }) (hf:f its.toArray=its'.toArray) (hv:b8 ys its') (hz:ys.length<=sizeLine) :
  Inv X pins σ (upd H l (.lst ys)) { s with heap:=s.heap.update l (Obj.mapSeq f),toks:=t' }:=by
 have q:=PySem.IsL.update e f
 rw[hf]at q
 refine I.write (x:=l) (e:=l) (by rw[hH];exact trivial) (.inl rfl) (fun b' u hb hu=>(Heap.get?_update_other s.heap (Obj.mapSeq f) (Ne.symm hb)).trans hu) ⟨_,q⟩ ?_
 exact⟨hz,its',_,hv,q⟩
theorem Inv.lnew{its:List Value}{t':Nat}(I:Inv X pins σ H s)(hv:b8 ys its)(hz:ys.length<=sizeLine) :
  Inv X pins σ (upd H s.heap.objs.size (.lst ys)) { s with heap:=s.heap.push { cls:=.type "list",data:=.seq its.toArray },toks:=t' }:=
 I.laid (fun _ _ q=>Heap.get?_push_of_some _ q) (Nat.le_refl _) ⟨hz,its,0,hv,Heap.get?_push_size _ rfl⟩
theorem Inv.fresh(I:Inv X pins σ H s):H s.heap.objs.size=none:=I.hok.fresh (Nat.le_refl _)
theorem Inv.lstM(I:Inv X pins σ H s)(hH:H l=some (.lst xs)):xs.length<=sizeLine/\∃(its:List Value) (n:Nat),b8 xs its/\xs.length=its.length/\s.heap.get? l=some { cls:=.type "list",data:=.seq its.toArray n }:=by
 obtain⟨z,its,n,r,e⟩:=I.hok l _ hH
 exact⟨z,its,n,r,r.length,e⟩
theorem BE{n:Nat}(h:n<=sizeLine):Builtin.List.listTooLong n=false:=by
 unfold Builtin.List.listTooLong
 exact decide_eq_false (by omega)
end
section
variable{X:Cx}
noncomputable def yf:V->List V->Hp->VK->Prop:=fun x vs H Q=>∃l xs y,x=.ref l/\vs=[y]/\H l=some (.lst xs)/\xs.length<sizeLine/\Q .non (upd H l (.lst (xs++[y])))
theorem nN:MtM X "list.append" yf:=by
 intro pins s σ H x vs v us Q I rx rv h
 obtain⟨l,xs,y,rfl,rfl,hH,hz,q⟩:=h
 cases rx
 obtain⟨u,rfl,ru⟩:=rv.one
 obtain⟨z,its,n,r,hl,e⟩:=I.lstM hH
 refine call_meets F.slot_list_append ⟨_,e,rfl⟩ F.entry_list_append (F.args_list_append_2 _ _) (PySem.list_append l its.toArray n u (by rw[List.size_toArray];omega)) ⟨e,?_⟩
 refine⟨.non,_,I.lset (its':=its++[u]) hH e (by simp) (r.append (.cons ru .nil)) ?_,rfl,q⟩
 rw[List.length_append,List.length_singleton]
 omega
noncomputable def ye:V->List V->Hp->VK->Prop:=fun x vs H Q=>∃l b xs zs,x=.ref l/\vs=[.ref b]/\H l=some (.lst xs)/\H b=some (.lst zs)/\xs.length+zs.length<=sizeLine/\Q .non (upd H l (.lst (xs++zs)))
theorem yD:MtM X "list.extend" ye:=by
 intro pins s σ H x vs v us Q I rx rv h
 obtain⟨l,b,xs,zs,rfl,rfl,hH,hB,hz,q⟩:=h
 cases rx
 obtain⟨u,rfl,ru⟩:=rv.one
 cases ru
 obtain⟨z,its,n,r,hl,e⟩:=I.lstM hH
 obtain⟨z2,its2,n2,r2,hl2,e2⟩:=I.lstM hB
 have hsz:its.toArray.size+its2.toArray.size<=sizeLine:=by rw[List.size_toArray,List.size_toArray];omega
 have hlong:¬(!its.toArray.isEmpty&&Builtin.List.listTooLong (its.toArray.size+its2.toArray.size))=true:=by
  rw[BE hsz,Bool.and_false]
  exact Bool.false_ne_true
 refine call_meets F.slot_list_extend ⟨_,e,rfl⟩ F.entry_list_extend (F.args_list_extend_2 _ _)
  (AutoSeq1.list_extend_list_list_0 l its.toArray n b its2.toArray n2 hlong (by rw[List.size_toArray];omega) (by omega)) ⟨e,e2,?_⟩
 refine⟨.non,_,I.lset (its':=its++its2) hH e (by simp) (r.append r2) ?_,rfl,q⟩
 rw[List.length_append]
 omega
noncomputable def LU:V->List V->Hp->VK->Prop:=fun x vs H Q=>∃l xs y,x=.ref l/\vs=[]/\H l=some (.lst xs)/\xs[xs.length-1]?=some y/\Q y (upd H l (.lst xs.dropLast))
theorem Iq:MtM X "list.pop" LU:=by
 intro pins s σ H x vs v us Q I rx rv h
 obtain⟨l,xs,y,rfl,rfl,hH,hy,q⟩:=h
 cases rx
 have hus:=rv.zero
 subst hus
 obtain⟨z,its,n,r,hl,e⟩:=I.lstM hH
 obtain⟨u,hu,ru⟩:=r.get hy
 have hy':its.toArray[its.toArray.size-1]?=some u:=by
  show its.toArray[its.length-1]?=some u
  rw[<-Array.getElem?_toList,<-hl]
  exact hu
 refine call_meets F.slot_list_pop ⟨_,e,rfl⟩ F.entry_list_pop (F.args_list_pop_1 _) (MeetsSeq.list_pop_last l its.toArray n u hy' (by rw[List.size_toArray];omega)) ⟨e,?_⟩
 refine⟨y,_,I.lset (its':=its.dropLast) hH e ?_ r.dropLast ?_,ru,q⟩
 ·show its.toArray.eraseIdxIfInBounds (its.toArray.size-1)=its.dropLast.toArray
  rw[List.size_toArray,List.eraseIdxIfInBounds_toArray,wV]
 ·rw[List.length_dropLast]
  omega
noncomputable def CQ:V->List V->Hp->VK->Prop:=fun x vs H Q=>∃l xs i k y,x=.ref l/\vs=[.int i]/\H l=some (.lst xs)/\-(2^63)<=i/\i<2^63/\seqIndex? i xs.length=some k/\xs[k]?=some y/\Q y (upd H l (.lst (xs.eraseIdx k)))
theorem BG:MtM X "list.pop" CQ:=by
 intro pins s σ H x vs v us Q I rx rv h
 obtain⟨l,xs,i,k,y,rfl,rfl,hH,h1,h2,hk,hy,q⟩:=h
 cases rx
 obtain⟨u,rfl,ru⟩:=rv.one
 obtain⟨t,rfl⟩:=ru
 obtain⟨z,its,n,r,hl,e⟩:=I.lstM hH
 obtain⟨w,hw,rw'⟩:=r.get hy
 refine call_meets F.slot_list_pop ⟨_,e,rfl⟩ F.entry_list_pop (F.args_list_pop_2 _ _)
  (MeetsSeq.list_pop_at l its.toArray n i t k w (fitsIndex_both h1 h2) (by rw[List.size_toArray,<-hl];exact hk) (by rw[<-Array.getElem?_toList];exact hw) (by rw[List.size_toArray];omega)) ⟨e,?_⟩
 refine⟨y,_,I.lset (its':=its.eraseIdx k) hH e ?_ (r.eraseIdx k) ?_,rw',q⟩
 ·show its.toArray.eraseIdxIfInBounds k=(its.eraseIdx k).toArray
  rw[List.eraseIdxIfInBounds_toArray]
 ·have:=sy xs k
  omega
noncomputable def Jx:R2:=fun x y H Q=>∃l b xs zs,x=.ref l/\y=.ref b/\H l=some (.lst xs)/\H b=some (.lst zs)/\xs.length+zs.length<=sizeLine/\∀p,H p=none->Q (.ref p) (upd H p (.lst (xs++zs)))
theorem Il:OpR X (binaryOp .Add) Jx:=by
 intro pins s σ H x y v u Q I rx ry h
 obtain⟨l,b,xs,zs,rfl,rfl,hH,hB,hz,q⟩:=h
 cases rx
 cases ry
 obtain⟨z,its,n,r,hl,e⟩:=I.lstM hH
 obtain⟨z2,its2,n2,r2,hl2,e2⟩:=I.lstM hB
 refine PySem.P.add_list e e2 ?_ (by rw[List.size_toArray,List.size_toArray];omega)
 have ea:its.toArray++its2.toArray=(its++its2).toArray:=by simp
 rw[ea]
 exact⟨.ref _,_,I.lnew (t':=s.toks) (r.append r2) (by rw[List.length_append];omega),rfl,q _ I.fresh⟩
end
section
variable{κ:Type}[DecidableEq κ]
noncomputable def qp(kvs:List (κ×V))(k:κ):Option V:=(kvs.find? fun kv=>decide (kv.1=k)).map (·.2)
noncomputable def tY(kvs:List (κ×V))(k:κ)(v:V):List (κ×V):=
 if (kvs.any fun kv=>decide (kv.1=k))=true then kvs.map (fun kv=>if kv.1=k then(kv.1,v)else kv)else kvs++[(k,v)]
theorem qm{p:κ×V}{r:List (κ×V)}{k:κ}(e:p.1=k):qp (p::r) k=some p.2:=by simp[qp,List.find?_cons,e]
theorem qo{p:κ×V}{r:List (κ×V)}{k:κ}(e:¬p.1=k):qp (p::r) k=qp r k:=by simp[qp,List.find?_cons,e]
theorem uX(k:κ):∀kvs:List (κ×V),(kvs.any fun kv=>decide (kv.1=k))=(qp kvs k).isSome
 |[]=>rfl
 |p::r=>by
  rw[List.any_cons]
  by_cases e:p.1=k
  ·simp only[qm e,decide_eq_true e,Bool.true_or,Option.isSome_some]
  ·rw[qo e,decide_eq_false e,Bool.false_or];exact uX k r
theorem nS(kvs:List (κ×V))(k:κ)(v:V):(tY kvs k v).length<=kvs.length+1:=by
 unfold tY
 split
 ·rw[List.length_map];omega
 ·rw[List.length_append,List.length_cons,List.length_nil];omega
theorem rC.isSome_eq{o:Option V}{u:Option Value}(r:rC o u):o.isSome=u.isSome:=by
 cases o with
 |none=>cases u with
  |none=>rfl
  |some _=>exact(show False from r).elim
 |some _=>cases u with
  |none=>exact(show False from r).elim
  |some _=>rfl
theorem rC.getD{o:Option V}{u:Option Value}{d:V}{d':Value}(r:rC o u)(rd:dj d d'):dj (o.getD d) (u.getD d'):=by
 cases o with
 |none=>cases u with
  |none=>exact rd
  |some _=>exact(show False from r).elim
 |some _=>cases u with
  |none=>exact(show False from r).elim
  |some _=>exact r
theorem KV.val{kvs:List (κ×V)}{vs:List (κ×Value)}(r:KV kvs vs)(k:κ):rC (qp kvs k) (valueAt vs k):=by
 unfold KV at r
 induction r with
 |nil=>exact True.intro
 |@cons p q ps qs h t ih=>
  obtain⟨h1,h2⟩:=h
  by_cases e:p.1=k
  ·have e':q.1=k:=h1.symm.trans e
   have b:valueAt (q::qs) k=some q.2:=by simp[valueAt,List.find?_cons,e']
   rw[qm e,b];exact h2
  ·have e':¬q.1=k:=fun z=>e (h1.trans z)
   have b:valueAt (q::qs) k=valueAt qs k:=by simp[valueAt,List.find?_cons,e']
   rw[qo e,b];exact ih
theorem KV.any{kvs:List (κ×V)}{vs:List (κ×Value)}(r:KV kvs vs)(k:κ):(kvs.any fun kv=>decide (kv.1=k))=vs.any fun kv=>decide (kv.1=k):=by
 unfold KV at r
 induction r with
 |nil=>rfl
 |cons h t ih=>rw[List.any_cons,List.any_cons,ih,h.1]
theorem KV.repl{kvs:List (κ×V)}{vs:List (κ×Value)}(r:KV kvs vs)(k:κ){y:V}{u:Value}(ry:dj y u) :
  KV (kvs.map fun kv=>if kv.1=k then(kv.1,y)else kv) (vs.map fun kv=>if kv.1=k then(kv.1,u)else kv):=by
 unfold KV at r ⊢
 induction r with
 |nil=>exact .nil
 |@cons p q ps qs h t ih=>
  rw[List.map_cons,List.map_cons]
  refine .cons ?_ ih
  obtain⟨h1,h2⟩:=h
  by_cases e:p.1=k
  ·rw[if_pos e,if_pos (h1.symm.trans e)];exact⟨h1,ry⟩
  ·rw[if_neg e,if_neg (fun z=>e (h1.trans z))];exact⟨h1,h2⟩
theorem KV.put{kvs:List (κ×V)}{vs:List (κ×Value)}(r:KV kvs vs)(k:κ){y:V}{u:Value}(ry:dj y u):KV (tY kvs k y) (stored vs k u):=by
 unfold tY stored
 rw[r.any k]
 by_cases e:(vs.any fun kv=>decide (kv.1=k))=true
 ·rw[if_pos e,if_pos e];exact r.repl k ry
 ·rw[if_neg e,if_neg e];exact Paired.snoc r ⟨rfl,ry⟩
theorem KV.length{kvs:List (κ×V)}{vs:List (κ×Value)}(r:KV kvs vs):kvs.length=vs.length:=Paired.length r
end
theorem wG{P:Program}{w:World}{k:Key}{u:Value}(r:dj (kV k) u):(dM P w).is k u=true:=by
 cases k with
 |inl i=>obtain⟨t,e⟩:=(show ∃t,u=Value.int i t from r);subst e;exact uc P w i t
 |inr x=>obtain⟨t,e⟩:=(show ∃t,u=Value.str x t from r);subst e;exact ub P w x t
theorem sA{P:Program}{w:World}:∀{ks:List Key} {us:List Value},b8 (ks.map kV) us->ItemsAre (dM P w) ks us
 |[],_,r=>by rw[List.map_nil]at r;cases r;exact .nil
 |k::ks,_,r=>by
  rw[List.map_cons]at r
  cases r with
  |cons h t=>exact .cons (wG h) (sA t)
noncomputable abbrev KT(H:Hp):List (List Key×V)->List (List Key×Addr×Value)->Prop:=Paired fun p q=>p.1=q.1/\H q.2.1=some (.tup (p.1.map kV))/\dj p.2 q.2.2
theorem KT.val{H:Hp}{kvs:List (List Key×V)}{xs:List (List Key×Addr×Value)}(r:KT H kvs xs)(k:List Key):rC (qp kvs k) ((atKey xs k).map (·.2)):=by
 induction r with
 |nil=>exact True.intro
 |@cons p q ps qs h t ih=>
  obtain⟨h1,_,h2⟩:=h
  by_cases e:p.1=k
  ·have e':q.1=k:=h1.symm.trans e
   have b:atKey (q::qs) k=some q.2:=by simp[atKey,List.find?_cons,e']
   rw[qm e,b];exact h2
  ·have e':¬q.1=k:=fun z=>e (h1.trans z)
   have b:atKey (q::qs) k=atKey qs k:=by simp[atKey,List.find?_cons,e']
   rw[qo e,b];exact ih
theorem KT.repl{H:Hp}{kvs:List (List Key×V)}{xs:List (List Key×Addr×Value)}(r:KT H kvs xs)(k:List Key){y:V}{u:Value}(ry:dj y u) :
  KT H (kvs.map fun kv=>if kv.1=k then(kv.1,y)else kv) (xs.map (putAt k u)):=by
 induction r with
 |nil=>exact .nil
 |@cons p q ps qs h t ih=>
  rw[List.map_cons,List.map_cons]
  refine .cons ?_ ih
  obtain⟨h1,h2,h3⟩:=h
  unfold putAt
  by_cases e:p.1=k
  ·rw[if_pos e,if_pos (h1.symm.trans e)];exact⟨h1,h2,ry⟩
  ·rw[if_neg e,if_neg (fun z=>e (h1.trans z))];exact⟨h1,h2,h3⟩
theorem KT.put{H:Hp}{kvs:List (List Key×V)}{xs:List (List Key×Addr×Value)}(r:KT H kvs xs)(k:List Key){b:Addr}{y:V}{u:Value}(hb:H b=some (.tup (k.map kV)))(ry:dj y u) :
  KT H (tY kvs k y) (storedH xs k b u):=by
 have e:(kvs.any fun kv=>decide (kv.1=k))=(atKey xs k).isSome:=by
  rw[uX,(r.val k).isSome_eq,Option.isSome_map]
 unfold tY storedH
 rw[e]
 by_cases q:(atKey xs k).isSome=true
 ·rw[if_pos q,if_pos q];exact r.repl k ry
 ·rw[if_neg q,if_neg q];exact Paired.snoc r ⟨rfl,hb,ry⟩
theorem KT.keeps{H H':Hp}{kvs:List (List Key×V)}{xs:List (List Key×Addr×Value)}(r:KT H kvs xs)(ht:∀b ys,H b=some (.tup ys)->H' b=some (.tup ys)):KT H' kvs xs:=
 Paired.mapP r fun _ _ z=>⟨z.1,ht _ _ z.2.1,z.2.2⟩
section
variable{P:Program}{w:World}{H:Hp}{h:Heap}{a:Addr}
theorem Hu{u:HO}(ok:HOk P w H h)(e:Rd H a u):dz P w H h a u:=e.ok ok
theorem tu{kvs:List (Key×V)}(ok:HOk P w H h)(e:Rd H a (.dK kvs)):kvs.length<=sizeLine/\(a == sysModules)=false/\∃vs,KV kvs vs/\h.DictOf (dM P w) a vs:=
 show dz P w H h a (.dK kvs)from Hu ok e
theorem FF{kvs:List (Key×V)}(ok:HOk P w H h)(e:H a=some (.dK kvs)):kvs.length<=sizeLine/\(a == sysModules)=false/\∃vs,KV kvs vs/\h.DictOf (dM P w) a vs:=tu ok (.inl e)
theorem pR{ks:List Key}(ok:HOk P w H h)(e:H a=some (.tup (ks.map kV))):(tupleKind (dM P w)).is h ks a:=by
 obtain⟨_,its,r,o,h1,h2,n,h3⟩:=(show dz P w H h a (.tup (ks.map kV))from ok a _ e)
 exact⟨o,its.toArray,n,h1,h2,h3,by simpa using sA r⟩
theorem uz{kvs:List (List Key×V)}(ok:HOk P w H h)(e:Rd H a (.dT kvs)):kvs.length<=sizeLine/\(a == sysModules)=false/\
  ∃xs,KT H kvs xs/\h.DictOfH (tupleKind (dM P w)) a xs:=by
 obtain⟨z,y,xs,r,o,es,ep,h1,h2,h3,h4,h5⟩:=(show dz P w H h a (.dT kvs)from Hu ok e)
 refine⟨z,y,xs,r,o,es,ep,h1,h2,h3,h4,fun x hx=>?_,h5⟩
 have all:∀{l:List (List Key×V)} {m:List (List Key×Addr×Value)},KT H l m->∀x∈m,(tupleKind (dM P w)).is h x.1 x.2.1:=by
  intro l m q
  induction q with
  |nil=>intro x hx;exact nomatch hx
  |@cons p q ps qs hq t ih=>
   intro x hx
   rcases List.mem_cons.mp hx with e|hx
   ·subst e
    exact pR ok (by rw[<-hq.1];exact hq.2.1)
   ·exact ih x hx
 exact all r x hx
theorem Lv{kvs:List (List Key×V)}(ok:HOk P w H h)(e:H a=some (.dT kvs)):kvs.length<=sizeLine/\(a == sysModules)=false/\
  ∃xs,KT H kvs xs/\h.DictOfH (tupleKind (dM P w)) a xs:=uz ok (.inl e)
end
noncomputable def DGet(H:Hp)(a:Addr)(y:V)(r:Option V):Prop:=
 (∃kvs k,Rd H a (.dK kvs)/\y=kV k/\r=qp kvs k)\/∃kvs k b,Rd H a (.dT kvs)/\y=.ref b/\H b=some (.tup (k.map kV))/\r=qp kvs k
noncomputable def Dz(H:Hp)(a:Addr)(y v:V)(H':Hp):Prop:=
 (∃kvs k,H a=some (.dK kvs)/\y=kV k/\kvs.length<sizeLine/\H'=upd H a (.dK (tY kvs k v)))\/
 ∃kvs k b,H a=some (.dT kvs)/\y=.ref b/\H b=some (.tup (k.map kV))/\kvs.length<sizeLine/\H'=upd H a (.dT (tY kvs k v))
theorem DGet.k{H:Hp}{a:Addr}{kvs:List (Key×V)}{k:Key}(e:H a=some (.dK kvs)):DGet H a (kV k) (qp kvs k):=.inl ⟨kvs,k,.inl e,rfl,rfl⟩
theorem Dz.k{H:Hp}{a:Addr}{kvs:List (Key×V)}{k:Key}{v:V}(e:H a=some (.dK kvs))(hl:kvs.length<sizeLine):Dz H a (kV k) v (upd H a (.dK (tY kvs k v))):=.inl ⟨kvs,k,e,rfl,hl,rfl⟩
theorem Dz.t{H:Hp}{a b:Addr}{kvs:List (List Key×V)}{k:List Key}{v:V}(e:H a=some (.dT kvs))(eb:H b=some (.tup (k.map kV)))(hl:kvs.length<sizeLine) :
  Dz H a (.ref b) v (upd H a (.dT (tY kvs k v))):=.inr ⟨kvs,k,b,e,rfl,eb,hl,rfl⟩
section
variable{X:Cx}{pins:List (Addr×Obj)}{σ:St}{H:Hp}{s:Shared}{a:Addr}{y v:V}{u r:Value}{o:Option V}{A:Around}{E:Value->Shared->Prop}
theorem Inv.big(I:Inv X pins σ H s):sysModules<s.heap.objs.size:=by
 have h:mainGlobals<s.heap.objs.size:=(I.mod.glob.keeps I.bk).lt
 exact Nat.lt_trans (by decide) h
theorem zI{Q:Value->Shared->Prop}(hu:A.units+1<cLine)(I:Inv X pins σ H s)(g:DGet H a y (some v))(ry:dj y u)(h:∀w' s',Inv X pins σ H s'->dj v w'->Q w' s') :
  wpAny (model X.prog X.w) A (getItem (.ref a) u) Q E s:=by
 rcases g with⟨kvs,k,e,ey,l⟩|⟨kvs,k,b,e,ey,eb,l⟩
 ·subst ey
  obtain⟨z,hd,vs,rel,dd⟩:=tu I.hok e
  obtain⟨w',hw,rw'⟩:=rC.some_of (v:=v) (o:=valueAt vs k) (by rw[l];exact rel.val k)
  exact wpAny_getItem_of (wG ry) dd.mapOf hw (h w' _ (I.tok _) rw')
 ·subst ey
  cases (show u=Value.ref b from ry)
  obtain⟨z,hd,xs,rel,dd⟩:=uz I.hok e
  obtain⟨w',hw,rw'⟩:=rC.some_of (v:=v) (o:=(atKey xs k).map (·.2)) (by rw[l];exact rel.val k)
  obtain⟨p,hp,hp2⟩:=Option.map_eq_some_iff.mp hw
  refine wpAny_getItem_heap (tupleKind_room_in1 hu) (pR I.hok eb) dd hp ?_
  rw[hp2]
  exact h w' _ (I.tok _) rw'
theorem MO{Q:Value->Shared->Prop}(hu:A.units+1<cLine)(I:Inv X pins σ H s)(g:DGet H a y o)(ry:dj y u)(h:∀s',Inv X pins σ H s'->Q (.bool o.isSome) s') :
  wpAny (model X.prog X.w) A (compareOp .In u (.ref a)) Q E s:=by
 rcases g with⟨kvs,k,e,ey,l⟩|⟨kvs,k,b,e,ey,eb,l⟩
 ·subst ey
  obtain⟨z,hd,vs,rel,dd⟩:=tu I.hok e
  refine wpAny_in_of (wG ry) hd dd.mapOf ?_
  rw[<-(rel.val k).isSome_eq,<-l]
  exact h _ (I.tok _)
 ·subst ey
  cases (show u=Value.ref b from ry)
  obtain⟨z,hd,xs,rel,dd⟩:=uz I.hok e
  refine wpAny_in_heap (tupleKind_room_in1 hu) (pR I.hok eb) hd dd ?_
  have q:=(rel.val k).isSome_eq
  rw[Option.isSome_map]at q
  rw[<-q,<-l]
  exact h _ (I.tok _)
theorem FG{Q:Value->Shared->Prop}(hu:A.units+1<cLine)(I:Inv X pins σ H s)(g:DGet H a y o)(ry:dj y u)(h:∀s',Inv X pins σ H s'->Q (.bool (!o.isSome)) s') :
  wpAny (model X.prog X.w) A (compareOp .NotIn u (.ref a)) Q E s:=by
 rcases g with⟨kvs,k,e,ey,l⟩|⟨kvs,k,b,e,ey,eb,l⟩
 ·subst ey
  obtain⟨z,hd,vs,rel,dd⟩:=tu I.hok e
  refine wpAny_notIn_of (wG ry) hd dd.mapOf ?_
  rw[<-(rel.val k).isSome_eq,<-l]
  exact h _ (I.tok _)
 ·subst ey
  cases (show u=Value.ref b from ry)
  obtain⟨z,hd,xs,rel,dd⟩:=uz I.hok e
  refine wpAny_notIn_heap (tupleKind_room_in1 hu) (pR I.hok eb) hd dd ?_
  have q:=(rel.val k).isSome_eq
  rw[Option.isSome_map]at q
  rw[<-q,<-l]
  exact h _ (I.tok _)
theorem zG{h':Heap}{t':Nat}{ob:HO}(I:Inv X pins σ H s)(mu:Mut (H a))(hs:Heap.SameBut a s.heap h')(he:∃q,h'.get? a=some q)(new:dz X.prog X.w (upd H a ob) h' a ob) :
  Inv X pins σ (upd H a ob) { s with heap:=h',toks:=t' }:=
 I.write (x:=a) (e:=a) mu (.inl rfl) (fun b q hb z=>(hs.2 b hb).trans z) he new
theorem Jh{P:Program}{w:World}{H':Hp}{h':Heap}{kvs:List (Key×V)}{vs:List (Key×Value)}(z:kvs.length<=sizeLine)(hd:(a == sysModules)=false)(rel:KV kvs vs)(dd:h'.DictOf (dM P w) a vs) :
  dz P w H' h' a (.dK kvs):=⟨z,hd,vs,rel,dd⟩
theorem zH{H':Hp}{Q:Unit->Shared->Prop}(hu:A.units+1<cLine)(I:Inv X pins σ H s)(g:Dz H a y v H')(ry:dj y u)(rv:dj v r)(h:∀s',Inv X pins σ H' s'->Q () s') :
  wpAny (model X.prog X.w) A (setItem (.ref a) u r) Q E s:=by
 rcases g with⟨kvs,k,e,ey,l,eH⟩|⟨kvs,k,b,e,ey,eb,l,eH⟩
 ·subst ey eH
  obtain⟨z,hd,vs,rel,dd⟩:=FF I.hok e
  have hz:vs.length<=sizeLine:=by rw[<-rel.length];exact z
  have hl:(tY kvs k v).length<=sizeLine:=by have:=nS kvs k v;omega
  refine wpAny_setItem_pairs (hsz:=hz) (wG ry) dd fun h' dd' hs=>h _ ?_
  have he:∃q,h'.get? a=some q:=let ⟨q,_,_,hq,_⟩:=dd';⟨q,hq⟩
  exact zG I (by rw[e];exact True.intro) hs he (Jh hl hd (rel.put k rv) dd')
 ·subst ey eH
  cases (show u=Value.ref b from ry)
  obtain⟨z,hd,xs,rel,dd⟩:=Lv I.hok e
  have hz:xs.length<=sizeLine:=by rw[<-Paired.length rel];exact z
  have hl:(tY kvs k v).length<=sizeLine:=by have:=nS kvs k v;omega
  refine wpAny_setItem_heap (hsz:=hz) (tupleKind_room_in1 hu) (pR I.hok eb) dd fun h' dd' hs=>h _ ?_
  obtain⟨q,es,ep,hq,h2,h3,h4,_,h5⟩:=dd'
  refine zG I (by rw[e];exact True.intro) hs ⟨q,hq⟩ ⟨hl,hd,_,(rel.put k eb rv).keeps fun c ys ec=>?_,q,es,ep,hq,h2,h3,h4,h5⟩
  rw[bB (K7 ec e (fun z=>nomatch z))]
  exact ec
end
section
variable{X:Cx}{pins:List (Addr×Obj)}{σ:St}{H:Hp}{s:Shared}{a:Addr}{kvs:List (Key×V)}{k:Key}{u:Value}{A:Around}{E:Value->Shared->Prop}
theorem Lw{Q:Value->Shared->Prop}(I:Inv X pins σ H s)(e:Rd H a (.dK kvs))(h:∀t s',Inv X pins σ H s'->Q (.int kvs.length t) s'):wpAny (model X.prog X.w) A (call (.builtin "len") [.ref a]) Q E s:=by
 obtain⟨z,hd,vs,rel,dd⟩:=tu I.hok e
 refine call_len_dict hd dd (by rw[<-rel.length];rw[sizeLine_eq]at z;omega) ?_
 rw[<-rel.length]
 exact h _ _ (I.tok _)
end
noncomputable def JJ(i:Expr):Prop:=∀ov iv,subscripted i false ov iv=operate [ov,iv] (getItem ov iv)
theorem El{prog:Program}{w:World}{A:Around}{E:Value->Shared->Prop}{s:Shared}{env:Env}{value slice:Expr}{pos:Pos}{T id:String}{Q:Value->Shared->Prop}
  (hl:typeLookup (.type T) "__getitem__"=pure (some (.builtin id))) (hs:JJ slice)
  (h:wpAny (model prog w) A (eval value env) (fun o s₁=>wpAny (model prog w) A (eval slice env) (fun i s₂=>s₂.TypeIs o T/\wpAny (model prog w) A (getItem o i) Q E s₂) E s₁) E s) :
  wpAny (model prog w) A (eval (.Subscript value slice pos) env) Q E s:=by
 refine Subscript_ (wpAny_mono h (fun o s₁ h₁=>wpAny_mono h₁ (fun i s₂ h₂=>?_) fun _ _ x=>x) fun _ _ x=>x)
 obtain⟨hT,h₂⟩:=h₂
 unfold subscriptTail
 refine wpAny_bind ?_
 rw[getitemInPython_of_ne hT.not_modules]
 refine wpAny_bind (wpAny_specialOf hT hl ?_)
 have fin:wpAny (model prog w) A (subscripted slice false o i) (fun r s₃=>wpAny (model prog w) A (letTemporaryGo value o r >>= fun _=>pure r) Q E s₃) E s₂:=by
  rw[hs o i]
  exact wpAny_operating (wpAny_mono h₂ (fun r s₃ h₃=>wpAny_bind (wpAny_letTemporaryGo (wpAny_pure h₃))) fun _ _ x=>x)
 first
  |exact wpAny_pure (wpAny_bind fin)
  |exact wpAny_bind (wpAny_pure (wpAny_bind fin))
  |exact wpAny_bind fin
theorem uA{X:Cx}{pins:List (Addr×Obj)}{σ:St}{H:Hp}{s:Shared}{a:Addr}{y:V}{o:Option V}(I:Inv X pins σ H s)(g:DGet H a y o):s.TypeIs (.ref a) "dict":=by
 rcases g with⟨kvs,k,e,_,_⟩|⟨kvs,k,b,e,_,_,_⟩
 ·obtain⟨_,_,vs,_,dd⟩:=tu I.hok e
  exact dd.typeIs
 ·obtain⟨_,_,xs,_,dd⟩:=uz I.hok e
  exact dd.typeIs
noncomputable def Hl(td ty:TE):TE:=fun σ H Q=>td σ H fun x H1=>ty σ H1 fun y H2=>∃a v,x=.ref a/\DGet H2 a y (some v)/\Q v H2
noncomputable def Jw(ty td:TE):TE:=fun σ H Q=>ty σ H fun y H1=>td σ H1 fun x H2=>∃a o,x=.ref a/\DGet H2 a y o/\Q (.bl o.isSome) H2
noncomputable def qr(ty td:TE):TE:=fun σ H Q=>ty σ H fun y H1=>td σ H1 fun x H2=>∃a o,x=.ref a/\DGet H2 a y o/\Q (.bl (!o.isSome)) H2
noncomputable def Ht(td ty tv:TE):TS:=fun D σ H=>tv σ H fun v H1=>td σ H1 fun x H2=>ty σ H2 fun y H3=>∃a H4,x=.ref a/\Dz H3 a y v H4/\D.nx σ H4
section
variable{X:Cx}{o i e value:Expr}{pos pos' tpos:Pos}{td ty tv:TE}
theorem EL(hu:X.A.units+1<cLine)(ho:PE X o td)(hi:PE X i ty)(hs:JJ i):PE X (.Subscript o i pos) (Hl td ty):=by
 intro pins s σ H Q I h
 refine El PySem.F.slot_dict_getitem.lookup hs (thn (ho pins s σ H _ I h) fun u s1 ⟨x,H1,I1,rx,q1⟩=>thn (hi pins s1 σ H1 _ I1 q1) fun iv s2 hz=>?_)
 obtain⟨y,H2,I2,ry,a,v,ex,g,q2⟩:=hz
 subst ex
 obtain rfl:u=Value.ref a:=rx
 exact⟨uA I2 g,zI hu I2 g ry fun w' s3 I3 rw'=>⟨v,H2,I3,rw',q2⟩⟩
theorem H0(hu:X.A.units+1<cLine)(hi:PE X i ty)(ho:PE X o td):PC X .In i o (Jw ty td):=by
 intro pins s σ H Q I h
 refine thn (hi pins s σ H _ I h) fun iv s1 ⟨y,H1,I1,ry,q1⟩=>thn (ho pins s1 σ H1 _ I1 q1) fun u s2 hz=>?_
 obtain⟨x,H2,I2,rx,a,ov,ex,g,q2⟩:=hz
 subst ex
 obtain rfl:u=Value.ref a:=rx
 exact MO hu I2 g ry fun s3 I3=>⟨.bl ov.isSome,H2,I3,rfl,q2⟩
theorem yt(hu:X.A.units+1<cLine)(hi:PE X i ty)(ho:PE X o td):PC X .NotIn i o (qr ty td):=by
 intro pins s σ H Q I h
 refine thn (hi pins s σ H _ I h) fun iv s1 ⟨y,H1,I1,ry,q1⟩=>thn (ho pins s1 σ H1 _ I1 q1) fun u s2 hz=>?_
 obtain⟨x,H2,I2,rx,a,ov,ex,g,q2⟩:=hz
 subst ex
 obtain rfl:u=Value.ref a:=rx
 exact FG hu I2 g ry fun s3 I3=>⟨.bl (!ov.isSome),H2,I3,rfl,q2⟩
theorem ED(hu:X.A.units+1<cLine)(ho:PE X o td)(hi:PE X i ty)(hv:PE X value tv)(hs:swapsWith value (some (.Subscript o i pos')) pos.line X.env=pure false) :
  PS X (.Assign [.Subscript o i pos'] value pos) (Ht td ty tv):=by
 intro pins s σ H D I h
 refine wpAny_Assign_Subscript (thn (hv pins s σ H _ I h) fun r s1 ⟨v,H1,I1,rv,q1⟩=>thn (ho pins s1 σ H1 _ I1 q1) fun u s2 ⟨x,H2,I2,rx,q2⟩=>thn (hi pins s2 σ H2 _ I2 q2) fun iv s3 hz=>?_) hs
 obtain⟨y,H3,I3,ry,a,H4,ex,g,q3⟩:=hz
 subst ex
 obtain rfl:u=Value.ref a:=rx
 exact zH hu I3 g ry rv fun s4 I4=>⟨σ,H4,I4,q3⟩
end
theorem B8{P:Program}{w:World}{H:Hp}(h:Heap)(hb:sysModules<h.objs.size):dz P w H (h.push { cls:=.type "dict",data:=.dict #[] }) h.objs.size (.dK []):=
 ⟨Nat.zero_le _,beq_eq_false_iff_ne.mpr (Ne.symm (Nat.ne_of_lt hb)),[],.nil,Heap.DictOf.new h⟩
theorem B7{P:Program}{w:World}{H:Hp}(h:Heap)(hb:sysModules<h.objs.size):dz P w H (h.push { cls:=.type "dict",data:=.dict #[] }) h.objs.size (.dT []):=
 ⟨Nat.zero_le _,beq_eq_false_iff_ne.mpr (Ne.symm (Nat.ne_of_lt hb)),[],.nil,_,#[],0,Heap.get?_push_size _ rfl,⟨rfl,rfl,rfl⟩,rfl,rfl,List.nodup_nil⟩
noncomputable def CK:TE:=fun _ H Q=>∀p,H p=none->Q (.ref p) (upd H p (.dK []))
noncomputable def CJ:TE:=fun _ H Q=>∀p,H p=none->Q (.ref p) (upd H p (.dT []))
section
variable{X:Cx}{pos:Pos}
theorem Bq:PE X (.Dict [] [] pos) CK:=fun pins s σ H Q I h=>
 wpAny_Dict_empty ⟨.ref s.heap.objs.size,_,I.laid (a:=s.heap.objs.size) (o:=.dK []) (t':=s.toks) (fun _ _ q=>Heap.get?_push_of_some _ q) (Nat.le_refl _) (B8 s.heap I.big),rfl,h _ (I.hok.fresh (Nat.le_refl _))⟩
theorem Bp:PE X (.Dict [] [] pos) CJ:=fun pins s σ H Q I h=>
 wpAny_Dict_empty ⟨.ref s.heap.objs.size,_,I.laid (a:=s.heap.objs.size) (o:=.dT []) (t':=s.toks) (fun _ _ q=>Heap.get?_push_of_some _ q) (Nat.le_refl _) (B7 s.heap I.big),rfl,h _ (I.hok.fresh (Nat.le_refl _))⟩
end
structure M2(X:Cx)(o:Expr)(m:Str)(apos:Pos)(e f:Expr)(cpos:Pos):Prop where
 base:attributeBase o m X.env (eval o X.env)=eval o X.env
 few:((backTo cpos (starEach [e,f] X.env)).all (fun x=>!x.1)&&(backToKw cpos (keywordEach [] X.env)).all (fun x=>x.1.isSome)
  && decide (([e,f]:List Expr).length+([]:List Keyword).length+(if ([]:List Keyword).isEmpty then 0 else 1)<30))=true
 line:(apos.endLine == cpos.line)=true
 trees:backTo cpos (starEach [e,f] X.env)=[(false,eval e X.env),(false,eval f X.env)]
noncomputable def IsD(H:Hp)(a:Addr):Prop:=(∃kvs,Rd H a (.dK kvs))\/∃kvs,Rd H a (.dT kvs)
theorem IU{X:Cx}{pins:List (Addr×Obj)}{σ:St}{H:Hp}{s:Shared}{a:Addr}(I:Inv X pins σ H s)(d:IsD H a) :
  s.TypeIs (.ref a) "dict"/\(∀b,Value.ref a=.ref b->∃ob,s.heap.get? b=some ob/\ob.dict=none)/\(a == sysModules)=false:=by
 rcases d with⟨kvs,e⟩|⟨kvs,e⟩
 ·obtain⟨_,hd,vs,_,dd⟩:=tu I.hok e
  refine⟨dd.typeIs,fun b q=>?_,hd⟩
  cases q
  obtain⟨ob,_,_,h1,h2,_⟩:=dd
  exact⟨ob,h1,h2.2.1⟩
 ·obtain⟨_,hd,xs,_,dd⟩:=uz I.hok e
  refine⟨dd.typeIs,fun b q=>?_,hd⟩
  cases q
  obtain⟨ob,_,_,h1,h2,_⟩:=dd
  exact⟨ob,h1,h2.2.1⟩
section
variable{X:Cx}{pins:List (Addr×Obj)}{σ:St}{H:Hp}{s:Shared}{a:Addr}{y d:V}{u r:Value}{o:Option V}{A:Around}{E:Value->Shared->Prop}
theorem Ji{Q:Value->Shared->Prop}(hu:A.units+1<cLine)(I:Inv X pins σ H s)(g:DGet H a y o)(ry:dj y u)(rd:dj d r)(h:∀w' s',Inv X pins σ H s'->dj (o.getD d) w'->Q w' s') :
  wpAny (model X.prog X.w) A (call (.builtin "dict.get") [.ref a,u,r]) Q E s:=by
 rcases g with⟨kvs,k,e,ey,l⟩|⟨kvs,k,b,e,ey,eb,l⟩
 ·subst ey
  obtain⟨z,hd,vs,rel,dd⟩:=tu I.hok e
  refine call_meetsIn PySem.F.slot_dict_get dd.typeIs PySem.F.entry_dict_get (PySem.F.args_dict_get_3 _ _ _) (meets_dict_get_default (dM X.prog X.w) a (wG ry) hd r) ⟨_,dd.mapOf,h _ _ (I.tok _) ?_⟩
  rw[l]
  exact(rel.val k).getD rd
 ·subst ey
  cases (show u=Value.ref b from ry)
  obtain⟨z,hd,xs,rel,dd⟩:=uz I.hok e
  refine call_meetsIn PySem.F.slot_dict_get dd.typeIs PySem.F.entry_dict_get (PySem.F.args_dict_get_3 _ _ _) (meetsH_dict_get_default (tupleKind (dM X.prog X.w)) a b hd r) ⟨tupleKind_room_in1 hu,k,xs,pR I.hok eb,dd,h _ _ (I.tok _) ?_⟩
  rw[l]
  exact(rel.val k).getD rd
end
noncomputable def CL(td ty tx:TE):TE:=fun σ H Q=>td σ H fun x H1=>∃a,x=.ref a/\IsD H1 a/\ty σ H1 fun y H2=>tx σ H2 fun z H3=>∃o,DGet H3 a y o/\Q (o.getD z) H3
section
variable{X:Cx}{o e f:Expr}{apos cpos:Pos}{td ty tx:TE}
theorem Br(hu:X.A.units+1<cLine)(ho:PE X o td)(he:PE X e ty)(hf:PE X f tx)(m:M2 X o "get" apos e f cpos):PE X (.Call (.Attribute o "get" apos) [e,f] [] cpos) (CL td ty tx):=by
 intro pins s σ H Q I h
 refine wpAny_Call_method m.base m.few m.line PySem.F.plainAttrs_dict PySem.F.slot_dict_get PySem.F.type_dict_get (thn (ho pins s σ H _ I h) fun u s1 hz=>?_)
 obtain⟨x,H1,I1,rx,a,ex,d,q1⟩:=hz
 subst ex
 obtain rfl:u=Value.ref a:=rx
 obtain⟨t1,t2,_⟩:=IU I1 d
 refine⟨t1,t2,?_⟩
 rw[m.trees]
 refine Calls.callWith_builtin rfl (Calls.evalArgs_plain (Calls.spliced_cons (thn (he pins s1 σ H1 _ I1 q1) fun iv s2 ⟨y,H2,I2,ry,q2⟩=>
  Calls.spliced_cons (thn (hf pins s2 σ H2 _ I2 q2) fun fv s3 ⟨z,H3,I3,rz,ov,g,q3⟩=>Calls.spliced_nil ?_))))
 exact Ji hu I3 g ry rz fun w' s4 I4 rw'=>⟨_,H3,I4,rw',q3⟩
end
end L2
namespace Att
open PySem PySem.W PySem.Calls PyProof.Rows
theorem nV{P:Params}{h:Heap}:∀(ns:List Int) (vs:List Value),WellAll P h vs (ns.map WData.int)->IntsAre vs ns:=by
 intro ns
 induction ns with
 |nil=>
  intro vs w
  rw[List.map_nil]at w
  cases w
  exact .nil
 |cons n ns ih=>
  intro vs w
  rw[List.map_cons]at w
  cases w with
  |cons a b=>
   cases a
   exact .cons _ _ (ih _ b)
theorem ya{l:OpenLaw}{n:Nat}(hn:l.most=some n){P:Params}{h:Heap}{args:List WData}{vals:List Value}
  (hpre:l.row.toRowW.claim.pre args=true) (hwl:WellAll P h vals args) :
  ∃a vs ns,vals=[Value.ref a]/\args=[WData.list (ns.map WData.int)]/\h.get? a=some { cls:=.type "list",data:=.seq vs.toArray }/\IntsAre vs ns/\ns.length<=n:=by
 have hsh:WShape.hasAll [] args [.list .int]=true:=(pre_splitW hpre).1
 have hc:l.pre.holds [] { args:=args }=true:=(pre_splitW hpre).2
 obtain⟨d,r,rfl,h1,h2⟩:=hasAllW_cons hsh
 obtain rfl:=hasAllW_nil h2
 obtain⟨xs,rfl,h3⟩:=hasW_list h1
 obtain⟨ns,rfl⟩:=items_int h3
 have fT:ns.length<=n:=by
  unfold OpenLaw.pre at hc
  have h4:(WTm.not (.lt (.lit (.int (n:Int))) (.len (.arg 0)))).holds [] { args:=[.list (ns.map .int)] }=true:=by
   have h4:=(holds_andW hc).1
   rw[hn]at h4
   exact h4
  have h5:=condW_of h4 (w_not (w_lt w_lit (w_len_list (w_arg rfl))))
  rw[List.length_map]at h5
  refine Nat.le_of_not_lt fun q=>?_
  have q':(n:Int)<((ns.length:Nat):Int):=by omega
  first
   |(rw[decide_eq_true q']at h5;exact absurd h5 (by decide))
   |(simp at h5;omega)
 cases hwl with
 |cons w1 w2=>
  cases w2
  cases w1 with
  |list ho hall=>exact⟨_,_,ns,rfl,rfl,ho,nV ns _ hall,fT⟩
theorem yo(l:OpenLaw)(args:List WData):l.row.toRowW.claim.post args (.bool true) args=true:=
 postW_of (r:=l.row.toRowW) (X:=(true == true))
  (show WShape.has [] (.bool true) .bool=true by first|rfl|decide|simp[WShape.has,WShape.arms,WShape.armsAll])
  (show(WTm.eq .res (.lit (.bool true))).value [] { args:=args,res:=some (.bool true),after:=args }=some (.bool (true == true))from w_eq_bool (w_res rfl) w_lit) rfl
theorem attach_call{l:OpenLaw}{n:Nat}{q:Program}{loose:List Str}{XP:(Str->Option Value)->Heap->Prop}{YP:World->Heap->Prop}{d:DefRec}
  (hn:l.most=some n) (hdf:d.params.defaults=[])
  (call:∀(w:World) (s₀ s₁:Shared) (mg mb:Str->Option Value) (fa:Addr) (o:Obj) (pm cd doc:Value) (a:Addr) (vs:List Value) (ns:List Int),
   Ground q loose [] XP w s₀ mg mb s₁.heap->YP w s₁.heap->
   s₁.heap.get? fa=some o->o.data=.func (docDef d.name d.params d.body d.scope pm cd doc)->s₁.heap.CodeRec cd d.name->mg d.name=some (.ref fa)->
   s₁.heap.get? a=some { cls:=.type "list",data:=.seq vs.toArray }->IntsAre vs ns->ns.length<=n->s₁.gens=#[]->
   codeAny (model l.prog w) callerA (.call (.ref fa) ⟨[.ref a],[]⟩) (fun r s'=>r=.ok (.ret (.bool true))/\OldK s₁.heap s'.heap/\s'.os=s₁.os/\AllBare s'.gens) s₁) :
  WalkO q loose XP YP l.row.toRowW d [] (fun f vs=>PySem.call f vs):=by
 intro w s₀ s₁ mg mb G Y fa o pm cd doc dV kV ho hd hcd hD hmg hg args vals as hpre hlay hrd hwl hlo
 obtain rfl:dV=.none:=Dflts.none hD hdf
 obtain rfl:kV=.none:=Dflts.noKw hD
 obtain⟨a,vs,ns,rfl,rfl,hobj,hints,fT⟩:=ya hn hpre hwl
 refine enter_call (codeAny_mono (call w s₀ s₁ mg mb fa o pm cd doc a vs ns G Y ho (fd_plain hd) hcd hmg hobj hints fT hg) fun r s' hq=>?_)
 obtain⟨rfl,h2,h3,h4⟩:=hq
 exact⟨.inl ⟨.bool true,.bool true,[],rfl,fun _=>rfl,.bool true,yo l _,fun _=>⟨List.Pairwise.nil,fun _ hm=>(nomatch hm)⟩⟩,h2,h3,h4⟩
end Att
namespace L2
open PySem PySem.Spec PyProof.Rows
theorem jn:∀{vs:List Value} {ns:List Int},IntsAre vs ns->b8 (ns.map V.int) vs
 |_,_,.nil=>.nil
 |_,_,.cons n t h=>.cons ⟨t,rfl⟩ (jn h)
noncomputable def LF(H:Hp):Prop:=∀b,H b=none\/∃o xs,H b=some (.frz o (.lst xs))
theorem BQ{P:Program}{w:World}{K:PySem.W.Frag}{mg mb:Str->Option Value}{CX:CXT}{k:Nat}{fa a:Addr}{fd:FuncData}{x:Str}{sp:Sp}{s₁:Shared}{vs:List Value}{ns:List Int}
  (KX:K.In s₁.heap) (hns:s₁.heap.Ns mainGlobals mg) (hb:s₁.heap.Ns builtinsNs mb) (hbb:∀x:Str,x≠"__name__"->mb x=bootBuiltins x) (hlim:s₁.heap.NoLimit) (hg:s₁.gens=#[])
  (ha:s₁.heap.get? a=some { cls:=.type "list",data:=.seq vs.toArray }) (hi:IntsAre vs ns) (hl:ns.length<=sizeLine) (hr:jl k callerA)
  (F:∀base:Heap,K.In base->base.Ns mainGlobals mg->nh P w K mg base CX k fa fd [x] sp) (hbind:∀(s:Shared) (u:Value),BindsTo s fd ⟨[u],[]⟩ [(x,u)])
  (hsp:∀H:Hp,LF H->SqL K H a (ns.map V.int)->sp [.ref a] H (fun v _=>v=.bl true) fun _ _ _=>False)
  (hCX:∀H e s',CX [] H s₁ (fun _ _ _=>False) e s'->False) :
  codeAny (model P w) callerA (.call (.ref fa) ⟨[.ref a],[]⟩) (fun r s'=>r=.ok (.ret (.bool true))/\OldK s₁.heap s'.heap/\s'.os=s₁.os/\AllBare s'.gens) s₁:=by
 have rv:=jn hi
 have lenV:=hi.length
 have core:∀H:Hp,LF H->SqL K H a (ns.map V.int)->HOk P w H s₁.heap->(∀b,H b≠none->b=a)->(H a≠none->K.lookup a=none)->
   codeAny (model P w) callerA (.call (.ref fa) ⟨[.ref a],[]⟩) (fun r s'=>r=.ok (.ret (.bool true))/\OldK s₁.heap s'.heap/\s'.os=s₁.os/\AllBare s'.gens) s₁:=by
  intro H hO hS hok hA hK
  have base_of:∀{b:Addr} {o:Obj},s₁.heap.get? b=some o->H b=none->(BZ s₁.heap H).get? b=some o:=fun e n=>BY e n
  have noA:∀{b:Addr} {o:Obj} {es:Array DictEntry} {ep:Nat},s₁.heap.get? b=some o->o.data=.dict es ep->H b=none:=fun{b o es ep} e d=>by
   cases q:H b with
   |none=>rfl
   |some u=>
    have e':b=a:=hA b (by rw[q];simp)
    subst e'
    rw[ha]at e;cases e
    have d':Data.seq vs.toArray _=Data.dict es ep:=d
    cases d'
  have nsK:∀{b:Addr} {m:Str->Option Value},s₁.heap.Ns b m->(BZ s₁.heap H).Ns b m:=fun{b m} ⟨o,es,ep,e,d,r⟩=>⟨o,es,ep,base_of e (noA e d),d,r⟩
  have hKb:K.In (BZ s₁.heap H):=fun b o e=>base_of (KX b o e) (by
   cases q:H b with
   |none=>rfl
   |some u=>
    have e':b=a:=hA b (by rw[q];simp)
    subst e'
    rw[hK (by rw[q];simp)]at e;cases e)
  have hM:Mod K mg (BZ s₁.heap H):=⟨hKb,nsK hns,⟨mb,nsK hb,hbb⟩,let ⟨mc,h1,h2⟩:=hlim;⟨mc,nsK h1,h2⟩⟩
  have e0:FT P w K mg (BZ s₁.heap H) callerA [] s₁ H:=⟨rfl,hM,fun b o e=>EZ e,Nat.le_of_eq (za _ _),trivial,fun b hb=>absurd (show b∈([]:List Addr)from hb) (by simp),hok,.of_eq hg⟩
  refine codeAny_mono ((F _ hKb (nsK hns)).run callerA [] s₁ H ⟨[.ref a],[]⟩ [.ref a] [.ref a] _ _ hr e0 (hbind s₁ (.ref a)) (.cons rfl .nil) (hsp H hO hS)) fun r s' h=>?_
  cases r with
  |error e=>exact(hCX H e s' h).elim
  |ok fl=>
   cases fl with
   |next=>exact False.elim h
   |brk=>exact False.elim h
   |cont=>exact False.elim h
   |ret u=>
    obtain⟨v,H',os,bare,un,hok',r',q⟩:=h
    have q':v=.bl true:=q
    subst q'
    obtain rfl:u=Value.bool true:=r'
    refine⟨rfl,OldK.of_keep fun b o e=>?_,os,bare⟩
    cases q:H b with
    |none=>exact un.keep b o e q (by intro z;exact absurd (show b∈([]:List Addr)from z) (by simp)) (by simp)
    |some u=>
     rcases hO b with z|⟨ob,xs,z⟩
     ·rw[q]at z;cases z
     ·have z2:=un.frzs b ob _ z
      obtain⟨e1,_⟩:=hok b _ z
      obtain⟨e2,_⟩:=hok' b _ z2
      rw[e]at e1;cases e1
      exact e2
 cases hk:K.lookup a with
 |some o=>
  have e:=KX a o hk
  rw[ha]at e
  cases e
  refine core (fun _=>none) (fun _=>.inl rfl) (.inr ⟨_,vs.toArray,_,hk,rfl,rfl,rfl,by rw[List.size_toArray,lenV];exact hl,by simpa using rv⟩) (fun b u z=>by have z':(none:Option HO)=some u:=z;cases z') (fun b z=>absurd rfl z) fun z=>absurd rfl z
 |none=>
  refine core (fun b=>if b=a then some (.frz { cls:=.type "list",data:=.seq vs.toArray } (.lst (ns.map V.int)))else none) (fun b=>?_) (.inl (.inr ⟨{ cls:=.type "list",data:=.seq vs.toArray },if_pos rfl⟩)) (fun b u z=>?_) (fun b z=>?_) fun _=>hk
  ·by_cases hb:b=a
   ·exact .inr ⟨_,_,if_pos hb⟩
   ·exact .inl (if_neg hb)
  ·by_cases hb:b=a
   ·have z':=(if_pos hb).symm.trans z
    cases z'
    subst hb
    exact⟨ha,by rw[List.length_map];exact hl,vs,_,rv,ha⟩
   ·have z':=(if_neg hb).symm.trans z
    cases z'
  ·by_cases hb:b=a
   ·exact hb
   ·exact absurd (if_neg hb) z
theorem Eg{l:PySem.W.OpenLaw}{n k:Nat}{q:Program}{loose:List Str}{XP:(Str->Option Value)->Heap->Prop}{YP:World->Heap->Prop}{d:DefRec}{K:Params->PySem.W.Frag}{CX:World->CXT}{sp:World->Sp}{x:Str}
  (hn:l.most=some n) (hn2:n<=sizeLine) (hdf:d.params.defaults=[]) (hr:jl k callerA)
  (hY:∀(w:World) (h:Heap),YP w h->(K w.params).In h)
  (F:∀(w:World) (mg:Str->Option Value) (fa:Addr) (h:Heap),(K w.params).In h->h.Ns mainGlobals mg->mg d.name=some (.ref fa)->
   ∃fd:FuncData,(∀(s:Shared) (u:Value),BindsTo s fd ⟨[u],[]⟩ [(x,u)])/\
    ∀base:Heap,(K w.params).In base->base.Ns mainGlobals mg->nh l.prog w (K w.params) mg base (CX w) k fa fd [x] (sp w))
  (hsp:∀(w:World) (H:Hp) (a:Addr) (ns:List Int),ns.length<=n->LF H->SqL (K w.params) H a (ns.map V.int)->sp w [.ref a] H (fun v _=>v=.bl true) fun _ _ _=>False)
  (hCX:∀(w:World) (H:Hp) (s:Shared) (e:Value) (s':Shared),CX w [] H s (fun _ _ _=>False) e s'->False) :
  PySem.W.WalkO q loose XP YP l.row.toRowW d [] (fun f vs=>PySem.call f vs):=by
 refine Att.attach_call hn hdf fun w s₀ s₁ mg mb fa o pm cd doc a vs ns G Y ho hd hcd hmg hobj hints fT hg=>?_
 have KX:=hY w _ Y
 obtain⟨fd,hb,hF⟩:=F w mg fa _ KX G.T.g hmg
 exact BQ KX G.T.g G.T.b G.T.builtins G.T.nolimit hg hobj hints (Nat.le_trans fT hn2) hr hF hb (fun H hO hS=>hsp w H a ns fT hO hS) fun H e s'=>hCX w H s₁ e s'
noncomputable def kr(s:Stmt)(j:Nat):Stmt:=match s with
 |.ClassDef _ _ _ body _ _ _ _ _ _ _=>body.getD j (.Pass ⟨0,0,0,0⟩)
 |_=>.Pass ⟨0,0,0,0⟩
noncomputable def aQ(s:Stmt):Arguments:=match s with
 |.FunctionDef _ a _ _ _ _ _ _ _ _=>a
 |_=>{ posonlyargs:=[],args:=[],vararg:=none,kwonlyargs:=[],kw_defaults:=[],kwarg:=none,defaults:=[] }
noncomputable def aI(s:Stmt):List Stmt:=match s with
 |.FunctionDef _ _ b _ _ _ _ _ _ _=>b
 |_=>[]
noncomputable def ar(s:Stmt):Scope:=match s with
 |.FunctionDef _ _ _ _ _ _ sc _ _ _=>sc
 |_=>{ kind:=.function,names:=[],isGenerator:=false,isCoroutine:=false }
noncomputable abbrev CX0:CXT:=fun _ _ _ _ _ _=>False
noncomputable abbrev E0:XK:=fun _ _ _=>False
theorem Bt{X:Cx}:kh CX0 X E0:=fun _ _ _ _ _ _ _ h=>h.elim
structure Fun(K:PySem.W.Frag)(x qual:Str)(st:Stmt)(f:Addr)(fd:FuncData):Prop where
 ex:∃(oc:Value) (od:Option Addr) (kV doc pm:Value) (an:Option Addr) (cdv ct:Value) (osl:Array (Option Value)),
  fd=PySem.W.fnOf x qual (aQ st) (aI st) (ar st) .none kV doc pm an cdv ct/\K.lookup f=some ⟨oc,od,.func fd,osl⟩/\PySem.W.codeIn K cdv qual=true
 kp:PySem.W.keepIn K (.ref f)=true
section
variable{P:Program}{w:World}{K:PySem.W.Frag}{mg:Str->Option Value}{base:Heap}
theorem Fun.ok{x qual:Str}{st:Stmt}{f:Addr}{fd:FuncData}{N ps:List Str}{k:Nat}{sp:Sp}(F:Fun K x qual st f fd)(S:aL N ps (ar st))(len:∀vs H Q E,sp vs H Q E->vs.length=ps.length)
  (hbody:∀(cdv:Value) (A:Around) (outer:List Env) (s:Shared) (H:Hp) (vs:List V) (Q:VK) (E:XK),jl k (A.deeper (envOfC qual (ar st) s.heap.objs.size f cdv))->sp vs H Q E->
   ∃t,PSs (xg CX0 P w K mg base N qual (ar st) f cdv A outer s H E).nox (aI st) t/\t { nx:=fun _ H'=>Q .non H',rt:=Q } (kJ N vs) H):nh P w K mg base CX0 (k+1) f fd ps sp:=by
 obtain⟨oc,od,kV,doc,pm,an,cdv,ct,osl,rfl,lk,hcd⟩:=F.ex
 refine Ls lk hcd S len fun A outer s H vs Q E hr hsp=>?_
 obtain⟨t,h,q⟩:=hbody cdv A outer s H vs Q E hr hsp
 exact⟨t,h.nox,q⟩
theorem Fun.binds{x qual:Str}{st:Stmt}{f:Addr}{fd:FuncData}{ps:List Str}(F:Fun K x qual st f fd)
  (h:∀(kV doc pm:Value) (an:Option Addr) (cdv ct:Value) (us:List Value),us.length=ps.length->bindArgs (PySem.W.fnOf x qual (aQ st) (aI st) (ar st) .none kV doc pm an cdv ct) ⟨us,[]⟩=pure (ps.zip us)):gM K fd ps []:=by
 obtain⟨oc,od,kV,doc,pm,an,cdv,ct,osl,rfl,lk,hcd⟩:=F.ex
 exact .all (h kV doc pm an cdv ct)
theorem bI{x qual:Str}{st:Stmt}{f:Addr}{oc:Value}{od an:Option Addr}{osl:Array (Option Value)}{kV doc pm cdv ct:Value}(l:K.lookup f=some ⟨oc,od,.func (PySem.W.fnOf x qual (aQ st) (aI st) (ar st) .none kV doc pm an cdv ct),osl⟩)
  (c:PySem.W.codeIn K cdv qual=true) (k:PySem.W.keepIn K (.ref f)=true):Fun K x qual st f (PySem.W.fnOf x qual (aQ st) (aI st) (ar st) .none kV doc pm an cdv ct):=⟨⟨oc,od,kV,doc,pm,an,cdv,ct,osl,rfl,l,c⟩,k⟩
end
theorem dY{A:Around}{k:Nat}(hr:jl k A):A.units+1<cLine:=Nat.lt_of_le_of_lt (Nat.add_le_add_left (by decide:1<=64) _) hr.units
theorem xX{n:Nat}(h:n<=1000):n<sizeLine:=Nat.lt_of_le_of_lt h (by decide)
section
variable{X:Cx}
theorem pv(i:Nat){x:Str}{pos:Pos}(hN:X.N[i]?=some x:=by rfl)(hv:Vis X.env.scope x:=by first|exact Or.inl rfl|exact Or.inr (Or.inl rfl)|exact Or.inr (Or.inr rfl))(hd:(x == ("__debug__":Str))=false:=by decide)
  (hcd:(x == ("__classdict__":Str))=false:=by decide):PE X (.Name x pos) (Jt i):=HM hN hv hd hcd
theorem zO:iV X (.builtin "len") (fun xs H Q=>∃a kvs,xs=[V.ref a]/\H a=some (.dK kvs)/\Q (.int kvs.length) H):=by
 intro pins s σ H xs us Q I r h
 obtain⟨a,kvs,rfl,ha,q⟩:=h
 obtain⟨u,rfl,ru⟩:=rR r
 cases ru
 exact Lw I (.inl ha) fun t s' I'=>⟨.int kvs.length,H,I',⟨t,rfl⟩,q⟩
end
theorem FW{A B:Prop}(h:B):if false=true then A else B:=by
 rw[if_neg Bool.false_ne_true]
 exact h
theorem FV{A B:Prop}(h:A):if true=true then A else B:=by
 rw[if_pos rfl]
 exact h
noncomputable def uI(H H':Hp):Prop:=∀b o,H b=some o->H' b=some o
theorem uI.refl(H:Hp):uI H H:=fun _ _ h=>h
theorem uI.trans{H H1 H2:Hp}(a:uI H H1)(b:uI H1 H2):uI H H2:=fun c o h=>b c o (a c o h)
theorem uI.free{H H':Hp}(e:uI H H'){l:Addr}(h:H' l=Option.none):H l=Option.none:=by
 cases q:H l with
 |none=>rfl
 |some o=>
  rw[e l o q]at h
  cases h
end L2
namespace OG
open PySem PySem.Spec PyProof.Rows L2
structure WE(X:Cx)(e:Expr)(t:TE):Prop where
 h:PE X e t
structure WT(X:Cx)(e:Expr)(t:TT):Prop where
 h:PT X e t
structure WW(X:Cx)(e:Expr)(t:TT):Prop where
 h:PW X e t
structure WA(X:Cx)(es:List Expr)(t:TA):Prop where
 h:PA X es t
structure WS(X:Cx)(st:Stmt)(t:TS):Prop where
 h:PS X st t
structure WSs(X:Cx)(st:List Stmt)(t:TS):Prop where
 h:PSs X st t
structure WI(X:Cx)(tg iter:Expr)(wi:TI):Prop where
 h:PI X tg iter wi
structure WG(X:Cx)(target:Expr)(t:TG):Prop where
 h:PG X target t
structure WGs(X:Cx)(ts:List Expr)(t:TGs):Prop where
 h:PGs X ts t
structure WC(X:Cx)(op:CmpOp)(a b:Expr)(t:TE):Prop where
 h:PC X op a b t
structure WO(X:Cx)(e:Option Expr)(t:TO):Prop where
 h:PO X e t
section
variable{X:Cx}
theorem ao{i j pos}:WE X (.Constant (.int i) j pos) (tC (.int i)):=⟨HV ⟩
end
section
variable{X:Cx}
theorem eK{b j pos}:WE X (.Constant (.bool b) j pos) (tC (.bl b)):=⟨K1 ⟩
end
section
variable{X:Cx}
theorem xw{j pos}:WE X (.Constant .none j pos) (tC .non):=⟨HS ⟩
end
section
variable{X:Cx}
theorem ba{x j pos}:WE X (.Constant (.str x) j pos) (tC (.str x)):=⟨HP ⟩
end
section
variable{X:Cx}
variable{a b:Expr}{ta tb:TE}{pos:Pos}
theorem xD{op:CmpOp}{t:TE}(h:WC X op a b t)(h1:behindInMarks op b=false:=by first|exact nobehind _ (by decide) (by decide)|rfl):WE X (.Compare a [op] [b] pos) t:=⟨HX h.h h1⟩
end
section
variable{X:Cx}
variable{a b:Expr}{ta tb:TE}{pos:Pos}
theorem xl{op:CmpOp}{t:TE}(h:WC X op a b t)(h1:behindInMarks op b=false:=by first|exact nobehind _ (by decide) (by decide)|rfl):WT X (.Compare a [op] [b] pos) (tB t):=⟨HD h.h h1⟩
end
section
variable{X:Cx}
variable{a b:Expr}{ta tb:TE}{pos:Pos}
theorem D1{e:Expr}{t:TE}(h:WE X e t)(he:∀whole,isTrue e X.env whole=(do let v <-whole;standAt e.pos;holding [v] (truthy v)):=by intro _;rfl):WT X e (tB t):=⟨HB h.h he⟩
end
section
variable{X:Cx}
variable{a b:Expr}{ta tb:TE}{pos:Pos}
variable{tA tB':TT}{rest:List Expr}
theorem AH(ha:WT X a tA):WW X (.BoolOp .And [a] pos) tA:=⟨Ex ha.h⟩
end
section
variable{X:Cx}
variable{a b:Expr}{ta tb:TE}{pos:Pos}
variable{tA tB':TT}{rest:List Expr}
theorem DY(ha:WT X a tA):WW X (.BoolOp .Or [a] pos) tA:=⟨Hz ha.h⟩
end
section
variable{X:Cx}
variable{a b:Expr}{ta tb:TE}{pos:Pos}
variable{tA tB':TT}{rest:List Expr}
theorem DZ(ha:WT X a tA)(hb:WW X (.BoolOp .And (b::rest) pos) tB'):WW X (.BoolOp .And (a::b::rest) pos) (LR tA tB'):=⟨HA ha.h hb.h⟩
end
section
variable{X:Cx}
variable{a b:Expr}{ta tb:TE}{pos:Pos}
variable{tA tB':TT}{rest:List Expr}
theorem G5(ha:WT X a tA)(hb:WW X (.BoolOp .Or (b::rest) pos) tB'):WW X (.BoolOp .Or (a::b::rest) pos) (tOr tA tB'):=⟨KQ ha.h hb.h⟩
end
section
variable{X:Cx}
variable{a b:Expr}{ta tb:TE}{pos:Pos}
variable{tA tB':TT}{rest:List Expr}
theorem D3(ha:WT X a tA):WT X (.UnaryOp .Not a pos) (LM tA):=⟨HC ha.h⟩
end
section
variable{X:Cx}
variable{a b:Expr}{ta tb:TE}{pos:Pos}
variable{tA tB':TT}{rest:List Expr}
theorem D8{op}{t:TE}(h:WE X a t):WE X (.BoolOp op [a] pos) t:=⟨HQ h.h⟩
end
section
variable{X:Cx}
variable{a b:Expr}{ta tb:TE}{pos:Pos}
variable{tA tB':TT}{rest:List Expr}
theorem Ec(ha:WE X a ta)(hb:WE X (.BoolOp .And (b::rest) pos) tb):WE X (.BoolOp .And (a::b::rest) pos) (Hq ta tb):=⟨HZ ha.h hb.h⟩
end
section
variable{X:Cx}
variable{a b:Expr}{ta tb:TE}{pos:Pos}
variable{tA tB':TT}{rest:List Expr}
theorem Ha(ha:WE X a ta)(hb:WE X (.BoolOp .Or (b::rest) pos) tb):WE X (.BoolOp .Or (a::b::rest) pos) (LL ta tb):=⟨KW ha.h hb.h⟩
end
section
variable{X:Cx}
variable{a b:Expr}{ta tb:TE}{pos:Pos}
variable{tA tB':TT}{rest:List Expr}
theorem D9(ha:WE X a ta):WE X (.UnaryOp .Not a pos) (Hi ta):=⟨HR ha.h⟩
end
section
variable{X:Cx}{st:Stmt}{rest:List Stmt}{t u:TS}{e:Expr}{te:TE}{pos:Pos}
theorem AI :WSs X [] Hj:=⟨EB ⟩
end
section
variable{X:Cx}{st:Stmt}{rest:List Stmt}{t u:TS}{e:Expr}{te:TE}{pos:Pos}
theorem rK(h1:WS X st t)(h2:WSs X rest u):WSs X (st::rest) (LJ t u):=⟨Bj h1.h h2.h⟩
end
section
variable{X:Cx}{st:Stmt}{rest:List Stmt}{t u:TS}{e:Expr}{te:TE}{pos:Pos}
theorem uQ(h1:WS X st t):WSs X [st] t:=⟨EA h1.h⟩
end
section
variable{X:Cx}{st:Stmt}{rest:List Stmt}{t u:TS}{e:Expr}{te:TE}{pos:Pos}
theorem AJ(he:WE X e te)(hs:swapsWith e none pos.line X.env=pure false:=by rfl):WS X (.Expr e pos) (Hk te):=⟨EC he.h hs⟩
end
section
variable{X:Cx}{st:Stmt}{rest:List Stmt}{t u:TS}{e:Expr}{te:TE}{pos:Pos}
theorem xo(he:WE X e te):WS X (.Return (some e) pos) (LK te):=⟨HF he.h⟩
end
section
variable{X:Cx}{st:Stmt}{rest:List Stmt}{t u:TS}{e:Expr}{te:TE}{pos:Pos}
theorem G6{c:Expr}{a b:List Stmt}{tc:TT}(hc:WT X c tc)(ha:WSs X a t)(hb:WSs X b u):WS X (.If c a b pos) (LO tc t u):=⟨KR hc.h ha.h hb.h⟩
end
section
variable{X:Cx}{pos:Pos}
theorem aF{i:Nat}{x:Str}(hN:X.N.Nodup)(hi:X.N[i]?=some x)(hx:Loc X.env.scope x)(hf:X.fn x=true\/X.env.scope.names.lookup x=some .local:=by first|exact .inl rfl|exact .inr rfl|assumption):WG X (.Name x pos) (wU i):=⟨EI hN hi hx hf⟩
end
section
variable{X:Cx}{pos:Pos}
theorem AL :WGs X [] Md:=⟨EH ⟩
end
section
variable{X:Cx}{pos:Pos}
theorem xt{e:Expr}{es:List Expr}{t:TG}{u:TGs}(h1:WG X e t)(h2:WGs X es u)(hs:(assignEach (e::es) X.env).map (·.2)=assign e X.env::(assignEach es X.env).map (·.2):=by rfl):WGs X (e::es) (I0 t u):=⟨Bm h1.h h2.h hs⟩
end
section
variable{X:Cx}{pos:Pos}
theorem D6{es:List Expr}{k:Nat}{t:TGs}{n:Nat}(hc:X.calm=true)(h:WGs X es t)(hn:(assignEach es X.env).length=n:=by rfl)(hst:(assignEach es X.env).findIdx? (·.1)=none:=by rfl):WG X (.Tuple es k pos) (Mb X.K n t):=⟨HK hc h.h hn hst⟩
end
section
variable{X:Cx}{pos:Pos}
theorem D7 {o i : Expr} {to ti : TE} {t : JH} (ho : WE X o to) (hi : WE X i ti) (hs : LD X t) (ha : ∀ v, assign (.Subscript o i pos) X.env v = (do
   let ov <-holding [v] (eval o X.env)
   let iv <-holding [v,ov] (eval i X.env)
   standAt pos
   holding [v,ov,iv] (setItem ov iv v)
   release [v,ov,iv] []):=by intro _;rfl):WG X (.Subscript o i pos) (Mc to ti t):=⟨HL ho.h hi.h hs ha⟩
end
section
variable{X:Cx}{pos:Pos}
theorem xq{tg e:Expr}{te:TE}{g:TG}(he:WE X e te)(hg:WG X tg g)(hs:swapsWithSole [tg] e pos.line X.env=pure false:=by rfl)(hw:swappedStores [tg] e X.env=pure none:=by rfl)(h1:(assignEach [tg] X.env).map (·.2)=[assign tg X.env]:=by rfl):WS X (.Assign [tg] e pos) (Ho te g):=⟨HI he.h hg.h hs hw h1⟩
end
section
variable{X:Cx}{pos:Pos}
theorem xn{i:Nat}{x:Str}{e:Expr}{te:TE}{pos':Pos}(hN:X.N.Nodup)(hi:X.N[i]?=some x)(hx:Loc X.env.scope x)(he:WE X e te)(hs:swapsWith e (some (.Name x pos')) pos.line X.env=pure false:=by rfl)(hf:X.fn x=true\/X.env.scope.names.lookup x=some .local:=by first|exact .inl rfl|exact .inr rfl|assumption):WS X (.Assign [.Name x pos'] e pos) (Ho te (wU i)):=⟨HE hN hi hx he.h hs hf⟩
end
section
variable{X:Cx}{pos:Pos}
theorem xm{c:Expr}{body:List Stmt}{tc:TT}{tb:TS}(hp:PassesOwn (model X.prog X.w) X.A X.env X.xe)(hc:WT X c tc)(hb:WSs X body tb):WS X (.While c body [] pos) (xP tc tb):=⟨Bk hp hc.h hb.h⟩
end
section
variable{X:Cx}{tg:Expr}
theorem AK{l:Expr}{tl:TE}(hl:WE X l tl):WI X tg l (IW X.K tl):=⟨EG hl.h⟩
end
section
variable{X:Cx}{tg:Expr}
theorem D5{l:Expr}{tl:TE}(hl:WE X l tl):WI X tg l (Ma X.K tl):=⟨HJ hl.h⟩
end
section
variable{X:Cx}{tg:Expr}
theorem wc{a:Expr}{ta:TA}{p pos:Pos}(hg:Gl X "range")(hm:X.mg "range"=none)(ha:WA X [a] ta)(hs:starEach [a] X.env=[(false,eval a X.env)]:=by rfl):WI X tg (.Call (.Name "range" p) [a] [] pos) (IV ta):=⟨yq hg hm ha.h hs⟩
end
section
variable{X:Cx}{tg:Expr}
theorem xp{iter:Expr}{body:List Stmt}{wi:TI}{g:TG}{tb:TS}{pos:Pos}(hp:PassesOwn (model X.prog X.w) X.A X.env X.xe)(hc:X.calm=true)(hi:WI X tg iter wi)(hg:WG X tg g)(hb:WSs X body tb)(hs:∀x,foldedSetIterable iter X.env x=pure x:=by intro _;rfl):WS X (.For tg iter body [] pos) (Jv wi g tb):=⟨HG hp hc hi.h hg.h hb.h hs⟩
end
section
variable{X:Cx}{a b c:Expr}{ta tb tc:TE}{pos:Pos}
theorem Hb{op:Operator}{r:R2}(ho:OpR X (binaryOp op) r)(ha:WE X a ta)(hb:WE X b tb):WE X (.BinOp a op b pos) (tOp r ta tb):=⟨KY ho ha.h hb.h⟩
end
section
variable{X:Cx}{a b c:Expr}{ta tb tc:TE}{pos:Pos}
theorem G9{op:UnaryOp}{r:V->Hp->VK->Prop}(ho:UnR X (unaryOp op) r)(ha:WE X a ta):WE X (.UnaryOp op a pos) (tUn r ta):=⟨KU ho ha.h⟩
end
section
variable{X:Cx}{a b c:Expr}{ta tb tc:TE}{pos:Pos}
theorem qj{op:CmpOp}{r:R2}(ho:OpR X (compareOp op) r)(ha:WE X a ta)(hb:WE X b tb)(hm:behindInMarks op b=false):WE X (.Compare a [op] [b] pos) (tOp r ta tb):=⟨EM ho ha.h hb.h hm⟩
end
section
variable{X:Cx}{a b c:Expr}{ta tb tc:TE}{pos:Pos}
theorem qi{op:CmpOp}{r:R2}(ho:OpR X (compareOp op) r)(ha:WE X a ta)(hb:WE X b tb)(hm:behindInMarks op b=false):WT X (.Compare a [op] [b] pos) (Hg (tOp r ta tb)):=⟨Ez ho ha.h hb.h hm⟩
end
section
variable{X:Cx}{o e value:Expr}{f:Str}{pos pos' tpos:Pos}{ta tv:TE}
theorem Ea(he:WE X e ta)(hb:attributeBase e f X.env (eval e X.env)=eval e X.env):WE X (.Attribute e f pos) (LP X.K ta f):=⟨HW he.h hb⟩
end
section
variable{X:Cx}{o e value:Expr}{f:Str}{pos pos' tpos:Pos}{ta tv:TE}
theorem D4(ha:WE X o ta)(hv:WE X value tv)(hs:swapsWith value (some (.Attribute o f pos')) pos.line X.env=pure false):WS X (.Assign [.Attribute o f pos'] value pos) (LS X.K ta tv f):=⟨HH ha.h hv.h hs⟩
end
section
variable{X:Cx}{e:Expr}{es:List Expr}{te:TE}{t:TA}{pos:Pos}
theorem kj :WA X [] Ju:=⟨Ia ⟩
end
section
variable{X:Cx}{e:Expr}{es:List Expr}{te:TE}{t:TA}{pos:Pos}
theorem eQ(ha:WE X e te)(hr:WA X es t)(hs:starEach (e::es) X.env=(false,eval e X.env)::starEach es X.env:=by rfl):WA X (e::es) (Hm te t):=⟨ES ha.h hr.h hs⟩
end
section
variable{X:Cx}{e:Expr}{es:List Expr}{te:TE}{t:TA}{pos:Pos}
theorem xv{x1}(h:WA X es t):WE X (.Tuple es x1 pos) (LI t):=⟨HN h.h⟩
end
section
variable{X:Cx}{e:Expr}{es:List Expr}{te:TE}{t:TA}{pos:Pos}
theorem xy(h:WA X es t):WE X (.List es pos) (LN t):=⟨HU h.h⟩
end
section
variable{X:Cx}{CX:CXT}{k:Nat}{f C:Addr}{fd:FuncData}{ps:List Str}{sp:Sp}{dvs:List V}{ds:List Value}{E:XK}{x m:Str}{p pos apos:Pos}{e o:Expr}{es:List Expr}{ta:TE}{t:TA}
theorem AM {pl : Sem Bool} (he : WE X o ta) (c : Cls X.K C) (hm : vZ X.K C m f) (F : nh X.prog X.w X.K X.mg X.base CX k f fd ps sp) (hr : jl k X.A) (hb : gM X.K fd ps ds) (hd : b8 dvs ds) (hx : kh CX X E) (ha : WA X (e :: es) t) (hst : starEach (e :: es) X.env = (false, eval e X.env) :: starEach es X.env := by rfl) (hpl : (backTo pos (starEach es X.env)).any (·.1) = false := by rfl) (ht : eval (.Call (.Attribute o m apos) (e :: es) [] pos) X.env = (do
   let ov <-eval o X.env
   standAt apos.atName
   let (f,first) <-holding [ov] (getMethod ov m pl)
   callWith pos f first (backTo pos (starEach (e::es) X.env)) (backToKw pos (keywordEach [] X.env))):=by rfl):WE X (.Call (.Attribute o m apos) (e::es) [] pos) (Ej C m sp dvs E ta t):=⟨EJ he.h c hm F hr hb hd hx ha.h hst hpl ht⟩
end
section
variable{X:Cx}{CX:CXT}{k:Nat}{f C:Addr}{fd:FuncData}{ps:List Str}{sp:Sp}{dvs:List V}{ds:List Value}{E:XK}{x m:Str}{p pos apos:Pos}{e o:Expr}{es:List Expr}{ta:TE}{t:TA}
theorem AN(M:Mk X.K C f)(F:nh X.prog X.w X.K X.mg X.base CX k f fd ps sp)(hr:jl (k+1) X.A)(hg:Gl X x)(hm:X.mg x=some (.ref C))(hb:gM X.K fd ps ds)(hd:b8 dvs ds)(hx:kh CX X E)(ha:WA X (e::es) t)(hdb:(x == ("__debug__":Str))=false:=by decide)(he:starEach (e::es) X.env=(false,eval e X.env)::starEach es X.env:=by rfl)(hpl:(backTo pos (starEach es X.env)).any (·.1)=false:=by rfl):WE X (.Call (.Name x p) (e::es) [] pos) (xR C sp dvs E t):=⟨EK M F hr hg hm hb hd hx ha.h hdb he hpl⟩
end
section
variable{X:Cx}{CX:CXT}{k:Nat}{f C:Addr}{fd:FuncData}{ps:List Str}{sp:Sp}{dvs:List V}{ds:List Value}{E:XK}{x m:Str}{p pos apos:Pos}{e o:Expr}{es:List Expr}{ta:TE}{t:TA}
theorem xx(M:Mk X.K C f)(F:nh X.prog X.w X.K X.mg X.base CX k f fd ps sp)(hr:jl (k+1) X.A)(hg:Gl X x)(hm:X.mg x=some (.ref C))(hb:gM X.K fd ps ds)(hd:b8 dvs ds)(hx:kh CX X E)(hdb:(x == ("__debug__":Str))=false:=by decide):WE X (.Call (.Name x p) [] [] pos) (xR C sp dvs E Ju):=⟨Bo M F hr hg hm hb hd hx hdb⟩
end
section
variable{X:Cx}{x:Str}{p pos:Pos}{e:Expr}{es:List Expr}{t:TA}{id T:String}{r:List V->Hp->VK->Prop}
theorem rM(hc:iV X (.builtin id) r)(hg:Gl X x)(hm:X.mg x=none)(hv:bootBuiltins x=some (.builtin id))(ha:WA X (e::es) t)(hn:x≠"__name__":=by decide)(hdb:(x == ("__debug__":Str))=false:=by decide)(he:starEach (e::es) X.env=(false,eval e X.env)::starEach es X.env:=by rfl)(hpl:(backTo pos (starEach es X.env)).any (·.1)=false:=by rfl):WE X (.Call (.Name x p) (e::es) [] pos) (tCB r t):=⟨Bs hc hg hm hv ha.h hn hdb he hpl⟩
end
section
variable{X:Cx}{x:Str}{p pos:Pos}{e:Expr}{es:List Expr}{t:TA}{id T:String}{r:List V->Hp->VK->Prop}
theorem pB(hc:iV X (.type T) r)(hg:Gl X x)(hm:X.mg x=none)(hv:bootBuiltins x=some (.type T))(ha:WA X (e::es) t)(hn:x≠"__name__":=by decide)(hdb:(x == ("__debug__":Str))=false:=by decide)(he:starEach (e::es) X.env=(false,eval e X.env)::starEach es X.env:=by rfl)(hpl:(backTo pos (starEach es X.env)).any (·.1)=false:=by rfl):WE X (.Call (.Name x p) (e::es) [] pos) (tCB r t):=⟨yr hc hg hm hv ha.h hn hdb he hpl⟩
end
section
variable{X:Cx}{e:Expr}{te:TE}{lo hi:Option Expr}{tl th:TO}{pos p2:Pos}
theorem uT :WO X none xQ:=⟨EF ⟩
end
section
variable{X:Cx}{e:Expr}{te:TE}{lo hi:Option Expr}{tl th:TO}{pos p2:Pos}
theorem uS(h:WE X e te):WO X (some e) (Hh te):=⟨EE h.h⟩
end
section
variable{X:Cx}{e:Expr}{te:TE}{lo hi:Option Expr}{tl th:TO}{pos p2:Pos}
theorem rL{r:V->Option Int->Option Int->Hp->VK->Prop}(hr:SlR X r)(he:WE X e te)(hl:WO X lo tl)(hu:WO X hi th):WE X (.Subscript e (.Slice lo hi none p2) pos) (tSl r te tl th):=⟨Bn hr he.h hl.h hu.h⟩
end
section
variable{X:Cx}{a b:Expr}{ta tb:TE}{pos:Pos}
theorem Hc{r:R2}(hr:IxR X r)(ha:WE X a ta)(hb:WE X b tb)(hs:uJ b):WE X (.Subscript a b pos) (tOp r ta tb):=⟨KZ hr ha.h hb.h hs⟩
end
section
variable{X:Cx}{a b:Expr}{ta tb:TE}{pos:Pos}
variable{o e:Expr}{es:List Expr}{to:TE}{t:TA}{name:Str}{apos cpos:Pos}{T id:String}{r:V->List V->Hp->VK->Prop}
theorem Eb(pa:PlainAttrs T)(slot:Slot T name id)(hty:typeOf (.builtin id)=pure (.type "method_descriptor"))(hm:MtR X id r)(ho:WE X o to)(hbase:attributeBase o name X.env (eval o X.env)=eval o X.env:=by rfl)(hline:(apos.endLine == cpos.line)=true:=by rfl):WE X (.Call (.Attribute o name apos) [] [] cpos) (LQ X.K T r to):=⟨HY pa slot hty hm ho.h hbase hline⟩
end
section
variable{X:Cx}{a b:Expr}{ta tb:TE}{pos:Pos}
variable{o e:Expr}{es:List Expr}{to:TE}{t:TA}{name:Str}{apos cpos:Pos}{T id:String}{r:V->List V->Hp->VK->Prop}
theorem uU (pa : PlainAttrs T) (slot : Slot T name id) (hty : typeOf (.builtin id) = pure (.type "method_descriptor")) (hm : MtR X id r) (ho : WE X o to) (ha : WA X (e :: es) t) (hbase : attributeBase o name X.env (eval o X.env) = eval o X.env := by rfl) (hfew : ((backTo cpos (starEach (e :: es) X.env)).all (fun x => !x.1) && (backToKw cpos (keywordEach [] X.env)).all (fun x => x.1.isSome)
   && decide ((e::es).length+([]:List Keyword).length+(if ([]:List Keyword).isEmpty then 0 else 1)<30))=true:=by rfl) (hline:(apos.endLine == cpos.line)=true:=by rfl) (hs:starEach (e::es) X.env=(false,eval e X.env)::starEach es X.env:=by rfl) (hplain:(backTo cpos (starEach es X.env)).any (·.1)=false:=by rfl):WE X (.Call (.Attribute o name apos) (e::es) [] cpos) (tBM X.K T r to t):=⟨K0 pa slot hty hm ho.h ha.h hbase hfew hline hs hplain⟩
end
section
variable{X:Cx}{o i e value:Expr}{pos pos' tpos:Pos}{td ty tv:TE}
theorem AO(hu:X.A.units+1<cLine)(ho:WE X o td)(hi:WE X i ty)(hs:JJ i):WE X (.Subscript o i pos) (Hl td ty):=⟨EL hu ho.h hi.h hs⟩
end
section
variable{X:Cx}{o i e value:Expr}{pos pos' tpos:Pos}{td ty tv:TE}
theorem xE(hu:X.A.units+1<cLine)(hi:WE X i ty)(ho:WE X o td):WC X .In i o (Jw ty td):=⟨H0 hu hi.h ho.h⟩
end
section
variable{X:Cx}{o i e value:Expr}{pos pos' tpos:Pos}{td ty tv:TE}
theorem pC(hu:X.A.units+1<cLine)(hi:WE X i ty)(ho:WE X o td):WC X .NotIn i o (qr ty td):=⟨yt hu hi.h ho.h⟩
end
section
variable{X:Cx}{o i e value:Expr}{pos pos' tpos:Pos}{td ty tv:TE}
theorem uR(hu:X.A.units+1<cLine)(ho:WE X o td)(hi:WE X i ty)(hv:WE X value tv)(hs:swapsWith value (some (.Subscript o i pos')) pos.line X.env=pure false):WS X (.Assign [.Subscript o i pos'] value pos) (Ht td ty tv):=⟨ED hu ho.h hi.h hv.h hs⟩
end
section
variable{X:Cx}{pos:Pos}
theorem xB :WE X (.Dict [] [] pos) CK:=⟨Bq ⟩
end
section
variable{X:Cx}{pos:Pos}
theorem xA :WE X (.Dict [] [] pos) CJ:=⟨Bp ⟩
end
section
variable{X:Cx}{o e f:Expr}{apos cpos:Pos}{td ty tx:TE}
theorem xC(hu:X.A.units+1<cLine)(ho:WE X o td)(he:WE X e ty)(hf:WE X f tx)(m:M2 X o "get" apos e f cpos):WE X (.Call (.Attribute o "get" apos) [e,f] [] cpos) (CL td ty tx):=⟨Br hu ho.h he.h hf.h m⟩
end
section
variable{X:Cx}
theorem wpv(i:Nat){x:Str}{pos:Pos}(hN:X.N[i]?=some x:=by rfl)(hv:Vis X.env.scope x:=by first|exact Or.inl rfl|exact Or.inr (Or.inl rfl)|exact Or.inr (Or.inr rfl))(hd:(x == ("__debug__":Str))=false:=by decide)(hcd:(x == ("__classdict__":Str))=false:=by decide):WE X (.Name x pos) (Jt i):=⟨pv i hN hv hd hcd⟩
end
theorem WW.pt{X:Cx}{e:Expr}{t:TT}(h:WW X e t):WT X e t:=⟨h.h.pt⟩
section
variable{X:Cx}{a b c e:Expr}{ta tb tc:TE}{pos:Pos}
noncomputable def xf(i j:Int):Prop:=0<j/\j.natAbs.log2<9000
theorem qG:OpR X (binaryOp .FloorDiv) (rI xf fun i j=>.int (i / j)):=opI fun i j _ _ _ _ _ hc q=>by
 refine PyProof.Rows.floordiv_int (by have:=hc.1;omega) ?_ (.inl (PyProof.noPylong_of_log2 hc.2))
 rw[Int.fdiv_eq_ediv_of_nonneg i (Int.le_of_lt hc.1)]
 exact q
theorem uC:iV X (.builtin "isinstance") (fun xs H Q=>∃(x:V) (T:String) (t:Value) (k:Bool),xs=[x,.ty T]/\vY X.K H x t/\PySem.W.kitOne X.K t (.type T)=some k/\Q (.bl k) H):=by
 rintro pins s σ H xs us Q I r ⟨x,T,t,k,rfl,ty,e,q⟩
 obtain⟨u,w',rfl,ru,rw'⟩:=Eh r
 cases rw'
 exact yY I ru ty e fun tk=>⟨.bl k,H,I.tok tk,rfl,q⟩
end
theorem d9{H:Hp}{p:Addr}(h:H p=none)(o:HO):uI H (upd H p o):=fun b u q=>by rw[bB (cY q h)];exact q
noncomputable def Def(K:PySem.W.Frag)(mg:Str->Option Value)(x:Str)(st:Stmt)(ps:List Str):Prop:=
 ∃f fd,Fun K x x st f fd/\gM K fd ps []/\mg x=some (.ref f)
noncomputable def Has(P:Program)(w:World)(K:PySem.W.Frag)(mg:Str->Option Value)(base:Heap)(x:Str)(k:Nat)(ps:List Str)(sp:Sp):Prop:=
 ∃f fd,nh P w K mg base CX0 k f fd ps sp/\gM K fd ps []/\PySem.W.keepIn K (.ref f)=true/\mg x=some (.ref f)
section
variable{P:Program}{w:World}{K:PySem.W.Frag}{mg:Str->Option Value}{base:Heap}{x:Str}{st:Stmt}{ps N:List Str}{k j:Nat}{sp sp':Sp}
theorem Has.mono(h:Has P w K mg base x j ps sp)(l:j<=k):Has P w K mg base x k ps sp:=by
 obtain⟨f,fd,a,b,c,d⟩:=h
 exact⟨f,fd,a.mono l,b,c,d⟩
theorem Def.has(d:Def K mg x st ps)(S:aL N ps (ar st))(len:∀vs H Q E,sp vs H Q E->vs.length=ps.length)
  (hbody:∀(f:Addr) (cdv:Value) (A:Around) (outer:List Env) (s:Shared) (H:Hp) (vs:List V) (Q:VK) (E:XK),jl k (A.deeper (envOfC x (ar st) s.heap.objs.size f cdv))->sp vs H Q E->
   ∃t,WSs (xg CX0 P w K mg base N x (ar st) f cdv A outer s H E).nox (aI st) t/\t { nx:=fun _ H'=>Q .non H',rt:=Q } (kJ N vs) H):Has P w K mg base x (k+1) ps sp:=by
 obtain⟨f,fd,F,b,m⟩:=d
 exact⟨f,fd,F.ok S len (fun cdv A outer s H vs Q E hr h=>let ⟨t,a,b⟩:=hbody f cdv A outer s H vs Q E hr h;⟨t,a.h,b⟩),b,F.kp,m⟩
theorem Def.none(d:Def K mg x st ps)(no:∀vs H Q E,¬sp vs H Q E):Has P w K mg base x k ps sp:=by
 obtain⟨f,fd,F,b,m⟩:=d
 exact⟨f,fd,⟨fun vs H Q E h=>absurd h (no vs H Q E),fun A outer s H args us vs Q E _ _ _ _ h=>absurd h (no vs H Q E)⟩,b,F.kp,m⟩
end
theorem CB{X:Cx}{k:Nat}{ps:List Str}{sp:Sp}{x:Str}{p pos:Pos}{e:Expr}{es:List Expr}{t:TA}(F:Has X.prog X.w X.K X.mg X.base x k ps sp)(hr:jl k X.A)(hg:Gl X x)
  (ha:WA X (e::es) t) (hdb:(x == ("__debug__":Str))=false:=by decide) (he:starEach (e::es) X.env=(false,eval e X.env)::starEach es X.env:=by rfl) (hpl:(backTo pos (starEach es X.env)).any (·.1)=false:=by rfl) :
  WE X (.Call (.Name x p) (e::es) [] pos) (Hn sp [] E0 t):=by
 obtain⟨f,fd,a,b,c,d⟩:=F
 exact⟨EN a hr hg d c b .nil Bt ha.h hdb he hpl⟩
structure Blt(mg:Str->Option Value):Prop where
 len:mg "len"=none
 isinstance:mg "isinstance"=none
 int:mg "int"=none
 bool:mg "bool"=none
 str:mg "str"=none
 tuple:mg "tuple"=none
 list:mg "list"=none
 range:mg "range"=none
 min:mg "min"=none
 sum:mg "sum"=none
 all:mg "all"=none
 zip:mg "zip"=none
 sorted:mg "sorted"=none
 dict:mg "dict"=none
 enumerate:mg "enumerate"=none
 any:mg "any"=none
 max:mg "max"=none
 set:mg "set"=none
theorem CN{n:Nat}(h:n<=1000):n<=sizeLine:=Nat.le_of_lt (xX h)
theorem wD{n:Nat}(h:n<2^60):n.log2<1920:=by
 by_cases e:n=0
 ·subst e;decide
 ·have:=(Nat.log2_lt e).mpr h;omega
theorem B9(ns:List Int)(lo hi:Option Int):zJ (ns.map V.int) lo hi=((ns.drop (HT.sIx (ns.map V.int).length 0 lo)).take (HT.sIx (ns.map V.int).length (ns.map V.int).length hi-HT.sIx (ns.map V.int).length 0 lo)).map V.int:=by
 unfold zJ
 rw[List.map_take,List.map_drop]
noncomputable def A3(K:PySem.W.Frag):Sp:=fun vs H Q _=>∃(a:Addr) (ns:List Int),vs=[.ref a]/\SqL K H a (ns.map V.int)/\ns.length<=63/\∀H',Q (.bl true) H'
theorem rb:bootBuiltins "int"=some (.type "int"):=rfl
theorem lO:bootBuiltins "bool"=some (.type "bool"):=rfl
theorem vU:bootBuiltins "str"=some (.type "str"):=rfl
theorem gq:bootBuiltins "tuple"=some (.type "tuple"):=rfl
theorem iS:bootBuiltins "list"=some (.type "list"):=rfl
theorem oG:bootBuiltins "isinstance"=some (.builtin "isinstance"):=rfl
theorem vV:bootBuiltins "all"=some (.builtin "all"):=rfl
theorem gJ:bootBuiltins "sorted"=some (.builtin "sorted"):=rfl
theorem iF{X:Cx}{x:Str}{T:String}{pos:Pos}(hg:Gl X x)(hm:X.mg x=none)(hv:bootBuiltins x=some (.type T))(hn:x≠"__name__":=by decide)(hd:(x == ("__debug__":Str))=false:=by decide):WE X (.Name x pos) (tC (.ty T)):=
 ⟨EO hg hm hv rfl hn hd⟩
theorem zZ{α:Type}{xs:List α}{k:Int}{v:α}(h0:0<=k)(h:xs[k.toNat]?=some v):atI xs k=some v:=by
 have ek:k=((k.toNat:Nat):Int):=by omega
 rw[ek];exact oK h
theorem Fun.okW{P:Program}{w:World}{K:PySem.W.Frag}{mg:Str->Option Value}{base:Heap}{x qual:Str}{st:Stmt}{f:Addr}{fd:FuncData}{N ps:List Str}{k:Nat}{sp:Sp}(F:Fun K x qual st f fd)(S:aL N ps (ar st))(len:∀vs H Q E,sp vs H Q E->vs.length=ps.length)
  (hbody:∀(cdv:Value) (A:Around) (outer:List Env) (s:Shared) (H:Hp) (vs:List V) (Q:VK) (E:XK),jl k (A.deeper (envOfC qual (ar st) s.heap.objs.size f cdv))->sp vs H Q E->
   ∃t,WSs (xg CX0 P w K mg base N qual (ar st) f cdv A outer s H E).nox (aI st) t/\t { nx:=fun _ H'=>Q .non H',rt:=Q } (kJ N vs) H):nh P w K mg base CX0 (k+1) f fd ps sp:=
 F.ok S len fun cdv A outer s H vs Q E hr h=>let ⟨t,a,b⟩:=hbody cdv A outer s H vs Q E hr h;⟨t,a.h,b⟩
noncomputable def v8(env:Env):List (Str×Addr)->Prop
 |[]=>True
 |p::r=>env.cells.lookup p.1=some p.2/\v8 env r
theorem v8.look{env:Env}:∀{cl:List (Str×Addr)} {y:Str} {c:Addr},v8 env cl->cl.lookup y=some c->env.cells.lookup y=some c
 |[],_,_,_,h=>by simp at h
 |(n,d)::r,y,c,a,h=>by
  obtain⟨a1,a2⟩:=a
  rw[List.lookup_cons]at h
  by_cases e:(y == n)=true
  ·rw[e]at h
   have e':y=n:=by simpa using e
   subst e'
   cases h
   exact a1
  ·have e':(y == n)=false:=by simpa using e
   rw[e']at h
   exact v8.look a2 h
noncomputable abbrev cxC(X:Cx)(Nc:List Str)(scope:Scope)(cl:List (Str×Addr))(s3:Shared)(H3:Hp)(fp:List Addr):Cx where
 prog:=X.prog
 w:=X.w
 K:=X.K
 mg:=X.mg
 base:=X.base
 A:=X.A
 N:=Nc
 s₀:=s3
 H₀:=H3
 env:=compEnvC scope cl s3.heap.objs.size X.env
 outer:=X.stack
 stack:=X.stack
 ex:=fp
 fn:=fun _=>false
 calm:=X.calm
 pn:=[]
 xe:=fun _ _=>False
noncomputable def stC(n:Nat)(caps:List Nat)(σ:L2.St):L2.St:=List.replicate n none++caps.map fun i=>(σ[i]?).getD none
noncomputable def Ek(wi:TI)(g:TG)(te:TE)(n:Nat)(caps:List Nat):TE:=fun σ H Q=>wi σ H fun J H1=>∀l,H1 l=none->∃W:Nat->Nat->L2.St->Hp->Prop,(∃m,W 0 m (stC n caps σ) (upd H1 l (.lst [])))/\
 ∀i m σ' H2,W i m σ' H2->(J.stop i H2/\Q (.ref l) H2)\/(J.go i H2/\∃N:L2.St->Hp->Prop,(∀σ'' H',N σ'' H'->∃m',m'<m/\W (i+1) m' σ'' H')/\
  ∀x H3,J.yld i H2 x H3->g x σ' H3 fun σ2 H4=>te σ2 H4 fun v H5=>∃ys,H5 l=some (.lst ys)/\ys.length<sizeLine/\N σ2 (upd H5 l (.lst (ys++[v]))))
theorem tF{prog:Program}{w:World}{A:Around}{R:Result->Shared->Prop}{s:Shared}{elt target iter:Expr}{scope:Scope}{pos:Pos}{it acc:Value}{env:Env}(I:Nat->Shared->Prop)
  (turn:∀n s,I n s->wpAny (model prog w) A (pyNext it) (fun r s₁=>match r with
   |none=>R (.ok .next) s₁
   | some v=>wpAny (model prog w) A (letOwnedTupleGo target it v) (fun _ s₁'=>wpAny (model prog w) A (assign target env v) (fun _ s₂=>wpAny (model prog w) A (eval elt env) (fun x s₃=>
     wpAny (model prog w) A (call (.builtin "list.append") [acc,x]) (fun _ s₄=>∃m,m<n/\I m s₄) (fun _ _=>False) s₃)
     (fun _ _=>False) s₂) (fun _ _=>False) s₁') (fun _ _=>False) s₁) (fun _ _=>False) s)
  (n:Nat) (h:I n s) :
  codeAny (model prog w) A (.compLoop (.ListComp elt [⟨target,iter,[],0⟩] scope pos) 0 it acc env) R s:=by
 refine codeAny_loop rfl I (fun n s hI=>?_) n h
 show wpAny _ _ ((compTurn (.ListComp elt [⟨target,iter,[],0⟩] scope pos) 0 it acc env).onRaise (fun x=>do noteFrame x env;theTreesLotGoes x)) _ _ s
 refine wpAny_noted ?_
 rw[compTurn_list1]
 refine wpAny_bind (wpAny_standAt (wpAny_bind (wpAny_mono (turn n s hI) (fun r s₁ h₁=>?_) fun _ _ h'=>h'.elim)))
 cases r with
 |none=>exact wpAny_pure h₁
 |some v=>
  refine wpAny_bind (wpAny_mono h₁ (fun _ s₁' h₁'=>?_) fun _ _ h'=>h'.elim)
  exact wpAny_bind (wpAny_mono h₁' (fun _ s₂ h₂=>wpAny_bind (wpAny_bind (wpAny_mono h₂ (fun x s₃ h₃=>wpAny_bind (wpAny_mono h₃
   (fun _ s₄ h₄=>wpAny_pure (wpAny_pure ⟨rfl,h₄⟩)) fun _ _ h'=>h'.elim)) fun _ _ h'=>h'.elim))) fun _ _ h'=>h'.elim)
section
variable{X:Cx}{pins:List (Addr×Obj)}{σ:L2.St}{H:Hp}{s:Shared}{Nc capN:List Str}{scope:Scope}{cl:List (Str×Addr)}{fp:List Addr}{n:Nat}{caps:List Nat}{tg iter elt:Expr}{pos:Pos}{wi:TI}{g:TG}{te:TE}
noncomputable def Cap(X:Cx)(scope:Scope)(cl:List (Str×Addr))(i:Nat)(y:Str):Prop:=X.N[i]?=some y/\X.env.scope.names.lookup y=some .cell/\(relabel scope X.env).names.lookup y=some .cell/\∃c,cl.lookup y=some c
theorem Inv.comp{h1:Heap}{t':Nat}(I:Inv X pins σ H s)(hc:X.calm=true)(f2:∀b∈fp,xi X pins H b)(fo:∀b∈fp,b<s.heap.objs.size)(hkind:scope.kind=.function)(hcl:v8 X.env cl)
  (hhas:((relabel scope X.env).names.all fun p=>!(p.2 == .cell||p.2 == .free)||(cl.lookup p.1).isSome)=true)
  (hcap:Paired (Cap X scope cl) caps capN) (tn:List Str) (hN:Nc=tn++capN) (hn:tn.length=n)
  (hns:h1.Ns s.heap.objs.size (fun _=>none)) (hk:∀b o,s.heap.get? b=some o->h1.get? b=some o) :
  Inv (cxC X Nc scope cl s H fp) [] (stC n caps σ) H { s with heap:=h1,toks:=t' }:=by
 have lkc:∀y c,cl.lookup y=some c->X.env.cells.lookup y=some c:=fun y c e=>hcl.look e
 refine⟨⟨I.ok.mod,?_,I.ok.glob,I.ok.blt,Nat.le_refl _,fun x y c a b=>I.ok.inj x y c (lkc _ _ a) (lkc _ _ b),fun x hx=>?_,fun x c z=>(nomatch z),I.ok.hd,I.ok.frames,.inl rfl,fun b hb=>⟨Nat.ne_of_lt (fo b hb),fun x c e=>(f2 b hb).2.2.2.2.1 x c (lkc _ _ e)⟩,I.bs,Nat.le_trans I.ok.bsz I.sz,
  fun b o e hb=>?_,fun b hb z=>?_,I.stack,I.stkFree⟩,rfl,I.bare,Un.kept hk,⟨_,hns,fun i y v h1' h2 h3=>?_⟩,fun y c e=>?_,I.hok.fresh (Nat.le_refl _),fun y c e=>I.freeC y c (lkc _ _ e),fun p hp=>(by simp at hp),I.hok.kept hk,?_⟩
 ·exact hkind
 ·have hx':(relabel scope X.env).names.lookup x=some .cell\/(relabel scope X.env).names.lookup x=some .free:=hx
  have mem:∀{k},(relabel scope X.env).names.lookup x=some k->(x,k)∈(relabel scope X.env).names:=fun{k} e=>by
   generalize (relabel scope X.env).names=L at e
   induction L with
   |nil=>simp at e
   |cons p r ih=>
    obtain⟨a,b⟩:=p
    rw[List.lookup_cons]at e
    by_cases q:(x == a)=true
    ·rw[q]at e;cases e
     have:x=a:=by simpa using q
     subst this;exact List.mem_cons_self
    ·rw[show(x == a)=false by simpa using q]at e
     exact List.mem_cons_of_mem _ (ih e)
  have fin:∀{k},(k=NameKind.cell\/k=.free)->(relabel scope X.env).names.lookup x=some k->∃c,cl.lookup x=some c:=fun{k} hk' e=>by
   have:=List.all_eq_true.mp hhas _ (mem e)
   dsimp only at this
   have q:(cl.lookup x).isSome=true:=by
    rcases hk' with z|z<;>subst z<;>simpa using this
   exact Option.isSome_iff_exists.mp q
  rcases hx' with e|e
  ·exact fin (.inl rfl) e
  ·exact fin (.inr rfl) e
 ·rcases(f2 b hb).2.2.2.1 with z|z
  ·exact I.ok.noex b o e z
  ·exact absurd (Nat.lt_of_lt_of_le (Heap.lt_size e) I.ok.bsz) (Nat.not_lt.mpr z)
 ·rcases List.mem_cons.mp (I.stkSub b z)with q|q
  ·exact(f2 b hb).2.1 q
  ·exact(f2 b hb).2.2.1 q
 ·obtain⟨m,hm,hl⟩:=I.loc
  have h2':(stC n caps σ)[i]?=some (some v):=h2
  have h1'':Nc[i]?=some y:=h1'
  unfold stC at h2'
  by_cases hi:i<n
  ·rw[List.getElem?_append_left (by simpa using hi),List.getElem?_replicate,if_pos hi]at h2'
   cases h2'
  ·rw[List.getElem?_append_right (by simp;omega),List.length_replicate,List.getElem?_map]at h2'
   rw[hN,List.getElem?_append_right (by omega),hn]at h1''
   have key:∀(j:Nat) {caps:List Nat} {capN:List Str},Paired (Cap X scope cl) caps capN->capN[j]?=some y->(Option.map (fun i=>(σ[i]?).getD none) caps[j]?)=some (some v)->∃k,Cap X scope cl k y/\σ[k]?=some (some v):=by
    intro j
    induction j with
    |zero=>
     intro caps capN P e1 e2
     cases P with
     |nil=>simp at e1
     |@cons a b l r p t=>
      simp at e1 e2
      subst e1
      cases q:σ[a]? with
      |none=>rw[q]at e2;simp at e2
      |some w'=>rw[q]at e2;simp at e2;subst e2;exact⟨a,p,q⟩
    |succ j ih=>
     intro caps capN P e1 e2
     cases P with
     |nil=>simp at e1
     |cons p t=>exact ih t (by simpa using e1) (by simpa using e2)
   obtain⟨k,⟨c1,c2,c3,c,c4⟩,e⟩:=key _ hcap h1'' h2'
   obtain⟨u,r,lk⟩:=hl k y v c1 e (.inr (.inl c2))
   refine⟨u,r,.inr ⟨.inl c3,c,c4,?_⟩⟩
   rcases lk with⟨z,_⟩|⟨_,c',e',o,ho,hd⟩
   ·have z':X.env.scope.names.lookup y=some .local:=z
    rw[c2]at z';cases z'
   ·rw[lkc _ _ c4]at e'
    cases e'
    exact⟨o,hk _ _ ho,hd⟩
 ·obtain⟨v,o,ho,hd⟩:=I.cell y c (lkc _ _ e)
  exact⟨v,o,hk _ _ ho,hd⟩
 ·show(stC n caps σ).length=Nc.length
  have pl:caps.length=capN.length:=Paired.length hcap
  unfold stC
  rw[List.length_append,List.length_replicate,List.length_map,hN,List.length_append,hn,pl]
end
theorem Cd{X:Cx}{Nc capN tn:List Str}{scope:Scope}{cl:List (Str×Addr)}{n:Nat}{caps:List Nat}{tg iter elt:Expr}{pos:Pos}{wi:TI}{g:TG}{te:TE}
  (hc:X.calm=true) (hi:WI X tg iter wi) (hg:∀s3 H3 fp,WG (cxC X Nc scope cl s3 H3 fp) tg g) (he:∀s3 H3 fp,WE (cxC X Nc scope cl s3 H3 fp) elt te)
  (hclos:closureFor scope X.env=pure cl) (hkind:scope.kind=.function) (hnl:∀x∈scope.names,x.2=.local->scope.names.lookup x.1=some .local) (hcell:∀x∈scope.names,x.2≠.cell)
  (hcl:v8 X.env cl) (hhas:((relabel scope X.env).names.all fun p=>!(p.2 == .cell||p.2 == .free)||(cl.lookup p.1).isSome)=true)
  (hcap:Paired (Cap X scope cl) caps capN) (hN:Nc=tn++capN) (hn:tn.length=n)
  {use:Option (Value->Sem Unit)} {pins:List (Addr×Obj)} {σ:L2.St} {H:Hp} {s:Shared} {Q:VK} {Qf:Value->Shared->Prop} (I:Inv X pins σ H s) (h:Ek wi g te n caps σ H Q)
  (hend:∀(D C:Addr) (s6:Shared) (H5:Hp) (m:Str->Option Value),Inv X pins σ H5 s6->s6.heap.Ns C m->H5 C=none->C≠X.env.locals->X.s₀.heap.objs.size<=C->(∀x c,X.env.cells.lookup x=some c->c≠C)->(∀p∈X.pn++pins,p.1≠C)->Q (.ref D) H5->compPost (model X.prog X.w) X.A X.xe use Qf (.ref D) C (.ok .next) s6)
  (hs:∀x,foldedSetIterable iter X.env x=pure x) :
  wpAny (model X.prog X.w) X.A (comprehension (.ListComp elt [⟨tg,iter,[],0⟩] scope pos) scope X.env (firstIterPos [⟨tg,iter,[],0⟩] pos) (newList []) (firstAsync [⟨tg,iter,[],0⟩]) (firstIter [⟨tg,iter,[],0⟩] X.env) use) Qf X.xe s:=by
 refine wpAny_comprehension_free (use:=use) (g:=⟨tg,iter,[],0⟩) (gs:=[]) rfl hs hclos hkind hnl (thn (hi.h pins s σ H _ I h) fun v s1 h1=>thn h1 fun itv s2 h2=>?_)
 obtain⟨it,fp,tnn,J,H2,rfl,I2,T,st2,f2,hW⟩:=h2
 have hD:=I2.fresh
 obtain⟨W,⟨m0,w0⟩,turn⟩:=hW _ hD
 refine wpAny_newObj_type (wpAny_newFunctionEnv hcell (by intro y hy;simp at hy) (fun h₁ hns₁ hsb₁=>?_) hkind)
 dsimp only at hns₁ hsb₁ ⊢
 have I3:Inv X pins σ (upd H2 s2.heap.objs.size (.lst [])) { s2 with heap:=s2.heap.push { cls:=.type "list",dict:=none,data:=.seq ([]:List Value).toArray },toks:=s2.toks }:=I2.lnew (its:=[]) .nil (Nat.zero_le _)
 generalize hs3:({ s2 with heap:=s2.heap.push { cls:=.type "list",dict:=none,data:=.seq ([]:List Value).toArray },toks:=s2.toks }:Shared)=s3 at I3
 have es3:s3.heap=s2.heap.push { cls:=.type "list",dict:=none,data:=.seq ([]:List Value).toArray }:=by rw[<-hs3]
 generalize hDD:s2.heap.objs.size=D at *
 have kept:∀b o,s3.heap.get? b=some o->h₁.get? b=some o:=fun b o e=>by
  have lt:=Heap.lt_size e
  rw[es3]at lt e
  exact hsb₁.extBut b o (Nat.ne_of_lt lt) (Heap.get?_push_of_some _ e)
 have old:∀b o,s2.heap.get? b=some o->s3.heap.get? b=some o:=fun b o e=>by rw[es3];exact Heap.get?_push_of_some _ e
 have ltD:∀b∈fp,b<D:=fun b hb=>by
  obtain⟨o,e,_⟩:=T.obj 0 _ st2 b hb
  rw[<-hDD];exact Heap.lt_size e
 have fo:∀b∈fp,b<s3.heap.objs.size:=fun b hb=>by
  obtain⟨o,e,_⟩:=T.obj 0 _ st2 b hb
  exact Heap.lt_size (old _ _ e)
 have f3:∀b∈fp,xi X pins (upd H2 D (.lst [])) b:=fun b hb=>by
  refine⟨?_,(f2 b hb).2⟩
  rw[bB (Nat.ne_of_lt (ltD b hb))]
  exact(f2 b hb).1
 rw[<-es3]at hns₁ hsb₁ ⊢
 have Ic:=fun t'=>Inv.comp (h1:=h₁) (t':=t') (Nc:=Nc) (n:=n) I3 hc f3 fo hkind hcl hhas hcap tn hN hn hns₁ kept
 have stat:∀{H':Hp},(∀b∈fp,H' b=none)->∀b∈fp,xi (cxC X Nc scope cl s3 (upd H2 D (.lst [])) fp) [] H' b:=fun hn' b hb=>by
  refine⟨hn' b hb,Nat.ne_of_lt (fo b hb),fun z=>?_,.inl hb,fun x c e=>(f2 b hb).2.2.2.2.1 x c (hcl.look e),fun p hp=>(by simp at hp)⟩
  rcases List.mem_cons.mp (I3.stkSub b z)with q|q
  ·exact(f2 b hb).2.1 q
  ·exact(f2 b hb).2.2.1 q
 have loop:∀s4:Shared,(∃t',s4={ s3 with heap:=h₁,toks:=t' })->codeAny (model X.prog X.w) X.A (.compLoop (.ListComp elt [⟨tg,iter,[],0⟩] scope pos) 0 (.ref it) (.ref D) (compEnvC scope cl s3.heap.objs.size X.env))
   (compPost (model X.prog X.w) X.A X.xe use Qf (.ref D) s3.heap.objs.size) s4:=by
  rintro s4 ⟨t',rfl⟩
  refine tF (fun n' s'=>∃i σ' H',Inv (cxC X Nc scope cl s3 (upd H2 D (.lst [])) fp) [] σ' H' s'/\tnn i s'.heap/\(∀b∈fp,H' b=none)/\W i n' σ' H') ?_ m0
   ⟨0,_,_,Ic t',T.keep 0 _ _ st2 fun b hb o e=>kept _ _ (old _ _ e),fun b hb=>(f3 b hb).1,w0⟩
  rintro n' s5 ⟨i,σ5,H5,I5,st5,fr5,w5⟩
  rcases turn i n' σ5 H5 w5 with⟨stop,qn⟩|⟨go,N,hN',step⟩
  ·refine thn (T.done (cxC X Nc scope cl s3 (upd H2 D (.lst [])) fp) rfl rfl rfl hc i [] s5 σ5 H5 (fun _ _=>False) I5 (stat fr5) st5 stop) fun r s6 ⟨hr,I6⟩=>?_
   subst hr
   obtain⟨m,hm,_⟩:=I6.loc
   have I7:Inv X pins σ H5 s6:=Inv.call' (ch:=fp) I3 I6.os I6.base I6.hok I6.bare fun b hb=>⟨(f2 b hb).2.2.2.1,(f2 b hb).2.1,(f2 b hb).2.2.2.2.1,(f2 b hb).2.2.2.2.2⟩
   exact hend D _ s6 H5 m I7 hm I6.free (Ne.symm (Nat.ne_of_lt I3.lt)) I3.sz (fun x c e=>by
     obtain⟨v',o,ho,_⟩:=I3.cell x c e
     exact Nat.ne_of_lt (Heap.lt_size ho)) (fun p hp=>Nat.ne_of_lt (Heap.lt_size (I3.pin p hp).1)) qn
  ·refine thn (T.item (cxC X Nc scope cl s3 (upd H2 D (.lst [])) fp) rfl rfl rfl hc i [] s5 σ5 H5 (fun _ _=>False) I5 (stat fr5) st5 go) fun r s6 ⟨u,hr,h6⟩=>?_
   subst hr
   refine thn h6 fun _ s7 hz=>?_
   obtain⟨x,H7,I7,r7,y7,st7,fr7⟩:=hz
   have I7':=I7.pinned (stat fr7) (T.obj _ _ st7)
   refine thn ((hg s3 (upd H2 D (.lst [])) fp).h _ s7 σ5 H7 x u _ I7' r7 (step x H7 y7)) fun _ s8 hz=>?_
   obtain⟨σ8,H8,I8,q8⟩:=hz
   refine thn ((he s3 (upd H2 D (.lst [])) fp).h _ s8 σ8 H8 _ I8 q8) fun v9 s9 hz=>?_
   obtain⟨x9,H9,I9,r9,ys,hy,hlt,q9⟩:=hz
   refine thn (nN (X:=cxC X Nc scope cl s3 (upd H2 D (.lst [])) fp) _ s9 σ8 H9 (.ref D) [x9] (.ref D) [v9] (fun _ H'=>N σ8 H') I9 rfl (.cons r9 .nil) ⟨D,ys,x9,rfl,rfl,hy,hlt,q9⟩) fun _ s10 hz=>?_
   obtain⟨_,H10,I10,_,q10⟩:=hz
   obtain⟨m',hm,w10⟩:=hN' σ8 H10 q10
   refine⟨m',hm,i+1,σ8,H10,I10.unpinned,T.keep _ _ _ st7 fun b hb o e=>(I10.pin (b,o) (List.mem_append_right _ (List.mem_append_right _ (gm hb e)))).1,fun b hb=>?_,w10⟩
   obtain⟨o,e,d⟩:=T.obj _ _ st7 b hb
   exact(I10.pin (b,o) (List.mem_append_right _ (List.mem_append_right _ (gm hb e)))).2.1
 have e4:∀t',({ s2 with heap:=h₁,toks:=t' }:Shared)={ s3 with heap:=h₁,toks:=t' }:=fun t'=>by rw[<-hs3]
 refine codeAny_compStart_list (loop _ ⟨_,e4 _⟩) (T.self _ 0 _ _ _ (T.keep 0 _ _ st2 fun b hb o e=>kept _ _ (old _ _ e)) (loop _ ⟨_,e4 _⟩))
theorem AQ{X:Cx}{Nc capN tn:List Str}{scope:Scope}{cl:List (Str×Addr)}{n:Nat}{caps:List Nat}{tg iter elt:Expr}{pos:Pos}{wi:TI}{g:TG}{te:TE}
  (hc:X.calm=true) (hi:WI X tg iter wi) (hg:∀s3 H3 fp,WG (cxC X Nc scope cl s3 H3 fp) tg g) (he:∀s3 H3 fp,WE (cxC X Nc scope cl s3 H3 fp) elt te)
  (hclos:closureFor scope X.env=pure cl) (hkind:scope.kind=.function) (hnl:∀x∈scope.names,x.2=.local->scope.names.lookup x.1=some .local) (hcell:∀x∈scope.names,x.2≠.cell)
  (hcl:v8 X.env cl) (hhas:((relabel scope X.env).names.all fun p=>!(p.2 == .cell||p.2 == .free)||(cl.lookup p.1).isSome)=true)
  (hcap:Paired (Cap X scope cl) caps capN) (hN:Nc=tn++capN) (hn:tn.length=n)
  (hs:∀x,foldedSetIterable iter X.env x=pure x:=by intro _;rfl) :
  WE X (.ListComp elt [⟨tg,iter,[],0⟩] scope pos) (Ek wi g te n caps):=by
 constructor
 intro pins s σ H Q I h
 rw[eval_ListComp]
 refine Cd hc hi hg he hclos hkind hnl hcell hcl hhas hcap hN hn I h (fun D C s6 H5 m I7 hm fr nl sz cn pn qn=>⟨m,hm,fun h' hs'=>?_⟩) hs
 exact⟨.ref D,H5,I7.turned (t':=s6.toks) (it:=C) (fun b o hb e=>hs'.extBut b o hb e) fr nl (.inr sz) cn pn,rfl,qn⟩
section
variable{X:Cx}
theorem xI:∀{bs:List Bool} {us:List Value} {i:Nat} {v:Value},b8 (bs.map V.bl) us->us[i]?=some v->∃b,bs[i]?=some b/\v=.bool b
 |[],_,_,_,r,e=>by cases r;simp at e
 |b::bs,_,0,_,.cons r _,e=>by
  have r':_=Value.bool b:=r
  simp at e;subst e;exact⟨b,by simp,r'⟩
 |b::bs,_,i+1,v,.cons _ t,e=>by
  obtain⟨b',e1,e2⟩:=xI (i:=i) (v:=v) t (by simpa using e)
  exact⟨b',by simpa using e1,e2⟩
theorem Co(bs:List Bool):(List.range bs.length).all (fun i=>(bs[i]?).getD true)=bs.all id:=by
 rw[Bool.eq_iff_iff,List.all_eq_true,List.all_eq_true]
 constructor
 ·intro h b hb
  obtain⟨i,hi,e⟩:=List.mem_iff_getElem.mp hb
  have:=h i (List.mem_range.mpr hi)
  rw[List.getElem?_eq_getElem hi,Option.getD_some,e]at this
  exact this
 ·intro h i hi
  have hi':=List.mem_range.mp hi
  have:=h _ (List.getElem_mem hi')
  rw[List.getElem?_eq_getElem hi',Option.getD_some]
  exact this
theorem E5{h:Heap}{b:Addr}{o:Obj}(e:h.get? b=some o):¬b∈[h.objs.size]:=fun z=>by
 have z':b=h.objs.size:=by simpa using z
 exact absurd (Heap.lt_size e) (by rw[z'];exact Nat.lt_irrefl _)
theorem vT(hc:X.calm=true):iV X (.builtin "all") (fun xs H Q=>∃(p:Addr) (bs:List Bool),xs=[.ref p]/\SqL X.K H p (bs.map V.bl)/\Q (.bl (bs.all id)) H):=by
 intro pins s σ H xs us Q I r h
 obtain⟨p,bs,rfl,hq,q⟩:=h
 obtain⟨u,rfl,rx⟩:=rR r
 cases rx
 obtain⟨its,rv,pl,hz⟩:=I.list hq
 have fT:=rv.length
 rw[List.length_map]at fT
 refine call_all_walk (wpAny_pyIter_list pl.isList ?_)
 have lt:p<s.heap.objs.size:=by obtain⟨o,e,_⟩:=pl.isList;exact Heap.lt_size e
 refine⟨s.heap.objs.size,_,_,_,_,_,fun i=>(bs[i]?).getD true,rfl,Walks.list (show X.A.in1.handled=none from I.ok.hd hc) s.heap.objs.size p (Nat.ne_of_lt lt) its.toArray,⟨⟨_,Heap.get?_push_size _ rfl,rfl,rfl⟩,pl.isList.at fun o e=>Heap.get?_push_of_some _ e⟩,?_,fun h' tk hk=>?_⟩
 ·intro i v s' Q' E' hP hQ
  have hP':its.toArray[i]?=some v:=hP
  obtain⟨b,e1,e2⟩:=xI rv (by simpa using hP')
  subst e2
  dsimp only at hQ
  rw[e1,Option.getD_some]at hQ
  exact wpAny_truthy_bool hQ
 ·have e:(List.range its.toArray.size).all (fun i=>(bs[i]?).getD true)=bs.all id:=by
   rw[List.size_toArray,<-fT];exact Co bs
  rw[e]
  exact⟨.bl (bs.all id),H,I.kept fun b o e=>hk b o (E5 e) (Heap.get?_push_of_some _ e),rfl,q⟩
end
open PySem.AutoSeq1 (wpAny_loadPart')
theorem Cg{prog:Program}{w:World}{A:Around}{E:Value->Shared->Prop}{s:Shared}{t b:Addr}{vs ws:List Value}{Q:Value->Shared->Prop}(ht:IsTup s.heap t vs.toArray)(hb:IsTup s.heap b ws.toArray)(hv:vs=[])
  (h1:Q (.ref b) s):wpAny (model prog w) A (binaryOp .Add (.ref t) (.ref b)) Q E s:=by
 obtain⟨⟨cls,dd,data,sl⟩,ho,hc,n,hd⟩:=id ht
 obtain⟨⟨cls2,dd2,data2,sl2⟩,ho2,hc2,n2,hd2⟩:=id hb
 simp only at hc hd hc2 hd2
 subst hc hd hc2 hd2
 exact concat_meets ⟨_,ho,rfl⟩ ⟨_,ho2,rfl⟩ noFill_tuple_add seq_tuple_add PySem.F.slot_tuple_add PySem.F.entry_tuple_add (PySem.F.args_tuple_add_2 _ _)
   (tuple_addW0 t b vs.toArray ws.toArray n n2 dd dd2 sl sl2 (by simp[hv])) ⟨ho,ho2,h1⟩
structure Mf(H:Hp)(p xs:Addr):Prop where
 ex:∃(ns:List Int) (at' cur:Int),H p=some (.lst [.ref xs,.int at',.int cur])/\H xs=some (.lst (ns.map V.int))/\xs≠p/\0<=at'/\0<=cur
noncomputable def CM(K:PySem.W.Frag):Sp:=fun vs H Q _=>∃(a:Addr) (ns:List Int),vs=[.ref a]/\SqL K H a (ns.map V.int)/\∀(q xs:Addr) (H':Hp),uI H H'->Mf H' q xs->H q=none->Q (.ref q) H'
theorem yL{m:Int}(h0:0<=m)(h:m<2^60):m.natAbs.log2<9000:=by
 have:=wD (n:=m.natAbs) (by omega)
 omega
end OG
namespace OP
open PySem PySem.Spec PyProof.Rows L2 OG
inductive U where
 |non|bl (b:Bool)|int (i:Int)|str (x:Str)|tup (us:List U)|ref (l:Nat)|kl (ns:List Int)
structure Cl where
 C:Addr
 ns:List Str
inductive O where
 |lst (us:List U)|dic (kvs:List (Key×U))|ins (c:Cl) (fs:List (Option U))|fdc (ep:Nat) (kvs:List (Key×U))|dit (kvs:List (List Key×U))|fdt (ep:Nat) (kvs:List (List Key×U))
noncomputable abbrev Sto:=List O
noncomputable abbrev Rho:=List (Option U)
noncomputable def KL(K:PySem.W.Frag)(H:Hp)(a:Addr)(ns:List Int):Prop:=
 (∃o,H a=some (.frz o (.lst (ns.map V.int))))\/
  ∃(o:Obj) (its:Array Value) (n:Nat),K.lookup a=some o/\o.cls=.type "list"/\o.dict=none/\o.data=.seq its n/\its.size<=sizeLine/\b8 (ns.map V.int) its.toList
theorem KL.sq{K:PySem.W.Frag}{H:Hp}{a:Addr}{ns:List Int}(h:KL K H a ns):SqL K H a (ns.map V.int):=by
 rcases h with h|h
 ·exact .inl (.inr h)
 ·exact .inr h
mutual
noncomputable def Is(K:PySem.W.Frag)(m:List Addr)(H:Hp):V->U->Prop
 |v,.non=>v=.non
 |v,.bl b=>v=.bl b
 |v,.int i=>v=.int i
 |v,.str x=>v=.str x
 |v,.tup us=>∃a xs,v=.ref a/\SqT K H a xs/\IsL K m H xs us
 |v,.ref l=>∃a,m[l]?=some a/\v=.ref a
 |v,.kl ns=>∃a,v=.ref a/\KL K H a ns
noncomputable def IsL(K:PySem.W.Frag)(m:List Addr)(H:Hp):List V->List U->Prop
 |xs,[]=>xs=[]
 |xs,u::us=>∃x r,xs=x::r/\Is K m H x u/\IsL K m H r us
end
structure Cs(K:PySem.W.Frag)(H H':Hp):Prop where
 t:∀a xs,SqT K H a xs->SqT K H' a xs
 l:∀a ns,KL K H a ns->KL K H' a ns
structure Ext(K:PySem.W.Frag)(m:List Addr)(H:Hp)(m':List Addr)(H':Hp):Prop where
 pre:∃t,m'=m++t
 keep:Cs K H H'
section
variable{K:PySem.W.Frag}{m m' m'':List Addr}{H H' H'':Hp}{v x:V}{u:U}{xs ys:List V}{us ws:List U}{a q:Addr}{o:HO}
theorem Ext.refl:Ext K m H m H:=⟨⟨[],by simp⟩,fun _ _ h=>h,fun _ _ h=>h⟩
theorem Ext.trans(a:Ext K m H m' H')(b:Ext K m' H' m'' H''):Ext K m H m'' H'':=by
 obtain⟨t,rfl⟩:=a.pre
 obtain⟨t',rfl⟩:=b.pre
 exact⟨⟨t++t',by simp⟩,fun c ys h=>b.keep.t c ys (a.keep.t c ys h),fun c ys h=>b.keep.l c ys (a.keep.l c ys h)⟩
theorem Ext.of(k:Cs K H H'):Ext K m H m H':=⟨⟨[],by simp⟩,k⟩
theorem Ext.new(k:Cs K H H'):Ext K m H (m++[q]) H':=⟨⟨[q],rfl⟩,k⟩
theorem Ext.get{l:Nat}(e:Ext K m H m' H')(h:m[l]?=some a):m'[l]?=some a:=by
 obtain⟨t,rfl⟩:=e.pre
 rw[List.getElem?_append_left (List.getElem?_eq_some_iff.mp h).1]
 exact h
mutual
theorem Is.mono(e:Ext K m H m' H'):∀{v:V} {u:U},Is K m H v u->Is K m' H' v u
 |v,.non,h=>by unfold Is at h ⊢;exact h
 |v,.bl b,h=>by unfold Is at h ⊢;exact h
 |v,.int i,h=>by unfold Is at h ⊢;exact h
 |v,.str x,h=>by unfold Is at h ⊢;exact h
 |v,.tup us,h=>by
  unfold Is at h ⊢
  obtain⟨a,xs,e1,k,l⟩:=h
  exact⟨a,xs,e1,e.keep.t _ _ k,IsL.mono e l⟩
 |v,.ref l,h=>by
  unfold Is at h ⊢
  obtain⟨a,k,e1⟩:=h
  exact⟨a,e.get k,e1⟩
 |v,.kl ns,h=>by
  unfold Is at h ⊢
  obtain⟨a,e1,k⟩:=h
  exact⟨a,e1,e.keep.l _ _ k⟩
theorem IsL.mono(e:Ext K m H m' H'):∀{xs:List V} {us:List U},IsL K m H xs us->IsL K m' H' xs us
 |xs,[],h=>by unfold IsL at h ⊢;exact h
 |xs,u::us,h=>by
  unfold IsL at h ⊢
  obtain⟨x,r,e1,k,l⟩:=h
  exact⟨x,r,e1,Is.mono e k,IsL.mono e l⟩
end
theorem Is.int_{i:Int}:Is K m H (.int i) (.int i):=by unfold Is;rfl
theorem Is.bl_{b:Bool}:Is K m H (.bl b) (.bl b):=by unfold Is;rfl
theorem Is.non_:Is K m H .non .non:=by unfold Is;rfl
theorem Is.str_{x:Str}:Is K m H (.str x) (.str x):=by unfold Is;rfl
theorem Is.of_int{i:Int}(h:Is K m H v (.int i)):v=.int i:=by unfold Is at h;exact h
theorem Is.of_bl{b:Bool}(h:Is K m H v (.bl b)):v=.bl b:=by unfold Is at h;exact h
theorem Is.of_non(h:Is K m H v .non):v=.non:=by unfold Is at h;exact h
theorem Is.of_str{x:Str}(h:Is K m H v (.str x)):v=.str x:=by unfold Is at h;exact h
theorem Is.of_tup(h:Is K m H v (.tup us)):∃a xs,v=.ref a/\SqT K H a xs/\IsL K m H xs us:=by unfold Is at h;exact h
theorem Is.of_ref{l:Nat}(h:Is K m H v (.ref l)):∃a,m[l]?=some a/\v=.ref a:=by unfold Is at h;exact h
theorem Is.of_kl{ns:List Int}(h:Is K m H v (.kl ns)):∃a,v=.ref a/\KL K H a ns:=by unfold Is at h;exact h
theorem Is.tup_(e:SqT K H a xs)(h:IsL K m H xs us):Is K m H (.ref a) (.tup us):=by unfold Is;exact⟨a,xs,rfl,e,h⟩
theorem Is.ref_{l:Nat}(e:m[l]?=some a):Is K m H (.ref a) (.ref l):=by unfold Is;exact⟨a,e,rfl⟩
theorem IsL.nil_:IsL K m H [] []:=by unfold IsL;rfl
theorem IsL.cons_(h:Is K m H x u)(t:IsL K m H xs us):IsL K m H (x::xs) (u::us):=by unfold IsL;exact⟨x,xs,rfl,h,t⟩
theorem IsL.of_nil(h:IsL K m H xs []):xs=[]:=by unfold IsL at h;exact h
theorem IsL.of_cons(h:IsL K m H xs (u::us)):∃x r,xs=x::r/\Is K m H x u/\IsL K m H r us:=by unfold IsL at h;exact h
theorem IsL.length:∀{xs:List V} {us:List U},IsL K m H xs us->xs.length=us.length
 |xs,[],h=>by rw[h.of_nil];rfl
 |xs,d::ds,h=>by
  obtain⟨x,r,rfl,_,t⟩:=h.of_cons
  rw[List.length_cons,List.length_cons,IsL.length t]
theorem IsL.getD:∀{xs:List V} {us:List U} {i:Nat} {u:U},IsL K m H xs us->us[i]?=some u->∃x,xs[i]?=some x/\Is K m H x u
 |xs,[],i,x,h,e=>by simp at e
 |xs,d::ds,0,x,h,e=>by
  obtain⟨y,r,rfl,k,t⟩:=h.of_cons
  simp at e;subst e;exact⟨y,by simp,k⟩
 |xs,d::ds,i+1,x,h,e=>by
  obtain⟨y,r,rfl,k,t⟩:=h.of_cons
  obtain⟨d',e1,e2⟩:=IsL.getD (i:=i) (u:=x) t (by simpa using e)
  exact⟨d',by simpa using e1,e2⟩
theorem IsL.append:∀{xs:List V} {us:List U},IsL K m H xs us->IsL K m H ys ws->IsL K m H (xs++ys) (us++ws)
 |xs,[],h,k=>by rw[h.of_nil];exact k
 |xs,d::ds,h,k=>by
  obtain⟨y,r,rfl,z,t⟩:=h.of_cons
  exact .cons_ z (IsL.append t k)
theorem IsL.set:∀{xs:List V} {us:List U} {j:Nat},IsL K m H xs us->Is K m H x u->IsL K m H (xs.set j x) (us.set j u)
 |xs,[],j,h,k=>by rw[h.of_nil];exact .nil_
 |xs,d::ds,0,h,k=>by
  obtain⟨y,r,rfl,z,t⟩:=h.of_cons
  exact .cons_ k t
 |xs,d::ds,j+1,h,k=>by
  obtain⟨y,r,rfl,z,t⟩:=h.of_cons
  exact .cons_ z (IsL.set t k)
theorem IsL.drop:∀{xs:List V} {us:List U} (n:Nat),IsL K m H xs us->IsL K m H (xs.drop n) (us.drop n)
 |xs,us,0,h=>h
 |xs,[],n+1,h=>by rw[h.of_nil];exact .nil_
 |xs,d::ds,n+1,h=>by
  obtain⟨y,r,rfl,z,t⟩:=h.of_cons
  exact IsL.drop n t
theorem IsL.take:∀{xs:List V} {us:List U} (n:Nat),IsL K m H xs us->IsL K m H (xs.take n) (us.take n)
 |xs,us,0,h=>.nil_
 |xs,[],n+1,h=>by rw[h.of_nil];exact .nil_
 |xs,d::ds,n+1,h=>by
  obtain⟨y,r,rfl,z,t⟩:=h.of_cons
  exact .cons_ z (IsL.take n t)
theorem IsL.erase:∀{xs:List V} {us:List U} (n:Nat),IsL K m H xs us->IsL K m H (xs.eraseIdx n) (us.eraseIdx n)
 |xs,[],n,h=>by rw[h.of_nil];exact .nil_
 |xs,d::ds,0,h=>by
  obtain⟨y,r,rfl,z,t⟩:=h.of_cons
  exact t
 |xs,d::ds,n+1,h=>by
  obtain⟨y,r,rfl,z,t⟩:=h.of_cons
  exact .cons_ z (IsL.erase n t)
theorem vC(h:H a=some o)(nt:∀xs,o≠.tup xs)(nf:∀ob xs,o≠.frz ob (.tup xs))(nl:∀ob xs,o≠.frz ob (.lst xs))(o':HO):Cs K H (upd H a o'):=by
 refine⟨fun b xs q=>?_,fun b ns q=>?_⟩
 ·rcases q with(q|⟨ob,q⟩)|q
  ·have n:b≠a:=fun z=>by subst z;rw[q]at h;cases h;exact nt _ rfl
   exact .inl (.inl (by rw[bB n];exact q))
  ·have n:b≠a:=fun z=>by subst z;rw[q]at h;cases h;exact nf _ _ rfl
   exact .inl (.inr ⟨ob,by rw[bB n];exact q⟩)
  ·exact .inr q
 ·rcases q with⟨ob,q⟩|q
  ·have n:b≠a:=fun z=>by subst z;rw[q]at h;cases h;exact nl _ _ rfl
   exact .inl ⟨ob,by rw[bB n];exact q⟩
  ·exact .inr q
theorem iM(s:uI H H'):Cs K H H':=by
 refine⟨fun b xs q=>?_,fun b ns q=>?_⟩
 ·rcases q with(q|⟨ob,q⟩)|q
  ·exact .inl (.inl (s _ _ q))
  ·exact .inl (.inr ⟨ob,s _ _ q⟩)
  ·exact .inr q
 ·rcases q with⟨ob,q⟩|q
  ·exact .inl ⟨ob,s _ _ q⟩
  ·exact .inr q
theorem cq(h:H q=none)(o':HO):Cs K H (upd H q o'):=iM (d9 h o')
end
noncomputable def IsP{κ:Type}(K:PySem.W.Frag)(m:List Addr)(H:Hp)(kvs:List (κ×V))(kus:List (κ×U)):Prop:=kvs.map (·.1)=kus.map (·.1)/\IsL K m H (kvs.map (·.2)) (kus.map (·.2))
noncomputable def Rf(K:PySem.W.Frag)(m:List Addr)(H:Hp):Option V->Option U->Prop
 |some v,some u=>Is K m H v u
 |none,none=>True
 |_,_=>False
structure InF(K:PySem.W.Frag)(m:List Addr)(H:Hp)(c:Cl)(fs:List (Str×V))(fus:List (Option U)):Prop where
 nd:c.ns.Nodup
 few:c.ns.length<1000
 knd:(fs.map (·.1)).Nodup
 sub:∀x∈fs.map (·.1),x∈c.ns
 len:fus.length=c.ns.length
 at_:∀(i:Nat) (x:Str),c.ns[i]?=some x->Rf K m H (fs.lookup x) ((fus[i]?).join)
theorem Rf.mono{K:PySem.W.Frag}{m m':List Addr}{H H':Hp}{v:Option V}{u:Option U}(e:Ext K m H m' H')(h:Rf K m H v u):Rf K m' H' v u:=by
 cases v with
 |none=>cases u with
  |none=>trivial
  |some u=>exact h.elim
 |some v=>cases u with
  |none=>exact h.elim
  |some u=>exact Is.mono e h
theorem InF.mono{K:PySem.W.Frag}{m m':List Addr}{H H':Hp}{c:Cl}{fs:List (Str×V)}{fus:List (Option U)}(e:Ext K m H m' H')(h:InF K m H c fs fus):InF K m' H' c fs fus:=⟨h.nd,h.few,h.knd,h.sub,h.len,fun i x q=>(h.at_ i x q).mono e⟩
noncomputable def Ob(K:PySem.W.Frag)(m:List Addr)(H:Hp)(a:Addr):O->Prop
 |.lst us=>∃xs,H a=some (.lst xs)/\IsL K m H xs us
 |.dic kus=>∃kvs,H a=some (.dK kvs)/\IsP K m H kvs kus
 |.ins c fus=>∃dx fs,H a=some (.ins c.C dx fs)/\InF K m H c fs fus
 |.fdc ep kus=>∃ob es kvs,H a=some (.frz ob (.dK kvs))/\ob.data=.dict es ep/\IsP K m H kvs kus
 |.dit kus=>∃kvs,H a=some (.dT kvs)/\IsP K m H kvs kus
 |.fdt ep kus=>∃ob es kvs,H a=some (.frz ob (.dT kvs))/\ob.data=.dict es ep/\IsP K m H kvs kus
structure Sr(K:PySem.W.Frag)(m:List Addr)(S:Sto)(H:Hp):Prop where
 len:m.length=S.length
 nd:m.Nodup
 ob:∀(l:Nat) (a:Addr) (o:O),m[l]?=some a->S[l]?=some o->Ob K m H a o
structure Lr(K:PySem.W.Frag)(m:List Addr)(H:Hp)(ρ:Rho)(σ:L2.St):Prop where
 len:ρ.length=σ.length
 at_:∀(i:Nat) (u:U),ρ[i]?=some (some u)->∃v,σ[i]?=some (some v)/\Is K m H v u
section
variable{κ:Type}{K:PySem.W.Frag}{m m':List Addr}{H H':Hp}{S S':Sto}{ρ:Rho}{σ:L2.St}{a q:Addr}{l:Nat}{o:O}{ho:HO}{us:List U}{v:V}{u:U}{kvs:List (κ×V)}{kus:List (κ×U)}
theorem IsP.mono(e:Ext K m H m' H')(h:IsP K m H kvs kus):IsP K m' H' kvs kus:=⟨h.1,h.2.mono e⟩
theorem IsP.length(h:IsP K m H kvs kus):kvs.length=kus.length:=by have:=h.2.length;simpa using this
theorem IsP.nil_:IsP (κ:=κ) K m H [] []:=⟨rfl,.nil_⟩
theorem IsP.cons_{k:κ}(h:Is K m H v u)(t:IsP K m H kvs kus):IsP K m H ((k,v)::kvs) ((k,u)::kus):=⟨by simp[t.1],.cons_ h t.2⟩
theorem IsP.ind{P:List (κ×V)->List (κ×U)->Prop}(h0:P [] [])(h1:∀k v u kvs kus,Is K m H v u->IsP K m H kvs kus->P kvs kus->P ((k,v)::kvs) ((k,u)::kus)):∀{kvs:List (κ×V)} {kus:List (κ×U)},IsP K m H kvs kus->P kvs kus
 |[],[],_=>h0
 |[],p::r,h=>by have:=h.length;simp at this
 |p::r,[],h=>by have:=h.length;simp at this
 |(k,v)::r,(k',u)::r',h=>by
  obtain⟨e,i⟩:=h
  simp only[List.map_cons,List.cons.injEq]at e
  obtain⟨e1,e2⟩:=e
  subst e1
  obtain⟨x,t,e3,iu,it⟩:=i.of_cons
  cases e3
  exact h1 k v u r r' iu ⟨e2,it⟩ (IsP.ind h0 h1 (⟨e2,it⟩:IsP K m H r r'))
theorem Ob.mono(e:Ext K m H m' H')(h1:H' a=H a)(h:Ob K m H a o):Ob K m' H' a o:=by
 cases o with
 |lst us=>obtain⟨xs,k,i⟩:=h;exact⟨xs,h1.trans k,i.mono e⟩
 |dic kus=>obtain⟨xs,k,i⟩:=h;exact⟨xs,h1.trans k,i.mono e⟩
 |ins C fus=>obtain⟨dx,fs,k,i⟩:=h;exact⟨dx,fs,h1.trans k,i.mono e⟩
 |fdc ep kus=>obtain⟨ob,es,kvs,k,d,i⟩:=h;exact⟨ob,es,kvs,h1.trans k,d,i.mono e⟩
 |dit kus=>obtain⟨xs,k,i⟩:=h;exact⟨xs,h1.trans k,i.mono e⟩
 |fdt ep kus=>obtain⟨ob,es,kvs,k,d,i⟩:=h;exact⟨ob,es,kvs,h1.trans k,d,i.mono e⟩
theorem Ob.some(h:Ob K m H a o):∃ho,H a=some ho/\(∀xs,ho≠.tup xs)/\(∀ob xs,ho≠.frz ob (.tup xs))/\(∀ob xs,ho≠.frz ob (.lst xs)):=by
 cases o with
 |lst us=>obtain⟨xs,k,i⟩:=h;exact⟨_,k,by simp,by simp,by simp⟩
 |dic kus=>obtain⟨xs,k,i⟩:=h;exact⟨_,k,by simp,by simp,by simp⟩
 |ins C fus=>obtain⟨dx,fs,k,i⟩:=h;exact⟨_,k,by simp,by simp,by simp⟩
 |fdc ep kus=>obtain⟨ob,es,kvs,k,d,i⟩:=h;exact⟨_,k,by simp,by simp,by simp⟩
 |dit kus=>obtain⟨xs,k,i⟩:=h;exact⟨_,k,by simp,by simp,by simp⟩
 |fdt ep kus=>obtain⟨ob,es,kvs,k,d,i⟩:=h;exact⟨_,k,by simp,by simp,by simp⟩
theorem Lr.mono(e:Ext K m H m' H')(h:Lr K m H ρ σ):Lr K m' H' ρ σ:=⟨h.len,fun i u e1=>let ⟨v,e2,e3⟩:=h.at_ i u e1;⟨v,e2,e3.mono e⟩⟩
theorem Lr.set(h:Lr K m H ρ σ)(i:Nat)(hv:Is K m H v u):Lr K m H (ρ.set i (some u)) (σ.set i (some v)):=by
 refine⟨by simp[h.len],fun j w e=>?_⟩
 by_cases c:i=j
 ·subst c
  rw[List.getElem?_set_self' ]at e
  rw[List.getElem?_set_self']
  have hl:=h.len
  cases e1:ρ[i]? with
  |none=>rw[e1]at e;simp at e
  |some z=>
   rw[e1]at e
   simp at e
   subst e
   have:i < σ.length:=by rw[<-hl];exact(List.getElem?_eq_some_iff.mp e1).1
   rw[List.getElem?_eq_getElem this]
   exact⟨v,rfl,hv⟩
 ·rw[List.getElem?_set_ne c]at e
  rw[List.getElem?_set_ne c]
  exact h.at_ j w e
theorem Sr.get(r:Sr K m S H)(h:S[l]?=some o):∃a,m[l]?=some a/\Ob K m H a o:=by
 have hl:l<m.length:=by rw[r.len];exact(List.getElem?_eq_some_iff.mp h).1
 exact⟨_,List.getElem?_eq_getElem hl,r.ob _ _ _ (List.getElem?_eq_getElem hl) h⟩
theorem Sr.at_(r:Sr K m S H)(h:m[l]?=some a):∃o,S[l]?=some o/\Ob K m H a o:=by
 have hl:l<S.length:=by rw[<-r.len];exact(List.getElem?_eq_some_iff.mp h).1
 exact⟨_,List.getElem?_eq_getElem hl,r.ob _ _ _ h (List.getElem?_eq_getElem hl)⟩
theorem Sr.same(r:Sr K m S H)(s:uI H H'):Sr K m S H':=⟨r.len,r.nd,fun l a o h1 h2=>by
 have q:=r.ob l a o h1 h2
 obtain⟨ho,e,_⟩:=q.some
 exact q.mono (.of (iM s)) (by rw[s _ _ e,e])⟩
theorem Sr.new(r:Sr K m S H)(h:H q=none)(n:Ob K (m++[q]) (upd H q ho) q o):Sr K (m++[q]) (S++[o]) (upd H q ho):=by
 have hq:q∉m:=fun z=>by
  obtain⟨l,e⟩:=List.getElem?_of_mem z
  obtain⟨o,_,k⟩:=r.at_ e
  obtain⟨ho,e2,_⟩:=k.some
  rw[h]at e2;cases e2
 refine⟨by simp[r.len],?_,fun l a o' h1 h2=>?_⟩
 ·rw[List.nodup_append]
  exact⟨r.nd,by simp,fun x hx y hy z=>by simp at hy;subst hy;subst z;exact hq hx⟩
 ·by_cases c:l<m.length
  ·rw[List.getElem?_append_left c]at h1
   rw[List.getElem?_append_left (by rw[<-r.len];exact c)]at h2
   have q':=r.ob l a o' h1 h2
   obtain⟨ho',e,_⟩:=q'.some
   exact q'.mono (.new (cq h _)) (by rw[bB (cY e h)])
  ·have e:l=m.length:=by
    have:=(List.getElem?_eq_some_iff.mp h1).1
    simp at this;omega
   subst e
   rw[List.getElem?_append_right (Nat.le_refl _)]at h1
   rw[List.getElem?_append_right (by rw[r.len];exact Nat.le_refl _)]at h2
   simp[r.len]at h1 h2
   subst h1;subst h2
   exact n
theorem Sr.put(r:Sr K m S H)(h:m[l]?=some a)(n:Ob K m (upd H a ho) a o):Sr K m (S.set l o) (upd H a ho):=by
 obtain⟨o0,h0,k0⟩:=r.at_ h
 obtain⟨ho',e,nt,nf,nl⟩:=k0.some
 refine⟨by simp[r.len],r.nd,fun l' a' o' h1 h2=>?_⟩
 by_cases c:l=l'
 ·subst c
  rw[h]at h1;cases h1
  rw[List.getElem?_set_self (List.getElem?_eq_some_iff.mp h0).1]at h2
  cases h2
  exact n
 ·rw[List.getElem?_set_ne c]at h2
  have na:a'≠a:=fun z=>by
   subst z
   obtain⟨p1,e1⟩:=List.getElem?_eq_some_iff.mp h
   obtain⟨p2,e2⟩:=List.getElem?_eq_some_iff.mp h1
   exact c ((List.getElem_inj r.nd).mp (e1.trans e2.symm))
  exact(r.ob l' a' o' h1 h2).mono (.of (vC e nt nf nl _)) (by rw[bB na])
theorem Sr.keep(r:Sr K m S H)(h:m[l]?=some a)(ho:HO):Cs K H (upd H a ho):=by
 obtain⟨o0,h0,k0⟩:=r.at_ h
 obtain⟨ho',e,nt,nf,nl⟩:=k0.some
 exact vC e nt nf nl _
end
noncomputable def lQ(K:PySem.W.Frag)(m:List Addr)(H:Hp)(Q:VK)(u:U)(S':Sto):Prop:=∀m' v H',Ext K m H m' H'->Sr K m' S' H'->Is K m' H' v u->Q v H'
noncomputable abbrev CE:=Rho->Sto->Option (U×Sto)
noncomputable abbrev CT:=Rho->Sto->Option (Bool×Sto)
noncomputable abbrev CA:=Rho->Sto->Option (List U×Sto)
inductive Out where
 |nx|rt (u:U)|bk|ct
noncomputable abbrev CS:=Rho->Sto->Option (Out×Rho×Sto)
noncomputable def Cp(K:PySem.W.Frag)(m:List Addr)(H:Hp)(Q:Bool->Hp->Prop)(b:Bool)(S':Sto):Prop:=∀m' H',Ext K m H m' H'->Sr K m' S' H'->Q b H'
noncomputable def LC(K:PySem.W.Frag)(m:List Addr)(H:Hp)(Q:List V->Hp->Prop)(us:List U)(S':Sto):Prop:=∀m' vs H',Ext K m H m' H'->Sr K m' S' H'->IsL K m' H' vs us->Q vs H'
noncomputable def jm(K:PySem.W.Frag)(m:List Addr)(H:Hp)(Q:L2.St->Hp->Prop)(ρ':Rho)(S':Sto):Prop:=∀m' σ' H',Ext K m H m' H'->Sr K m' S' H'->Lr K m' H' ρ' σ'->Q σ' H'
noncomputable def xa(K:PySem.W.Frag)(m:List Addr)(H:Hp)(D:Aw):Out->Rho->Sto->Prop
 |.nx,ρ',S'=>jm K m H D.nx ρ' S'
 |.bk,ρ',S'=>jm K m H D.bk ρ' S'
 |.ct,ρ',S'=>jm K m H D.ct ρ' S'
 |.rt u,_,S'=>lQ K m H D.rt u S'
theorem m6{α β γ δ ε:Type}{A B C D:α->β->γ->δ->ε->Prop}{p:Prop}(h:∃a b c d e,A a b c d e/\B a b c d e/\C a b c d e/\D a b c d e)(f:∀a b c d e,A a b c d e->B a b c d e->C a b c d e->D a b c d e->p):p:=by
 obtain⟨a,b,c,d,e,h1,h2,h3,h4⟩:=h
 exact f a b c d e h1 h2 h3 h4
theorem vN{α β γ δ ε ζ:Type}{A B C D:α->β->γ->δ->ε->ζ->Prop}{p:Prop}(h:∃a b c d e g,A a b c d e g/\B a b c d e g/\C a b c d e g/\D a b c d e g)(f:∀a b c d e g,A a b c d e g->B a b c d e g->C a b c d e g->D a b c d e g->p):p:=by
 obtain⟨a,b,c,d,e,g,h1,h2,h3,h4⟩:=h
 exact f a b c d e g h1 h2 h3 h4
theorem Me{α β γ δ ε ζ:Type}{A B C D E:α->β->γ->δ->ε->ζ->Prop}{p:Prop}(h:∃a b c d e g,A a b c d e g/\B a b c d e g/\C a b c d e g/\D a b c d e g/\E a b c d e g)(f:∀a b c d e g,A a b c d e g->B a b c d e g->C a b c d e g->D a b c d e g->E a b c d e g->p):p:=by
 obtain⟨a,b,c,d,e,g,h1,h2,h3,h4,h5⟩:=h
 exact f a b c d e g h1 h2 h3 h4 h5
noncomputable def tE(K:PySem.W.Frag)(c:CE):TE:=fun σ H Q=>∃m ρ S u S',Sr K m S H/\Lr K m H ρ σ/\c ρ S=some (u,S')/\lQ K m H Q u S'
noncomputable def tT(K:PySem.W.Frag)(c:CT):TT:=fun σ H Q=>∃m ρ S u S',Sr K m S H/\Lr K m H ρ σ/\c ρ S=some (u,S')/\Cp K m H Q u S'
noncomputable def tA(K:PySem.W.Frag)(c:CA):TA:=fun σ H Q=>∃m ρ S u S',Sr K m S H/\Lr K m H ρ σ/\c ρ S=some (u,S')/\LC K m H Q u S'
noncomputable def tS(K:PySem.W.Frag)(c:CS):TS:=fun D σ H=>∃m ρ S o ρ' S',Sr K m S H/\Lr K m H ρ σ/\c ρ S=some (o,ρ',S')/\xa K m H D o ρ' S'
noncomputable abbrev QE(X:Cx)(e:Expr)(c:CE):Prop:=WE X e (tE X.K c)
noncomputable abbrev QT(X:Cx)(e:Expr)(c:CT):Prop:=WT X e (tT X.K c)
noncomputable abbrev QW(X:Cx)(e:Expr)(c:CT):Prop:=WW X e (tT X.K c)
noncomputable abbrev QS(X:Cx)(e:Stmt)(c:CS):Prop:=WS X e (tS X.K c)
noncomputable abbrev QSs(X:Cx)(e:List Stmt)(c:CS):Prop:=WSs X e (tS X.K c)
structure QA(X:Cx)(es:List Expr)(c:CA):Prop where
 h:WA X es (tA X.K c)
 len:∀ρ S us S',c ρ S=some (us,S')->us.length=es.length
section
variable{X:Cx}{e:Expr}{es:List Expr}{st:Stmt}{sts:List Stmt}
theorem _root_.OG.WE.imp{t t':TE}(h:WE X e t)(i:∀σ H Q,t' σ H Q->t σ H Q):WE X e t':=⟨fun pins s σ H Q I k=>h.h pins s σ H Q I (i σ H Q k)⟩
theorem _root_.OG.WT.imp{t t':TT}(h:WT X e t)(i:∀σ H Q,t' σ H Q->t σ H Q):WT X e t':=⟨fun pins s σ H Q I k=>h.h pins s σ H Q I (i σ H Q k)⟩
theorem _root_.OG.WW.imp{t t':TT}(h:WW X e t)(i:∀σ H Q,t' σ H Q->t σ H Q):WW X e t':=⟨fun wh pins s σ H Q I k=>h.h wh pins s σ H Q I (i σ H Q k)⟩
theorem _root_.OG.WA.imp{t t':TA}(h:WA X es t)(i:∀σ H Q,t' σ H Q->t σ H Q):WA X es t':=⟨fun pos pins s σ H Q I k=>h.h pos pins s σ H Q I (i σ H Q k)⟩
theorem _root_.OG.WS.imp{t t':TS}(h:WS X st t)(i:∀D σ H,t' D σ H->t D σ H):WS X st t':=⟨fun pins s σ H D I k=>h.h pins s σ H D I (i D σ H k)⟩
theorem _root_.OG.WSs.imp{t t':TS}(h:WSs X sts t)(i:∀D σ H,t' D σ H->t D σ H):WSs X sts t':=⟨fun pins s σ H D I k=>h.h pins s σ H D I (i D σ H k)⟩
theorem _root_.OG.WI.imp{tg:Expr}{t t':TI}(h:WI X tg e t)(i:∀σ H R,t' σ H R->t σ H R):WI X tg e t':=⟨fun pins s σ H R I k=>h.h pins s σ H R I (i σ H R k)⟩
theorem _root_.OG.WG.imp{t t':TG}(h:WG X e t)(i:∀v σ H Q,t' v σ H Q->t v σ H Q):WG X e t':=⟨fun pins s σ H v u Q I r k=>h.h pins s σ H v u Q I r (i v σ H Q k)⟩
theorem _root_.OG.WGs.imp{t t':TGs}(h:WGs X es t)(i:∀v σ H Q,t' v σ H Q->t v σ H Q):WGs X es t':=⟨fun pins s σ H v u Q I r k=>h.h pins s σ H v u Q I r (i v σ H Q k)⟩
theorem _root_.OG.WE.or{t t':TE}(h:WE X e t)(h':WE X e t'):WE X e (fun σ H Q=>t σ H Q\/t' σ H Q):=⟨fun pins s σ H Q I k=>k.elim (h.h pins s σ H Q I) (h'.h pins s σ H Q I)⟩
theorem _root_.OG.WT.or{t t':TT}(h:WT X e t)(h':WT X e t'):WT X e (fun σ H Q=>t σ H Q\/t' σ H Q):=⟨fun pins s σ H Q I k=>k.elim (h.h pins s σ H Q I) (h'.h pins s σ H Q I)⟩
theorem _root_.OG.WS.or{t t':TS}(h:WS X st t)(h':WS X st t'):WS X st (fun D σ H=>t D σ H\/t' D σ H):=⟨fun pins s σ H D I k=>k.elim (h.h pins s σ H D I) (h'.h pins s σ H D I)⟩
theorem _root_.OG.WI.or{tg:Expr}{t t':TI}(h:WI X tg e t)(h':WI X tg e t'):WI X tg e (fun σ H D=>t σ H D\/t' σ H D):=⟨fun pins s σ H D I k=>k.elim (h.h pins s σ H D I) (h'.h pins s σ H D I)⟩
end
section
variable{K:PySem.W.Frag}{m m':List Addr}{H H':Hp}{Q:VK}{R:L2.St->Hp->Prop}{D:Aw}{u:U}{o:Out}{S':Sto}{ρ':Rho}
theorem lQ.mono(e:Ext K m H m' H')(p:lQ K m H Q u S'):lQ K m' H' Q u S':=fun m2 v H2 e2 r i=>p m2 v H2 (e.trans e2) r i
theorem Cp.mono{Q:Bool->Hp->Prop}{b:Bool}(e:Ext K m H m' H')(p:Cp K m H Q b S'):Cp K m' H' Q b S':=fun m2 H2 e2 r=>p m2 H2 (e.trans e2) r
theorem jm.mono(e:Ext K m H m' H')(p:jm K m H R ρ' S'):jm K m' H' R ρ' S':=fun m2 v H2 e2 r i=>p m2 v H2 (e.trans e2) r i
theorem xa.mono(e:Ext K m H m' H')(p:xa K m H D o ρ' S'):xa K m' H' D o ρ' S':=by
 cases o with
 |nx=>exact jm.mono e p
 |rt u=>exact lQ.mono e p
 |bk=>exact jm.mono e p
 |ct=>exact jm.mono e p
end
noncomputable def LIM:Nat:=100000
theorem lim{n:Nat}(h:n<=LIM):n<=sizeLine:=Nat.le_trans h (by unfold LIM sizeLine;decide)
theorem IA{n:Nat}(h:n<LIM):n<sizeLine:=Nat.lt_of_lt_of_le h (by unfold LIM sizeLine;decide)
noncomputable def ag(i:Nat):CE:=fun ρ S=>match ρ[i]? with
 |some (some u)=>some (u,S)
 |_=>none
noncomputable def cC(u:U):CE:=fun _ S=>some (u,S)
section
variable{X:Cx}{e a b c:Expr}{ca cb cc:CE}{pos:Pos}
theorem ab{i:Nat}(h:WE X e (Jt i)):QE X e (ag i):=h.imp fun σ H Q hz=>m6 hz fun m ρ S u S' sr lr hc post=>by
 unfold ag at hc
 split at hc
 ·rename_i u' e
  cases hc
  obtain⟨v,e1,e2⟩:=lr.at_ i u e
  exact⟨v,e1,post m v H .refl sr e2⟩
 ·cases hc
theorem q_c{v:V}{u:U}(h:WE X e (tC v))(hi:∀m H,Is X.K m H v u):QE X e (cC u):=h.imp fun σ H Q hz=>m6 hz fun m ρ S u' S' sr lr hc post=>by
 cases hc
 exact post m v H .refl sr (hi m H)
theorem aB{i:Int}(h:WE X e (tC (.int i))):QE X e (cC (.int i)):=q_c h fun _ _=>.int_
theorem pG{i:Bool}(h:WE X e (tC (.bl i))):QE X e (cC (.bl i)):=q_c h fun _ _=>.bl_
theorem d7{i:Str}(h:WE X e (tC (.str i))):QE X e (cC (.str i)):=q_c h fun _ _=>.str_
theorem Hx(h:WE X e (tC .non)):QE X e (cC .non):=q_c h fun _ _=>.non_
noncomputable def cOp(f:U->U->Sto->Option (U×Sto))(ca cb:CE):CE:=fun ρ S=>(ca ρ S).bind fun p=>(cb ρ p.2).bind fun q=>f p.1 q.1 q.2
noncomputable def OpP(K:PySem.W.Frag)(r:R2)(f:U->U->Sto->Option (U×Sto)):Prop:=
 ∀m S H x y v w u S' Q,Sr K m S H->Is K m H v x->Is K m H w y->f x y S=some (u,S')->lQ K m H Q u S'->r v w H Q
theorem yy{K:PySem.W.Frag}{r:R2}{f:U->U->Sto->Option (U×Sto)}(hp:OpP K r f):∀σ H Q,tE K (cOp f ca cb) σ H Q->tOp r (tE K ca) (tE K cb) σ H Q:=by
 rintro σ H Q ⟨m,ρ,S,u,S',sr,lr,hc,post⟩
 obtain⟨⟨x,S1⟩,h1,h⟩:=Option.bind_eq_some_iff.mp hc
 obtain⟨⟨y,S2⟩,h2,h3⟩:=Option.bind_eq_some_iff.mp h
 exact⟨m,ρ,S,x,S1,sr,lr,h1,fun m1 v1 H1 e1 sr1 i1=>⟨m1,ρ,S1,y,S2,sr1,lr.mono e1,h2,fun m2 v2 H2 e2 sr2 i2=>hp m2 S2 H2 x y v1 v2 u S' Q sr2 (i1.mono e2) i2 h3 (post.mono (e1.trans e2))⟩⟩
theorem gC{op:Operator}{r:R2}{f:U->U->Sto->Option (U×Sto)}(ho:OpR X (binaryOp op) r)(hp:OpP X.K r f)(ha:QE X a ca)(hb:QE X b cb):QE X (.BinOp a op b pos) (cOp f ca cb):=(Hb ho ha hb).imp (yy hp)
theorem t8{op:CmpOp}{r:R2}{f:U->U->Sto->Option (U×Sto)}(ho:OpR X (compareOp op) r)(hp:OpP X.K r f)(ha:QE X a ca)(hb:QE X b cb)(hm:behindInMarks op b=false):QE X (.Compare a [op] [b] pos) (cOp f ca cb):=(qj ho ha hb hm).imp (yy hp)
noncomputable def aE(c:CE):CT:=fun ρ S=>(c ρ S).bind fun p=>match p.1 with
 |.bl b=>some (b,p.2)
 |_=>none
theorem mU{K:PySem.W.Frag}{c:CE}{t:TE}(h:∀σ H Q,tE K c σ H Q->t σ H Q):∀σ H Q,tT K (aE c) σ H Q->t σ H fun x H'=>∃k,x=.bl k/\Q k H':=by
 rintro σ H Q ⟨m,ρ,S,u,S',sr,lr,hc,post⟩
 obtain⟨⟨x,S1⟩,h1,h2⟩:=Option.bind_eq_some_iff.mp hc
 refine h σ H _ ⟨m,ρ,S,x,S1,sr,lr,h1,fun m1 v1 H1 e1 sr1 i1=>?_⟩
 cases x<;>simp at h2
 obtain⟨rfl,rfl⟩:=h2
 exact⟨_,i1.of_bl,post m1 H1 e1 sr1⟩
theorem bh{op:CmpOp}{r:R2}{f:U->U->Sto->Option (U×Sto)}(ho:OpR X (compareOp op) r)(hp:OpP X.K r f)(ha:QE X a ca)(hb:QE X b cb)(hm:behindInMarks op b=false):QT X (.Compare a [op] [b] pos) (aE (cOp f ca cb)):=(qi ho ha hb hm).imp (mU (yy hp))
theorem jA(h:QE X e ca)(he:∀whole,isTrue e X.env whole=(do let v <-whole;standAt e.pos;holding [v] (truthy v)):=by intro _;rfl):QT X e (aE ca):=(D1 h he).imp (mU fun _ _ _ z=>z)
variable{ta tb:CT}{rest:List Expr}
noncomputable def xh(ta tb:CT):CT:=fun ρ S=>(ta ρ S).bind fun p=>if p.1=true then tb ρ p.2 else some (false,p.2)
noncomputable def cOr(ta tb:CT):CT:=fun ρ S=>(ta ρ S).bind fun p=>if p.1=true then some (true,p.2)else tb ρ p.2
noncomputable def Du(ta:CT):CT:=fun ρ S=>(ta ρ S).bind fun p=>some (!p.1,p.2)
theorem Aq(h:QW X e ta):QT X e ta:=WW.pt h
theorem pH(ha:QT X a ta):QW X (.BoolOp .And [a] pos) ta:=AH ha
theorem Bd(ha:QT X a ta):QW X (.BoolOp .Or [a] pos) ta:=DY ha
theorem sh(ha:QT X a ta)(hb:QW X (.BoolOp .And (b::rest) pos) tb):QW X (.BoolOp .And (a::b::rest) pos) (xh ta tb):=(DZ ha hb).imp fun σ H Q hz=>m6 hz fun m ρ S u S' sr lr hc post=>by
 obtain⟨⟨x,S1⟩,h1,h2⟩:=Option.bind_eq_some_iff.mp hc
 refine⟨m,ρ,S,x,S1,sr,lr,h1,fun m1 H1 e1 sr1=>?_⟩
 cases x with
 |true=>exact FV ⟨m1,ρ,S1,u,S',sr1,lr.mono e1,h2,post.mono e1⟩
 |false=>cases h2;exact FW (post m1 H1 e1 sr1)
theorem Jy(ha:QT X a ta)(hb:QW X (.BoolOp .Or (b::rest) pos) tb):QW X (.BoolOp .Or (a::b::rest) pos) (cOr ta tb):=(G5 ha hb).imp fun σ H Q hz=>m6 hz fun m ρ S u S' sr lr hc post=>by
 obtain⟨⟨x,S1⟩,h1,h2⟩:=Option.bind_eq_some_iff.mp hc
 refine⟨m,ρ,S,x,S1,sr,lr,h1,fun m1 H1 e1 sr1=>?_⟩
 cases x with
 |true=>cases h2;exact FV (post m1 H1 e1 sr1)
 |false=>exact FW ⟨m1,ρ,S1,u,S',sr1,lr.mono e1,h2,post.mono e1⟩
theorem sf(ha:QT X a ta):QT X (.UnaryOp .Not a pos) (Du ta):=(D3 ha).imp fun σ H Q hz=>m6 hz fun m ρ S u S' sr lr hc post=>by
 obtain⟨⟨x,S1⟩,h1,h2⟩:=Option.bind_eq_some_iff.mp hc
 cases h2
 exact⟨m,ρ,S,x,_,sr,lr,h1,fun m1 H1 e1 sr1=>post m1 H1 e1 sr1⟩
noncomputable def pq(ca cb:CE):CE:=fun ρ S=>(ca ρ S).bind fun p=>match p.1 with
 |.bl true=>cb ρ p.2
 |.bl false=>some (.bl false,p.2)
 |_=>none
noncomputable def JG(ca cb:CE):CE:=fun ρ S=>(ca ρ S).bind fun p=>match p.1 with
 |.bl false=>cb ρ p.2
 |.bl true=>some (.bl true,p.2)
 |_=>none
noncomputable def zR(ca:CE):CE:=fun ρ S=>(ca ρ S).bind fun p=>match p.1 with
 |.bl b=>some (.bl (!b),p.2)
 |_=>none
theorem t6{op}(h:QE X a ca):QE X (.BoolOp op [a] pos) ca:=D8 h
theorem nI(ha:QE X a ca)(hb:QE X (.BoolOp .And (b::rest) pos) cb):QE X (.BoolOp .And (a::b::rest) pos) (pq ca cb):=(Ec ha hb).imp fun σ H Q hz=>m6 hz fun m ρ S u S' sr lr hc post=>by
 obtain⟨⟨x,S1⟩,h1,h2⟩:=Option.bind_eq_some_iff.mp hc
 refine⟨m,ρ,S,x,S1,sr,lr,h1,fun m1 v1 H1 e1 sr1 i1=>?_⟩
 cases x with
 |bl k=>
  refine⟨k,i1.of_bl,?_⟩
  cases k with
  |true=>exact FV ⟨m1,ρ,S1,u,S',sr1,lr.mono e1,h2,post.mono e1⟩
  |false=>cases h2;exact FW (post m1 _ H1 e1 sr1 .bl_)
 |_=>simp at h2
theorem KP(ha:QE X a ca)(hb:QE X (.BoolOp .Or (b::rest) pos) cb):QE X (.BoolOp .Or (a::b::rest) pos) (JG ca cb):=(Ha ha hb).imp fun σ H Q hz=>m6 hz fun m ρ S u S' sr lr hc post=>by
 obtain⟨⟨x,S1⟩,h1,h2⟩:=Option.bind_eq_some_iff.mp hc
 refine⟨m,ρ,S,x,S1,sr,lr,h1,fun m1 v1 H1 e1 sr1 i1=>?_⟩
 cases x with
 |bl k=>
  refine⟨k,i1.of_bl,?_⟩
  cases k with
  |false=>exact FW ⟨m1,ρ,S1,u,S',sr1,lr.mono e1,h2,post.mono e1⟩
  |true=>cases h2;exact FV (post m1 _ H1 e1 sr1 .bl_)
 |_=>simp at h2
theorem CW(ha:QE X a ca):QE X (.UnaryOp .Not a pos) (zR ca):=(D9 ha).imp fun σ H Q hz=>m6 hz fun m ρ S u S' sr lr hc post=>by
 obtain⟨⟨x,S1⟩,h1,h2⟩:=Option.bind_eq_some_iff.mp hc
 refine⟨m,ρ,S,x,S1,sr,lr,h1,fun m1 v1 H1 e1 sr1 i1=>?_⟩
 cases x with
 |bl k=>cases h2;exact⟨k,i1.of_bl,post m1 _ H1 e1 sr1 .bl_⟩
 |_=>simp at h2
noncomputable def cIf(t:CT)(ca cb:CE):CE:=fun ρ S=>(t ρ S).bind fun p=>if p.1=true then ca ρ p.2 else cb ρ p.2
variable{es:List Expr}{cr:CA}
noncomputable def aD:CA:=fun _ S=>some ([],S)
noncomputable def ae(ca:CE)(cr:CA):CA:=fun ρ S=>(ca ρ S).bind fun p=>(cr ρ p.2).bind fun q=>some (p.1::q.1,q.2)
theorem aA:QA X [] aD:=⟨kj.imp fun σ H Q hz=>m6 hz fun m ρ S u S' sr lr hc post=>by cases hc;exact post m [] H .refl sr .nil_,fun ρ S us S' h=>by cases h;rfl⟩
theorem af(ha:QE X e ca)(hr:QA X es cr)(hs:starEach (e::es) X.env=(false,eval e X.env)::starEach es X.env:=by rfl):QA X (e::es) (ae ca cr):=⟨(eQ ha hr.h hs).imp fun σ H Q hz=>m6 hz fun m ρ S u S' sr lr hc post=>by
 obtain⟨⟨x,S1⟩,h1,h⟩:=Option.bind_eq_some_iff.mp hc
 obtain⟨⟨y,S2⟩,h2,h3⟩:=Option.bind_eq_some_iff.mp h
 cases h3
 exact⟨m,ρ,S,x,S1,sr,lr,h1,fun m1 v1 H1 e1 sr1 i1=>⟨m1,ρ,S1,y,S2,sr1,lr.mono e1,h2,fun m2 v2 H2 e2 sr2 i2=>post m2 _ H2 (e1.trans e2) sr2 (.cons_ (i1.mono e2) i2)⟩⟩,
 fun ρ S us S' h=>by
 obtain⟨⟨x,S1⟩,h1,h⟩:=Option.bind_eq_some_iff.mp h
 obtain⟨⟨y,S2⟩,h2,h3⟩:=Option.bind_eq_some_iff.mp h
 cases h3
 simp[hr.len ρ S1 y S2 h2]⟩
noncomputable def mQ(cr:CA):CE:=fun ρ S=>(cr ρ S).bind fun p=>some (.tup p.1,p.2)
noncomputable def j9(cr:CA):CE:=fun ρ S=>(cr ρ S).bind fun p=>some (.ref p.2.length,p.2++[.lst p.1])
theorem fG{m:List Addr}{S:Sto}{q:Addr}(h:m.length=S.length):(m++[q])[S.length]?=some q:=by rw[List.getElem?_append_right (by omega)];simp[h]
theorem qC{K:PySem.W.Frag}{m:List Addr}{H:Hp}{S:Sto}{us:List U}{xs:List V}{Q:VK}{p:Addr}(sr:Sr K m S H)(i:IsL K m H xs us)(post:lQ K m H Q (.tup us) S)(hp:H p=none):Q (.ref p) (upd H p (.tup xs)):=
 post m _ _ (.of (cq hp _)) (sr.same (d9 hp _)) (.tup_ (SqT.of aK) (i.mono (.of (cq hp _))))
theorem fY{K:PySem.W.Frag}{m:List Addr}{H:Hp}{S:Sto}{us:List U}{xs:List V}{Q:VK}{p:Addr}(sr:Sr K m S H)(i:IsL K m H xs us)(post:lQ K m H Q (.ref S.length) (S++[.lst us]))(hp:H p=none):Q (.ref p) (upd H p (.lst xs)):=
 post (m++[p]) _ _ (.new (cq hp _)) (sr.new hp ⟨xs,aK,i.mono (.new (cq hp _))⟩) (.ref_ (fG sr.len))
theorem lS{x1}(h:QA X es cr)(hl:es.length<=1000:=by exact Nat.le_of_ble_eq_true rfl):QE X (.Tuple es x1 pos) (mQ cr):=(xv h.h).imp fun σ H Q hz=>m6 hz fun m ρ S u S' sr lr hc post=>by
 obtain⟨⟨us,S1⟩,h1,h2⟩:=Option.bind_eq_some_iff.mp hc
 cases h2
 refine⟨m,ρ,S,us,_,sr,lr,h1,fun m1 v1 H1 e1 sr1 i1=>⟨CN ?_,fun p hp=>qC sr1 i1 (post.mono e1) hp⟩⟩
 rw[i1.length,h.len _ _ _ _ h1];exact hl
theorem iK(h:QA X es cr)(hl:es.length<=1000:=by exact Nat.le_of_ble_eq_true rfl):QE X (.List es pos) (j9 cr):=(xy h.h).imp fun σ H Q hz=>m6 hz fun m ρ S u S' sr lr hc post=>by
 obtain⟨⟨us,S1⟩,h1,h2⟩:=Option.bind_eq_some_iff.mp hc
 cases h2
 refine⟨m,ρ,S,us,_,sr,lr,h1,fun m1 v1 H1 e1 sr1 i1=>⟨CN ?_,fun p hp=>fY sr1 i1 (post.mono e1) hp⟩⟩
 rw[i1.length,h.len _ _ _ _ h1];exact hl
noncomputable def cCB(f:List U->Sto->Option (U×Sto))(cr:CA):CE:=fun ρ S=>(cr ρ S).bind fun p=>f p.1 p.2
noncomputable def rB(K:PySem.W.Frag)(r:List V->Hp->VK->Prop)(f:List U->Sto->Option (U×Sto)):Prop:=
 ∀m S H us vs u S' Q,Sr K m S H->IsL K m H vs us->f us S=some (u,S')->lQ K m H Q u S'->r vs H Q
theorem Ds{K:PySem.W.Frag}{r:List V->Hp->VK->Prop}{f:List U->Sto->Option (U×Sto)}(hp:rB K r f):∀σ H Q,tE K (cCB f cr) σ H Q->tCB r (tA K cr) σ H Q:=by
 rintro σ H Q ⟨m,ρ,S,u,S',sr,lr,hc,post⟩
 obtain⟨⟨us,S1⟩,h1,h2⟩:=Option.bind_eq_some_iff.mp hc
 exact⟨m,ρ,S,us,S1,sr,lr,h1,fun m1 v1 H1 e1 sr1 i1=>hp m1 S1 H1 us v1 u S' Q sr1 i1 h2 (post.mono e1)⟩
theorem d4{id:String}{x:Str}{p:Pos}{r:List V->Hp->VK->Prop}{f:List U->Sto->Option (U×Sto)}(hc:iV X (.builtin id) r)(hp:rB X.K r f)(hg:Gl X x)(hm:X.mg x=none)(hv:bootBuiltins x=some (.builtin id))(ha:QA X (e::es) cr)(hn:x≠"__name__":=by decide)(hdb:(x == ("__debug__":Str))=false:=by decide)(he:starEach (e::es) X.env=(false,eval e X.env)::starEach es X.env:=by rfl)(hpl:(backTo pos (starEach es X.env)).any (·.1)=false:=by rfl) :
  QE X (.Call (.Name x p) (e::es) [] pos) (cCB f cr):=(rM hc hg hm hv ha.h hn hdb he hpl).imp (Ds hp)
theorem jW{id:String}{x:Str}{p:Pos}{r:List V->Hp->VK->Prop}{f:List U->Sto->Option (U×Sto)}(hc:iV X (.type id) r)(hp:rB X.K r f)(hg:Gl X x)(hm:X.mg x=none)(hv:bootBuiltins x=some (.type id))(ha:QA X (e::es) cr)(hn:x≠"__name__":=by decide)(hdb:(x == ("__debug__":Str))=false:=by decide)(he:starEach (e::es) X.env=(false,eval e X.env)::starEach es X.env:=by rfl)(hpl:(backTo pos (starEach es X.env)).any (·.1)=false:=by rfl) :
  QE X (.Call (.Name x p) (e::es) [] pos) (cCB f cr):=(pB hc hg hm hv ha.h hn hdb he hpl).imp (Ds hp)
end
noncomputable def A2(K:PySem.W.Frag)(f:List U->Sto->Option (U×Sto)):Sp:=fun vs H Q _=>∃m us S u S',IsL K m H vs us/\Sr K m S H/\f us S=some (u,S')/\lQ K m H Q u S'
noncomputable abbrev Fn:=List U->Sto->Option (U×Sto)
noncomputable abbrev d0(P:Program)(w:World)(K:PySem.W.Frag)(mg:Str->Option Value)(base:Heap)(x:Str)(k:Nat)(ps:List Str)(f:Fn):Prop:=Has P w K mg base x k ps (A2 K f)
noncomputable def rZ(n:Nat)(us:List U):Rho:=us.map some++List.replicate (n-us.length) none
noncomputable def fnU(n k:Nat)(c:CS):Fn:=fun us S=>if us.length=k then(c (rZ n us) S).bind fun r=>match r.1 with
 |.rt u=>some (u,r.2.2)
 |.nx=>some (.non,r.2.2)
 |_=>none else none
section
variable{P:Program}{w:World}{K:PySem.W.Frag}{mg:Str->Option Value}{base:Heap}{x:Str}{st:Stmt}{ps N:List Str}{k:Nat}{c:CS}{f:Fn}
theorem BN{m:List Addr}{H:Hp}{vs:List V}{us:List U}(i:IsL K m H vs us):Lr K m H (rZ N.length us) (L2.kJ N vs):=by
 have hl:=i.length
 refine⟨by simp[rZ,L2.kJ,hl],fun j u e=>?_⟩
 unfold rZ at e
 unfold L2.kJ
 by_cases c:j<us.length
 ·rw[List.getElem?_append_left (by simpa using c),List.getElem?_map]at e
  rw[List.getElem?_append_left (by simpa [hl] using c),List.getElem?_map]
  rw[List.getElem?_eq_getElem c]at e
  simp at e
  obtain⟨v,e1,e2⟩:=i.getD (List.getElem?_eq_getElem c)
  rw[e1]
  subst e
  exact⟨v,rfl,e2⟩
 ·rw[List.getElem?_append_right (by simpa using c),List.getElem?_replicate]at e
  split at e<;>cases e
theorem zj{X:Cx}{body:List Stmt}{Q:VK}{E:XK}{vs:List V}{H:Hp}(hK:X.K=K)(h:A2 K (fnU N.length ps.length c) vs H Q E):tS X.K c { nx:=fun _ H'=>Q .non H',rt:=Q } (L2.kJ N vs) H:=by
 subst hK
 obtain⟨m,us,S,u,S',i,sr,hf,post⟩:=h
 unfold fnU at hf
 split at hf
 ·obtain⟨⟨o,ρ',S2⟩,h1,h2⟩:=Option.bind_eq_some_iff.mp hf
  refine⟨m,_,S,o,ρ',S2,sr,BN i,h1,?_⟩
  cases o with
  |rt v=>cases h2;exact post
  |nx=>cases h2;exact fun m1 σ1 H1 e1 sr1 _=>post m1 _ H1 e1 sr1 .non_
  |bk=>simp at h2
  |ct=>simp at h2
 ·cases hf
theorem u7{vs:List V}{H:Hp}{Q:VK}{E:XK}{n k:Nat}(h:A2 K (fnU n k c) vs H Q E):vs.length=k:=by
 obtain⟨m,us,S,u,S',i,sr,hf,post⟩:=h
 unfold fnU at hf
 split at hf
 ·rename_i e
  rw[i.length,e]
 ·cases hf
theorem _root_.OG.Def.pure(d:Def K mg x st ps)(S:aL N ps (ar st))
  (hb:∀(f:Addr) (cdv:Value) (A:Around) (outer:List Env) (s:Shared) (H:Hp) (E:XK),jl k (A.deeper (envOfC x (ar st) s.heap.objs.size f cdv))->
   WSs (xg CX0 P w K mg base N x (ar st) f cdv A outer s H E).nox (aI st) (tS K c)):d0 P w K mg base x (k+1) ps (fnU N.length ps.length c):=
 d.has S (fun vs H Q E h=>u7 h) fun f cdv A outer s H vs Q E hr h=>⟨_,hb f cdv A outer s H E hr,zj (X:=(xg CX0 P w K mg base N x (ar st) f cdv A outer s H E).nox) (body:=[]) (ps:=ps) rfl h⟩
theorem _root_.OG.Def.no(d:Def K mg x st ps):d0 P w K mg base x k ps (fun _ _=>none):=d.none fun vs H Q E h=>by
 obtain⟨m,us,S,u,S',i,sr,hf,post⟩:=h
 cases hf
theorem aR{X:Cx}{e:Expr}{es:List Expr}{cr:CA}{p pos:Pos}(F:Has X.prog X.w X.K X.mg X.base x k ps (A2 X.K f))(hr:jl k X.A)(hg:Gl X x)(ha:QA X (e::es) cr)
  (hdb:(x == ("__debug__":Str))=false:=by decide) (he:starEach (e::es) X.env=(false,eval e X.env)::starEach es X.env:=by rfl) (hpl:(backTo pos (starEach es X.env)).any (·.1)=false:=by rfl) :
  QE X (.Call (.Name x p) (e::es) [] pos) (cCB f cr):=(CB F hr hg ha.h hdb he hpl).imp fun σ H Q hz=>m6 hz fun m ρ S u S' sr lr hc post=>by
 obtain⟨⟨us,S1⟩,h1,h2⟩:=Option.bind_eq_some_iff.mp hc
 exact⟨m,ρ,S,us,S1,sr,lr,h1,fun m1 v1 H1 e1 sr1 i1=>⟨m1,us,S1,u,S',by simpa using i1,sr1,h2,post.mono e1⟩⟩
end
section
variable{X:Cx}{e a b c:Expr}{ca cb cc:CE}{pos:Pos}{st:Stmt}{sts:List Stmt}{c1 c2:CS}
noncomputable def cR:CS:=fun ρ S=>some (.nx,ρ,S)
noncomputable def bH(c1 c2:CS):CS:=fun ρ S=>(c1 ρ S).bind fun r=>match r.1 with
 |.nx=>c2 r.2.1 r.2.2
 |o=>some (o,r.2.1,r.2.2)
theorem bV:QSs X [] cR:=AI.imp fun D σ H hz=>vN hz fun m ρ S o ρ' S' sr lr hc post=>by cases hc;exact post m σ H .refl sr lr
theorem aw(h1:QS X st c1)(h2:QSs X sts c2):QSs X (st::sts) (bH c1 c2):=(rK h1 h2).imp fun D σ H hz=>vN hz fun m ρ S o ρ' S' sr lr hc post=>by
 obtain⟨⟨o1,ρ1,S1⟩,h1,h2⟩:=Option.bind_eq_some_iff.mp hc
 refine⟨m,ρ,S,o1,ρ1,S1,sr,lr,h1,?_⟩
 cases o1 with
 |nx=>exact fun m1 σ1 H1 e1 sr1 lr1=>⟨m1,ρ1,S1,o,ρ',S',sr1,lr1,h2,post.mono e1⟩
 |rt u=>cases h2;exact post
 |bk=>cases h2;exact post
 |ct=>cases h2;exact post
theorem ax(h1:QS X st c1):QSs X [st] c1:=uQ h1
noncomputable def ik(ca:CE):CS:=fun ρ S=>(ca ρ S).bind fun p=>some (.nx,ρ,p.2)
theorem eR(he:QE X e ca)(hs:swapsWith e none pos.line X.env=pure false:=by rfl):QS X (.Expr e pos) (ik ca):=(AJ he hs).imp fun D σ H hz=>vN hz fun m ρ S o ρ' S' sr lr hc post=>by
 obtain⟨⟨u,S1⟩,h1,h2⟩:=Option.bind_eq_some_iff.mp hc
 cases h2
 exact⟨m,ρ,S,u,_,sr,lr,h1,fun m1 v1 H1 e1 sr1 i1=>post m1 σ H1 e1 sr1 (lr.mono e1)⟩
noncomputable def fC(ca:CE):CS:=fun ρ S=>(ca ρ S).bind fun p=>some (.rt p.1,ρ,p.2)
theorem aS(he:QE X e ca):QS X (.Return (some e) pos) (fC ca):=(xo he).imp fun D σ H hz=>vN hz fun m ρ S o ρ' S' sr lr hc post=>by
 obtain⟨⟨u,S1⟩,h1,h2⟩:=Option.bind_eq_some_iff.mp hc
 cases h2
 exact⟨m,ρ,S,u,_,sr,lr,h1,post⟩
noncomputable def gj(t:CT)(c1 c2:CS):CS:=fun ρ S=>(t ρ S).bind fun p=>if p.1=true then c1 ρ p.2 else c2 ρ p.2
theorem cW{t:CT}{s1 s2:List Stmt}(hc:QT X c t)(h1:QSs X s1 c1)(h2:QSs X s2 c2):QS X (.If c s1 s2 pos) (gj t c1 c2):=(G6 hc h1 h2).imp fun D σ H hz=>vN hz fun m ρ S o ρ' S' sr lr hc post=>by
 obtain⟨⟨x,S1⟩,h1,h2⟩:=Option.bind_eq_some_iff.mp hc
 refine⟨m,ρ,S,x,S1,sr,lr,h1,fun m1 H1 e1 sr1=>?_⟩
 cases x with
 |true=>exact FV ⟨m1,ρ,S1,o,ρ',S',sr1,lr.mono e1,h2,post.mono e1⟩
 |false=>exact FW ⟨m1,ρ,S1,o,ρ',S',sr1,lr.mono e1,h2,post.mono e1⟩
noncomputable abbrev CG:=U->Rho->Sto->Option (Rho×Sto)
noncomputable def tG(K:PySem.W.Frag)(g:CG):TG:=fun v σ H Q=>∃m ρ S u ρ' S',Sr K m S H/\Lr K m H ρ σ/\Is K m H v u/\g u ρ S=some (ρ',S')/\jm K m H Q ρ' S'
noncomputable abbrev QG(X:Cx)(e:Expr)(g:CG):Prop:=WG X e (tG X.K g)
noncomputable def gNm(i:Nat):CG:=fun u ρ S=>some (ρ.set i (some u),S)
theorem bD{i:Nat}(h:WG X e (wU i)):QG X e (gNm i):=h.imp fun v σ H Q hz=>Me hz fun m ρ S u ρ' S' sr lr iu hc post=>by
 cases hc
 exact post m _ H .refl sr (lr.set i iu)
noncomputable def jg:List Nat->List U->Rho->Option Rho
 |[],[],ρ=>some ρ
 |i::is,u::us,ρ=>jg is us (ρ.set i (some u))
 |_,_,_=>none
noncomputable def tGs(K:PySem.W.Frag)(is:List Nat):TGs:=fun vs σ H Q=>∃m ρ S us ρ',Sr K m S H/\Lr K m H ρ σ/\IsL K m H vs us/\jg is us ρ=some ρ'/\jm K m H Q ρ' S
noncomputable abbrev QGs(X:Cx)(es:List Expr)(is:List Nat):Prop:=WGs X es (tGs X.K is)
theorem jy:QGs X [] []:=AL.imp fun v σ H Q ⟨m,ρ,S,us,ρ',sr,lr,iu,hc,post⟩=>by
 cases us with
 |nil=>cases hc;exact⟨iu.of_nil,post m σ H .refl sr lr⟩
 |cons a r=>simp[jg]at hc
theorem cm{i:Nat}{is:List Nat}{es:List Expr}(h:WG X e (wU i))(h2:QGs X es is)(hs:(assignEach (e::es) X.env).map (·.2)=assign e X.env::(assignEach es X.env).map (·.2):=by rfl):QGs X (e::es) (i::is):=(xt h h2 hs).imp fun v σ H Q ⟨m,ρ,S,us,ρ',sr,lr,iu,hc,post⟩=>by
 cases us with
 |nil=>simp[jg]at hc
 |cons u r=>
  obtain⟨x,xr,rfl,i1,i2⟩:=iu.of_cons
  exact⟨x,xr,rfl,m,ρ.set i (some u),S,r,ρ',sr,lr.set i i1,i2,hc,post⟩
noncomputable def gTp(is:List Nat):CG:=fun u ρ S=>match u with
 |.tup us=>(jg is us ρ).bind fun ρ'=>some (ρ',S)
 |_=>none
theorem pF:∀{is:List Nat} {us:List U} {ρ ρ':Rho},jg is us ρ=some ρ'->us.length=is.length
 |[],[],_,_,_=>rfl
 |[],_::_,_,_,h=>by simp[jg]at h
 |_::_,[],_,_,h=>by simp[jg]at h
 |i::is,u::us,ρ,ρ',h=>by
  have:=pF (is:=is) (us:=us) h
  simp[this]
theorem mE{is:List Nat}{es:List Expr}{k:Nat}(hc:X.calm=true)(h:QGs X es is)(hn:(assignEach es X.env).length=is.length:=by rfl)(hst:(assignEach es X.env).findIdx? (·.1)=none:=by rfl):QG X (.Tuple es k pos) (gTp is):=(D6 hc h hn hst).imp fun v σ H Q hz=>Me hz fun m ρ S u ρ' S' sr lr iu hc post=>by
 cases u with
 |tup us=>
  obtain⟨ρ2,h1,h2⟩:=Option.bind_eq_some_iff.mp hc
  cases h2
  obtain⟨a,xs,rfl,sq,il⟩:=iu.of_tup
  refine⟨a,xs,rfl,sq,?_,m,ρ,S,us,ρ',sr,lr,il,h1,post⟩
  rw[il.length];exact pF h1
 |_=>simp[gTp]at hc
noncomputable def Jk(ca:CE)(g:CG):CS:=fun ρ S=>(ca ρ S).bind fun p=>(g p.1 ρ p.2).bind fun q=>some (.nx,q.1,q.2)
theorem FP{K:PySem.W.Frag}{g:CG}:∀D σ H,tS K (Jk ca g) D σ H->Ho (tE K ca) (tG K g) D σ H:=by
 rintro D σ H ⟨m,ρ,S,o,ρ',S',sr,lr,hc,post⟩
 obtain⟨⟨u,S1⟩,h1,h2⟩:=Option.bind_eq_some_iff.mp hc
 obtain⟨⟨ρ2,S2⟩,h3,h4⟩:=Option.bind_eq_some_iff.mp h2
 cases h4
 exact⟨m,ρ,S,u,S1,sr,lr,h1,fun m1 v1 H1 e1 sr1 i1=>⟨m1,ρ,S1,u,_,_,sr1,lr.mono e1,i1,h3,jm.mono e1 post⟩⟩
theorem Hv{tg:Expr}{g:CG}(he:QE X e ca)(hg:QG X tg g)(hs:swapsWithSole [tg] e pos.line X.env=pure false:=by rfl)(hw:swappedStores [tg] e X.env=pure none:=by rfl)
  (h1:(assignEach [tg] X.env).map (·.2)=[assign tg X.env]:=by rfl):QS X (.Assign [tg] e pos) (Jk ca g):=(xq he hg hs hw h1).imp FP
noncomputable def dc(i:Nat)(ca:CE):CS:=fun ρ S=>(ca ρ S).bind fun p=>some (.nx,ρ.set i (some p.1),p.2)
theorem aU{i:Nat}{x:Str}{pos':Pos}(hN:X.N.Nodup)(hi:X.N[i]?=some x)(hx:Loc X.env.scope x)(he:QE X e ca)(hs:swapsWith e (some (.Name x pos')) pos.line X.env=pure false:=by rfl)(hf:X.fn x=true\/X.env.scope.names.lookup x=some .local:=by first|exact .inl rfl|exact .inr rfl|assumption) :
  QS X (.Assign [.Name x pos'] e pos) (dc i ca):=(xn hN hi hx he hs hf).imp fun D σ H hz=>vN hz fun m ρ S o ρ' S' sr lr hc post=>by
 obtain⟨⟨u,S1⟩,h1,h2⟩:=Option.bind_eq_some_iff.mp hc
 cases h2
 exact⟨m,ρ,S,u,_,sr,lr,h1,fun m1 v1 H1 e1 sr1 i1=>post m1 _ H1 e1 sr1 ((lr.mono e1).set i i1)⟩
noncomputable abbrev CI:=Rho->Sto->Option (List U×(Sto->Prop)×Sto)
noncomputable def Au(K:PySem.W.Frag)(J:It)(m:List Addr)(H:Hp)(us:List U)(ok:Sto->Prop):Prop:=∀m2 S2 H2 i,Ext K m H m2 H2->Sr K m2 S2 H2->ok S2->
 (∀u,us[i]?=some u->J.go i H2/\∀x H3,J.yld i H2 x H3->Ext K m2 H2 m2 H3/\Sr K m2 S2 H3/\Is K m2 H3 x u)/\(us.length<=i->J.stop i H2)
noncomputable def tI(K:PySem.W.Frag)(ci:CI):TI:=fun σ H R=>∃m ρ S us ok S',Sr K m S H/\Lr K m H ρ σ/\ci ρ S=some (us,ok,S')/\∀m' H' J,Ext K m H m' H'->Sr K m' S' H'->Au K J m' H' us ok->R J H'
noncomputable abbrev QI(X:Cx)(tg iter:Expr)(ci:CI):Prop:=WI X tg iter (tI X.K ci)
open Classical in
noncomputable def eD(ok:Sto->Prop)(g:CG)(cb:CS):List U->CS
 |[]=>fun ρ S=>if ok S then some (.nx,ρ,S)else none
 |u::us=>fun ρ S=>if ok S then(g u ρ S).bind fun p=>(cb p.1 p.2).bind fun r=>match r.1 with
  |.nx=>eD ok g cb us r.2.1 r.2.2
  |.ct=>eD ok g cb us r.2.1 r.2.2
  |.bk=>some (.nx,r.2.1,r.2.2)
  |.rt v=>some (.rt v,r.2.1,r.2.2)else none
noncomputable def i9(ci:CI)(g:CG)(cb:CS):CS:=fun ρ S=>(ci ρ S).bind fun p=>eD p.2.1 g cb p.1 ρ p.2.2
theorem ox{α:Type}{us:List α}{i:Nat}{u:α}(h:us[i]?=some u):us.drop i=u::us.drop (i+1):=by
 obtain⟨hl,e⟩:=List.getElem?_eq_some_iff.mp h
 rw[List.drop_eq_getElem_cons hl,e]
theorem vw{K:PySem.W.Frag}{g:CG}{cb:CS}{J:It}{us:List U}{ok:Sto->Prop}{D:Aw}{m1:List Addr}{H1:Hp}{ρ ρ':Rho}{σ:L2.St}{S1 S':Sto}{o:Out}(sr1:Sr K m1 S1 H1)(lr1:Lr K m1 H1 ρ σ)(ito:Au K J m1 H1 us ok)(h2:eD ok g cb us ρ S1=some (o,ρ',S'))(post:xa K m1 H1 D o ρ' S') :
  ∃W:Nat->Nat->L2.St->Hp->Prop,(∃n,W 0 n σ H1)/\∀i n σ H,W i n σ H->
   (J.stop i H/\D.nx σ H)\/(J.go i H/\∃N:L2.St->Hp->Prop,(∀σ' H',N σ' H'->∃n',n'<n/\W (i+1) n' σ' H')/\∀x H',J.yld i H x H'->tG K g x σ H' fun σ2 H2=>tS K cb { D with nx:=N,ct:=N,bk:=D.nx } σ2 H2):=by
 let W:Nat->Nat->L2.St->Hp->Prop:=fun i n σ2 H2=>n=us.length-i/\i<=us.length/\∃m2 ρ2 S2,Ext K m1 H1 m2 H2/\Sr K m2 S2 H2/\Lr K m2 H2 ρ2 σ2/\eD ok g cb (us.drop i) ρ2 S2=some (o,ρ',S')
 refine⟨W,⟨us.length,by simp,Nat.zero_le _,m1,ρ,S1,.refl,sr1,lr1,by simpa using h2⟩,?_⟩
 rintro i n σ2 H2 ⟨rfl,hi,m2,ρ2,S2,e2,sr2,lr2,hl⟩
 by_cases hlt:i<us.length
 ·have hu:=List.getElem?_eq_getElem hlt
  rw[ox hu]at hl
  unfold eD at hl
  split at hl
  ·rename_i hok
   obtain⟨⟨ρ3,S3⟩,h3,hl⟩:=Option.bind_eq_some_iff.mp hl
   obtain⟨⟨o4,ρ4,S4⟩,h4,hl⟩:=Option.bind_eq_some_iff.mp hl
   obtain⟨hgo,hy⟩:=(ito m2 S2 H2 i e2 sr2 hok).1 _ hu
   refine .inr ⟨hgo,W (i+1) (us.length-(i+1)),fun σ' H' w'=>⟨_,by omega,w'⟩,fun x H3 y=>?_⟩
   obtain⟨e3,sr3,ix⟩:=hy x H3 y
   refine⟨m2,ρ2,S2,_,ρ3,S3,sr3,lr2.mono e3,ix,h3,fun m4 σ4 H4 e4 sr4 lr4=>⟨m4,ρ3,S3,o4,ρ4,S4,sr4,lr4,h4,?_⟩⟩
   have e14:=(e2.trans e3).trans e4
   have nxt:eD ok g cb (us.drop (i+1)) ρ4 S4=some (o,ρ',S')->jm K m4 H4 (W (i+1) (us.length-(i+1))) ρ4 S4:=fun hn m5 σ5 H5 e5 sr5 lr5=>⟨rfl,hlt,m5,ρ4,S4,e14.trans e5,sr5,lr5,hn⟩
   cases o4 with
   |nx=>exact nxt hl
   |ct=>exact nxt hl
   |bk=>cases hl;exact jm.mono e14 post
   |rt v=>cases hl;exact lQ.mono e14 post
  ·cases hl
 ·have e:i=us.length:=by omega
  subst e
  rw[List.drop_length]at hl
  unfold eD at hl
  split at hl
  ·rename_i hok
   cases hl
   exact .inl ⟨(ito m2 _ H2 _ e2 sr2 hok).2 (Nat.le_refl _),post m2 σ2 H2 e2 sr2 lr2⟩
  ·cases hl
theorem Fq{K:PySem.W.Frag}{ci:CI}{g:CG}{cb:CS}:∀D σ H,tS K (i9 ci g cb) D σ H->Jv (tI K ci) (tG K g) (tS K cb) D σ H:=by
 rintro D σ H ⟨m,ρ,S,o,ρ',S',sr,lr,hc,post⟩
 obtain⟨⟨us,ok,S1⟩,h1,h2⟩:=Option.bind_eq_some_iff.mp hc
 exact⟨m,ρ,S,us,ok,S1,sr,lr,h1,fun m1 H1 J e1 sr1 ito=>vw sr1 (lr.mono e1) ito h2 (xa.mono e1 post)⟩
theorem iJ{tg iter:Expr}{body:List Stmt}{ci:CI}{g:CG}{cb:CS}(hp:PassesOwn (model X.prog X.w) X.A X.env X.xe)(hc:X.calm=true)(hi:QI X tg iter ci)(hg:QG X tg g)(hb:QSs X body cb)(hs:∀x,foldedSetIterable iter X.env x=pure x:=by intro _;rfl):QS X (.For tg iter body [] pos) (i9 ci g cb):=(xp hp hc hi hg hb hs).imp Fq
noncomputable def gP(t:CT)(cb:CS):Nat->CS
 |0=>fun _ _=>none
 |n+1=>fun ρ S=>(t ρ S).bind fun p=>if p.1=true then(cb ρ p.2).bind fun r=>match r.1 with
  |.nx=>gP t cb n r.2.1 r.2.2
  |.ct=>gP t cb n r.2.1 r.2.2
  |.bk=>some (.nx,r.2.1,r.2.2)
  |.rt v=>some (.rt v,r.2.1,r.2.2)else some (.nx,ρ,p.2)
theorem xF{K:PySem.W.Frag}{t:CT}{cb:CS}{n:Nat}:∀D σ H,tS K (gP t cb n) D σ H->xP (tT K t) (tS K cb) D σ H:=by
 rintro D σ H ⟨m,ρ,S,o,ρ',S',sr,lr,hc,post⟩
 let W:Nat->L2.St->Hp->Prop:=fun n σ2 H2=>∃m2 ρ2 S2,Ext K m H m2 H2/\Sr K m2 S2 H2/\Lr K m2 H2 ρ2 σ2/\gP t cb n ρ2 S2=some (o,ρ',S')
 refine⟨W,⟨n,m,ρ,S,.refl,sr,lr,hc⟩,?_⟩
 rintro k σ2 H2 ⟨m2,ρ2,S2,e2,sr2,lr2,hl⟩
 cases k with
 |zero=>cases hl
 |succ k=>
  unfold gP at hl
  obtain⟨⟨x,S3⟩,h3,hl⟩:=Option.bind_eq_some_iff.mp hl
  refine⟨m2,ρ2,S2,x,S3,sr2,lr2,h3,fun m3 H3 e3 sr3=>?_⟩
  have e13:=e2.trans e3
  cases x with
  |true=>
   rw[if_pos rfl]at hl
   refine FV ?_
   obtain⟨⟨o4,ρ4,S4⟩,h4,hl⟩:=Option.bind_eq_some_iff.mp hl
   refine⟨W k,fun σ' H' w'=>⟨k,Nat.lt_succ_self _,w'⟩,m3,ρ2,S3,o4,ρ4,S4,sr3,lr2.mono e3,h4,?_⟩
   have nxt:gP t cb k ρ4 S4=some (o,ρ',S')->jm K m3 H3 (W k) ρ4 S4:=fun hn m5 σ5 H5 e5 sr5 lr5=>⟨m5,ρ4,S4,e13.trans e5,sr5,lr5,hn⟩
   cases o4 with
   |nx=>exact nxt hl
   |ct=>exact nxt hl
   |bk=>cases hl;exact jm.mono e13 post
   |rt v=>cases hl;exact lQ.mono e13 post
  |false=>
   rw[if_neg Bool.false_ne_true]at hl
   refine FW ?_
   cases hl
   exact post m3 σ2 H3 e13 sr3 (lr2.mono e3)
theorem Bc{body:List Stmt}{t:CT}{cb:CS}(n:Nat)(hp:PassesOwn (model X.prog X.w) X.A X.env X.xe)(hc:QT X c t)(hb:QSs X body cb):QS X (.While c body [] pos) (gP t cb n):=(xm hp hc hb).imp xF
noncomputable def iTp(ca:CE):CI:=fun ρ S=>(ca ρ S).bind fun p=>match p.1 with
 |.tup us=>some (us,fun _=>True,p.2)
 |.ref l=>match p.2[l]? with
  |some (.lst us)=>some (us,fun S=>S[l]?=some (.lst us),p.2)
  |_=>none
 |_=>none
theorem IS{K:PySem.W.Frag}{m:List Addr}{H:Hp}{us:List U}{a:Addr}{xs:List V}(sq:SqT K H a xs)(il:IsL K m H xs us):Au K (Itt K a) m H us (fun _=>True):=by
 intro m2 S2 H2 i e2 sr2 _
 have sq2:=e2.keep.t _ _ sq
 have il2:=il.mono e2
 refine⟨fun u hu=>?_,fun hi=>⟨xs,sq2,by rw[il2.length];exact hi⟩⟩
 obtain⟨x,hx,ix⟩:=il2.getD hu
 refine⟨⟨xs,x,sq2,hx⟩,fun y H3 hy=>?_⟩
 obtain⟨rfl,hy⟩:=hy
 have:=hy xs sq2
 rw[hx]at this;cases this
 exact⟨.refl,sr2,ix⟩
theorem IT{K:PySem.W.Frag}{m:List Addr}{H:Hp}{us:List U}{a:Addr}{l:Nat}(hl:m[l]?=some a):Au K (Itl K a) m H us (fun S=>S[l]?=some (.lst us)):=by
 intro m2 S2 H2 i e2 sr2 hok
 obtain⟨a',ha',xs,hx,il⟩:=sr2.get hok
 rw[e2.get hl]at ha'
 cases ha'
 refine⟨fun u hu=>?_,fun hi=>⟨xs,SqL.of hx,by rw[il.length];exact hi⟩⟩
 obtain⟨x,hx',ix⟩:=il.getD hu
 refine⟨⟨xs,x,SqL.of hx,hx'⟩,fun y H3 hy=>?_⟩
 obtain⟨rfl,hy⟩:=hy
 have:=hy xs (SqL.of hx)
 rw[hx']at this;cases this
 exact⟨.refl,sr2,ix⟩
theorem dZ{tg:Expr}(h:QE X e ca):QI X tg e (iTp ca):=((D5 h).or (AK h)).imp fun σ H R hz=>vN hz fun m ρ S us ok S' sr lr hc post=>by
 obtain⟨⟨u,S1⟩,h1,h2⟩:=Option.bind_eq_some_iff.mp hc
 cases u with
 |tup ws=>
  cases h2
  refine .inl ⟨m,ρ,S,.tup us,_,sr,lr,h1,fun m1 v1 H1 e1 sr1 i1=>?_⟩
  obtain⟨a,xs,rfl,sq,il⟩:=i1.of_tup
  exact⟨a,rfl,⟨xs,sq⟩,post m1 H1 _ e1 sr1 (IS sq il)⟩
 |ref l=>
  simp only at h2
  split at h2
  ·rename_i us' hS
   cases h2
   refine .inr ⟨m,ρ,S,.ref l,_,sr,lr,h1,fun m1 v1 H1 e1 sr1 i1=>?_⟩
   obtain⟨a,hl,rfl⟩:=i1.of_ref
   obtain⟨a',ha',xs,hx,il⟩:=sr1.get hS
   rw[hl]at ha';cases ha'
   exact⟨a,rfl,⟨xs,SqL.of hx⟩,post m1 H1 _ e1 sr1 (IT hl)⟩
  ·cases h2
 |_=>simp at h2
noncomputable def dk(lo:Int)(n:Nat):List U:=(List.range n).map fun i=>.int (lo+(i:Nat))
theorem BU{K:PySem.W.Frag}{m:List Addr}{H:Hp}{lo:Int}{n:Nat}:Au K (Itr lo n) m H (dk lo n) (fun _=>True):=by
 intro m2 S2 H2 i e2 sr2 _
 refine⟨fun u hu=>?_,fun hi=>by show n<=i;simpa [dk] using hi⟩
 unfold dk at hu
 rw[List.getElem?_map]at hu
 by_cases c:i<n
 ·rw[List.getElem?_range c]at hu
  simp at hu
  subst hu
  refine⟨c,fun y H3 hy=>?_⟩
  obtain⟨rfl,rfl⟩:=hy
  exact⟨.refl,sr2,.int_⟩
 ·rw[List.getElem?_eq_none (by simpa using c)]at hu
  cases hu
noncomputable def eV(cr:CA):CI:=fun ρ S=>(cr ρ S).bind fun p=>match p.1 with
 |[.int j]=>if -(2^62)<=j/\j<2^62 then some (dk 0 j.toNat,fun _=>True,p.2)else none
 |_=>none
theorem jx{tg:Expr}{cr:CA}{p:Pos}(hg:Gl X "range")(hm:X.mg "range"=none)(ha:QA X [a] cr)(hs:starEach [a] X.env=[(false,eval a X.env)]:=by rfl):QI X tg (.Call (.Name "range" p) [a] [] pos) (eV cr):=(wc hg hm ha.h hs).imp fun σ H R hz=>vN hz fun m ρ S us ok S' sr lr hc post=>by
 obtain⟨⟨ws,S1⟩,h1,h2⟩:=Option.bind_eq_some_iff.mp hc
 simp only at h2
 split at h2
 ·rename_i j
  split at h2
  ·rename_i hj
   cases h2
   refine⟨m,ρ,S,_,S',sr,lr,h1,fun m1 v1 H1 e1 sr1 i1=>?_⟩
   obtain⟨x,r,rfl,ix,ir⟩:=i1.of_cons
   rw[ir.of_nil,ix.of_int]
   exact⟨j,rfl,hj.1,hj.2,post m1 H1 _ e1 sr1 BU⟩
  ·cases h2
 ·cases h2
end
noncomputable def fI(g:Int->Int->Option U):U->U->Sto->Option (U×Sto)
 |.int i,.int j,S=>(g i j).bind fun u=>some (u,S)
 |_,_,_=>none
section
variable{X:Cx}{K:PySem.W.Frag}
theorem Jz{C:Int->Int->Prop}{gV:Int->Int->V}{g:Int->Int->Option U}(h:∀i j u,g i j=some u->C i j/\∀m H,Is K m H (gV i j) u):OpP K (rI C gV) (fI g):=by
 intro m S H x y v w u S' Q sr ix iy hf post
 cases x<;>cases y<;>simp only[fI]at hf<;>try cases hf
 rename_i i j
 obtain⟨u1,h1,h2⟩:=Option.bind_eq_some_iff.mp hf
 cases h2
 obtain⟨hc,hi⟩:=h i j u h1
 exact⟨i,j,ix.of_int,iy.of_int,hc,post m _ H .refl sr (hi m H)⟩
theorem Bx{gV:Int->Int->V}{g:Int->Int->Option U}(h:∀i j u,g i j=some u->∀m H,Is K m H (gV i j) u):OpP K (rI0 gV) (fI g):=by
 intro m S H x y v w u S' Q sr ix iy hf post
 cases x<;>cases y<;>simp only[fI]at hf<;>try cases hf
 rename_i i j
 obtain⟨u1,h1,h2⟩:=Option.bind_eq_some_iff.mp hf
 cases h2
 exact⟨i,j,ix.of_int,iy.of_int,post m _ H .refl sr (h i j u h1 m H)⟩
noncomputable def Bb(K:PySem.W.Frag):R2:=fun x y H Q=>∃a b xs ys,x=.ref a/\y=.ref b/\SqT K H a xs/\SqT K H b ys/\xs.length+ys.length<=sizeLine/\∀q H',uI H H'->SqT K H' q (xs++ys)->Q (.ref q) H'
theorem EY:OpR X (binaryOp .Add) (Bb X.K):=by
 intro pins s σ H x y v u Q I rx ry h
 obtain⟨a,b,xs,ys,rfl,rfl,ha,hb,hz,q⟩:=h
 by_cases e:xs=[]
 ·cases rx
  cases ry
  obtain⟨its,r1,p1,_⟩:=I.tuple ha
  obtain⟨its2,r2,p2,_⟩:=I.tuple hb
  refine Cg p1 p2 (r1.nil_iff.mpr e) ⟨.ref b,H,I,rfl,q b H (.refl _) (by rw[e];exact hb)⟩
 ·refine EX pins s σ H _ _ v u Q I rx ry ⟨a,b,xs,ys,rfl,rfl,ha,hb,e,hz,fun z=>q a H (.refl _) (by rw[z,List.append_nil];exact ha),fun _ p hp=>q p _ (d9 hp _) (SqT.of aK)⟩
noncomputable def zp:U->U->Sto->Option (U×Sto)
 |.tup a,.tup b,S=>if a.length+b.length<=LIM then some (.tup (a++b),S)else none
 |_,_,_=>none
theorem Bv:OpP K (Bb K) zp:=by
 intro m S H x y v w u S' Q sr ix iy hf post
 cases x<;>cases y<;>simp only[zp]at hf<;>try cases hf
 split at hf<;>try cases hf
 rename_i hl
 obtain⟨a,xs,rfl,sa,la⟩:=ix.of_tup
 obtain⟨b,ys,rfl,sb,lb⟩:=iy.of_tup
 refine⟨a,b,xs,ys,rfl,rfl,sa,sb,lim (by rw[la.length,lb.length];exact hl),fun q H' s sq=>?_⟩
 exact post m _ H' (.of (iM s)) (sr.same s) (.tup_ sq ((la.append lb).mono (.of (iM s))))
noncomputable def ky:U->U->Sto->Option (U×Sto)
 |.ref l,.ref k,S=>match S[l]?,S[k]? with
  |some (.lst a),some (.lst b)=>if a.length+b.length<=LIM then some (.ref S.length,S++[.lst (a++b)])else none
  |_,_=>none
 |_,_,_=>none
theorem By:OpP K Jx ky:=by
 intro m S H x y v w u S' Q sr ix iy hf post
 cases x<;>cases y<;>simp only[ky]at hf<;>try cases hf
 rename_i l k
 split at hf<;>try cases hf
 rename_i a b h1 h2
 split at hf<;>try cases hf
 rename_i hl
 obtain⟨p,hp,rfl⟩:=ix.of_ref
 obtain⟨q,hq,rfl⟩:=iy.of_ref
 obtain⟨p',hp',xs,hx,il⟩:=sr.get h1
 obtain⟨q',hq',ys,hy,il'⟩:=sr.get h2
 rw[hp]at hp';cases hp'
 rw[hq]at hq';cases hq'
 exact⟨p,q,xs,ys,rfl,rfl,hx,hy,lim (by rw[il.length,il'.length];exact hl),fun r hr=>fY sr (il.append il') post hr⟩
noncomputable def zq:U->U->Sto->Option (U×Sto)
 |.str a,.str b,S=>if a.length+b.length<=LIM then some (.str (a++b),S)else none
 |_,_,_=>none
theorem Bw:OpP K (fun x y H Q=>∃i j,x=.str i/\y=.str j/\i.length+j.length<=sizeLine/\Q (.str (i++j)) H) zq:=by
 intro m S H x y v w u S' Q sr ix iy hf post
 cases x<;>cases y<;>simp only[zq]at hf<;>try cases hf
 split at hf<;>try cases hf
 rename_i hl
 exact⟨_,_,ix.of_str,iy.of_str,lim hl,post m _ H .refl sr .str_⟩
noncomputable def gX:U->U->Sto->Option (U×Sto)
 |.int i,.int j,S=>some (.int (i+j),S)
 |.tup a,.tup b,S=>if a.length+b.length<=LIM then some (.tup (a++b),S)else none
 |.str a,.str b,S=>if a.length+b.length<=LIM then some (.str (a++b),S)else none
 |.ref l,.ref k,S=>ky (.ref l) (.ref k) S
 |_,_,_=>none
theorem gb:OpR X (binaryOp .Add) (fun x y H Q=>rI0 (fun i j=>.int (i+j)) x y H Q\/(Jx x y H Q\/(Bb X.K x y H Q\/∃i j,x=.str i/\y=.str j/\i.length+j.length<=sizeLine/\Q (.str (i++j)) H))):=Im.or (Il.or (EY.or wz))
theorem fZ:OpP K (fun x y H Q=>rI0 (fun i j=>.int (i+j)) x y H Q\/(Jx x y H Q\/(Bb K x y H Q\/∃i j,x=.str i/\y=.str j/\i.length+j.length<=sizeLine/\Q (.str (i++j)) H))) gX:=by
 intro m S H x y v w u S' Q sr ix iy hf post
 cases x<;>cases y<;>simp only[gX]at hf<;>try cases hf
 ·exact .inl ⟨_,_,ix.of_int,iy.of_int,post m _ H .refl sr .int_⟩
 ·exact .inr (.inr (.inr (Bw m S H _ _ v w u S' Q sr ix iy hf post)))
 ·exact .inr (.inr (.inl (Bv m S H _ _ v w u S' Q sr ix iy hf post)))
 ·exact .inr (.inl (By m S H _ _ v w u S' Q sr ix iy hf post))
noncomputable def FX:=fI fun i j=>some (.int (i-j))
theorem Ib:OpP K (rI0 fun i j=>.int (i-j)) FX:=Bx fun i j u h m H=>by cases h;exact .int_
instance {i j:Int}:Decidable (DB i j):=by unfold DB;exact inferInstance
noncomputable def n8:=fI fun i j=>if DB i j then some (.int (i*j))else none
theorem so:OpP K (rI DB fun i j=>.int (i*j)) n8:=Jz fun i j u h=>by
 split at h
 ·rename_i c;cases h;exact⟨c,fun m H=>.int_⟩
 ·cases h
instance {i j:Int}:Decidable (xf i j):=by unfold xf;exact inferInstance
noncomputable def B3:=fI fun i j=>if xf i j then some (.int (i / j))else none
theorem EW:OpP K (rI xf fun i j=>.int (i / j)) B3:=Jz fun i j u h=>by
 split at h
 ·rename_i c;cases h;exact⟨c,fun m H=>.int_⟩
 ·cases h
noncomputable def sQ:=fI fun i j=>if 0<j then some (.int (i % j))else none
theorem t9:OpP K (rI (fun _ j=>0<j) fun i j=>.int (i % j)) sQ:=Jz fun i j u h=>by
 split at h
 ·rename_i c;cases h;exact⟨c,fun m H=>.int_⟩
 ·cases h
instance {i j:Int}:Decidable (FZ i j):=by unfold FZ;exact inferInstance
noncomputable def Ar:=fI fun i j=>if FZ i j then some (.int (i^j.toNat))else none
theorem ET:OpP K (rI FZ fun i j=>.int (i^j.toNat)) Ar:=Jz fun i j u h=>by
 split at h
 ·rename_i c;cases h;exact⟨c,fun m H=>.int_⟩
 ·cases h
noncomputable def fLt:=fI fun i j=>some (.bl (decide (i<j)))
noncomputable def fLe:=fI fun i j=>some (.bl (decide (i<=j)))
noncomputable def fGt:=fI fun i j=>some (.bl (decide (j<i)))
noncomputable def fGe:=fI fun i j=>some (.bl (decide (j<=i)))
theorem JA:OpP K (rI0 fun i j=>.bl (decide (i<j))) fLt:=Bx fun i j u h m H=>by cases h;exact .bl_
theorem MJ:OpP K (rI0 fun i j=>.bl (decide (j<i))) fGt:=Bx fun i j u h m H=>by cases h;exact .bl_
theorem MK:OpP K (rI0 fun i j=>.bl (decide (j<=i))) fGe:=Bx fun i j u h m H=>by cases h;exact .bl_
noncomputable def eqS:U->U->Option Bool
 |.int i,.int j=>some (decide (i=j))
 |.bl i,.bl j=>some (decide (i=j))
 |.str i,.str j=>some (decide (i=j))
 |.non,.non=>some true
 |.non,.int _=>some false|.int _,.non=>some false
 |.non,.bl _=>some false|.bl _,.non=>some false
 |.non,.str _=>some false|.str _,.non=>some false
 |.int _,.str _=>some false|.str _,.int _=>some false
 |.bl _,.str _=>some false|.str _,.bl _=>some false
 |_,_=>none
noncomputable def fEq:U->U->Sto->Option (U×Sto):=fun x y S=>(eqS x y).bind fun b=>some (.bl b,S)
noncomputable def fNe:U->U->Sto->Option (U×Sto):=fun x y S=>(eqS x y).bind fun b=>some (.bl (!b),S)
theorem Di{m:List Addr}{H:Hp}{x y:U}{v w:V}{b:Bool}(ix:Is K m H v x)(iy:Is K m H w y)(h:eqS x y=some b):KG v w=true/\decide (v=w)=b:=by
 cases x<;>cases y<;>simp only[eqS]at h<;>(first|cases h|skip)
 all_goals
  (first|(have e1:=ix.of_int)|(have e1:=ix.of_bl)|(have e1:=ix.of_str)|(have e1:=ix.of_non))
  (first|(have e2:=iy.of_int)|(have e2:=iy.of_bl)|(have e2:=iy.of_str)|(have e2:=iy.of_non))
  subst e1 e2
  exact⟨rfl,by simp⟩
theorem kX:OpP K rEq fEq:=by
 intro m S H x y v w u S' Q sr ix iy hf post
 obtain⟨b,h1,h2⟩:=Option.bind_eq_some_iff.mp hf
 cases h2
 obtain⟨e1,e2⟩:=Di ix iy h1
 exact⟨e1,by rw[e2];exact post m _ H .refl sr .bl_⟩
theorem Ie:OpP K rNe fNe:=by
 intro m S H x y v w u S' Q sr ix iy hf post
 obtain⟨b,h1,h2⟩:=Option.bind_eq_some_iff.mp hf
 cases h2
 obtain⟨e1,e2⟩:=Di ix iy h1
 exact⟨e1,by rw[e2];exact post m _ H .refl sr .bl_⟩
noncomputable def wH:U->Bool
 |.non=>true
 |_=>false
noncomputable def Jb:U->U->Sto->Option (U×Sto)
 |x,.non,S=>some (.bl (wH x),S)
 |_,_,_=>none
theorem BW{m:List Addr}{H:Hp}{x:U}{v:V}(ix:Is K m H v x):decide (v=.non)=wH x:=by
 cases x with
 |non=>rw[ix.of_non];rfl
 |bl b=>rw[ix.of_bl];rfl
 |int i=>rw[ix.of_int];rfl
 |str i=>rw[ix.of_str];rfl
 |tup us=>obtain⟨a,xs,rfl,_⟩:=ix.of_tup;rfl
 |ref l=>obtain⟨a,_,rfl⟩:=ix.of_ref;rfl
 |kl ns=>obtain⟨a,rfl,_⟩:=ix.of_kl;rfl
theorem Ig:OpP K (fun x y H Q=>y=.non/\Q (.bl (decide (x=.non))) H) Jb:=by
 intro m S H x y v w u S' Q sr ix iy hf post
 cases y<;>simp only[Jb]at hf<;>cases hf
 exact⟨iy.of_non,by rw[BW ix];exact post m _ H .refl sr .bl_⟩
section
variable{κ:Type}[DecidableEq κ]
noncomputable def aX{α:Type}(kvs:List (κ×α))(k:κ):Option α:=(kvs.find? fun kv=>decide (kv.1=k)).map (·.2)
noncomputable def iW{α:Type}(kvs:List (κ×α))(k:κ)(v:α):List (κ×α):=
 if (kvs.any fun kv=>decide (kv.1=k))=true then kvs.map (fun kv=>if kv.1=k then(kv.1,v)else kv)else kvs++[(k,v)]
variable{m:List Addr}{H:Hp}{kvs:List (κ×V)}{kus:List (κ×U)}{k:κ}{v:V}{u:U}
theorem IsP.val(h:IsP K m H kvs kus):Rf K m H (qp kvs k) (aX kus k):=by
 refine IsP.ind (P:=fun kvs kus=>Rf K m H (qp kvs k) (aX kus k)) trivial (fun k' v u kvs kus i _ ih=>?_) h
 by_cases e:k'=k
 ·subst e
  simp[qp,aX,List.find?_cons,Rf,i]
 ·simp only[qp,aX,List.find?_cons,decide_eq_false e]at ih ⊢
  exact ih
theorem IsP.any_(h:IsP K m H kvs kus):(kvs.any fun kv=>decide (kv.1=k))=(kus.any fun kv=>decide (kv.1=k)):=
 IsP.ind (P:=fun kvs kus=>(kvs.any fun kv=>decide (kv.1=k))=(kus.any fun kv=>decide (kv.1=k))) rfl (fun k' v u kvs kus i _ ih=>by simp only[List.any_cons,ih]) h
theorem IsP.append{kvs':List (κ×V)}{kus':List (κ×U)}(h:IsP K m H kvs kus)(h':IsP K m H kvs' kus'):IsP K m H (kvs++kvs') (kus++kus'):=⟨by simp[h.1,h'.1],by simpa using h.2.append h'.2⟩
theorem IsP.put(h:IsP K m H kvs kus)(i:Is K m H v u):IsP K m H (tY kvs k v) (iW kus k u):=by
 unfold tY iW
 rw[h.any_]
 split
 ·refine IsP.ind (P:=fun kvs kus=>IsP K m H (kvs.map fun kv=>if kv.1=k then(kv.1,v)else kv) (kus.map fun kv=>if kv.1=k then(kv.1,u)else kv)) .nil_ (fun k' v' u' kvs kus i' _ ih=>?_) h
  simp only[List.map_cons]
  by_cases e:k'=k
  ·simp only[e,if_true];exact .cons_ i ih
  ·simp only[e,if_false];exact .cons_ i' ih
 ·exact h.append (.cons_ i .nil_)
end
noncomputable def mK:U->Option Key
 |.int i=>some (.inl i)
 |.str x=>some (.inr x)
 |_=>none
theorem kq{m:List Addr}{H:Hp}{x:U}{v:V}{k:Key}(ix:Is K m H v x)(h:mK x=some k):v=kV k:=by
 cases x<;>simp only[mK]at h<;>cases h
 ·exact ix.of_int
 ·exact ix.of_str
noncomputable def gf:U->Bool
 |.non=>true|.bl _=>true|.int _=>true|.str _=>true|_=>false
noncomputable def eqF:U->U->Bool
 |.non,.non=>true
 |.bl a,.bl b=>a == b
 |.bl a,.int b=>(if a then 1 else 0) == b
 |.int a,.bl b=>a == (if b then 1 else 0)
 |.int a,.int b=>a == b
 |.str a,.str b=>a == b
 |_,_=>false
noncomputable def inU(x:U)(us:List U):Bool:=us.any fun y=>eqF y x
theorem ur{m:List Addr}{H:Hp}{x:U}{v:V}(ix:Is K m H v x)(h:gf x=true):o7 v=true:=by
 cases x with
 |non=>rw[ix.of_non];rfl
 |bl b=>rw[ix.of_bl];rfl
 |int i=>rw[ix.of_int];rfl
 |str i=>rw[ix.of_str];rfl
 |tup us=>cases h
 |ref l=>cases h
 |kl l=>cases h
theorem Je{m:List Addr}{H:Hp}{x y:U}{v w:V}(ix:Is K m H v x)(iy:Is K m H w y)(hx:gf x=true)(hy:gf y=true):eqV v w=eqF x y:=by
 cases x<;>(first|cases hx|skip)<;>cases y<;>(first|cases hy|skip)
 all_goals
  (first|(have e1:=ix.of_int)|(have e1:=ix.of_bl)|(have e1:=ix.of_str)|(have e1:=ix.of_non))
  (first|(have e2:=iy.of_int)|(have e2:=iy.of_bl)|(have e2:=iy.of_str)|(have e2:=iy.of_non))
  subst e1 e2
  rfl
theorem qT{m:List Addr}{H:Hp}:∀{xs:List V} {us:List U},IsL K m H xs us->us.all gf=true->xs.all o7=true
 |xs,[],h,_=>by rw[h.of_nil];rfl
 |xs,u::us,h,k=>by
  obtain⟨x,r,rfl,i,t⟩:=h.of_cons
  rw[List.all_cons,Bool.and_eq_true]at k ⊢
  exact⟨ur i k.1,qT t k.2⟩
theorem y8{m:List Addr}{H:Hp}{x:U}{v:V}(ix:Is K m H v x)(hx:gf x=true):∀{xs:List V} {us:List U},IsL K m H xs us->us.all gf=true->inV v xs=inU x us
 |xs,[],h,_=>by rw[h.of_nil];rfl
 |xs,u::us,h,k=>by
  obtain⟨y,r,rfl,i,t⟩:=h.of_cons
  rw[List.all_cons,Bool.and_eq_true]at k
  have ih:=y8 ix hx t k.2
  unfold inV inU at ih ⊢
  rw[List.any_cons,List.any_cons,ih,Je i ix k.1 hx]
theorem _root_.L2.DGet.kz{H:Hp}{a:Addr}{ob:Obj}{kvs:List (Key×V)}{k:Key}(e:H a=some (.frz ob (.dK kvs))):DGet H a (kV k) (qp kvs k):=.inl ⟨kvs,k,.inr ⟨ob,e⟩,rfl,rfl⟩
noncomputable def fIn(neg:Bool):U->U->Sto->Option (U×Sto):=fun x y S=>match y with
 |.tup us=>if gf x=true/\us.all gf=true then some (.bl (if neg then !inU x us else inU x us),S)else none
 |.ref l=>match S[l]? with
  |some (.lst us)=>if gf x=true/\us.all gf=true then some (.bl (if neg then !inU x us else inU x us),S)else none
  |some (.dic kus)=>(mK x).bind fun k=>some (.bl (if neg then !(aX kus k).isSome else(aX kus k).isSome),S)
  |some (.fdc ep kus)=>(mK x).bind fun k=>some (.bl (if neg then !(aX kus k).isSome else(aX kus k).isSome),S)
  |_=>none
 |_=>none
theorem Rf.isSome{m:List Addr}{H:Hp}{v:Option V}{u:Option U}(h:Rf K m H v u):v.isSome=u.isSome:=by
 cases v<;>cases u<;>first|rfl|exact h.elim
theorem vK{ca cb:CE}{neg:Bool}(t2:TE->TE->TE)(h2:∀ta tb σ H Q,(ta σ H fun y H1=>tb σ H1 fun x H2=>∃a o,x=.ref a/\DGet H2 a y o/\Q (.bl (if neg then !o.isSome else o.isSome)) H2)->t2 ta tb σ H Q):∀σ H Q,tE K (cOp (fIn neg) ca cb) σ H Q->tOp (rIn K neg) (tE K ca) (tE K cb) σ H Q\/t2 (tE K ca) (tE K cb) σ H Q:=by
 rintro σ H Q ⟨m,ρ,S,u,S',sr,lr,hc,post⟩
 obtain⟨⟨x,S1⟩,h1,h⟩:=Option.bind_eq_some_iff.mp hc
 obtain⟨⟨y,S2⟩,h3,h4⟩:=Option.bind_eq_some_iff.mp h
 cases y with
 |tup us=>
  simp only[fIn]at h4
  split at h4<;>try cases h4
  rename_i hf
  refine .inl ⟨m,ρ,S,x,S1,sr,lr,h1,fun m1 v1 H1 e1 sr1 i1=>⟨m1,ρ,S1,.tup us,S',sr1,lr.mono e1,h3,fun m2 v2 H2 e2 sr2 i2=>?_⟩⟩
  obtain⟨a,xs,rfl,sa,la⟩:=i2.of_tup
  refine⟨a,xs,rfl,.inr sa,ur (i1.mono e2) hf.1,qT la hf.2,?_⟩
  rw[y8 (i1.mono e2) hf.1 la hf.2]
  exact post m2 _ H2 (e1.trans e2) sr2 .bl_
 |ref l=>
  simp only[fIn]at h4
  split at h4<;>try cases h4
  ·rename_i us hS
   split at h4<;>try cases h4
   rename_i hf
   refine .inl ⟨m,ρ,S,x,S1,sr,lr,h1,fun m1 v1 H1 e1 sr1 i1=>⟨m1,ρ,S1,.ref l,S',sr1,lr.mono e1,h3,fun m2 v2 H2 e2 sr2 i2=>?_⟩⟩
   obtain⟨a,ha,rfl⟩:=i2.of_ref
   obtain⟨a',ha',xs,hx,la⟩:=sr2.get hS
   rw[ha]at ha';cases ha'
   refine⟨a,xs,rfl,.inl (SqL.of hx),ur (i1.mono e2) hf.1,qT la hf.2,?_⟩
   rw[y8 (i1.mono e2) hf.1 la hf.2]
   exact post m2 _ H2 (e1.trans e2) sr2 .bl_
  ·rename_i kus hS
   obtain⟨k,hk,h5⟩:=Option.bind_eq_some_iff.mp h4
   cases h5
   refine .inr (h2 _ _ _ _ _ ⟨m,ρ,S,x,S1,sr,lr,h1,fun m1 v1 H1 e1 sr1 i1=>⟨m1,ρ,S1,.ref l,S',sr1,lr.mono e1,h3,fun m2 v2 H2 e2 sr2 i2=>?_⟩⟩)
   obtain⟨a,ha,rfl⟩:=i2.of_ref
   obtain⟨a',ha',kvs,hx,ip⟩:=sr2.get hS
   rw[ha]at ha';cases ha'
   have ek:=kq (i1.mono e2) hk
   subst ek
   refine⟨a,_,rfl,DGet.k hx,?_⟩
   rw[(IsP.val ip).isSome]
   exact post m2 _ H2 (e1.trans e2) sr2 .bl_
  ·rename_i ep kus hS
   obtain⟨k,hk,h5⟩:=Option.bind_eq_some_iff.mp h4
   cases h5
   refine .inr (h2 _ _ _ _ _ ⟨m,ρ,S,x,S1,sr,lr,h1,fun m1 v1 H1 e1 sr1 i1=>⟨m1,ρ,S1,.ref l,S',sr1,lr.mono e1,h3,fun m2 v2 H2 e2 sr2 i2=>?_⟩⟩)
   obtain⟨a,ha,rfl⟩:=i2.of_ref
   obtain⟨a',ha',ob,es,kvs,hx,hd,ip⟩:=sr2.get hS
   rw[ha]at ha';cases ha'
   have ek:=kq (i1.mono e2) hk
   subst ek
   refine⟨a,_,rfl,DGet.kz hx,?_⟩
   rw[(IsP.val ip).isSome]
   exact post m2 _ H2 (e1.trans e2) sr2 .bl_
 |_=>simp[fIn]at h4
variable{e a b c:Expr}{ca cb cc:CE}{pos:Pos}
theorem MI(hu:X.A.units+1<cLine)(ha:QE X a ca)(hb:QE X b cb)(hm:behindInMarks .In b=false):QE X (.Compare a [.In] [b] pos) (cOp (fIn false) ca cb):=
 ((qj su ha hb hm).or (xD (xE hu ha hb) hm)).imp (vK (neg:=false) Jw fun _ _ _ _ _ h=>h)
theorem wo(hu:X.A.units+1<cLine)(ha:QE X a ca)(hb:QE X b cb)(hm:behindInMarks .In b=false):QT X (.Compare a [.In] [b] pos) (aE (cOp (fIn false) ca cb)):=
 ((qi su ha hb hm).or (xl (xE hu ha hb) hm)).imp (mU (vK (neg:=false) Jw fun _ _ _ _ _ h=>h))
theorem yh(hu:X.A.units+1<cLine)(ha:QE X a ca)(hb:QE X b cb)(hm:behindInMarks .NotIn b=false):QE X (.Compare a [.NotIn] [b] pos) (cOp (fIn true) ca cb):=
 ((qj mF ha hb hm).or (xD (pC hu ha hb) hm)).imp (vK (neg:=true) qr fun _ _ _ _ _ h=>h)
theorem qz(hu:X.A.units+1<cLine)(ha:QE X a ca)(hb:QE X b cb)(hm:behindInMarks .NotIn b=false):QT X (.Compare a [.NotIn] [b] pos) (aE (cOp (fIn true) ca cb)):=
 ((qi mF ha hb hm).or (xl (pC hu ha hb) hm)).imp (mU (vK (neg:=true) qr fun _ _ _ _ _ h=>h))
noncomputable def fIx:U->U->Sto->Option (U×Sto):=fun x y S=>match x with
 |.tup us=>match y with
  |.int i=>(atI us i).bind fun u=>some (u,S)
  |_=>none
 |.ref l=>match S[l]? with
  |some (.lst us)=>(match y with
   |.int i=>(atI us i).bind fun u=>some (u,S)
   |_=>none)
  |some (.dic kus)=>(mK y).bind fun k=>(aX kus k).bind fun u=>some (u,S)
  |some (.fdc ep kus)=>(mK y).bind fun k=>(aX kus k).bind fun u=>some (u,S)
  |_=>none
 |.kl ns=>match y with
  |.int i=>(atI (ns.map U.int) i).bind fun u=>some (u,S)
  |_=>none
 |_=>none
theorem vI{K:PySem.W.Frag}{m:List Addr}{H:Hp}:∀ns:List Int,IsL K m H (ns.map V.int) (ns.map U.int)
 |[]=>.nil_
 |n::ns=>.cons_ .int_ (vI ns)
theorem zY{m:List Addr}{H:Hp}{xs:List V}{us:List U}{i:Int}{u:U}(l:IsL K m H xs us)(h:atI us i=some u):∃v,atI xs i=some v/\Is K m H v u:=by
 unfold atI at h ⊢
 rw[l.length]
 obtain⟨j,e1,e2⟩:=Option.bind_eq_some_iff.mp h
 rw[e1]
 obtain⟨v,e3,e4⟩:=l.getD e2
 exact⟨v,e3,e4⟩
theorem cE(hu:X.A.units+1<cLine)(ha:QE X a ca)(hb:QE X b cb)(hs:uJ b)(hs2:JJ b):QE X (.Subscript a b pos) (cOp fIx ca cb):=
 ((Hc (Fe.or IQ) ha hb hs).or (AO hu ha hb hs2)).imp fun σ H Q hz=>m6 hz fun m ρ S u S' sr lr hc post=>by
 obtain⟨⟨x,S1⟩,h1,h⟩:=Option.bind_eq_some_iff.mp hc
 obtain⟨⟨y,S2⟩,h3,h4⟩:=Option.bind_eq_some_iff.mp h
 cases x with
 |tup us=>
  simp only[fIx]at h4
  split at h4<;>try cases h4
  rename_i i
  obtain⟨w,hw,h5⟩:=Option.bind_eq_some_iff.mp h4
  cases h5
  refine .inl ⟨m,ρ,S,_,S1,sr,lr,h1,fun m1 v1 H1 e1 sr1 i1=>⟨m1,ρ,S1,_,S',sr1,lr.mono e1,h3,fun m2 v2 H2 e2 sr2 i2=>.inr ?_⟩⟩
  obtain⟨a,xs,rfl,sa,la⟩:=(i1.mono e2).of_tup
  obtain⟨z,ez,iz⟩:=zY la hw
  exact⟨a,xs,i,z,rfl,i2.of_int,sa,ez,post m2 _ H2 (e1.trans e2) sr2 iz⟩
 |ref l=>
  simp only[fIx]at h4
  split at h4<;>try cases h4
  ·rename_i us hS
   split at h4<;>try cases h4
   rename_i i
   obtain⟨w,hw,h5⟩:=Option.bind_eq_some_iff.mp h4
   cases h5
   refine .inl ⟨m,ρ,S,_,S1,sr,lr,h1,fun m1 v1 H1 e1 sr1 i1=>⟨m1,ρ,S1,_,S',sr1,lr.mono e1,h3,fun m2 v2 H2 e2 sr2 i2=>.inl ?_⟩⟩
   obtain⟨a,ha,rfl⟩:=(i1.mono e2).of_ref
   obtain⟨a',ha',xs,hx,la⟩:=sr2.get hS
   rw[ha]at ha';cases ha'
   obtain⟨z,ez,iz⟩:=zY la hw
   exact⟨a,xs,i,z,rfl,i2.of_int,SqL.of hx,ez,post m2 _ H2 (e1.trans e2) sr2 iz⟩
  ·rename_i kus hS
   obtain⟨k,hk,h5⟩:=Option.bind_eq_some_iff.mp h4
   obtain⟨w,hw,h6⟩:=Option.bind_eq_some_iff.mp h5
   cases h6
   refine .inr ⟨m,ρ,S,_,S1,sr,lr,h1,fun m1 v1 H1 e1 sr1 i1=>⟨m1,ρ,S1,_,S',sr1,lr.mono e1,h3,fun m2 v2 H2 e2 sr2 i2=>?_⟩⟩
   obtain⟨a,ha,rfl⟩:=(i1.mono e2).of_ref
   obtain⟨a',ha',kvs,hx,ip⟩:=sr2.get hS
   rw[ha]at ha';cases ha'
   have ek:=kq i2 hk
   subst ek
   have rf:=IsP.val (k:=k) ip
   rw[hw]at rf
   cases hv:qp kvs k with
   |none=>rw[hv]at rf;exact rf.elim
   |some z=>
    rw[hv]at rf
    exact⟨a,z,rfl,by have:=DGet.k (k:=k) hx;rw[hv]at this;exact this,post m2 _ H2 (e1.trans e2) sr2 rf⟩
  ·rename_i ep kus hS
   obtain⟨k,hk,h5⟩:=Option.bind_eq_some_iff.mp h4
   obtain⟨w,hw,h6⟩:=Option.bind_eq_some_iff.mp h5
   cases h6
   refine .inr ⟨m,ρ,S,_,S1,sr,lr,h1,fun m1 v1 H1 e1 sr1 i1=>⟨m1,ρ,S1,_,S',sr1,lr.mono e1,h3,fun m2 v2 H2 e2 sr2 i2=>?_⟩⟩
   obtain⟨a,ha,rfl⟩:=(i1.mono e2).of_ref
   obtain⟨a',ha',ob,es,kvs,hx,hd,ip⟩:=sr2.get hS
   rw[ha]at ha';cases ha'
   have ek:=kq i2 hk
   subst ek
   have rf:=IsP.val (k:=k) ip
   rw[hw]at rf
   cases hv:qp kvs k with
   |none=>rw[hv]at rf;exact rf.elim
   |some z=>
    rw[hv]at rf
    exact⟨a,z,rfl,by have:=DGet.kz (k:=k) hx;rw[hv]at this;exact this,post m2 _ H2 (e1.trans e2) sr2 rf⟩
 |kl ns=>
  simp only[fIx]at h4
  split at h4<;>try cases h4
  rename_i i
  obtain⟨w,hw,h5⟩:=Option.bind_eq_some_iff.mp h4
  cases h5
  refine .inl ⟨m,ρ,S,_,S1,sr,lr,h1,fun m1 v1 H1 e1 sr1 i1=>⟨m1,ρ,S1,_,S',sr1,lr.mono e1,h3,fun m2 v2 H2 e2 sr2 i2=>.inl ?_⟩⟩
  obtain⟨a,rfl,ka⟩:=(i1.mono e2).of_kl
  obtain⟨z,ez,iz⟩:=zY (vI (K:=X.K) (m:=m2) (H:=H2) ns) hw
  exact⟨a,_,i,z,rfl,i2.of_int,ka.sq,ez,post m2 _ H2 (e1.trans e2) sr2 iz⟩
 |_=>simp[fIx]at h4
noncomputable def n6:U->U->U->Sto->Option Sto:=fun o i v S=>match o with
 |.ref l=>match S[l]? with
  |some (.lst us)=>(match i with
   |.int k=>(ixN us.length k).bind fun j=>some (S.set l (.lst (us.set j v)))
   |_=>none)
  |some (.dic kus)=>(mK i).bind fun k=>if kus.length<LIM then some (S.set l (.dic (iW kus k v)))else none
  |_=>none
 |_=>none
noncomputable def ff(co ci cv:CE):CS:=fun ρ S=>(cv ρ S).bind fun p=>(co ρ p.2).bind fun q=>(ci ρ q.2).bind fun r=>(n6 q.1 r.1 p.1 r.2).bind fun S'=>some (.nx,ρ,S')
theorem cT{o i:Expr}{co ci cv:CE}{pos':Pos}(hu:X.A.units+1<cLine)(ho:QE X o co)(hi:QE X i ci)(hv:QE X e cv)
  (hs0:swapsWithSole [.Subscript o i pos'] e pos.line X.env=pure false:=by rfl) (hw:swappedStores [.Subscript o i pos'] e X.env=pure none:=by rfl)
  (h1:(assignEach [.Subscript o i pos'] X.env).map (·.2)=[assign (.Subscript o i pos') X.env]:=by rfl)
  (hs:swapsWith e (some (.Subscript o i pos')) pos.line X.env=pure false:=by rfl)
  (ha:∀v,assign (.Subscript o i pos') X.env v=(do
   let ov <-holding [v] (eval o X.env)
   let iv <-holding [v,ov] (eval i X.env)
   standAt pos'
   holding [v,ov,iv] (setItem ov iv v)
   release [v,ov,iv] []):=by intro _;rfl):QS X (.Assign [.Subscript o i pos'] e pos) (ff co ci cv):=
 ((xq hv (D7 ho hi A4 ha) hs0 hw h1).or (uR hu ho hi hv hs)).imp fun D σ H hz=>vN hz fun m ρ S o ρ' S' sr lr hc post=>by
 obtain⟨⟨v,S1⟩,h1,h⟩:=Option.bind_eq_some_iff.mp hc
 obtain⟨⟨ou,S2⟩,h2,h⟩:=Option.bind_eq_some_iff.mp h
 obtain⟨⟨iu,S3⟩,h3,h⟩:=Option.bind_eq_some_iff.mp h
 obtain⟨S4,h4,h⟩:=Option.bind_eq_some_iff.mp h
 cases h
 cases ou with
 |ref l=>
  simp only[n6]at h4
  split at h4<;>try cases h4
  ·rename_i us hS
   split at h4<;>try cases h4
   rename_i k
   obtain⟨j,hj,h5⟩:=Option.bind_eq_some_iff.mp h4
   cases h5
   refine .inl ⟨m,ρ,S,v,S1,sr,lr,h1,fun m1 v1 H1 e1 sr1 i1=>⟨m1,ρ,S1,_,S2,sr1,lr.mono e1,h2,fun m2 v2 H2 e2 sr2 i2=>⟨m2,ρ,S2,_,S3,sr2,lr.mono (e1.trans e2),h3,fun m3 v3 H3 e3 sr3 i3=>?_⟩⟩⟩
   obtain⟨a,ha,rfl⟩:=(i2.mono e3).of_ref
   obtain⟨a',ha',xs,hx,la⟩:=sr3.get hS
   rw[ha]at ha';cases ha'
   have e13:=(e1.trans e2).trans e3
   have ek:Ext X.K m3 H3 m3 (upd H3 a (.lst (xs.set j v1))):=.of (sr3.keep ha _)
   refine⟨a,xs,k,j,rfl,i3.of_int,hx,by rw[la.length];exact hj,post m3 σ _ (e13.trans ek) (sr3.put ha ⟨_,aK,((la.set (i1.mono (e2.trans e3)))).mono ek⟩) (lr.mono (e13.trans ek))⟩
  ·rename_i kus hS
   obtain⟨k,hk,h5⟩:=Option.bind_eq_some_iff.mp h4
   split at h5<;>try cases h5
   have fT:kus.length<LIM:=by assumption
   refine .inr ⟨m,ρ,S,v,S1,sr,lr,h1,fun m1 v1 H1 e1 sr1 i1=>⟨m1,ρ,S1,_,S2,sr1,lr.mono e1,h2,fun m2 v2 H2 e2 sr2 i2=>⟨m2,ρ,S2,_,S3,sr2,lr.mono (e1.trans e2),h3,fun m3 v3 H3 e3 sr3 i3=>?_⟩⟩⟩
   obtain⟨a,ha,rfl⟩:=(i2.mono e3).of_ref
   obtain⟨a',ha',kvs,hx,ip⟩:=sr3.get hS
   rw[ha]at ha';cases ha'
   have ek:=kq i3 hk
   subst ek
   have e13:=(e1.trans e2).trans e3
   have ee:Ext X.K m3 H3 m3 (upd H3 a (.dK (tY kvs k v1))):=.of (sr3.keep ha _)
   exact⟨a,_,rfl,Dz.k hx (IA (by rw[IsP.length ip];exact fT)),post m3 σ _ (e13.trans ee) (sr3.put ha ⟨_,aK,(IsP.put ip (i1.mono (e2.trans e3))).mono ee⟩) (lr.mono (e13.trans ee))⟩
 |_=>simp[n6]at h4
end
theorem kY{α:Type}[DecidableEq α]:∀{l l':List α},l.Nodup->(∀x∈l,x∈l')->l.length<=l'.length
 |[],_,_,_=>Nat.zero_le _
 |x::r,l',nd,s=>by
  obtain⟨h1,h2⟩:=List.nodup_cons.mp nd
  have hx:=s x List.mem_cons_self
  have:=kY (l:=r) (l':=l'.erase x) h2 fun y hy=>(List.mem_erase_of_ne (fun z=>h1 (by rw[<-z];exact hy))).mpr (s y (List.mem_cons_of_mem _ hy))
  rw[List.length_erase_of_mem hx]at this
  have hp:=List.length_pos_of_mem hx
  rw[List.length_cons]
  omega
theorem gD(f:Str)(v:V):∀fs:List (Str×V),(oY f v fs).map (·.1)=if f∈fs.map (·.1)then fs.map (·.1)else fs.map (·.1)++[f]
 |[]=>by simp[oY]
 |(g,x)::r=>by
  unfold oY
  by_cases e:g=f
  ·simp[e]
  ·have ih:=gD f v r
   rw[if_neg e,List.map_cons,List.map_cons,ih]
   by_cases c:f∈r.map (·.1)
   ·rw[if_pos c,if_pos (List.mem_cons_of_mem _ c)]
   ·rw[if_neg c,if_neg (fun z=>by rcases List.mem_cons.mp z with z|z;exact e z.symm;exact c z)]
    rfl
section
variable{X:Cx}{K:PySem.W.Frag}{m:List Addr}{H:Hp}{c:Cl}{fs:List (Str×V)}{fus:List (Option U)}
theorem InF.room(h:InF K m H c fs fus):fs.length<1000:=by
 have:=kY h.knd h.sub
 rw[List.length_map]at this
 have:=h.few
 omega
theorem nO{f:Str}:∀{fs:List (Str×V)},f∉fs.map (·.1)->fs.lookup f=none
 |[],_=>rfl
 |(g,x)::r,h=>by
  rw[List.lookup_cons]
  have h1:(f == g)=false:=by
   apply beq_eq_false_iff_ne.mpr
   intro z;exact h (by rw[z];exact List.mem_cons_self)
  rw[h1]
  exact nO fun z=>h (List.mem_cons_of_mem _ z)
theorem InF.none_{f:Str}(h:InF K m H c fs fus)(hf:f∉c.ns):fs.lookup f=none:=nO fun z=>hf (h.sub f z)
theorem InF.put{f:Str}{i:Nat}{v:V}{u:U}(h:InF K m H c fs fus)(hi:c.ns[i]?=some f)(hv:Is K m H v u):InF K m H c (oY f v fs) (fus.set i (some u)):=by
 have hfm:f∈c.ns:=List.mem_of_getElem? hi
 refine⟨h.nd,h.few,?_,fun x hx=>?_,by simp[h.len],fun j x hj=>?_⟩
 ·rw[gD]
  split
  ·exact h.knd
  ·rename_i hn
   rw[List.nodup_append]
   exact⟨h.knd,by simp,fun a ha b hb z=>by simp at hb;subst hb;subst z;exact hn ha⟩
 ·rw[gD]at hx
  split at hx
  ·exact h.sub x hx
  ·rcases List.mem_append.mp hx with z|z
   ·exact h.sub x z
   ·simp at z;subst z;exact hfm
 ·rw[ko]
  by_cases e:i=j
  ·subst e
   rw[hi]at hj;cases hj
   rw[if_pos rfl]
   have:i<fus.length:=by rw[h.len];exact(List.getElem?_eq_some_iff.mp hi).1
   rw[List.getElem?_set_self this]
   exact hv
  ·have ne:x≠f:=fun z=>by
    subst z
    obtain⟨p1,e1⟩:=List.getElem?_eq_some_iff.mp hi
    obtain⟨p2,e2⟩:=List.getElem?_eq_some_iff.mp hj
    exact e ((List.getElem_inj h.nd).mp (e1.trans e2.symm))
   rw[if_neg ne,List.getElem?_set_ne e]
   exact h.at_ j x hj
theorem InF.new(nd:c.ns.Nodup)(few:c.ns.length<1000):InF K m H c [] (List.replicate c.ns.length none):=by
 refine⟨nd,few,by simp,fun x hx=>by simp at hx,by simp,fun i x hi=>?_⟩
 rw[List.getElem?_replicate]
 split<;>exact trivial
open Classical in
noncomputable def Jc(c:Cl)(i:Nat)(x:U)(S:Sto):Option (U×Sto):=match x with
 |.ref l=>match S[l]? with
  |some (.ins c' fus)=>if c'=c then(fus[i]?).join.bind fun u=>some (u,S)else none
  |_=>none
 |_=>none
noncomputable def iE(c:Cl)(i:Nat)(ca:CE):CE:=fun ρ S=>(ca ρ S).bind fun p=>Jc c i p.1 p.2
open Classical in
noncomputable def zr(c:Cl)(i:Nat)(x v:U)(S:Sto):Option Sto:=match x with
 |.ref l=>match S[l]? with
  |some (.ins c' fus)=>if c'=c then some (S.set l (.ins c (fus.set i (some v))))else none
  |_=>none
 |_=>none
noncomputable def ph(c:Cl)(i:Nat)(ca cv:CE):CS:=fun ρ S=>(cv ρ S).bind fun p=>(ca ρ p.2).bind fun q=>(zr c i q.1 p.1 q.2).bind fun S'=>some (.nx,ρ,S')
variable{e:Expr}{ca cv:CE}{pos:Pos}{f:Str}{i:Nat}
theorem fW(hcl:Cls X.K c.C)(hna:ki X.K c.C f)(hi:c.ns[i]?=some f)(h:QE X e ca)(hb:attributeBase e f X.env (eval e X.env)=eval e X.env:=by rfl):QE X (.Attribute e f pos) (iE c i ca):=(Ea h hb).imp fun σ H Q hz=>m6 hz fun m ρ S u S' sr lr hc post=>by
 obtain⟨⟨x,S1⟩,h1,h2⟩:=Option.bind_eq_some_iff.mp hc
 refine⟨m,ρ,S,x,S1,sr,lr,h1,fun m1 v1 H1 e1 sr1 i1=>?_⟩
 cases x with
 |ref l=>
  simp only[Jc]at h2
  split at h2<;>try cases h2
  rename_i c' fus hS
  split at h2<;>try cases h2
  rename_i hc'
  subst hc'
  obtain⟨w,hw,h3⟩:=Option.bind_eq_some_iff.mp h2
  cases h3
  obtain⟨a,ha,rfl⟩:=i1.of_ref
  obtain⟨a',ha',dx,fs,hx,inf⟩:=sr1.get hS
  rw[ha]at ha';cases ha'
  have rf:=inf.at_ i f hi
  rw[hw]at rf
  cases hv:fs.lookup f with
  |none=>rw[hv]at rf;exact rf.elim
  |some z=>
   rw[hv]at rf
   exact⟨a,_,dx,fs,z,rfl,hx,hcl,hna,hv,post m1 _ H1 e1 sr1 rf⟩
 |_=>simp[Jc]at h2
theorem ju{o:Expr}{co:CE}{pos':Pos}(hcl:Cls X.K c.C)(hna:ki X.K c.C f)(hi:c.ns[i]?=some f)(ho:QE X o co)(hv:QE X e cv)(hs:swapsWith e (some (.Attribute o f pos')) pos.line X.env=pure false:=by rfl):QS X (.Assign [.Attribute o f pos'] e pos) (ph c i co cv):=(D4 ho hv hs).imp fun D σ H hz=>vN hz fun m ρ S o ρ' S' sr lr hc post=>by
 obtain⟨⟨v,S1⟩,h1,h⟩:=Option.bind_eq_some_iff.mp hc
 obtain⟨⟨x,S2⟩,h2,h⟩:=Option.bind_eq_some_iff.mp h
 obtain⟨S3,h3,h⟩:=Option.bind_eq_some_iff.mp h
 cases h
 refine⟨m,ρ,S,v,S1,sr,lr,h1,fun m1 v1 H1 e1 sr1 i1=>⟨m1,ρ,S1,x,S2,sr1,lr.mono e1,h2,fun m2 v2 H2 e2 sr2 i2=>?_⟩⟩
 cases x with
 |ref l=>
  simp only[zr]at h3
  split at h3<;>try cases h3
  rename_i c' fus hS
  split at h3<;>try cases h3
  have hc':c'=c:=by assumption
  subst hc'
  obtain⟨a,ha,rfl⟩:=i2.of_ref
  obtain⟨a',ha',dx,fs,hx,inf⟩:=sr2.get hS
  rw[ha]at ha';cases ha'
  have ee:Ext X.K m2 H2 m2 (upd H2 a (.ins c'.C dx (oY f v1 fs))):=.of (sr2.keep ha _)
  have e12:=e1.trans e2
  exact⟨a,_,dx,fs,rfl,hx,hcl,hna,inf.room,post m2 σ _ (e12.trans ee) (sr2.put ha ⟨dx,_,aK,(inf.put hi (i1.mono e2)).mono ee⟩) (lr.mono (e12.trans ee))⟩
 |_=>simp[zr]at h3
structure v7(P:Program)(w:World)(K:PySem.W.Frag)(mg:Str->Option Value)(base:Heap)(c:Cl)(mn:Str)(k:Nat)(ps:List Str)(f:Fn):Prop where
 ex:∃fa fd,vZ K c.C mn fa/\nh P w K mg base CX0 k fa fd ps (A2 K f)/\gM K fd ps []
theorem v7.mono{P:Program}{w:World}{mg:Str->Option Value}{base:Heap}{mn:Str}{j k:Nat}{ps:List Str}{f:Fn}(h:v7 P w K mg base c mn j ps f)(l:j<=k):v7 P w K mg base c mn k ps f:=by
 obtain⟨fa,fd,a,b,d⟩:=h.ex
 exact⟨fa,fd,a,b.mono l,d⟩
open Classical in
noncomputable def zt(c:Cl)(f:Fn)(x:U)(S:Sto)(args:Sto->Option (List U×Sto)):Option (U×Sto):=match x with
 |.ref l=>match S[l]? with
  |some (.ins c' _)=>if c'=c then(args S).bind fun q=>f (.ref l::q.1) q.2 else none
  |_=>none
 |_=>none
noncomputable def tK(c:Cl)(f:Fn)(ca:CE)(cr:CA):CE:=fun ρ S=>(ca ρ S).bind fun p=>zt c f p.1 p.2 (cr ρ)
theorem BI{mn:Str}{g:Fn}{co:CE}{cr:CA}(hmn:mn∉c.ns):∀σ H Q,tE K (tK c g co cr) σ H Q->Ej c.C mn (A2 K g) [] E0 (tE K co) (tA K cr) σ H Q:=by
 rintro σ H Q ⟨m,ρ,S,u,S',sr,lr,hc,post⟩
 obtain⟨⟨x,S1⟩,h1,h2⟩:=Option.bind_eq_some_iff.mp hc
 refine⟨m,ρ,S,x,S1,sr,lr,h1,fun m1 v1 H1 e1 sr1 i1=>?_⟩
 cases x with
 |ref l=>
  simp only[zt]at h2
  split at h2<;>try cases h2
  rename_i c' fus hS
  split at h2<;>try cases h2
  rename_i hc'
  subst hc'
  obtain⟨⟨us,S2⟩,h3,h4⟩:=Option.bind_eq_some_iff.mp h2
  obtain⟨a,ha,rfl⟩:=i1.of_ref
  obtain⟨a',ha',dx,fs,hx,inf⟩:=sr1.get hS
  rw[ha]at ha';cases ha'
  refine⟨a,dx,fs,rfl,hx,inf.none_ hmn,m1,ρ,S1,us,S2,sr1,lr.mono e1,h3,fun m2 vs H2 e2 sr2 i2=>?_⟩
  exact⟨m2,_,S2,u,S',.cons_ (i1.mono e2) (by simpa using i2),sr2,h4,post.mono (e1.trans e2)⟩
 |_=>simp[zt]at h2
theorem sg{mn:Str}{g:Fn}{k:Nat}{ps:List Str}{o:Expr}{es:List Expr}{co:CE}{cr:CA}{apos:Pos}{pl:Sem Bool}(hcl:Cls X.K c.C)(F:v7 X.prog X.w X.K X.mg X.base c mn k ps g)(hr:jl k X.A)(hmn:mn∉c.ns)(ho:QE X o co)(ha:QA X (e::es) cr)
  (hst:starEach (e::es) X.env=(false,eval e X.env)::starEach es X.env:=by rfl) (hpl:(backTo pos (starEach es X.env)).any (·.1)=false:=by rfl) (ht:eval (.Call (.Attribute o mn apos) (e::es) [] pos) X.env=(do
   let ov <-eval o X.env
   standAt apos.atName
   let (f,first) <-holding [ov] (getMethod ov mn pl)
   callWith pos f first (backTo pos (starEach (e::es) X.env)) (backToKw pos (keywordEach [] X.env))):=by rfl):QE X (.Call (.Attribute o mn apos) (e::es) [] pos) (tK c g co cr):=by
 obtain⟨fa,fd,hm,F,hb⟩:=F.ex
 exact(AM ho hcl hm F hr hb .nil Bt ha.h hst hpl ht).imp (BI hmn)
structure CMk(P:Program)(w:World)(K:PySem.W.Frag)(mg:Str->Option Value)(base:Heap)(c:Cl)(x:Str)(k:Nat)(ps:List Str)(f:Fn):Prop where
 ex:∃fa fd,Mk K c.C fa/\nh P w K mg base CX0 k fa fd ps (A2 K f)/\gM K fd ps []/\mg x=some (.ref c.C)
 nd:c.ns.Nodup
 few:c.ns.length<1000
noncomputable def qV(c:Cl)(f:Fn):Fn:=fun us S=>(f (.ref S.length::us) (S++[.ins c (List.replicate c.ns.length none)])).bind fun p=>match p.1 with
 |.non=>some (.ref S.length,p.2)
 |_=>none
theorem vv{g:Fn}{cr:CA}(nd:c.ns.Nodup)(few:c.ns.length<1000):∀σ H Q,tE K (cCB (qV c g) cr) σ H Q->xR c.C (A2 K g) [] E0 (tA K cr) σ H Q:=by
 rintro σ H Q ⟨m,ρ,S,u,S',sr,lr,hc,post⟩
 obtain⟨⟨us,S1⟩,h1,h2⟩:=Option.bind_eq_some_iff.mp hc
 obtain⟨⟨w,S2⟩,h3,h4⟩:=Option.bind_eq_some_iff.mp h2
 refine⟨m,ρ,S,us,S1,sr,lr,h1,fun m1 vs H1 e1 sr1 i1 x dx hx hdx ne=>?_⟩
 cases w with
 |non=>
  cases h4
  have s1:uI H1 (upd H1 dx (.own x)):=d9 hdx _
  have hx2:(upd H1 dx (.own x)) x=none:=by rw[bB (Ne.symm ne)];exact hx
  have ee:Ext K m1 H1 (m1++[x]) (upd (upd H1 dx (.own x)) x (.ins c.C dx [])):=.new ⟨fun b xs q=>(cq hx2 _).t b xs ((iM s1).t b xs q),fun b xs q=>(cq hx2 _).l b xs ((iM s1).l b xs q)⟩
  refine⟨m1++[x],.ref S1.length::us,S1++[.ins c (List.replicate c.ns.length none)],.non,S2,.cons_ (.ref_ (fG sr1.len)) (by simpa using i1.mono ee),(sr1.same s1).new (o:=.ins c (List.replicate c.ns.length none)) hx2 ⟨dx,[],aK,InF.new nd few⟩,h3,fun m2 v2 H2 e2 sr2 i2=>⟨i2.of_non,?_⟩⟩
  exact post m2 _ H2 ((e1.trans ee).trans e2) sr2 (.ref_ (e2.get (fG sr1.len)))
 |_=>simp at h4
theorem Hy{x:Str}{g:Fn}{k:Nat}{ps:List Str}{es:List Expr}{cr:CA}{p:Pos}(M:CMk X.prog X.w X.K X.mg X.base c x k ps g)(hr:jl (k+1) X.A)(hg:Gl X x)(ha:QA X (e::es) cr)
  (hdb:(x == ("__debug__":Str))=false:=by decide) (he:starEach (e::es) X.env=(false,eval e X.env)::starEach es X.env:=by rfl) (hpl:(backTo pos (starEach es X.env)).any (·.1)=false:=by rfl):QE X (.Call (.Name x p) (e::es) [] pos) (cCB (qV c g) cr):=by
 obtain⟨fa,fd,hm,F,hb,hx⟩:=M.ex
 exact(AN hm F hr hg hx hb .nil Bt ha.h hdb he hpl).imp (vv M.nd M.few)
theorem Eu{x:Str}{g:Fn}{k:Nat}{ps:List Str}{p:Pos}(M:CMk X.prog X.w X.K X.mg X.base c x k ps g)(hr:jl (k+1) X.A)(hg:Gl X x)
  (hdb:(x == ("__debug__":Str))=false:=by decide):QE X (.Call (.Name x p) [] [] pos) (cCB (qV c g) aD):=by
 obtain⟨fa,fd,hm,F,hb,hx⟩:=M.ex
 refine(xx hm F hr hg hx hb .nil Bt hdb).imp fun σ H Q h=>?_
 obtain⟨m,ρ,S,us,S',sr,lr,hc,k⟩:=vv M.nd M.few σ H Q h
 cases hc
 exact k m [] H .refl sr .nil_
noncomputable def lN:CE:=fun _ S=>some (.ref S.length,S++[.dic []])
theorem jB:QE X (.Dict [] [] pos) lN:=xB.imp fun σ H Q hz=>m6 hz fun m ρ S u S' sr lr hc post=>by
 cases hc
 exact fun p hp=>post (m++[p]) _ _ (.new (cq hp _)) (sr.new hp ⟨[],aK,.nil_⟩) (.ref_ (fG sr.len))
noncomputable def pj(cd ck cx:CE):CE:=fun ρ S=>(cd ρ S).bind fun p=>match p.1 with
 |.ref l=>match p.2[l]? with
  |some (.dic _)=>(ck ρ p.2).bind fun q=>(cx ρ q.2).bind fun r=>match r.2[l]? with
   |some (.dic kus)=>(mK q.1).bind fun k=>some ((aX kus k).getD r.1,r.2)
   |_=>none
  |_=>none
 |_=>none
theorem vd{o e f:Expr}{cd ck cx:CE}{apos:Pos}(hu:X.A.units+1<cLine)(ho:QE X o cd)(he:QE X e ck)(hf:QE X f cx)(hm:M2 X o "get" apos e f pos):QE X (.Call (.Attribute o "get" apos) [e,f] [] pos) (pj cd ck cx):=(xC hu ho he hf hm).imp fun σ H Q hz=>m6 hz fun m ρ S u S' sr lr hc post=>by
 obtain⟨⟨x,S1⟩,h1,h⟩:=Option.bind_eq_some_iff.mp hc
 refine⟨m,ρ,S,x,S1,sr,lr,h1,fun m1 v1 H1 e1 sr1 i1=>?_⟩
 cases x with
 |ref l=>
  simp only at h
  split at h<;>try cases h
  rename_i kus0 hS
  obtain⟨⟨ku,S2⟩,h2,h⟩:=Option.bind_eq_some_iff.mp h
  obtain⟨⟨xu,S3⟩,h3,h⟩:=Option.bind_eq_some_iff.mp h
  simp only at h
  split at h<;>try cases h
  rename_i kus hS3
  obtain⟨k,hk,h⟩:=Option.bind_eq_some_iff.mp h
  cases h
  obtain⟨a,ha,rfl⟩:=i1.of_ref
  obtain⟨a',ha',kvs0,hx0,_⟩:=sr1.get hS
  rw[ha]at ha';cases ha'
  refine⟨a,rfl,.inl ⟨kvs0,.inl hx0⟩,m1,ρ,S1,ku,S2,sr1,lr.mono e1,h2,fun m2 v2 H2 e2 sr2 i2=>⟨m2,ρ,S2,xu,_,sr2,lr.mono (e1.trans e2),h3,fun m3 v3 H3 e3 sr3 i3=>?_⟩⟩
  obtain⟨a',ha',kvs,hx,ip⟩:=sr3.get hS3
  rw[(e2.trans e3).get ha]at ha';cases ha'
  have ek:=kq (i2.mono e3) hk
  subst ek
  have rf:=IsP.val (k:=k) ip
  refine⟨_,DGet.k hx,post m3 _ H3 ((e1.trans e2).trans e3) sr3 ?_⟩
  cases hv:qp kvs k with
  |none=>
   cases hw:aX kus k with
   |none=>exact i3
   |some w=>rw[hv,hw]at rf;exact rf.elim
  |some v=>
   cases hw:aX kus k with
   |none=>rw[hv,hw]at rf;exact rf.elim
   |some w=>rw[hv,hw]at rf;exact rf
 |_=>simp at h
end
noncomputable def kn(n:Nat)(caps:List Nat)(ρ:Rho):Rho:=List.replicate n none++caps.map fun i=>(ρ[i]?).getD none
open Classical in
noncomputable def ig(ok:Sto->Prop)(g:CG)(ce:CE)(l:Nat):List U->Rho->Sto->Option Sto
 |[],_,S=>if ok S then some S else none
 |u::us,ρ,S=>if ok S then(g u ρ S).bind fun p=>(ce p.1 p.2).bind fun r=>match r.2[l]? with
  |some (.lst ys)=>if ys.length<LIM then ig ok g ce l us p.1 (r.2.set l (.lst (ys++[r.1])))else none
  |_=>none else none
noncomputable def fU(ci:CI)(g:CG)(ce:CE)(n:Nat)(caps:List Nat):CE:=fun ρ S=>(ci ρ S).bind fun p=>(ig p.2.1 g ce p.2.2.length p.1 (kn n caps ρ) (p.2.2++[.lst []])).bind fun S'=>some (.ref p.2.2.length,S')
section
variable{X:Cx}{K:PySem.W.Frag}
theorem yI{m:List Addr}{H:Hp}{ρ:Rho}{σ:L2.St}{n:Nat}{caps:List Nat}(lr:Lr K m H ρ σ):Lr K m H (kn n caps ρ) (OG.stC n caps σ):=by
 refine⟨by simp[kn,OG.stC],fun j u e=>?_⟩
 unfold kn at e
 unfold OG.stC
 by_cases c:j<n
 ·rw[List.getElem?_append_left (by simpa using c),List.getElem?_replicate]at e
  split at e<;>cases e
 ·rw[List.getElem?_append_right (by simp;omega),List.getElem?_map]at e ⊢
  simp only[List.length_replicate]at e ⊢
  cases q:caps[j-n]? with
  |none=>rw[q]at e;simp at e
  |some i=>
   rw[q]at e
   simp only[Option.map_some,Option.some.injEq]at e ⊢
   have e2:ρ[i]?=some (some u):=by
    cases z:ρ[i]? with
    |none=>rw[z]at e;simp at e
    |some y=>rw[z]at e;simp at e;rw[e]
   obtain⟨v,h1,h2⟩:=lr.at_ i u e2
   exact⟨v,by rw[h1];rfl,h2⟩
theorem zK{g:CG}{ce:CE}{n:Nat}{caps:List Nat}{J:It}{us:List U}{ok:Sto->Prop}{Q:VK}{m1:List Addr}{H1:Hp}{S1 S':Sto}{ρ:Rho}{σ:L2.St}{l:Addr}(sr1:Sr K m1 S1 H1)(lr:Lr K m1 H1 ρ σ)(ito:Au K J m1 H1 us ok)(hl:H1 l=none)(h2:ig ok g ce S1.length us (kn n caps ρ) (S1++[.lst []])=some S')
  (post:∀m2 H2,Ext K (m1++[l]) (upd H1 l (.lst [])) m2 H2->Sr K m2 S' H2->Q (.ref l) H2) :
  ∃W:Nat->Nat->L2.St->Hp->Prop,(∃m,W 0 m (OG.stC n caps σ) (upd H1 l (.lst [])))/\
 ∀i m σ' H2,W i m σ' H2->(J.stop i H2/\Q (.ref l) H2)\/(J.go i H2/\∃N:L2.St->Hp->Prop,(∀σ'' H',N σ'' H'->∃m',m'<m/\W (i+1) m' σ'' H')/\
  ∀x H3,J.yld i H2 x H3->tG K g x σ' H3 fun σ2 H4=>tE K ce σ2 H4 fun v H5=>∃ys,H5 l=some (.lst ys)/\ys.length<sizeLine/\N σ2 (upd H5 l (.lst (ys++[v])))):=by
 have ee:Ext K m1 H1 (m1++[l]) (upd H1 l (.lst [])):=.new (cq hl _)
 let W:Nat->Nat->L2.St->Hp->Prop:=fun i k σ2 H2=>k=us.length-i/\i<=us.length/\∃m2 ρ2 S2,Ext K (m1++[l]) (upd H1 l (.lst [])) m2 H2/\Sr K m2 S2 H2/\Lr K m2 H2 ρ2 σ2/\ig ok g ce S1.length (us.drop i) ρ2 S2=some S'
 refine⟨W,⟨us.length,by simp,Nat.zero_le _,m1++[l],kn n caps ρ,S1++[.lst []],.refl,sr1.new (o:=.lst []) hl ⟨[],aK,.nil_⟩,yI (lr.mono ee),by simpa using h2⟩,?_⟩
 rintro i k σ2 H2 ⟨rfl,hi,m2,ρ2,S2,e2,sr2,lr2,hl2⟩
 by_cases hlt:i<us.length
 ·have hu:=List.getElem?_eq_getElem hlt
  rw[ox hu]at hl2
  unfold ig at hl2
  split at hl2
  ·rename_i hok
   obtain⟨⟨ρ3,S3⟩,h3,hl2⟩:=Option.bind_eq_some_iff.mp hl2
   obtain⟨⟨u4,S4⟩,h4,hl2⟩:=Option.bind_eq_some_iff.mp hl2
   simp only at hl2
   split at hl2<;>try cases hl2
   rename_i ys hys
   split at hl2<;>try cases hl2
   rename_i fT
   obtain⟨hgo,hy⟩:=(ito m2 S2 H2 i (ee.trans e2) sr2 hok).1 _ hu
   refine .inr ⟨hgo,W (i+1) (us.length-(i+1)),fun σ' H' w'=>⟨_,by omega,w'⟩,fun x H3 y=>?_⟩
   obtain⟨e3,sr3,ix⟩:=hy x H3 y
   refine⟨m2,ρ2,S2,_,ρ3,S3,sr3,lr2.mono e3,ix,h3,fun m4 σ4 H4 e4 sr4 lr4=>⟨m4,ρ3,S3,u4,S4,sr4,lr4,h4,fun m5 v5 H5 e5 sr5 i5=>?_⟩⟩
   obtain⟨a',ha',xs,hx,il⟩:=sr5.get hys
   have ha:m5[S1.length]?=some l:=(((e2.trans e3).trans e4).trans e5).get (fG sr1.len)
   rw[ha]at ha';cases ha'
   have eu:Ext K m5 H5 m5 (upd H5 l (.lst (xs++[v5]))):=.of (sr5.keep ha _)
   refine⟨xs,hx,IA (by rw[il.length];exact fT),rfl,hlt,m5,ρ3,_,((((e2.trans e3).trans e4).trans e5).trans eu),sr5.put (o:=.lst (ys++[u4])) ha ⟨_,aK,(il.append (.cons_ i5 .nil_)).mono eu⟩,(lr4.mono (e5.trans eu)),hl2⟩
  ·cases hl2
 ·have e:i=us.length:=by omega
  subst e
  rw[List.drop_length]at hl2
  unfold ig at hl2
  split at hl2
  ·rename_i hok
   cases hl2
   exact .inl ⟨(ito m2 _ H2 _ (ee.trans e2) sr2 hok).2 (Nat.le_refl _),post m2 H2 e2 sr2⟩
  ·cases hl2
theorem Cc{ci:CI}{g:CG}{ce:CE}{n:Nat}{caps:List Nat}:∀σ H Q,tE K (fU ci g ce n caps) σ H Q->Ek (tI K ci) (tG K g) (tE K ce) n caps σ H Q:=by
 rintro σ H Q ⟨m,ρ,S,u,S',sr,lr,hc,post⟩
 obtain⟨⟨us,ok,S1⟩,h1,h2⟩:=Option.bind_eq_some_iff.mp hc
 obtain⟨S2,h2,h3⟩:=Option.bind_eq_some_iff.mp h2
 cases h3
 refine⟨m,ρ,S,us,ok,S1,sr,lr,h1,fun m1 H1 J e1 sr1 ito l hl=>?_⟩
 have ee:Ext K m1 H1 (m1++[l]) (upd H1 l (.lst [])):=.new (cq hl _)
 exact zK sr1 (lr.mono e1) ito hl h2 fun m2 H2 e2 sr2=>post m2 _ H2 ((e1.trans ee).trans e2) sr2 (.ref_ (e2.get (fG sr1.len)))
theorem kW{Nc capN tn:List Str}{scope:Scope}{cl:List (Str×Addr)}{n:Nat}{caps:List Nat}{tg iter elt:Expr}{pos:Pos}{ci:CI}{g:CG}{ce:CE}
  (hc:X.calm=true) (hi:QI X tg iter ci) (hg:∀s3 H3 fp,WG (cxC X Nc scope cl s3 H3 fp) tg (tG X.K g)) (he:∀s3 H3 fp,WE (cxC X Nc scope cl s3 H3 fp) elt (tE X.K ce))
  (hclos:closureFor scope X.env=pure cl) (hkind:scope.kind=.function) (hnl:∀x∈scope.names,x.2=.local->scope.names.lookup x.1=some .local) (hcell:∀x∈scope.names,x.2≠.cell)
  (hcl:v8 X.env cl) (hhas:((relabel scope X.env).names.all fun p=>!(p.2 == .cell||p.2 == .free)||(cl.lookup p.1).isSome)=true)
  (hcap:Paired (Cap X scope cl) caps capN) (hN:Nc=tn++capN) (hn:tn.length=n)
  (hs:∀x,foldedSetIterable iter X.env x=pure x:=by intro _;rfl) :
  QE X (.ListComp elt [⟨tg,iter,[],0⟩] scope pos) (fU ci g ce n caps):=(AQ hc hi hg he hclos hkind hnl hcell hcl hhas hcap hN hn hs).imp Cc
noncomputable def qW:Fn
 |[.tup us],S=>some (.int us.length,S)
 |[.ref l],S=>match S[l]? with
  |some (.lst us)=>some (.int us.length,S)
  |some (.dic us)=>some (.int us.length,S)
  |_=>none
 |[.kl ns],S=>some (.int ns.length,S)
 |_,_=>none
noncomputable abbrev LV(K:PySem.W.Frag):List V->Hp->VK->Prop:=fun xs H Q=>(∃p ys,xs=[.ref p]/\(SqL K H p ys\/SqT K H p ys)/\Q (.int ys.length) H)\/∃a kvs,xs=[V.ref a]/\H a=some (.dK kvs)/\Q (.int kvs.length) H
theorem qH:iV X (.builtin "len") (LV X.K):=tJ.or zO
theorem IsL.one{m:List Addr}{H:Hp}{vs:List V}{u:U}(h:IsL K m H vs [u]):∃v,vs=[v]/\Is K m H v u:=by
 obtain⟨x,r,rfl,i,t⟩:=h.of_cons
 rw[t.of_nil];exact⟨x,rfl,i⟩
theorem qF:rB K (LV K) qW:=by
 intro m S H us vs u S' Q sr i hf post
 match us,hf with
 |[.tup ws],hf=>
  cases hf
  obtain⟨v,rfl,iv⟩:=i.one
  obtain⟨a,xs,rfl,sa,la⟩:=iv.of_tup
  exact .inl ⟨a,xs,rfl,.inr sa,by rw[la.length];exact post m _ H .refl sr .int_⟩
 |[.ref l],hf=>
  obtain⟨v,rfl,iv⟩:=i.one
  obtain⟨a,ha,rfl⟩:=iv.of_ref
  simp only[qW]at hf
  split at hf<;>try cases hf
  ·rename_i ws hS
   obtain⟨a',ha',xs,hx,la⟩:=sr.get hS
   rw[ha]at ha';cases ha'
   exact .inl ⟨a,xs,rfl,.inl (SqL.of hx),by rw[la.length];exact post m _ H .refl sr .int_⟩
  ·rename_i ws hS
   obtain⟨a',ha',xs,hx,la⟩:=sr.get hS
   rw[ha]at ha';cases ha'
   exact .inr ⟨a,xs,rfl,hx,by rw[IsP.length la];exact post m _ H .refl sr .int_⟩
 |[.kl ns],hf=>
  cases hf
  obtain⟨v,rfl,iv⟩:=i.one
  obtain⟨a,rfl,ka⟩:=iv.of_kl
  exact .inl ⟨a,_,rfl,.inl ka.sq,by rw[List.length_map];exact post m _ H .refl sr .int_⟩
noncomputable def mO:Fn
 |[.tup us],S=>some (.ref S.length,S++[.lst us])
 |[.ref l],S=>match S[l]? with
  |some (.lst us)=>some (.ref S.length,S++[.lst us])
  |_=>none
 |_,_=>none
theorem C3:rB K (fun xs H Q=>∃p ys,xs=[.ref p]/\(SqL K H p ys\/SqT K H p ys)/\∀l,H l=none->Q (.ref l) (upd H l (.lst ys))) mO:=by
 intro m S H us vs u S' Q sr i hf post
 match us,hf with
 |[.tup ws],hf=>
  cases hf
  obtain⟨v,rfl,iv⟩:=i.one
  obtain⟨a,xs,rfl,sa,la⟩:=iv.of_tup
  exact⟨a,xs,rfl,.inr sa,fun l hl=>fY sr la post hl⟩
 |[.ref l],hf=>
  obtain⟨v,rfl,iv⟩:=i.one
  obtain⟨a,ha,rfl⟩:=iv.of_ref
  simp only[mO]at hf
  split at hf<;>try cases hf
  rename_i ws hS
  obtain⟨a',ha',xs,hx,la⟩:=sr.get hS
  rw[ha]at ha';cases ha'
  exact⟨a,xs,rfl,.inl (SqL.of hx),fun l hl=>fY sr la post hl⟩
noncomputable def lH:Fn
 |[.tup us],S=>some (.tup us,S)
 |[.ref l],S=>match S[l]? with
  |some (.lst us)=>some (.tup us,S)
  |_=>none
 |_,_=>none
theorem qE:rB K (fun xs H Q=>∃p ys,xs=[.ref p]/\((SqL K H p ys/\∀l,H l=none->Q (.ref l) (upd H l (.tup ys)))\/(SqT K H p ys/\Q (.ref p) H))) lH:=by
 intro m S H us vs u S' Q sr i hf post
 match us,hf with
 |[.tup ws],hf=>
  cases hf
  obtain⟨v,rfl,iv⟩:=i.one
  obtain⟨a,xs,rfl,sa,la⟩:=iv.of_tup
  exact⟨a,xs,rfl,.inr ⟨sa,post m _ H .refl sr iv⟩⟩
 |[.ref l],hf=>
  obtain⟨v,rfl,iv⟩:=i.one
  obtain⟨a,ha,rfl⟩:=iv.of_ref
  simp only[lH]at hf
  split at hf<;>try cases hf
  rename_i ws hS
  obtain⟨a',ha',xs,hx,la⟩:=sr.get hS
  rw[ha]at ha';cases ha'
  exact⟨a,xs,rfl,.inl ⟨SqL.of hx,fun l hl=>qC sr la post hl⟩⟩
noncomputable def MN:Fn
 |[.int i],S=>some (.int i,S)
 |[.bl b],S=>some (.int (if b then 1 else 0),S)
 |_,_=>none
noncomputable def ug:List U->Option (List Int)
 |[]=>some []
 |.int i::r=>(ug r).map (i::·)
 |_=>none
noncomputable def FY:List U->Option (List Bool)
 |[]=>some []
 |.bl i::r=>(FY r).map (i::·)
 |_=>none
theorem qN:∀{us:List U} {ns:List Int},ug us=some ns->us=ns.map U.int
 |[],ns,h=>by cases h;rfl
 |u::r,ns,h=>by
  cases u<;>simp only[ug]at h<;>try cases h
  obtain⟨ms,e,h⟩:=Option.map_eq_some_iff.mp h
  subst h
  rw[qN e];rfl
theorem jC:∀(ns:List Int),ug (ns.map U.int)=some ns
 |[]=>rfl
 |n::r=>by simp[ug,jC r]
theorem zV:∀{us:List U} {ns:List Bool},FY us=some ns->us=ns.map U.bl
 |[],ns,h=>by cases h;rfl
 |u::r,ns,h=>by
  cases u<;>simp only[FY]at h<;>try cases h
  obtain⟨ms,e,h⟩:=Option.map_eq_some_iff.mp h
  subst h
  rw[zV e];rfl
theorem rg:∀(ns:List Bool),FY (ns.map U.bl)=some ns
 |[]=>rfl
 |n::r=>by simp[FY,rg r]
theorem IsL.ints{m:List Addr}{H:Hp}:∀{xs:List V} {ns:List Int},IsL K m H xs (ns.map U.int)->xs=ns.map V.int
 |xs,[],h=>h.of_nil
 |xs,n::ns,h=>by
  obtain⟨x,r,rfl,i,t⟩:=h.of_cons
  rw[IsL.ints t,i.of_int];rfl
theorem IsL.bls{m:List Addr}{H:Hp}:∀{xs:List V} {ns:List Bool},IsL K m H xs (ns.map U.bl)->xs=ns.map V.bl
 |xs,[],h=>h.of_nil
 |xs,n::ns,h=>by
  obtain⟨x,r,rfl,i,t⟩:=h.of_cons
  rw[IsL.bls t,i.of_bl];rfl
theorem lD{m:List Addr}{H:Hp}:∀(ns:List Int),IsL K m H (ns.map V.int) (ns.map U.int)
 |[]=>.nil_
 |n::ns=>.cons_ .int_ (lD ns)
noncomputable def Dg:Fn
 |[.ref l],S=>match S[l]? with
  |some (.lst us)=>(FY us).bind fun bs=>some (.bl (bs.all id),S)
  |_=>none
 |_,_=>none
theorem Ih:rB K (fun xs H Q=>∃(p:Addr) (bs:List Bool),xs=[.ref p]/\SqL K H p (bs.map V.bl)/\Q (.bl (bs.all id)) H) Dg:=by
 intro m S H us vs u S' Q sr i hf post
 match us,hf with
 |[.ref l],hf=>
  obtain⟨v,rfl,iv⟩:=i.one
  obtain⟨a,ha,rfl⟩:=iv.of_ref
  simp only[Dg]at hf
  split at hf<;>try cases hf
  rename_i ws hS
  obtain⟨bs,hb,h⟩:=Option.bind_eq_some_iff.mp hf
  cases h
  obtain⟨a',ha',xs,hx,la⟩:=sr.get hS
  rw[ha]at ha';cases ha'
  rw[zV hb]at la
  rw[la.bls]at hx
  exact⟨a,bs,rfl,SqL.of hx,post m _ H .refl sr .bl_⟩
inductive Ty where
 |non|bool|int|str|tuple|list|dict
noncomputable def Ty.nm:Ty->String
 |.non=>"NoneType"|.bool=>"bool"|.int=>"int"|.str=>"str"|.tuple=>"tuple"|.list=>"list"|.dict=>"dict"
noncomputable def tyU:U->Sto->Option Ty
 |.non,_=>some .non|.bl _,_=>some .bool|.int _,_=>some .int|.str _,_=>some .str|.tup _,_=>some .tuple
 |.ref l,S=>match S[l]? with
  |some (.lst _)=>some .list
  |some (.dic _)=>some .dict
  |_=>none
 |.kl _,_=>none
noncomputable def Ap:Ty->Ty->Bool
 |.non,.non=>true|.bool,.bool=>true|.bool,.int=>true|.int,.int=>true|.str,.str=>true|.tuple,.tuple=>true|.list,.list=>true|.dict,.dict=>true
 |_,_=>false
theorem nU(a b:Ty)(hb:b≠.non):PySem.W.kitOne K (.type a.nm) (.type b.nm)=some (Ap a b):=by
 cases b<;>first|exact absurd rfl hb|(cases a<;>rfl)
noncomputable abbrev MH(K:PySem.W.Frag):List V->Hp->VK->Prop:=fun xs H Q=>(∃(x:V) (T:String) (t:Value) (k:Bool),xs=[x,.ty T]/\vY K H x t/\PySem.W.kitOne K t (.type T)=some k/\Q (.bl k) H)\/
 ∃(a:Addr) (ys:List V) (T:String) (k:Bool),xs=[.ref a,.ty T]/\SqT K H a ys/\PySem.W.kitOne K (.type "tuple") (.type T)=some k/\Q (.bl k) H
theorem K6:iV X (.builtin "isinstance") (MH X.K):=by
 refine uC.or ?_
 rintro pins s σ H xs us Q I r ⟨a,ys,T,k,rfl,sq,e,q⟩
 obtain⟨u,w',rfl,ru,rw'⟩:=Eh r
 cases rw'
 cases ru
 obtain⟨its,rv,ht,hz⟩:=I.tuple sq
 obtain⟨o,h1,h2,_⟩:=ht
 exact PySem.W.kia_one PySem.W.kitx_tuple I.kIn ⟨o,h1,h2⟩ e (fun z=>nomatch z) fun tk=>⟨.bl k,H,I.tok tk,rfl,q⟩
noncomputable def uE(T:Ty)(ca:CE):CE:=fun ρ S=>(ca ρ S).bind fun p=>(tyU p.1 p.2).bind fun t=>some (.bl (Ap t T),p.2)
theorem lT{T:Ty}{e eT:Expr}{ca:CE}{p pos:Pos}(hT0:T≠.non)(he:QE X e ca)(hT:WE X eT (tC (.ty T.nm)))(hg:Gl X "isinstance")(hm:X.mg "isinstance"=none)
  (h1:starEach [e,eT] X.env=(false,eval e X.env)::starEach [eT] X.env:=by rfl) (h2:starEach [eT] X.env=(false,eval eT X.env)::starEach [] X.env:=by rfl) (hpl:(backTo pos (starEach [eT] X.env)).any (·.1)=false:=by rfl) :
  QE X (.Call (.Name "isinstance" p) [e,eT] [] pos) (uE T ca):=(rM K6 hg hm OG.oG (eQ he (eQ hT kj h2) h1) (by decide) (by decide) h1 hpl).imp fun σ H Q hz=>m6 hz fun m ρ S u S' sr lr hc post=>by
 obtain⟨⟨x,S1⟩,h1,h2⟩:=Option.bind_eq_some_iff.mp hc
 obtain⟨t,ht,h3⟩:=Option.bind_eq_some_iff.mp h2
 cases h3
 refine⟨m,ρ,S,x,_,sr,lr,h1,fun m1 v1 H1 e1 sr1 i1=>?_⟩
 have fin:=post m1 _ H1 e1 sr1 (Is.bl_ (b:=Ap t T))
 cases x with
 |non=>cases ht;rw[i1.of_non];exact .inl ⟨_,_,_,_,rfl,.non,nU .non T hT0,fin⟩
 |bl b=>cases ht;rw[i1.of_bl];exact .inl ⟨_,_,_,_,rfl,.bl b,nU .bool T hT0,fin⟩
 |int i=>cases ht;rw[i1.of_int];exact .inl ⟨_,_,_,_,rfl,.int i,nU .int T hT0,fin⟩
 |str i=>cases ht;rw[i1.of_str];exact .inl ⟨_,_,_,_,rfl,.str i,nU .str T hT0,fin⟩
 |tup us=>
  cases ht
  obtain⟨a,xs,rfl,sa,la⟩:=i1.of_tup
  exact .inr ⟨a,xs,_,_,rfl,sa,nU .tuple T hT0,fin⟩
 |ref l=>
  obtain⟨a,ha,rfl⟩:=i1.of_ref
  simp only[tyU]at ht
  split at ht<;>try cases ht
  ·rename_i ws hS
   obtain⟨a',ha',xs,hx,la⟩:=sr1.get hS
   rw[ha]at ha';cases ha'
   exact .inl ⟨_,_,_,_,rfl,.lst hx,nU .list T hT0,fin⟩
  ·rename_i ws hS
   obtain⟨a',ha',xs,hx,la⟩:=sr1.get hS
   rw[ha]at ha';cases ha'
   exact .inl ⟨_,_,_,_,rfl,.dK hx,nU .dict T hT0,fin⟩
 |kl ns=>cases ht
noncomputable def cBM(f:U->List U->Sto->Option (U×Sto))(co:CE)(cr:CA):CE:=fun ρ S=>(co ρ S).bind fun p=>match p.1 with
 |.ref l=>match p.2[l]? with
  |some (.lst _)=>(cr ρ p.2).bind fun q=>f p.1 q.1 q.2
  |_=>none
 |_=>none
noncomputable def MtP(K:PySem.W.Frag)(r:V->List V->Hp->VK->Prop)(f:U->List U->Sto->Option (U×Sto)):Prop:=
 ∀m S H x v us vs u S' Q,Sr K m S H->Is K m H v x->IsL K m H vs us->f x us S=some (u,S')->lQ K m H Q u S'->r v vs H Q
theorem tL{r:V->List V->Hp->VK->Prop}{f:U->List U->Sto->Option (U×Sto)}{co:CE}{cr:CA}(hp:MtP K r f):∀σ H Q,tE K (cBM f co cr) σ H Q->tBM K "list" r (tE K co) (tA K cr) σ H Q:=by
 rintro σ H Q ⟨m,ρ,S,u,S',sr,lr,hc,post⟩
 obtain⟨⟨x,S1⟩,h1,h2⟩:=Option.bind_eq_some_iff.mp hc
 refine⟨m,ρ,S,x,S1,sr,lr,h1,fun m1 v1 H1 e1 sr1 i1=>?_⟩
 cases x with
 |ref l=>
  simp only at h2
  split at h2<;>try cases h2
  rename_i ws hS
  obtain⟨⟨us,S2⟩,h3,h4⟩:=Option.bind_eq_some_iff.mp h2
  obtain⟨a,ha,rfl⟩:=id i1.of_ref
  obtain⟨a',ha',xs,hx,la⟩:=sr1.get hS
  rw[ha]at ha';cases ha'
  exact⟨.inl ⟨rfl,xs,SqL.of hx⟩,m1,ρ,S1,us,S2,sr1,lr.mono e1,h3,fun m2 vs H2 e2 sr2 i2=>hp m2 S2 H2 _ _ us vs u S' Q sr2 (i1.mono e2) i2 h4 (post.mono (e1.trans e2))⟩
 |_=>simp at h2
noncomputable def dh:U->List U->Sto->Option (U×Sto)
 |.ref l,[u],S=>match S[l]? with
  |some (.lst us)=>if us.length<LIM then some (.non,S.set l (.lst (us++[u])))else none
  |_=>none
 |_,_,_=>none
theorem BA:MtP K yf dh:=by
 intro m S H x v us vs u S' Q sr ix i hf post
 match x,us,hf with
 |.ref l,[w],hf=>
  simp only[dh]at hf
  split at hf<;>try cases hf
  rename_i ws hS
  split at hf<;>try cases hf
  rename_i hl
  obtain⟨a,ha,rfl⟩:=ix.of_ref
  obtain⟨a',ha',xs,hx,la⟩:=sr.get hS
  rw[ha]at ha';cases ha'
  obtain⟨y,rfl,iy⟩:=i.one
  have eu:Ext K m H m (upd H a (.lst (xs++[y]))):=.of (sr.keep ha _)
  exact⟨a,xs,y,rfl,rfl,hx,IA (by rw[la.length];exact hl),post m _ _ eu (sr.put ha ⟨_,aK,(la.append (.cons_ iy .nil_)).mono eu⟩) .non_⟩
variable{e:Expr}{es:List Expr}{co:CE}{cr:CA}{o:Expr}{apos cpos:Pos}
theorem fX (ho : QE X o co) (ha : QA X (e :: es) cr) (hbase : attributeBase o "append" X.env (eval o X.env) = eval o X.env := by rfl) (hfew : ((backTo cpos (starEach (e :: es) X.env)).all (fun x => !x.1) && (backToKw cpos (keywordEach [] X.env)).all (fun x => x.1.isSome)
   && decide ((e::es).length+([]:List Keyword).length+(if ([]:List Keyword).isEmpty then 0 else 1)<30))=true:=by rfl) (hline:(apos.endLine == cpos.line)=true:=by rfl) (hs:starEach (e::es) X.env=(false,eval e X.env)::starEach es X.env:=by rfl) (hplain:(backTo cpos (starEach es X.env)).any (·.1)=false:=by rfl) :
  QE X (.Call (.Attribute o "append" apos) (e::es) [] cpos) (cBM dh co cr):=(uU PySem.F.plainAttrs_list PySem.F.slot_list_append PySem.F.type_list_append nN ho ha.h hbase hfew hline hs hplain).imp (tL BA)
end
structure TC(K:PySem.W.Frag)(c:Cl)(NS:List Str):Prop where
 cl:Cls K c.C
 ns:c.ns=NS
 nas:∀f∈NS,ki K c.C f
section
variable{K:PySem.W.Frag}{c:Cl}{NS:List Str}
theorem TC.ix(T:TC K c NS){i:Nat}{f:Str}(h:NS[i]?=some f):c.ns[i]?=some f:=by rw[T.ns];exact h
theorem TC.na(T:TC K c NS)(i:Nat){f:Str}(h:NS[i]?=some f):ki K c.C f:=T.nas f (List.mem_of_getElem? h)
theorem TC.nm(T:TC K c NS){f:Str}(h:f∉NS):f∉c.ns:=by rw[T.ns];exact h
end
theorem _root_.L2.Fun.pure{P:Program}{w:World}{K:PySem.W.Frag}{mg:Str->Option Value}{base:Heap}{x qual:Str}{st:Stmt}{f:Addr}{fd:FuncData}{N ps:List Str}{k:Nat}{c:CS}(F:Fun K x qual st f fd)(S:aL N ps (ar st))
  (hb:∀(cdv:Value) (A:Around) (outer:List Env) (s:Shared) (H:Hp) (E:XK),jl k (A.deeper (envOfC qual (ar st) s.heap.objs.size f cdv))->
   WSs (xg CX0 P w K mg base N qual (ar st) f cdv A outer s H E).nox (aI st) (tS K c)):nh P w K mg base CX0 (k+1) f fd ps (A2 K (fnU N.length ps.length c)):=
 Fun.okW F S (fun vs H Q E h=>u7 h) fun cdv A outer s H vs Q E hr h=>⟨_,hb cdv A outer s H E hr,zj (X:=(xg CX0 P w K mg base N qual (ar st) f cdv A outer s H E).nox) (body:=[]) (ps:=ps) rfl h⟩
noncomputable def SI:Bool->Heap->Addr->Addr->Nat->Prop
 |true,h,it,a,i=>h.IsListIter it a i
 |false,h,it,a,i=>h.IsTupleIter it a i
noncomputable def SA:Bool->Heap->Addr->Array Value->Prop
 |true,h,a,xs=>h.IsList a xs
 |false,h,a,xs=>h.IsTuple a xs
theorem SI.at_{b:Bool}{h h':Heap}{it a:Addr}{i:Nat}(x:SI b h it a i)(k:∀o,h.get? it=some o->h'.get? it=some o):SI b h' it a i:=by
 cases b with
 |true=>obtain⟨o,e,r⟩:=x;exact⟨o,k o e,r⟩
 |false=>obtain⟨o,e,r⟩:=x;exact⟨o,k o e,r⟩
theorem SA.at_{b:Bool}{h h':Heap}{a:Addr}{xs:Array Value}(x:SA b h a xs)(k:∀o,h.get? a=some o->h'.get? a=some o):SA b h' a xs:=by
 cases b with
 |true=>obtain⟨o,e,r⟩:=x;exact⟨o,k o e,r⟩
 |false=>obtain⟨o,e,r⟩:=x;exact⟨o,k o e,r⟩
theorem SI.obj{b:Bool}{h:Heap}{it a:Addr}{i:Nat}(x:SI b h it a i):∃o,h.get? it=some o/\∀v,o.data≠.cell v:=by
 cases b with
 |true=>obtain⟨o,e,c,d⟩:=x;exact⟨o,e,fun v z=>by rw[d]at z;cases z⟩
 |false=>obtain⟨o,e,c,d⟩:=x;exact⟨o,e,fun v z=>by rw[d]at z;cases z⟩
theorem SA.lt{b:Bool}{h:Heap}{a:Addr}{xs:Array Value}(x:SA b h a xs):a<h.objs.size:=by
 cases b with
 |true=>obtain⟨o,e,_⟩:=x;exact Heap.lt_size e
 |false=>obtain⟨o,e,_⟩:=x;exact Heap.lt_size e
section
variable{prog:Program}{w:World}{A:Around}{E:Value->Shared->Prop}{s:Shared}
theorem AY{I t:Addr}{j:Nat}{ys:Array Value}{y:Value}{Q:Value->Shared->Prop}(hI:s.heap.IsTupleIter I t j)(hT:s.heap.IsTuple t ys)(hy:ys[j]?=some y)
  (k:∀h',h'.IsTupleIter I t (j+1)->Heap.SameBut I s.heap h'->Q y { s with heap:=h' }):wpAny (model prog w) A (Builtin.SmallTypes.nextOf (.ref I)) Q E s:=by
 obtain⟨oi,gi,ci,di⟩:=id hI
 obtain⟨ot,gt,_,nt,dt⟩:=hT
 unfold Builtin.SmallTypes.nextOf
 refine wpAny_bind (wpAny_callSpecial?_slot (name:=Str.ofString "__next__") hI.typeIs PySem.F.slot_tuple_iterator_next (wpAny_call_entry PySem.F.slot_tuple_iterator_next hI.typeIs PySem.F.entry_tuple_iterator_next ?_ (PySem.F.args_tuple_iterator_next_1 _)))
 show wpAny _ _ (field (.ref I) 0 >>= _) _ _ s
 refine wpAny_bind (wpAny_field gi di (x:=.ref t) rfl ?_)
 show wpAny _ _ (ite ((Value.ref t == Value.none)=true) _ _) _ _ s
 rw[if_neg (by exact Bool.false_ne_true)]
 show wpAny _ _ (field (.ref I) 1 >>= _) _ _ s
 refine wpAny_bind (wpAny_field gi di (x:=.int j 0) rfl ?_)
 show wpAny _ _ (seqItems? (.ref t) >>= _) _ _ s
 refine wpAny_bind (wpAny_seqItems gt dt ?_)
 simp only[hy,Int.toNat_natCast]
 refine wpAny_bind (wpAny_setField gi di (by simp) (wpAny_pure ⟨y,rfl,wpAny_pure (k _ ⟨_,Heap.get?_update_self _ gi (Obj.isFreed_of_fields (Obj.data_mapFields di _)),(Obj.cls_mapFields ..).trans ci,?_⟩ (Heap.SameBut.update ..))⟩))
 rw[Obj.data_mapFields di];simp[rawInt]
theorem rV{I t:Addr}{j:Nat}{ys:Array Value}{Q:Value->Shared->Prop}(hh:A.handled=none)(hI:s.heap.IsTupleIter I t j)(hT:s.heap.IsTuple t ys)(hy:ys[j]?=none)
  (k:∀h' e,Heap.ExtBut I s.heap h'->(∃o,h'.get? e=some o/\o.cls=.type "StopIteration")->E (.ref e) { s with heap:=h' }):wpAny (model prog w) A (Builtin.SmallTypes.nextOf (.ref I)) Q E s:=by
 obtain⟨oi,gi,ci,di⟩:=id hI
 obtain⟨ot,gt,_,nt,dt⟩:=hT
 unfold Builtin.SmallTypes.nextOf
 refine wpAny_bind (wpAny_callSpecial?_slot (name:=Str.ofString "__next__") hI.typeIs PySem.F.slot_tuple_iterator_next (wpAny_call_entry PySem.F.slot_tuple_iterator_next hI.typeIs PySem.F.entry_tuple_iterator_next ?_ (PySem.F.args_tuple_iterator_next_1 _)))
 show wpAny _ _ (field (.ref I) 0 >>= _) _ _ s
 refine wpAny_bind (wpAny_field gi di (x:=.ref t) rfl ?_)
 show wpAny _ _ (ite ((Value.ref t == Value.none)=true) _ _) _ _ s
 rw[if_neg (by exact Bool.false_ne_true)]
 show wpAny _ _ (field (.ref I) 1 >>= _) _ _ s
 refine wpAny_bind (wpAny_field gi di (x:=.int j 0) rfl ?_)
 show wpAny _ _ (seqItems? (.ref t) >>= _) _ _ s
 refine wpAny_bind (wpAny_seqItems gt dt ?_)
 simp only[hy,Int.toNat_natCast]
 refine wpAny_bind (wpAny_rule (wpAny_bind (wpAny_setField gi di (by simp) ?_)))
 show wpAny _ _ (newExc (.type "StopIteration") [] >>= _) _ _ _
 simp only[newExc,newTuple];refine wpAny_bind ?_
 refine wpAny_bind (wpAny_newObj_type ?_ (by(size_fits)))
 refine wpAny_bind (m:=firstArgMember _ _) (wpAny_of_eq (a:=Value.none) (by simp only[firstArgMember]<;>rfl) ?_)
 refine wpAny_newObj_type ?_ (by(size_fits))
 simp only[raiseNew]
 refine wpAny_bind (wpAny_handled ?_)
 rw[show A.in1.handled=none from hh]
 exact wpAny_bind (wpAny_pure (wpAny_throw (k _ _ (((Heap.SameBut.update ..).extBut.push _).push _) ⟨_,Heap.get?_push_size _ rfl,rfl⟩)))
theorem qu{b:Bool}{I t:Addr}{j:Nat}{ys:Array Value}{y:Value}{Q:Value->Shared->Prop}(hI:SI b s.heap I t j)(hT:SA b s.heap t ys)(hy:ys[j]?=some y)
  (k:∀h',SI b h' I t (j+1)->Heap.SameBut I s.heap h'->Q y { s with heap:=h' }):wpAny (model prog w) A (Builtin.SmallTypes.nextOf (.ref I)) Q E s:=by
 cases b with
 |true=>exact wpAny_nextOf_list_item hI hT hy k
 |false=>exact AY hI hT hy k
theorem iY{b:Bool}{I t:Addr}{j:Nat}{ys:Array Value}{Q:Value->Shared->Prop}(hh:A.handled=none)(hI:SI b s.heap I t j)(hT:SA b s.heap t ys)(hy:ys[j]?=none)
  (k:∀h' e,Heap.ExtBut I s.heap h'->(∃o,h'.get? e=some o/\o.cls=.type "StopIteration")->E (.ref e) { s with heap:=h' }):wpAny (model prog w) A (Builtin.SmallTypes.nextOf (.ref I)) Q E s:=by
 cases b with
 |true=>exact wpAny_nextOf_list_end hh hI hT hy k
 |false=>exact rV hh hI hT hy k
structure ZA(z I O i j a c:Addr):Prop where
 Iz:I≠z
 Oz:O≠z
 iz:i≠z
 jz:j≠z
 IO:I≠O
 Ii:I≠i
 Ij:I≠j
 Oi:O≠i
 Oj:O≠j
 ij:i≠j
 az:a≠z
 aO:a≠O
 ai:a≠i
 aj:a≠j
 cz:c≠z
 cO:c≠O
 ci:c≠i
 cj:c≠j
structure ZSt(b d:Bool)(h:Heap)(z I O i j a c:Addr)(f:Value)(n:Nat):Prop where
 hz:IsZip h z I O f
 hI:IsPair h I (.ref i) (.ref j)
 hO:∃p q,IsPair h O p q
 h1:SI b h i a n
 h2:SI d h j c n
theorem ZSt.at_{b d:Bool}{h h':Heap}{z I O i j a c:Addr}{f:Value}{n:Nat}(x:ZSt b d h z I O i j a c f n)(k:∀e∈[z,I,O,i,j],∀o,h.get? e=some o->h'.get? e=some o):ZSt b d h' z I O i j a c f n:=by
 obtain⟨p,q,hO⟩:=x.hO
 exact⟨k z (by simp) _ x.hz,k I (by simp) _ x.hI,⟨p,q,k O (by simp) _ hO⟩,x.h1.at_ fun o e=>k i (by simp) o e,x.h2.at_ fun o e=>k j (by simp) o e⟩
theorem Ax{b d:Bool}{z I O i j a c:Addr}{n:Nat}{xs ys:Array Value}{x y:Value}{Q:Value->Shared->Prop}(D:ZA z I O i j a c)(st:ZSt b d s.heap z I O i j a c .none n)(ha:SA b s.heap a xs)(hc:SA d s.heap c ys)(hx:xs[n]?=some x)(hy:ys[n]?=some y)
  (k:∀h',ZSt b d h' z I O i j a c (rawInt s.heap.objs.size) (n+1)->IsPair h' s.heap.objs.size x y->
   (∀e o,e≠z->e≠O->e≠i->e≠j->s.heap.get? e=some o->h'.get? e=some o)->Q (.ref s.heap.objs.size) { s with heap:=h' }) :
  wpAny (model prog w) A (Builtin.«zip.__next__» ⟨[.ref z],[]⟩) (fun fin s'=>∃v,fin=.done (.ret v)/\Q v s') E s:=by
 obtain⟨hz,hI,⟨p,q,hO⟩,h1,h2⟩:=st
 show wpAny _ _ (field (.ref z) 2 >>= _) _ _ _
 refine wpAny_bind (wpAny_field hz rfl (x:=.bool false) rfl ?_)
 show wpAny _ _ (field (.ref z) 3 >>= _) _ _ _
 refine wpAny_bind (wpAny_field hz rfl (x:=.ref I) rfl ?_)
 refine wpAny_bind (wpAny_seqItems hI rfl ?_)
 show wpAny _ _ (Builtin.SmallTypes.ownedTupleIsFree (.ref z) >>= _) _ _ _
 refine wpAny_bind ?_
 unfold Builtin.SmallTypes.ownedTupleIsFree
 refine wpAny_bind (wpAny_field hz rfl (x:=.none) rfl (wpAny_pure ?_))
 simp only[if_true]
 refine wpAny_bind (wpAny_rule (wpAny_bind (wpAny_field hz rfl (x:=.ref O) rfl (wpAny_bind (wpAny_setField_rec hz (by simp) fun g1 z1 s1=>wpAny_bind ?_)))))
 replace z1:IsZip g1 z I O .ellipsis:=z1
 simp only[List.zipIdx_nil,List.zipIdx_cons,List.forIn_nil,List.forIn_cons]
 refine wpAny_bind (wpAny_bind (wpAny_onRaise ?_))
 show wpAny _ _ (Builtin.SmallTypes.nextOf (.ref i) >>= _) _ _ _
 refine wpAny_bind (qu (b:=b) (h1.at_ fun o e=>s1.extBut _ _ D.iz e) (ha.at_ fun o e=>s1.extBut _ _ D.az e) hx fun g2 i2 s2=>wpAny_pure ?_)
 have O2:IsPair g2 O p q:=s2.extBut _ _ D.Oi (s1.extBut _ _ D.Oz hO)
 refine wpAny_bind (wpAny_seqItems O2 rfl (wpAny_bind (wpAny_updateSeq_pair O2 fun g3 O3 s3=>?_)))
 replace O3:IsPair g3 O x q:=O3
 refine wpAny_bind (wpAny_letGo (wpAny_pure (wpAny_bind (wpAny_bind (wpAny_onRaise ?_)))))
 show wpAny _ _ (Builtin.SmallTypes.nextOf (.ref j) >>= _) _ _ _
 have up3:∀e o,e≠z->e≠i->e≠O->s.heap.get? e=some o->g3.get? e=some o:=fun e o u1 u2 u3 q=>s3.extBut _ _ u3 (s2.extBut _ _ u2 (s1.extBut _ _ u1 q))
 refine wpAny_bind (qu (b:=d) (h2.at_ fun o e=>up3 _ _ D.jz D.ij.symm D.Oj.symm e) (hc.at_ fun o e=>up3 _ _ D.cz D.ci D.cO e) hy fun g4 j4 s4=>wpAny_pure ?_)
 have O4:IsPair g4 O x q:=s4.extBut _ _ D.Oj O3
 refine wpAny_bind (wpAny_seqItems O4 rfl (wpAny_bind (wpAny_updateSeq_pair O4 fun g5 O5 s5=>?_)))
 replace O5:IsPair g5 O x y:=O5
 refine wpAny_bind (wpAny_letGo (wpAny_pure (wpAny_pure (wpAny_bind (wpAny_seqItems O5 rfl (wpAny_bind (wpAny_newTuple ?_)))))))
 have sz:g5.objs.size=s.heap.objs.size:=by rw[s5.1,s4.1,s3.1,s2.1,s1.1]
 have z5:IsZip g5 z I O .ellipsis:=s5.extBut _ _ D.Oz.symm (s4.extBut _ _ D.jz.symm (s3.extBut _ _ D.Oz.symm (s2.extBut _ _ D.iz.symm z1)))
 have up5:∀e o,e≠z->e≠O->e≠i->e≠j->s.heap.get? e=some o->g5.get? e=some o:=fun e o u1 u2 u3 u4 q=>s5.extBut _ _ u2 (s4.extBut _ _ u4 (up3 e o u1 u3 u2 q))
 have i5:SI b g5 i a (n+1):=i2.at_ fun o e=>s5.extBut _ _ D.Oi.symm (s4.extBut _ _ D.ij (s3.extBut _ _ D.Oi.symm e))
 have j5:SI d g5 j c (n+1):=j4.at_ fun o e=>s5.extBut _ _ D.Oj.symm e
 have zlt:z<g5.objs.size:=Heap.lt_size z5
 show wpAny _ _ (Builtin.SmallTypes.ownedTupleHandOut (.ref z) (.ref g5.objs.size) >>= _) _ _ _
 refine wpAny_bind ?_
 unfold Builtin.SmallTypes.ownedTupleHandOut
 have z6:IsZip (g5.push { cls:=.type "tuple",data:=.seq #[x,y] }) z I O .ellipsis:=Heap.get?_push_of_some _ z5
 refine wpAny_bind (wpAny_setField_rec z6 (by simp) fun g7 z7 s7=>?_)
 replace z7:IsZip g7 z I O (rawInt g5.objs.size):=z7
 refine wpAny_setField_rec z7 (by simp) fun g8 z8 s8=>?_
 replace z8:IsZip g8 z I O (rawInt g5.objs.size):=z8
 have up8:∀e o,e≠z->g5.get? e=some o->g8.get? e=some o:=fun e o u1 q=>s8.extBut _ _ u1 (s7.extBut _ _ u1 (Heap.get?_push_of_some _ q))
 have T8:IsPair g8 g5.objs.size x y:=s8.extBut _ _ (Nat.ne_of_gt zlt) (s7.extBut _ _ (Nat.ne_of_gt zlt) (Heap.get?_push_size _ rfl))
 rw[sz]at z8 T8
 refine wpAny_pure ⟨_,rfl,?_⟩
 show Q (.ref g5.objs.size) _
 rw[sz]
 exact k g8 ⟨z8,up8 _ _ D.Iz (up5 _ _ D.Iz D.IO D.Ii D.Ij hI),⟨x,y,up8 _ _ D.Oz O5⟩,i5.at_ fun o e=>up8 _ _ D.iz e,j5.at_ fun o e=>up8 _ _ D.jz e⟩ T8 fun e o u1 u2 u3 u4 q=>up8 e o u1 (up5 e o u1 u2 u3 u4 q)
theorem Ay{b d:Bool}{z I O i j a c:Addr}{n:Nat}{xs ys:Array Value}{Q:PySem.Fin->Shared->Prop}(hh:A.handled=none)(D:ZA z I O i j a c)(st:ZSt b d s.heap z I O i j a c .none n)(ha:SA b s.heap a xs)(hc:SA d s.heap c ys)(hn:xs[n]?=none\/ys[n]?=none)
  (k:∀h' e,(∀c o,c≠z->c≠O->c≠i->c≠j->s.heap.get? c=some o->h'.get? c=some o)->(∃o,h'.get? e=some o/\o.cls=.type "StopIteration")->E (.ref e) { s with heap:=h' }) :
  wpAny (model prog w) A (Builtin.«zip.__next__» ⟨[.ref z],[]⟩) Q E s:=by
 obtain⟨hz,hI,⟨p,q,hO⟩,h1,h2⟩:=st
 show wpAny _ _ (field (.ref z) 2 >>= _) _ _ _
 refine wpAny_bind (wpAny_field hz rfl (x:=.bool false) rfl ?_)
 show wpAny _ _ (field (.ref z) 3 >>= _) _ _ _
 refine wpAny_bind (wpAny_field hz rfl (x:=.ref I) rfl ?_)
 refine wpAny_bind (wpAny_seqItems hI rfl ?_)
 show wpAny _ _ (Builtin.SmallTypes.ownedTupleIsFree (.ref z) >>= _) _ _ _
 refine wpAny_bind ?_
 unfold Builtin.SmallTypes.ownedTupleIsFree
 refine wpAny_bind (wpAny_field hz rfl (x:=.none) rfl (wpAny_pure ?_))
 simp only[if_true]
 refine wpAny_bind (wpAny_rule (wpAny_bind (wpAny_field hz rfl (x:=.ref O) rfl (wpAny_bind (wpAny_setField_rec hz (by simp) fun g1 z1 s1=>wpAny_bind ?_)))))
 replace z1:IsZip g1 z I O .ellipsis:=z1
 simp only[List.zipIdx_nil,List.zipIdx_cons,List.forIn_nil,List.forIn_cons]
 refine wpAny_bind (wpAny_bind (wpAny_onRaise ?_))
 show wpAny _ _ (Builtin.SmallTypes.nextOf (.ref i) >>= _) _ _ _
 cases hx:xs[n]? with
 |none=>
  refine wpAny_bind (iY (b:=b) hh (h1.at_ fun o e=>s1.extBut _ _ D.iz e) (ha.at_ fun o e=>s1.extBut _ _ D.az e) hx fun g2 e s2 he=>?_)
  obtain⟨oe,ge,ce⟩:=he
  have z2:IsZip g2 z I O .ellipsis:=s2 _ _ D.iz.symm z1
  have nez:e≠z:=fun v=>by subst v;rw[z2]at ge;cases ge;simp at ce
  exact wpAny_setField_rec z2 (by simp) fun g3 _ s3=>k g3 e (fun c o u1 _ u3 _ v=>s3.extBut _ _ u1 (s2 _ _ u3 (s1.extBut _ _ u1 v))) ⟨oe,s3.extBut _ _ nez ge,ce⟩
 |some x=>
  have hy:ys[n]?=none:=by rcases hn with v|v;rw[hx]at v;cases v;exact v
  refine wpAny_bind (qu (b:=b) (h1.at_ fun o e=>s1.extBut _ _ D.iz e) (ha.at_ fun o e=>s1.extBut _ _ D.az e) hx fun g2 i2 s2=>wpAny_pure ?_)
  have O2:IsPair g2 O p q:=s2.extBut _ _ D.Oi (s1.extBut _ _ D.Oz hO)
  refine wpAny_bind (wpAny_seqItems O2 rfl (wpAny_bind (wpAny_updateSeq_pair O2 fun g3 O3 s3=>?_)))
  refine wpAny_bind (wpAny_letGo (wpAny_pure (wpAny_bind (wpAny_bind (wpAny_onRaise ?_)))))
  show wpAny _ _ (Builtin.SmallTypes.nextOf (.ref j) >>= _) _ _ _
  have up3:∀e o,e≠z->e≠i->e≠O->s.heap.get? e=some o->g3.get? e=some o:=fun e o u1 u2 u3 q=>s3.extBut _ _ u3 (s2.extBut _ _ u2 (s1.extBut _ _ u1 q))
  refine wpAny_bind (iY (b:=d) hh (h2.at_ fun o e=>up3 _ _ D.jz D.ij.symm D.Oj.symm e) (hc.at_ fun o e=>up3 _ _ D.cz D.ci D.cO e) hy fun g4 e s4 he=>?_)
  obtain⟨oe,ge,ce⟩:=he
  have z4:IsZip g4 z I O .ellipsis:=s4 _ _ D.jz.symm (s3.extBut _ _ D.Oz.symm (s2.extBut _ _ D.iz.symm z1))
  have nez:e≠z:=fun v=>by subst v;rw[z4]at ge;cases ge;simp at ce
  exact wpAny_setField_rec z4 (by simp) fun g5 _ s5=>k g5 e (fun c o u1 u2 u3 u4 v=>s5.extBut _ _ u1 (s4 _ _ u4 (up3 c o u1 u3 u2 v))) ⟨oe,s5.extBut _ _ nez ge,ce⟩
theorem AA{b d:Bool}{z I O i j a c:Addr}{n:Nat}{xs ys:Array Value}{x y:Value}{Q:Option Value->Shared->Prop}(D:ZA z I O i j a c)(st:ZSt b d s.heap z I O i j a c .none n)(ha:SA b s.heap a xs)(hc:SA d s.heap c ys)(hx:xs[n]?=some x)(hy:ys[n]?=some y)
  (k:∀h',ZSt b d h' z I O i j a c (rawInt s.heap.objs.size) (n+1)->IsPair h' s.heap.objs.size x y->
   (∀e o,e≠z->e≠O->e≠i->e≠j->s.heap.get? e=some o->h'.get? e=some o)->Q (some (.ref s.heap.objs.size)) { s with heap:=h' }):wpAny (model prog w) A (pyNext (.ref z)) Q E s:=by
 have ty:s.TypeIs (.ref z) "zip":=⟨_,st.hz,rfl⟩
 unfold pyNext
 exact wpAny_bind (wpAny_attempt (wpAny_callSpecial?_slot (name:=Str.ofString "__next__") ty PySem.F.slot_zip_next (wpAny_call_entry PySem.F.slot_zip_next ty PySem.F.entry_zip_next
   (Ax D st ha hc hx hy fun h' a1 a2 a3=>wpAny_pure (k h' a1 a2 a3)) (PySem.F.args_zip_next_1 _))))
theorem DH{b d:Bool}{z I O i j a c:Addr}{n:Nat}{xs ys:Array Value}{Q:Option Value->Shared->Prop}(hh:A.handled=none)(D:ZA z I O i j a c)(st:ZSt b d s.heap z I O i j a c .none n)(ha:SA b s.heap a xs)(hc:SA d s.heap c ys)(hn:xs[n]?=none\/ys[n]?=none)
  (k:∀h',(∀c o,c≠z->c≠O->c≠i->c≠j->s.heap.get? c=some o->h'.get? c=some o)->Q none { s with heap:=h' }):wpAny (model prog w) A (pyNext (.ref z)) Q E s:=by
 have ty:s.TypeIs (.ref z) "zip":=⟨_,st.hz,rfl⟩
 unfold pyNext
 refine wpAny_bind (wpAny_attempt (wpAny_callSpecial?_slot (name:=Str.ofString "__next__") ty PySem.F.slot_zip_next (wpAny_call_entry PySem.F.slot_zip_next ty PySem.F.entry_zip_next
   (Ay hh D st ha hc hn fun h' e hk he=>?_) (PySem.F.args_zip_next_1 _))))
 obtain⟨o,ho,co⟩:=he
 exact wpAny_bind (wpAny_isInstance (T:="StopIteration") (b:=true) ⟨o,ho,co⟩ isSubtype_stop (wpAny_pure (k _ hk)))
noncomputable def itO(b:Bool)(a:Addr):Obj:={ cls:=.type (if b then "list_iterator" else "tuple_iterator"),data:=.fields #[.ref a,.int 0 0] }
noncomputable abbrev zG2(b d:Bool)(h:Heap)(a c:Addr):Heap:=(h.push (itO b a)).push (itO d c)
noncomputable abbrev zG4(b d:Bool)(h:Heap)(a c:Addr):Heap:=((zG2 b d h a c).push { cls:=.type "tuple",data:=.seq #[.ref h.objs.size,.ref (h.push (itO b a)).objs.size] }).push { cls:=.type "tuple",data:=.seq #[.none,.none] }
noncomputable abbrev zG5(b d:Bool)(h:Heap)(a c:Addr):Heap:=(zG4 b d h a c).push { cls:=.type "zip",data:=.fields #[.none,.bool false,.bool false,.ref (zG2 b d h a c).objs.size,.ref ((zG2 b d h a c).push { cls:=.type "tuple",data:=.seq #[.ref h.objs.size,.ref (h.push (itO b a)).objs.size] }).objs.size] }
theorem DD (b d : Bool) (a c : Addr) (xs ys : Array Value) : Meets (Builtin.«zip.__new__» ⟨[.type "zip", .ref a, .ref c], []⟩) (fun _ R s => SA b s.heap a xs /\ SA d s.heap c ys /\
   R (.ok (.ret (.ref (zG4 b d s.heap a c).objs.size))) { s with heap:=zG5 b d s.heap a c }):=
 .of_wp fun prog w A R s q=>by
  obtain⟨hp,g,dr,tk,os⟩:=s
  obtain⟨p1,p2,q⟩:=q
  have sb:=sub_zip
  cases b<;>cases d
  ·have e1:Heap.IsTuple (Shared.heap ⟨hp,g,dr,tk,os⟩) a xs:=p1
   have e2:Heap.IsTuple (Shared.heap ⟨hp.push { cls:=.type "tuple_iterator",data:=.fields #[.ref a,.int 0 0] },g,dr,tk,os⟩) c ys:=SA.at_ (b:=false) p2 fun o e=>Heap.get?_push_of_some _ e
   wp_walk using wpAny_pyIter_tuple e1,wpAny_pyIter_tuple e2
   exact⟨_,rfl,q⟩
  ·have e1:Heap.IsTuple (Shared.heap ⟨hp,g,dr,tk,os⟩) a xs:=p1
   have e2:Heap.IsList (Shared.heap ⟨hp.push { cls:=.type "tuple_iterator",data:=.fields #[.ref a,.int 0 0] },g,dr,tk,os⟩) c ys:=SA.at_ (b:=true) p2 fun o e=>Heap.get?_push_of_some _ e
   wp_walk using wpAny_pyIter_tuple e1,wpAny_pyIter_list e2
   exact⟨_,rfl,q⟩
  ·have e1:Heap.IsList (Shared.heap ⟨hp,g,dr,tk,os⟩) a xs:=p1
   have e2:Heap.IsTuple (Shared.heap ⟨hp.push { cls:=.type "list_iterator",data:=.fields #[.ref a,.int 0 0] },g,dr,tk,os⟩) c ys:=SA.at_ (b:=false) p2 fun o e=>Heap.get?_push_of_some _ e
   wp_walk using wpAny_pyIter_list e1,wpAny_pyIter_tuple e2
   exact⟨_,rfl,q⟩
  ·have e1:Heap.IsList (Shared.heap ⟨hp,g,dr,tk,os⟩) a xs:=p1
   have e2:Heap.IsList (Shared.heap ⟨hp.push { cls:=.type "list_iterator",data:=.fields #[.ref a,.int 0 0] },g,dr,tk,os⟩) c ys:=SA.at_ (b:=true) p2 fun o e=>Heap.get?_push_of_some _ e
   wp_walk using wpAny_pyIter_list e1,wpAny_pyIter_list e2
   exact⟨_,rfl,q⟩
theorem yW{b:Bool}{a i:Addr}{h:Heap}(e:h.get? i=some (itO b a)):SI b h i a 0:=by
 cases b with
 |true=>exact⟨_,e,rfl,rfl⟩
 |false=>exact⟨_,e,rfl,rfl⟩
theorem AB{b d:Bool}{a c:Addr}{xs ys:Array Value}{Q:Value->Shared->Prop}(ha:SA b s.heap a xs)(hc:SA d s.heap c ys)
  (k:∀h' z I O i j,ZA z I O i j a c->ZSt b d h' z I O i j a c .none 0->(∀e∈[z,I,O,i,j],s.heap.objs.size<=e)->(∀e o,s.heap.get? e=some o->h'.get? e=some o)->Q (.ref z) { s with heap:=h' }) :
  wpAny (model prog w) A (call (.type "zip") [.ref a,.ref c]) Q E s:=by
 refine callType_new PySem.F.called_zip (by decide) (PySem.F.typeCall_zip_2 _ _) (PySem.F.newCall_zip_2 _ _) (fun obj=>PySem.F.args_object_init_3 obj _ _) PySem.F.entry_zip_new (DD b d a c xs ys) ⟨ha,hc,?_⟩
 have n1:(s.heap.push (itO b a)).objs.size=s.heap.objs.size+1:=Heap.size_push ..
 have n2:(zG2 b d s.heap a c).objs.size=s.heap.objs.size+2:=by rw[Heap.size_push,n1]
 have n3:((zG2 b d s.heap a c).push { cls:=.type "tuple",data:=.seq #[.ref s.heap.objs.size,.ref (s.heap.push (itO b a)).objs.size] }).objs.size=s.heap.objs.size+3:=by rw[Heap.size_push,n2]
 have n4:(zG4 b d s.heap a c).objs.size=s.heap.objs.size+4:=by rw[Heap.size_push,n3]
 have p5:(zG5 b d s.heap a c).get? (zG4 b d s.heap a c).objs.size=some _:=Heap.get?_push_size _ rfl
 have p4:(zG5 b d s.heap a c).get? ((zG2 b d s.heap a c).push { cls:=.type "tuple",data:=.seq #[.ref s.heap.objs.size,.ref (s.heap.push (itO b a)).objs.size] }).objs.size=some _:=Heap.get?_push_of_some _ (Heap.get?_push_size _ rfl)
 have p3:(zG5 b d s.heap a c).get? (zG2 b d s.heap a c).objs.size=some _:=Heap.get?_push_of_some _ (Heap.get?_push_of_some _ (Heap.get?_push_size _ rfl))
 have p2:(zG5 b d s.heap a c).get? (s.heap.push (itO b a)).objs.size=some _:=Heap.get?_push_of_some _ (Heap.get?_push_of_some _ (Heap.get?_push_of_some _ (Heap.get?_push_size _ rfl)))
 have p1:(zG5 b d s.heap a c).get? s.heap.objs.size=some _:=Heap.get?_push_of_some _ (Heap.get?_push_of_some _ (Heap.get?_push_of_some _ (Heap.get?_push_of_some _ (Heap.get?_push_size _ rfl))))
 have la:=ha.lt
 have lc:=hc.lt
 rw[n4,n2,n3]at p5
 rw[n2,n1]at p3
 rw[n3]at p4
 rw[n1]at p2
 show _/\_
 rw[n4]
 refine⟨⟨_,p5,rfl⟩,k _ (s.heap.objs.size+4) (s.heap.objs.size+2) (s.heap.objs.size+3) s.heap.objs.size (s.heap.objs.size+1) ⟨?_,?_,?_,?_,?_,?_,?_,?_,?_,?_,?_,?_,?_,?_,?_,?_,?_,?_⟩ ⟨p5,p3,⟨_,_,p4⟩,yW p1,yW p2⟩ (fun e he=>?_) fun e o x=>Heap.get?_push_of_some _ (Heap.get?_push_of_some _ (Heap.get?_push_of_some _ (Heap.get?_push_of_some _ (Heap.get?_push_of_some _ x))))⟩
 case refine_19=>
  simp only[List.mem_cons,List.not_mem_nil,or_false]at he
  rcases he with e1|e1|e1|e1|e1<;>rw[e1]<;>first|exact Nat.le_refl _|exact Nat.le_add_right _ _
 all_goals first|exact Nat.ne_of_lt (by omega)|exact Nat.ne_of_gt (by omega)|exact Nat.ne_of_lt (Nat.lt_of_lt_of_le la (by omega))|exact Nat.ne_of_lt (Nat.lt_of_lt_of_le lc (by omega))
end
noncomputable def Sq(K:PySem.W.Frag):Bool->Hp->Addr->List V->Prop
 |true,H,a,xs=>SqL K H a xs
 |false,H,a,xs=>SqT K H a xs
section
variable{X:Cx}{pins:List (Addr×Obj)}{σ:L2.St}{H:Hp}{s:Shared}{h':Heap}
theorem _root_.L2.Inv.turnedL{t':Nat}{ch:List Addr}(I:Inv X pins σ H s)(k:∀b o,b∉ch->s.heap.get? b=some o->h'.get? b=some o)(hf:∀b∈ch,xi X pins H b):Inv X pins σ H { s with heap:=h',toks:=t' }:=by
 have nit:∀b u,H b=some u->b∉ch:=fun b u e z=>by rw[(hf b z).1]at e;cases e
 refine I.step (g':=s.gens) (d':=s.drawn) (ch:=ch) (fun b hb=>⟨(hf b hb).2.2.2.1,(hf b hb).2.1,(hf b hb).2.2.2.2.1,(hf b hb).2.2.2.2.2⟩) (fun b o _ _ hc e _=>k b o hc e) (fun b o _ _ hc e _=>⟨o.slots,k b o hc e⟩) (fun _ _ _ _ n=>n)
  (fun b o hc e=>⟨o,k b o hc e⟩) (fun _ _ e=>e) (fun _ _ _ e=>e) (fun b ps e=>⟨#[],by rw[e];simp⟩) (fun m hm=>?_) (fun b u e=>?_) I.bare
 ·obtain⟨o,es,ep,ho,r⟩:=hm
  exact⟨o,es,ep,k _ o (fun z=>(hf _ z).2.1 rfl) ho,r⟩
 ·refine(I.hok b u e).stay (fun c v hc q=>k c v ?_ q) (fun _ q=>q) fun _ _ q=>q
  rcases hc with z|z
  ·rw[z];exact nit b u e
  ·exact nit c _ z
theorem _root_.L2.Inv.sq{b:Bool}{a:Addr}{xs:List V}(I:Inv X pins σ H s)(h:Sq X.K b H a xs):∃its:List Value,b8 xs its/\SA b s.heap a its.toArray:=by
 cases b with
 |true=>obtain⟨its,r,p,_⟩:=I.list h;exact⟨its,r,p.isList⟩
 |false=>obtain⟨its,r,p,_⟩:=I.tuple h;exact⟨its,r,p⟩
theorem _root_.L2.Inv.sq_inj{b:Bool}{a:Addr}{xs ys:List V}(I:Inv X pins σ H s)(h:Sq X.K b H a xs)(h2:Sq X.K b H a ys):xs=ys:=by
 cases b with
 |true=>exact I.list_inj h h2
 |false=>exact I.tuple_inj h h2
end
noncomputable def Itz(K:PySem.W.Frag)(b d:Bool)(a c:Addr):It:=
  ⟨fun i H=>∃xs ys x y,Sq K b H a xs/\Sq K d H c ys/\xs[i]?=some x/\ys[i]?=some y,
   fun i H v H'=>∃p x y,v=.ref p/\H p=none/\H'=upd H p (.tup [x,y])/\(∀xs,Sq K b H a xs->xs[i]?=some x)/\∀ys,Sq K d H c ys->ys[i]?=some y,
   fun i H=>∃xs ys,Sq K b H a xs/\Sq K d H c ys/\(xs.length<=i\/ys.length<=i)⟩
theorem ve{h:Heap}{ob o:Obj}{e:Addr}(q:(h.push ob).get? e=some o)(ne:e≠h.objs.size):h.get? e=some o:=(Heap.get?_push_ne h e ob ne).symm.trans q
theorem vi{P:Program}{w:World}{H:Hp}{h:Heap}{a:Addr}{x y:V}{u v:Value}(e:h.get? a=some { cls:=.type "tuple",data:=.seq #[u,v] })(rx:dj x u)(ry:dj y v):dz P w H h a (.tup [x,y]):=
 ⟨by show 2<=sizeLine;decide,[u,v],.cons rx (.cons ry .nil),⟨_,e,rfl,_,rfl⟩⟩
theorem AX{P:Program}{w:World}{K:PySem.W.Frag}{es:List Expr}{k:Nat}{pos:Pos}{b d:Bool}{z I O i j a c:Addr}(D:ZA z I O i j a c) :
  Dx P w K (.Tuple es k pos) (Itz K b d a c) [z,I,O,i,j] z (fun n h=>ZSt b d h z I O i j a c .none n) where
 mem:=by simp
 obj:=fun n h st e he=>by
  obtain⟨hz,hI,⟨p,q,hO⟩,h1,h2⟩:=st
  simp only[List.mem_cons,List.not_mem_nil,or_false]at he
  rcases he with rfl|rfl|rfl|rfl|rfl
  ·exact⟨_,hz,fun v q=>by cases q⟩
  ·exact⟨_,hI,fun v q=>by cases q⟩
  ·exact⟨_,hO,fun v q=>by cases q⟩
  ·exact h1.obj
  ·exact h2.obj
 keep:=fun n h h' st kp=>st.at_ kp
 item:=by
  intro X hP hw hK hc n pins s σ H E Iv hf st hg
  subst hP hw hK
  obtain⟨xs,ys,x,y,qa,qc,hx,hy⟩:=hg
  obtain⟨ia,ra,sa⟩:=Iv.sq qa
  obtain⟨ic,rc,sc⟩:=Iv.sq qc
  obtain⟨u,hu,ru⟩:=ra.get hx
  obtain⟨v,hv,rv⟩:=rc.get hy
  refine AA D st sa sc (x:=u) (y:=v) (by simpa using hu) (by simpa using hv) fun h1 st1 T1 up1=>⟨_,rfl,wpAny_letOwnedTupleGo_zip st1.hz fun h2 z2 s2=>?_⟩
  have hfr:H s.heap.objs.size=none:=Iv.hok.fresh (Nat.le_refl _)
  have sz:∀e∈[z,I,O,i,j],e<s.heap.objs.size:=fun e he=>by
   simp only[List.mem_cons,List.not_mem_nil,or_false]at he
   obtain⟨hz,hI,⟨p,q,hO⟩,h1',h2'⟩:=st
   rcases he with rfl|rfl|rfl|rfl|rfl
   ·exact Heap.lt_size hz
   ·exact Heap.lt_size hI
   ·exact Heap.lt_size hO
   ·obtain⟨o,e,_⟩:=h1'.obj;exact Heap.lt_size e
   ·obtain⟨o,e,_⟩:=h2'.obj;exact Heap.lt_size e
  have T2:h2.get? s.heap.objs.size=some { cls:=.type "tuple",data:=.seq #[u,v] }:=s2.extBut _ _ (Nat.ne_of_gt (sz z (by simp))) T1
  have I1:Inv X pins σ (upd H s.heap.objs.size (.tup [x,y])) { s with heap:=s.heap.push { cls:=.type "tuple",data:=.seq #[u,v] },toks:=s.toks }:=
   Iv.laid (fun b o e=>Heap.get?_push_of_some _ e) (Nat.le_refl _) (vi (Heap.get?_push_size _ rfl) ru rv)
  have fr2:∀e∈[z,I,O,i,j],(upd H s.heap.objs.size (.tup [x,y])) e=none:=fun e he=>by rw[bB (Nat.ne_of_lt (sz e he))];exact(hf e he).1
  have I2:Inv X pins σ (upd H s.heap.objs.size (.tup [x,y])) { s with heap:=h2,toks:=s.toks }:=
   Inv.turnedL (s:={ s with heap:=s.heap.push { cls:=.type "tuple",data:=.seq #[u,v] },toks:=s.toks }) (h':=h2) (t':=s.toks) (ch:=[z,I,O,i,j]) I1 (fun e o hn q=>by
    by_cases ce:e=s.heap.objs.size
    ·subst ce
     have q':(s.heap.push { cls:=.type "tuple",data:=.seq #[u,v] }).get? s.heap.objs.size=some o:=q
     rw[Heap.get?_push_size _ rfl]at q'
     cases q';exact T2
    ·have q':s.heap.get? e=some o:=ve q ce
     simp only[List.mem_cons,List.not_mem_nil,or_false,not_or]at hn
     exact s2.extBut _ _ hn.1 (up1 e o hn.1 hn.2.2.1 hn.2.2.2.1 hn.2.2.2.2 q')) fun e he=>⟨fr2 e he,(hf e he).2⟩
  refine⟨.ref s.heap.objs.size,_,I2,rfl,⟨_,x,y,rfl,hfr,rfl,fun xs' q=>by rw[Iv.sq_inj q qa];exact hx,fun ys' q=>by rw[Iv.sq_inj q qc];exact hy⟩,?_,fr2⟩
  obtain⟨_,hI1,⟨p,q,hO1⟩,i1,j1⟩:=st1
  exact⟨z2,s2.extBut _ _ D.Iz hI1,⟨p,q,s2.extBut _ _ D.Oz hO1⟩,i1.at_ fun o e=>s2.extBut _ _ D.iz e,j1.at_ fun o e=>s2.extBut _ _ D.jz e⟩
 done:=by
  intro X hP hw hK hc n pins s σ H E Iv hf st hg
  subst hP hw hK
  obtain⟨xs,ys,qa,qc,hx⟩:=hg
  obtain⟨ia,ra,sa⟩:=Iv.sq qa
  obtain⟨ic,rc,sc⟩:=Iv.sq qc
  have la:=ra.length
  have lc:=rc.length
  refine DH (Iv.ok.hd hc) D st sa sc (hx.elim (fun q=>.inl (by simp;omega)) fun q=>.inr (by simp;omega)) fun h1 up1=>⟨rfl,?_⟩
  exact Iv.turnedL (t':=s.toks) (ch:=[z,I,O,i,j]) (fun e o hn q=>by
   simp only[List.mem_cons,List.not_mem_nil,or_false,not_or]at hn
   exact up1 e o hn.1 hn.2.2.1 hn.2.2.2.1 hn.2.2.2.2 q) hf
 self:=fun _ _ _ _ _ st h=>wpAny_pyIter_zip st.hz h
noncomputable def Ln(K:PySem.W.Frag)(ta:TA):TI:=fun σ H R=>ta σ H fun vs H2=>∃b d a c,vs=[.ref a,.ref c]/\(∃xs,Sq K b H2 a xs)/\(∃ys,Sq K d H2 c ys)/\R (Itz K b d a c) H2
theorem Ci:bootBuiltins "zip"=some (.type "zip"):=rfl
section
variable{X:Cx}{pos:Pos}
theorem Hd{es:List Expr}{k:Nat}{tp p:Pos}{a c:Expr}{ta:TA}(hg:Gl X "zip")(hm:X.mg "zip"=none)(ha:WA X [a,c] ta)
  (hs:starEach [a,c] X.env=(false,eval a X.env)::starEach [c] X.env:=by rfl) (hpl:(backTo pos (starEach [c] X.env)).any (·.1)=false:=by rfl):WI X (.Tuple es k tp) (.Call (.Name "zip" p) [a,c] [] pos) (Ln X.K ta):=by
 constructor
 intro pins s σ H R I h
 refine wpAny_Call_Name_kw (mH I hg hm OP.Ci ?_)
 refine PyProof.Rows.callWith_type1 (thn (ha.h pos pins s σ H _ I h) fun us s1 hz=>?_) hs hpl
 obtain⟨vs,H1,I1,r1,q1⟩:=hz
 obtain⟨b,d,aa,cc,rfl,⟨xs,qa⟩,⟨ys,qc⟩,q⟩:=q1
 obtain⟨u,v,rfl,ru,rv⟩:=Eh r1
 cases ru
 cases rv
 obtain⟨ia,ra,sa⟩:=I1.sq qa
 obtain⟨ic,rc,sc⟩:=I1.sq qc
 refine AB sa sc fun h1 z II O i j D st hi up=>wpAny_pyIter_zip st.hz ⟨z,[z,II,O,i,j],_,_,H1,rfl,I1.kept (t':=s1.toks) up,AX D,st,fun e he=>?_,q⟩
 exact I1.fpOk (hi e he) (I1.hok.fresh (hi e he))
noncomputable def x8:U->Sto->Option (List U×(Sto->Prop))
 |.tup us,_=>some (us,fun _=>True)
 |.ref l,S=>match S[l]? with
  |some (.lst us)=>some (us,fun S=>S[l]?=some (.lst us))
  |_=>none
 |_,_=>none
noncomputable def Bu(us ws:List U):List U:=(us.zip ws).map fun p=>.tup [p.1,p.2]
noncomputable def Lo(ca cb:CE):CI:=fun ρ S=>(ca ρ S).bind fun p=>(cb ρ p.2).bind fun q=>(x8 p.1 q.2).bind fun x=>(x8 q.1 q.2).bind fun y=>some (Bu x.1 y.1,fun S=>x.2 S/\y.2 S,q.2)
theorem xZ{K:PySem.W.Frag}{m:List Addr}{S:Sto}{H:Hp}{u:U}{v:V}{us:List U}{ok:Sto->Prop}(sr:Sr K m S H)(iu:Is K m H v u)(h:x8 u S=some (us,ok)) :
  ∃b a,v=.ref a/\(∃xs,Sq K b H a xs)/\∀m2 S2 H2,Ext K m H m2 H2->Sr K m2 S2 H2->ok S2->∃xs,Sq K b H2 a xs/\IsL K m2 H2 xs us:=by
 cases u with
 |tup ws=>
  cases h
  obtain⟨a,xs,rfl,sq,il⟩:=iu.of_tup
  exact⟨false,a,rfl,⟨xs,sq⟩,fun m2 S2 H2 e _ _=>⟨xs,e.keep.t _ _ sq,il.mono e⟩⟩
 |ref l=>
  simp only[x8]at h
  split at h<;>try cases h
  rename_i us hS
  obtain⟨a,ha,rfl⟩:=iu.of_ref
  obtain⟨a',ha',xs,hx,il⟩:=sr.get hS
  rw[ha]at ha';cases ha'
  refine⟨true,a,rfl,⟨xs,SqL.of hx⟩,fun m2 S2 H2 e sr2 hok=>?_⟩
  obtain⟨a',ha',xs,hx,il⟩:=sr2.get hok
  rw[e.get ha]at ha';cases ha'
  exact⟨xs,SqL.of hx,il⟩
 |_=>simp[x8]at h
theorem Hw{es:List Expr}{k:Nat}{tp p:Pos}{a c:Expr}{ca cc:CE}(hg:Gl X "zip")(hm:X.mg "zip"=none)(ha:QE X a ca)(hc:QE X c cc)
  (hs:starEach [a,c] X.env=(false,eval a X.env)::starEach [c] X.env:=by rfl) (hs2:starEach [c] X.env=(false,eval c X.env)::starEach [] X.env:=by rfl) (hpl:(backTo pos (starEach [c] X.env)).any (·.1)=false:=by rfl) :
  QI X (.Tuple es k tp) (.Call (.Name "zip" p) [a,c] [] pos) (Lo ca cc):=(Hd hg hm (eQ ha (eQ hc kj hs2) hs) hs hpl).imp fun σ H R hz=>vN hz fun m ρ S us ok S' sr lr hf post=>by
 obtain⟨⟨x,S1⟩,h1,h⟩:=Option.bind_eq_some_iff.mp hf
 obtain⟨⟨y,S2⟩,h2,h⟩:=Option.bind_eq_some_iff.mp h
 obtain⟨⟨xs,okx⟩,h3,h⟩:=Option.bind_eq_some_iff.mp h
 obtain⟨⟨ys,oky⟩,h4,h⟩:=Option.bind_eq_some_iff.mp h
 cases h
 refine⟨m,ρ,S,x,S1,sr,lr,h1,fun m1 v1 H1 e1 sr1 i1=>⟨m1,ρ,S1,y,_,sr1,lr.mono e1,h2,fun m2 v2 H2 e2 sr2 i2=>?_⟩⟩
 obtain⟨b,aa,rfl,q1,k1⟩:=xZ sr2 (i1.mono e2) h3
 obtain⟨d,bb,rfl,q2,k2⟩:=xZ sr2 i2 h4
 refine⟨b,d,aa,bb,rfl,q1,q2,post m2 H2 _ (e1.trans e2) sr2 fun m3 S3 H3 i e3 sr3 hok=>?_⟩
 obtain⟨vs,sq1,l1⟩:=k1 m3 S3 H3 e3 sr3 hok.1
 obtain⟨ws,sq2,l2⟩:=k2 m3 S3 H3 e3 sr3 hok.2
 have n1:=l1.length
 have n2:=l2.length
 refine⟨fun u hu=>?_,fun hi=>⟨vs,ws,sq1,sq2,?_⟩⟩
 ·simp only[Bu,List.getElem?_map,Option.map_eq_some_iff]at hu
  obtain⟨⟨p,q⟩,hz,rfl⟩:=hu
  obtain⟨hp,hq⟩:=List.getElem?_zip_eq_some.mp hz
  obtain⟨vp,ep,ip⟩:=l1.getD hp
  obtain⟨vq,eq,iq⟩:=l2.getD hq
  refine⟨⟨vs,ws,vp,vq,sq1,sq2,ep,eq⟩,fun v H4 hy=>?_⟩
  obtain⟨r,x',y',rfl,hr,rfl,f1,f2⟩:=hy
  have:=f1 vs sq1
  rw[ep]at this;cases this
  have:=f2 ws sq2
  rw[eq]at this;cases this
  have ee:Ext X.K m3 H3 m3 (upd H3 r (.tup [vp,vq])):=.of (cq hr _)
  exact⟨ee,sr3.same (d9 hr _),.tup_ (SqT.of aK) (.cons_ (ip.mono ee) (.cons_ (iq.mono ee) .nil_))⟩
 ·simp only[Bu,List.length_map,List.length_zip]at hi
  omega
end
theorem FE{b:Bool}{prog:Program}{w:World}{A:Around}(hh:A.handled=none)(it a:Addr)(hne:a≠it)(ys:Array Value) :
  Draws prog w A it [it,a] ys.size (fun i v=>ys[i]?=some v) (fun i h=>SI b h it a i/\SA b h a ys) where
 live:=fun _ _ st=>let ⟨o,ho,_⟩:=st.1.obj;⟨o,ho⟩
 frame:=fun _ _ _ st hk=>⟨st.1.at_ fun o e=>hk it (by simp) o e,st.2.at_ fun o e=>hk a (by simp) o e⟩
 item:=fun i s Q E hi st hQ=>qu st.1 st.2 (y:=ys[i]) (by simp[hi]) fun h' it' s'=>hQ _ h' s.toks (by simp[hi]) ⟨it',st.2.at_ fun o e=>s'.extBut _ _ hne e⟩ s'
 done:=fun s Q E st hE=>iY hh st.1 st.2 (by simp) hE
structure ESt(b:Bool)(h:Heap)(e it a:Addr)(n:Nat):Prop where
 he:∃old,IsEnum h e it n old
 hi:SI b h it a n
theorem zu(l:Addr)(ys:Array Value)(n:Nat)(dct:Option Addr)(sl:Array (Option Value)) :
  Meets (Builtin.«enumerate.__new__» ⟨[.type "enumerate",.ref l],[]⟩) (fun _ R s=>s.heap.get? l=some { cls:=.type "tuple",dict:=dct,data:=.seq ys n,slots:=sl }/\
   R (.ok (.ret (.ref (s.heap.push (itO false l)).objs.size))) { s with heap:=(s.heap.push (itO false l)).push { cls:=.type "enumerate",data:=.fields #[.none,.bool false,.ref s.heap.objs.size,rawInt 0,.none,.none] } }):=
 .of_wp fun prog w A R s q=>by
  obtain⟨hp,g,d,tk,os⟩:=s
  obtain⟨gl,q⟩:=q
  have sb:=sub_enumerate
  have tl:Heap.IsTuple (Shared.heap ⟨hp,g,d,tk,os⟩) l ys:=⟨_,gl,rfl,n,rfl⟩
  wp_walk using wpAny_loadPart' gl
  refine wpAny_stack_any (fun st=>wpAny_pure ?_)
  split
  ·rename_i c _ _ _ _ _
   cases (c == Value.type "enumerate")<;>(wp_walk using wpAny_loadPart' gl,wpAny_pyIter_tuple tl;exact⟨_,rfl,q⟩)
  ·wp_walk using wpAny_loadPart' gl,wpAny_pyIter_tuple tl
   exact⟨_,rfl,q⟩
theorem zv{b:Bool}{prog:Program}{w:World}{A:Around}{E:Value->Shared->Prop}{s:Shared}{a:Addr}{ys:Array Value}{Q:Value->Shared->Prop}(ha:SA b s.heap a ys)
  (k:∀h' e it,e≠it->s.heap.objs.size<=e->s.heap.objs.size<=it->ESt b h' e it a 0->(∀c o,s.heap.get? c=some o->h'.get? c=some o)->Q (.ref e) { s with heap:=h' }) :
  wpAny (model prog w) A (call (.type "enumerate") [.ref a]) Q E s:=by
 cases b with
 |true=>exact call_enumerate_list ha fun h' e1 e2 sz up=>k h' _ _ (by omega) (Nat.le_add_right _ _) (Nat.le_refl _) ⟨⟨_,e1⟩,e2⟩ up
 |false=>
  obtain⟨⟨c,dct,dt,sl⟩,gl,hc,n,hd⟩:=ha
  simp only at hc hd
  subst hc hd
  refine callType_new PySem.F.called_enumerate (by decide) (PySem.F.typeCall_enumerate_1 _) (PySem.F.newCall_enumerate_1 _) (fun obj=>PySem.F.args_object_init_2 obj _) PySem.F.entry_enumerate_new (zu a ys n dct sl) ⟨gl,?_⟩
  have n1:(s.heap.push (itO false a)).objs.size=s.heap.objs.size+1:=Heap.size_push ..
  have p2:=Heap.get?_push_size (s.heap.push (itO false a)) (o:={ cls:=.type "enumerate",data:=.fields #[.none,.bool false,.ref s.heap.objs.size,rawInt 0,.none,.none] }) rfl
  have p1:((s.heap.push (itO false a)).push { cls:=.type "enumerate",data:=.fields #[.none,.bool false,.ref s.heap.objs.size,rawInt 0,.none,.none] }).get? s.heap.objs.size=some (itO false a):=Heap.get?_push_of_some _ (Heap.get?_push_size _ rfl)
  rw[n1]at p2
  show _/\_
  rw[n1]
  exact⟨⟨_,p2,rfl⟩,k _ (s.heap.objs.size+1) s.heap.objs.size (Nat.ne_of_gt (Nat.lt_succ_self _)) (Nat.le_add_right _ _) (Nat.le_refl _) ⟨⟨_,p2⟩,yW p1⟩ fun c o x=>Heap.get?_push_of_some _ (Heap.get?_push_of_some _ x)⟩
theorem B5{b:Bool}{prog:Program}{w:World}{A:Around}{E:Value->Shared->Prop}{s:Shared}{e it a:Addr}{i:Int}{j:Nat}{ys:Array Value}{old:Value}{Q:Option Value->Shared->Prop}(hh:A.in1.handled=none)(he:IsEnum s.heap e it i old)(hi:SI b s.heap it a j)(ha:SA b s.heap a ys)(hx:ys[j]?=none)
  (k:∀h',Heap.ExtBut it s.heap h'->Q none { s with heap:=h' }):wpAny (model prog w) A (pyNext (.ref e)) Q E s:=by
 have ty:s.TypeIs (.ref e) "enumerate":=⟨_,he,rfl⟩
 unfold pyNext
 refine wpAny_bind (wpAny_attempt (wpAny_callSpecial?_slot (name:=Str.ofString "__next__") ty PySem.F.slot_enumerate_next (wpAny_call_entry PySem.F.slot_enumerate_next ty PySem.F.entry_enumerate_next ?_ (PySem.F.args_enumerate_next_1 _))))
 show wpAny _ _ (field (.ref e) 2 >>= fun _=>_) _ _ _
 refine wpAny_bind (wpAny_field he rfl (x:=.ref it) rfl (wpAny_bind (iY hh hi ha hx fun h' x he' hx'=>?_)))
 obtain⟨o,ho,co⟩:=hx'
 exact wpAny_bind (wpAny_isInstance (T:="StopIteration") (b:=true) ⟨o,ho,co⟩ isSubtype_stop (wpAny_pure (k _ he')))
noncomputable def Ite(K:PySem.W.Frag)(b:Bool)(a:Addr):It:=
  ⟨fun i H=>∃xs x,Sq K b H a xs/\xs[i]?=some x,
   fun i H v H'=>∃p x,v=.ref p/\H p=none/\H'=upd H p (.tup [.int i,x])/\∀xs,Sq K b H a xs->xs[i]?=some x,
   fun i H=>∃xs,Sq K b H a xs/\xs.length<=i⟩
theorem xK{P:Program}{w:World}{K:PySem.W.Frag}{es:List Expr}{k:Nat}{pos:Pos}{b:Bool}{e it a:Addr}(ne:e≠it)(nae:a≠e)(nai:a≠it) :
  Dx P w K (.Tuple es k pos) (Ite K b a) [e,it] e (fun n h=>ESt b h e it a n) where
 mem:=by simp
 obj:=fun n h st c hc=>by
  obtain⟨⟨old,he⟩,hi⟩:=st
  simp only[List.mem_cons,List.not_mem_nil,or_false]at hc
  rcases hc with rfl|rfl
  ·exact⟨_,he,fun v q=>by cases q⟩
  ·exact hi.obj
 keep:=fun n h h' st kp=>let ⟨old,he⟩:=st.he;⟨⟨old,kp e (by simp) _ he⟩,st.hi.at_ fun o q=>kp it (by simp) o q⟩
 item:=by
  intro X hP hw hK hc n pins s σ H E Iv hf st hg
  subst hP hw hK
  obtain⟨xs,x,qa,hx⟩:=hg
  obtain⟨ia,ra,sa⟩:=Iv.sq qa
  obtain⟨u,hu,ru⟩:=ra.get hx
  obtain⟨⟨old,he⟩,hi⟩:=st
  have hlt:n<ia.toArray.size:=by simpa using (List.getElem?_eq_some_iff.mp hu).1
  refine wpAny_pyNext_enum_itemD (FE (b:=b) (show X.A.in1.handled=none from Iv.ok.hd hc) it a nai ia.toArray) he ⟨hi,sa⟩ hlt ne (by simp[ne,Ne.symm nae]) fun y h1 tk py out1 st1 T1 sz1 up1=>⟨_,rfl,wpAny_letOwnedTupleGo_enum out1 fun h2 e2 s2=>?_⟩
  have ey:y=u:=by
   have p':ia.toArray[n]?=some y:=py
   rw[List.getElem?_toArray,hu]at p';cases p';rfl
  subst ey
  have hfr:H s.heap.objs.size=none:=Iv.hok.fresh (Nat.le_refl _)
  have elt:e<s.heap.objs.size:=Heap.lt_size he
  have ilt:it<s.heap.objs.size:=by obtain⟨o,q,_⟩:=hi.obj;exact Heap.lt_size q
  have sz:∀c∈[e,it],c<s.heap.objs.size:=fun c hc=>by
   simp only[List.mem_cons,List.not_mem_nil,or_false]at hc
   rcases hc with rfl|rfl
   ·exact elt
   ·exact ilt
  have T2:h2.get? s.heap.objs.size=some { cls:=.type "tuple",data:=.seq #[.int n tk,y] }:=s2.extBut _ _ (Nat.ne_of_gt elt) T1
  have I1:Inv X pins σ (upd H s.heap.objs.size (.tup [.int n,x])) { s with heap:=s.heap.push { cls:=.type "tuple",data:=.seq #[.int n tk,y] },toks:=s.toks }:=
   Iv.laid (fun b o e=>Heap.get?_push_of_some _ e) (Nat.le_refl _) (vi (Heap.get?_push_size _ rfl) ⟨tk,rfl⟩ ru)
  have fr2:∀c∈[e,it],(upd H s.heap.objs.size (.tup [.int n,x])) c=none:=fun c hc=>by rw[bB (Nat.ne_of_lt (sz c hc))];exact(hf c hc).1
  have I2:Inv X pins σ (upd H s.heap.objs.size (.tup [.int n,x])) { s with heap:=h2,toks:=tk+1 }:=
   Inv.turnedL (s:={ s with heap:=s.heap.push { cls:=.type "tuple",data:=.seq #[.int n tk,y] },toks:=s.toks }) (h':=h2) (t':=tk+1) (ch:=[e,it]) I1 (fun c o hn q=>by
    by_cases ce:c=s.heap.objs.size
    ·subst ce
     have q':(s.heap.push { cls:=.type "tuple",data:=.seq #[.int n tk,y] }).get? s.heap.objs.size=some o:=q
     rw[Heap.get?_push_size _ rfl]at q'
     cases q';exact T2
    ·have q':s.heap.get? c=some o:=ve q ce
     simp only[List.mem_cons,List.not_mem_nil,or_false,not_or]at hn
     exact s2.extBut _ _ hn.1 (up1 c o hn.1 hn.2 q')) fun c hc=>⟨fr2 c hc,(hf c hc).2⟩
  refine⟨.ref s.heap.objs.size,_,I2,rfl,⟨_,x,rfl,hfr,rfl,fun xs' q=>by rw[Iv.sq_inj q qa];exact hx⟩,⟨⟨_,by simpa using e2⟩,st1.1.at_ fun o q=>s2.extBut _ _ (Ne.symm ne) q⟩,fr2⟩
 done:=by
  intro X hP hw hK hc n pins s σ H E Iv hf st hg
  subst hP hw hK
  obtain⟨xs,qa,hx⟩:=hg
  obtain⟨ia,ra,sa⟩:=Iv.sq qa
  have la:=ra.length
  obtain⟨⟨old,he⟩,hi⟩:=st
  refine B5 (show X.A.in1.handled=none from Iv.ok.hd hc) he hi sa (by simp;omega) fun h1 up1=>⟨rfl,?_⟩
  exact Iv.turnedL (t':=s.toks) (ch:=[e,it]) (fun c o hn q=>by
   simp only[List.mem_cons,List.not_mem_nil,or_false,not_or]at hn
   exact up1 c o hn.2 q) hf
 self:=fun _ _ _ _ _ st h=>let ⟨old,he⟩:=st.he;wpAny_pyIter_enum he h
noncomputable def IX(K:PySem.W.Frag)(ta:TA):TI:=fun σ H R=>ta σ H fun vs H2=>∃b a,vs=[.ref a]/\(∃xs,Sq K b H2 a xs)/\R (Ite K b a) H2
theorem zU:bootBuiltins "enumerate"=some (.type "enumerate"):=rfl
section
variable{X:Cx}{pos:Pos}
theorem Ed{es:List Expr}{k:Nat}{tp p:Pos}{a:Expr}{ta:TA}(hg:Gl X "enumerate")(hm:X.mg "enumerate"=none)(ha:WA X [a] ta)
  (hs:starEach [a] X.env=(false,eval a X.env)::starEach [] X.env:=by rfl) (hpl:(backTo pos (starEach [] X.env)).any (·.1)=false:=by rfl):WI X (.Tuple es k tp) (.Call (.Name "enumerate" p) [a] [] pos) (IX X.K ta):=by
 constructor
 intro pins s σ H R I h
 refine wpAny_Call_Name_kw (mH I hg hm OP.zU ?_)
 refine PyProof.Rows.callWith_type1 (thn (ha.h pos pins s σ H _ I h) fun us s1 hz=>?_) hs hpl
 obtain⟨vs,H1,I1,r1,q1⟩:=hz
 obtain⟨b,aa,rfl,⟨xs,qa⟩,q⟩:=q1
 obtain⟨u,rfl,ru⟩:=rR r1
 cases ru
 obtain⟨ia,ra,sa⟩:=I1.sq qa
 refine zv sa fun h1 e it ne he hi st up=>?_
 obtain⟨old,hE⟩:=st.he
 refine wpAny_pyIter_enum hE ⟨e,[e,it],_,_,H1,rfl,I1.kept (t':=s1.toks) up,xK ne (Nat.ne_of_lt (Nat.lt_of_lt_of_le sa.lt he)) (Nat.ne_of_lt (Nat.lt_of_lt_of_le sa.lt hi)),st,fun c hc=>?_,q⟩
 simp only[List.mem_cons,List.not_mem_nil,or_false]at hc
 rcases hc with rfl|rfl
 ·exact I1.fpOk he (I1.hok.fresh he)
 ·exact I1.fpOk hi (I1.hok.fresh hi)
noncomputable def sR(us:List U):List U:=us.zipIdx.map fun p=>.tup [.int p.2,p.1]
noncomputable def mL(ca:CE):CI:=fun ρ S=>(ca ρ S).bind fun p=>(x8 p.1 p.2).bind fun x=>some (sR x.1,x.2,p.2)
theorem qy{es:List Expr}{k:Nat}{tp p:Pos}{a:Expr}{ca:CE}(hg:Gl X "enumerate")(hm:X.mg "enumerate"=none)(ha:QE X a ca)
  (hs:starEach [a] X.env=(false,eval a X.env)::starEach [] X.env:=by rfl) (hpl:(backTo pos (starEach [] X.env)).any (·.1)=false:=by rfl) :
  QI X (.Tuple es k tp) (.Call (.Name "enumerate" p) [a] [] pos) (mL ca):=(Ed hg hm (eQ ha kj hs) hs hpl).imp fun σ H R hz=>vN hz fun m ρ S us ok S' sr lr hf post=>by
 obtain⟨⟨x,S1⟩,h1,h⟩:=Option.bind_eq_some_iff.mp hf
 obtain⟨⟨xs,okx⟩,h3,h⟩:=Option.bind_eq_some_iff.mp h
 cases h
 refine⟨m,ρ,S,x,_,sr,lr,h1,fun m1 v1 H1 e1 sr1 i1=>?_⟩
 obtain⟨b,aa,rfl,q1,k1⟩:=xZ sr1 i1 h3
 refine⟨b,aa,rfl,q1,post m1 H1 _ e1 sr1 fun m3 S3 H3 i e3 sr3 hok=>?_⟩
 obtain⟨vs,sq1,l1⟩:=k1 m3 S3 H3 e3 sr3 hok
 have n1:=l1.length
 refine⟨fun u hu=>?_,fun hi=>⟨vs,sq1,?_⟩⟩
 ·simp only[sR,List.getElem?_map,Option.map_eq_some_iff,List.getElem?_zipIdx]at hu
  obtain⟨⟨p,q⟩,⟨y,hp,e⟩,rfl⟩:=hu
  cases e
  obtain⟨vp,ep,ip⟩:=l1.getD hp
  refine⟨⟨vs,vp,sq1,ep⟩,fun v H4 hy=>?_⟩
  obtain⟨r,x',rfl,hr,rfl,f1⟩:=hy
  have:=f1 vs sq1
  rw[ep]at this;cases this
  have ee:Ext X.K m3 H3 m3 (upd H3 r (.tup [.int i,vp])):=.of (cq hr _)
  exact⟨ee,sr3.same (d9 hr _),.tup_ (SqT.of aK) (.cons_ (by simp only[Nat.zero_add];exact .int_) (.cons_ (ip.mono ee) .nil_))⟩
 ·simp only[sR,List.length_map,List.length_zipIdx]at hi
  omega
noncomputable def nL:List (CE×CE)->Rho->Sto->Option (List (Key×U)×Sto)
 |[],_,S=>some ([],S)
 |(ck,cv)::r,ρ,S=>(ck ρ S).bind fun p=>(cv ρ p.2).bind fun q=>(mK p.1).bind fun k=>(nL r ρ q.2).bind fun z=>some ((k,q.1)::z.1,z.2)
noncomputable def Ir(kus:List (Key×U))(au:List (Key×U)):List (Key×U):=kus.foldl (fun acc kv=>iW acc kv.1 kv.2) au
noncomputable def yE(kus:List (Key×U)):List (Key×U):=Ir kus []
noncomputable def Jj(prs:List (CE×CE)):CE:=fun ρ S=>(nL prs ρ (S++[.dic []])).bind fun q=>match q.2[S.length]? with
 |some (.dic [])=>some (.ref S.length,q.2.set S.length (.dic (yE q.1)))
 |_=>none
end
theorem sC:∀{vs:List Value} {ns:List Int},IntsAre vs ns->b8 (ns.map V.int) vs
 |_,_,.nil=>.nil
 |_,_,.cons n t r=>.cons ⟨t,rfl⟩ (sC r)
theorem jn:∀{ns:List Int} {vs:List Value},b8 (ns.map V.int) vs->IntsAre vs ns
 |[],_,h=>by cases h;exact .nil
 |n::ns,_,.cons r t=>by
  obtain⟨k,rfl⟩:=r
  exact .cons n k (jn t)
noncomputable def yd(K:PySem.W.Frag):List V->Hp->VK->Prop:=fun xs H Q=>∃(p:Addr) (ns:List Int),xs=[.ref p]/\(SqL K H p (ns.map V.int)\/∃kvs,H p=some (.dK kvs)/\kvs.map (·.1)=ns.map Sum.inl)/\ns.length<64/\
 ∀(l:Addr) (ms:List Int),H l=none->ms.Perm ns->ms.Pairwise (·<=·)->Q (.ref l) (upd H l (.lst (ms.map V.int)))
theorem yO{κ:Type}:∀{kvs:List (κ×V)} {vs:List (κ×Value)},KV kvs vs->vs.map (·.1)=kvs.map (·.1)
 |_,_,.nil=>rfl
 |_,_,.cons r t=>by rw[List.map_cons,List.map_cons,yO t,r.1]
theorem yH{P:Program}{w:World}{H:Hp}{h:Heap}{a:Addr}{ms:List Int}{out:Array Value}{e:Nat}(g:h.get? a=some (seqObj "list" out e))(hI:IntsAre out.toList ms)(hl:ms.length<64):dz P w H h a (.lst (ms.map V.int)):=
 ⟨by rw[List.length_map];exact Nat.le_of_lt (Nat.lt_of_lt_of_le hl (by unfold sizeLine;decide)),out.toList,e,sC hI,by rw[Array.toArray_toList];exact g⟩
theorem mX{X:Cx}(hc:X.calm=true):iV X (.builtin "sorted") (yd X.K):=by
 rintro pins s σ H xs us Q I r ⟨p,ns,rfl,src,h64,q⟩
 obtain⟨u,rfl,ru⟩:=rR r
 cases ru
 rcases src with hL|⟨kvs,hD,hk⟩
 ·obtain⟨its,rv,pl,hz⟩:=I.list hL
  have hI:=jn rv
  have fT:=rv.length
  rw[List.length_map]at fT
  refine sorted_ints pl.isList hI (by omega) fun out ms a1 a2 a3=>?_
  obtain⟨e,ge⟩:=sortedAll_at s.heap its out
  have hf:=I.hok.fresh (Nat.le_succ s.heap.objs.size)
  exact⟨.ref (s.heap.objs.size+1),_,I.laid (t':=s.toks) (fun b o e=>sortedAll_old e) (Nat.le_succ _) (yH ge a1 (by rw[a2.length_eq];exact h64)),rfl,q _ ms hf a2 a3⟩
 ·obtain⟨z,hd,vs,rel,dd⟩:=FF I.hok hD
  obtain⟨ep,da⟩:=dd.dictAt
  have lkv:kvs.length=ns.length:=by have:=congrArg List.length hk;simpa using this
  have lv:vs.length=ns.length:=by rw[<-Paired.length rel];exact lkv
  have ks:vs.map (·.1)=ns.map Sum.inl:=by
   rw[<-hk];exact yO rel
  refine Calls.call_function_entry kind_sorted plain_sorted entry_sorted (args_sorted1 _) ?_
  unfold Builtin.«sorted»
  refine wpAny_bind (m:=checkCount "sorted" 1 1 _) (wpAny_pure (wpAny_bind (PySem.W.kdu_collect (PySem.W.kdl_dict (kvs:=vs) (ep:=ep) hd) (show X.A.in1.handled=none from I.ok.hd hc) da (by rw[lv,<-lkv];exact z) fun h1 tk acc up hac=>?_)))
  have hla:acc.toList.length=ns.length:=by rw[Array.length_toList,hac.1,lv]
  have hI:IntsAre acc.toList ns:=by
   have key:∀(i:Nat) (v:Value),acc.toList[i]?=some v->∃(n:Int) (t:Tok),ns[i]?=some n/\v=Value.int n t:=fun i v e=>by
    obtain⟨k,x,e1,e2⟩:=hac.2 i v (by rw[<-Array.getElem?_toList];exact e)
    have e3:(vs.map (·.1))[i]?=some k:=by rw[List.getElem?_map,e1];rfl
    rw[ks,List.getElem?_map]at e3
    obtain⟨n,e4,e5⟩:=Option.map_eq_some_iff.mp e3
    subst e5
    rcases bZ (k:=Sum.inl n) e2 with⟨j,t,e6,e7⟩|⟨j,t,e6,e7⟩
    ·cases e6;exact⟨n,t,e4,e7⟩
    ·cases e6
   clear hac
   generalize acc.toList=L at key hla
   clear ks lv lkv h64 q hk
   induction L generalizing ns with
   |nil=>cases ns with
    |nil=>exact .nil
    |cons a b=>simp at hla
   |cons a b ih=>cases ns with
    |nil=>simp at hla
    |cons c d=>
     obtain⟨n,t,e1,e2⟩:=key 0 a (by simp)
     simp at e1;subst e1;subst e2
     exact .cons _ t (ih _ (fun i v e=>by have:=key (i+1) v (by simpa using e);simpa using this) (by simpa using hla))
  refine wpAny_bind (wpAny_newList ?_ (by rw[hla,<-lkv];exact z))
  have gL:(h1.push { cls:=.type "list",data:=.seq acc.toList.toArray }).get? h1.objs.size=some (seqObj "list" acc.toList.toArray 0):=Heap.get?_push_size _ rfl
  refine wpAny_bind (wpAny_holding (wpAny_call_entry slot_list_sort ⟨_,gL,rfl⟩ entry_list_sort (list_sort_tree (s:={ s with heap:=h1.push { cls:=.type "list",data:=.seq acc.toList.toArray },toks:=tk }) gL hI (by omega) fun out ms a1 a2 a3=>⟨_,rfl,?_⟩) (args_list_sort _)))
  obtain⟨e,ge⟩:=sortedHeap_at (out:=out) gL
  have I1:Inv X pins σ H { s with heap:=h1,toks:=tk }:=I.kept up
  have hf:=I1.hok.fresh (Nat.le_refl h1.objs.size)
  refine wpAny_pure ⟨_,rfl,.ref h1.objs.size,_,Inv.laid (s:={ s with heap:=h1,toks:=tk }) (h':=sortedHeap (h1.push { cls:=.type "list",data:=.seq acc.toList.toArray }) h1.objs.size acc.toList out) (t':=tk) I1 (fun b o g1=>?_) (Nat.le_refl _) (yH ge a1 (by rw[a2.length_eq];exact h64)),rfl,q _ ms hf a2 a3⟩
  have g1:h1.get? b=some o:=g1
  have lt1:=Heap.lt_size g1
  rw[sortedHeap_old (Nat.ne_of_lt lt1) (by rw[Heap.size_push];exact Nat.lt_succ_of_lt lt1)]
  exact Heap.get?_push_of_some _ g1
noncomputable def bO(ns:List Int):List Int:=ns.mergeSort (fun a b=>decide (a<=b))
theorem bX(ns:List Int):(bO ns).Perm ns:=List.mergeSort_perm ..
theorem mw(ns:List Int):(bO ns).Pairwise (·<=·):=by
 have:=List.pairwise_mergeSort (le:=fun(a b:Int)=>decide (a<=b)) (fun a b c h1 h2=>by simp at h1 h2 ⊢;omega) (fun a b=>by simp;omega) ns
 exact this.imp fun h=>by simpa using h
theorem qw{ns ms:List Int}(p:ms.Perm ns)(s:ms.Pairwise (·<=·)):ms=bO ns:=PySem.W.lks_uniq (p.trans (bX ns).symm) s (mw ns)
noncomputable def wF:List (Key×U)->Option (List Int)
 |[]=>some []
 |(.inl n,_)::r=>(wF r).map (n::·)
 |_=>none
theorem vB:∀{kus:List (Key×U)} {ns:List Int},wF kus=some ns->kus.map (·.1)=ns.map Sum.inl
 |[],ns,h=>by cases h;rfl
 |(k,u)::r,ns,h=>by
  cases k<;>simp only[wF]at h<;>try cases h
  obtain⟨ms,e,h⟩:=Option.map_eq_some_iff.mp h
  subst h
  simp[vB e]
noncomputable def dg:Fn
 |[.ref l],S=>match S[l]? with
  |some (.lst us)=>(ug us).bind fun ns=>if ns.length<64 then some (.ref S.length,S++[.lst ((bO ns).map U.int)])else none
  |some (.dic kus)=>(wF kus).bind fun ns=>if ns.length<64 then some (.ref S.length,S++[.lst ((bO ns).map U.int)])else none
  |_=>none
 |_,_=>none
theorem mW{K:PySem.W.Frag}:rB K (yd K) dg:=by
 intro m S H us vs u S' Q sr i hf post
 match us,hf with
 |[.ref l],hf=>
  obtain⟨v,rfl,iv⟩:=i.one
  obtain⟨a,ha,rfl⟩:=iv.of_ref
  simp only[dg]at hf
  split at hf<;>try cases hf
  ·rename_i ws hS
   obtain⟨ns,hn,h⟩:=Option.bind_eq_some_iff.mp hf
   split at h<;>try cases h
   have hc:ns.length<64:=by assumption
   obtain⟨a',ha',xs,hx,la⟩:=sr.get hS
   rw[ha]at ha';cases ha'
   rw[qN hn]at la
   rw[la.ints]at hx
   refine⟨a,ns,rfl,.inl (SqL.of hx),hc,fun p ms hp pm sm=>?_⟩
   rw[qw pm sm]
   exact fY sr (lD _) post hp
  ·rename_i ws hS
   obtain⟨ns,hn,h⟩:=Option.bind_eq_some_iff.mp hf
   split at h<;>try cases h
   have hc:ns.length<64:=by assumption
   obtain⟨a',ha',kvs,hx,ip⟩:=sr.get hS
   rw[ha]at ha';cases ha'
   refine⟨a,ns,rfl,.inr ⟨kvs,hx,by rw[ip.1,vB hn]⟩,hc,fun p ms hp pm sm=>?_⟩
   rw[qw pm sm]
   exact fY sr (lD _) post hp
section
variable{ρ:Rho}{S:Sto}{c1 c2:CS}{t ta tb:CT}{ca cb cc:CE}{cr:CA}{u x y:U}{us:List U}{i l:Nat}{f g:U->U->Sto->Option (U×Sto)}{b:Bool}
noncomputable def LX(S:Sto):Option (Option U)->Option (U×Sto)
 |some (some u)=>some (u,S)
 |_=>none
theorem F6:ag i ρ S=LX S (ρ[i]?):=rfl
theorem Ct:LX S (some (some u))=some (u,S):=rfl
theorem x_c:cC u ρ S=some (u,S):=rfl
noncomputable def Le(f:U->U->Sto->Option (U×Sto))(x:U)(q:U×Sto):=f x q.1 q.2
noncomputable def L5(f:U->U->Sto->Option (U×Sto))(cb:CE)(ρ:Rho)(p:U×Sto):=(cb ρ p.2).bind (Le f p.1)
theorem Jq:cOp f ca cb ρ S=(ca ρ S).bind (L5 f cb ρ):=rfl
theorem AE:L5 f cb ρ (x,S)=(cb ρ S).bind (Le f x):=rfl
theorem AD:Le f x (y,S)=f x y S:=rfl
noncomputable def IG:U×Sto->Option (Bool×Sto)
 |(.bl b,S)=>some (b,S)
 |_=>none
theorem Ge:aE ca ρ S=(ca ρ S).bind IG:=by
 unfold aE;congr 1;funext p;obtain⟨u,S⟩:=p;cases u<;>rfl
theorem DI:IG (.bl b,S)=some (b,S):=rfl
noncomputable def Lm(tb:CT)(ρ:Rho)(p:Bool×Sto):=if p.1=true then tb ρ p.2 else some (false,p.2)
noncomputable def kOr(tb:CT)(ρ:Rho)(p:Bool×Sto):=if p.1=true then some (true,p.2)else tb ρ p.2
noncomputable def L6(p:Bool×Sto):Option (Bool×Sto):=some (!p.1,p.2)
theorem Kz:xh ta tb ρ S=(ta ρ S).bind (Lm tb ρ):=rfl
theorem GX:Lm tb ρ (true,S)=tb ρ S:=rfl
theorem GW:Lm tb ρ (false,S)=some (false,S):=rfl
theorem Mn:cOr ta tb ρ S=(ta ρ S).bind (kOr tb ρ):=rfl
theorem JZ:kOr tb ρ (true,S)=some (true,S):=rfl
theorem JY:kOr tb ρ (false,S)=tb ρ S:=rfl
theorem J0:Du ta ρ S=(ta ρ S).bind L6:=rfl
theorem Gx:L6 (b,S)=some (!b,S):=rfl
noncomputable def Fd(cb:CE)(ρ:Rho):U×Sto->Option (U×Sto)
 |(.bl true,S)=>cb ρ S
 |(.bl false,S)=>some (.bl false,S)
 |_=>none
noncomputable def Ld(cb:CE)(ρ:Rho):U×Sto->Option (U×Sto)
 |(.bl false,S)=>cb ρ S
 |(.bl true,S)=>some (.bl true,S)
 |_=>none
noncomputable def IK:U×Sto->Option (U×Sto)
 |(.bl b,S)=>some (.bl (!b),S)
 |_=>none
theorem GV:pq ca cb ρ S=(ca ρ S).bind (Fd cb ρ):=by
 unfold pq;congr 1;funext p;obtain⟨u,S⟩:=p;cases u with
 |bl b=>cases b<;>rfl
 |_=>rfl
theorem DX:Fd cb ρ (.bl true,S)=cb ρ S:=rfl
theorem DW:Fd cb ρ (.bl false,S)=some (.bl false,S):=rfl
theorem JX:JG ca cb ρ S=(ca ρ S).bind (Ld cb ρ):=by
 unfold JG;congr 1;funext p;obtain⟨u,S⟩:=p;cases u with
 |bl b=>cases b<;>rfl
 |_=>rfl
theorem Gv:Ld cb ρ (.bl false,S)=cb ρ S:=rfl
theorem Gu:Ld cb ρ (.bl true,S)=some (.bl true,S):=rfl
theorem Gw:zR ca ρ S=(ca ρ S).bind IK:=by
 unfold zR;congr 1;funext p;obtain⟨u,S⟩:=p;cases u<;>rfl
theorem DJ:IK (.bl b,S)=some (.bl (!b),S):=rfl
noncomputable def yU(u:U)(q:List U×Sto):Option (List U×Sto):=some (u::q.1,q.2)
noncomputable def C7(cr:CA)(ρ:Rho)(p:U×Sto):=(cr ρ p.2).bind (yU p.1)
theorem AF:aD ρ S=some ([],S):=rfl
theorem pz:ae ca cr ρ S=(ca ρ S).bind (C7 cr ρ):=rfl
theorem nj:C7 cr ρ (u,S)=(cr ρ S).bind (yU u):=rfl
theorem t4:yU u (us,S)=some (u::us,S):=rfl
noncomputable def LY(p:List U×Sto):Option (U×Sto):=some (.tup p.1,p.2)
noncomputable def L7(p:List U×Sto):Option (U×Sto):=some (.ref p.2.length,p.2++[.lst p.1])
theorem JL:mQ cr ρ S=(cr ρ S).bind LY:=rfl
theorem Gb:LY (us,S)=some (.tup us,S):=rfl
theorem DO:j9 cr ρ S=(cr ρ S).bind L7:=rfl
theorem GA:L7 (us,S)=some (.ref S.length,S++[.lst us]):=rfl
noncomputable def kCB(f:Fn)(p:List U×Sto):=f p.1 p.2
theorem Jr{f:Fn}:cCB f cr ρ S=(cr ρ S).bind (kCB f):=rfl
theorem GO{f:Fn}:kCB f (us,S)=f us S:=rfl
noncomputable def L8(T:Ty)(p:U×Sto):Option (U×Sto):=(tyU p.1 p.2).bind fun t=>some (.bl (Ap t T),p.2)
theorem Kc{T:Ty}:uE T ca ρ S=(ca ρ S).bind (L8 T):=rfl
theorem GJ{T:Ty}:L8 T (u,S)=(tyU u S).bind fun t=>some (.bl (Ap t T),S):=rfl
noncomputable def IH(c2:CS):Out×Rho×Sto->Option (Out×Rho×Sto)
 |(.nx,ρ,S)=>c2 ρ S
 |(o,ρ,S)=>some (o,ρ,S)
theorem uP:cR ρ S=some (.nx,ρ,S):=rfl
theorem ni:bH c1 c2 ρ S=(c1 ρ S).bind (IH c2):=by
 unfold bH;congr 1;funext p;obtain⟨o,ρ,S⟩:=p;cases o<;>rfl
theorem rD:IH c2 (.nx,ρ,S)=c2 ρ S:=rfl
theorem Gk:IH c2 (.rt u,ρ,S)=some (.rt u,ρ,S):=rfl
theorem Gj:IH c2 (.bk,ρ,S)=some (.bk,ρ,S):=rfl
theorem Gi:IH c2 (.ct,ρ,S)=some (.ct,ρ,S):=rfl
noncomputable def IM(ρ:Rho)(p:U×Sto):Option (Out×Rho×Sto):=some (.nx,ρ,p.2)
noncomputable def L4(ρ:Rho)(p:U×Sto):Option (Out×Rho×Sto):=some (.rt p.1,ρ,p.2)
theorem Cz:ik ca ρ S=(ca ρ S).bind (IM ρ):=rfl
theorem DS:IM ρ (u,S)=some (.nx,ρ,S):=rfl
theorem wa:fC ca ρ S=(ca ρ S).bind (L4 ρ):=rfl
theorem Gm:L4 ρ (u,S)=some (.rt u,ρ,S):=rfl
noncomputable def Lf(c1 c2:CS)(ρ:Rho)(p:Bool×Sto):=if p.1=true then c1 ρ p.2 else c2 ρ p.2
theorem oV:gj t c1 c2 ρ S=(t ρ S).bind (Lf c1 c2 ρ):=rfl
theorem px:Lf c1 c2 ρ (true,S)=c1 ρ S:=rfl
theorem rH:Lf c1 c2 ρ (false,S)=c2 ρ S:=rfl
noncomputable def kIf(ca cb:CE)(ρ:Rho)(p:Bool×Sto):=if p.1=true then ca ρ p.2 else cb ρ p.2
theorem My:cIf t ca cb ρ S=(t ρ S).bind (kIf ca cb ρ):=rfl
theorem Kg:kIf ca cb ρ (true,S)=ca ρ S:=rfl
theorem Kf:kIf ca cb ρ (false,S)=cb ρ S:=rfl
noncomputable def LZ(i:Nat)(ρ:Rho)(p:U×Sto):Option (Out×Rho×Sto):=some (.nx,ρ.set i (some p.1),p.2)
theorem oU:dc i ca ρ S=(ca ρ S).bind (LZ i ρ):=rfl
theorem Gh:LZ i ρ (u,S)=some (.nx,ρ.set i (some u),S):=rfl
noncomputable def Fc(q:Rho×Sto):Option (Out×Rho×Sto):=some (.nx,q.1,q.2)
noncomputable def L9(g:CG)(ρ:Rho)(p:U×Sto):=(g p.1 ρ p.2).bind Fc
theorem Kx{g:CG}:Jk ca g ρ S=(ca ρ S).bind (L9 g ρ):=rfl
theorem GU{g:CG}:L9 g ρ (u,S)=(g u ρ S).bind Fc:=rfl
theorem GS:Fc (ρ,S)=some (.nx,ρ,S):=rfl
theorem Ki:gNm i u ρ S=some (ρ.set i (some u),S):=rfl
theorem Kh{is:List Nat}:gTp is (.tup us) ρ S=(jg is us ρ).bind fun ρ'=>some (ρ',S):=rfl
theorem GZ:jg [] [] ρ=some ρ:=rfl
theorem GY{is:List Nat}:jg (i::is) (u::us) ρ=jg is us (ρ.set i (some u)):=rfl
noncomputable def IJ(ρ:Rho)(S':Sto):Option (Out×Rho×Sto):=some (.nx,ρ,S')
noncomputable def Lb(o v:U)(ρ:Rho)(r:U×Sto):=(n6 o r.1 v r.2).bind (IJ ρ)
noncomputable def Lc(ci:CE)(v:U)(ρ:Rho)(q:U×Sto):=(ci ρ q.2).bind (Lb q.1 v ρ)
noncomputable def kSI(co ci:CE)(ρ:Rho)(p:U×Sto):=(co ρ p.2).bind (Lc ci p.1 ρ)
theorem Mg:ff ca cb cc ρ S=(cc ρ S).bind (kSI ca cb ρ):=rfl
theorem JS:kSI ca cb ρ (u,S)=(ca ρ S).bind (Lc cb u ρ):=rfl
theorem JR:Lc cb y ρ (u,S)=(cb ρ S).bind (Lb u y ρ):=rfl
theorem JQ:Lb x y ρ (u,S)=(n6 x u y S).bind (IJ ρ):=rfl
theorem JP:IJ ρ S=some (.nx,ρ,S):=rfl
noncomputable def kIx(y:U)(S:Sto):Option O->Option (U×Sto)
 | some (.lst us)=>(match y with
   |.int i=>(atI us i).bind fun u=>some (u,S)
   |_=>none)
 |some (.dic kus)=>(mK y).bind fun k=>(aX kus k).bind fun u=>some (u,S)
 |some (.fdc _ kus)=>(mK y).bind fun k=>(aX kus k).bind fun u=>some (u,S)
 |_=>none
theorem J9{j:Int}:fIx (.tup us) (.int j) S=(atI us j).bind fun u=>some (u,S):=rfl
theorem GH:fIx (.ref l) y S=kIx y S S[l]?:=by
 unfold fIx kIx;dsimp only<;>(generalize S[l]?=q;rcases q with _|o<;>first|rfl|(cases o<;>rfl))
theorem GI{j:Int}:kIx (.int j) S (some (.lst us))=(atI us j).bind fun u=>some (u,S):=rfl
theorem Ka{ep:Nat}{kus:List (Key×U)}:kIx y S (some (.fdc ep kus))=(mK y).bind fun k=>(aX kus k).bind fun u=>some (u,S):=rfl
theorem Kb{kus:List (Key×U)}:kIx y S (some (.dic kus))=(mK y).bind fun k=>(aX kus k).bind fun u=>some (u,S):=rfl
noncomputable def JB(l:Nat)(i v:U)(S:Sto):Option O->Option Sto
 | some (.lst us)=>(match i with
   |.int k=>(ixN us.length k).bind fun j=>some (S.set l (.lst (us.set j v)))
   |_=>none)
 |some (.dic kus)=>(mK i).bind fun k=>if kus.length<LIM then some (S.set l (.dic (iW kus k v)))else none
 |_=>none
theorem JN:n6 (.ref l) x y S=JB l x y S S[l]?:=by
 unfold n6 JB;dsimp only<;>(generalize S[l]?=q;rcases q with _|o<;>first|rfl|(cases o<;>rfl))
theorem Gf{j:Int}:JB l (.int j) y S (some (.lst us))=(ixN us.length j).bind fun j=>some (S.set l (.lst (us.set j y))):=rfl
theorem Gg{kus:List (Key×U)}:JB l x y S (some (.dic kus))=(mK x).bind fun k=>if kus.length<LIM then some (S.set l (.dic (iW kus k y)))else none:=rfl
theorem at0{α:Type}{a:α}{r:List α}:atI (a::r) 0=some a:=by show atI _ ((0:Nat):Int)=_;exact oK rfl
theorem at1{α:Type}{a b:α}{r:List α}:atI (a::b::r) 1=some b:=by show atI _ ((1:Nat):Int)=_;exact oK rfl
theorem at2{α:Type}{a b c:α}{r:List α}:atI (a::b::c::r) 2=some c:=by show atI _ ((2:Nat):Int)=_;exact oK rfl
theorem at3{α:Type}{a b c d:α}{r:List α}:atI (a::b::c::d::r) 3=some d:=by show atI _ ((3:Nat):Int)=_;exact oK rfl
theorem ix0{n:Nat}:ixN (n+1) 0=some 0:=by simp[ixN]
theorem ix1{n:Nat}:ixN (n+1+1) 1=some 1:=by simp[ixN];omega
theorem ix2{n:Nat}:ixN (n+1+1+1) 2=some 2:=by simp[ixN];omega
noncomputable def JF(S:Sto):Option O->Option (U×Sto)
 |some (.lst us)=>some (.int us.length,S)
 |some (.dic us)=>some (.int us.length,S)
 |_=>none
theorem GC:qW [.ref l] S=JF S S[l]?:=by
 unfold qW JF;dsimp only<;>(generalize S[l]?=q;rcases q with _|o<;>first|rfl|(cases o<;>rfl))
theorem GD:JF S (some (.lst us))=some (.int us.length,S):=rfl
theorem GF{kus:List (Key×U)}:JF S (some (.dic kus))=some (.int kus.length,S):=rfl
theorem GB:qW [.tup us] S=some (.int us.length,S):=rfl
variable{j k:Int}
theorem KA:gX (.int j) (.int k) S=some (.int (j+k),S):=rfl
theorem JM:FX (.int j) (.int k) S=some (.int (j-k),S):=rfl
theorem Gy(h:DB j k):n8 (.int j) (.int k) S=some (.int (j*k),S):=by simp[n8,fI,h]
theorem DT(h:xf j k):B3 (.int j) (.int k) S=some (.int (j / k),S):=by simp[B3,fI,h]
theorem wb(h:0<k):sQ (.int j) (.int k) S=some (.int (j % k),S):=by simp[sQ,fI,h]
theorem Gn(h:FZ j k):Ar (.int j) (.int k) S=some (.int (j^k.toNat),S):=by simp[Ar,fI,h]
theorem Mw:fLt (.int j) (.int k) S=some (.bl (decide (j<k)),S):=rfl
theorem Mx:fLe (.int j) (.int k) S=some (.bl (decide (j<=k)),S):=rfl
theorem Mz:fGt (.int j) (.int k) S=some (.bl (decide (k<j)),S):=rfl
theorem MA:fGe (.int j) (.int k) S=some (.bl (decide (k<=j)),S):=rfl
theorem Kn:fEq (.int j) (.int k) S=some (.bl (decide (j=k)),S):=rfl
theorem J2:fNe (.int j) (.int k) S=some (.bl (!decide (j=k)),S):=rfl
theorem Km{a c:Str}:fEq (.str a) (.str c) S=some (.bl (decide (a=c)),S):=rfl
theorem J1{a c:Str}:fNe (.str a) (.str c) S=some (.bl (!decide (a=c)),S):=rfl
theorem Ko{a c:Bool}:fEq (.bl a) (.bl c) S=some (.bl (decide (a=c)),S):=rfl
theorem J3{a c:Bool}:fNe (.bl a) (.bl c) S=some (.bl (!decide (a=c)),S):=rfl
noncomputable def kFn:Out×Rho×Sto->Option (U×Sto)
 |(.rt u,_,S)=>some (u,S)
 |(.nx,_,S)=>some (.non,S)
 |_=>none
theorem jZ{n k:Nat}(h:us.length=k):fnU n k c1 us S=(c1 (rZ n us) S).bind kFn:=by
 unfold fnU;rw[if_pos h];congr 1;funext p;obtain⟨o,ρ,S⟩:=p;cases o<;>rfl
theorem Kk:kFn (.rt u,ρ,S)=some (u,S):=rfl
theorem Kj:kFn (.nx,ρ,S)=some (.non,S):=rfl
end
section
variable{ρ:Rho}{S:Sto}{c1 c2:CS}{t ta tb:CT}{ca cb cc:CE}{cr:CA}{u x y:U}{us:List U}{i l:Nat}{b:Bool}{c:Cl}{fus:List (Option U)}{g:Fn}
open Classical in
noncomputable def BS(c:Cl)(i:Nat)(S:Sto):Option O->Option (U×Sto)
 |some (.ins c' fus)=>if c'=c then(fus[i]?).join.bind fun u=>some (u,S)else none
 |_=>none
noncomputable def lC(c:Cl)(i:Nat)(p:U×Sto):=Jc c i p.1 p.2
theorem Kl:iE c i ca ρ S=(ca ρ S).bind (lC c i):=rfl
theorem Cy:lC c i (.ref l,S)=BS c i S S[l]?:=by
 unfold lC Jc BS;dsimp only<;>(generalize S[l]?=q;rcases q with _|o<;>first|rfl|(cases o<;>rfl))
theorem Cw:BS c i S (some (.ins c fus))=((fus[i]?).join).bind fun u=>some (u,S):=by
 unfold BS;dsimp only;rw[if_pos rfl]
open Classical in
noncomputable def JC(c:Cl)(i l:Nat)(v:U)(S:Sto):Option O->Option Sto
 |some (.ins c' fus)=>if c'=c then some (S.set l (.ins c (fus.set i (some v))))else none
 |_=>none
noncomputable def JD(c:Cl)(i:Nat)(v:U)(ρ:Rho)(q:U×Sto):=(zr c i q.1 v q.2).bind (IJ ρ)
noncomputable def L3(c:Cl)(i:Nat)(ca:CE)(ρ:Rho)(p:U×Sto):=(ca ρ p.2).bind (JD c i p.1 ρ)
theorem Mh:ph c i ca cb ρ S=(cb ρ S).bind (L3 c i ca ρ):=rfl
theorem JV:L3 c i ca ρ (u,S)=(ca ρ S).bind (JD c i u ρ):=rfl
theorem JU:JD c i u ρ (.ref l,S)=(JC c i l u S S[l]?).bind (IJ ρ):=by
 unfold JD zr JC;dsimp only<;>(generalize S[l]?=q;rcases q with _|o<;>first|rfl|(cases o<;>rfl))
theorem JT:JC c i l u S (some (.ins c fus))=some (S.set l (.ins c (fus.set i (some u)))):=by
 unfold JC;dsimp only;rw[if_pos rfl]
noncomputable def yT(g:Fn)(l:Nat)(q:List U×Sto):=g (.ref l::q.1) q.2
open Classical in
noncomputable def vF(c:Cl)(g:Fn)(cr:CA)(ρ:Rho)(l:Nat)(S:Sto):Option O->Option (U×Sto)
 |some (.ins c' _)=>if c'=c then(cr ρ S).bind (yT g l)else none
 |_=>none
noncomputable def Fb(c:Cl)(g:Fn)(cr:CA)(ρ:Rho)(p:U×Sto):=zt c g p.1 p.2 (cr ρ)
theorem Gz:tK c g ca cr ρ S=(ca ρ S).bind (Fb c g cr ρ):=rfl
theorem DM:Fb c g cr ρ (.ref l,S)=vF c g cr ρ l S S[l]?:=by
 unfold Fb zt vF;dsimp only<;>(generalize S[l]?=q;rcases q with _|o<;>first|rfl|(cases o<;>rfl))
theorem DL:vF c g cr ρ l S (some (.ins c fus))=(cr ρ S).bind (yT g l):=by
 unfold vF;dsimp only;rw[if_pos rfl]
theorem DK:yT g l (us,S)=g (.ref l::us) S:=rfl
noncomputable def IL(n:Nat):U×Sto->Option (U×Sto)
 |(.non,S)=>some (.ref n,S)
 |_=>none
theorem Cu:qV c g us S=(g (.ref S.length::us) (S++[.ins c (List.replicate c.ns.length none)])).bind (IL S.length):=by
 unfold qV;congr 1;funext p;obtain⟨u,S⟩:=p;cases u<;>rfl
theorem DN:IL i (.non,S)=some (.ref i,S):=rfl
noncomputable def kIn(neg:Bool)(x:U)(S:Sto):Option O->Option (U×Sto)
 |some (.lst us)=>if gf x=true/\us.all gf=true then some (.bl (if neg then !inU x us else inU x us),S)else none
 |some (.dic kus)=>(mK x).bind fun k=>some (.bl (if neg then !(aX kus k).isSome else(aX kus k).isSome),S)
 |some (.fdc _ kus)=>(mK x).bind fun k=>some (.bl (if neg then !(aX kus k).isSome else(aX kus k).isSome),S)
 |_=>none
theorem Kd{neg:Bool}:fIn neg x (.ref l) S=kIn neg x S S[l]?:=by
 unfold fIn kIn;dsimp only<;>(generalize S[l]?=q;rcases q with _|o<;>first|rfl|(cases o<;>rfl))
theorem Ke{neg:Bool}{kus:List (Key×U)}:kIn neg x S (some (.dic kus))=(mK x).bind fun k=>some (.bl (if neg then !(aX kus k).isSome else(aX kus k).isSome),S):=rfl
theorem rG{neg:Bool}(h:gf x=true/\us.all gf=true):kIn neg x S (some (.lst us))=some (.bl (if neg then !inU x us else inU x us),S):=by
 unfold kIn;dsimp only;rw[if_pos h]
theorem J8{j:Int}:mK (.int j)=some (.inl j):=rfl
theorem GG{z:Str}:mK (.str z)=some (.inr z):=rfl
noncomputable def Lk(f:U->List U->Sto->Option (U×Sto))(x:U)(q:List U×Sto):=f x q.1 q.2
noncomputable def Ll(f:U->List U->Sto->Option (U×Sto))(cr:CA)(ρ:Rho)(x:U)(S:Sto):Option O->Option (U×Sto)
 |some (.lst _)=>(cr ρ S).bind (Lk f x)
 |_=>none
noncomputable def kBM(f:U->List U->Sto->Option (U×Sto))(cr:CA)(ρ:Rho):U×Sto->Option (U×Sto)
 |(.ref l,S)=>Ll f cr ρ (.ref l) S S[l]?
 |_=>none
variable{fm:U->List U->Sto->Option (U×Sto)}
theorem LH:cBM fm ca cr ρ S=(ca ρ S).bind (kBM fm cr ρ):=by
 unfold cBM;congr 1;funext p;obtain⟨u,S⟩:=p
 cases u<;>try rfl
theorem GR:kBM fm cr ρ (.ref l,S)=Ll fm cr ρ (.ref l) S S[l]?:=rfl
theorem GQ:Ll fm cr ρ x S (some (.lst us))=(cr ρ S).bind (Lk fm x):=rfl
theorem GP:Lk fm x (us,S)=fm x us S:=rfl
noncomputable def IP(l:Nat)(u:U)(S:Sto):Option O->Option (U×Sto)
 |some (.lst us)=>if us.length<LIM then some (.non,S.set l (.lst (us++[u])))else none
 |_=>none
theorem Ky:dh (.ref l) [u] S=IP l u S S[l]?:=by
 unfold dh IP;dsimp only<;>(generalize S[l]?=q;rcases q with _|o<;>first|rfl|(cases o<;>rfl))
theorem kG(h:us.length<LIM):IP l u S (some (.lst us))=some (.non,S.set l (.lst (us++[u]))):=by
 unfold IP;dsimp only;rw[if_pos h]
noncomputable def Lg(ku xu:U)(S:Sto):Option O->Option (U×Sto)
 |some (.dic kus)=>(mK ku).bind fun k=>some ((aX kus k).getD xu,S)
 |_=>none
noncomputable def Lh(l:Nat)(ku:U)(r:U×Sto):=Lg ku r.1 r.2 r.2[l]?
noncomputable def Li(l:Nat)(cx:CE)(ρ:Rho)(q:U×Sto):=(cx ρ q.2).bind (Lh l q.1)
noncomputable def Lj(l:Nat)(ck cx:CE)(ρ:Rho)(S:Sto):Option O->Option (U×Sto)
 |some (.dic _)=>(ck ρ S).bind (Li l cx ρ)
 |_=>none
noncomputable def kDG(ck cx:CE)(ρ:Rho):U×Sto->Option (U×Sto)
 |(.ref l,S)=>Lj l ck cx ρ S S[l]?
 |_=>none
theorem MB:pj ca cb cc ρ S=(ca ρ S).bind (kDG cb cc ρ):=by
 unfold pj;congr 1;funext p;obtain⟨u,S⟩:=p
 cases u<;>try rfl
theorem Ku:kDG cb cc ρ (.ref l,S)=Lj l cb cc ρ S S[l]?:=rfl
theorem Kt{kus:List (Key×U)}:Lj l cb cc ρ S (some (.dic kus))=(cb ρ S).bind (Li l cc ρ):=rfl
theorem Ks:Li l cc ρ (u,S)=(cc ρ S).bind (Lh l u):=rfl
theorem Kr:Lh l u (x,S)=Lg u x S S[l]?:=rfl
theorem Kq{kus:List (Key×U)}:Lg u x S (some (.dic kus))=(mK u).bind fun k=>some ((aX kus k).getD x,S):=rfl
theorem GL:lN ρ S=some (.ref S.length,S++[.dic []]):=rfl
noncomputable def kP3(k:Key)(u:U)(z:List (Key×U)×Sto):Option (List (Key×U)×Sto):=some ((k,u)::z.1,z.2)
noncomputable def kP2(r:List (CE×CE))(ρ:Rho)(x:U)(q:U×Sto):=(mK x).bind fun k=>(nL r ρ q.2).bind (kP3 k q.1)
noncomputable def kP1(cv:CE)(r:List (CE×CE))(ρ:Rho)(p:U×Sto):=(cv ρ p.2).bind (kP2 r ρ p.1)
variable{pr:List (CE×CE)}
theorem Mm:nL [] ρ S=some ([],S):=rfl
theorem x_p:nL ((ca,cb)::pr) ρ S=(ca ρ S).bind (kP1 cb pr ρ):=rfl
theorem Ml:kP1 cb pr ρ (u,S)=(cb ρ S).bind (kP2 pr ρ u):=rfl
theorem Mj:kP2 pr ρ x (u,S)=(mK x).bind fun k=>(nL pr ρ S).bind (kP3 k u):=rfl
theorem Mi{k:Key}{z:List (Key×U)}:kP3 k u (z,S)=some ((k,u)::z,S):=rfl
noncomputable def kD1(n:Nat)(kus:List (Key×U))(S:Sto):Option O->Option (U×Sto)
 |some (.dic [])=>some (.ref n,S.set n (.dic (yE kus)))
 |_=>none
noncomputable def kD(n:Nat)(q:List (Key×U)×Sto):=kD1 n q.1 q.2 q.2[n]?
theorem GN:Jj pr ρ S=(nL pr ρ (S++[.dic []])).bind (kD S.length):=by
 unfold Jj;congr 1
theorem DV{z:List (Key×U)}:kD i (z,S)=kD1 i z S S[i]?:=rfl
theorem DU{z:List (Key×U)}:kD1 i z S (some (.dic []))=some (.ref i,S.set i (.dic (yE z))):=rfl
theorem F7:lH [.tup us] S=some (.tup us,S):=rfl
noncomputable def La(S:Sto):Option O->Option (U×Sto)
 |some (.lst us)=>some (.tup us,S)
 |_=>none
theorem F8:lH [.ref l] S=La S S[l]?:=by
 unfold lH La;dsimp only<;>(generalize S[l]?=q;rcases q with _|o<;>first|rfl|(cases o<;>rfl))
theorem F9:La S (some (.lst us))=some (.tup us,S):=rfl
theorem DP:mO [.tup us] S=some (.ref S.length,S++[.lst us]):=rfl
noncomputable def kLs(S:Sto):Option O->Option (U×Sto)
 |some (.lst us)=>some (.ref S.length,S++[.lst us])
 |_=>none
theorem tZ:mO [.ref l] S=kLs S S[l]?:=by
 unfold mO kLs;dsimp only<;>(generalize S[l]?=q;rcases q with _|o<;>first|rfl|(cases o<;>rfl))
theorem DQ:kLs S (some (.lst us))=some (.ref S.length,S++[.lst us]):=rfl
theorem GK:MN [.bl b] S=some (.int (if b then 1 else 0),S):=rfl
theorem ga{X:Sto}{n:Nat}:(S++X)[S.length+n]?=X[n]?:=by rw[List.getElem?_append_right (Nat.le_add_right _ _),Nat.add_sub_cancel_left]
theorem ga0{X:Sto}:(S++X)[S.length]?=X[0]?:=ga (n:=0)
theorem gs{X:Sto}{n:Nat}{o:O}:(S++X).set (S.length+n) o=S++X.set n o:=by rw[List.set_append_right _ _ (Nat.le_add_right _ _),Nat.add_sub_cancel_left]
theorem gs0{X:Sto}{o:O}:(S++X).set S.length o=S++X.set 0 o:=gs (n:=0)
section
variable{ok:Sto->Prop}{gg:CG}{cbd:CS}{ρ0 ρ1:Rho}{S0 S1:Sto}
theorem dq(h:ok S):eD ok gg cbd [] ρ S=some (.nx,ρ,S):=by unfold eD;rw[if_pos h]
theorem dQ(h:ok S)(hg:gg u ρ S=some (ρ0,S0))(hb:cbd ρ0 S0=some (.nx,ρ1,S1)):eD ok gg cbd (u::us) ρ S=eD ok gg cbd us ρ1 S1:=by
 rw[eD];dsimp only;rw[if_pos h,hg,Option.bind_some];dsimp only;rw[hb,Option.bind_some]
theorem qJ(h:ok S)(hg:gg u ρ S=some (ρ0,S0))(hb:cbd ρ0 S0=some (.rt x,ρ1,S1)):eD ok gg cbd (u::us) ρ S=some (.rt x,ρ1,S1):=by
 rw[eD];dsimp only;rw[if_pos h,hg,Option.bind_some];dsimp only;rw[hb,Option.bind_some]
theorem AV{n:Nat}(ht:t ρ S=some (true,S0))(hb:cbd ρ S0=some (.nx,ρ1,S1)):gP t cbd (n+1) ρ S=gP t cbd n ρ1 S1:=by
 rw[gP];dsimp only;rw[ht,Option.bind_some];dsimp only;rw[if_pos rfl,hb,Option.bind_some]
theorem xG{n:Nat}(ht:t ρ S=some (false,S0)):gP t cbd (n+1) ρ S=some (.nx,ρ,S0):=by
 rw[gP];dsimp only;rw[ht,Option.bind_some];dsimp only;rw[if_neg (by decide)]
theorem lM{ce:CE}{ys:List U}(h:ok S)(hg:gg u ρ S=some (ρ0,S0))(he:ce ρ0 S0=some (x,S1))(hl:S1[l]?=some (.lst ys))(hn:ys.length<LIM):ig ok gg ce l (u::us) ρ S=ig ok gg ce l us ρ0 (S1.set l (.lst (ys++[x]))):=by
 rw[ig,if_pos h,hg,Option.bind_some];dsimp only;rw[he,Option.bind_some];dsimp only;rw[hl];dsimp only;rw[if_pos hn]
theorem m7{ce:CE}(h:ok S):ig ok gg ce l [] ρ S=some S:=by rw[ig,if_pos h]
end
end
theorem E8{K:PySem.W.Frag}{H:Hp}{p xs:Addr}{c:CS}{r:Rho}{σ:L2.St}{v0:Option V}{Q:VK}{nx bk ct:L2.St->Hp->Prop}(P:Mf H p xs)
  (ok:∀(ns:List Int) (a b:Int),0<=a->0<=b->∃ρ' S',c (none::some (.ref 1)::r) [.lst (ns.map U.int),.lst [.ref 0,.int a,.int b]]=some (.rt (.bl true),ρ',S')) (q:∀H',Q (.bl true) H')
  (hr:r=List.replicate r.length none:=by rfl) (hl:σ.length=r.length:=by rfl):tS K c { nx:=nx,rt:=Q,bk:=bk,ct:=ct } (v0::some (.ref p)::σ) H:=by
 obtain⟨ns,a,b,h1,h2,h3,h4,h5⟩:=P
 obtain⟨ρ',S',e⟩:=ok ns a b h4 h5
 refine⟨[xs,p],_,_,_,ρ',S',⟨rfl,by simp[h3],fun l ad o e1 e2=>?_⟩,⟨by simp[hl],fun i u e1=>?_⟩,e,fun m' v H' _ _ iv=>by rw[iv.of_bl];exact q H'⟩
 ·match l,e1,e2 with
  |0,e1,e2=>
   simp at e1 e2
   subst e1;subst e2
   exact⟨_,h2,lD ns⟩
  |1,e1,e2=>
   simp at e1 e2
   subst e1;subst e2
   exact⟨_,h1,.cons_ (.ref_ rfl) (.cons_ .int_ (.cons_ .int_ .nil_))⟩
  |l+2,e1,e2=>simp at e1
 ·match i,e1 with
  |0,e1=>simp at e1
  |1,e1=>
   simp at e1
   subst e1
   exact⟨.ref p,rfl,.ref_ rfl⟩
  |i+2,e1=>
   simp at e1
   rw[hr,List.getElem?_replicate]at e1
   split at e1<;>cases e1
theorem jF{p:List Value->Prop}(h:p [])(us:List Value)(e:us.length=0):p us:=by rw[List.length_eq_zero_iff.mp e];exact h
theorem cH{n:Nat}{p:List Value->Prop}(h:∀a us,us.length=n->p (a::us))(us:List Value)(e:us.length=n+1):p us:=by
 cases us with
 |nil=>cases e
 |cons a us=>exact h a us (Nat.succ.inj e)
noncomputable def LG(H:Hp)(a:Addr)(ep:Nat)(ks:List Key):Prop:=∃ob es kvs,H a=some (.frz ob (.dK kvs))/\ob.data=.dict es ep/\kvs.map (·.1)=ks
noncomputable def Itd(a:Addr)(ep:Nat)(ks:List Key):It:=
 ⟨fun i H=>i<ks.length/\LG H a ep ks,fun i H x H'=>H'=H/\∃k,ks[i]?=some k/\x=kV k,fun i H=>ks.length<=i/\LG H a ep ks⟩
theorem Dd{P:Program}{w:World}{H:Hp}{h:Heap}{a:Addr}{ob:Obj}{kvs:List (Key×V)}{es:Array DictEntry}{ep:Nat}(ok:HOk P w H h)(e:H a=some (.frz ob (.dK kvs)))(d:ob.data=.dict es ep):∃vs,KV kvs vs/\h.DictAt (dM P w) a vs ep:=by
 obtain⟨e1,_,_,vs,r,o,es',ep',e2,e3,e4,rest⟩:=(show dz P w H h a (.frz ob (.dK kvs))from ok a _ e)
 rw[e1]at e2;cases e2
 rw[d]at e4;cases e4
 exact⟨vs,r,ob,es,e1,e3,d,rest⟩
theorem C6{κ:Type}:∀{kvs:List (κ×V)} {vs:List (κ×Value)} {i:Nat} {k:κ} {v:V},KV kvs vs->kvs[i]?=some (k,v)->∃u,vs[i]?=some (k,u)
 |_,_,i,k,v,.nil,h=>by simp at h
 |_,_,0,k,v,.cons (b:=(k',u)) r t,h=>by
  simp at h;subst h
  have:k=k':=r.1
  subst this
  exact⟨u,by simp⟩
 |_,_,i+1,k,v,.cons r t,h=>by
  obtain⟨u,e⟩:=C6 (i:=i) t (by simpa using h)
  exact⟨u,by simpa using e⟩
theorem E9{k:Key}{u:Value}(h:uf k u=true):dj (kV k) u:=by
 rcases bZ h with⟨i,t,rfl,rfl⟩|⟨i,t,rfl,rfl⟩
 ·exact⟨t,rfl⟩
 ·exact⟨t,rfl⟩
theorem xM{P:Program}{w:World}{K:PySem.W.Frag}{tg:Expr}(a it:Addr){ks:List Key}{ep:Nat} :
  Dx P w K tg (Itd a ep ks) [it] it (fun n h=>h.IsKeyIter it a n ks.length ep) where
 mem:=by simp
 obj:=fun n h st c hc=>by
  simp only[List.mem_cons,List.not_mem_nil,or_false]at hc
  subst hc
  obtain⟨o,e,_,q⟩:=st
  exact⟨o,e,fun v z=>by rw[q]at z;cases z⟩
 keep:=fun n h h' st kp=>Heap.IsKeyIter.at st fun o q=>kp it (by simp) o q
 item:=by
  intro X hP hw hK hc n pins s σ H E Iv hf st hg
  subst hP hw hK
  obtain⟨hi,ob,es,kvs,hq,d,ek⟩:=hg
  obtain⟨vs,rv,da⟩:=Dd Iv.hok hq d
  have hl:ks.length=vs.length:=by rw[<-ek,List.length_map];exact Paired.length rv
  have hi':n<kvs.length:=by rw[<-ek,List.length_map]at hi;exact hi
  have hx:kvs[n]?=some ((kvs[n]).1,(kvs[n]).2):=List.getElem?_eq_getElem hi'
  obtain⟨u,hu⟩:=C6 rv hx
  obtain⟨f0,f1,f2,f3⟩:=hf it (by simp)
  have st':s.heap.IsKeyIter it a n vs.length ep:=by rw[<-hl];exact st
  refine wpAny_pyNext_dict_item st' da hu fun key h1 hk st1 sb=>⟨key,rfl,?_⟩
  have I1:Inv X pins σ H { s with heap:=h1 }:=Iv.turned (t':=s.toks) (fun b o hb e=>(sb.2 b hb).trans e) f0 f1 f3.1 f3.2.1 f3.2.2
  have st2:h1.IsKeyIter it a (n+1) ks.length ep:=by rw[hl];exact st1
  obtain⟨o,e,c,q⟩:=id st2
  exact ze (s:={ s with heap:=h1 }) e c q (by decide) ⟨kV (kvs[n]).1,H,I1,E9 hk,⟨rfl,_,by rw[<-ek,List.getElem?_map,hx];rfl,rfl⟩,st2,fun b hb=>(hf b hb).1⟩
 done:=by
  intro X hP hw hK hc n pins s σ H E Iv hf st hg
  subst hP hw hK
  obtain⟨hi,ob,es,kvs,hq,d,ek⟩:=hg
  obtain⟨vs,rv,da⟩:=Dd Iv.hok hq d
  have hl:ks.length=vs.length:=by rw[<-ek,List.length_map];exact Paired.length rv
  obtain⟨f0,f1,f2,f3⟩:=hf it (by simp)
  have st':s.heap.IsKeyIter it a n vs.length ep:=by rw[<-hl];exact st
  exact wpAny_pyNext_dict_end (Iv.ok.hd hc) st' da (by rw[List.getElem?_eq_none_iff];omega) fun h1 eb=>⟨rfl,Iv.turned (t':=s.toks) (fun b o hb e=>eb b o hb e) f0 f1 f3.1 f3.2.1 f3.2.2⟩
 self:=fun _ _ _ _ _ st h=>wpAny_pyIter_keyiter st h
theorem mZ{X:Cx}{pins:List (Addr×Obj)}{σ:L2.St}{H:Hp}{s:Shared}{a:Addr}{o u:HO}(I:Inv X pins σ H s)(e:H a=some o)(nt:∀xs,o≠.tup xs)(no:∀x,o≠.own x)(nb:∀ps,o≠.tbl ps)
  (nf:∀ob u,X.H₀ a≠some (.frz ob u)) (new:dz X.prog X.w (upd H a u) s.heap a u):Inv X pins σ (upd H a u) s:=by
 have nn:∀b,H b=none->upd H a u b=none:=fun b q=>by rw[bB (Ne.symm (cY e q))];exact q
 have ho:∀b x,H b=some (.own x)->upd H a u b=some (.own x):=fun b x q=>by
  rw[bB];exact q
  intro z;subst z;rw[e]at q;cases q;exact no _ rfl
 have ht:∀b xs,H b=some (.tup xs)->upd H a u b=some (.tup xs):=fun b x q=>by
  rw[bB];exact q
  intro z;subst z;rw[e]at q;cases q;exact nt _ rfl
 refine⟨I.ok,I.os,I.bare,⟨I.base.keep,I.base.slot,fun b ob q1 q2 q3=>nn _ (I.base.free b ob q1 q2 q3),I.base.there,fun b xs q=>ht _ _ (I.base.tups b xs q),fun b ob v q=>?_,fun b ps q=>?_⟩,I.loc,I.cell,nn _ I.free,fun x c q=>nn _ (I.freeC x c q),fun p hp=>?_,fun b v q=>?_,I.len⟩
 ·rw[bB];exact I.base.frzs b ob v q
  intro z;subst z;exact nf _ _ q
 ·obtain⟨more,q'⟩:=I.base.tbls b ps q
  refine⟨more,?_⟩
  rw[bB];exact q'
  intro z;subst z;rw[e]at q';cases q';exact nb _ rfl
 ·obtain⟨p1,p2,p3⟩:=I.pin p hp
  exact⟨p1,nn _ p2,p3⟩
 ·by_cases hb:b=a
  ·subst hb;rw[aK]at q;cases q;exact new
  ·rw[bB hb]at q
   exact(I.hok b v q).stay (fun _ _ _ g=>g) (fun c g=>ho c b g) fun c xs g=>ht c xs g
noncomputable def xb(X:Cx)(a:Addr):Prop:=∀ob u,X.H₀ a≠some (.frz ob u)
noncomputable def IY(X:Cx)(tl:TE):TI:=fun σ H R=>tl σ H fun x H1=>∃a kvs,x=.ref a/\H1 a=some (.dK kvs)/\∀ob es ep,xb X a->ob.data=.dict es ep->R (Itd a ep (kvs.map (·.1))) (upd H1 a (.frz ob (.dK kvs)))
theorem Ee{X:Cx}{tg l:Expr}{tl:TE}(hl:WE X l tl):WI X tg l (IY X tl):=by
 constructor
 intro pins s σ H R I h
 refine thn (hl.h pins s σ H _ I h) fun v s1 hz=>?_
 obtain⟨x,H1,I1,r1,q1⟩:=hz
 obtain⟨a,kvs,rfl,hq,q⟩:=q1
 cases r1
 obtain⟨hz,hs,vs,rv,ob,es,ep,e1,e2,e3,rest⟩:=FF I1.hok hq
 have da:s1.heap.DictAt (dM X.prog X.w) a vs ep:=⟨ob,es,e1,e2,e3,rest⟩
 have hl:kvs.length=vs.length:=Paired.length rv
 have nf:xb X a:=fun ob' u' z=>by have:=I1.base.frzs a ob' u' z;rw[hq]at this;cases this
 have I2:Inv X pins σ (upd H1 a (.frz ob (.dK kvs))) s1:=mZ I1 hq (by simp) (by simp) (by simp) nf ⟨e1,hz,hs,vs,rv,ob,es,ep,e1,e2,e3,rest⟩
 refine wpAny_pyIter_dict hs da ?_
 refine⟨s1.heap.objs.size,[s1.heap.objs.size],_,_,_,rfl,I2.kept (t':=s1.toks) fun b o g=>Heap.get?_push_of_some _ g,xM a _,⟨_,Heap.get?_push_size _ rfl,rfl,by rw[List.length_map,hl];rfl⟩,fun b hb=>?_,q ob es ep nf e3⟩
 simp only[List.mem_cons,List.not_mem_nil,or_false]at hb
 subst hb
 exact I2.fpOk (Nat.le_refl _) (I2.hok.fresh (Nat.le_refl _))
theorem BX{X:Cx}{pins:List (Addr×Obj)}{σ:L2.St}{H:Hp}{s:Shared}{a:Addr}{ob:Obj}{kvs:List (Key×V)}(I:Inv X pins σ H s)(nf:xb X a)(e:H a=some (.frz ob (.dK kvs))):Inv X pins σ (upd H a (.dK kvs)) s:=
 mZ I e (by simp) (by simp) (by simp) nf (show dz X.prog X.w H s.heap a (.frz ob (.dK kvs))from I.hok a _ e).2
noncomputable def kU:Key->U
 |.inl i=>.int i
 |.inr x=>.str x
theorem C8{K:PySem.W.Frag}{m:List Addr}{H:Hp}(k:Key):Is K m H (kV k) (kU k):=by
 cases k with
 |inl i=>exact .int_
 |inr x=>exact .str_
open Classical in
noncomputable def uni{α:Type}(F:Nat->Option α):Option α:=if h:∃r,∀n,F n=some r then some h.choose else none
theorem CC{α:Type}{F:Nat->Option α}{r:α}(h:∀n,F n=some r):uni F=some r:=by
 have hx:∃r,∀n,F n=some r:=⟨r,h⟩
 unfold uni
 rw[dif_pos hx]
 have:=hx.choose_spec 0
 rw[h 0]at this
 exact this.symm
theorem uY{α:Type}{F:Nat->Option α}{r:α}(h:uni F=some r)(n:Nat):F n=some r:=by
 unfold uni at h
 split at h
 ·rename_i hx
  cases h
  exact hx.choose_spec n
 ·cases h
theorem Ff{K:PySem.W.Frag}{m:List Addr}{H:Hp}{a:Addr}{l ep:Nat}{kus:List (Key×U)}(ha:m[l]?=some a):Au K (Itd a ep (kus.map (·.1))) m H (kus.map fun q=>kU q.1) (fun S'=>S'[l]?=some (.fdc ep kus)):=by
 intro m2 S2 H2 i e sr hok
 obtain⟨a',ha',ob,es,kvs,hx,hd,ip⟩:=sr.get hok
 have ha2:=e.get ha
 rw[ha2]at ha';cases ha'
 have hz:LG H2 a ep (kus.map (·.1)):=⟨ob,es,kvs,hx,hd,ip.1⟩
 refine⟨fun u hu=>?_,fun hu=>⟨by simpa using hu,hz⟩⟩
 have hi:i<kus.length:=by have:=(List.getElem?_eq_some_iff.mp hu).1;simpa using this
 refine⟨⟨by simpa using hi,hz⟩,?_⟩
 rintro x H3 ⟨rfl,k,hk,rfl⟩
 refine⟨.refl,sr,?_⟩
 rw[List.getElem?_map]at hk hu
 rw[List.getElem?_eq_getElem hi]at hk hu
 cases hk;cases hu
 exact C8 _
end OP
namespace OG
open PySem PySem.Spec PyProof.Rows L2
noncomputable def qt(wi:TI)(g:TG)(tt:TT)(te:TE)(n:Nat)(caps:List Nat):TE:=fun σ H Q=>wi σ H fun J H1=>∀l,H1 l=none->∃W:Nat->Nat->L2.St->Hp->Prop,(∃m,W 0 m (stC n caps σ) (upd H1 l (.lst [])))/\
 ∀i m σ' H2,W i m σ' H2->(J.stop i H2/\Q (.ref l) H2)\/(J.go i H2/\∃N:L2.St->Hp->Prop,(∀σ'' H',N σ'' H'->∃m',m'<m/\W (i+1) m' σ'' H')/\
  ∀x H3,J.yld i H2 x H3->g x σ' H3 fun σ2 H4=>tt σ2 H4 fun b H5=>match b with
   |true=>te σ2 H5 fun v H6=>∃ys,H6 l=some (.lst ys)/\ys.length<sizeLine/\N σ2 (upd H6 l (.lst (ys++[v])))
   |false=>N σ2 H5)
theorem pf{prog:Program}{w:World}{A:Around}{R:Result->Shared->Prop}{s:Shared}{elt target iter c:Expr}{scope:Scope}{pos:Pos}{it acc:Value}{env:Env}(I:Nat->Shared->Prop)
  (turn:∀n s,I n s->wpAny (model prog w) A (pyNext it) (fun r s₁=>match r with
   |none=>R (.ok .next) s₁
   |some v=>wpAny (model prog w) A (letOwnedTupleGo target it v) (fun _ s₁'=>wpAny (model prog w) A (assign target env v) (fun _ s₂=>wpAny (model prog w) A (PySem.isTrue c env (eval c env)) (fun b s₂'=>match b with
    |true=>wpAny (model prog w) A (eval elt env) (fun x s₃=>
     wpAny (model prog w) A (call (.builtin "list.append") [acc,x]) (fun _ s₄=>∃m,m<n/\I m s₄) (fun _ _=>False) s₃)
     (fun _ _=>False) s₂'
    |false=>∃m,m<n/\I m s₂') (fun _ _=>False) s₂) (fun _ _=>False) s₁') (fun _ _=>False) s₁) (fun _ _=>False) s)
  (n:Nat) (h:I n s) :
  codeAny (model prog w) A (.compLoop (.ListComp elt [⟨target,iter,[c],0⟩] scope pos) 0 it acc env) R s:=by
 refine codeAny_loop rfl I (fun n s hI=>?_) n h
 show wpAny _ _ ((compTurn (.ListComp elt [⟨target,iter,[c],0⟩] scope pos) 0 it acc env).onRaise (fun x=>do noteFrame x env;theTreesLotGoes x)) _ _ s
 refine wpAny_noted ?_
 rw[compTurn_list]
 refine wpAny_bind (wpAny_standAt (wpAny_bind (wpAny_mono (turn n s hI) (fun r s₁ h₁=>?_) fun _ _ h'=>h'.elim)))
 cases r with
 |none=>exact wpAny_pure h₁
 |some v=>
  refine wpAny_bind (wpAny_mono h₁ (fun _ s₁' h₁'=>?_) fun _ _ h'=>h'.elim)
  refine wpAny_bind (wpAny_mono h₁' (fun _ s₂ h₂=>?_) fun _ _ h'=>h'.elim)
  dsimp only
  simp only[List.forIn_cons,List.forIn_nil,if_true,bind_assoc,pure_bind]
  refine wpAny_bind (wpAny_mono h₂ (fun b s₂' h₂'=>?_) fun _ _ h'=>h'.elim)
  cases b with
  |true=>
   rw[if_pos rfl]
   exact wpAny_bind (wpAny_mono h₂' (fun x s₃ h₃=>wpAny_bind (wpAny_mono h₃
    (fun _ s₄ h₄=>wpAny_pure ⟨rfl,h₄⟩) fun _ _ h'=>h'.elim)) fun _ _ h'=>h'.elim)
  |false=>
   rw[if_neg Bool.false_ne_true]
   exact wpAny_pure ⟨rfl,h₂'⟩
theorem qb{X:Cx}{Nc capN tn:List Str}{scope:Scope}{cl:List (Str×Addr)}{n:Nat}{caps:List Nat}{tg iter elt:Expr}{pos:Pos}{wi:TI}{g:TG}{te:TE}{tt:TT}{c:Expr}
  (hc:X.calm=true) (hi:WI X tg iter wi) (hg:∀s3 H3 fp,WG (cxC X Nc scope cl s3 H3 fp) tg g) (he:∀s3 H3 fp,WE (cxC X Nc scope cl s3 H3 fp) elt te)
  (ht:∀s3 H3 fp,WT (cxC X Nc scope cl s3 H3 fp) c tt)
  (hclos:closureFor scope X.env=pure cl) (hkind:scope.kind=.function) (hnl:∀x∈scope.names,x.2=.local->scope.names.lookup x.1=some .local) (hcell:∀x∈scope.names,x.2≠.cell)
  (hcl:v8 X.env cl) (hhas:((relabel scope X.env).names.all fun p=>!(p.2 == .cell||p.2 == .free)||(cl.lookup p.1).isSome)=true)
  (hcap:Paired (Cap X scope cl) caps capN) (hN:Nc=tn++capN) (hn:tn.length=n)
  {use:Option (Value->Sem Unit)} {pins:List (Addr×Obj)} {σ:L2.St} {H:Hp} {s:Shared} {Q:VK} {Qf:Value->Shared->Prop} (I:Inv X pins σ H s) (h:qt wi g tt te n caps σ H Q)
  (hend:∀(D C:Addr) (s6:Shared) (H5:Hp) (m:Str->Option Value),Inv X pins σ H5 s6->s6.heap.Ns C m->H5 C=none->C≠X.env.locals->X.s₀.heap.objs.size<=C->(∀x c,X.env.cells.lookup x=some c->c≠C)->(∀p∈X.pn++pins,p.1≠C)->Q (.ref D) H5->compPost (model X.prog X.w) X.A X.xe use Qf (.ref D) C (.ok .next) s6)
  (hs:∀x,foldedSetIterable iter X.env x=pure x) :
  wpAny (model X.prog X.w) X.A (comprehension (.ListComp elt [⟨tg,iter,[c],0⟩] scope pos) scope X.env (firstIterPos [⟨tg,iter,[c],0⟩] pos) (newList []) (firstAsync [⟨tg,iter,[c],0⟩]) (firstIter [⟨tg,iter,[c],0⟩] X.env) use) Qf X.xe s:=by
 refine wpAny_comprehension_free (use:=use) (g:=⟨tg,iter,[c],0⟩) (gs:=[]) rfl hs hclos hkind hnl (thn (hi.h pins s σ H _ I h) fun v s1 h1=>thn h1 fun itv s2 h2=>?_)
 obtain⟨it,fp,tnn,J,H2,rfl,I2,T,st2,f2,hW⟩:=h2
 have hD:=I2.fresh
 obtain⟨W,⟨m0,w0⟩,turn⟩:=hW _ hD
 refine wpAny_newObj_type (wpAny_newFunctionEnv hcell (by intro y hy;simp at hy) (fun h₁ hns₁ hsb₁=>?_) hkind)
 dsimp only at hns₁ hsb₁ ⊢
 have I3:Inv X pins σ (upd H2 s2.heap.objs.size (.lst [])) { s2 with heap:=s2.heap.push { cls:=.type "list",dict:=none,data:=.seq ([]:List Value).toArray },toks:=s2.toks }:=I2.lnew (its:=[]) .nil (Nat.zero_le _)
 generalize hs3:({ s2 with heap:=s2.heap.push { cls:=.type "list",dict:=none,data:=.seq ([]:List Value).toArray },toks:=s2.toks }:Shared)=s3 at I3
 have es3:s3.heap=s2.heap.push { cls:=.type "list",dict:=none,data:=.seq ([]:List Value).toArray }:=by rw[<-hs3]
 generalize hDD:s2.heap.objs.size=D at *
 have kept:∀b o,s3.heap.get? b=some o->h₁.get? b=some o:=fun b o e=>by
  have lt:=Heap.lt_size e
  rw[es3]at lt e
  exact hsb₁.extBut b o (Nat.ne_of_lt lt) (Heap.get?_push_of_some _ e)
 have old:∀b o,s2.heap.get? b=some o->s3.heap.get? b=some o:=fun b o e=>by rw[es3];exact Heap.get?_push_of_some _ e
 have ltD:∀b∈fp,b<D:=fun b hb=>by
  obtain⟨o,e,_⟩:=T.obj 0 _ st2 b hb
  rw[<-hDD];exact Heap.lt_size e
 have fo:∀b∈fp,b<s3.heap.objs.size:=fun b hb=>by
  obtain⟨o,e,_⟩:=T.obj 0 _ st2 b hb
  exact Heap.lt_size (old _ _ e)
 have f3:∀b∈fp,xi X pins (upd H2 D (.lst [])) b:=fun b hb=>by
  refine⟨?_,(f2 b hb).2⟩
  rw[bB (Nat.ne_of_lt (ltD b hb))]
  exact(f2 b hb).1
 rw[<-es3]at hns₁ hsb₁ ⊢
 have Ic:=fun t'=>Inv.comp (h1:=h₁) (t':=t') (Nc:=Nc) (n:=n) I3 hc f3 fo hkind hcl hhas hcap tn hN hn hns₁ kept
 have stat:∀{H':Hp},(∀b∈fp,H' b=none)->∀b∈fp,xi (cxC X Nc scope cl s3 (upd H2 D (.lst [])) fp) [] H' b:=fun hn' b hb=>by
  refine⟨hn' b hb,Nat.ne_of_lt (fo b hb),fun z=>?_,.inl hb,fun x c e=>(f2 b hb).2.2.2.2.1 x c (hcl.look e),fun p hp=>(by simp at hp)⟩
  rcases List.mem_cons.mp (I3.stkSub b z)with q|q
  ·exact(f2 b hb).2.1 q
  ·exact(f2 b hb).2.2.1 q
 have loop:∀s4:Shared,(∃t',s4={ s3 with heap:=h₁,toks:=t' })->codeAny (model X.prog X.w) X.A (.compLoop (.ListComp elt [⟨tg,iter,[c],0⟩] scope pos) 0 (.ref it) (.ref D) (compEnvC scope cl s3.heap.objs.size X.env))
   (compPost (model X.prog X.w) X.A X.xe use Qf (.ref D) s3.heap.objs.size) s4:=by
  rintro s4 ⟨t',rfl⟩
  refine pf (fun n' s'=>∃i σ' H',Inv (cxC X Nc scope cl s3 (upd H2 D (.lst [])) fp) [] σ' H' s'/\tnn i s'.heap/\(∀b∈fp,H' b=none)/\W i n' σ' H') ?_ m0
   ⟨0,_,_,Ic t',T.keep 0 _ _ st2 fun b hb o e=>kept _ _ (old _ _ e),fun b hb=>(f3 b hb).1,w0⟩
  rintro n' s5 ⟨i,σ5,H5,I5,st5,fr5,w5⟩
  rcases turn i n' σ5 H5 w5 with⟨stop,qn⟩|⟨go,N,hN',step⟩
  ·refine thn (T.done (cxC X Nc scope cl s3 (upd H2 D (.lst [])) fp) rfl rfl rfl hc i [] s5 σ5 H5 (fun _ _=>False) I5 (stat fr5) st5 stop) fun r s6 ⟨hr,I6⟩=>?_
   subst hr
   obtain⟨m,hm,_⟩:=I6.loc
   have I7:Inv X pins σ H5 s6:=Inv.call' (ch:=fp) I3 I6.os I6.base I6.hok I6.bare fun b hb=>⟨(f2 b hb).2.2.2.1,(f2 b hb).2.1,(f2 b hb).2.2.2.2.1,(f2 b hb).2.2.2.2.2⟩
   exact hend D _ s6 H5 m I7 hm I6.free (Ne.symm (Nat.ne_of_lt I3.lt)) I3.sz (fun x c e=>by
     obtain⟨v',o,ho,_⟩:=I3.cell x c e
     exact Nat.ne_of_lt (Heap.lt_size ho)) (fun p hp=>Nat.ne_of_lt (Heap.lt_size (I3.pin p hp).1)) qn
  ·refine thn (T.item (cxC X Nc scope cl s3 (upd H2 D (.lst [])) fp) rfl rfl rfl hc i [] s5 σ5 H5 (fun _ _=>False) I5 (stat fr5) st5 go) fun r s6 ⟨u,hr,h6⟩=>?_
   subst hr
   refine thn h6 fun _ s7 hz=>?_
   obtain⟨x,H7,I7,r7,y7,st7,fr7⟩:=hz
   have I7':=I7.pinned (stat fr7) (T.obj _ _ st7)
   refine thn ((hg s3 (upd H2 D (.lst [])) fp).h _ s7 σ5 H7 x u _ I7' r7 (step x H7 y7)) fun _ s8 hz=>?_
   obtain⟨σ8,H8,I8,q8⟩:=hz
   have fin:∀{s10:Shared} {H10:Hp},Inv (cxC X Nc scope cl s3 (upd H2 D (.lst [])) fp) _ σ8 H10 s10->N σ8 H10->∃m',m'<n'/\∃i' σ' H',Inv (cxC X Nc scope cl s3 (upd H2 D (.lst [])) fp) [] σ' H' s10/\tnn i' s10.heap/\(∀b∈fp,H' b=none)/\W i' m' σ' H':=fun{s10 H10} I10 q10=>by
    obtain⟨m',hm,w10⟩:=hN' σ8 H10 q10
    refine⟨m',hm,i+1,σ8,H10,Inv.unpinned I10,T.keep _ _ _ st7 fun b hb o e=>(Inv.pin I10 (b,o) (List.mem_append_right _ (List.mem_append_right _ (gm hb e)))).1,fun b hb=>?_,w10⟩
    obtain⟨o,e,d⟩:=T.obj _ _ st7 b hb
    exact(Inv.pin I10 (b,o) (List.mem_append_right _ (List.mem_append_right _ (gm hb e)))).2.1
   refine thn ((ht s3 (upd H2 D (.lst [])) fp).h _ s8 σ8 H8 _ I8 q8) fun b9 s9' h9=>?_
   obtain⟨H9',I9',q9'⟩:=h9
   cases b9 with
   |false=>exact fin I9' q9'
   |true=>
    refine thn ((he s3 (upd H2 D (.lst [])) fp).h _ s9' σ8 H9' _ I9' q9') fun v9 s9 hz=>?_
    obtain⟨x9,H9,I9,r9,ys,hy,hlt,q9⟩:=hz
    exact thn (nN (X:=cxC X Nc scope cl s3 (upd H2 D (.lst [])) fp) _ s9 σ8 H9 (.ref D) [x9] (.ref D) [v9] (fun _ H'=>N σ8 H') I9 rfl (.cons r9 .nil) ⟨D,ys,x9,rfl,rfl,hy,hlt,q9⟩) fun _ s10 ⟨_,H10,I10,_,q10⟩=>fin I10 q10
 have e4:∀t',({ s2 with heap:=h₁,toks:=t' }:Shared)={ s3 with heap:=h₁,toks:=t' }:=fun t'=>by rw[<-hs3]
 refine codeAny_compStart_list (loop _ ⟨_,e4 _⟩) (T.self _ 0 _ _ _ (T.keep 0 _ _ st2 fun b hb o e=>kept _ _ (old _ _ e)) (loop _ ⟨_,e4 _⟩))
theorem pA{X:Cx}{Nc capN tn:List Str}{scope:Scope}{cl:List (Str×Addr)}{n:Nat}{caps:List Nat}{tg iter elt:Expr}{pos:Pos}{wi:TI}{g:TG}{te:TE}{tt:TT}{c:Expr}
  (hc:X.calm=true) (hi:WI X tg iter wi) (hg:∀s3 H3 fp,WG (cxC X Nc scope cl s3 H3 fp) tg g) (he:∀s3 H3 fp,WE (cxC X Nc scope cl s3 H3 fp) elt te)
  (ht:∀s3 H3 fp,WT (cxC X Nc scope cl s3 H3 fp) c tt)
  (hclos:closureFor scope X.env=pure cl) (hkind:scope.kind=.function) (hnl:∀x∈scope.names,x.2=.local->scope.names.lookup x.1=some .local) (hcell:∀x∈scope.names,x.2≠.cell)
  (hcl:v8 X.env cl) (hhas:((relabel scope X.env).names.all fun p=>!(p.2 == .cell||p.2 == .free)||(cl.lookup p.1).isSome)=true)
  (hcap:Paired (Cap X scope cl) caps capN) (hN:Nc=tn++capN) (hn:tn.length=n)
  (hs:∀x,foldedSetIterable iter X.env x=pure x:=by intro _;rfl) :
  WE X (.ListComp elt [⟨tg,iter,[c],0⟩] scope pos) (qt wi g tt te n caps):=by
 constructor
 intro pins s σ H Q I h
 rw[eval_ListComp]
 refine qb hc hi hg he ht hclos hkind hnl hcell hcl hhas hcap hN hn I h (fun D C s6 H5 m I7 hm fr nl sz cn pn qn=>⟨m,hm,fun h' hs'=>?_⟩) hs
 exact⟨.ref D,H5,I7.turned (t':=s6.toks) (it:=C) (fun b o hb e=>hs'.extBut b o hb e) fr nl (.inr sz) cn pn,rfl,qn⟩
end OG
namespace OP
open PySem PySem.Spec PyProof.Rows L2 OG
open Classical in
noncomputable def cV(ok:Sto->Prop)(g:CG)(ct:CT)(ce:CE)(l:Nat):List U->Rho->Sto->Option Sto
 |[],_,S=>if ok S then some S else none
 |u::us,ρ,S=>if ok S then(g u ρ S).bind fun p=>(ct p.1 p.2).bind fun q=>if q.1=true then(ce p.1 q.2).bind fun r=>match r.2[l]? with
  |some (.lst ys)=>if ys.length<LIM then cV ok g ct ce l us p.1 (r.2.set l (.lst (ys++[r.1])))else none
  |_=>none else cV ok g ct ce l us p.1 q.2 else none
noncomputable def aY(ci:CI)(g:CG)(ct:CT)(ce:CE)(n:Nat)(caps:List Nat):CE:=fun ρ S=>(ci ρ S).bind fun p=>(cV p.2.1 g ct ce p.2.2.length p.1 (kn n caps ρ) (p.2.2++[.lst []])).bind fun S'=>some (.ref p.2.2.length,S')
section
variable{X:Cx}{K:PySem.W.Frag}
theorem oB{g:CG}{ct:CT}{ce:CE}{n:Nat}{caps:List Nat}{J:It}{us:List U}{ok:Sto->Prop}{Q:VK}{m1:List Addr}{H1:Hp}{S1 S':Sto}{ρ:Rho}{σ:L2.St}{l:Addr}(sr1:Sr K m1 S1 H1)(lr:Lr K m1 H1 ρ σ)(ito:Au K J m1 H1 us ok)(hl:H1 l=none)(h2:cV ok g ct ce S1.length us (kn n caps ρ) (S1++[.lst []])=some S')
  (post:∀m2 H2,Ext K (m1++[l]) (upd H1 l (.lst [])) m2 H2->Sr K m2 S' H2->Q (.ref l) H2) :
  ∃W:Nat->Nat->L2.St->Hp->Prop,(∃m,W 0 m (OG.stC n caps σ) (upd H1 l (.lst [])))/\
 ∀i m σ' H2,W i m σ' H2->(J.stop i H2/\Q (.ref l) H2)\/(J.go i H2/\∃N:L2.St->Hp->Prop,(∀σ'' H',N σ'' H'->∃m',m'<m/\W (i+1) m' σ'' H')/\
  ∀x H3,J.yld i H2 x H3->tG K g x σ' H3 fun σ2 H4=>tT K ct σ2 H4 fun b H5=>match b with
   |true=>tE K ce σ2 H5 fun v H6=>∃ys,H6 l=some (.lst ys)/\ys.length<sizeLine/\N σ2 (upd H6 l (.lst (ys++[v])))
   |false=>N σ2 H5):=by
 have ee:Ext K m1 H1 (m1++[l]) (upd H1 l (.lst [])):=.new (cq hl _)
 let W:Nat->Nat->L2.St->Hp->Prop:=fun i k σ2 H2=>k=us.length-i/\i<=us.length/\∃m2 ρ2 S2,Ext K (m1++[l]) (upd H1 l (.lst [])) m2 H2/\Sr K m2 S2 H2/\Lr K m2 H2 ρ2 σ2/\cV ok g ct ce S1.length (us.drop i) ρ2 S2=some S'
 refine⟨W,⟨us.length,by simp,Nat.zero_le _,m1++[l],kn n caps ρ,S1++[.lst []],.refl,sr1.new (o:=.lst []) hl ⟨[],aK,.nil_⟩,yI (lr.mono ee),by simpa using h2⟩,?_⟩
 rintro i k σ2 H2 ⟨rfl,hi,m2,ρ2,S2,e2,sr2,lr2,hl2⟩
 by_cases hlt:i<us.length
 ·have hu:=List.getElem?_eq_getElem hlt
  rw[ox hu]at hl2
  unfold cV at hl2
  split at hl2
  ·rename_i hok
   obtain⟨⟨ρ3,S3⟩,h3,hl2⟩:=Option.bind_eq_some_iff.mp hl2
   obtain⟨⟨b4,S4⟩,h4,hl2⟩:=Option.bind_eq_some_iff.mp hl2
   obtain⟨hgo,hy⟩:=(ito m2 S2 H2 i (ee.trans e2) sr2 hok).1 _ hu
   refine .inr ⟨hgo,W (i+1) (us.length-(i+1)),fun σ' H' w'=>⟨_,by omega,w'⟩,fun x H3 y=>?_⟩
   obtain⟨e3,sr3,ix⟩:=hy x H3 y
   refine⟨m2,ρ2,S2,_,ρ3,S3,sr3,lr2.mono e3,ix,h3,fun m4 σ4 H4 e4 sr4 lr4=>⟨m4,ρ3,S3,b4,S4,sr4,lr4,h4,fun m4' H4' e4' sr4'=>?_⟩⟩
   cases b4 with
   |false=>
    rw[if_neg Bool.false_ne_true]at hl2
    exact⟨rfl,hlt,m4',ρ3,_,(((e2.trans e3).trans e4).trans e4'),sr4',lr4.mono e4',hl2⟩
   |true=>
    rw[if_pos rfl]at hl2
    obtain⟨⟨u5,S5⟩,h5,hl2⟩:=Option.bind_eq_some_iff.mp hl2
    simp only at hl2
    split at hl2<;>try cases hl2
    rename_i ys hys
    split at hl2<;>try cases hl2
    rename_i fT
    refine⟨m4',ρ3,S4,u5,S5,sr4',lr4.mono e4',h5,fun m5 v5 H5 e5 sr5 i5=>?_⟩
    obtain⟨a',ha',xs,hx,il⟩:=sr5.get hys
    have ha:m5[S1.length]?=some l:=((((e2.trans e3).trans e4).trans e4').trans e5).get (fG sr1.len)
    rw[ha]at ha';cases ha'
    have eu:Ext K m5 H5 m5 (upd H5 l (.lst (xs++[v5]))):=.of (sr5.keep ha _)
    exact⟨xs,hx,IA (by rw[il.length];exact fT),rfl,hlt,m5,ρ3,_,(((((e2.trans e3).trans e4).trans e4').trans e5).trans eu),sr5.put (o:=.lst (ys++[u5])) ha ⟨_,aK,(il.append (.cons_ i5 .nil_)).mono eu⟩,(lr4.mono ((e4'.trans e5).trans eu)),hl2⟩
  ·cases hl2
 ·have e:i=us.length:=by omega
  subst e
  rw[List.drop_length]at hl2
  unfold cV at hl2
  split at hl2
  ·rename_i hok
   cases hl2
   exact .inl ⟨(ito m2 _ H2 _ (ee.trans e2) sr2 hok).2 (Nat.le_refl _),post m2 H2 e2 sr2⟩
  ·cases hl2
theorem pZ{ci:CI}{g:CG}{ct:CT}{ce:CE}{n:Nat}{caps:List Nat}:∀σ H Q,tE K (aY ci g ct ce n caps) σ H Q->qt (tI K ci) (tG K g) (tT K ct) (tE K ce) n caps σ H Q:=by
 rintro σ H Q ⟨m,ρ,S,u,S',sr,lr,hc,post⟩
 obtain⟨⟨us,ok,S1⟩,h1,h2⟩:=Option.bind_eq_some_iff.mp hc
 obtain⟨S2,h2,h3⟩:=Option.bind_eq_some_iff.mp h2
 cases h3
 refine⟨m,ρ,S,us,ok,S1,sr,lr,h1,fun m1 H1 J e1 sr1 ito l hl=>?_⟩
 have ee:Ext K m1 H1 (m1++[l]) (upd H1 l (.lst [])):=.new (cq hl _)
 exact oB sr1 (lr.mono e1) ito hl h2 fun m2 H2 e2 sr2=>post m2 _ H2 ((e1.trans ee).trans e2) sr2 (.ref_ (e2.get (fG sr1.len)))
theorem jV{Nc capN tn:List Str}{scope:Scope}{cl:List (Str×Addr)}{n:Nat}{caps:List Nat}{tg iter elt:Expr}{pos:Pos}{ci:CI}{g:CG}{ct:CT}{ce:CE}{c:Expr}
  (hc:X.calm=true) (hi:QI X tg iter ci) (hg:∀s3 H3 fp,WG (cxC X Nc scope cl s3 H3 fp) tg (tG X.K g)) (ht:∀s3 H3 fp,WT (cxC X Nc scope cl s3 H3 fp) c (tT X.K ct)) (he:∀s3 H3 fp,WE (cxC X Nc scope cl s3 H3 fp) elt (tE X.K ce))
  (hclos:closureFor scope X.env=pure cl) (hkind:scope.kind=.function) (hnl:∀x∈scope.names,x.2=.local->scope.names.lookup x.1=some .local) (hcell:∀x∈scope.names,x.2≠.cell)
  (hcl:v8 X.env cl) (hhas:((relabel scope X.env).names.all fun p=>!(p.2 == .cell||p.2 == .free)||(cl.lookup p.1).isSome)=true)
  (hcap:Paired (Cap X scope cl) caps capN) (hN:Nc=tn++capN) (hn:tn.length=n)
  (hs:∀x,foldedSetIterable iter X.env x=pure x:=by intro _;rfl) :
  QE X (.ListComp elt [⟨tg,iter,[c],0⟩] scope pos) (aY ci g ct ce n caps):=(pA hc hi hg he ht hclos hkind hnl hcell hcl hhas hcap hN hn hs).imp pZ
end
end OP
namespace OP
open PySem PySem.Spec PyProof PyProof.Rows L2 OG
mutual
inductive RdV(K:PySem.W.Frag)(H:Hp):V->PyData->Prop
 |non:RdV K H .non .none
 |bl (b:Bool):RdV K H (.bl b) (.bool b)
 |int (i:Int):RdV K H (.int i) (.int i)
 |str (x:Str):RdV K H (.str x) (.str x)
 |lst {a:Addr} {xs:List V} {ds:List PyData}:SqL K H a xs->Af K H xs ds->RdV K H (.ref a) (.list ds)
 |tup {a:Addr} {xs:List V} {ds:List PyData}:SqT K H a xs->Af K H xs ds->RdV K H (.ref a) (.tuple ds)
inductive Af(K:PySem.W.Frag)(H:Hp):List V->List PyData->Prop
 |nil:Af K H [] []
 |cons {x:V} {xs:List V} {d:PyData} {ds:List PyData}:RdV K H x d->Af K H xs ds->Af K H (x::xs) (d::ds)
end
mutual
inductive Dt(S:Sto):U->PyData->Prop
 |non:Dt S .non .none
 |bl (b:Bool):Dt S (.bl b) (.bool b)
 |int (i:Int):Dt S (.int i) (.int i)
 |str (x:Str):Dt S (.str x) (.str x)
 |lst {l:Nat} {us:List U} {ds:List PyData}:S[l]?=some (.lst us)->DtL S us ds->Dt S (.ref l) (.list ds)
 |tup {us:List U} {ds:List PyData}:DtL S us ds->Dt S (.tup us) (.tuple ds)
inductive DtL(S:Sto):List U->List PyData->Prop
 |nil:DtL S [] []
 |cons {x:U} {xs:List U} {d:PyData} {ds:List PyData}:Dt S x d->DtL S xs ds->DtL S (x::xs) (d::ds)
end
section
variable{X:Cx}{K:PySem.W.Frag}{pins:List (Addr×Obj)}{σ:L2.St}{H:Hp}{s:Shared}
mutual
theorem RdV.reads(I:Inv X pins σ H s):∀{x:V} {d:PyData} {v:Value},RdV X.K H x d->dj x v->∃as,Reads s.heap v d as
 |_,_,_,.non,r=>by cases r;exact⟨_,.none⟩
 |_,_,_,.bl b,r=>by cases r;exact⟨_,.bool b⟩
 |_,_,_,.int i,r=>by obtain⟨t,rfl⟩:=r;exact⟨_,.int i t⟩
 |_,_,_,.str i,r=>by obtain⟨t,rfl⟩:=r;exact⟨_,.str i t⟩
 |_,_,_,.lst (a:=a) h t,r=>by
  cases r
  obtain⟨its,rv,pl,_⟩:=I.list h
  obtain⟨as,k⟩:=Af.reads I t rv
  obtain⟨o,h1,h2,n,h3⟩:=pl.isList
  exact⟨_,.list h1 h2 h3 (by simpa using k)⟩
 |_,_,_,.tup (a:=a) h t,r=>by
  cases r
  obtain⟨its,rv,pl,_⟩:=I.tuple h
  obtain⟨as,k⟩:=Af.reads I t rv
  obtain⟨o,h1,h2,n,h3⟩:=pl
  exact⟨_,.tuple h1 h2 h3 (by simpa using k)⟩
theorem Af.reads(I:Inv X pins σ H s):∀{xs:List V} {ds:List PyData} {vs:List Value},Af X.K H xs ds->b8 xs vs->∃as,ReadsAll s.heap vs ds as
 |_,_,_,.nil,r=>by cases r;exact⟨_,.nil⟩
 |_,_,_,.cons h t,.cons r rs=>by
  obtain⟨as,a⟩:=RdV.reads I h r
  obtain⟨bs,b⟩:=Af.reads I t rs
  exact⟨_,.cons a b⟩
end
mutual
theorem Dt.rd{m:List Addr}{S:Sto}(sr:Sr K m S H):∀{u:U} {d:PyData} {v:V},Dt S u d->Is K m H v u->RdV K H v d
 |_,_,_,.non,i=>by rw[i.of_non];exact .non
 |_,_,_,.bl b,i=>by rw[i.of_bl];exact .bl b
 |_,_,_,.int b,i=>by rw[i.of_int];exact .int b
 |_,_,_,.str b,i=>by rw[i.of_str];exact .str b
 |_,_,_,.lst h t,i=>by
  obtain⟨a,ha,rfl⟩:=i.of_ref
  obtain⟨a',ha',xs,hx,il⟩:=sr.get h
  rw[ha]at ha';cases ha'
  exact .lst (SqL.of hx) (DtL.rd sr t il)
 |_,_,_,.tup t,i=>by
  obtain⟨a,xs,rfl,sa,la⟩:=i.of_tup
  exact .tup sa (DtL.rd sr t la)
theorem DtL.rd{m:List Addr}{S:Sto}(sr:Sr K m S H):∀{us:List U} {ds:List PyData} {vs:List V},DtL S us ds->IsL K m H vs us->Af K H vs ds
 |_,_,_,.nil,i=>by rw[i.of_nil];exact .nil
 |_,_,_,.cons h t,i=>by
  obtain⟨x,r,rfl,i1,i2⟩:=i.of_cons
  exact .cons (Dt.rd sr h i1) (DtL.rd sr t i2)
end
mutual
theorem Dt.uniq{S:Sto}:∀{u:U} {d e:PyData},Dt S u d->Dt S u e->d=e
 |_,_,_,.non,.non=>rfl
 |_,_,_,.bl _,.bl _=>rfl
 |_,_,_,.int _,.int _=>rfl
 |_,_,_,.str _,.str _=>rfl
 |_,_,_,.lst h t,.lst h' t'=>by
  rw[h]at h';cases h'
  rw[DtL.uniq t t']
 |_,_,_,.tup t,.tup t'=>by rw[DtL.uniq t t']
theorem DtL.uniq{S:Sto}:∀{us:List U} {ds es:List PyData},DtL S us ds->DtL S us es->ds=es
 |_,_,_,.nil,.nil=>rfl
 |_,_,_,.cons h t,.cons h' t'=>by rw[Dt.uniq h h',DtL.uniq t t']
end
noncomputable def Am(d:PyData):Prop:=d.canLay0=true/\d.depth<=60
noncomputable def KI(K:PySem.W.Frag)(neg:Bool):R2:=fun x y H Q=>(∃dx dy,RdV K H x dx/\RdV K H y dy/\Am dx/\Am dy/\Q (.bl (if neg then !dx.eqv dy else dx.eqv dy)) H)\/
 ∃a b xs ys,x=.ref a/\y=.ref b/\SqL K H a xs/\SqL K H b ys/\xs.length≠ys.length/\Q (.bl neg) H
theorem Ik(hu:X.A.units+64<cLine):OpR X (compareOp .Eq) (KI X.K false):=by
 rintro pins s σ H x y v u Q I rx ry (⟨dx,dy,hx,hy,lx,ly,q⟩|⟨a,b,xs,ys,rfl,rfl,ha,hb,ne,q⟩)
 ·obtain⟨as,hx⟩:=hx.reads I rx
  obtain⟨bs,hy⟩:=hy.reads I ry
  exact SeqAt.compareEq_reads hx hy lx.1 ly.1 (by have:=lx.2;omega) ⟨.bl _,H,I,rfl,q⟩
 ·cases rx
  cases ry
  obtain⟨i1,r1,p1,_⟩:=I.list ha
  obtain⟨i2,r2,p2,_⟩:=I.list hb
  have l1:=r1.length
  have l2:=r2.length
  exact SeqAt.RcAt.lists_lengths p1.isList p2.isList (by simp;omega) (by omega) X.prog X.w X.xe _ ⟨.bl false,H,I,rfl,q⟩
theorem pL(hu:X.A.units+64<cLine):OpR X (compareOp .NotEq) (KI X.K true):=by
 rintro pins s σ H x y v u Q I rx ry (⟨dx,dy,hx,hy,lx,ly,q⟩|⟨a,b,xs,ys,rfl,rfl,ha,hb,ne,q⟩)
 ·obtain⟨as,hx⟩:=hx.reads I rx
  obtain⟨bs,hy⟩:=hy.reads I ry
  exact SeqAt.compareNe_reads hx hy lx.1 ly.1 (by have:=lx.2;omega) ⟨.bl _,H,I,rfl,q⟩
 ·cases rx
  cases ry
  obtain⟨i1,r1,p1,_⟩:=I.list ha
  obtain⟨i2,r2,p2,_⟩:=I.list hb
  have l1:=r1.length
  have l2:=r2.length
  exact SeqAt.RcNeAt.lists_lengths p1.isList p2.isList (by simp;omega) (by omega) X.prog X.w X.xe _ ⟨.bl true,H,I,rfl,q⟩
noncomputable def Av(x y:U)(S:Sto)(b:Bool):Prop:=(∃dx dy,Dt S x dx/\Dt S y dy/\Am dx/\Am dy/\b=dx.eqv dy)\/∃l l' us vs,x=.ref l/\y=.ref l'/\S[l]?=some (.lst us)/\S[l']?=some (.lst vs)/\us.length≠vs.length/\b=false
theorem DtL.length{S:Sto}:∀{us:List U} {ds:List PyData},DtL S us ds->us.length=ds.length
 |_,_,.nil=>rfl
 |_,_,.cons _ t=>by rw[List.length_cons,List.length_cons,DtL.length t]
theorem Av.mix{l l':Nat}{us vs:List U}{S:Sto}{dx dy:PyData}(h1:Dt S (.ref l) dx)(h2:Dt S (.ref l') dy)(k1:S[l]?=some (.lst us))(k2:S[l']?=some (.lst vs))(ne:us.length≠vs.length):dx.eqv dy=false:=by
 cases h1 with
 |lst a1 t1=>
  cases h2 with
  |lst a2 t2=>
   rw[k1]at a1;cases a1
   rw[k2]at a2;cases a2
   show PyData.eqvAll _ _=false
   exact SeqAt.eqvAll_other_length (by rw[<-t1.length,<-t2.length];exact ne)
theorem Av.uniq{x y:U}{S:Sto}{b c:Bool}(h:Av x y S b)(k:Av x y S c):b=c:=by
 rcases h with⟨dx,dy,h1,h2,_,_,rfl⟩|⟨l,l',us,vs,rfl,rfl,h1,h2,ne,rfl⟩
 ·rcases k with⟨ex,ey,k1,k2,_,_,rfl⟩|⟨l,l',us,vs,rfl,rfl,k1,k2,ne,rfl⟩
  ·rw[h1.uniq k1,h2.uniq k2]
  ·exact Av.mix h1 h2 k1 k2 ne
 ·rcases k with⟨ex,ey,k1,k2,_,_,rfl⟩|⟨_,_,_,_,_,_,_,_,_,rfl⟩
  ·exact(Av.mix k1 k2 h1 h2 ne).symm
  ·rfl
open Classical in
noncomputable def mI(neg:Bool):U->U->Sto->Option (U×Sto):=fun x y S=>if h:∃b,Av x y S b then some (.bl (if neg then !h.choose else h.choose),S)else none
theorem qX{x y:U}{S:Sto}{b:Bool}(neg:Bool)(h:Av x y S b):mI neg x y S=some (.bl (if neg then !b else b),S):=by
 unfold mI
 rw[dif_pos ⟨b,h⟩]
 have e:(⟨b,h⟩:∃b,Av x y S b).choose=b:=(Exists.choose_spec (⟨b,h⟩:∃b,Av x y S b)).uniq h
 rw[e]
theorem ua{neg:Bool}:OpP K (KI K neg) (mI neg):=by
 intro m S H x y v w u S' Q sr ix iy hf post
 unfold mI at hf
 split at hf<;>try cases hf
 rename_i h
 have hb:=h.choose_spec
 generalize h.choose=b at hb post
 rcases hb with⟨dx,dy,h1,h2,l1,l2,rfl⟩|⟨l,l',us,vs,rfl,rfl,h1,h2,ne,rfl⟩
 ·exact .inl ⟨dx,dy,h1.rd sr ix,h2.rd sr iy,l1,l2,post m _ H .refl sr .bl_⟩
 ·obtain⟨a,ha,rfl⟩:=ix.of_ref
  obtain⟨a',ha',xs,hx,la⟩:=sr.get h1
  rw[ha]at ha';cases ha'
  obtain⟨c,hc,rfl⟩:=iy.of_ref
  obtain⟨c',hc',ys,hy,lc⟩:=sr.get h2
  rw[hc]at hc';cases hc'
  refine .inr ⟨a,c,xs,ys,rfl,rfl,SqL.of hx,SqL.of hy,by rw[la.length,lc.length];exact ne,?_⟩
  have e:(if neg=true then !false else false)=neg:=by cases neg<;>rfl
  have:=post m _ H .refl sr (Is.bl_ (b:=if neg=true then !false else false))
  rw[e]at this
  exact this
noncomputable def Dq(us:List U)(lo hi:Option Int):List U:=(us.drop (HT.sIx us.length 0 lo)).take (HT.sIx us.length us.length hi-HT.sIx us.length 0 lo)
theorem Dp{m:List Addr}{xs:List V}{us:List U}{lo hi:Option Int}(i:IsL K m H xs us):IsL K m H (zJ xs lo hi) (Dq us lo hi):=by
 unfold zJ Dq
 rw[i.length]
 exact(i.drop _).take _
noncomputable def fSl(x:U)(lo hi:Option Int)(S:Sto):Option (U×Sto):=match x with
 |.tup us=>if HT.sIx us.length 0 lo=0/\HT.sIx us.length us.length hi=us.length then none else some (.tup (Dq us lo hi),S)
 |.ref l=>match S[l]? with
  |some (.lst us)=>some (.ref S.length,S++[.lst (Dq us lo hi)])
  |_=>none
 |_=>none
noncomputable def mR:Option CE->Rho->Sto->Option (Option Int×Sto)
 |none,_,S=>some (none,S)
 |some c,ρ,S=>(c ρ S).bind fun p=>match p.1 with
  |.int i=>some (some i,p.2)
  |_=>none
noncomputable def cSl(ca:CE)(cl ch:Option CE):CE:=fun ρ S=>(ca ρ S).bind fun p=>(mR cl ρ p.2).bind fun q=>(mR ch ρ q.2).bind fun r=>fSl p.1 q.1 r.1 r.2
noncomputable def LB(K:PySem.W.Frag)(m:List Addr)(H:Hp)(Q:Option Int->Hp->Prop)(o:Option Int)(S':Sto):Prop:=∀m' H',Ext K m H m' H'->Sr K m' S' H'->Q o H'
noncomputable def tO(K:PySem.W.Frag)(c:Option CE):TO:=fun σ H Q=>∃m ρ S o S',Sr K m S H/\Lr K m H ρ σ/\mR c ρ S=some (o,S')/\LB K m H Q o S'
noncomputable abbrev QO(X:Cx)(e:Option Expr)(c:Option CE):Prop:=WO X e (tO X.K c)
theorem jw:QO X none none:=⟨fun pins s σ H Q I hz=>m6 hz fun m ρ S o S' sr lr hc post=>uT.h pins s σ H Q I (by cases hc;exact post m H .refl sr)⟩
theorem jv{e:Expr}{ca:CE}(h:QE X e ca):QO X (some e) (some ca):=⟨fun pins s σ H Q I hz=>m6 hz fun m ρ S o S' sr lr hc post=>(uS h).h pins s σ H Q I (by
 obtain⟨⟨x,S1⟩,h1,h2⟩:=Option.bind_eq_some_iff.mp hc
 refine⟨m,ρ,S,x,S1,sr,lr,h1,fun m1 v1 H1 e1 sr1 i1=>?_⟩
 cases x<;>simp at h2
 obtain⟨rfl,rfl⟩:=h2
 exact⟨_,i1.of_int,post m1 H1 e1 sr1⟩)⟩
theorem CV{e:Expr}{lo hi:Option Expr}{ca:CE}{cl ch:Option CE}{pos p2:Pos}(ha:QE X e ca)(hl:QO X lo cl)(hh:QO X hi ch):QE X (.Subscript e (.Slice lo hi none p2) pos) (cSl ca cl ch):=(rL (xY.or Hr) ha hl hh).imp fun σ H Q hz=>m6 hz fun m ρ S u S' sr lr hc post=>by
 obtain⟨⟨x,S1⟩,h1,ha⟩:=Option.bind_eq_some_iff.mp hc
 obtain⟨⟨l,S2⟩,h2,hb⟩:=Option.bind_eq_some_iff.mp ha
 obtain⟨⟨k,S3⟩,h3,h⟩:=Option.bind_eq_some_iff.mp hb
 clear ha hb hc
 refine⟨m,ρ,S,x,S1,sr,lr,h1,fun m1 v1 H1 e1 sr1 i1=>⟨m1,ρ,S1,l,S2,sr1,lr.mono e1,h2,fun m2 H2 e2 sr2=>⟨m2,ρ,S2,k,S3,sr2,lr.mono (e1.trans e2),h3,fun m3 H3 e3 sr3=>?_⟩⟩⟩
 have i3:=i1.mono (e2.trans e3)
 have e03:=(e1.trans e2).trans e3
 cases x with
 |tup us=>
  simp only[fSl]at h
  split at h<;>try cases h
  rename_i hw
  obtain⟨a,xs,rfl,sa,la⟩:=i3.of_tup
  exact .inr ⟨a,xs,rfl,sa,by rw[la.length];exact hw,fun p hp=>qC sr3 (Dp la) (post.mono e03) hp⟩
 |ref r=>
  simp only[fSl]at h
  split at h<;>try cases h
  rename_i us hS
  obtain⟨a,ha,rfl⟩:=i3.of_ref
  obtain⟨a',ha',xs,hx,la⟩:=sr3.get hS
  rw[ha]at ha';cases ha'
  exact .inl ⟨a,xs,rfl,SqL.of hx,fun p hp=>fY sr3 (Dp la) (post.mono e03) hp⟩
 |_=>simp[fSl]at h
end
section
variable{X:Cx}{K:PySem.W.Frag}
instance {us:List U}:Decidable (us≠[]):=match us with
 |[]=>.isFalse fun h=>h rfl
 |_::_=>.isTrue fun h=>by cases h
end
end OP
namespace OG
open PySem PySem.Spec PyProof.Rows L2
theorem Ip{C a:Addr}{m:Str->Option Value}{h h':Heap}(n:h.Ns C m)(s:Heap.SameBut a h h')(ne:C≠a):h'.Ns C m:=by
 obtain⟨o,es,ep,e,r⟩:=n
 exact⟨o,es,ep,(s.2 C ne).trans e,r⟩
theorem rJ{X:Cx}{Nc capN tn:List Str}{scope:Scope}{cl:List (Str×Addr)}{n:Nat}{caps:List Nat}{tg iter elt:Expr}{pos:Pos}{wi:TI}{g:TG}{te:TE}{tt:TT}{c:Expr}
  (hc:X.calm=true) (hi:WI X tg iter wi) (hg:∀s3 H3 fp,WG (cxC X Nc scope cl s3 H3 fp) tg g) (he:∀s3 H3 fp,WE (cxC X Nc scope cl s3 H3 fp) elt te)
  (ht:∀s3 H3 fp,WT (cxC X Nc scope cl s3 H3 fp) c tt)
  (hclos:closureFor scope X.env=pure cl) (hkind:scope.kind=.function) (hnl:∀x∈scope.names,x.2=.local->scope.names.lookup x.1=some .local) (hcell:∀x∈scope.names,x.2≠.cell)
  (hcl:v8 X.env cl) (hhas:((relabel scope X.env).names.all fun p=>!(p.2 == .cell||p.2 == .free)||(cl.lookup p.1).isSome)=true)
  (hcap:Paired (Cap X scope cl) caps capN) (hN:Nc=tn++capN) (hn:tn.length=n)
  {i₀:Nat} {x₀:Str} {pos₀ pos':Pos} (hN0:X.N.Nodup) (hi0:X.N[i₀]?=some x₀) (hx0:X.env.scope.names.lookup x₀=some .local)
  (hsw:swapsWith (.ListComp elt [⟨tg,iter,[c],0⟩] scope pos) (some (.Name x₀ pos')) pos₀.line X.env=pure true)
  (hs:∀x,foldedSetIterable iter X.env x=pure x:=by intro _;rfl) :
  WS X (.Assign [.Name x₀ pos'] (.ListComp elt [⟨tg,iter,[c],0⟩] scope pos) pos₀) (fun D σ H=>qt wi g tt te n caps σ H fun v H'=>D.nx (σ.set i₀ (some v)) H'):=by
 constructor
 intro pins s σ H Dn I h
 rw[exec_Assign_arm]
 refine wpAny_bind (wpAny_standAt ?_)
 have hsw':swapsWithSole [.Name x₀ pos'] (.ListComp elt [⟨tg,iter,[c],0⟩] scope pos) pos₀.line X.env=pure true:=hsw
 rw[hsw']
 refine wpAny_bind (wpAny_pure ?_)
 rw[if_pos rfl,arm_evalThenUse_ListComp]
 refine wpAny_bind (wpAny_bind (qb (Qf:=fun _ s'=>wpAny (model X.prog X.w) X.A (pure ()) (fun _ s'=>wpAny (model X.prog X.w) X.A (pure Flow.next) (SP X pins Dn) X.xe s') X.xe s') hc hi hg he ht hclos hkind hnl hcell hcl hhas hcap hN hn I h (fun D C s6 H5 m I7 hm fr nl sz cn pn qn=>?_) hs))
 show wpAny _ _ (assign (.Name x₀ pos') X.env (.ref D)) _ _ s6
 rw[arm_assign_Name]
 refine wpAny_bind (wpAny_standAt (wpAny_bindName (rY (v:=.ref D) I7 hN0 hi0 (.inl hx0) rfl (fun s7 I7' hsb=>?_) (.inr hx0))))
 obtain⟨a7,hsb,ha7⟩:=hsb
 have cNe:C≠a7:=by
  rcases ha7 with z|z
  ·rw[z];exact nl
  ·exact Ne.symm (cn _ _ z)
 refine⟨m,Ip hm hsb cNe,fun h' hs'=>wpAny_pure (wpAny_pure ⟨_,H5,?_,qn⟩)⟩
 exact I7'.turned (t':=s7.toks) (it:=C) (fun b o hb e=>hs'.extBut b o hb e) fr nl (.inr sz) cn pn
end OG
namespace OP
open PySem PySem.Spec PyProof.Rows L2 OG
section
variable{X:Cx}{K:PySem.W.Frag}
theorem gU{i₀:Nat}{x₀:Str}{pos₀ pos':Pos}{Nc capN tn:List Str}{scope:Scope}{cl:List (Str×Addr)}{n:Nat}{caps:List Nat}{tg iter elt:Expr}{pos:Pos}{ci:CI}{g:CG}{ct:CT}{ce:CE}{c:Expr}
  (hc:X.calm=true) (hi:QI X tg iter ci) (hg:∀s3 H3 fp,WG (cxC X Nc scope cl s3 H3 fp) tg (tG X.K g)) (ht:∀s3 H3 fp,WT (cxC X Nc scope cl s3 H3 fp) c (tT X.K ct)) (he:∀s3 H3 fp,WE (cxC X Nc scope cl s3 H3 fp) elt (tE X.K ce))
  (hclos:closureFor scope X.env=pure cl) (hkind:scope.kind=.function) (hnl:∀x∈scope.names,x.2=.local->scope.names.lookup x.1=some .local) (hcell:∀x∈scope.names,x.2≠.cell)
  (hcl:v8 X.env cl) (hhas:((relabel scope X.env).names.all fun p=>!(p.2 == .cell||p.2 == .free)||(cl.lookup p.1).isSome)=true)
  (hcap:Paired (Cap X scope cl) caps capN) (hN:Nc=tn++capN) (hn:tn.length=n)
  (hN0:X.N.Nodup) (hi0:X.N[i₀]?=some x₀) (hx0:X.env.scope.names.lookup x₀=some .local)
  (hsw:swapsWith (.ListComp elt [⟨tg,iter,[c],0⟩] scope pos) (some (.Name x₀ pos')) pos₀.line X.env=pure true)
  (hs:∀x,foldedSetIterable iter X.env x=pure x:=by intro _;rfl) :
  QS X (.Assign [.Name x₀ pos'] (.ListComp elt [⟨tg,iter,[c],0⟩] scope pos) pos₀) (dc i₀ (aY ci g ct ce n caps)):=(rJ hc hi hg he ht hclos hkind hnl hcell hcl hhas hcap hN hn hN0 hi0 hx0 hsw hs).imp fun D σ H hz=>vN hz fun m ρ S o ρ' S' sr lr hc post=>by
 obtain⟨⟨u,S1⟩,h1,h2⟩:=Option.bind_eq_some_iff.mp hc
 cases h2
 exact pZ _ _ _ ⟨m,ρ,S,u,_,sr,lr,h1,fun m1 v1 H1 e1 sr1 i1=>post m1 _ H1 e1 sr1 ((lr.mono e1).set i₀ i1)⟩
end
end OP
namespace OP
open PySem PySem.Spec PyProof PyProof.Rows L2 OG
section
variable{X:Cx}{K:PySem.W.Frag}
noncomputable def uD(ca:CE):CE:=fun ρ S=>(ca ρ S).bind fun p=>match p.1 with
 |.int i=>some (.int (-i),p.2)
 |_=>none
theorem CD:UnR X (unaryOp .USub) (fun x H Q=>∃i,x=.int i/\Q (.int (-i)) H):=by
 rintro pins s σ H x v Q I rx ⟨i,rfl,q⟩
 obtain⟨t,rfl⟩:=rx
 exact PyProof.Rows.neg_int ⟨.int (-i),H,I.tok _,⟨_,rfl⟩,q⟩
theorem wq{a:Expr}{ca:CE}{pos:Pos}(ha:QE X a ca):QE X (.UnaryOp .USub a pos) (uD ca):=(G9 CD ha).imp fun σ H Q hz=>m6 hz fun m ρ S u S' sr lr hc post=>by
 obtain⟨⟨x,S1⟩,h1,h2⟩:=Option.bind_eq_some_iff.mp hc
 refine⟨m,ρ,S,x,S1,sr,lr,h1,fun m1 v1 H1 e1 sr1 i1=>?_⟩
 cases x<;>simp at h2
 obtain⟨rfl,rfl⟩:=h2
 exact⟨_,i1.of_int,post m1 _ H1 e1 sr1 .int_⟩
noncomputable def md:U->List U->Sto->Option (U×Sto)
 |.ref l,[.ref b],S=>match S[l]?,S[b]? with
  |some (.lst us),some (.lst vs)=>if us.length+vs.length<=LIM then some (.non,S.set l (.lst (us++vs)))else none
  |_,_=>none
 |_,_,_=>none
theorem Bz:MtP K ye md:=by
 intro m S H x v us vs u S' Q sr ix i hf post
 match x,us,hf with
 |.ref l,[.ref b],hf=>
  simp only[md]at hf
  split at hf<;>try cases hf
  rename_i xs0 ys0 hS hB
  split at hf<;>try cases hf
  rename_i hl
  obtain⟨a,ha,rfl⟩:=ix.of_ref
  obtain⟨a',ha',xs,hx,la⟩:=sr.get hS
  rw[ha]at ha';cases ha'
  obtain⟨y,rfl,iy⟩:=i.one
  obtain⟨c,hc,rfl⟩:=iy.of_ref
  obtain⟨c',hc',ys,hy,lb⟩:=sr.get hB
  rw[hc]at hc';cases hc'
  have eu:Ext K m H m (upd H a (.lst (xs++ys))):=.of (sr.keep ha _)
  exact⟨a,c,xs,ys,rfl,rfl,hx,hy,lim (by rw[la.length,lb.length];exact hl),post m _ _ eu (sr.put ha ⟨_,aK,(la.append lb).mono eu⟩) .non_⟩
noncomputable def Fx:U->List U->Sto->Option (U×Sto)
 |.ref l,[],S=>match S[l]? with
  |some (.lst us)=>(us[us.length-1]?).bind fun u=>some (u,S.set l (.lst us.dropLast))
  |_=>none
 |_,_,_=>none
theorem IsL.dropLast{m:List Addr}{H:Hp}{xs:List V}{us:List U}(h:IsL K m H xs us):IsL K m H xs.dropLast us.dropLast:=by
 rw[List.dropLast_eq_take,List.dropLast_eq_take,h.length]
 exact h.take _
theorem K2:MtP K LU Fx:=by
 intro m S H x v us vs u S' Q sr ix i hf post
 match x,us,hf with
 |.ref l,[],hf=>
  simp only[Fx]at hf
  split at hf<;>try cases hf
  rename_i ws hS
  obtain⟨w,hw,h⟩:=Option.bind_eq_some_iff.mp hf
  cases h
  obtain⟨a,ha,rfl⟩:=ix.of_ref
  obtain⟨a',ha',xs,hx,la⟩:=sr.get hS
  rw[ha]at ha';cases ha'
  obtain⟨y,hy,iy⟩:=la.getD hw
  have eu:Ext K m H m (upd H a (.lst xs.dropLast)):=.of (sr.keep ha _)
  exact⟨a,xs,y,rfl,i.of_nil,hx,by rw[la.length];exact hy,post m _ _ eu (sr.put ha ⟨_,aK,la.dropLast.mono eu⟩) (iy.mono eu)⟩
noncomputable def lI:U->List U->Sto->Option (U×Sto)
 |.ref l,[.int i],S=>match S[l]? with
  |some (.lst us)=>if 0<=i/\i<us.length/\us.length<=LIM then(us[i.toNat]?).bind fun u=>some (u,S.set l (.lst (us.eraseIdx i.toNat)))else none
  |_=>none
 |_,_,_=>none
theorem EU:MtP K CQ lI:=by
 intro m S H x v us vs u S' Q sr ix i hf post
 match x,us,hf with
 |.ref l,[.int k],hf=>
  simp only[lI]at hf
  split at hf<;>try cases hf
  rename_i ws hS
  split at hf<;>try cases hf
  rename_i hk
  obtain⟨w,hw,h⟩:=Option.bind_eq_some_iff.mp hf
  cases h
  obtain⟨a,ha,rfl⟩:=ix.of_ref
  obtain⟨a',ha',xs,hx,la⟩:=sr.get hS
  rw[ha]at ha';cases ha'
  obtain⟨y,hy,iy⟩:=la.getD hw
  obtain⟨z,rfl,iz⟩:=i.one
  have eu:Ext K m H m (upd H a (.lst (xs.eraseIdx k.toNat))):=.of (sr.keep ha _)
  have hL:ws.length<=100000:=hk.2.2
  exact⟨a,xs,k,k.toNat,y,rfl,by rw[iz.of_int],hx,by omega,by omega,seqIndex_of hk.1 (by rw[la.length];exact hk.2.1),hy,post m _ _ eu (sr.put ha ⟨_,aK,(la.erase _).mono eu⟩) (iy.mono eu)⟩
variable{e:Expr}{es:List Expr}{co:CE}{cr:CA}{o:Expr}{apos cpos:Pos}
theorem Be (ho : QE X o co) (ha : QA X (e :: es) cr) (hbase : attributeBase o "extend" X.env (eval o X.env) = eval o X.env := by rfl) (hfew : ((backTo cpos (starEach (e :: es) X.env)).all (fun x => !x.1) && (backToKw cpos (keywordEach [] X.env)).all (fun x => x.1.isSome)
   && decide ((e::es).length+([]:List Keyword).length+(if ([]:List Keyword).isEmpty then 0 else 1)<30))=true:=by rfl) (hline:(apos.endLine == cpos.line)=true:=by rfl) (hs:starEach (e::es) X.env=(false,eval e X.env)::starEach es X.env:=by rfl) (hplain:(backTo cpos (starEach es X.env)).any (·.1)=false:=by rfl) :
  QE X (.Call (.Attribute o "extend" apos) (e::es) [] cpos) (cBM md co cr):=(uU PySem.F.plainAttrs_list PySem.F.slot_list_extend PySem.F.type_list_extend yD ho ha.h hbase hfew hline hs hplain).imp (tL Bz)
theorem t5 (ho : QE X o co) (ha : QA X (e :: es) cr) (hbase : attributeBase o "pop" X.env (eval o X.env) = eval o X.env := by rfl) (hfew : ((backTo cpos (starEach (e :: es) X.env)).all (fun x => !x.1) && (backToKw cpos (keywordEach [] X.env)).all (fun x => x.1.isSome)
   && decide ((e::es).length+([]:List Keyword).length+(if ([]:List Keyword).isEmpty then 0 else 1)<30))=true:=by rfl) (hline:(apos.endLine == cpos.line)=true:=by rfl) (hs:starEach (e::es) X.env=(false,eval e X.env)::starEach es X.env:=by rfl) (hplain:(backTo cpos (starEach es X.env)).any (·.1)=false:=by rfl) :
  QE X (.Call (.Attribute o "pop" apos) (e::es) [] cpos) (cBM lI co cr):=(uU PySem.F.plainAttrs_list PySem.F.slot_list_pop PySem.F.type_list_pop BG ho ha.h hbase hfew hline hs hplain).imp (tL EU)
theorem KO(ho:QE X o co)(hbase:attributeBase o "pop" X.env (eval o X.env)=eval o X.env:=by rfl)(hline:(apos.endLine == cpos.line)=true:=by rfl) :
  QE X (.Call (.Attribute o "pop" apos) [] [] cpos) (cBM Fx co aD):=(Eb PySem.F.plainAttrs_list PySem.F.slot_list_pop PySem.F.type_list_pop Iq ho hbase hline).imp fun σ H Q h=>by
 obtain⟨m,ρ,S,u,S',sr,lr,hc,k⟩:=tL (cr:=aD) K2 σ H Q h
 refine⟨m,ρ,S,u,S',sr,lr,hc,fun m1 v1 H1 e1 sr1 i1=>?_⟩
 obtain⟨ty,m2,ρ2,S2,us,S3,sr2,lr2,h4,h5⟩:=k m1 v1 H1 e1 sr1 i1
 cases h4
 exact⟨ty,h5 m2 [] H1 .refl sr2 .nil_⟩
noncomputable def mf(cr:CA):CE:=fun ρ S=>(cr ρ S).bind fun p=>match p.1 with
 |[.int j]=>if 0<=j/\j<=1000 then some (.ref p.2.length,p.2++[.lst (dk 0 j.toNat)])else none
 |_=>none
theorem pT:∀(n:Nat) (a:Int) (vs:List Value),vs.length=n->(∀(j:Nat) (v:Value),vs[j]?=some v->∃t,v=Value.int (a+(j:Int)) t)->b8 ((List.range n).map fun i:Nat=>V.int (a+(i:Nat))) vs
 |0,a,vs,hl,h=>by
  rw[List.length_eq_zero_iff.mp hl];exact .nil
 |n+1,a,[],hl,h=>by simp at hl
 |n+1,a,v::vs,hl,h=>by
  rw[List.range_succ_eq_map,List.map_cons,List.map_map]
  refine .cons ?_ ?_
  ·obtain⟨t,e⟩:=h 0 v rfl
   exact⟨t,by simpa using e⟩
  ·have:=pT n (a+1) vs (by simpa using hl) fun j x hx=>by
    obtain⟨t,e⟩:=h (j+1) x (by simpa using hx)
    exact⟨t,by rw[e];congr 1;omega⟩
   have e:(List.range n).map (fun i:Nat=>V.int (a+1+(i:Nat)))=(List.range n).map ((fun i:Nat=>V.int (a+(i:Nat))) ∘ Nat.succ):=List.map_congr_left fun i _=>by
    simp only[Function.comp];congr 1;omega
   rw[<-e];exact this
theorem rN{a:Expr}{ta:TA}{p1 p2 pos1 pos2:Pos}(hc:X.calm=true)(hgl:Gl X "list")(hml:X.mg "list"=none)(hg:Gl X "range")(hm:X.mg "range"=none)(ha:WA X [a] ta)(hs:starEach [a] X.env=[(false,eval a X.env)])
  (hs1:starEach [Expr.Call (.Name "range" p2) [a] [] pos2] X.env=[(false,eval (.Call (.Name "range" p2) [a] [] pos2) X.env)]) :
  WE X (.Call (.Name "list" p1) [.Call (.Name "range" p2) [a] [] pos2] [] pos1) (fun σ H Q=>ta σ H fun vs H1=>∃j:Int,vs=[.int j]/\0<=j/\j<=1000/\∀p,H1 p=none->Q (.ref p) (upd H1 p (.lst ((List.range j.toNat).map fun i:Nat=>V.int (0+(i:Nat)))))):=by
 constructor
 intro pins s σ H Q I h
 refine wpAny_Call_Name_kw (mH I hgl hml OG.iS ?_ (by decide) (by decide))
 refine PyProof.Rows.callWith_type1 ?_ hs1 rfl
 rw[hs1]
 show wpAny _ _ (spliced [(false,eval (.Call (.Name "range" p2) [a] [] pos2) X.env)]) _ _ s
 refine Calls.spliced_cons ?_
 refine Call_ (mH I hg hm boot_range (PyProof.Rows.callWith_type1 (thn (ha.h pos2 pins s σ H _ I h) fun us s1 ⟨vs,H1,I1,r1,q1⟩=>?_) hs rfl))
 obtain⟨j,e,j0,j1,q⟩:=q1
 subst e
 cases r1 with
 |cons r rr=>
  cases rr
  obtain⟨t,rfl⟩:=r
  refine call_range_1 ?_
  refine Calls.spliced_nil ?_
  have hsz:Builtin.Range.rangeSize 0 j 1=((j.toNat:Nat):Int):=by
   unfold Builtin.Range.rangeSize
   simp
   omega
  refine call_list_range (n:=j.toNat) (I1.ok.hd hc) (Heap.get?_push_size _ rfl) ?_ hsz (by omega) fun h' tk acc c' hk hg' hi=>?_
  ·unfold Builtin.Range.small
   rw[hsz]
   unfold Builtin.Range.rangeFitsLong
   simp
   omega
  ·have hv:b8 ((List.range j.toNat).map fun i:Nat=>V.int (0+(i:Nat))) acc.toList:=pT j.toNat 0 acc.toList (by simpa using hi.1) fun k v hv=>by
    obtain⟨t,e⟩:=hi.2 k v (by simpa using hv)
    exact⟨t,by rw[e];congr 1;omega⟩
   refine⟨.ref _,_,I1.laid (t':=tk) (o:=.lst ((List.range j.toNat).map fun i:Nat=>V.int (0+(i:Nat)))) (fun b ob q=>hk b ob (Heap.get?_push_of_some _ q)) (by rw[Heap.size_push];omega) ?_,rfl,q _ (I1.hok.fresh (by rw[Heap.size_push];omega))⟩
   exact⟨by rw[List.length_map,List.length_range];exact Nat.le_trans (by omega) (show 1000<=sizeLine by decide),_,_,hv,by simpa using hg'⟩
theorem yZ{m:List Addr}{H:Hp}(n:Nat):IsL K m H ((List.range n).map fun i:Nat=>V.int (0+(i:Nat))) (dk 0 n):=by
 unfold dk
 generalize List.range n=l
 induction l with
 |nil=>exact .nil_
 |cons a r ih=>exact .cons_ .int_ ih
theorem t7{a:Expr}{cr:CA}{p1 p2 pos1 pos2:Pos}(hc:X.calm=true)(hgl:Gl X "list")(hml:X.mg "list"=none)(hg:Gl X "range")(hm:X.mg "range"=none)(ha:QA X [a] cr)(hs:starEach [a] X.env=[(false,eval a X.env)])
  (hs1:starEach [Expr.Call (.Name "range" p2) [a] [] pos2] X.env=[(false,eval (.Call (.Name "range" p2) [a] [] pos2) X.env)]) :
  QE X (.Call (.Name "list" p1) [.Call (.Name "range" p2) [a] [] pos2] [] pos1) (mf cr):=(rN hc hgl hml hg hm ha.h hs hs1).imp fun σ H Q hz=>m6 hz fun m ρ S u S' sr lr hc post=>by
 obtain⟨⟨ws,S1⟩,h1,h2⟩:=Option.bind_eq_some_iff.mp hc
 simp only at h2
 split at h2<;>try cases h2
 rename_i j
 split at h2<;>try cases h2
 rename_i hj
 refine⟨m,ρ,S,_,S1,sr,lr,h1,fun m1 v1 H1 e1 sr1 i1=>?_⟩
 obtain⟨x,rfl,ix⟩:=i1.one
 rw[ix.of_int]
 exact⟨j,rfl,hj.1,hj.2,fun p hp=>fY sr1 (yZ _) (post.mono e1) hp⟩
end
section
variable{X:Cx}{K:PySem.W.Frag}
theorem Ef{e:Expr}{t:TE}(h:WE X e t):WE X e (fun σ H Q=>t σ H fun v H'=>∃a ob kvs,xb X a/\H' a=some (.frz ob (.dK kvs))/\Q v (upd H' a (.dK kvs))):=
 ⟨fun pins s σ H Q I k=>thn (h.h pins s σ H _ I k) fun u s1 ⟨v,H1,I1,r1,a,ob,kvs,nf,e,q⟩=>⟨v,_,BX I1 nf e,r1,q⟩⟩
noncomputable def zQ(ce:CE)(f:(Sto->Prop)->Nat->List U->Rho->Sto->Option Sto)(n:Nat)(caps:List Nat):CE:=fun ρ S=>(ce ρ S).bind fun p=>match p.1 with
 |.ref l=>match p.2[l]? with
  |some (.dic kus)=>uni fun ep=>(f (fun S'=>S'[l]?=some (.fdc ep kus)) p.2.length (kus.map fun q=>kU q.1) (kn n caps ρ) (p.2.set l (.fdc ep kus)++[.lst []])).bind fun S'=>match S'[l]? with
   |some (.fdc _ kus')=>some (.ref p.2.length,S'.set l (.dic kus'))
   |_=>none
  |_=>none
 |_=>none
noncomputable def m8(ce:CE)(g:CG)(ct:CT)(el:CE)(n:Nat)(caps:List Nat):CE:=zQ ce (fun ok l=>cV ok g ct el l) n caps
theorem xH{ce:CE}{f:(Sto->Prop)->Nat->List U->Rho->Sto->Option Sto}{n:Nat}{caps:List Nat}{G:It->Hp->L2.St->VK->Prop}
  (core:∀{J:It} {us:List U} {ok:Sto->Prop} {Q:VK} {m1:List Addr} {H1:Hp} {S1 S':Sto} {ρ:Rho} {σ:L2.St},Sr X.K m1 S1 H1->Lr X.K m1 H1 ρ σ->Au X.K J m1 H1 us ok->f ok S1.length us (kn n caps ρ) (S1++[.lst []])=some S'->
   (∀l,H1 l=none->∀m2 H2,Ext X.K (m1++[l]) (upd H1 l (.lst [])) m2 H2->Sr X.K m2 S' H2->Q (.ref l) H2)->G J H1 σ Q) :
  ∀σ H Q,tE X.K (zQ ce f n caps) σ H Q->IY X (tE X.K ce) σ H fun J H1=>G J H1 σ fun v H'=>∃a ob kvs,xb X a/\H' a=some (.frz ob (.dK kvs))/\Q v (upd H' a (.dK kvs)):=by
 rintro σ H Q ⟨m,ρ,S,u,S',sr,lr,hc,post⟩
 obtain⟨⟨x,S1⟩,h1,h⟩:=Option.bind_eq_some_iff.mp hc
 refine⟨m,ρ,S,x,S1,sr,lr,h1,fun m1 v1 H1 e1 sr1 i1=>?_⟩
 cases x with
 |ref l=>
  simp only at h
  split at h<;>try cases h
  rename_i kus hS
  obtain⟨a,ha,rfl⟩:=i1.of_ref
  obtain⟨a',ha',kvs,hx,ip⟩:=sr1.get hS
  rw[ha]at ha';cases ha'
  refine⟨a,kvs,rfl,hx,fun ob es ep nf hd=>?_⟩
  obtain⟨S2,h2,h3⟩:=Option.bind_eq_some_iff.mp (uY h ep)
  try simp only at h3
  split at h3<;>try cases h3
  rename_i ep' kus' hS2
  have kp:Cs X.K H1 (upd H1 a (.frz ob (.dK kvs))):=sr1.keep ha _
  have ee:Ext X.K m1 H1 m1 (upd H1 a (.frz ob (.dK kvs))):=.of kp
  have sr2:Sr X.K m1 (S1.set l (.fdc ep kus)) (upd H1 a (.frz ob (.dK kvs))):=sr1.put ha ⟨ob,es,kvs,aK,hd,ip.mono ee⟩
  rw[ip.1]
  have hln:(S1.set l (.fdc ep kus)).length=S1.length:=by simp
  refine core sr2 (lr.mono (e1.trans ee)) (Ff ha) (by rw[hln];exact h2) fun p hp m3 H3 e3 sr3=>?_
  have en:Ext X.K m1 (upd H1 a (.frz ob (.dK kvs))) (m1++[p]) (upd (upd H1 a (.frz ob (.dK kvs))) p (.lst [])):=.new (cq hp _)
  have e03:=en.trans e3
  obtain⟨a3,ha3,ob3,es3,kvs3,hx3,hd3,ip3⟩:=sr3.get hS2
  rw[e03.get ha]at ha3;cases ha3
  have e4:Ext X.K m3 H3 m3 (upd H3 a (.dK kvs3)):=.of (sr3.keep (e03.get ha) _)
  refine⟨a,ob3,kvs3,nf,hx3,post m3 _ _ (((e1.trans ee).trans e03).trans e4) (sr3.put (e03.get ha) ⟨kvs3,aK,ip3.mono e4⟩) ?_⟩
  have lg:(m1++[p])[S1.length]?=some p:=fG sr1.len
  exact .ref_ (e3.get lg)
 |_=>cases h
variable{Nc capN tn:List Str}{scope:Scope}{cl:List (Str×Addr)}{n:Nat}{caps:List Nat}{tg iter elt c:Expr}{pos:Pos}{ci:CE}{g:CG}{ct:CT}{ce:CE}
theorem yj(hc:X.calm=true)(hi:QE X iter ci)(hg:∀s3 H3 fp,WG (cxC X Nc scope cl s3 H3 fp) tg (tG X.K g))(ht:∀s3 H3 fp,WT (cxC X Nc scope cl s3 H3 fp) c (tT X.K ct))(he:∀s3 H3 fp,WE (cxC X Nc scope cl s3 H3 fp) elt (tE X.K ce))
  (hclos:closureFor scope X.env=pure cl) (hkind:scope.kind=.function) (hnl:∀x∈scope.names,x.2=.local->scope.names.lookup x.1=some .local) (hcell:∀x∈scope.names,x.2≠.cell)
  (hcl:v8 X.env cl) (hhas:((relabel scope X.env).names.all fun p=>!(p.2 == .cell||p.2 == .free)||(cl.lookup p.1).isSome)=true)
  (hcap:Paired (Cap X scope cl) caps capN) (hN:Nc=tn++capN) (hn:tn.length=n)
  (hs:∀x,foldedSetIterable iter X.env x=pure x:=by intro _;rfl) :
  QE X (.ListComp elt [⟨tg,iter,[c],0⟩] scope pos) (m8 ci g ct ce n caps):=
 (Ef (pA hc (Ee hi) hg he ht hclos hkind hnl hcell hcl hhas hcap hN hn hs)).imp (xH (G:=fun J H1 σ Q=>∀l,H1 l=none->∃W:Nat->Nat->L2.St->Hp->Prop,(∃m,W 0 m (OG.stC n caps σ) (upd H1 l (.lst [])))/\
  ∀i m σ' H2,W i m σ' H2->(J.stop i H2/\Q (.ref l) H2)\/(J.go i H2/\∃N:L2.St->Hp->Prop,(∀σ'' H',N σ'' H'->∃m',m'<m/\W (i+1) m' σ'' H')/\
  ∀x H3,J.yld i H2 x H3->tG X.K g x σ' H3 fun σ2 H4=>tT X.K ct σ2 H4 fun b H5=>match b with
   |true=>tE X.K ce σ2 H5 fun v H6=>∃ys,H6 l=some (.lst ys)/\ys.length<sizeLine/\N σ2 (upd H6 l (.lst (ys++[v])))
   |false=>N σ2 H5)) fun sr lr ito h2 post l hl=>oB sr lr ito hl h2 (post l hl))
noncomputable def Js:List U->Option (List Key)
 |[]=>some []
 |u::r=>(mK u).bind fun k=>(Js r).map (k::·)
theorem xN{m:List Addr}{H:Hp}:∀{us:List U} {xs:List V} {ks:List Key},IsL K m H xs us->Js us=some ks->xs=ks.map kV
 |[],xs,ks,i,h=>by cases h;exact i.of_nil
 |u::r,xs,ks,i,h=>by
  obtain⟨x,t,rfl,ix,it⟩:=i.of_cons
  obtain⟨k,hk,h⟩:=Option.bind_eq_some_iff.mp h
  obtain⟨ks',h',rfl⟩:=Option.map_eq_some_iff.mp h
  rw[kq ix hk,xN it h'];rfl
noncomputable def zT:CE:=fun _ S=>some (.ref S.length,S++[.dit []])
theorem Ew{pos:Pos}:QE X (.Dict [] [] pos) zT:=xA.imp fun σ H Q hz=>m6 hz fun m ρ S u S' sr lr hc post=>by
 cases hc
 exact fun p hp=>post (m++[p]) _ _ (.new (cq hp _)) (sr.new hp ⟨[],aK,.nil_⟩) (.ref_ (fG sr.len))
noncomputable def oE(co:CE)(cr:CA)(cv:CE):CS:=fun ρ S=>(cv ρ S).bind fun p=>(co ρ p.2).bind fun q=>(cr ρ q.2).bind fun r=>match q.1 with
 |.ref l=>match r.2[l]? with
  |some (.dit kus)=>(Js r.1).bind fun k=>if kus.length<LIM/\r.1.length<=LIM then some (.nx,ρ,r.2.set l (.dit (iW kus k p.1)))else none
  |_=>none
 |_=>none
theorem yg{o:Expr}{es:List Expr}{e:Expr}{co cv:CE}{cr:CA}{k2:Nat}{p2 pos pos':Pos}(hu:X.A.units+1<cLine)(ho:QE X o co)(hi:QA X es cr)(hv:QE X e cv)
  (hs:swapsWith e (some (.Subscript o (.Tuple es k2 p2) pos')) pos.line X.env=pure false:=by rfl):QS X (.Assign [.Subscript o (.Tuple es k2 p2) pos'] e pos) (oE co cr cv):=
 (uR hu ho (xv hi.h) hv hs).imp fun D σ H hz=>vN hz fun m ρ S oo ρ' S' sr lr hc post=>by
 obtain⟨⟨v,S1⟩,h1,ha⟩:=Option.bind_eq_some_iff.mp hc
 obtain⟨⟨ou,S2⟩,h2,hb⟩:=Option.bind_eq_some_iff.mp ha
 obtain⟨⟨ius,S3⟩,h3,h⟩:=Option.bind_eq_some_iff.mp hb
 clear ha hb hc
 cases ou with
 |ref l=>
  simp only at h
  split at h<;>try cases h
  rename_i kus hS
  obtain⟨k,hk,h4⟩:=Option.bind_eq_some_iff.mp h
  split at h4<;>try cases h4
  rename_i fT
  refine⟨m,ρ,S,v,S1,sr,lr,h1,fun m1 v1 H1 e1 sr1 i1=>⟨m1,ρ,S1,_,S2,sr1,lr.mono e1,h2,fun m2 v2 H2 e2 sr2 i2=>⟨m2,ρ,S2,ius,S3,sr2,lr.mono (e1.trans e2),h3,fun m3 vs H3 e3 sr3 i3=>?_⟩⟩⟩
  refine⟨lim (by rw[i3.length];exact fT.2),fun p hp=>?_⟩
  obtain⟨a,ha,rfl⟩:=(i2.mono e3).of_ref
  obtain⟨a',ha',kvs,hx,ip⟩:=sr3.get hS
  rw[ha]at ha';cases ha'
  have hvs:=xN i3 hk
  subst hvs
  have s3:uI H3 (upd H3 p (.tup (k.map kV))):=d9 hp _
  have en:Ext X.K m3 H3 m3 (upd H3 p (.tup (k.map kV))):=.of (cq hp _)
  have srn:=sr3.same s3
  have hxn:(upd H3 p (.tup (k.map kV))) a=some (.dT kvs):=s3 _ _ hx
  have e13:=((e1.trans e2).trans e3).trans en
  have ee:Ext X.K m3 (upd H3 p (.tup (k.map kV))) m3 (upd (upd H3 p (.tup (k.map kV))) a (.dT (tY kvs k v1))):=.of (srn.keep ha _)
  exact⟨a,_,rfl,Dz.t hxn aK (IA (by rw[IsP.length ip];exact fT.1)),post m3 σ _ (e13.trans ee) (srn.put ha ⟨_,aK,(IsP.put (ip.mono en) (i1.mono ((e2.trans e3).trans en))).mono ee⟩) (lr.mono (e13.trans ee))⟩
 |_=>cases h
end
end OP
namespace OP
open PySem PySem.Spec PyProof PyProof.Rows L2 OG PySem.W
section
variable{cmp:Nat->Nat->(Bool->Shared->Prop)->Shared->Prop}{s:Shared}{n:Nat}{lt:Nat->Nat->Bool}
structure Cr(n:Nat)(lt:Nat->Nat->Bool):Prop where
 tr:∀{i j k},i<n->j<n->k<n->lt i j=true->lt j k=true->lt i k=true
 tot:∀{i j},i<n->j<n->i≠j->lt i j=false->lt j i=true
 asym:∀{i j},i<n->j<n->lt i j=true->lt j i=false
noncomputable def F5(cmp:Nat->Nat->(Bool->Shared->Prop)->Shared->Prop)(n:Nat)(lt:Nat->Nat->Bool)(s:Shared):Prop:=∀i j C,i<n->j<n->C (lt i j) s->cmp i j C s
structure Pm(n:Nat)(p:Array Nat):Prop where
 sz:p.size=n
 bd:∀i,i<n->p.getD i 0<n
 ne:∀i j,i<j->j<n->p.getD i 0≠p.getD j 0
noncomputable def Asc(lt:Nat->Nat->Bool)(p:Array Nat)(k:Nat):Prop:=∀i j,i<j->j<k->lt (p.getD i 0) (p.getD j 0)=true
noncomputable def Dsc(lt:Nat->Nat->Bool)(p:Array Nat)(k:Nat):Prop:=∀i j,i<j->j<k->lt (p.getD j 0) (p.getD i 0)=true
variable{p:Array Nat}
theorem Pm.ne'(P:Pm n p){i j:Nat}(hi:i<n)(hj:j<n)(h:i≠j):p.getD i 0≠p.getD j 0:=by
 rcases Nat.lt_or_gt_of_ne h with z|z
 ·exact P.ne i j z hj
 ·exact Ne.symm (P.ne j i z hi)
theorem Asc.snoc(O:Cr n lt)(P:Pm n p){m:Nat}(h1:1<=m)(hm:m<n)(h:Asc lt p m)(h2:lt (p.getD (m-1) 0) (p.getD m 0)=true):Asc lt p (m+1):=fun i j hij hj=>by
 by_cases e:j=m
 ·subst e
  by_cases e2:i=j-1
  ·subst e2;exact h2
  ·exact O.tr (P.bd _ (by omega)) (P.bd _ (by omega)) (P.bd _ (by omega)) (h i (j-1) (by omega) (by omega)) h2
 ·exact h i j hij (by omega)
theorem Dsc.snoc(O:Cr n lt)(P:Pm n p){m:Nat}(h1:1<=m)(hm:m<n)(h:Dsc lt p m)(h2:lt (p.getD m 0) (p.getD (m-1) 0)=true):Dsc lt p (m+1):=fun i j hij hj=>by
 by_cases e:j=m
 ·subst e
  by_cases e2:i=j-1
  ·subst e2;exact h2
  ·exact O.tr (P.bd _ (by omega)) (P.bd _ (by omega)) (P.bd _ (by omega)) h2 (h i (j-1) (by omega) (by omega))
 ·exact h i j hij (by omega)
theorem Ab(O:Cr n lt)(A:F5 cmp n lt s)(P:Pm n p):∀(f m:Nat) {Q:Nat->Shared->Prop},1<=m->m+f<=n->Asc lt p m->(∀m',m<=m'->m'<=m+f->Asc lt p m'->(m'=m+f\/lt (p.getD m' 0) (p.getD (m'-1) 0)=true)->Q m' s)->(kas_asc p f m).kasWp cmp Q s
 |0,m,Q,h1,h2,h3,q=>q m (Nat.le_refl _) (by omega) h3 (.inl rfl)
 |f+1,m,Q,h1,h2,h3,q=>by
  refine A _ _ _ (P.bd _ (by omega)) (P.bd _ (by omega)) ?_
  cases hc:lt (p.getD m 0) (p.getD (m-1) 0)with
  |true=>exact q m (Nat.le_refl _) (by omega) h3 (.inr hc)
  |false=>
   have h4:=h3.snoc O P h1 (by omega) (O.tot (P.bd _ (by omega)) (P.bd _ (by omega)) (P.ne' (by omega) (by omega) (by omega)) hc)
   exact Ab O A P f (m+1) (by omega) (by omega) h4 fun m' a b c d=>q m' (by omega) (by omega) c (by rcases d with d|d;exact .inl (by omega);exact .inr d)
theorem zC(O:Cr n lt)(A:F5 cmp n lt s)(P:Pm n p):∀(f m:Nat) {Q:Array Nat×Nat×Nat->Shared->Prop},1<=m->m+f<=n->Dsc lt p m->(∀m',m<=m'->m'<=m+f->Dsc lt p m'->Q (p,m',0) s)->(kas_desc f p m 0).kasWp cmp Q s
 |0,m,Q,h1,h2,h3,q=>q m (Nat.le_refl _) (by omega) h3
 |f+1,m,Q,h1,h2,h3,q=>by
  refine A _ _ _ (P.bd _ (by omega)) (P.bd _ (by omega)) ?_
  cases hc:lt (p.getD m 0) (p.getD (m-1) 0)with
  |true=>exact zC O A P f (m+1) (by omega) (by omega) (h3.snoc O P h1 (by omega) hc) fun m' a b c=>q m' (by omega) (by omega) c
  |false=>
   refine A _ _ _ (P.bd _ (by omega)) (P.bd _ (by omega)) ?_
   rw[O.tot (P.bd _ (by omega)) (P.bd _ (by omega)) (P.ne' (by omega) (by omega) (by omega)) hc]
   exact q m (Nat.le_refl _) (by omega) h3
theorem nY{p q:Array Nat}{i j:Nat}(h:p[i]?=q[j]?):p.getD i 0=q.getD j 0:=by
 rw[Array.getD_eq_getD_getElem?,Array.getD_eq_getD_getElem?,h]
theorem nH{m k:Nat}(hm:m<=p.size):(kas_rev p 0 m).getD k 0=if k<m then p.getD (m-1-k) 0 else p.getD k 0:=by
 unfold kas_rev
 have h:=getElem?_mirror_all (i:=0) hm k
 split
 ·rename_i c
  rw[if_pos ⟨Nat.zero_le _,c⟩]at h
  exact nY (by rw[h];congr 1;omega)
 ·rename_i c
  rw[if_neg (by omega)]at h
  exact nY h
theorem Pm.rev(P:Pm n p){m:Nat}(hm:m<=n):Pm n (kas_rev p 0 m) where
 sz:=by rw[kas_rev_size];exact P.sz
 bd:=fun i hi=>by
  rw[nH (by rw[P.sz];exact hm)]
  split<;>exact P.bd _ (by omega)
 ne:=fun i j hij hj=>by
  rw[nH (by rw[P.sz];exact hm),nH (by rw[P.sz];exact hm)]
  split<;>split<;>exact P.ne' (by omega) (by omega) (by omega)
theorem Dsc.rev{m:Nat}(P:Pm n p)(hm:m<=n)(h:Dsc lt p m):Asc lt (kas_rev p 0 m) m:=fun i j hij hj=>by
 rw[nH (by rw[P.sz];exact hm),nH (by rw[P.sz];exact hm),if_pos (by omega),if_pos hj]
 exact h _ _ (by omega) (by omega)
theorem Cb(O:Cr n lt)(A:F5 cmp n lt s)(P:Pm n p){Q:Nat×Array Nat->Shared->Prop}(h1:1<=n)(q:∀m p',1<=m->m<=n->Pm n p'->Asc lt p' m->Q (m,p') s):(kas_count n p).kasWp cmp Q s:=by
 unfold kas_count
 rw[KasT.kasWp_bind]
 refine Ab O A P (n-1) 1 (Nat.le_refl _) (by omega) (fun i j a b=>by omega) fun m a b c d=>?_
 by_cases e:m=n
 ·rw[if_pos (by rw[e];exact beq_self_eq_true n)]
  exact q m p a (by omega) P c
 rw[if_neg (by simpa using e)]
 have d':lt (p.getD m 0) (p.getD (m-1) 0)=true:=by
  rcases d with d|d
  ·omega
  ·exact d
 by_cases g:m>1
 ·rw[if_pos g]
  refine A _ _ _ (P.bd _ (by omega)) (P.bd _ (by omega)) ?_
  rw[c 0 (m-1) (by omega) (by omega)]
  exact q m p a (by omega) P c
 ·rw[if_neg g]
  have m1:m=1:=by omega
  subst m1
  unfold kas_descPart
  rw[KasT.kasWp_bind]
  have d2:Dsc lt p 2:=fun i j a b=>by
   have e1:i=0:=by omega
   have e2:j=1:=by omega
   subst e1;subst e2;exact d'
  refine zC O A P (n-(1+1)) (1+1) (by omega) (by omega) d2 fun m' a' b' c'=>?_
  rw[if_neg (by simp)]
  unfold kas_tail3
  rw[KasT.kasWp_bind]
  have hm':m'<=n:=by omega
  exact Ab O A (P.rev hm') (n-m') m' (by omega) (by omega) (c'.rev P hm') fun m2 a2 b2 c2 _=>q m2 _ (by omega) (by omega) (P.rev hm') c2
theorem qD(O:Cr n lt)(A:F5 cmp n lt s)(P:Pm n p){k:Nat}(hk:k<n)(hs:Asc lt p k):∀(f l r:Nat) {Q:Nat->Shared->Prop},l<=r->r<=k->r-l<=f->(∀i,i<l->lt (p.getD i 0) (p.getD k 0)=true)->(∀i,r<=i->i<k->lt (p.getD k 0) (p.getD i 0)=true)->
  (∀l',l'<=k->(∀i,i<l'->lt (p.getD i 0) (p.getD k 0)=true)->(∀i,l'<=i->i<k->lt (p.getD k 0) (p.getD i 0)=true)->Q l' s)->(kas_place p k f l r).kasWp cmp Q s
 |0,l,r,Q,h1,h2,h3,h4,h5,q=>q l (by omega) h4 fun i a b=>h5 i (by omega) b
 |f+1,l,r,Q,h1,h2,h3,h4,h5,q=>by
  unfold kas_place
  by_cases e:l≥r
  ·rw[if_pos e]
   exact q l (by omega) h4 fun i a b=>h5 i (by omega) b
  ·rw[if_neg e]
   have hM:(l+r) / 2<k:=by omega
   refine A _ _ _ (P.bd _ hk) (P.bd _ (by omega)) ?_
   cases hc:lt (p.getD k 0) (p.getD ((l+r) / 2) 0)with
   |true=>
    refine qD O A P hk hs f l ((l+r) / 2) (by omega) (by omega) (by omega) h4 (fun i a b=>?_) q
    by_cases e2:i=(l+r) / 2
    ·subst e2;exact hc
    ·exact O.tr (P.bd _ hk) (P.bd _ (by omega)) (P.bd _ (by omega)) hc (hs _ i (by omega) b)
   |false=>
    have hc':=O.tot (P.bd _ hk) (P.bd _ (show(l+r) / 2<n by omega)) (P.ne' hk (by omega) (by omega)) hc
    refine qD O A P hk hs f ((l+r) / 2+1) r (by omega) (by omega) (by omega) (fun i a=>?_) h5 q
    by_cases e2:i=(l+r) / 2
    ·subst e2;exact hc'
    ·exact O.tr (P.bd _ (by omega)) (P.bd _ (by omega)) (P.bd _ hk) (hs i ((l+r) / 2) (by omega) hM) hc'
theorem oF{k l i:Nat}(hk:k<p.size)(hl:l<=k):(bubble p k (k-l)).getD i 0=if i=l then p.getD k 0 else if l<i/\i<=k then p.getD (i-1) 0 else p.getD i 0:=by
 have h:=getElem?_bubble hk (k-l) (by omega) i
 rw[show k-(k-l)=l by omega]at h
 by_cases c:i=l
 ·rw[if_pos c]at h ⊢;exact nY h
 ·rw[if_neg c]at h ⊢
  by_cases d:l<i/\i<=k
  ·rw[if_pos d]at h ⊢;exact nY h
  ·rw[if_neg d]at h ⊢;exact nY h
theorem Pm.bub(P:Pm n p){k l:Nat}(hk:k<n)(hl:l<=k):Pm n (bubble p k (k-l)) where
 sz:=by rw[bubble_size];exact P.sz
 bd:=fun i hi=>by
  rw[oF (by rw[P.sz];exact hk) hl]
  repeat' split
  all_goals exact P.bd _ (by omega)
 ne:=fun i j hij hj=>by
  rw[oF (by rw[P.sz];exact hk) hl,oF (by rw[P.sz];exact hk) hl]
  repeat' split
  all_goals first|(exfalso;omega)|exact P.ne' (by omega) (by omega) (by omega)
theorem Asc.bub(P:Pm n p){k l:Nat}(hk:k<n)(hl:l<=k)(h:Asc lt p k)(h1:∀i,i<l->lt (p.getD i 0) (p.getD k 0)=true)(h2:∀i,l<=i->i<k->lt (p.getD k 0) (p.getD i 0)=true):Asc lt (bubble p k (k-l)) (k+1):=fun i j hij hj=>by
 rw[oF (by rw[P.sz];exact hk) hl,oF (by rw[P.sz];exact hk) hl]
 repeat' split
 all_goals first|(exfalso;omega)|exact h1 _ (by omega)|exact h2 _ (by omega) (by omega)|exact h _ _ (by omega) (by omega)
theorem Dv(O:Cr n lt)(A:F5 cmp n lt s):∀(f:Nat) (p:Array Nat) (k:Nat) {Q:Array Nat->Shared->Prop},Pm n p->k+f=n->Asc lt p k->(∀p',Pm n p'->Asc lt p' n->Q p' s)->(kas_bin f p k).kasWp cmp Q s
 |0,p,k,Q,P,h1,h2,q=>q p P (by rw[<-h1];exact h2)
 |f+1,p,k,Q,P,h1,h2,q=>by
  unfold kas_bin
  rw[KasT.kasWp_bind]
  refine qD O A P (k:=k) (by omega) h2 k 0 k (Nat.zero_le _) (Nat.le_refl _) (by omega) (fun i a=>by omega) (fun i a b=>by omega) fun l a b c=>?_
  exact Dv O A f _ (k+1) (P.bub (by omega) a) (by omega) (h2.bub P (by omega) a b c) q
theorem vg:Pm n (List.toArray (List.range n)):=by
 have g:∀i,i<n->(List.toArray (List.range n)).getD i 0=i:=fun i hi=>by simp[Array.getD,hi]
 exact⟨by simp,fun i hi=>by rw[g i hi];exact hi,fun i j hij hj=>by rw[g i (by omega),g j hj];omega⟩
theorem Em(O:Cr n lt)(A:F5 cmp n lt s){Q:Array Nat->Shared->Prop}(h1:1<=n)(q:∀p',Pm n p'->Asc lt p' n->Q p' s):(kas_sort n).kasWp cmp Q s:=by
 unfold kas_sort
 rw[KasT.kasWp_bind]
 refine Cb O A vg h1 fun m p' a b P c=>?_
 by_cases e:m<n
 ·rw[if_pos e]
  rw[show max m 1=m by omega]
  exact Dv O A _ _ _ P (by omega) c q
 ·rw[if_neg e]
  exact q p' P (by rw[show n=m by omega];exact c)
end
end OP
namespace OP
open PySem PySem.Spec PyProof PyProof.Rows L2 OG
section
variable{prog:Program}{w:World}{A:Around}{E:Value->Shared->Prop}{s:Shared}{d it:Addr}{o:Obj}{es:Array DictEntry}{ep i:Nat}
theorem A8{Q:Value->Shared->Prop}(hd:(d == sysModules)=false)(ho:s.heap.get? d=some o)(hc:o.ExactDict)(he:o.data=.dict es ep)
  (q:Q (.ref s.heap.objs.size) { s with heap:=s.heap.push { cls:=.type "dict_keyiterator",data:=.fields #[.ref d,.int 0 0,.int es.size 0,.int ep 0] } }):wpAny (model prog w) A (pyIter (.ref d)) Q E s:=by
 have T:s.TypeIs (.ref d) "dict":=⟨o,ho,hc.1⟩
 refine wpAny_pyIter_slot T F.slot_dict_iter (wpAny_call_entry F.slot_dict_iter T F.entry_dict_iter ?_ (F.args_dict_iter_1 _))
 unfold Builtin.«dict.__iter__»;refine wpAny_bind ?_
 unfold Builtin.Dict.dictSlotNone;refine wpAny_bind (wpAny_notOrdered_dict T ?_)
 refine wpAny_pure (show wpAny _ _ (Builtin.Dict.showsAll d >>= _) _ _ s from ?_)
 unfold Builtin.Dict.showsAll;rw[if_neg (by rw[hd];exact Bool.false_ne_true)]
 refine wpAny_bind (wpAny_pure (wpAny_bind (wpAny_dictEntries ho he (wpAny_bind (wpAny_dictEpoch ho he ?_)))))
 refine wpAny_bind (wpAny_newObj_type (wpAny_pure ⟨_,rfl,"dict_keyiterator",_,⟨_,Heap.get?_push_size _ rfl,rfl⟩,F.slot_dict_keyiterator_next.lookup,q⟩))
theorem A9{Q:Option Value->Shared->Prop}(hit:s.heap.IsKeyIter it d i es.size ep)(ho:s.heap.get? d=some o)(he:o.data=.dict es ep)(hi:i<es.size)
  (q:∀h',h'.IsKeyIter it d (i+1) es.size ep->Heap.SameBut it s.heap h'->Q (some es[i].key) { s with heap:=h' }):wpAny (model prog w) A (pyNext (.ref it)) Q E s:=by
 obtain⟨io,hio,ic,id'⟩:=id hit
 unfold pyNext;refine wpAny_bind (wpAny_attempt (wpAny_callSpecial?_slot (name:=Str.ofString "__next__") hit.typeIs F.slot_dict_keyiterator_next (wpAny_call_entry F.slot_dict_keyiterator_next hit.typeIs F.entry_dict_keyiterator_next ?_ (F.args_dict_keyiterator_next_1 _))))
 refine wpAny_bind (wpAny_pure (wpAny_bind (wpAny_bind ?_)))
 first|refine wpAny_bind (wpAny_typeNameOfWhole_keyiter hit.typeIs (wpAny_pure (wpAny_bind (wpAny_fieldsOf hio id' ?_))))|refine wpAny_bind (wpAny_typeNameOf_keyiter hit.typeIs (wpAny_pure (wpAny_bind (wpAny_fieldsOf hio id' ?_))))
 simp only[show Builtin.Dict_items.ownsTuple "dict_keyiterator"=false by decide,Bool.false_eq_true,if_false]
 refine(show wpAny _ _ (if (Value.ref d == Value.none)=true then _ else _) _ _ s from ?_)
 rw[if_neg (show ¬((Value.ref d == Value.none)=true)from Bool.false_ne_true)];refine wpAny_bind (wpAny_pure (wpAny_bind (wpAny_dictEntries ho he ?_)))
 rw[if_neg (by simp)];refine wpAny_bind (wpAny_pure (wpAny_bind (wpAny_dictEpoch ho he ?_)))
 rw[if_neg (by simp)];refine wpAny_pure ?_
 simp only[show ¬((i:Int)<0)by omega,if_false,Int.toNat_natCast,Array.getElem?_eq_getElem hi];refine wpAny_bind ?_
 first|refine wpAny_bind (wpAny_typeNameOfWhole_keyiter hit.typeIs (wpAny_pure (wpAny_bind (wpAny_isOneOf_keyiter hit.typeIs ?_))))|refine wpAny_bind (wpAny_typeNameOf_keyiter hit.typeIs (wpAny_pure (wpAny_bind (wpAny_isOneOf_keyiter hit.typeIs ?_))))
 refine(show wpAny _ _ (setField (.ref it) 1 (rawInt ((i:Int)+1)) >>= _) _ _ s from wpAny_bind (wpAny_setField hio id' (by simp) ?_))
 have hit2:(s.heap.update it (Obj.mapFields (·.setIfInBounds 1 (rawInt ((i:Int)+1))))).IsKeyIter it d (i+1) es.size ep:=⟨_,Heap.get?_update_self _ hio (Obj.isFreed_of_fields (Obj.data_mapFields id' _)),(Obj.cls_mapFields ..).trans ic,by rw[Obj.data_mapFields id'];simp[rawInt]⟩
 refine wpAny_bind (wpAny_holding (wpAny_bind (wpAny_isOneOf_keyiter (s:={ s with heap:=s.heap.update it (Obj.mapFields (·.setIfInBounds 1 (rawInt ((i:Int)+1)))) }) hit2.typeIs ?_)))
 exact(show wpAny _ _ (pure es[i].key) _ _ _ from wpAny_pure (wpAny_pure ⟨_,rfl,wpAny_pure (q _ hit2 (Heap.SameBut.update ..))⟩))
theorem Es{Q:Option Value->Shared->Prop}(hh:A.handled=none)(hit:s.heap.IsKeyIter it d i es.size ep)(ho:s.heap.get? d=some o)(he:o.data=.dict es ep)(hi:es.size<=i)
  (q:∀h',Heap.ExtBut it s.heap h'->Q none { s with heap:=h' }):wpAny (model prog w) A (pyNext (.ref it)) Q E s:=by
 obtain⟨io,hio,ic,id'⟩:=id hit
 unfold pyNext;refine wpAny_bind (wpAny_attempt (wpAny_callSpecial?_slot (name:=Str.ofString "__next__") hit.typeIs F.slot_dict_keyiterator_next (wpAny_call_entry F.slot_dict_keyiterator_next hit.typeIs F.entry_dict_keyiterator_next ?_ (F.args_dict_keyiterator_next_1 _))))
 refine wpAny_bind (wpAny_pure (wpAny_bind (wpAny_bind ?_)))
 first|refine wpAny_bind (wpAny_typeNameOfWhole_keyiter hit.typeIs (wpAny_pure (wpAny_bind (wpAny_fieldsOf hio id' ?_))))|refine wpAny_bind (wpAny_typeNameOf_keyiter hit.typeIs (wpAny_pure (wpAny_bind (wpAny_fieldsOf hio id' ?_))))
 simp only[show Builtin.Dict_items.ownsTuple "dict_keyiterator"=false by decide,Bool.false_eq_true,if_false]
 refine(show wpAny _ _ (if (Value.ref d == Value.none)=true then _ else _) _ _ s from ?_)
 rw[if_neg (show ¬((Value.ref d == Value.none)=true)from Bool.false_ne_true)];refine wpAny_bind (wpAny_pure (wpAny_bind (wpAny_dictEntries ho he ?_)))
 rw[if_neg (by simp)];refine wpAny_bind (wpAny_pure (wpAny_bind (wpAny_dictEpoch ho he ?_)))
 rw[if_neg (by simp)];refine wpAny_pure ?_
 simp only[show ¬((i:Int)<0)by omega,if_false,Int.toNat_natCast,Array.getElem?_eq_none hi];refine wpAny_bind ?_
 first|refine wpAny_bind (wpAny_typeNameOfWhole_keyiter hit.typeIs (wpAny_pure ?_));skip|refine wpAny_bind (wpAny_typeNameOf_keyiter hit.typeIs (wpAny_pure ?_));skip
 refine(show wpAny _ _ (setField (.ref it) 0 .none >>= _) _ _ s from wpAny_bind (wpAny_setField hio id' (by simp) ?_))
 refine(show wpAny _ _ (newExc (.type "StopIteration") [] >>= _) _ _ _ from wpAny_bind ?_)
 simp only[newExc,newTuple];refine wpAny_bind (wpAny_newObj_type ?_ (by size_fits));refine wpAny_bind (m:=firstArgMember _ _) (wpAny_of_eq (a:=Value.none) (by first|rfl|(simp only[firstArgMember];rfl)) (wpAny_newObj_type ?_ (by size_fits)))
 simp only[raiseNew];refine wpAny_bind (wpAny_handled ?_);rw[show A.in1.handled=none from hh]
 refine wpAny_bind (wpAny_pure (wpAny_throw ?_));refine wpAny_bind (wpAny_isInstance (T:="StopIteration") (b:=true) ⟨_,Heap.get?_push_size _ rfl,rfl⟩ isSubtype_stop ?_);exact wpAny_pure (q _ (((Heap.SameBut.update ..).extBut.push _).push _))
end
noncomputable def FzT(H:Hp)(a:Addr)(ep:Nat)(ks:List (List Key)):Prop:=∃ob es kvs,H a=some (.frz ob (.dT kvs))/\ob.data=.dict es ep/\kvs.map (·.1)=ks
noncomputable def Itt(a:Addr)(ep:Nat)(ks:List (List Key)):It:=
 ⟨fun i H=>i<ks.length/\FzT H a ep ks,fun i H x H'=>H'=H/\∃k p,ks[i]?=some k/\x=.ref p/\H p=some (.tup (k.map kV)),fun i H=>ks.length<=i/\FzT H a ep ks⟩
theorem zh{P:Program}{w:World}{H:Hp}{h:Heap}{a:Addr}{ob:Obj}{kvs:List (List Key×V)}{es:Array DictEntry}{ep:Nat}(ok:HOk P w H h)(e:H a=some (.frz ob (.dT kvs)))(d:ob.data=.dict es ep) :
  h.get? a=some ob/\es.size=kvs.length/\∀(i:Nat) (hi:i<es.size),∃k p,(kvs.map (·.1))[i]?=some k/\es[i].key=.ref p/\H p=some (.tup (k.map kV)):=by
 obtain⟨e1,_,_,xs,r,o,es',ep',e2,e3,e4,e5,_⟩:=(show dz P w H h a (.frz ob (.dT kvs))from ok a _ e)
 rw[e1]at e2;cases e2
 rw[d]at e4;cases e4
 have hl:kvs.length=xs.length:=Paired.length r
 have hs:es.size=xs.length:=size_of_entries e5
 refine⟨e1,by omega,fun i hi=>?_⟩
 have key:∀{l:List (List Key×V)} {m:List (List Key×Addr×Value)} {i:Nat} {x:List Key×Addr×Value},Paired (fun(p:List Key×V) (q:List Key×Addr×Value)=>p.1=q.1/\H q.2.1=some (.tup (p.1.map kV))/\dj p.2 q.2.2) l m->m[i]?=some x->∃k,(l.map (·.1))[i]?=some k/\H x.2.1=some (.tup (k.map kV)):=by
  intro l m i x q
  induction q generalizing i with
  |nil=>intro z;simp at z
  |@cons p q ps qs hq t ih=>
   intro z
   cases i with
   |zero=>simp at z;subst z;exact⟨p.1,by simp,hq.2.1⟩
   |succ i=>obtain⟨k,k1,k2⟩:=ih (by simpa using z);exact⟨k,by simpa using k1,k2⟩
 have hx:xs[i]?=some xs[i]:=List.getElem?_eq_getElem (by omega)
 obtain⟨k,k1,k2⟩:=key r hx
 refine⟨k,(xs[i]).2.1,k1,?_,k2⟩
 have h1:=entry_at e5 i
 rw[hx,Array.getElem?_eq_getElem hi]at h1
 have h2:=Option.some.inj h1
 rw[h2];rfl
theorem wj{P:Program}{w:World}{K:PySem.W.Frag}{tg:Expr}(a it:Addr){ks:List (List Key)}{ep:Nat} :
  Dx P w K tg (Itt a ep ks) [it] it (fun n h=>h.IsKeyIter it a n ks.length ep) where
 mem:=by simp
 obj:=fun n h st c hc=>by
  simp only[List.mem_cons,List.not_mem_nil,or_false]at hc
  subst hc
  obtain⟨o,e,_,q⟩:=st
  exact⟨o,e,fun v z=>by rw[q]at z;cases z⟩
 keep:=fun n h h' st kp=>Heap.IsKeyIter.at st fun o q=>kp it (by simp) o q
 item:=by
  intro X hP hw hK hc n pins s σ H E Iv hf st hg
  subst hP hw hK
  obtain⟨hi,ob,es,kvs,hq,d,ek⟩:=hg
  obtain⟨g1,g2,g3⟩:=zh Iv.hok hq d
  have hl:ks.length=es.size:=by rw[<-ek,List.length_map,g2]
  have hi':n<es.size:=by omega
  obtain⟨k,p,k1,k2,k3⟩:=g3 n hi'
  obtain⟨f0,f1,f2,f3⟩:=hf it (by simp)
  refine A9 (by rw[<-hl];exact st) g1 d hi' fun h1 st1 sb=>⟨_,rfl,?_⟩
  have I1:Inv X pins σ H { s with heap:=h1 }:=Iv.turned (t':=s.toks) (fun b o hb e=>(sb.2 b hb).trans e) f0 f1 f3.1 f3.2.1 f3.2.2
  have st2:h1.IsKeyIter it a (n+1) ks.length ep:=by rw[hl];exact st1
  obtain⟨o,e,c,q⟩:=id st2
  exact ze (s:={ s with heap:=h1 }) e c q (by decide) ⟨.ref p,H,I1,by rw[k2];rfl,⟨rfl,k,p,by rw[<-ek];exact k1,rfl,k3⟩,st2,fun b hb=>(hf b hb).1⟩
 done:=by
  intro X hP hw hK hc n pins s σ H E Iv hf st hg
  subst hP hw hK
  obtain⟨hi,ob,es,kvs,hq,d,ek⟩:=hg
  obtain⟨g1,g2,g3⟩:=zh Iv.hok hq d
  have hl:ks.length=es.size:=by rw[<-ek,List.length_map,g2]
  obtain⟨f0,f1,f2,f3⟩:=hf it (by simp)
  exact Es (Iv.ok.hd hc) (by rw[<-hl];exact st) g1 d (by omega) fun h1 eb=>⟨rfl,Iv.turned (t':=s.toks) (fun b o hb e=>eb b o hb e) f0 f1 f3.1 f3.2.1 f3.2.2⟩
 self:=fun _ _ _ _ _ st h=>wpAny_pyIter_keyiter st h
noncomputable def Dc(X:Cx)(tl:TE):TI:=fun σ H R=>tl σ H fun x H1=>∃a kvs,x=.ref a/\H1 a=some (.dT kvs)/\∀ob es ep,xb X a->ob.data=.dict es ep->R (Itt a ep (kvs.map (·.1))) (upd H1 a (.frz ob (.dT kvs)))
theorem AS{X:Cx}{tg l:Expr}{tl:TE}(hl:WE X l tl):WI X tg l (Dc X tl):=by
 constructor
 intro pins s σ H R I h
 refine thn (hl.h pins s σ H _ I h) fun v s1 hz=>?_
 obtain⟨x,H1,I1,r1,q1⟩:=hz
 obtain⟨a,kvs,rfl,hq,q⟩:=q1
 have hq0:=hq
 cases r1
 obtain⟨hz,hs,xs,rv,ob,es,ep,e1,e2,e3,e4,e5⟩:=(show dz X.prog X.w H1 s1.heap a (.dT kvs)from I1.hok a _ hq)
 have hl:kvs.length=es.size:=by rw[size_of_entries e4];exact Paired.length rv
 have nf:xb X a:=fun ob' u' z=>by have:=I1.base.frzs a ob' u' z;rw[hq]at this;cases this
 have mono:∀{l:List (List Key×V)} {m:List (List Key×Addr×Value)} (fz:HO),Paired (fun(p:List Key×V) (q:List Key×Addr×Value)=>p.1=q.1/\H1 q.2.1=some (.tup (p.1.map kV))/\dj p.2 q.2.2) l m->Paired (fun(p:List Key×V) (q:List Key×Addr×Value)=>p.1=q.1/\(upd H1 a fz) q.2.1=some (.tup (p.1.map kV))/\dj p.2 q.2.2) l m:=by
  intro l m fz z
  induction z with
  |nil=>exact .nil
  |cons hq t ih=>exact .cons ⟨hq.1,by rw[bB (fun e=>by rw[e,hq0]at hq;cases hq.2.1)];exact hq.2.1,hq.2.2⟩ ih
 have rv2:=mono (.frz ob (.dT kvs)) rv
 have I2:Inv X pins σ (upd H1 a (.frz ob (.dT kvs))) s1:=mZ I1 hq (by simp) (by simp) (by simp) nf ⟨e1,hz,hs,xs,rv2,ob,es,ep,e1,e2,e3,e4,e5⟩
 refine A8 hs e1 e2 e3 ?_
 refine⟨s1.heap.objs.size,[s1.heap.objs.size],_,_,_,rfl,I2.kept (t':=s1.toks) fun b o g=>Heap.get?_push_of_some _ g,wj a _,⟨_,Heap.get?_push_size _ rfl,rfl,by rw[List.length_map,hl];rfl⟩,fun b hb=>?_,q ob es ep nf e3⟩
 simp only[List.mem_cons,List.not_mem_nil,or_false]at hb
 subst hb
 exact I2.fpOk (Nat.le_refl _) (I2.hok.fresh (Nat.le_refl _))
noncomputable def Dy(X:Cx)(D:Aw):Aw where
 nx:=fun σ H=>∃a ob kvs,xb X a/\H a=some (.frz ob (.dT kvs))/\D.nx σ (upd H a (.dT kvs))
 rt:=fun v H=>∃a ob kvs,xb X a/\H a=some (.frz ob (.dT kvs))/\D.rt v (upd H a (.dT kvs))
 bk:=fun σ H=>∃a ob kvs,xb X a/\H a=some (.frz ob (.dT kvs))/\D.bk σ (upd H a (.dT kvs))
 ct:=fun σ H=>∃a ob kvs,xb X a/\H a=some (.frz ob (.dT kvs))/\D.ct σ (upd H a (.dT kvs))
theorem lF{X:Cx}{pins:List (Addr×Obj)}{σ:L2.St}{H:Hp}{s:Shared}{a:Addr}{ob:Obj}{kvs:List (List Key×V)}(I:Inv X pins σ H s)(nf:xb X a)(e:H a=some (.frz ob (.dT kvs))):Inv X pins σ (upd H a (.dT kvs)) s:=by
 obtain⟨_,hz,hs,xs,rv,rest⟩:=(show dz X.prog X.w H s.heap a (.frz ob (.dT kvs))from I.hok a _ e)
 have mono:∀{l:List (List Key×V)} {m:List (List Key×Addr×Value)} (fz:HO),Paired (fun(p:List Key×V) (q:List Key×Addr×Value)=>p.1=q.1/\H q.2.1=some (.tup (p.1.map kV))/\dj p.2 q.2.2) l m->Paired (fun(p:List Key×V) (q:List Key×Addr×Value)=>p.1=q.1/\(upd H a fz) q.2.1=some (.tup (p.1.map kV))/\dj p.2 q.2.2) l m:=by
  intro l m fz z
  induction z with
  |nil=>exact .nil
  |cons hq t ih=>exact .cons ⟨hq.1,by rw[bB (fun q=>by rw[q,e]at hq;cases hq.2.1)];exact hq.2.1,hq.2.2⟩ ih
 exact mZ I e (by simp) (by simp) (by simp) nf ⟨hz,hs,xs,mono _ rv,rest⟩
theorem AG{X:Cx}{st:Stmt}{t:TS}(h:WS X st t):WS X st (fun D σ H=>t (Dy X D) σ H):=by
 constructor
 intro pins s σ H D I k
 refine thn (h.h pins s σ H _ I k) fun f s1 q=>?_
 cases f with
 |next=>obtain⟨σ1,H1,I1,a,ob,kvs,nf,e,r⟩:=q;exact⟨σ1,_,lF I1 nf e,r⟩
 |brk=>obtain⟨σ1,H1,I1,a,ob,kvs,nf,e,r⟩:=q;exact⟨σ1,_,lF I1 nf e,r⟩
 |cont=>obtain⟨σ1,H1,I1,a,ob,kvs,nf,e,r⟩:=q;exact⟨σ1,_,lF I1 nf e,r⟩
 |ret u=>obtain⟨v,σ1,H1,I1,rv,a,ob,kvs,nf,e,r⟩:=q;exact⟨v,σ1,_,lF I1 nf e,rv,r⟩
noncomputable def zS(ce:CE)(g:CG)(cb:CS):CS:=fun ρ S=>(ce ρ S).bind fun p=>match p.1 with
 |.ref l=>match p.2[l]? with
  |some (.dit kus)=>uni fun ep=>(eD (fun S'=>S'[l]?=some (.fdt ep kus)) g cb (kus.map fun q=>.tup (q.1.map kU)) ρ (p.2.set l (.fdt ep kus))).bind fun r=>match r.2.2[l]? with
   |some (.fdt _ kus')=>some (r.1,r.2.1,r.2.2.set l (.dit kus'))
   |_=>none
  |_=>none
 |_=>none
theorem vH{K:PySem.W.Frag}{m:List Addr}{H:Hp}:∀ks:List Key,IsL K m H (ks.map kV) (ks.map kU)
 |[]=>.nil_
 |k::r=>.cons_ (C8 k) (vH r)
theorem BV{K:PySem.W.Frag}{m:List Addr}{H:Hp}{a:Addr}{l ep:Nat}{kus:List (List Key×U)}(ha:m[l]?=some a):Au K (Itt a ep (kus.map (·.1))) m H (kus.map fun q=>.tup (q.1.map kU)) (fun S'=>S'[l]?=some (.fdt ep kus)):=by
 intro m2 S2 H2 i e sr hok
 obtain⟨a',ha',ob,es,kvs,hx,hd,ip⟩:=sr.get hok
 have ha2:=e.get ha
 rw[ha2]at ha';cases ha'
 have hz:FzT H2 a ep (kus.map (·.1)):=⟨ob,es,kvs,hx,hd,ip.1⟩
 refine⟨fun u hu=>?_,fun hu=>⟨by simpa using hu,hz⟩⟩
 have hi:i<kus.length:=by have:=(List.getElem?_eq_some_iff.mp hu).1;simpa using this
 refine⟨⟨by simpa using hi,hz⟩,?_⟩
 rintro x H3 ⟨rfl,k,p,hk,rfl,hp⟩
 refine⟨.refl,sr,?_⟩
 rw[List.getElem?_map]at hk hu
 rw[List.getElem?_eq_getElem hi]at hk hu
 cases hk;cases hu
 exact .tup_ (.inl (.inl hp)) (vH _)
theorem B2{X:Cx}{ce:CE}{g:CG}{cb:CS}:∀D σ H,tS X.K (zS ce g cb) D σ H->Jv (Dc X (tE X.K ce)) (tG X.K g) (tS X.K cb) (Dy X D) σ H:=by
 rintro D σ H ⟨m,ρ,S,o,ρ',S',sr,lr,hc,post⟩
 obtain⟨⟨x,S1⟩,h1,h⟩:=Option.bind_eq_some_iff.mp hc
 refine⟨m,ρ,S,x,S1,sr,lr,h1,fun m1 v1 H1 e1 sr1 i1=>?_⟩
 cases x with
 |ref l=>
  simp only at h
  split at h<;>try cases h
  rename_i kus hS
  obtain⟨a,ha,rfl⟩:=i1.of_ref
  obtain⟨a',ha',kvs,hx,ip⟩:=sr1.get hS
  rw[ha]at ha';cases ha'
  refine⟨a,kvs,rfl,hx,fun ob es ep nf hd=>?_⟩
  obtain⟨⟨o1,ρ1,S2⟩,h2,h3⟩:=Option.bind_eq_some_iff.mp (uY h ep)
  simp only at h3
  split at h3<;>try cases h3
  rename_i ep' kus' hS2
  have kp:Cs X.K H1 (upd H1 a (.frz ob (.dT kvs))):=sr1.keep ha _
  have ee:Ext X.K m1 H1 m1 (upd H1 a (.frz ob (.dT kvs))):=.of kp
  have sr2:Sr X.K m1 (S1.set l (.fdt ep kus)) (upd H1 a (.frz ob (.dT kvs))):=sr1.put ha ⟨ob,es,kvs,aK,hd,ip.mono ee⟩
  rw[ip.1]
  refine vw sr2 (lr.mono (e1.trans ee)) (BV ha) h2 ?_
  have back:∀m3 H3,Ext X.K m1 (upd H1 a (.frz ob (.dT kvs))) m3 H3->Sr X.K m3 S2 H3->∃ob' kvs',H3 a=some (.frz ob' (.dT kvs'))/\Ext X.K m3 H3 m3 (upd H3 a (.dT kvs'))/\Sr X.K m3 (S2.set l (.dit kus')) (upd H3 a (.dT kvs')):=fun m3 H3 e3 sr3=>by
   obtain⟨a3,ha3,ob3,es3,kvs3,hx3,hd3,ip3⟩:=sr3.get hS2
   rw[e3.get ha]at ha3;cases ha3
   have e4:Ext X.K m3 H3 m3 (upd H3 a (.dT kvs3)):=.of (sr3.keep (e3.get ha) _)
   exact⟨ob3,kvs3,hx3,e4,sr3.put (e3.get ha) ⟨kvs3,aK,ip3.mono e4⟩⟩
  have nxt:∀(R:L2.St->Hp->Prop),jm X.K m H R ρ' (S2.set l (.dit kus'))->jm X.K m1 (upd H1 a (.frz ob (.dT kvs))) (fun σ H=>∃a ob kvs,xb X a/\H a=some (.frz ob (.dT kvs))/\R σ (upd H a (.dT kvs))) ρ' S2:=fun R p m3 σ3 H3 e3 sr3 lr3=>by
   obtain⟨ob3,kvs3,hx3,e4,sr4⟩:=back m3 H3 e3 sr3
   exact⟨a,ob3,kvs3,nf,hx3,p m3 σ3 _ (((e1.trans ee).trans e3).trans e4) sr4 (lr3.mono e4)⟩
  cases o with
  |nx=>exact nxt _ post
  |bk=>exact nxt _ post
  |ct=>exact nxt _ post
  | rt v=>
    intro m3 v3 H3 e3 sr3 i3
    obtain⟨ob3,kvs3,hx3,e4,sr4⟩:=back m3 H3 e3 sr3
    exact⟨a,ob3,kvs3,nf,hx3,post m3 v3 _ (((e1.trans ee).trans e3).trans e4) sr4 (i3.mono e4)⟩
 |_=>cases h
theorem Et{X:Cx}{tg iter:Expr}{body:List Stmt}{ce:CE}{g:CG}{cb:CS}{pos:Pos}(hp:PassesOwn (model X.prog X.w) X.A X.env X.xe)(hc:X.calm=true)(hi:QE X iter ce)(hg:QG X tg g)(hb:QSs X body cb)(hs:∀x,foldedSetIterable iter X.env x=pure x:=by intro _;rfl):QS X (.For tg iter body [] pos) (zS ce g cb):=
 (AG (xp hp hc (AS hi) hg hb hs)).imp B2
end OP
namespace OP
open PySem PySem.Spec PyProof PyProof.Rows L2 OG PySem.W
theorem qL{prog:Program}{w:World}{A:Around}{E:Value->Shared->Prop}{s:Shared}{a:Addr}{vs:List Value}{n:Nat}{P:PySem.Fin->Shared->Prop}
  (g:s.heap.get? a=some (seqObj "list" vs.toArray n)) (h2:2<=vs.length) (h64:vs.length<64)
  (ask:∀h':Heap,(∀b o,b≠a->s.heap.get? b=some o->h'.get? b=some o)->wpAny (model prog w) A (keyKind' vs.toArray) (fun κ s'=>s'={ s with heap:=h' }/\KasT.kasWp (kas_ask prog w A κ vs) (kas_sort vs.length)
   (fun p s''=>s''={ s with heap:=h' }/\P (Fin.done (Flow.ret Value.none)) { s with heap:=sortedHeap s.heap a vs (p.toList.map fun i=>vs.getD i Value.none).toArray }) { s with heap:=h' }) E { s with heap:=h' }) :
  wpAny (model prog w) A (Builtin.«list.sort» { pos:=[Value.ref a] }) P E s:=by
 rw[list_sort_plain]
 have hS:vs.toArray.size=vs.length:=by simp
 have hz:vs.length<=sizeLine:=by unfold sizeLine;omega
 have lt:=Heap.lt_size g
 refine wpAny_bind (listItems_at g rfl (wpAny_bind (listUpdate_at g rfl ?_ (by rw[hS];exact hz) (by simp))))
 obtain⟨e1,g1⟩:∃e1,(s.heap.update a (Obj.mapSeq fun _=>#[])).get? a=some (seqObj "list" #[] e1):=⟨_,get?_update_seq g fun _=>#[]⟩
 refine wpAny_bind (seqEpoch_at g1 rfl (wpAny_bind (wpAny_newTuple (wpAny_bind (wpAny_newList (wpAny_holding ?_) (by simp))) (by simpa using hz))))
 have hu:(s.heap.update a (Obj.mapSeq fun _=>#[])).objs.size=s.heap.objs.size:=Heap.size_update ..
 have g2:(((s.heap.update a (Obj.mapSeq fun _=>#[])).push (seqObj "tuple" vs.toArray 0)).push (seqObj "list" #[] 0)).get? a=some (seqObj "list" #[] e1):=
  Heap.get?_push_of_some _ (Heap.get?_push_of_some _ g1)
 have n2:¬vs.toArray.size<2:=by rw[hS];omega
 dsimp only
 rw[if_neg n2]
 have hk:∀b o,b≠a->s.heap.get? b=some o->(((s.heap.update a (Obj.mapSeq fun _=>#[])).push (seqObj "tuple" vs.toArray 0)).push (seqObj "list" #[] 0)).get? b=some o:=fun b o hb ho=>by
  refine Heap.get?_push_of_some _ (Heap.get?_push_of_some _ ?_)
  rw[Heap.get?_update_ne _ _ _ _ hb];exact ho
 refine wpAny_bind (wpAny_mono (ask _ hk) (fun κ s' hs'=>?_) fun _ _ h'=>h')
 obtain⟨rfl,hrun⟩:=hs'
 rw[if_neg n2]
 refine wpAny_bind (wpAny_mono (kat_run (ks:=vs) (Q:=fun st' s'=>∃p:Array Nat,p.size=vs.length/\arrOf st'=Array.map (kas_item (vs.toArray.zip vs.toArray)) p/\failedOf st'=none/\s'=_/\P (Fin.done (Flow.ret Value.none)) { s with heap:=sortedHeap s.heap a vs (p.toList.map fun i=>vs.getD i Value.none).toArray }) rfl h2 h64 (fun p st' s' hp harr hfail hG=>⟨p,hp,harr,hfail,hG⟩) hrun) (fun r s' hr=>?_) fun _ _ h'=>h')
 obtain⟨u,st'⟩:=r
 obtain⟨p,hp,harr,hfail,rfl,hP⟩:=hr
 have hout:Array.map (fun x=>x.snd) (arrOf st')=(p.toList.map fun i=>vs.getD i Value.none).toArray:=kat_snds rfl harr
 refine wpAny_bind (seqEpoch_at g2 rfl (wpAny_bind (listUpdate_at g2 rfl ?_ (by simp) ?_)))
 ·dsimp only at hfail ⊢
  rw[hfail]
  simp only[bne_self_eq_false,Bool.false_eq_true,if_false]
  have hP':=hP
  rw[<-hout]at hP'
  exact wpAny_pure hP'
 ·dsimp only
  rw[hout]
  simp
  unfold sizeLine
  omega
noncomputable def oN(h:Heap)(v:Value)(p:Int×Int):Prop:=∃b o t1 t2 e,v=Value.ref b/\h.get? b=some o/\o.cls=Value.type "tuple"/\o.data=Data.seq #[Value.int p.1 t1,Value.int p.2 t2] e
noncomputable def ltP(p q:Int×Int):Bool:=decide (p.1<q.1\/p.1=q.1/\p.2<q.2)
section
variable{prog:Program}{w:World}{A:Around}{E:Value->Shared->Prop}{s:Shared}
theorem pM{b:Bool}{x y:Int}{t u:Tok}{Q:Bool->Shared->Prop}(h:Q (decide (x<y)) s):wpAny (model prog w) A (oneLt' b (Value.int x t) (Value.int y u)) Q E s:=by
 cases b with
 |true=>exact oneLt_int h
 |false=>
  rw[oneLt'_eq]
  dsimp only
  rw[if_neg Bool.false_ne_true]
  exact wpAny_bind (wpAny_lt_int (wpAny_truthy_bool h))
theorem ER{v v':Value}{p p':Int×Int}{C:Bool->Shared->Prop}(h:oN s.heap v p)(h':oN s.heap v' p')(c:C (ltP p p') s):wpAny (model prog w) A (keyLt' (tuples' true) v v') C E s:=by
 obtain⟨b,o,t1,t2,e,rfl,g,_,d⟩:=h
 obtain⟨b',o',t1',t2',e',rfl,g',_,d'⟩:=h'
 refine kat_lt g d g' d' (kat_cons (wpAny_eqBool_int ?_))
 by_cases e1:p.1=p'.1
 ·rw[e1,beq_self_eq_true]
  refine kat_yes (kat_cons (wpAny_eqBool_int ?_))
  by_cases e2:p.2=p'.2
  ·rw[e2,beq_self_eq_true]
   refine kat_yes (kat_nil ?_)
   have:ltP p p'=false:=by simp[ltP,e1,e2]
   rw[this]at c
   exact c
  ·rw[beq_eq_false_iff_ne.mpr e2]
   refine kat_no (pM ?_)
   have:ltP p p'=decide (p.2<p'.2):=by simp[ltP,e1]
   rw[this]at c
   exact c
 ·rw[beq_eq_false_iff_ne.mpr e1]
  refine kat_no (pM ?_)
  have:ltP p p'=decide (p.1<p'.1):=by simp[ltP,e1]
  rw[this]at c
  exact c
noncomputable def fV(h:Heap):List Value->List (Int×Int)->Prop
 |[],[]=>True
 |v::vs,p::ps=>oN h v p/\fV h vs ps
 |_,_=>False
theorem nJ{h:Heap}:∀{vs:List Value} {ps:List (Int×Int)},fV h vs ps->vs.length=ps.length
 |[],[],_=>rfl
 |_::_,_::_,k=>by rw[List.length_cons,List.length_cons,nJ k.2]
 |[],_::_,k=>k.elim
 |_::_,[],k=>k.elim
theorem nK{h:Heap}:∀{vs:List Value} {ps:List (Int×Int)} {i:Nat},fV h vs ps->i<ps.length->oN h (vs.getD i Value.none) (ps.getD i (0,0))
 |[],[],_,_,k=>absurd k (Nat.not_lt_zero _)
 |_::_,_::_,0,k,_=>k.1
 |_::vs,_::ps,i+1,k,l=>by
  show oN h (vs.getD i Value.none) (ps.getD i (0,0))
  exact nK k.2 (by rw[List.length_cons]at l;omega)
 |[],_::_,_,k,_=>k.elim
 |_::_,[],_,k,_=>k.elim
theorem yu{h h':Heap}{v:Value}{p:Int×Int}{a:Addr}(k:oN h v p)(hv:v≠.ref a)(m:∀b o,b≠a->h.get? b=some o->h'.get? b=some o):oN h' v p:=by
 obtain⟨b,o,t1,t2,e,rfl,g,c,d⟩:=k
 exact⟨b,o,t1,t2,e,rfl,m b o (fun e=>hv (by rw[e])) g,c,d⟩
theorem lV{h h':Heap}{a:Addr}(m:∀b o,b≠a->h.get? b=some o->h'.get? b=some o):∀{vs:List Value} {ps:List (Int×Int)},fV h vs ps->(∀v∈vs,v≠.ref a)->fV h' vs ps
 |[],[],_,_=>trivial
 |v::vs,_::_,k,hv=>⟨yu k.1 (hv v List.mem_cons_self) m,lV m k.2 fun x hx=>hv x (List.mem_cons_of_mem _ hx)⟩
 |[],_::_,k,_=>k.elim
 |_::_,[],k,_=>k.elim
theorem pI{h:Heap}:∀{vs:List Value} {ps:List (Int×Int)},fV h vs ps->∃fs,KatTups h vs fs/\fs.length=vs.length/\∀f∈fs,∃i t,f=Value.int i t
 |[],[],_=>⟨[],trivial,rfl,fun f hf=>by cases hf⟩
 |v::vs,p::ps,k=>by
  obtain⟨fs,h1,h2,h3⟩:=pI k.2
  obtain⟨b,o,t1,t2,e,hv,g,c,d⟩:=k.1
  refine⟨Value.int p.1 t1::fs,⟨⟨b,o,_,e,hv,g,c,d,rfl⟩,h1⟩,by rw[List.length_cons,List.length_cons,h2],fun f hf=>?_⟩
  rcases List.mem_cons.mp hf with z|z
  ·exact⟨_,_,z⟩
  ·exact h3 f z
 |[],_::_,k=>k.elim
 |_::_,[],k=>k.elim
theorem wy{vs:List Value}{ps:List (Int×Int)}{Q:SortKind->Shared->Prop}(h:fV s.heap vs ps)(hn:0<vs.length)(q:Q (tuples' true) s):wpAny (model prog w) A (keyKind' vs.toArray) Q E s:=by
 obtain⟨fs,h1,h2,h3⟩:=pI h
 refine kat_kind (T:=Value.type "int") h1 (by omega) (fun v hv A Q E s' _ q=>?_) (by decide +kernel) (by exact q)
 obtain⟨i,t,rfl⟩:=h3 v hv
 exact wpAny_typeOf (typeIs_int s' i t) q
end
theorem Iw{ps:List (Int×Int)}(nd:ps.Nodup):Cr ps.length fun i j=>ltP (ps.getD i (0,0)) (ps.getD j (0,0)) where
 tr:=fun{i j k} hi hj hk h1 h2=>by simp only[ltP,decide_eq_true_eq]at *;omega
 asym:=fun{i j} hi hj h=>by simp only[ltP,decide_eq_true_eq,decide_eq_false_iff_not]at *;omega
 tot:=fun{i j} hi hj hne h=>by
  simp only[ltP,decide_eq_true_eq,decide_eq_false_iff_not]at *
  have hd:ps.getD i (0,0)≠ps.getD j (0,0):=by
   rw[List.getD_eq_getElem?_getD,List.getD_eq_getElem?_getD,List.getElem?_eq_getElem hi,List.getElem?_eq_getElem hj]
   simp only[Option.getD_some]
   exact fun e=>hne ((List.getElem_inj nd).mp e)
  have:¬((ps.getD i (0,0)).1=(ps.getD j (0,0)).1/\(ps.getD i (0,0)).2=(ps.getD j (0,0)).2):=fun e=>hd (Prod.ext e.1 e.2)
  omega
theorem nQ{prog:Program}{w:World}{A:Around}{E:Value->Shared->Prop}{s:Shared}{a:Addr}{vs:List Value}{n:Nat}{P:PySem.Fin->Shared->Prop}
  (g:s.heap.get? a=some (seqObj "list" vs.toArray n)) (h2:vs.length<2) (hP:P (Fin.done (Flow.ret Value.none)) { s with heap:=sortedHeap s.heap a vs vs.toArray }) :
  wpAny (model prog w) A (Builtin.«list.sort» { pos:=[Value.ref a] }) P E s:=by
 rw[list_sort_plain]
 have hS:vs.toArray.size=vs.length:=by simp
 have hz:vs.length<=sizeLine:=by unfold sizeLine;omega
 refine wpAny_bind (listItems_at g rfl (wpAny_bind (listUpdate_at g rfl ?_ (by rw[hS];exact hz) (by simp))))
 obtain⟨e1,g1⟩:∃e1,(s.heap.update a (Obj.mapSeq fun _=>#[])).get? a=some (seqObj "list" #[] e1):=⟨_,get?_update_seq g fun _=>#[]⟩
 refine wpAny_bind (seqEpoch_at g1 rfl (wpAny_bind (wpAny_newTuple (wpAny_bind (wpAny_newList (wpAny_holding ?_) (by simp))) (by simpa using hz))))
 have g2:(((s.heap.update a (Obj.mapSeq fun _=>#[])).push (seqObj "tuple" vs.toArray 0)).push (seqObj "list" #[] 0)).get? a=some (seqObj "list" #[] e1):=
  Heap.get?_push_of_some _ (Heap.get?_push_of_some _ g1)
 have n2:vs.toArray.size<2:=by rw[hS];omega
 dsimp only
 rw[if_pos n2]
 refine wpAny_bind (wpAny_pure ?_)
 rw[if_pos n2]
 refine wpAny_bind (wpAny_pure ?_)
 have hout:Array.map (fun x=>x.snd) (arrOf (SortSt.mk' general' (vs.toArray.zip vs.toArray) #[] 7 none))=vs.toArray:=by
  show Array.map (fun x=>x.snd) (vs.toArray.zip vs.toArray)=vs.toArray
  simp[List.map_snd_zip]
 refine wpAny_bind (seqEpoch_at g2 rfl (wpAny_bind (listUpdate_at g2 rfl ?_ (by simp) ?_)))
 ·have hfail:failedOf (SortSt.mk' general' (vs.toArray.zip vs.toArray) #[] 7 none)=none:=rfl
  dsimp only at hfail ⊢
  simp only[hfail,bne_self_eq_false,Bool.false_eq_true,if_false]
  have hP':=hP
  rw[<-hout]at hP'
  exact wpAny_pure hP'
 ·dsimp only
  rw[hout]
  rw[hS]
  omega
noncomputable def JK(ps:List (Int×Int))(q:Array Nat):Prop:=Pm ps.length q/\Asc (fun i j=>ltP (ps.getD i (0,0)) (ps.getD j (0,0))) q ps.length
theorem nR{prog:Program}{w:World}{A:Around}{E:Value->Shared->Prop}{s:Shared}{a:Addr}{vs:List Value}{ps:List (Int×Int)}{n:Nat}{P:PySem.Fin->Shared->Prop}
  (g:s.heap.get? a=some (seqObj "list" vs.toArray n)) (hp:fV s.heap vs ps) (hv:∀v∈vs,v≠.ref a) (nd:ps.Nodup) (h64:ps.length<64)
  (k:∀q:Array Nat,JK ps q->P (Fin.done (Flow.ret Value.none)) { s with heap:=sortedHeap s.heap a vs (q.toList.map fun i=>vs.getD i Value.none).toArray }) :
  wpAny (model prog w) A (Builtin.«list.sort» { pos:=[Value.ref a] }) P E s:=by
 have hl:=nJ hp
 by_cases h2:vs.length<2
 ·have hr:((List.range ps.length).toArray.toList.map fun i=>vs.getD i Value.none)=vs:=by
   rw[<-hl]
   refine List.ext_getElem? fun i=>?_
   by_cases hi:i<vs.length
   ·simp[List.getElem?_range hi,List.getElem?_eq_getElem hi]
   ·simp[List.getElem?_eq_none (Nat.le_of_not_lt hi),hi]
  have:=k (List.range ps.length).toArray ⟨vg,fun i j hij hj=>by omega⟩
  rw[hr]at this
  exact nQ g h2 this
 ·refine qL g (by omega) (by omega) fun h' m=>?_
  have hp':fV ({ s with heap:=h' }:Shared).heap vs ps:=lV m hp hv
  refine wy hp' (by omega) ⟨rfl,?_⟩
  have hl':vs.length=ps.length:=hl
  rw[hl']
  refine Em (Iw nd) (fun i j C hi hj c=>?_) (by omega) fun q P1 P2=>⟨rfl,k q ⟨P1,P2⟩⟩
  exact ER (nK hp' hi) (nK hp' hj) c
theorem lW{h:Heap}:∀{vs:List Value} {ps:List (Int×Int)},fV h vs ps->∀v∈vs,∀a,h.objs.size<=a->v≠.ref a
 |[],[],_,v,hv,_,_=>by cases hv
 |_::_,_::_,k,v,hv,a,ha=>by
  rcases List.mem_cons.mp hv with z|z
  ·obtain⟨b,o,t1,t2,e,e1,g,_⟩:=k.1
   rw[z,e1]
   intro e2
   cases e2
   exact absurd (Heap.lt_size g) (Nat.not_lt.mpr ha)
  ·exact lW k.2 v z a ha
 |[],_::_,k,_,_,_,_=>k.elim
 |_::_,[],k,_,_,_,_=>k.elim
theorem sd{prog:Program}{w:World}{A:Around}{E:Value->Shared->Prop}{s:Shared}{l:Addr}{vs:List Value}{ps:List (Int×Int)}{Q:Value->Shared->Prop}
  (hL:s.heap.IsList l vs.toArray) (hp:fV s.heap vs ps) (nd:ps.Nodup) (h64:ps.length<64)
  (k:∀q:Array Nat,JK ps q->Q (Value.ref (s.heap.objs.size+1)) { s with heap:=sortedAll s.heap vs (q.toList.map fun i=>vs.getD i Value.none).toArray }) :
  wpAny (model prog w) A (call (Value.builtin "sorted") [Value.ref l]) Q E s:=by
 have hl:=nJ hp
 have hz:vs.length<=sizeLine:=by unfold sizeLine;omega
 refine Calls.call_function_entry kind_sorted plain_sorted entry_sorted (args_sorted1 _) ?_
 unfold Builtin.«sorted»
 refine wpAny_bind (m:=checkCount "sorted" 1 1 _) (wpAny_pure (wpAny_bind (collect_list hL (wpAny_bind (wpAny_newList ?_ hz)) hz)))
 have hsz:((s.heap.push (seqObj "list" #[] 0)).update s.heap.objs.size (Obj.mapSeq fun x=>x++vs.toArray)).objs.size=s.heap.objs.size+1:=by
  rw[Heap.size_update,size_push']
 have gL:(((s.heap.push (seqObj "list" #[] 0)).update s.heap.objs.size (Obj.mapSeq fun x=>x++vs.toArray)).push (seqObj "list" vs.toArray 0)).get? (s.heap.objs.size+1)=some (seqObj "list" vs.toArray 0):=by
  rw[<-hsz];exact Heap.get?_push_size _ rfl
 have old:∀b o,s.heap.get? b=some o->(((s.heap.push (seqObj "list" #[] 0)).update s.heap.objs.size (Obj.mapSeq fun x=>x++vs.toArray)).push (seqObj "list" vs.toArray 0)).get? b=some o:=fun b o g=>by
  refine Heap.get?_push_of_some _ ?_
  rw[Heap.get?_update_ne _ _ _ _ (Nat.ne_of_lt (Heap.lt_size g))]
  exact Heap.get?_push_of_some _ g
 show wpAny _ _ _ _ _ { s with heap:=((s.heap.push (seqObj "list" #[] 0)).update s.heap.objs.size (Obj.mapSeq fun x=>x++vs.toArray)).push (seqObj "list" vs.toArray 0) }
 rw[show Value.ref ((s.heap.push (seqObj "list" #[] 0)).update s.heap.objs.size (Obj.mapSeq fun x=>x++vs.toArray)).objs.size=Value.ref (s.heap.objs.size+1)from by rw[hsz]]
 refine wpAny_bind (wpAny_holding (wpAny_call_entry slot_list_sort ⟨_,gL,rfl⟩ entry_list_sort (nR (n:=0) gL (lV (a:=s.heap.objs.size+1) (fun b o _ g=>old b o g) hp fun v hv=>lW hp v hv _ (by omega)) (fun v hv=>lW hp v hv _ (by omega)) nd h64 fun q hq=>⟨_,rfl,?_⟩) (args_list_sort _)))
 exact wpAny_pure ⟨_,rfl,k q hq⟩
noncomputable def PrL(K:PySem.W.Frag)(H:Hp):List V->List (Int×Int)->Prop
 |[],[]=>True
 |x::xs,p::ps=>(∃a,x=.ref a/\SqT K H a [.int p.1,.int p.2])/\PrL K H xs ps
 |_,_=>False
noncomputable def vc(K:PySem.W.Frag):List V->Hp->VK->Prop:=fun xs H Q=>∃(p:Addr) (ys:List V) (ps:List (Int×Int)),xs=[.ref p]/\SqL K H p ys/\PrL K H ys ps/\ps.Nodup/\ps.length<64/\
 ∀(l:Addr) (q:Array Nat),H l=none->JK ps q->Q (.ref l) (upd H l (.lst (q.toList.map fun i=>ys.getD i .non)))
theorem ym{K:PySem.W.Frag}{H:Hp}:∀{ys:List V} {ps:List (Int×Int)},PrL K H ys ps->ys.length=ps.length
 |[],[],_=>rfl
 |_::_,_::_,k=>by rw[List.length_cons,List.length_cons,ym k.2]
 |[],_::_,k=>k.elim
 |_::_,[],k=>k.elim
theorem CZ{X:Cx}{pins:List (Addr×Obj)}{σ:L2.St}{H:Hp}{s:Shared}(I:Inv X pins σ H s):∀{ys:List V} {ps:List (Int×Int)} {vs:List Value},PrL X.K H ys ps->b8 ys vs->fV s.heap vs ps
 |[],[],_,_,r=>by cases r;trivial
 |_::_,p::ps,_,k,r=>by
  cases r with
  |cons r1 r2=>
   refine⟨?_,CZ I k.2 r2⟩
   obtain⟨a,rfl,hs⟩:=k.1
   obtain⟨its,rv,⟨o,g,c,n,d⟩,_⟩:=I.tuple hs
   cases r1
   cases rv with
   |cons u1 u2=>cases u2 with
    |cons u3 u4=>
     cases u4
     obtain⟨t1,rfl⟩:=u1
     obtain⟨t2,rfl⟩:=u3
     exact⟨a,o,t1,t2,n,rfl,g,c,d⟩
 |[],_::_,_,k,_=>k.elim
 |_::_,[],_,k,_=>k.elim
theorem AW{ys:List V}{vs:List Value}(r:b8 ys vs){i:Nat}(hi:i<ys.length):dj (ys.getD i .non) (vs.getD i Value.none):=by
 induction r generalizing i with
 |nil=>simp at hi
 |cons r1 r2 ih=>
  cases i with
  |zero=>exact r1
  |succ i=>exact ih (by simpa using hi)
theorem uV{ys:List V}{vs:List Value}(r:b8 ys vs):∀(is:List Nat),(∀i∈is,i<ys.length)->b8 (is.map fun i=>ys.getD i .non) (is.map fun i=>vs.getD i Value.none)
 |[],_=>.nil
 |i::is,h=>.cons (AW r (h i List.mem_cons_self)) (uV r is fun j hj=>h j (List.mem_cons_of_mem _ hj))
theorem yp{n:Nat}{q:Array Nat}(P:Pm n q):∀i∈q.toList,i<n:=fun i hi=>by
 obtain⟨j,hj,e⟩:=List.mem_iff_getElem.mp hi
 have hj':j<q.size:=by simpa using hj
 have:=P.bd j (by rw[<-P.sz];exact hj')
 rw[Array.getD_eq_getD_getElem?,Array.getElem?_eq_getElem hj']at this
 rw[Array.getElem_toList]at e
 rw[<-e];exact this
theorem yA{X:Cx}:iV X (.builtin "sorted") (vc X.K):=by
 rintro pins s σ H xs us Q I r ⟨p,ys,ps,rfl,hL,hp,nd,h64,q⟩
 obtain⟨u,rfl,ru⟩:=rR r
 cases ru
 obtain⟨its,rv,pl,hz⟩:=I.list hL
 have fT:=ym hp
 refine sd pl.isList (CZ I hp rv) nd h64 fun qa a1=>?_
 obtain⟨e,ge⟩:=sortedAll_at s.heap its (qa.toList.map fun i=>its.getD i Value.none).toArray
 have hf:=I.hok.fresh (Nat.le_succ s.heap.objs.size)
 have hq:qa.toList.length=ps.length:=by rw[Array.length_toList,a1.1.sz]
 refine⟨.ref (s.heap.objs.size+1),_,I.laid (o:=.lst (qa.toList.map fun i=>ys.getD i .non)) (t':=s.toks) (fun b o e=>sortedAll_old e) (Nat.le_succ _) ⟨by rw[List.length_map,hq];unfold sizeLine;omega,_,e,uV rv qa.toList (by rw[fT];exact yp a1.1),ge⟩,rfl,q _ qa hf a1⟩
theorem ud{p:Int×Int}:ltP p p=false:=by simp[ltP]
theorem BM{p q:Int×Int}(h:ltP p q=true)(k:ltP q p=true):False:=by simp only[ltP,decide_eq_true_eq]at h k;omega
theorem vX:∀{L M:List (Int×Int)},L.Pairwise (fun a b=>ltP a b=true)->M.Pairwise (fun a b=>ltP a b=true)->(∀x,x∈L↔x∈M)->L=M
 |[],[],_,_,_=>rfl
 |[],m::M,_,_,h=>by have:=(h m).mpr List.mem_cons_self;cases this
 |l::L,[],_,_,h=>by have:=(h l).mp List.mem_cons_self;cases this
 |l::L,m::M,h1,h2,h=>by
  obtain⟨a1,b1⟩:=List.pairwise_cons.mp h1
  obtain⟨a2,b2⟩:=List.pairwise_cons.mp h2
  have e:l=m:=by
   rcases List.mem_cons.mp ((h l).mp List.mem_cons_self)with z|z
   ·exact z
   ·rcases List.mem_cons.mp ((h m).mpr List.mem_cons_self)with y|y
    ·exact y.symm
    ·exact(BM (a2 l z) (a1 m y)).elim
  subst e
  congr 1
  refine vX b1 b2 fun x=>⟨fun hx=>?_,fun hx=>?_⟩
  ·rcases List.mem_cons.mp ((h x).mp (List.mem_cons_of_mem _ hx))with z|z
   ·subst z;have:=a1 x hx;rw[ud]at this;cases this
   ·exact z
  ·rcases List.mem_cons.mp ((h x).mpr (List.mem_cons_of_mem _ hx))with z|z
   ·subst z;have:=a2 x hx;rw[ud]at this;cases this
   ·exact z
open Classical in
noncomputable def jk(ps:List (Int×Int)):List (Int×Int):=if h:∃L:List (Int×Int),L.Pairwise (fun a b=>ltP a b=true)/\∀x,x∈L↔x∈ps then h.choose else[]
theorem mV{L ps:List (Int×Int)}(h1:L.Pairwise (fun a b=>ltP a b=true))(h2:∀x,x∈L↔x∈ps):jk ps=L:=by
 have h:∃L:List (Int×Int),L.Pairwise (fun a b=>ltP a b=true)/\∀x,x∈L↔x∈ps:=⟨L,h1,h2⟩
 unfold jk
 rw[dif_pos h]
 obtain⟨k1,k2⟩:=h.choose_spec
 exact vX k1 h1 fun x=>(k2 x).trans (h2 x).symm
theorem Ae{ps:List (Int×Int)}{q:Array Nat}(h:JK ps q):jk ps=q.toList.map fun i=>ps.getD i (0,0):=by
 obtain⟨P,A⟩:=h
 have hl:q.toList.length=ps.length:=by rw[Array.length_toList,P.sz]
 have gd:∀i (hi:i<q.toList.length),q.getD i 0=q.toList[i]:=fun i hi=>by
  have hi':i<q.size:=by simpa using hi
  rw[Array.getD_eq_getD_getElem?,Array.getElem?_eq_getElem hi',Array.getElem_toList];rfl
 have h1:(q.toList.map fun i=>ps.getD i (0,0)).Pairwise (fun a b=>ltP a b=true):=by
  rw[List.pairwise_iff_getElem]
  intro i j hi hj hij
  rw[List.length_map]at hi hj
  rw[List.getElem_map,List.getElem_map,<-gd i hi,<-gd j hj]
  exact A i j hij (by omega)
 have nd:(q.toList.map fun i=>ps.getD i (0,0)).Nodup:=h1.imp fun{a b} h e=>by subst e;rw[ud]at h;cases h
 have sub:∀x∈q.toList.map fun i=>ps.getD i (0,0),x∈ps:=fun x hx=>by
  obtain⟨i,hi,rfl⟩:=List.mem_map.mp hx
  have:=yp P i hi
  rw[List.getD_eq_getElem?_getD,List.getElem?_eq_getElem this]
  exact List.getElem_mem this
 refine mV h1 fun x=>⟨sub x,fun hx=>?_⟩
 refine Classical.byContradiction fun hn=>?_
 have:=List.Nodup.length_le_of_subset (List.nodup_cons.mpr ⟨hn,nd⟩) (l₂:=ps) fun y hy=>by
  rcases List.mem_cons.mp hy with z|z
  ·rw[z];exact hx
  ·exact sub y z
 rw[List.length_cons,List.length_map,hl]at this
 omega
noncomputable def pP(p:Int×Int):U:=.tup [.int p.1,.int p.2]
noncomputable def pK:List U->Option (List (Int×Int))
 |[]=>some []
 |.tup [.int a,.int b]::r=>(pK r).map ((a,b)::·)
 |_=>none
theorem pJ:∀ps:List (Int×Int),pK (ps.map pP)=some ps
 |[]=>rfl
 |p::ps=>by rw[List.map_cons,pP,pK,pJ ps];rfl
theorem sk:∀{us:List U} {ps:List (Int×Int)},pK us=some ps->us=ps.map pP
 |[],ps,h=>by cases h;rfl
 |u::us,ps,h=>by
  unfold pK at h
  split at h
  ·rename_i e;cases e
  ·rename_i e
   injection e with e1 e2
   subst e1;subst e2
   obtain⟨qs,e,h⟩:=Option.map_eq_some_iff.mp h
   subst h
   rw[List.map_cons,<-sk e];rfl
  ·cases h
section
variable{K:PySem.W.Frag}{m:List Addr}{H:Hp}
theorem CY:∀{ys:List V} {ps:List (Int×Int)},IsL K m H ys (ps.map pP)->PrL K H ys ps
 |ys,[],h=>by rw[h.of_nil];trivial
 |ys,p::ps,h=>by
  obtain⟨y,r,rfl,i,t⟩:=h.of_cons
  obtain⟨a,xs,rfl,hs,il⟩:=i.of_tup
  have e:xs=[p.1,p.2].map V.int:=IsL.ints (ns:=[p.1,p.2]) il
  subst e
  exact⟨⟨a,rfl,hs⟩,CY t⟩
theorem yn:∀{ys:List V} {ps:List (Int×Int)} {i:Nat},PrL K H ys ps->i<ps.length->Is K m H (ys.getD i .non) (pP (ps.getD i (0,0)))
 |[],[],i,_,h=>by simp at h
 |y::ys,p::ps,0,k,_=>by
  obtain⟨a,e,hs⟩:=k.1
  show Is K m H y (pP p)
  rw[e]
  exact .tup_ hs (lD [p.1,p.2])
 |y::ys,p::ps,i+1,k,h=>by
  show Is K m H (ys.getD i .non) (pP (ps.getD i (0,0)))
  exact yn k.2 (by simpa using h)
 |[],_::_,_,k,_=>k.elim
 |_::_,[],_,k,_=>k.elim
theorem yl{ys:List V}{ps:List (Int×Int)}(k:PrL K H ys ps):∀is:List Nat,(∀i∈is,i<ps.length)->IsL K m H (is.map fun i=>ys.getD i .non) (is.map fun i=>pP (ps.getD i (0,0)))
 |[],_=>.nil_
 |i::is,h=>.cons_ (yn k (h i List.mem_cons_self)) (yl k is fun j hj=>h j (List.mem_cons_of_mem _ hj))
end
open Classical in
noncomputable def i8:Fn
 |[.ref l],S=>match S[l]? with
  |some (.lst us)=>(pK us).bind fun ps=>if ps.Nodup/\ps.length<64 then some (.ref S.length,S++[.lst ((jk ps).map pP)])else none
  |_=>none
 |_,_=>none
theorem yv{K:PySem.W.Frag}:rB K (vc K) i8:=by
 intro m S H us vs u S' Q sr i hf post
 match us,hf with
 |[.ref l],hf=>
  obtain⟨v,rfl,iv⟩:=i.one
  obtain⟨a,ha,rfl⟩:=iv.of_ref
  simp only[i8]at hf
  split at hf<;>try cases hf
  rename_i ws hS
  obtain⟨ps,hn,h⟩:=Option.bind_eq_some_iff.mp hf
  split at h<;>try cases h
  have hc:ps.Nodup/\ps.length<64:=by assumption
  obtain⟨a',ha',xs,hx,la⟩:=sr.get hS
  rw[ha]at ha';cases ha'
  rw[sk hn]at la
  have pr:=CY la
  refine⟨a,xs,ps,rfl,SqL.of hx,pr,hc.1,hc.2,fun p q hp aq=>?_⟩
  have il:=yl (m:=m) pr q.toList (yp aq.1)
  have e:(q.toList.map fun i=>pP (ps.getD i (0,0)))=(jk ps).map pP:=by rw[Ae aq,List.map_map];rfl
  rw[e]at il
  exact fY sr il post hp
section
variable{X:Cx}{K:PySem.W.Frag}
noncomputable def CU:V->List V->Hp->VK->Prop:=fun x vs H Q=>∃(l:Addr) (ns:List Int) (z:Int) (j:Nat),x=.ref l/\vs=[.int z]/\H l=some (.lst (ns.map V.int))/\ns[j]?=some z/\(∀m,m<j->ns[m]?≠some z)/\j<1000000/\Q (.int (j:Nat)) H
noncomputable def y2(z:Int):Value->Bool
 |.int i _=>i == z
 |_=>false
theorem rQ{ns:List Int}{its:List Value}(r:b8 (ns.map V.int) its){i:Nat}{v:Value}(h:its[i]?=some v):∃n t,ns[i]?=some n/\v=Value.int n t:=by
 have hi:i<its.length:=(List.getElem?_eq_some_iff.mp h).1
 have hl:=r.length
 rw[List.length_map]at hl
 have hn:i<ns.length:=by omega
 obtain⟨u,e1,e2⟩:=r.get (i:=i) (x:=.int ns[i]) (by rw[List.getElem?_map,List.getElem?_eq_getElem hn];rfl)
 rw[h]at e1;cases e1
 obtain⟨t,e⟩:=e2
 exact⟨_,t,List.getElem?_eq_getElem hn,e⟩
theorem BH:MtM X "list.index" CU:=by
 intro pins s σ H x vs v us Q I rx rv h
 obtain⟨l,ns,z,j,rfl,rfl,hH,hj,hm,hb,q⟩:=h
 cases rx
 obtain⟨u,rfl,ru⟩:=rv.one
 obtain⟨tz,rfl⟩:=ru
 obtain⟨_,its,n,r,hl,e⟩:=I.lstM hH
 have fT:=r.length
 rw[List.length_map]at fT
 have hj':j<its.toArray.size:=by have:=(List.getElem?_eq_some_iff.mp hj).1;simp;omega
 have at_:∀(m:Nat) (hm:m<its.toArray.size),∃k t,ns[m]?=some k/\its.toArray[m]=Value.int k t:=fun m hm=>by
  have hm':m<its.length:=by simpa using hm
  obtain⟨k,t,e1,e2⟩:=rQ r (List.getElem?_eq_getElem hm')
  exact⟨k,t,e1,by simpa using e2⟩
 refine call_meets PySem.F.slot_list_index ⟨_,e,rfl⟩ PySem.F.entry_list_index (PySem.F.args_list_index_2 _ _) (PySem.MeetsSeq.list_index l its.toArray n (Value.int z tz) (y2 z) (fun y hy=>?_) j hj' (by omega) ?_ fun m hm1 hm2=>?_) ⟨e,?_⟩
 ·obtain⟨m,hm1,rfl⟩:=Array.mem_iff_getElem.mp hy
  obtain⟨k,t,_,e2⟩:=at_ m hm1
  rw[e2]
  exact PySem.MeetsSeq.EqGives.int _ _ _ _
 ·obtain⟨k,t,e1,e2⟩:=at_ j hj'
  rw[e2]
  rw[hj]at e1;cases e1
  simp[y2]
 ·obtain⟨k,t,e1,e2⟩:=at_ m hm1
  rw[e2]
  simp only[y2,beq_eq_false_iff_ne]
  intro e3
  exact hm m hm2 (by rw[e1,e3])
 ·exact⟨.int (j:Nat),_,I.kept (fun b o g=>g),⟨_,rfl⟩,q⟩
theorem C9:∀{ns:List Int} {z:Int} {k:Nat} (h:k<ns.length),ns[k]=z->ns.idxOf z<=k
 |[],_,_,h,_=>absurd h (Nat.not_lt_zero _)
 |n::ns,z,0,_,e=>by
  have:n=z:=e
  subst this
  simp
 |n::ns,z,k+1,h,e=>by
  rw[List.idxOf_cons]
  have:=C9 (ns:=ns) (z:=z) (k:=k) (by simpa using h) (by simpa using e)
  cases (n == z)<;>simp<;>omega
noncomputable def n9:U->List U->Sto->Option (U×Sto)
 |.ref l,[.int z],S=>match S[l]? with
  |some (.lst us)=>(ug us).bind fun ns=>if z∈ns/\ns.length<=LIM then some (.int (ns.idxOf z:Nat),S)else none
  |_=>none
 |_,_,_=>none
theorem EV:MtP K CU n9:=by
 intro m S H x v us vs u S' Q sr ix i hf post
 match x,us,hf with
 |.ref l,[.int z],hf=>
  simp only[n9]at hf
  split at hf<;>try cases hf
  rename_i ws hS
  obtain⟨ns,hn,h⟩:=Option.bind_eq_some_iff.mp hf
  split at h<;>try cases h
  have hk:z∈ns/\ns.length<=LIM:=by assumption
  obtain⟨a,ha,rfl⟩:=ix.of_ref
  obtain⟨a',ha',xs,hx,la⟩:=sr.get hS
  rw[ha]at ha';cases ha'
  obtain⟨y,rfl,iy⟩:=i.one
  rw[qN hn]at la
  rw[la.ints]at hx
  have hlt:ns.idxOf z<ns.length:=List.idxOf_lt_length_of_mem hk.1
  have hL:ns.length<=100000:=hk.2
  refine⟨a,ns,z,ns.idxOf z,rfl,by rw[iy.of_int],hx,?_,fun k hk e=>?_,by omega,post m _ _ .refl sr .int_⟩
  ·rw[List.getElem?_eq_getElem hlt,List.getElem_idxOf]
  ·obtain⟨h1,h2⟩:=List.getElem?_eq_some_iff.mp e
   exact absurd (C9 h1 h2) (Nat.not_le.mpr hk)
variable{e:Expr}{es:List Expr}{co:CE}{cr:CA}{o:Expr}{apos cpos:Pos}
theorem yi (ho : QE X o co) (ha : QA X (e :: es) cr) (hbase : attributeBase o "index" X.env (eval o X.env) = eval o X.env := by rfl) (hfew : ((backTo cpos (starEach (e :: es) X.env)).all (fun x => !x.1) && (backToKw cpos (keywordEach [] X.env)).all (fun x => x.1.isSome)
   && decide ((e::es).length+([]:List Keyword).length+(if ([]:List Keyword).isEmpty then 0 else 1)<30))=true:=by rfl) (hline:(apos.endLine == cpos.line)=true:=by rfl) (hs:starEach (e::es) X.env=(false,eval e X.env)::starEach es X.env:=by rfl) (hplain:(backTo cpos (starEach es X.env)).any (·.1)=false:=by rfl) :
  QE X (.Call (.Attribute o "index" apos) (e::es) [] cpos) (cBM n9 co cr):=(uU PySem.F.plainAttrs_list PySem.F.slot_list_index PySem.F.type_list_index BH ho ha.h hbase hfew hline hs hplain).imp (tL EV)
end
end OP
namespace OQ
open PySem PySem.Spec PyProof.Rows L2 OG OP
noncomputable def fB:CS:=
 (bH (gj (aE (cOp fEq (cOp fIx (ag 0) (cC (.int 2))) (cC (.int 0)))) (bH (dc 2 (cOp fIx (ag 0) (cC (.int 1))))
  (bH (ff (ag 0) (cC (.int 1)) (cOp gX (ag 2) (cC (.int 1))))
  (bH (dc 3 (cC (.int 0)))
  (bH (gj (aE (cOp fLt (ag 2) (cCB qW (ae (cOp fIx (ag 0) (cC (.int 0))) aD)))) (dc 3 (cOp fIx (cOp fIx (ag 0) (cC (.int 0))) (ag 2))) (gj (aE (cOp fGt (cCB qW (ae (cOp fIx (ag 0) (cC (.int 0))) aD)) (cC (.int 0)))) (dc 3 (cOp gX (cOp sQ (cOp fIx (cOp fIx (ag 0) (cC (.int 0))) (cOp sQ (cOp n8 (ag 2) (cC (.int 3))) (cCB qW (ae (cOp fIx (ag 0) (cC (.int 0))) aD)))) (cC (.int 1000003))) (cOp n8 (cC (.int 97)) (ag 2)))) cR))
  (bH (dc 4 (cOp sQ (cOp n8 (cOp gX (cOp gX (cOp sQ (ag 3) (cC (.int 998244353))) (cOp n8 (cC (.int 53)) (ag 2))) (cC (.int 1))) (cC (.int 48271))) (cC (.int 2147483647))))
  (bH (dc 5 (cOp sQ (cOp gX (cOp gX (cOp n8 (ag 4) (ag 4)) (cOp n8 (cC (.int 69621)) (ag 2))) (cC (.int 5))) (cC (.int 1000000007))))
  (bH (dc 6 (cOp sQ (cOp gX (cOp n8 (ag 5) (ag 5)) (ag 4)) (cC (.int 998244353))))
  (bH (ff (ag 0) (cC (.int 2)) (cOp gX (cOp B3 (cOp gX (cOp n8 (ag 5) (cC (.int 998244353))) (ag 6)) (cC (.int 16))) (cC (.int 1))))
  (gj (aE (cOp fGe (ag 3) (cOp Ar (cC (.int 10)) (cC (.int 18))))) (ff (ag 0) (cC (.int 2)) (cOp B3 (ag 3) (cOp Ar (cC (.int 10)) (cC (.int 18))))) cR))))))))) cR)
  (bH (dc 7 (cOp sQ (cOp fIx (ag 0) (cC (.int 2))) (ag 1)))
  (bH (ff (ag 0) (cC (.int 2)) (cOp B3 (cOp fIx (ag 0) (cC (.int 2))) (ag 1)))
  (fC (ag 7)))))
theorem uw{a0 a1:U}{S:Sto}:fnU 8 2 (fB ) [a0,a1] S=((fB ) [some a0,some a1,none,none,none,none,none,none] S).bind kFn:=jZ rfl
noncomputable def fJ(ak:Fn):CS:=
 (fC (mQ (ae (cOp gX (cC (.int 1)) (cCB ak (ae (ag 0) (ae (cC (.int 6)) aD)))) (ae (cOp fIx (j9 (ae (cC (.int 2)) (ae (cC (.int 3)) (ae (cC (.int 5)) (ae (cC (.int 10)) (ae (cOp gX (cC (.int 2)) (cCB ak (ae (ag 0) (ae (cC (.int 999)) aD)))) aD)))))) (cCB ak (ae (ag 0) (ae (cC (.int 5)) aD)))) aD))))
theorem sV{ak:Fn}{a0:U}{S:Sto}:fnU 1 1 (fJ ak) [a0] S=((fJ ak) [some a0] S).bind kFn:=jZ rfl
noncomputable def fM(ak:Fn):CS:=
 (fC (cCB lH (ae (fU (eV (ae (cOp fIx (ag 1) (cC (.int 0))) aD)) (gNm 0) (cCB ak (ae (ag 1) (ae (cOp fIx (ag 2) (cC (.int 1))) aD))) 1 [0,1]) aD)))
theorem sX{ak:Fn}{a0 a1:U}{S:Sto}:fnU 2 2 (fM ak) [a0,a1] S=((fM ak) [some a0,some a1] S).bind kFn:=jZ rfl
noncomputable def eG(aP:Fn):CS:=
 (bH (gj (aE (cOp Jb (ag 1) (cC .non))) (fC (cOp Jb (ag 0) (cC .non))) cR)
  (bH (gj (aE (uE .bool (ag 1))) (fC (pq (uE .bool (ag 0)) (cOp fEq (ag 0) (ag 1)))) cR)
  (bH (gj (aE (uE .str (ag 1))) (fC (pq (uE .str (ag 0)) (cOp fEq (ag 0) (ag 1)))) cR)
  (bH (gj (aE (uE .int (ag 1))) (fC (pq (uE .int (ag 0)) (pq (zR (uE .bool (ag 0))) (cOp fEq (ag 0) (ag 1))))) cR)
  (bH (gj (cOr (aE (cOp fNe (uE .tuple (ag 1)) (uE .tuple (ag 0)))) (aE (cOp fNe (uE .list (ag 1)) (uE .list (ag 0))))) (fC (cC (.bl false))) cR)
  (fC (pq (cOp fEq (cCB qW (ae (ag 0) aD)) (cCB qW (ae (ag 1) aD))) (cOp (fIn true) (cC (.bl false)) (fU (Lo (ag 0) (ag 1)) (gTp [0,1]) (cCB aP (ae (ag 0) (ae (ag 1) aD))) 2 [])))))))))
theorem kA{aP:Fn}{a0 a1:U}{S:Sto}:fnU 2 2 (eG aP) [a0,a1] S=((eG aP) [some a0,some a1] S).bind kFn:=jZ rfl
end OQ
local macro_rules
 | `(tactic| rwa $s:rwRuleSeq) => do
  let ts : Array (Lean.TSyntax `term) := s.raw[1].getSepArgs.map fun r => ⟨r[1]⟩
  let us : Array (Lean.TSyntax `term) := (("F6 Ct x_c Jq AE AD Ge DI Kz GX GW Mn JZ JY J0 Gx GV DX DW JX Gv Gu Gw DJ AF pz nj t4 JL Gb DO GA Jr GO Kc GJ uP ni rD Gk Gj Gi Cz DS wa Gm oV px rH My Kg Kf oU Gh Kx GU GS Ki Kh GZ GY Mg JS JR JQ JP J9 GH GI Kb JN Gf Gg GC GD GF GB KA JM Mw Mx Mz MA Kn J2 Km J1 Ko J3 Kk Kj at0 at1 at2 at3 ix0 ix1 ix2 Option.bind_some List.getElem?_cons_zero List.getElem?_cons_succ List.set_cons_zero List.set_cons_succ List.length_cons List.length_nil List.map_cons List.map_nil decide_true decide_false Bool.not_true Bool.not_false Kl Cy Cw Mh JV JU JT Gz DM DL DK DN Kd Ke J8 GG LH GR GQ GP Ky MB Ku Kt Ks Kr Kq GL Mm x_p Ml Mj Mi GN DV DU F7 F8 F9 DP tZ DQ GK ga ga0 gs gs0 Option.join_some Nat.add_zero List.cons_append List.nil_append List.append_assoc" : String).splitOn " ").toArray.map fun x => ⟨(Lean.mkIdent ((x.splitOn ".").foldl Lean.Name.str Lean.Name.anonymous)).raw⟩
  let vs:=ts++us
  `(tactic| simp only [$[$vs:term],*])
namespace OQ
open PySem PySem.Spec PyProof.Rows L2 OG OP
noncomputable def pen(a c:Int):O:=.lst [.ref 0,.int a,.int c]
section
variable{S:Sto}{j k:Int}
theorem xk(h:-(2^64)<k/\k<2^64):n8 (.int j) (.int k) S=some (.int (j*k),S):=Gy (.inr h)
theorem rF(h:-(2^64)<j/\j<2^64):n8 (.int j) (.int k) S=some (.int (j*k),S):=Gy (.inl h)
theorem Mv:n8 (.int j) (.int 3) S=some (.int (j*3),S):=xk (by decide)
theorem J6:n8 (.int 97) (.int k) S=some (.int (97*k),S):=rF (by decide)
theorem J7:n8 (.int 53) (.int k) S=some (.int (53*k),S):=rF (by decide)
theorem Mu:n8 (.int j) (.int 48271) S=some (.int (j*48271),S):=xk (by decide)
theorem Mt:n8 (.int 69621) (.int k) S=some (.int (69621*k),S):=rF (by decide)
theorem Ms:n8 (.int j) (.int 998244353) S=some (.int (j*998244353),S):=xk (by decide)
theorem J5:n8 (.int (j % 2147483647)) (.int k) S=some (.int (j % 2147483647*k),S):=rF (by have:=Int.emod_nonneg j (show(2147483647:Int)≠0 by decide);have:=Int.emod_lt_of_pos j (show(0:Int)<2147483647 by decide);omega)
theorem J4:n8 (.int (j % 1000000007)) (.int k) S=some (.int (j % 1000000007*k),S):=rF (by have:=Int.emod_nonneg j (show(1000000007:Int)≠0 by decide);have:=Int.emod_lt_of_pos j (show(0:Int)<1000000007 by decide);omega)
theorem Mr:sQ (.int j) (.int 998244353) S=some (.int (j % 998244353),S):=wb (by decide)
theorem Mq:sQ (.int j) (.int 2147483647) S=some (.int (j % 2147483647),S):=wb (by decide)
theorem Mp:sQ (.int j) (.int 1000000007) S=some (.int (j % 1000000007),S):=wb (by decide)
theorem Mo:sQ (.int j) (.int 1000003) S=some (.int (j % 1000003),S):=wb (by decide)
theorem Kw:B3 (.int j) (.int 16) S=some (.int (j / 16),S):=DT ⟨by decide,by decide +kernel⟩
theorem Gr:Ar (.int 10) (.int 18) S=some (.int 1000000000000000000,S):=Gn (j:=10) (k:=18) ⟨by decide,by decide,by decide⟩
theorem Kv:B3 (.int j) (.int 1000000000000000000) S=some (.int (j / 1000000000000000000),S):=DT ⟨by decide,by decide +kernel⟩
theorem atU{ns:List Int}{k:Int}(h0:0<=k)(h1:k<(ns.length:Int)):∃v:Int,atI (ns.map U.int) k=some (.int v):=by
 have hk:k.toNat<ns.length:=by omega
 exact⟨ns[k.toNat],zZ h0 (by rw[List.getElem?_map,List.getElem?_eq_getElem hk];rfl)⟩
end
noncomputable def dv:Fn:=fnU 8 2 fB
theorem cI(ns:List Int)(T:Sto){a c m:Int}(ha:0<=a)(hc:0<=c)(hm:0<m)(hb:m.natAbs.log2<9000) :
  ∃f a' c',dv [.ref 1,.int m] (.lst (ns.map U.int)::pen a c::T)=some (.int f,.lst (ns.map U.int)::pen a' c'::T)/\0<=f/\f<m/\0<=a'/\0<=c':=by
 unfold dv
 rw[uw]
 have dm:∀{j:Int} {S:Sto},B3 (.int j) (.int m) S=some (.int (j / m),S):=DT ⟨hm,hb⟩
 have mm:∀{j:Int} {S:Sto},sQ (.int j) (.int m) S=some (.int (j % m),S):=wb hm
 have fin:∀{a' c':Int},0<=a'->0<=c'->0<=c' % m/\c' % m<m/\0<=a'/\0<=c' / m:=fun h1 h2=>⟨Int.emod_nonneg _ (by omega),Int.emod_lt_of_pos _ hm,h1,Int.ediv_nonneg h2 (by omega)⟩
 by_cases c0:c=0
 ·subst c0
  have cell : ∃ z : Int, (gj (aE (cOp fLt (ag 2) (cCB qW (ae (cOp fIx (ag 0) (cC (U.int 0))) aD))))
              (dc 3 (cOp fIx (cOp fIx (ag 0) (cC (U.int 0))) (ag 2)))
              (gj
               (aE (cOp fGt (cCB qW (ae (cOp fIx (ag 0) (cC (U.int 0))) aD)) (cC (U.int 0))))
               (dc 3
                (cOp gX
                 (cOp sQ
                  (cOp fIx (cOp fIx (ag 0) (cC (U.int 0)))
                   (cOp sQ (cOp n8 (ag 2) (cC (U.int 3)))
                    (cCB qW (ae (cOp fIx (ag 0) (cC (U.int 0))) aD))))
                  (cC (U.int 1000003)))
                 (cOp n8 (cC (U.int 97)) (ag 2))))
               cR)) [some (.ref 1),some (.int m),some (.int a),some (.int 0),none,none,none,none] (O.lst (ns.map U.int)::.lst [.ref 0,.int (a+1),.int 0]::T)=some (.nx,[some (.ref 1),some (.int m),some (.int a),some (.int z),none,none,none,none],O.lst (ns.map U.int)::.lst [.ref 0,.int (a+1),.int 0]::T):=by
   by_cases h1:a<(ns.length:Int)
   ·obtain⟨z,hz⟩:=atU ha h1
    exact⟨z,by rwa[hz,h1,List.length_map]⟩
   ·by_cases h2:(0:Int)<(ns.length:Int)
    ·obtain⟨z,hz⟩:=atU (ns:=ns) (k:=a*3 % (ns.length:Int)) (Int.emod_nonneg _ (by omega)) (Int.emod_lt_of_pos _ h2)
     exact⟨z % 1000003+97*a,by rwa[h1,h2,Mv,wb h2,hz,Mo,J6,List.length_map]⟩
    ·exact⟨0,by rwa[h1,h2,List.length_map]⟩
  obtain⟨z,hz⟩:=cell
  rwa[fB,pen,hz,Mr,Mq,Mp,J7,Mu,Mt,Ms,J5,J4,Kw,Gr]
  by_cases h3:(1000000000000000000:Int)<=z
  ·rwa[h3,Gr,Kv,mm,dm]
   exact⟨_,_,_,rfl,fin (by omega) (Int.ediv_nonneg (by omega) (by omega))⟩
  ·rwa[h3,mm,dm]
   refine⟨_,_,_,rfl,fin (by omega) ?_⟩
   exact Int.add_nonneg (Int.ediv_nonneg (Int.add_nonneg (Int.mul_nonneg (Int.emod_nonneg _ (by decide)) (by decide)) (Int.emod_nonneg _ (by decide))) (by decide)) (by decide)
 ·rwa[fB,pen,c0,mm,dm]
  exact⟨_,_,_,rfl,fin ha hc⟩
theorem l9{m:Int}(h0:0<=m)(h:m<2^60):m.natAbs.log2<9000:=yL h0 h
noncomputable abbrev scr(ns:List Int):O:=.lst (ns.map U.int)
theorem KS{f g:Int}(g0:0<=g)(g1:g<999)(f0:0<=f)(f1:f<5):∃v:Int,atI [U.int 2,U.int 3,U.int 5,U.int 10,U.int (2+g)] f=some (.int v)/\2<=v/\v<=1000:=by
 have:f=0\/f=1\/f=2\/f=3\/f=4:=by omega
 rcases this with rfl|rfl|rfl|rfl|rfl
 ·exact⟨2,rfl,by omega,by omega⟩
 ·exact⟨3,rfl,by omega,by omega⟩
 ·exact⟨5,rfl,by omega,by omega⟩
 ·exact⟨10,rfl,by omega,by omega⟩
 ·exact⟨2+g,rfl,by omega,by omega⟩
noncomputable def rl:Fn:=fnU 1 1 (fJ dv)
theorem AR(ns:List Int)(T:Sto){a c:Int}(ha:0<=a)(hc:0<=c) :
  ∃n w a' c' G,rl [.ref 1] (scr ns::pen a c::T)=some (.tup [.int n,.int w],scr ns::pen a' c'::(T++G))/\1<=n/\n<=6/\2<=w/\w<=1000/\0<=a'/\0<=c':=by
 unfold rl
 rw[sV]
 obtain⟨f1,a1,c1,h1,p1,q1,ha1,hc1⟩:=cI ns T (m:=6) ha hc (by decide) (by decide +kernel)
 obtain⟨f2,a2,c2,h2,p2,q2,ha2,hc2⟩:=cI ns T (m:=999) ha1 hc1 (by decide) (by decide +kernel)
 obtain⟨f3,a3,c3,h3,p3,q3,ha3,hc3⟩:=cI ns (T++[.lst [.int 2,.int 3,.int 5,.int 10,.int (2+f2)]]) (m:=5) ha2 hc2 (by decide) (by decide +kernel)
 obtain⟨v,hv,v0,v1⟩:=KS p2 q2 p3 q3
 refine⟨1+f1,v,a3,c3,[.lst [.int 2,.int 3,.int 5,.int 10,.int (2+f2)]],?_,by omega,by omega,v0,v1,ha3,hc3⟩
 rwa[fJ,h1,h2,h3,hv]
noncomputable def rm:Fn:=fnU 2 2 (fM dv)
theorem xS(ns:List Int)(T:Sto){n w:Int}(w0:2<=w)(w1:w<=1000):∀(us:List U) (r:Option U) (ys:List Int) {a c:Int},0<=a->0<=c->ys.length+us.length<=1000->
  ∃zs a' c',ig (fun _=>True) (gNm 0) (cCB dv (ae (ag 1) (ae (cOp fIx (ag 2) (cC (.int 1))) aD))) (T.length+1+1) us [r,some (.ref 1),some (.tup [.int n,.int w])] (scr ns::pen a c::(T++[.lst (ys.map U.int)]))
   = some (scr ns::pen a' c'::(T++[.lst ((ys++zs).map U.int)]))/\zs.length=us.length/\(∀z∈zs,0<=z/\z<w)/\0<=a'/\0<=c'
 |[],r,ys,a,c,ha,hc,hl=>⟨[],a,c,by simp[ig],rfl,by simp,ha,hc⟩
 |u::us,r,ys,a,c,ha,hc,hl=>by
  obtain⟨f,a1,c1,h1,p1,q1,ha1,hc1⟩:=cI ns (T++[.lst (ys.map U.int)]) (m:=w) ha hc (by omega) (l9 (by omega) (by omega))
  obtain⟨zs,a2,c2,h2,e2,b2,ha2,hc2⟩:=xS ns T (n:=n) w0 w1 us (some u) (ys++[f]) ha1 hc1 (by simp at hl ⊢;omega)
  refine⟨f::zs,a2,c2,?_,by simp[e2],fun z hz=>?_,ha2,hc2⟩
  ·have fT:(ys.map U.int).length<LIM:=by unfold LIM;simp at hl ⊢;omega
   unfold ig
   rwa[h1,if_true,fT]
   rw[List.map_append]at h2
   simp only[List.map_cons,List.map_nil]at h2
   rw[h2]
   simp
  ·rcases List.mem_cons.mp hz with rfl|hz
   ·exact⟨p1,q1⟩
   ·exact b2 z hz
theorem A1(ns:List Int)(T:Sto){a c n w:Int}(ha:0<=a)(hc:0<=c)(n0:1<=n)(n1:n<=6)(w0:2<=w)(w1:w<=1000) :
  ∃(zs:List Int) (a' c':Int) (G:Sto),rm [.ref 1,.tup [.int n,.int w]] (scr ns::pen a c::T)=some (.tup (zs.map U.int),scr ns::pen a' c'::(T++G))/\zs.length=n.toNat/\(∀z∈zs,0<=z/\z<w)/\0<=a'/\0<=c':=by
 unfold rm
 rw[sX]
 obtain⟨zs,a',c',h,e,b,ha',hc'⟩:=xS ns T (n:=n) w0 w1 (dk 0 n.toNat) none [] ha hc (by simp[dk];omega)
 refine⟨zs,a',c',[.lst (zs.map U.int)],?_,by rw[e];simp[dk],b,ha',hc'⟩
 have hr:-(2^62)<=n/\n<2^62:=by omega
 simp only[List.map_nil,List.nil_append]at h
 rwa[fM,fU,eV,kn,hr,h,if_true,and_self,List.replicate,Option.getD_some]
noncomputable def hJ(ps:List (Int×Int)):List (Key×U):=ps.map fun p=>(.inl p.1,.int p.2)
theorem jT(b:Int):∀ps:List (Int×Int),aX (hJ ps) (.inl b)=(aX ps b).map U.int
 |[]=>rfl
 |(k,v)::r=>by
  have ih:=jT b r
  unfold aX hJ at ih ⊢
  simp only[List.map_cons,List.find?_cons]
  by_cases e:k=b
  ·subst e;simp
  ·rw[decide_eq_false (fun z:(Sum.inl k:Key)=Sum.inl b=>e (Sum.inl.inj z)),decide_eq_false e]
   exact ih
theorem Cn(b:Int)(ps:List (Int×Int)):((hJ ps).any fun kv=>decide (kv.1=Sum.inl b))=ps.any fun kv=>decide (kv.1=b):=by
 unfold hJ
 induction ps with
 |nil=>rfl
 |cons p r ih=>
  simp only[List.map_cons,List.any_cons,ih]
  by_cases e:p.1=b
  ·rw[decide_eq_true e,decide_eq_true (by rw[e])]
  ·rw[decide_eq_false e,decide_eq_false (fun z:(Sum.inl p.1:Key)=Sum.inl b=>e (Sum.inl.inj z))]
theorem qA(b v:Int)(ps:List (Int×Int)):iW (hJ ps) (.inl b) (.int v)=hJ (iW ps b v):=by
 unfold iW
 rw[Cn]
 split
 ·unfold hJ
  rw[List.map_map,List.map_map]
  refine List.map_congr_left fun p _=>?_
  simp only[Function.comp]
  by_cases e:p.1=b
  ·simp[e]
  ·rw[if_neg e,if_neg (fun z:(Sum.inl p.1:Key)=Sum.inl b=>e (Sum.inl.inj z))]
 ·simp[hJ]
theorem lA{κ α:Type}[DecidableEq κ](ps:List (κ×α))(b:κ)(v:α):(iW ps b v).length<=ps.length+1:=by
 unfold iW;split<;>simp
theorem atF{first:List Int}{b n:Int}(l:first.length=n.toNat)(h0:0<=b)(h1:b<n):atI (first.map U.int) b=some (.int (first.getD b.toNat 0)):=by
 have hk:b.toNat<first.length:=by omega
 refine zZ h0 ?_
 rw[List.getElem?_map,List.getElem?_eq_getElem hk,List.getD_eq_getElem?_getD,List.getElem?_eq_getElem hk];rfl
theorem dP{α:Type}{l:List α}{k:Nat}{x:α}(h:l[k]?=some x):k<l.length:=(List.getElem?_eq_some_iff.mp h).1
theorem ah{α:Type}{l r:List α}{k:Nat}{x:α}(h:l[k]?=some x):(l++r)[k]?=some x:=by rw[List.getElem?_append_left (dP h)];exact h
noncomputable def beh(first:List Int)(ps:List (Int×Int))(k:Nat):List Int:=(first.zipIdx k).map fun p=>(aX ps (p.2:Int)).getD p.1
theorem Ja{ls:List Nat}{S0 S':Sto}(len:S0.length<=S'.length)(old:∀l,l<S0.length->S'[l]?=S0[l]?):∃G,S'=S0++G:=by
 refine⟨S'.drop S0.length,List.ext_getElem? fun l=>?_⟩
 by_cases c:l<S0.length
 ·rw[old l c,List.getElem?_append_left c]
 ·rw[List.getElem?_append_right (by omega),List.getElem?_drop];congr 1;omega
theorem inI(b:Int):∀l:List Int,inU (.int b) (l.map U.int)=decide (b∈l)
 |[]=>by simp[inU]
 |x::r=>by
  have ih:=inI b r
  unfold inU at ih ⊢
  rw[List.map_cons,List.any_cons,ih,show eqF (.int x) (.int b)=(x == b)from rfl]
  by_cases e:x=b
  ·subst e;simp
  ·have:(x == b)=false:=by simpa using e
   rw[this];simp[Ne.symm e]
theorem Lu(l:List Int):(l.map U.int).all gf=true:=by
 induction l with
 |nil=>rfl
 |cons x r ih=>rw[List.map_cons,List.all_cons,ih];rfl
theorem uG(first:List Int)(ps:List (Int×Int))(k:Nat):(beh first ps k).length=first.length:=by simp[beh]
theorem FN(first:List Int)(ps:List (Int×Int))(k i:Nat)(h:i<first.length):(beh first ps k)[i]?=some ((aX ps ((k+i:Nat):Int)).getD (first.getD i 0)):=by
 unfold beh
 rw[List.getElem?_map,List.getElem?_zipIdx,List.getElem?_eq_getElem h]
 simp[List.getD_eq_getElem?_getD,List.getElem?_eq_getElem h]
section
variable{first:List Int}
theorem FL:beh first [] 0=first:=by
 refine List.ext_getElem? fun i=>?_
 by_cases hi:i<first.length
 ·rw[FN _ _ _ _ hi,List.getElem?_eq_getElem hi]
  simp[aX,List.getD_eq_getElem?_getD,List.getElem?_eq_getElem hi]
 ·rw[List.getElem?_eq_none (by rw[uG];omega),List.getElem?_eq_none (by omega)]
end
theorem He{i:Int}{S:Sto}:tyU (.int i) S=some .int:=rfl
theorem KC{i:Bool}{S:Sto}:tyU (.bl i) S=some .bool:=rfl
theorem CF{l:Nat}{us:List U}{S:Sto}(h:S[l]?=some (.lst us)):tyU (.ref l) S=some .list:=by simp only[tyU,h]
theorem DR{x:U}{S:Sto}:Jb x .non S=some (.bl (wH x),S):=rfl
noncomputable def jj:Nat->Fn
 |0=>fun _ _=>none
 |k+1=>fnU 2 2 (eG (jj k))
noncomputable def qg(k:Nat)(u v:U)(S:Sto):Prop:=∀X,∃G,jj k [u,v] (S++X)=some (.bl true,S++(X++G))
theorem A7{k:Nat}{i:Int}{S:Sto}:qg (k+1) (.int i) (.int i) S:=fun X=>⟨[],by
 unfold jj;rw[kA]
 rwa[eG,DR,wH,He,Ap,eq_self,List.append_nil]⟩
theorem vb{k:Nat}{S:Sto}{ok:Sto->Prop}(hok:∀X,ok (S++X)):∀(ps:List (U×U)) (j:Nat) (X G:Sto) (r0 r1:Option U),(∀p∈ps,qg k p.1 p.2 S)->j+ps.length<=1000->
  ∃G',ig ok (gTp [0,1]) (cCB (jj k) (ae (ag 0) (ae (ag 1) aD))) (S.length+X.length) (ps.map fun p=>.tup [p.1,p.2]) [r0,r1] (S++(X++.lst (List.replicate j (.bl true))::G))=some (S++(X++.lst (List.replicate (j+ps.length) (.bl true))::G'))
 |[],j,X,G,r0,r1,_,_=>⟨G,m7 (hok _)⟩
 |p::ps,j,X,G,r0,r1,h,hl=>by
  obtain⟨G1,e1⟩:=h p List.mem_cons_self (X++.lst (List.replicate j (.bl true))::G)
  obtain⟨G2,ih⟩:=vb hok ps (j+1) X (G++G1) (some p.1) (some p.2) (fun q hq=>h q (List.mem_cons_of_mem _ hq)) (by simp at hl;omega)
  refine⟨G2,?_⟩
  have e2:j+(p::ps).length=j+1+ps.length:=by simp;omega
  rw[e2,List.map_cons]
  refine(lM (ρ0:=[some p.1,some p.2]) (S0:=S++(X++.lst (List.replicate j (.bl true))::G)) (S1:=S++(X++.lst (List.replicate j (.bl true))::(G++G1))) (x:=.bl true) (ys:=List.replicate j (.bl true)) (hok _) (by rwa[]) ?_ ?_ (by unfold LIM;simp at hl ⊢;omega)).trans ?_
  ·rwa[e1]
  ·rw[ga,<-Nat.add_zero X.length,ga];rfl
  ·rw[gs,<-Nat.add_zero X.length,gs]
   rw[show(O.lst (List.replicate j (U.bl true))::(G++G1)).set 0 (.lst (List.replicate j (.bl true)++[.bl true]))=.lst (List.replicate (j+1) (.bl true))::(G++G1)by rw[List.replicate_succ'];rfl]
   exact ih
theorem A6{k:Nat}{us vs:List U}{S:Sto}{l1 l2:Nat}(h1:S[l1]?=some (.lst us))(h2:S[l2]?=some (.lst vs))(hl:us.length=vs.length)(hn:us.length<=1000)(h:∀p∈us.zip vs,qg k p.1 p.2 S):qg (k+1) (.ref l1) (.ref l2) S:=fun X=>by
 have up:∀{l:Nat} {o:O} (Y:Sto),S[l]?=some o->(S++Y)[l]?=some o:=fun{l o} Y q=>by rw[List.getElem?_append_left (List.getElem?_eq_some_iff.mp q).1];exact q
 obtain⟨G,e⟩:=vb (ok:=fun S'=>S'[l1]?=some (.lst us)/\S'[l2]?=some (.lst vs)) (S:=S) (fun Y=>⟨up Y h1,up Y h2⟩) (us.zip vs) 0 X [] none none h (by simp[hl];omega)
 refine⟨.lst (List.replicate (0+(us.zip vs).length) (.bl true))::G,?_⟩
 unfold jj;rw[kA]
 have fl:gf (.bl false)=true/\(List.replicate (0+(us.zip vs).length) (U.bl true)).all gf=true:=⟨rfl,by simp[gf]⟩
 have nin:inU (.bl false) (List.replicate (0+(us.zip vs).length) (U.bl true))=false:=by
  unfold inU;rw[List.any_eq_false];intro x hx;rw[List.eq_of_mem_replicate hx];decide
 have g1:(S++(X++O.lst (List.replicate (0+(us.zip vs).length) (U.bl true))::G))[S.length+X.length]?=some (.lst (List.replicate (0+(us.zip vs).length) (.bl true))):=by rw[ga,<-Nat.add_zero X.length,ga];rfl
 have hl':((us.length:Nat):Int)=(vs.length:Int):=by omega
 have e':ig (fun S'=>S'[l1]?=some (.lst us)/\S'[l2]?=some (.lst vs)) (gTp [0,1]) (cCB (jj k) (ae (ag 0) (ae (ag 1) aD))) (S.length+X.length) (Bu us vs) [none,none] (S++(X++[.lst []]))=some (S++(X++.lst (List.replicate (0+(us.zip vs).length) (.bl true))::G)):=e
 have q1:=up X h1
 have q2:=up X h2
 rwa[eG,DR,wH,CF q1,CF q2,q1,q2,Ap,hl',eq_self,fU,Lo,x8,kn,List.replicate,List.length_append,e',g1,rG fl,nin,if_true]
theorem Az{us:List U}{P:U×U->Prop}(h:∀u∈us,P (u,u)):∀p∈us.zip us,P p:=fun p hp=>by
 obtain⟨e,m⟩:=mem_zip_self hp
 have:p=(p.1,p.1):=by cases p;simp at e;rw[e]
 rw[this];exact h _ m
theorem Eo{c:CE}{ρ:Rho}{S S':Sto}{i:Int}(h:c ρ S=some (.int i,S')):mR (some c) ρ S=some (some i,S'):=by simp only[mR,h,Option.bind_some]
noncomputable def pU(p:Int×Int):U:=.tup [.int p.1,.int p.2]
theorem pY{ok:Sto->Prop}{g:CG}{ct:CT}{ce:CE}{l:Nat}{ρ:Rho}{S:Sto}(h:ok S):cV ok g ct ce l [] ρ S=some S:=by rw[cV,if_pos h]
theorem tH{ok:Sto->Prop}{g:CG}{ct:CT}{ce:CE}{l:Nat}{ρ ρ0:Rho}{S S0 S1:Sto}{u:U}{us:List U}(h:ok S)(hg:g u ρ S=some (ρ0,S0))(ht:ct ρ0 S0=some (false,S1)):cV ok g ct ce l (u::us) ρ S=cV ok g ct ce l us ρ0 S1:=by
 rw[cV,if_pos h,hg,Option.bind_some,ht,Option.bind_some,if_neg Bool.false_ne_true]
theorem pX{ok:Sto->Prop}{g:CG}{ct:CT}{ce:CE}{l:Nat}{ρ ρ0:Rho}{S S0 S1 S2:Sto}{u x:U}{us ys:List U}(h:ok S)(hg:g u ρ S=some (ρ0,S0))(ht:ct ρ0 S0=some (true,S1))(he:ce ρ0 S1=some (x,S2))(hl:S2[l]?=some (.lst ys))(hn:ys.length<LIM) :
  cV ok g ct ce l (u::us) ρ S=cV ok g ct ce l us ρ0 (S2.set l (.lst (ys++[x]))):=by
 rw[cV,if_pos h,hg,Option.bind_some,ht,Option.bind_some,if_pos rfl,he,Option.bind_some]
 simp only[hl,hn,if_true]
section
variable{w:Int}{first:List Int}{i ls lo lh ll:Nat}{m:M}{T:Sto}{n:Int}
theorem wm{k:Nat}{ns:List Int}{S:Sto}{l1 l2:Nat}(h1:S[l1]?=some (.lst (ns.map U.int)))(h2:S[l2]?=some (.lst (ns.map U.int)))(hn:ns.length<=1000):qg (k+2) (.ref l1) (.ref l2) S:=
 A6 h1 h2 rfl (by simpa using hn) (Az fun u hu=>by
  obtain⟨p,_,rfl⟩:=List.mem_map.mp hu
  exact A7)
end
noncomputable def Lay(k:Nat)(S:Sto)(u:U):Prop:=∃d,Dt S u d/\d.canLay0=true/\d.depth<=k
noncomputable def pw(k:Nat)(S:Sto)(u v:U):Prop:=∃d,Dt S u d/\Dt S v d/\d.canLay0=true/\d.depth<=k
noncomputable def kg(k:Nat)(S:Sto)(us vs:List U):Prop:=∃ds,DtL S us ds/\DtL S vs ds/\PyData.canLayAll0 ds=true/\PyData.depthAll ds<=k
section
variable{k j:Nat}{S:Sto}{u v:U}{us vs:List U}
theorem Lay.int{i:Int}:Lay k S (.int i):=⟨_,.int i,rfl,Nat.zero_le _⟩
theorem pw.refl(h:Lay k S u):pw k S u u:=by obtain⟨d,a,b,c⟩:=h;exact⟨d,a,a,b,c⟩
theorem kg.nil:kg k S [] []:=⟨[],.nil,.nil,rfl,Nat.zero_le _⟩
theorem kg.cons(h:pw k S u v)(t:kg k S us vs):kg k S (u::us) (v::vs):=by
 obtain⟨d,a,b,c,e⟩:=h
 obtain⟨ds,a',b',c',e'⟩:=t
 refine⟨d::ds,.cons a a',.cons b b',by unfold PyData.canLayAll0;rw[c,c'];rfl,?_⟩
 unfold PyData.depthAll
 exact Nat.max_le.mpr ⟨e,e'⟩
theorem kg.all:∀{us:List U},(∀u∈us,Lay k S u)->kg k S us us
 |[],_=>.nil
 |u::us,h=>.cons (.refl (h u List.mem_cons_self)) (kg.all fun x hx=>h x (List.mem_cons_of_mem _ hx))
theorem pw.lst{l l':Nat}(h1:S[l]?=some (.lst us))(h2:S[l']?=some (.lst vs))(h:kg k S us vs):pw (k+1) S (.ref l) (.ref l'):=by
 obtain⟨ds,a,b,c,e⟩:=h
 refine⟨.list ds,.lst h1 a,.lst h2 b,by unfold PyData.canLay0;exact c,?_⟩
 unfold PyData.depth
 omega
theorem pw.ne(h:pw k S u v)(hk:k<=60):mI true u v S=some (.bl false,S):=by
 obtain⟨d,a,b,c,e⟩:=h
 exact qX true (.inl ⟨d,d,a,b,⟨c,Nat.le_trans e hk⟩,⟨c,Nat.le_trans e hk⟩,(SeqAt.eqv_refl d c).symm⟩)
end
noncomputable def iw(ak:Fn):CS:=
 (ik (cBM dh (ag 3) (ae (cBM lI (ag 2) (ae (cCB ak (ae (ag 0) (ae (cCB qW (ae (ag 2) aD)) aD))) aD)) aD)))
noncomputable def fN(ak:Fn):CS:=
 (bH (dc 2 (mf (ae (cC (.int 200)) aD)))
  (bH (dc 3 (j9 aD))
  (bH (i9 (eV (ae (ag 1) aD)) (gNm 4) (iw ak))
  (fC (ag 3)))))
theorem sY{ak:Fn}{a0 a1:U}{S:Sto}:fnU 5 2 (fN ak) [a0,a1] S=((fN ak) [some a0,some a1,none,none,none] S).bind kFn:=jZ rfl
noncomputable def eW:CS:=
 (fC (cCB lH (ae (fU (mL (ag 0)) (gTp [0,1]) (pj (ag 2) (ag 0) (ag 1)) 2 [1]) aD)))
theorem qY{a0 a1:U}{S:Sto}:fnU 2 2 (eW ) [a0,a1] S=((eW ) [some a0,some a1] S).bind kFn:=jZ rfl
noncomputable def dU(ak:Fn):CS:=
 (bH (dc 6 (cCB ak (ae (ag 0) (ae (cC (.int 12)) aD))))
  (bH (dc 7 (cCB ak (ae (ag 0) (ae (cOp fIx (ag 1) (cC (.int 0))) aD))))
  (bH (gj (aE (cOp fLt (ag 6) (cC (.int 5)))) (bH (dc 8 (cOp fIx (j9 (ae (cOp fIx (ag 3) (ag 7)) (ae (cOp fIx (ag 3) (ag 7)) (ae (cOp fIx (ag 5) (ag 7)) (ae (cCB ak (ae (ag 0) (ae (cOp fIx (ag 1) (cC (.int 1))) aD))) aD))))) (cCB ak (ae (ag 0) (ae (cC (.int 4)) aD)))))
  (fC (mQ (ae (cC (.str "look")) (ae (ag 2) (ae (ag 7) (ae (pj (ag 4) (ag 7) (ag 8)) aD))))))) cR)
  (bH (gj (aE (cOp fLt (ag 6) (cC (.int 8)))) (fC (mQ (ae (cC (.str "put")) (ae (ag 2) (ae (ag 7) (ae (cCB ak (ae (ag 0) (ae (cOp fIx (ag 1) (cC (.int 1))) aD))) aD)))))) cR)
  (fC (mQ (ae (cOp fIx (j9 (ae (cC (.str "done")) (ae (cC (.str "done")) (ae (cC (.str "done")) (ae (cC (.str "fall")) aD))))) (cOp FX (ag 6) (cC (.int 8)))) (ae (ag 2) aD))))))))
theorem tj{ak:Fn}{a0 a1 a2 a3 a4 a5:U}{S:Sto}:fnU 9 6 (dU ak) [a0,a1,a2,a3,a4,a5] S=((dU ak) [some a0,some a1,some a2,some a3,some a4,some a5,none,none,none] S).bind kFn:=jZ rfl
noncomputable def ie(cw ak cy bR:Fn):CS:=
 (gj (xh (aE (cOp (mI true) (ag 5) (j9 aD))) (cOr (aE (cOp (mI false) (ag 8) (j9 aD))) (aE (cOp fEq (cCB ak (ae (ag 0) (ae (cC (.int 4)) aD))) (cC (.int 0)))))) (bH (ik (cBM dh (ag 8) (ae (mQ (ae (cBM Fx (ag 5) aD) (ae (ag 7) (ae lN aD)))) aD)))
  (ik (cBM dh (ag 6) (ae (mQ (ae (cC (.str "begin")) (ae (cOp fIx (cOp fIx (ag 8) (uD (cC (.int 1)))) (cC (.int 0))) aD))) aD)))) (gj (aE (cOp (mI true) (ag 8) (j9 aD))) (bH (dc 10 (cCB ak (ae (ag 0) (ae (cCB qW (ae (ag 8) aD)) aD))))
  (bH (Jk (cOp fIx (ag 8) (ag 10)) (gTp [11,12,13]))
  (bH (ik (cBM dh (ag 6) (ae (cCB cy (ae (ag 0) (ae (ag 1) (ae (ag 11) (ae (ag 12) (ae (ag 13) (ae (ag 7) aD))))))) aD)))
  (bH (gj (aE (cOp fEq (cOp fIx (cOp fIx (ag 6) (uD (cC (.int 1)))) (cC (.int 0))) (cC (.str "put")))) (ff (ag 13) (cOp fIx (cOp fIx (ag 6) (uD (cC (.int 1)))) (cC (.int 2))) (cOp fIx (cOp fIx (ag 6) (uD (cC (.int 1)))) (cC (.int 3)))) (gj (aE (cOp fEq (cOp fIx (cOp fIx (ag 6) (uD (cC (.int 1)))) (cC (.int 0))) (cC (.str "done")))) (dc 7 (cCB bR (ae (ag 7) (ae (ag 13) aD)))) cR))
  (gj (aE (cOp (fIn false) (cOp fIx (cOp fIx (ag 6) (uD (cC (.int 1)))) (cC (.int 0))) (mQ (ae (cC (.str "done")) (ae (cC (.str "fall")) aD))))) (ik (cBM lI (ag 8) (ae (ag 10) aD))) cR))))) cR))
noncomputable def iQ(cw ak cy bR:Fn):CS:=
 (bH (dc 5 (cCB cw (ae (ag 0) (ae (cCB ak (ae (ag 0) (ae (cOp gX (ag 3) (cC (.int 1))) aD))) aD))))
  (bH (dc 6 (j9 aD))
  (bH (dc 7 (ag 2))
  (bH (dc 8 (j9 aD))
  (bH (i9 (eV (ae (cCB ak (ae (ag 0) (ae (cOp gX (ag 4) (cC (.int 1))) aD))) aD)) (gNm 9) (ie cw ak cy bR))
  (fC (ag 6)))))))
theorem w4{cw ak cy bR:Fn}{a0 a1 a2 a3 a4:U}{S:Sto}:fnU 14 5 (iQ cw ak cy bR) [a0,a1,a2,a3,a4] S=((iQ cw ak cy bR) [some a0,some a1,some a2,some a3,some a4,none,none,none,none,none,none,none,none,none] S).bind kFn:=jZ rfl
noncomputable def fQ:CS:=
 (fC (cCB dg (ae (aY (iTp (ag 0)) (gNm 0) (aE (cOp fEq (cOp fIx (ag 0) (cC (.int 0))) (cC (.str "begin")))) (cOp fIx (ag 0) (cC (.int 1))) 1 []) aD)))
theorem tm{a0:U}{S:Sto}:fnU 1 1 (fQ ) [a0] S=((fQ ) [some a0] S).bind kFn:=jZ rfl
noncomputable def aW:CS:=
 (bH (gj (xh (aE (cOp fEq (cOp fIx (ag 4) (cC (.int 1))) (ag 1))) (aE (cOp fEq (cOp fIx (ag 4) (cC (.int 0))) (cC (.str "put"))))) (ik (cBM dh (ag 3) (ae (cOp fIx (ag 4) (cC (.int 2))) aD))) cR)
  (gj (xh (aE (cOp fEq (cOp fIx (ag 4) (cC (.int 1))) (ag 1))) (xh (aE (cOp fEq (cOp fIx (ag 4) (cC (.int 0))) (cC (.str "look")))) (aE (cOp (fIn true) (cOp fIx (ag 4) (cC (.int 2))) (ag 3))))) (ik (cBM dh (ag 2) (ae (mQ (ae (cOp fIx (ag 4) (cC (.int 2))) (ae (cOp fIx (ag 4) (cC (.int 3))) aD))) aD))) cR))
noncomputable def fP:CS:=
 (bH (dc 2 (j9 aD))
  (bH (dc 3 (j9 aD))
  (bH (i9 (iTp (ag 0)) (gNm 4) (aW ))
  (fC (ag 2)))))
theorem sZ{a0 a1:U}{S:Sto}:fnU 5 2 (fP ) [a0,a1] S=((fP ) [some a0,some a1,none,none,none] S).bind kFn:=jZ rfl
noncomputable def bw:CS:=
 (gj (xh (aE (cOp fEq (cOp fIx (ag 3) (cC (.int 1))) (ag 1))) (aE (cOp fEq (cOp fIx (ag 3) (cC (.int 0))) (cC (.str "put"))))) (ff (ag 2) (cOp fIx (ag 3) (cC (.int 2))) (cOp fIx (ag 3) (cC (.int 3)))) cR)
noncomputable def gH:CS:=
 (bH (dc 2 lN)
  (bH (i9 (iTp (ag 0)) (gNm 3) (bw ))
  (fC (ag 2))))
theorem ux{a0 a1:U}{S:Sto}:fnU 4 2 (gH ) [a0,a1] S=((gH ) [some a0,some a1,none,none] S).bind kFn:=jZ rfl
noncomputable def bN(av:Cl):CS:=
 (gj (aE (cOp (fIn true) (ag 2) (cOp fIx (iE av 3 (ag 0)) (ag 1)))) (bH (ik (cBM dh (cOp fIx (iE av 1 (ag 0)) (ag 1)) (ae (mQ (ae (ag 2) (ae (ag 3) aD))) aD)))
  (oE (cOp fIx (iE av 2 (ag 0)) (ag 1)) (ae (ag 2) (ae (ag 3) aD)) (cC (.bl true)))) cR)
theorem lK{av:Cl}{a0 a1 a2 a3:U}{S:Sto}:fnU 4 4 (bN av) [a0,a1,a2,a3] S=((bN av) [some a0,some a1,some a2,some a3] S).bind kFn:=jZ rfl
noncomputable def d8(av:Cl):CS:=
 (bH (ff (iE av 4 (ag 0)) (ag 1) (m8 (iE av 0 (ag 0)) (gNm 0) (aE (cOp fNe (cOp fIx (iE av 0 (ag 1)) (ag 0)) (cC (.str "open")))) (ag 0) 1 [0]))
  (bH (ff (iE av 0 (ag 0)) (ag 1) (cC (.str "open")))
  (bH (ff (iE av 1 (ag 0)) (ag 1) (j9 aD))
  (bH (ff (iE av 2 (ag 0)) (ag 1) zT)
  (ff (iE av 3 (ag 0)) (ag 1) lN)))))
theorem pd{av:Cl}{a0 a1:U}{S:Sto}:fnU 2 2 (d8 av) [a0,a1] S=((d8 av) [some a0,some a1] S).bind kFn:=jZ rfl
noncomputable def bu(cG br:Fn)(av:Cl):CS:=
 (bH (dc 2 (cOp fIx (ag 1) (cC (.int 1))))
  (gj (aE (cOp fEq (cOp fIx (ag 1) (cC (.int 0))) (cC (.str "begin")))) (ik (tK av cG (ag 0) (ae (ag 2) aD))) (gj (aE (cOp fEq (cOp fIx (ag 1) (cC (.int 0))) (cC (.str "look")))) (ik (tK av br (ag 0) (ae (ag 2) (ae (cOp fIx (ag 1) (cC (.int 2))) (ae (cOp fIx (ag 1) (cC (.int 3))) aD))))) (gj (aE (cOp fEq (cOp fIx (ag 1) (cC (.int 0))) (cC (.str "put")))) (ff (cOp fIx (iE av 3 (ag 0)) (ag 2)) (cOp fIx (ag 1) (cC (.int 2))) (cOp fIx (ag 1) (cC (.int 3)))) (ff (iE av 0 (ag 0)) (ag 2) (cOp fIx (ag 1) (cC (.int 0))))))))
theorem ow{cG br:Fn}{av:Cl}{a0 a1:U}{S:Sto}:fnU 3 2 (bu cG br av) [a0,a1] S=((bu cG br av) [some a0,some a1,none] S).bind kFn:=jZ rfl
noncomputable def eX(av:Cl):CS:=
 (bH (ph av 0 (ag 0) lN)
  (bH (ph av 1 (ag 0) lN)
  (bH (ph av 2 (ag 0) lN)
  (bH (ph av 3 (ag 0) lN)
  (ph av 4 (ag 0) lN)))))
theorem qZ{av:Cl}{a0:U}{S:Sto}:fnU 1 1 (eX av) [a0] S=((eX av) [some a0] S).bind kFn:=jZ rfl
noncomputable def jb(bt bS:Fn)(av:Cl):CS:=
 (ik (tK av bt (ag 1) (ae (ag 2) aD)))
noncomputable def gG(bt bS:Fn)(av:Cl):CS:=
 (bH (dc 1 (cCB (qV av bS) aD))
  (bH (i9 (iTp (ag 0)) (gNm 2) (jb bt bS av))
  (fC (ag 1))))
theorem uv{bt bS:Fn}{av:Cl}{a0:U}{S:Sto}:fnU 3 1 (gG bt bS av) [a0] S=((gG bt bS av) [some a0,none,none] S).bind kFn:=jZ rfl
section
variable{S:Sto}{l l':Nat}{us:List U}{u:U}{i:Int}
noncomputable def vD(l:Nat)(i:Int)(S:Sto):Option O->Option (U×Sto)
 |some (.lst us)=>if 0<=i/\i<us.length/\us.length<=LIM then(us[i.toNat]?).bind fun u=>some (u,S.set l (.lst (us.eraseIdx i.toNat)))else none
 |_=>none
theorem qh:lI (.ref l) [.int i] S=vD l i S S[l]?:=by
 unfold lI vD;rfl
theorem mT(h0:0<=i)(h1:i<us.length)(hL:us.length<=LIM)(hu:us[i.toNat]?=some u):vD l i S (some (.lst us))=some (u,S.set l (.lst (us.eraseIdx i.toNat))):=by
 simp only[vD]
 rw[if_pos ⟨h0,h1,hL⟩,hu,Option.bind_some]
noncomputable def JE(l:Nat)(S:Sto):Option O->Option (U×Sto)
 |some (.lst us)=>(us[us.length-1]?).bind fun u=>some (u,S.set l (.lst us.dropLast))
 |_=>none
theorem JW:Fx (.ref l) [] S=JE l S S[l]?:=by
 unfold Fx JE;rfl
theorem Gq{vs:List U}:JE l S (some (.lst (vs++[u])))=some (u,S.set l (.lst vs)):=by
 unfold JE
 simp
noncomputable def kNg:U×Sto->Option (U×Sto)
 |(.int i,S)=>some (.int (-i),S)
 |_=>none
theorem xj{ca:CE}{ρ:Rho}:uD ca ρ S=(ca ρ S).bind kNg:=by
 unfold uD
 congr 1
 funext p
 obtain⟨x,S⟩:=p
 cases x<;>rfl
theorem rE:kNg (.int i,S)=some (.int (-i),S):=rfl
theorem oJ{vs:List U}:atI (vs++[u]) (-1)=some u:=by
 unfold atI ixN
 rw[if_neg (by omega),if_pos (by rw[List.length_append,List.length_singleton];omega)]
 simp only[Option.bind_some]
 have e:((-1:Int)+((vs++[u]).length:Int)).toNat=vs.length:=by rw[List.length_append,List.length_singleton];omega
 rw[e]
 simp
theorem vt(neg:Bool)(h:S[l]?=some (.lst us))(h':S[l']?=some (.lst [])):mI neg (.ref l) (.ref l') S=some (.bl (if neg then !decide (us=[])else decide (us=[])),S):=by
 by_cases e:us=[]
 ·subst e
  have k:=(pw.lst (k:=0) h h' .nil)
  obtain⟨d,a,b,c,e⟩:=k
  rw[decide_eq_true rfl]
  exact qX neg (.inl ⟨d,d,a,b,⟨c,Nat.le_trans e (by omega)⟩,⟨c,Nat.le_trans e (by omega)⟩,(SeqAt.eqv_refl d c).symm⟩)
 ·rw[decide_eq_false e]
  exact qX neg (.inr ⟨l,l',us,[],rfl,rfl,h,h',by simpa using e,rfl⟩)
end
theorem pW{α:Type}{l:List α}{k:Nat}(h:k<l.length):(l[k]::l.eraseIdx k).Perm l:=by
 rw[List.eraseIdx_eq_take_drop_succ]
 refine(List.perm_middle.symm).trans ?_
 rw[List.getElem_cons_drop h,List.take_append_drop]
theorem lq{α β:Type}(f:α->β)(l:List α)(k:Nat):(l.eraseIdx k).map f=(l.map f).eraseIdx k:=by
 rw[List.eraseIdx_eq_take_drop_succ,List.eraseIdx_eq_take_drop_succ,List.map_append,List.map_take,List.map_drop]
noncomputable def mi:Fn:=fnU 5 2 (fN dv)
theorem pN(ns:List Int)(T:Sto){x1:Option U}:∀(us:List U) (r4:Option U) (left found:List Int) {a c:Int},0<=a->0<=c->left.length+found.length=200->us.length+found.length<=100->(found++left).Nodup->(∀x∈found++left,0<=x/\x<200)->
  ∃(r4':Option U) (left' found':List Int) (a' c':Int),eD (fun _=>True) (gNm 4) (iw dv) us [some (.ref 1),x1,some (.ref (T.length+1+1)),some (.ref (T.length+1+1+1)),r4] (scr ns::pen a c::(T++[.lst (left.map U.int),.lst (found.map U.int)]))
   = some (.nx,[some (.ref 1),x1,some (.ref (T.length+1+1)),some (.ref (T.length+1+1+1)),r4'],scr ns::pen a' c'::(T++[.lst (left'.map U.int),.lst (found'.map U.int)]))/\found'.length=found.length+us.length/\found'.Nodup/\(∀x∈found',0<=x/\x<200)/\0<=a'/\0<=c'
 |[],r4,left,found,a,c,ha,hc,hl,hu,hd,hb=>⟨r4,left,found,a,c,dq trivial,by simp,(List.nodup_append.mp hd).1,fun x hx=>hb x (List.mem_append_left _ hx),ha,hc⟩
 |u::us,r4,left,found,a,c,ha,hc,hl,hu,hd,hb=>by
  simp only[List.length_cons]at hu
  obtain⟨f,a1,c1,e1,p1,q1,ha1,hc1⟩:=cI ns (T++[.lst (left.map U.int),.lst (found.map U.int)]) (m:=(left.length:Int)) ha hc (by omega) (l9 (by omega) (by omega))
  have hk:f.toNat<left.length:=by omega
  have hp:(found++[left[f.toNat]]++left.eraseIdx f.toNat).Perm (found++left):=by
   rw[List.append_assoc]
   refine List.Perm.append_left _ ?_
   exact pW hk
  obtain⟨r4',left',found',a',c',ih,k1,k2⟩:=pN ns T (x1:=x1) us (some u) (left.eraseIdx f.toNat) (found++[left[f.toNat]]) ha1 hc1 (by rw[List.length_eraseIdx_of_lt hk,List.length_append,List.length_singleton];omega) (by rw[List.length_append,List.length_singleton];omega) (hp.nodup_iff.mpr hd) (fun x hx=>hb x (hp.mem_iff.mp hx))
  refine⟨r4',left',found',a',c',(dQ trivial rfl ?_).trans ih,by rw[k1,List.length_append,List.length_singleton,List.length_cons];omega,k2⟩
  have hg:(left.map U.int)[f.toNat]?=some (.int left[f.toNat]):=by rw[List.getElem?_map,List.getElem?_eq_getElem hk];rfl
  have h1:(left.map U.int).length<=LIM:=by unfold LIM;rw[List.length_map];omega
  have h2:(found.map U.int).length<LIM:=by unfold LIM;rw[List.length_map];omega
  rwa[iw,e1,qh,mT p1 (show f<((left.map U.int).length:Int)by rw[List.length_map];exact q1) h1 hg,kG h2,List.length_map]
  rw[List.map_append,lq]
  rfl
theorem yc(n:Nat):dk 0 n=((List.range n).map fun i:Nat=>(i:Int)).map U.int:=by
 unfold dk
 rw[List.map_map]
 refine List.map_congr_left fun i _=>?_
 simp
theorem BF(ns:List Int)(T:Sto){a c m:Int}(ha:0<=a)(hc:0<=c)(m0:0<=m)(m1:m<=100) :
  ∃(left names:List Int) (a' c':Int),mi [.ref 1,.int m] (scr ns::pen a c::T)=some (.ref (T.length+1+1+1),scr ns::pen a' c'::(T++[.lst (left.map U.int),.lst (names.map U.int)]))/\names.length=m.toNat/\names.Nodup/\(∀x∈names,0<=x/\x<200)/\0<=a'/\0<=c':=by
 unfold mi
 rw[sY]
 have hL:(((List.range 200).map fun i:Nat=>(i:Int))).Nodup:=List.Pairwise.map _ (fun a b h e=>h (by omega)) List.nodup_range
 obtain⟨r4,left,names,a',c',e,k1,k2,k3,k4,k5⟩:=pN ns T (x1:=some (.int m)) (dk 0 m.toNat) none ((List.range 200).map fun i:Nat=>(i:Int)) [] ha hc (by simp) (by simp[dk];omega) (by rw[List.nil_append];exact hL) (fun x hx=>by
  rw[List.nil_append]at hx
  obtain⟨i,hi,rfl⟩:=List.mem_map.mp hx
  have:=List.mem_range.mp hi
  omega)
 refine⟨left,names,a',c',?_,by rw[k1];simp[dk],k2,k3,k4,k5⟩
 have hr:-(2^62)<=m/\m<2^62:=by omega
 have hR:mf (ae (cC (.int 200)) aD) [some (.ref 1),some (.int m),none,none,none] (scr ns::pen a c::T)=some (.ref (T.length+1+1),scr ns::pen a c::(T++[.lst (((List.range 200).map fun i:Nat=>(i:Int)).map U.int)])):=by
  rw[<-yc]
  rfl
 simp only[List.map_nil]at e
 rwa[fN,hR,i9,eV,hr,if_true,and_self,List.length_append,e]
inductive Ev where
 |beg (a:Int)|look (a b x:Int)|put (a b x:Int)|fin (d:Bool) (a:Int)
noncomputable def gZ(d:Bool):Str:=if d then "done" else "fall"
noncomputable def Ev.u:Ev->U
 |.beg a=>.tup [.str "begin",.int a]
 |.look a b x=>.tup [.str "look",.int a,.int b,.int x]
 |.put a b x=>.tup [.str "put",.int a,.int b,.int x]
 |.fin d a=>.tup [.str (gZ d),.int a]
structure Att where
 en:Option Bool
 lk:List (Int×Int)
 nd:List (Int×Int)
 ps:List (Int×Int)
 bf:List Int
noncomputable abbrev St:=List (Int×Att)
noncomputable def qe(st:St):Att:=⟨none,[],[],[],(st.filter fun p=>p.2.en.isSome).map (·.1)⟩
noncomputable def As(nd:List (Int×Int))(p:Int×Int):List (Int×Int):=if p∈nd then nd else nd++[p]
noncomputable def Att.ev(t:Att):Ev->Att
 |.beg _=>t
 |.look _ b x=>if (aX t.ps b).isSome then t else { t with lk:=t.lk++[(b,x)],nd:=As t.nd (b,x) }
 |.put _ b x=>{ t with ps:=iW t.ps b x }
 |.fin d _=>{ t with en:=some d }
noncomputable def Ev.at:Ev->Int
 |.beg a=>a|.look a _ _=>a|.put a _ _=>a|.fin _ a=>a
noncomputable def Ao(st:St)(a:Int)(f:Att->Att):St:=st.map fun p=>if p.1=a then(p.1,f p.2)else p
noncomputable def stp(st:St):Ev->St
 |.beg a=>st++[(a,qe st)]
 |e=>Ao st e.at fun t=>t.ev e
noncomputable def ay(st:St):List Int:=st.map (·.1)
noncomputable def uO(n w:Int)(st:St):Ev->Prop
 |.beg a=>0<=a/\a<200/\a∉ay st
 |.look a b x=>(0<=b/\b<n/\0<=x/\x<w)/\∃t,aX st a=some t/\t.en=none/\(∀y,aX t.ps b=some y->y=x)
 |.put a b x=>(0<=b/\b<n/\0<=x/\x<w)/\∃t,aX st a=some t/\t.en=none
 |.fin _ a=>∃t,aX st a=some t/\t.en=none
noncomputable def oT(n w:Int):St->List Ev->Prop
 |_,[]=>True
 |st,e::r=>uO n w st e/\oT n w (stp st e) r
noncomputable def aJ(st:St)(es:List Ev):St:=es.foldl stp st
theorem nP{n w:Int}{e:Ev}:∀{es:List Ev} {st:St},oT n w st (es++[e])↔oT n w st es/\uO n w (aJ st es) e
 |[],st=>by simp[oT,aJ]
 |x::es,st=>by
  have ih:=nP (n:=n) (w:=w) (e:=e) (es:=es) (st:=stp st x)
  simp only[List.cons_append,oT,aJ,List.foldl_cons]at ih ⊢
  rw[ih,and_assoc]
theorem cg{st:St}{es:List Ev}{e:Ev}:aJ st (es++[e])=stp (aJ st es) e:=by
 unfold aJ;rw[List.foldl_append];rfl
theorem jU{κ α:Type}[DecidableEq κ]{ps:List (κ×α)}{k:κ}{v:α}(h:aX ps k=some v):(k,v)∈ps:=by
 unfold aX at h
 obtain⟨p,hp,rfl⟩:=Option.map_eq_some_iff.mp h
 have:=List.find?_some hp
 have e:p.1=k:=by simpa using this
 subst e
 exact List.mem_of_find?_eq_some hp
theorem iG{κ α:Type}[DecidableEq κ]{ps:List (κ×α)}{k:κ}:aX ps k=none↔k∉ps.map (·.1):=by
 unfold aX
 rw[Option.map_eq_none_iff,List.find?_eq_none]
 simp only[decide_eq_true_eq,List.mem_map,not_exists,not_and]
theorem yP{st:St}{a:Int}{f:Att->Att}:ay (Ao st a f)=ay st:=by
 unfold ay Ao
 rw[List.map_map]
 refine List.map_congr_left fun p _=>?_
 simp only[Function.comp]
 split<;>rfl
theorem uW{st:St}{a:Int}{f:Att->Att}{b:Int}:aX (Ao st a f) b=if b=a then(aX st b).map f else aX st b:=by
 unfold aX Ao
 induction st with
 |nil=>simp
 |cons p r ih=>
  simp only[List.map_cons,List.find?_cons]
  by_cases e:p.1=b
  ·subst e
   by_cases e2:p.1=a
   ·subst e2;simp
   ·simp[e2]
  ·have e3:(if p.1=a then(p.1,f p.2)else p).1=p.1:=by split<;>rfl
   rw[e3,decide_eq_false e]
   exact ih
theorem kH{κ α:Type}[DecidableEq κ]{ps qs:List (κ×α)}{k:κ}:aX (ps++qs) k=(aX ps k).or (aX qs k):=by
 unfold aX
 rw[List.find?_append]
 cases List.find? (fun kv=>decide (kv.1=k)) ps<;>simp
theorem jX{st:St}{e:Ev}:ay (stp st e)=match e with
  |.beg a=>ay st++[a]
  |_=>ay st:=by
 cases e with
 |beg a=>simp[stp,ay]
 |_=>simp only[stp,yP]
theorem cf{st:St}{e:Ev}{b:Int}(h:b≠e.at):aX (stp st e) b=aX st b:=by
 cases e with
 |beg a=>
  have h':a≠b:=Ne.symm h
  simp[stp,kH]
  cases aX st b with
  |some t=>rfl
  |none=>simp[aX,h']
 |_=>simp only[stp,uW,if_neg h]
theorem bT{st:St}{e:Ev}{t:Att}(h:aX st e.at=some t):aX (stp st e) e.at=some (t.ev e):=by
 cases e with
 |beg a=>simp only[stp,kH,Ev.at]at h ⊢;rw[h];rfl
 |_=>simp only[stp,uW,if_pos];rw[h];rfl
theorem fg{st:St}{a:Int}(h:a∉ay st):aX (stp st (.beg a)) a=some (qe st):=by
 simp only[stp,kH]
 rw[iG.mpr h]
 simp[aX]
theorem eU{n w:Int}{st:St}{e:Ev}(h:(ay st).Nodup)(ok:uO n w st e):(ay (stp st e)).Nodup:=by
 rw[jX]
 cases e with
 |beg a=>
  refine List.nodup_append.mpr ⟨h,by simp,fun x hx y hy e=>?_⟩
  simp at hy
  subst hy;subst e
  exact ok.2.2 hx
 |_=>exact h
noncomputable def kC:Fn:=fnU 9 6 (dU dv)
theorem B4(ns:List Int)(T:Sto){a c n w at_:Int}{seen now:List Int}{r:Nat}{ps:List (Int×Int)}(ha:0<=a)(hc:0<=c)(n0:1<=n)(n1:n<=6)(w0:2<=w)(w1:w<=1000)(hr:T[r]?=some (.dic (hJ ps)))(hs:seen.length=n.toNat)(bs:∀z∈seen,0<=z/\z<w)(hn:now.length=n.toNat)(bn:∀z∈now,0<=z/\z<w)(bp:∀p∈ps,0<=p.2/\p.2<w) :
  ∃(e:Ev) (a' c':Int) (G:Sto),kC [.ref 1,.tup [.int n,.int w],.int at_,.tup (seen.map U.int),.ref (r+1+1),.tup (now.map U.int)] (scr ns::pen a c::T)=some (e.u,scr ns::pen a' c'::(T++G))/\e.at=at_/\(∀{st:St} {t:Att},aX st at_=some t->t.en=none->t.ps=ps->uO n w st e)/\(∀x,e≠.beg x)/\0<=a'/\0<=c':=by
 unfold kC
 rw[tj]
 obtain⟨way,a1,c1,e1,p1,q1,ha1,hc1⟩:=cI ns T (m:=12) ha hc (by decide) (by decide +kernel)
 obtain⟨box,a2,c2,e2,p2,q2,ha2,hc2⟩:=cI ns T (m:=n) ha1 hc1 (by omega) (l9 (by omega) (by omega))
 by_cases c5:way<5
 ·obtain⟨f,a3,c3,e3,p3,q3,ha3,hc3⟩:=cI ns T (m:=w) ha2 hc2 (by omega) (l9 (by omega) (by omega))
  obtain⟨sb,hsb⟩:∃z,z=seen.getD box.toNat 0:=⟨_,rfl⟩
  obtain⟨nb,hnb⟩:∃z,z=now.getD box.toNat 0:=⟨_,rfl⟩
  obtain⟨g,a4,c4,e4,p4,q4,ha4,hc4⟩:=cI ns (T++[.lst [.int sb,.int sb,.int nb,.int f]]) (m:=4) ha3 hc3 (by decide) (by decide +kernel)
  have k1:=atF hs p2 q2
  have k2:=atF hn p2 q2
  have hb1:box.toNat<seen.length:=by omega
  have hb2:box.toNat<now.length:=by omega
  have b1:0<=sb/\sb<w:=by
   rw[hsb,List.getD_eq_getElem?_getD,List.getElem?_eq_getElem hb1];exact bs _ (List.getElem_mem hb1)
  have b2:0<=nb/\nb<w:=by
   rw[hnb,List.getD_eq_getElem?_getD,List.getElem?_eq_getElem hb2];exact bn _ (List.getElem_mem hb2)
  rw[<-hsb]at k1
  rw[<-hnb]at k2
  have pick:∃z:Int,atI [U.int sb,U.int sb,U.int nb,U.int f] g=some (.int z)/\0<=z/\z<w:=by
   have:g=0\/g=1\/g=2\/g=3:=by omega
   rcases this with rfl|rfl|rfl|rfl
   ·exact⟨sb,rfl,b1⟩
   ·exact⟨sb,rfl,b1⟩
   ·exact⟨nb,rfl,b2⟩
   ·exact⟨f,rfl,p3,q3⟩
  obtain⟨z,hz,z0,z1⟩:=pick
  have hr':∀G:Sto,(T++G)[r]?=some (.dic (hJ ps)):=fun G=>ah hr
  obtain⟨v,hv⟩:∃v,v=(aX ps box).getD z:=⟨_,rfl⟩
  have hv2:((aX ps box).map U.int).getD (.int z)=.int v:=by rw[hv];cases aX ps box<;>rfl
  refine⟨.look at_ box v,a4,c4,[.lst [.int sb,.int sb,.int nb,.int f]],?_,rfl,fun h1 h2 h3=>⟨⟨p2,q2,?_⟩,_,h1,h2,fun y hy=>?_⟩,(fun x h=>by cases h),ha4,hc4⟩
  ·rwa[dU,e1,e2,e3,e4,c5,k1,k2,hz,hr',jT,hv2,Ev.u]
  ·rw[hv]
   cases hq:aX ps box with
   |none=>exact⟨z0,z1⟩
   |some y=>exact bp _ (jU hq)
  ·rw[h3]at hy
   rw[hv,hy];rfl
 by_cases c8:way<8
 ·obtain⟨f,a3,c3,e3,p3,q3,ha3,hc3⟩:=cI ns T (m:=w) ha2 hc2 (by omega) (l9 (by omega) (by omega))
  refine⟨.put at_ box f,a3,c3,[],?_,rfl,fun h1 h2 h3=>⟨⟨p2,q2,p3,q3⟩,_,h1,h2⟩,(fun x h=>by cases h),ha3,hc3⟩
  rwa[dU,e1,e2,e3,c5,c8,Ev.u,List.append_nil]
 have pick:∃d:Bool,atI [U.str "done",U.str "done",U.str "done",U.str "fall"] (way-8)=some (.str (gZ d)):=by
  have:way=8\/way=9\/way=10\/way=11:=by omega
  rcases this with rfl|rfl|rfl|rfl
  ·exact⟨true,rfl⟩
  ·exact⟨true,rfl⟩
  ·exact⟨true,rfl⟩
  ·exact⟨false,rfl⟩
 obtain⟨d,hd⟩:=pick
 refine⟨.fin d at_,a2,c2,[.lst [.str "done",.str "done",.str "done",.str "fall"]],?_,rfl,fun h1 h2 h3=>⟨_,h1,h2⟩,(fun x h=>by cases h),ha2,hc2⟩
 rwa[dU,e1,e2,c5,c8,hd,Ev.u]
noncomputable def kB:Fn:=fnU 2 2 eW
theorem lU{S:Sto}{r:Nat}{ps:List (Int×Int)}(hr:S[r]?=some (.dic (hJ ps))):∀(xs:List Int) (k:Nat) (ys:List Int) (r0 r1:Option U),ys.length+xs.length<=1000->
  ∃zs,ig (fun _=>True) (gTp [0,1]) (pj (ag 2) (ag 0) (ag 1)) S.length (((xs.map U.int).zipIdx k).map fun p=>.tup [.int p.2,p.1]) [r0,r1,some (.ref r)] (S++[.lst (ys.map U.int)])=some (S++[.lst ((ys++zs).map U.int)])/\zs=beh xs ps k
 |[],k,ys,r0,r1,hl=>⟨[],by simp only[List.map_nil,List.zipIdx_nil,List.append_nil];exact m7 trivial,rfl⟩
 |x::xs,k,ys,r0,r1,hl=>by
  obtain⟨v,hv⟩:∃v,v=(aX ps (k:Int)).getD x:=⟨_,rfl⟩
  have hv2:((aX ps (k:Int)).map U.int).getD (.int x)=.int v:=by rw[hv];cases aX ps (k:Int)<;>rfl
  obtain⟨zs,h2,e2⟩:=lU hr xs (k+1) (ys++[v]) (some (.int k)) (some (.int x)) (by simp at hl ⊢;omega)
  refine⟨v::zs,?_,by rw[e2,hv];rfl⟩
  have hr':∀G:Sto,(S++G)[r]?=some (.dic (hJ ps)):=fun G=>ah hr
  simp only[List.map_cons,List.zipIdx_cons]
  refine(lM (ρ0:=[some (.int k),some (.int x),some (.ref r)]) (S0:=S++[.lst (ys.map U.int)]) (S1:=S++[.lst (ys.map U.int)]) (x:=.int v) (ys:=ys.map U.int) trivial rfl ?_ ?_ (by unfold LIM;simp at hl ⊢;omega)).trans ?_
  ·rwa[hr',jT,hv2]
  ·rwa[]
  ·have e5:(S++[O.lst (ys.map U.int)]).set S.length (.lst (ys.map U.int++[U.int v]))=S++[.lst ((ys++[v]).map U.int)]:=by
    rwa[List.map_append,List.map_cons,List.map_nil]
   rw[e5,h2]
   simp
theorem Bf{S:Sto}{r:Nat}{ps:List (Int×Int)}{now:List Int}(hr:S[r]?=some (.dic (hJ ps)))(hl:now.length<=1000) :
  kB [.tup (now.map U.int),.ref r] S=some (.tup ((beh now ps 0).map U.int),S++[.lst ((beh now ps 0).map U.int)]):=by
 unfold kB
 rw[qY]
 obtain⟨zs,h,e⟩:=lU hr now 0 [] none none (by simpa using hl)
 subst e
 simp only[List.map_nil,List.nil_append]at h
 have es:x8 (.tup (now.map U.int)) S=some (now.map U.int,fun _=>True):=rfl
 rwa[eW,fU,mL,es,sR,kn,List.replicate,Option.getD_some,h]
structure Go where
 a:Int
 seen:List Int
 r:Nat
noncomputable def Go.u(g:Go):U:=.tup [.int g.a,.tup (g.seen.map U.int),.ref (g.r+1+1)]
structure LgI(n w:Int)(N:Nat)(T0 T:Sto)(ln ll lg:Nat)(names:List Int)(evs:List Ev)(g:List Go)(now:List Int):Prop where
 hn:T[ln]?=some (.lst (names.map U.int))
 hl:T[ll]?=some (.lst (evs.map Ev.u))
 hg:T[lg]?=some (.lst (g.map Go.u))
 bn:T0.length<=ln
 bl:T0.length<=ll
 bg:T0.length<=lg
 n1:ln≠ll
 n2:ln≠lg
 n3:ll≠lg
 go:∀x∈g,(T0.length<=x.r/\x.r≠ln/\x.r≠ll/\x.r≠lg/\x.seen.length=n.toNat/\(∀z∈x.seen,0<=z/\z<w))/\∃t,aX (aJ [] evs) x.a=some t/\t.en=none/\T[x.r]?=some (.dic (hJ t.ps))
 gd:g.Pairwise fun x y=>x.r≠y.r/\x.a≠y.a
 nd:names.Nodup
 nb:∀x∈names,0<=x/\x<200/\x∉ay (aJ [] evs)
 lo:oT n w [] evs
 kd:(ay (aJ [] evs)).Nodup
 cnt:(aJ [] evs).length+names.length<=N
 gl:g.length<=(aJ [] evs).length
 nw:now.length=n.toNat
 nwb:∀z∈now,0<=z/\z<w
 pb:∀a t,aX (aJ [] evs) a=some t->t.ps.length<=evs.length/\∀p∈t.ps,(0<=p.1/\p.1<n)/\0<=p.2/\p.2<w
 fr:∀i,i<T0.length->T[i]?=T0[i]?
 le:T0.length<=T.length
section
variable{n w:Int}{N:Nat}{T0 T T':Sto}{ln ll lg:Nat}{names:List Int}{evs:List Ev}{g:List Go}{now:List Int}
theorem LgI.app(h:LgI n w N T0 T ln ll lg names evs g now)(G:Sto):LgI n w N T0 (T++G) ln ll lg names evs g now:=
 { h with
  hn:=ah h.hn,hl:=ah h.hl,hg:=ah h.hg
  go:=fun x hx=>by obtain⟨k,t,h1,h2,h3⟩:=h.go x hx;exact⟨k,t,h1,h2,ah h3⟩
  fr:=fun i hi=>by rw[List.getElem?_append_left (Nat.lt_of_lt_of_le hi h.le)];exact h.fr i hi
  le:=by rw[List.length_append];have:=h.le;omega }
theorem BJ{κ α:Type}[DecidableEq κ]{ps:List (κ×α)}{b:κ}{v:α}{p:κ×α}(h:p∈iW ps b v):p∈ps\/p=(b,v):=by
 unfold iW at h
 split at h
 ·obtain⟨q,hq,rfl⟩:=List.mem_map.mp h
  split
  ·rename_i e
   right
   rw[<-e]
  ·exact .inl hq
 ·rcases List.mem_append.mp h with z|z
  ·exact .inl z
  ·simp at z;exact .inr z
theorem yM{st:St}{e:Ev}(h:∀x,e≠.beg x):(stp st e).length=st.length:=by
 cases e with
 |beg a=>exact absurd rfl (h a)
 |_=>simp[stp,Ao]
theorem LgI.begin{a0:Int}(h:LgI n w N T0 T ln ll lg (names++[a0]) evs g now)(hn:T'[ln]?=some (.lst (names.map U.int)))(hl:T'[ll]?=some (.lst ((evs++[Ev.beg a0]).map Ev.u)))(hg:T'[lg]?=some (.lst ((g++[Go.mk a0 now T.length]).map Go.u)))
  (hd:T'[T.length]?=some (.dic [])) (old:∀i,i≠ln->i≠ll->i≠lg->i<T.length->T'[i]?=T[i]?) (le:T.length<=T'.length):LgI n w N T0 T' ln ll lg names (evs++[.beg a0]) (g++[⟨a0,now,T.length⟩]) now:=by
 have ha:a0∈names++[a0]:=by simp
 obtain⟨a1,a2,a3⟩:=h.nb a0 ha
 have ok:uO n w (aJ [] evs) (.beg a0):=⟨a1,a2,a3⟩
 have hb:=h.le
 have dn:=List.nodup_append.mp h.nd
 have oth:∀{x:Int},x∈ay (aJ [] evs)->x≠a0:=fun hx e=>a3 (e▸hx)
 have vk:∀{x:Int} {t:Att},aX (aJ [] evs) x=some t->x∈ay (aJ [] evs):=fun e=>List.mem_map.mpr ⟨_,jU e,rfl⟩
 refine { h with hn:=hn,hl:=hl,hg:=hg,nd:=dn.1,lo:=nP.mpr ⟨h.lo,ok⟩,kd:=by rw[cg];exact eU h.kd ok,go:=?go,gd:=?gd,nb:=?nb,cnt:=?cnt,gl:=?gl,pb:=?pb,fr:=?fr,le:=?le }
 case go=>
  intro x hx
  rcases List.mem_append.mp hx with hx|hx
  ·obtain⟨⟨k1,k2,k3,k4,k5⟩,t,h1,h2,h3⟩:=h.go x hx
   refine⟨⟨k1,k2,k3,k4,k5⟩,t,?_,h2,?_⟩
   ·rw[cg,cf (show x.a≠(Ev.beg a0).at from oth (vk h1))];exact h1
   ·rw[old _ k2 k3 k4 (dP h3)];exact h3
  ·simp at hx
   subst hx
   have z1:=dP h.hn
   have z2:=dP h.hl
   have z3:=dP h.hg
   refine⟨⟨hb,by dsimp only;omega,by dsimp only;omega,by dsimp only;omega,h.nw,h.nwb⟩,qe (aJ [] evs),?_,rfl,hd⟩
   rw[cg];exact fg a3
 case gd=>
  refine List.pairwise_append.mpr ⟨h.gd,by simp,fun x hx y hy=>?_⟩
  simp at hy
  subst hy
  obtain⟨_,t,h1,h2,h3⟩:=h.go x hx
  have:=dP h3
  exact⟨by dsimp only;omega,oth (vk h1)⟩
 case nb=>
  intro x hx
  obtain⟨b1,b2,b3⟩:=h.nb x (List.mem_append_left _ hx)
  refine⟨b1,b2,?_⟩
  rw[cg,jX]
  simp only[List.mem_append,List.mem_singleton,not_or]
  exact⟨b3,dn.2.2 x hx a0 (by simp)⟩
 case cnt=>
  have:=h.cnt
  rw[cg]
  simp[stp]at this ⊢
  omega
 case gl=>
  have:=h.gl
  rw[cg]
  simp[stp]
  omega
 case pb=>
  intro a t e
  rw[cg]at e
  by_cases c:a=a0
  ·subst c
   rw[fg a3]at e
   cases e
   simp[qe]
  ·rw[cf (show a≠(Ev.beg a0).at from c)]at e
   obtain⟨k1,k2⟩:=h.pb a t e
   exact⟨by rw[List.length_append];omega,k2⟩
 case fr=>
  intro i hi
  have:=h.bn;have:=h.bl;have:=h.bg
  rw[old i (by omega) (by omega) (by omega) (by omega)]
  exact h.fr i hi
 case le=>
  omega
theorem LgI.ev{e:Ev}{x:Go}{t:Att}{g':List Go}{now':List Int}(h:LgI n w N T0 T ln ll lg names evs g now)(ht:aX (aJ [] evs) x.a=some t)(ea:e.at=x.a)(ok:uO n w (aJ [] evs) e)(nb:∀y,e≠.beg y)(sub:g'.Sublist g)
  (hn:T'[ln]?=T[ln]?) (hl:T'[ll]?=some (.lst ((evs++[e]).map Ev.u))) (hg:T'[lg]?=some (.lst (g'.map Go.u)))
  (oth:∀y∈g',(y=x/\(t.ev e).en=none/\T'[y.r]?=some (.dic (hJ (t.ev e).ps)))\/(y.a≠x.a/\T'[y.r]?=T[y.r]?))
  (fr:∀i,i<T0.length->T'[i]?=T[i]?) (le:T.length<=T'.length) (nw:now'.length=n.toNat) (nwb:∀z∈now',0<=z/\z<w):LgI n w N T0 T' ln ll lg names (evs++[e]) g' now':=by
 have hb:=h.le
 have ks:ay (stp (aJ [] evs) e)=ay (aJ [] evs):=by
  rw[jX]
  cases e with
  |beg a=>exact absurd rfl (nb a)
  |_=>rfl
 refine { h with hn:=by rw[hn];exact h.hn,hl:=hl,hg:=hg,lo:=nP.mpr ⟨h.lo,ok⟩,kd:=by rw[cg];exact eU h.kd ok,nw:=nw,nwb:=nwb,gd:=h.gd.sublist sub,nb:=fun y hy=>by rw[cg,ks];exact h.nb y hy,fr:=fun i hi=>by rw[fr i hi];exact h.fr i hi,le:=by omega,cnt:=by rw[cg,yM nb];exact h.cnt,gl:=by rw[cg,yM nb];have:=h.gl;have:=sub.length_le;omega,go:=?go,pb:=?pb }
 case go=>
  intro y hy
  obtain⟨k,u,h1,h2,h3⟩:=h.go y (sub.subset hy)
  refine⟨k,?_⟩
  rcases oth y hy with⟨rfl,o1,o2⟩|⟨o1,o2⟩
  ·refine⟨t.ev e,?_,o1,o2⟩
   rw[cg,<-ea]
   exact bT (by rw[ea];exact ht)
  ·refine⟨u,?_,h2,by rw[o2];exact h3⟩
   rw[cg,cf (by rw[ea];exact o1)]
   exact h1
 case pb=>
  intro a u e1
  rw[cg]at e1
  by_cases c:a=e.at
  ·subst c
   rw[bT (by rw[ea];exact ht)]at e1
   cases e1
   obtain⟨k1,k2⟩:=h.pb _ _ ht
   rw[List.length_append,List.length_singleton]
   cases e with
   |beg a=>exact absurd rfl (nb a)
   |look a b v=>
    simp only[Att.ev]
    split
    ·exact⟨by omega,k2⟩
    ·exact⟨by dsimp only;omega,k2⟩
   |put a b v=>
    obtain⟨⟨b1,b2,b3,b4⟩,_⟩:=ok
    refine⟨Nat.le_trans (lA t.ps b v) (by omega),fun p hp=>?_⟩
    rcases BJ hp with z|z
    ·exact k2 p z
    ·subst z;exact⟨⟨b1,b2⟩,b3,b4⟩
   |fin d a=>exact⟨by simp only[Att.ev];omega,k2⟩
  ·rw[cf c]at e1
   obtain⟨k1,k2⟩:=h.pb a u e1
   exact⟨by rw[List.length_append];omega,k2⟩
end
theorem gss{S:Sto}{i:Nat}{o:O}:(S.set i o)[i]?=(S[i]?).map fun _=>o:=by
 by_cases h:i<S.length
 ·rw[List.getElem?_set_self h,List.getElem?_eq_getElem h];rfl
 ·rw[List.getElem?_eq_none (by simpa using h),List.getElem?_eq_none (by simpa using h)];rfl
theorem gsn{S:Sto}{i j:Nat}{o:O}(h:i≠j):(S.set i o)[j]?=S[j]?:=List.getElem?_set_ne h
noncomputable def KN:CS:=(bH (ik (cBM dh (ag 8) (ae (mQ (ae (cBM Fx (ag 5) aD) (ae (ag 7) (ae lN aD)))) aD)))
  (ik (cBM dh (ag 6) (ae (mQ (ae (cC (.str "begin")) (ae (cOp fIx (cOp fIx (ag 8) (uD (cC (.int 1)))) (cC (.int 0))) aD))) aD))))
noncomputable def FU:CS:=(bH (gj (aE (cOp fEq (cOp fIx (cOp fIx (ag 6) (uD (cC (.int 1)))) (cC (.int 0))) (cC (.str "put")))) (ff (ag 13) (cOp fIx (cOp fIx (ag 6) (uD (cC (.int 1)))) (cC (.int 2))) (cOp fIx (cOp fIx (ag 6) (uD (cC (.int 1)))) (cC (.int 3)))) (gj (aE (cOp fEq (cOp fIx (cOp fIx (ag 6) (uD (cC (.int 1)))) (cC (.int 0))) (cC (.str "done")))) (dc 7 (cCB kB (ae (ag 7) (ae (ag 13) aD)))) cR))
  (gj (aE (cOp (fIn false) (cOp fIx (cOp fIx (ag 6) (uD (cC (.int 1)))) (cC (.int 0))) (mQ (ae (cC (.str "done")) (ae (cC (.str "fall")) aD))))) (ik (cBM lI (ag 8) (ae (ag 10) aD))) cR))
noncomputable def rEv:CS:=(bH (dc 10 (cCB dv (ae (ag 0) (ae (cCB qW (ae (ag 8) aD)) aD))))
  (bH (Jk (cOp fIx (ag 8) (ag 10)) (gTp [11,12,13]))
  (bH (ik (cBM dh (ag 6) (ae (cCB kC (ae (ag 0) (ae (ag 1) (ae (ag 11) (ae (ag 12) (ae (ag 13) (ae (ag 7) aD))))))) aD))) FU)))
theorem LA:ie mi dv kC kB=gj (xh (aE (cOp (mI true) (ag 5) (j9 aD))) (cOr (aE (cOp (mI false) (ag 8) (j9 aD))) (aE (cOp fEq (cCB dv (ae (ag 0) (ae (cC (.int 4)) aD))) (cC (.int 0)))))) KN (gj (aE (cOp (mI true) (ag 8) (j9 aD))) rEv cR):=rfl
section
variable{n w:Int}{N:Nat}{T0 T T':Sto}{ln ll lg:Nat}{names:List Int}{evs:List Ev}{g:List Go}{now:List Int}{x2 x3 x4 x9 x10 x11 x12 x13:Option U}
noncomputable abbrev oR(n w:Int)(ln ll lg:Nat)(now:List Int)(x2 x3 x4 x9 x10 x11 x12 x13:Option U):Rho:=[some (.ref 1),some (.tup [.int n,.int w]),x2,x3,x4,some (.ref (ln+1+1)),some (.ref (ll+1+1)),some (.tup (now.map U.int)),some (.ref (lg+1+1)),x9,x10,x11,x12,x13]
theorem Dw(ns:List Int){a c:Int}{a0:Int}(h:LgI n w N T0 T ln ll lg (names++[a0]) evs g now)(hN:N<=100)(hE:evs.length<=1000) :
  ∃T',KN (oR n w ln ll lg now x2 x3 x4 x9 x10 x11 x12 x13) (scr ns::pen a c::T)=some (.nx,oR n w ln ll lg now x2 x3 x4 x9 x10 x11 x12 x13,scr ns::pen a c::T')/\LgI n w N T0 T' ln ll lg names (evs++[.beg a0]) (g++[⟨a0,now,T.length⟩]) now:=by
 have z1:=dP h.hn
 have z2:=dP h.hl
 have z3:=dP h.hg
 have hG:(g.map Go.u).length<LIM:=by have:=h.gl;have:=h.cnt;unfold LIM;rw[List.length_map];omega
 have hV:(evs.map Ev.u).length<LIM:=by unfold LIM;rw[List.length_map];omega
 have u:Go.u ⟨a0,now,T.length⟩=.tup [.int a0,.tup (now.map U.int),.ref (T.length+1+1)]:=rfl
 have hn:=h.hn
 rw[List.map_append,List.map_cons,List.map_nil]at hn
 have e1:(T.set ln (.lst (names.map U.int))++[O.dic []])[lg]?=some (.lst (g.map Go.u)):=ah (by rw[gsn h.n2];exact h.hg)
 have e2:((T.set ln (.lst (names.map U.int))++[O.dic []]).set lg (.lst (g.map Go.u++[.tup [.int a0,.tup (now.map U.int),.ref (T.length+1+1)]])))[ll]?=some (.lst (evs.map Ev.u)):=by
  rw[gsn (Ne.symm h.n3)];exact ah (by rw[gsn h.n1];exact h.hl)
 have e3:((T.set ln (.lst (names.map U.int))++[O.dic []]).set lg (.lst (g.map Go.u++[.tup [.int a0,.tup (now.map U.int),.ref (T.length+1+1)]])))[lg]?=some (.lst (g.map Go.u++[.tup [.int a0,.tup (now.map U.int),.ref (T.length+1+1)]])):=by
  rw[gss,e1];rfl
 refine⟨((T.set ln (.lst (names.map U.int))++[O.dic []]).set lg (.lst (g.map Go.u++[U.tup [.int a0,.tup (now.map U.int),.ref (T.length+1+1)]]))).set ll (.lst (evs.map Ev.u++[U.tup [.str "begin",.int a0]])),?_,?_⟩
 ·rwa[KN,oR,h.hg,h.hl,hn,e1,e2,e3,JW,Gq,kG hG,kG hV,xj,rE,oJ,List.length_set]
 ·refine h.begin ?_ ?_ ?_ ?_ (fun i i1 i2 i3 hi=>?_) (by simp)
  ·rw[gsn (Ne.symm h.n1),gsn (Ne.symm h.n2)]
   refine ah ?_
   rw[gss,h.hn];rfl
  ·rw[gss,e2,List.map_append];rfl
  ·rw[gsn h.n3,e3,List.map_append,<-u];rfl
  ·rw[gsn (by omega),gsn (by omega)]
   have:(T.set ln (O.lst (names.map U.int))).length=T.length:=List.length_set
   rw[<-this]
   exact ga0
  ·rw[gsn (Ne.symm i2),gsn (Ne.symm i3),List.getElem?_append_left (by simpa using hi),gsn (Ne.symm i1)]
theorem zg:∀{x y:Go},(x.r≠y.r/\x.a≠y.a)->(y.r≠x.r/\y.a≠x.a):=fun h=>⟨Ne.symm h.1,Ne.symm h.2⟩
theorem Lq{k:Nat}(hk:k<g.length)(h:g.Pairwise fun x y=>x.r≠y.r/\x.a≠y.a):(∀y∈g,y=g[k]\/(y.r≠g[k].r/\y.a≠g[k].a))/\∀y∈g.eraseIdx k,y.r≠g[k].r/\y.a≠g[k].a:=by
 have hp:=pW hk
 have h1:(g[k]::g.eraseIdx k).Pairwise fun x y=>x.r≠y.r/\x.a≠y.a:=(hp.pairwise_iff zg).mpr h
 have h2:=(List.pairwise_cons.mp h1).1
 refine⟨fun y hy=>?_,fun y hy=>zg (h2 y hy)⟩
 rcases List.mem_cons.mp (hp.mem_iff.mpr hy)with z|z
 ·exact .inl z
 ·exact .inr (zg (h2 y z))
theorem jP:decide (("look":Str)="put")=false:=by decide +kernel
theorem nk:decide (("look":Str)="done")=false:=by decide +kernel
theorem wd:decide (("put":Str)="done")=false:=by decide +kernel
theorem jR:decide (("done":Str)="put")=false:=by decide +kernel
theorem jQ:decide (("fall":Str)="put")=false:=by decide +kernel
theorem nr:decide (("fall":Str)="done")=false:=by decide +kernel
theorem eM{x:Str}:decide (x=x)=true:=decide_eq_true rfl
theorem gW{x:Str}{S:Sto}:fIn false (.str x) (.tup [.str "done",.str "fall"]) S=some (.bl (inU (.str x) [.str "done",.str "fall"]),S):=rfl
theorem uh:inU (.str "look") [.str "done",.str "fall"]=false:=by decide +kernel
theorem y4:inU (.str "put") [.str "done",.str "fall"]=false:=by decide +kernel
theorem uj:inU (.str "done") [.str "done",.str "fall"]=true:=by decide +kernel
theorem ui:inU (.str "fall") [.str "done",.str "fall"]=true:=by decide +kernel
theorem Jo{now:List Int}{ps:List (Int×Int)}{w:Int}(h:∀z∈now,0<=z/\z<w)(hp:∀p∈ps,0<=p.2/\p.2<w)(k:Nat):∀z∈beh now ps k,0<=z/\z<w:=fun z hz=>by
 unfold beh at hz
 obtain⟨p,hp',rfl⟩:=List.mem_map.mp hz
 cases hv:aX ps (p.2:Int)with
 |some y=>exact hp _ (jU hv)
 |none=>exact h _ (List.fst_mem_of_mem_zipIdx hp')
theorem Jd(ns:List Int){a c:Int}(ha:0<=a)(hc:0<=c)(n0:1<=n)(n1:n<=6)(w0:2<=w)(w1:w<=1000)(h:LgI n w N T0 T ln ll lg names evs g now)(hN:N<=100)(hE:evs.length<=1000)(hg:g≠[]) :
  ∃T' a' c' e g' now' y10 y11 y12 y13,rEv (oR n w ln ll lg now x2 x3 x4 x9 x10 x11 x12 x13) (scr ns::pen a c::T)=some (.nx,oR n w ln ll lg now' x2 x3 x4 x9 y10 y11 y12 y13,scr ns::pen a' c'::T')/\LgI n w N T0 T' ln ll lg names (evs++[e]) g' now'/\0<=a'/\0<=c':=by
 have hgl:=h.gl
 have hct:=h.cnt
 have gpos:0<g.length:=List.length_pos_iff.mpr hg
 obtain⟨f,a1,c1,e1,p1,q1,ha1,hc1⟩:=cI ns T (m:=(g.length:Int)) ha hc (by omega) (l9 (by omega) (by omega))
 have hk:f.toNat<g.length:=by omega
 obtain⟨o1,o2⟩:=Lq hk h.gd
 have hx:g[f.toNat]∈g:=List.getElem_mem hk
 generalize hX:g[f.toNat]=x at o1 o2 hx
 obtain⟨⟨k1,k2,k3,k4,k5,k6⟩,t,t1,t2,t3⟩:=h.go x hx
 obtain⟨pl,pb⟩:=h.pb _ _ t1
 have hat:atI (g.map Go.u) f=some (.tup [.int x.a,.tup (x.seen.map U.int),.ref (x.r+1+1)]):=zZ p1 (by rw[List.getElem?_map,List.getElem?_eq_getElem hk,hX];rfl)
 obtain⟨e,a2,c2,G,e2,ea,ok,nb,ha2,hc2⟩:=B4 ns T (at_:=x.a) ha1 hc1 n0 n1 w0 w1 t3 k5 k6 h.nw h.nwb fun p hp=>(pb p hp).2
 have okE:=ok t1 t2 rfl
 have hV:(evs.map Ev.u).length<LIM:=by unfold LIM;rw[List.length_map];omega
 have hGL:(g.map Go.u).length<=LIM:=by unfold LIM;rw[List.length_map];omega
 have hPL:(hJ t.ps).length<LIM:=by unfold LIM hJ;rw[List.length_map];omega
 have A:=h.app G
 have pre:rEv (oR n w ln ll lg now x2 x3 x4 x9 x10 x11 x12 x13) (scr ns::pen a c::T)=FU (oR n w ln ll lg now x2 x3 x4 x9 (some (.int f)) (some (.int x.a)) (some (.tup (x.seen.map U.int))) (some (.ref (x.r+1+1)))) (scr ns::pen a2 c2::((T++G).set ll (.lst (evs.map Ev.u++[e.u])))):=by
  rwa[rEv,oR,h.hg,h.hl,A.hl,e1,e2,hat,kG hV,List.length_map]
 rw[pre]
 have L0:((T++G).set ll (.lst (evs.map Ev.u++[e.u])))[ll]?=some (.lst (evs.map Ev.u++[e.u])):=by rw[gss,A.hl];rfl
 have D0:((T++G).set ll (.lst (evs.map Ev.u++[e.u])))[x.r]?=some (.dic (hJ t.ps)):=by rw[gsn (Ne.symm k3)];exact ah t3
 have G0:((T++G).set ll (.lst (evs.map Ev.u++[e.u])))[lg]?=some (.lst (g.map Go.u)):=by rw[gsn h.n3];exact A.hg
 have N0:((T++G).set ll (.lst (evs.map Ev.u++[e.u])))[ln]?=T[ln]?:=by rw[gsn (Ne.symm h.n1)];rw[A.hn,h.hn]
 have F0:∀i,i<T0.length->((T++G).set ll (.lst (evs.map Ev.u++[e.u])))[i]?=T[i]?:=fun i hi=>by
  have:=h.bl;have:=h.le
  rw[gsn (by omega),List.getElem?_append_left (by omega)]
 have Y0:∀y∈g,((T++G).set ll (.lst (evs.map Ev.u++[e.u])))[y.r]?=T[y.r]?:=fun y hy=>by
  obtain⟨⟨_,_,j3,_⟩,u,_,_,u3⟩:=h.go y hy
  rw[gsn (Ne.symm j3),u3];exact ah u3
 have Z0:T.length<=((T++G).set ll (.lst (evs.map Ev.u++[e.u]))).length:=by simp
 have m1:(evs++[e]).map Ev.u=evs.map Ev.u++[e.u]:=by simp
 generalize (T++G).set ll (.lst (evs.map Ev.u++[e.u]))=T1 at L0 D0 G0 N0 F0 Y0 Z0 ⊢
 have hP:(g.map Go.u)[f.toNat]?=some (Go.u x):=by rw[List.getElem?_map,List.getElem?_eq_getElem hk,hX];rfl
 have hpf:f<((g.map Go.u).length:Int):=by rw[List.length_map];exact q1
 cases e with
 |beg b=>exact absurd rfl (nb b)
 |look b1 b2 b3=>
  refine⟨T1,a2,c2,.look b1 b2 b3,g,now,some (.int f),some (.int x.a),some (.tup (x.seen.map U.int)),some (.ref (x.r+1+1)),?_,h.ev t1 ea okE nb (List.Sublist.refl g) N0 (by rw[m1];exact L0) G0 (fun y hy=>?_) F0 Z0 h.nw h.nwb,ha2,hc2⟩
  ·simp only[Ev.u]at L0
   rwa[FU,oR,L0,xj,rE,oJ,jP,nk,gW,uh]
  ·rcases o1 y hy with rfl|z
   ·refine .inl ⟨rfl,?_,?_⟩
    ·simp only[Att.ev];split<;>exact t2
    ·rw[D0];simp only[Att.ev];split<;>rfl
   ·exact .inr ⟨z.2,Y0 y hy⟩
 |put b1 b2 b3=>
  refine⟨T1.set x.r (.dic (hJ (iW t.ps b2 b3))),a2,c2,.put b1 b2 b3,g,now,some (.int f),some (.int x.a),some (.tup (x.seen.map U.int)),some (.ref (x.r+1+1)),?_,h.ev t1 ea okE nb (List.Sublist.refl g) (by rw[gsn k2];exact N0) (by rw[m1,gsn k3];exact L0) (by rw[gsn k4];exact G0) (fun y hy=>?_) (fun i hi=>by rw[gsn (by omega)];exact F0 i hi) (by simpa using Z0) h.nw h.nwb,ha2,hc2⟩
  ·simp only[Ev.u]at L0
   have L1:(T1.set x.r (.dic (hJ (iW t.ps b2 b3))))[ll]?=some (.lst (evs.map Ev.u++[U.tup [.str "put",.int b1,.int b2,.int b3]])):=by rw[gsn k3];exact L0
   rwa[FU,oR,L0,L1,D0,hPL,if_true,qA,xj,rE,oJ,eM,gW,y4]
  ·rcases o1 y hy with rfl|z
   ·exact .inl ⟨rfl,t2,by rw[gss,D0];rfl⟩
   ·exact .inr ⟨z.2,by rw[gsn (Ne.symm z.1)];exact Y0 y hy⟩
 |fin d b1=>
  have bb:∀z∈beh now t.ps 0,0<=z/\z<w:=Jo h.nwb (fun p hp=>(pb p hp).2) 0
  have sub:(g.eraseIdx f.toNat).Sublist g:=List.eraseIdx_sublist ..
  cases d with
  |true=>
   have eP:=Bf (S:=scr ns::pen a2 c2::T1) (r:=x.r+1+1) (ps:=t.ps) (now:=now) (by simp only[List.getElem?_cons_succ];exact D0) (by have:=h.nw;omega)
   have L1:(T1++[O.lst ((beh now t.ps 0).map U.int)])[ll]?=some (.lst (evs.map Ev.u++[U.tup [.str "done",.int b1]])):=ah L0
   have G1:(T1++[O.lst ((beh now t.ps 0).map U.int)])[lg]?=some (.lst (g.map Go.u)):=ah G0
   have gl:∀i,i<T.length->(T1++[O.lst ((beh now t.ps 0).map U.int)])[i]?=T1[i]?:=fun i hi=>List.getElem?_append_left (by omega)
   refine⟨(T1++[O.lst ((beh now t.ps 0).map U.int)]).set lg (.lst ((g.map Go.u).eraseIdx f.toNat)),a2,c2,.fin true b1,g.eraseIdx f.toNat,beh now t.ps 0,some (.int f),some (.int x.a),some (.tup (x.seen.map U.int)),some (.ref (x.r+1+1)),?_,h.ev t1 ea okE nb sub (by rw[gsn (Ne.symm h.n2),gl _ (dP h.hn)];exact N0) (by rw[m1,gsn (Ne.symm h.n3)];exact L1) (by rw[gss,G1,lq];rfl) (fun y hy=>?_) (fun i hi=>?_) (by simp;omega) (by rw[uG];exact h.nw) bb,ha2,hc2⟩
   ·simp only[Ev.u,gZ,if_true]at L0
    rwa[FU,oR,L0,L1,G1,eP,xj,rE,oJ,jR,eM,gW,uj,qh,mT p1 hpf hGL hP]
   ·have hy':=sub.subset hy
    obtain⟨z1,z2⟩:=o2 y hy
    obtain⟨⟨_,_,_,j4,_⟩,u,_,_,u3⟩:=h.go y hy'
    exact .inr ⟨z2,by rw[gsn (Ne.symm j4),gl _ (dP u3)];exact Y0 y hy'⟩
   ·have:=h.bg;have:=h.le
    rw[gsn (by omega),gl i (by omega)];exact F0 i hi
  |false=>
   refine⟨T1.set lg (.lst ((g.map Go.u).eraseIdx f.toNat)),a2,c2,.fin false b1,g.eraseIdx f.toNat,now,some (.int f),some (.int x.a),some (.tup (x.seen.map U.int)),some (.ref (x.r+1+1)),?_,h.ev t1 ea okE nb sub (by rw[gsn (Ne.symm h.n2)];exact N0) (by rw[m1,gsn (Ne.symm h.n3)];exact L0) (by rw[gss,G0,lq];rfl) (fun y hy=>?_) (fun i hi=>?_) (by simpa using Z0) h.nw h.nwb,ha2,hc2⟩
   ·simp only[Ev.u,gZ,Bool.false_eq_true,if_false]at L0
    rwa[FU,oR,L0,G0,xj,rE,oJ,jQ,nr,gW,ui,qh,mT p1 hpf hGL hP]
   ·have hy':=sub.subset hy
    obtain⟨z1,z2⟩:=o2 y hy
    obtain⟨⟨_,_,_,j4,_⟩,u,_,_,u3⟩:=h.go y hy'
    exact .inr ⟨z2,by rw[gsn (Ne.symm j4)];exact Y0 y hy'⟩
   ·have:=h.bg;have:=h.le
    rw[gsn (by omega)];exact F0 i hi
end
section
variable{n w:Int}{N:Nat}{T0:Sto}{ln ll lg:Nat}{x2 x3 x4:Option U}
theorem vx(ns:List Int)(n0:1<=n)(n1:n<=6)(w0:2<=w)(w1:w<=1000)(hN:N<=100):∀(us:List U) (T:Sto) (names:List Int) (evs:List Ev) (g:List Go) (now:List Int) (x9 x10 x11 x12 x13:Option U) {a c:Int},0<=a->0<=c->LgI n w N T0 T ln ll lg names evs g now->evs.length+us.length<=1000->
  ∃(T':Sto) (names':List Int) (evs':List Ev) (g':List Go) (now':List Int) (y9 y10 y11 y12 y13:Option U) (a' c':Int),
   eD (fun _=>True) (gNm 9) (ie mi dv kC kB) us (oR n w ln ll lg now x2 x3 x4 x9 x10 x11 x12 x13) (scr ns::pen a c::T)
    = some (.nx,oR n w ln ll lg now' x2 x3 x4 y9 y10 y11 y12 y13,scr ns::pen a' c'::T')/\LgI n w N T0 T' ln ll lg names' evs' g' now'/\evs'.length<=evs.length+us.length/\0<=a'/\0<=c'
 |[],T,names,evs,g,now,x9,x10,x11,x12,x13,a,c,ha,hc,I,hl=>⟨T,names,evs,g,now,x9,x10,x11,x12,x13,a,c,dq trivial,I,by simp,ha,hc⟩
 |u::us,T,names,evs,g,now,x9,x10,x11,x12,x13,a,c,ha,hc,I,hl=>by
  rw[List.length_cons]at hl
  have key:∃(T1:Sto) (names1:List Int) (evs1:List Ev) (g1:List Go) (now1:List Int) (z10 z11 z12 z13:Option U) (a1 c1:Int),
    ie mi dv kC kB (oR n w ln ll lg now x2 x3 x4 (some u) x10 x11 x12 x13) (scr ns::pen a c::T)=some (.nx,oR n w ln ll lg now1 x2 x3 x4 (some u) z10 z11 z12 z13,scr ns::pen a1 c1::T1)/\LgI n w N T0 T1 ln ll lg names1 evs1 g1 now1/\evs1.length<=evs.length+1/\0<=a1/\0<=c1:=by
   rw[LA]
   have E1:=vt true (S:=scr ns::pen a c::(T++[.lst []])) (l:=ln+1+1) (l':=T.length+1+1) (us:=names.map U.int) (by simp only[List.getElem?_cons_succ];exact ah I.hn) (by simp only[List.getElem?_cons_succ,ga0];rfl)
   have E2:∀neg:Bool,mI neg (.ref (lg+1+1)) (.ref (T.length+1+1+1)) (scr ns::pen a c::(T++[.lst [],.lst []]))=some (.bl (if neg then !decide (g.map Go.u=[])else decide (g.map Go.u=[])),scr ns::pen a c::(T++[.lst [],.lst []])):=fun neg=>vt neg (by simp only[List.getElem?_cons_succ];exact ah I.hg) (by simp only[List.getElem?_cons_succ,ga];rfl)
   have dG:decide (g.map Go.u=[])=decide (g=[]):=by cases g<;>simp
   have dN:decide (names.map U.int=[])=decide (names=[]):=by cases names<;>simp
   rw[dN]at E1
   rw[dG]at E2
   have sub:(scr ns::pen a c::(T++[.lst []])).length=T.length+1+1+1:=by simp
   rcases List.eq_nil_or_concat names with rfl|⟨names',a0,rfl⟩
   ·by_cases gE:g=[]
    ·subst gE
     refine⟨T++[.lst [],.lst []],[],evs,[],now,x10,x11,x12,x13,a,c,?_,I.app _,by omega,ha,hc⟩
     rwa[oR,E1,E2,if_true,decide_true,List.length_append]
    ·have J:=I.app [.lst [],.lst []]
     obtain⟨T',a',c',e,g',now',y10,y11,y12,y13,h1,h2,h3,h4⟩:=Jd (x2:=x2) (x3:=x3) (x4:=x4) (x9:=some u) (x10:=x10) (x11:=x11) (x12:=x12) (x13:=x13) ns ha hc n0 n1 w0 w1 J hN (by omega) gE
     refine⟨T',_,_,_,_,y10,y11,y12,y13,a',c',?_,h2,by simp,h3,h4⟩
     rw[<-h1]
     rwa[oR,E1,E2,gE,if_true,decide_true,List.length_append]
   ·have ne:names'.concat a0≠[]:=by simp
    by_cases gE:g=[]
    ·have J:=I.app [.lst [],.lst []]
     rw[List.concat_eq_append]at J
     obtain⟨T',h1,h2⟩:=Dw (x2:=x2) (x3:=x3) (x4:=x4) (x9:=some u) (x10:=x10) (x11:=x11) (x12:=x12) (x13:=x13) ns (a:=a) (c:=c) J hN (by omega)
     refine⟨T',_,_,_,_,x10,x11,x12,x13,a,c,?_,h2,by simp,ha,hc⟩
     rw[<-h1]
     rwa[oR,E1,E2,ne,gE,if_true,decide_true,List.length_append,Bool.false_eq_true,if_false]
    ·obtain⟨f,a1,c1,e1,p1,q1,ha1,hc1⟩:=cI ns (T++[.lst [],.lst []]) (m:=4) ha hc (by decide) (by decide +kernel)
     by_cases fE:f=0
     ·have J:=I.app [.lst [],.lst []]
      rw[List.concat_eq_append]at J
      obtain⟨T',h1,h2⟩:=Dw (x2:=x2) (x3:=x3) (x4:=x4) (x9:=some u) (x10:=x10) (x11:=x11) (x12:=x12) (x13:=x13) ns (a:=a1) (c:=c1) J hN (by omega)
      refine⟨T',_,_,_,_,x10,x11,x12,x13,a1,c1,?_,h2,by simp,ha1,hc1⟩
      rw[<-h1]
      rwa[oR,E1,E2,ne,gE,e1,fE,if_true,decide_true,List.length_append,Bool.false_eq_true,if_false]
     ·have J:=I.app [.lst [],.lst [],.lst []]
      have E3:mI true (.ref (lg+1+1)) (.ref (T.length+1+1+1+1)) (scr ns::pen a1 c1::(T++[.lst [],.lst [],.lst []]))=some (.bl true,scr ns::pen a1 c1::(T++[.lst [],.lst [],.lst []])):=by
       have z:=vt true (S:=scr ns::pen a1 c1::(T++[.lst [],.lst [],.lst []])) (l:=lg+1+1) (l':=T.length+1+1+1+1) (us:=g.map Go.u) (by simp only[List.getElem?_cons_succ];exact ah I.hg) (by
        simp only[List.getElem?_cons_succ]
        rw[show T.length+1+1=T.length+2 from rfl,ga];rfl)
       rw[dG,decide_eq_false gE]at z
       exact z
      obtain⟨T',a',c',e,g',now',y10,y11,y12,y13,h1,h2,h3,h4⟩:=Jd (x2:=x2) (x3:=x3) (x4:=x4) (x9:=some u) (x10:=x10) (x11:=x11) (x12:=x12) (x13:=x13) ns ha1 hc1 n0 n1 w0 w1 J hN (by omega) gE
      refine⟨T',_,_,_,_,y10,y11,y12,y13,a',c',?_,h2,by simp,h3,h4⟩
      rw[<-h1]
      rwa[oR,E1,E2,E3,ne,gE,e1,fE,if_true,decide_true,List.length_append,Bool.false_eq_true,if_false]
  obtain⟨T1,names1,evs1,g1,now1,z10,z11,z12,z13,a1,c1,h1,I1,l1,ha1,hc1⟩:=key
  obtain⟨T',names',evs',g',now',y9,y10,y11,y12,y13,a',c',h2,I2,l2,ha2,hc2⟩:=vx ns n0 n1 w0 w1 hN us T1 names1 evs1 g1 now1 (some u) z10 z11 z12 z13 ha1 hc1 I1 (by omega)
  exact⟨T',names',evs',g',now',y9,y10,y11,y12,y13,a',c',(dQ trivial rfl h1).trans h2,I2,by rw[List.length_cons];omega,ha2,hc2⟩
end
noncomputable def Ai:Fn:=fnU 14 5 (iQ mi dv kC kB)
structure jG(n w:Int)(N:Nat)(evs:List Ev):Prop where
 lo:oT n w [] evs
 kd:(ay (aJ [] evs)).Nodup
 cnt:(aJ [] evs).length<=N
 pb:∀a t,aX (aJ [] evs) a=some t->t.ps.length<=evs.length/\∀p∈t.ps,(0<=p.1/\p.1<n)/\0<=p.2/\p.2<w
theorem Iy (ns : List Int) (T : Sto) {a c n w most size : Int} {state : List Int} (ha : 0 <= a) (hc : 0 <= c) (n0 : 1 <= n) (n1 : n <= 6) (w0 : 2 <= w) (w1 : w <= 1000) (hs : state.length = n.toNat) (bs : ∀ z ∈ state, 0 <= z /\ z < w) (m0 : 0 <= most) (m1 : most <= 99) (s0 : 0 <= size) (s1 : size <= 900) :
    ∃(evs:List Ev) (a' c':Int) (G:Sto) (k:Nat),Ai [.ref 1,.tup [.int n,.int w],.tup (state.map U.int),.int most,.int size] (scr ns::pen a c::T)=some (.ref (T.length+k+1+1),scr ns::pen a' c'::(T++G))/\G[k]?=some (.lst (evs.map Ev.u))/\jG n w most.toNat evs/\evs.length<=size.toNat/\0<=a'/\0<=c':=by
  unfold Ai
  rw[w4]
  obtain⟨f,a1,c1,e1,p1,q1,ha1,hc1⟩:=cI ns T (m:=most+1) ha hc (by omega) (l9 (by omega) (by omega))
  obtain⟨left,names,a2,c2,e2,l2,d2,b2,ha2,hc2⟩:=BF ns T ha1 hc1 p1 (by omega)
  obtain⟨h,a3,c3,e3,p3,q3,ha3,hc3⟩:=cI ns (T++[.lst (left.map U.int),.lst (names.map U.int),.lst [],.lst []]) (m:=size+1) ha2 hc2 (by omega) (l9 (by omega) (by omega))
  have I:LgI n w most.toNat T (T++[.lst (left.map U.int),.lst (names.map U.int),.lst [],.lst []]) (T.length+1) (T.length+2) (T.length+3) names [] [] state:=
    { hn:=ga,hl:=ga,hg:=ga,bn:=by omega,bl:=by omega,bg:=by omega,n1:=by omega,n2:=by omega,n3:=by omega
      go:=fun x hx=>by cases hx
      gd:=.nil,nd:=d2,nb:=fun x hx=>⟨(b2 x hx).1,(b2 x hx).2,by simp[aJ,ay]⟩,lo:=trivial,kd:=by simp[aJ,ay],cnt:=by simp[aJ];omega,gl:=by simp,nw:=hs,nwb:=bs
      pb:=fun a t e=>by simp[aJ,aX]at e
      fr:=fun i hi=>List.getElem?_append_left hi,le:=by simp }
  obtain⟨T',names',evs',g',now',y9,y10,y11,y12,y13,a',c',e4,I4,l4,ha4,hc4⟩:=vx (x2:=some (.tup (state.map U.int))) (x3:=some (.int most)) (x4:=some (.int size)) ns n0 n1 w0 w1 (by omega) (dk 0 h.toNat) _ _ _ _ _ none none none none none ha3 hc3 I (by simp[dk];omega)
  obtain⟨G,rfl⟩:=Ja (ls:=[]) I4.le I4.fr
  have hl:=I4.hl
  rw[ga]at hl
  refine⟨evs',a',c',G,2,?_,hl,⟨I4.lo,I4.kd,by have:=I4.cnt;omega,I4.pb⟩,by simp[dk]at l4;omega,ha4,hc4⟩
  have hr:-(2^62)<=h/\h<2^62:=by omega
  simp only[oR]at e4
  rwa[iQ,e1,e2,e3,i9,eV,hr,if_true,and_self,e4,List.length_append]
section
variable{c:Cl}{B:Nat}{E L N P F E':List (Key×U)}{X Y S:Sto}{k:Nat}{o:O}
noncomputable def hd(c:Cl)(B:Nat)(E L N P F:List (Key×U)):Sto:=[.ins c [some (.ref (B+1)),some (.ref (B+2)),some (.ref (B+3)),some (.ref (B+4)),some (.ref (B+5))],.dic E,.dic L,.dic N,.dic P,.dic F]
theorem hd0:(S++(hd c B E L N P F++X))[S.length]?=some (.ins c [some (.ref (B+1)),some (.ref (B+2)),some (.ref (B+3)),some (.ref (B+4)),some (.ref (B+5))]):=by rw[ga0];rfl
theorem hd1:(S++(hd c B E L N P F++X))[S.length+1]?=some (.dic E):=by rw[ga];rfl
theorem hd2:(S++(hd c B E L N P F++X))[S.length+2]?=some (.dic L):=by rw[ga];rfl
theorem hd3:(S++(hd c B E L N P F++X))[S.length+3]?=some (.dic N):=by rw[ga];rfl
theorem hd4:(S++(hd c B E L N P F++X))[S.length+4]?=some (.dic P):=by rw[ga];rfl
theorem hd5:(S++(hd c B E L N P F++X))[S.length+5]?=some (.dic F):=by rw[ga];rfl
theorem hs1:(S++(hd c B E L N P F++X)).set (S.length+1) (.dic E')=S++(hd c B E' L N P F++X):=by rw[gs];rfl
theorem hs2:(S++(hd c B E L N P F++X)).set (S.length+2) (.dic E')=S++(hd c B E E' N P F++X):=by rw[gs];rfl
theorem hs3:(S++(hd c B E L N P F++X)).set (S.length+3) (.dic E')=S++(hd c B E L E' P F++X):=by rw[gs];rfl
theorem hs4:(S++(hd c B E L N P F++X)).set (S.length+4) (.dic E')=S++(hd c B E L N E' F++X):=by rw[gs];rfl
theorem hs5:(S++(hd c B E L N P F++X)).set (S.length+5) (.dic E')=S++(hd c B E L N P E'++X):=by rw[gs];rfl
theorem fT:(S++(hd c B E L N P F++X)).length=S.length+(6+X.length):=by simp[hd];omega
theorem hgx:(S++(hd c B E L N P F++X))[S.length+(6+k)]?=X[k]?:=by
 rw[ga,List.getElem?_append_right (by simp[hd])]
 congr 1
 simp[hd]
theorem hsx:(S++(hd c B E L N P F++X)).set (S.length+(6+k)) o=S++(hd c B E L N P F++X.set k o):=by
 rw[gs,List.set_append_right _ _ (by simp[hd])]
 congr 3
 simp[hd]
theorem MM:S++(hd c B E L N P F++X)++Y=S++(hd c B E L N P F++(X++Y)):=by simp only[List.append_assoc]
end
noncomputable def enS:Option Bool->Str
 |none=>"open"
 |some d=>gZ d
noncomputable def gN(st:St):List (Key×U):=st.map fun p=>(.inl p.1,.str (enS p.2.en))
noncomputable def g9(B j:Nat)(st:St)(i:Nat):List (Key×U):=match st with
 |[]=>[]
 |p::r=>(.inl p.1,.ref (B+(6+(4*i+j))))::g9 B j r (i+1)
noncomputable def sT(nd:List (Int×Int)):List (List Key×U):=nd.map fun p=>([.inl p.1,.inl p.2],.bl true)
noncomputable def blk(t:Att):Sto:=[.lst (t.bf.map U.int),.lst (t.lk.map pU),.dit (sT t.nd),.dic (hJ t.ps)]
noncomputable def oS:St->Sto
 |[]=>[]
 |p::r=>blk p.2++oS r
noncomputable def crs(c:Cl)(S:Sto)(st:St):Sto:=S++(hd c S.length (gN st) (g9 S.length 1 st 0) (g9 S.length 2 st 0) (g9 S.length 3 st 0) (g9 S.length 0 st 0)++oS st)
theorem ib:∀st:St,(oS st).length=4*st.length
 |[]=>rfl
 |p::r=>by rw[oS,List.length_append,ib r,List.length_cons];simp[blk];omega
theorem ja:∀s r:St,oS (s++r)=oS s++oS r
 |[],r=>rfl
 |p::s,r=>by rw[List.cons_append,oS,oS,ja s r,List.append_assoc]
theorem lJ{B j:Nat}:∀(s r:St) (i:Nat),g9 B j (s++r) i=g9 B j s i++g9 B j r (i+s.length)
 |[],r,i=>rfl
 |p::s,r,i=>by
  rw[List.cons_append,g9,g9,lJ s r (i+1),List.cons_append,List.length_cons]
  congr 3
  omega
theorem oh{B j:Nat}:∀(s:St) (i:Nat),(g9 B j s i).map (·.1)=(ay s).map Sum.inl
 |[],i=>rfl
 |p::s,i=>by rw[g9,List.map_cons,oh s (i+1)];rfl
theorem oj{s:St}:(gN s).map (·.1)=(ay s).map Sum.inl:=by
 unfold gN ay;rw[List.map_map,List.map_map];rfl
theorem qP{ks:List Int}{a:Int}(h:a∉ks):(Sum.inl a:Key)∉ks.map Sum.inl:=fun z=>by
 obtain⟨b,hb,e⟩:=List.mem_map.mp z
 cases e
 exact h hb
theorem ny{κ α:Type}[DecidableEq κ]{ps qs:List (κ×α)}{k:κ}{v:α}(h:k∉ps.map (·.1)):aX (ps++(k,v)::qs) k=some v:=by
 rw[kH,iG.mpr h]
 simp[aX]
theorem qB{κ α:Type}[DecidableEq κ]{ps:List (κ×α)}{k:κ}{v:α}(h:k∉ps.map (·.1)):iW ps k v=ps++[(k,v)]:=by
 unfold iW
 rw[if_neg]
 simp only[List.any_eq_true,decide_eq_true_eq,not_exists,not_and]
 intro p hp e
 exact h (List.mem_map.mpr ⟨p,hp,e⟩)
theorem Bi{κ α:Type}[DecidableEq κ]{ps qs:List (κ×α)}{k:κ}{v v':α}(h:(ps++(k,v)::qs).map (·.1) |>.Nodup):iW (ps++(k,v)::qs) k v'=ps++(k,v')::qs:=by
 unfold iW
 rw[if_pos (by simp)]
 rw[List.map_append,List.map_cons]at h
 have h1:=List.nodup_append.mp h
 have h2:=List.nodup_cons.mp h1.2.1
 have keep:∀{l:List (κ×α)},k∉l.map (·.1)->(l.map fun p=>if p.1=k then(p.1,v')else p)=l:=fun{l} hl=>by
  rw[List.map_congr_left (g:=id) fun p hp=>?_,List.map_id]
  rw[if_neg fun e=>hl (List.mem_map.mpr ⟨p,hp,e⟩)];rfl
 rw[List.map_append,List.map_cons]
 rw[keep fun z=>h1.2.2 k z k List.mem_cons_self rfl,keep h2.1,if_pos rfl]
section
variable{c:Cl}{S:Sto}{s1 s2 st:St}{a:Int}{t t':Att}
theorem yC(h:(ay (s1++(a,t)::s2)).Nodup):a∉ay s1:=fun z=>by
 unfold ay at h z
 rw[List.map_append,List.map_cons]at h
 exact(List.nodup_append.mp h).2.2 a z a List.mem_cons_self rfl
theorem jS{j:Nat}(h:(ay (s1++(a,t)::s2)).Nodup):aX (g9 S.length j (s1++(a,t)::s2) 0) (.inl a)=some (.ref (S.length+(6+(4*s1.length+j)))):=by
 rw[lJ,g9,Nat.zero_add]
 exact ny (by rw[oh];exact qP (yC h))
theorem ql(h:(ay (s1++(a,t)::s2)).Nodup):aX (gN (s1++(a,t)::s2)) (.inl a)=some (.str (enS t.en)):=by
 have e:gN (s1++(a,t)::s2)=gN s1++(Sum.inl a,U.str (enS t.en))::gN s2:=by unfold gN;rw[List.map_append,List.map_cons]
 rw[e]
 exact ny (by rw[oj];exact qP (yC h))
theorem sS{j:Nat}:g9 S.length j (s1++(a,t)::s2) 0=g9 S.length j (s1++(a,t')::s2) 0:=by
 rw[lJ,lJ];rfl
theorem zx(h:t.en=t'.en):gN (s1++(a,t)::s2)=gN (s1++(a,t')::s2):=by
 unfold gN;rw[List.map_append,List.map_cons,List.map_append,List.map_cons,h]
theorem Bh{d:Bool}(h:(ay (s1++(a,t)::s2)).Nodup)(e:t'.en=some d):iW (gN (s1++(a,t)::s2)) (.inl a) (.str (gZ d))=gN (s1++(a,t')::s2):=by
 have e1:∀t:Att,gN (s1++(a,t)::s2)=gN s1++(Sum.inl a,U.str (enS t.en))::gN s2:=fun t=>by unfold gN;rw[List.map_append,List.map_cons]
 rw[e1,e1,e]
 refine Bi ?_
 rw[<-e1,oj]
 exact List.Pairwise.map _ (fun a b h e=>h (by cases e;rfl)) h
theorem FJ{j:Nat}(hj:j<4):(oS (s1++(a,t)::s2))[4*s1.length+j]?=(blk t)[j]?:=by
 rw[ja,oS,List.getElem?_append_right (by rw[ib];omega),ib,Nat.add_sub_cancel_left,List.getElem?_append_left (by simp[blk];omega)]
theorem FI{j:Nat}{o:O}(hj:j<4)(h:(blk t).set j o=blk t'):(oS (s1++(a,t)::s2)).set (4*s1.length+j) o=oS (s1++(a,t')::s2):=by
 rw[ja,ja,oS,oS,List.set_append_right _ _ (by rw[ib];omega),ib,Nat.add_sub_cancel_left,List.set_append_left _ _ (by simp[blk];omega),h]
theorem oz{j:Nat}(hj:j<4):(crs c S (s1++(a,t)::s2))[S.length+(6+(4*s1.length+j))]?=(blk t)[j]?:=by
 unfold crs;rw[hgx,FJ hj]
theorem uB{j:Nat}{o:O}(hj:j<4)(he:t.en=t'.en)(h:(blk t).set j o=blk t'):(crs c S (s1++(a,t)::s2)).set (S.length+(6+(4*s1.length+j))) o=crs c S (s1++(a,t')::s2):=by
 unfold crs
 rw[hsx,FI hj h,zx he]
 simp only[sS (t:=t) (t':=t')]
theorem FH{d:Bool}(h:(ay (s1++(a,t)::s2)).Nodup):(crs c S (s1++(a,t)::s2)).set (S.length+1) (.dic (iW (gN (s1++(a,t)::s2)) (.inl a) (.str (gZ d))))=crs c S (s1++(a,{ t with en:=some d })::s2):=by
 unfold crs
 rw[hs1,Bh (t':={ t with en:=some d }) h rfl]
 simp only[sS (t:=t) (t':={ t with en:=some d })]
 congr 2
 rw[ja,ja];rfl
theorem kI{f:Att->Att}(h:(ay (s1++(a,t)::s2)).Nodup):Ao (s1++(a,t)::s2) a f=s1++(a,f t)::s2:=by
 have h0:=h
 unfold ay at h
 rw[List.map_append,List.map_cons]at h
 have h1:=List.nodup_append.mp h
 have h2:=List.nodup_cons.mp h1.2.1
 unfold Ao
 have keep:∀{l:St},a∉l.map (·.1)->(l.map fun p=>if p.1=a then(p.1,f p.2)else p)=l:=fun{l} hl=>by
  rw[List.map_congr_left (g:=id) fun p hp=>?_,List.map_id]
  rw[if_neg fun e=>hl (List.mem_map.mpr ⟨p,hp,e⟩)];rfl
 rw[List.map_append,List.map_cons,keep fun z=>h1.2.2 a z a List.mem_cons_self rfl,keep h2.1,if_pos rfl]
theorem iH{st:St}(h:aX st a=some t):∃s1 s2,st=s1++(a,t)::s2:=List.append_of_mem (jU h)
theorem fe{i:Nat}{u:U}{fus:List (Option U)}{Z:Sto}{l:Nat}(h:Z[l]?=some (.ins c fus))(hu:fus[i]?=some (some u)):lC c i (.ref l,Z)=some (u,Z):=by
 rw[Cy,h,Cw,hu];rfl
theorem JO{co cv:CE}{cr:CA}{ρ:Rho}{Z Z1 Z2 Z3:Sto}{u:U}{l:Nat}{us:List U}{ks:List Key}{kus:List (List Key×U)}(h1:cv ρ Z=some (u,Z1))(h2:co ρ Z1=some (.ref l,Z2))(h3:cr ρ Z2=some (us,Z3))(h4:Z3[l]?=some (.dit kus))(h5:Js us=some ks)(h6:kus.length<LIM)(h7:us.length<=LIM) :
  oE co cr cv ρ Z=some (.nx,ρ,Z3.set l (.dit (iW kus ks u))):=by
 unfold oE
 rw[h1,Option.bind_some,h2,Option.bind_some,h3,Option.bind_some]
 simp only[h4,h5,Option.bind_some]
 rw[if_pos ⟨h6,h7⟩]
theorem Bg(nd:List (Int×Int))(b x:Int):iW (sT nd) [.inl b,.inl x] (.bl true)=sT (As nd (b,x)):=by
 have kk:∀p:Int×Int,([Sum.inl p.1,Sum.inl p.2]:List Key)=[.inl b,.inl x]↔p=(b,x):=fun p=>by
  obtain⟨p1,p2⟩:=p
  simp
 unfold iW As
 have ha:((sT nd).any fun kv=>decide (kv.1=[Sum.inl b,Sum.inl x]))=decide ((b,x)∈nd):=by
  unfold sT
  induction nd with
  |nil=>rfl
  |cons p r ih=>
   simp only[List.map_cons,List.any_cons,ih,List.mem_cons,kk]
   by_cases e:p=(b,x)
   ·simp[e]
   ·simp[e,Ne.symm e]
 rw[ha]
 by_cases m:(b,x)∈nd
 ·rw[if_pos (decide_eq_true m),if_pos m]
  unfold sT
  rw[List.map_map]
  refine List.map_congr_left fun p _=>?_
  simp only[Function.comp]
  split<;>simp_all
 ·rw[if_neg (by simpa using m),if_neg m]
  simp[sT]
noncomputable def Ah(c:Cl):Fn:=fnU 4 4 (bN c)
theorem E4{b x:Int}(h:(ay (s1++(a,t)::s2)).Nodup)(hl:t.lk.length<=10000)(hn:t.nd.length<=10000):Ah c [.ref S.length,.int a,.int b,.int x] (crs c S (s1++(a,t)::s2))=some (.non,crs c S (s1++(a,t.ev (.look a b x))::s2)):=by
 unfold Ah
 rw[lK]
 have g3:=oz (c:=c) (S:=S) (s1:=s1) (s2:=s2) (a:=a) (t:=t) (j:=3) (by omega)
 have g1:=oz (c:=c) (S:=S) (s1:=s1) (s2:=s2) (a:=a) (t:=t) (j:=1) (by omega)
 have v1:=jS (S:=S) (j:=1) h
 have v2:=jS (S:=S) (j:=2) h
 have v3:=jS (S:=S) (j:=3) h
 have f0:∀st:St,(crs c S st)[S.length]?=some (.ins c [some (.ref (S.length+1)),some (.ref (S.length+2)),some (.ref (S.length+3)),some (.ref (S.length+4)),some (.ref (S.length+5))]):=fun st=>hd0
 have f2:∀st:St,(crs c S st)[S.length+2]?=some (.dic (g9 S.length 1 st 0)):=fun st=>hd2
 have f3:∀st:St,(crs c S st)[S.length+3]?=some (.dic (g9 S.length 2 st 0)):=fun st=>hd3
 have f4:∀st:St,(crs c S st)[S.length+4]?=some (.dic (g9 S.length 3 st 0)):=fun st=>hd4
 have F1:∀st:St,lC c 1 (.ref S.length,crs c S st)=some (.ref (S.length+2),crs c S st):=fun st=>fe (f0 st) rfl
 have F2:∀st:St,lC c 2 (.ref S.length,crs c S st)=some (.ref (S.length+3),crs c S st):=fun st=>fe (f0 st) rfl
 have F3:∀st:St,lC c 3 (.ref S.length,crs c S st)=some (.ref (S.length+4),crs c S st):=fun st=>fe (f0 st) rfl
 have g3':(crs c S (s1++(a,t)::s2))[S.length+(6+(4*s1.length+3))]?=some (.dic (hJ t.ps)):=g3
 have g1':(crs c S (s1++(a,t)::s2))[S.length+(6+(4*s1.length+1))]?=some (.lst (t.lk.map pU)):=g1
 cases hv:aX t.ps b with
 |some y=>
  have e:t.ev (.look a b x)=t:=by simp[Att.ev,hv]
  rw[e]
  rwa[bN,F3,f4,v3,g3',jT,hv,Option.map_some,Option.isSome_some,if_true]
 |none=>
  have e:t.ev (.look a b x)={ t with lk:=t.lk++[(b,x)],nd:=As t.nd (b,x) }:=by simp[Att.ev,hv]
  rw[e]
  have hL:(t.lk.map pU).length<LIM:=by unfold LIM;rw[List.length_map];omega
  have s1':=uB (c:=c) (S:=S) (s1:=s1) (s2:=s2) (a:=a) (t:=t) (t':={ t with lk:=t.lk++[(b,x)] }) (j:=1) (o:=.lst (t.lk.map pU++[pU (b,x)])) (by omega) rfl (by unfold blk;rw[List.map_append];rfl)
  have h':(ay (s1++(a,({ t with lk:=t.lk++[(b,x)] }:Att))::s2)).Nodup:=by unfold ay at h ⊢;rw[List.map_append,List.map_cons]at h ⊢;exact h
  have v2':=jS (S:=S) (j:=2) h'
  have g2:=oz (c:=c) (S:=S) (s1:=s1) (s2:=s2) (a:=a) (t:={ t with lk:=t.lk++[(b,x)] }) (j:=2) (by omega)
  have g2':(crs c S (s1++(a,({ t with lk:=t.lk++[(b,x)] }:Att))::s2))[S.length+(6+(4*s1.length+2))]?=some (.dit (sT t.nd)):=g2
  have s2':=uB (c:=c) (S:=S) (s1:=s1) (s2:=s2) (a:=a) (t:={ t with lk:=t.lk++[(b,x)] }) (t':={ t with lk:=t.lk++[(b,x)],nd:=As t.nd (b,x) }) (j:=2) (o:=.dit (sT (As t.nd (b,x)))) (by omega) rfl rfl
  have e3:oE (cOp fIx (iE c 2 (ag 0)) (ag 1)) (ae (ag 2) (ae (ag 3) aD)) (cC (.bl true)) [some (.ref S.length),some (.int a),some (.int b),some (.int x)] (crs c S (s1++(a,({ t with lk:=t.lk++[(b,x)] }:Att))::s2))=some (.nx,[some (.ref S.length),some (.int a),some (.int b),some (.int x)],crs c S (s1++(a,({ t with lk:=t.lk++[(b,x)],nd:=As t.nd (b,x) }:Att))::s2)):=by
   rw[JO (u:=.bl true) (us:=[.int b,.int x]) (ks:=[.inl b,.inl x]) (kus:=sT t.nd) (l:=S.length+(6+(4*s1.length+2))) (Z1:=crs c S (s1++(a,({ t with lk:=t.lk++[(b,x)] }:Att))::s2)) (Z2:=crs c S (s1++(a,({ t with lk:=t.lk++[(b,x)] }:Att))::s2)) (Z3:=crs c S (s1++(a,({ t with lk:=t.lk++[(b,x)] }:Att))::s2)) rfl ?_ rfl g2' rfl (by unfold LIM sT;rw[List.length_map];omega) (by unfold LIM;simp),Bg,s2']
   rwa[F2,f3,v2']
  have pu:pU (b,x)=.tup [.int b,.int x]:=rfl
  rw[pu]at s1'
  rwa[bN,F1,F3,f2,f4,v1,v3,g1',g3',jT,hv,kG hL,s1',e3,Option.map_none,Option.isSome_none,Bool.false_eq_true,if_true,if_false]
end
section
variable{c:Cl}{S:Sto}{s1 s2 st:St}{a:Int}{t t':Att}
theorem FC{o:Option Bool}:decide (enS o=("open":Str))=!o.isSome:=by
 cases o with
 |none=>exact decide_eq_true rfl
 |some d=>cases d<;>(simp only[enS,gZ,if_true,if_false,Bool.false_eq_true];decide +kernel)
theorem uF{ep:Nat}{E L N P F:List (Key×U)}{X:Sto}(hE:E=gN st)(hk:(ay st).Nodup):∀(p r:St) (r0:Option U) (ys:List Int),st=p++r->ys.length+r.length<=1000->
  cV (fun S'=>S'[S.length+1]?=some (.fdc ep E)) (gNm 0) (aE (cOp fNe (cOp fIx (iE c 0 (ag 1)) (ag 0)) (cC (.str "open")))) (ag 0) (S.length+(6+X.length)) ((gN r).map fun q=>kU q.1) [r0,some (.ref S.length)] ((S++(hd c S.length E L N P F++X)).set (S.length+1) (.fdc ep E)++[.lst (ys.map U.int)])
   = some ((S++(hd c S.length E L N P F++X)).set (S.length+1) (.fdc ep E)++[.lst ((ys++(r.filter fun p=>p.2.en.isSome).map (·.1)).map U.int)])
 |p,[],r0,ys,e,hl=>by
  have ok:((S++(hd c S.length E L N P F++X)).set (S.length+1) (.fdc ep E)++[O.lst (ys.map U.int)])[S.length+1]?=some (.fdc ep E):=ah (by rw[gss,hd1];rfl)
  simp only[List.filter_nil,List.map_nil,List.append_nil]
  exact pY ok
 |p,(b,t)::r,r0,ys,e,hl=>by
  have hk':(ay (p++(b,t)::r)).Nodup:=by rw[<-e];exact hk
  have ok:∀ys:List Int,((S++(hd c S.length E L N P F++X)).set (S.length+1) (.fdc ep E)++[O.lst (ys.map U.int)])[S.length+1]?=some (.fdc ep E):=fun ys=>ah (by rw[gss,hd1];rfl)
  have i0:((S++(hd c S.length E L N P F++X)).set (S.length+1) (.fdc ep E)++[O.lst (ys.map U.int)])[S.length]?=some (.ins c [some (.ref (S.length+1)),some (.ref (S.length+2)),some (.ref (S.length+3)),some (.ref (S.length+4)),some (.ref (S.length+5))]):=ah (by rw[gsn (by omega),hd0])
  have F0:lC c 0 (.ref S.length,(S++(hd c S.length E L N P F++X)).set (S.length+1) (.fdc ep E)++[O.lst (ys.map U.int)])=some (.ref (S.length+1),(S++(hd c S.length E L N P F++X)).set (S.length+1) (.fdc ep E)++[O.lst (ys.map U.int)]):=fe i0 rfl
  have vE:aX E (.inl b)=some (.str (enS t.en)):=by rw[hE,e];exact ql hk'
  have kk:kU (Sum.inl b)=.int b:=rfl
  have tst0:∀Z:Sto,lC c 0 (.ref S.length,Z)=some (.ref (S.length+1),Z)->Z[S.length+1]?=some (.fdc ep E)->(aE (cOp fNe (cOp fIx (iE c 0 (ag 1)) (ag 0)) (cC (.str "open")))) [some (.int b),some (.ref S.length)] Z=some (t.en.isSome,Z):=fun Z z1 z2=>by
   have z:(!decide (enS t.en=("open":Str)))=t.en.isSome:=by rw[FC,Bool.not_not]
   rwa[z1,z2,Ka,vE,z]
  have tst:=tst0 _ F0 (ok ys)
  have ln:((S++(hd c S.length E L N P F++X)).set (S.length+1) (.fdc ep E)).length=S.length+(6+X.length):=by rw[List.length_set,fT]
  simp only[gN,List.map_cons,kk]
  cases hs:t.en.isSome with
  |false=>
   have ih:=uF (ep:=ep) (L:=L) (N:=N) (P:=P) (F:=F) (X:=X) hE hk (p++[(b,t)]) r (some (.int b)) ys (by rw[e];simp) (by simp at hl ⊢;omega)
   refine(tH (ok ys) rfl (by rw[<-hs];exact tst)).trans ?_
   rw[List.filter_cons_of_neg (by simpa using hs)]
   exact ih
  |true=>
   have ih:=uF (ep:=ep) (L:=L) (N:=N) (P:=P) (F:=F) (X:=X) hE hk (p++[(b,t)]) r (some (.int b)) (ys++[b]) (by rw[e];simp) (by simp at hl ⊢;omega)
   refine(pX (x:=.int b) (ys:=ys.map U.int) (ok ys) rfl (by rw[<-hs];exact tst) rfl (by rw[<-ln,ga0];rfl) (by unfold LIM;simp at hl ⊢;omega)).trans ?_
   rw[List.filter_cons_of_pos (by simpa using hs)]
   have e5:((S++(hd c S.length E L N P F++X)).set (S.length+1) (.fdc ep E)++[O.lst (ys.map U.int)]).set (S.length+(6+X.length)) (.lst (ys.map U.int++[U.int b]))=(S++(hd c S.length E L N P F++X)).set (S.length+1) (.fdc ep E)++[.lst ((ys++[b]).map U.int)]:=by
    rw[<-ln,gs0,List.map_append];rfl
   rw[e5]
   refine ih.trans ?_
   simp
theorem Ly(hk:(ay st).Nodup)(hl:st.length<=900)(x1:Option U):m8 (iE c 0 (ag 0)) (gNm 0) (aE (cOp fNe (cOp fIx (iE c 0 (ag 1)) (ag 0)) (cC (.str "open")))) (ag 0) 1 [0] [some (.ref S.length),x1] (crs c S st)=some (.ref (S.length+(6+4*st.length)),crs c S st++[.lst ((qe st).bf.map U.int)]):=by
 have i0:(crs c S st)[S.length]?=some (.ins c [some (.ref (S.length+1)),some (.ref (S.length+2)),some (.ref (S.length+3)),some (.ref (S.length+4)),some (.ref (S.length+5))]):=hd0
 have F0:lC c 0 (.ref S.length,crs c S st)=some (.ref (S.length+1),crs c S st):=fe i0 rfl
 have ce:iE c 0 (ag 0) [some (.ref S.length),x1] (crs c S st)=some (.ref (S.length+1),crs c S st):=by rwa[F0]
 have ln:(crs c S st).length=S.length+(6+4*st.length):=by unfold crs;rw[fT,ib]
 have f1:(crs c S st)[S.length+1]?=some (.dic (gN st)):=hd1
 unfold m8 zQ
 rw[ce,Option.bind_some]
 simp only[f1]
 refine CC fun ep=>?_
 have h:=uF (c:=c) (S:=S) (ep:=ep) (L:=g9 S.length 1 st 0) (N:=g9 S.length 2 st 0) (P:=g9 S.length 3 st 0) (F:=g9 S.length 0 st 0) (X:=oS st) rfl hk [] st none [] rfl (by simp;omega)
 have e1:kn 1 [0] [some (.ref S.length),x1]=[none,some (.ref S.length)]:=rfl
 rw[ib]at h
 rw[e1,ln]
 simp only[List.map_nil,List.nil_append]at h
 have h':cV (fun S'=>S'[S.length+1]?=some (.fdc ep (gN st))) (gNm 0) (aE (cOp fNe (cOp fIx (iE c 0 (ag 1)) (ag 0)) (cC (.str "open")))) (ag 0) (S.length+(6+4*st.length)) ((gN st).map fun q=>kU q.1) [none,some (.ref S.length)] ((crs c S st).set (S.length+1) (.fdc ep (gN st))++[.lst []])=some ((crs c S st).set (S.length+1) (.fdc ep (gN st))++[.lst ((qe st).bf.map U.int)]):=h
 rw[h',Option.bind_some]
 have g:((crs c S st).set (S.length+1) (.fdc ep (gN st))++[O.lst ((qe st).bf.map U.int)])[S.length+1]?=some (.fdc ep (gN st)):=ah (by rw[gss,f1];rfl)
 simp only[g]
 have hlt:S.length+1<(crs c S st).length:=by omega
 rw[List.set_append_left _ _ (by simpa using hlt),List.set_set]
 congr 3
 unfold crs
 rw[hs1]
noncomputable def hc(c:Cl)(S:Sto)(E L N P F:List (Key×U))(X:Sto):Sto:=S++(hd c S.length E L N P F++X)
section
variable{E L N P F E':List (Key×U)}{X Y:Sto}
theorem hc0:(hc c S E L N P F X)[S.length]?=some (.ins c [some (.ref (S.length+1)),some (.ref (S.length+2)),some (.ref (S.length+3)),some (.ref (S.length+4)),some (.ref (S.length+5))]):=hd0
theorem hc1:(hc c S E L N P F X)[S.length+1]?=some (.dic E):=hd1
theorem hc2:(hc c S E L N P F X)[S.length+2]?=some (.dic L):=hd2
theorem hc3:(hc c S E L N P F X)[S.length+3]?=some (.dic N):=hd3
theorem hc4:(hc c S E L N P F X)[S.length+4]?=some (.dic P):=hd4
theorem hc5:(hc c S E L N P F X)[S.length+5]?=some (.dic F):=hd5
theorem ht1:(hc c S E L N P F X).set (S.length+1) (.dic E')=hc c S E' L N P F X:=hs1
theorem ht2:(hc c S E L N P F X).set (S.length+2) (.dic E')=hc c S E E' N P F X:=hs2
theorem ht3:(hc c S E L N P F X).set (S.length+3) (.dic E')=hc c S E L E' P F X:=hs3
theorem ht4:(hc c S E L N P F X).set (S.length+4) (.dic E')=hc c S E L N E' F X:=hs4
theorem ht5:(hc c S E L N P F X).set (S.length+5) (.dic E')=hc c S E L N P E' X:=hs5
theorem hcl:(hc c S E L N P F X).length=S.length+(6+X.length):=fT
theorem hcA:hc c S E L N P F X++Y=hc c S E L N P F (X++Y):=MM
end
noncomputable def rp(c:Cl):Fn:=fnU 2 2 (d8 c)
theorem zw{B j:Nat}{p:Int×Att}:g9 B j (st++[p]) 0=g9 B j st 0++[(.inl p.1,.ref (B+(6+(4*st.length+j))))]:=by
 rw[lJ,g9,Nat.zero_add];rfl
theorem vR{B j:Nat}:∀(s:St) (i:Nat),(g9 B j s i).length=s.length
 |[],_=>rfl
 |p::s,i=>by rw[g9,List.length_cons,vR s (i+1),List.length_cons]
theorem zN(hk:(ay st).Nodup)(ha:a∉ay st)(hl:st.length<=900):rp c [.ref S.length,.int a] (crs c S st)=some (.non,crs c S (st++[(a,qe st)])):=by
 unfold rp
 rw[pd]
 have B0:=Ly (c:=c) (S:=S) hk hl (some (.int a))
 have pr:∀j,iW (g9 S.length j st 0) (.inl a) (.ref (S.length+(6+(4*st.length+j))))=g9 S.length j (st++[(a,qe st)]) 0:=fun j=>by
  rw[qB (by rw[oh];exact qP ha),zw]
 have pe:iW (gN st) (.inl a) (.str "open")=gN (st++[(a,qe st)]):=by
  rw[qB (by rw[oj];exact qP ha)]
  unfold gN;rw[List.map_append];rfl
 have lR:∀j,(g9 S.length j st 0).length<LIM:=fun j=>by rw[vR];unfold LIM;omega
 have lE:(gN st).length<LIM:=by unfold gN LIM;rw[List.length_map];omega
 have l0:(oS st).length=4*st.length:=ib st
 have l1:∀o:O,(oS st++[o]).length=4*st.length+1:=fun o=>by rw[List.length_append,l0];rfl
 have l2:∀o o':O,(oS st++[o,o']).length=4*st.length+2:=fun o o'=>by rw[List.length_append,l0];rfl
 have l3:∀o o' o'':O,(oS st++[o,o',o'']).length=4*st.length+3:=fun o o' o''=>by rw[List.length_append,l0];rfl
 have F0:∀{E L N P F:List (Key×U)} {X:Sto},lC c 0 (.ref S.length,hc c S E L N P F X)=some (.ref (S.length+1),hc c S E L N P F X):=fe hc0 rfl
 have F1:∀{E L N P F:List (Key×U)} {X:Sto},lC c 1 (.ref S.length,hc c S E L N P F X)=some (.ref (S.length+2),hc c S E L N P F X):=fe hc0 rfl
 have F2:∀{E L N P F:List (Key×U)} {X:Sto},lC c 2 (.ref S.length,hc c S E L N P F X)=some (.ref (S.length+3),hc c S E L N P F X):=fe hc0 rfl
 have F3:∀{E L N P F:List (Key×U)} {X:Sto},lC c 3 (.ref S.length,hc c S E L N P F X)=some (.ref (S.length+4),hc c S E L N P F X):=fe hc0 rfl
 have F4:∀{E L N P F:List (Key×U)} {X:Sto},lC c 4 (.ref S.length,hc c S E L N P F X)=some (.ref (S.length+5),hc c S E L N P F X):=fe hc0 rfl
 have dT:∀(ρ:Rho) (Z:Sto),zT ρ Z=some (.ref Z.length,Z++[.dit []]):=fun _ _=>rfl
 have fin:crs c S (st++[(a,qe st)])=hc c S (gN (st++[(a,qe st)])) (g9 S.length 1 (st++[(a,qe st)]) 0) (g9 S.length 2 (st++[(a,qe st)]) 0) (g9 S.length 3 (st++[(a,qe st)]) 0) (g9 S.length 0 (st++[(a,qe st)]) 0) (oS st++[.lst ((qe st).bf.map U.int),.lst [],.dit [],.dic []]):=by
  unfold crs hc;rw[ja];rfl
 rw[fin]
 have p0:=pr 0
 have p1:=pr 1
 have p2:=pr 2
 have p3:=pr 3
 rw[Nat.add_zero]at p0
 have C0:crs c S st=hc c S (gN st) (g9 S.length 1 st 0) (g9 S.length 2 st 0) (g9 S.length 3 st 0) (g9 S.length 0 st 0) (oS st):=rfl
 rw[C0]at B0 ⊢
 rwa[d8,B0,hcA,F0,F1,F2,F3,F4,hc1,hc2,hc3,hc4,hc5,ht1,ht2,ht3,ht4,ht5,lR,lE,if_true,p0,p1,p2,p3,pe,dT,hcl,l1,l2,l3]
noncomputable def m9(c:Cl):Fn:=fnU 3 2 (bu (rp c) (Ah c) c)
theorem gQ:decide (("look":Str)="begin")=false:=by decide +kernel
theorem iX:decide (("put":Str)="begin")=false:=by decide +kernel
theorem pD:decide (("put":Str)="look")=false:=by decide +kernel
theorem gS:decide (("done":Str)="begin")=false:=by decide +kernel
theorem nu:decide (("done":Str)="look")=false:=by decide +kernel
theorem gR:decide (("fall":Str)="begin")=false:=by decide +kernel
theorem nq:decide (("fall":Str)="look")=false:=by decide +kernel
noncomputable def Few(st:St)(m:Nat):Prop:=st.length<=m/\∀p∈st,p.2.lk.length<=m/\p.2.nd.length<=m/\p.2.ps.length<=m
theorem zi{n w:Int}{e:Ev}{m:Nat}(hk:(ay st).Nodup)(ok:uO n w st e)(fw:Few st m)(hm:m<=900):m9 c [.ref S.length,e.u] (crs c S st)=some (.non,crs c S (stp st e)):=by
 unfold m9
 rw[ow]
 have i0:∀st:St,(crs c S st)[S.length]?=some (.ins c [some (.ref (S.length+1)),some (.ref (S.length+2)),some (.ref (S.length+3)),some (.ref (S.length+4)),some (.ref (S.length+5))]):=fun _=>hd0
 cases e with
 |beg a=>
  have h:=zN (c:=c) (S:=S) hk ok.2.2 (by have:=fw.1;omega)
  rwa[bu,Ev.u,eM,h,i0,stp]
 |look a b x=>
  obtain⟨_,t,h1,h2,_⟩:=ok
  obtain⟨s1,s2,rfl⟩:=iH h1
  obtain⟨q1,q2,q3⟩:=fw.2 _ (List.mem_append_right s1 List.mem_cons_self)
  dsimp only at q1 q2
  have h:=E4 (c:=c) (S:=S) (b:=b) (x:=x) hk (by omega) (by omega)
  rwa[bu,Ev.u,gQ,eM,h,i0,stp,Ev.at,kI hk]
 |put a b x=>
  obtain⟨_,t,h1,h2⟩:=ok
  obtain⟨s1,s2,rfl⟩:=iH h1
  obtain⟨q1,q2,q3⟩:=fw.2 _ (List.mem_append_right s1 List.mem_cons_self)
  dsimp only at q3
  have F3:lC c 3 (.ref S.length,crs c S (s1++(a,t)::s2))=some (.ref (S.length+4),crs c S (s1++(a,t)::s2)):=fe hd0 rfl
  have f4:(crs c S (s1++(a,t)::s2))[S.length+4]?=some (.dic (g9 S.length 3 (s1++(a,t)::s2) 0)):=hd4
  have v3:=jS (S:=S) (j:=3) hk
  have g3:(crs c S (s1++(a,t)::s2))[S.length+(6+(4*s1.length+3))]?=some (.dic (hJ t.ps)):=oz (by omega)
  have lp:(hJ t.ps).length<LIM:=by unfold hJ LIM;rw[List.length_map];omega
  have s3:=uB (c:=c) (S:=S) (s1:=s1) (s2:=s2) (a:=a) (t:=t) (t':=t.ev (.put a b x)) (j:=3) (o:=.dic (hJ (iW t.ps b x))) (by omega) rfl rfl
  rwa[bu,Ev.u,iX,pD,eM,i0,F3,f4,v3,g3,lp,if_true,qA,s3,stp,Ev.at,kI hk]
 |fin d a=>
  obtain⟨t,h1,h2⟩:=ok
  obtain⟨s1,s2,rfl⟩:=iH h1
  have F0:lC c 0 (.ref S.length,crs c S (s1++(a,t)::s2))=some (.ref (S.length+1),crs c S (s1++(a,t)::s2)):=fe hd0 rfl
  have f1:(crs c S (s1++(a,t)::s2))[S.length+1]?=some (.dic (gN (s1++(a,t)::s2))):=hd1
  have lE:(gN (s1++(a,t)::s2)).length<LIM:=by have:=fw.1;unfold gN LIM;rw[List.length_map];omega
  have ce:=FH (c:=c) (S:=S) (d:=d) hk
  cases d with
  |true=>
   simp only[gZ,if_true]at ce
   rwa[bu,Ev.u,gZ,if_true,gS,nu,jR,i0,F0,f1,lE,ce,stp,Ev.at,Att.ev,kI hk]
  |false=>
   simp only[gZ,Bool.false_eq_true,if_false]at ce
   rwa[bu,Ev.u,gZ,Bool.false_eq_true,if_true,if_false,gR,nq,jQ,i0,F0,f1,lE,ce,stp,Ev.at,Att.ev,kI hk]
noncomputable def oQ(c:Cl):Fn:=fnU 1 1 (eX c)
theorem Ce(hns:c.ns.length=5):qV c (oQ c) [] S=some (.ref S.length,crs c S []):=by
 rw[Cu,hns]
 have h:oQ c [.ref S.length] (S++[.ins c (List.replicate 5 none)])=some (.non,crs c S []):=by
  unfold oQ
  rw[qZ]
  rwa[eX,List.replicate,List.length_append]
  rfl
 rw[h]
 rfl
theorem zm{n w:Int}{e:Ev}{m:Nat}(hk:(ay st).Nodup)(ok:uO n w st e)(fw:Few st m):Few (stp st e) (m+1):=by
  obtain⟨f1,f2⟩:=fw
  cases e with
  | beg a=>
    refine⟨by simp[stp];omega,fun p hp=>?_⟩
    rcases List.mem_append.mp hp with z|z
    · obtain⟨q1,q2,q3⟩:=f2 p z;exact⟨by omega,by omega,by omega⟩
    · simp at z;subst z;simp[qe]
  | _=>
    refine⟨by simp[stp,Ao];omega,fun p hp=>?_⟩
    simp only[stp,Ao]at hp
    obtain⟨q,hq,rfl⟩:=List.mem_map.mp hp
    obtain⟨q1,q2,q3⟩:=f2 q hq
    split
    · simp only[Att.ev]
      first
      | (split
         · exact⟨by omega,by omega,by omega⟩
         · refine⟨by simp;omega,?_,by dsimp only;omega⟩
           dsimp only[As]
           split
           · omega
           · simp;omega)
      |exact⟨by omega,by omega,Nat.le_trans (lA ..) (by omega)⟩
      |exact⟨by omega,by omega,by omega⟩
    · exact⟨by omega,by omega,by omega⟩
noncomputable def nc(c:Cl):Fn:=fnU 3 1 (gG (m9 c) (oQ c) c)
theorem oA{n w:Int}{x0:Option U}{ok:Sto->Prop}(hok:∀st,ok (crs c S st)):∀(es:List Ev) (st:St) (m:Nat) (r2:Option U),oT n w st es->(ay st).Nodup->Few st m->m+es.length<=900->
  ∃r2',eD ok (gNm 2) (jb (m9 c) (oQ c) c) (es.map Ev.u) [x0,some (.ref S.length),r2] (crs c S st)=some (.nx,[x0,some (.ref S.length),r2'],crs c S (aJ st es))
 |[],st,m,r2,_,_,_,_=>⟨r2,dq (hok st)⟩
 |e::es,st,m,r2,lf,hk,fw,hm=>by
  rw[List.length_cons]at hm
  obtain⟨oke,lf'⟩:=lf
  obtain⟨r2',ih⟩:=oA hok es (stp st e) (m+1) (some e.u) lf' (eU hk oke) (zm hk oke fw) (by omega)
  refine⟨r2',(dQ (hok st) rfl ?_).trans ih⟩
  have h:=zi (c:=c) (S:=S) hk oke fw (by omega)
  have i0:(crs c S st)[S.length]?=some (.ins c [some (.ref (S.length+1)),some (.ref (S.length+2)),some (.ref (S.length+3)),some (.ref (S.length+4)),some (.ref (S.length+5))]):=hd0
  rwa[jb,i0,h]
theorem tD{n w:Int}{N:Nat}{evs:List Ev}{l:Nat}(hns:c.ns.length=5)(hl:S[l]?=some (.lst (evs.map Ev.u)))(lo:oT n w [] evs)(he:evs.length<=900):nc c [.ref l] S=some (.ref S.length,crs c S (aJ [] evs)):=by
 unfold nc
 rw[uv]
 have hok:∀st,(crs c S st)[l]?=some (.lst (evs.map Ev.u)):=fun st=>by unfold crs;exact ah hl
 obtain⟨r2,h⟩:=oA (c:=c) (S:=S) (x0:=some (.ref l)) (ok:=fun S=>S[l]?=some (.lst (evs.map Ev.u))) hok evs [] 0 none lo (by simp[ay]) ⟨by simp,by simp⟩ (by omega)
 rwa[gG,Ce hns,i9,iTp,hok,h]
end
noncomputable def iR:CS:=
 (bH (dc 2 (aY (iTp (ag 0)) (gNm 0) (xh (aE (cOp fEq (cOp fIx (ag 0) (cC (.int 1))) (ag 1))) (aE (cOp (fIn false) (cOp fIx (ag 0) (cC (.int 0))) (mQ (ae (cC (.str "done")) (ae (cC (.str "fall")) aD)))))) (cOp fIx (ag 0) (cC (.int 0))) 1 [1]))
  (fC (cOp fIx (cOp gX (ag 2) (j9 (ae (cC (.str "open")) aD))) (cC (.int 0)))))
theorem w6{a0 a1:U}{S:Sto}:fnU 3 2 (iR ) [a0,a1] S=((iR ) [some a0,some a1,none] S).bind kFn:=jZ rfl
noncomputable def fR(dS bE:Fn):CS:=
 (fC (aY (iTp (cCB dS (ae (ag 0) aD))) (gNm 0) (cOr (aE (ag 1)) (aE (cOp fEq (cCB bE (ae (ag 2) (ae (ag 0) aD))) (cC (.str "done"))))) (ag 0) 1 [1,0]))
theorem tq{dS bE:Fn}{a0 a1:U}{S:Sto}:fnU 2 2 (fR dS bE) [a0,a1] S=((fR dS bE) [some a0,some a1] S).bind kFn:=jZ rfl
noncomputable def cZ(bE eE:Fn):CS:=
 (bH (dc 3 lN)
  (bH (gj (aE (cOp fEq (cCB bE (ae (ag 0) (ae (ag 1) aD))) (cC (.str "done")))) (dc 3 (cCB eE (ae (ag 0) (ae (ag 1) aD)))) cR)
  (fC (cCB lH (ae (fU (mL (ag 2)) (gTp [0,1]) (pj (ag 2) (ag 0) (ag 1)) 2 [3]) aD)))))
theorem o9{bE eE:Fn}{a0 a1 a2:U}{S:Sto}:fnU 4 3 (cZ bE eE) [a0,a1,a2] S=((cZ bE eE) [some a0,some a1,some a2,none] S).bind kFn:=jZ rfl
noncomputable def gI(dR:Fn):CS:=
 (fC (cOp (fIn true) (cC (.bl false)) (fU (iTp (cCB dR (ae (ag 0) (ae (ag 1) aD)))) (gTp [0,1]) (cOp fEq (cOp fIx (ag 2) (ag 0)) (ag 1)) 2 [2])))
theorem uy{dR:Fn}{a0 a1 a2:U}{S:Sto}:fnU 3 3 (gI dR) [a0,a1,a2] S=((gI dR) [some a0,some a1,some a2] S).bind kFn:=jZ rfl
noncomputable def lP(av:Cl):CS:=
 (gj (aE (cOp fNe (cOp fIx (ag 2) (cOp fIx (ag 3) (cC (.int 0)))) (cOp fIx (ag 3) (cC (.int 1))))) (fC (cC (.bl false))) cR)
noncomputable def qd(av:Cl):CS:=
 (bH (zS (cOp fIx (iE av 2 (ag 0)) (ag 1)) (gNm 3) (lP av))
  (fC (cC (.bl true))))
theorem Jg{av:Cl}{a0 a1 a2:U}{S:Sto}:fnU 4 3 (qd av) [a0,a1,a2] S=((qd av) [some a0,some a1,some a2,none] S).bind kFn:=jZ rfl
noncomputable def eN(av:Cl):CS:=
 (bH (gj (aE (cOp fNe (cOp fIx (iE av 0 (ag 0)) (ag 1)) (cC (.str "done")))) (fC (ag 2)) cR)
  (fC (cCB lH (ae (fU (mL (ag 2)) (gTp [0,1]) (pj (cOp fIx (iE av 3 (ag 3)) (ag 2)) (ag 0) (ag 1)) 2 [1,0]) aD))))
theorem sU{av:Cl}{a0 a1 a2:U}{S:Sto}:fnU 3 3 (eN av) [a0,a1,a2] S=((eN av) [some a0,some a1,some a2] S).bind kFn:=jZ rfl
noncomputable def iL(st:St)(a:Int):List (Int×Int):=((aX st a).map (·.lk)).getD []
noncomputable def iZ(st:St)(a:Int):List (Int×Int):=((aX st a).map (·.ps)).getD []
noncomputable def hU(st:St)(a:Int):Option Bool:=(aX st a).bind (·.en)
section
variable{n w:Int}{st:St}{e:Ev}{a:Int}
theorem mv(ok:uO n w st (.beg a)):aX st a=none:=iG.mpr ok.2.2
theorem mY(h:a≠e.at):iL (stp st e) a=iL st a/\iZ (stp st e) a=iZ st a/\hU (stp st e) a=hU st a:=by
 unfold iL iZ hU
 rw[cf h]
 exact⟨rfl,rfl,rfl⟩
theorem vy(ok:uO n w st (.beg a)):iL (stp st (.beg a)) a=iL st a/\iZ (stp st (.beg a)) a=iZ st a/\hU (stp st (.beg a)) a=hU st a:=by
 unfold iL iZ hU
 rw[fg ok.2.2,mv ok]
 exact⟨rfl,rfl,rfl⟩
theorem fS{t:Att}(h:aX st e.at=some t):iL (stp st e) e.at=(t.ev e).lk/\iZ (stp st e) e.at=(t.ev e).ps/\hU (stp st e) e.at=(t.ev e).en:=by
 unfold iL iZ hU
 rw[bT h]
 exact⟨rfl,rfl,rfl⟩
end
theorem qk{κ α:Type}[DecidableEq κ]{ps:List (κ×α)}{k b:κ}{v:α}:aX (iW ps k v) b=if b=k then some v else aX ps b:=by
 by_cases m:k∈ps.map (·.1)
 ·unfold iW
  rw[if_pos (by obtain⟨p,hp,e⟩:=List.mem_map.mp m;exact List.any_eq_true.mpr ⟨p,hp,by simp[e]⟩)]
  induction ps with
  |nil=>simp at m
  |cons p r ih=>
   unfold aX at ih ⊢
   simp only[List.map_cons,List.find?_cons]
   by_cases e1:p.1=k
   ·simp only[e1,if_true]
    by_cases e2:b=k
    ·subst e2;simp
    ·rw[decide_eq_false (Ne.symm e2),if_neg e2]
     by_cases m':k∈r.map (·.1)
     ·have:=ih m'
      rw[if_neg e2]at this
      exact this
     ·rw[List.map_congr_left (g:=id) fun q hq=>?_,List.map_id]
      rw[if_neg fun z=>m' (List.mem_map.mpr ⟨q,hq,z⟩)];rfl
   ·simp only[e1,if_false]
    have m':k∈r.map (·.1):=by
     rcases List.mem_cons.mp m with z|z
     ·exact absurd z.symm e1
     ·exact z
    by_cases e2:p.1=b
    ·rw[decide_eq_true e2]
     have:b≠k:=fun z=>e1 (e2.trans z)
     rw[if_neg this]
    ·rw[decide_eq_false e2]
     exact ih m'
 ·rw[qB m,kH]
  by_cases e2:b=k
  ·subst e2;rw[iG.mpr m,if_pos rfl];simp[aX]
  ·rw[if_neg e2]
   cases aX ps b with
   |some x=>rfl
   |none=>simp[aX,Ne.symm e2]
noncomputable def uL:Fn:=fnU 5 2 fP
theorem nv:decide (("begin":Str)="put")=false:=by decide +kernel
theorem rO:decide (("begin":Str)="look")=false:=by decide +kernel
theorem rP:decide (("begin":Str)="done")=false:=by decide +kernel
theorem Cv{neg:Bool}{b:Int}{us:List Int}{S:Sto}:kIn neg (.int b) S (some (.lst (us.map U.int)))=some (.bl (if neg then !decide (b∈us)else decide (b∈us)),S):=by
 rw[rG ⟨rfl,by simp[gf]⟩]
 have e:inU (.int b) (us.map U.int)=decide (b∈us):=by
  unfold inU
  rw[List.any_map,Bool.eq_iff_iff,List.any_eq_true,decide_eq_true_eq]
  constructor
  ·rintro⟨x,hx,hh⟩
   simp[eqF]at hh
   subst hh;exact hx
  ·intro hx
   exact⟨b,hx,by simp[eqF]⟩
 rw[e]
theorem pO{n w:Int}{S:Sto}{l:Nat}{us:List U}{a:Int}(hl:S[l]?=some (.lst us)):∀(es:List Ev) (st:St) (fd:List (Int×Int)) (pt:List Int) (r4:Option U),oT n w st es->fd=iL st a->(∀b,b∈pt↔(aX (iZ st a) b).isSome=true)->fd.length+es.length<=1000->pt.length+es.length<=1000->
  ∃(r4':Option U) (pt':List Int),eD (fun S=>S[l]?=some (.lst us)) (gNm 4) aW (es.map Ev.u) [some (.ref l),some (.int a),some (.ref S.length),some (.ref (S.length+1)),r4] (S++[.lst (fd.map pU),.lst (pt.map U.int)])
   = some (.nx,[some (.ref l),some (.int a),some (.ref S.length),some (.ref (S.length+1)),r4'],S++[.lst ((iL (aJ st es) a).map pU),.lst (pt'.map U.int)])
 |[],st,fd,pt,r4,_,e1,_,_,_=>⟨r4,pt,by subst e1;exact dq (ah hl)⟩
 |e::es,st,fd,pt,r4,lf,e1,e2,h1,h2=>by
  rw[List.length_cons]at h1 h2
  obtain⟨ok,lf'⟩:=lf
  have step:∀(fd':List (Int×Int)) (pt':List Int),fd'=iL (stp st e) a->(∀b,b∈pt'↔(aX (iZ (stp st e) a) b).isSome=true)->fd'.length<=fd.length+1->pt'.length<=pt.length+1->
    aW [some (.ref l),some (.int a),some (.ref S.length),some (.ref (S.length+1)),some e.u] (S++[.lst (fd.map pU),.lst (pt.map U.int)])=some (.nx,[some (.ref l),some (.int a),some (.ref S.length),some (.ref (S.length+1)),some e.u],S++[.lst (fd'.map pU),.lst (pt'.map U.int)])->
    ∃(r4':Option U) (pt':List Int),eD (fun S=>S[l]?=some (.lst us)) (gNm 4) aW ((e::es).map Ev.u) [some (.ref l),some (.int a),some (.ref S.length),some (.ref (S.length+1)),r4] (S++[.lst (fd.map pU),.lst (pt.map U.int)])
     = some (.nx,[some (.ref l),some (.int a),some (.ref S.length),some (.ref (S.length+1)),r4'],S++[.lst ((iL (aJ st (e::es)) a).map pU),.lst (pt'.map U.int)]):=fun fd' pt' f1 f2 f3 f4 hb=>by
   obtain⟨r4',pt2,ih⟩:=pO hl es (stp st e) fd' pt' (some e.u) lf' f1 f2 (by omega) (by omega)
   exact⟨r4',pt2,(dQ (ah hl) rfl hb).trans ih⟩
  have hF:(fd.map pU).length<LIM:=by unfold LIM;rw[List.length_map];omega
  have hP:(pt.map U.int).length<LIM:=by unfold LIM;rw[List.length_map];omega
  by_cases ea:a=e.at
  ·cases e with
   |beg b=>
    have eb:a=b:=ea
    subst eb
    obtain⟨k1,k2,_⟩:=vy ok
    refine step fd pt (by rw[k1];exact e1) (fun b=>by rw[k2];exact e2 b) (by omega) (by omega) ?_
    rwa[aW,Ev.u,nv,rO,eM]
   |look b1 b2 b3=>
    have eb:a=b1:=ea
    subst eb
    obtain⟨_,t,t1,t2,t3⟩:=id ok
    obtain⟨k1,k2,_⟩:=fS (e:=.look a b2 b3) t1
    simp only[Ev.at]at k1 k2
    have ps:iZ st a=t.ps:=by unfold iZ;rw[t1];rfl
    have lk:iL st a=t.lk:=by unfold iL;rw[t1];rfl
    have hm:=e2 b2
    rw[ps]at hm
    cases hv:(aX t.ps b2).isSome with
    |true=>
     have hb:b2∈pt:=hm.mpr hv
     refine step fd pt (by rw[k1,e1,lk];simp[Att.ev,hv]) (fun b=>by rw[k2,e2 b,ps];simp[Att.ev,hv]) (by omega) (by omega) ?_
     rwa[aW,Ev.u,jP,eM,Cv,hb,decide_true,if_true]
    |false=>
     have hb:b2∉pt:=fun z=>by rw[hm.mp z]at hv;cases hv
     refine step (fd++[(b2,b3)]) pt (by rw[k1,e1,lk];simp[Att.ev,hv]) (fun b=>by rw[k2,e2 b,ps];simp[Att.ev,hv]) (by simp) (by omega) ?_
     have pu:pU (b2,b3)=.tup [.int b2,.int b3]:=rfl
     rwa[aW,Ev.u,jP,eM,Cv,hb,decide_false,if_true,kG hF,List.map_append,pu]
   |put b1 b2 b3=>
    have eb:a=b1:=ea
    subst eb
    obtain⟨_,t,t1,t2⟩:=id ok
    obtain⟨k1,k2,_⟩:=fS (e:=.put a b2 b3) t1
    simp only[Ev.at]at k1 k2
    have ps:iZ st a=t.ps:=by unfold iZ;rw[t1];rfl
    have lk:iL st a=t.lk:=by unfold iL;rw[t1];rfl
    refine step fd (pt++[b2]) (by rw[k1,e1,lk];rfl) (fun b=>?_) (by omega) (by simp) ?_
    ·have hm:=e2 b
     rw[ps]at hm
     rw[k2,List.mem_append,hm]
     show _↔(aX (iW t.ps b2 b3) b).isSome=true
     rw[qk]
     by_cases z:b=b2
     ·subst z;simp
     ·simp[z]
    ·rwa[aW,Ev.u,pD,eM,kG hP,List.map_append]
   |fin d b1=>
    have eb:a=b1:=ea
    subst eb
    obtain⟨t,t1,t2⟩:=id ok
    obtain⟨k1,k2,_⟩:=fS (e:=.fin d a) t1
    simp only[Ev.at]at k1 k2
    have ps:iZ st a=t.ps:=by unfold iZ;rw[t1];rfl
    have lk:iL st a=t.lk:=by unfold iL;rw[t1];rfl
    refine step fd pt (by rw[k1,e1,lk];rfl) (fun b=>by rw[k2,e2 b,ps];rfl) (by omega) (by omega) ?_
    cases d with
    |true=>rwa[aW,Ev.u,gZ,if_true,jR,nu,eM]
    |false=>rwa[aW,Ev.u,gZ,Bool.false_eq_true,if_false,jQ,nq,eM]
  ·obtain⟨k1,k2,_⟩:=mY (st:=st) ea
   refine step fd pt (by rw[k1];exact e1) (fun b=>by rw[k2];exact e2 b) (by omega) (by omega) ?_
   have ea':e.at≠a:=Ne.symm ea
   cases e with
   |fin d b1=>cases d<;>(simp only[Ev.at]at ea';rwa[aW,Ev.u,gZ,ea'])
   |_=>simp only[Ev.at]at ea';rwa[aW,Ev.u,ea']
theorem cN{α:Type}{ok:Sto->Prop}{gg:CG}{ct:CT}{ce:CE}{S:Sto}{f:α->U}{p:α->Bool}{v:α->U}{Rel:Rho->Prop}(hok:∀ys G,ok (S++(.lst ys::G))) :
  ∀(xs:List α) (ys:List U) (G:Sto) (ρ:Rho),Rel ρ->ys.length+xs.length<=9999->
  (∀x∈xs,∀ys G ρ,Rel ρ->∃ρ0 G1,Rel ρ0/\gg (f x) ρ (S++(.lst ys::G))=some (ρ0,S++(.lst ys::G))/\ct ρ0 (S++(.lst ys::G))=some (p x,S++(.lst ys::(G++G1)))/\
   (p x=true->∃G2,ce ρ0 (S++(.lst ys::(G++G1)))=some (v x,S++(.lst ys::(G++G1++G2)))))->
  ∃G',cV ok gg ct ce S.length (xs.map f) ρ (S++(.lst ys::G))=some (S++(.lst (ys++(xs.filter p).map v)::(G++G')))
 |[],ys,G,ρ,_,_,_=>⟨[],by simp only[List.map_nil,List.filter_nil,List.append_nil];exact pY (hok ys G)⟩
 |x::xs,ys,G,ρ,hr,hl,hb=>by
  rw[List.length_cons]at hl
  obtain⟨ρ0,G1,r0,h1,h2,h3⟩:=hb x List.mem_cons_self ys G ρ hr
  have hb':=fun x (hx:x∈xs)=>hb x (List.mem_cons_of_mem _ hx)
  cases hp:p x with
  |false=>
   rw[hp]at h2
   obtain⟨G',h⟩:=cN hok xs ys (G++G1) ρ0 r0 (by omega) hb'
   refine⟨G1++G',?_⟩
   rw[List.map_cons,List.filter_cons_of_neg (by simp[hp])]
   refine(tH (hok ys G) h1 h2).trans ?_
   rw[h,List.append_assoc]
  |true=>
   rw[hp]at h2
   obtain⟨G2,h4⟩:=h3 hp
   obtain⟨G',h⟩:=cN hok xs (ys++[v x]) (G++G1++G2) ρ0 r0 (by simp;omega) hb'
   refine⟨G1++(G2++G'),?_⟩
   rw[List.map_cons,List.filter_cons_of_pos hp]
   refine(pX (hok ys G) h1 h2 h4 (by rw[ga0];rfl) (by unfold LIM;omega)).trans ?_
   rw[gs0]
   simp only[List.set_cons_zero]
   rw[h]
   simp only[List.map_cons,List.append_assoc,List.cons_append,List.nil_append]
theorem lL{α:Type}{ok:Sto->Prop}{gg:CG}{ce:CE}{S:Sto}{f:α->U}{v:α->U}{Rel:Rho->Prop}(hok:∀ys G,ok (S++(.lst ys::G))) :
  ∀(xs:List α) (ys:List U) (G:Sto) (ρ:Rho),Rel ρ->ys.length+xs.length<=9999->
  (∀x∈xs,∀ys G ρ,Rel ρ->∃ρ0 G1,Rel ρ0/\gg (f x) ρ (S++(.lst ys::G))=some (ρ0,S++(.lst ys::G))/\ce ρ0 (S++(.lst ys::G))=some (v x,S++(.lst ys::(G++G1))))->
  ∃G',ig ok gg ce S.length (xs.map f) ρ (S++(.lst ys::G))=some (S++(.lst (ys++xs.map v)::(G++G')))
 |[],ys,G,ρ,_,_,_=>⟨[],by simp only[List.map_nil,List.append_nil];exact m7 (hok ys G)⟩
 |x::xs,ys,G,ρ,hr,hl,hb=>by
  rw[List.length_cons]at hl
  obtain⟨ρ0,G1,r0,h1,h2⟩:=hb x List.mem_cons_self ys G ρ hr
  obtain⟨G',h⟩:=lL hok xs (ys++[v x]) (G++G1) ρ0 r0 (by simp;omega) (fun x hx=>hb x (List.mem_cons_of_mem _ hx))
  refine⟨G1++G',?_⟩
  rw[List.map_cons]
  refine(lM (hok ys G) h1 h2 (by rw[ga0];rfl) (by unfold LIM;omega)).trans ?_
  rw[gs0]
  simp only[List.set_cons_zero]
  rw[h]
  simp only[List.map_cons,List.append_assoc,List.cons_append,List.nil_append]
section
variable{n w:Int}{S:Sto}{l:Nat}{evs:List Ev}{a:Int}
theorem BO(hl:S[l]?=some (.lst (evs.map Ev.u)))(lo:oT n w [] evs)(he:evs.length<=900) :
  ∃pt:List Int,uL [.ref l,.int a] S=some (.ref S.length,S++[.lst ((iL (aJ [] evs) a).map pU),.lst (pt.map U.int)]):=by
 unfold uL
 rw[sZ]
 obtain⟨r4,pt,h⟩:=pO (a:=a) hl evs [] [] [] none lo rfl (by simp[iZ,aX]) (by simp;omega) (by simp;omega)
 simp only[List.map_nil]at h
 exact⟨pt,by rwa[fP,i9,iTp,ah hl,h,List.length_append,Nat.zero_add]⟩
noncomputable def Ag:Fn:=fnU 4 2 gH
theorem sj{us:List U}(hl:S[l]?=some (.lst us)):∀(es:List Ev) (st:St) (ps:List (Int×Int)) (r3:Option U),oT n w st es->ps=iZ st a->ps.length+es.length<=1000->
  ∃r3':Option U,eD (fun S=>S[l]?=some (.lst us)) (gNm 3) bw (es.map Ev.u) [some (.ref l),some (.int a),some (.ref S.length),r3] (S++[.dic (hJ ps)])
   = some (.nx,[some (.ref l),some (.int a),some (.ref S.length),r3'],S++[.dic (hJ (iZ (aJ st es) a))])
 |[],st,ps,r3,_,e1,_=>⟨r3,by subst e1;exact dq (ah hl)⟩
 |e::es,st,ps,r3,lf,e1,h1=>by
  rw[List.length_cons]at h1
  obtain⟨ok,lf'⟩:=lf
  have step:∀ps':List (Int×Int),ps'=iZ (stp st e) a->ps'.length<=ps.length+1->
    bw [some (.ref l),some (.int a),some (.ref S.length),some e.u] (S++[.dic (hJ ps)])=some (.nx,[some (.ref l),some (.int a),some (.ref S.length),some e.u],S++[.dic (hJ ps')])->
    ∃r3':Option U,eD (fun S=>S[l]?=some (.lst us)) (gNm 3) bw ((e::es).map Ev.u) [some (.ref l),some (.int a),some (.ref S.length),r3] (S++[.dic (hJ ps)])
     = some (.nx,[some (.ref l),some (.int a),some (.ref S.length),r3'],S++[.dic (hJ (iZ (aJ st (e::es)) a))]):=fun ps' f1 f2 hb=>by
   obtain⟨r3',ih⟩:=sj hl es (stp st e) ps' (some e.u) lf' f1 (by omega)
   exact⟨r3',(dQ (ah hl) rfl hb).trans ih⟩
  have hP:(hJ ps).length<LIM:=by unfold LIM hJ;rw[List.length_map];omega
  by_cases ea:a=e.at
  ·cases e with
   |beg b=>
    have eb:a=b:=ea
    subst eb
    obtain⟨_,k2,_⟩:=vy ok
    refine step ps (by rw[k2];exact e1) (by omega) ?_
    rwa[bw,Ev.u,nv,eM]
   |look b1 b2 b3=>
    have eb:a=b1:=ea
    subst eb
    obtain⟨_,t,t1,t2,t3⟩:=id ok
    obtain⟨_,k2,_⟩:=fS (e:=.look a b2 b3) t1
    simp only[Ev.at]at k2
    have pt:iZ st a=t.ps:=by unfold iZ;rw[t1];rfl
    refine step ps (by rw[k2,e1,pt];simp only[Att.ev];split<;>rfl) (by omega) ?_
    rwa[bw,Ev.u,jP,eM]
   |put b1 b2 b3=>
    have eb:a=b1:=ea
    subst eb
    obtain⟨_,t,t1,t2⟩:=id ok
    obtain⟨_,k2,_⟩:=fS (e:=.put a b2 b3) t1
    simp only[Ev.at]at k2
    have pt:iZ st a=t.ps:=by unfold iZ;rw[t1];rfl
    refine step (iW ps b2 b3) (by rw[k2,e1,pt];rfl) (lA ..) ?_
    rwa[bw,Ev.u,eM,hP,if_true,qA]
   |fin d b1=>
    have eb:a=b1:=ea
    subst eb
    obtain⟨t,t1,t2⟩:=id ok
    obtain⟨_,k2,_⟩:=fS (e:=.fin d a) t1
    simp only[Ev.at]at k2
    have pt:iZ st a=t.ps:=by unfold iZ;rw[t1];rfl
    refine step ps (by rw[k2,e1,pt];rfl) (by omega) ?_
    cases d with
    |true=>rwa[bw,Ev.u,gZ,if_true,jR,eM]
    |false=>rwa[bw,Ev.u,gZ,Bool.false_eq_true,if_false,jQ,eM]
  ·obtain⟨_,k2,_⟩:=mY (st:=st) ea
   refine step ps (by rw[k2];exact e1) (by omega) ?_
   have ea':e.at≠a:=Ne.symm ea
   cases e with
   |fin d b1=>cases d<;>(simp only[Ev.at]at ea';rwa[bw,Ev.u,gZ,ea'])
   |_=>simp only[Ev.at]at ea';rwa[bw,Ev.u,ea']
theorem Ey(hl:S[l]?=some (.lst (evs.map Ev.u)))(lo:oT n w [] evs)(he:evs.length<=900) :
  Ag [.ref l,.int a] S=some (.ref S.length,S++[.dic (hJ (iZ (aJ [] evs) a))]):=by
 unfold Ag
 rw[ux]
 obtain⟨r3,h⟩:=sj (a:=a) hl evs [] [] none lo rfl (by simp;omega)
 simp only[hJ,List.map_nil]at h
 rwa[gH,i9,iTp,ah hl,h,hJ]
noncomputable def i7(a:Int):Ev->Option Bool
 |.fin d b=>if b=a then some d else none
 |_=>none
theorem Dk:∀(es:List Ev) (st:St),oT n w st es->hU (aJ st es) a=(hU st a).or (es.filterMap (i7 a)).head?
 |[],st,_=>by simp[aJ]
 |e::es,st,lf=>by
  obtain⟨ok,lf'⟩:=lf
  have ih:=Dk es (stp st e) lf'
  show hU (aJ (stp st e) es) a=_
  rw[ih]
  by_cases ea:a=e.at
  ·cases e with
   |beg b=>
    have eb:a=b:=ea
    subst eb
    obtain⟨_,_,k3⟩:=vy ok
    rw[k3];rfl
   |look b1 b2 b3=>
    have eb:a=b1:=ea
    subst eb
    obtain⟨_,t,t1,t2,t3⟩:=id ok
    obtain⟨_,_,k3⟩:=fS (e:=.look a b2 b3) t1
    simp only[Ev.at]at k3
    have pt:hU st a=t.en:=by unfold hU;rw[t1];rfl
    rw[k3,pt,List.filterMap_cons]
    simp only[Att.ev,i7];split<;>rfl
   |put b1 b2 b3=>
    have eb:a=b1:=ea
    subst eb
    obtain⟨_,t,t1,t2⟩:=id ok
    obtain⟨_,_,k3⟩:=fS (e:=.put a b2 b3) t1
    simp only[Ev.at]at k3
    have pt:hU st a=t.en:=by unfold hU;rw[t1];rfl
    rw[k3,pt];rfl
   |fin d b1=>
    have eb:a=b1:=ea
    subst eb
    obtain⟨t,t1,t2⟩:=id ok
    obtain⟨_,_,k3⟩:=fS (e:=.fin d a) t1
    simp only[Ev.at]at k3
    have pt:hU st a=t.en:=by unfold hU;rw[t1];rfl
    rw[k3,pt,t2,List.filterMap_cons]
    simp[i7,Att.ev]
  ·obtain⟨_,_,k3⟩:=mY (st:=st) ea
   rw[k3]
   have:i7 a e=none:=by cases e<;>simp_all [i7,Ev.at,Ne.symm]
   rw[List.filterMap_cons,this]
noncomputable def uM:Fn:=fnU 3 2 iR
theorem vL:inU (.str "begin") [.str "done",.str "fall"]=false:=by decide +kernel
noncomputable def B6:Ev->U
 |.fin d _=>.str (gZ d)
 |_=>.non
theorem vQ(a:Int):∀es:List Ev,(es.filter fun e=>(i7 a e).isSome).map B6=(es.filterMap (i7 a)).map fun d=>U.str (gZ d)
 |[]=>rfl
 |e::es=>by
  have ih:=vQ a es
  rw[List.filter_cons,List.filterMap_cons]
  cases hf:i7 a e with
  |none=>simpa [hf] using ih
  |some d=>
   have he:B6 e=.str (gZ d):=by
    cases e with
    |fin d' b=>
     simp only[i7]at hf
     split at hf<;>cases hf
     rfl
    |_=>simp[i7]at hf
   simpa [hf,he] using ih
theorem Dj(hl:S[l]?=some (.lst (evs.map Ev.u)))(lo:oT n w [] evs)(he:evs.length<=900) :
  ∃G:Sto,uM [.ref l,.int a] S=some (.str (enS (hU (aJ [] evs) a)),S++G):=by
 unfold uM
 rw[w6]
 have hr:=Dk (a:=a) evs [] lo
 obtain⟨G',h⟩:=cN (S:=S) (ok:=fun S=>S[l]?=some (.lst (evs.map Ev.u))) (gg:=gNm 0)
  (ct:=xh (aE (cOp fEq (cOp fIx (ag 0) (cC (.int 1))) (ag 1))) (aE (cOp (fIn false) (cOp fIx (ag 0) (cC (.int 0))) (mQ (ae (cC (.str "done")) (ae (cC (.str "fall")) aD))))))
  (ce:=cOp fIx (ag 0) (cC (.int 0))) (f:=Ev.u) (p:=fun e=>(i7 a e).isSome) (v:=B6) (Rel:=fun ρ=>∃r0,ρ=[r0,some (.int a)]) (fun ys G=>ah hl) evs [] [] [none,some (.int a)] ⟨_,rfl⟩ (by simp;omega) (fun e he ys G ρ hρ=>by
   obtain⟨r0,rfl⟩:=hρ
   refine⟨[some e.u,some (.int a)],[],⟨_,rfl⟩,rfl,?_,fun hp=>⟨[],?_⟩⟩
   ·cases e with
    |fin d b=>
     by_cases z:b=a
     ·cases d with
      |true=>rwa[Ev.u,gZ,if_true,z,gW,uj,i7,Option.isSome_some,List.append_nil]
      |false=>rwa[Ev.u,gZ,Bool.false_eq_true,if_false,if_true,z,gW,ui,i7,Option.isSome_some,List.append_nil]
     ·cases d<;>rwa[Ev.u,gZ,z,i7,if_false,Option.isSome_none,List.append_nil]
    |beg b=>by_cases z:b=a<;>rwa[Ev.u,z,gW,vL,i7,Option.isSome_none,List.append_nil]
    |look b _ _=>by_cases z:b=a<;>rwa[Ev.u,z,gW,uh,i7,Option.isSome_none,List.append_nil]
    |put b _ _=>by_cases z:b=a<;>rwa[Ev.u,z,gW,y4,i7,Option.isSome_none,List.append_nil]
   ·cases e with
    |fin d b=>rwa[Ev.u,B6,List.append_nil]
    |_=>simp[i7]at hp)
 rw[vQ]at h
 simp only[List.nil_append]at h
 obtain⟨ds,hds⟩:∃ds,ds=evs.filterMap (i7 a):=⟨_,rfl⟩
 have hdl:ds.length<=900:=by rw[hds];exact Nat.le_trans (List.length_filterMap_le ..) he
 rw[<-hds]at h hr
 have hen:atI (ds.map (fun d=>U.str (gZ d))++[U.str "open"]) 0=some (.str (enS (hU (aJ [] evs) a))):=by
  rw[hr]
  have e0:hU [] a=none:=rfl
  rw[e0]
  cases ds with
  |nil=>rfl
  |cons d r=>exact at0
 have lcat:gX (.ref S.length) (.ref (S.length+(G'.length+1))) (S++(.lst (ds.map fun d=>U.str (gZ d))::(G'++[.lst [.str "open"]])))=some (.ref (S.length+(G'.length+1+1)),S++(.lst (ds.map fun d=>U.str (gZ d))::(G'++[.lst [.str "open"],.lst (ds.map (fun d=>U.str (gZ d))++[.str "open"])]))):=by
  have g1:(S++(O.lst (ds.map fun d=>U.str (gZ d))::(G'++[.lst [.str "open"]])))[S.length+(G'.length+1)]?=some (.lst [.str "open"]):=by rw[ga,List.getElem?_cons_succ,List.getElem?_append_right (by omega)];simp
  simp only[gX,ky,ga0,List.getElem?_cons_zero,g1]
  rw[if_pos (by unfold LIM;simp;omega)]
  simp[Nat.add_assoc]
 refine⟨.lst (ds.map fun d=>U.str (gZ d))::(G'++[.lst [.str "open"],.lst (ds.map (fun d=>U.str (gZ d))++[.str "open"])]),?_⟩
 have g2:(S++(O.lst (ds.map fun d=>U.str (gZ d))::(G'++[.lst [.str "open"],.lst (ds.map (fun d=>U.str (gZ d))++[.str "open"])])))[S.length+(G'.length+1+1)]?=some (.lst (ds.map (fun d=>U.str (gZ d))++[.str "open"])):=by
  rw[ga,List.getElem?_cons_succ,List.getElem?_append_right (by omega)];simp
 rwa[iR,aY,iTp,hl,kn,List.replicate,Option.getD_some,h,List.length_append,lcat,g2,hen]
end
noncomputable def Cm:Ev->U
 |.beg a=>.int a
 |_=>.non
noncomputable def fc:Ev->Bool
 |.beg _=>true
 |_=>false
theorem vW:∀(es:List Ev) (st:St),(ay (aJ st es)).map U.int=(ay st).map U.int++(es.filter fc).map Cm
 |[],st=>by simp[aJ]
 |e::es,st=>by
  have ih:=vW es (stp st e)
  show(ay (aJ (stp st e) es)).map U.int=_
  rw[ih,jX,List.filter_cons]
  cases e<;>simp[fc,Cm]
noncomputable def LkI(n:Int)(st:St):Prop:=∀a t,aX st a=some t->(∀p∈t.lk,0<=p.1/\p.1<n)/\∀p,p∈t.nd↔p∈t.lk
theorem BK{nd:List (Int×Int)}{p q:Int×Int}:p∈As nd q↔p∈nd\/p=q:=by
 unfold As
 split
 ·exact⟨.inl,fun h=>h.elim id fun e=>e▸‹_›⟩
 ·simp
theorem E7{n w:Int}{st:St}{e:Ev}(ok:uO n w st e)(h:LkI n st):LkI n (stp st e):=by
 intro a t ht
 by_cases ea:a=e.at
 ·cases e with
  |beg b=>
   have eb:a=b:=ea
   subst eb
   rw[fg ok.2.2]at ht
   cases ht
   simp[qe]
  |look b1 b2 b3=>
   have eb:a=b1:=ea
   subst eb
   obtain⟨bd,t0,t1,t2,t3⟩:=id ok
   have:=bT (e:=.look a b2 b3) t1
   simp only[Ev.at]at this
   rw[this]at ht;cases ht
   obtain⟨h1,h2⟩:=h a t0 t1
   simp only[Att.ev]
   split
   ·exact⟨h1,h2⟩
   ·refine⟨fun p hp=>?_,fun p=>by rw[BK,h2];simp⟩
    rcases List.mem_append.mp hp with z|z
    ·exact h1 p z
    ·simp at z;subst z;exact⟨bd.1,bd.2.1⟩
  |put b1 b2 b3=>
   have eb:a=b1:=ea
   subst eb
   obtain⟨_,t0,t1,t2⟩:=id ok
   have:=bT (e:=.put a b2 b3) t1
   simp only[Ev.at]at this
   rw[this]at ht;cases ht
   exact h a t0 t1
  |fin d b1=>
   have eb:a=b1:=ea
   subst eb
   obtain⟨t0,t1,t2⟩:=id ok
   have:=bT (e:=.fin d a) t1
   simp only[Ev.at]at this
   rw[this]at ht;cases ht
   exact h a t0 t1
 ·rw[cf ea]at ht
  exact h a t ht
theorem qK{n w:Int}:∀(es:List Ev) (st:St),oT n w st es->LkI n st->LkI n (aJ st es)
 |[],st,_,h=>h
 |e::es,st,lf,h=>qK es (stp st e) lf.2 (E7 lf.1 h)
theorem K8{n:Int}:LkI n []:=fun a t h=>by simp[aX]at h
theorem zo{n w:Int}:∀(es:List Ev) (st:St) (m:Nat),oT n w st es->(ay st).Nodup->Few st m->Few (aJ st es) (m+es.length)
 |[],st,m,_,_,h=>h
 |e::es,st,m,lf,hk,h=>by
  have:=zo es (stp st e) (m+1) lf.2 (eU hk lf.1) (zm hk lf.1 h)
  rw[List.length_cons,show m+(es.length+1)=m+1+es.length from by omega]
  exact this
noncomputable def chg(st:St)(a:Int)(x:List Int):List Int:=if hU st a=some true then beh x (iZ st a) 0 else x
noncomputable def mN(x:List Int)(p:Int×Int):Bool:=decide (x.getD p.1.toNat 0=p.2)
noncomputable def qU(st:St)(a:Int)(x:List Int):Bool:=(iL st a).all (mN x)
theorem jY{o:Option Bool}:decide (enS o=("done":Str))=decide (o=some true):=by
 rcases o with _|_|_<;>decide +kernel
theorem inB(bs:List Bool):inU (.bl false) (bs.map U.bl)=!bs.all id:=by
 unfold inU
 induction bs with
 |nil=>rfl
 |cons b r ih=>rw[List.map_cons,List.any_cons,ih];cases b<;>simp[eqF]
theorem DG(x:List Int):sR (x.map U.int)=x.zipIdx.map fun p=>.tup [.int p.2,.int p.1]:=by
 unfold sR
 rw[List.zipIdx_map,List.map_map]
 rfl
section
variable{n w:Int}{S:Sto}{l:Nat}{evs:List Ev}{a:Int}{N:Nat}
noncomputable def rq:Fn:=fnU 1 1 fQ
theorem Cj(hl:S[l]?=some (.lst (evs.map Ev.u)))(lo:jG n w N evs)(he:evs.length<=900)(hN:N<=60) :
  ∃(G:Sto) (k:Nat),rq [.ref l] S=some (.ref (S.length+k),S++G)/\G[k]?=some (.lst ((bO (ay (aJ [] evs))).map U.int)):=by
 unfold rq
 rw[tm]
 obtain⟨G',h⟩:=cN (S:=S) (ok:=fun S=>S[l]?=some (.lst (evs.map Ev.u))) (gg:=gNm 0)
  (ct:=aE (cOp fEq (cOp fIx (ag 0) (cC (.int 0))) (cC (.str "begin"))))
  (ce:=cOp fIx (ag 0) (cC (.int 1))) (f:=Ev.u) (p:=fc) (v:=Cm) (Rel:=fun ρ=>∃r0,ρ=[r0]) (fun ys G=>ah hl) evs [] [] [none] ⟨_,rfl⟩ (by simp;omega) (fun e he ys G ρ hρ=>by
   obtain⟨r0,rfl⟩:=hρ
   refine⟨[some e.u],[],⟨_,rfl⟩,rfl,?_,fun hp=>⟨[],?_⟩⟩
   ·cases e with
    |fin d b=>cases d with
     |true=>rwa[Ev.u,gZ,if_true,gS,fc,List.append_nil]
     |false=>rwa[Ev.u,gZ,Bool.false_eq_true,if_false,gR,fc,List.append_nil]
    |beg b=>rwa[Ev.u,eM,fc,List.append_nil]
    |look b _ _=>rwa[Ev.u,gQ,fc,List.append_nil]
    |put b _ _=>rwa[Ev.u,iX,fc,List.append_nil]
   ·cases e with
    |beg b=>rwa[Ev.u,Cm,List.append_nil]
    |_=>simp[fc]at hp)
 have hk:=vW evs []
 simp only[ay,List.map_nil,List.nil_append]at hk h
 rw[<-hk]at h
 have hc:=lo.cnt
 have fT:((aJ [] evs).map (·.1)).length<64:=by rw[List.length_map];omega
 refine⟨.lst (((aJ [] evs).map (·.1)).map U.int)::(G'++[.lst ((bO (ay (aJ [] evs))).map U.int)]),G'.length+1,?_,?_⟩
 ·have hs:dg [.ref S.length] (S++(.lst (((aJ [] evs).map (·.1)).map U.int)::G'))=some (.ref (S.length+(G'.length+1)),S++(.lst (((aJ [] evs).map (·.1)).map U.int)::(G'++[.lst ((bO (ay (aJ [] evs))).map U.int)]))):=by
   simp only[dg,ga0,List.getElem?_cons_zero,jC,Option.bind_some,fT,if_true]
   simp[ay]
  rwa[fQ,aY,iTp,hl,kn,List.replicate,h,hs]
 ·rw[List.getElem?_cons_succ,List.getElem?_append_right (by omega)];simp
noncomputable def iC:Fn:=fnU 2 2 (fR rq uM)
noncomputable def iT:Fn:=fnU 4 3 (cZ uM Ag)
theorem zf{Z:Sto}{r:Nat}{ps:List (Int×Int)}(hr:Z[r]?=some (.dic (hJ ps)))(x:List Int)(hx:x.length<=100):∃G',ig (fun _=>True) (gTp [0,1]) (pj (ag 2) (ag 0) (ag 1)) Z.length (sR (x.map U.int)) [none,none,some (.ref r)] (Z++[.lst []])=some (Z++(.lst ((beh x ps 0).map U.int)::G')):=by
 obtain⟨zs,h,e⟩:=lU hr x 0 [] none none (by simp;omega)
 subst e
 exact⟨[],h⟩
theorem w8(hl:S[l]?=some (.lst (evs.map Ev.u)))(lo:jG n w N evs)(he:evs.length<=900){x:List Int}(hx:x.length<=100) :
  ∃G:Sto,iT [.ref l,.int a,.tup (x.map U.int)] S=some (.tup ((chg (aJ [] evs) a x).map U.int),S++G):=by
 unfold iT
 rw[o9]
 have es:∀Z:Sto,x8 (.tup (x.map U.int)) Z=some (x.map U.int,fun _=>True):=fun _=>rfl
 have gl:∀Y:Sto,(S++Y)[l]?=some (.lst (evs.map Ev.u)):=fun Y=>ah hl
 obtain⟨G1,h1⟩:=Dj (a:=a) (gl [.dic []]) lo.lo he
 rw[List.append_assoc]at h1
 have gl':(S++([O.dic []]++G1))[l]?=some (.lst (evs.map Ev.u)):=ah hl
 by_cases hd:hU (aJ [] evs) a=some true
 ·have h2:=Ey (a:=a) gl' lo.lo he
  obtain⟨G3,h3⟩:=zf (Z:=S++(([O.dic []]++G1)++[.dic (hJ (iZ (aJ [] evs) a))])) (r:=S.length+(1+G1.length)) (ps:=iZ (aJ [] evs) a) (by rw[ga,List.append_assoc,List.singleton_append,Nat.add_comm 1,List.getElem?_cons_succ,List.getElem?_append_right (Nat.le_refl _),Nat.sub_self];rfl) x hx
  have hch:chg (aJ [] evs) a x=beh x (iZ (aJ [] evs) a) 0:=by unfold chg;rw[if_pos hd]
  rw[hch]
  refine⟨([O.dic []]++G1)++([.dic (hJ (iZ (aJ [] evs) a))]++(.lst ((beh x (iZ (aJ [] evs) a) 0).map U.int)::G3)),?_⟩
  simp only[List.append_assoc,List.cons_append,List.nil_append]at h1 h2 h3
  have ln:(S++O.dic []::G1).length=S.length+(1+G1.length):=by simp;omega
  rw[ln]at h2
  have gz:∀Z:Sto,(S++O.dic []::(G1++O.dic (hJ (iZ (aJ [] evs) a))::Z))[(S++O.dic []::(G1++[O.dic (hJ (iZ (aJ [] evs) a))])).length]?=Z[0]?:=fun Z=>by
   have:=ga0 (S:=S++O.dic []::(G1++[O.dic (hJ (iZ (aJ [] evs) a))])) (X:=Z)
   simp only[List.append_assoc,List.cons_append,List.nil_append]at this
   exact this
  rwa[cZ,h1,jY,hd,h2,fU,mL,es,kn,List.replicate,Option.getD_some,h3,gz]
 ·obtain⟨G3,h3⟩:=zf (Z:=S++([O.dic []]++G1)) (r:=S.length) (ps:=[]) (by rw[ga0];rfl) x hx
  have hch:chg (aJ [] evs) a x=x:=by unfold chg;rw[if_neg hd]
  rw[hch]
  rw[FL]at h3
  simp only[List.append_assoc,List.cons_append,List.nil_append]at h1 h3
  refine⟨.dic []::(G1++(.lst (x.map U.int)::G3)),?_⟩
  have gz:∀Z:Sto,(S++O.dic []::(G1++Z))[(S++O.dic []::G1).length]?=Z[0]?:=fun Z=>by
   have:=ga0 (S:=S++O.dic []::G1) (X:=Z)
   simp only[List.append_assoc,List.cons_append,List.nil_append]at this
   exact this
  rwa[cZ,h1,jY,hd,fU,mL,es,kn,List.replicate,Option.getD_some,h3,gz]
noncomputable def mj:Fn:=fnU 3 3 (gI uL)
theorem BP(hl:S[l]?=some (.lst (evs.map Ev.u)))(lo:jG n w N evs)(he:evs.length<=900){x:List Int}(hx:x.length=n.toNat) :
  ∃G:Sto,mj [.ref l,.int a,.tup (x.map U.int)] S=some (.bl (qU (aJ [] evs) a x),S++G):=by
 unfold mj
 rw[uy]
 obtain⟨pt,h1⟩:=BO (a:=a) hl lo.lo he
 have hb:∀p∈iL (aJ [] evs) a,0<=p.1/\p.1<n:=fun p hp=>by
  unfold iL at hp
  cases hv:aX (aJ [] evs) a with
  |none=>rw[hv]at hp;simp at hp
  |some t=>rw[hv]at hp;exact(qK evs [] lo.lo K8 a t hv).1 p hp
 have fT:(iL (aJ [] evs) a).length<=9999:=by
  have fw:=zo evs [] 0 lo.lo (by simp[ay]) ⟨by simp,by simp⟩
  unfold iL
  cases hv:aX (aJ [] evs) a with
  |none=>simp
  |some t=>
   have:=(fw.2 _ (jU hv)).1
   show t.lk.length<=9999
   dsimp only at this
   omega
 obtain⟨G',h⟩:=lL (S:=S++[.lst ((iL (aJ [] evs) a).map pU),.lst (pt.map U.int)]) (ok:=fun Z=>Z[S.length]?=some (.lst ((iL (aJ [] evs) a).map pU))) (gg:=gTp [0,1])
  (ce:=cOp fEq (cOp fIx (ag 2) (ag 0)) (ag 1)) (f:=pU) (v:=fun p=>U.bl (mN x p)) (Rel:=fun ρ=>∃r0 r1,ρ=[r0,r1,some (.tup (x.map U.int))]) (fun ys G=>ah (by rw[ga0];rfl)) (iL (aJ [] evs) a) [] [] [none,none,some (.tup (x.map U.int))] ⟨_,_,rfl⟩ (by simpa using fT) (fun p hp ys G ρ hρ=>by
   obtain⟨r0,r1,rfl⟩:=hρ
   obtain⟨b0,b1⟩:=hb p hp
   refine⟨[some (.int p.1),some (.int p.2),some (.tup (x.map U.int))],[],⟨_,_,rfl⟩,rfl,?_⟩
   rwa[atF hx b0 b1,mN,List.append_nil])
 refine⟨[.lst ((iL (aJ [] evs) a).map pU),.lst (pt.map U.int)]++(.lst ((iL (aJ [] evs) a).map fun p=>U.bl (mN x p))::G'),?_⟩
 have g1:(S++[O.lst ((iL (aJ [] evs) a).map pU),.lst (pt.map U.int)])[S.length]?=some (.lst ((iL (aJ [] evs) a).map pU)):=by rw[ga0];rfl
 have hin:inU (.bl false) ((iL (aJ [] evs) a).map fun p=>U.bl (mN x p))=!qU (aJ [] evs) a x:=by
  have:=inB ((iL (aJ [] evs) a).map (mN x))
  rw[List.map_map]at this
  have e:(U.bl ∘ mN x)=fun p=>U.bl (mN x p):=rfl
  rw[e]at this
  rw[this,List.all_map];rfl
 have hfl:gf (.bl false)=true/\((iL (aJ [] evs) a).map fun p=>U.bl (mN x p)).all gf=true:=⟨rfl,by simp[gf]⟩
 have hi:=rG (neg:=true) (S:=S++([.lst ((iL (aJ [] evs) a).map pU),.lst (pt.map U.int)]++(.lst ((iL (aJ [] evs) a).map fun p=>U.bl (mN x p))::G'))) hfl
 rw[hin]at hi
 simp only[List.append_assoc,List.nil_append,List.length_append]at h
 have gz:(S++O.lst (List.map pU (iL (aJ [] evs) a))::O.lst (List.map U.int pt)::O.lst (List.map (fun p=>U.bl (mN x p)) (iL (aJ [] evs) a))::G')[S.length+(0+1+1)]?=some (O.lst (List.map (fun p=>U.bl (mN x p)) (iL (aJ [] evs) a))):=by rw[ga];rfl
 simp only[List.length_cons,List.length_nil,List.cons_append,List.nil_append]at h hi g1
 rwa[gI,fU,iTp,h1,g1,kn,List.replicate,List.length_append,Option.getD_some,h,gz,hi,if_true,Bool.not_not]
end
section
variable{c:Cl}{n w:Int}{S G:Sto}{st:St}{a:Int}{t:Att}{x:List Int}
theorem cF{i:Nat}{u:U}(h:[some (U.ref (S.length+1)),some (.ref (S.length+2)),some (.ref (S.length+3)),some (.ref (S.length+4)),some (.ref (S.length+5))][i]?=some (some u)):lC c i (.ref S.length,crs c S st++G)=some (u,crs c S st++G):=fe (ah hd0) h
theorem cB{j:Nat}(hj:j<4)(h:aX st a=some t)(hk:(ay st).Nodup):∃r,aX (g9 S.length j st 0) (.inl a)=some (.ref r)/\∀G,(crs c S st++G)[r]?=(blk t)[j]?:=by
 obtain⟨s1,s2,rfl⟩:=iH h
 refine⟨_,jS hk,fun G=>?_⟩
 have:=oz (c:=c) (S:=S) (s1:=s1) (s2:=s2) (a:=a) (t:=t) hj
 have hs:∃o,(blk t)[j]?=some o:=by
  have:j<(blk t).length:=by simpa [blk] using hj
  exact⟨_,List.getElem?_eq_getElem this⟩
 obtain⟨o,ho⟩:=hs
 rw[ho]at this ⊢
 exact ah this
noncomputable def Ak(c:Cl):Fn:=fnU 4 3 (qd c)
noncomputable def yN(x:List Int):List (Int×Int)->Option U->Option U
 |[],r=>r
 |p::nd,_=>if mN x p then yN x nd (some (.tup [.int p.1,.int p.2]))else some (.tup [.int p.1,.int p.2])
theorem sO{Z:Sto}{ok:Sto->Prop}(hz:ok Z){r0 r1:Option U}(hx:x.length=n.toNat):∀(nd:List (Int×Int)) (r3:Option U),(∀p∈nd,0<=p.1/\p.1<n)->
  eD ok (gNm 3) (lP c) ((sT nd).map fun q=>.tup (q.1.map kU)) [r0,r1,some (.tup (x.map U.int)),r3] Z=some (if nd.all (mN x)then .nx else .rt (.bl false),[r0,r1,some (.tup (x.map U.int)),yN x nd r3],Z)
 |[],r3,_=>dq hz
 |p::nd,r3,hb=>by
  obtain⟨b0,b1⟩:=hb p List.mem_cons_self
  have kk:([Sum.inl p.1,Sum.inl p.2]:List Key).map kU=[.int p.1,.int p.2]:=rfl
  have hf:atI (x.map U.int) p.1=some (.int (x.getD p.1.toNat 0)):=atF hx b0 b1
  cases e:mN x p with
  |true=>
   have ih:=sO (r0:=r0) (r1:=r1) hz hx nd (some (.tup [.int p.1,.int p.2])) (fun q hq=>hb q (List.mem_cons_of_mem _ hq))
   rw[List.all_cons,e,Bool.true_and,yN,if_pos e]
   refine(dQ hz rfl ?_).trans ih
   have de:decide (x.getD p.1.toNat 0=p.2)=true:=e
   rwa[lP,kk,hf,de]
  |false=>
   rw[List.all_cons,e,Bool.false_and,if_neg Bool.false_ne_true,yN,if_neg (by rw[e];exact Bool.false_ne_true)]
   refine qJ hz rfl ?_
   have de:decide (x.getD p.1.toNat 0=p.2)=false:=e
   rwa[lP,kk,hf,de]
theorem A5{Z:Sto}{r:Nat}{o o':O}(h:Z[r]?=some o):(Z.set r o').set r o=Z:=by
 rw[List.set_set]
 refine List.ext_getElem? fun i=>?_
 rw[List.getElem?_set]
 split
 ·subst i
  obtain⟨h1,h2⟩:=List.getElem?_eq_some_iff.mp h
  simp[h1,h2]
 ·rfl
theorem Ft(hk:(ay st).Nodup)(hv:aX st a=some t)(hb:∀p∈t.nd,0<=p.1/\p.1<n)(hx:x.length=n.toNat) :
  Ak c [.ref S.length,.int a,.tup (x.map U.int)] (crs c S st++G)=some (.bl (t.nd.all (mN x)),crs c S st++G):=by
 unfold Ak
 rw[Jg]
 obtain⟨r,v2,g2⟩:=cB (c:=c) (S:=S) (j:=2) (by omega) hv hk
 have f3:(crs c S st++G)[S.length+3]?=some (.dic (g9 S.length 2 st 0)):=ah hd3
 have F2:lC c 2 (.ref S.length,crs c S st++G)=some (.ref (S.length+3),crs c S st++G):=cF rfl
 have gr:(crs c S st++G)[r]?=some (.dit (sT t.nd)):=g2 G
 have hr:r<(crs c S st++G).length:=(List.getElem?_eq_some_iff.mp gr).1
 have hfor:zS (cOp fIx (iE c 2 (ag 0)) (ag 1)) (gNm 3) (lP c) [some (.ref S.length),some (.int a),some (.tup (x.map U.int)),none] (crs c S st++G)=some (if t.nd.all (mN x)then .nx else .rt (.bl false),[some (.ref S.length),some (.int a),some (.tup (x.map U.int)),yN x t.nd none],crs c S st++G):=by
  have h0:cOp fIx (iE c 2 (ag 0)) (ag 1) [some (.ref S.length),some (.int a),some (.tup (x.map U.int)),none] (crs c S st++G)=some (.ref r,crs c S st++G):=by
   rwa[F2,f3,v2]
  unfold zS
  rw[h0,Option.bind_some]
  simp only[gr]
  refine CC fun ep=>?_
  have key:=sO (c:=c) (n:=n) (x:=x) (r0:=some (.ref S.length)) (r1:=some (.int a)) (Z:=(crs c S st++G).set r (.fdt ep (sT t.nd))) (ok:=fun S'=>S'[r]?=some (.fdt ep (sT t.nd))) (by rw[List.getElem?_set,if_pos rfl,if_pos hr]) hx t.nd none hb
  rw[key,Option.bind_some]
  have e1:((crs c S st++G).set r (.fdt ep (sT t.nd)))[r]?=some (.fdt ep (sT t.nd)):=by rw[List.getElem?_set,if_pos rfl,if_pos hr]
  simp only[e1,A5 gr]
 cases hc:t.nd.all (mN x)with
 |true=>
  rw[hc,if_pos rfl]at hfor
  rwa[qd,hfor]
 |false=>
  rw[hc,if_neg Bool.false_ne_true]at hfor
  rwa[qd,hfor]
noncomputable def JI(c:Cl):Fn:=fnU 3 3 (eN c)
theorem KD(hk:(ay st).Nodup)(hv:aX st a=some t)(hx:x.length<=100) :
  ∃G',JI c [.ref S.length,.int a,.tup (x.map U.int)] (crs c S st++G)=some (.tup ((chg st a x).map U.int),crs c S st++(G++G')):=by
 unfold JI
 rw[sU]
 have f1:∀G,(crs c S st++G)[S.length+1]?=some (.dic (gN st)):=fun G=>ah hd1
 have F0:∀G,lC c 0 (.ref S.length,crs c S st++G)=some (.ref (S.length+1),crs c S st++G):=fun G=>cF rfl
 have v0:aX (gN st) (.inl a)=some (.str (enS t.en)):=by
  obtain⟨s1,s2,rfl⟩:=iH hv
  exact ql hk
 have he:hU st a=t.en:=by unfold hU;rw[hv];rfl
 have hp:iZ st a=t.ps:=by unfold iZ;rw[hv];rfl
 by_cases hd:t.en=some true
 ·have hch:chg st a x=beh x t.ps 0:=by unfold chg;rw[he,if_pos hd,hp]
  obtain⟨r,v3,g3⟩:=cB (c:=c) (S:=S) (j:=3) (by omega) hv hk
  have f4:∀G,(crs c S st++G)[S.length+4]?=some (.dic (g9 S.length 3 st 0)):=fun G=>ah hd4
  have F3:∀G,lC c 3 (.ref S.length,crs c S st++G)=some (.ref (S.length+4),crs c S st++G):=fun G=>cF rfl
  have g3':∀G,(crs c S st++G)[r]?=some (.dic (hJ t.ps)):=g3
  obtain⟨G',h⟩:=lL (S:=crs c S st++G) (ok:=fun _=>True) (gg:=gTp [0,1]) (ce:=pj (cOp fIx (iE c 3 (ag 3)) (ag 2)) (ag 0) (ag 1)) (f:=fun p:Int×Nat=>.tup [.int p.2,.int p.1]) (v:=fun p=>.int ((aX t.ps (p.2:Int)).getD p.1)) (Rel:=fun ρ=>∃r0 r1,ρ=[r0,r1,some (.int a),some (.ref S.length)]) (fun _ _=>trivial) x.zipIdx [] [] [none,none,some (.int a),some (.ref S.length)] ⟨_,_,rfl⟩ (by simp;omega) (fun p hp ys G2 ρ hρ=>by
   obtain⟨r0,r1,rfl⟩:=hρ
   refine⟨[some (.int p.2),some (.int p.1),some (.int a),some (.ref S.length)],[],⟨_,_,rfl⟩,rfl,?_⟩
   have hv2:((aX t.ps (p.2:Int)).map U.int).getD (.int p.1)=.int ((aX t.ps (p.2:Int)).getD p.1):=by cases aX t.ps (p.2:Int)<;>rfl
   rwa[F3,f4,v3,g3',jT,hv2,List.append_nil])
  have eb:(x.zipIdx.map fun p=>U.int ((aX t.ps (p.2:Int)).getD p.1))=(beh x t.ps 0).map U.int:=by unfold beh;rw[List.map_map];rfl
  rw[eb,<-DG]at h
  simp only[List.nil_append,List.append_assoc]at h
  refine⟨.lst ((beh x t.ps 0).map U.int)::G',?_⟩
  have es:∀Z:Sto,x8 (.tup (x.map U.int)) Z=some (x.map U.int,fun _=>True):=fun _=>rfl
  have gz:∀Z:Sto,(crs c S st++(G++Z))[(crs c S st++G).length]?=Z[0]?:=fun Z=>by
   have:=ga0 (S:=crs c S st++G) (X:=Z)
   simp only[List.append_assoc]at this
   exact this
  rw[hch]
  rwa[eN,F0,f1,v0,jY,hd,fU,mL,es,kn,List.replicate,Option.getD_some,h,gz]
 ·have hch:chg st a x=x:=by unfold chg;rw[he,if_neg hd]
  refine⟨[],?_⟩
  rw[hch]
  rwa[eN,F0,f1,v0,jY,hd,List.append_nil]
theorem zM{a:Int}:(chg st a x).length=x.length:=by unfold chg;split<;>simp[uG]
end
noncomputable def iN:CS:=
 (fC (pq (uE .int (ag 0)) (zR (uE .bool (ag 0)))))
theorem wW{a0:U}{S:Sto}:fnU 1 1 (iN ) [a0] S=((iN ) [some a0] S).bind kFn:=jZ rfl
noncomputable def gp(av:Cl):CS:=
 (fC (JG (ag 1) (cOp fEq (cOp fIx (iE av 0 (ag 0)) (ag 2)) (cC (.str "done")))))
theorem wY{av:Cl}{a0 a1 a2:U}{S:Sto}:fnU 3 3 (gp av) [a0,a1,a2] S=((gp av) [some a0,some a1,some a2] S).bind kFn:=jZ rfl
noncomputable def iP(bo:Fn)(av:Cl):CS:=
 (fC (aY (iTp (cCB dg (ae (iE av 0 (ag 0)) aD))) (gNm 0) (aE (cCB bo (ae (ag 1) (ae (ag 2) (ae (ag 0) aD))))) (ag 0) 1 [0,1]))
theorem wZ{bo:Fn}{av:Cl}{a0 a1:U}{S:Sto}:fnU 2 2 (iP bo av) [a0,a1] S=((iP bo av) [some a0,some a1] S).bind kFn:=jZ rfl
noncomputable def oC(bq bj:Fn):CS:=
 (fC (cCB bq (ae (cCB bj (ae (ag 0) aD)) (ae (ag 1) aD))))
theorem FD{bq bj:Fn}{a0 a1:U}{S:Sto}:fnU 2 2 (oC bq bj) [a0,a1] S=((oC bq bj) [some a0,some a1] S).bind kFn:=jZ rfl
noncomputable def fb(bq bo:Fn)(aH av:Cl):CS:=
 (ff (iE aH 2 (ag 0)) (ag 3) (aY (iTp (cOp fIx (iE av 4 (ag 1)) (ag 3))) (gNm 0) (aE (cCB bo (ae (ag 1) (ae (ag 2) (ae (ag 0) aD))))) (ag 0) 1 [1,2]))
noncomputable def e8(bq bo:Fn)(aH av:Cl):CS:=
 (bH (ph aH 0 (ag 0) (ag 1))
  (bH (ph aH 1 (ag 0) (cCB bq (ae (ag 1) (ae (ag 2) aD))))
  (bH (ph aH 2 (ag 0) lN)
  (i9 (iTp (iE aH 1 (ag 0))) (gNm 3) (fb bq bo aH av)))))
theorem q0{bq bo:Fn}{aH av:Cl}{a0 a1 a2:U}{S:Sto}:fnU 4 3 (e8 bq bo aH av) [a0,a1,a2] S=((e8 bq bo aH av) [some a0,some a1,some a2,none] S).bind kFn:=jZ rfl
noncomputable def bA(n5:Fn)(aH:Cl):CS:=
 (fC (pq (cCB Dg (ae (fU (iTp (cOp fIx (iE aH 2 (ag 0)) (ag 1))) (gNm 0) (cOp (fIn false) (ag 0) (ag 1)) 1 [2]) aD)) (cCB n5 (ae (iE aH 0 (ag 0)) (ae (ag 1) (ae (ag 3) aD))))))
theorem j7{n5:Fn}{aH:Cl}{a0 a1 a2 a3:U}{S:Sto}:fnU 4 4 (bA n5 aH) [a0,a1,a2,a3] S=((bA n5 aH) [some a0,some a1,some a2,some a3] S).bind kFn:=jZ rfl
noncomputable def du(cu aM:Fn)(aH:Cl):CS:=
 (bH (gj (Du (aE (tK aH aM (ag 0) (ae (ag 5) (ae (ag 3) (ae (ag 4) aD)))))) (fC (cC (.bl false))) cR)
  (bH (ff (ag 3) (ag 5) (cC (.bl true)))
  (dc 4 (cCB cu (ae (iE aH 0 (ag 0)) (ae (ag 5) (ae (ag 4) aD)))))))
noncomputable def bQ(cu aM:Fn)(aH:Cl):CS:=
 (bH (gj (aE (cOp (mI true) (cCB dg (ae (ag 1) aD)) (iE aH 1 (ag 0)))) (fC (cC (.bl false))) cR)
  (bH (dc 3 lN)
  (bH (dc 4 (ag 2))
  (bH (i9 (iTp (ag 1)) (gNm 5) (du cu aM aH))
  (fC (cC (.bl true)))))))
theorem mP{cu aM:Fn}{aH:Cl}{a0 a1 a2:U}{S:Sto}:fnU 6 3 (bQ cu aM aH) [a0,a1,a2] S=((bQ cu aM aH) [some a0,some a1,some a2,none,none,none] S).bind kFn:=jZ rfl
noncomputable def iO(fA bj bP cU:Fn)(aH:Cl):CS:=
 (bH (gj (Du (aE (cCB Dg (ae (fU (iTp (ag 4)) (gNm 0) (cCB fA (ae (ag 0) aD)) 1 []) aD)))) (fC (cC (.bl false))) cR)
  (fC (tK aH bP (cCB (qV aH cU) (ae (cCB bj (ae (ag 2) aD)) (ae (ag 3) aD))) (ae (ag 4) (ae (ag 1) aD)))))
theorem wX{fA bj bP cU:Fn}{aH:Cl}{a0 a1 a2 a3 a4:U}{S:Sto}:fnU 5 5 (iO fA bj bP cU aH) [a0,a1,a2,a3,a4] S=((iO fA bj bP cU aH) [some a0,some a1,some a2,some a3,some a4] S).bind kFn:=jZ rfl
noncomputable def uH(st:St)(every:Bool)(a:Int):Bool:=every||decide (hU st a=some true)
noncomputable def dw(st:St)(every:Bool):List Int:=(bO (ay st)).filter (uH st every)
noncomputable def gc(st:St)(every:Bool)(t:Att):List Int:=t.bf.filter (uH st every)
section
variable{c cA:Cl}{n w:Int}{S G:Sto}{st:St}{a:Int}{t:Att}{x:List Int}{every:Bool}
theorem lX(h:a∈ay st):∃t,aX st a=some t:=by
 cases hv:aX st a with
 |some t=>exact⟨t,rfl⟩
 |none=>exact absurd h (iG.mp hv)
theorem Ei(h:aX st a=some t):a∈ay st:=Classical.byContradiction fun z=>by
 have:=iG.mpr z
 rw[h]at this;cases this
noncomputable def iB(c:Cl):Fn:=fnU 3 3 (gp c)
theorem vG(hk:(ay st).Nodup)(hv:aX st a=some t):iB c [.ref S.length,.bl every,.int a] (crs c S st++G)=some (.bl (uH st every a),crs c S st++G):=by
 unfold iB
 rw[wY]
 have f1:(crs c S st++G)[S.length+1]?=some (.dic (gN st)):=ah hd1
 have F0:lC c 0 (.ref S.length,crs c S st++G)=some (.ref (S.length+1),crs c S st++G):=cF rfl
 have v0:aX (gN st) (.inl a)=some (.str (enS t.en)):=by
  obtain⟨s1,s2,rfl⟩:=iH hv
  exact ql hk
 have he:hU st a=t.en:=by unfold hU;rw[hv];rfl
 cases every with
 |true=>
  have e:uH st true a=true:=rfl
  rw[e]
  rwa[gp]
 |false=>
  have e:uH st false a=decide (t.en=some true):=by unfold uH;rw[he,Bool.false_or]
  rw[e]
  rwa[gp,F0,f1,v0,jY]
theorem pQ:∀st:St,wF (gN st)=some (ay st)
 |[]=>rfl
 |p::r=>by
  have ih:=pQ r
  unfold gN ay at ih ⊢
  rw[List.map_cons,wF,ih];rfl
noncomputable def iU(c:Cl):Fn:=fnU 2 2 (iP (iB c) c)
theorem qf(hk:(ay st).Nodup)(hl:st.length<64):∃G' k,iU c [.ref S.length,.bl every] (crs c S st++G)=some (.ref ((crs c S st++G).length+k),crs c S st++(G++G'))/\G'[k]?=some (.lst ((dw st every).map U.int)):=by
 unfold iU
 rw[wZ]
 have f1:(crs c S st++G)[S.length+1]?=some (.dic (gN st)):=ah hd1
 have F0:lC c 0 (.ref S.length,crs c S st++G)=some (.ref (S.length+1),crs c S st++G):=cF rfl
 have hlk:(ay st).length<64:=by unfold ay;rw[List.length_map];exact hl
 have hs:dg [.ref (S.length+1)] (crs c S st++G)=some (.ref (crs c S st++G).length,crs c S st++G++[.lst ((bO (ay st)).map U.int)]):=by
  simp only[dg,f1,pQ,Option.bind_some,hlk,if_true]
 have hsl:(bO (ay st)).length<64:=by rw[(bX _).length_eq];exact hlk
 obtain⟨G',h⟩:=cN (S:=crs c S st++G++[.lst ((bO (ay st)).map U.int)]) (ok:=fun Y=>Y[(crs c S st++G).length]?=some (.lst ((bO (ay st)).map U.int))) (gg:=gNm 0) (ct:=aE (cCB (iB c) (ae (ag 1) (ae (ag 2) (ae (ag 0) aD))))) (ce:=ag 0) (f:=U.int) (p:=uH st every) (v:=U.int) (Rel:=fun ρ=>∃r0,ρ=[r0,some (.ref S.length),some (.bl every)]) (fun ys G=>ah (by rw[ga0];rfl)) (bO (ay st)) [] [] [none,some (.ref S.length),some (.bl every)] ⟨_,rfl⟩ (by simp;omega) (fun b hb ys G2 ρ hρ=>by
   obtain⟨r0,rfl⟩:=hρ
   obtain⟨t,hv⟩:=lX ((bX _).mem_iff.mp hb)
   have h1:=vG (c:=c) (S:=S) (G:=G++([.lst ((bO (ay st)).map U.int)]++(.lst ys::G2))) (every:=every) hk hv
   simp only[List.cons_append,List.nil_append]at h1
   refine⟨[some (.int b),some (.ref S.length),some (.bl every)],[],⟨_,rfl⟩,rfl,?_,fun _=>⟨[],?_⟩⟩
   ·rwa[h1,List.append_nil]
   ·rwa[List.append_nil])
 refine⟨[.lst ((bO (ay st)).map U.int)]++(.lst ((dw st every).map U.int)::G'),1,?_,rfl⟩
 have g0:(crs c S st++G++[O.lst ((bO (ay st)).map U.int)])[(crs c S st++G).length]?=some (.lst ((bO (ay st)).map U.int)):=by rw[ga0];rfl
 have hc:cCB dg (ae (iE c 0 (ag 0)) aD) [some (.ref S.length),some (.bl every)] (crs c S st++G)=some (.ref (crs c S st++G).length,crs c S st++G++[.lst ((bO (ay st)).map U.int)]):=by
  rwa[F0]
  rw[hs]
  simp only[List.append_assoc]
 have hcomp:aY (iTp (cCB dg (ae (iE c 0 (ag 0)) aD))) (gNm 0) (aE (cCB (iB c) (ae (ag 1) (ae (ag 2) (ae (ag 0) aD))))) (ag 0) 1 [0,1] [some (.ref S.length),some (.bl every)] (crs c S st++G)=some (.ref ((crs c S st++G).length+1),crs c S st++G++[.lst ((bO (ay st)).map U.int)]++(.lst ((dw st every).map U.int)::G')):=by
  unfold aY iTp
  rw[hc,Option.bind_some]
  have ln:(crs c S st++G++[O.lst ((bO (ay st)).map U.int)]).length=(crs c S st++G).length+1:=by rw[List.length_append];rfl
  rw[ln]at h
  simp only[List.nil_append]at h
  simp only[g0,Option.bind_some,kn,List.replicate,List.map_cons,List.map_nil,List.getElem?_cons_zero,List.getElem?_cons_succ,Option.getD_some,List.cons_append,List.nil_append,ln,h]
  rfl
 rwa[iP,hcomp]
noncomputable def ng(c:Cl):Fn:=fnU 2 2 (oC (iU c) (nc c))
theorem Aa{N:Nat}{evs:List Ev}{l:Nat}(hns:c.ns.length=5)(hl:S[l]?=some (.lst (evs.map Ev.u)))(lg:jG n w N evs)(he:evs.length<=900)(hN:N<64) :
  ∃G' k,ng c [.ref l,.bl every] S=some (.ref (S.length+k),S++G')/\G'[k]?=some (.lst ((dw (aJ [] evs) every).map U.int)):=by
 unfold ng
 rw[FD]
 have h1:=tD (c:=c) (N:=N) hns hl lg.lo he
 obtain⟨G',k,h2,g2⟩:=qf (c:=c) (S:=S) (G:=[]) (every:=every) lg.kd (Nat.lt_of_le_of_lt lg.cnt hN)
 simp only[List.append_nil,List.nil_append]at h2
 obtain⟨C,hC⟩:∃C,crs c S (aJ [] evs)=S++C:=⟨_,rfl⟩
 refine⟨C++G',C.length+k,?_,?_⟩
 ·have ln:(crs c S (aJ [] evs)).length+k=S.length+(C.length+k):=by rw[hC,List.length_append];omega
  rw[ln]at h2
  rw[<-List.append_assoc,<-hC]
  rwa[oC,h1,h2]
 ·rw[List.getElem?_append_right (by omega),Nat.add_sub_cancel_left];exact g2
end
noncomputable def BfI(st:St):Prop:=∀a t,aX st a=some t->(∀b∈t.bf,b∈ay st/\b≠a)/\t.bf.Nodup
theorem bf0{st:St}:(qe st).bf=(st.filter fun p=>p.2.en.isSome).map (·.1):=rfl
theorem FK{n w:Int}{st:St}{e:Ev}(hk:(ay st).Nodup)(ok:uO n w st e)(h:BfI st):BfI (stp st e):=by
 have sub:∀b,b∈ay st->b∈ay (stp st e):=fun b hb=>by
  rw[jX]
  cases e with
  |beg a=>exact List.mem_append_left _ hb
  |_=>exact hb
 intro a t ht
 by_cases ea:a=e.at
 ·cases e with
  |beg b=>
   have eb:a=b:=ea
   subst eb
   rw[fg ok.2.2]at ht
   cases ht
   rw[bf0]
   refine⟨fun b hb=>?_,?_⟩
   ·obtain⟨p,hp,rfl⟩:=List.mem_map.mp hb
    have hm:p.1∈ay st:=List.mem_map.mpr ⟨p,(List.mem_filter.mp hp).1,rfl⟩
    exact⟨sub _ hm,fun z=>ok.2.2 (z▸hm)⟩
   ·have:((st.filter fun p=>p.2.en.isSome).map (·.1)).Sublist (st.map (·.1)):=List.Sublist.map _ List.filter_sublist
    exact List.Nodup.sublist this hk
  |look b1 b2 b3=>
   have eb:a=b1:=ea
   subst eb
   obtain⟨bd,t0,t1,t2,t3⟩:=id ok
   have:=bT (e:=.look a b2 b3) t1
   simp only[Ev.at]at this
   rw[this]at ht;cases ht
   have q:=h a t0 t1
   have e1:(t0.ev (.look a b2 b3)).bf=t0.bf:=by simp only[Att.ev];split<;>rfl
   rw[e1]
   exact⟨fun b hb=>⟨sub b (q.1 b hb).1,(q.1 b hb).2⟩,q.2⟩
  |put b1 b2 b3=>
   have eb:a=b1:=ea
   subst eb
   obtain⟨_,t0,t1,t2⟩:=id ok
   have:=bT (e:=.put a b2 b3) t1
   simp only[Ev.at]at this
   rw[this]at ht;cases ht
   have q:=h a t0 t1
   exact⟨fun b hb=>⟨sub b (q.1 b hb).1,(q.1 b hb).2⟩,q.2⟩
  |fin d b1=>
   have eb:a=b1:=ea
   subst eb
   obtain⟨t0,t1,t2⟩:=id ok
   have:=bT (e:=.fin d a) t1
   simp only[Ev.at]at this
   rw[this]at ht;cases ht
   have q:=h a t0 t1
   exact⟨fun b hb=>⟨sub b (q.1 b hb).1,(q.1 b hb).2⟩,q.2⟩
 ·rw[cf ea]at ht
  have q:=h a t ht
  exact⟨fun b hb=>⟨sub b (q.1 b hb).1,(q.1 b hb).2⟩,q.2⟩
theorem rj{n w:Int}:∀(es:List Ev) (st:St),oT n w st es->(ay st).Nodup->BfI st->BfI (aJ st es)
 |[],st,_,_,h=>h
 |e::es,st,lf,hk,h=>rj es (stp st e) lf.2 (eU hk lf.1) (FK hk lf.1 h)
theorem Lz:BfI []:=fun a t h=>by simp[aX]at h
theorem zW{st:St}(hk:(ay st).Nodup)(h:BfI st){a:Int}{t:Att}(hv:aX st a=some t):t.bf.length<=st.length:=by
 have:=List.Nodup.length_le_of_subset (h a t hv).2 (l₂:=ay st) fun b hb=>((h a t hv).1 b hb).1
 unfold ay at this
 rwa[List.length_map]at this
section
variable{c cA:Cl}{n w:Int}{S G:Sto}{st:St}{a:Int}{t:Att}{x:List Int}{every:Bool}
noncomputable def rA(c cA:Cl):Fn:=fnU 4 3 (e8 (iU c) (iB c) cA c)
noncomputable def FR(st:St)(every:Bool)(B:Nat)(as:List Int)(D:List (Key×U))(R:Sto):Prop:=∀a t,a∈as->aX st a=some t->∃r,aX D (.inl a)=some (.ref (B+r))/\R[r]?=some (.lst ((gc st every t).map U.int))
theorem yB{Z R:Sto}{D:List (Key×U)}{fus:List (Option U)}{L B:Nat}(hk:(ay st).Nodup)(bi:BfI st)(hl:st.length<=100)(hv:aX st a=some t)(hZ:∃C,Z=crs c S st++C)(hL:Z[L]?=some (.ins cA fus))(hf:fus[2]?=some (some (.ref Z.length)))(hD:D.length<1000) :
  ∃R',fb (iU c) (iB c) cA c [some (.ref L),some (.ref S.length),some (.bl every),some (.int a)] (Z++(.dic D::R))=some (.nx,[some (.ref L),some (.ref S.length),some (.bl every),some (.int a)],Z++(.dic (iW D (.inl a) (.ref (Z.length+1+R.length)))::(R++(.lst ((gc st every t).map U.int)::R')))):=by
 obtain⟨C,rfl⟩:=hZ
 obtain⟨r,v0,g0⟩:=cB (c:=c) (S:=S) (j:=0) (by omega) hv hk
 have F4:lC c 4 (.ref S.length,crs c S st++(C++(.dic D::R)))=some (.ref (S.length+5),crs c S st++(C++(.dic D::R))):=cF rfl
 have f5:(crs c S st++(C++(O.dic D::R)))[S.length+5]?=some (.dic (g9 S.length 0 st 0)):=ah hd5
 have gr:∀X,(crs c S st++X)[r]?=some (.lst (t.bf.map U.int)):=g0
 have bl:=zW hk bi hv
 obtain⟨R',h⟩:=cN (S:=crs c S st++C++(.dic D::R)) (ok:=fun Y=>Y[r]?=some (.lst (t.bf.map U.int))) (gg:=gNm 0) (ct:=aE (cCB (iB c) (ae (ag 1) (ae (ag 2) (ae (ag 0) aD))))) (ce:=ag 0) (f:=U.int) (p:=uH st every) (v:=U.int) (Rel:=fun ρ=>∃r0,ρ=[r0,some (.ref S.length),some (.bl every)]) (fun ys G=>by rw[List.append_assoc,List.append_assoc];exact gr _) t.bf [] [] [none,some (.ref S.length),some (.bl every)] ⟨_,rfl⟩ (by simp;omega) (fun b hb ys G2 ρ hρ=>by
   obtain⟨r0,rfl⟩:=hρ
   obtain⟨t',hv'⟩:=lX ((bi a t hv).1 b hb).1
   have h1:=vG (c:=c) (S:=S) (G:=C++((.dic D::R)++(.lst ys::G2))) (every:=every) hk hv'
   simp only[List.cons_append]at h1
   refine⟨[some (.int b),some (.ref S.length),some (.bl every)],[],⟨_,rfl⟩,rfl,?_,fun _=>⟨[],?_⟩⟩
   ·rwa[h1,List.append_nil]
   ·rwa[List.append_nil])
 simp only[List.nil_append]at h
 refine⟨R',?_⟩
 have hi:cOp fIx (iE c 4 (ag 1)) (ag 3) [some (.ref L),some (.ref S.length),some (.bl every),some (.int a)] (crs c S st++C++(.dic D::R))=some (.ref r,crs c S st++C++(.dic D::R)):=by
  rwa[F4,f5,v0]
 have hcomp:aY (iTp (cOp fIx (iE c 4 (ag 1)) (ag 3))) (gNm 0) (aE (cCB (iB c) (ae (ag 1) (ae (ag 2) (ae (ag 0) aD))))) (ag 0) 1 [1,2] [some (.ref L),some (.ref S.length),some (.bl every),some (.int a)] (crs c S st++C++(.dic D::R))=some (.ref (crs c S st++C++(.dic D::R)).length,crs c S st++C++(.dic D::R)++(.lst ((gc st every t).map U.int)::R')):=by
  unfold aY iTp
  rw[hi,Option.bind_some]
  have gr':(crs c S st++C++(O.dic D::R))[r]?=some (.lst (t.bf.map U.int)):=by rw[List.append_assoc];exact gr _
  simp only[gr',Option.bind_some,kn,List.replicate,List.map_cons,List.map_nil,List.getElem?_cons_zero,List.getElem?_cons_succ,Option.getD_some,List.cons_append,List.nil_append,h]
  rfl
 have ln:(crs c S st++C++(O.dic D::R)).length=(crs c S st++C).length+1+R.length:=by rw[List.length_append,List.length_cons];omega
 rw[ln]at hcomp
 generalize hY:crs c S st++C=Y at *
 have eL:∀X,(Y++X)[L]?=some (.ins cA fus):=fun X=>ah hL
 have FA:∀X,lC cA 2 (.ref L,Y++X)=some (.ref Y.length,Y++X):=fun X=>fe (eL X) hf
 have hDL:D.length<LIM:=by unfold LIM;omega
 rwa[fb,hcomp,FA,hDL,if_true]
theorem sx{Z:Sto}{us:List U}{fus:List (Option U)}{L jo:Nat}(hk:(ay st).Nodup)(bi:BfI st)(hl:st.length<=100)(hZ:∃C,Z=crs c S st++C)(hL:Z[L]?=some (.ins cA fus))(hf:fus[2]?=some (some (.ref Z.length)))(ho:Z[jo]?=some (.lst us)):∀(as dn:List Int) (D:List (Key×U)) (R:Sto) (r3:Option U),(∀a∈as,a∈ay st)->FR st every (Z.length+1) dn D R->D.length+as.length<=900->
  ∃D' R' r3',eD (fun Y=>Y[jo]?=some (.lst us)) (gNm 3) (fb (iU c) (iB c) cA c) (as.map U.int) [some (.ref L),some (.ref S.length),some (.bl every),r3] (Z++(.dic D::R))=some (.nx,[some (.ref L),some (.ref S.length),some (.bl every),r3'],Z++(.dic D'::R'))/\FR st every (Z.length+1) (dn++as) D' R'
 |[],dn,D,R,r3,_,h,_=>⟨D,R,r3,dq (ah ho),by rw[List.append_nil];exact h⟩
 |a::as,dn,D,R,r3,hm,h,hD=>by
  rw[List.length_cons]at hD
  obtain⟨t,hv⟩:=lX (hm a List.mem_cons_self)
  obtain⟨R1,h1⟩:=yB (c:=c) (cA:=cA) (S:=S) (every:=every) (Z:=Z) (R:=R) (D:=D) (L:=L) (B:=0) hk bi hl hv hZ hL hf (by omega)
  have I':FR st every (Z.length+1) (dn++[a]) (iW D (.inl a) (.ref (Z.length+1+R.length))) (R++(.lst ((gc st every t).map U.int)::R1)):=fun b t' hb hv'=>by
   rw[qk]
   by_cases e:b=a
   ·subst e
    rw[hv]at hv';cases hv'
    exact⟨R.length,by rw[if_pos rfl],by rw[List.getElem?_append_right (Nat.le_refl _),Nat.sub_self];rfl⟩
   ·rw[if_neg (fun z=>e (Sum.inl.inj z))]
    rcases List.mem_append.mp hb with z|z
    ·obtain⟨r,e1,e2⟩:=h b t' z hv'
     exact⟨r,e1,ah e2⟩
    ·exact absurd (List.mem_singleton.mp z) e
  have hD':(iW D (.inl a) (.ref (Z.length+1+R.length))).length<=D.length+1:=lA ..
  obtain⟨D',R',r3',ih,I2⟩:=sx hk bi hl hZ hL hf ho as (dn++[a]) _ _ (some (.int a)) (fun b hb=>hm b (List.mem_cons_of_mem _ hb)) I' (by omega)
  refine⟨D',R',r3',(dQ (ah ho) rfl h1).trans ih,?_⟩
  rw[List.append_assoc]at I2
  exact I2
structure DC(cA:Cl)(st:St)(every:Bool)(B:Nat)(Y:Sto)(L:Nat):Prop where
 ex:∃r1 r2 D,Y[L]?=some (.ins cA [some (.ref B),some (.ref r1),some (.ref r2)])/\Y[r1]?=some (.lst ((dw st every).map U.int))/\Y[r2]?=some (.dic D)/\∀a t,a∈dw st every->aX st a=some t->∃r,aX D (.inl a)=some (.ref r)/\Y[r]?=some (.lst ((gc st every t).map U.int))
theorem vn{b:Int}(h:b∈dw st every):b∈ay st:=(bX _).mem_iff.mp (List.mem_filter.mp h).1
theorem vm:(dw st every).length<=st.length:=by
 unfold dw
 refine Nat.le_trans (List.length_filter_le ..) ?_
 rw[(bX _).length_eq];unfold ay;rw[List.length_map];exact Nat.le_refl _
theorem E6(hns:cA.ns.length=3)(hk:(ay st).Nodup)(bi:BfI st)(hl:st.length<64) :
  ∃X,qV cA (rA c cA) [.ref S.length,.bl every] (crs c S st++G)=some (.ref (crs c S st++G).length,crs c S st++(G++X))/\DC cA st every S.length (crs c S st++(G++X)) (crs c S st++G).length:=by
 rw[Cu,hns]
 obtain⟨G',k,h1,g1⟩:=qf (c:=c) (S:=S) (G:=G++[.ins cA [some (.ref S.length),none,none]]) (every:=every) hk hl
 obtain⟨Y,hY⟩:∃Y,Y=crs c S st++G:=⟨_,rfl⟩
 have ln:(crs c S st++(G++[O.ins cA [some (.ref S.length),none,none]])).length+k=Y.length+(1+k):=by rw[<-List.append_assoc,<-hY,List.length_append];simp;omega
 have e1:crs c S st++(G++[O.ins cA [some (.ref S.length),none,none]])=Y++[.ins cA [some (.ref S.length),none,none]]:=by rw[hY,List.append_assoc]
 have e2:crs c S st++(G++[O.ins cA [some (.ref S.length),none,none]]++G')=Y++(.ins cA [some (.ref S.length),none,none]::G'):=by rw[hY];simp only[List.append_assoc,List.cons_append,List.nil_append]
 rw[ln,e1,e2]at h1
 obtain⟨Z,hZ⟩:∃Z,Z=Y++(.ins cA [some (.ref S.length),some (.ref (Y.length+(1+k))),some (.ref (Y.length+(1+G'.length)))]::G'):=⟨_,rfl⟩
 have zl:Z.length=Y.length+(1+G'.length):=by rw[hZ];simp;omega
 have gL:Z[Y.length]?=some (.ins cA [some (.ref S.length),some (.ref (Y.length+(1+k))),some (.ref Z.length)]):=by rw[zl,hZ,ga0];rfl
 have gO:Z[Y.length+(1+k)]?=some (.lst ((dw st every).map U.int)):=by rw[hZ,ga,Nat.add_comm 1 k,List.getElem?_cons_succ];exact g1
 have ol:=vm (st:=st) (every:=every)
 obtain⟨D,R,r3,h2,I⟩:=sx (c:=c) (cA:=cA) (S:=S) (every:=every) (Z:=Z) (L:=Y.length) (jo:=Y.length+(1+k)) hk bi (by omega) ⟨G++(.ins cA [some (.ref S.length),some (.ref (Y.length+(1+k))),some (.ref (Y.length+(1+G'.length)))]::G'),by rw[hZ,hY,List.append_assoc]⟩ gL rfl gO (dw st every) [] [] [] none (fun b hb=>vn hb) (fun b t hb=>by cases hb) (by simp;omega)
 refine⟨.ins cA [some (.ref S.length),some (.ref (Y.length+(1+k))),some (.ref (Y.length+(1+G'.length)))]::(G'++(.dic D::R)),?_,?_⟩
 ·have hi:rA c cA [.ref Y.length,.ref S.length,.bl every] (Y++[.ins cA (List.replicate 3 none)])=some (.non,Z++(.dic D::R)):=by
   unfold rA
   rw[q0]
   have zd:Y++(O.ins cA [some (.ref S.length),some (.ref (Y.length+(1+k))),some (.ref (Y.length+(1+G'.length)))]::(G'++[.dic []]))=Z++[.dic []]:=by rw[hZ,List.append_assoc];rfl
   have gLZ:∀X,(Z++X)[Y.length]?=some (.ins cA [some (.ref S.length),some (.ref (Y.length+(1+k))),some (.ref Z.length)]):=fun X=>ah gL
   have gOZ:∀X,(Z++X)[Y.length+(1+k)]?=some (.lst ((dw st every).map U.int)):=fun X=>ah gO
   have ly:(Y++O.ins cA [some (.ref S.length),some (.ref (Y.length+(1+k))),none]::G').length=Y.length+(1+G'.length):=by simp;omega
   rwa[e8,List.replicate,h1,ly,zd,i9,iTp,gLZ,gOZ,h2]
  rw[<-hY,hi]
  have:Z++(O.dic D::R)=Y++(.ins cA [some (.ref S.length),some (.ref (Y.length+(1+k))),some (.ref (Y.length+(1+G'.length)))]::(G'++(.dic D::R))):=by rw[hZ,List.append_assoc];rfl
  rw[<-List.append_assoc,<-hY,<-this]
  rfl
 ·have:crs c S st++(G++(O.ins cA [some (.ref S.length),some (.ref (Y.length+(1+k))),some (.ref (Y.length+(1+G'.length)))]::(G'++(.dic D::R))))=Z++(.dic D::R):=by rw[<-List.append_assoc,<-hY,hZ,List.append_assoc];rfl
  rw[this,<-hY]
  refine⟨_,_,D,ah gL,ah gO,by rw[ga0];rfl,fun b t hb hv=>?_⟩
  obtain⟨r,e1,e2⟩:=I b t (by rw[List.nil_append];exact hb) hv
  refine⟨_,e1,?_⟩
  rw[Nat.add_assoc,ga,Nat.add_comm 1 r,List.getElem?_cons_succ]
  exact e2
end
theorem vP:∀ns ms:List Int,PyData.eqv (.list (ns.map PyData.int)) (.list (ms.map PyData.int))=decide (ns=ms)
 |[],[]=>rfl
 |[],_::_=>rfl
 |_::_,[]=>rfl
 |n::ns,m::ms=>by
  have e:PyData.eqv (.list ((n::ns).map PyData.int)) (.list ((m::ms).map PyData.int))=((n == m)&&PyData.eqv (.list (ns.map PyData.int)) (.list (ms.map PyData.int))):=rfl
  rw[e,vP ns ms,Bool.eq_iff_iff]
  simp
theorem q5{S:Sto}:∀ns:List Int,DtL S (ns.map U.int) (ns.map PyData.int)
 |[]=>.nil
 |n::ns=>.cons (.int n) (q5 ns)
theorem vA(ns:List Int):Am (.list (ns.map PyData.int)):=by
 have h:∀ns:List Int,PyData.canLayAll0 (ns.map PyData.int)=true/\PyData.depthAll (ns.map PyData.int)<=0:=fun ns=>by
  induction ns with
  |nil=>exact⟨rfl,Nat.le_refl _⟩
  |cons n r ih=>
   refine⟨by unfold PyData.canLayAll0;rw[List.map_cons];exact ih.1,?_⟩
   rw[List.map_cons]
   unfold PyData.depthAll
   exact Nat.max_le.mpr ⟨Nat.le_refl _,ih.2⟩
 refine⟨by unfold PyData.canLay0;exact(h ns).1,?_⟩
 unfold PyData.depth
 have:=(h ns).2
 omega
theorem vJ(neg:Bool){S:Sto}{l l':Nat}{ns ms:List Int}(h:S[l]?=some (.lst (ns.map U.int)))(h':S[l']?=some (.lst (ms.map U.int))):mI neg (.ref l) (.ref l') S=some (.bl (if neg then !decide (ns=ms)else decide (ns=ms)),S):=
 qX neg (.inl ⟨_,_,.lst h (q5 ns),.lst h' (q5 ms),vA ns,vA ms,(vP ns ms).symm⟩)
section
variable{c cA:Cl}{n w:Int}{S G C:Sto}{st:St}{a:Int}{t:Att}{x:List Int}{every:Bool}{L:Nat}
theorem DC.app{Y:Sto}{B:Nat}(h:DC cA st every B Y L)(X:Sto):DC cA st every B (Y++X) L:=by
 obtain⟨r1,r2,D,h1,h2,h3,h4⟩:=h.ex
 exact⟨⟨r1,r2,D,ah h1,ah h2,ah h3,fun a t ha hv=>by
  obtain⟨r,e1,e2⟩:=h4 a t ha hv
  exact⟨r,e1,ah e2⟩⟩⟩
noncomputable def Cq(c cA:Cl):Fn:=fnU 4 4 (bA (Ak c) cA)
theorem Iu{g:Nat}{D:List (Key×U)}{gn:List Int}(hk:(ay st).Nodup)(bi:BfI st)(hl:st.length<=100)(ask:DC cA st every S.length (crs c S st++C) L)(ha:a∈dw st every)(hv:aX st a=some t)(hb:∀p∈t.nd,0<=p.1/\p.1<n)(hx:x.length=n.toNat)
  (hg:(crs c S st++C)[g]?=some (.dic D)) (hD:∀b,(aX D (.inl b)).isSome=decide (b∈gn)) :
  ∃C',Cq c cA [.ref L,.int a,.ref g,.tup (x.map U.int)] (crs c S st++C)=some (.bl ((gc st every t).all (fun b=>decide (b∈gn))&&t.nd.all (mN x)),crs c S st++(C++C')):=by
 unfold Cq
 rw[j7]
 obtain⟨r1,r2,D2,h1,h2,h3,h4⟩:=ask.ex
 obtain⟨r,e1,e2⟩:=h4 a t ha hv
 have hb0:=zW hk bi hv
 have hnl:(gc st every t).length<=100:=by unfold gc;exact Nat.le_trans (List.length_filter_le ..) (by omega)
 obtain⟨G',h⟩:=lL (S:=crs c S st++C) (ok:=fun Y=>Y[r]?=some (.lst ((gc st every t).map U.int))) (gg:=gNm 0) (ce:=cOp (fIn false) (ag 0) (ag 1)) (f:=U.int) (v:=fun b=>.bl (decide (b∈gn))) (Rel:=fun ρ=>∃r0,ρ=[r0,some (.ref g)]) (fun ys G=>ah e2) (gc st every t) [] [] [none,some (.ref g)] ⟨_,rfl⟩ (by simp;omega) (fun b hb ys G2 ρ hρ=>by
   obtain⟨r0,rfl⟩:=hρ
   have hg':(crs c S st++(C++(.lst ys::G2)))[g]?=some (.dic D):=by rw[<-List.append_assoc];exact ah hg
   refine⟨[some (.int b),some (.ref g)],[],⟨_,rfl⟩,rfl,?_⟩
   rwa[hg',hD,Bool.false_eq_true,if_false,List.append_nil])
 simp only[List.nil_append,List.append_assoc]at h
 refine⟨.lst ((gc st every t).map fun b=>.bl (decide (b∈gn)))::G',?_⟩
 have hY:∃Y,Y=crs c S st++C:=⟨_,rfl⟩
 obtain⟨Y,hY⟩:=hY
 have F2:lC cA 2 (.ref L,crs c S st++C)=some (.ref r2,crs c S st++C):=fe h1 rfl
 have F0:∀X,lC cA 0 (.ref L,crs c S st++(C++X))=some (.ref S.length,crs c S st++(C++X)):=fun X=>by rw[<-List.append_assoc];exact fe (ah h1) rfl
 have hcomp:fU (iTp (cOp fIx (iE cA 2 (ag 0)) (ag 1))) (gNm 0) (cOp (fIn false) (ag 0) (ag 1)) 1 [2] [some (.ref L),some (.int a),some (.ref g),some (.tup (x.map U.int))] (crs c S st++C)=some (.ref (crs c S st++C).length,crs c S st++(C++(.lst ((gc st every t).map fun b=>.bl (decide (b∈gn)))::G'))):=by
  have hi:cOp fIx (iE cA 2 (ag 0)) (ag 1) [some (.ref L),some (.int a),some (.ref g),some (.tup (x.map U.int))] (crs c S st++C)=some (.ref r,crs c S st++C):=by
   rwa[F2,h3,e1]
  unfold fU iTp
  rw[hi,Option.bind_some]
  simp only[e2,Option.bind_some,kn,List.replicate,List.map_cons,List.map_nil,List.getElem?_cons_zero,List.getElem?_cons_succ,Option.getD_some,List.cons_append,List.nil_append,h,List.append_assoc]
 have gz:∀X,(crs c S st++(C++X))[(crs c S st++C).length]?=X[0]?:=fun X=>by
  have:=ga0 (S:=crs c S st++C) (X:=X)
  simp only[List.append_assoc]at this
  exact this
 have hall:Dg [.ref (crs c S st++C).length] (crs c S st++(C++(.lst ((gc st every t).map fun b=>.bl (decide (b∈gn)))::G')))=some (.bl ((gc st every t).all fun b=>decide (b∈gn)),crs c S st++(C++(.lst ((gc st every t).map fun b=>.bl (decide (b∈gn)))::G'))):=by
  have em:((gc st every t).map fun b=>U.bl (decide (b∈gn)))=((gc st every t).map fun b=>decide (b∈gn)).map U.bl:=by rw[List.map_map];rfl
  simp only[Dg,gz,List.getElem?_cons_zero,em,rg,Option.bind_some,List.all_map]
  rfl
 have hfit:=Ft (c:=c) (S:=S) (G:=C++(.lst ((gc st every t).map fun b=>.bl (decide (b∈gn)))::G')) hk hv hb hx
 cases hn:(gc st every t).all fun b=>decide (b∈gn)with
 |true=>
  rw[hn]at hall
  rwa[bA,hcomp,hall,F0,hfit,Bool.true_and]
 |false=>
  rw[hn]at hall
  rwa[bA,hcomp,hall,Bool.false_and]
end
noncomputable def ma(st:St)(every:Bool):List Int->List Int->List Int->Bool
 |_,_,[]=>true
 |gn,x,a::os=>(match aX st a with
  |none=>false
  |some t=>(gc st every t).all (fun b=>decide (b∈gn))&&t.nd.all (mN x))&&ma st every (a::gn) (chg st a x) os
noncomputable def Fp(b:Bool):Out:=if b then .nx else .rt (.bl false)
section
variable{c cA:Cl}{n w:Int}{S G C:Sto}{st:St}{a:Int}{t:Att}{x:List Int}{every:Bool}{L:Nat}
theorem sN{us:List U}{lo:Nat}{x0:Option U}(hk:(ay st).Nodup)(bi:BfI st)(hl:st.length<=100)(hn:n<=100)(ask:DC cA st every S.length (crs c S st++G) L)(hlo:(crs c S st++G)[lo]?=some (.lst us))(hb:∀a t,aX st a=some t->∀p∈t.nd,0<=p.1/\p.1<n) :
  ∀(os gn:List Int) (D:List (Key×U)) (G2:Sto) (x:List Int) (r5:Option U),(∀a∈os,a∈dw st every)->(∀b,(aX D (.inl b)).isSome=decide (b∈gn))->x.length=n.toNat->D.length+os.length<=900->
  ∃r4 r5' D' G3,eD (fun Y=>Y[lo]?=some (.lst us)) (gNm 5) (du (JI c) (Cq c cA) cA) (os.map U.int) [some (.ref L),some (.ref lo),x0,some (.ref (crs c S st++G).length),some (.tup (x.map U.int)),r5] (crs c S st++(G++(.dic D::G2)))
   = some (Fp (ma st every gn x os),[some (.ref L),some (.ref lo),x0,some (.ref (crs c S st++G).length),r4,r5'],crs c S st++(G++(.dic D'::G3)))
 |[],gn,D,G2,x,r5,_,_,_,_=>⟨_,_,_,_,dq (by rw[<-List.append_assoc];exact ah hlo)⟩
 |a::os,gn,D,G2,x,r5,hm,hD,hx,fT=>by
  rw[List.length_cons]at fT
  have ho:=hm a List.mem_cons_self
  obtain⟨t,hv⟩:=lX (vn ho)
  have ok0:(crs c S st++(G++(O.dic D::G2)))[lo]?=some (.lst us):=by rw[<-List.append_assoc];exact ah hlo
  have gz:∀Z:Sto,(crs c S st++(G++Z))[(crs c S st++G).length]?=Z[0]?:=fun Z=>by
   have:=ga0 (S:=crs c S st++G) (X:=Z)
   simp only[List.append_assoc]at this
   exact this
  have sz:∀(Z:Sto) (o:O),(crs c S st++(G++Z)).set (crs c S st++G).length o=crs c S st++(G++Z.set 0 o):=fun Z o=>by
   have:=gs0 (S:=crs c S st++G) (X:=Z) (o:=o)
   simp only[List.append_assoc]at this
   exact this
  have askX:∀X,DC cA st every S.length (crs c S st++(G++X)) L:=fun X=>by rw[<-List.append_assoc];exact ask.app X
  obtain⟨C1,h1⟩:=Iu (c:=c) (cA:=cA) (S:=S) (C:=G++(.dic D::G2)) (x:=x) (g:=(crs c S st++G).length) (D:=D) (gn:=gn) hk bi hl (askX _) ho hv (hb a t hv) hx (by rw[gz];rfl) hD
  simp only[List.append_assoc,List.cons_append]at h1
  have eg:ma st every gn x (a::os)=(((gc st every t).all (fun b=>decide (b∈gn))&&t.nd.all (mN x))&&ma st every (a::gn) (chg st a x) os):=by rw[ma,hv]
  obtain⟨r1,r2,D2,i1,i2,i3,i4⟩:=ask.ex
  have eI:∀X,(crs c S st++(G++X))[L]?=some (.ins cA [some (.ref S.length),some (.ref r1),some (.ref r2)]):=fun X=>by rw[<-List.append_assoc];exact ah i1
  have F0:∀X,lC cA 0 (.ref L,crs c S st++(G++X))=some (.ref S.length,crs c S st++(G++X)):=fun X=>fe (eI X) rfl
  cases hm2:((gc st every t).all (fun b=>decide (b∈gn))&&t.nd.all (mN x))with
  |false=>
   rw[hm2]at h1
   rw[eg,hm2,Bool.false_and]
   refine⟨some (.tup (x.map U.int)),some (.int a),D,G2++C1,qJ ok0 rfl (x:=.bl false) ?_⟩
   rwa[du,eI,h1]
  |true=>
   rw[hm2]at h1
   rw[eg,hm2,Bool.true_and]
   obtain⟨C2,h2⟩:=KD (c:=c) (S:=S) (G:=G++(.dic (iW D (.inl a) (.bl true))::(G2++C1))) (x:=x) hk hv (by omega)
   simp only[List.append_assoc,List.cons_append]at h2
   have hD':∀b,(aX (iW D (.inl a) (.bl true)) (.inl b)).isSome=decide (b∈a::gn):=fun b=>by
    rw[qk]
    by_cases e:b=a
    ·subst e;rw[if_pos rfl];simp
    ·rw[if_neg (fun z=>e (Sum.inl.inj z)),hD];simp[e]
   have hdl:(iW D (.inl a) (U.bl true)).length<=D.length+1:=lA ..
   obtain⟨r4,r5',D',G3,ih⟩:=sN hk bi hl hn ask hlo hb os (a::gn) (iW D (.inl a) (.bl true)) (G2++(C1++C2)) (chg st a x) (some (.int a)) (fun b hb=>hm b (List.mem_cons_of_mem _ hb)) hD' (by rw[zM];exact hx) (by omega)
   refine⟨r4,r5',D',G3,(dQ ok0 rfl ?_).trans ih⟩
   have hDL:D.length<LIM:=by unfold LIM;omega
   rwa[du,eI,h1,gz,sz,hDL,if_true,F0,h2]
noncomputable def Aj(c cA:Cl):Fn:=fnU 6 3 (bQ (JI c) (Cq c cA) cA)
theorem Fm{lo:Nat}{os:List Int}(hk:(ay st).Nodup)(bi:BfI st)(hl:st.length<64)(hn:n<=100)(ask:DC cA st every S.length (crs c S st++G) L)(hlo:(crs c S st++G)[lo]?=some (.lst (os.map U.int)))(hol:os.length<64)(hb:∀a t,aX st a=some t->∀p∈t.nd,0<=p.1/\p.1<n)(hx:x.length=n.toNat) :
  ∃G',Aj c cA [.ref L,.ref lo,.tup (x.map U.int)] (crs c S st++G)=some (.bl (decide (bO os=dw st every)&&ma st every [] x os),crs c S st++(G++G')):=by
 unfold Aj
 rw[mP]
 obtain⟨r1,r2,D2,i1,i2,i3,i4⟩:=ask.ex
 have hs:dg [.ref lo] (crs c S st++G)=some (.ref (crs c S st++G).length,crs c S st++(G++[.lst ((bO os).map U.int)])):=by
  simp only[dg,hlo,jC,Option.bind_some,hol,if_true,List.append_assoc]
 have gz:∀Z:Sto,(crs c S st++(G++Z))[(crs c S st++G).length]?=Z[0]?:=fun Z=>by
  have:=ga0 (S:=crs c S st++G) (X:=Z)
  simp only[List.append_assoc]at this
  exact this
 have gx:∀(i:Nat) (o:O) (X:Sto),(crs c S st++G)[i]?=some o->(crs c S st++(G++X))[i]?=some o:=fun i o X h=>by rw[<-List.append_assoc];exact ah h
 have F1:∀X,lC cA 1 (.ref L,crs c S st++(G++X))=some (.ref r1,crs c S st++(G++X)):=fun X=>fe (gx _ _ _ i1) rfl
 have he:=vJ true (S:=crs c S st++(G++[.lst ((bO os).map U.int)])) (l:=(crs c S st++G).length) (l':=r1) (ns:=bO os) (ms:=dw st every) (by rw[gz];rfl) (gx _ _ _ i2)
 rw[if_pos rfl]at he
 cases hq:decide (bO os=dw st every)with
 |false=>
  rw[hq,Bool.not_false]at he
  refine⟨[.lst ((bO os).map U.int)],?_⟩
  rw[Bool.false_and]
  rwa[bQ,hs,F1,he]
 |true=>
  rw[hq,Bool.not_true]at he
  have ho:∀a∈os,a∈dw st every:=fun a ha=>by
   rw[<-of_decide_eq_true hq];exact(bX _).mem_iff.mpr ha
  have ex:crs c S st++(G++[O.lst ((bO os).map U.int)])=crs c S st++G++[O.lst ((bO os).map U.int)]:=(List.append_assoc ..).symm
  obtain⟨r4,r5,D',G3,h⟩:=sN (c:=c) (cA:=cA) (S:=S) (G:=G++[.lst ((bO os).map U.int)]) (lo:=lo) (L:=L) (us:=os.map U.int) (x0:=some (.tup (x.map U.int))) hk bi (by omega) hn (by rw[ex];exact ask.app _) (gx _ _ _ hlo) hb os [] [] [] x none ho (fun b=>by simp[aX]) hx (by simp;omega)
  rw[Bool.true_and]
  refine⟨.lst ((bO os).map U.int)::.dic D'::G3,?_⟩
  have hlo':=gx lo _ [.lst ((bO os).map U.int),.dic []] hlo
  simp only[List.append_assoc,List.cons_append,List.nil_append]at h
  cases hg:ma st every [] x os with
  |true=>
   rw[hg]at h
   simp only[Fp,if_true]at h
   rwa[bQ,hs,F1,he,i9,iTp,hlo',h]
  |false=>
   rw[hg]at h
   simp only[Fp,Bool.false_eq_true,if_false]at h
   rwa[bQ,hs,F1,he,i9,iTp,hlo',h]
end
section
variable{c cA:Cl}{n w:Int}{S G C:Sto}{st:St}{a:Int}{t:Att}{x:List Int}{every:Bool}{L:Nat}
noncomputable def oO:Fn:=fnU 1 1 iN
theorem AU:oO [.int a] S=some (.bl true,S):=by
 unfold oO
 rw[wW]
 have t0:tyU (.int a) S=some .int:=rfl
 have t1:Ap .int .int=true:=rfl
 have t2:Ap .int .bool=false:=rfl
 rwa[iN,t0,t1,t2]
noncomputable def uK(c cA:Cl):Fn:=fnU 5 5 (iO oO (nc c) (Aj c cA) (rA c cA) cA)
theorem BB{N:Nat}{evs:List Ev}{l lo:Nat}{os:List Int}{wu:U}(hns:c.ns.length=5)(hna:cA.ns.length=3)(hl:S[l]?=some (.lst (evs.map Ev.u)))(hlo:S[lo]?=some (.lst (os.map U.int)))(lg:jG n w N evs)(he:evs.length<=900)(hN:N<64)(hn:n<=100)(hx:x.length=n.toNat)(hol:os.length<64) :
  ∃G',uK c cA [wu,.tup (x.map U.int),.ref l,.bl every,.ref lo] S=some (.bl (decide (bO os=dw (aJ [] evs) every)&&ma (aJ [] evs) every [] x os),S++G'):=by
 unfold uK
 rw[wX]
 obtain⟨G0,h0⟩:=lL (S:=S) (ok:=fun Y=>Y[lo]?=some (.lst (os.map U.int))) (gg:=gNm 0) (ce:=cCB oO (ae (ag 0) aD)) (f:=U.int) (v:=fun _=>.bl true) (Rel:=fun ρ=>∃r0,ρ=[r0]) (fun ys G=>ah hlo) os [] [] [none] ⟨_,rfl⟩ (by simp;omega) (fun b hb ys G2 ρ hρ=>by
  obtain⟨r0,rfl⟩:=hρ
  refine⟨[some (.int b)],[],⟨_,rfl⟩,rfl,?_⟩
  rwa[AU,List.append_nil])
 simp only[List.nil_append]at h0
 obtain⟨S1,hS1⟩:∃S1,S1=S++(.lst (os.map fun _=>U.bl true)::G0):=⟨_,rfl⟩
 have hcomp:fU (iTp (ag 4)) (gNm 0) (cCB oO (ae (ag 0) aD)) 1 [] [some wu,some (.tup (x.map U.int)),some (.ref l),some (.bl every),some (.ref lo)] S=some (.ref S.length,S1):=by
  have hi:ag 4 [some wu,some (.tup (x.map U.int)),some (.ref l),some (.bl every),some (.ref lo)] S=some (.ref lo,S):=rfl
  unfold fU iTp
  rw[hi,Option.bind_some]
  simp only[hlo,Option.bind_some,kn,List.replicate,List.map_cons,List.map_nil,List.append_nil,h0,hS1]
 have hall:Dg [.ref S.length] S1=some (.bl true,S1):=by
  have em:(os.map fun _=>U.bl true)=(os.map fun _=>true).map U.bl:=by rw[List.map_map];rfl
  have ea:((os.map fun _=>true).all id)=true:=by simp
  rw[hS1]
  simp only[Dg,ga0,List.getElem?_cons_zero,em,rg,Option.bind_some,ea]
 have h1:=tD (c:=c) (S:=S1) (N:=N) hns (by rw[hS1];exact ah hl) lg.lo he
 have bi:=rj evs [] lg.lo List.nodup_nil Lz
 obtain⟨X,h2,ask⟩:=E6 (c:=c) (cA:=cA) (S:=S1) (G:=[]) (every:=every) hna lg.kd bi (Nat.lt_of_le_of_lt lg.cnt hN)
 simp only[List.append_nil,List.nil_append]at h2 ask
 have hb:∀a t,aX (aJ [] evs) a=some t->∀p∈t.nd,0<=p.1/\p.1<n:=fun a t hv p hp=>by
  have:=qK evs [] lg.lo K8 a t hv
  exact this.1 p ((this.2 p).mp hp)
 obtain⟨G',h3⟩:=Fm (c:=c) (cA:=cA) (S:=S1) (G:=X) (x:=x) (lo:=lo) (os:=os) lg.kd bi (Nat.lt_of_le_of_lt lg.cnt hN) hn ask (by unfold crs;rw[hS1,List.append_assoc,List.append_assoc];exact ah hlo) hol hb hx
 obtain⟨r1,r2,D,i1,i2,i3,i4⟩:=ask.ex
 obtain⟨C,hC⟩:∃C,crs c S1 (aJ [] evs)=S1++C:=⟨_,rfl⟩
 refine⟨(.lst (os.map fun _=>U.bl true)::G0)++(C++(X++G')),?_⟩
 rw[<-List.append_assoc,<-hS1,<-List.append_assoc,<-hC]
 rwa[iO,hcomp,hall,h1,h2,i1,h3]
noncomputable def mh(st:St)(a:Int):List Int:=match aX st a with
 |some t=>t.bf
 |none=>[]
noncomputable def prA(a:Int)(b:Int):Int×Int:=(b,a)
noncomputable def wt(st:St)(as:List Int):List (Int×Int):=as.flatMap fun a=>(mh st a).map (prA a)
theorem qI{as:List Int}{b:Int}:(b,a)∈wt st as↔a∈as/\b∈mh st a:=by
 unfold wt
 rw[List.mem_flatMap]
 constructor
 ·rintro⟨d,h1,h2⟩
  obtain⟨e,h3,h4⟩:=List.mem_map.mp h2
  cases h4
  exact⟨h1,h3⟩
 ·rintro⟨h1,h2⟩
  exact⟨a,h1,List.mem_map.mpr ⟨b,h2,rfl⟩⟩
theorem zX(hk:(ay st).Nodup)(bi:BfI st):(mh st a).Nodup/\(mh st a).length<=st.length:=by
 unfold mh
 cases hv:aX st a with
 |none=>exact⟨List.nodup_nil,Nat.zero_le _⟩
 |some t=>exact⟨(bi a t hv).2,zW hk bi hv⟩
theorem yk(hk:(ay st).Nodup)(bi:BfI st):∀as:List Int,as.Nodup->(wt st as).Nodup
 |[],_=>List.nodup_nil
 |a::as,h=>by
  obtain⟨h1,h2⟩:=List.nodup_cons.mp h
  have ih:=yk hk bi as h2
  unfold wt at ih ⊢
  rw[List.flatMap_cons,List.nodup_append]
  refine⟨?_,ih,fun p hp q hq e=>?_⟩
  ·exact List.Pairwise.map (prA a) (fun u v h e=>h (by cases e;rfl)) (zX hk bi).1
  ·subst e
   obtain⟨b,hb,rfl⟩:=List.mem_map.mp hp
   exact h1 (qI.mp hq).1
theorem vf(hk:(ay st).Nodup)(bi:BfI st):∀as:List Int,(wt st as).length<=as.length*st.length
 |[]=>Nat.zero_le _
 |a::as=>by
  have ih:=vf hk bi as
  have h:=(zX (a:=a) hk bi).2
  unfold wt at ih ⊢
  rw[List.flatMap_cons,List.length_append,List.length_map,List.length_cons,Nat.succ_mul]
  omega
theorem Ac(p:Int×Int):∀L:List (Int×Int),L.Pairwise (fun a b=>ltP a b=true)->∃M:List (Int×Int),M.Pairwise (fun a b=>ltP a b=true)/\∀q,q∈M↔q=p\/q∈L
 |[],_=>⟨[p],List.pairwise_singleton _ _,fun q=>by simp⟩
 |y::L,h=>by
  obtain⟨h1,h2⟩:=List.pairwise_cons.mp h
  by_cases e:p=y
  ·subst e
   exact⟨p::L,h,fun q=>by simp⟩
  ·cases hp:ltP p y with
   |true=>
    refine⟨p::y::L,List.pairwise_cons.mpr ⟨fun z hz=>?_,h⟩,fun q=>by simp⟩
    rcases List.mem_cons.mp hz with rfl|m
    ·exact hp
    ·have:=h1 z m
     simp only[ltP,decide_eq_true_eq]at this hp ⊢
     omega
   |false=>
    obtain⟨M,m1,m2⟩:=Ac p L h2
    refine⟨y::M,List.pairwise_cons.mpr ⟨fun z hz=>?_,m1⟩,fun q=>?_⟩
    ·rcases(m2 z).mp hz with rfl|m
     ·have e':¬(z.1=y.1/\z.2=y.2):=fun k=>e (Prod.ext k.1 k.2)
      simp only[ltP,decide_eq_true_eq,decide_eq_false_iff_not]at hp ⊢
      omega
     ·exact h1 z m
    ·rw[List.mem_cons,m2 q,List.mem_cons]
     constructor
     ·rintro(k|k|k)
      ·exact .inr (.inl k)
      ·exact .inl k
      ·exact .inr (.inr k)
     ·rintro(k|k|k)
      ·exact .inr (.inl k)
      ·exact .inl k
      ·exact .inr (.inr k)
theorem Ad:∀ps:List (Int×Int),∃M:List (Int×Int),M.Pairwise (fun a b=>ltP a b=true)/\∀q,q∈M↔q∈ps
 |[]=>⟨[],List.Pairwise.nil,fun q=>Iff.rfl⟩
 |p::ps=>by
  obtain⟨L,h1,h2⟩:=Ad ps
  obtain⟨M,m1,m2⟩:=Ac p L h1
  exact⟨M,m1,fun q=>by rw[m2,h2,List.mem_cons]⟩
theorem yF{ps:List (Int×Int)}{q:Int×Int}:q∈jk ps↔q∈ps:=by
 obtain⟨M,m1,m2⟩:=Ad ps
 rw[mV m1 m2,m2]
end
theorem mx{ca cb:CS}{ρ ρ':Rho}{S S':Sto}(h:ca ρ S=some (.nx,ρ',S')):bH ca cb ρ S=cb ρ' S':=by rw[ni,h,Option.bind_some,rD]
end OQ
namespace OL
open PySem PySem.Spec PyProof.Rows L2 OG OP OQ
noncomputable def top(i:Nat):Stmt:=PySem.Challenge.pw_oneglance_k15_orders_looked_at.main.body.getD i (.Pass ⟨0,0,0,0⟩)
noncomputable abbrev fh:Stmt:=top 2
noncomputable abbrev dW:Stmt:=kr (top 4) 0
noncomputable abbrev cK:Stmt:=kr (top 4) 2
noncomputable abbrev cX:Stmt:=kr (top 4) 3
noncomputable abbrev bM:Stmt:=kr (top 4) 4
noncomputable abbrev ef:Stmt:=top 5
noncomputable abbrev dX:Stmt:=kr (top 7) 0
noncomputable abbrev bz:Stmt:=kr (top 7) 1
noncomputable abbrev b7:Stmt:=kr (top 7) 2
noncomputable abbrev fj:Stmt:=top 8
noncomputable abbrev fk:Stmt:=top 9
noncomputable abbrev km:Stmt:=top 10
noncomputable abbrev nG:Stmt:=top 11
noncomputable abbrev dA:Stmt:=top 12
noncomputable abbrev fi:Stmt:=top 13
noncomputable abbrev fq:Stmt:=top 15
noncomputable abbrev et:Stmt:=top 16
noncomputable abbrev dB:Stmt:=top 17
noncomputable abbrev dD:Stmt:=top 18
noncomputable abbrev dE:Stmt:=top 19
noncomputable abbrev cS:Stmt:=top 20
noncomputable abbrev dH:Stmt:=top 21
noncomputable abbrev ft:Stmt:=top 22
noncomputable abbrev dI:Stmt:=top 23
noncomputable abbrev fu:Stmt:=top 24
noncomputable abbrev dF:Stmt:=top 25
noncomputable abbrev eB:Stmt:=top 26
noncomputable abbrev dC:Stmt:=top 27
noncomputable abbrev dJ:Stmt:=top 28
noncomputable abbrev cD:Stmt:=top 29
noncomputable abbrev eC:Stmt:=top 30
noncomputable abbrev bY:Stmt:=top 31
noncomputable abbrev eA:Stmt:=top 32
noncomputable abbrev bC:Stmt:=top 33
noncomputable abbrev oX:Stmt:=top 34
section
variable{P:Program}{w:World}{K:PySem.W.Frag}{mg:Str->Option Value}{base:Heap}
theorem mz:aL ["pen","many","at","cell","one","two","three","found"] ["pen","many"] (ar et):=⟨rfl,rfl,rfl,by decide +kernel,rfl,by decide +kernel,by decide +kernel⟩
theorem um{k:Nat}(d:Def K mg "_law_take" et ["pen","many"])(B:Blt mg):d0 P w K mg base "_law_take" (k+1) ["pen","many"] (fnU 8 2 (fB )):=
 d.pure mz fun f cdv A outer s H E hr=>by
  have hu:=dY hr
  have nd:=mz.nd
  exact(aw (cW (bh eS kX (cE hu (ab (wpv 0)) (aB ao) (fun _ _=>rfl) (fun _ _=>rfl)) (aB ao) (aT _)) (aw (aU (i:=2) nd rfl (by first|exact Or.inl rfl|exact Or.inr rfl) (cE hu (ab (wpv 0)) (aB ao) (fun _ _=>rfl) (fun _ _=>rfl)))
   (aw (cT hu (ab (wpv 0)) (aB ao) (gC gb fZ (ab (wpv 2)) (aB ao)))
   (aw (aU (i:=3) nd rfl (by first|exact Or.inl rfl|exact Or.inr rfl) (aB ao))
   (aw (cW (bh BD JA (ab (wpv 2)) (d4 qH qF rfl B.len PySem.boot_len (af (cE hu (ab (wpv 0)) (aB ao) (fun _ _=>rfl) (fun _ _=>rfl)) aA)) (aT _)) (ax (aU (i:=3) nd rfl (by first|exact Or.inl rfl|exact Or.inr rfl) (cE hu (cE hu (ab (wpv 0)) (aB ao) (fun _ _=>rfl) (fun _ _=>rfl)) (ab (wpv 2)) (fun _ _=>rfl) (fun _ _=>rfl)))) (ax (cW (bh K3 MJ (d4 qH qF rfl B.len PySem.boot_len (af (cE hu (ab (wpv 0)) (aB ao) (fun _ _=>rfl) (fun _ _=>rfl)) aA)) (aB ao) (aT _)) (ax (aU (i:=3) nd rfl (by first|exact Or.inl rfl|exact Or.inr rfl) (gC gb fZ (gC nM t9 (cE hu (cE hu (ab (wpv 0)) (aB ao) (fun _ _=>rfl) (fun _ _=>rfl)) (gC nM t9 (gC mG so (ab (wpv 2)) (aB ao)) (d4 qH qF rfl B.len PySem.boot_len (af (cE hu (ab (wpv 0)) (aB ao) (fun _ _=>rfl) (fun _ _=>rfl)) aA))) (fun _ _=>rfl) (fun _ _=>rfl)) (aB ao)) (gC mG so (aB ao) (ab (wpv 2)))))) bV)))
   (aw (aU (i:=4) nd rfl (by first|exact Or.inl rfl|exact Or.inr rfl) (gC nM t9 (gC mG so (gC gb fZ (gC gb fZ (gC nM t9 (ab (wpv 3)) (aB ao)) (gC mG so (aB ao) (ab (wpv 2)))) (aB ao)) (aB ao)) (aB ao)))
   (aw (aU (i:=5) nd rfl (by first|exact Or.inl rfl|exact Or.inr rfl) (gC nM t9 (gC gb fZ (gC gb fZ (gC mG so (ab (wpv 4)) (ab (wpv 4))) (gC mG so (aB ao) (ab (wpv 2)))) (aB ao)) (aB ao)))
   (aw (aU (i:=6) nd rfl (by first|exact Or.inl rfl|exact Or.inr rfl) (gC nM t9 (gC gb fZ (gC mG so (ab (wpv 5)) (ab (wpv 5))) (ab (wpv 4))) (aB ao)))
   (aw (cT hu (ab (wpv 0)) (aB ao) (gC gb fZ (gC qG EW (gC gb fZ (gC mG so (ab (wpv 5)) (aB ao)) (ab (wpv 6))) (aB ao)) (aB ao)))
   (ax (cW (bh K4 MK (ab (wpv 3)) (gC yw ET (aB ao) (aB ao)) (aT _)) (ax (cT hu (ab (wpv 0)) (aB ao) (gC qG EW (ab (wpv 3)) (gC yw ET (aB ao) (aB ao))))) bV)))))))))) bV)
   (aw (aU (i:=7) nd rfl (by first|exact Or.inl rfl|exact Or.inr rfl) (gC nM t9 (cE hu (ab (wpv 0)) (aB ao) (fun _ _=>rfl) (fun _ _=>rfl)) (ab (wpv 1))))
   (aw (cT hu (ab (wpv 0)) (aB ao) (gC qG EW (cE hu (ab (wpv 0)) (aB ao) (fun _ _=>rfl) (fun _ _=>rfl)) (ab (wpv 1))))
   (ax (aS (ab (wpv 7)))))))
theorem kL:aL ["pen"] ["pen"] (ar dB):=⟨rfl,rfl,rfl,by decide +kernel,rfl,by decide +kernel,by decide +kernel⟩
theorem sE{k:Nat}{ak:Fn}(d:Def K mg "_law_world" dB ["pen"])(B:Blt mg)(aC:d0 P w K mg base "_law_take" (k) ["pen","many"] ak):d0 P w K mg base "_law_world" (k+1) ["pen"] (fnU 1 1 (fJ ak)):=
 d.pure kL fun f cdv A outer s H E hr=>by
  have hu:=dY hr
  have nd:=kL.nd
  exact(ax (aS (lS (af (gC gb fZ (aB ao) (aR aC hr rfl (af (ab (wpv 0)) (af (aB ao) aA)))) (af (cE hu (iK (af (aB ao) (af (aB ao) (af (aB ao) (af (aB ao) (af (gC gb fZ (aB ao) (aR aC hr rfl (af (ab (wpv 0)) (af (aB ao) aA)))) aA)))))) (aR aC hr rfl (af (ab (wpv 0)) (af (aB ao) aA))) (fun _ _=>rfl) (fun _ _=>rfl)) aA)))))
theorem kN:aL ["pen","world"] ["pen","world"] (ar dD):=⟨rfl,rfl,rfl,by decide +kernel,rfl,by decide +kernel,by decide +kernel⟩
theorem sG{k:Nat}{ak:Fn}(d:Def K mg "_law_state" dD ["pen","world"])(B:Blt mg)(aC:d0 P w K mg base "_law_take" (k) ["pen","many"] ak):d0 P w K mg base "_law_state" (k+1) ["pen","world"] (fnU 2 2 (fM ak)):=
 d.pure kN fun f cdv A outer s H E hr=>by
  have hu:=dY hr
  have nd:=kN.nd
  exact(ax (aS (jW gh qE rfl B.tuple OG.gq (af (kW (Nc:=["box","pen","world"]) (tn:=["box"]) (capN:=["pen","world"]) (caps:=[0,1]) rfl (jx rfl B.range (af (cE hu (ab (wpv 1)) (aB ao) (fun _ _=>rfl) (fun _ _=>rfl)) aA)) (fun _ _ _=>(bD (aF (i:=0) (show(["box","pen","world"]:List Str).Nodup by decide +kernel) rfl (by first|exact Or.inl rfl|exact Or.inr rfl)))) (fun _ _ _=>(aR aC hr rfl (af (ab (wpv 1)) (af (cE hu (ab (wpv 2)) (aB ao) (fun _ _=>rfl) (fun _ _=>rfl)) aA)))) rfl rfl (by decide +kernel) (by decide +kernel) ⟨rfl,rfl,trivial⟩ rfl (.cons ⟨rfl,rfl,rfl,_,rfl⟩ (.cons ⟨rfl,rfl,rfl,_,rfl⟩ .nil)) rfl rfl) aA))))
theorem kO:aL ["pen","many","left","found","k"] ["pen","many"] (ar dE):=⟨rfl,rfl,rfl,by decide +kernel,rfl,by decide +kernel,by decide +kernel⟩
theorem sH{k:Nat}{ak:Fn}(d:Def K mg "_law_names" dE ["pen","many"])(B:Blt mg)(aC:d0 P w K mg base "_law_take" (k) ["pen","many"] ak):d0 P w K mg base "_law_names" (k+1) ["pen","many"] (fnU 5 2 (fN ak)):=
 d.pure kO fun f cdv A outer s H E hr=>by
  have hu:=dY hr
  have nd:=kO.nd
  exact(aw (aU (i:=2) nd rfl (by first|exact Or.inl rfl|exact Or.inr rfl) (t7 rfl rfl B.list rfl B.range (af (aB ao) aA) rfl rfl))
   (aw (aU (i:=3) nd rfl (by first|exact Or.inl rfl|exact Or.inr rfl) (iK aA))
   (aw (iJ PassesOwn.never rfl (jx rfl B.range (af (ab (wpv 1)) aA)) (bD (aF (i:=4) nd rfl (by first|exact Or.inl rfl|exact Or.inr rfl))) (ax (eR (fX (ab (wpv 3)) (af (t5 (ab (wpv 2)) (af (aR aC hr rfl (af (ab (wpv 0)) (af (d4 qH qF rfl B.len PySem.boot_len (af (ab (wpv 2)) aA)) aA))) aA)) aA)))))
   (ax (aS (ab (wpv 3)))))))
theorem kc:aL ["state","puts"] ["state","puts"] (ar cS):=⟨rfl,rfl,rfl,by decide +kernel,rfl,by decide +kernel,by decide +kernel⟩
theorem qQ{k:Nat}(d:Def K mg "_law_put_in" cS ["state","puts"])(B:Blt mg):d0 P w K mg base "_law_put_in" (k+1) ["state","puts"] (fnU 2 2 (eW )):=
 d.pure kc fun f cdv A outer s H E hr=>by
  have hu:=dY hr
  have nd:=kc.nd
  exact(ax (aS (jW gh qE rfl B.tuple OG.gq (af (kW (Nc:=["box","number","puts"]) (tn:=["box","number"]) (capN:=["puts"]) (caps:=[1]) rfl (qy rfl B.enumerate (ab (wpv 0))) (fun _ _ _=>(mE rfl (cm (aF (i:=0) (show(["box","number","puts"]:List Str).Nodup by decide +kernel) rfl (by first|exact Or.inl rfl|exact Or.inr rfl)) (cm (aF (i:=1) (show(["box","number","puts"]:List Str).Nodup by decide +kernel) rfl (by first|exact Or.inl rfl|exact Or.inr rfl)) jy)))) (fun _ _ _=>(vd hu (ab (wpv 2)) (ab (wpv 0)) (ab (wpv 1)) ⟨rfl,rfl,rfl,rfl⟩)) rfl rfl (by decide +kernel) (by decide +kernel) ⟨rfl,trivial⟩ rfl (.cons ⟨rfl,rfl,rfl,_,rfl⟩ .nil) rfl rfl) aA))))
theorem kQ:aL ["pen","world","a","seen","puts","now","way","box","number"] ["pen","world","a","seen","puts","now"] (ar dH):=⟨rfl,rfl,rfl,by decide +kernel,rfl,by decide +kernel,by decide +kernel⟩
theorem sJ{k:Nat}{ak:Fn}(d:Def K mg "_law_event" dH ["pen","world","a","seen","puts","now"])(B:Blt mg)(aC:d0 P w K mg base "_law_take" (k) ["pen","many"] ak):d0 P w K mg base "_law_event" (k+1) ["pen","world","a","seen","puts","now"] (fnU 9 6 (dU ak)):=
 d.pure kQ fun f cdv A outer s H E hr=>by
  have hu:=dY hr
  have nd:=kQ.nd
  exact(aw (aU (i:=6) nd rfl (by first|exact Or.inl rfl|exact Or.inr rfl) (aR aC hr rfl (af (ab (wpv 0)) (af (aB ao) aA))))
   (aw (aU (i:=7) nd rfl (by first|exact Or.inl rfl|exact Or.inr rfl) (aR aC hr rfl (af (ab (wpv 0)) (af (cE hu (ab (wpv 1)) (aB ao) (fun _ _=>rfl) (fun _ _=>rfl)) aA))))
   (aw (cW (bh BD JA (ab (wpv 6)) (aB ao) (aT _)) (aw (aU (i:=8) nd rfl (by first|exact Or.inl rfl|exact Or.inr rfl) (cE hu (iK (af (cE hu (ab (wpv 3)) (ab (wpv 7)) (fun _ _=>rfl) (fun _ _=>rfl)) (af (cE hu (ab (wpv 3)) (ab (wpv 7)) (fun _ _=>rfl) (fun _ _=>rfl)) (af (cE hu (ab (wpv 5)) (ab (wpv 7)) (fun _ _=>rfl) (fun _ _=>rfl)) (af (aR aC hr rfl (af (ab (wpv 0)) (af (cE hu (ab (wpv 1)) (aB ao) (fun _ _=>rfl) (fun _ _=>rfl)) aA))) aA))))) (aR aC hr rfl (af (ab (wpv 0)) (af (aB ao) aA))) (fun _ _=>rfl) (fun _ _=>rfl)))
   (ax (aS (lS (af (d7 ba) (af (ab (wpv 2)) (af (ab (wpv 7)) (af (vd hu (ab (wpv 4)) (ab (wpv 7)) (ab (wpv 8)) ⟨rfl,rfl,rfl,rfl⟩) aA)))))))) bV)
   (aw (cW (bh BD JA (ab (wpv 6)) (aB ao) (aT _)) (ax (aS (lS (af (d7 ba) (af (ab (wpv 2)) (af (ab (wpv 7)) (af (aR aC hr rfl (af (ab (wpv 0)) (af (cE hu (ab (wpv 1)) (aB ao) (fun _ _=>rfl) (fun _ _=>rfl)) aA))) aA))))))) bV)
   (ax (aS (lS (af (cE hu (iK (af (d7 ba) (af (d7 ba) (af (d7 ba) (af (d7 ba) aA))))) (gC C4 Ib (ab (wpv 6)) (aB ao)) (fun _ _=>rfl) (fun _ _=>rfl)) (af (ab (wpv 2)) aA)))))))))
theorem nE:aL ["pen","world","state","most","size","names","log","now","going","k","at","a","seen","puts"] ["pen","world","state","most","size"] (ar ft):=⟨rfl,rfl,rfl,by decide +kernel,rfl,by decide +kernel,by decide +kernel⟩
theorem wM{k:Nat}{cw ak cy bR:Fn}(d:Def K mg "_law_log" ft ["pen","world","state","most","size"])(B:Blt mg)(jL:d0 P w K mg base "_law_names" (k) ["pen","many"] cw)(aC:d0 P w K mg base "_law_take" (k) ["pen","many"] ak)(jN:d0 P w K mg base "_law_event" (k) ["pen","world","a","seen","puts","now"] cy)(je:d0 P w K mg base "_law_put_in" (k) ["state","puts"] bR):d0 P w K mg base "_law_log" (k+1) ["pen","world","state","most","size"] (fnU 14 5 (iQ cw ak cy bR)):=
 d.pure nE fun f cdv A outer s H E hr=>by
  have hu:=dY hr
  have nd:=nE.nd
  exact(aw (aU (i:=5) nd rfl (by first|exact Or.inl rfl|exact Or.inr rfl) (aR jL hr rfl (af (ab (wpv 0)) (af (aR aC hr rfl (af (ab (wpv 0)) (af (gC gb fZ (ab (wpv 3)) (aB ao)) aA))) aA))))
   (aw (aU (i:=6) nd rfl (by first|exact Or.inl rfl|exact Or.inr rfl) (iK aA))
   (aw (aU (i:=7) nd rfl (by first|exact Or.inl rfl|exact Or.inr rfl) (ab (wpv 2)))
   (aw (aU (i:=8) nd rfl (by first|exact Or.inl rfl|exact Or.inr rfl) (iK aA))
   (aw (iJ PassesOwn.never rfl (jx rfl B.range (af (aR aC hr rfl (af (ab (wpv 0)) (af (gC gb fZ (ab (wpv 4)) (aB ao)) aA))) aA)) (bD (aF (i:=9) nd rfl (by first|exact Or.inl rfl|exact Or.inr rfl))) (ax (cW (Aq (sh (bh (pL hr.units) ua (ab (wpv 5)) (iK aA) (aT _)) (pH (Aq (Jy (bh (Ik hr.units) ua (ab (wpv 8)) (iK aA) (aT _)) (Bd (bh eS kX (aR aC hr rfl (af (ab (wpv 0)) (af (aB ao) aA))) (aB ao) (aT _)))))))) (aw (eR (fX (ab (wpv 8)) (af (lS (af (KO (ab (wpv 5))) (af (ab (wpv 7)) (af jB aA)))) aA)))
   (ax (eR (fX (ab (wpv 6)) (af (lS (af (d7 ba) (af (cE hu (cE hu (ab (wpv 8)) (wq (aB ao)) (fun _ _=>rfl) (fun _ _=>rfl)) (aB ao) (fun _ _=>rfl) (fun _ _=>rfl)) aA))) aA))))) (ax (cW (bh (pL hr.units) ua (ab (wpv 8)) (iK aA) (aT _)) (aw (aU (i:=10) nd rfl (by first|exact Or.inl rfl|exact Or.inr rfl) (aR aC hr rfl (af (ab (wpv 0)) (af (d4 qH qF rfl B.len PySem.boot_len (af (ab (wpv 8)) aA)) aA))))
   (aw (Hv (cE hu (ab (wpv 8)) (ab (wpv 10)) (fun _ _=>rfl) (fun _ _=>rfl)) (mE rfl (cm (aF (i:=11) nd rfl (by first|exact Or.inl rfl|exact Or.inr rfl)) (cm (aF (i:=12) nd rfl (by first|exact Or.inl rfl|exact Or.inr rfl)) (cm (aF (i:=13) nd rfl (by first|exact Or.inl rfl|exact Or.inr rfl)) jy)))))
   (aw (eR (fX (ab (wpv 6)) (af (aR jN hr rfl (af (ab (wpv 0)) (af (ab (wpv 1)) (af (ab (wpv 11)) (af (ab (wpv 12)) (af (ab (wpv 13)) (af (ab (wpv 7)) aA))))))) aA)))
   (aw (cW (bh eS kX (cE hu (cE hu (ab (wpv 6)) (wq (aB ao)) (fun _ _=>rfl) (fun _ _=>rfl)) (aB ao) (fun _ _=>rfl) (fun _ _=>rfl)) (d7 ba) (aT _)) (ax (cT hu (ab (wpv 13)) (cE hu (cE hu (ab (wpv 6)) (wq (aB ao)) (fun _ _=>rfl) (fun _ _=>rfl)) (aB ao) (fun _ _=>rfl) (fun _ _=>rfl)) (cE hu (cE hu (ab (wpv 6)) (wq (aB ao)) (fun _ _=>rfl) (fun _ _=>rfl)) (aB ao) (fun _ _=>rfl) (fun _ _=>rfl)))) (ax (cW (bh eS kX (cE hu (cE hu (ab (wpv 6)) (wq (aB ao)) (fun _ _=>rfl) (fun _ _=>rfl)) (aB ao) (fun _ _=>rfl) (fun _ _=>rfl)) (d7 ba) (aT _)) (ax (aU (i:=7) nd rfl (by first|exact Or.inl rfl|exact Or.inr rfl) (aR je hr rfl (af (ab (wpv 7)) (af (ab (wpv 13)) aA))))) bV)))
   (ax (cW (wo hu (cE hu (cE hu (ab (wpv 6)) (wq (aB ao)) (fun _ _=>rfl) (fun _ _=>rfl)) (aB ao) (fun _ _=>rfl) (fun _ _=>rfl)) (lS (af (d7 ba) (af (d7 ba) aA))) (by with_unfolding_all rfl)) (ax (eR (t5 (ab (wpv 8)) (af (ab (wpv 10)) aA)))) bV)))))) bV)))))
   (ax (aS (ab (wpv 6)))))))))
theorem kR:aL ["log"] ["log"] (ar dI):=⟨rfl,rfl,rfl,by decide +kernel,rfl,by decide +kernel,by decide +kernel⟩
theorem sL{k:Nat}(d:Def K mg "_law_begun" dI ["log"])(B:Blt mg):d0 P w K mg base "_law_begun" (k+1) ["log"] (fnU 1 1 (fQ )):=
 d.pure kR fun f cdv A outer s H E hr=>by
  have hu:=dY hr
  have nd:=kR.nd
  exact(ax (aS (d4 (mX rfl) mW rfl B.sorted OG.gJ (af (jV (Nc:=["event"]) (tn:=["event"]) (capN:=[]) (caps:=[]) rfl (dZ (ab (wpv 0))) (fun _ _ _=>(bD (aF (i:=0) (show(["event"]:List Str).Nodup by decide +kernel) rfl (by first|exact Or.inl rfl|exact Or.inr rfl)))) (fun _ _ _=>(bh eS kX (cE hu (ab (wpv 0)) (aB ao) (fun _ _=>rfl) (fun _ _=>rfl)) (d7 ba) (aT _))) (fun _ _ _=>(cE hu (ab (wpv 0)) (aB ao) (fun _ _=>rfl) (fun _ _=>rfl))) rfl rfl (by decide +kernel) (by decide +kernel) trivial rfl .nil rfl rfl) aA))))
theorem nF:aL ["log","a","ends"] ["log","a"] (ar fu):=⟨rfl,rfl,rfl,by decide +kernel,rfl,by decide +kernel,by decide +kernel⟩
theorem wN{k:Nat}(d:Def K mg "_law_end" fu ["log","a"])(B:Blt mg):d0 P w K mg base "_law_end" (k+1) ["log","a"] (fnU 3 2 (iR )):=
 d.pure nF fun f cdv A outer s H E hr=>by
  have hu:=dY hr
  have nd:=nF.nd
  exact(aw (gU (Nc:=["event","a"]) (tn:=["event"]) (capN:=["a"]) (caps:=[1]) rfl (dZ (ab (wpv 0))) (fun _ _ _=>(bD (aF (i:=0) (show(["event","a"]:List Str).Nodup by decide +kernel) rfl (by first|exact Or.inl rfl|exact Or.inr rfl)))) (fun _ _ _=>(Aq (sh (bh eS kX (cE hu (ab (wpv 0)) (aB ao) (fun _ _=>rfl) (fun _ _=>rfl)) (ab (wpv 1)) (aT _)) (pH (wo hu (cE hu (ab (wpv 0)) (aB ao) (fun _ _=>rfl) (fun _ _=>rfl)) (lS (af (d7 ba) (af (d7 ba) aA))) (by with_unfolding_all rfl)))))) (fun _ _ _=>(cE hu (ab (wpv 0)) (aB ao) (fun _ _=>rfl) (fun _ _=>rfl))) rfl rfl (by decide +kernel) (by decide +kernel) ⟨rfl,trivial⟩ rfl (.cons ⟨rfl,rfl,rfl,_,rfl⟩ .nil) rfl rfl nd rfl rfl rfl)
   (ax (aS (cE hu (gC gb fZ (ab (wpv 2)) (iK (af (d7 ba) aA))) (aB ao) (fun _ _=>rfl) (fun _ _=>rfl)))))
theorem kP:aL ["log","a","found","put","event"] ["log","a"] (ar dF):=⟨rfl,rfl,rfl,by decide +kernel,rfl,by decide +kernel,by decide +kernel⟩
theorem sI{k:Nat}(d:Def K mg "_law_looks" dF ["log","a"])(B:Blt mg):d0 P w K mg base "_law_looks" (k+1) ["log","a"] (fnU 5 2 (fP )):=
 d.pure kP fun f cdv A outer s H E hr=>by
  have hu:=dY hr
  have nd:=kP.nd
  exact(aw (aU (i:=2) nd rfl (by first|exact Or.inl rfl|exact Or.inr rfl) (iK aA))
   (aw (aU (i:=3) nd rfl (by first|exact Or.inl rfl|exact Or.inr rfl) (iK aA))
   (aw (iJ PassesOwn.never rfl (dZ (ab (wpv 0))) (bD (aF (i:=4) nd rfl (by first|exact Or.inl rfl|exact Or.inr rfl))) (aw (cW (Aq (sh (bh eS kX (cE hu (ab (wpv 4)) (aB ao) (fun _ _=>rfl) (fun _ _=>rfl)) (ab (wpv 1)) (aT _)) (pH (bh eS kX (cE hu (ab (wpv 4)) (aB ao) (fun _ _=>rfl) (fun _ _=>rfl)) (d7 ba) (aT _))))) (ax (eR (fX (ab (wpv 3)) (af (cE hu (ab (wpv 4)) (aB ao) (fun _ _=>rfl) (fun _ _=>rfl)) aA)))) bV)
   (ax (cW (Aq (sh (bh eS kX (cE hu (ab (wpv 4)) (aB ao) (fun _ _=>rfl) (fun _ _=>rfl)) (ab (wpv 1)) (aT _)) (sh (bh eS kX (cE hu (ab (wpv 4)) (aB ao) (fun _ _=>rfl) (fun _ _=>rfl)) (d7 ba) (aT _)) (pH (qz hu (cE hu (ab (wpv 4)) (aB ao) (fun _ _=>rfl) (fun _ _=>rfl)) (ab (wpv 3)) (by with_unfolding_all rfl)))))) (ax (eR (fX (ab (wpv 2)) (af (lS (af (cE hu (ab (wpv 4)) (aB ao) (fun _ _=>rfl) (fun _ _=>rfl)) (af (cE hu (ab (wpv 4)) (aB ao) (fun _ _=>rfl) (fun _ _=>rfl)) aA))) aA)))) bV))))
   (ax (aS (ab (wpv 2)))))))
theorem mC:aL ["log","a","found","event"] ["log","a"] (ar eB):=⟨rfl,rfl,rfl,by decide +kernel,rfl,by decide +kernel,by decide +kernel⟩
theorem uo{k:Nat}(d:Def K mg "_law_puts" eB ["log","a"])(B:Blt mg):d0 P w K mg base "_law_puts" (k+1) ["log","a"] (fnU 4 2 (gH )):=
 d.pure mC fun f cdv A outer s H E hr=>by
  have hu:=dY hr
  have nd:=mC.nd
  exact(aw (aU (i:=2) nd rfl (by first|exact Or.inl rfl|exact Or.inr rfl) jB)
   (aw (iJ PassesOwn.never rfl (dZ (ab (wpv 0))) (bD (aF (i:=3) nd rfl (by first|exact Or.inl rfl|exact Or.inr rfl))) (ax (cW (Aq (sh (bh eS kX (cE hu (ab (wpv 3)) (aB ao) (fun _ _=>rfl) (fun _ _=>rfl)) (ab (wpv 1)) (aT _)) (pH (bh eS kX (cE hu (ab (wpv 3)) (aB ao) (fun _ _=>rfl) (fun _ _=>rfl)) (d7 ba) (aT _))))) (ax (cT hu (ab (wpv 2)) (cE hu (ab (wpv 3)) (aB ao) (fun _ _=>rfl) (fun _ _=>rfl)) (cE hu (ab (wpv 3)) (aB ao) (fun _ _=>rfl) (fun _ _=>rfl)))) bV)))
   (ax (aS (ab (wpv 2))))))
theorem kM:aL ["log","found","at","event"] ["log"] (ar dC):=⟨rfl,rfl,rfl,by decide +kernel,rfl,by decide +kernel,by decide +kernel⟩
noncomputable def bW:CS:=
 (gj (aE (cOp (fIn false) (cOp fIx (ag 3) (cC (.int 0))) (mQ (ae (cC (.str "done")) (ae (cC (.str "fall")) aD))))) (ik (cBM md (ag 1) (ae (aY (iTp (cSl (ag 0) (some (ag 2)) none)) (gNm 0) (aE (cOp fEq (cOp fIx (ag 0) (cC (.int 0))) (cC (.str "begin")))) (mQ (ae (cOp fIx (ag 1) (cC (.int 1))) (ae (cOp fIx (ag 0) (cC (.int 1))) aD))) 1 [3]) aD))) cR)
noncomputable def fK:CS:=
 (bH (dc 1 (j9 aD))
  (bH (i9 (mL (ag 0)) (gTp [2,3]) (bW ))
  (fC (cCB i8 (ae (ag 1) aD)))))
theorem sW{a0:U}{S:Sto}:fnU 4 1 (fK ) [a0] S=((fK ) [some a0,none,none,none] S).bind kFn:=jZ rfl
theorem sF{k:Nat}(d:Def K mg "_law_times" dC ["log"])(B:Blt mg):d0 P w K mg base "_law_times" (k+1) ["log"] (fnU 4 1 (fK )):=
 d.pure kM fun f cdv A outer s H E hr=>by
  have hu:=dY hr
  have nd:=kM.nd
  exact(aw (aU (i:=1) nd rfl (by first|exact Or.inl rfl|exact Or.inr rfl) (iK aA))
   (aw (iJ PassesOwn.never rfl (qy rfl B.enumerate (ab (wpv 0))) (mE rfl (cm (aF (i:=2) nd rfl (by first|exact Or.inl rfl|exact Or.inr rfl)) (cm (aF (i:=3) nd rfl (by first|exact Or.inl rfl|exact Or.inr rfl)) jy))) (ax (cW (wo hu (cE hu (ab (wpv 3)) (aB ao) (fun _ _=>rfl) (fun _ _=>rfl)) (lS (af (d7 ba) (af (d7 ba) aA))) (by with_unfolding_all rfl)) (ax (eR (Be (ab (wpv 1)) (af (jV (Nc:=["later","event"]) (tn:=["later"]) (capN:=["event"]) (caps:=[3]) rfl (dZ (CV (ab (wpv 0)) (jv (ab (wpv 2))) jw)) (fun _ _ _=>(bD (aF (i:=0) (show(["later","event"]:List Str).Nodup by decide +kernel) rfl (by first|exact Or.inl rfl|exact Or.inr rfl)))) (fun _ _ _=>(bh eS kX (cE hu (ab (wpv 0)) (aB ao) (fun _ _=>rfl) (fun _ _=>rfl)) (d7 ba) (aT _))) (fun _ _ _=>(lS (af (cE hu (ab (wpv 1)) (aB ao) (fun _ _=>rfl) (fun _ _=>rfl)) (af (cE hu (ab (wpv 0)) (aB ao) (fun _ _=>rfl) (fun _ _=>rfl)) aA)))) rfl rfl (by decide +kernel) (by decide +kernel) ⟨rfl,trivial⟩ rfl (.cons ⟨rfl,rfl,rfl,_,rfl⟩ .nil) rfl rfl) aA)))) bV)))
   (ax (aS (d4 yA yv rfl B.sorted OG.gJ (af (ab (wpv 1)) aA))))))
theorem kS:aL ["log","every"] ["log","every"] (ar dJ):=⟨rfl,rfl,rfl,by decide +kernel,rfl,by decide +kernel,by decide +kernel⟩
theorem sM{k:Nat}{dS bE:Fn}(d:Def K mg "_law_asked" dJ ["log","every"])(B:Blt mg)(jO:d0 P w K mg base "_law_begun" (k) ["log"] dS)(gw:d0 P w K mg base "_law_end" (k) ["log","a"] bE):d0 P w K mg base "_law_asked" (k+1) ["log","every"] (fnU 2 2 (fR dS bE)):=
 d.pure kS fun f cdv A outer s H E hr=>by
  have hu:=dY hr
  have nd:=kS.nd
  exact(ax (aS (jV (Nc:=["a","every","log"]) (tn:=["a"]) (capN:=["every","log"]) (caps:=[1,0]) rfl (dZ (aR jO hr rfl (af (ab (wpv 0)) aA))) (fun _ _ _=>(bD (aF (i:=0) (show(["a","every","log"]:List Str).Nodup by decide +kernel) rfl (by first|exact Or.inl rfl|exact Or.inr rfl)))) (fun _ _ _=>(Aq (Jy (jA (ab (wpv 1))) (Bd (bh eS kX (aR gw hr rfl (af (ab (wpv 2)) (af (ab (wpv 0)) aA))) (d7 ba) (aT _)))))) (fun _ _ _=>(ab (wpv 0))) rfl rfl (by decide +kernel) (by decide +kernel) ⟨rfl,rfl,trivial⟩ rfl (.cons ⟨rfl,rfl,rfl,_,rfl⟩ (.cons ⟨rfl,rfl,rfl,_,rfl⟩ .nil)) rfl rfl)))
theorem jq:aL ["log","a","state","puts"] ["log","a","state"] (ar cD):=⟨rfl,rfl,rfl,by decide +kernel,rfl,by decide +kernel,by decide +kernel⟩
theorem oZ{k:Nat}{bE eE:Fn}(d:Def K mg "_law_changed" cD ["log","a","state"])(B:Blt mg)(gw:d0 P w K mg base "_law_end" (k) ["log","a"] bE)(kE:d0 P w K mg base "_law_puts" (k) ["log","a"] eE):d0 P w K mg base "_law_changed" (k+1) ["log","a","state"] (fnU 4 3 (cZ bE eE)):=
 d.pure jq fun f cdv A outer s H E hr=>by
  have hu:=dY hr
  have nd:=jq.nd
  exact(aw (aU (i:=3) nd rfl (by first|exact Or.inl rfl|exact Or.inr rfl) jB)
   (aw (cW (bh eS kX (aR gw hr rfl (af (ab (wpv 0)) (af (ab (wpv 1)) aA))) (d7 ba) (aT _)) (ax (aU (i:=3) nd rfl (by first|exact Or.inl rfl|exact Or.inr rfl) (aR kE hr rfl (af (ab (wpv 0)) (af (ab (wpv 1)) aA))))) bV)
   (ax (aS (jW gh qE rfl B.tuple OG.gq (af (kW (Nc:=["box","number","puts"]) (tn:=["box","number"]) (capN:=["puts"]) (caps:=[3]) rfl (qy rfl B.enumerate (ab (wpv 2))) (fun _ _ _=>(mE rfl (cm (aF (i:=0) (show(["box","number","puts"]:List Str).Nodup by decide +kernel) rfl (by first|exact Or.inl rfl|exact Or.inr rfl)) (cm (aF (i:=1) (show(["box","number","puts"]:List Str).Nodup by decide +kernel) rfl (by first|exact Or.inl rfl|exact Or.inr rfl)) jy)))) (fun _ _ _=>(vd hu (ab (wpv 2)) (ab (wpv 0)) (ab (wpv 1)) ⟨rfl,rfl,rfl,rfl⟩)) rfl rfl (by decide +kernel) (by decide +kernel) ⟨rfl,trivial⟩ rfl (.cons ⟨rfl,rfl,rfl,_,rfl⟩ .nil) rfl rfl) aA))))))
theorem mD:aL ["log","a","state"] ["log","a","state"] (ar eC):=⟨rfl,rfl,rfl,by decide +kernel,rfl,by decide +kernel,by decide +kernel⟩
theorem uq{k:Nat}{dR:Fn}(d:Def K mg "_law_fits" eC ["log","a","state"])(B:Blt mg)(jM:d0 P w K mg base "_law_looks" (k) ["log","a"] dR):d0 P w K mg base "_law_fits" (k+1) ["log","a","state"] (fnU 3 3 (gI dR)):=
 d.pure mD fun f cdv A outer s H E hr=>by
  have hu:=dY hr
  have nd:=mD.nd
  exact(ax (aS (yh hu (pG eK) (kW (Nc:=["box","number","state"]) (tn:=["box","number"]) (capN:=["state"]) (caps:=[2]) rfl (dZ (aR jM hr rfl (af (ab (wpv 0)) (af (ab (wpv 1)) aA)))) (fun _ _ _=>(mE rfl (cm (aF (i:=0) (show(["box","number","state"]:List Str).Nodup by decide +kernel) rfl (by first|exact Or.inl rfl|exact Or.inr rfl)) (cm (aF (i:=1) (show(["box","number","state"]:List Str).Nodup by decide +kernel) rfl (by first|exact Or.inl rfl|exact Or.inr rfl)) jy)))) (fun _ _ _=>(t8 eS kX (cE hu (ab (wpv 2)) (ab (wpv 0)) (fun _ _=>rfl) (fun _ _=>rfl)) (ab (wpv 1)) (aT _))) rfl rfl (by decide +kernel) (by decide +kernel) ⟨rfl,trivial⟩ rfl (.cons ⟨rfl,rfl,rfl,_,rfl⟩ .nil) rfl rfl) (by with_unfolding_all rfl))))
theorem jh:aL ["state","log","every","order","one","other","a"] ["state","log","every","order"] (ar bY):=⟨rfl,rfl,rfl,by decide +kernel,rfl,by decide +kernel,by decide +kernel⟩
noncomputable def aZ(aG bK b6 bc:Fn):CS:=
 (gj (xh (aE (cOp (fIn false) (ag 4) (ag 3))) (xh (aE (cOp (fIn false) (ag 5) (ag 3))) (aE (cOp fLt (cBM n9 (ag 3) (ae (ag 5) aD)) (cBM n9 (ag 3) (ae (ag 4) aD)))))) (fC (cC (.bl false))) cR)
noncomputable def bF(aG bK b6 bc:Fn):CS:=
 (bH (gj (Du (aE (cCB b6 (ae (ag 1) (ae (ag 6) (ae (ag 0) aD)))))) (fC (cC (.bl false))) cR)
  (dc 0 (cCB bc (ae (ag 1) (ae (ag 6) (ae (ag 0) aD))))))
noncomputable def cQ(aG bK b6 bc:Fn):CS:=
 (bH (gj (aE (cOp (mI true) (cCB dg (ae (ag 3) aD)) (cCB aG (ae (ag 1) (ae (ag 2) aD))))) (fC (cC (.bl false))) cR)
  (bH (i9 (iTp (cCB bK (ae (ag 1) aD))) (gTp [4,5]) (aZ aG bK b6 bc))
  (bH (i9 (iTp (ag 3)) (gNm 6) (bF aG bK b6 bc))
  (fC (cC (.bl true))))))
theorem om{aG bK b6 bc:Fn}{a0 a1 a2 a3:U}{S:Sto}:fnU 7 4 (cQ aG bK b6 bc) [a0,a1,a2,a3] S=((cQ aG bK b6 bc) [some a0,some a1,some a2,some a3,none,none,none] S).bind kFn:=jZ rfl
theorem nW{k:Nat}{aG bK b6 bc:Fn}(d:Def K mg "_law_is_order" bY ["state","log","every","order"])(B:Blt mg)(eO:d0 P w K mg base "_law_asked" (k) ["log","every"] aG)(jJ:d0 P w K mg base "_law_times" (k) ["log"] bK)(kF:d0 P w K mg base "_law_fits" (k) ["log","a","state"] b6)(iD:d0 P w K mg base "_law_changed" (k) ["log","a","state"] bc):d0 P w K mg base "_law_is_order" (k+1) ["state","log","every","order"] (fnU 7 4 (cQ aG bK b6 bc)):=
 d.pure jh fun f cdv A outer s H E hr=>by
  have hu:=dY hr
  have nd:=jh.nd
  exact(aw (cW (bh (pL hr.units) ua (d4 (mX rfl) mW rfl B.sorted OG.gJ (af (ab (wpv 3)) aA)) (aR eO hr rfl (af (ab (wpv 1)) (af (ab (wpv 2)) aA))) (aT _)) (ax (aS (pG eK))) bV)
   (aw (iJ PassesOwn.never rfl (dZ (aR jJ hr rfl (af (ab (wpv 1)) aA))) (mE rfl (cm (aF (i:=4) nd rfl (by first|exact Or.inl rfl|exact Or.inr rfl)) (cm (aF (i:=5) nd rfl (by first|exact Or.inl rfl|exact Or.inr rfl)) jy))) (ax (cW (Aq (sh (wo hu (ab (wpv 4)) (ab (wpv 3)) (by with_unfolding_all rfl)) (sh (wo hu (ab (wpv 5)) (ab (wpv 3)) (by with_unfolding_all rfl)) (pH (bh BD JA (yi (ab (wpv 3)) (af (ab (wpv 5)) aA)) (yi (ab (wpv 3)) (af (ab (wpv 4)) aA)) (aT _)))))) (ax (aS (pG eK))) bV)))
   (aw (iJ PassesOwn.never rfl (dZ (ab (wpv 3))) (bD (aF (i:=6) nd rfl (by first|exact Or.inl rfl|exact Or.inr rfl))) (aw (cW (sf (jA (aR kF hr rfl (af (ab (wpv 1)) (af (ab (wpv 6)) (af (ab (wpv 0)) aA)))))) (ax (aS (pG eK))) bV)
   (ax (aU (i:=0) nd rfl (by first|exact Or.inl rfl|exact Or.inr rfl) (aR iD hr rfl (af (ab (wpv 1)) (af (ab (wpv 6)) (af (ab (wpv 0)) aA))))))))
   (ax (aS (pG eK))))))
theorem mB:aL ["found","due"] ["found","due"] (ar eA):=⟨rfl,rfl,rfl,by decide +kernel,rfl,by decide +kernel,by decide +kernel⟩
theorem kx{k:Nat}{aP:Fn}(d:Def K mg "_law_same" eA ["found","due"])(B:Blt mg)(jc:d0 P w K mg base "_law_same" (k) ["found","due"] aP):d0 P w K mg base "_law_same" (k+1) ["found","due"] (fnU 2 2 (eG aP)):=
 d.pure mB fun f cdv A outer s H E hr=>by
  have hu:=dY hr
  have nd:=mB.nd
  exact(aw (cW (bh C5 Ig (ab (wpv 1)) (Hx xw) (aT _)) (ax (aS (t8 C5 Ig (ab (wpv 0)) (Hx xw) (aT _)))) bV)
   (aw (cW (jA (lT (T:=.bool) (by intro z;cases z) (ab (wpv 1)) (iF rfl B.bool OG.lO) rfl B.isinstance)) (ax (aS (nI (lT (T:=.bool) (by intro z;cases z) (ab (wpv 0)) (iF rfl B.bool OG.lO) rfl B.isinstance) (t6 (t8 eS kX (ab (wpv 0)) (ab (wpv 1)) (aT _)))))) bV)
   (aw (cW (jA (lT (T:=.str) (by intro z;cases z) (ab (wpv 1)) (iF rfl B.str OG.vU) rfl B.isinstance)) (ax (aS (nI (lT (T:=.str) (by intro z;cases z) (ab (wpv 0)) (iF rfl B.str OG.vU) rfl B.isinstance) (t6 (t8 eS kX (ab (wpv 0)) (ab (wpv 1)) (aT _)))))) bV)
   (aw (cW (jA (lT (T:=.int) (by intro z;cases z) (ab (wpv 1)) (iF rfl B.int OG.rb) rfl B.isinstance)) (ax (aS (nI (lT (T:=.int) (by intro z;cases z) (ab (wpv 0)) (iF rfl B.int OG.rb) rfl B.isinstance) (nI (CW (lT (T:=.bool) (by intro z;cases z) (ab (wpv 0)) (iF rfl B.bool OG.lO) rfl B.isinstance)) (t6 (t8 eS kX (ab (wpv 0)) (ab (wpv 1)) (aT _))))))) bV)
   (aw (cW (Aq (Jy (bh yx Ie (lT (T:=.tuple) (by intro z;cases z) (ab (wpv 1)) (iF rfl B.tuple OG.gq) rfl B.isinstance) (lT (T:=.tuple) (by intro z;cases z) (ab (wpv 0)) (iF rfl B.tuple OG.gq) rfl B.isinstance) (aT _)) (Bd (bh yx Ie (lT (T:=.list) (by intro z;cases z) (ab (wpv 1)) (iF rfl B.list OG.iS) rfl B.isinstance) (lT (T:=.list) (by intro z;cases z) (ab (wpv 0)) (iF rfl B.list OG.iS) rfl B.isinstance) (aT _))))) (ax (aS (pG eK))) bV)
   (ax (aS (nI (t8 eS kX (d4 qH qF rfl B.len PySem.boot_len (af (ab (wpv 0)) aA)) (d4 qH qF rfl B.len PySem.boot_len (af (ab (wpv 1)) aA)) (aT _)) (t6 (yh hu (pG eK) (kW (Nc:=["one","other"]) (tn:=["one","other"]) (capN:=[]) (caps:=[]) rfl (Hw rfl B.zip (ab (wpv 0)) (ab (wpv 1))) (fun _ _ _=>(mE rfl (cm (aF (i:=0) (show(["one","other"]:List Str).Nodup by decide +kernel) rfl (by first|exact Or.inl rfl|exact Or.inr rfl)) (cm (aF (i:=1) (show(["one","other"]:List Str).Nodup by decide +kernel) rfl (by first|exact Or.inl rfl|exact Or.inr rfl)) jy)))) (fun _ _ _=>(aR jc hr rfl (af (ab (wpv 0)) (af (ab (wpv 1)) aA)))) rfl rfl (by decide +kernel) (by decide +kernel) trivial rfl .nil rfl rfl) (by with_unfolding_all rfl)))))))))))
theorem gT:aL ["pen","log","some","left","found","way","at","number"] ["pen","log","some"] (ar bC):=⟨rfl,rfl,rfl,by decide +kernel,rfl,by decide +kernel,by decide +kernel⟩
noncomputable def eJ(ak:Fn)(fuel:Nat):CS:=
 (ik (cBM dh (ag 4) (ae (cBM lI (ag 3) (ae (cOp fIx (j9 (ae (cC (.int 0)) (ae (cCB ak (ae (ag 0) (ae (cCB qW (ae (ag 3) aD)) aD))) aD))) (cCB ak (ae (ag 0) (ae (cC (.int 2)) aD)))) aD)) aD)))
noncomputable def cP(ak:Fn)(fuel:Nat):CS:=
 (bH (dc 3 (cCB mO (ae (ag 2) aD)))
  (bH (dc 4 (j9 aD))
  (bH (gP (aE (cOp (mI true) (ag 3) (j9 aD))) (eJ ak fuel) fuel)
  (bH (dc 5 (cCB ak (ae (ag 0) (ae (cC (.int 8)) aD))))
  (bH (dc 6 (cCB ak (ae (ag 0) (ae (cOp gX (cCB qW (ae (ag 4) aD)) (cC (.int 1))) aD))))
  (bH (gj (aE (cOp fEq (ag 5) (cC (.int 0)))) (fC (cOp gX (cSl (ag 4) none (some (ag 6))) (cSl (ag 4) (some (cOp gX (ag 6) (cC (.int 1)))) none))) cR)
  (bH (gj (aE (cOp fEq (ag 5) (cC (.int 1)))) (fC (cOp gX (cOp gX (cSl (ag 4) none (some (ag 6))) (cSl (ag 4) none (some (cC (.int 1))))) (cSl (ag 4) (some (ag 6)) none))) cR)
  (bH (gj (aE (cOp fEq (ag 5) (cC (.int 2)))) (bH (dc 7 (cOp fIx (j9 (ae (cCB ak (ae (ag 0) (ae (cC (.int 200)) aD))) (ae (cOp FX (cC (.int 0)) (cC (.int 1))) (ae (cC (.int 200)) (ae (cOp Ar (cC (.int 10)) (cC (.int 50))) aD))))) (cCB ak (ae (ag 0) (ae (cC (.int 4)) aD)))))
  (fC (cOp gX (cOp gX (cSl (ag 4) none (some (ag 6))) (j9 (ae (ag 7) aD))) (cSl (ag 4) (some (cOp gX (ag 6) (cC (.int 1)))) none)))) cR)
  (fC (ag 4))))))))))
theorem me{ak:Fn}{fuel:Nat}{a0 a1 a2:U}{S:Sto}:fnU 8 3 (cP ak fuel) [a0,a1,a2] S=((cP ak fuel) [some a0,some a1,some a2,none,none,none,none,none] S).bind kFn:=jZ rfl
theorem lZ{k:Nat}{ak:Fn}{fuel:Nat}(d:Def K mg "_law_some_order" bC ["pen","log","some"])(B:Blt mg)(aC:d0 P w K mg base "_law_take" (k) ["pen","many"] ak):d0 P w K mg base "_law_some_order" (k+1) ["pen","log","some"] (fnU 8 3 (cP ak fuel)):=
 d.pure gT fun f cdv A outer s H E hr=>by
  have hu:=dY hr
  have nd:=gT.nd
  exact(aw (aU (i:=3) nd rfl (by first|exact Or.inl rfl|exact Or.inr rfl) (jW jE C3 rfl B.list OG.iS (af (ab (wpv 2)) aA)))
   (aw (aU (i:=4) nd rfl (by first|exact Or.inl rfl|exact Or.inr rfl) (iK aA))
   (aw (Bc fuel PassesOwn.never (bh (pL hr.units) ua (ab (wpv 3)) (iK aA) (aT _)) (ax (eR (fX (ab (wpv 4)) (af (t5 (ab (wpv 3)) (af (cE hu (iK (af (aB ao) (af (aR aC hr rfl (af (ab (wpv 0)) (af (d4 qH qF rfl B.len PySem.boot_len (af (ab (wpv 3)) aA)) aA))) aA))) (aR aC hr rfl (af (ab (wpv 0)) (af (aB ao) aA))) (fun _ _=>rfl) (fun _ _=>rfl)) aA)) aA)))))
   (aw (aU (i:=5) nd rfl (by first|exact Or.inl rfl|exact Or.inr rfl) (aR aC hr rfl (af (ab (wpv 0)) (af (aB ao) aA))))
   (aw (aU (i:=6) nd rfl (by first|exact Or.inl rfl|exact Or.inr rfl) (aR aC hr rfl (af (ab (wpv 0)) (af (gC gb fZ (d4 qH qF rfl B.len PySem.boot_len (af (ab (wpv 4)) aA)) (aB ao)) aA))))
   (aw (cW (bh eS kX (ab (wpv 5)) (aB ao) (aT _)) (ax (aS (gC gb fZ (CV (ab (wpv 4)) jw (jv (ab (wpv 6)))) (CV (ab (wpv 4)) (jv (gC gb fZ (ab (wpv 6)) (aB ao))) jw)))) bV)
   (aw (cW (bh eS kX (ab (wpv 5)) (aB ao) (aT _)) (ax (aS (gC gb fZ (gC gb fZ (CV (ab (wpv 4)) jw (jv (ab (wpv 6)))) (CV (ab (wpv 4)) jw (jv (aB ao)))) (CV (ab (wpv 4)) (jv (ab (wpv 6))) jw)))) bV)
   (aw (cW (bh eS kX (ab (wpv 5)) (aB ao) (aT _)) (aw (aU (i:=7) nd rfl (by first|exact Or.inl rfl|exact Or.inr rfl) (cE hu (iK (af (aR aC hr rfl (af (ab (wpv 0)) (af (aB ao) aA))) (af (gC C4 Ib (aB ao) (aB ao)) (af (aB ao) (af (gC yw ET (aB ao) (aB ao)) aA))))) (aR aC hr rfl (af (ab (wpv 0)) (af (aB ao) aA))) (fun _ _=>rfl) (fun _ _=>rfl)))
   (ax (aS (gC gb fZ (gC gb fZ (CV (ab (wpv 4)) jw (jv (ab (wpv 6)))) (iK (af (ab (wpv 7)) aA))) (CV (ab (wpv 4)) (jv (gC gb fZ (ab (wpv 6)) (aB ao))) jw))))) bV)
   (ax (aS (ab (wpv 4))))))))))))
theorem gB:aL ["self","a","box","number"] ["self","a","box","number"] (ar bM):=⟨rfl,rfl,rfl,by decide +kernel,rfl,by decide +kernel,by decide +kernel⟩
theorem lG{k:Nat}{av:Cl}{fa:Addr}{fd:FuncData}(F:Fun K "note_look" "Course.note_look" bM fa fd)(bi:gM K fd ["self","a","box","number"] [])(mt:vZ K av.C "note_look" fa)(B:Blt mg)(TCourse:TC K av ["ends","looks","needs","puts","before"]):v7 P w K mg base av "note_look" (k+1) ["self","a","box","number"] (fnU 4 4 (bN av)):=
 ⟨⟨fa,fd,mt,F.pure gB fun cdv A outer s H E hr=>(by
  have hu:=dY hr
  have nd:=gB.nd
  exact(ax (cW (qz hu (ab (wpv 2)) (cE hu (fW TCourse.cl (TCourse.na 3 rfl) (TCourse.ix rfl) (ab (wpv 0))) (ab (wpv 1)) (fun _ _=>rfl) (fun _ _=>rfl)) (by with_unfolding_all rfl)) (aw (eR (fX (cE hu (fW TCourse.cl (TCourse.na 1 rfl) (TCourse.ix rfl) (ab (wpv 0))) (ab (wpv 1)) (fun _ _=>rfl) (fun _ _=>rfl)) (af (lS (af (ab (wpv 2)) (af (ab (wpv 3)) aA))) aA)))
   (ax (yg hu (cE hu (fW TCourse.cl (TCourse.na 2 rfl) (TCourse.ix rfl) (ab (wpv 0))) (ab (wpv 1)) (fun _ _=>rfl) (fun _ _=>rfl)) (af (ab (wpv 2)) (af (ab (wpv 3)) aA)) (pG eK)))) bV))),bi⟩⟩
theorem jr:aL ["self","a"] ["self","a"] (ar cX):=⟨rfl,rfl,rfl,by decide +kernel,rfl,by decide +kernel,by decide +kernel⟩
theorem o3{k:Nat}{av:Cl}{fa:Addr}{fd:FuncData}(F:Fun K "enter" "Course.enter" cX fa fd)(bi:gM K fd ["self","a"] [])(mt:vZ K av.C "enter" fa)(B:Blt mg)(TCourse:TC K av ["ends","looks","needs","puts","before"]):v7 P w K mg base av "enter" (k+1) ["self","a"] (fnU 2 2 (d8 av)):=
 ⟨⟨fa,fd,mt,F.pure jr fun cdv A outer s H E hr=>(by
  have hu:=dY hr
  have nd:=jr.nd
  exact(aw (cT hu (fW TCourse.cl (TCourse.na 4 rfl) (TCourse.ix rfl) (ab (wpv 0))) (ab (wpv 1)) (yj (Nc:=["one","self"]) (tn:=["one"]) (capN:=["self"]) (caps:=[0]) rfl (fW TCourse.cl (TCourse.na 0 rfl) (TCourse.ix rfl) (ab (wpv 0))) (fun _ _ _=>(bD (aF (i:=0) (show(["one","self"]:List Str).Nodup by decide +kernel) rfl (by first|exact Or.inl rfl|exact Or.inr rfl)))) (fun _ _ _=>(bh yx Ie (cE hu (fW TCourse.cl (TCourse.na 0 rfl) (TCourse.ix rfl) (ab (wpv 1))) (ab (wpv 0)) (fun _ _=>rfl) (fun _ _=>rfl)) (d7 ba) (aT _))) (fun _ _ _=>(ab (wpv 0))) rfl rfl (by decide +kernel) (by decide +kernel) ⟨rfl,trivial⟩ rfl (.cons ⟨rfl,rfl,rfl,_,rfl⟩ .nil) rfl rfl))
   (aw (cT hu (fW TCourse.cl (TCourse.na 0 rfl) (TCourse.ix rfl) (ab (wpv 0))) (ab (wpv 1)) (d7 ba))
   (aw (cT hu (fW TCourse.cl (TCourse.na 1 rfl) (TCourse.ix rfl) (ab (wpv 0))) (ab (wpv 1)) (iK aA))
   (aw (cT hu (fW TCourse.cl (TCourse.na 2 rfl) (TCourse.ix rfl) (ab (wpv 0))) (ab (wpv 1)) Ew)
   (ax (cT hu (fW TCourse.cl (TCourse.na 3 rfl) (TCourse.ix rfl) (ab (wpv 0))) (ab (wpv 1)) jB))))))),bi⟩⟩
theorem ji:aL ["self","event","a"] ["self","event"] (ar cK):=⟨rfl,rfl,rfl,by decide +kernel,rfl,by decide +kernel,by decide +kernel⟩
theorem nX{k:Nat}{cG br:Fn}{av:Cl}{fa:Addr}{fd:FuncData}(F:Fun K "follow" "Course.follow" cK fa fd)(bi:gM K fd ["self","event"] [])(mt:vZ K av.C "follow" fa)(B:Blt mg)(TCourse:TC K av ["ends","looks","needs","puts","before"])(M_Course_enter:v7 P w K mg base av "enter" (k) ["self","a"] cG)(M_Course_note_look:v7 P w K mg base av "note_look" (k) ["self","a","box","number"] br):v7 P w K mg base av "follow" (k+1) ["self","event"] (fnU 3 2 (bu cG br av)):=
 ⟨⟨fa,fd,mt,F.pure ji fun cdv A outer s H E hr=>(by
  have hu:=dY hr
  have nd:=ji.nd
  exact(aw (aU (i:=2) nd rfl (by first|exact Or.inl rfl|exact Or.inr rfl) (cE hu (ab (wpv 1)) (aB ao) (fun _ _=>rfl) (fun _ _=>rfl)))
   (ax (cW (bh eS kX (cE hu (ab (wpv 1)) (aB ao) (fun _ _=>rfl) (fun _ _=>rfl)) (d7 ba) (aT _)) (ax (eR (sg TCourse.cl M_Course_enter hr (TCourse.nm (by decide +kernel)) (ab (wpv 0)) (af (ab (wpv 2)) aA)))) (ax (cW (bh eS kX (cE hu (ab (wpv 1)) (aB ao) (fun _ _=>rfl) (fun _ _=>rfl)) (d7 ba) (aT _)) (ax (eR (sg TCourse.cl M_Course_note_look hr (TCourse.nm (by decide +kernel)) (ab (wpv 0)) (af (ab (wpv 2)) (af (cE hu (ab (wpv 1)) (aB ao) (fun _ _=>rfl) (fun _ _=>rfl)) (af (cE hu (ab (wpv 1)) (aB ao) (fun _ _=>rfl) (fun _ _=>rfl)) aA)))))) (ax (cW (bh eS kX (cE hu (ab (wpv 1)) (aB ao) (fun _ _=>rfl) (fun _ _=>rfl)) (d7 ba) (aT _)) (ax (cT hu (cE hu (fW TCourse.cl (TCourse.na 3 rfl) (TCourse.ix rfl) (ab (wpv 0))) (ab (wpv 2)) (fun _ _=>rfl) (fun _ _=>rfl)) (cE hu (ab (wpv 1)) (aB ao) (fun _ _=>rfl) (fun _ _=>rfl)) (cE hu (ab (wpv 1)) (aB ao) (fun _ _=>rfl) (fun _ _=>rfl)))) (ax (cT hu (fW TCourse.cl (TCourse.na 0 rfl) (TCourse.ix rfl) (ab (wpv 0))) (ab (wpv 2)) (cE hu (ab (wpv 1)) (aB ao) (fun _ _=>rfl) (fun _ _=>rfl)))))))))))),bi⟩⟩
theorem ke:aL ["self"] ["self"] (ar dW):=⟨rfl,rfl,rfl,by decide +kernel,rfl,by decide +kernel,by decide +kernel⟩
theorem qR{k:Nat}{av:Cl}{fa:Addr}{fd:FuncData}(F:Fun K "__init__" "Course.__init__" dW fa fd)(bi:gM K fd ["self"] [])(mk:Mk K av.C fa)(hmg:mg "Course"=some (.ref av.C))(B:Blt mg)(TCourse:TC K av ["ends","looks","needs","puts","before"]):CMk P w K mg base av "Course" (k+1) ["self"] (fnU 1 1 (eX av)):=
 ⟨⟨fa,fd,mk,F.pure ke fun cdv A outer s H E hr=>(by
  have hu:=dY hr
  have nd:=ke.nd
  exact(aw (ju TCourse.cl (TCourse.na 0 rfl) (TCourse.ix rfl) (ab (wpv 0)) jB)
   (aw (ju TCourse.cl (TCourse.na 1 rfl) (TCourse.ix rfl) (ab (wpv 0)) jB)
   (aw (ju TCourse.cl (TCourse.na 2 rfl) (TCourse.ix rfl) (ab (wpv 0)) jB)
   (aw (ju TCourse.cl (TCourse.na 3 rfl) (TCourse.ix rfl) (ab (wpv 0)) jB)
   (ax (ju TCourse.cl (TCourse.na 4 rfl) (TCourse.ix rfl) (ab (wpv 0)) jB))))))),bi,hmg⟩,by rw[TCourse.ns];decide +kernel,by rw[TCourse.ns];decide⟩
theorem my:aL ["log","course","event"] ["log"] (ar ef):=⟨rfl,rfl,rfl,by decide +kernel,rfl,by decide +kernel,by decide +kernel⟩
theorem uk{k:Nat}{bt bS:Fn}{av:Cl}(d:Def K mg "course_of" ef ["log"])(B:Blt mg)(TCourse:TC K av ["ends","looks","needs","puts","before"])(M_Course_follow:v7 P w K mg base av "follow" (k+1) ["self","event"] bt)(M_Course:CMk P w K mg base av "Course" k ["self"] bS):d0 P w K mg base "course_of" (k+1+1) ["log"] (fnU 3 1 (gG bt bS av)):=
 d.pure my fun f cdv A outer s H E hr=>by
  have hu:=dY hr
  have nd:=my.nd
  exact(aw (aU (i:=1) nd rfl (by first|exact Or.inl rfl|exact Or.inr rfl) (Eu M_Course hr rfl))
   (aw (iJ PassesOwn.never rfl (dZ (ab (wpv 0))) (bD (aF (i:=2) nd rfl (by first|exact Or.inl rfl|exact Or.inr rfl))) (ax (eR (sg TCourse.cl M_Course_follow hr (TCourse.nm (by decide +kernel)) (ab (wpv 1)) (af (ab (wpv 2)) aA)))))
   (ax (aS (ab (wpv 1))))))
theorem nz:aL ["thing"] ["thing"] (ar fh):=⟨rfl,rfl,rfl,by decide +kernel,rfl,by decide +kernel,by decide +kernel⟩
theorem wI{k:Nat}(d:Def K mg "is_whole" fh ["thing"])(B:Blt mg):d0 P w K mg base "is_whole" (k+1) ["thing"] (fnU 1 1 (iN )):=
 d.pure nz fun f cdv A outer s H E hr=>by
  have hu:=dY hr
  have nd:=nz.nd
  exact(ax (aS (nI (lT (T:=.int) (by intro z;cases z) (ab (wpv 0)) (iF rfl B.int OG.rb) rfl B.isinstance) (t6 (CW (lT (T:=.bool) (by intro z;cases z) (ab (wpv 0)) (iF rfl B.bool OG.lO) rfl B.isinstance))))))
theorem nB:aL ["course","every","a"] ["course","every","a"] (ar fj):=⟨rfl,rfl,rfl,by decide +kernel,rfl,by decide +kernel,by decide +kernel⟩
theorem wK{k:Nat}{av:Cl}(d:Def K mg "is_asked" fj ["course","every","a"])(B:Blt mg)(TCourse:TC K av ["ends","looks","needs","puts","before"]):d0 P w K mg base "is_asked" (k+1) ["course","every","a"] (fnU 3 3 (gp av)):=
 d.pure nB fun f cdv A outer s H E hr=>by
  have hu:=dY hr
  have nd:=nB.nd
  exact(ax (aS (KP (ab (wpv 1)) (t6 (t8 eS kX (cE hu (fW TCourse.cl (TCourse.na 0 rfl) (TCourse.ix rfl) (ab (wpv 0))) (ab (wpv 2)) (fun _ _=>rfl) (fun _ _=>rfl)) (d7 ba) (aT _))))))
theorem nC:aL ["course","every"] ["course","every"] (ar fk):=⟨rfl,rfl,rfl,by decide +kernel,rfl,by decide +kernel,by decide +kernel⟩
theorem wL{k:Nat}{bo:Fn}{av:Cl}(d:Def K mg "asked_in" fk ["course","every"])(B:Blt mg)(TCourse:TC K av ["ends","looks","needs","puts","before"])(gu:d0 P w K mg base "is_asked" (k) ["course","every","a"] bo):d0 P w K mg base "asked_in" (k+1) ["course","every"] (fnU 2 2 (iP bo av)):=
 d.pure nC fun f cdv A outer s H E hr=>by
  have hu:=dY hr
  have nd:=nC.nd
  exact(ax (aS (jV (Nc:=["a","course","every"]) (tn:=["a"]) (capN:=["course","every"]) (caps:=[0,1]) rfl (dZ (d4 (mX rfl) mW rfl B.sorted OG.gJ (af (fW TCourse.cl (TCourse.na 0 rfl) (TCourse.ix rfl) (ab (wpv 0))) aA))) (fun _ _ _=>(bD (aF (i:=0) (show(["a","course","every"]:List Str).Nodup by decide +kernel) rfl (by first|exact Or.inl rfl|exact Or.inr rfl)))) (fun _ _ _=>(jA (aR gu hr rfl (af (ab (wpv 1)) (af (ab (wpv 2)) (af (ab (wpv 0)) aA)))))) (fun _ _ _=>(ab (wpv 0))) rfl rfl (by decide +kernel) (by decide +kernel) ⟨rfl,rfl,trivial⟩ rfl (.cons ⟨rfl,rfl,rfl,_,rfl⟩ (.cons ⟨rfl,rfl,rfl,_,rfl⟩ .nil)) rfl rfl)))
theorem u9:aL ["log","every"] ["log","every"] (ar km):=⟨rfl,rfl,rfl,by decide +kernel,rfl,by decide +kernel,by decide +kernel⟩
theorem Fl{k:Nat}{bq bj:Fn}(d:Def K mg "asked" km ["log","every"])(B:Blt mg)(gv:d0 P w K mg base "asked_in" (k) ["course","every"] bq)(fD:d0 P w K mg base "course_of" (k) ["log"] bj):d0 P w K mg base "asked" (k+1) ["log","every"] (fnU 2 2 (oC bq bj)):=
 d.pure u9 fun f cdv A outer s H E hr=>by
  have hu:=dY hr
  have nd:=u9.nd
  exact(ax (aS (aR gv hr rfl (af (aR fD hr rfl (af (ab (wpv 0)) aA)) (af (ab (wpv 1)) aA)))))
theorem yb:aL ["course","a","state","need"] ["course","a","state"] (ar nG):=⟨rfl,rfl,rfl,by decide +kernel,rfl,by decide +kernel,by decide +kernel⟩
theorem IZ{k:Nat}{av:Cl}(d:Def K mg "fits" nG ["course","a","state"])(B:Blt mg)(TCourse:TC K av ["ends","looks","needs","puts","before"]):d0 P w K mg base "fits" (k+1) ["course","a","state"] (fnU 4 3 (qd av)):=
 d.pure yb fun f cdv A outer s H E hr=>by
  have hu:=dY hr
  have nd:=yb.nd
  exact(aw (Et PassesOwn.never rfl (cE hu (fW TCourse.cl (TCourse.na 2 rfl) (TCourse.ix rfl) (ab (wpv 0))) (ab (wpv 1)) (fun _ _=>rfl) (fun _ _=>rfl)) (bD (aF (i:=3) nd rfl (by first|exact Or.inl rfl|exact Or.inr rfl))) (ax (cW (bh yx Ie (cE hu (ab (wpv 2)) (cE hu (ab (wpv 3)) (aB ao) (fun _ _=>rfl) (fun _ _=>rfl)) (fun _ _=>rfl) (fun _ _=>rfl)) (cE hu (ab (wpv 3)) (aB ao) (fun _ _=>rfl) (fun _ _=>rfl)) (aT _)) (ax (aS (pG eK))) bV)))
   (ax (aS (pG eK))))
theorem kK:aL ["course","a","state"] ["course","a","state"] (ar dA):=⟨rfl,rfl,rfl,by decide +kernel,rfl,by decide +kernel,by decide +kernel⟩
theorem sD{k:Nat}{av:Cl}(d:Def K mg "state_with" dA ["course","a","state"])(B:Blt mg)(TCourse:TC K av ["ends","looks","needs","puts","before"]):d0 P w K mg base "state_with" (k+1) ["course","a","state"] (fnU 3 3 (eN av)):=
 d.pure kK fun f cdv A outer s H E hr=>by
  have hu:=dY hr
  have nd:=kK.nd
  exact(aw (cW (bh yx Ie (cE hu (fW TCourse.cl (TCourse.na 0 rfl) (TCourse.ix rfl) (ab (wpv 0))) (ab (wpv 1)) (fun _ _=>rfl) (fun _ _=>rfl)) (d7 ba) (aT _)) (ax (aS (ab (wpv 2)))) bV)
   (ax (aS (jW gh qE rfl B.tuple OG.gq (af (kW (Nc:=["box","number","a","course"]) (tn:=["box","number"]) (capN:=["a","course"]) (caps:=[1,0]) rfl (qy rfl B.enumerate (ab (wpv 2))) (fun _ _ _=>(mE rfl (cm (aF (i:=0) (show(["box","number","a","course"]:List Str).Nodup by decide +kernel) rfl (by first|exact Or.inl rfl|exact Or.inr rfl)) (cm (aF (i:=1) (show(["box","number","a","course"]:List Str).Nodup by decide +kernel) rfl (by first|exact Or.inl rfl|exact Or.inr rfl)) jy)))) (fun _ _ _=>(vd hu (cE hu (fW TCourse.cl (TCourse.na 3 rfl) (TCourse.ix rfl) (ab (wpv 3))) (ab (wpv 2)) (fun _ _=>rfl) (fun _ _=>rfl)) (ab (wpv 0)) (ab (wpv 1)) ⟨rfl,rfl,rfl,rfl⟩)) rfl rfl (by decide +kernel) (by decide +kernel) ⟨rfl,rfl,trivial⟩ rfl (.cons ⟨rfl,rfl,rfl,_,rfl⟩ (.cons ⟨rfl,rfl,rfl,_,rfl⟩ .nil)) rfl rfl) aA)))))
theorem kf:aL ["self","course","every","a"] ["self","course","every"] (ar dX):=⟨rfl,rfl,rfl,by decide +kernel,rfl,by decide +kernel,by decide +kernel⟩
theorem qS{k:Nat}{bq bo:Fn}{aH av:Cl}{fa:Addr}{fd:FuncData}(F:Fun K "__init__" "Asking.__init__" dX fa fd)(bi:gM K fd ["self","course","every"] [])(mk:Mk K aH.C fa)(hmg:mg "Asking"=some (.ref aH.C))(B:Blt mg)(TAsking:TC K aH ["course","ones","needed"])(TCourse:TC K av ["ends","looks","needs","puts","before"])(gv:d0 P w K mg base "asked_in" (k) ["course","every"] bq)(gu:d0 P w K mg base "is_asked" (k) ["course","every","a"] bo):CMk P w K mg base aH "Asking" (k+1) ["self","course","every"] (fnU 4 3 (e8 bq bo aH av)):=
 ⟨⟨fa,fd,mk,F.pure kf fun cdv A outer s H E hr=>(by
  have hu:=dY hr
  have nd:=kf.nd
  exact(aw (ju TAsking.cl (TAsking.na 0 rfl) (TAsking.ix rfl) (ab (wpv 0)) (ab (wpv 1)))
   (aw (ju TAsking.cl (TAsking.na 1 rfl) (TAsking.ix rfl) (ab (wpv 0)) (aR gv hr rfl (af (ab (wpv 1)) (af (ab (wpv 2)) aA))))
   (aw (ju TAsking.cl (TAsking.na 2 rfl) (TAsking.ix rfl) (ab (wpv 0)) jB)
   (ax (iJ PassesOwn.never rfl (dZ (fW TAsking.cl (TAsking.na 1 rfl) (TAsking.ix rfl) (ab (wpv 0)))) (bD (aF (i:=3) nd rfl (by first|exact Or.inl rfl|exact Or.inr rfl))) (ax (cT hu (fW TAsking.cl (TAsking.na 2 rfl) (TAsking.ix rfl) (ab (wpv 0))) (ab (wpv 3)) (jV (Nc:=["one","course","every"]) (tn:=["one"]) (capN:=["course","every"]) (caps:=[1,2]) rfl (dZ (cE hu (fW TCourse.cl (TCourse.na 4 rfl) (TCourse.ix rfl) (ab (wpv 1))) (ab (wpv 3)) (fun _ _=>rfl) (fun _ _=>rfl))) (fun _ _ _=>(bD (aF (i:=0) (show(["one","course","every"]:List Str).Nodup by decide +kernel) rfl (by first|exact Or.inl rfl|exact Or.inr rfl)))) (fun _ _ _=>(jA (aR gu hr rfl (af (ab (wpv 1)) (af (ab (wpv 2)) (af (ab (wpv 0)) aA)))))) (fun _ _ _=>(ab (wpv 0))) rfl rfl (by decide +kernel) (by decide +kernel) ⟨rfl,rfl,trivial⟩ rfl (.cons ⟨rfl,rfl,rfl,_,rfl⟩ (.cons ⟨rfl,rfl,rfl,_,rfl⟩ .nil)) rfl rfl))))))))),bi,hmg⟩,by rw[TAsking.ns];decide +kernel,by rw[TAsking.ns];decide⟩
theorem fH:aL ["self","a","gone","state"] ["self","a","gone","state"] (ar bz):=⟨rfl,rfl,rfl,by decide +kernel,rfl,by decide +kernel,by decide +kernel⟩
theorem j6{k:Nat}{n5:Fn}{aH:Cl}{fa:Addr}{fd:FuncData}(F:Fun K "may_be_next" "Asking.may_be_next" bz fa fd)(bi:gM K fd ["self","a","gone","state"] [])(mt:vZ K aH.C "may_be_next" fa)(B:Blt mg)(TAsking:TC K aH ["course","ones","needed"])(An:d0 P w K mg base "fits" (k) ["course","a","state"] n5):v7 P w K mg base aH "may_be_next" (k+1) ["self","a","gone","state"] (fnU 4 4 (bA n5 aH)):=
 ⟨⟨fa,fd,mt,F.pure fH fun cdv A outer s H E hr=>(by
  have hu:=dY hr
  have nd:=fH.nd
  exact(ax (aS (nI (d4 (vT rfl) Ih rfl B.all OG.vV (af (kW (Nc:=["one","gone"]) (tn:=["one"]) (capN:=["gone"]) (caps:=[2]) rfl (dZ (cE hu (fW TAsking.cl (TAsking.na 2 rfl) (TAsking.ix rfl) (ab (wpv 0))) (ab (wpv 1)) (fun _ _=>rfl) (fun _ _=>rfl))) (fun _ _ _=>(bD (aF (i:=0) (show(["one","gone"]:List Str).Nodup by decide +kernel) rfl (by first|exact Or.inl rfl|exact Or.inr rfl)))) (fun _ _ _=>(MI hu (ab (wpv 0)) (ab (wpv 1)) (by with_unfolding_all rfl))) rfl rfl (by decide +kernel) (by decide +kernel) ⟨rfl,trivial⟩ rfl (.cons ⟨rfl,rfl,rfl,_,rfl⟩ .nil) rfl rfl) aA)) (t6 (aR An hr rfl (af (fW TAsking.cl (TAsking.na 0 rfl) (TAsking.ix rfl) (ab (wpv 0))) (af (ab (wpv 1)) (af (ab (wpv 3)) aA))))))))),bi⟩⟩
theorem iI:aL ["self","order","state","gone","reached","a"] ["self","order","state"] (ar b7):=⟨rfl,rfl,rfl,by decide +kernel,rfl,by decide +kernel,by decide +kernel⟩
theorem mM{k:Nat}{cu aM:Fn}{aH:Cl}{fa:Addr}{fd:FuncData}(F:Fun K "is_good" "Asking.is_good" b7 fa fd)(bi:gM K fd ["self","order","state"] [])(mt:vZ K aH.C "is_good" fa)(B:Blt mg)(TAsking:TC K aH ["course","ones","needed"])(jH:d0 P w K mg base "state_with" (k) ["course","a","state"] cu)(M_Asking_may_be_next:v7 P w K mg base aH "may_be_next" (k) ["self","a","gone","state"] aM):v7 P w K mg base aH "is_good" (k+1) ["self","order","state"] (fnU 6 3 (bQ cu aM aH)):=
 ⟨⟨fa,fd,mt,F.pure iI fun cdv A outer s H E hr=>(by
  have hu:=dY hr
  have nd:=iI.nd
  exact(aw (cW (bh (pL hr.units) ua (d4 (mX rfl) mW rfl B.sorted OG.gJ (af (ab (wpv 1)) aA)) (fW TAsking.cl (TAsking.na 1 rfl) (TAsking.ix rfl) (ab (wpv 0))) (aT _)) (ax (aS (pG eK))) bV)
   (aw (aU (i:=3) nd rfl (by first|exact Or.inl rfl|exact Or.inr rfl) jB)
   (aw (aU (i:=4) nd rfl (by first|exact Or.inl rfl|exact Or.inr rfl) (ab (wpv 2)))
   (aw (iJ PassesOwn.never rfl (dZ (ab (wpv 1))) (bD (aF (i:=5) nd rfl (by first|exact Or.inl rfl|exact Or.inr rfl))) (aw (cW (sf (jA (sg TAsking.cl M_Asking_may_be_next hr (TAsking.nm (by decide +kernel)) (ab (wpv 0)) (af (ab (wpv 5)) (af (ab (wpv 3)) (af (ab (wpv 4)) aA)))))) (ax (aS (pG eK))) bV)
   (aw (cT hu (ab (wpv 3)) (ab (wpv 5)) (pG eK))
   (ax (aU (i:=4) nd rfl (by first|exact Or.inl rfl|exact Or.inr rfl) (aR jH hr rfl (af (fW TAsking.cl (TAsking.na 0 rfl) (TAsking.ix rfl) (ab (wpv 0))) (af (ab (wpv 5)) (af (ab (wpv 4)) aA)))))))))
   (ax (aS (pG eK)))))))),bi⟩⟩
theorem nA:aL ["world","state","log","every","order"] ["world","state","log","every","order"] (ar fi):=⟨rfl,rfl,rfl,by decide +kernel,rfl,by decide +kernel,by decide +kernel⟩
theorem wJ{k:Nat}{fA bj bP cU:Fn}{aH:Cl}(d:Def K mg "is_order" fi ["world","state","log","every","order"])(B:Blt mg)(TAsking:TC K aH ["course","ones","needed"])(ml:d0 P w K mg base "is_whole" (k+1) ["thing"] fA)(fD:d0 P w K mg base "course_of" (k+1) ["log"] bj)(M_Asking_is_good:v7 P w K mg base aH "is_good" (k+1) ["self","order","state"] bP)(M_Asking:CMk P w K mg base aH "Asking" k ["self","course","every"] cU):d0 P w K mg base "is_order" (k+1+1) ["world","state","log","every","order"] (fnU 5 5 (iO fA bj bP cU aH)):=
 d.pure nA fun f cdv A outer s H E hr=>by
  have hu:=dY hr
  have nd:=nA.nd
  exact(aw (cW (sf (jA (d4 (vT rfl) Ih rfl B.all OG.vV (af (kW (Nc:=["a"]) (tn:=["a"]) (capN:=[]) (caps:=[]) rfl (dZ (ab (wpv 4))) (fun _ _ _=>(bD (aF (i:=0) (show(["a"]:List Str).Nodup by decide +kernel) rfl (by first|exact Or.inl rfl|exact Or.inr rfl)))) (fun _ _ _=>(aR ml hr rfl (af (ab (wpv 0)) aA))) rfl rfl (by decide +kernel) (by decide +kernel) trivial rfl .nil rfl rfl) aA)))) (ax (aS (pG eK))) bV)
   (ax (aS (sg TAsking.cl M_Asking_is_good hr (TAsking.nm (by decide +kernel)) (Hy M_Asking hr rfl (af (aR fD hr rfl (af (ab (wpv 2)) aA)) (af (ab (wpv 3)) aA))) (af (ab (wpv 4)) (af (ab (wpv 1)) aA))))))
theorem CO:aL ["script","pen","world","state","turn","log","every","some","found","begun","ended","left","orders","order","handed","due","told"] ["script"] (ar oX):=⟨rfl,rfl,rfl,by decide +kernel,rfl,by decide +kernel,by decide +kernel⟩
noncomputable def oI(bJ bL cM aG gF aP aN aV cL:Fn):CS:=
 (bH (dc 14 (cCB mO (ae (ag 13) aD)))
  (bH (dc 15 (cCB aV (ae (ag 3) (ae (ag 5) (ae (ag 6) (ae (ag 13) aD))))))
  (bH (dc 16 (cCB cL (ae (ag 2) (ae (ag 3) (ae (ag 5) (ae (ag 6) (ae (ag 14) aD)))))))
  (gj (cOr (Du (aE (cCB aP (ae (ag 16) (ae (ag 15) aD))))) (aE (cOp (mI true) (ag 14) (ag 13)))) (fC (cC (.bl false))) cR))))
noncomputable def rk(bJ bL cM aG gF aP aN aV cL:Fn):CS:=
 (bH (dc 7 (cCB aG (ae (ag 5) (ae (ag 6) aD))))
  (bH (dc 8 (cCB gF (ae (ag 5) (ae (ag 6) aD))))
  (bH (gj (Du (aE (cCB aP (ae (ag 8) (ae (ag 7) aD))))) (fC (cC (.bl false))) cR)
  (bH (ik (cBM dh (ag 8) (ae (cC (.int 0)) aD)))
  (bH (dc 9 (aY (iTp (ag 5)) (gNm 0) (aE (cOp fEq (cOp fIx (ag 0) (cC (.int 0))) (cC (.str "begin")))) (cOp fIx (ag 0) (cC (.int 1))) 1 []))
  (bH (dc 9 (aY (iTp (ag 9)) (gNm 0) (aE (cOp (fIn false) (ag 0) (ag 1))) (ag 0) 1 [7]))
  (bH (dc 10 (aY (iTp (ag 5)) (gNm 0) (aE (cOp fEq (cOp fIx (ag 0) (cC (.int 0))) (cC (.str "done")))) (cOp fIx (ag 0) (cC (.int 1))) 1 []))
  (bH (dc 11 (aY (iTp (ag 9)) (gNm 0) (aE (cOp (fIn true) (ag 0) (ag 1))) (ag 0) 1 [10]))
  (bH (dc 12 (j9 (ae (ag 9) (ae (ag 10) (ae (cOp gX (ag 10) (ag 11)) aD)))))
  (bH (dc 12 (cOp gX (ag 12) (fU (eV (ae (cC (.int 3)) aD)) (gNm 0) (cCB aN (ae (ag 1) (ae (ag 2) (ae (ag 3) aD)))) 1 [1,5,7])))
  (i9 (iTp (ag 12)) (gNm 13) (oI bJ bL cM aG gF aP aN aV cL))))))))))))
noncomputable def oH(bJ bL cM aG gF aP aN aV cL:Fn):CS:=
 (bH (dc 5 (cCB cM (ae (ag 1) (ae (ag 2) (ae (ag 3) (ae (cC (.int 5)) (ae (cC (.int 30)) aD)))))))
  (i9 (iTp (mQ (ae (cC (.bl true)) (ae (cC (.bl false)) aD)))) (gNm 6) (rk bJ bL cM aG gF aP aN aV cL)))
noncomputable def zP(bJ bL cM aG gF aP aN aV cL:Fn):CS:=
 (bH (dc 2 (cCB bJ (ae (ag 1) aD)))
  (bH (dc 3 (cCB bL (ae (ag 1) (ae (ag 2) aD))))
  (bH (i9 (eV (ae (cC (.int 3)) aD)) (gNm 4) (oH bJ bL cM aG gF aP aN aV cL))
  (fC (cC (.bl true))))))
theorem Lp{k:Nat}{bJ bL cM aG gF aP aN aV cL:Fn}{fa:Addr}{fd:FuncData}(F:Fun K "law" "law" oX fa fd)(B:Blt mg)(xc:Has P w K mg base "_law_pen" k ["script"] (CM K))(jI:d0 P w K mg base "_law_world" k ["pen"] bJ)(jK:d0 P w K mg base "_law_state" k ["pen","world"] bL)(mr:d0 P w K mg base "_law_log" k ["pen","world","state","most","size"] cM)(eO:d0 P w K mg base "_law_asked" k ["log","every"] aG)(uN:d0 P w K mg base "asked" k ["log","every"] gF)(jc:d0 P w K mg base "_law_same" k ["found","due"] aP)(fF:d0 P w K mg base "_law_some_order" k ["pen","log","some"] aN)(gK:d0 P w K mg base "_law_is_order" k ["state","log","every","order"] aV)(mq:d0 P w K mg base "is_order" k ["world","state","log","every","order"] cL)
  (ok:∀(ns:List Int) (a c:Int),0<=a->0<=c->∃ρ' S',zP bJ bL cM aG gF aP aN aV cL [none,some (.ref 1),none,none,none,none,none,none,none,none,none,none,none,none,none,none,none] [.lst (ns.map U.int),.lst [.ref 0,.int a,.int c]]=some (.rt (.bl true),ρ',S')):nh P w K mg base CX0 (k+1) fa fd ["script"] (A3 K):=by
 refine Fun.okW F CO (fun vs H Q E h=>(by obtain⟨a,ns,rfl,_⟩:=h;rfl)) fun cdv A outer s H vs Q E hr h=>?_
 obtain⟨a,ns,rfl,hS,fT,q⟩:=h
 have hu:=dY hr
 have nd:=CO.nd
 refine⟨_,rK (u:=tS K (zP bJ bL cM aG gF aP aN aV cL)) (xn (i:=1) nd rfl (by first|exact Or.inl rfl|exact Or.inr rfl) (CB xc hr rfl (eQ (wpv 0) kj))) (aw (aU (i:=2) nd rfl (by first|exact Or.inl rfl|exact Or.inr rfl) (aR jI hr rfl (af (ab (wpv 1)) aA)))
   (aw (aU (i:=3) nd rfl (by first|exact Or.inl rfl|exact Or.inr rfl) (aR jK hr rfl (af (ab (wpv 1)) (af (ab (wpv 2)) aA))))
   (aw (iJ PassesOwn.never rfl (jx rfl B.range (af (aB ao) aA)) (bD (aF (i:=4) nd rfl (by first|exact Or.inl rfl|exact Or.inr rfl))) (aw (aU (i:=5) nd rfl (by first|exact Or.inl rfl|exact Or.inr rfl) (aR mr hr rfl (af (ab (wpv 1)) (af (ab (wpv 2)) (af (ab (wpv 3)) (af (aB ao) (af (aB ao) aA)))))))
   (ax (iJ PassesOwn.never rfl (dZ (lS (af (pG eK) (af (pG eK) aA)))) (bD (aF (i:=6) nd rfl (by first|exact Or.inl rfl|exact Or.inr rfl))) (aw (aU (i:=7) nd rfl (by first|exact Or.inl rfl|exact Or.inr rfl) (aR eO hr rfl (af (ab (wpv 5)) (af (ab (wpv 6)) aA))))
   (aw (aU (i:=8) nd rfl (by first|exact Or.inl rfl|exact Or.inr rfl) (aR uN hr rfl (af (ab (wpv 5)) (af (ab (wpv 6)) aA))))
   (aw (cW (sf (jA (aR jc hr rfl (af (ab (wpv 8)) (af (ab (wpv 7)) aA))))) (ax (aS (pG eK))) bV)
   (aw (eR (fX (ab (wpv 8)) (af (aB ao) aA)))
   (aw (gU (Nc:=["event"]) (tn:=["event"]) (capN:=[]) (caps:=[]) rfl (dZ (ab (wpv 5))) (fun _ _ _=>(bD (aF (i:=0) (show(["event"]:List Str).Nodup by decide +kernel) rfl (by first|exact Or.inl rfl|exact Or.inr rfl)))) (fun _ _ _=>(bh eS kX (cE hu (ab (wpv 0)) (aB ao) (fun _ _=>rfl) (fun _ _=>rfl)) (d7 ba) (aT _))) (fun _ _ _=>(cE hu (ab (wpv 0)) (aB ao) (fun _ _=>rfl) (fun _ _=>rfl))) rfl rfl (by decide +kernel) (by decide +kernel) trivial rfl .nil rfl rfl nd rfl rfl rfl)
   (aw (gU (Nc:=["a","some"]) (tn:=["a"]) (capN:=["some"]) (caps:=[7]) rfl (dZ (ab (wpv 9))) (fun _ _ _=>(bD (aF (i:=0) (show(["a","some"]:List Str).Nodup by decide +kernel) rfl (by first|exact Or.inl rfl|exact Or.inr rfl)))) (fun _ _ _=>(wo hu (ab (wpv 0)) (ab (wpv 1)) (by with_unfolding_all rfl))) (fun _ _ _=>(ab (wpv 0))) rfl rfl (by decide +kernel) (by decide +kernel) ⟨rfl,trivial⟩ rfl (.cons ⟨rfl,rfl,rfl,_,rfl⟩ .nil) rfl rfl nd rfl rfl rfl)
   (aw (aU (i:=10) nd rfl (by first|exact Or.inl rfl|exact Or.inr rfl) (jV (Nc:=["event"]) (tn:=["event"]) (capN:=[]) (caps:=[]) rfl (dZ (ab (wpv 5))) (fun _ _ _=>(bD (aF (i:=0) (show(["event"]:List Str).Nodup by decide +kernel) rfl (by first|exact Or.inl rfl|exact Or.inr rfl)))) (fun _ _ _=>(bh eS kX (cE hu (ab (wpv 0)) (aB ao) (fun _ _=>rfl) (fun _ _=>rfl)) (d7 ba) (aT _))) (fun _ _ _=>(cE hu (ab (wpv 0)) (aB ao) (fun _ _=>rfl) (fun _ _=>rfl))) rfl rfl (by decide +kernel) (by decide +kernel) trivial rfl .nil rfl rfl))
   (aw (gU (Nc:=["a","ended"]) (tn:=["a"]) (capN:=["ended"]) (caps:=[10]) rfl (dZ (ab (wpv 9))) (fun _ _ _=>(bD (aF (i:=0) (show(["a","ended"]:List Str).Nodup by decide +kernel) rfl (by first|exact Or.inl rfl|exact Or.inr rfl)))) (fun _ _ _=>(qz hu (ab (wpv 0)) (ab (wpv 1)) (by with_unfolding_all rfl))) (fun _ _ _=>(ab (wpv 0))) rfl rfl (by decide +kernel) (by decide +kernel) ⟨rfl,trivial⟩ rfl (.cons ⟨rfl,rfl,rfl,_,rfl⟩ .nil) rfl rfl nd rfl rfl rfl)
   (aw (aU (i:=12) nd rfl (by first|exact Or.inl rfl|exact Or.inr rfl) (iK (af (ab (wpv 9)) (af (ab (wpv 10)) (af (gC gb fZ (ab (wpv 10)) (ab (wpv 11))) aA)))))
   (aw (aU (i:=12) nd rfl (by first|exact Or.inl rfl|exact Or.inr rfl) (gC gb fZ (ab (wpv 12)) (kW (Nc:=["k","pen","log","some"]) (tn:=["k"]) (capN:=["pen","log","some"]) (caps:=[1,5,7]) rfl (jx rfl B.range (af (aB ao) aA)) (fun _ _ _=>(bD (aF (i:=0) (show(["k","pen","log","some"]:List Str).Nodup by decide +kernel) rfl (by first|exact Or.inl rfl|exact Or.inr rfl)))) (fun _ _ _=>(aR fF hr rfl (af (ab (wpv 1)) (af (ab (wpv 2)) (af (ab (wpv 3)) aA))))) rfl rfl (by decide +kernel) (by decide +kernel) ⟨rfl,rfl,rfl,trivial⟩ rfl (.cons ⟨rfl,rfl,rfl,_,rfl⟩ (.cons ⟨rfl,rfl,rfl,_,rfl⟩ (.cons ⟨rfl,rfl,rfl,_,rfl⟩ .nil))) rfl rfl)))
   (ax (iJ PassesOwn.never rfl (dZ (ab (wpv 12))) (bD (aF (i:=13) nd rfl (by first|exact Or.inl rfl|exact Or.inr rfl))) (aw (aU (i:=14) nd rfl (by first|exact Or.inl rfl|exact Or.inr rfl) (jW jE C3 rfl B.list OG.iS (af (ab (wpv 13)) aA)))
   (aw (aU (i:=15) nd rfl (by first|exact Or.inl rfl|exact Or.inr rfl) (aR gK hr rfl (af (ab (wpv 3)) (af (ab (wpv 5)) (af (ab (wpv 6)) (af (ab (wpv 13)) aA))))))
   (aw (aU (i:=16) nd rfl (by first|exact Or.inl rfl|exact Or.inr rfl) (aR mq hr rfl (af (ab (wpv 2)) (af (ab (wpv 3)) (af (ab (wpv 5)) (af (ab (wpv 6)) (af (ab (wpv 14)) aA)))))))
   (ax (cW (Aq (Jy (sf (jA (aR jc hr rfl (af (ab (wpv 16)) (af (ab (wpv 15)) aA))))) (Bd (bh (pL hr.units) ua (ab (wpv 14)) (ab (wpv 13)) (aT _))))) (ax (aS (pG eK))) bV)))))))))))))))))))))
   (ax (aS (pG eK)))))),?_⟩
 refine⟨_,rfl,a,ns,rfl,hS,fun p xs H1 s1 P1 n1=>?_⟩
 exact E8 P1 ok q
end
end OL
namespace OQ
open PySem PySem.Spec PyProof.Rows L2 OG OP
section
variable{X:Type}{need need1 bf:Int->List Int}{fits:Int->X->Bool}{chg:Int->X->X}{dn:Int->Bool}{x:X}{K os:List Int}{times:List (Int×Int)}
noncomputable def wO(need:Int->List Int)(fits:Int->X->Bool)(chg:Int->X->X):List Int->X->List Int->Bool
 |_,_,[]=>true
 |gn,x,a::os=>((need a).all (fun b=>decide (b∈gn))&&fits a x)&&wO need fits chg (a::gn) (chg a x) os
noncomputable def nZ(chg:Int->X->X)(x:X)(os:List Int):X:=os.foldl (fun x a=>chg a x) x
noncomputable def Fv(dn:Int->Bool)(fits:Int->X->Bool)(chg:Int->X->X)(x:X):List Int->List Int->Bool
 |_,[]=>true
 |pre,a::os=>fits a (nZ chg x (pre.filter dn))&&Fv dn fits chg x (pre++[a]) os
noncomputable def lB(times:List (Int×Int))(os:List Int):Bool:=times.all fun p=>!(decide (p.1∈os)&&(decide (p.2∈os)&&decide (os.idxOf p.2<os.idxOf p.1)))
theorem vM:∀(os gn:List Int) (x:X),wO need fits chg gn x os=true↔∀l1 a l2,os=l1++a::l2->(∀b∈need a,b∈gn\/b∈l1)/\fits a (nZ chg x l1)=true
 |[],gn,x=>⟨fun _ l1 a l2 e=>by simp at e,fun _=>rfl⟩
 |c::os,gn,x=>by
  rw[wO,Bool.and_eq_true,Bool.and_eq_true,List.all_eq_true,vM os]
  constructor
  ·rintro⟨⟨h1,h2⟩,h3⟩ l1 a l2 e
   cases l1 with
   |nil=>
    rw[List.nil_append]at e
    injection e with e1 e2
    subst e1
    exact⟨fun b hb=>.inl (of_decide_eq_true (h1 b hb)),h2⟩
   |cons d l1=>
    rw[List.cons_append]at e
    injection e with e1 e2
    subst e1
    obtain⟨k1,k2⟩:=h3 l1 a l2 e2
    exact⟨fun b hb=>by
     rcases k1 b hb with z|z
     ·rcases List.mem_cons.mp z with y|y
      ·exact .inr (by rw[y];exact List.mem_cons_self)
      ·exact .inl y
     ·exact .inr (List.mem_cons_of_mem _ z),k2⟩
  ·intro h
   refine⟨⟨fun b hb=>decide_eq_true ?_,(h [] c os rfl).2⟩,fun l1 a l2 e=>?_⟩
   ·rcases(h [] c os rfl).1 b hb with z|z
    ·exact z
    ·cases z
   ·obtain⟨k1,k2⟩:=h (c::l1) a l2 (by rw[e];rfl)
    refine⟨fun b hb=>?_,k2⟩
    rcases k1 b hb with z|z
    ·exact .inl (List.mem_cons_of_mem _ z)
    ·rcases List.mem_cons.mp z with y|y
     ·exact .inl (by rw[y];exact List.mem_cons_self)
     ·exact .inr y
theorem zk:∀(os pre:List Int),Fv dn fits chg x pre os=true↔∀l1 a l2,os=l1++a::l2->fits a (nZ chg x ((pre++l1).filter dn))=true
 |[],pre=>⟨fun _ l1 a l2 e=>by simp at e,fun _=>rfl⟩
 |c::os,pre=>by
  rw[Fv,Bool.and_eq_true,zk os]
  constructor
  ·rintro⟨h2,h3⟩ l1 a l2 e
   cases l1 with
   |nil=>
    rw[List.nil_append]at e
    injection e with e1 e2
    subst e1
    rw[List.append_nil];exact h2
   |cons d l1=>
    rw[List.cons_append]at e
    injection e with e1 e2
    subst e1
    have:=h3 l1 a l2 e2
    rwa[List.append_assoc]at this
  ·intro h
   refine⟨by have:=h [] c os rfl;rwa[List.append_nil]at this,fun l1 a l2 e=>?_⟩
   have:=h (c::l1) a l2 (by rw[e];rfl)
   rw[List.append_assoc];exact this
theorem i6(hc:∀a x,dn a=false->chg a x=x):∀(l:List Int) (x:X),nZ chg x (l.filter dn)=nZ chg x l
 |[],x=>rfl
 |a::l,x=>by
  have ih:=i6 hc l
  cases h:dn a with
  |true=>rw[List.filter_cons_of_pos h];exact ih (chg a x)
  |false=>
   rw[List.filter_cons_of_neg (by simp[h]),ih x]
   show nZ chg x l=nZ chg (chg a x) l
   rw[hc a x h]
theorem pV{l1 l2:List Int}{a:Int}(nd:(l1++a::l2).Nodup):(l1++a::l2).idxOf a=l1.length:=by
 have:a∉l1:=fun h=>(List.nodup_append.mp nd).2.2 a h a List.mem_cons_self rfl
 rw[List.idxOf_append,if_neg this];simp
theorem Fi{l1 l2:List Int}{b:Int}(h:b∈l1):(l1++l2).idxOf b<l1.length:=by
 rw[List.idxOf_append,if_pos h];exact List.idxOf_lt_length_of_mem h
theorem Fh{l1 l2:List Int}{b:Int}(h:(l1++l2).idxOf b<l1.length):b∈l1:=Classical.byContradiction fun z=>by
 rw[List.idxOf_append,if_neg z]at h;omega
theorem yS(nd:os.Nodup)(sub:∀a∈os,a∈K)(ht:∀one other,(one,other)∈times↔other∈K/\one∈bf other)(irr:∀a∈K,a∉bf a) :
  lB times os=true↔∀l1 a l2,os=l1++a::l2->∀b∈bf a,b∈os->b∈l1:=by
 unfold lB
 rw[List.all_eq_true]
 constructor
 ·intro h l1 a l2 e b hb hbo
  have ha:a∈os:=by rw[e];simp
  have:=h (b,a) ((ht b a).mpr ⟨sub a ha,hb⟩)
  simp only[hbo,ha,decide_true,Bool.true_and,Bool.not_eq_true',decide_eq_false_iff_not]at this
  rw[e]at nd this
  rw[pV nd]at this
  have hab:b≠a:=fun z=>irr a (sub a ha) (z▸hb)
  refine Fh (l2:=a::l2) (Nat.lt_of_le_of_ne (Nat.not_lt.mp this) fun z=>hab ?_)
  have h1:(l1++a::l2).idxOf b<(l1++a::l2).length:=by rw[z];simp
  have h2:=List.getElem_idxOf h1
  rw[<-h2]
  simp only[z]
  simp
 ·intro h p hp
  obtain⟨one,other⟩:=p
  obtain⟨hk,hb⟩:=(ht one other).mp hp
  by_cases h1:one∈os
  ·by_cases h2:other∈os
   ·obtain⟨l1,l2,e⟩:=List.append_of_mem h2
    have hm:=h l1 other l2 e one hb h1
    simp only[h1,h2,decide_true,Bool.true_and,Bool.not_eq_true',decide_eq_false_iff_not]
    rw[e]at nd ⊢
    rw[pV nd]
    have:=Fi (l2:=other::l2) hm
    omega
   ·simp[h2]
  ·simp[h1]
theorem o5(nd:os.Nodup)(sub:∀a∈os,a∈K)(ht:∀one other,(one,other)∈times↔other∈K/\one∈bf other)(irr:∀a∈K,a∉bf a)(hn:∀a∈os,∀b,b∈need a↔b∈bf a/\b∈os)(hc:∀a x,dn a=false->chg a x=x) :
  wO need fits chg [] x os=(Fv dn fits chg x [] os&&lB times os):=by
 rw[Bool.eq_iff_iff,Bool.and_eq_true,vM,zk,yS nd sub ht irr]
 constructor
 ·intro h
  refine⟨fun l1 a l2 e=>?_,fun l1 a l2 e b hb hbo=>?_⟩
  ·rw[List.nil_append,i6 hc];exact(h l1 a l2 e).2
  ·rcases(h l1 a l2 e).1 b ((hn a (by rw[e];simp) b).mpr ⟨hb,hbo⟩)with z|z
   ·cases z
   ·exact z
 ·rintro⟨h1,h2⟩ l1 a l2 e
  refine⟨fun b hb=>.inr ?_,?_⟩
  ·obtain⟨k1,k2⟩:=(hn a (by rw[e];simp) b).mp hb
   exact h2 l1 a l2 e b k1 k2
  ·have:=h1 l1 a l2 e
   rw[List.nil_append,i6 hc]at this
   exact this
end
section
variable{n w:Int}{st:St}{a:Int}{t:Att}{x os:List Int}{every:Bool}
noncomputable def ndA(st:St)(every:Bool)(a:Int):List Int:=(mh st a).filter (uH st every)
noncomputable def ftA(st:St)(a:Int)(x:List Int):Bool:=match aX st a with
 |some t=>t.nd.all (mN x)
 |none=>false
theorem zc:∀(os gn x:List Int),(∀a∈os,a∈ay st)->ma st every gn x os=wO (ndA st every) (ftA st) (chg st) gn x os
 |[],_,_,_=>rfl
 |a::os,gn,x,h=>by
  obtain⟨t,hv⟩:=lX (h a List.mem_cons_self)
  have e1:ndA st every a=gc st every t:=by unfold ndA mh gc;rw[hv]
  have e2:ftA st a x=t.nd.all (mN x):=by unfold ftA;rw[hv]
  rw[ma,wO,zc os _ _ (fun b hb=>h b (List.mem_cons_of_mem _ hb)),hv,e1,e2]
noncomputable def Ev.isD:Ev->Bool
 |.fin d _=>d
 |_=>false
noncomputable def jD(evs:List Ev):List Int:=(evs.filter Ev.isD).map Ev.at
theorem xT(hk:(ay st).Nodup)(nd:os.Nodup)(hm:∀a,a∈os↔a∈ay st/\uH st every a=true):bO os=dw st every:=by
 have h1:(dw st every).Pairwise (·<=·):=List.Pairwise.filter _ (mw _)
 have hs:(bO (ay st)).Nodup:=(bX _).nodup_iff.mpr hk
 have h2:(dw st every).Nodup:=List.Nodup.sublist List.filter_sublist hs
 refine(qw ?_ h1).symm
 refine(List.perm_ext_iff_of_nodup h2 nd).mpr fun a=>?_
 rw[hm]
 unfold dw
 rw[List.mem_filter,(bX _).mem_iff]
theorem Dr(h:decide (hU st a=some true)=false):chg st a x=x:=by
 unfold chg;rw[if_neg (of_decide_eq_false h)]
noncomputable def dnB(st:St)(a:Int):Bool:=decide (hU st a=some true)
theorem Jn(bi:BfI st):a∉mh st a:=fun h=>by
 unfold mh at h
 cases hv:aX st a with
 |none=>rw[hv]at h;cases h
 |some t=>rw[hv]at h;exact((bi a t hv).1 a h).2 rfl
theorem Jm(bi:BfI st){b:Int}(h:b∈mh st a):b∈ay st:=by
 unfold mh at h
 cases hv:aX st a with
 |none=>rw[hv]at h;cases h
 |some t=>rw[hv]at h;exact((bi a t hv).1 b h).1
theorem K9:∀one other,(one,other)∈jk (wt st (ay st))↔other∈ay st/\one∈mh st other:=fun one other=>yF.trans qI
theorem BC(hk:(ay st).Nodup)(bi:BfI st)(nd:os.Nodup)(hm:∀a,a∈os↔a∈ay st/\uH st every a=true) :
  (decide (bO os=dw st every)&&ma st every [] x os)=(Fv (dnB st) (ftA st) (chg st) x [] os&&lB (jk (wt st (ay st))) os):=by
 rw[decide_eq_true (xT hk nd hm),Bool.true_and,zc os [] x fun a h=>((hm a).mp h).1]
 refine o5 (K:=ay st) (bf:=mh st) nd (fun a h=>((hm a).mp h).1) K9 (fun a _=>Jn bi) (fun a ha b=>?_) fun a x h=>Dr h
 unfold ndA
 rw[List.mem_filter,hm]
 exact⟨fun h=>⟨h.1,Jm bi h.1,h.2⟩,fun h=>⟨h.1,h.2.2⟩⟩
end
noncomputable def mS(es:List Ev):List Int:=(es.filter fc).map Ev.at
noncomputable def oW(es:List Ev):Ev->List (Int×Int)
 |.fin _ a=>(mS es).map fun b=>(a,b)
 |_=>[]
noncomputable def qq:List Ev->List (Int×Int)
 |[]=>[]
 |e::es=>oW es e++qq es
section
variable{n w:Int}{st:St}{e:Ev}{a b:Int}
theorem yG(hk:(ay st).Nodup):b∈(st.filter fun p=>p.2.en.isSome).map (·.1)↔(hU st b).isSome=true:=by
 constructor
 ·intro h
  obtain⟨p,hp,rfl⟩:=List.mem_map.mp h
  obtain⟨hm,he⟩:=List.mem_filter.mp hp
  obtain⟨l,r,e⟩:=List.append_of_mem hm
  have hv:aX st p.1=some p.2:=by
   unfold ay at hk
   rw[e]at hk ⊢
   refine ny fun z=>?_
   rw[List.map_append,List.map_cons]at hk
   exact(List.nodup_append.mp hk).2.2 _ z _ List.mem_cons_self rfl
  unfold hU
  rw[hv];exact he
 ·intro h
  unfold hU at h
  cases hv:aX st b with
  |none=>rw[hv]at h;cases h
  |some t=>
   rw[hv]at h
   exact List.mem_map.mpr ⟨(b,t),List.mem_filter.mpr ⟨jU hv,h⟩,rfl⟩
theorem Io(ok:uO n w st e)(h:∀a,e≠.beg a):∃t,aX st e.at=some t/\t.en=none:=by
 cases e with
 |beg a=>exact absurd rfl (h a)
 |look a b x=>obtain⟨_,t,h1,h2,_⟩:=ok;exact⟨t,h1,h2⟩
 |put a b x=>obtain⟨_,t,h1,h2⟩:=ok;exact⟨t,h1,h2⟩
 |fin d a=>exact ok
theorem Jl(hk:(ay st).Nodup)(ok:uO n w st e):b∈mh (stp st e) a↔b∈mh st a\/e=.beg a/\(hU st b).isSome=true:=by
 by_cases h:a=e.at
 ·cases e with
  |beg x=>
   have hx:a=x:=h
   subst hx
   have e1:mh (stp st (.beg a)) a=(st.filter fun p=>p.2.en.isSome).map (·.1):=by unfold mh;rw[fg ok.2.2];rfl
   have e2:mh st a=[]:=by unfold mh;rw[mv ok]
   rw[e1,e2,yG hk]
   simp
  |_=>
   obtain⟨t,h1,_⟩:=Io ok (by intro a z;cases z)
   rw[h]
   have e1:=bT h1
   have e2:∀t:Att,∀e:Ev,(t.ev e).bf=t.bf:=fun t e=>by cases e<;>simp only[Att.ev]<;>split<;>rfl
   unfold mh
   rw[e1,h1]
   simp only[e2,reduceCtorEq,false_and,or_false]
 ·have e1:mh (stp st e) a=mh st a:=by unfold mh;rw[cf h]
  rw[e1]
  exact⟨.inl,fun z=>z.elim id fun q=>absurd (by rw[q.1];rfl) h⟩
theorem zy(ok:uO n w st e):(hU (stp st e) b).isSome=true↔(hU st b).isSome=true\/∃d,e=.fin d b:=by
 by_cases h:b=e.at
 ·cases e with
  |beg x=>
   have hx:b=x:=h
   subst hx
   rw[(vy ok).2.2]
   exact⟨.inl,fun z=>z.elim id fun⟨d,q⟩=>by cases q⟩
  |fin d x=>
   have hx:b=x:=h
   subst hx
   obtain⟨t,h1,_⟩:=id ok
   have:=(fS (e:=.fin d b) h1).2.2
   simp only[Ev.at]at this
   rw[this]
   exact⟨fun _=>.inr ⟨d,rfl⟩,fun _=>rfl⟩
  |look x y z=>
   have hx:b=x:=h
   subst hx
   obtain⟨_,t,h1,_⟩:=id ok
   have:=(fS (e:=.look b y z) h1).2.2
   simp only[Ev.at]at this
   have e2:(t.ev (.look b y z)).en=t.en:=by simp only[Att.ev];split<;>rfl
   rw[this,e2]
   unfold hU
   rw[h1]
   exact⟨.inl,fun z=>z.elim id fun⟨d,q⟩=>by cases q⟩
  |put x y z=>
   have hx:b=x:=h
   subst hx
   obtain⟨_,t,h1,_⟩:=id ok
   have:=(fS (e:=.put b y z) h1).2.2
   simp only[Ev.at]at this
   rw[this]
   unfold hU
   rw[h1]
   exact⟨.inl,fun z=>z.elim id fun⟨d,q⟩=>by cases q⟩
 ·rw[(mY h).2.2]
  exact⟨.inl,fun z=>z.elim id fun⟨d,q⟩=>absurd (by rw[q];rfl) h⟩
theorem rW:∀(es:List Ev) (st:St),oT n w st es->(ay st).Nodup->(b∈mh (aJ st es) a↔b∈mh st a\/(a∈mS es/\(hU st b).isSome=true)\/(b,a)∈qq es)
 |[],st,_,_=>by simp[aJ,mS,qq]
 |e::es,st,lf,hk=>by
  have ih:=rW es (stp st e) lf.2 (eU hk lf.1)
  have e1:aJ st (e::es)=aJ (stp st e) es:=rfl
  have t1:qq (e::es)=oW es e++qq es:=rfl
  rw[e1,ih,Jl hk lf.1,zy lf.1,t1,List.mem_append]
  cases e with
  |beg x=>
   have b1:mS (.beg x::es)=x::mS es:=rfl
   rw[b1,List.mem_cons]
   simp only[oW,List.not_mem_nil,false_or,reduceCtorEq,exists_false,or_false,Ev.beg.injEq]
   constructor
   ·rintro((h|⟨h,h'⟩)|⟨h,h'⟩|h)
    ·exact .inl h
    ·exact .inr (.inl ⟨.inl h.symm,h'⟩)
    ·exact .inr (.inl ⟨.inr h,h'⟩)
    ·exact .inr (.inr h)
   ·rintro(h|⟨h|h,h'⟩|h)
    ·exact .inl (.inl h)
    ·exact .inl (.inr ⟨h.symm,h'⟩)
    ·exact .inr (.inl ⟨h,h'⟩)
    ·exact .inr (.inr h)
  |fin d x=>
   have b1:mS (.fin d x::es)=mS es:=rfl
   have m1:(b,a)∈oW es (.fin d x)↔a∈mS es/\x=b:=by
    simp only[oW,List.mem_map,Prod.mk.injEq]
    exact⟨fun⟨y,h1,h2,h3⟩=>⟨by rw[<-h3];exact h1,h2⟩,fun⟨h1,h2⟩=>⟨a,h1,h2,rfl⟩⟩
   rw[b1,m1]
   simp only[reduceCtorEq,false_and,or_false,Ev.fin.injEq,exists_and_right,exists_eq',true_and]
   constructor
   ·rintro(h|⟨h,h'|h'⟩|h)
    ·exact .inl h
    ·exact .inr (.inl ⟨h,h'⟩)
    ·exact .inr (.inr (.inl ⟨h,h'⟩))
    ·exact .inr (.inr (.inr h))
   ·rintro(h|⟨h,h'⟩|⟨h,h'⟩|h)
    ·exact .inl h
    ·exact .inr (.inl ⟨h,.inl h'⟩)
    ·exact .inr (.inl ⟨h,.inr h'⟩)
    ·exact .inr (.inr h)
  |look x y z=>
   have b1:mS (.look x y z::es)=mS es:=rfl
   rw[b1]
   simp only[oW,List.not_mem_nil,false_or,reduceCtorEq,exists_false,or_false,false_and]
  |put x y z=>
   have b1:mS (.put x y z::es)=mS es:=rfl
   rw[b1]
   simp only[oW,List.not_mem_nil,false_or,reduceCtorEq,exists_false,or_false,false_and]
theorem uZ:∀(es:List Ev) (st:St),oT n w st es->(b,a)∈qq es->hU st b=none
 |[],st,_,h=>by cases h
 |e::es,st,lf,h=>by
  rcases List.mem_append.mp (show(b,a)∈oW es e++qq es from h)with h|h
  ·cases e with
   |fin d x=>
    simp only[oW,List.mem_map,Prod.mk.injEq]at h
    obtain⟨y,_,rfl,_⟩:=h
    obtain⟨t,h1,h2⟩:=lf.1
    unfold hU
    rw[h1];exact h2
   |_=>cases h
  ·have:=uZ es (stp st e) lf.2 h
   cases hn:hU st b with
   |none=>rfl
   |some d=>
    have:=(zy (b:=b) lf.1).mpr (.inl (by rw[hn];rfl))
    rw[‹hU (stp st e) b=none›]at this
    cases this
theorem qM:∀(es:List Ev) (st:St),ay (aJ st es)=ay st++mS es
 |[],st=>by simp[aJ,mS]
 |e::es,st=>by
  have ih:=qM es (stp st e)
  have e1:aJ st (e::es)=aJ (stp st e) es:=rfl
  rw[e1,ih,jX]
  cases e with
  |beg x=>
   have b1:mS (.beg x::es)=x::mS es:=rfl
   rw[b1,List.append_assoc];rfl
  |_=>rfl
theorem sv:∀(es:List Ev) (st:St),oT n w st es->(ay st).Nodup->(ay (aJ st es)).Nodup
 |[],st,_,h=>h
 |e::es,st,lf,h=>sv es (stp st e) lf.2 (eU h lf.1)
theorem rX:∀(es:List Ev) (st:St),oT n w st es->(ay st).Nodup->(qq es).Nodup
 |[],st,_,_=>List.nodup_nil
 |e::es,st,lf,hk=>by
  have ih:=rX es (stp st e) lf.2 (eU hk lf.1)
  have nb:(mS es).Nodup:=by
   have:=sv es (stp st e) lf.2 (eU hk lf.1)
   rw[qM]at this
   exact(List.nodup_append.mp this).2.1
  show(oW es e++qq es).Nodup
  refine List.nodup_append.mpr ⟨?_,ih,fun p hp q hq z=>?_⟩
  ·cases e with
   |fin d x=>
    refine List.pairwise_map.mpr (nb.imp fun h z=>h ?_)
    exact(Prod.mk.inj z).2
   |_=>exact List.nodup_nil
  ·subst z
   cases e with
   |fin d x=>
    simp only[oW,List.mem_map]at hp
    obtain⟨y,_,rfl⟩:=hp
    have h1:=uZ es (stp st (.fin d x)) lf.2 hq
    have h2:=(zy (b:=x) lf.1).mpr (.inr ⟨d,rfl⟩)
    rw[h1]at h2
    cases h2
   |_=>cases hp
theorem xU{ps qs:List (Int×Int)}(h:∀x,x∈ps↔x∈qs):jk ps=jk qs:=by
 obtain⟨M,h1,h2⟩:=Ad qs
 rw[mV h1 h2,mV h1 fun x=>(h2 x).trans (h x).symm]
end
section
variable{n w:Int}{N:Nat}{evs:List Ev}
theorem xO(lg:jG n w N evs)(p:Int×Int):p∈qq evs↔p∈wt (aJ [] evs) (ay (aJ [] evs)):=by
 obtain⟨b,a⟩:=p
 rw[qI]
 have h:=rW (b:=b) (a:=a) evs [] lg.lo List.nodup_nil
 have h0:mh [] a=[]:=rfl
 have h1:hU [] b=none:=rfl
 rw[h0,h1]at h
 simp only[List.not_mem_nil,Option.isSome_none,Bool.false_eq_true,and_false,false_or]at h
 rw[<-h]
 refine⟨fun z=>⟨?_,z⟩,fun z=>z.2⟩
 unfold mh at z
 cases hv:aX (aJ [] evs) a with
 |none=>rw[hv]at z;cases z
 |some t=>exact Ei hv
theorem Hf(lg:jG n w N evs)(hN:N<=7):(qq evs).Nodup/\(qq evs).length<64/\jk (qq evs)=jk (wt (aJ [] evs) (ay (aJ [] evs))):=by
 have bi:=rj evs [] lg.lo List.nodup_nil Lz
 have nd:=rX evs [] lg.lo List.nodup_nil
 refine⟨nd,?_,xU (xO lg)⟩
 have pm:=(List.perm_ext_iff_of_nodup nd (yk lg.kd bi _ lg.kd)).mpr (xO lg)
 have l1:=vf lg.kd bi (ay (aJ [] evs))
 rw[pm.length_eq]
 have l2:(ay (aJ [] evs)).length=(aJ [] evs).length:=by unfold ay;rw[List.length_map]
 have l3:=lg.cnt
 rw[l2]at l1
 have:(aJ [] evs).length*(aJ [] evs).length<=7*7:=Nat.mul_le_mul (by omega) (by omega)
 omega
end
end OQ
namespace OL
open PySem PySem.Spec PyProof.Rows L2 OG OP OQ
section
variable{c cA:Cl}{n w:Int}{evs:List Ev}{x os:List Int}{a:Int}{t:Att}{N l lo:Nat}{S:Sto}{every:Bool}
noncomputable def iA:Fn:=fnU 4 1 fK
theorem Ca{us:List U}{i:Nat}(h:i<=us.length):Dq us (some (i:Int)) none=us.drop i:=by
 have h0:HT.sIx us.length us.length none=us.length:=rfl
 have h1:HT.sIx us.length 0 (some (i:Int))=i:=by
  unfold HT.sIx
  simp only
  split<;>omega
 unfold Dq
 rw[h0,h1,List.take_of_length_le (by rw[List.length_drop];omega)]
theorem A0(hl:S[l]?=some (.lst (evs.map Ev.u)))(he:evs.length<=900){i:Nat}{e:Ev}{es:List Ev}(hd:evs.drop i=e::es){acc:List (Int×Int)}{G:Sto}(hb:acc.length+(oW es e).length<=5000) :
  ∃G',bW [some (.ref l),some (.ref S.length),some (.int i),some e.u] (S++(.lst (acc.map pP)::G))=some (.nx,[some (.ref l),some (.ref S.length),some (.int i),some e.u],S++(.lst ((acc++oW es e).map pP)::(G++G'))):=by
 cases e with
 |beg x=>exact⟨[],by rwa[oW,List.append_nil,bW,Ev.u,gW,vL]⟩
 |look x y z=>exact⟨[],by rwa[oW,List.append_nil,bW,Ev.u,gW,uh]⟩
 |put x y z=>exact⟨[],by rwa[oW,List.append_nil,bW,Ev.u,gW,y4]⟩
 |fin d a=>
  obtain⟨Y,hY⟩:∃Y,Y=S++(.lst (acc.map pP)::G):=⟨_,rfl⟩
  have gl:Y[l]?=some (.lst (evs.map Ev.u)):=by rw[hY];exact ah hl
  have il:i<=(evs.map Ev.u).length:=by
   rw[List.length_map]
   have:=congrArg List.length hd
   rw[List.length_drop,List.length_cons]at this
   omega
  have lsl:es.length<=900:=by
   have:=congrArg List.length hd
   rw[List.length_drop,List.length_cons]at this
   omega
  have ed:(evs.map Ev.u).drop i=(Ev.fin d a::es).map Ev.u:=by rw[<-List.map_drop,hd]
  obtain⟨dr,hdr⟩:∃dr,dr=(Ev.fin d a::es).map Ev.u:=⟨_,rfl⟩
  obtain⟨ρ,hρ⟩:∃ρ:Rho,ρ=[some (.ref l),some (.ref S.length),some (.int i),some (Ev.fin d a).u]:=⟨_,rfl⟩
  have esl:cSl (ag 0) (some (ag 2)) none ρ Y=some (.ref Y.length,Y++[.lst dr]):=by
   have v0:ag 0 ρ Y=some (.ref l,Y):=by rw[hρ];rfl
   have v2:ag 2 ρ Y=some (.int i,Y):=by rw[hρ];rfl
   have p0:mR none ρ Y=some (none,Y):=rfl
   unfold cSl
   rw[v0,Option.bind_some]
   simp only[Eo v2,Option.bind_some,p0,fSl,gl,Ca il,ed,hdr]
  have gd:(Y++[O.lst dr])[Y.length]?=some (.lst dr):=by rw[ga0];rfl
  obtain⟨G1,h⟩:=cN (S:=Y++[O.lst dr]) (ok:=fun Z=>Z[Y.length]?=some (.lst dr)) (gg:=gNm 0)
   (ct:=aE (cOp fEq (cOp fIx (ag 0) (cC (.int 0))) (cC (.str "begin")))) (ce:=mQ (ae (cOp fIx (ag 1) (cC (.int 1))) (ae (cOp fIx (ag 0) (cC (.int 1))) aD)))
   (f:=Ev.u) (p:=fc) (v:=fun e=>pP (a,e.at)) (Rel:=fun ρ=>∃r0,ρ=[r0,some (Ev.fin d a).u]) (fun ys G=>ah gd) (Ev.fin d a::es) [] [] [none,some (Ev.fin d a).u] ⟨_,rfl⟩ (by simp;omega) (fun e he ys G ρ hρ=>by
    obtain⟨r0,rfl⟩:=hρ
    refine⟨[some e.u,some (Ev.fin d a).u],[],⟨_,rfl⟩,rfl,?_,fun hp=>⟨[],?_⟩⟩
    ·cases e with
     |fin d b=>cases d with
      |true=>rwa[Ev.u,gZ,if_true,gS,fc,List.append_nil]
      |false=>rwa[Ev.u,gZ,Bool.false_eq_true,if_false,gR,fc,List.append_nil]
     |beg b=>rwa[Ev.u,eM,fc,List.append_nil]
     |look b _ _=>rwa[Ev.u,gQ,fc,List.append_nil]
     |put b _ _=>rwa[Ev.u,iX,fc,List.append_nil]
    ·cases e with
     |beg b=>rwa[Ev.u,Ev.at,pP,List.append_nil]
     |_=>simp[fc]at hp)
  have ev:((Ev.fin d a::es).filter fc).map (fun e=>pP (a,e.at))=(oW es (.fin d a)).map pP:=by
   have:(Ev.fin d a::es).filter fc=es.filter fc:=rfl
   rw[this]
   simp only[oW,mS,List.map_map]
   rfl
  obtain⟨ts,hts⟩:∃ts,ts=oW es (.fin d a):=⟨_,rfl⟩
  rw[ev,List.nil_append,List.nil_append,<-hdr,<-hts]at h
  rw[<-hts]at hb ⊢
  obtain⟨Z,hZ⟩:∃Z,Z=Y++[O.lst dr]++(.lst (ts.map pP)::G1):=⟨_,rfl⟩
  have hcomp:aY (iTp (cSl (ag 0) (some (ag 2)) none)) (gNm 0) (aE (cOp fEq (cOp fIx (ag 0) (cC (.int 0))) (cC (.str "begin")))) (mQ (ae (cOp fIx (ag 1) (cC (.int 1))) (ae (cOp fIx (ag 0) (cC (.int 1))) aD))) 1 [3] ρ Y=some (.ref (Y++[O.lst dr]).length,Z):=by
   have er:kn 1 [3] ρ=[none,some (Ev.fin d a).u]:=by rw[hρ];rfl
   unfold aY iTp
   rw[esl,Option.bind_some]
   simp only[gd,Option.bind_some,er,h,hZ]
  have eZ:Z=S++(.lst (acc.map pP)::(G++([.lst dr]++(.lst (ts.map pP)::G1)))):=by rw[hZ,hY];simp only[List.append_assoc,List.cons_append]
  have ga1:Z[S.length]?=some (.lst (acc.map pP)):=by rw[eZ,ga0];rfl
  have ga2:Z[(Y++[O.lst dr]).length]?=some (.lst (ts.map pP)):=by rw[hZ,ga0];rfl
  have lz:(acc.map pP).length+(ts.map pP).length<=LIM:=by rw[List.length_map,List.length_map];unfold LIM;omega
  have hext:md (.ref S.length) [.ref (Y++[O.lst dr]).length] Z=some (.non,S++(.lst ((acc++ts).map pP)::(G++([.lst dr]++(.lst (ts.map pP)::G1))))):=by
   unfold md
   simp only[ga1,ga2]
   rw[if_pos lz,eZ,gs0,List.map_append]
   rfl
  have gY:Y[S.length]?=some (.lst (acc.map pP)):=by rw[hY,ga0];rfl
  refine⟨[.lst dr]++(.lst (ts.map pP)::G1),?_⟩
  rw[<-hY,<-hρ]
  have t3:aE (cOp (fIn false) (cOp fIx (ag 3) (cC (.int 0))) (mQ (ae (cC (.str "done")) (ae (cC (.str "fall")) aD)))) ρ Y=some (true,Y):=by
   rw[hρ]
   cases d with
   |true=>rwa[Ev.u,gZ,if_true,gW,uj]
   |false=>rwa[Ev.u,gZ,Bool.false_eq_true,if_false,gW,ui]
  have v1:ag 1 ρ Y=some (.ref S.length,Y):=by rw[hρ];rfl
  unfold bW
  generalize aY (iTp (cSl (ag 0) (some (ag 2)) none)) (gNm 0) (aE (cOp fEq (cOp fIx (ag 0) (cC (.int 0))) (cC (.str "begin")))) (mQ (ae (cOp fIx (ag 1) (cC (.int 1))) (ae (cOp fIx (ag 0) (cC (.int 1))) aD))) 1 [3]=cc at hcomp ⊢
  rw[oV,t3,Option.bind_some,px,Cz,LH,v1,Option.bind_some,GR,gY,GQ,pz,hcomp,Option.bind_some,nj,AF,Option.bind_some,t4,Option.bind_some,GP,hext]
  rfl
theorem u0(hl:S[l]?=some (.lst (evs.map Ev.u)))(he:evs.length<=900):∀(es:List Ev) (i:Nat) (acc:List (Int×Int)) (G:Sto) (r2 r3:Option U),evs.drop i=es->acc.length+(qq es).length<=5000->
  ∃r2' r3' G',eD (fun Z=>Z[l]?=some (.lst (evs.map Ev.u))) (gTp [2,3]) bW (((es.map Ev.u).zipIdx i).map fun p=>.tup [.int p.2,p.1]) [some (.ref l),some (.ref S.length),r2,r3] (S++(.lst (acc.map pP)::G))=some (.nx,[some (.ref l),some (.ref S.length),r2',r3'],S++(.lst ((acc++qq es).map pP)::G'))
 |[],i,acc,G,r2,r3,_,_=>⟨r2,r3,G,by rw[show qq []=[]from rfl,List.append_nil];exact dq (ah hl)⟩
 |e::es,i,acc,G,r2,r3,hd,hb=>by
  have e1:qq (e::es)=oW es e++qq es:=rfl
  rw[e1,List.length_append]at hb
  obtain⟨G1,h1⟩:=A0 (acc:=acc) (G:=G) hl he hd (by omega)
  have hd':evs.drop (i+1)=es:=by rw[<-List.drop_drop,hd];rfl
  obtain⟨r2',r3',G',ih⟩:=u0 hl he es (i+1) (acc++oW es e) (G++G1) (some (.int i)) (some e.u) hd' (by rw[List.length_append];omega)
  refine⟨r2',r3',G',?_⟩
  rw[List.map_cons,List.zipIdx_cons,List.map_cons,e1,<-List.append_assoc]
  exact(dQ (ah hl) rfl h1).trans ih
theorem AZ(hl:S[l]?=some (.lst (evs.map Ev.u)))(lg:jG n w N evs)(he:evs.length<=900)(hN:N<=7) :
  ∃G k,iA [.ref l] S=some (.ref (S.length+k),S++G)/\G[k]?=some (.lst ((jk (wt (aJ [] evs) (ay (aJ [] evs)))).map pP)):=by
 obtain⟨nd,ln,es⟩:=Hf lg hN
 obtain⟨r2,r3,G,h⟩:=u0 hl he evs 0 [] [] none none rfl (by rw[List.length_nil];omega)
 rw[<-es]
 rw[List.nil_append]at h
 obtain⟨ts,hts⟩:∃ts,ts=qq evs:=⟨_,rfl⟩
 rw[<-hts]at h nd ln ⊢
 unfold iA
 rw[sW]
 have e1:dc 1 (j9 aD) [some (.ref l),none,none,none] S=some (.nx,[some (.ref l),some (.ref S.length),none,none],S++[.lst []]):=rfl
 have gl:(S++[O.lst []])[l]?=some (.lst (evs.map Ev.u)):=ah hl
 have e2:i9 (mL (ag 0)) (gTp [2,3]) bW [some (.ref l),some (.ref S.length),none,none] (S++[.lst []])=some (.nx,[some (.ref l),some (.ref S.length),r2,r3],S++(.lst (ts.map pP)::G)):=by
  have ei:mL (ag 0) [some (.ref l),some (.ref S.length),none,none] (S++[.lst []])=some (sR (evs.map Ev.u),fun Z=>Z[l]?=some (.lst (evs.map Ev.u)),S++[.lst []]):=by
   have v0:ag 0 [some (.ref l),some (.ref S.length),none,none] (S++[.lst []])=some (.ref l,S++[.lst []]):=rfl
   unfold mL
   rw[v0,Option.bind_some]
   simp only[x8,gl,Option.bind_some]
  unfold i9
  rw[ei,Option.bind_some]
  exact h
 have gs1:(S++(O.lst (ts.map pP)::G))[S.length]?=some (.lst (ts.map pP)):=by rw[ga0];rfl
 have e3:i8 [.ref S.length] (S++(O.lst (ts.map pP)::G))=some (.ref (S++(O.lst (ts.map pP)::G)).length,S++(O.lst (ts.map pP)::G)++[.lst ((jk ts).map pP)]):=by
  simp only[i8,gs1,pJ,Option.bind_some]
  rw[if_pos ⟨nd,ln⟩]
 refine⟨(.lst (ts.map pP)::G)++[.lst ((jk ts).map pP)],(O.lst (ts.map pP)::G).length,?_,by rw[ga0];rfl⟩
 unfold fK
 rw[mx e1,mx e2]
 have e4:fC (cCB i8 (ae (ag 1) aD)) [some (.ref l),some (.ref S.length),r2,r3] (S++(.lst (ts.map pP)::G))=some (.rt (.ref (S++(O.lst (ts.map pP)::G)).length),[some (.ref l),some (.ref S.length),r2,r3],S++(O.lst (ts.map pP)::G)++[.lst ((jk ts).map pP)]):=by
  rw[wa]
  show(i8 [.ref S.length] (S++(.lst (ts.map pP)::G))).bind _=_
  rw[e3];rfl
 rw[e4,List.length_append,List.append_assoc]
 rfl
theorem tR(hl:S[l]?=some (.lst (evs.map Ev.u)))(lg:jG n w N evs)(he:evs.length<=900)(hN:N<=60) :
  ∃(G:Sto) (k:Nat),iC [.ref l,.bl every] S=some (.ref (S.length+k),S++G)/\G[k]?=some (.lst ((dw (aJ [] evs) every).map U.int)):=by
 unfold iC
 rw[tq]
 obtain⟨G0,k0,h0,g0⟩:=Cj hl lg he hN
 have fT:(bO (ay (aJ [] evs))).length<=60:=by rw[(bX _).length_eq];unfold ay;rw[List.length_map];exact Nat.le_trans lg.cnt hN
 have gk:∀Y:Sto,(S++G0++Y)[S.length+k0]?=some (.lst ((bO (ay (aJ [] evs))).map U.int)):=fun Y=>ah (by rw[ga];exact g0)
 have gl:∀Y:Sto,(S++G0++Y)[l]?=some (.lst (evs.map Ev.u)):=fun Y=>ah (ah hl)
 obtain⟨G',h⟩:=cN (S:=S++G0) (ok:=fun Z=>Z[S.length+k0]?=some (.lst ((bO (ay (aJ [] evs))).map U.int))) (gg:=gNm 0)
  (ct:=cOr (aE (ag 1)) (aE (cOp fEq (cCB uM (ae (ag 2) (ae (ag 0) aD))) (cC (.str "done")))))
  (ce:=ag 0) (f:=U.int) (p:=uH (aJ [] evs) every) (v:=U.int) (Rel:=fun ρ=>∃r0,ρ=[r0,some (.bl every),some (.ref l)]) (fun ys G=>gk _) (bO (ay (aJ [] evs))) [] [] [none,some (.bl every),some (.ref l)] ⟨_,rfl⟩ (by simp;omega) (fun b hb ys G ρ hρ=>by
   obtain⟨r0,rfl⟩:=hρ
   obtain⟨G1,h1⟩:=Dj (a:=b) (gl (.lst ys::G)) lg.lo he
   have h1':uM [.ref l,.int b] (S++(G0++O.lst ys::G))=some (.str (enS (hU (aJ [] evs) b)),S++(G0++O.lst ys::(G++G1))):=by
    rw[<-List.append_assoc,h1];simp only[List.append_assoc,List.cons_append]
   cases every with
   |true=>
    refine⟨[some (.int b),some (.bl true),some (.ref l)],[],⟨_,rfl⟩,rfl,?_,fun hp=>⟨[],?_⟩⟩
    ·rwa[uH,Bool.true_or,List.append_nil]
    ·rwa[List.append_nil]
   |false=>
    refine⟨[some (.int b),some (.bl false),some (.ref l)],G1,⟨_,rfl⟩,rfl,?_,fun hp=>⟨[],?_⟩⟩
    ·rwa[h1',jY,uH,Bool.false_or]
    ·rwa[List.append_nil])
 simp only[List.nil_append]at h
 refine⟨G0++(.lst ((dw (aJ [] evs) every).map U.int)::G'),G0.length,?_,by simp⟩
 have e0:(S++G0)[S.length+k0]?=some (.lst ((bO (ay (aJ [] evs))).map U.int)):=by rw[ga];exact g0
 have hc:aY (iTp (cCB rq (ae (ag 0) aD))) (gNm 0) (cOr (aE (ag 1)) (aE (cOp fEq (cCB uM (ae (ag 2) (ae (ag 0) aD))) (cC (.str "done"))))) (ag 0) 1 [1,0] [some (.ref l),some (.bl every)] S=some (.ref (S++G0).length,S++G0++(.lst ((dw (aJ [] evs) every).map U.int)::G')):=by
  unfold aY iTp
  rw[Jr,pz,F6,List.getElem?_cons_zero,Ct,Option.bind_some,nj,AF,Option.bind_some,t4,Option.bind_some,GO,h0,Option.bind_some]
  simp only[e0,Option.bind_some,kn,List.replicate,List.map_cons,List.map_nil,List.getElem?_cons_zero,List.getElem?_cons_succ,Option.getD_some,List.cons_append,List.nil_append,h]
  rfl
 rw[List.length_append]at hc
 rwa[fR,hc]
end
noncomputable def Df(st:OQ.St):List Int->List Int->Bool
 |_,[]=>true
 |x,a::os=>qU st a x&&Df st (chg st a x) os
noncomputable def rn:Fn:=fnU 7 4 (cQ iC iA mj iT)
section
variable{c cA:Cl}{n w:Int}{evs:List Ev}{x os:List Int}{a:Int}{t:Att}{N l jt jo:Nat}{S:Sto}{every:Bool}{xu lu eu:U}
theorem fl{b:Int}{l:List Int}:gf (.int b)=true/\(l.map U.int).all gf=true:=⟨rfl,Lu l⟩
noncomputable abbrev fO(f:Fn->Fn->Fn->Fn->CS):CS:=f iC iA mj iT
theorem pS{us:List U}{r6:Option U}(ht:S[jt]?=some (.lst us))(ho:S[jo]?=some (.lst (os.map U.int)))(hl:os.length<=900):∀(ps:List (Int×Int)) (r2 r3:Option U),
  ∃r2' r3',eD (fun Y=>Y[jt]?=some (.lst us)) (gTp [4,5]) (fO aZ) (ps.map pP) [some xu,some lu,some eu,some (.ref jo),r2,r3,r6] S=some (Fp (lB ps os),[some xu,some lu,some eu,some (.ref jo),r2',r3',r6],S)
 |[],r2,r3=>⟨r2,r3,dq ht⟩
 |(p,q)::ps,r2,r3=>by
  obtain⟨r2',r3',ih⟩:=pS ht ho hl ps (some (.int p)) (some (.int q))
  have hx:∀z,z∈os->n9 (.ref jo) [.int z] S=some (.int (os.idxOf z:Nat),S):=fun z hz=>by
   have hL:os.length<=LIM:=by unfold LIM;omega
   simp only[n9,ho,jC,Option.bind_some,hz,hL,and_self,if_true]
  have ek:lB ((p,q)::ps) os=(!(decide (p∈os)&&(decide (q∈os)&&decide (os.idxOf q<os.idxOf p)))&&lB ps os):=rfl
  have ic:decide (((os.idxOf q:Nat):Int)<((os.idxOf p:Nat):Int))=decide (os.idxOf q<os.idxOf p):=by rw[Bool.eq_iff_iff];simp
  rw[ek]
  by_cases h1:p∈os
  ·by_cases h2:q∈os
   ·cases h3:decide (os.idxOf q<os.idxOf p)with
    |true=>
     rw[decide_eq_true h1,decide_eq_true h2,Bool.true_and,Bool.true_and,Bool.not_true,Bool.false_and]
     rw[h3]at ic
     refine⟨some (.int p),some (.int q),qJ ht rfl (x:=.bl false) ?_⟩
     rwa[fO,aZ,ho,rG fl,inI,h1,h2,hx p h1,hx q h2,ic,Bool.false_eq_true,if_false]
    |false=>
     rw[decide_eq_true h1,decide_eq_true h2,Bool.true_and,Bool.true_and,Bool.not_false,Bool.true_and]
     rw[h3]at ic
     refine⟨r2',r3',(dQ ht rfl ?_).trans ih⟩
     rwa[fO,aZ,ho,rG fl,inI,h1,h2,hx p h1,hx q h2,ic,Bool.false_eq_true,if_false]
   ·rw[decide_eq_false h2,Bool.false_and,Bool.and_false,Bool.not_false,Bool.true_and]
    refine⟨r2',r3',(dQ ht rfl ?_).trans ih⟩
    rwa[fO,aZ,ho,rG fl,inI,h1,h2,Bool.false_eq_true,if_false]
  ·rw[decide_eq_false h1,Bool.false_and,Bool.not_false,Bool.true_and]
   refine⟨r2',r3',(dQ ht rfl ?_).trans ih⟩
   rwa[fO,aZ,ho,rG fl,inI,h1,Bool.false_eq_true,if_false]
theorem sP{us:List U}{r4 r5:Option U}(hl:S[l]?=some (.lst (evs.map Ev.u)))(lg:jG n w N evs)(he:evs.length<=900)(hn:n<=100)(ho:S[jo]?=some (.lst us)):∀(os x:List Int) (G:Sto) (r6:Option U),x.length=n.toNat->
  ∃x' r6' G',eD (fun Y=>Y[jo]?=some (.lst us)) (gNm 6) (fO bF) (os.map U.int) [some (.tup (x.map U.int)),some (.ref l),some eu,some (.ref jo),r4,r5,r6] (S++G)=some (Fp (Df (aJ [] evs) x os),[some (.tup x'),some (.ref l),some eu,some (.ref jo),r4,r5,r6'],S++G')
 |[],x,G,r6,_=>⟨_,r6,G,dq (ah ho)⟩
 |a::os,x,G,r6,hx=>by
  have ek:Df (aJ [] evs) x (a::os)=(qU (aJ [] evs) a x&&Df (aJ [] evs) (chg (aJ [] evs) a x) os):=rfl
  rw[ek]
  obtain⟨G1,h1⟩:=BP (a:=a) (S:=S++G) (ah hl) lg he hx
  obtain⟨Y,hY⟩:∃Y,Y=S++G:=⟨_,rfl⟩
  obtain⟨Y1,hY1⟩:∃Y1,Y1=Y++G1:=⟨_,rfl⟩
  rw[<-hY,<-hY1]at h1
  cases hf:qU (aJ [] evs) a x with
  |false=>
   rw[hf]at h1
   refine⟨x.map U.int,some (.int a),G++G1,?_⟩
   rw[Bool.false_and,<-List.append_assoc,<-hY,<-hY1]
   refine qJ (x:=.bl false) (by rw[hY];exact ah ho) rfl ?_
   obtain⟨xs,hxs⟩:∃xs,xs=x.map U.int:=⟨_,rfl⟩
   rw[<-hxs]at h1 ⊢
   rwa[fO,bF,h1]
  |true=>
   rw[hf]at h1
   obtain⟨G2,h2⟩:=w8 (a:=a) (x:=x) (S:=Y1) (by rw[hY1,hY];exact ah (ah hl)) lg he (by omega)
   obtain⟨Y2,hY2⟩:∃Y2,Y2=Y1++G2:=⟨_,rfl⟩
   obtain⟨x',r6',G',ih⟩:=sP hl lg he hn ho os (chg (aJ [] evs) a x) (G++(G1++G2)) (some (.int a)) (by rw[zM];exact hx)
   have eY:S++(G++(G1++G2))=Y2:=by rw[hY2,hY1,hY];simp only[List.append_assoc]
   rw[eY]at ih
   rw[<-hY2]at h2
   refine⟨x',r6',G',?_⟩
   rw[Bool.true_and,<-hY]
   refine(dQ (by rw[hY];exact ah ho) rfl ?_).trans ih
   obtain⟨xs,hxs⟩:∃xs,xs=x.map U.int:=⟨_,rfl⟩
   obtain⟨zs,hzs⟩:∃zs,zs=(chg (aJ [] evs) a x).map U.int:=⟨_,rfl⟩
   rw[<-hxs]at h1 h2 ⊢
   rw[<-hzs]at h2 ⊢
   rwa[fO,bF,h1,h2]
theorem Fu(lg:jG n w N evs)(hv:aX (aJ [] evs) a=some t)(y:List Int):qU (aJ [] evs) a y=t.nd.all (mN y):=by
 have h:=(qK evs [] lg.lo K8 a t hv).2
 have e:iL (aJ [] evs) a=t.lk:=by unfold iL;rw[hv];rfl
 unfold qU
 rw[e,Bool.eq_iff_iff,List.all_eq_true,List.all_eq_true]
 exact⟨fun k p hp=>k p ((h p).mp hp),fun k p hp=>k p ((h p).mpr hp)⟩
theorem De(lg:jG n w N evs):∀(os pre y:List Int),(∀a∈os,a∈ay (aJ [] evs))->y=nZ (chg (aJ [] evs)) x pre->Df (aJ [] evs) y os=Fv (dnB (aJ [] evs)) (ftA (aJ [] evs)) (chg (aJ [] evs)) x pre os
 |[],pre,y,_,_=>rfl
 |a::os,pre,y,hk,hy=>by
  have ih:=De lg os (pre++[a]) (chg (aJ [] evs) a y) (fun b hb=>hk b (List.mem_cons_of_mem _ hb)) (by rw[hy];unfold nZ;rw[List.foldl_append];rfl)
  obtain⟨t,hv⟩:=lX (hk a List.mem_cons_self)
  have e1:nZ (chg (aJ [] evs)) x (pre.filter (dnB (aJ [] evs)))=y:=by rw[hy];exact i6 (dn:=dnB (aJ [] evs)) (chg:=chg (aJ [] evs)) (fun a x h=>Dr (st:=aJ [] evs) (a:=a) h) pre x
  have e2:ftA (aJ [] evs) a y=qU (aJ [] evs) a y:=by rw[Fu lg hv];unfold ftA;rw[hv]
  show(qU (aJ [] evs) a y&&Df (aJ [] evs) (chg (aJ [] evs) a y) os)=(ftA (aJ [] evs) a (nZ (chg (aJ [] evs)) x (pre.filter (dnB (aJ [] evs))))&&Fv (dnB (aJ [] evs)) (ftA (aJ [] evs)) (chg (aJ [] evs)) x (pre++[a]) os)
  rw[e1,e2,ih]
theorem yJ(hl:S[l]?=some (.lst (evs.map Ev.u)))(hlo:S[jo]?=some (.lst (os.map U.int)))(lg:jG n w N evs)(he:evs.length<=900)(hN:N<=7)(hn:n<=100)(hx:x.length=n.toNat)(hol:os.length<64) :
  ∃G,rn [.tup (x.map U.int),.ref l,.bl every,.ref jo] S=some (.bl (decide (bO os=dw (aJ [] evs) every)&&ma (aJ [] evs) every [] x os),S++G):=by
 unfold rn
 rw[om]
 obtain⟨G1,k1,h1,g1⟩:=tR (every:=every) (S:=S++[.lst ((bO os).map U.int)]) (ah hl) lg he (by omega)
 obtain⟨Y1,hY1⟩:∃Y1,Y1=S++[O.lst ((bO os).map U.int)]++G1:=⟨_,rfl⟩
 obtain⟨j1,hj1⟩:∃j,j=(S++[O.lst ((bO os).map U.int)]).length+k1:=⟨_,rfl⟩
 have ga1:Y1[S.length]?=some (.lst ((bO os).map U.int)):=by rw[hY1];exact ah (by rw[ga0];rfl)
 have gb1:Y1[j1]?=some (.lst ((dw (aJ [] evs) every).map U.int)):=by rw[hY1,hj1,ga];exact g1
 have q:=vJ true ga1 gb1
 rw[<-hY1,<-hj1]at h1
 have hs:dg [.ref jo] S=some (.ref S.length,S++[.lst ((bO os).map U.int)]):=by
  simp only[dg,hlo,jC,Option.bind_some]
  rw[if_pos hol]
 obtain⟨xs,hxs⟩:∃xs,xs=x.map U.int:=⟨_,rfl⟩
 obtain⟨S1,hS1⟩:∃S1,S1=S++[O.lst ((bO os).map U.int)]:=⟨_,rfl⟩
 rw[<-hS1]at h1 hs
 have t1:∀b,mI true (.ref S.length) (.ref j1) Y1=some (.bl b,Y1)->aE (cOp (mI true) (cCB dg (ae (ag 3) aD)) (cCB iC (ae (ag 1) (ae (ag 2) aD)))) [some (.tup xs),some (.ref l),some (.bl every),some (.ref jo),none,none,none] S=some (b,Y1):=fun b hb=>by
  rwa[hs,h1,hb]
 obtain⟨X1,hX1⟩:∃X1,Y1=S++X1:=⟨[O.lst ((bO os).map U.int)]++G1,by rw[hY1,List.append_assoc]⟩
 by_cases hq:bO os=dw (aJ [] evs) every
 ·rw[decide_eq_true hq,Bool.true_and]
  rw[decide_eq_true hq,if_pos rfl]at q
  have tf:=t1 false q
  have on:(dw (aJ [] evs) every).Nodup:=List.Nodup.sublist List.filter_sublist ((bX _).nodup_iff.mpr lg.kd)
  have nd:os.Nodup:=(bX os).nodup_iff.mp (by rw[hq];exact on)
  have hm:∀a,a∈os↔a∈ay (aJ [] evs)/\uH (aJ [] evs) every a=true:=fun a=>by
   rw[<-(bX os).mem_iff,hq]
   unfold dw
   rw[List.mem_filter,(bX _).mem_iff]
  have bi:=rj evs [] lg.lo List.nodup_nil Lz
  have oe:=BC (x:=x) lg.kd bi nd hm
  rw[decide_eq_true hq,Bool.true_and]at oe
  rw[oe,<-De (x:=x) lg os [] x (fun a h=>((hm a).mp h).1) rfl]
  obtain⟨G2,k2,h2,g2⟩:=AZ (S:=Y1) (by rw[hX1];exact ah hl) lg he hN
  obtain⟨Y2,hY2⟩:∃Y2,Y2=Y1++G2:=⟨_,rfl⟩
  obtain⟨j2,hj2⟩:∃j,j=Y1.length+k2:=⟨_,rfl⟩
  have gt:Y2[j2]?=some (.lst ((jk (wt (aJ [] evs) (ay (aJ [] evs)))).map pP)):=by rw[hY2,hj2,ga];exact g2
  rw[<-hY2,<-hj2]at h2
  have go2:Y2[jo]?=some (.lst (os.map U.int)):=by rw[hY2,hX1];exact ah (ah hlo)
  have gl2:Y2[l]?=some (.lst (evs.map Ev.u)):=by rw[hY2,hX1];exact ah (ah hl)
  obtain⟨ps,hps⟩:∃ps,ps=jk (wt (aJ [] evs) (ay (aJ [] evs))):=⟨_,rfl⟩
  rw[<-hps]at gt ⊢
  obtain⟨r4,r5,h3⟩:=pS (xu:=.tup xs) (lu:=.ref l) (eu:=.bl every) (r6:=none) gt go2 (by omega) ps none none
  obtain⟨x',r6,G4,h4⟩:=sP (jo:=jo) (eu:=.bl every) (r4:=r4) (r5:=r5) gl2 lg he hn go2 os x [] none hx
  rw[<-hxs,List.append_nil]at h4
  obtain⟨X2,hX2⟩:∃X2,Y2=S++X2:=⟨X1++G2,by rw[hY2,hX1,List.append_assoc]⟩
  have e1:gj (aE (cOp (mI true) (cCB dg (ae (ag 3) aD)) (cCB iC (ae (ag 1) (ae (ag 2) aD))))) (fC (cC (.bl false))) cR [some (.tup xs),some (.ref l),some (.bl every),some (.ref jo),none,none,none] S=some (.nx,[some (.tup xs),some (.ref l),some (.bl every),some (.ref jo),none,none,none],Y1):=by
   rw[oV,tf,Option.bind_some,rH];rfl
  have e2:∀b,lB ps os=b->i9 (iTp (cCB iA (ae (ag 1) aD))) (gTp [4,5]) (fO aZ) [some (.tup xs),some (.ref l),some (.bl every),some (.ref jo),none,none,none] Y1=some (Fp b,[some (.tup xs),some (.ref l),some (.bl every),some (.ref jo),r4,r5,none],Y2):=fun b hb=>by
   have ei:cCB iA (ae (ag 1) aD) [some (.tup xs),some (.ref l),some (.bl every),some (.ref jo),none,none,none] Y1=some (.ref j2,Y2):=by rwa[h2]
   unfold i9 iTp
   rw[ei,Option.bind_some]
   simp only[gt,Option.bind_some]
   rw[h3,hb]
  have e3:∀b,Df (aJ [] evs) x os=b->i9 (iTp (ag 3)) (gNm 6) (fO bF) [some (.tup xs),some (.ref l),some (.bl every),some (.ref jo),r4,r5,none] Y2=some (Fp b,[some (.tup x'),some (.ref l),some (.bl every),some (.ref jo),r4,r5,r6],Y2++G4):=fun b hb=>by
   have ei:ag 3 [some (.tup xs),some (.ref l),some (.bl every),some (.ref jo),r4,r5,none] Y2=some (.ref jo,Y2):=rfl
   unfold i9 iTp
   rw[ei,Option.bind_some]
   simp only[go2,Option.bind_some]
   rw[h4,hb]
  rw[<-hxs]
  unfold cQ
  rw[mx e1]
  cases hk:lB ps os with
  |false=>
   refine⟨X2,?_⟩
   have:=e2 false hk
   rw[Bool.and_false,ni]
   show(Option.bind (i9 (iTp (cCB iA (ae (ag 1) aD))) (gTp [4,5]) (fO aZ) _ Y1) _).bind kFn=_
   rw[this,<-hX2]
   rfl
  |true=>
   rw[Bool.and_true]
   have h2':=e2 true hk
   have h2n:i9 (iTp (cCB iA (ae (ag 1) aD))) (gTp [4,5]) (aZ iC iA mj iT) [some (.tup xs),some (.ref l),some (.bl every),some (.ref jo),none,none,none] Y1=some (.nx,[some (.tup xs),some (.ref l),some (.bl every),some (.ref jo),r4,r5,none],Y2):=h2'
   rw[mx h2n]
   refine⟨X2++G4,?_⟩
   rw[<-List.append_assoc,<-hX2]
   cases hf:Df (aJ [] evs) x os with
   |false=>
    have:=e3 false hf
    rw[ni]
    show(Option.bind (i9 (iTp (ag 3)) (gNm 6) (fO bF) _ Y2) _).bind kFn=_
    rw[this]
    rfl
   |true=>
    have h3n:i9 (iTp (ag 3)) (gNm 6) (bF iC iA mj iT) [some (.tup xs),some (.ref l),some (.bl every),some (.ref jo),r4,r5,none] Y2=some (.nx,[some (.tup x'),some (.ref l),some (.bl every),some (.ref jo),r4,r5,r6],Y2++G4):=e3 true hf
    rw[mx h3n]
    rfl
 ·rw[decide_eq_false hq,Bool.false_and]
  rw[decide_eq_false hq,if_pos rfl]at q
  have tf:=t1 true q
  refine⟨X1,?_⟩
  rw[<-hX1,<-hxs]
  unfold cQ
  rw[ni,oV,tf,Option.bind_some,px]
  rfl
end
noncomputable def oP:Fn:=fnU 8 3 (cP dv 100)
theorem BR{T T':Sto}(h:∀(j:Nat) (o:O),T[j]?=some o->T'[j]?=some o):∃G,T'=T++G:=by
 refine⟨T'.drop T.length,?_⟩
 have e:T'.take T.length=T:=List.ext_getElem? fun j=>by
  rw[List.getElem?_take]
  by_cases hj:j<T.length
  ·rw[if_pos hj,h j _ (List.getElem?_eq_getElem hj),List.getElem?_eq_getElem hj]
  ·rw[if_neg hj,List.getElem?_eq_none (by omega)]
 have:=List.take_append_drop T.length T'
 rw[e]at this
 exact this.symm
section
variable{jf js:Nat}{x1 x2 x5 x6 x7:Option U}
theorem xV(ns:List Int)(n3:jf≠js):∀(fuel:Nat) (left os:List Int) (T:Sto) (a c1:Int),left.length<fuel->0<=a->0<=c1->T[jf]?=some (.lst (left.map U.int))->T[js]?=some (.lst (os.map U.int))->os.length+left.length<=10->
  ∃(os':List Int) (T':Sto) (a' c':Int),gP (aE (cOp (mI true) (ag 3) (j9 aD))) (eJ dv 100) fuel [some (.ref 1),x1,x2,some (.ref (jf+1+1)),some (.ref (js+1+1)),x5,x6,x7] (scr ns::pen a c1::T)
   = some (.nx,[some (.ref 1),x1,x2,some (.ref (jf+1+1)),some (.ref (js+1+1)),x5,x6,x7],scr ns::pen a' c'::T')/\T'[js]?=some (.lst (os'.map U.int))/\(∀(j:Nat) (o:O),j≠jf->j≠js->T[j]?=some o->T'[j]?=some o)/\os'.length<=10/\0<=a'/\0<=c'
 |0,left,os,T,a,c1,hf,_,_,_,_,_=>absurd hf (by omega)
 |fuel+1,left,os,T,a,c1,hf,ha,hc,h2,h3,hl=>by
  have g2:(T++[O.lst []])[jf]?=some (.lst (left.map U.int)):=ah h2
  have g3:(T++[O.lst []])[js]?=some (.lst (os.map U.int)):=ah h3
  have q:=vt true (S:=scr ns::pen a c1::(T++[.lst []])) (l:=jf+1+1) (l':=T.length+1+1) (us:=left.map U.int) (by simpa using g2) (by simp)
  by_cases e:left=[]
  ·have q':mI true (.ref (jf+1+1)) (.ref (T.length+1+1)) (scr ns::pen a c1::(T++[.lst []]))=some (.bl false,scr ns::pen a c1::(T++[.lst []])):=by rw[q,e];rfl
   refine⟨os,T++[.lst []],a,c1,xG ?_,g3,fun j o _ _ h=>ah h,by omega,ha,hc⟩
   rwa[q']
  ·have q':mI true (.ref (jf+1+1)) (.ref (T.length+1+1)) (scr ns::pen a c1::(T++[.lst []]))=some (.bl true,scr ns::pen a c1::(T++[.lst []])):=by rw[q];simp[e]
   obtain⟨f1,a2,c3,e2,p2,q2,ha2,hc2⟩:=cI ns (T++[.lst []]) (m:=left.length) ha hc (by have:=List.length_pos_iff.mpr e;omega) (l9 (by omega) (by omega))
   obtain⟨g,a3,c4,e3,p3,q3,ha3,hc3⟩:=cI ns (T++[.lst []]++[.lst [.int 0,.int f1]]) (m:=2) ha2 hc2 (by decide) (by decide +kernel)
   obtain⟨i,hi,i0,i1⟩:∃i:Int,atI [U.int 0,U.int f1] g=some (.int i)/\0<=i/\i<(left.length:Int):=by
    have:g=0\/g=1:=by omega
    rcases this with rfl|rfl
    ·exact⟨0,rfl,by omega,by have:=List.length_pos_iff.mpr e;omega⟩
    ·exact⟨f1,rfl,p2,q2⟩
   have hin:i.toNat<left.length:=by omega
   obtain⟨z,hz⟩:∃z,left[i.toNat]?=some z:=⟨_,List.getElem?_eq_getElem hin⟩
   have hz':(left.map U.int)[i.toNat]?=some (.int z):=by rw[List.getElem?_map,hz];rfl
   have k1:((left.map U.int).length:Int)=left.length:=by rw[List.length_map]
   have g4:(T++[O.lst [],.lst [.int 0,.int f1]])[jf]?=some (.lst (left.map U.int)):=ah h2
   have g5:(T++[O.lst [],.lst [.int 0,.int f1]])[js]?=some (.lst (os.map U.int)):=ah h3
   have g6:((T++[O.lst [],.lst [.int 0,.int f1]]).set jf (.lst ((left.map U.int).eraseIdx i.toNat)))[js]?=some (.lst (os.map U.int)):=by rw[List.getElem?_set_ne n3];exact g5
   have hL1:(left.map U.int).length<=LIM:=by unfold LIM;rw[List.length_map];omega
   have hL2:(os.map U.int).length<LIM:=by unfold LIM;rw[List.length_map];omega
   obtain⟨X,hX⟩:∃X,X=((T++[O.lst [],.lst [.int 0,.int f1]]).set jf (.lst ((left.map U.int).eraseIdx i.toNat))).set js (.lst (os.map U.int++[.int z])):=⟨_,rfl⟩
   have lj:js<((T++[O.lst [],.lst [.int 0,.int f1]]).set jf (.lst ((left.map U.int).eraseIdx i.toNat))).length:=(List.getElem?_eq_some_iff.mp g6).1
   have lf:jf<(T++[O.lst [],.lst [.int 0,.int f1]]).length:=(List.getElem?_eq_some_iff.mp g4).1
   obtain⟨os',T',a',c',ih,r1,r2,r⟩:=xV ns n3 fuel (left.eraseIdx i.toNat) (os++[z]) X a3 c4 (by rw[List.length_eraseIdx,if_pos hin];omega) ha3 hc3
    (by rw[hX,List.getElem?_set_ne n3.symm,List.getElem?_set,if_pos rfl,if_pos lf,<-lq])
    (by rw[hX,List.getElem?_set,if_pos rfl,if_pos lj,List.map_append];rfl)
    (by rw[List.length_eraseIdx,if_pos hin,List.length_append,List.length_singleton];omega)
   refine⟨os',T',a',c',(AV (S0:=scr ns::pen a c1::(T++[.lst []])) ?_ ?_).trans ih,r1,fun j o hj1 hj2 h=>r2 j o hj1 hj2 ?_,r⟩
   ·rwa[q']
   ·rw[hX]
    simp only[List.append_assoc,List.cons_append,List.nil_append]at e3
    rwa[eJ,g2,g3,e2,List.length_map,e3,hi,qh,g4,mT i0 (by rw[k1];exact i1) hL1 hz',g6,kG hL2,List.length_append]
   ·rw[hX,List.getElem?_set_ne hj2.symm,List.getElem?_set_ne hj1.symm];exact ah h
end
noncomputable def IsQ(m:Nat)(S:Sto)(u:U)(k:Nat):Prop:=∃(r:Nat) (os:List Int),u=.ref (r+2)/\m<=r/\S[r+2]?=some (.lst (os.map U.int))/\os.length<=k
theorem IsQ.app{m:Nat}{S:Sto}{u:U}{k:Nat}(h:IsQ m S u k)(X:Sto):IsQ m (S++X) u k:=by
 obtain⟨l,us,e,hm,hl,hk⟩:=h
 exact⟨l,us,e,hm,ah hl,hk⟩
theorem IsQ.pen{m:Nat}{ns:List Int}{a c a' c':Int}{T:Sto}{u:U}{k:Nat}(h:IsQ m (scr ns::pen a c::T) u k):IsQ m (scr ns::pen a' c'::T) u k:=by
 obtain⟨l,us,e,hm,hl,hk⟩:=h
 exact⟨l,us,e,hm,hl,hk⟩
theorem IsQ.mono{m m':Nat}{S:Sto}{u:U}{k k':Nat}(h:IsQ m S u k)(hm:m'<=m)(hk:k<=k'):IsQ m' S u k':=by
 obtain⟨l,us,e,h',hl,h⟩:=h
 exact⟨l,us,e,by omega,hl,by omega⟩
noncomputable def EvI(m:Nat)(ρ:Rho)(S0:Sto)(ce:CE)(k:Nat):Prop:=∀X,∃u G,ce ρ (S0++X)=some (u,S0++(X++G))/\IsQ m (S0++(X++G)) u k
section
variable{ρ:Rho}{S0:Sto}{ce c1 c2:CE}{m k k1 k2 i:Nat}{u:U}
theorem uu(l2:m+2<=S0.length)(h:∀X,∃(os:List Int) (G:Sto),ce ρ (S0++X)=some (.ref (S0++(X++G)).length,S0++(X++G)++[.lst (os.map U.int)])/\os.length<=k):EvI m ρ S0 ce k:=fun X=>by
 obtain⟨os,G,e,hl⟩:=h X
 have ln:(S0++(X++G)).length-2+2=(S0++(X++G)).length:=by rw[List.length_append];omega
 refine⟨.ref (S0++(X++G)).length,G++[.lst (os.map U.int)],by rw[e];simp only[List.append_assoc],(S0++(X++G)).length-2,os,by rw[ln],by rw[List.length_append];omega,?_,hl⟩
 rw[ln,<-List.append_assoc,<-List.append_assoc,List.append_assoc S0,ga0];rfl
theorem Fy(hv:ρ[i]?=some (some u))(h:IsQ m S0 u k):EvI m ρ S0 (ag i) k:=fun X=>⟨u,[],by unfold ag;rw[hv,List.append_nil],h.app _⟩
theorem oa{cl ch:Option CE}{lo hi:Option Int}(l2:m+2<=S0.length)(hv:ρ[i]?=some (some u))(h:IsQ m S0 u k)(h1:∀S,mR cl ρ S=some (lo,S))(h2:∀S,mR ch ρ S=some (hi,S)):EvI m ρ S0 (cSl (ag i) cl ch) k:=uu l2 fun X=>by
 obtain⟨l,os,rfl,_,hl,hk⟩:=h
 have e0:ag i ρ (S0++X)=some (.ref (l+2),S0++X):=by unfold ag;rw[hv]
 have g0:(S0++X)[l+2]?=some (.lst (os.map U.int)):=ah hl
 obtain⟨p,q,hc⟩:∃p q,Dq (os.map U.int) lo hi=((os.drop p).take q).map U.int:=⟨_,_,by unfold Dq;rw[<-List.map_drop,<-List.map_take]⟩
 refine⟨(os.drop p).take q,[],?_,by rw[List.length_take,List.length_drop];omega⟩
 unfold cSl
 rw[e0,Option.bind_some]
 simp only[h1,h2,Option.bind_some,fSl,g0,List.append_nil,hc]
theorem og(l2:m+2<=S0.length)(h1:EvI m ρ S0 c1 k1)(h2:EvI m ρ S0 c2 k2)(hk:k1+k2<=9000):EvI m ρ S0 (cOp gX c1 c2) (k1+k2):=uu l2 fun X=>by
 obtain⟨u1,G1,e1,q1⟩:=h1 X
 obtain⟨u2,G2,e2,l',vs,rfl,_,hl2,hk2⟩:=h2 (X++G1)
 obtain⟨l,us,rfl,_,hl1,hk1⟩:=q1.app G2
 rw[List.append_assoc]at e2 hl2
 have ea:S0++(X++G1)++G2=S0++(X++(G1++G2)):=by simp only[List.append_assoc]
 rw[ea]at hl1
 refine⟨us++vs,G1++G2,?_,by rw[List.length_append];omega⟩
 rw[Jq,e1,Option.bind_some,AE,e2,Option.bind_some,AD]
 have hz:(us.map U.int).length+(vs.map U.int).length<=LIM:=by rw[List.length_map,List.length_map];unfold LIM;omega
 simp only[gX,ky,hl1,hl2]
 rw[if_pos hz,List.map_append]
theorem Fz{z:Int}(l2:m+2<=S0.length)(h:∀S,ce ρ S=some (.int z,S)):EvI m ρ S0 (j9 (ae ce aD)) 1:=uu l2 fun X=>by
 refine⟨[z],[],?_,Nat.le_refl 1⟩
 rw[DO,pz,h,List.append_nil];rfl
end
section
variable{n w:Int}
theorem En(ns:List Int)(T:Sto){a c1:Int}{lu:U}{jd:Nat}{ds:List Int}(hd:T[jd]?=some (.lst (ds.map U.int)))(hl:ds.length<=10)(ha:0<=a)(hc:0<=c1) :
  ∃u a' c' G,oP [.ref 1,lu,.ref (jd+2)] (scr ns::pen a c1::T)=some (u,scr ns::pen a' c'::(T++G))/\IsQ T.length (scr ns::pen a' c'::(T++G)) u 60/\0<=a'/\0<=c':=by
 unfold oP
 rw[me]
 obtain⟨jf,hjf⟩:∃jf,jf=T.length:=⟨_,rfl⟩
 obtain⟨js,hjs⟩:∃js,js=T.length+1:=⟨_,rfl⟩
 obtain⟨os,T',a1,d1,e1,g1,kp,ol,ha1,hd1⟩:=xV (jf:=jf) (js:=js) (x1:=some lu) (x2:=some (.ref (jd+2))) (x5:=none) (x6:=none) (x7:=none) ns (by omega) 100 ds [] (T++[.lst (ds.map U.int),.lst []]) a c1 (by omega) ha hc (by rw[hjf,ga0];rfl) (by rw[hjs,ga];rfl) (by rw[List.length_nil];omega)
 obtain⟨G1,hG1⟩:=BR (T:=T) (T':=T') fun j o h=>kp j o (fun z=>by rw[z,hjf,List.getElem?_eq_none (Nat.le_refl _)]at h;cases h) (fun z=>by rw[z,hjs,List.getElem?_eq_none (Nat.le_succ _)]at h;cases h) (ah h)
 have s1:dc 3 (cCB mO (ae (ag 2) aD)) [some (.ref 1),some lu,some (.ref (jd+2)),none,none,none,none,none] (scr ns::pen a c1::T)=some (.nx,[some (.ref 1),some lu,some (.ref (jd+2)),some (.ref (jf+1+1)),none,none,none,none],scr ns::pen a c1::(T++[.lst (ds.map U.int)])):=by
  have g0:(scr ns::pen a c1::T)[jd+2]?=some (.lst (ds.map U.int)):=hd
  rw[oU]
  show(mO [.ref (jd+2)] (scr ns::pen a c1::T)).bind _=_
  rw[tZ,g0,hjf];rfl
 have s2:dc 4 (j9 aD) [some (.ref 1),some lu,some (.ref (jd+2)),some (.ref (jf+1+1)),none,none,none,none] (scr ns::pen a c1::(T++[.lst (ds.map U.int)]))=some (.nx,[some (.ref 1),some lu,some (.ref (jd+2)),some (.ref (jf+1+1)),some (.ref (js+1+1)),none,none,none],scr ns::pen a c1::(T++[.lst (ds.map U.int),.lst []])):=by
  have ln:(scr ns::pen a c1::(T++[O.lst (ds.map U.int)])).length=js+1+1:=by rw[hjs,List.length_cons,List.length_cons,List.length_append];rfl
  have ec:j9 aD [some (.ref 1),some lu,some (.ref (jd+2)),some (.ref (jf+1+1)),none,none,none,none] (scr ns::pen a c1::(T++[O.lst (ds.map U.int)]))=some (.ref (scr ns::pen a c1::(T++[O.lst (ds.map U.int)])).length,scr ns::pen a c1::(T++[O.lst (ds.map U.int),.lst []])):=by
   rw[DO,AF]
   show some (U.ref (scr ns::pen a c1::(T++[O.lst (ds.map U.int)])).length,scr ns::pen a c1::(T++[O.lst (ds.map U.int)]++[O.lst []]))=_
   rw[List.append_assoc];rfl
  rw[oU,ec,ln];rfl
 obtain⟨way,a2,d2,e2,w0,w1,ha2,hd2⟩:=cI ns T' ha1 hd1 (m:=8) (by decide) (by decide)
 obtain⟨at_,a3,d3,e3,t0,t1,ha3,hd3⟩:=cI ns T' ha2 hd2 (m:=((os.map U.int).length:Int)+1) (by omega) (l9 (by omega) (by rw[List.length_map];omega))
 obtain⟨ρ5,hρ5⟩:∃ρ:Rho,ρ=[some (.ref 1),some lu,some (.ref (jd+2)),some (.ref (jf+1+1)),some (.ref (js+1+1)),none,none,none]:=⟨_,rfl⟩
 obtain⟨ρ7,hρ7⟩:∃ρ:Option U->Rho,ρ=fun r7=>[some (.ref 1),some lu,some (.ref (jd+2)),some (.ref (jf+1+1)),some (.ref (js+1+1)),some (.int way),some (.int at_),r7]:=⟨_,rfl⟩
 have s5:dc 5 (cCB dv (ae (ag 0) (ae (cC (.int 8)) aD))) [some (.ref 1),some lu,some (.ref (jd+2)),some (.ref (jf+1+1)),some (.ref (js+1+1)),none,none,none] (scr ns::pen a1 d1::T')=some (.nx,[some (.ref 1),some lu,some (.ref (jd+2)),some (.ref (jf+1+1)),some (.ref (js+1+1)),some (.int way),none,none],scr ns::pen a2 d2::T'):=by
  generalize scr ns::pen a1 d1::T'=Y1 at e2 ⊢
  generalize scr ns::pen a2 d2::T'=Y2 at e2 ⊢
  rwa[e2]
 have s6:dc 6 (cCB dv (ae (ag 0) (ae (cOp gX (cCB qW (ae (ag 4) aD)) (cC (.int 1))) aD))) [some (.ref 1),some lu,some (.ref (jd+2)),some (.ref (jf+1+1)),some (.ref (js+1+1)),some (.int way),none,none] (scr ns::pen a2 d2::T')=some (.nx,ρ7 none,scr ns::pen a3 d3::T'):=by
  have g0:(scr ns::pen a2 d2::T')[js+1+1]?=some (.lst (os.map U.int)):=g1
  obtain⟨us,hus⟩:∃us,us=os.map U.int:=⟨_,rfl⟩
  rw[<-hus]at g0 e3
  generalize scr ns::pen a2 d2::T'=Y1 at e3 g0 ⊢
  generalize scr ns::pen a3 d3::T'=Y2 at e3 ⊢
  rwa[hρ7,g0,e3]
 have iq:∀(p q:Int) (X:Sto),IsQ T.length (scr ns::pen p q::(T'++X)) (.ref (js+1+1)) 10:=fun p q X=>⟨js,os,rfl,by omega,ah g1,ol⟩
 have two:∀(p q:Int) (X:Sto),T.length+2<=(scr ns::pen p q::(T'++X)).length:=fun _ _ _=>by rw[hG1,List.length_cons,List.length_cons,List.length_append,List.length_append];omega
 have v4:∀r7,(ρ7 r7)[4]?=some (some (.ref (js+1+1))):=fun _=>by rw[hρ7];rfl
 have v6:∀r7 S,mR (some (ag 6)) (ρ7 r7) S=some (some at_,S):=fun _ _=>by rw[hρ7];rfl
 have v6':∀r7 S,mR (some (cOp gX (ag 6) (cC (.int 1)))) (ρ7 r7) S=some (some (at_+1),S):=fun _ _=>by rw[hρ7];rfl
 have p0:∀r7 S,mR none (ρ7 r7) S=some (none,S):=fun _ _=>rfl
 have p1:∀r7 S,mR (some (cC (.int 1))) (ρ7 r7) S=some (some 1,S):=fun _ _=>rfl
 have tw:∀(i:Int) r7 S,aE (cOp fEq (ag 5) (cC (.int i))) (ρ7 r7) S=some (decide (way=i),S):=fun _ _ _=>by rw[hρ7];rfl
 have fin:∀{ce:CE} {r7:Option U} {p q:Int} {X:Sto} {k:Nat},0<=p->0<=q->EvI T.length (ρ7 r7) (scr ns::pen p q::(T'++X)) ce k->k<=60->∃u a' c' G,(fC ce (ρ7 r7) (scr ns::pen p q::(T'++X))).bind kFn=some (u,scr ns::pen a' c'::(T++G))/\IsQ T.length (scr ns::pen a' c'::(T++G)) u 60/\0<=a'/\0<=c':=fun{ce r7 p q X k} hp hq h hk=>by
  obtain⟨u,G,e,iq⟩:=h []
  rw[List.append_nil,List.nil_append]at e
  rw[List.nil_append]at iq
  have ee:(scr ns::pen p q::(T'++X))++G=scr ns::pen p q::(T++(G1++(X++G))):=by rw[hG1,List.cons_append,List.cons_append];simp only[List.append_assoc]
  rw[ee]at e iq
  refine⟨u,p,q,G1++(X++G),?_,iq.mono (Nat.le_refl _) hk,hp,hq⟩
  rw[wa,e];rfl
 have eT:scr ns::pen a3 d3::T'=scr ns::pen a3 d3::(T'++[]):=by rw[List.append_nil]
 unfold cP
 rw[mx s1,mx s2,mx e1,mx s5,mx s6]
 by_cases h0:way=0
 ·have t:=tw 0 none (scr ns::pen a3 d3::T')
  rw[decide_eq_true h0]at t
  obtain⟨u,a',c',G,e,r⟩:=fin ha3 hd3 (og (two a3 d3 []) (oa (two a3 d3 []) (v4 none) (iq a3 d3 []) (p0 none) (v6 none)) (oa (two a3 d3 []) (v4 none) (iq a3 d3 []) (v6' none) (p0 none)) (by decide)) (by decide)
  refine⟨u,a',c',G,?_,r⟩
  rw[<-e,<-eT,ni,oV,t,Option.bind_some,px]
  rw[wa]at e ⊢
  generalize cOp gX (cSl (ag 4) none (some (ag 6))) (cSl (ag 4) (some (cOp gX (ag 6) (cC (.int 1)))) none) (ρ7 none) (scr ns::pen a3 d3::T')=z
  cases z<;>rfl
 have t:=tw 0 none (scr ns::pen a3 d3::T')
 rw[decide_eq_false h0]at t
 rw[ni,oV,t,Option.bind_some,rH,uP,Option.bind_some,rD]
 by_cases h1:way=1
 ·have t:=tw 1 none (scr ns::pen a3 d3::T')
  rw[decide_eq_true h1]at t
  obtain⟨u,a',c',G,e,r⟩:=fin ha3 hd3 (og (two a3 d3 []) (og (two a3 d3 []) (oa (two a3 d3 []) (v4 none) (iq a3 d3 []) (p0 none) (v6 none)) (oa (two a3 d3 []) (v4 none) (iq a3 d3 []) (p0 none) (p1 none)) (by decide)) (oa (two a3 d3 []) (v4 none) (iq a3 d3 []) (v6 none) (p0 none)) (by decide)) (by decide)
  refine⟨u,a',c',G,?_,r⟩
  rw[<-e,<-eT,ni,oV,t,Option.bind_some,px]
  rw[wa]at e ⊢
  generalize cOp gX _ _ (ρ7 none) (scr ns::pen a3 d3::T')=z
  cases z<;>rfl
 have t:=tw 1 none (scr ns::pen a3 d3::T')
 rw[decide_eq_false h1]at t
 rw[ni,oV,t,Option.bind_some,rH,uP,Option.bind_some,rD]
 by_cases h2:way=2
 ·have t:=tw 2 none (scr ns::pen a3 d3::T')
  rw[decide_eq_true h2]at t
  obtain⟨y,a5,d5,e5,y0,y1,ha5,hd5⟩:=cI ns T' ha3 hd3 (m:=200) (by decide) (by decide)
  obtain⟨m,hm⟩:∃m:Int,m=(10:Int)^(50:Int).toNat:=⟨_,rfl⟩
  have hp:∀{S:Sto},Ar (.int 10) (.int 50) S=some (.int m,S):=by rw[hm];exact Gn (by decide)
  obtain⟨us,hus⟩:∃us:List U,us=[.int y,.int (0-1),.int 200,.int m]:=⟨_,rfl⟩
  obtain⟨g,a6,d6,e6,p6,q6,ha6,hd6⟩:=cI ns (T'++[.lst us]) ha5 hd5 (m:=4) (by decide) (by decide)
  obtain⟨z,hz⟩:∃z:Int,atI us g=some (.int z):=by
   have h4:g=0\/g=1\/g=2\/g=3:=by omega
   rw[hus]
   rcases h4 with rfl|rfl|rfl|rfl
   ·exact⟨_,rfl⟩
   ·exact⟨_,rfl⟩
   ·exact⟨_,rfl⟩
   ·exact⟨_,rfl⟩
  have v0:∀S,ag 0 (ρ7 none) S=some (.ref 1,S):=fun _=>by rw[hρ7];rfl
  have s7:dc 7 (cOp fIx (j9 (ae (cCB dv (ae (ag 0) (ae (cC (.int 200)) aD))) (ae (cOp FX (cC (.int 0)) (cC (.int 1))) (ae (cC (.int 200)) (ae (cOp Ar (cC (.int 10)) (cC (.int 50))) aD))))) (cCB dv (ae (ag 0) (ae (cC (.int 4)) aD)))) (ρ7 none) (scr ns::pen a3 d3::T')=some (.nx,ρ7 (some (.int z)),scr ns::pen a6 d6::(T'++[.lst us])):=by
   have k5:cCB dv (ae (ag 0) (ae (cC (.int 200)) aD)) (ρ7 none) (scr ns::pen a3 d3::T')=some (.int y,scr ns::pen a5 d5::T'):=by
    rw[Jr,pz,v0,Option.bind_some,nj];exact e5
   have k6:cCB dv (ae (ag 0) (ae (cC (.int 4)) aD)) (ρ7 none) (scr ns::pen a5 d5::(T'++[.lst us]))=some (.int g,scr ns::pen a6 d6::(T'++[.lst us])):=by
    rw[Jr,pz,v0,Option.bind_some,nj];exact e6
   have kl:j9 (ae (cCB dv (ae (ag 0) (ae (cC (.int 200)) aD))) (ae (cOp FX (cC (.int 0)) (cC (.int 1))) (ae (cC (.int 200)) (ae (cOp Ar (cC (.int 10)) (cC (.int 50))) aD)))) (ρ7 none) (scr ns::pen a3 d3::T')=some (.ref (T'.length+2),scr ns::pen a5 d5::(T'++[.lst us])):=by
    rw[hus]
    have ln:(scr ns::pen a5 d5::T').length=T'.length+2:=rfl
    have es:(scr ns::pen a5 d5::T')++[O.lst [.int y,.int (0-1),.int 200,.int m]]=scr ns::pen a5 d5::(T'++[O.lst [.int y,.int (0-1),.int 200,.int m]]):=rfl
    rw[<-ln,<-es]
    generalize cCB dv (ae (ag 0) (ae (cC (.int 200)) aD))=ct at k5 ⊢
    generalize scr ns::pen a5 d5::T'=Y5 at k5 ⊢
    generalize scr ns::pen a3 d3::T'=Y3 at k5 ⊢
    rwa[k5,hp]
   have gk:(scr ns::pen a6 d6::(T'++[.lst us]))[T'.length+2]?=some (.lst us):=by show(T'++[O.lst us])[T'.length]?=_;rw[ga0];rfl
   rw[oU,Jq,kl,Option.bind_some,AE,k6,Option.bind_some,AD,GH,gk,GI,hz,hρ7]
   rfl
  obtain⟨u,a',c',G,e,r⟩:=fin ha6 hd6 (og (two a6 d6 [.lst us]) (og (two a6 d6 [.lst us]) (oa (two a6 d6 [.lst us]) (v4 (some (.int z))) (iq a6 d6 [.lst us]) (p0 (some (.int z))) (v6 (some (.int z)))) (Fz (z:=z) (ce:=ag 7) (two a6 d6 [.lst us]) (fun _=>by rw[hρ7];rfl)) (by decide)) (oa (two a6 d6 [.lst us]) (v4 (some (.int z))) (iq a6 d6 [.lst us]) (v6' (some (.int z))) (p0 (some (.int z)))) (by decide)) (by decide)
  refine⟨u,a',c',G,?_,r⟩
  rw[<-e,ni,oV,t,Option.bind_some,px,mx s7]
  rw[wa]at e ⊢
  generalize cOp gX _ _ (ρ7 (some (.int z))) (scr ns::pen a6 d6::(T'++[.lst us]))=z
  cases z<;>rfl
 have t:=tw 2 none (scr ns::pen a3 d3::T')
 rw[decide_eq_false h2]at t
 rw[ni,oV,t,Option.bind_some,rH,uP,Option.bind_some,rD,eT]
 exact fin ha3 hd3 (Fy (v4 none) (iq a3 d3 [])) (by decide)
end
theorem Er{k:Nat}{i:Bool}{S:Sto}:qg (k+1) (.bl i) (.bl i) S:=fun X=>⟨[],by
 have d1:decide (i=i)=true:=decide_eq_true rfl
 unfold jj;rw[kA]
 rwa[eG,DR,wH,KC,Ap,eq_self,d1,List.append_nil]⟩
theorem Fg{S:Sto}{l l':Nat}{ns:List Int}(h:S[l]?=some (.lst (ns.map U.int)))(h':S[l']?=some (.lst (ns.map U.int))):mI true (.ref l) (.ref l') S=some (.bl false,S):=
 pw.ne (k:=1) (pw.lst h h' (kg.all fun u hu=>by obtain⟨i,_,rfl⟩:=List.mem_map.mp hu;exact Lay.int)) (by omega)
noncomputable abbrev fL(c cA:Cl)(f:Fn->Fn->Fn->Fn->Fn->Fn->Fn->Fn->Fn->CS):CS:=f rl rm Ai iC (ng c) (jj 3) oP rn (uK c cA)
noncomputable def rh(n w:Int)(x:U)(r4:Option U)(l:Nat)(e:Bool)(r7 r8 r9 r10 r11 r12 r13 r14 r15 r16:Option U):Rho:=[none,some (.ref 1),some (.tup [.int n,.int w]),some x,r4,some (.ref l),some (.bl e),r7,r8,r9,r10,r11,r12,r13,r14,r15,r16]
section
variable{c cA:Cl}{n w:Int}{evs:List Ev}{x:List Int}{N l:Nat}{S:Sto}{every:Bool}{r4 r7 r8 r9 r10 r11 r12 r13 r14 r15 r16:Option U}
theorem vj{Z:Sto}{ok:Sto->Prop}(hns:c.ns.length=5)(hna:cA.ns.length=3)(lg:jG n w N evs)(he:evs.length<=900)(hN:N<=7)(hn:n<=100)(hx:x.length=n.toNat)(hl:Z[l]?=some (.lst (evs.map Ev.u)))(hok:∀G,ok (Z++G)):∀(us:List U) (G:Sto) (r13 r14 r15 r16:Option U),(∀u∈us,IsQ 0 Z u 60)->
  ∃r13' r14' r15' r16' G',eD ok (gNm 13) (fL c cA oI) us (rh n w (.tup (x.map U.int)) r4 l every r7 r8 r9 r10 r11 r12 r13 r14 r15 r16) (Z++G)=some (.nx,rh n w (.tup (x.map U.int)) r4 l every r7 r8 r9 r10 r11 r12 r13' r14' r15' r16',Z++G')
 |[],G,r13,r14,r15,r16,_=>⟨r13,r14,r15,r16,G,dq (hok G)⟩
 |u::us,G,r13,r14,r15,r16,h=>by
  obtain⟨r,os,rfl,_,gr,ol⟩:=h _ List.mem_cons_self
  obtain⟨Y,hY⟩:∃Y,Y=Z++G:=⟨_,rfl⟩
  have gy:Y[r+2]?=some (.lst (os.map U.int)):=by rw[hY];exact ah gr
  have gl:Y[l]?=some (.lst (evs.map Ev.u)):=by rw[hY];exact ah hl
  obtain⟨Y1,hY1⟩:∃Y1,Y1=Y++[O.lst (os.map U.int)]:=⟨_,rfl⟩
  have gh1:Y1[Y.length]?=some (.lst (os.map U.int)):=by rw[hY1,ga0];rfl
  have gy1:Y1[r+2]?=some (.lst (os.map U.int)):=by rw[hY1];exact ah gy
  have gl1:Y1[l]?=some (.lst (evs.map Ev.u)):=by rw[hY1];exact ah gl
  obtain⟨b,hb⟩:∃b,b=(decide (bO os=dw (aJ [] evs) every)&&ma (aJ [] evs) every [] x os):=⟨_,rfl⟩
  obtain⟨G2,h2⟩:=yJ (x:=x) (every:=every) gl1 gy1 lg he hN hn hx (by omega)
  obtain⟨Y2,hY2⟩:∃Y2,Y2=Y1++G2:=⟨_,rfl⟩
  obtain⟨G3,h3⟩:=BB (c:=c) (cA:=cA) (S:=Y2) (x:=x) (every:=every) (lo:=Y.length) (os:=os) (wu:=.tup [.int n,.int w]) hns hna (by rw[hY2];exact ah gl1) (by rw[hY2];exact ah gh1) lg he (by omega) hn hx (by omega)
  obtain⟨Y3,hY3⟩:∃Y3,Y3=Y2++G3:=⟨_,rfl⟩
  obtain⟨G4,h4⟩:=Er (k:=2) (i:=b) (S:=Y3) []
  rw[List.append_nil,List.nil_append]at h4
  obtain⟨Y4,hY4⟩:∃Y4,Y4=Y3++G4:=⟨_,rfl⟩
  have h5:=Fg (S:=Y4) (l:=Y.length) (l':=r+2) (ns:=os) (by rw[hY4,hY3,hY2];exact ah (ah (ah gh1))) (by rw[hY4,hY3,hY2];exact ah (ah (ah gy1)))
  rw[<-hb,<-hY2]at h2
  rw[<-hb,<-hY3]at h3
  rw[<-hY4]at h4
  obtain⟨X,hX⟩:∃X,Y4=Z++X:=⟨G++([O.lst (os.map U.int)]++(G2++(G3++G4))),by rw[hY4,hY3,hY2,hY1,hY];simp only[List.append_assoc]⟩
  obtain⟨r13',r14',r15',r16',G',ih⟩:=vj hns hna lg he hN hn hx hl hok us X (some (.ref (r+2))) (some (.ref Y.length)) (some (.bl b)) (some (.bl b)) fun v hv=>h v (List.mem_cons_of_mem _ hv)
  refine⟨r13',r14',r15',r16',G',?_⟩
  rw[<-hY]
  refine(dQ (by rw[hY];exact hok G) rfl ?_).trans (by rw[<-hX]at ih;exact ih)
  obtain⟨xs,hxs⟩:∃xs,xs=x.map U.int:=⟨_,rfl⟩
  rw[<-hxs]at h2 h3 ⊢
  have h1:mO [.ref (r+2)] Y=some (.ref Y.length,Y1):=by rw[tZ,gy,hY1];rfl
  show(fL c cA oI) (rh n w (.tup xs) r4 l every r7 r8 r9 r10 r11 r12 (some (.ref (r+2))) r14 r15 r16) Y=_
  have s1:dc 14 (cCB mO (ae (ag 13) aD)) (rh n w (.tup xs) r4 l every r7 r8 r9 r10 r11 r12 (some (.ref (r+2))) r14 r15 r16) Y=some (.nx,rh n w (.tup xs) r4 l every r7 r8 r9 r10 r11 r12 (some (.ref (r+2))) (some (.ref Y.length)) r15 r16,Y1):=by
   rw[oU]
   show(mO [.ref (r+2)] Y).bind _=_
   rw[h1];rfl
  unfold fL oI
  rw[mx s1]
  rwa[rh,h2,h3,h4,h5]
theorem Ck(hl:S[l]?=some (.lst (evs.map Ev.u)))(he:evs.length<=900){ρ:Rho}(h5:ag 5 ρ S=some (.ref l,S)) :
  ∃G,aY (iTp (ag 5)) (gNm 0) (aE (cOp fEq (cOp fIx (ag 0) (cC (.int 0))) (cC (.str "begin")))) (cOp fIx (ag 0) (cC (.int 1))) 1 [] ρ S=some (.ref S.length,S++(.lst ((mS evs).map U.int)::G)):=by
 obtain⟨G',h⟩:=cN (S:=S) (ok:=fun Y=>Y[l]?=some (.lst (evs.map Ev.u))) (gg:=gNm 0) (ct:=aE (cOp fEq (cOp fIx (ag 0) (cC (.int 0))) (cC (.str "begin")))) (ce:=cOp fIx (ag 0) (cC (.int 1))) (f:=Ev.u) (p:=fc) (v:=fun e=>.int e.at) (Rel:=fun ρ=>∃r0,ρ=[r0]) (fun ys G=>ah hl) evs [] [] [none] ⟨_,rfl⟩ (by simp;omega) (fun e he ys G ρ hρ=>by
  obtain⟨r0,rfl⟩:=hρ
  refine⟨[some e.u],[],⟨_,rfl⟩,rfl,?_,fun hd=>⟨[],?_⟩⟩
  ·cases e with
   |beg a=>rwa[Ev.u,fc,eM,List.append_nil]
   |look a b y=>rwa[Ev.u,fc,gQ,List.append_nil]
   |put a b y=>rwa[Ev.u,fc,iX,List.append_nil]
   |fin d a=>
    cases d with
    |true=>rwa[Ev.u,gZ,if_true,fc,gS,List.append_nil]
    |false=>rwa[Ev.u,gZ,Bool.false_eq_true,if_false,fc,gR,List.append_nil]
  ·cases e with
   |beg a=>rwa[Ev.u,Ev.at,List.append_nil]
   |_=>simp[fc]at hd)
 simp only[List.nil_append]at h
 have em:(evs.filter fc).map (fun e=>U.int e.at)=(mS evs).map U.int:=by unfold mS;rw[List.map_map];rfl
 rw[em]at h
 refine⟨G',?_⟩
 unfold aY iTp
 rw[h5,Option.bind_some]
 simp only[hl,Option.bind_some,kn,List.replicate,List.map_nil,List.append_nil,h]
theorem zA(hl:S[l]?=some (.lst (evs.map Ev.u)))(he:evs.length<=900){ρ:Rho}(h5:ag 5 ρ S=some (.ref l,S)) :
  ∃G,aY (iTp (ag 5)) (gNm 0) (aE (cOp fEq (cOp fIx (ag 0) (cC (.int 0))) (cC (.str "done")))) (cOp fIx (ag 0) (cC (.int 1))) 1 [] ρ S=some (.ref S.length,S++(.lst ((jD evs).map U.int)::G)):=by
 obtain⟨G',h⟩:=cN (S:=S) (ok:=fun Y=>Y[l]?=some (.lst (evs.map Ev.u))) (gg:=gNm 0) (ct:=aE (cOp fEq (cOp fIx (ag 0) (cC (.int 0))) (cC (.str "done")))) (ce:=cOp fIx (ag 0) (cC (.int 1))) (f:=Ev.u) (p:=Ev.isD) (v:=fun e=>.int e.at) (Rel:=fun ρ=>∃r0,ρ=[r0]) (fun ys G=>ah hl) evs [] [] [none] ⟨_,rfl⟩ (by simp;omega) (fun e he ys G ρ hρ=>by
  obtain⟨r0,rfl⟩:=hρ
  refine⟨[some e.u],[],⟨_,rfl⟩,rfl,?_,fun hd=>⟨[],?_⟩⟩
  ·cases e with
   |beg a=>rwa[Ev.u,Ev.isD,rP,List.append_nil]
   |look a b y=>rwa[Ev.u,Ev.isD,nk,List.append_nil]
   |put a b y=>rwa[Ev.u,Ev.isD,wd,List.append_nil]
   |fin d a=>
    cases d with
    |true=>rwa[Ev.u,gZ,if_true,Ev.isD,eM,List.append_nil]
    |false=>rwa[Ev.u,gZ,Bool.false_eq_true,if_false,Ev.isD,nr,List.append_nil]
  ·cases e with
   |fin d a=>rwa[Ev.u,Ev.at,List.append_nil]
   |_=>cases hd)
 simp only[List.nil_append]at h
 have em:(evs.filter Ev.isD).map (fun e=>U.int e.at)=(jD evs).map U.int:=by unfold jD;rw[List.map_map];rfl
 rw[em]at h
 refine⟨G',?_⟩
 unfold aY iTp
 rw[h5,Option.bind_some]
 simp only[hl,Option.bind_some,kn,List.replicate,List.map_nil,List.append_nil,h]
theorem y6{i j p q:Nat}{as bs:List Int}(neg:Bool){ρ:Rho}(hi:ag i ρ S=some (.ref p,S))(hj:ρ[j]?.getD none=some (.ref q))(ha:S[p]?=some (.lst (as.map U.int)))(hb:S[q]?=some (.lst (bs.map U.int)))(hl:as.length<=900) :
  ∃(os:List Int) (G:Sto),aY (iTp (ag i)) (gNm 0) (aE (cOp (fIn neg) (ag 0) (ag 1))) (ag 0) 1 [j] ρ S=some (.ref S.length,S++(.lst (os.map U.int)::G))/\os.length<=as.length:=by
 obtain⟨G',h⟩:=cN (S:=S) (ok:=fun Y=>Y[p]?=some (.lst (as.map U.int))) (gg:=gNm 0) (ct:=aE (cOp (fIn neg) (ag 0) (ag 1))) (ce:=ag 0) (f:=U.int) (p:=fun a=>if neg then !decide (a∈bs)else decide (a∈bs)) (v:=U.int) (Rel:=fun ρ=>∃r0,ρ=[r0,some (.ref q)]) (fun ys G=>ah ha) as [] [] [none,some (.ref q)] ⟨_,rfl⟩ (by simp;omega) (fun a _ ys G ρ hρ=>by
  obtain⟨r0,rfl⟩:=hρ
  have g:(S++(O.lst ys::G))[q]?=some (.lst (bs.map U.int)):=ah hb
  refine⟨[some (.int a),some (.ref q)],[],⟨_,rfl⟩,rfl,?_,fun hd=>⟨[],?_⟩⟩
  ·rw[List.append_nil]
   generalize S++(O.lst ys::G)=Y at g ⊢
   rwa[g,rG fl,inI]
  ·rwa[List.append_nil])
 simp only[List.nil_append]at h
 refine⟨as.filter fun a=>if neg then !decide (a∈bs)else decide (a∈bs),G',?_,List.length_filter_le ..⟩
 have er:kn 1 [j] ρ=[none,some (.ref q)]:=by simp[kn,List.replicate,hj]
 unfold aY iTp
 rw[hi,Option.bind_some]
 simp only[ha,Option.bind_some,er,h]
end
theorem xW(ns:List Int){lu:U}{jd:Nat}{ds:List Int}{T:Sto}(hd:T[jd]?=some (.lst (ds.map U.int)))(hl:ds.length<=10):∀(us vs:List U) (G:Sto) (a c1:Int) (r0:Option U),0<=a->0<=c1->vs.length+us.length<=100->(∀v∈vs,IsQ (T.length+1) (scr ns::pen a c1::(T++(.lst vs::G))) v 60)->
  ∃vs' G' a' c',ig (fun _=>True) (gNm 0) (cCB oP (ae (ag 1) (ae (ag 2) (ae (ag 3) aD)))) (T.length+2) us [r0,some (.ref 1),some lu,some (.ref (jd+2))] (scr ns::pen a c1::(T++(.lst vs::G)))=some (scr ns::pen a' c'::(T++(.lst vs'::G')))/\vs'.length<=100/\(∀v∈vs',IsQ (T.length+1) (scr ns::pen a' c'::(T++(.lst vs'::G'))) v 60)/\0<=a'/\0<=c'
 |[],vs,G,a,c1,r0,ha,hc,hb,hv=>⟨vs,G,a,c1,m7 trivial,by omega,hv,ha,hc⟩
 |u::us,vs,G,a,c1,r0,ha,hc,hb,hv=>by
  rw[List.length_cons]at hb
  obtain⟨v,a1,d1,G1,e1,q1,ha1,hd1⟩:=En ns (T++(.lst vs::G)) (lu:=lu) (jd:=jd) (ds:=ds) (ah hd) hl ha hc
  have eT:T++(O.lst vs::G)++G1=T++(.lst vs::(G++G1)):=by rw[List.append_assoc];rfl
  rw[eT]at e1 q1
  have up:∀{z:U} {X:Sto} {p q:Int},IsQ (T.length+1) (scr ns::pen p q::(T++(.lst vs::X))) z 60->IsQ (T.length+1) (scr ns::pen a1 d1::(T++(.lst (vs++[v])::X))) z 60:=fun{z X p q} h=>by
   obtain⟨r,os,rfl,hm,hr,ol⟩:=h
   refine⟨r,os,rfl,hm,?_,ol⟩
   obtain⟨r',rfl⟩:∃r',r=T.length+(r'+1):=⟨r-T.length-1,by omega⟩
   have h1:(T++(O.lst vs::X))[T.length+(r'+1)]?=some (.lst (os.map U.int)):=hr
   rw[ga]at h1
   show(T++(O.lst (vs++[v])::X))[T.length+(r'+1)]?=_
   rw[ga];exact h1
  have q1':IsQ (T.length+1) (scr ns::pen a1 d1::(T++(.lst vs::(G++G1)))) v 60:=q1.mono (by rw[List.length_append,List.length_cons];omega) (Nat.le_refl _)
  have hv':∀z∈vs++[v],IsQ (T.length+1) (scr ns::pen a1 d1::(T++(.lst (vs++[v])::(G++G1)))) z 60:=fun z hz=>by
   rcases List.mem_append.mp hz with hz|hz
   ·refine up (p:=a) (q:=c1) ?_
    have:=(hv z hz).app G1
    have es:(scr ns::pen a c1::(T++(O.lst vs::G)))++G1=scr ns::pen a c1::(T++(.lst vs::(G++G1))):=by rw[<-eT];rfl
    rw[es]at this
    exact this
   ·rw[List.mem_singleton.mp hz];exact up q1'
  obtain⟨vs',G',a',c',ih,r⟩:=xW ns hd hl us (vs++[v]) (G++G1) a1 d1 (some u) ha1 hd1 (by rw[List.length_append,List.length_singleton];omega) hv'
  refine⟨vs',G',a',c',?_,r⟩
  have hval:cCB oP (ae (ag 1) (ae (ag 2) (ae (ag 3) aD))) [some u,some (.ref 1),some lu,some (.ref (jd+2))] (scr ns::pen a c1::(T++(.lst vs::G)))=some (v,scr ns::pen a1 d1::(T++(.lst vs::(G++G1)))):=e1
  refine(lM (ys:=vs) trivial rfl hval ?_ ?_).trans ?_
  ·show(T++(O.lst vs::(G++G1)))[T.length]?=_
   rw[ga0];rfl
  ·unfold LIM;omega
  ·have e2:(scr ns::pen a1 d1::(T++(O.lst vs::(G++G1)))).set (T.length+2) (.lst (vs++[v]))=scr ns::pen a1 d1::(T++(.lst (vs++[v])::(G++G1))):=by
    show scr ns::pen a1 d1::(T++(O.lst vs::(G++G1))).set T.length (.lst (vs++[v]))=_
    rw[gs0];rfl
   rw[e2]
   exact ih
theorem yX{Z:Sto}{r k:Nat}{os:List Int}(h2:2<=r)(h:Z[r]?=some (.lst (os.map U.int)))(hk:os.length<=k):IsQ 0 Z (.ref r) k:=⟨r-2,os,by rw[show r-2+2=r from by omega],Nat.zero_le _,by rw[show r-2+2=r from by omega];exact h,hk⟩
section
variable{c cA:Cl}{n w:Int}{evs:List Ev}{x:List Int}{N l:Nat}{every:Bool}{r4 r7 r8 r9 r10 r11 r12 r13 r14 r15 r16:Option U}
theorem zB:(jD evs).length<=evs.length:=by unfold jD;rw[List.length_map];exact List.length_filter_le ..
theorem vO(hns:c.ns.length=5)(hna:cA.ns.length=3)(ns:List Int)(hn:n<=100)(lg:jG n w 5 evs)(he:evs.length<=30)(hx:x.length=n.toNat)(T:Sto)(hl:T[l]?=some (.lst (evs.map Ev.u))){a c1:Int}(ha:0<=a)(hc:0<=c1) :
  ∃r7' r8' r9' r10' r11' r12' r13' r14' r15' r16' a' c' G,(fL c cA rk) (rh n w (.tup (x.map U.int)) r4 (l+2) every r7 r8 r9 r10 r11 r12 r13 r14 r15 r16) (scr ns::pen a c1::T)=some (.nx,rh n w (.tup (x.map U.int)) r4 (l+2) every r7' r8' r9' r10' r11' r12' r13' r14' r15' r16',scr ns::pen a' c'::(T++G))/\0<=a'/\0<=c':=by
 obtain⟨S0,hS0⟩:∃S0,S0=scr ns::pen a c1::T:=⟨_,rfl⟩
 have ln0:S0.length=T.length+2:=by rw[hS0];rfl
 have gl0:S0[l+2]?=some (.lst (evs.map Ev.u)):=by rw[hS0];exact hl
 obtain⟨xs,hxs⟩:∃xs,xs=U.tup (x.map U.int):=⟨_,rfl⟩
 obtain⟨G7,k7,h7,g7⟩:=tR (every:=every) (S:=S0) gl0 lg (by omega) (by omega)
 obtain⟨S7,hS7⟩:∃S7,S7=S0++G7:=⟨_,rfl⟩
 obtain⟨jd,hjd⟩:∃jd,jd=T.length+k7:=⟨_,rfl⟩
 have ej:S0.length+k7=jd+2:=by rw[ln0,hjd];omega
 have gj7:S7[jd+2]?=some (.lst ((dw (aJ [] evs) every).map U.int)):=by rw[hS7,<-ej,ga];exact g7
 rw[<-hS7,ej]at h7
 have gl7:S7[l+2]?=some (.lst (evs.map Ev.u)):=by rw[hS7];exact ah gl0
 obtain⟨G8,k8,h8,g8⟩:=Aa (c:=c) (S:=S7) (every:=every) hns gl7 lg (by omega) (by omega)
 have onl:(dw (aJ [] evs) every).length<=5:=Nat.le_trans vm lg.cnt
 obtain⟨on,hon⟩:∃on,on=dw (aJ [] evs) every:=⟨_,rfl⟩
 rw[<-hon]at gj7 g8 onl
 obtain⟨Gs,hs⟩:=wm (k:=1) (l1:=S7.length+k8) (l2:=jd+2) (S:=S7++G8) (by rw[ga];exact g8) (ah gj7) (by omega) []
 rw[List.append_nil,List.nil_append,List.append_assoc]at hs
 have g8':(S7++(G8++Gs))[S7.length+k8]?=some (.lst (on.map U.int)):=by rw[ga];exact ah g8
 have hL:(on.map U.int).length<LIM:=by unfold LIM;rw[List.length_map];omega
 obtain⟨X10,hX10⟩:∃X10,X10=(G8++Gs).set k8 (.lst (on.map U.int++[.int 0])):=⟨_,rfl⟩
 obtain⟨S10,hS10⟩:∃S10,S10=S7++X10:=⟨_,rfl⟩
 obtain⟨S9,hS9⟩:∃S9,S9=S7++(G8++Gs):=⟨_,rfl⟩
 obtain⟨S8,hS8⟩:∃S8,S8=S7++G8:=⟨_,rfl⟩
 obtain⟨j8,hj8⟩:∃j8,j8=S7.length+k8:=⟨_,rfl⟩
 have ap:IP j8 (.int 0) S9 (some (.lst (on.map U.int)))=some (.non,S10):=by rw[kG hL,hS9,hj8,gs,<-hX10,<-hS10]
 rw[<-hS8,<-hS9,<-hj8]at hs
 rw[<-hS9,<-hj8]at g8'
 rw[<-hS8,<-hj8]at h8
 have s7:dc 7 (cCB iC (ae (ag 5) (ae (ag 6) aD))) (rh n w xs r4 (l+2) every r7 r8 r9 r10 r11 r12 r13 r14 r15 r16) S0=some (.nx,rh n w xs r4 (l+2) every (some (.ref (jd+2))) r8 r9 r10 r11 r12 r13 r14 r15 r16,S7):=by rwa[rh,h7]
 have s8:dc 8 (cCB (ng c) (ae (ag 5) (ae (ag 6) aD))) (rh n w xs r4 (l+2) every (some (.ref (jd+2))) r8 r9 r10 r11 r12 r13 r14 r15 r16) S7=some (.nx,rh n w xs r4 (l+2) every (some (.ref (jd+2))) (some (.ref j8)) r9 r10 r11 r12 r13 r14 r15 r16,S8):=by rwa[rh,h8]
 have s8b:gj (Du (aE (cCB (jj 3) (ae (ag 8) (ae (ag 7) aD))))) (fC (cC (.bl false))) cR (rh n w xs r4 (l+2) every (some (.ref (jd+2))) (some (.ref j8)) r9 r10 r11 r12 r13 r14 r15 r16) S8=some (.nx,rh n w xs r4 (l+2) every (some (.ref (jd+2))) (some (.ref j8)) r9 r10 r11 r12 r13 r14 r15 r16,S9):=by rwa[rh,hs]
 have s8c:ik (cBM dh (ag 8) (ae (cC (.int 0)) aD)) (rh n w xs r4 (l+2) every (some (.ref (jd+2))) (some (.ref j8)) r9 r10 r11 r12 r13 r14 r15 r16) S9=some (.nx,rh n w xs r4 (l+2) every (some (.ref (jd+2))) (some (.ref j8)) r9 r10 r11 r12 r13 r14 r15 r16,S10):=by
  obtain⟨us,hus⟩:∃us,us=on.map U.int:=⟨_,rfl⟩
  rw[<-hus]at g8' ap
  rwa[rh,g8',ap]
 have gj10:S10[jd+2]?=some (.lst (on.map U.int)):=by rw[hS10];exact ah gj7
 have gl10:S10[l+2]?=some (.lst (evs.map Ev.u)):=by rw[hS10];exact ah gl7
 have l10:2<=S10.length:=by rw[hS10,hS7,List.length_append,List.length_append,ln0];omega
 obtain⟨G11,e9⟩:=Ck (S:=S10) (l:=l+2) (ρ:=rh n w xs r4 (l+2) every (some (.ref (jd+2))) (some (.ref j8)) r9 r10 r11 r12 r13 r14 r15 r16) gl10 (by omega) rfl
 have lb:(mS evs).length<=5:=by
  have:=qM evs []
  have e0:ay []=[]:=rfl
  rw[e0,List.nil_append]at this
  rw[<-this]
  unfold ay
  rw[List.length_map];exact lg.cnt
 obtain⟨S11,hS11⟩:∃S11,S11=S10++(.lst ((mS evs).map U.int)::G11):=⟨_,rfl⟩
 rw[<-hS11]at e9
 have gb11:S11[S10.length]?=some (.lst ((mS evs).map U.int)):=by rw[hS11,ga0];rfl
 obtain⟨o6,G12,e10,lo6⟩:=y6 (S:=S11) (i:=9) (j:=7) (p:=S10.length) (q:=jd+2) false (ρ:=rh n w xs r4 (l+2) every (some (.ref (jd+2))) (some (.ref j8)) (some (.ref S10.length)) r10 r11 r12 r13 r14 r15 r16) rfl rfl gb11 (by rw[hS11];exact ah gj10) (by omega)
 obtain⟨S12,hS12⟩:∃S12,S12=S11++(.lst (o6.map U.int)::G12):=⟨_,rfl⟩
 rw[<-hS12]at e10
 have gb12:S12[S11.length]?=some (.lst (o6.map U.int)):=by rw[hS12,ga0];rfl
 have gl12:S12[l+2]?=some (.lst (evs.map Ev.u)):=by rw[hS12,hS11];exact ah (ah gl10)
 obtain⟨G13,e11⟩:=zA (S:=S12) (l:=l+2) (ρ:=rh n w xs r4 (l+2) every (some (.ref (jd+2))) (some (.ref j8)) (some (.ref S11.length)) r10 r11 r12 r13 r14 r15 r16) gl12 (by omega) rfl
 obtain⟨S13,hS13⟩:∃S13,S13=S12++(.lst ((jD evs).map U.int)::G13):=⟨_,rfl⟩
 rw[<-hS13]at e11
 have gd13:S13[S12.length]?=some (.lst ((jD evs).map U.int)):=by rw[hS13,ga0];rfl
 have gb13:S13[S11.length]?=some (.lst (o6.map U.int)):=by rw[hS13];exact ah gb12
 have ld:(jD evs).length<=30:=Nat.le_trans zB he
 obtain⟨o8,G14,e12,lo8⟩:=y6 (S:=S13) (i:=9) (j:=10) (p:=S11.length) (q:=S12.length) true (ρ:=rh n w xs r4 (l+2) every (some (.ref (jd+2))) (some (.ref j8)) (some (.ref S11.length)) (some (.ref S12.length)) r11 r12 r13 r14 r15 r16) rfl rfl gb13 gd13 (by omega)
 obtain⟨S14,hS14⟩:∃S14,S14=S13++(.lst (o8.map U.int)::G14):=⟨_,rfl⟩
 rw[<-hS14]at e12
 have go14:S14[S13.length]?=some (.lst (o8.map U.int)):=by rw[hS14,ga0];rfl
 have gd14:S14[S12.length]?=some (.lst ((jD evs).map U.int)):=by rw[hS14];exact ah gd13
 have gb14:S14[S11.length]?=some (.lst (o6.map U.int)):=by rw[hS14];exact ah gb13
 have s9:dc 9 (aY (iTp (ag 5)) (gNm 0) (aE (cOp fEq (cOp fIx (ag 0) (cC (.int 0))) (cC (.str "begin")))) (cOp fIx (ag 0) (cC (.int 1))) 1 []) (rh n w xs r4 (l+2) every (some (.ref (jd+2))) (some (.ref j8)) r9 r10 r11 r12 r13 r14 r15 r16) S10=some (.nx,rh n w xs r4 (l+2) every (some (.ref (jd+2))) (some (.ref j8)) (some (.ref S10.length)) r10 r11 r12 r13 r14 r15 r16,S11):=by rw[oU,e9];rfl
 have s10:dc 9 (aY (iTp (ag 9)) (gNm 0) (aE (cOp (fIn false) (ag 0) (ag 1))) (ag 0) 1 [7]) (rh n w xs r4 (l+2) every (some (.ref (jd+2))) (some (.ref j8)) (some (.ref S10.length)) r10 r11 r12 r13 r14 r15 r16) S11=some (.nx,rh n w xs r4 (l+2) every (some (.ref (jd+2))) (some (.ref j8)) (some (.ref S11.length)) r10 r11 r12 r13 r14 r15 r16,S12):=by rw[oU,e10];rfl
 have s11:dc 10 (aY (iTp (ag 5)) (gNm 0) (aE (cOp fEq (cOp fIx (ag 0) (cC (.int 0))) (cC (.str "done")))) (cOp fIx (ag 0) (cC (.int 1))) 1 []) (rh n w xs r4 (l+2) every (some (.ref (jd+2))) (some (.ref j8)) (some (.ref S11.length)) r10 r11 r12 r13 r14 r15 r16) S12=some (.nx,rh n w xs r4 (l+2) every (some (.ref (jd+2))) (some (.ref j8)) (some (.ref S11.length)) (some (.ref S12.length)) r11 r12 r13 r14 r15 r16,S13):=by rw[oU,e11];rfl
 have s12:dc 11 (aY (iTp (ag 9)) (gNm 0) (aE (cOp (fIn true) (ag 0) (ag 1))) (ag 0) 1 [10]) (rh n w xs r4 (l+2) every (some (.ref (jd+2))) (some (.ref j8)) (some (.ref S11.length)) (some (.ref S12.length)) r11 r12 r13 r14 r15 r16) S13=some (.nx,rh n w xs r4 (l+2) every (some (.ref (jd+2))) (some (.ref j8)) (some (.ref S11.length)) (some (.ref S12.length)) (some (.ref S13.length)) r12 r13 r14 r15 r16,S14):=by rw[oU,e12];rfl
 obtain⟨us,hus⟩:∃us:List U,us=[.ref S11.length,.ref S12.length,.ref S14.length]:=⟨_,rfl⟩
 obtain⟨S15,hS15⟩:∃S15,S15=S14++[O.lst ((jD evs++o8).map U.int),.lst us]:=⟨_,rfl⟩
 obtain⟨j12,hj12⟩:∃j12,j12=S14.length+1:=⟨_,rfl⟩
 have s13:dc 12 (j9 (ae (ag 9) (ae (ag 10) (ae (cOp gX (ag 10) (ag 11)) aD)))) (rh n w xs r4 (l+2) every (some (.ref (jd+2))) (some (.ref j8)) (some (.ref S11.length)) (some (.ref S12.length)) (some (.ref S13.length)) r12 r13 r14 r15 r16) S14=some (.nx,rh n w xs r4 (l+2) every (some (.ref (jd+2))) (some (.ref j8)) (some (.ref S11.length)) (some (.ref S12.length)) (some (.ref S13.length)) (some (.ref j12)) r13 r14 r15 r16,S15):=by
  have ea:gX (.ref S12.length) (.ref S13.length) S14=some (.ref S14.length,S14++[.lst ((jD evs++o8).map U.int)]):=by
   have lz:((jD evs).map U.int).length+(o8.map U.int).length<=LIM:=by rw[List.length_map,List.length_map];unfold LIM;omega
   simp only[gX,ky,gd14,go14]
   rw[if_pos lz,List.map_append]
  obtain⟨Y,hY⟩:∃Y,Y=S14++[O.lst ((jD evs++o8).map U.int)]:=⟨_,rfl⟩
  have lY:Y.length=j12:=by rw[hY,hj12,List.length_append];rfl
  have eY:S15=Y++[.lst us]:=by rw[hS15,hY,List.append_assoc];rfl
  rw[<-hY]at ea
  rw[eY,<-lY,hus]
  rwa[rh,ea]
 have two:2<=S11.length/\2<=S12.length/\2<=S14.length:=by
  refine⟨?_,?_,?_⟩
  ·rw[hS11,List.length_append];omega
  ·rw[hS12,hS11,List.length_append,List.length_append];omega
  ·rw[hS14,hS13,hS12,hS11,List.length_append,List.length_append,List.length_append,List.length_append];omega
 have iq15:∀u∈us,IsQ 0 S15 u 60:=fun u hu=>by
  rw[hus]at hu
  simp only[List.mem_cons,List.not_mem_nil,or_false]at hu
  rcases hu with rfl|rfl|rfl
  ·exact yX two.1 (os:=o6) (by rw[hS15];exact ah gb14) (by omega)
  ·exact yX two.2.1 (os:=jD evs) (by rw[hS15];exact ah gd14) (by omega)
  ·exact yX two.2.2 (os:=jD evs++o8) (by rw[hS15,ga0];rfl) (by rw[List.length_append];omega)
 have gu15:S15[j12]?=some (.lst us):=by rw[hS15,hj12,ga];rfl
 have gj15:S15[jd+2]?=some (.lst (on.map U.int)):=by rw[hS15,hS14,hS13,hS12,hS11];exact ah (ah (ah (ah (ah gj10))))
 have gl15:S15[l+2]?=some (.lst (evs.map Ev.u)):=by rw[hS15,hS14,hS13];exact ah (ah (ah gl12))
 obtain⟨X15,hX15⟩:∃X,S15=S0++X:=⟨G7++(X10++((.lst ((mS evs).map U.int)::G11)++((.lst (o6.map U.int)::G12)++((.lst ((jD evs).map U.int)::G13)++((.lst (o8.map U.int)::G14)++[O.lst ((jD evs++o8).map U.int),.lst us]))))),by rw[hS15,hS14,hS13,hS12,hS11,hS10,hS7];simp only[List.append_assoc]⟩
 obtain⟨T15,hT15⟩:∃T15,T15=T++X15:=⟨_,rfl⟩
 have eS15:S15=scr ns::pen a c1::T15:=by rw[hX15,hS0,hT15];rfl
 obtain⟨vs,G16,a',c',e16,lv,qv,ha',hc'⟩:=xW ns (lu:=.ref (l+2)) (jd:=jd) (ds:=on) (T:=T15) (by rw[eS15]at gj15;exact gj15) (by omega) (dk 0 3) [] [] a c1 none ha hc (by simp[dk]) (fun v hv=>by cases hv)
 obtain⟨S16,hS16⟩:∃S16,S16=scr ns::pen a' c'::(T15++(O.lst vs::G16)):=⟨_,rfl⟩
 rw[<-hS16]at e16 qv
 have gv16:S16[T15.length+2]?=some (.lst vs):=by rw[hS16];show(T15++(O.lst vs::G16))[T15.length]?=_;rw[ga0];rfl
 have j12':2<=j12:=by omega
 have keep:∀{i:Nat} {o:O},2<=i->S15[i]?=some o->S16[i]?=some o:=fun{i o} h2 h=>by
  obtain⟨i',rfl⟩:∃i',i=i'+2:=⟨i-2,by omega⟩
  rw[eS15]at h
  rw[hS16]
  exact ah (show T15[i']?=_ from h)
 have gu16:S16[j12]?=some (.lst us):=keep j12' gu15
 have gl16:S16[l+2]?=some (.lst (evs.map Ev.u)):=keep (by omega) gl15
 obtain⟨S17,hS17⟩:∃S17,S17=S16++[O.lst (us++vs)]:=⟨_,rfl⟩
 have lus:us.length=3:=by rw[hus];rfl
 have s14:dc 12 (cOp gX (ag 12) (fU (eV (ae (cC (.int 3)) aD)) (gNm 0) (cCB oP (ae (ag 1) (ae (ag 2) (ae (ag 3) aD)))) 1 [1,5,7])) (rh n w xs r4 (l+2) every (some (.ref (jd+2))) (some (.ref j8)) (some (.ref S11.length)) (some (.ref S12.length)) (some (.ref S13.length)) (some (.ref j12)) r13 r14 r15 r16) S15=some (.nx,rh n w xs r4 (l+2) every (some (.ref (jd+2))) (some (.ref j8)) (some (.ref S11.length)) (some (.ref S12.length)) (some (.ref S13.length)) (some (.ref S16.length)) r13 r14 r15 r16,S17):=by
  have hv:ag 12 (rh n w xs r4 (l+2) every (some (.ref (jd+2))) (some (.ref j8)) (some (.ref S11.length)) (some (.ref S12.length)) (some (.ref S13.length)) (some (.ref j12)) r13 r14 r15 r16) S15=some (.ref j12,S15):=rfl
  have hcmp:fU (eV (ae (cC (.int 3)) aD)) (gNm 0) (cCB oP (ae (ag 1) (ae (ag 2) (ae (ag 3) aD)))) 1 [1,5,7] (rh n w xs r4 (l+2) every (some (.ref (jd+2))) (some (.ref j8)) (some (.ref S11.length)) (some (.ref S12.length)) (some (.ref S13.length)) (some (.ref j12)) r13 r14 r15 r16) S15=some (.ref (T15.length+2),S16):=by
   have e0:eV (ae (cC (.int 3)) aD) (rh n w xs r4 (l+2) every (some (.ref (jd+2))) (some (.ref j8)) (some (.ref S11.length)) (some (.ref S12.length)) (some (.ref S13.length)) (some (.ref j12)) r13 r14 r15 r16) S15=some (dk 0 3,fun _=>True,S15):=rfl
   have ln:S15.length=T15.length+2:=by rw[eS15];rfl
   have es:S15++[O.lst []]=scr ns::pen a c1::(T15++[O.lst []]):=by rw[eS15];rfl
   unfold fU
   rw[e0,Option.bind_some]
   show(ig (fun _=>True) (gNm 0) _ S15.length (dk 0 3) [none,some (.ref 1),some (.ref (l+2)),some (.ref (jd+2))] (S15++[.lst []])).bind (fun S'=>some (U.ref S15.length,S'))=_
   rw[ln,es,e16]
   rfl
  have ea:gX (.ref j12) (.ref (T15.length+2)) S16=some (.ref S16.length,S17):=by
   have lz:us.length+vs.length<=LIM:=by unfold LIM;omega
   simp only[gX,ky,gu16,gv16]
   rw[if_pos lz,hS17]
  rw[oU,Jq,hv,Option.bind_some,AE,hcmp,Option.bind_some,AD,ea]
  rfl
 have q17:∀u∈us++vs,IsQ 0 S17 u 60:=fun u hu=>by
  rw[hS17]
  rcases List.mem_append.mp hu with hu|hu
  ·have:=iq15 u hu
   rw[eS15]at this
   have:=(this.pen (a':=a') (c':=c')).app (O.lst vs::G16)
   have es:(scr ns::pen a' c'::T15)++(O.lst vs::G16)=S16:=by rw[hS16];rfl
   rw[es]at this
   exact this.app _
  ·exact((qv u hu).mono (Nat.zero_le _) (Nat.le_refl _)).app _
 have g17:S17[S16.length]?=some (.lst (us++vs)):=by rw[hS17,ga0];rfl
 obtain⟨r13',r14',r15',r16',G18,e18⟩:=vj (c:=c) (cA:=cA) (Z:=S17) (l:=l+2) (every:=every) (x:=x) (r4:=r4) (r7:=some (.ref (jd+2))) (r8:=some (.ref j8)) (r9:=some (.ref S11.length)) (r10:=some (.ref S12.length)) (r11:=some (.ref S13.length)) (r12:=some (.ref S16.length)) (ok:=fun Y=>Y[S16.length]?=some (.lst (us++vs))) hns hna lg (by omega) (by omega) hn hx (by rw[hS17];exact ah gl16) (fun G=>ah g17) (us++vs) [] r13 r14 r15 r16 q17
 rw[List.append_nil,<-hxs]at e18
 have s15:i9 (iTp (ag 12)) (gNm 13) (fL c cA oI) (rh n w xs r4 (l+2) every (some (.ref (jd+2))) (some (.ref j8)) (some (.ref S11.length)) (some (.ref S12.length)) (some (.ref S13.length)) (some (.ref S16.length)) r13 r14 r15 r16) S17=some (.nx,rh n w xs r4 (l+2) every (some (.ref (jd+2))) (some (.ref j8)) (some (.ref S11.length)) (some (.ref S12.length)) (some (.ref S13.length)) (some (.ref S16.length)) r13' r14' r15' r16',S17++G18):=by
  have hv:ag 12 (rh n w xs r4 (l+2) every (some (.ref (jd+2))) (some (.ref j8)) (some (.ref S11.length)) (some (.ref S12.length)) (some (.ref S13.length)) (some (.ref S16.length)) r13 r14 r15 r16) S17=some (.ref S16.length,S17):=rfl
  unfold i9 iTp
  rw[hv,Option.bind_some]
  simp only[g17,Option.bind_some]
  exact e18
 refine⟨some (.ref (jd+2)),some (.ref j8),some (.ref S11.length),some (.ref S12.length),some (.ref S13.length),some (.ref S16.length),r13',r14',r15',r16',a',c',X15++((O.lst vs::G16)++([O.lst (us++vs)]++G18)),?_,ha',hc'⟩
 have eF:S17++G18=scr ns::pen a' c'::(T++(X15++((O.lst vs::G16)++([O.lst (us++vs)]++G18)))):=by
  rw[hS17,hS16,hT15,List.cons_append,List.cons_append,List.cons_append,List.cons_append]
  simp only[List.append_assoc]
 rw[<-eF,<-hS0,<-hxs]
 unfold fL rk
 rw[mx s7,mx s8,mx s8b,mx s8c,mx s9,mx s10,mx s11,mx s12,mx s13,mx s14]
 exact s15
theorem rS(hns:c.ns.length=5)(hna:cA.ns.length=3)(ns:List Int)(n0:1<=n)(n1:n<=6)(w0:2<=w)(w1:w<=1000)(hx:x.length=n.toNat)(bx:∀z∈x,0<=z/\z<w):∀(us:List U) (T:Sto) (a c1:Int) (r4 r5 r6 r7 r8 r9 r10 r11 r12 r13 r14 r15 r16:Option U),0<=a->0<=c1->
  ∃ρ' S',eD (fun _=>True) (gNm 4) (fL c cA oH) us [none,some (.ref 1),some (.tup [.int n,.int w]),some (.tup (x.map U.int)),r4,r5,r6,r7,r8,r9,r10,r11,r12,r13,r14,r15,r16] (scr ns::pen a c1::T)=some (.nx,ρ',S')
 |[],T,a,c1,r4,r5,r6,r7,r8,r9,r10,r11,r12,r13,r14,r15,r16,_,_=>⟨_,_,dq trivial⟩
 |u::us,T,a,c1,r4,r5,r6,r7,r8,r9,r10,r11,r12,r13,r14,r15,r16,ha,hc=>by
  obtain⟨evs,a1,c2,G1,k1,e1,g1,lg,he,ha1,hc1⟩:=Iy ns T (most:=5) (size:=30) ha hc n0 n1 w0 w1 hx bx (by omega) (by omega) (by omega) (by omega)
  have he':evs.length<=30:=by have:(30:Int).toNat=30:=rfl;omega
  obtain⟨l,hl⟩:∃l,l=T.length+k1:=⟨_,rfl⟩
  have gl:(T++G1)[l]?=some (.lst (evs.map Ev.u)):=by rw[hl,ga];exact g1
  have lg5:jG n w 5 evs:=lg
  obtain⟨p7,p8,p9,p10,p11,p12,p13,p14,p15,p16,a2,c3,G2,e2,ha2,hc2⟩:=vO (c:=c) (cA:=cA) (every:=true) (r4:=some u) (r7:=r7) (r8:=r8) (r9:=r9) (r10:=r10) (r11:=r11) (r12:=r12) (r13:=r13) (r14:=r14) (r15:=r15) (r16:=r16) hns hna ns (by omega) lg5 he' hx (T++G1) gl ha1 hc1
  obtain⟨q7,q8,q9,q10,q11,q12,q13,q14,q15,q16,a3,c4,G3,e3,ha3,hc3⟩:=vO (c:=c) (cA:=cA) (every:=false) (r4:=some u) (r7:=p7) (r8:=p8) (r9:=p9) (r10:=p10) (r11:=p11) (r12:=p12) (r13:=p13) (r14:=p14) (r15:=p15) (r16:=p16) hns hna ns (by omega) lg5 he' hx (T++G1++G2) (ah gl) ha2 hc2
  obtain⟨ρ',S',ih⟩:=rS hns hna ns n0 n1 w0 w1 hx bx us (T++G1++G2++G3) a3 c4 (some u) (some (.ref (l+2))) (some (.bl false)) q7 q8 q9 q10 q11 q12 q13 q14 q15 q16 ha3 hc3
  refine⟨ρ',S',(dQ (S1:=scr ns::pen a3 c4::(T++G1++G2++G3)) (ρ1:=rh n w (.tup (x.map U.int)) (some u) (l+2) false q7 q8 q9 q10 q11 q12 q13 q14 q15 q16) trivial rfl ?_).trans ih⟩
  obtain⟨xs,hxs⟩:∃xs,xs=U.tup (x.map U.int):=⟨_,rfl⟩
  rw[<-hxs]at e1 e2 e3 ⊢
  have s1:dc 5 (cCB Ai (ae (ag 1) (ae (ag 2) (ae (ag 3) (ae (cC (.int 5)) (ae (cC (.int 30)) aD)))))) [none,some (.ref 1),some (.tup [.int n,.int w]),some xs,some u,r5,r6,r7,r8,r9,r10,r11,r12,r13,r14,r15,r16] (scr ns::pen a c1::T)=some (.nx,[none,some (.ref 1),some (.tup [.int n,.int w]),some xs,some u,some (.ref (l+2)),r6,r7,r8,r9,r10,r11,r12,r13,r14,r15,r16],scr ns::pen a1 c2::(T++G1)):=by
   rw[<-hl]at e1
   have e1':Ai [.ref 1,.tup [.int n,.int w],xs,.int 5,.int 30] (scr ns::pen a c1::T)=some (.ref (l+2),scr ns::pen a1 c2::(T++G1)):=e1
   generalize scr ns::pen a c1::T=Y0 at e1' ⊢
   generalize scr ns::pen a1 c2::(T++G1)=Y1 at e1' ⊢
   rwa[e1']
  have s2:i9 (iTp (mQ (ae (cC (.bl true)) (ae (cC (.bl false)) aD)))) (gNm 6) (fL c cA rk) [none,some (.ref 1),some (.tup [.int n,.int w]),some xs,some u,some (.ref (l+2)),r6,r7,r8,r9,r10,r11,r12,r13,r14,r15,r16] (scr ns::pen a1 c2::(T++G1))=some (.nx,rh n w xs (some u) (l+2) false q7 q8 q9 q10 q11 q12 q13 q14 q15 q16,scr ns::pen a3 c4::(T++G1++G2++G3)):=by
   have ei:iTp (mQ (ae (cC (.bl true)) (ae (cC (.bl false)) aD)))=fun ρ S=>some ([.bl true,.bl false],fun _=>True,S):=rfl
   unfold i9
   rw[ei,Option.bind_some]
   exact(dQ trivial rfl e2).trans ((dQ trivial rfl e3).trans (dq trivial))
  show fL c cA oH [none,some (.ref 1),some (.tup [.int n,.int w]),some xs,some u,r5,r6,r7,r8,r9,r10,r11,r12,r13,r14,r15,r16] (scr ns::pen a c1::T)=_
  unfold fL oH
  rw[mx s1]
  exact s2
theorem IB(hns:c.ns.length=5)(hna:cA.ns.length=3)(ns:List Int)(a c1:Int)(ha:0<=a)(hc:0<=c1):∃ρ' S',(fL c cA zP) [none,some (.ref 1),none,none,none,none,none,none,none,none,none,none,none,none,none,none,none] [.lst (ns.map U.int),.lst [.ref 0,.int a,.int c1]]=some (.rt (.bl true),ρ',S'):=by
 obtain⟨n,w,a1,d1,G,e1,n0,n1,w0,w1,ha1,hd1⟩:=AR ns [] ha hc
 rw[List.nil_append]at e1
 obtain⟨x,a2,d2,G2,e2,hx,bx,ha2,hd2⟩:=A1 ns G ha1 hd1 n0 n1 w0 w1
 obtain⟨ρ',S',e3⟩:=rS (c:=c) (cA:=cA) (x:=x) hns hna ns n0 n1 w0 w1 hx bx (dk 0 3) (G++G2) a2 d2 none none none none none none none none none none none none none ha2 hd2
 obtain⟨X3,hX3⟩:∃X3,X3=x.map U.int:=⟨_,rfl⟩
 rw[<-hX3]at e2 e3
 have s1:dc 2 (cCB rl (ae (ag 1) aD)) [none,some (.ref 1),none,none,none,none,none,none,none,none,none,none,none,none,none,none,none] (scr ns::pen a c1::[])=some (.nx,[none,some (.ref 1),some (.tup [.int n,.int w]),none,none,none,none,none,none,none,none,none,none,none,none,none,none],scr ns::pen a1 d1::G):=by
  generalize scr ns::pen a1 d1::G=Y1 at e1 ⊢
  generalize scr ns::pen a c1::[]=Y0 at e1 ⊢
  rwa[e1]
 have s2:dc 3 (cCB rm (ae (ag 1) (ae (ag 2) aD))) [none,some (.ref 1),some (.tup [.int n,.int w]),none,none,none,none,none,none,none,none,none,none,none,none,none,none] (scr ns::pen a1 d1::G)=some (.nx,[none,some (.ref 1),some (.tup [.int n,.int w]),some (.tup X3),none,none,none,none,none,none,none,none,none,none,none,none,none],scr ns::pen a2 d2::(G++G2)):=by
  generalize scr ns::pen a1 d1::G=Y1 at e2 ⊢
  generalize scr ns::pen a2 d2::(G++G2)=Y2 at e2 ⊢
  rwa[e2]
 have s3:i9 (eV (ae (cC (.int 3)) aD)) (gNm 4) (fL c cA oH) [none,some (.ref 1),some (.tup [.int n,.int w]),some (.tup X3),none,none,none,none,none,none,none,none,none,none,none,none,none] (scr ns::pen a2 d2::(G++G2))=some (.nx,ρ',S'):=by
  have r3:eV (ae (cC (.int 3)) aD)=fun ρ S=>some (dk 0 3,fun _=>True,S):=rfl
  unfold i9
  rw[r3,Option.bind_some]
  exact e3
 refine⟨ρ',S',?_⟩
 show fL c cA zP _ [scr ns,pen a c1]=_
 unfold fL zP
 rw[mx s1,mx s2,mx s3]
 rfl
end
section
variable{P:Program}{w:World}{K:PySem.W.Frag}{mg:Str->Option Value}{base:Heap}
theorem nD:aL ["script"] ["script"] (ar fq):=⟨rfl,rfl,rfl,by decide +kernel,rfl,by decide +kernel,by decide +kernel⟩
theorem Fj{k:Nat}(B:Blt mg)(d:Def K mg "_law_pen" fq ["script"]):Has P w K mg base "_law_pen" (k+1) ["script"] (CM K):=by
 refine d.has nD (fun vs H Q E h=>?_) (fun f cdv A outer s H vs Q E hr h=>?_)
 ·obtain⟨a,ns,rfl,_⟩:=h;rfl
 obtain⟨a,ns,rfl,hS,q⟩:=h
 have nd:=nD.nd
 refine⟨_,(uQ (xo (xy (eQ (pB jE rfl B.list OG.iS (eQ (rL xY (wpv 0) uT (uS ao)) kj)) (eQ ao (eQ ao kj)))))),?_⟩
 refine⟨_,rfl,_,rfl,a,_,rfl,hS,fun p hp=>⟨p,_,rfl,.inl (SqL.of aK),fun l hl=>⟨(by show 3<=sizeLine;decide),fun r hr'=>?_⟩⟩⟩
 obtain⟨ms,em⟩:∃ms:List Int,zJ (ns.map V.int) none (some 63)=ms.map V.int:=⟨_,B9 _ _ _⟩
 rw[em]at hl hr' ⊢
 refine q r l _ (((d9 hp _).trans (d9 hl _)).trans (d9 hr' _)) ⟨ms,0,0,aK,?_,cY aK hr',by decide,by decide⟩ ?_
 ·rw[bB (cY aK hr')];exact aK
 ·exact(((d9 hp _).trans (d9 hl _))).free hr'
end
theorem Jp{l:PySem.W.OpenLaw}{w:World}{K:PySem.W.Frag}{h:Heap}{mg:Str->Option Value}{fa:Addr}(X:K.In h)(G:h.Ns mainGlobals mg)(hfa:mg "law"=some (.ref fa))
  {f1:Addr} {od1 an1:Option Addr} {sl1:Array (Option Value)} {oc1 kV1 dc1 pm1 cd1 ct1:Value}
  {f2:Addr} {od2 an2:Option Addr} {sl2:Array (Option Value)} {oc2 kV2 dc2 pm2 cd2 ct2:Value}
  {f3:Addr} {od3 an3:Option Addr} {sl3:Array (Option Value)} {oc3 kV3 dc3 pm3 cd3 ct3:Value}
  {f4:Addr} {od4 an4:Option Addr} {sl4:Array (Option Value)} {oc4 kV4 dc4 pm4 cd4 ct4:Value}
  {f5:Addr} {od5 an5:Option Addr} {sl5:Array (Option Value)} {oc5 kV5 dc5 pm5 cd5 ct5:Value}
  {f6:Addr} {od6 an6:Option Addr} {sl6:Array (Option Value)} {oc6 kV6 dc6 pm6 cd6 ct6:Value}
  {f7:Addr} {od7 an7:Option Addr} {sl7:Array (Option Value)} {oc7 kV7 dc7 pm7 cd7 ct7:Value}
  {f8:Addr} {od8 an8:Option Addr} {sl8:Array (Option Value)} {oc8 kV8 dc8 pm8 cd8 ct8:Value}
  {f9:Addr} {od9 an9:Option Addr} {sl9:Array (Option Value)} {oc9 kV9 dc9 pm9 cd9 ct9:Value}
  {f10:Addr} {od10 an10:Option Addr} {sl10:Array (Option Value)} {oc10 kV10 dc10 pm10 cd10 ct10:Value}
  {f11:Addr} {od11 an11:Option Addr} {sl11:Array (Option Value)} {oc11 kV11 dc11 pm11 cd11 ct11:Value}
  {f12:Addr} {od12 an12:Option Addr} {sl12:Array (Option Value)} {oc12 kV12 dc12 pm12 cd12 ct12:Value}
  {f13:Addr} {od13 an13:Option Addr} {sl13:Array (Option Value)} {oc13 kV13 dc13 pm13 cd13 ct13:Value}
  {f14:Addr} {od14 an14:Option Addr} {sl14:Array (Option Value)} {oc14 kV14 dc14 pm14 cd14 ct14:Value}
  {f15:Addr} {od15 an15:Option Addr} {sl15:Array (Option Value)} {oc15 kV15 dc15 pm15 cd15 ct15:Value}
  {f16:Addr} {od16 an16:Option Addr} {sl16:Array (Option Value)} {oc16 kV16 dc16 pm16 cd16 ct16:Value}
  {f17:Addr} {od17 an17:Option Addr} {sl17:Array (Option Value)} {oc17 kV17 dc17 pm17 cd17 ct17:Value}
  {f18:Addr} {od18 an18:Option Addr} {sl18:Array (Option Value)} {oc18 kV18 dc18 pm18 cd18 ct18:Value}
  {f19:Addr} {od19 an19:Option Addr} {sl19:Array (Option Value)} {oc19 kV19 dc19 pm19 cd19 ct19:Value}
  {f20:Addr} {od20 an20:Option Addr} {sl20:Array (Option Value)} {oc20 kV20 dc20 pm20 cd20 ct20:Value}
  {f21:Addr} {od21 an21:Option Addr} {sl21:Array (Option Value)} {oc21 kV21 dc21 pm21 cd21 ct21:Value}
  {f22:Addr} {od22 an22:Option Addr} {sl22:Array (Option Value)} {oc22 kV22 dc22 pm22 cd22 ct22:Value}
  {f23:Addr} {od23 an23:Option Addr} {sl23:Array (Option Value)} {oc23 kV23 dc23 pm23 cd23 ct23:Value}
  {f24:Addr} {od24 an24:Option Addr} {sl24:Array (Option Value)} {oc24 kV24 dc24 pm24 cd24 ct24:Value}
  {f25:Addr} {od25 an25:Option Addr} {sl25:Array (Option Value)} {oc25 kV25 dc25 pm25 cd25 ct25:Value}
  {f26:Addr} {od26 an26:Option Addr} {sl26:Array (Option Value)} {oc26 kV26 dc26 pm26 cd26 ct26:Value}
  {f27:Addr} {od27 an27:Option Addr} {sl27:Array (Option Value)} {oc27 kV27 dc27 pm27 cd27 ct27:Value}
  {f28:Addr} {od28 an28:Option Addr} {sl28:Array (Option Value)} {oc28 kV28 dc28 pm28 cd28 ct28:Value}
  {CCourse:Addr}
  {f29:Addr} {od29 an29:Option Addr} {sl29:Array (Option Value)} {oc29 kV29 dc29 pm29 cd29 ct29:Value}
  {f30:Addr} {od30 an30:Option Addr} {sl30:Array (Option Value)} {oc30 kV30 dc30 pm30 cd30 ct30:Value}
  {f31:Addr} {od31 an31:Option Addr} {sl31:Array (Option Value)} {oc31 kV31 dc31 pm31 cd31 ct31:Value}
  {f32:Addr} {od32 an32:Option Addr} {sl32:Array (Option Value)} {oc32 kV32 dc32 pm32 cd32 ct32:Value}
  {CAsking:Addr}
  {f33:Addr} {od33 an33:Option Addr} {sl33:Array (Option Value)} {oc33 kV33 dc33 pm33 cd33 ct33:Value}
  {f34:Addr} {od34 an34:Option Addr} {sl34:Array (Option Value)} {oc34 kV34 dc34 pm34 cd34 ct34:Value}
  {f35:Addr} {od35 an35:Option Addr} {sl35:Array (Option Value)} {oc35 kV35 dc35 pm35 cd35 ct35:Value}
  (a1:PySem.W.nsIn K mainGlobals "_law_take"=some (some (.ref f1))) (l1:K.lookup f1=some ⟨oc1,od1,.func (PySem.W.fnOf "_law_take" "_law_take" (aQ et) (aI et) (ar et) .none kV1 dc1 pm1 an1 cd1 ct1),sl1⟩) (c1:PySem.W.codeIn K cd1 "_law_take"=true) (k1:PySem.W.keepIn K (.ref f1)=true)
  (a2:PySem.W.nsIn K mainGlobals "_law_world"=some (some (.ref f2))) (l2:K.lookup f2=some ⟨oc2,od2,.func (PySem.W.fnOf "_law_world" "_law_world" (aQ dB) (aI dB) (ar dB) .none kV2 dc2 pm2 an2 cd2 ct2),sl2⟩) (c2:PySem.W.codeIn K cd2 "_law_world"=true) (k2:PySem.W.keepIn K (.ref f2)=true)
  (a3:PySem.W.nsIn K mainGlobals "_law_state"=some (some (.ref f3))) (l3:K.lookup f3=some ⟨oc3,od3,.func (PySem.W.fnOf "_law_state" "_law_state" (aQ dD) (aI dD) (ar dD) .none kV3 dc3 pm3 an3 cd3 ct3),sl3⟩) (c3:PySem.W.codeIn K cd3 "_law_state"=true) (k3:PySem.W.keepIn K (.ref f3)=true)
  (a4:PySem.W.nsIn K mainGlobals "_law_names"=some (some (.ref f4))) (l4:K.lookup f4=some ⟨oc4,od4,.func (PySem.W.fnOf "_law_names" "_law_names" (aQ dE) (aI dE) (ar dE) .none kV4 dc4 pm4 an4 cd4 ct4),sl4⟩) (c4:PySem.W.codeIn K cd4 "_law_names"=true) (k4:PySem.W.keepIn K (.ref f4)=true)
  (a5:PySem.W.nsIn K mainGlobals "_law_put_in"=some (some (.ref f5))) (l5:K.lookup f5=some ⟨oc5,od5,.func (PySem.W.fnOf "_law_put_in" "_law_put_in" (aQ cS) (aI cS) (ar cS) .none kV5 dc5 pm5 an5 cd5 ct5),sl5⟩) (c5:PySem.W.codeIn K cd5 "_law_put_in"=true) (k5:PySem.W.keepIn K (.ref f5)=true)
  (a6:PySem.W.nsIn K mainGlobals "_law_event"=some (some (.ref f6))) (l6:K.lookup f6=some ⟨oc6,od6,.func (PySem.W.fnOf "_law_event" "_law_event" (aQ dH) (aI dH) (ar dH) .none kV6 dc6 pm6 an6 cd6 ct6),sl6⟩) (c6:PySem.W.codeIn K cd6 "_law_event"=true) (k6:PySem.W.keepIn K (.ref f6)=true)
  (a7:PySem.W.nsIn K mainGlobals "_law_log"=some (some (.ref f7))) (l7:K.lookup f7=some ⟨oc7,od7,.func (PySem.W.fnOf "_law_log" "_law_log" (aQ ft) (aI ft) (ar ft) .none kV7 dc7 pm7 an7 cd7 ct7),sl7⟩) (c7:PySem.W.codeIn K cd7 "_law_log"=true) (k7:PySem.W.keepIn K (.ref f7)=true)
  (a8:PySem.W.nsIn K mainGlobals "_law_begun"=some (some (.ref f8))) (l8:K.lookup f8=some ⟨oc8,od8,.func (PySem.W.fnOf "_law_begun" "_law_begun" (aQ dI) (aI dI) (ar dI) .none kV8 dc8 pm8 an8 cd8 ct8),sl8⟩) (c8:PySem.W.codeIn K cd8 "_law_begun"=true) (k8:PySem.W.keepIn K (.ref f8)=true)
  (a9:PySem.W.nsIn K mainGlobals "_law_end"=some (some (.ref f9))) (l9:K.lookup f9=some ⟨oc9,od9,.func (PySem.W.fnOf "_law_end" "_law_end" (aQ fu) (aI fu) (ar fu) .none kV9 dc9 pm9 an9 cd9 ct9),sl9⟩) (c9:PySem.W.codeIn K cd9 "_law_end"=true) (k9:PySem.W.keepIn K (.ref f9)=true)
  (a10:PySem.W.nsIn K mainGlobals "_law_looks"=some (some (.ref f10))) (l10:K.lookup f10=some ⟨oc10,od10,.func (PySem.W.fnOf "_law_looks" "_law_looks" (aQ dF) (aI dF) (ar dF) .none kV10 dc10 pm10 an10 cd10 ct10),sl10⟩) (c10:PySem.W.codeIn K cd10 "_law_looks"=true) (k10:PySem.W.keepIn K (.ref f10)=true)
  (a11:PySem.W.nsIn K mainGlobals "_law_puts"=some (some (.ref f11))) (l11:K.lookup f11=some ⟨oc11,od11,.func (PySem.W.fnOf "_law_puts" "_law_puts" (aQ eB) (aI eB) (ar eB) .none kV11 dc11 pm11 an11 cd11 ct11),sl11⟩) (c11:PySem.W.codeIn K cd11 "_law_puts"=true) (k11:PySem.W.keepIn K (.ref f11)=true)
  (a12:PySem.W.nsIn K mainGlobals "_law_times"=some (some (.ref f12))) (l12:K.lookup f12=some ⟨oc12,od12,.func (PySem.W.fnOf "_law_times" "_law_times" (aQ dC) (aI dC) (ar dC) .none kV12 dc12 pm12 an12 cd12 ct12),sl12⟩) (c12:PySem.W.codeIn K cd12 "_law_times"=true) (k12:PySem.W.keepIn K (.ref f12)=true)
  (a13:PySem.W.nsIn K mainGlobals "_law_asked"=some (some (.ref f13))) (l13:K.lookup f13=some ⟨oc13,od13,.func (PySem.W.fnOf "_law_asked" "_law_asked" (aQ dJ) (aI dJ) (ar dJ) .none kV13 dc13 pm13 an13 cd13 ct13),sl13⟩) (c13:PySem.W.codeIn K cd13 "_law_asked"=true) (k13:PySem.W.keepIn K (.ref f13)=true)
  (a14:PySem.W.nsIn K mainGlobals "_law_changed"=some (some (.ref f14))) (l14:K.lookup f14=some ⟨oc14,od14,.func (PySem.W.fnOf "_law_changed" "_law_changed" (aQ cD) (aI cD) (ar cD) .none kV14 dc14 pm14 an14 cd14 ct14),sl14⟩) (c14:PySem.W.codeIn K cd14 "_law_changed"=true) (k14:PySem.W.keepIn K (.ref f14)=true)
  (a15:PySem.W.nsIn K mainGlobals "_law_fits"=some (some (.ref f15))) (l15:K.lookup f15=some ⟨oc15,od15,.func (PySem.W.fnOf "_law_fits" "_law_fits" (aQ eC) (aI eC) (ar eC) .none kV15 dc15 pm15 an15 cd15 ct15),sl15⟩) (c15:PySem.W.codeIn K cd15 "_law_fits"=true) (k15:PySem.W.keepIn K (.ref f15)=true)
  (a16:PySem.W.nsIn K mainGlobals "_law_is_order"=some (some (.ref f16))) (l16:K.lookup f16=some ⟨oc16,od16,.func (PySem.W.fnOf "_law_is_order" "_law_is_order" (aQ bY) (aI bY) (ar bY) .none kV16 dc16 pm16 an16 cd16 ct16),sl16⟩) (c16:PySem.W.codeIn K cd16 "_law_is_order"=true) (k16:PySem.W.keepIn K (.ref f16)=true)
  (a17:PySem.W.nsIn K mainGlobals "_law_same"=some (some (.ref f17))) (l17:K.lookup f17=some ⟨oc17,od17,.func (PySem.W.fnOf "_law_same" "_law_same" (aQ eA) (aI eA) (ar eA) .none kV17 dc17 pm17 an17 cd17 ct17),sl17⟩) (c17:PySem.W.codeIn K cd17 "_law_same"=true) (k17:PySem.W.keepIn K (.ref f17)=true)
  (a18:PySem.W.nsIn K mainGlobals "_law_some_order"=some (some (.ref f18))) (l18:K.lookup f18=some ⟨oc18,od18,.func (PySem.W.fnOf "_law_some_order" "_law_some_order" (aQ bC) (aI bC) (ar bC) .none kV18 dc18 pm18 an18 cd18 ct18),sl18⟩) (c18:PySem.W.codeIn K cd18 "_law_some_order"=true) (k18:PySem.W.keepIn K (.ref f18)=true)
  (a19:PySem.W.nsIn K mainGlobals "course_of"=some (some (.ref f19))) (l19:K.lookup f19=some ⟨oc19,od19,.func (PySem.W.fnOf "course_of" "course_of" (aQ ef) (aI ef) (ar ef) .none kV19 dc19 pm19 an19 cd19 ct19),sl19⟩) (c19:PySem.W.codeIn K cd19 "course_of"=true) (k19:PySem.W.keepIn K (.ref f19)=true)
  (a20:PySem.W.nsIn K mainGlobals "is_whole"=some (some (.ref f20))) (l20:K.lookup f20=some ⟨oc20,od20,.func (PySem.W.fnOf "is_whole" "is_whole" (aQ fh) (aI fh) (ar fh) .none kV20 dc20 pm20 an20 cd20 ct20),sl20⟩) (c20:PySem.W.codeIn K cd20 "is_whole"=true) (k20:PySem.W.keepIn K (.ref f20)=true)
  (a21:PySem.W.nsIn K mainGlobals "is_asked"=some (some (.ref f21))) (l21:K.lookup f21=some ⟨oc21,od21,.func (PySem.W.fnOf "is_asked" "is_asked" (aQ fj) (aI fj) (ar fj) .none kV21 dc21 pm21 an21 cd21 ct21),sl21⟩) (c21:PySem.W.codeIn K cd21 "is_asked"=true) (k21:PySem.W.keepIn K (.ref f21)=true)
  (a22:PySem.W.nsIn K mainGlobals "asked_in"=some (some (.ref f22))) (l22:K.lookup f22=some ⟨oc22,od22,.func (PySem.W.fnOf "asked_in" "asked_in" (aQ fk) (aI fk) (ar fk) .none kV22 dc22 pm22 an22 cd22 ct22),sl22⟩) (c22:PySem.W.codeIn K cd22 "asked_in"=true) (k22:PySem.W.keepIn K (.ref f22)=true)
  (a23:PySem.W.nsIn K mainGlobals "asked"=some (some (.ref f23))) (l23:K.lookup f23=some ⟨oc23,od23,.func (PySem.W.fnOf "asked" "asked" (aQ km) (aI km) (ar km) .none kV23 dc23 pm23 an23 cd23 ct23),sl23⟩) (c23:PySem.W.codeIn K cd23 "asked"=true) (k23:PySem.W.keepIn K (.ref f23)=true)
  (a24:PySem.W.nsIn K mainGlobals "fits"=some (some (.ref f24))) (l24:K.lookup f24=some ⟨oc24,od24,.func (PySem.W.fnOf "fits" "fits" (aQ nG) (aI nG) (ar nG) .none kV24 dc24 pm24 an24 cd24 ct24),sl24⟩) (c24:PySem.W.codeIn K cd24 "fits"=true) (k24:PySem.W.keepIn K (.ref f24)=true)
  (a25:PySem.W.nsIn K mainGlobals "state_with"=some (some (.ref f25))) (l25:K.lookup f25=some ⟨oc25,od25,.func (PySem.W.fnOf "state_with" "state_with" (aQ dA) (aI dA) (ar dA) .none kV25 dc25 pm25 an25 cd25 ct25),sl25⟩) (c25:PySem.W.codeIn K cd25 "state_with"=true) (k25:PySem.W.keepIn K (.ref f25)=true)
  (a26:PySem.W.nsIn K mainGlobals "is_order"=some (some (.ref f26))) (l26:K.lookup f26=some ⟨oc26,od26,.func (PySem.W.fnOf "is_order" "is_order" (aQ fi) (aI fi) (ar fi) .none kV26 dc26 pm26 an26 cd26 ct26),sl26⟩) (c26:PySem.W.codeIn K cd26 "is_order"=true) (k26:PySem.W.keepIn K (.ref f26)=true)
  (a27:PySem.W.nsIn K mainGlobals "_law_pen"=some (some (.ref f27))) (l27:K.lookup f27=some ⟨oc27,od27,.func (PySem.W.fnOf "_law_pen" "_law_pen" (aQ fq) (aI fq) (ar fq) .none kV27 dc27 pm27 an27 cd27 ct27),sl27⟩) (c27:PySem.W.codeIn K cd27 "_law_pen"=true) (k27:PySem.W.keepIn K (.ref f27)=true)
  (a28:PySem.W.nsIn K mainGlobals "law"=some (some (.ref f28))) (l28:K.lookup f28=some ⟨oc28,od28,.func (PySem.W.fnOf "law" "law" (aQ oX) (aI oX) (ar oX) .none kV28 dc28 pm28 an28 cd28 ct28),sl28⟩) (c28:PySem.W.codeIn K cd28 "law"=true) (k28:PySem.W.keepIn K (.ref f28)=true)
  (aCCourse:PySem.W.nsIn K mainGlobals "Course"=some (some (.ref CCourse))) (pgCourse:PySem.W.plainGet K CCourse Str.empty=true) (hdCourse:PySem.W.hasDictIn K CCourse=true) (poCourse:PySem.W.plainOver K CCourse=true) (saCourse:PySem.W.findIn K (.ref CCourse) "__setattr__"=some (some (.builtin "object.__setattr__"))) (mkCourse:PySem.W.makesIn K CCourse=true) (kcCourse:PySem.W.keepIn K (.ref CCourse)=true)
  (nfCourse0:PySem.W.findIn K (.ref CCourse) "ends"=some none)
  (nfCourse1:PySem.W.findIn K (.ref CCourse) "looks"=some none)
  (nfCourse2:PySem.W.findIn K (.ref CCourse) "needs"=some none)
  (nfCourse3:PySem.W.findIn K (.ref CCourse) "puts"=some none)
  (nfCourse4:PySem.W.findIn K (.ref CCourse) "before"=some none)
  (a29:PySem.W.findIn K (.ref CCourse) "__init__"=some (some (.ref f29))) (i29:PySem.W.isFn K (.ref f29)=true) (l29:K.lookup f29=some ⟨oc29,od29,.func (PySem.W.fnOf "__init__" "Course.__init__" (aQ dW) (aI dW) (ar dW) .none kV29 dc29 pm29 an29 cd29 ct29),sl29⟩) (c29:PySem.W.codeIn K cd29 "Course.__init__"=true) (k29:PySem.W.keepIn K (.ref f29)=true)
  (a30:PySem.W.findIn K (.ref CCourse) "note_look"=some (some (.ref f30))) (i30:PySem.W.isFn K (.ref f30)=true) (l30:K.lookup f30=some ⟨oc30,od30,.func (PySem.W.fnOf "note_look" "Course.note_look" (aQ bM) (aI bM) (ar bM) .none kV30 dc30 pm30 an30 cd30 ct30),sl30⟩) (c30:PySem.W.codeIn K cd30 "Course.note_look"=true) (k30:PySem.W.keepIn K (.ref f30)=true)
  (a31:PySem.W.findIn K (.ref CCourse) "enter"=some (some (.ref f31))) (i31:PySem.W.isFn K (.ref f31)=true) (l31:K.lookup f31=some ⟨oc31,od31,.func (PySem.W.fnOf "enter" "Course.enter" (aQ cX) (aI cX) (ar cX) .none kV31 dc31 pm31 an31 cd31 ct31),sl31⟩) (c31:PySem.W.codeIn K cd31 "Course.enter"=true) (k31:PySem.W.keepIn K (.ref f31)=true)
  (a32:PySem.W.findIn K (.ref CCourse) "follow"=some (some (.ref f32))) (i32:PySem.W.isFn K (.ref f32)=true) (l32:K.lookup f32=some ⟨oc32,od32,.func (PySem.W.fnOf "follow" "Course.follow" (aQ cK) (aI cK) (ar cK) .none kV32 dc32 pm32 an32 cd32 ct32),sl32⟩) (c32:PySem.W.codeIn K cd32 "Course.follow"=true) (k32:PySem.W.keepIn K (.ref f32)=true)
  (aCAsking:PySem.W.nsIn K mainGlobals "Asking"=some (some (.ref CAsking))) (pgAsking:PySem.W.plainGet K CAsking Str.empty=true) (hdAsking:PySem.W.hasDictIn K CAsking=true) (poAsking:PySem.W.plainOver K CAsking=true) (saAsking:PySem.W.findIn K (.ref CAsking) "__setattr__"=some (some (.builtin "object.__setattr__"))) (mkAsking:PySem.W.makesIn K CAsking=true) (kcAsking:PySem.W.keepIn K (.ref CAsking)=true)
  (nfAsking0:PySem.W.findIn K (.ref CAsking) "course"=some none)
  (nfAsking1:PySem.W.findIn K (.ref CAsking) "ones"=some none)
  (nfAsking2:PySem.W.findIn K (.ref CAsking) "needed"=some none)
  (a33:PySem.W.findIn K (.ref CAsking) "__init__"=some (some (.ref f33))) (i33:PySem.W.isFn K (.ref f33)=true) (l33:K.lookup f33=some ⟨oc33,od33,.func (PySem.W.fnOf "__init__" "Asking.__init__" (aQ dX) (aI dX) (ar dX) .none kV33 dc33 pm33 an33 cd33 ct33),sl33⟩) (c33:PySem.W.codeIn K cd33 "Asking.__init__"=true) (k33:PySem.W.keepIn K (.ref f33)=true)
  (a34:PySem.W.findIn K (.ref CAsking) "may_be_next"=some (some (.ref f34))) (i34:PySem.W.isFn K (.ref f34)=true) (l34:K.lookup f34=some ⟨oc34,od34,.func (PySem.W.fnOf "may_be_next" "Asking.may_be_next" (aQ bz) (aI bz) (ar bz) .none kV34 dc34 pm34 an34 cd34 ct34),sl34⟩) (c34:PySem.W.codeIn K cd34 "Asking.may_be_next"=true) (k34:PySem.W.keepIn K (.ref f34)=true)
  (a35:PySem.W.findIn K (.ref CAsking) "is_good"=some (some (.ref f35))) (i35:PySem.W.isFn K (.ref f35)=true) (l35:K.lookup f35=some ⟨oc35,od35,.func (PySem.W.fnOf "is_good" "Asking.is_good" (aQ b7) (aI b7) (ar b7) .none kV35 dc35 pm35 an35 cd35 ct35),sl35⟩) (c35:PySem.W.codeIn K cd35 "Asking.is_good"=true) (k35:PySem.W.keepIn K (.ref f35)=true)
  (z36:PySem.W.nsIn K mainGlobals "len"=some none)
  (z37:PySem.W.nsIn K mainGlobals "isinstance"=some none)
  (z38:PySem.W.nsIn K mainGlobals "int"=some none)
  (z39:PySem.W.nsIn K mainGlobals "bool"=some none)
  (z40:PySem.W.nsIn K mainGlobals "str"=some none)
  (z41:PySem.W.nsIn K mainGlobals "tuple"=some none)
  (z42:PySem.W.nsIn K mainGlobals "list"=some none)
  (z43:PySem.W.nsIn K mainGlobals "range"=some none)
  (z44:PySem.W.nsIn K mainGlobals "min"=some none)
  (z45:PySem.W.nsIn K mainGlobals "sum"=some none)
  (z46:PySem.W.nsIn K mainGlobals "all"=some none)
  (z47:PySem.W.nsIn K mainGlobals "zip"=some none)
  (z48:PySem.W.nsIn K mainGlobals "sorted"=some none)
  (z49:PySem.W.nsIn K mainGlobals "dict"=some none)
  (z50:PySem.W.nsIn K mainGlobals "enumerate"=some none)
  (z51:PySem.W.nsIn K mainGlobals "any"=some none)
  (z52:PySem.W.nsIn K mainGlobals "max"=some none)
  (z53:PySem.W.nsIn K mainGlobals "set"=some none) :
  ∃fd:FuncData,(∀(s:Shared) (v:Value),BindsTo s fd ⟨[v],[]⟩ [("script",v)])/\∀base:Heap,K.In base->base.Ns mainGlobals mg->nh l.prog w K mg base CX0 6 fa fd ["script"] (A3 K):=by
 have e:=hfa.symm.trans (PySem.W.mg_of X G a28)
 cases e
 have F__law_take:=bI (st:=et) l1 c1 k1
 have D__law_take:Def K mg "_law_take" et ["pen","many"]:=⟨_,_,F__law_take,F__law_take.binds (ps:=["pen","many"]) fun _ _ _ _ _ _=>cH fun _=>cH fun _=>jF rfl,PySem.W.mg_of X G a1⟩
 have F__law_world:=bI (st:=dB) l2 c2 k2
 have D__law_world:Def K mg "_law_world" dB ["pen"]:=⟨_,_,F__law_world,F__law_world.binds (ps:=["pen"]) fun _ _ _ _ _ _=>cH fun _=>jF rfl,PySem.W.mg_of X G a2⟩
 have F__law_state:=bI (st:=dD) l3 c3 k3
 have D__law_state:Def K mg "_law_state" dD ["pen","world"]:=⟨_,_,F__law_state,F__law_state.binds (ps:=["pen","world"]) fun _ _ _ _ _ _=>cH fun _=>cH fun _=>jF rfl,PySem.W.mg_of X G a3⟩
 have F__law_names:=bI (st:=dE) l4 c4 k4
 have D__law_names:Def K mg "_law_names" dE ["pen","many"]:=⟨_,_,F__law_names,F__law_names.binds (ps:=["pen","many"]) fun _ _ _ _ _ _=>cH fun _=>cH fun _=>jF rfl,PySem.W.mg_of X G a4⟩
 have F__law_put_in:=bI (st:=cS) l5 c5 k5
 have D__law_put_in:Def K mg "_law_put_in" cS ["state","puts"]:=⟨_,_,F__law_put_in,F__law_put_in.binds (ps:=["state","puts"]) fun _ _ _ _ _ _=>cH fun _=>cH fun _=>jF rfl,PySem.W.mg_of X G a5⟩
 have F__law_event:=bI (st:=dH) l6 c6 k6
 have D__law_event:Def K mg "_law_event" dH ["pen","world","a","seen","puts","now"]:=⟨_,_,F__law_event,F__law_event.binds (ps:=["pen","world","a","seen","puts","now"]) fun _ _ _ _ _ _=>cH fun _=>cH fun _=>cH fun _=>cH fun _=>cH fun _=>cH fun _=>jF rfl,PySem.W.mg_of X G a6⟩
 have F__law_log:=bI (st:=ft) l7 c7 k7
 have D__law_log:Def K mg "_law_log" ft ["pen","world","state","most","size"]:=⟨_,_,F__law_log,F__law_log.binds (ps:=["pen","world","state","most","size"]) fun _ _ _ _ _ _=>cH fun _=>cH fun _=>cH fun _=>cH fun _=>cH fun _=>jF rfl,PySem.W.mg_of X G a7⟩
 have F__law_begun:=bI (st:=dI) l8 c8 k8
 have D__law_begun:Def K mg "_law_begun" dI ["log"]:=⟨_,_,F__law_begun,F__law_begun.binds (ps:=["log"]) fun _ _ _ _ _ _=>cH fun _=>jF rfl,PySem.W.mg_of X G a8⟩
 have F__law_end:=bI (st:=fu) l9 c9 k9
 have D__law_end:Def K mg "_law_end" fu ["log","a"]:=⟨_,_,F__law_end,F__law_end.binds (ps:=["log","a"]) fun _ _ _ _ _ _=>cH fun _=>cH fun _=>jF rfl,PySem.W.mg_of X G a9⟩
 have F__law_looks:=bI (st:=dF) l10 c10 k10
 have D__law_looks:Def K mg "_law_looks" dF ["log","a"]:=⟨_,_,F__law_looks,F__law_looks.binds (ps:=["log","a"]) fun _ _ _ _ _ _=>cH fun _=>cH fun _=>jF rfl,PySem.W.mg_of X G a10⟩
 have F__law_puts:=bI (st:=eB) l11 c11 k11
 have D__law_puts:Def K mg "_law_puts" eB ["log","a"]:=⟨_,_,F__law_puts,F__law_puts.binds (ps:=["log","a"]) fun _ _ _ _ _ _=>cH fun _=>cH fun _=>jF rfl,PySem.W.mg_of X G a11⟩
 have F__law_times:=bI (st:=dC) l12 c12 k12
 have D__law_times:Def K mg "_law_times" dC ["log"]:=⟨_,_,F__law_times,F__law_times.binds (ps:=["log"]) fun _ _ _ _ _ _=>cH fun _=>jF rfl,PySem.W.mg_of X G a12⟩
 have F__law_asked:=bI (st:=dJ) l13 c13 k13
 have D__law_asked:Def K mg "_law_asked" dJ ["log","every"]:=⟨_,_,F__law_asked,F__law_asked.binds (ps:=["log","every"]) fun _ _ _ _ _ _=>cH fun _=>cH fun _=>jF rfl,PySem.W.mg_of X G a13⟩
 have F__law_changed:=bI (st:=cD) l14 c14 k14
 have D__law_changed:Def K mg "_law_changed" cD ["log","a","state"]:=⟨_,_,F__law_changed,F__law_changed.binds (ps:=["log","a","state"]) fun _ _ _ _ _ _=>cH fun _=>cH fun _=>cH fun _=>jF rfl,PySem.W.mg_of X G a14⟩
 have F__law_fits:=bI (st:=eC) l15 c15 k15
 have D__law_fits:Def K mg "_law_fits" eC ["log","a","state"]:=⟨_,_,F__law_fits,F__law_fits.binds (ps:=["log","a","state"]) fun _ _ _ _ _ _=>cH fun _=>cH fun _=>cH fun _=>jF rfl,PySem.W.mg_of X G a15⟩
 have F__law_is_order:=bI (st:=bY) l16 c16 k16
 have D__law_is_order:Def K mg "_law_is_order" bY ["state","log","every","order"]:=⟨_,_,F__law_is_order,F__law_is_order.binds (ps:=["state","log","every","order"]) fun _ _ _ _ _ _=>cH fun _=>cH fun _=>cH fun _=>cH fun _=>jF rfl,PySem.W.mg_of X G a16⟩
 have F__law_same:=bI (st:=eA) l17 c17 k17
 have D__law_same:Def K mg "_law_same" eA ["found","due"]:=⟨_,_,F__law_same,F__law_same.binds (ps:=["found","due"]) fun _ _ _ _ _ _=>cH fun _=>cH fun _=>jF rfl,PySem.W.mg_of X G a17⟩
 have F__law_some_order:=bI (st:=bC) l18 c18 k18
 have D__law_some_order:Def K mg "_law_some_order" bC ["pen","log","some"]:=⟨_,_,F__law_some_order,F__law_some_order.binds (ps:=["pen","log","some"]) fun _ _ _ _ _ _=>cH fun _=>cH fun _=>cH fun _=>jF rfl,PySem.W.mg_of X G a18⟩
 have F_course_of:=bI (st:=ef) l19 c19 k19
 have D_course_of:Def K mg "course_of" ef ["log"]:=⟨_,_,F_course_of,F_course_of.binds (ps:=["log"]) fun _ _ _ _ _ _=>cH fun _=>jF rfl,PySem.W.mg_of X G a19⟩
 have F_is_whole:=bI (st:=fh) l20 c20 k20
 have D_is_whole:Def K mg "is_whole" fh ["thing"]:=⟨_,_,F_is_whole,F_is_whole.binds (ps:=["thing"]) fun _ _ _ _ _ _=>cH fun _=>jF rfl,PySem.W.mg_of X G a20⟩
 have F_is_asked:=bI (st:=fj) l21 c21 k21
 have D_is_asked:Def K mg "is_asked" fj ["course","every","a"]:=⟨_,_,F_is_asked,F_is_asked.binds (ps:=["course","every","a"]) fun _ _ _ _ _ _=>cH fun _=>cH fun _=>cH fun _=>jF rfl,PySem.W.mg_of X G a21⟩
 have F_asked_in:=bI (st:=fk) l22 c22 k22
 have D_asked_in:Def K mg "asked_in" fk ["course","every"]:=⟨_,_,F_asked_in,F_asked_in.binds (ps:=["course","every"]) fun _ _ _ _ _ _=>cH fun _=>cH fun _=>jF rfl,PySem.W.mg_of X G a22⟩
 have F_asked:=bI (st:=km) l23 c23 k23
 have D_asked:Def K mg "asked" km ["log","every"]:=⟨_,_,F_asked,F_asked.binds (ps:=["log","every"]) fun _ _ _ _ _ _=>cH fun _=>cH fun _=>jF rfl,PySem.W.mg_of X G a23⟩
 have F_fits:=bI (st:=nG) l24 c24 k24
 have D_fits:Def K mg "fits" nG ["course","a","state"]:=⟨_,_,F_fits,F_fits.binds (ps:=["course","a","state"]) fun _ _ _ _ _ _=>cH fun _=>cH fun _=>cH fun _=>jF rfl,PySem.W.mg_of X G a24⟩
 have F_state_with:=bI (st:=dA) l25 c25 k25
 have D_state_with:Def K mg "state_with" dA ["course","a","state"]:=⟨_,_,F_state_with,F_state_with.binds (ps:=["course","a","state"]) fun _ _ _ _ _ _=>cH fun _=>cH fun _=>cH fun _=>jF rfl,PySem.W.mg_of X G a25⟩
 have F_is_order:=bI (st:=fi) l26 c26 k26
 have D_is_order:Def K mg "is_order" fi ["world","state","log","every","order"]:=⟨_,_,F_is_order,F_is_order.binds (ps:=["world","state","log","every","order"]) fun _ _ _ _ _ _=>cH fun _=>cH fun _=>cH fun _=>cH fun _=>cH fun _=>jF rfl,PySem.W.mg_of X G a26⟩
 have F__law_pen:=bI (st:=fq) l27 c27 k27
 have D__law_pen:Def K mg "_law_pen" fq ["script"]:=⟨_,_,F__law_pen,F__law_pen.binds (ps:=["script"]) fun _ _ _ _ _ _=>cH fun _=>jF rfl,PySem.W.mg_of X G a27⟩
 have F_law:=bI (st:=oX) l28 c28 k28
 have D_law:Def K mg "law" oX ["script"]:=⟨_,_,F_law,F_law.binds (ps:=["script"]) fun _ _ _ _ _ _=>cH fun _=>jF rfl,PySem.W.mg_of X G a28⟩
 have TCourse:TC K (⟨CCourse,["ends","looks","needs","puts","before"]⟩:Cl) ["ends","looks","needs","puts","before"]:=⟨⟨pgCourse,hdCourse,poCourse,saCourse⟩,rfl,fun f hf=>by
  simp only[List.mem_cons,List.not_mem_nil,or_false]at hf
  rcases hf with rfl|rfl|rfl|rfl|rfl
  ·exact nfCourse0
  ·exact nfCourse1
  ·exact nfCourse2
  ·exact nfCourse3
  ·exact nfCourse4⟩
 have mgC_Course:=PySem.W.mg_of X G aCCourse
 have F_Course_init:=bI (st:=dW) l29 c29 k29
 have bi_Course_init:=F_Course_init.binds (ps:=["self"]) fun _ _ _ _ _ _=>cH fun _=>jF rfl
 have mk_Course:Mk K (⟨CCourse,["ends","looks","needs","puts","before"]⟩:Cl).C f29:=⟨mkCourse,a29,i29,kcCourse⟩
 have F_Course_note_look:=bI (st:=bM) l30 c30 k30
 have bi_Course_note_look:=F_Course_note_look.binds (ps:=["self","a","box","number"]) fun _ _ _ _ _ _=>cH fun _=>cH fun _=>cH fun _=>cH fun _=>jF rfl
 have mt_Course_note_look:vZ K (⟨CCourse,["ends","looks","needs","puts","before"]⟩:Cl).C "note_look" f30:=⟨a30,i30,k30⟩
 have F_Course_enter:=bI (st:=cX) l31 c31 k31
 have bi_Course_enter:=F_Course_enter.binds (ps:=["self","a"]) fun _ _ _ _ _ _=>cH fun _=>cH fun _=>jF rfl
 have mt_Course_enter:vZ K (⟨CCourse,["ends","looks","needs","puts","before"]⟩:Cl).C "enter" f31:=⟨a31,i31,k31⟩
 have F_Course_follow:=bI (st:=cK) l32 c32 k32
 have bi_Course_follow:=F_Course_follow.binds (ps:=["self","event"]) fun _ _ _ _ _ _=>cH fun _=>cH fun _=>jF rfl
 have mt_Course_follow:vZ K (⟨CCourse,["ends","looks","needs","puts","before"]⟩:Cl).C "follow" f32:=⟨a32,i32,k32⟩
 have TAsking:TC K (⟨CAsking,["course","ones","needed"]⟩:Cl) ["course","ones","needed"]:=⟨⟨pgAsking,hdAsking,poAsking,saAsking⟩,rfl,fun f hf=>by
  simp only[List.mem_cons,List.not_mem_nil,or_false]at hf
  rcases hf with rfl|rfl|rfl
  ·exact nfAsking0
  ·exact nfAsking1
  ·exact nfAsking2⟩
 have mgC_Asking:=PySem.W.mg_of X G aCAsking
 have F_Asking_init:=bI (st:=dX) l33 c33 k33
 have bi_Asking_init:=F_Asking_init.binds (ps:=["self","course","every"]) fun _ _ _ _ _ _=>cH fun _=>cH fun _=>cH fun _=>jF rfl
 have mk_Asking:Mk K (⟨CAsking,["course","ones","needed"]⟩:Cl).C f33:=⟨mkAsking,a33,i33,kcAsking⟩
 have F_Asking_may_be_next:=bI (st:=bz) l34 c34 k34
 have bi_Asking_may_be_next:=F_Asking_may_be_next.binds (ps:=["self","a","gone","state"]) fun _ _ _ _ _ _=>cH fun _=>cH fun _=>cH fun _=>cH fun _=>jF rfl
 have mt_Asking_may_be_next:vZ K (⟨CAsking,["course","ones","needed"]⟩:Cl).C "may_be_next" f34:=⟨a34,i34,k34⟩
 have F_Asking_is_good:=bI (st:=b7) l35 c35 k35
 have bi_Asking_is_good:=F_Asking_is_good.binds (ps:=["self","order","state"]) fun _ _ _ _ _ _=>cH fun _=>cH fun _=>cH fun _=>jF rfl
 have mt_Asking_is_good:vZ K (⟨CAsking,["course","ones","needed"]⟩:Cl).C "is_good" f35:=⟨a35,i35,k35⟩
 have B:Blt mg:=⟨PySem.W.mg_none_of X G z36,PySem.W.mg_none_of X G z37,PySem.W.mg_none_of X G z38,PySem.W.mg_none_of X G z39,PySem.W.mg_none_of X G z40,PySem.W.mg_none_of X G z41,PySem.W.mg_none_of X G z42,PySem.W.mg_none_of X G z43,PySem.W.mg_none_of X G z44,PySem.W.mg_none_of X G z45,PySem.W.mg_none_of X G z46,PySem.W.mg_none_of X G z47,PySem.W.mg_none_of X G z48,PySem.W.mg_none_of X G z49,PySem.W.mg_none_of X G z50,PySem.W.mg_none_of X G z51,PySem.W.mg_none_of X G z52,PySem.W.mg_none_of X G z53⟩
 refine⟨PySem.W.fnOf "law" "law" (aQ oX) (aI oX) (ar oX) .none kV28 dc28 pm28 an28 cd28 ct28,fun s v=>.of_eq rfl,fun base _ _=>?_⟩
 have Gp:=Fj (P:=l.prog) (w:=w) (base:=base) (k:=0) B D__law_pen
 have aC:=um (P:=l.prog) (w:=w) (base:=base) (k:=0) D__law_take B 
 have jI:=sE (P:=l.prog) (w:=w) (base:=base) (k:=1) D__law_world B aC
 have jK:=sG (P:=l.prog) (w:=w) (base:=base) (k:=1) D__law_state B aC
 have jL:=sH (P:=l.prog) (w:=w) (base:=base) (k:=1) D__law_names B aC
 have je:=qQ (P:=l.prog) (w:=w) (base:=base) (k:=0) D__law_put_in B 
 have jN:=sJ (P:=l.prog) (w:=w) (base:=base) (k:=1) D__law_event B aC
 have mr:=wM (P:=l.prog) (w:=w) (base:=base) (k:=2) D__law_log B jL (Has.mono aC (by decide)) jN (Has.mono je (by decide))
 have jO:=sL (P:=l.prog) (w:=w) (base:=base) (k:=0) D__law_begun B 
 have gw:=wN (P:=l.prog) (w:=w) (base:=base) (k:=0) D__law_end B 
 have jM:=sI (P:=l.prog) (w:=w) (base:=base) (k:=0) D__law_looks B 
 have kE:=uo (P:=l.prog) (w:=w) (base:=base) (k:=0) D__law_puts B 
 have jJ:=sF (P:=l.prog) (w:=w) (base:=base) (k:=0) D__law_times B 
 have eO:=sM (P:=l.prog) (w:=w) (base:=base) (k:=1) D__law_asked B jO gw
 have iD:=oZ (P:=l.prog) (w:=w) (base:=base) (k:=1) D__law_changed B gw kE
 have kF:=uq (P:=l.prog) (w:=w) (base:=base) (k:=1) D__law_fits B jM
 have gK:=nW (P:=l.prog) (w:=w) (base:=base) (k:=2) D__law_is_order B eO (Has.mono jJ (by decide)) kF iD
 have tX:d0 l.prog w K mg base "_law_same" 1 ["found","due"] (jj 1):=kx (P:=l.prog) (w:=w) (base:=base) (k:=0) D__law_same B (D__law_same.no)
 have tW:d0 l.prog w K mg base "_law_same" 2 ["found","due"] (jj 2):=kx (P:=l.prog) (w:=w) (base:=base) (k:=1) D__law_same B tX
 have tV:d0 l.prog w K mg base "_law_same" 3 ["found","due"] (jj 3):=kx (P:=l.prog) (w:=w) (base:=base) (k:=2) D__law_same B tW
 have fF:=lZ (P:=l.prog) (w:=w) (base:=base) (k:=1) (fuel:=100) D__law_some_order B aC
 have M_Course_note_look:=lG (P:=l.prog) (w:=w) (base:=base) (k:=0) F_Course_note_look bi_Course_note_look mt_Course_note_look B TCourse
 have M_Course_enter:=o3 (P:=l.prog) (w:=w) (base:=base) (k:=0) F_Course_enter bi_Course_enter mt_Course_enter B TCourse
 have M_Course_follow:=nX (P:=l.prog) (w:=w) (base:=base) (k:=1) F_Course_follow bi_Course_follow mt_Course_follow B TCourse M_Course_enter M_Course_note_look
 have M_Course_init:=qR (P:=l.prog) (w:=w) (base:=base) (k:=0) F_Course_init bi_Course_init mk_Course mgC_Course B TCourse
 have fD:=uk (P:=l.prog) (w:=w) (base:=base) (k:=1) D_course_of B TCourse M_Course_follow M_Course_init
 have ml:=wI (P:=l.prog) (w:=w) (base:=base) (k:=0) D_is_whole B 
 have gu:=wK (P:=l.prog) (w:=w) (base:=base) (k:=0) D_is_asked B TCourse
 have gv:=wL (P:=l.prog) (w:=w) (base:=base) (k:=1) D_asked_in B TCourse gu
 have uN:=Fl (P:=l.prog) (w:=w) (base:=base) (k:=3) D_asked B (Has.mono gv (by decide)) fD
 have An:=IZ (P:=l.prog) (w:=w) (base:=base) (k:=0) D_fits B TCourse
 have jH:=sD (P:=l.prog) (w:=w) (base:=base) (k:=0) D_state_with B TCourse
 have M_Asking_init:=qS (P:=l.prog) (w:=w) (base:=base) (k:=2) F_Asking_init bi_Asking_init mk_Asking mgC_Asking B TAsking TCourse gv (Has.mono gu (by decide))
 have M_Asking_may_be_next:=j6 (P:=l.prog) (w:=w) (base:=base) (k:=1) F_Asking_may_be_next bi_Asking_may_be_next mt_Asking_may_be_next B TAsking An
 have M_Asking_is_good:=mM (P:=l.prog) (w:=w) (base:=base) (k:=2) F_Asking_is_good bi_Asking_is_good mt_Asking_is_good B TAsking (Has.mono jH (by decide)) M_Asking_may_be_next
 have mq:=wJ (P:=l.prog) (w:=w) (base:=base) (k:=3) D_is_order B TAsking (Has.mono ml (by decide)) (Has.mono fD (by decide)) (M_Asking_is_good.mono (by decide)) M_Asking_init
 exact Lp (P:=l.prog) (w:=w) (base:=base) (k:=5) F_law B (Has.mono Gp (by decide)) (Has.mono jI (by decide)) (Has.mono jK (by decide)) (Has.mono mr (by decide)) (Has.mono eO (by decide)) (Has.mono uN (by decide)) (Has.mono tV (by decide)) (Has.mono fF (by decide)) (Has.mono gK (by decide)) mq fun ns a c ha hc=>IB (c:=⟨CCourse,_⟩) (cA:=⟨CAsking,_⟩) rfl rfl ns a c ha hc
theorem MC{l:PySem.W.OpenLaw}{q:Program}{loose:List Str}{XP:(Str->Option Value)->Heap->Prop}{YP:World->Heap->Prop}{d:DefRec}{K:Params->PySem.W.Frag}(hn:l.most=some 63)(hdf:d.params.defaults=[])
  (hY:∀(w:World) (h:Heap),YP w h->(K w.params).In h)
  (F:∀(w:World) (mg:Str->Option Value) (fa:Addr) (h:Heap),(K w.params).In h->h.Ns mainGlobals mg->mg d.name=some (.ref fa)->
   ∃fd:FuncData,(∀(s:Shared) (u:Value),BindsTo s fd ⟨[u],[]⟩ [("script",u)])/\∀base:Heap,(K w.params).In base->base.Ns mainGlobals mg->nh l.prog w (K w.params) mg base CX0 6 fa fd ["script"] (A3 (K w.params))) :
  PySem.W.WalkO q loose XP YP l.row.toRowW d [] (fun f vs=>PySem.call f vs):=
 L2.Eg (n:=63) (k:=6) (x:="script") (CX:=fun _=>CX0) (sp:=fun w=>A3 (K w.params)) hn (by decide) hdf ⟨rfl,by decide,by decide,rfl⟩ hY F (fun _ _ a ns hl _ hS=>⟨a,ns,rfl,hS,hl,fun _=>rfl⟩) fun _ _ _ _ _ z=>z
end OL
namespace PySem.W.Fast
def tw11321157275738465743:=0
def tw1454513667527910276:=0
def tw5422273924942108898:=0
def tw5854230339507437852:=0
def tw5252116773594501154:=0
def tw11071957548063227674:=0
def tw9585405491990585863:=0
def tw801005021681836857:=0
def tw11286675561643601329:=0
def tw8836755759459308371:=0
def tw1723951461823520466:=0
def tw2600251143852172308:=0
def tw16504267854664720284:=0
def tw4396225690951252853:=0
def tw3045767880444997535:=0
def tw1455133715747645755:=0
def tw6688775398686355783:=0
def tw2716812958062269634:=0
def tw17446174978289873498:=0
def tw2348989557921301839:=0
def tw9224826499913245407:=0
def tw664240921794359154:=0
def tw17253286889789451126:=0
def tw3314573631527932016:=0
def tw9074335724846881260:=0
def tw2409128403643574460:=0
def tw13325008868290907254:=0
def tw5548397684626037191:=0
def tw5761011684642656494:=0
def tw9067318762019519142:=0
def tw1727510208062671835:=0
def tw10080182283230530191:=0
def tw9373164781951343736:=0
def tw7083496430397804546:=0
def tw12908599250701993318:=0
def tw4210931194759578445:=0
def tw3499584408157901619:=0
def tw16745577132058341753:=0
def tw2987020897706692377:=0
def tw7791687645049072328:=0
def tw3490668432725510692:=0
def tw14761895990567535552:=0
def tw17488849980859729381:=0
def tw8206742716110202650:=0
def tw13163223098819745772:=0
def tw4326605956724073285:=0
def tw6484331123381048346:=0
def tw2560256789141034219:=0
def tw6817118001870744438:=0
def tw9982544990698209418:=0
def tw13405944475279599846:=0
def tw7127185479594960224:=0
def tw4306567584400574407:=0
def tw16553504596373943133:=0
def tw15617623408047137382:=0
def tw8400409726803103244:=0
def tw9529143197002838364:=0
def tw8700568613217948126:=0
def tw1159692261040539089:=0
def tw4955048303290053745:=0
def tw4235206098419763390:=0
def tw5190833741338723704:=0
def tw9833736427082410141:=0
def tw13753334318405500869:=0
def tw7510647015892599929:=0
def tw10376976403037057914:=0
def tw15654491989733604703:=0
def tw17905304911893531224:=0
def tw5500119904505913320:=0
def tw15321476851584875047:=0
def tw16814511135639561498:=0
def tw16507377402182254919:=0
def tw12227376942440533841:=0
def tw16832681730542223195:=0
def tw2978891686481364572:=0
def tw4493011775919214900:=0
def tw11665227394086580012:=0
def tw7703740390990040105:=0
def tw4274837964987389147:=0
def tw8464409384648186472:=0
def tw3657823936366148376:=0
def tw592126922873910090:=0
def tw17412049899960941889:=0
def tw9149610504773255248:=0
def tw8437687150031609375:=0
def tw735936816496401940:=0
def tw16412476975894323596:=0
def tw16703884199930233788:=0
def tw16797715790405638836:=0
def tw5581665876638223238:=0
def tw13422565154480324606:=0
def tw3320790634400701689:=0
def tw16960065981228202897:=0
def tw6072520401237906946:=0
def tw9825028610619465371:=0
def tw3110850432200132719:=0
def tw8278424937950693870:=0
def tw12934445907286248383:=0
def tw16578326420329880507:=0
def tw9609549433934097851:=0
def tw3020252247839517803:=0
def tw2706730987916504600:=0
def tw18125798544940360870:=0
def tw158046963994630291:=0
def tw13283309223430627792:=0
def tw14197456582939492180:=0
def tw4894103062197850366:=0
def tw12885617599122933827:=0
def tw9268403743926599577:=0
def tw8042323828617268065:=0
def tw3795905732898813836:=0
def tw16129059463947739752:=0
def tw13423828445374883664:=0
def tw14250672565263500683:=0
def tw9547625465913051294:=0
def tw11179707400869256209:=0
def tw16419931410264983456:=0
def tw4170238459328370992:=0
def tw17484692384230989664:=0
def tw10567370695798583163:=0
def tw18036844721556946275:=0
def tw8137584454246011667:=0
def tw11518661879930405726:=0
def tw12114113023514038021:=0
def tw16127496325998725124:=0
def tw9748854592817442657:=0
def tw16372080643286382004:=0
def tw15365081965497228161:=0
def tw8557772463635225893:=0
def tw6353800513631789562:=0
def tw17993931037912362843:=0
def tw5610663546512200883:=0
def tw15561044186809573816:=0
def tw9554102442519235812:=0
def tw15211815903336376641:=0
def tw11169284703907833517:=0
def tw13705399085140201827:=0
def tw8127618477346384763:=0
def tw412619755658769945:=0
def tw8567468567538246777:=0
def tw2993921438718615585:=0
def tw3506430756762434184:=0
def tw13569674699587097905:=0
def tw13580530264100603328:=0
def tw12112578820234631319:=0
def tw4356241229471997241:=0
def tw15416263043349243491:=0
def tw13737156564655718504:=0
def tw5637014579903014369:=0
def tw9404674971634370501:=0
def tw1966627320287239066:=0
def tw15526134025471210228:=0
def tw8165704508800978542:=0
def tw3231994190316054467:=0
def tw15171035688466231033:=0
def tw8522295942114107566:=0
end PySem.W.Fast
open PySem PySem.W PyProof.Rows
set_option maxRecDepth 100000 in
set_option maxHeartbeats 0 in
theorem PySem.Challenge.cw_oneglance_k15_orders_looked_at_holds : PySem.Challenge.rw_oneglance_k15_orders_looked_at.Holds := by
 w_on; o_law; k_head; (case hw => w_witness2)
 k_fill
 refine OL.MC (l := PySem.Challenge.rw_oneglance_k15_orders_looked_at) rfl rfl (fun w h Y => PySem.W.kIn_of Y) ?F
 case F =>
  intro w mg fa h KX G hmg
  refine' OL.Jp KX G hmg ?a1 ?l1 ?c1 ?k1 ?a2 ?l2 ?c2 ?k2 ?a3 ?l3 ?c3 ?k3 ?a4 ?l4 ?c4 ?k4 ?a5 ?l5 ?c5 ?k5 ?a6 ?l6 ?c6 ?k6 ?a7 ?l7 ?c7 ?k7 ?a8 ?l8 ?c8 ?k8 ?a9 ?l9 ?c9 ?k9 ?a10 ?l10 ?c10 ?k10 ?a11 ?l11 ?c11 ?k11 ?a12 ?l12 ?c12 ?k12 ?a13 ?l13 ?c13 ?k13 ?a14 ?l14 ?c14 ?k14 ?a15 ?l15 ?c15 ?k15 ?a16 ?l16 ?c16 ?k16 ?a17 ?l17 ?c17 ?k17 ?a18 ?l18 ?c18 ?k18 ?a19 ?l19 ?c19 ?k19 ?a20 ?l20 ?c20 ?k20 ?a21 ?l21 ?c21 ?k21 ?a22 ?l22 ?c22 ?k22 ?a23 ?l23 ?c23 ?k23 ?a24 ?l24 ?c24 ?k24 ?a25 ?l25 ?c25 ?k25 ?a26 ?l26 ?c26 ?k26 ?a27 ?l27 ?c27 ?k27 ?a28 ?l28 ?c28 ?k28 ?aCCourse ?pgCourse ?hdCourse ?poCourse ?saCourse ?mkCourse ?kcCourse ?nfCourse0 ?nfCourse1 ?nfCourse2 ?nfCourse3 ?nfCourse4 ?a29 ?i29 ?l29 ?c29 ?k29 ?a30 ?i30 ?l30 ?c30 ?k30 ?a31 ?i31 ?l31 ?c31 ?k31 ?a32 ?i32 ?l32 ?c32 ?k32 ?aCAsking ?pgAsking ?hdAsking ?poAsking ?saAsking ?mkAsking ?kcAsking ?nfAsking0 ?nfAsking1 ?nfAsking2 ?a33 ?i33 ?l33 ?c33 ?k33 ?a34 ?i34 ?l34 ?c34 ?k34 ?a35 ?i35 ?l35 ?c35 ?k35 ?z36 ?z37 ?z38 ?z39 ?z40 ?z41 ?z42 ?z43 ?z44 ?z45 ?z46 ?z47 ?z48 ?z49 ?z50 ?z51 ?z52 ?z53
  (case a1 => k_is)
  (case l1 => k_is)
  (case c1 => k_is)
  (case k1 => k_is)
  (case a2 => k_is)
  (case l2 => k_is)
  (case c2 => k_is)
  (case k2 => k_is)
  (case a3 => k_is)
  (case l3 => k_is)
  (case c3 => k_is)
  (case k3 => k_is)
  (case a4 => k_is)
  (case l4 => k_is)
  (case c4 => k_is)
  (case k4 => k_is)
  (case a5 => k_is)
  (case l5 => k_is)
  (case c5 => k_is)
  (case k5 => k_is)
  (case a6 => k_is)
  (case l6 => k_is)
  (case c6 => k_is)
  (case k6 => k_is)
  (case a7 => k_is)
  (case l7 => k_is)
  (case c7 => k_is)
  (case k7 => k_is)
  (case a8 => k_is)
  (case l8 => k_is)
  (case c8 => k_is)
  (case k8 => k_is)
  (case a9 => k_is)
  (case l9 => k_is)
  (case c9 => k_is)
  (case k9 => k_is)
  (case a10 => k_is)
  (case l10 => k_is)
  (case c10 => k_is)
  (case k10 => k_is)
  (case a11 => k_is)
  (case l11 => k_is)
  (case c11 => k_is)
  (case k11 => k_is)
  (case a12 => k_is)
  (case l12 => k_is)
  (case c12 => k_is)
  (case k12 => k_is)
  (case a13 => k_is)
  (case l13 => k_is)
  (case c13 => k_is)
  (case k13 => k_is)
  (case a14 => k_is)
  (case l14 => k_is)
  (case c14 => k_is)
  (case k14 => k_is)
  (case a15 => k_is)
  (case l15 => k_is)
  (case c15 => k_is)
  (case k15 => k_is)
  (case a16 => k_is)
  (case l16 => k_is)
  (case c16 => k_is)
  (case k16 => k_is)
  (case a17 => k_is)
  (case l17 => k_is)
  (case c17 => k_is)
  (case k17 => k_is)
  (case a18 => k_is)
  (case l18 => k_is)
  (case c18 => k_is)
  (case k18 => k_is)
  (case a19 => k_is)
  (case l19 => k_is)
  (case c19 => k_is)
  (case k19 => k_is)
  (case a20 => k_is)
  (case l20 => k_is)
  (case c20 => k_is)
  (case k20 => k_is)
  (case a21 => k_is)
  (case l21 => k_is)
  (case c21 => k_is)
  (case k21 => k_is)
  (case a22 => k_is)
  (case l22 => k_is)
  (case c22 => k_is)
  (case k22 => k_is)
  (case a23 => k_is)
  (case l23 => k_is)
  (case c23 => k_is)
  (case k23 => k_is)
  (case a24 => k_is)
  (case l24 => k_is)
  (case c24 => k_is)
  (case k24 => k_is)
  (case a25 => k_is)
  (case l25 => k_is)
  (case c25 => k_is)
  (case k25 => k_is)
  (case a26 => k_is)
  (case l26 => k_is)
  (case c26 => k_is)
  (case k26 => k_is)
  (case a27 => k_is)
  (case l27 => k_is)
  (case c27 => k_is)
  (case k27 => k_is)
  (case a28 => k_is)
  (case l28 => k_is)
  (case c28 => k_is)
  (case k28 => k_is)
  (case aCCourse => k_is)
  (case pgCourse => k_is)
  (case hdCourse => k_is)
  (case poCourse => k_is)
  (case saCourse => k_is)
  (case mkCourse => k_is)
  (case kcCourse => k_is)
  (case nfCourse0 => k_is)
  (case nfCourse1 => k_is)
  (case nfCourse2 => k_is)
  (case nfCourse3 => k_is)
  (case nfCourse4 => k_is)
  (case a29 => k_is)
  (case i29 => k_is)
  (case l29 => k_is)
  (case c29 => k_is)
  (case k29 => k_is)
  (case a30 => k_is)
  (case i30 => k_is)
  (case l30 => k_is)
  (case c30 => k_is)
  (case k30 => k_is)
  (case a31 => k_is)
  (case i31 => k_is)
  (case l31 => k_is)
  (case c31 => k_is)
  (case k31 => k_is)
  (case a32 => k_is)
  (case i32 => k_is)
  (case l32 => k_is)
  (case c32 => k_is)
  (case k32 => k_is)
  (case aCAsking => k_is)
  (case pgAsking => k_is)
  (case hdAsking => k_is)
  (case poAsking => k_is)
  (case saAsking => k_is)
  (case mkAsking => k_is)
  (case kcAsking => k_is)
  (case nfAsking0 => k_is)
  (case nfAsking1 => k_is)
  (case nfAsking2 => k_is)
  (case a33 => k_is)
  (case i33 => k_is)
  (case l33 => k_is)
  (case c33 => k_is)
  (case k33 => k_is)
  (case a34 => k_is)
  (case i34 => k_is)
  (case l34 => k_is)
  (case c34 => k_is)
  (case k34 => k_is)
  (case a35 => k_is)
  (case i35 => k_is)
  (case l35 => k_is)
  (case c35 => k_is)
  (case k35 => k_is)
  (case z36 => k_is)
  (case z37 => k_is)
  (case z38 => k_is)
  (case z39 => k_is)
  (case z40 => k_is)
  (case z41 => k_is)
  (case z42 => k_is)
  (case z43 => k_is)
  (case z44 => k_is)
  (case z45 => k_is)
  (case z46 => k_is)
  (case z47 => k_is)
  (case z48 => k_is)
  (case z49 => k_is)
  (case z50 => k_is)
  (case z51 => k_is)
  (case z52 => k_is)
  (case z53 => k_is)
