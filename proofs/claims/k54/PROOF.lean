import PyProof.Rows.All
import Wide.All
import OpenK.AllK
import Wide.FinOn
import Lean
import PyProof.EqAt
import PyProof.EqKinds
import PyProof.TupleCall
import PySem.Challenge.RW_oneglance_k54_all_are_done
set_option maxHeartbeats 4000000
set_option Elab.async false
set_option linter.all false
set_option maxRecDepth 100000
noncomputable section
namespace L2
open PySem PySem.Spec PyProof.Rows
abbrev Key:=Sum Int Str
def rZ:Key->Value->Bool
 |.inl k,v=>Value.isInt k v
 |.inr x,v=>Value.isStrOf x v
def K8(w:World):Key->Int
 |.inl k=>hashInt k
 |.inr x=>hashStr w x
theorem bR:∀{k:Key} {v:Value},rZ k v=true->(∃i t,k=Sum.inl i/\v=Value.int i t)\/(∃x t,k=Sum.inr x/\v=Value.str x t)
 |.inl i,v,h=>by
  obtain⟨t,e⟩:=Value.isInt_shape (k:=i) (v:=v) h
  exact .inl ⟨i,t,rfl,e⟩
 |.inr x,v,h=>by
  obtain⟨t,e⟩:=Value.isStrOf_shape (x:=x) (v:=v) h
  exact .inr ⟨x,t,rfl,e⟩
theorem w4(i:Int)(t:Tok):rZ (.inl i) (.int i t)=true:=by simp[rZ,Value.isInt]
theorem wZ(x:Str)(t:Tok):rZ (.inr x) (.str x t)=true:=by simp[rZ,Value.isStrOf]
theorem F0(a b:Int):decide ((Sum.inl a:Key)=Sum.inl b)=(a == b):=by
 by_cases e:a=b
 ·subst e;simp
 ·have h:¬(Sum.inl a:Key)=Sum.inl b:=fun q=>e (Sum.inl.inj q)
  rw[decide_eq_false h]
  exact(beq_eq_false_iff_ne.mpr e).symm
theorem FX(a b:Str):decide ((Sum.inr a:Key)=Sum.inr b)=decide (a=b):=by
 by_cases e:a=b
 ·subst e;simp
 ·have h:¬(Sum.inr a:Key)=Sum.inr b:=fun q=>e (Sum.inr.inj q)
  rw[decide_eq_false h,decide_eq_false e]
theorem FZ(a:Int)(b:Str):decide ((Sum.inl a:Key)=Sum.inr b)=false:=decide_eq_false (fun q=>nomatch q)
theorem FY(a:Str)(b:Int):decide ((Sum.inr a:Key)=Sum.inl b)=false:=decide_eq_false (fun q=>nomatch q)
def cY(prog:Program)(w:World):PySem.KeyKind prog w Key where
 is:=rZ
 hash:=K8 w
 inj:=fun v a b ha hb=>by
  rcases bR ha with⟨i,t,rfl,rfl⟩|⟨x,t,rfl,rfl⟩
  ·rcases bR hb with⟨j,u,rfl,e⟩|⟨y,u,rfl,e⟩
   ·injection e with e1 _;rw[e1]
   ·exact nomatch e
  ·rcases bR hb with⟨j,u,rfl,e⟩|⟨y,u,rfl,e⟩
   ·exact nomatch e
   ·injection e with e1 _;rw[e1]
 byValue:=fun k v h=>by
  rcases bR h with⟨i,t,rfl,rfl⟩|⟨x,t,rfl,rfl⟩<;>rfl
 pyHash:=fun hv h=>by
  rcases bR hv with⟨i,t,rfl,rfl⟩|⟨x,t,rfl,rfl⟩
  ·exact wpAny_pyHash_int h
  ·exact wpAny_pyHash_str h
 eqBool:=fun hu hv h=>by
  rcases bR hu with⟨i,t,rfl,rfl⟩|⟨x,t,rfl,rfl⟩
  ·rcases bR hv with⟨j,u,rfl,rfl⟩|⟨y,u,rfl,rfl⟩
   ·rw[F0]at h;exact wpAny_eqBool_int h
   ·rw[FZ]at h;exact SeqAt.EqAt.int_str i t y u _ _ _ _ h
  ·rcases bR hv with⟨j,u,rfl,rfl⟩|⟨y,u,rfl,rfl⟩
   ·rw[FY]at h;exact SeqAt.EqAt.str_int x t j u _ _ _ _ h
   ·rw[FX]at h;exact wpAny_eqBool_str h
 «strs»:=fun k x t v h=>by
  rcases bR h with⟨i,u,rfl,e⟩|⟨y,u,rfl,e⟩
  ·exact nomatch e
  ·injection e with e1 _
   subst e1
   cases v<;>rfl
theorem rV(prog:Program)(w:World)(i:Int)(t:Tok):(cY prog w).is (.inl i) (.int i t)=true:=w4 i t
theorem rT(prog:Program)(w:World)(x:Str)(t:Tok):(cY prog w).is (.inr x) (.str x t)=true:=wZ x t
inductive V where
 |non|bl (b:Bool)|int (i:Int)|str (x:Str)|byt (b:Array UInt8)|flt (b:UInt64)|ref (a:Addr)|ty (n:String)
 deriving DecidableEq
def dn:V->Value->Prop
 |.non,u=>u=Value.none
 |.bl b,u=>u=Value.bool b
 |.int i,u=>∃t,u=Value.int i t
 |.str x,u=>∃t,u=Value.str x t
 |.byt b,u=>∃t,u=Value.bytes b t
 |.flt b,u=>∃t,u=Value.float b t
 |.ref a,u=>u=Value.ref a
 |.ty n,u=>u=Value.type n
abbrev cg:List V->List Value->Prop:=Paired dn
theorem cg.length{xs:List V}{us:List Value}(r:cg xs us):xs.length=us.length:=Paired.length r
theorem cg.get:∀{xs:List V} {us:List Value} {i:Nat} {x:V},cg xs us->xs[i]?=some x->∃u,us[i]?=some u/\dn x u
 |_,_,_,_,.nil,e=>by simp at e
 |_,_,0,_,.cons r _,e=>by simp at e;subst e;exact⟨_,rfl,r⟩
 |_,_,i+1,x,.cons _ t,e=>by
  obtain⟨u,h1,h2⟩:=cg.get (i:=i) (x:=x) t (by simpa using e)
  exact⟨u,by simpa using h1,h2⟩
theorem cg.set{x:V}{u:Value}(r:dn x u):∀{xs:List V} {us:List Value} (i:Nat),cg xs us->cg (xs.set i x) (us.set i u)
 |_,_,_,.nil=>.nil
 |_,_,0,.cons _ t=>.cons r t
 |_,_,i+1,.cons q t=>.cons q (cg.set r i t)
theorem cg.append:∀{xs ys:List V} {us ws:List Value},cg xs us->cg ys ws->cg (xs++ys) (us++ws)
 |_,_,_,_,.nil,s=>s
 |_,_,_,_,.cons r t,s=>.cons r (cg.append t s)
theorem cg.take:∀{xs:List V} {us:List Value} (n:Nat),cg xs us->cg (xs.take n) (us.take n)
 |_,_,0,_=>.nil
 |_,_,_+1,.nil=>.nil
 |_,_,n+1,.cons r t=>.cons r (cg.take n t)
theorem cg.drop:∀{xs:List V} {us:List Value} (n:Nat),cg xs us->cg (xs.drop n) (us.drop n)
 |_,_,0,r=>r
 |_,_,_+1,.nil=>.nil
 |_,_,n+1,.cons _ t=>cg.drop n t
def pZ:Option V->Option Value->Prop
 |some v,some u=>dn v u
 |none,none=>True
 |_,_=>False
def KV{κ:Type}:List (κ×V)->List (κ×Value)->Prop:=Paired fun(p:κ×V) (q:κ×Value)=>p.1=q.1/\dn p.2 q.2
def kV:Key->V
 |.inl i=>.int i
 |.inr x=>.str x
inductive HO where
 |lst (xs:List V)
 |tup (xs:List V)
 |dK (kvs:List (Key×V))|dT (kvs:List (List Key×V))
 |set (S:Int->Bool) (n:Nat)
 |ins (C dx:Addr) (fs:List (Str×V))
 |own (x:Addr)
 |xd (fs:List (Str×V))
 |met (f x:Addr)
 |rng (lo hi:Int)
 |frz (o:Obj) (u:HO)
 |tbl (ps:Array Value)
 |ext (φ:Heap->Prop)
abbrev Hp:=Addr->Option HO
def upd(H:Hp)(a:Addr)(o:HO):Hp:=fun b=>if b=a then some o else H b
theorem aP{H:Hp}{a:Addr}{o:HO}:upd H a o a=some o:=by unfold upd;rw[if_pos rfl]
theorem bH{H:Hp}{a b:Addr}{o:HO}(h:b≠a):upd H a o b=H b:=by unfold upd;rw[if_neg h]
theorem Jf{H:Hp}{a b:Addr}{o u:HO}(h:H a=some o)(h':H b=some u)(d:o≠u):a≠b:=by
 intro e;subst e;rw[h]at h';exact d (Option.some.inj h')
theorem cP{H:Hp}{a b:Addr}{o:HO}(h:H a=some o)(h':H b=none):a≠b:=by
 intro e;subst e;rw[h]at h';cases h'
section
variable(P:Program)(w:World)
def cB(H:Hp)(h:Heap)(a:Addr):HO->Prop
 |.lst xs=>xs.length<=sizeLine/\∃(its:List Value) (n:Nat),cg xs its/\h.get? a=some { cls:=.type "list",data:=.seq its.toArray n }
 |.tup xs=>xs.length<=sizeLine/\∃its:List Value,cg xs its/\IsTup h a its.toArray
 |.dK kvs=>kvs.length<=sizeLine/\(a == sysModules)=false/\∃vs,KV kvs vs/\h.DictOf (cY P w) a vs
 | .dT kvs=>kvs.length<=sizeLine/\(a == sysModules)=false/\∃xs:List (List Key×Addr×Value),
   Paired (fun(p:List Key×V) (q:List Key×Addr×Value)=>p.1=q.1/\H q.2.1=some (.tup (p.1.map kV))/\dn p.2 q.2.2) kvs xs/\
   ∃o es ep,h.get? a=some o/\o.ExactDict/\o.data=.dict es ep/\es.toList=xs.map (entryOfKey (tupleKind (cY P w)))/\(xs.map (·.1)).Nodup
 |.set S n=>h.SetOf (intKind P w) a S n
 | .ins C dx fs=>H dx=some (.own a)/\fs.length<=1000/\dx≠a/\h.get? a=some (PySem.W.instObj C dx)/\
   ∃mA,h.Ns1 dx mA/\(∀f,pZ (fs.lookup f) (mA f))/\PySem.Within mA (fs.map (·.1))
 |.own _=>∃o,h.get? a=some o
 |.xd fs=>∃mA,h.Ns1 a mA/\∀f,pZ (fs.lookup f) (mA f)
 |.rng lo hi=>∃t u v,h.get? a=some { cls:=.type "range",data:=.fields #[.int lo t,.int hi u,.int 1 v] }
 |.frz o u=>h.get? a=some o/\cB H h a u
 |.tbl ps=>h.get? a=some { cls:=.none,data:=.fields ps }
 |.met f x=>h.get? a=some (PySem.W.methodObj (.ref f) (.ref x))
 |.ext φ=>φ h/\(∃o,h.get? a=some o)/\∀h1 h2:Heap,φ h1->(∀o,h1.get? a=some o->h2.get? a=some o)->φ h2
def HOk(H:Hp)(h:Heap):Prop:=∀a o,H a=some o->cB P w H h a o
end
section
variable{P:Program}{w:World}{H H':Hp}{h h':Heap}{a:Addr}{o:HO}
theorem cB.lt(x:cB P w H h a o):a<h.objs.size:=by
 cases o with
 |lst xs=>obtain⟨_,_,_,_,e⟩:=x;exact Heap.lt_size e
 |tup xs=>obtain⟨_,_,_,p⟩:=x;exact p.lt
 |dK kvs=>obtain⟨_,_,_,_,o,_,_,e,_⟩:=x;exact Heap.lt_size e
 |dT kvs=>obtain⟨_,_,_,_,o,_,_,e,_⟩:=x;exact Heap.lt_size e
 |set S n=>obtain⟨o,_,_,_,e,_⟩:=x;exact Heap.lt_size e
 |ins C dx fs=>obtain⟨_,_,_,e,_⟩:=x;exact Heap.lt_size e
 |own y=>obtain⟨_,e⟩:=x;exact Heap.lt_size e
 |xd fs=>obtain⟨_,⟨_,_,_,e,_⟩,_⟩:=x;exact Heap.lt_size e
 |rng lo hi=>obtain⟨_,_,_,e⟩:=x;exact Heap.lt_size e
 |frz ob u=>obtain⟨e,_⟩:=x;exact Heap.lt_size e
 |tbl ps=>exact Heap.lt_size (show h.get? a=some _ from x)
 |met f y=>exact Heap.lt_size (show h.get? a=some _ from x)
 |ext φ=>obtain⟨_,⟨_,e⟩,_⟩:=x;exact Heap.lt_size e
theorem Paired.mapP{α β:Type}{F G:α->β->Prop}:∀{l₁:List α} {l₂:List β},Paired F l₁ l₂->(∀a b,F a b->G a b)->Paired G l₁ l₂
 |_,_,.nil,_=>.nil
 |_,_,.cons r t,f=>.cons (f _ _ r) (Paired.mapP t f)
theorem cB.stay(x:cB P w H h a o)(k:∀b u,(b=a\/H b=some (.own a))->h.get? b=some u->h'.get? b=some u)
  (ho:∀b,H b=some (.own a)->H' b=some (.own a)) (ht:∀b xs,H b=some (.tup xs)->H' b=some (.tup xs)):cB P w H' h' a o:=by
 induction o with
 |lst xs=>obtain⟨z,its,n,r,e⟩:=x;exact⟨z,its,n,r,k _ _ (.inl rfl) e⟩
 |tup xs=>obtain⟨z,its,r,ob,e,c⟩:=x;exact⟨z,its,r,ob,k _ _ (.inl rfl) e,c⟩
 |dK kvs=>obtain⟨z,y,vs,r,ob,es,ep,e,c⟩:=x;exact⟨z,y,vs,r,ob,es,ep,k _ _ (.inl rfl) e,c⟩
 |dT kvs=>
  obtain⟨z,y,xs,r,ob,es,ep,e,c⟩:=x
  exact⟨z,y,xs,Paired.mapP r fun p q z=>⟨z.1,ht _ _ z.2.1,z.2.2⟩,ob,es,ep,k _ _ (.inl rfl) e,c⟩
 |set S n=>obtain⟨ob,es,ep,t,e,c⟩:=x;exact⟨ob,es,ep,t,k _ _ (.inl rfl) e,c⟩
 |ins C dx fs=>
  obtain⟨d,z,ne,e,mA,⟨od,es,ep,e2,c⟩,r⟩:=x
  exact⟨ho _ d,z,ne,k _ _ (.inl rfl) e,mA,⟨od,es,ep,k _ _ (.inr d) e2,c⟩,r⟩
 |own y=>obtain⟨ob,e⟩:=x;exact⟨ob,k _ _ (.inl rfl) e⟩
 |xd fs=>obtain⟨mA,⟨od,es,ep,e,c⟩,r⟩:=x;exact⟨mA,⟨od,es,ep,k _ _ (.inl rfl) e,c⟩,r⟩
 |rng lo hi=>obtain⟨t,u,v,e⟩:=x;exact⟨t,u,v,k _ _ (.inl rfl) e⟩
 |frz ob u ih=>obtain⟨e,q⟩:=x;exact⟨k _ _ (.inl rfl) e,ih q⟩
 |tbl ps=>
  have e:h.get? a=some { cls:=.none,data:=.fields ps }:=x
  show h'.get? a=some { cls:=.none,data:=.fields ps }
  exact k a _ (.inl rfl) e
 |met f y=>
  have e:h.get? a=some (PySem.W.methodObj (.ref f) (.ref y)):=x
  show h'.get? a=some (PySem.W.methodObj (.ref f) (.ref y))
  exact k a _ (.inl rfl) e
 |ext φ=>obtain⟨p,⟨o,e⟩,st⟩:=x;exact⟨st _ _ p fun o q=>k _ _ (.inl rfl) q,⟨o,k _ _ (.inl rfl) e⟩,st⟩
theorem HOk.lt(x:HOk P w H h)(e:H a=some o):a<h.objs.size:=(x a o e).lt
theorem HOk.fresh(x:HOk P w H h)(e:h.objs.size<=a):H a=none:=by
 cases q:H a with
 |none=>rfl
 |some u=>exact absurd (Nat.lt_of_lt_of_le (x.lt q) e) (Nat.lt_irrefl _)
theorem HOk.kept(x:HOk P w H h)(k:∀b u,h.get? b=some u->h'.get? b=some u):HOk P w H h':=fun a o e=>
 (x a o e).stay (fun b u _ q=>k b u q) (fun _ q=>q) fun _ _ q=>q
theorem HOk.laid(x:HOk P w H h)(k:∀b u,h.get? b=some u->h'.get? b=some u)(hp:h.objs.size<=a)(new:cB P w (upd H a o) h' a o):HOk P w (upd H a o) h':=fun b u e=>by
 have hn:=x.fresh hp
 by_cases hb:b=a
 ·subst hb;rw[aP]at e;cases e;exact new
 ·rw[bH hb]at e
  exact(x b u e).stay (fun c v _ q=>k c v q) (fun c q=>by rw[bH (cP q hn)];exact q) fun c xs q=>by rw[bH (cP q hn)];exact q
end
def Rd(H:Hp)(a:Addr)(u:HO):Prop:=H a=some u\/∃o,H a=some (.frz o u)
theorem Rd.ok{P:Program}{w:World}{H:Hp}{h:Heap}{a:Addr}{u:HO}(r:Rd H a u)(x:HOk P w H h):cB P w H h a u:=by
 rcases r with r|⟨o,r⟩
 ·exact x a u r
 ·obtain⟨_,q⟩:=x a _ r
  exact q
def Mut:Option HO->Prop
 |some (.lst _)=>True
 |some (.dK _)=>True
 |some (.dT _)=>True
 |some (.set _ _)=>True
 |some (.ins _ _ _)=>True
 |some (.ext _)=>True
 |_=>False
section
variable{P:Program}{w:World}{H:Hp}{h h':Heap}{x e:Addr}{o':HO}
theorem HOk.write(ok:HOk P w H h)(mu:Mut (H x))(he:e=x\/H e=some (.own x))(k:∀b u,b≠e->h.get? b=some u->h'.get? b=some u)(heo:∃u,h'.get? e=some u)
  (new:cB P w (upd H x o') h' x o'):HOk P w (upd H x o') h':=fun b u q=>by
 have nown:∀c y,H c=some (.own y)->c≠x:=fun c y r z=>by subst z;rw[r]at mu;exact mu
 have ntup:∀c xs,H c=some (.tup xs)->c≠x:=fun c xs r z=>by subst z;rw[r]at mu;exact mu
 by_cases hb:b=x
 ·subst hb;rw[aP]at q;cases q;exact new
 ·rw[bH hb]at q
  by_cases hbe:b=e
  ·have q':H b=some (.own x):=by
    rcases he with z|z
    ·exact absurd (hbe.trans z) hb
    ·rw[hbe];exact z
   rw[q]at q';cases q'
   obtain⟨v,hv⟩:=heo
   exact⟨v,by rw[hbe];exact hv⟩
  ·refine(ok b u q).stay (fun c v hc r=>k c v ?_ r) (fun c r=>by rw[bH (nown c b r)];exact r) fun c xs r=>by rw[bH (ntup c xs r)];exact r
   rcases hc with rfl|hc
   ·exact hbe
   ·rintro rfl
    rcases he with z|z
    ·exact nown c b hc z
    ·rw[hc]at z;cases z;exact hb rfl
end
structure Un(fs ex:List Addr)(H H':Hp)(h h':Heap):Prop where
 keep:∀b o,h.get? b=some o->H b=none->b∉fs->b∉ex->h'.get? b=some o
 slot:∀b o,h.get? b=some o->H b=none->b∈fs->b∉ex->∃sl,h'.get? b=some { o with slots:=sl }
 free:∀b o,h.get? b=some o->H b=none->b∉ex->H' b=none
 there:∀b o,h.get? b=some o->b∉ex->∃o',h'.get? b=some o'
 tups:∀b xs,H b=some (.tup xs)->H' b=some (.tup xs)
 frzs:∀b o u,H b=some (.frz o u)->H' b=some (.frz o u)
 tbls:∀b ps,H b=some (.tbl ps)->∃more,H' b=some (.tbl (ps++more))
section
variable{fs fs' ex ex':List Addr}{H H1 H2:Hp}{h h1 h2 h':Heap}{a x e:Addr}{o:HO}
theorem Un.any(u:Un fs ex H H1 h h1){b:Addr}{ob:Obj}(q:h.get? b=some ob)(n:H b=none)(hx:b∉ex):∃sl,h1.get? b=some { ob with slots:=sl }:=by
 by_cases hb:b∈fs
 ·exact u.slot b ob q n hb hx
 ·exact⟨ob.slots,u.keep b ob q n hb hx⟩
theorem Un.kept(k:∀b u,h.get? b=some u->h'.get? b=some u):Un fs ex H H h h':=
 ⟨fun b ob q _ _ _=>k b ob q,fun b ob q _ _ _=>⟨ob.slots,k b ob q⟩,fun _ _ _ n _=>n,fun b ob q _=>⟨ob,k b ob q⟩,fun _ _ q=>q,fun _ _ _ q=>q,fun _ ps q=>⟨#[],by rw[q];simp⟩⟩
theorem Un.refl:Un fs ex H H h h:=Un.kept fun _ _ q=>q
theorem Un.laid(k:∀b u,h.get? b=some u->h'.get? b=some u)(hp:h.objs.size<=a)(hn:H a=none):Un fs ex H (upd H a o) h h' where
 keep:=fun b u q _ _ _=>k b u q
 slot:=fun b u q _ _ _=>⟨u.slots,k b u q⟩
 free:=fun b u q n _=>by rw[bH (Nat.ne_of_lt (Nat.lt_of_lt_of_le (Heap.lt_size q) hp))];exact n
 there:=fun b u q _=>⟨u,k b u q⟩
 tups:=fun b xs q=>by rw[bH (cP q hn)];exact q
 frzs:=fun b u xs q=>by rw[bH (cP q hn)];exact q
 tbls:=fun b ps q=>⟨#[],by rw[bH (cP q hn),q];simp⟩
theorem Un.write(mu:Mut (H x))(he:e=x\/H e=some (.own x))(k:∀b u,b≠e->h.get? b=some u->h'.get? b=some u)(heo:∃u,h'.get? e=some u):Un fs ex H (upd H x o) h h':=by
 have hx:∀b,H b=none->b≠x:=fun b n z=>by subst z;rw[n]at mu;exact mu
 have hb:∀b,H b=none->b≠e:=fun b n z=>by
  subst z
  rcases he with r|r
  ·exact hx b n r
  ·rw[n]at r;cases r
 have hm:∀b u,H b=some u->¬Mut (some u)->b≠x:=fun b u q nm z=>by subst z;rw[q]at mu;exact nm mu
 refine⟨fun b u q n _ _=>k b u (hb b n) q,fun b u q n _ _=>⟨u.slots,k b u (hb b n) q⟩,fun b u q n _=>by rw[bH (hx b n)];exact n,fun b u q _=>?_,
  fun b xs q=>by rw[bH (hm b _ q fun z=>z)];exact q,fun b u xs q=>by rw[bH (hm b _ q fun z=>z)];exact q,fun b ps q=>⟨#[],by rw[bH (hm b _ q fun z=>z),q];simp⟩⟩
 by_cases hbe:b=e
 ·subst hbe;exact heo
 ·exact⟨u,k b u hbe q⟩
end
def trk(h:Heap)(H:Hp):List Addr:=(List.range h.objs.size).filter fun a=>(H a).isSome
def zT(h:Heap)(H:Hp):Heap:=PySem.W.hideAll h (trk h H)
theorem xl(h:Heap)(H:Hp):(zT h H).objs.size=h.objs.size:=PySem.W.hideAll_size _ _
theorem zS{h:Heap}{H:Hp}{b:Addr}{o:Obj}(e:h.get? b=some o)(n:H b=none):(zT h H).get? b=some o:=
 PySem.W.hideAll_get _ e fun hm=>by
  have q:(H b).isSome=true:=(List.mem_filter.mp hm).2
  rw[n]at q;simp at q
theorem CZ{h:Heap}{H:Hp}{b:Addr}{o:Obj}(e:(zT h H).get? b=some o):h.get? b=some o/\H b=none:=by
 have e':h.get? b=some o:=PySem.W.of_hideAll (trk h H) e
 refine⟨e',?_⟩
 cases q:H b with
 |none=>rfl
 |some x=>
  have hm:b∈trk h H:=List.mem_filter.mpr ⟨List.mem_range.mpr (Heap.lt_size e'),by simp[q]⟩
  have z:(zT h H).get? b=none:=PySem.W.hideAll_none (trk h H) hm
  rw[z]at e;cases e
structure Mod(K:PySem.W.Frag)(mg:Str->Option Value)(base:Heap):Prop where
 kin:K.In base
 glob:base.Ns mainGlobals mg
 blt:∃mb,base.Ns builtinsNs mb/\∀x:Str,x≠"__name__"->mb x=bootBuiltins x
 nolimit:base.NoLimit
structure Cx where
 prog:Program
 w:World
 K:PySem.W.Frag
 mg:Str->Option Value
 base:Heap
 A:Around
 N:List Str
 s₀:Shared
 H₀:Hp
 env:Env
 outer:List Env
 stack:List Env
 ex:List Addr
 fn:Str->Bool
 calm:Bool
 pn:List (Addr×Obj)
 xe:Value->Shared->Prop
def frs(l:List Env):List Addr:=l.filterMap (·.frame)
abbrev Cx.fs(X:Cx):List Addr:=frs X.outer
def Vis(sc:Scope)(x:Str):Prop:=sc.names.lookup x=some .local\/sc.names.lookup x=some .cell\/sc.names.lookup x=some .free
def Loc(sc:Scope)(x:Str):Prop:=sc.names.lookup x=some .local\/sc.names.lookup x=some .cell
def Ld(env:Env)(h:Heap)(m:Str->Option Value)(x:Str)(u:Value):Prop:=
 (env.kindOf x=some .local/\m x=some u)\/((env.kindOf x=some .cell\/env.kindOf x=some .free)/\∃c,env.cells.lookup x=some c/\h.IsCell c (some u))
structure Cx.Ok(X:Cx):Prop where
 mod:Mod X.K X.mg X.base
 kind:X.env.scope.kind=.function
 glob:X.env.globals=mainGlobals
 blt:X.env.builtins=builtinsNs
 above:X.s₀.heap.objs.size<=X.env.locals
 inj:∀x y c,X.env.cells.lookup x=some c->X.env.cells.lookup y=some c->x=y
 has:∀x,(X.env.kindOf x=some .cell\/X.env.kindOf x=some .free)->∃c,X.env.cells.lookup x=some c
 cab:∀x c,X.fn x=true->X.env.cells.lookup x=some c->X.s₀.heap.objs.size<=c
 hd:X.calm=true->X.A.handled=none
 frames:X.A.frames=some X.stack
 stk:X.stack=X.outer\/(X.stack=X.env::X.outer/\X.env.frame=some X.env.locals)
 exf:∀b∈X.ex,b≠X.env.locals/\∀x c,X.env.cells.lookup x=some c->c≠b
 bs:∀b o,X.base.get? b=some o->X.s₀.heap.get? b=some o/\X.H₀ b=none
 bsz:X.base.objs.size<=X.s₀.heap.objs.size
 noex:∀b o,X.base.get? b=some o->b∉X.ex
 exfs:∀b∈X.ex,b∉X.fs
 funs:X.s₀.heap.FunFrames X.base X.outer
 frf:∀b∈X.fs,X.H₀ b=none
structure Inv(X:Cx)(pins:List (Addr×Obj))(σ:List (Option V))(H:Hp)(s:Shared):Prop where
 ok:X.Ok
 os:s.os=X.s₀.os
 bare:AllBare s.gens
 base:Un X.fs X.ex X.H₀ H X.s₀.heap s.heap
 loc:∃m,s.heap.Ns X.env.locals m/\∀(i:Nat) (x:Str) (v:V),X.N[i]?=some x->σ[i]?=some (some v)->Vis X.env.scope x->∃u,dn v u/\Ld X.env s.heap m x u
 cell:∀x c,X.env.cells.lookup x=some c->∃v,s.heap.IsCell c v
 free:H X.env.locals=none
 freeC:∀x c,X.env.cells.lookup x=some c->H c=none
 pin:∀p∈X.pn++pins,s.heap.get? p.1=some p.2/\H p.1=none/\p.1≠X.env.locals/\p.1∉X.fs/\∀v,p.2.data≠.cell v
 hok:HOk X.prog X.w H s.heap
 len:σ.length=X.N.length
section
variable{X:Cx}{pins:List (Addr×Obj)}{σ:List (Option V)}{H H':Hp}{s:Shared}{h':Heap}
theorem Cx.Ok.nofr(ok:X.Ok){b:Addr}{o:Obj}(e:X.base.get? b=some o):b∉X.fs:=fun hb=>by
 have:=(ok.funs.mem hb).1
 rw[e]at this;cases this
theorem Inv.bs(I:Inv X pins σ H s):∀b o,X.base.get? b=some o->s.heap.get? b=some o/\H b=none:=fun b o e=>
 ⟨I.base.keep b o (I.ok.bs b o e).1 (I.ok.bs b o e).2 (I.ok.nofr e) (I.ok.noex b o e),I.base.free b o (I.ok.bs b o e).1 (I.ok.bs b o e).2 (I.ok.noex b o e)⟩
theorem Inv.bk(I:Inv X pins σ H s):∀b o,X.base.get? b=some o->s.heap.get? b=some o:=fun b o e=>(I.bs b o e).1
theorem Inv.mod(I:Inv X pins σ H s):Mod X.K X.mg X.base:=I.ok.mod
theorem Inv.kIn(I:Inv X pins σ H s):X.K.In s.heap:=I.ok.mod.kin.keeps I.bk
theorem Inv.lt(I:Inv X pins σ H s):X.env.locals<s.heap.objs.size:=let ⟨_,hn,_⟩:=I.loc;hn.lt
theorem Inv.sz(I:Inv X pins σ H s):X.s₀.heap.objs.size<=s.heap.objs.size:=Nat.le_trans I.ok.above (Nat.le_of_lt I.lt)
theorem Inv.nofs(I:Inv X pins σ H s){a:Addr}(h:s.heap.objs.size<=a):a∉X.fs:=fun hb=>by
 obtain⟨_,o,ho,_⟩:=I.ok.funs.mem hb
 exact absurd (Nat.lt_of_lt_of_le (Heap.lt_size ho) (Nat.le_trans I.sz h)) (Nat.lt_irrefl _)
theorem Inv.cne(I:Inv X pins σ H s):∀x c,X.env.cells.lookup x=some c->c≠X.env.locals:=fun x c e z=>by
 obtain⟨v,o,ho,hd⟩:=I.cell x c e
 obtain⟨m,⟨o',es,ep,ho',hd',_⟩,_⟩:=I.loc
 rw[z,ho']at ho;cases ho;rw[hd']at hd;cases hd
theorem Inv.funs(I:Inv X pins σ H s):s.heap.FunFrames X.base X.outer:=by
 have all:∀(l:List Env),(∀b∈frs l,b∈X.fs)->X.s₀.heap.FunFrames X.base l->s.heap.FunFrames X.base l:=by
  intro l
  induction l with
  |nil=>intro _ _;trivial
  |cons env r ih=>
   intro hs hl
   obtain⟨hk,⟨L,o,hf,hn,ho,hd⟩,hr⟩:=hl
   have hL:L∈X.fs:=hs L (by unfold frs;rw[List.filterMap_cons,hf];exact List.mem_cons_self)
   obtain⟨sl,e⟩:=I.base.slot L o ho (I.ok.frf L hL) hL fun z=>I.ok.exfs L z hL
   exact⟨hk,⟨L,_,hf,hn,e,hd⟩,ih (fun b hb=>hs b (by unfold frs;rw[List.filterMap_cons,hf];exact List.mem_cons_of_mem _ hb)) hr⟩
 exact all X.outer (fun _ hb=>hb) I.ok.funs
theorem Inv.stack(I:Inv X pins σ H s):s.heap.FunFrames X.base X.stack:=by
 rcases I.ok.stk with e|⟨e,hf⟩
 ·rw[e];exact I.funs
 ·rw[e]
  obtain⟨m,hn,_⟩:=I.loc
  refine .cons (by rw[I.ok.kind];decide) hf hn ?_ I.funs
  exact Heap.get?_none_of_le (Nat.le_trans I.ok.bsz I.ok.above)
theorem Inv.stkSub(I:Inv X pins σ H s):∀b∈frs X.stack,b∈X.env.locals::X.fs:=fun b hb=>by
 rcases I.ok.stk with e|⟨e,hf⟩
 ·rw[e]at hb;exact List.mem_cons_of_mem _ hb
 ·rw[e]at hb
  unfold frs at hb
  rw[List.filterMap_cons,hf]at hb
  exact hb
theorem Inv.stkFree(I:Inv X pins σ H s):∀b∈frs X.stack,H b=none:=fun b hb=>by
 rcases List.mem_cons.mp (I.stkSub b hb)with e|hb
 ·rw[e];exact I.free
 ·obtain⟨_,o,ho,_⟩:=I.ok.funs.mem hb
  exact I.base.free b o ho (I.ok.frf b hb) fun z=>I.ok.exfs b z hb
theorem Inv.step{g':Array GenState}{t':Nat}{d':Drawn}{ch:List Addr}(I:Inv X pins σ H s)
  (hch:∀b∈ch,(b∈X.ex\/X.s₀.heap.objs.size<=b)/\b≠X.env.locals/\(∀x c,X.env.cells.lookup x=some c->c≠b)/\∀p∈X.pn++pins,p.1≠b)
  (keep:∀b o,b≠X.env.locals->b∉X.fs->b∉ch->s.heap.get? b=some o->H b=none->h'.get? b=some o)
  (slot:∀b o,b≠X.env.locals->b∈X.fs->b∉ch->s.heap.get? b=some o->H b=none->∃sl,h'.get? b=some { o with slots:=sl }) (free:∀b o,b∉ch->s.heap.get? b=some o->H b=none->H' b=none)
  (there:∀b o,b∉ch->s.heap.get? b=some o->∃o',h'.get? b=some o')
  (tups:∀b xs,H b=some (.tup xs)->H' b=some (.tup xs)) (frzs:∀b o u,H b=some (.frz o u)->H' b=some (.frz o u)) (tbls:∀b ps,H b=some (.tbl ps)->∃more,H' b=some (.tbl (ps++more)))
  (ns:∀m,s.heap.Ns X.env.locals m->h'.Ns X.env.locals m) (hok:HOk X.prog X.w H' h') (hg:AllBare g') :
  Inv X pins σ H' { s with heap:=h',gens:=g',drawn:=d',toks:=t' }:=by
 have neL:∀b o,X.s₀.heap.get? b=some o->b≠X.env.locals:=fun b o e=>Nat.ne_of_lt (Nat.lt_of_lt_of_le (Heap.lt_size e) I.ok.above)
 have neC:∀b o,X.s₀.heap.get? b=some o->b∉X.ex->b∉ch:=fun b o e hx hb=>by
  rcases(hch b hb).1 with z|z
  ·exact hx z
  ·exact absurd (Nat.lt_of_lt_of_le (Heap.lt_size e) z) (Nat.lt_irrefl _)
 have cellK:∀x c,X.env.cells.lookup x=some c->∀v,s.heap.IsCell c v->h'.IsCell c v:=fun x c e v ⟨o,ho,hd⟩=>by
  have nch:c∉ch:=fun z=>(hch c z).2.2.1 x c e rfl
  by_cases hc:c∈X.fs
  ·obtain⟨sl,q⟩:=slot c o (I.cne x c e) hc nch ho (I.freeC x c e)
   exact⟨_,q,hd⟩
  ·exact⟨o,keep c o (I.cne x c e) hc nch ho (I.freeC x c e),hd⟩
 refine⟨I.ok,I.os,hg,⟨fun b o e n hb hx=>?_,fun b o e n hb hx=>?_,fun b o e n hx=>?_,fun b o e hx=>?_,fun b xs e=>tups b xs (I.base.tups b xs e),fun b o xs e=>frzs b o xs (I.base.frzs b o xs e),fun b ps e=>?_⟩,?_,fun x c e=>?_,?_,fun x c e=>?_,fun p hp=>?_,hok,I.len⟩
 ·exact keep b o (neL b o e) hb (neC b o e hx) (I.base.keep b o e n hb hx) (I.base.free b o e n hx)
 ·obtain⟨sl,e1⟩:=I.base.slot b o e n hb hx
  obtain⟨sl',e2⟩:=slot b _ (neL b o e) hb (neC b o e hx) e1 (I.base.free b o e n hx)
  exact⟨sl',e2⟩
 ·obtain⟨o',e1⟩:=I.base.there b o e hx
  exact free b o' (neC b o e hx) e1 (I.base.free b o e n hx)
 ·obtain⟨o',e1⟩:=I.base.there b o e hx
  exact there b o' (neC b o e hx) e1
 ·obtain⟨m1,e1⟩:=I.base.tbls b ps e
  obtain⟨m2,e2⟩:=tbls b _ e1
  exact⟨m1++m2,by rw[e2,Array.append_assoc]⟩
 ·obtain⟨m,hn,hl⟩:=I.loc
  refine⟨m,ns m hn,fun i x v e1 e2 e3=>?_⟩
  obtain⟨u,r,l⟩:=hl i x v e1 e2 e3
  refine⟨u,r,?_⟩
  rcases l with l|⟨k,c,e,z⟩
  ·exact .inl l
  ·exact .inr ⟨k,c,e,cellK x c e _ z⟩
 ·obtain⟨v,z⟩:=I.cell x c e
  exact⟨v,cellK x c e v z⟩
 ·obtain⟨m,⟨o,_,_,ho,_⟩,_⟩:=I.loc
  exact free _ o (fun z=>(hch _ z).2.1 rfl) ho I.free
 ·obtain⟨v,o,ho,hd⟩:=I.cell x c e
  exact free c o (fun z=>(hch c z).2.2.1 x c e rfl) ho (I.freeC x c e)
 ·obtain⟨e,n,ne,nf,d⟩:=I.pin p hp
  have nch:p.1∉ch:=fun z=>(hch p.1 z).2.2.2 p hp rfl
  exact⟨keep p.1 p.2 ne nf nch e n,free p.1 p.2 nch e n,ne,nf,d⟩
theorem Inv.un{t':Nat}(I:Inv X pins σ H s)(u:Un X.fs [] H H' s.heap h')(hok:HOk X.prog X.w H' h'):Inv X pins σ H' { s with heap:=h',toks:=t' }:=by
 obtain⟨m,⟨o,es,ep,ho,r⟩,_⟩:=id I.loc
 obtain⟨sl,hL⟩:=u.any ho I.free (by simp)
 exact I.step (g':=s.gens) (d':=s.drawn) (ch:=[]) (fun _ z=>nomatch z) (fun b o _ hb _ e n=>u.keep b o e n hb (by simp)) (fun b o _ hb _ e n=>u.slot b o e n hb (by simp)) (fun b o _ e n=>u.free b o e n (by simp)) (fun b o _ e=>u.there b o e (by simp)) u.tups u.frzs u.tbls (fun m' hm=>by
  obtain⟨o',es',ep',ho',r'⟩:=hm
  rw[ho]at ho';cases ho'
  exact⟨_,es',ep',hL,r'⟩) hok I.bare
theorem Inv.call{g':Array GenState}{t':Nat}{d':Drawn}{ch:List Addr}(I:Inv X pins σ H s)(u:Un (frs X.stack) ch H H' s.heap h')(hok:HOk X.prog X.w H' h')(hg:AllBare g')
  (hch:∀b∈ch,(b∈X.ex\/X.s₀.heap.objs.size<=b)/\b≠X.env.locals/\(∀x c,X.env.cells.lookup x=some c->c≠b)/\∀p∈X.pn++pins,p.1≠b) :
  Inv X pins σ H' { s with heap:=h',gens:=g',drawn:=d',toks:=t' }:=by
 obtain⟨m,⟨o,es,ep,ho,r⟩,_⟩:=id I.loc
 obtain⟨sl,hL⟩:=u.any ho I.free fun z=>(hch _ z).2.1 rfl
 exact I.step (ch:=ch) hch (fun b o hL hb hc e n=>u.keep b o e n (fun z=>(List.mem_cons.mp (I.stkSub b z)).elim hL hb) hc) (fun b o _ _ hc e n=>u.any e n hc) (fun b o hc e n=>u.free b o e n hc) (fun b o hc e=>u.there b o e hc) u.tups u.frzs u.tbls (fun m' hm=>by
  obtain⟨o',es',ep',ho',r'⟩:=hm
  rw[ho]at ho';cases ho'
  exact⟨_,es',ep',hL,r'⟩) hok hg
theorem Inv.turned{t':Nat}{it:Addr}(I:Inv X pins σ H s)(k:∀b o,b≠it->s.heap.get? b=some o->h'.get? b=some o)(hn:H it=none)(hL:it≠X.env.locals)
  (h1:it∈X.ex\/X.s₀.heap.objs.size<=it) (h2:∀x c,X.env.cells.lookup x=some c->c≠it) (h3:∀p∈X.pn++pins,p.1≠it):Inv X pins σ H { s with heap:=h',toks:=t' }:=by
 have nit:∀b u,H b=some u->b≠it:=fun b u e z=>by rw[z,hn]at e;cases e
 refine I.step (g':=s.gens) (d':=s.drawn) (ch:=[it]) (fun b hb=>?_) (fun b o _ _ hc e _=>k b o (fun z=>hc (by simp[z])) e) (fun b o _ _ hc e _=>⟨o.slots,k b o (fun z=>hc (by simp[z])) e⟩) (fun _ _ _ _ n=>n)
  (fun b o hc e=>⟨o,k b o (fun z=>hc (by simp[z])) e⟩) (fun _ _ e=>e) (fun _ _ _ e=>e) (fun b ps e=>⟨#[],by rw[e];simp⟩) (fun m hm=>?_) (fun b u e=>?_) I.bare
 ·have e:b=it:=by simpa using hb
  subst e
  exact⟨h1,hL,h2,h3⟩
 ·obtain⟨o,es,ep,ho,r⟩:=hm
  exact⟨o,es,ep,k _ o (Ne.symm hL) ho,r⟩
 ·refine(I.hok b u e).stay (fun c v hc q=>k c v ?_ q) (fun _ q=>q) fun _ _ q=>q
  rcases hc with z|z
  ·rw[z];exact nit b u e
  ·exact nit c _ z
theorem Inv.tok(I:Inv X pins σ H s)(t:Nat):Inv X pins σ H { s with toks:=t }:=I.un (h':=s.heap) (t':=t) Un.refl I.hok
theorem Inv.kept{t':Nat}(I:Inv X pins σ H s)(k:∀b u,s.heap.get? b=some u->h'.get? b=some u):Inv X pins σ H { s with heap:=h',toks:=t' }:=I.un (Un.kept k) (I.hok.kept k)
theorem Inv.laid{a:Addr}{o:HO}{t':Nat}(I:Inv X pins σ H s)(k:∀b u,s.heap.get? b=some u->h'.get? b=some u)(hp:s.heap.objs.size<=a)(new:cB X.prog X.w (upd H a o) h' a o) :
  Inv X pins σ (upd H a o) { s with heap:=h',toks:=t' }:=I.un (Un.laid k hp (I.hok.fresh hp)) (I.hok.laid k hp new)
theorem Inv.write{x e:Addr}{o:HO}{t':Nat}(I:Inv X pins σ H s)(mu:Mut (H x))(he:e=x\/H e=some (.own x))(k:∀b u,b≠e->s.heap.get? b=some u->h'.get? b=some u)(heo:∃u,h'.get? e=some u)
  (new:cB X.prog X.w (upd H x o) h' x o):Inv X pins σ (upd H x o) { s with heap:=h',toks:=t' }:=I.un (Un.write mu he k heo) (I.hok.write mu he k heo new)
theorem Inv.pins_of{pins':List (Addr×Obj)}(I:Inv X pins σ H s)(h:∀p∈pins',s.heap.get? p.1=some p.2/\H p.1=none/\p.1≠X.env.locals/\p.1∉X.fs/\∀v,p.2.data≠.cell v):Inv X pins' σ H s:=
 ⟨I.ok,I.os,I.bare,I.base,I.loc,I.cell,I.free,I.freeC,fun p hp=>(List.mem_append.mp hp).elim (fun z=>I.pin p (List.mem_append_left _ z)) (h p),I.hok,I.len⟩
theorem tV{N:List Str}(hN:N.Nodup){i j:Nat}{x:Str}(a:N[i]?=some x)(b:N[j]?=some x):i=j:=by
 obtain⟨h1,e1⟩:=List.getElem?_eq_some_iff.mp a
 obtain⟨h2,e2⟩:=List.getElem?_eq_some_iff.mp b
 exact(List.getElem_inj hN).mp (e1.trans e2.symm)
theorem vW{M:Model}{A:Around}{E:Value->Shared->Prop}{i:Nat}{x:Str}{v:V}{u:Value}{Q:Unit->Shared->Prop}(I:Inv X pins σ H s)(hN:X.N.Nodup)(hi:X.N[i]?=some x)(hx:Loc X.env.scope x)(r:dn v u)
  (h:∀s',Inv X pins (σ.set i (some v)) H s'->(∃a,Heap.SameBut a s.heap s'.heap/\(a=X.env.locals\/X.env.cells.lookup x=some a))->Q () s') (hf:X.fn x=true\/X.env.scope.names.lookup x=some .local:=by first|exact .inl rfl|exact .inr rfl|assumption):wpAny M A (storeName X.env x u) Q E s:=by
 obtain⟨m,hn,hl⟩:=id I.loc
 have hcls:(X.env.scope.kind == .class||(X.env.scope.kind == .module&&X.env.locals !=X.env.globals))=false:=by rw[I.ok.kind];rfl
 have hiσ:i < σ.length:=by rw[I.len];exact(List.getElem?_eq_some_iff.mp hi).1
 have cne:=I.cne
 have tracked:∀{a:Addr} {h':Heap},(∃o,s.heap.get? a=some o/\H a=none)->Heap.SameBut a s.heap h'->HOk X.prog X.w H h':=fun{a h'} ha hs b ob e=>by
  obtain⟨_,_,hfree⟩:=ha
  refine(I.hok b ob e).stay (fun c w' hc q=>(hs.2 c ?_).trans q) (fun _ q=>q) fun _ _ q=>q
  rintro rfl
  rcases hc with rfl|hc
  ·rw[hfree]at e;cases e
  ·rw[hfree]at hc;cases hc
 rcases hx with hk|hk
 ·refine wpAny_storeName_local hk hn (fun h' hn' hs=>?_) hcls
  obtain⟨oL,_,_,hoL,_⟩:=id hn
  refine h _ ⟨I.ok,I.os,I.bare,⟨fun b o e n hb hx=>?_,fun b o e n hb hx=>?_,I.base.free,fun b o e hx=>?_,I.base.tups,I.base.frzs,I.base.tbls⟩,⟨_,hn',fun j y v' e1 e2 e3=>?_⟩,fun y c e=>?_,I.free,I.freeC,fun p hp=>?_,tracked ⟨oL,hoL,I.free⟩ hs,by simpa using I.len⟩ ⟨_,hs,.inl rfl⟩
  ·exact(hs.2 b (Nat.ne_of_lt (Nat.lt_of_lt_of_le (Heap.lt_size e) I.ok.above))).trans (I.base.keep b o e n hb hx)
  ·obtain⟨sl,e1⟩:=I.base.slot b o e n hb hx
   exact⟨sl,(hs.2 b (Nat.ne_of_lt (Nat.lt_of_lt_of_le (Heap.lt_size e) I.ok.above))).trans e1⟩
  ·obtain⟨o',e1⟩:=I.base.there b o e hx
   exact⟨o',(hs.2 b (Nat.ne_of_lt (Nat.lt_of_lt_of_le (Heap.lt_size e) I.ok.above))).trans e1⟩
  ·by_cases hj:j=i
   ·subst hj
    rw[hi]at e1;cases e1
    rw[List.getElem?_set_self hiσ]at e2
    cases e2
    exact⟨u,r,.inl ⟨hk,by simp⟩⟩
   ·rw[List.getElem?_set_ne (Ne.symm hj)]at e2
    obtain⟨u',r',q⟩:=hl j y v' e1 e2 e3
    refine⟨u',r',?_⟩
    rcases q with⟨k,e⟩|⟨k,c,e,z⟩
    ·refine .inl ⟨k,?_⟩
     have:y≠x:=fun e=>hj (tV hN e1 (e▸hi))
     simp[this,e]
    ·exact .inr ⟨k,c,e,z.sameBut hs (cne y c e)⟩
  ·obtain⟨w',z⟩:=I.cell y c e
   exact⟨w',z.sameBut hs (cne y c e)⟩
  ·obtain⟨e,n,ne,nf,d⟩:=I.pin p hp
   exact⟨(hs.2 p.1 ne).trans e,n,ne,nf,d⟩
 ·have hfn:X.fn x=true:=by
   rcases hf with z|z
   ·exact z
   ·rw[z]at hk;cases hk
  obtain⟨c,hc⟩:=I.ok.has x (.inl hk)
  obtain⟨w',z⟩:=I.cell x c hc
  refine wpAny_storeName_cell I.ok.kind hk hc z (fun h' hc' hs=>?_)
  obtain⟨oc,hoc,hocd⟩:=id z
  refine h { s with heap:=h' } ⟨I.ok,I.os,I.bare,⟨fun b o e n hb hx=>?_,fun b o e n hb hx=>?_,I.base.free,fun b o e hx=>?_,I.base.tups,I.base.frzs,I.base.tbls⟩,⟨m,hn.sameBut hs (Ne.symm (cne x c hc)),fun j y v' e1 e2 e3=>?_⟩,fun y c' e=>?_,I.free,I.freeC,fun p hp=>?_,tracked ⟨oc,hoc,I.freeC x c hc⟩ hs,by simpa using I.len⟩ ⟨c,hs,.inr hc⟩
  ·exact(hs.2 b (Nat.ne_of_lt (Nat.lt_of_lt_of_le (Heap.lt_size e) (I.ok.cab x c hfn hc)))).trans (I.base.keep b o e n hb hx)
  ·obtain⟨sl,e1⟩:=I.base.slot b o e n hb hx
   exact⟨sl,(hs.2 b (Nat.ne_of_lt (Nat.lt_of_lt_of_le (Heap.lt_size e) (I.ok.cab x c hfn hc)))).trans e1⟩
  ·obtain⟨o',e1⟩:=I.base.there b o e hx
   exact⟨o',(hs.2 b (Nat.ne_of_lt (Nat.lt_of_lt_of_le (Heap.lt_size e) (I.ok.cab x c hfn hc)))).trans e1⟩
  ·by_cases hj:j=i
   ·subst hj
    rw[hi]at e1;cases e1
    rw[List.getElem?_set_self hiσ]at e2
    cases e2
    exact⟨u,r,.inr ⟨.inl hk,c,hc,hc'⟩⟩
   ·rw[List.getElem?_set_ne (Ne.symm hj)]at e2
    obtain⟨u',r',q⟩:=hl j y v' e1 e2 e3
    refine⟨u',r',?_⟩
    rcases q with q|⟨k,c',e,z'⟩
    ·exact .inl q
    ·refine .inr ⟨k,c',e,z'.sameBut hs ?_⟩
     rintro rfl
     exact hj (tV hN e1 (I.ok.inj _ _ _ e hc▸hi))
  ·by_cases hcc:c'=c
   ·subst hcc;exact⟨_,hc'⟩
   ·obtain⟨w2,z2⟩:=I.cell y c' e
    exact⟨w2,z2.sameBut hs hcc⟩
  ·obtain⟨e,n,ne,nf,d⟩:=I.pin p hp
   refine⟨(hs.2 p.1 ?_).trans e,n,ne,nf,d⟩
   intro q
   rw[q,hoc]at e
   have q':oc=p.2:=Option.some.inj e
   exact d w' (by rw[<-q'];exact hocd)
theorem tF{M:Model}{A:Around}{E:Value->Shared->Prop}{i:Nat}{x:Str}{v:V}{u:Value}{Q:Unit->Shared->Prop}(I:Inv X pins σ H s)(hN:X.N.Nodup)(hi:X.N[i]?=some x)(hx:Loc X.env.scope x)(r:dn v u)
  (h:∀s',Inv X pins (σ.set i (some v)) H s'->Q () s') (hf:X.fn x=true\/X.env.scope.names.lookup x=some .local:=by first|exact .inl rfl|exact .inr rfl|assumption):wpAny M A (storeName X.env x u) Q E s:=
 vW I hN hi hx r (fun s' I' _=>h s' I') hf
theorem Inv.call'{s':Shared}{ch:List Addr}(I:Inv X pins σ H s)(ho:s'.os=s.os)(u:Un (frs X.stack) ch H H' s.heap s'.heap)(hok:HOk X.prog X.w H' s'.heap)(hg:AllBare s'.gens)
  (hch:∀b∈ch,(b∈X.ex\/X.s₀.heap.objs.size<=b)/\b≠X.env.locals/\(∀x c,X.env.cells.lookup x=some c->c≠b)/\∀p∈X.pn++pins,p.1≠b):Inv X pins σ H' s':=by
 obtain⟨h',g',d',t',o'⟩:=s'
 have e:o'=s.os:=ho
 subst e
 exact I.call (g':=g') (t':=t') (d':=d') u hok hg hch
end
abbrev XK:=Value->Option Addr->Hp->Prop
abbrev St:=List (Option V)
abbrev VK:=V->Hp->Prop
abbrev TE:=St->Hp->VK->Prop
abbrev TT:=St->Hp->(Bool->Hp->Prop)->Prop
abbrev TA:=St->Hp->(List V->Hp->Prop)->Prop
structure vq where
 nx:St->Hp->Prop
 rt:VK
 bk:St->Hp->Prop:=fun _ _=>False
 ct:St->Hp->Prop:=fun _ _=>False
abbrev TS:=vq->St->Hp->Prop
def EP(X:Cx)(pins:List (Addr×Obj))(σ:St)(Q:VK)(u:Value)(s':Shared):Prop:=∃v H',Inv X pins σ H' s'/\dn v u/\Q v H'
def TP(X:Cx)(pins:List (Addr×Obj))(σ:St)(Q:Bool->Hp->Prop)(b:Bool)(s':Shared):Prop:=∃H',Inv X pins σ H' s'/\Q b H'
def AP(X:Cx)(pins:List (Addr×Obj))(σ:St)(Q:List V->Hp->Prop)(us:List Value)(s':Shared):Prop:=∃vs H',Inv X pins σ H' s'/\cg vs us/\Q vs H'
def SP(X:Cx)(pins:List (Addr×Obj))(D:vq)(f:Flow)(s':Shared):Prop:=
 match f with
 |.next=>∃σ' H',Inv X pins σ' H' s'/\D.nx σ' H'
 |.brk=>∃σ' H',Inv X pins σ' H' s'/\D.bk σ' H'
 |.cont=>∃σ' H',Inv X pins σ' H' s'/\D.ct σ' H'
 |.ret u=>∃v σ' H',Inv X pins σ' H' s'/\dn v u/\D.rt v H'
def PE(X:Cx)(e:Expr)(t:TE):Prop:=
 ∀(pins:List (Addr×Obj)) (s:Shared) (σ:St) (H:Hp) (Q:VK),Inv X pins σ H s->t σ H Q->wpAny (model X.prog X.w) X.A (eval e X.env) (EP X pins σ Q) X.xe s
def PT(X:Cx)(e:Expr)(t:TT):Prop:=
 ∀(pins:List (Addr×Obj)) (s:Shared) (σ:St) (H:Hp) (Q:Bool->Hp->Prop),Inv X pins σ H s->t σ H Q->wpAny (model X.prog X.w) X.A (isTrue e X.env (eval e X.env)) (TP X pins σ Q) X.xe s
def PW(X:Cx)(e:Expr)(t:TT):Prop:=
 ∀(whole:Sem Value) (pins:List (Addr×Obj)) (s:Shared) (σ:St) (H:Hp) (Q:Bool->Hp->Prop),Inv X pins σ H s->t σ H Q->wpAny (model X.prog X.w) X.A (isTrue e X.env whole) (TP X pins σ Q) X.xe s
theorem PW.pt{X:Cx}{e:Expr}{t:TT}(h:PW X e t):PT X e t:=h _
def PA(X:Cx)(es:List Expr)(t:TA):Prop:=
 ∀(pos:Pos) (pins:List (Addr×Obj)) (s:Shared) (σ:St) (H:Hp) (Q:List V->Hp->Prop),Inv X pins σ H s->t σ H Q->wpAny (model X.prog X.w) X.A (spliced (backTo pos (starEach es X.env))) (AP X pins σ Q) X.xe s
def PS(X:Cx)(st:Stmt)(t:TS):Prop:=
 ∀(pins:List (Addr×Obj)) (s:Shared) (σ:St) (H:Hp) (D:vq),Inv X pins σ H s->t D σ H->wpAny (model X.prog X.w) X.A (exec st X.env) (SP X pins D) X.xe s
def PSs(X:Cx)(st:List Stmt)(t:TS):Prop:=
 ∀(pins:List (Addr×Obj)) (s:Shared) (σ:St) (H:Hp) (D:vq),Inv X pins σ H s->t D σ H->wpAny (model X.prog X.w) X.A (execs st X.env) (SP X pins D) X.xe s
theorem thn{α:Type}{t:Sem α}{Q Q':α->Shared->Prop}{M:Model}{A:Around}{E:Value->Shared->Prop}{s:Shared}(h:wpAny M A t Q E s)(hQ:∀a s,Q a s->Q' a s):wpAny M A t Q' E s:=wpAny_mono h hQ fun _ _ x=>x
section
variable{X:Cx}
def GS(i:Nat):TE:=fun σ H Q=>∃v,σ[i]?=some (some v)/\Q v H
def tC(v:V):TE:=fun _ H Q=>Q v H
theorem Fp{i:Nat}{x:Str}{pos:Pos}(hN:X.N[i]?=some x)(hv:Vis X.env.scope x)(hd:(x == ("__debug__":Str))=false:=by decide)(hcd:(x == ("__classdict__":Str))=false:=by decide):PE X (.Name x pos) (GS i):=by
 intro pins s σ H Q I h
 obtain⟨v,e,h⟩:=h
 obtain⟨m,hn,hl⟩:=I.loc
 obtain⟨u,r,l⟩:=hl i x v hN e hv
 have fin:EP X pins σ Q u s:=⟨v,H,I,r,h⟩
 rcases l with⟨hk,hm⟩|⟨hk,c,hc,hcell⟩
 ·exact wpAny_Name (wpAny_loadName_local I.ok.kind hk hn hm fin) hd
 ·rcases hk with hk|hk
  ·exact wpAny_Name (wpAny_loadName_cell I.ok.kind hk hc hcell fin) hd
  ·exact wpAny_Name (wpAny_loadName_free I.ok.kind hk hc hcell fin hcd) hd
theorem Fx{i j pos}:PE X (.Constant (.int i) j pos) (tC (.int i)):=fun _ _ _ H _ I h=>wpAny_Constant_int ⟨.int i,H,I.tok _,⟨_,rfl⟩,h⟩
theorem I0{b j pos}:PE X (.Constant (.bool b) j pos) (tC (.bl b)):=fun _ _ _ H _ I h=>Constant_bool ⟨.bl b,H,I,rfl,h⟩
theorem Fv{j pos}:PE X (.Constant .none j pos) (tC .non):=fun _ _ _ H _ I h=>Constant_none ⟨.non,H,I,rfl,h⟩
theorem Fs{x j pos}:PE X (.Constant (.str x) j pos) (tC (.str x)):=fun _ _ _ H _ I h=>Calls.Constant_str ⟨.str x,H,I.tok _,⟨_,rfl⟩,h⟩
def Gl(X:Cx)(x:Str):Prop:=X.env.kindOf x=some .globalImplicit
theorem wU{E:Value->Shared->Prop}{pins:List (Addr×Obj)}{s:Shared}{σ:St}{H:Hp}{x:Str}{u:Value}{pos:Pos}{Q:Value->Shared->Prop}(I:Inv X pins σ H s)(hg:Gl X x)(hm:X.mg x=some u)(h:Q u s)
  (hd:(x == ("__debug__":Str))=false:=by decide):wpAny (model X.prog X.w) X.A (eval (.Name x pos) X.env) Q E s:=
 Calls.Name_function_global I.ok.kind hg (Calls.loadGlobal_global (by rw[I.ok.glob];exact I.mod.glob.keeps I.bk) hm h) hd
theorem mY{E:Value->Shared->Prop}{pins:List (Addr×Obj)}{s:Shared}{σ:St}{H:Hp}{x:Str}{u:Value}{pos:Pos}{Q:Value->Shared->Prop}(I:Inv X pins σ H s)(hg:Gl X x)(hm:X.mg x=none)(hv:bootBuiltins x=some u)(h:Q u s)
  (hn:x≠"__name__":=by decide) (hd:(x == ("__debug__":Str))=false:=by decide):wpAny (model X.prog X.w) X.A (eval (.Name x pos) X.env) Q E s:=by
 obtain⟨mb,h1,h2⟩:=I.mod.blt
 exact Calls.Name_function_global I.ok.kind hg (Calls.loadGlobal_builtin (by rw[I.ok.glob];exact I.mod.glob.keeps I.bk) hm (by rw[I.ok.blt];exact h1.keeps I.bk) ((h2 x hn).trans hv) h) hd
theorem CK{x:Str}{v:V}{u:Value}{pos:Pos}(hg:Gl X x)(hm:X.mg x=none)(hv:bootBuiltins x=some u)(r:dn v u)(hn:x≠"__name__":=by decide)(hd:(x == ("__debug__":Str))=false:=by decide):PE X (.Name x pos) (tC v):=
 fun _ _ _ H _ I h=>mY I hg hm hv ⟨v,H,I,r,h⟩ hn hd
variable{a b:Expr}{ta tb:TE}{pos:Pos}
def PC(X:Cx)(op:CmpOp)(a b:Expr)(t:TE):Prop:=
 ∀(pins:List (Addr×Obj)) (s:Shared) (σ:St) (H:Hp) (Q:VK),Inv X pins σ H s->t σ H Q->
  wpAny (model X.prog X.w) X.A (eval a X.env) (fun v s₁=>wpAny (model X.prog X.w) X.A (eval b X.env) (fun u s₂=>wpAny (model X.prog X.w) X.A (compareOp op v u) (EP X pins σ Q) X.xe s₂) X.xe s₁) X.xe s
def tB(t:TE):TT:=fun σ H Q=>t σ H fun x H1=>∃c,x=.bl c/\Q c H1
theorem Fz{op:CmpOp}{t:TE}(h:PC X op a b t)(h1:behindInMarks op b=false:=by first|exact nobehind _ (by decide) (by decide)|rfl):PE X (.Compare a [op] [b] pos) t:=fun pins s σ H Q I hw=>wpAny_Compare1 (h pins s σ H Q I hw) h1
theorem Fe{op:CmpOp}{t:TE}(h:PC X op a b t)(h1:behindInMarks op b=false:=by first|exact nobehind _ (by decide) (by decide)|rfl):PT X (.Compare a [op] [b] pos) (tB t):=by
 intro pins s σ H Q I hw
 refine wpAny_isTrue_Compare1 (thn (h pins s σ H _ I hw) fun v s1 h1=>thn h1 fun u s2 h2=>thn h2 fun c s3 hz=>?_) h1
 obtain⟨x,H1,I1,r1,q1⟩:=hz
 obtain⟨d,rfl,q⟩:=q1
 cases r1
 exact wpAny_truthy_bool ⟨H1,I1,q⟩
theorem Fc{e:Expr}{t:TE}(h:PE X e t)(he:∀whole,isTrue e X.env whole=(do let v <-whole;standAt e.pos;holding [v] (truthy v)):=by intro _;rfl):PT X e (tB t):=by
 intro pins s σ H Q I hw
 refine isTrue_plain (thn (h pins s σ H _ I hw) fun v s1 ⟨x,H1,I1,r1,q1⟩=>?_) (he _)
 obtain⟨d,rfl,q⟩:=q1
 cases r1
 exact wpAny_truthy_bool ⟨H1,I1,q⟩
variable{tA tB':TT}{rest:List Expr}
def J1(t u:TT):TT:=fun σ H Q=>t σ H fun c H1=>if c=true then u σ H1 Q else Q false H1
def tOr(t u:TT):TT:=fun σ H Q=>t σ H fun c H1=>if c=true then Q true H1 else u σ H1 Q
def JX(t:TT):TT:=fun σ H Q=>t σ H fun c H1=>Q (!c) H1
theorem Cm(ha:PT X a tA):PW X (.BoolOp .And [a] pos) tA:=by
 intro wh pins s σ H Q I h
 refine isTrue_and (thn (ha pins s σ H Q I h) fun c s1 e=>?_)
 cases c with
 |true=>exact isTrue_and_nil e
 |false=>exact e
theorem E9(ha:PT X a tA):PW X (.BoolOp .Or [a] pos) tA:=by
 intro wh pins s σ H Q I h
 refine isTrue_or (thn (ha pins s σ H Q I h) fun c s1 e=>?_)
 cases c with
 |false=>exact isTrue_or_nil e
 |true=>exact e
theorem Fb(ha:PT X a tA)(hb:PW X (.BoolOp .And (b::rest) pos) tB'):PW X (.BoolOp .And (a::b::rest) pos) (J1 tA tB'):=by
 intro wh pins s σ H Q I h
 refine isTrue_and (thn (ha pins s σ H _ I h) fun c s1 ⟨H1,I1,q1⟩=>?_)
 cases c with
 |true=>exact hb wh pins s1 σ H1 Q I1 q1
 |false=>exact⟨H1,I1,q1⟩
theorem IT(ha:PT X a tA)(hb:PW X (.BoolOp .Or (b::rest) pos) tB'):PW X (.BoolOp .Or (a::b::rest) pos) (tOr tA tB'):=by
 intro wh pins s σ H Q I h
 refine isTrue_or (thn (ha pins s σ H _ I h) fun c s1 ⟨H1,I1,q1⟩=>?_)
 cases c with
 |true=>exact⟨H1,I1,q1⟩
 |false=>exact hb wh pins s1 σ H1 Q I1 q1
theorem Fd(ha:PT X a tA):PT X (.UnaryOp .Not a pos) (JX tA):=by
 intro pins s σ H Q I h
 exact isTrue_not (ha pins s σ H (fun c H1=>Q (!c) H1) I h)
def EV(ta tb:TE):TE:=fun σ H Q=>ta σ H fun x H1=>∃c,x=.bl c/\if c=true then tb σ H1 Q else Q (.bl false) H1
def EI(ta:TE):TE:=fun σ H Q=>ta σ H fun x H1=>∃c,x=.bl c/\Q (.bl (!c)) H1
theorem Ft{op}{t:TE}(h:PE X a t):PE X (.BoolOp op [a] pos) t:=fun pins s σ H Q I hw=>BoolOp_one (h pins s σ H Q I hw)
theorem FA(ha:PE X a ta)(hb:PE X (.BoolOp .And (b::rest) pos) tb):PE X (.BoolOp .And (a::b::rest) pos) (EV ta tb):=by
 intro pins s σ H Q I h
 refine BoolOp_and (thn (ha pins s σ H _ I h) fun v s1 hz=>?_)
 obtain⟨x,H1,I1,r1,q1⟩:=hz
 obtain⟨c,rfl,q1⟩:=q1
 cases r1
 refine wpAny_truthy_bool ?_
 cases c with
 |true=>exact hb pins s1 σ H1 Q I1 q1
 |false=>exact⟨.bl false,H1,I1,rfl,q1⟩
theorem Fu(ha:PE X a ta):PE X (.UnaryOp .Not a pos) (EI ta):=by
 intro pins s σ H Q I h
 refine UnaryOp_ (thn (ha pins s σ H _ I h) fun v s1 hz=>?_)
 obtain⟨x,H1,I1,r1,q1⟩:=hz
 obtain⟨c,rfl,q1⟩:=q1
 cases r1
 exact not_of (wpAny_truthy_bool ⟨.bl (!c),H1,I1,rfl,q1⟩)
end
def SqL(K:PySem.W.Frag)(H:Hp)(a:Addr)(xs:List V):Prop:=
 Rd H a (.lst xs)\/
  ∃(o:Obj) (its:Array Value) (n:Nat),K.lookup a=some o/\o.cls=.type "list"/\o.dict=none/\o.data=.seq its n/\its.size<=sizeLine/\cg xs its.toList
def SqT(K:PySem.W.Frag)(H:Hp)(a:Addr)(xs:List V):Prop:=
 Rd H a (.tup xs)\/
  ∃(o:Obj) (its:Array Value) (n:Nat),K.lookup a=some o/\o.cls=.type "tuple"/\o.data=.seq its n/\its.size<=sizeLine/\cg xs its.toList
def Lc:Value->Option V
 |.none=>some .non
 |.bool b=>some (.bl b)
 |.int i _=>some (.int i)
 |.str x _=>some (.str x)
 |.bytes b _=>some (.byt b)
 |.float b _=>some (.flt b)
 |.ref a=>some (.ref a)
 |.type n=>some (.ty n)
 |_=>none
theorem dn.abs{x:V}{u:Value}(r:dn x u):Lc u=some x:=by
 cases x with
 |non=>cases r;rfl
 |bl _=>cases r;rfl
 |int _=>obtain⟨t,rfl⟩:=r;rfl
 |str _=>obtain⟨t,rfl⟩:=r;rfl
 |byt _=>obtain⟨t,rfl⟩:=r;rfl
 |flt _=>obtain⟨t,rfl⟩:=r;rfl
 |ref _=>cases r;rfl
 |ty _=>cases r;rfl
theorem dn.inj{x y:V}{u:Value}(r:dn x u)(q:dn y u):x=y:=Option.some.inj (r.abs.symm.trans q.abs)
theorem cg.inj:∀{xs ys:List V} {us:List Value},cg xs us->cg ys us->xs=ys
 |_,_,_,.nil,.nil=>rfl
 |_,_,_,.cons r t,.cons r' t'=>by rw[r.inj r',cg.inj t t']
section
variable{X:Cx}{pins:List (Addr×Obj)}{σ:St}{H:Hp}{s:Shared}{a:Addr}{xs ys:List V}
theorem SqL.of{K:PySem.W.Frag}(h:H a=some (.lst xs)):SqL K H a xs:=.inl (.inl h)
theorem SqT.of{K:PySem.W.Frag}(h:H a=some (.tup xs)):SqT K H a xs:=.inl (.inl h)
theorem Inv.list(I:Inv X pins σ H s)(h:SqL X.K H a xs):∃its:List Value,cg xs its/\PlainL s.heap a its.toArray/\xs.length<=sizeLine:=by
 rcases h with h|⟨o,its,n,hk,hc,hd,hs,hz,r⟩
 ·obtain⟨z,its,n,r,e⟩:=h.ok I.hok
  exact⟨its,r,⟨_,n,e,rfl,rfl,rfl⟩,z⟩
 ·refine⟨its.toList,r,⟨o,n,I.kIn a o hk,hc,hd,by simpa using hs⟩,?_⟩
  have e:=r.length
  simp only[Array.length_toList]at e
  omega
theorem Inv.tuple(I:Inv X pins σ H s)(h:SqT X.K H a xs):∃its:List Value,cg xs its/\IsTup s.heap a its.toArray/\xs.length<=sizeLine:=by
 rcases h with h|⟨o,its,n,hk,hc,hs,hz,r⟩
 ·obtain⟨z,its,r,p⟩:=h.ok I.hok
  exact⟨its,r,p,z⟩
 ·refine⟨its.toList,r,⟨o,I.kIn a o hk,hc,n,by simpa using hs⟩,?_⟩
  have e:=r.length
  simp only[Array.length_toList]at e
  omega
theorem Inv.list_inj(I:Inv X pins σ H s)(h:SqL X.K H a xs)(h':SqL X.K H a ys):xs=ys:=by
 obtain⟨its,r,⟨o,n,e,_,_,d⟩,_⟩:=I.list h
 obtain⟨its',r',⟨o',n',e',_,_,d'⟩,_⟩:=I.list h'
 rw[e]at e';cases e'
 rw[d]at d'
 injection d' with d1 _
 have:its=its':=by simpa using congrArg Array.toList d1
 subst this
 exact r.inj r'
theorem Inv.tuple_inj(I:Inv X pins σ H s)(h:SqT X.K H a xs)(h':SqT X.K H a ys):xs=ys:=by
 obtain⟨its,r,⟨o,e,_,n,d⟩,_⟩:=I.tuple h
 obtain⟨its',r',⟨o',e',_,n',d'⟩,_⟩:=I.tuple h'
 rw[e]at e';cases e'
 rw[d]at d'
 injection d' with d1 _
 have:its=its':=by simpa using congrArg Array.toList d1
 subst this
 exact r.inj r'
end
abbrev Cx.wish(X:Cx)(E:Value->Shared->Prop):Cx:={ X with xe:=E }
abbrev Cx.nox(X:Cx):Cx:=X.wish fun _ _=>False
theorem Cx.Ok.wish{X:Cx}(ok:X.Ok)(E:Value->Shared->Prop):(X.wish E).Ok:=
 ⟨ok.mod,ok.kind,ok.glob,ok.blt,ok.above,ok.inj,ok.has,ok.cab,ok.hd,ok.frames,ok.stk,ok.exf,ok.bs,ok.bsz,ok.noex,ok.exfs,ok.funs,ok.frf⟩
theorem Cx.Ok.unwish{X:Cx}{E:Value->Shared->Prop}(ok:(X.wish E).Ok):X.Ok:=
 ⟨ok.mod,ok.kind,ok.glob,ok.blt,ok.above,ok.inj,ok.has,ok.cab,ok.hd,ok.frames,ok.stk,ok.exf,ok.bs,ok.bsz,ok.noex,ok.exfs,ok.funs,ok.frf⟩
section
variable{X:Cx}{pins:List (Addr×Obj)}{σ:St}{H:Hp}{s:Shared}{E:Value->Shared->Prop}
theorem Inv.wish(I:Inv X pins σ H s)(E:Value->Shared->Prop):Inv (X.wish E) pins σ H s:=⟨I.ok.wish E,I.os,I.bare,I.base,I.loc,I.cell,I.free,I.freeC,I.pin,I.hok,I.len⟩
theorem Inv.unwish(I:Inv (X.wish E) pins σ H s):Inv X pins σ H s:=⟨I.ok.unwish,I.os,I.bare,I.base,I.loc,I.cell,I.free,I.freeC,I.pin,I.hok,I.len⟩
theorem SP.unwish{D:vq}{f:Flow}{s':Shared}(h:SP (X.wish E) pins D f s'):SP X pins D f s':=by
 cases f with
 |next=>obtain⟨σ',H',I,q⟩:=h;exact⟨σ',H',I.unwish,q⟩
 |brk=>obtain⟨σ',H',I,q⟩:=h;exact⟨σ',H',I.unwish,q⟩
 |cont=>obtain⟨σ',H',I,q⟩:=h;exact⟨σ',H',I.unwish,q⟩
 |ret u=>obtain⟨v,σ',H',I,r,q⟩:=h;exact⟨v,σ',H',I.unwish,r,q⟩
theorem PSs.nox{st:List Stmt}{t:TS}(h:PSs X.nox st t):PSs X st t:=fun pins s σ H D I hw=>
 wpAny_mono (h pins s σ H D (I.wish _) hw) (fun _ _ q=>q.unwish) fun _ _ z=>False.elim z
end
section
variable{X:Cx}{st:Stmt}{rest:List Stmt}{t u:TS}{e:Expr}{te:TE}{pos:Pos}
def EK:TS:=fun D σ H=>D.nx σ H
def JV(t u:TS):TS:=fun D σ H=>t { D with nx:=u D } σ H
theorem Cp:PSs X [] EK:=fun _ _ σ H _ I h=>wpAny_execs_nil ⟨σ,H,I,h⟩
theorem zb(h1:PS X st t)(h2:PSs X rest u):PSs X (st::rest) (JV t u):=by
 intro pins s σ H D I h
 refine wpAny_execs_cons (thn (h1 pins s σ H { D with nx:=u D } I h) fun f s1 q=>?_)
 cases f with
 |next=>
  obtain⟨σ',H',I',q⟩:=q
  exact h2 pins s1 σ' H' D I' q
 |ret v=>exact q
 |brk=>exact q
 |cont=>exact q
theorem Co(h1:PS X st t):PSs X [st] t:=by
 intro pins s σ H D I h
 refine wpAny_execs_cons (thn (h1 pins s σ H D I h) fun f s1 q=>?_)
 cases f with
 |next=>exact wpAny_execs_nil q
 |ret v=>exact q
 |brk=>exact q
 |cont=>exact q
theorem Inv.quiet{pins:List (Addr×Obj)}{σ:St}{H:Hp}{s:Shared}(I:Inv X pins σ H s):interactive X.env=false:=by simp[interactive,I.ok.kind]
def EN(te:TE):TS:=fun D σ H=>te σ H fun _ H1=>D.nx σ H1
theorem Cq(he:PE X e te)(hs:swapsWith e none pos.line X.env=pure false:=by rfl):PS X (.Expr e pos) (EN te):=by
 intro pins s σ H D I h
 exact wpAny_Expr_any (thn (he pins s σ H _ I h) fun v s1 ⟨x,H1,I1,r1,q1⟩=>⟨σ,H1,I1,q1⟩) I.quiet hs
def JW(te:TE):TS:=fun D σ H=>te σ H D.rt
theorem Fg(he:PE X e te):PS X (.Return (some e) pos) (JW te):=by
 intro pins s σ H D I h
 exact wpAny_Return_some (thn (he pins s σ H _ I h) fun v s1 ⟨x,H1,I1,r1,q1⟩=>⟨x,σ,H1,I1,r1,q1⟩)
def JZ(c:TT)(t u:TS):TS:=fun D σ H=>c σ H fun b H1=>if b=true then t D σ H1 else u D σ H1
theorem IU{c:Expr}{a b:List Stmt}{tc:TT}(hc:PT X c tc)(ha:PSs X a t)(hb:PSs X b u):PS X (.If c a b pos) (JZ tc t u):=by
 intro pins s σ H D I h
 refine wpAny_If (thn (hc pins s σ H _ I h) fun d s1 ⟨H1,I1,q1⟩=>?_)
 cases d with
 |true=>exact ha pins s1 σ H1 D I1 q1
 |false=>exact hb pins s1 σ H1 D I1 q1
end
abbrev TG:=V->St->Hp->(St->Hp->Prop)->Prop
abbrev TGs:=List V->St->Hp->(St->Hp->Prop)->Prop
def PG(X:Cx)(target:Expr)(t:TG):Prop:=
 ∀(pins:List (Addr×Obj)) (s:Shared) (σ:St) (H:Hp) (v:V) (u:Value) (Q:St->Hp->Prop),Inv X pins σ H s->dn v u->t v σ H Q->
  wpAny (model X.prog X.w) X.A (assign target X.env u) (fun _ s'=>∃σ' H',Inv X pins σ' H' s'/\Q σ' H') X.xe s
def PGs(X:Cx)(ts:List Expr)(t:TGs):Prop:=
 ∀(pins:List (Addr×Obj)) (s:Shared) (σ:St) (H:Hp) (vs:List V) (us:List Value) (Q:St->Hp->Prop),Inv X pins σ H s->cg vs us->t vs σ H Q->
  wpAny (model X.prog X.w) X.A (assignInOrder ((assignEach ts X.env).map (·.2)) us) (fun _ s'=>∃σ' H',Inv X pins σ' H' s'/\Q σ' H') X.xe s
abbrev Hc:=V->V->V->Hp->(Hp->Prop)->Prop
def JP(X:Cx)(t:Hc):Prop:=
 ∀(pins:List (Addr×Obj)) (s:Shared) (σ:St) (H:Hp) (o i v:V) (ov iv u:Value) (Q:Hp->Prop),Inv X pins σ H s->dn o ov->dn i iv->dn v u->t o i v H Q->
  wpAny (model X.prog X.w) X.A (setItem ov iv u) (fun _ s'=>∃H',Inv X pins σ H' s'/\Q H') X.xe s
section
variable{X:Cx}{pos:Pos}
def uX(i:Nat):TG:=fun v σ H Q=>Q (σ.set i (some v)) H
theorem Cz{i:Nat}{x:Str}(hN:X.N.Nodup)(hi:X.N[i]?=some x)(hx:Loc X.env.scope x)(hf:X.fn x=true\/X.env.scope.names.lookup x=some .local:=by first|exact .inl rfl|exact .inr rfl|assumption):PG X (.Name x pos) (uX i):=by
 intro pins s σ H v u Q I r h
 exact wpAny_assign_Name (tF I hN hi hx r (fun s' I'=>⟨_,H,I',h⟩) hf)
def Kk:TGs:=fun vs σ H Q=>vs=[]/\Q σ H
def Gq(t:TG)(u:TGs):TGs:=fun vs σ H Q=>∃v r,vs=v::r/\t v σ H fun σ' H'=>u r σ' H' Q
theorem Cy:PGs X [] Kk:=by
 intro pins s σ H vs us Q I r h
 obtain⟨e,h⟩:=h
 subst e
 cases r
 exact assignInOrder_nil ⟨σ,H,I,h⟩
theorem zg{e:Expr}{es:List Expr}{t:TG}{u:TGs}(h1:PG X e t)(h2:PGs X es u)
  (hs:(assignEach (e::es) X.env).map (·.2)=assign e X.env::(assignEach es X.env).map (·.2):=by rfl):PGs X (e::es) (Gq t u):=by
 intro pins s σ H vs us Q I r h
 obtain⟨v,vr,e1,h⟩:=h
 subst e1
 cases r with
 |cons r rr=>
  rw[hs]
  refine assignInOrder_cons (thn (h1 pins s σ H _ _ _ I r h) fun _ s1 hz=>?_)
  obtain⟨σ1,H1,I1,q1⟩:=hz
  exact h2 pins s1 σ1 H1 _ _ Q I1 rr q1
def Ki(K:PySem.W.Frag)(n:Nat)(t:TGs):TG:=fun v σ H Q=>∃a xs,v=.ref a/\SqT K H a xs/\xs.length=n/\t xs σ H Q
theorem Fm{es:List Expr}{k:Nat}{t:TGs}{n:Nat}(hc:X.calm=true)(h:PGs X es t)
  (hn:(assignEach es X.env).length=n:=by rfl) (hst:(assignEach es X.env).findIdx? (·.1)=none:=by rfl):PG X (.Tuple es k pos) (Ki X.K n t):=by
 intro pins s σ H v u Q I r hw
 obtain⟨a,xs,e1,hq,hl,hw⟩:=hw
 subst e1
 cases r
 obtain⟨its,rv,ht,hz⟩:=I.tuple hq
 refine assign_Tuple_tuple (I.ok.hd hc) ht (by simp[hn,<-hl,rv.length]) hst fun h' hx=>?_
 have I1:Inv X pins σ H { s with heap:=h' }:=I.kept (t':=s.toks) fun b o e=>hx b o (Nat.ne_of_lt (Heap.lt_size e)) e
 exact h pins _ σ H xs _ Q I1 (by simpa using rv) hw
def Kj(to ti:TE)(t:Hc):TG:=fun v σ H Q=>to σ H fun o H1=>ti σ H1 fun i H2=>t o i v H2 fun H3=>Q σ H3
theorem Fo{o i:Expr}{to ti:TE}{t:Hc}(ho:PE X o to)(hi:PE X i ti)(hs:JP X t)
  (ha:∀v,assign (.Subscript o i pos) X.env v=(do
   let ov <-holding [v] (eval o X.env)
   let iv <-holding [v,ov] (eval i X.env)
   standAt pos
   holding [v,ov,iv] (setItem ov iv v)
   release [v,ov,iv] []):=by intro _;rfl):PG X (.Subscript o i pos) (Kj to ti t):=by
 intro pins s σ H v u Q I r h
 rw[ha]
 refine wpAny_bind (wpAny_holding (thn (ho pins s σ H _ I h) fun ov s1 hz=>?_))
 obtain⟨x,H1,I1,r1,q1⟩:=hz
 refine wpAny_bind (wpAny_holding (thn (hi pins s1 σ H1 _ I1 q1) fun iv s2 hz=>?_))
 obtain⟨y,H2,I2,r2,q2⟩:=hz
 refine wpAny_bind (wpAny_standAt (wpAny_bind (wpAny_holding (thn (hs pins s2 σ H2 x y v ov iv u _ I2 r1 r2 r q2) fun _ s3 ⟨H3,I3,q3⟩=>?_))))
 exact wpAny_release ⟨σ,H3,I3,q3⟩
def EU(te:TE)(g:TG):TS:=fun D σ H=>te σ H fun x H1=>g x σ H1 D.nx
theorem Fj{tg e:Expr}{te:TE}{g:TG}(he:PE X e te)(hg:PG X tg g)(hs:swapsWithSole [tg] e pos.line X.env=pure false:=by rfl)(hw:swappedStores [tg] e X.env=pure none:=by rfl)
  (h1:(assignEach [tg] X.env).map (·.2)=[assign tg X.env]:=by rfl):PS X (.Assign [tg] e pos) (EU te g):=by
 intro pins s σ H D I h
 refine wpAny_Assign_stores (thn (he pins s σ H _ I h) fun v s1 hz=>?_) hs hw
 obtain⟨x,H1,I1,r1,q1⟩:=hz
 rw[h1]
 exact thn (hg pins s1 σ H1 x v _ I1 r1 q1) fun _ s2 q=>q
theorem Ff{i:Nat}{x:Str}{e:Expr}{te:TE}{pos':Pos}(hN:X.N.Nodup)(hi:X.N[i]?=some x)(hx:Loc X.env.scope x)(he:PE X e te)(hs:swapsWith e (some (.Name x pos')) pos.line X.env=pure false:=by rfl)(hf:X.fn x=true\/X.env.scope.names.lookup x=some .local:=by first|exact .inl rfl|exact .inr rfl|assumption) :
  PS X (.Assign [.Name x pos'] e pos) (EU te (uX i)):=by
 intro pins s σ H D I h
 refine wpAny_Assign_Name (thn (he pins s σ H _ I h) fun v s1 hz=>?_) hs
 obtain⟨y,H1,I1,r1,q1⟩:=hz
 exact tF I1 hN hi hx r1 (fun s2 I2=>⟨_,H1,I2,q1⟩) hf
end
section
variable{X:Cx}{pos:Pos}
def vS(c:TT)(tb:TS):TS:=fun D σ H=>∃W:Nat->St->Hp->Prop,(∃m,W m σ H)/\∀m σ H,W m σ H->
 c σ H fun b H1=>if b=true then ∃N:St->Hp->Prop,(∀σ' H',N σ' H'->∃m',m'<m/\W m' σ' H')/\tb { D with nx:=N,ct:=N,bk:=D.nx } σ H1 else D.nx σ H1
theorem zc{c:Expr}{body:List Stmt}{tc:TT}{tb:TS}(hp:PassesOwn (model X.prog X.w) X.A X.env X.xe)(hc:PT X c tc)(hb:PSs X body tb):PS X (.While c body [] pos) (vS tc tb):=by
 intro pins s σ H D I h
 obtain⟨W,⟨m0,w0⟩,turn⟩:=h
 refine wpAny_While (codeAny_whileLoop (fun n s'=>∃σ' H',Inv X pins σ' H' s'/\W n σ' H') ?_ m0 ⟨σ,H,I,w0⟩)
 rintro n s1 ⟨σ1,H1,I1,w1⟩
 refine wpAny_passesOwn hp (thn (hc pins s1 σ1 H1 _ I1 (turn n σ1 H1 w1)) fun b s2 ⟨H2,I2,q2⟩=>?_)
 cases b with
 |true=>
  obtain⟨N,hN,q2⟩:=q2
  rw[if_pos rfl]
  refine wpAny_passesOwn hp (thn (hb pins s2 σ1 H2 _ I2 q2) fun f s3 q3=>?_)
  cases f with
  |next=>
   obtain⟨σ3,H3,I3,n3⟩:=q3
   obtain⟨m',hm,w3⟩:=hN σ3 H3 n3
   exact⟨m',hm,σ3,H3,I3,w3⟩
  |cont=>
   obtain⟨σ3,H3,I3,n3⟩:=q3
   obtain⟨m',hm,w3⟩:=hN σ3 H3 n3
   exact⟨m',hm,σ3,H3,I3,w3⟩
  |brk=>exact q3
  |ret v=>exact q3
 |false=>
  rw[if_neg Bool.false_ne_true]
  exact wpAny_execs_nil ⟨σ1,H2,I2,q2⟩
end
structure It where
 go:Nat->Hp->Prop
 yld:Nat->Hp->V->Hp->Prop
 stop:Nat->Hp->Prop
def vo(X:Cx)(pins:List (Addr×Obj))(H:Hp)(b:Addr):Prop:=
 H b=none/\b≠X.env.locals/\b∉X.fs/\(b∈X.ex\/X.s₀.heap.objs.size<=b)/\(∀x c,X.env.cells.lookup x=some c->c≠b)/\∀p∈X.pn++pins,p.1≠b
theorem Inv.fpOk{X:Cx}{pins:List (Addr×Obj)}{σ:St}{H H':Hp}{s:Shared}{b:Addr}(I:Inv X pins σ H s)(hb:s.heap.objs.size<=b)(hn:H' b=none):vo X pins H' b:=by
 refine⟨hn,Nat.ne_of_gt (Nat.lt_of_lt_of_le I.lt hb),I.nofs hb,.inr (Nat.le_trans I.sz hb),fun x c e z=>?_,fun p hp z=>?_⟩
 ·obtain⟨v,q⟩:=I.cell x c e
  exact absurd (Nat.lt_of_lt_of_le q.lt (by rw[z];exact hb)) (Nat.lt_irrefl _)
 ·exact absurd (Nat.lt_of_lt_of_le (Heap.lt_size (I.pin p hp).1) (by rw[z];exact hb)) (Nat.lt_irrefl _)
structure DH(P:Program)(w:World)(K:PySem.W.Frag)(tg:Expr)(J:It)(fp:List Addr)(it:Addr)(tn:Nat->Heap->Prop):Prop where
 mem:it∈fp
 obj:∀i h,tn i h->∀b∈fp,∃o,h.get? b=some o/\∀v,o.data≠.cell v
 keep:∀i h h',tn i h->(∀b∈fp,∀o,h.get? b=some o->h'.get? b=some o)->tn i h'
 item:∀(X:Cx),X.prog=P->X.w=w->X.K=K->X.calm=true->∀(i:Nat) (pins:List (Addr×Obj)) (s:Shared) (σ:St) (H:Hp) (E:Value->Shared->Prop),Inv X pins σ H s->(∀b∈fp,vo X pins H b)->tn i s.heap->J.go i H->
  wpAny (model P w) X.A (pyNext (.ref it)) (fun r s1=>∃u,r=some u/\
   wpAny (model P w) X.A (letOwnedTupleGo tg (.ref it) u) (fun _ s2=>∃x H',Inv X pins σ H' s2/\dn x u/\J.yld i H x H'/\tn (i+1) s2.heap/\∀b∈fp,H' b=none) E s1) E s
 done:∀(X:Cx),X.prog=P->X.w=w->X.K=K->X.calm=true->∀(i:Nat) (pins:List (Addr×Obj)) (s:Shared) (σ:St) (H:Hp) (E:Value->Shared->Prop),Inv X pins σ H s->(∀b∈fp,vo X pins H b)->tn i s.heap->J.stop i H->
  wpAny (model P w) X.A (pyNext (.ref it)) (fun r s1=>r=none/\Inv X pins σ H s1) E s
 self:∀(A:Around) (i:Nat) (s:Shared) (Q:Value->Shared->Prop) (E:Value->Shared->Prop),tn i s.heap->Q (.ref it) s->wpAny (model P w) A (pyIter (.ref it)) Q E s
abbrev TI:=St->Hp->(It->Hp->Prop)->Prop
def PIE(X:Cx)(pins:List (Addr×Obj))(σ:St)(tg:Expr)(R:It->Hp->Prop)(itv:Value)(s2:Shared):Prop:=
 ∃(it:Addr) (fp:List Addr) (tn:Nat->Heap->Prop) (J:It) (H':Hp),itv=.ref it/\Inv X pins σ H' s2/\DH X.prog X.w X.K tg J fp it tn/\tn 0 s2.heap/\(∀b∈fp,vo X pins H' b)/\R J H'
def PI(X:Cx)(tg iter:Expr)(wi:TI):Prop:=
 ∀(pins:List (Addr×Obj)) (s:Shared) (σ:St) (H:Hp) (R:It->Hp->Prop),Inv X pins σ H s->wi σ H R->
  wpAny (model X.prog X.w) X.A (eval iter X.env) (fun v s1=>wpAny (model X.prog X.w) X.A (pyIter v) (PIE X pins σ tg R) X.xe s1) X.xe s
theorem xp {M : Model} {A : Around} {E : Value -> Shared -> Prop} {s : Shared} {tg : Expr} {it : Addr} {u : Value} {o : Obj} {n : String} {vs : Array Value} {Q : Unit -> Shared -> Prop} (ho : s.heap.get? it = some o) (hc : o.cls = .type n) (hd : o.data = .fields vs)
    (hn:["enumerate","zip","dict_itemiterator","dict_reverseitemiterator","odict_iterator","itertools.zip_longest","itertools.pairwise"].contains n=false) (hQ:Q () s):wpAny M A (letOwnedTupleGo tg (.ref it) u) Q E s:=by
  unfold letOwnedTupleGo
  cases tg<;>first
    |exact wpAny_pure hQ
    | (cases u <;> first
        |exact wpAny_pure hQ
        | (refine wpAny_bind (wpAny_load ho ?_)
           rw[hc,hd]
           show wpAny M A (if (["enumerate","zip","dict_itemiterator","dict_reverseitemiterator","odict_iterator","itertools.zip_longest","itertools.pairwise"].contains n&&vs[0]? == some (rawInt _))=true then _ else _) Q E s
           rw[if_neg (by intro h;rw[hn,Bool.false_and]at h;cases h)]
           exact wpAny_pure hQ))
def Itl(K:PySem.W.Frag)(a:Addr):It:=
 ⟨fun i H=>∃xs x,SqL K H a xs/\xs[i]?=some x,fun i H x H'=>H'=H/\∀xs,SqL K H a xs->xs[i]?=some x,fun i H=>∃xs,SqL K H a xs/\xs.length<=i⟩
def Itt(K:PySem.W.Frag)(a:Addr):It:=
 ⟨fun i H=>∃xs x,SqT K H a xs/\xs[i]?=some x,fun i H x H'=>H'=H/\∀xs,SqT K H a xs->xs[i]?=some x,fun i H=>∃xs,SqT K H a xs/\xs.length<=i⟩
def Itr(lo:Int)(n:Nat):It:=⟨fun i _=>i<n,fun i H x H'=>H'=H/\x=.int (lo+i),fun i _=>n<=i⟩
theorem vO{P:Program}{w:World}{K:PySem.W.Frag}{tg:Expr}(a it:Addr):DH P w K tg (Itl K a) [it] it (fun i h=>h.IsListIter it a i) where
 mem:=by simp
 obj:=fun i h st b hb=>by
  have e:b=it:=by simpa using hb
  subst e
  obtain⟨o,e,c,d⟩:=st
  exact⟨o,e,fun v z=>by rw[d]at z;cases z⟩
 keep:=fun i h h' st k=>st.at fun o e=>k it (by simp) o e
 item:=by
  intro X hP hw hK hc i pins s σ H E I hf st hg
  subst hP hw hK
  obtain⟨xs,x,hq,hx⟩:=hg
  obtain⟨its,rv,p,hz⟩:=I.list hq
  obtain⟨u,hu,ru⟩:=rv.get hx
  obtain⟨f0,f1,f2,f3,f4,f5⟩:=hf it (by simp)
  refine wpAny_pyNext_list_item st p.isList (x:=u) (by simpa using hu) fun h' st' sb=>?_
  have I1:Inv X pins σ H { s with heap:=h' }:=I.turned (t':=s.toks) (fun b o hb e=>(sb.2 b hb).trans e) f0 f1 f3 f4 f5
  obtain⟨o,e,c,d⟩:=id st'
  exact⟨u,rfl,xp (s:={ s with heap:=h' }) e c d (by decide) ⟨x,H,I1,ru,⟨rfl,fun ys hy=>by rw[I.list_inj hy hq];exact hx⟩,st',fun b hb=>(hf b hb).1⟩⟩
 done:=by
  intro X hP hw hK hc i pins s σ H E I hf st hg
  subst hP hw hK
  obtain⟨xs,hq,hx⟩:=hg
  obtain⟨its,rv,p,hz⟩:=I.list hq
  obtain⟨f0,f1,f2,f3,f4,f5⟩:=hf it (by simp)
  have hl:=rv.length
  exact wpAny_pyNext_list_end (I.ok.hd hc) st p.isList (by simp;omega) fun h' eb=>⟨rfl,I.turned (t':=s.toks) (fun b o hb e=>eb b o hb e) f0 f1 f3 f4 f5⟩
 self:=fun _ _ _ _ _ st h=>wpAny_pyIter_listiter st h
theorem uG{P:Program}{w:World}{K:PySem.W.Frag}{tg:Expr}(a it:Addr):DH P w K tg (Itt K a) [it] it (fun i h=>h.IsTupleIter it a i) where
 mem:=by simp
 obj:=fun i h st b hb=>by
  have e:b=it:=by simpa using hb
  subst e
  obtain⟨o,e,c,d⟩:=st
  exact⟨o,e,fun v z=>by rw[d]at z;cases z⟩
 keep:=fun i h h' st k=>st.at fun o e=>k it (by simp) o e
 item:=by
  intro X hP hw hK hc i pins s σ H E I hf st hg
  subst hP hw hK
  obtain⟨xs,x,hq,hx⟩:=hg
  obtain⟨its,rv,p,hz⟩:=I.tuple hq
  obtain⟨u,hu,ru⟩:=rv.get hx
  obtain⟨f0,f1,f2,f3,f4,f5⟩:=hf it (by simp)
  refine wpAny_pyNext_tuple_item st (show s.heap.IsTuple a its.toArray from p) (x:=u) (by simpa using hu) fun h' st' sb=>?_
  have I1:Inv X pins σ H { s with heap:=h' }:=I.turned (t':=s.toks) (fun b o hb e=>(sb.2 b hb).trans e) f0 f1 f3 f4 f5
  obtain⟨o,e,c,d⟩:=id st'
  exact⟨u,rfl,xp (s:={ s with heap:=h' }) e c d (by decide) ⟨x,H,I1,ru,⟨rfl,fun ys hy=>by rw[I.tuple_inj hy hq];exact hx⟩,st',fun b hb=>(hf b hb).1⟩⟩
 done:=by
  intro X hP hw hK hc i pins s σ H E I hf st hg
  subst hP hw hK
  obtain⟨xs,hq,hx⟩:=hg
  obtain⟨its,rv,p,hz⟩:=I.tuple hq
  obtain⟨f0,f1,f2,f3,f4,f5⟩:=hf it (by simp)
  have hl:=rv.length
  exact wpAny_pyNext_tuple_end (I.ok.hd hc) st (show s.heap.IsTuple a its.toArray from p) (by simp;omega) fun h' eb=>⟨rfl,I.turned (t':=s.toks) (fun b o hb e=>eb b o hb e) f0 f1 f3 f4 f5⟩
 self:=fun _ _ _ _ _ st h=>wpAny_pyIter_tupleiter st h
theorem uH{P:Program}{w:World}{K:PySem.W.Frag}{tg:Expr}(it:Addr)(lo:Int)(n:Nat):DH P w K tg (Itr lo n) [it] it (fun i h=>IsRangeIter h it (lo+(i:Nat)*1) ((n:Int)-(i:Nat)) 1) where
 mem:=by simp
 obj:=fun i h st b hb=>by
  have e:b=it:=by simpa using hb
  subst e
  exact⟨_,st,fun v z=>by
   have z':Data.fields _=Data.cell v:=z
   cases z'⟩
 keep:=fun i h h' st k=>k it (by simp) _ st
 item:=by
  intro X hP hw hK hc i pins s σ H E I hf st hg
  subst hP hw hK
  obtain⟨f0,f1,f2,f3,f4,f5⟩:=hf it (by simp)
  have W:=Walks.range (prog:=X.prog) (w:=X.w) (I.ok.hd hc) it lo 1 n
  refine W.item i s _ _ hg st fun v h' tk hv st' kk=>?_
  obtain⟨t,rfl⟩:=hv
  have I1:Inv X pins σ H { s with heap:=h',toks:=tk }:=I.turned (fun b o hb e=>kk b o (by simpa using hb) e) f0 f1 f3 f4 f5
  refine⟨_,rfl,xp (s:={ s with heap:=h',toks:=tk }) (n:="range_iterator") st' rfl rfl (by decide) ⟨.int (lo+i),H,I1,⟨t,?_⟩,⟨rfl,rfl⟩,st',fun b hb=>(hf b hb).1⟩⟩
  rw[Int.mul_one]
 done:=by
  intro X hP hw hK hc i pins s σ H E I hf st hg
  subst hP hw hK
  obtain⟨f0,f1,f2,f3,f4,f5⟩:=hf it (by simp)
  exact wpAny_pyNext_range_end (I.ok.hd hc) st (by have:n<=i:=hg;omega) fun h' eb=>⟨rfl,I.turned (t':=s.toks) (fun b o hb e=>eb b o hb e) f0 f1 f3 f4 f5⟩
 self:=fun _ _ _ _ _ st h=>wpAny_pyIter_rangeiter st h
section
variable{X:Cx}{tg:Expr}
def Gk(K:PySem.W.Frag)(tl:TE):TI:=fun σ H R=>tl σ H fun x H1=>∃a,x=.ref a/\(∃xs,SqL K H1 a xs)/\R (Itl K a) H1
def Kh(K:PySem.W.Frag)(tl:TE):TI:=fun σ H R=>tl σ H fun x H1=>∃a,x=.ref a/\(∃xs,SqT K H1 a xs)/\R (Itt K a) H1
theorem Cw{l:Expr}{tl:TE}(hl:PE X l tl):PI X tg l (Gk X.K tl):=by
 intro pins s σ H R I h
 refine thn (hl pins s σ H _ I h) fun v s1 hz=>?_
 obtain⟨x,H1,I1,r1,q1⟩:=hz
 obtain⟨a,e,⟨xs,hq⟩,q⟩:=q1
 subst e
 cases r1
 obtain⟨its,rv,p,hz⟩:=I1.list hq
 refine wpAny_pyIter_list p.isList ?_
 refine⟨s1.heap.objs.size,[s1.heap.objs.size],_,_,H1,rfl,I1.kept (t':=s1.toks) fun b o e=>Heap.get?_push_of_some _ e,vO a _,⟨_,Heap.get?_push_size _ rfl,rfl,rfl⟩,fun b hb=>?_,q⟩
 have e:b=s1.heap.objs.size:=by simpa using hb
 subst e
 exact I1.fpOk (Nat.le_refl _) (I1.hok.fresh (Nat.le_refl _))
theorem Fl{l:Expr}{tl:TE}(hl:PE X l tl):PI X tg l (Kh X.K tl):=by
 intro pins s σ H R I h
 refine thn (hl pins s σ H _ I h) fun v s1 hz=>?_
 obtain⟨x,H1,I1,r1,q1⟩:=hz
 obtain⟨a,e,⟨xs,hq⟩,q⟩:=q1
 subst e
 cases r1
 obtain⟨its,rv,p,hz⟩:=I1.tuple hq
 refine wpAny_pyIter_tuple (show s1.heap.IsTuple a its.toArray from p) ?_
 refine⟨s1.heap.objs.size,[s1.heap.objs.size],_,_,H1,rfl,I1.kept (t':=s1.toks) fun b o e=>Heap.get?_push_of_some _ e,uG a _,⟨_,Heap.get?_push_size _ rfl,rfl,rfl⟩,fun b hb=>?_,q⟩
 have e:b=s1.heap.objs.size:=by simpa using hb
 subst e
 exact I1.fpOk (Nat.le_refl _) (I1.hok.fresh (Nat.le_refl _))
theorem yY{pins:List (Addr×Obj)}{σ:St}{H:Hp}{s:Shared}{R:It->Hp->Prop}{E:Value->Shared->Prop}{lo hi:Int}{t u v:Tok}{tk:Nat}(I:Inv X pins σ H s)(h1:-(2^62)<=lo)(h2:lo<2^62)(h3:-(2^62)<=hi)(h4:hi<2^62)
  (q:R (Itr lo (hi-lo).toNat) H):wpAny (model X.prog X.w) X.A (pyIter (.ref s.heap.objs.size)) (PIE X pins σ tg R) E { s with heap:=s.heap.push { cls:=.type "range",data:=.fields #[.int lo t,.int hi u,.int 1 v] },toks:=tk }:=by
 refine wpAny_pyIter_range (IsRange.new ..) (small_one h1 h2 h3 h4) ?_
 have I1:Inv X pins σ H { s with heap:=s.heap.push { cls:=.type "range",data:=.fields #[.int lo t,.int hi u,.int 1 v] },toks:=tk }:=I.kept fun b o e=>Heap.get?_push_of_some _ e
 refine⟨(s.heap.push { cls:=.type "range",data:=.fields #[.int lo t,.int hi u,.int 1 v] }).objs.size,[(s.heap.push { cls:=.type "range",data:=.fields #[.int lo t,.int hi u,.int 1 v] }).objs.size],_,_,H,rfl,
  I1.kept (t':=tk) fun b o e=>Heap.get?_push_of_some _ e,uH _ lo (hi-lo).toNat,?_,fun b hb=>?_,q⟩
 ·have e1:lo+((0:Nat):Int)*1=lo:=by simp
  have e2:(((hi-lo).toNat:Nat):Int)-((0:Nat):Int)=Builtin.Range.rangeSize lo hi 1:=by rw[rangeSize_one];split<;>omega
  show IsRangeIter _ _ (lo+((0:Nat):Int)*1) ((((hi-lo).toNat:Nat):Int)-((0:Nat):Int)) 1
  rw[e1,e2]
  exact Heap.get?_push_size _ rfl
 ·have e:b=(s.heap.push { cls:=.type "range",data:=.fields #[.int lo t,.int hi u,.int 1 v] }).objs.size:=by simpa using hb
  subst e
  exact I1.fpOk (Nat.le_refl _) (I1.hok.fresh (Nat.le_refl _))
def Gj(ta:TA):TI:=fun σ H R=>ta σ H fun vs H1=>∃j:Int,vs=[.int j]/\-(2^62)<=j/\j<2^62/\R (Itr 0 j.toNat) H1
theorem wA{a:Expr}{ta:TA}{p pos:Pos}(hg:Gl X "range")(hm:X.mg "range"=none)(ha:PA X [a] ta)(hs:starEach [a] X.env=[(false,eval a X.env)]:=by rfl):PI X tg (.Call (.Name "range" p) [a] [] pos) (Gj ta):=by
 intro pins s σ H R I h
 refine Call_ (mY I hg hm boot_range (PyProof.Rows.callWith_type1 (thn (ha pos pins s σ H _ I h) fun us s1 ⟨vs,H1,I1,r1,q1⟩=>?_) hs rfl))
 obtain⟨j,e,q1,q2,q⟩:=q1
 subst e
 cases r1 with
 |cons r rr=>
  cases rr
  obtain⟨t,rfl⟩:=r
  exact call_range_1 (yY I1 (by omega) (by omega) q1 q2 (by simpa using q))
def EM(wi:TI)(g:TG)(tb:TS):TS:=fun D σ H=>wi σ H fun J H1=>∃W:Nat->Nat->St->Hp->Prop,(∃m,W 0 m σ H1)/\∀i m σ H,W i m σ H->
 (J.stop i H/\D.nx σ H)\/(J.go i H/\∃N:St->Hp->Prop,(∀σ' H',N σ' H'->∃m',m'<m/\W (i+1) m' σ' H')/\∀x H',J.yld i H x H'->g x σ H' fun σ2 H2=>tb { D with nx:=N,ct:=N,bk:=D.nx } σ2 H2)
def tR(fp:List Addr)(h:Heap):List (Addr×Obj):=fp.filterMap fun b=>(h.get? b).map fun o=>(b,o)
theorem fA{fp:List Addr}{h:Heap}{b:Addr}{o:Obj}(hb:b∈fp)(e:h.get? b=some o):(b,o)∈tR fp h:=List.mem_filterMap.mpr ⟨b,hb,by rw[e];rfl⟩
theorem wH{fp:List Addr}{h:Heap}{p:Addr×Obj}(hp:p∈tR fp h):p.1∈fp/\h.get? p.1=some p.2:=by
 obtain⟨b,hb,e⟩:=List.mem_filterMap.mp hp
 cases q:h.get? b with
 |none=>rw[q]at e;cases e
 |some o=>
  rw[q]at e
  have e':(b,o)=p:=Option.some.inj e
  subst e'
  exact⟨hb,q⟩
theorem Inv.pinned{pins:List (Addr×Obj)}{σ:St}{H:Hp}{s:Shared}{fp:List Addr}(I:Inv X pins σ H s)(hf:∀b∈fp,vo X pins H b)(ho:∀b∈fp,∃o,s.heap.get? b=some o/\∀v,o.data≠.cell v):Inv X (pins++tR fp s.heap) σ H s:=
 I.pins_of fun p hp=>(List.mem_append.mp hp).elim (fun z=>I.pin p (List.mem_append_right _ z)) fun z=>by
  obtain⟨hb,e⟩:=wH z
  obtain⟨f0,f1,f2,_⟩:=hf p.1 hb
  obtain⟨o,e',d⟩:=ho p.1 hb
  rw[e]at e';cases e'
  exact⟨e,f0,f1,f2,d⟩
theorem Inv.unpinned{pins pl:List (Addr×Obj)}{σ:St}{H:Hp}{s:Shared}(I:Inv X (pins++pl) σ H s):Inv X pins σ H s:=I.pins_of fun p hp=>I.pin p (List.mem_append_right _ (List.mem_append_left _ hp))
theorem Fh{iter:Expr}{body:List Stmt}{wi:TI}{g:TG}{tb:TS}{pos:Pos}(hp:PassesOwn (model X.prog X.w) X.A X.env X.xe)(hc:X.calm=true)(hi:PI X tg iter wi)(hg:PG X tg g)(hb:PSs X body tb)
  (hs:∀x,foldedSetIterable iter X.env x=pure x:=by intro _;rfl):PS X (.For tg iter body [] pos) (EM wi g tb):=by
 intro pins s σ H D I h
 refine wpAny_For (thn (hi pins s σ H _ I h) fun v s1 h1=>thn h1 fun itv s2 h2=>?_) hs
 obtain⟨it,fp,tn,J,H2,e,I2,T,st2,f2,W,⟨m0,w0⟩,turn⟩:=h2
 subst e
 have stat:∀{H':Hp},(∀b∈fp,H' b=none)->∀b∈fp,vo X pins H' b:=fun hn b hb=>⟨hn b hb,(f2 b hb).2⟩
 refine codeAny_forLoop_any (fun n s'=>∃i σ' H',Inv X pins σ' H' s'/\tn i s'.heap/\(∀b∈fp,H' b=none)/\W i n σ' H') ?_ m0 ⟨0,σ,H2,I2,st2,fun b hb=>(f2 b hb).1,w0⟩
 rintro n s3 ⟨i,σ3,H3,I3,st3,fr3,w3⟩
 rcases turn i n σ3 H3 w3 with⟨stop,qn⟩|⟨go,N,hN,step⟩
 ·refine wpAny_passesOwn hp (thn (T.done X rfl rfl rfl hc i pins s3 σ3 H3 X.xe I3 (stat fr3) st3 stop) fun r s4 ⟨hr,I4⟩=>?_)
  subst hr
  exact wpAny_execs_nil ⟨σ3,H3,I4,qn⟩
 ·refine wpAny_passesOwn hp (thn (T.item X rfl rfl rfl hc i pins s3 σ3 H3 X.xe I3 (stat fr3) st3 go) fun r s4 ⟨u,hr,h4⟩=>?_)
  subst hr
  refine wpAny_passesOwn hp (thn h4 fun _ s5 hz=>?_)
  obtain⟨x,H5,I5,r5,y5,st5,fr5⟩:=hz
  have I5':=I5.pinned (stat fr5) (T.obj _ _ st5)
  refine wpAny_passesOwn hp (thn (hg _ s5 σ3 H5 x u _ I5' r5 (step x H5 y5)) fun _ s6 hz=>?_)
  obtain⟨σ6,H6,I6,q6⟩:=hz
  refine wpAny_passesOwn hp (thn (hb _ s6 σ6 H6 _ I6 q6) fun f s7 q7=>?_)
  have again:∀{σ7:St} {H7:Hp},Inv X (pins++tR fp s5.heap) σ7 H7 s7->N σ7 H7->∃m,m<n/\∃i σ' H',Inv X pins σ' H' s7/\tn i s7.heap/\(∀b∈fp,H' b=none)/\W i m σ' H':=fun{σ7 H7} I7 n7=>by
   obtain⟨m',hm,w7⟩:=hN σ7 H7 n7
   refine⟨m',hm,i+1,σ7,H7,I7.unpinned,T.keep _ _ _ st5 fun b hb o e=>(I7.pin (b,o) (List.mem_append_right _ (List.mem_append_right _ (fA hb e)))).1,fun b hb=>?_,w7⟩
   obtain⟨o,e,d⟩:=T.obj _ _ st5 b hb
   exact(I7.pin (b,o) (List.mem_append_right _ (List.mem_append_right _ (fA hb e)))).2.1
  cases f with
  |next=>obtain⟨σ7,H7,I7,n7⟩:=q7;exact again I7 n7
  |cont=>obtain⟨σ7,H7,I7,n7⟩:=q7;exact again I7 n7
  |brk=>obtain⟨σ7,H7,I7,q7⟩:=q7;exact⟨σ7,H7,I7.unpinned,q7⟩
  |ret v=>obtain⟨x7,σ7,H7,I7,r7,q7⟩:=q7;exact⟨x7,σ7,H7,I7.unpinned,r7,q7⟩
end
abbrev R2:=V->V->Hp->VK->Prop
def OpR(X:Cx)(f:Value->Value->Sem Value)(r:R2):Prop:=
 ∀(pins:List (Addr×Obj)) (s:Shared) (σ:St) (H:Hp) (x y:V) (v u:Value) (Q:VK),Inv X pins σ H s->dn x v->dn y u->r x y H Q->
  wpAny (model X.prog X.w) X.A (f v u) (EP X pins σ Q) X.xe s
def fP(X:Cx)(f:Value)(r:List V->Hp->VK->Prop):Prop:=
 ∀(pins:List (Addr×Obj)) (s:Shared) (σ:St) (H:Hp) (xs:List V) (us:List Value) (Q:VK),Inv X pins σ H s->cg xs us->r xs H Q->
  wpAny (model X.prog X.w) X.A (call f us) (EP X pins σ Q) X.xe s
def tOp(r:R2)(ta tb:TE):TE:=fun σ H Q=>ta σ H fun x H1=>tb σ H1 fun y H2=>r x y H2 Q
def rI(C:Int->Int->Prop)(g:Int->Int->V):R2:=fun x y H Q=>∃i j,x=.int i/\y=.int j/\C i j/\Q (g i j) H
def rI0(g:Int->Int->V):R2:=fun x y H Q=>∃i j,x=.int i/\y=.int j/\Q (g i j) H
section
variable{X:Cx}{a b c:Expr}{ta tb tc:TE}{pos:Pos}
theorem JK(ha:PE X a ta)(hb:PE X b tb){pins:List (Addr×Obj)}{s:Shared}{σ:St}{H:Hp}{R:V->V->Hp->Prop}(I:Inv X pins σ H s)
  (h:ta σ H fun x H1=>tb σ H1 fun y H2=>R x y H2) {Q:Value->Shared->Prop} {f:Value->Value->Sem Value}
  (hf:∀v u s2 x y H2,Inv X pins σ H2 s2->dn x v->dn y u->R x y H2->wpAny (model X.prog X.w) X.A (f v u) Q X.xe s2) :
  wpAny (model X.prog X.w) X.A (eval a X.env) (fun v s₁=>wpAny (model X.prog X.w) X.A (eval b X.env) (fun u s₂=>wpAny (model X.prog X.w) X.A (f v u) Q X.xe s₂) X.xe s₁) X.xe s:=by
 refine thn (ha pins s σ H _ I h) fun v s1 hz=>?_
 obtain⟨x,H1,I1,r1,q1⟩:=hz
 refine thn (hb pins s1 σ H1 _ I1 q1) fun u s2 hz=>?_
 obtain⟨y,H2,I2,r2,q2⟩:=hz
 exact hf v u s2 x y H2 I2 r1 r2 q2
theorem IX{op:Operator}{r:R2}(ho:OpR X (binaryOp op) r)(ha:PE X a ta)(hb:PE X b tb):PE X (.BinOp a op b pos) (tOp r ta tb):=by
 intro pins s σ H Q I h
 exact wpAny_BinOp (JK ha hb I h fun v u s2 x y H2 I2 rx ry q=>ho pins s2 σ H2 x y v u Q I2 rx ry q)
theorem opI{f:Value->Value->Sem Value}{C:Int->Int->Prop}{g:Int->Int->Int}
  (rule:∀(i j:Int) (t u:Tok) (s:Shared) (Q:Value->Shared->Prop) (E:Value->Shared->Prop),C i j->Q (.int (g i j) s.toks) { s with toks:=s.toks+1 }->wpAny (model X.prog X.w) X.A (f (.int i t) (.int j u)) Q E s) :
  OpR X f (rI C fun i j=>.int (g i j)):=by
 intro pins s σ H x y v u Q I rx ry h
 obtain⟨i,j,rfl,rfl,hc,q⟩:=h
 obtain⟨t,rfl⟩:=rx
 obtain⟨t',rfl⟩:=ry
 exact rule i j t t' s _ _ hc ⟨.int (g i j),H,I.tok _,⟨_,rfl⟩,q⟩
theorem J6{f:Value->Value->Sem Value}{g:Int->Int->Int}
  (rule:∀(i j:Int) (t u:Tok) (s:Shared) (Q:Value->Shared->Prop) (E:Value->Shared->Prop),Q (.int (g i j) s.toks) { s with toks:=s.toks+1 }->wpAny (model X.prog X.w) X.A (f (.int i t) (.int j u)) Q E s) :
  OpR X f (rI0 fun i j=>.int (g i j)):=by
 intro pins s σ H x y v u Q I rx ry h
 obtain⟨i,j,rfl,rfl,q⟩:=h
 obtain⟨t,rfl⟩:=rx
 obtain⟨t',rfl⟩:=ry
 exact rule i j t t' s _ _ ⟨.int (g i j),H,I.tok _,⟨_,rfl⟩,q⟩
theorem Jc{f:Value->Value->Sem Value}{g:Int->Int->Bool}
  (rule:∀(i j:Int) (t u:Tok) (s:Shared) (Q:Value->Shared->Prop) (E:Value->Shared->Prop),Q (.bool (g i j)) s->wpAny (model X.prog X.w) X.A (f (.int i t) (.int j u)) Q E s) :
  OpR X f (rI0 fun i j=>.bl (g i j)):=by
 intro pins s σ H x y v u Q I rx ry h
 obtain⟨i,j,rfl,rfl,q⟩:=h
 obtain⟨t,rfl⟩:=rx
 obtain⟨t',rfl⟩:=ry
 exact rule i j t t' s _ _ ⟨.bl (g i j),H,I,rfl,q⟩
def DR(i j:Int):Prop:=0<=j/\j<=1000000/\i.natAbs<2^64
def vt(i j:Int):Prop:=(-(2^64)<i/\i<2^64)\/(-(2^64)<j/\j<2^64)
theorem vt.ok{i j:Int}(h:vt i j):IntMulOk i j:=by
 rcases h with⟨h1,h2⟩|⟨h1,h2⟩
 ·exact .of_left (intBits_le_64 h1 h2)
 ·exact .of_right (intBits_le_64 h1 h2)
theorem FK:OpR X (binaryOp .Add) (rI0 fun i j=>.int (i+j)):=J6 fun _ _ _ _ _ _ _ q=>add_int q
theorem jV:OpR X (binaryOp .Sub) (rI0 fun i j=>.int (i-j)):=J6 fun _ _ _ _ _ _ _ q=>sub_int q
theorem iY:OpR X (binaryOp .Mult) (rI vt fun i j=>.int (i*j)):=opI fun _ _ _ _ _ _ _ hc q=>mul_int q hc.ok
theorem jW:OpR X (binaryOp .Mod) (rI (fun _ j=>0<j) fun i j=>.int (i % j)):=opI fun i j _ _ _ _ _ hc q=>by
 have h1:(0:Int)<j:=hc
 exact mod_int' (by omega) (by rw[Int.fmod_eq_emod_of_nonneg i (by omega)];exact q)
theorem AL:OpR X (binaryOp .Pow) (rI DR fun i j=>.int (i^j.toNat)):=opI fun _ _ _ _ _ _ _ hc q=>pow_int_small hc.1 hc.2.1 hc.2.2 q
end
def IM:V->V->Bool
 |.non,.non=>true|.non,.int _=>true|.int _,.non=>true|.non,.bl _=>true|.bl _,.non=>true|.non,.str _=>true|.str _,.non=>true
 |.int _,.int _=>true|.bl _,.bl _=>true|.str _,.str _=>true|.byt _,.byt _=>true
 |.int _,.str _=>true|.str _,.int _=>true|.bl _,.str _=>true|.str _,.bl _=>true
 |_,_=>false
def rEq:R2:=fun x y H Q=>IM x y=true/\Q (.bl (decide (x=y))) H
def rNe:R2:=fun x y H Q=>IM x y=true/\Q (.bl (!decide (x=y))) H
theorem xS{i j:Int}:decide (V.int i=V.int j)=(i == j):=by
 rw[Bool.eq_iff_iff]
 simp
theorem A3{i j:Bool}:decide (V.bl i=V.bl j)=(i == j):=by
 rw[Bool.eq_iff_iff]
 simp
theorem xR{i j:Str}:decide (V.str i=V.str j)=(i == j):=by
 rw[Bool.eq_iff_iff]
 simp
theorem xT{i j:Array UInt8}:decide (V.byt i=V.byt j)=(i.toList == j.toList):=by
 rw[Bool.eq_iff_iff]
 cases i
 cases j
 simp
section
variable{X:Cx}{a b c:Expr}{ta tb tc:TE}{pos:Pos}
theorem bM{pins:List (Addr×Obj)}{σ:St}{H:Hp}{s:Shared}{Q:VK}{k k':Bool}(I:Inv X pins σ H s)(q:Q (.bl k) H)(e:k=k'):EP X pins σ Q (.bool k') s:=by
 subst e
 exact⟨.bl k,H,I,rfl,q⟩
theorem eR:OpR X (compareOp .Eq) rEq:=by
 intro pins s σ H x y v u Q I rx ry h
 obtain⟨hs,q⟩:=h
 cases x with
 |non=>
  cases rx
  cases y with
  |non=>cases ry;exact PySem.EqNone.eq_none_none (bM I q (by simp))
  |bl j=>cases ry;exact PySem.EqNone.eq_none_bool (bM I q (by simp))
  |int j=>obtain⟨t',rfl⟩:=ry;exact PySem.EqNone.eq_none_int (bM I q (by simp))
  |str j=>obtain⟨t',rfl⟩:=ry;exact PySem.EqNone.eq_none_str (bM I q (by simp))
  |_=>exact absurd (show false=true from hs) Bool.false_ne_true
 |bl i=>
  cases rx
  cases y with
  |non=>cases ry;exact PySem.EqNone.eq_bool_none (bM I q (by simp))
  |bl j=>cases ry;exact eq_bool (bM I q A3)
  |str j=>obtain⟨t',rfl⟩:=ry;exact PySem.EqMixed.eq_bool_str (bM I q (by simp))
  |_=>exact absurd (show false=true from hs) Bool.false_ne_true
 |int i=>
  obtain⟨t,rfl⟩:=rx
  cases y with
  |non=>cases ry;exact PySem.EqNone.eq_int_none (bM I q (by simp))
  |int j=>obtain⟨t',rfl⟩:=ry;exact eq_int (bM I q xS)
  |str j=>obtain⟨t',rfl⟩:=ry;exact PySem.EqMixed.eq_int_str (bM I q (by simp))
  |_=>exact absurd (show false=true from hs) Bool.false_ne_true
 |str i=>
  obtain⟨t,rfl⟩:=rx
  cases y with
  |non=>cases ry;exact PySem.EqNone.eq_str_none (bM I q (by simp))
  |bl j=>cases ry;exact PySem.EqMixed.eq_str_bool (bM I q (by simp))
  |int j=>obtain⟨t',rfl⟩:=ry;exact PySem.EqMixed.eq_str_int (bM I q (by simp))
  |str j=>obtain⟨t',rfl⟩:=ry;exact eq_str (bM I q xR)
  |_=>exact absurd (show false=true from hs) Bool.false_ne_true
 |byt i=>
  obtain⟨t,rfl⟩:=rx
  cases y with
  |byt j=>obtain⟨t',rfl⟩:=ry;exact PySem.W.eq_bytes (bM I q xT)
  |_=>exact absurd (show false=true from hs) Bool.false_ne_true
 |_=>cases y<;>exact absurd (show false=true from hs) Bool.false_ne_true
theorem zw:OpR X (compareOp .NotEq) rNe:=by
 intro pins s σ H x y v u Q I rx ry h
 obtain⟨hs,q⟩:=h
 cases x with
 |non=>
  cases rx
  cases y with
  |non=>cases ry;exact PySem.EqNone.ne_none_none (bM I q (by simp))
  |bl j=>cases ry;exact PySem.EqNone.ne_none_bool (bM I q (by simp))
  |int j=>obtain⟨t',rfl⟩:=ry;exact PySem.EqNone.ne_none_int (bM I q (by simp))
  |str j=>obtain⟨t',rfl⟩:=ry;exact PySem.EqNone.ne_none_str (bM I q (by simp))
  |_=>exact absurd (show false=true from hs) Bool.false_ne_true
 |bl i=>
  cases rx
  cases y with
  |non=>cases ry;exact PySem.EqNone.ne_bool_none (bM I q (by simp))
  |bl j=>cases ry;exact ne_bool (bM I q (congrArg not A3))
  |str j=>obtain⟨t',rfl⟩:=ry;exact PySem.EqMixed.ne_bool_str (bM I q (by simp))
  |_=>exact absurd (show false=true from hs) Bool.false_ne_true
 |int i=>
  obtain⟨t,rfl⟩:=rx
  cases y with
  |non=>cases ry;exact PySem.EqNone.ne_int_none (bM I q (by simp))
  |int j=>obtain⟨t',rfl⟩:=ry;exact ne_int (bM I q (congrArg not xS))
  |str j=>obtain⟨t',rfl⟩:=ry;exact PySem.EqMixed.ne_int_str (bM I q (by simp))
  |_=>exact absurd (show false=true from hs) Bool.false_ne_true
 |str i=>
  obtain⟨t,rfl⟩:=rx
  cases y with
  |non=>cases ry;exact PySem.EqNone.ne_str_none (bM I q (by simp))
  |bl j=>cases ry;exact PySem.EqMixed.ne_str_bool (bM I q (by simp))
  |int j=>obtain⟨t',rfl⟩:=ry;exact PySem.EqMixed.ne_str_int (bM I q (by simp))
  |str j=>obtain⟨t',rfl⟩:=ry;exact ne_str (bM I q (congrArg not xR))
  |_=>exact absurd (show false=true from hs) Bool.false_ne_true
 |byt i=>
  obtain⟨t,rfl⟩:=rx
  cases y with
  |byt j=>obtain⟨t',rfl⟩:=ry;exact PySem.W.ne_bytes (bM I q (congrArg not xT))
  |_=>exact absurd (show false=true from hs) Bool.false_ne_true
 |_=>cases y<;>exact absurd (show false=true from hs) Bool.false_ne_true
theorem lP:OpR X (compareOp .Lt) (rI0 fun i j=>.bl (decide (i<j))):=Jc fun _ _ _ _ _ _ _ q=>lt_int q
theorem qB:OpR X (compareOp .Gt) (rI0 fun i j=>.bl (decide (j<i))):=Jc fun _ _ _ _ _ _ _ q=>gt_int q
theorem CV:OpR X (compareOp .GtE) (rI0 fun i j=>.bl (decide (j<=i))):=Jc fun _ _ _ _ _ _ _ q=>ge_int q
theorem AM:OpR X (compareOp .Is) (fun x y H Q=>y=.non/\Q (.bl (decide (x=.non))) H):=by
 intro pins s σ H x y v u Q I rx ry h
 obtain⟨rfl,q⟩:=h
 cases ry
 refine is_none_gen (bM I q ?_)
 cases x<;>first
  |(cases rx;rfl)
  |(obtain⟨t,rfl⟩:=rx;rfl)
theorem rS:OpR X (compareOp .IsNot) (fun x y H Q=>y=.non/\Q (.bl (!decide (x=.non))) H):=by
 intro pins s σ H x y v u Q I rx ry h
 obtain⟨rfl,q⟩:=h
 cases ry
 refine isnot_none_gen (bM I q ?_)
 cases x<;>first
  |(cases rx;rfl)
  |(obtain⟨t,rfl⟩:=rx;rfl)
theorem OpR.or{f:Value->Value->Sem Value}{r r':R2}(h:OpR X f r)(h':OpR X f r'):OpR X f (fun x y H Q=>r x y H Q\/r' x y H Q):=by
 intro pins s σ H x y v u Q I rx ry q
 rcases q with q|q
 ·exact h pins s σ H x y v u Q I rx ry q
 ·exact h' pins s σ H x y v u Q I rx ry q
theorem aM(b:Expr){op:CmpOp}(h:op≠.In:=by decide)(h2:op≠.NotIn:=by decide):behindInMarks op b=false:=by
 have e1:(op == CmpOp.In)=false:=by cases op<;>first|rfl|exact absurd rfl h
 have e2:(op == CmpOp.NotIn)=false:=by cases op<;>first|rfl|exact absurd rfl h2
 cases b<;>simp[behindInMarks,e1,e2]
theorem CH{op:CmpOp}{r:R2}(ho:OpR X (compareOp op) r)(ha:PE X a ta)(hb:PE X b tb)(hm:behindInMarks op b=false):PE X (.Compare a [op] [b] pos) (tOp r ta tb):=by
 intro pins s σ H Q I h
 exact wpAny_Compare1 (JK ha hb I h fun v u s2 x y H2 I2 rx ry q=>ho pins s2 σ H2 x y v u Q I2 rx ry q) hm
def EG(t:TE):TT:=fun σ H Q=>t σ H fun x H'=>∃k,x=.bl k/\Q k H'
theorem Cn{op:CmpOp}{r:R2}(ho:OpR X (compareOp op) r)(ha:PE X a ta)(hb:PE X b tb)(hm:behindInMarks op b=false):PT X (.Compare a [op] [b] pos) (EG (tOp r ta tb)):=by
 intro pins s σ H Q I h
 refine wpAny_isTrue_Compare1 (thn (ha pins s σ H _ I h) fun v s1 ⟨x,H1,I1,r1,q1⟩=>thn (hb pins s1 σ H1 _ I1 q1) fun u s2 ⟨y,H2,I2,r2,q2⟩=>
  thn (ho pins s2 σ H2 x y v u _ I2 r1 r2 q2) fun c s3 ⟨z,H3,I3,r3,k,e,q3⟩=>?_) hm
 subst e
 cases r3
 exact wpAny_truthy_bool ⟨H3,I3,q3⟩
theorem tY:(sizeLine:Nat)<2^63:=by rw[sizeLine_eq];decide
theorem uO:OpR X (binaryOp .Add) (fun x y H Q=>∃i j,x=.str i/\y=.str j/\i.length+j.length<=sizeLine/\Q (.str (i++j)) H):=by
 intro pins s σ H x y v u Q I rx ry h
 obtain⟨i,j,rfl,rfl,hz,q⟩:=h
 obtain⟨t,rfl⟩:=rx
 obtain⟨t',rfl⟩:=ry
 exact add_str (fun t' tk=>⟨.str (i++j),H,I.tok _,⟨_,rfl⟩,q⟩) hz
theorem nJ{x:V}{us:List Value}(r:cg [x] us):∃u,us=[u]/\dn x u:=by
 cases r with
 |cons r1 r2=>cases r2;exact⟨_,rfl,r1⟩
theorem BR{x y:V}{us:List Value}(r:cg [x,y] us):∃u w',us=[u,w']/\dn x u/\dn y w':=by
 cases r with
 |cons r1 r2=>
  cases r2 with
  |cons r3 r4=>cases r4;exact⟨_,_,rfl,r1,r3⟩
theorem xZ(hc:X.calm=true):fP X (.builtin "min") (fun xs H Q=>∃i j,xs=[.int i,.int j]/\Q (.int (if j<i then j else i)) H):=by
 intro pins s σ H xs us Q I r h
 obtain⟨i,j,rfl,q⟩:=h
 obtain⟨u,w',rfl,⟨t,rfl⟩,⟨t',rfl⟩⟩:=BR r
 refine min_two_ints (I.ok.hd hc) fun h' tk k=>⟨_,H,I.kept k,?_,q⟩
 by_cases hj:j<i
 ·rw[if_pos hj,if_pos hj];exact⟨_,rfl⟩
 ·rw[if_neg hj,if_neg hj];exact⟨_,rfl⟩
theorem nr:fP X (.type "int") (fun xs H Q=>(∃i,xs=[.int i]/\Q (.int i) H)\/∃k,xs=[.bl k]/\Q (.int (if k then 1 else 0)) H):=by
 intro pins s σ H xs us Q I r h
 rcases h with⟨i,rfl,q⟩|⟨k,rfl,q⟩
 ·obtain⟨u,rfl,t,rfl⟩:=nJ r
  exact call_int_int ⟨.int i,H,I,⟨_,rfl⟩,q⟩
 ·obtain⟨u,rfl,r1⟩:=nJ r
  cases r1
  exact call_int_bool ⟨.int (if k then 1 else 0),H,I.tok _,⟨_,rfl⟩,q⟩
end
structure DI(h:Heap)(x dx C:Addr)(mA:Str->Option Value):Prop where
 obj:h.get? x=some (PySem.W.instObj C dx)
 ns:h.Ns1 dx mA
 ne:dx≠x
theorem wQ{h:Heap}{dx:Addr}{mA:Str->Option Value}(n:h.Ns1 dx mA):∃od,h.get? dx=some od/\∀name,PySem.W.lookIn name od=some (mA name):=by
 obtain⟨o,es,ep,ho,hd,hk,_,hm⟩:=n
 refine⟨o,ho,fun name=>?_⟩
 have e:=hm name
 unfold nsFind findBy at e
 rw[<-Array.find?_toList]at e
 unfold PySem.W.lookIn
 rw[hd]
 dsimp only
 split
 ·rename_i y q
  rw[q]at e
  exact congrArg some e
 ·rename_i q
  rw[q]at e
  have a:es.toList.any (·.refKey)=false:=by
   rw[List.any_eq_false]
   intro y hy
   obtain⟨z,t,hkey⟩:=hk y (Array.mem_toList_iff.mp hy)
   simp[DictEntry.refKey,hkey]
  have a':¬es.toList.any (·.refKey)=true:=by rw[a];exact Bool.false_ne_true
  rw[if_neg a']
  exact congrArg some e
theorem DI.look{h:Heap}{x dx C:Addr}{mA:Str->Option Value}(I:DI h x dx C mA):∃od,PySem.W.InstAt h x (PySem.W.instObj C dx) C (some od)/\∀name,PySem.W.lookIn name od=some (mA name):=
 let ⟨od,ho,hl⟩:=wQ I.ns
 ⟨od,⟨I.obj,rfl,rfl,ho⟩,hl⟩
section
variable{prog:Program}{w:World}{A:Around}{E:Value->Shared->Prop}{s:Shared}{K:PySem.W.Frag}{x dx C f:Addr}{mA:Str->Option Value}{name:Str}{v:Value}
theorem Dn{expr:Bool}{Q:Value->Shared->Prop}(X:K.In s.heap)(I:DI s.heap x dx C mA)(hg:PySem.W.plainGet K C name=true)(hh:PySem.W.hasDictIn K C=true)
  (ha:PySem.W.findIn K (.ref C) name=some none) (hv:mA name=some v) (hv':PySem.W.handedIn v=true) (h:Q v { s with toks:=s.toks+1 }) :
  wpAny (model prog w) A (getAttr (.ref x) name expr) Q E s:=by
 obtain⟨od,J,hl⟩:=I.look
 exact PySem.W.get_value X J (PySem.W.plainGet_of hg).1 (PySem.W.findObj_own hh ha rfl (by rw[hl,hv])) hv' h
theorem zU{pl:Sem Bool}{Q:Value×List Value->Shared->Prop}(X:K.In s.heap)(I:DI s.heap x dx C mA)(hg:PySem.W.plainGet K C name=true)
  (hf:PySem.W.findIn K (.ref C) name=some (some (.ref f))) (ht:PySem.W.isFn K (.ref f)=true) (hv:mA name=none) (h:Q (.ref f,[.ref x]) s) :
  wpAny (model prog w) A (getMethod (.ref x) name pl) Q E s:=by
 obtain⟨od,J,hl⟩:=I.look
 exact PySem.W.method_fn X J (PySem.W.plainGet_of hg).1 (PySem.W.plainGet_of hg).2 hf (beq_iff_eq.mp ht) (by show(PySem.W.lookIn name od).map (·.isSome)=some false;rw[hl,hv];rfl) h
theorem B9{ns:List Str}{Q:Unit->Shared->Prop}(X:K.In s.heap)(I:DI s.heap x dx C mA)
  (hs:PySem.W.findIn K (.ref C) "__setattr__"=some (some (.builtin "object.__setattr__"))) (hp:PySem.W.plainOver K C=true) (ht:PySem.W.takerIn K C name=some none) (hh:PySem.W.hasDictIn K C=true)
  (hw:PySem.Within mA ns) (hsz:ns.length<=sizeLine)
  (h:∀h',DI h' x dx C (fun y=>if y=name then some v else mA y)->Heap.SameBut dx s.heap h'->Q () { s with heap:=h',toks:=s.toks+2 }) :
  wpAny (model prog w) A (setAttr (.ref x) name v) Q E s:=by
 obtain⟨od,J,hl⟩:=I.look
 refine PySem.W.set_plain X J hs (PySem.W.osa_open (s:={ s with toks:=s.toks+1 }) (r:=none) X J hp ht fun b=>?_)
 obtain⟨cd,hc,hd'⟩:=PySem.W.any_some hh
 have hx:s.heap.get? x=some ⟨.ref C,some dx,.plain,#[]⟩:=I.obj
 refine wpAny_bind (wpAny_pure (wpAny_bind (wpAny_bind (wpAny_loadPart hx (wpAny_bind (PySem.W.Looks.here (s:={ s with toks:=s.toks+1 }) (PySem.W.looks_clsIn X hc) ?_))))))
 rw[hd']
 refine wpAny_pure (a:=some dx) (wpAny_bind (wpAny_pure (wpAny_bind ?_)))
 refine wpAny_nsSet1 (s:={ s with toks:=s.toks+1 }) I.ns fun h' hn2 hs2=>?_
 obtain⟨oD,esD,epD,hoD,hdD,hcD⟩:=hn2.count (PySem.Within.cons name v hw)
 refine wpAny_bind (wpAny_lookBehind hoD (by rw[hdD];exact pastItsLine_dict (Nat.le_trans hcD (by rw[List.length_cons];omega))) ?_)
 exact wpAny_pure (h _ ⟨(hs2.2 _ (Ne.symm I.ne)).trans I.obj,hn2,I.ne⟩ hs2)
theorem zH{R:Result->Shared->Prop}{vs:List Value}{kw:List (Str×Value)}(X:K.In s.heap)(hm:PySem.W.makesIn K C=true)
  (hi:PySem.W.findIn K (.ref C) "__init__"=some (some (.ref f))) (hf:PySem.W.typeIn K (.ref f)=some (.type "function"))
  (h:codeAny (model prog w) (A.under (.builtin "type.__call__" ⟨.ref C::vs,kw⟩)) (.call (.ref f) ⟨.ref (s.heap.objs.size+1)::vs,kw⟩) (PySem.W.InitBack (s.heap.objs.size+1) R)
   { s with heap:=(s.heap.push PySem.W.emptyDict).push (PySem.W.instObj C s.heap.objs.size) }) :
  codeAny (model prog w) A (.call (.ref C) ⟨vs,kw⟩) R s:=by
 obtain⟨hh,g,d,t,os⟩:=s
 exact PySem.W.make_core (PySem.W.makes_of X hm) (PySem.W.looks_findIn X hi) (fun self=>PySem.W.bind_fn X self hf) (.inl rfl) h
end
def nM(f:Str)(v:V):List (Str×V)->List (Str×V)
 |[]=>[(f,v)]
 |(g,x)::r=>if g=f then(g,v)::r else(g,x)::nM f v r
theorem jo(f g:Str)(v:V):∀fs:List (Str×V),(nM f v fs).lookup g=if g=f then some v else fs.lookup g
 |[]=>by
  show List.lookup g [(f,v)]=_
  by_cases h:g=f
  ·have hb:(g == f)=true:=beq_iff_eq.mpr h
   simp only[List.lookup,hb,if_pos h]
  ·have hb:(g == f)=false:=beq_eq_false_iff_ne.mpr h
   simp only[List.lookup,hb,if_neg h]
 |(k,x)::r=>by
  have ih:=jo f g v r
  rw[show nM f v ((k,x)::r)=(if k=f then(k,v)::r else(k,x)::nM f v r)from rfl]
  by_cases hk:k=f
  ·rw[if_pos hk]
   by_cases h:g=k
   ·have hb:(g == k)=true:=beq_iff_eq.mpr h
    simp only[List.lookup,hb,if_pos (h.trans hk)]
   ·have hb:(g == k)=false:=beq_eq_false_iff_ne.mpr h
    simp only[List.lookup,hb,if_neg (fun e:g=f=>h (e.trans hk.symm))]
  ·rw[if_neg hk]
   by_cases h:g=k
   ·have hb:(g == k)=true:=beq_iff_eq.mpr h
    simp only[List.lookup,hb,if_neg (fun e:g=f=>hk (h.symm.trans e))]
   ·have hb:(g == k)=false:=beq_eq_false_iff_ne.mpr h
    simp only[List.lookup,hb]
    exact ih
theorem fE(f:Str)(v:V):∀fs:List (Str×V),f∈(nM f v fs).map (·.1)/\∀g,g∈fs.map (·.1)->g∈(nM f v fs).map (·.1)
 |[]=>⟨by simp[nM],fun g h=>by simp at h⟩
 |(k,x)::r=>by
  obtain⟨i1,i2⟩:=fE f v r
  rw[show nM f v ((k,x)::r)=(if k=f then(k,v)::r else(k,x)::nM f v r)from rfl]
  by_cases hk:k=f
  ·rw[if_pos hk]
   subst hk
   exact⟨by simp,fun g h=>by simpa using h⟩
  ·rw[if_neg hk]
   refine⟨?_,fun g h=>?_⟩
   ·rw[List.map_cons]
    exact List.mem_cons_of_mem _ i1
   ·rw[List.map_cons]at h ⊢
    rcases List.mem_cons.mp h with e|e
    ·exact List.mem_cons.mpr (.inl e)
    ·exact List.mem_cons_of_mem _ (i2 g e)
theorem mX(f:Str)(v:V):∀fs:List (Str×V),(nM f v fs).length<=fs.length+1
 |[]=>by simp[nM]
 |(k,x)::r=>by
  have ih:=mX f v r
  rw[show nM f v ((k,x)::r)=(if k=f then(k,v)::r else(k,x)::nM f v r)from rfl]
  by_cases hk:k=f
  ·rw[if_pos hk,List.length_cons,List.length_cons];omega
  ·rw[if_neg hk,List.length_cons,List.length_cons];omega
theorem pZ.some_of{v:V}{o:Option Value}(r:pZ (some v) o):∃u,o=some u/\dn v u:=by
 cases o with
 |none=>exact(show False from r).elim
 |some u=>exact⟨u,rfl,r⟩
theorem pZ.none_of{o:Option Value}(r:pZ none o):o=none:=by
 cases o with
 |none=>rfl
 |some u=>exact(show False from r).elim
theorem xm{v:V}{u:Value}(r:dn v u):PySem.W.handedIn u=true:=by
 cases v with
 |non=>cases (show u=Value.none from r);rfl
 |bl b=>cases (show u=Value.bool b from r);rfl
 |int i=>obtain⟨t,e⟩:=(show ∃t,u=Value.int i t from r);cases e;rfl
 |str x=>obtain⟨t,e⟩:=(show ∃t,u=Value.str x t from r);cases e;rfl
 |byt b=>obtain⟨t,e⟩:=(show ∃t,u=Value.bytes b t from r);cases e;rfl
 |flt b=>obtain⟨t,e⟩:=(show ∃t,u=Value.float b t from r);cases e;rfl
 |ref a=>cases (show u=Value.ref a from r);rfl
 |ty n=>cases (show u=Value.type n from r);rfl
section
variable{P:Program}{w:World}{H H':Hp}{h h':Heap}{a C dx:Addr}{fs fs':List (Str×V)}
theorem pD(hok:HOk P w H h)(e:H a=some (.ins C dx fs)):∃mA,DI h a dx C mA/\(∀f,pZ (fs.lookup f) (mA f))/\PySem.Within mA (fs.map (·.1))/\fs.length<=1000/\H dx=some (.own a):=by
 obtain⟨d,z,ne,ob,mA,n,r,q⟩:=(show cB P w H h a (.ins C dx fs)from hok a _ e)
 exact⟨mA,⟨ob,n,ne⟩,r,q,z,d⟩
end
structure Cls(K:PySem.W.Frag)(C:Addr):Prop where
 pg:PySem.W.plainGet K C Str.empty=true
 hd:PySem.W.hasDictIn K C=true
 po:PySem.W.plainOver K C=true
 sa:PySem.W.findIn K (.ref C) "__setattr__"=some (some (.builtin "object.__setattr__"))
theorem Cls.get{K:PySem.W.Frag}{C:Addr}(c:Cls K C)(f:Str):PySem.W.plainGet K C f=true:=c.pg
def i9(K:PySem.W.Frag)(C:Addr)(f:Str):Prop:=PySem.W.findIn K (.ref C) f=some none
theorem i9.taker{K:PySem.W.Frag}{C:Addr}{f:Str}(n:i9 K C f):PySem.W.takerIn K C f=some none:=by
 unfold PySem.W.takerIn
 rw[show PySem.W.findIn K (.ref C) f=some none from n]
 rfl
structure DJ(K:PySem.W.Frag)(C:Addr)(m:Str)(f:Addr):Prop where
 at_:PySem.W.findIn K (.ref C) m=some (some (.ref f))
 fn:PySem.W.isFn K (.ref f)=true
 kp:PySem.W.keepIn K (.ref f)=true
section
variable{X:Cx}{pins:List (Addr×Obj)}{σ:St}{H:Hp}{s:Shared}{a C dx:Addr}{fs:List (Str×V)}{f:Str}{v:V}{A:Around}{E:Value->Shared->Prop}
theorem uV{b:Bool}{Q:Value->Shared->Prop}(I:Inv X pins σ H s)(e:H a=some (.ins C dx fs))(c:Cls X.K C)(n:i9 X.K C f)(l:fs.lookup f=some v)
  (h:∀u s',Inv X pins σ H s'->dn v u->Q u s'):wpAny (model X.prog X.w) A (getAttr (.ref a) f b) Q E s:=by
 obtain⟨mA,O,r,_,_,_⟩:=pD I.hok e
 obtain⟨u,hu,ru⟩:=pZ.some_of (v:=v) (o:=mA f) (by rw[<-l];exact r f)
 exact Dn I.kIn O (c.get f) c.hd n hu (xm ru) (h u _ (I.tok _) ru)
theorem oC{m:Str}{g:Addr}{pl:Sem Bool}{Q:Value×List Value->Shared->Prop}(I:Inv X pins σ H s)(e:H a=some (.ins C dx fs))(c:Cls X.K C)(k:DJ X.K C m g)(l:fs.lookup m=none)
  (h:Q (.ref g,[.ref a]) s):wpAny (model X.prog X.w) A (getMethod (.ref a) m pl) Q E s:=by
 obtain⟨mA,O,r,_,_,_⟩:=pD I.hok e
 have hn:mA m=none:=pZ.none_of (by rw[<-l];exact r m)
 exact zU I.kIn O (c.get m) k.at_ k.fn hn h
theorem uL{y:V}{u:Value}{Q:Unit->Shared->Prop}(I:Inv X pins σ H s)(e:H a=some (.ins C dx fs))(c:Cls X.K C)(n:i9 X.K C f)(hl:fs.length<1000)(ry:dn y u)
  (h:∀s',Inv X pins σ (upd H a (.ins C dx (nM f y fs))) s'->Q () s'):wpAny (model X.prog X.w) A (setAttr (.ref a) f u) Q E s:=by
 obtain⟨mA,O,r,wi,_,ho⟩:=pD I.hok e
 have hz:(fs.map (·.1)).length<=sizeLine:=by rw[List.length_map,sizeLine_eq];omega
 refine B9 I.kIn O c.sa c.po n.taker c.hd wi hz fun h' O' sb=>h _ ?_
 have hd:∃o,h'.get? dx=some o:=let ⟨o,_,_,e',_⟩:=O'.ns;⟨o,e'⟩
 refine I.write (x:=a) (e:=dx) (by rw[e];exact True.intro) (.inr ho) (fun b q hb z=>(sb.2 b hb).trans z) hd ?_
 refine⟨by rw[bH O.ne];exact ho,?_,O.ne,O'.obj,_,O'.ns,fun g=>?_,fun g hg=>?_⟩
 ·have:=mX f y fs;omega
 ·show pZ ((nM f y fs).lookup g) (if g=f then some u else mA g)
  rw[jo]
  by_cases q:g=f
  ·rw[if_pos q,if_pos q];exact ry
  ·rw[if_neg q,if_neg q];exact r g
 ·by_cases q:g=f
  ·rw[q];exact(fE f y fs).1
  ·refine(fE f y fs).2 g (wi g fun z=>hg ?_)
   show(if g=f then some u else mA g)=none
   rw[if_neg q];exact z
theorem Inv.made(I:Inv X pins σ H s):Inv X pins σ (upd (upd H s.heap.objs.size (.own (s.heap.objs.size+1))) (s.heap.objs.size+1) (.ins C s.heap.objs.size []))
  { s with heap:=(s.heap.push PySem.W.emptyDict).push (PySem.W.instObj C s.heap.objs.size) }:=by
 have e1:(s.heap.push PySem.W.emptyDict).get? s.heap.objs.size=some PySem.W.emptyDict:=Heap.get?_push_size s.heap rfl
 have e2:((s.heap.push PySem.W.emptyDict).push (PySem.W.instObj C s.heap.objs.size)).get? (s.heap.objs.size+1)=some (PySem.W.instObj C s.heap.objs.size):=by
  have:=Heap.get?_push_size (s.heap.push PySem.W.emptyDict) (o:=PySem.W.instObj C s.heap.objs.size) rfl
  rwa[Heap.size_push]at this
 have e3:(s.heap.push PySem.W.emptyDict).Ns s.heap.objs.size (fun _=>none):=⟨PySem.W.emptyDict,#[],_,e1,rfl,(fun e he=>absurd he (by simp)),fun _=>rfl⟩
 have I1:=I.laid (a:=s.heap.objs.size) (o:=.own (s.heap.objs.size+1)) (h':=s.heap.push PySem.W.emptyDict) (t':=s.toks) (fun b u q=>Heap.get?_push_of_some _ q) (Nat.le_refl _) ⟨_,e1⟩
 refine I1.laid (a:=s.heap.objs.size+1) (o:=.ins C s.heap.objs.size []) (t':=s.toks) (fun b u q=>Heap.get?_push_of_some _ q) (Nat.le_of_eq (Heap.size_push _ _)) ?_
 have ne:s.heap.objs.size≠s.heap.objs.size+1:=Nat.ne_of_lt (Nat.lt_succ_self _)
 refine⟨by rw[bH ne,aP],Nat.zero_le _,ne,e2,fun _=>none,(Heap.Ns1.of_empty e3).at fun o q=>Heap.get?_push_of_some _ q,fun _=>True.intro,fun y hy=>absurd rfl hy⟩
theorem DD{prog:Program}{w:World}{env:Env}{e:Expr}{f:Str}{pos:Pos}{s:Shared}{Q:Value->Shared->Prop}(hb:attributeBase e f env (eval e env)=eval e env)
  (h:wpAny (model prog w) A (eval e env) (fun o s₁=>wpAny (model prog w) A (getAttr o f true) Q E s₁) E s):wpAny (model prog w) A (eval (.Attribute e f pos) env) Q E s:=
 Attribute_any_ h (by rw[arm_eval_Attribute,hb])
end
def J0(K:PySem.W.Frag)(ta:TE)(f:Str):TE:=fun σ H Q=>ta σ H fun x H1=>∃a C dx fs v,x=.ref a/\H1 a=some (.ins C dx fs)/\Cls K C/\i9 K C f/\fs.lookup f=some v/\Q v H1
def J2(K:PySem.W.Frag)(ta tv:TE)(f:Str):TS:=fun D σ H=>tv σ H fun y H1=>ta σ H1 fun x H2=>∃a C dx fs,x=.ref a/\H2 a=some (.ins C dx fs)/\Cls K C/\i9 K C f/\fs.length<1000/\
 D.nx σ (upd H2 a (.ins C dx (nM f y fs)))
section
variable{X:Cx}{o e value:Expr}{f:Str}{pos pos' tpos:Pos}{ta tv:TE}
theorem Fy(he:PE X e ta)(hb:attributeBase e f X.env (eval e X.env)=eval e X.env):PE X (.Attribute e f pos) (J0 X.K ta f):=by
 intro pins s σ H Q I h
 refine DD hb (thn (he pins s σ H _ I h) fun u s1 hz=>?_)
 obtain⟨x,H1,I1,rx,a,C,dx,fs,v,ex,ea,c,n,l,q⟩:=hz
 subst ex
 obtain rfl:u=Value.ref a:=rx
 exact uV I1 ea c n l fun u' s2 I2 ru=>⟨v,H1,I2,ru,q⟩
theorem Fi(ha:PE X o ta)(hv:PE X value tv)(hs:swapsWith value (some (.Attribute o f pos')) pos.line X.env=pure false):PS X (.Assign [.Attribute o f pos'] value pos) (J2 X.K ta tv f):=by
 intro pins s σ H D I h
 refine plainObj_wpAny_Assign_Attribute (thn (hv pins s σ H _ I h) fun u s1 ⟨y,H1,I1,ry,q⟩=>thn (ha pins s1 σ H1 _ I1 q) fun ov s2 hz=>?_) hs
 obtain⟨x,H2,I2,rx,a,C,dx,fs,ex,ea,c,n,l,q2⟩:=hz
 subst ex
 obtain rfl:ov=Value.ref a:=rx
 exact uL I2 ea c n l ry fun s3 I3=>⟨σ,_,I3,q2⟩
end
section
variable{X:Cx}{pins:List (Addr×Obj)}{σ:St}{H:Hp}{s:Shared}{A:Around}{E:Value->Shared->Prop}{Q:Value->Shared->Prop}{c:Value}{b:Bool}
inductive uw(K:PySem.W.Frag)(H:Hp):V->Value->Prop where
 |non:uw K H .non (.type "NoneType")
 |bl (x:Bool):uw K H (.bl x) (.type "bool")
 |int (i:Int):uw K H (.int i) (.type "int")
 |str (x:Str):uw K H (.str x) (.type "str")
 |flt (x:UInt64):uw K H (.flt x) (.type "float")
 |lst {a:Addr} {xs:List V} (e:H a=some (.lst xs)):uw K H (.ref a) (.type "list")
 |frz {a:Addr} {o:Obj} {xs:List V} (e:H a=some (.frz o (.lst xs))):uw K H (.ref a) (.type "list")
 |tup {a:Addr} {xs:List V} (e:H a=some (.tup xs)):uw K H (.ref a) (.type "tuple")
 |dK {a:Addr} {kvs:List (Key×V)} (e:H a=some (.dK kvs)):uw K H (.ref a) (.type "dict")
 |dT {a:Addr} {kvs:List (List Key×V)} (e:H a=some (.dT kvs)):uw K H (.ref a) (.type "dict")
 | ins {a C dx:Addr} {fs:List (Str×V)} (e:H a=some (.ins C dx fs)) (cl:Cls K C) (ha:PySem.W.findIn K (.ref C) "__class__"=some (some (.builtin "object.__class__")))
   (hn:PySem.W.specialIn K (.builtin "object.__class__") "__get__"=some (some (.builtin "getset_descriptor.__get__"))) (htk:PySem.W.takesIn K (.builtin "object.__class__")=some true)
   (hm:PySem.W.mroIn K C (.type "object")=some true):uw K H (.ref a) (.ref C)
theorem xc{x:V}{u t:Value}(I:Inv X pins σ H s)(rx:dn x u)(ty:uw X.K H x t)(e:PySem.W.kitOne X.K t c=some b)(h:∀tk,Q (.bool b) { s with toks:=tk }) :
  wpAny (model X.prog X.w) A (call (.builtin "isinstance") [u,c]) Q E s:=by
 cases ty with
 |non=>cases (show u=Value.none from rx);exact PySem.W.kia_one PySem.W.kitx_none I.kIn True.intro e (fun z=>nomatch z) h
 |bl y=>cases (show u=Value.bool y from rx);exact PySem.W.kia_one PySem.W.kitx_bool I.kIn True.intro e (fun z=>nomatch z) h
 |int i=>obtain⟨t,q⟩:=(show ∃t,u=Value.int i t from rx);cases q;exact PySem.W.kia_one PySem.W.kitx_int I.kIn True.intro e (fun z=>nomatch z) h
 |str y=>obtain⟨t,q⟩:=(show ∃t,u=Value.str y t from rx);cases q;exact PySem.W.kia_one PySem.W.kitx_str I.kIn True.intro e (fun z=>nomatch z) h
 |flt y=>obtain⟨t,q⟩:=(show ∃t,u=Value.float y t from rx);cases q;exact PySem.W.kia_one PySem.W.kitx_float I.kIn True.intro e (fun z=>nomatch z) h
 |@lst a xs ea=>
  cases (show u=Value.ref a from rx)
  obtain⟨_,_,n,_,h1⟩:=(show cB X.prog X.w H s.heap a (.lst xs)from I.hok a _ ea)
  exact PySem.W.kia_one PySem.W.kitx_list I.kIn ⟨_,h1,rfl⟩ e (fun z=>nomatch z) h
 |@frz a ob xs ea=>
  cases (show u=Value.ref a from rx)
  obtain⟨_,_,_,n,_,h1⟩:=(show cB X.prog X.w H s.heap a (.frz ob (.lst xs))from I.hok a _ ea)
  exact PySem.W.kia_one PySem.W.kitx_list I.kIn ⟨_,h1,rfl⟩ e (fun z=>nomatch z) h
 |@tup a xs ea=>
  cases (show u=Value.ref a from rx)
  obtain⟨_,_,_,p⟩:=(show cB X.prog X.w H s.heap a (.tup xs)from I.hok a _ ea)
  obtain⟨o,h1,h2,_⟩:=p
  exact PySem.W.kia_one PySem.W.kitx_tuple I.kIn ⟨o,h1,h2⟩ e (fun z=>nomatch z) h
 |@dK a kvs ea=>
  cases (show u=Value.ref a from rx)
  obtain⟨_,_,vs,_,p⟩:=(show cB X.prog X.w H s.heap a (.dK kvs)from I.hok a _ ea)
  obtain⟨o,es,ep,h1,h2,_⟩:=p
  exact PySem.W.kia_one PySem.W.kitx_dict I.kIn ⟨o,h1,h2.1⟩ e (fun z=>nomatch z) h
 |@dT a kvs ea=>
  cases (show u=Value.ref a from rx)
  obtain⟨_,_,xs,_,o,es,ep,h1,h2,_⟩:=(show cB X.prog X.w H s.heap a (.dT kvs)from I.hok a _ ea)
  exact PySem.W.kia_one PySem.W.kitx_dict I.kIn ⟨o,h1,h2.1⟩ e (fun z=>nomatch z) h
 |@ins a C dx fs ea cl ha hn htk hm=>
  cases (show u=Value.ref a from rx)
  obtain⟨mA,O,_⟩:=pD I.hok ea
  obtain⟨od,J,_⟩:=O.look
  exact PySem.W.kia_one (PySem.W.kitx_own (cl.get _) cl.hd ha hn htk hm) I.kIn J e (fun z=>nomatch z) h
end
structure gB(k:Nat)(A:Around):Prop where
 hd:A.handled=none
 dp:A.depth+3*k+5<recursionLimit
 un:A.units+16*k+200<cLine
 gd:A.guards=some []
theorem gB.mono{j k:Nat}{A:Around}(r:gB k A)(h:j<=k):gB j A:=⟨r.hd,by have:=r.dp;omega,by have:=r.un;omega,r.gd⟩
theorem gB.deeper{k:Nat}{A:Around}(r:gB (k+1) A)(env:Env):gB k (A.deeper env):=
 ⟨r.hd,by have:=r.dp;show A.depth+1+3*k+5<_;omega,by have:=r.un;show A.units+3+16*k+200<_;omega,r.gd⟩
theorem uR{A:Around}{C:Addr}{us:List Value}{kw:List (Str×Value)}:(A.under (.builtin "type.__call__" ⟨.ref C::us,kw⟩)).depth=A.depth+1:=by
 first|rfl|simp[Around.under,Code.weight,Code.isCreation,Code.isGuard,Code.isCaller,Code.frames,Code.isFrame,guardIds]
theorem uQ{A:Around}{C:Addr}{us:List Value}{kw:List (Str×Value)}:(A.under (.builtin "type.__call__" ⟨.ref C::us,kw⟩)).units=A.units+1:=by
 first|rfl|simp[Around.under,Code.cUnits,Code.frames,Code.isFrame]
theorem gB.make{k:Nat}{A:Around}(r:gB (k+1) A)(C:Addr)(us:List Value)(kw:List (Str×Value)):gB k (A.under (.builtin "type.__call__" ⟨.ref C::us,kw⟩)):=
 ⟨r.hd,by have:=r.dp;rw[uR];omega,by have:=r.un;rw[uQ];omega,r.gd⟩
theorem gB.depth{k:Nat}{A:Around}(r:gB k A):A.depth<recursionLimit:=by have:=r.dp;omega
theorem gB.units{k:Nat}{A:Around}(r:gB k A):A.units+64<cLine:=by have:=r.un;omega
def GU:TA:=fun _ H Q=>Q [] H
def ES(ta:TE)(tr:TA):TA:=fun σ H Q=>ta σ H fun x H1=>tr σ H1 fun xs H2=>Q (x::xs) H2
section
variable{X:Cx}{e:Expr}{es:List Expr}{te:TE}{t:TA}{pos:Pos}
theorem FD:PA X [] GU:=fun _ _ _ _ H Q I h=>Calls.spliced_nil ⟨[],H,I,.nil,h⟩
theorem CL(ha:PE X e te)(hr:PA X es t)(hs:starEach (e::es) X.env=(false,eval e X.env)::starEach es X.env:=by rfl):PA X (e::es) (ES te t):=by
 intro pos pins s σ H Q I h
 rw[hs]
 show wpAny _ _ (spliced ((false,eval e X.env)::backTo pos (starEach es X.env))) _ _ s
 refine Calls.spliced_cons (thn (ha pins s σ H _ I h) fun u s1 hz=>?_)
 obtain⟨x,H1,I1,r1,q1⟩:=hz
 exact thn (hr pos pins s1 σ H1 _ I1 q1) fun us s2 ⟨xs,H2,I2,r2,q2⟩=>⟨x::xs,H2,I2,.cons r1 r2,q2⟩
def JU(t:TA):TE:=fun σ H Q=>t σ H fun xs H1=>xs.length<=sizeLine/\∀p,H1 p=none->Q (.ref p) (upd H1 p (.tup xs))
def JY(t:TA):TE:=fun σ H Q=>t σ H fun xs H1=>xs.length<=sizeLine/\∀p,H1 p=none->Q (.ref p) (upd H1 p (.lst xs))
theorem Fq{x1}(h:PA X es t):PE X (.Tuple es x1 pos) (JU t):=by
 intro pins s σ H Q I hq
 refine wpAny_Tuple_spliced (thn (h pos pins s σ H _ I hq) fun us s1 ⟨xs,H1,I1,r,z,q⟩=>⟨by rw[<-r.length];exact z,?_⟩)
 have hf:H1 s1.heap.objs.size=none:=I1.hok.fresh (Nat.le_refl _)
 refine⟨.ref s1.heap.objs.size,upd H1 s1.heap.objs.size (.tup xs),I1.laid (t':=s1.toks) (fun b u e=>Heap.get?_push_of_some _ e) (Nat.le_refl _) ?_,rfl,q _ hf⟩
 exact⟨z,us,r,⟨_,Heap.get?_push_size _ rfl,rfl,_,rfl⟩⟩
theorem Fw(h:PA X es t):PE X (.List es pos) (JY t):=by
 intro pins s σ H Q I hq
 refine wpAny_List_spliced (thn (h pos pins s σ H _ I hq) fun us s1 ⟨xs,H1,I1,r,z,q⟩=>⟨by rw[<-r.length];exact z,?_⟩)
 have hf:H1 s1.heap.objs.size=none:=I1.hok.fresh (Nat.le_refl _)
 refine⟨.ref s1.heap.objs.size,upd H1 s1.heap.objs.size (.lst xs),I1.laid (t':=s1.toks) (fun b u e=>Heap.get?_push_of_some _ e) (Nat.le_refl _) ?_,rfl,q _ hf⟩
 exact⟨z,us,0,r,Heap.get?_push_size _ rfl⟩
end
abbrev Sp:=List V->Hp->VK->XK->Prop
abbrev CXT:=List Env->Hp->Shared->XK->Value->Shared->Prop
structure DK(P:Program)(w:World)(K:PySem.W.Frag)(mg:Str->Option Value)(base:Heap)(A:Around)(outer:List Env)(s:Shared)(H:Hp):Prop where
 frames:A.frames=some outer
 mod:Mod K mg base
 bs:∀b o,base.get? b=some o->s.heap.get? b=some o/\H b=none
 bsz:base.objs.size<=s.heap.objs.size
 funs:s.heap.FunFrames base outer
 frf:∀b∈frs outer,H b=none
 hok:HOk P w H s.heap
 bare:AllBare s.gens
def CE(outer:List Env)(P:Program)(w:World)(H:Hp)(s:Shared)(Q:VK)(u:Value)(s':Shared):Prop:=
 ∃v H',s'.os=s.os/\AllBare s'.gens/\Un (frs outer) [] H H' s.heap s'.heap/\HOk P w H' s'.heap/\dn v u/\Q v H'
def CR(CX:CXT)(outer:List Env)(P:Program)(w:World)(H:Hp)(s:Shared)(Q:VK)(E:XK)(r:Result)(s':Shared):Prop:=
 match r with
 |.ok (.ret u)=>CE outer P w H s Q u s'
 |.ok _=>False
 |.error e=>CX outer H s E e s'
structure lL(P:Program)(w:World)(K:PySem.W.Frag)(mg:Str->Option Value)(base:Heap)(CX:CXT)(k:Nat)(f:Addr)(fd:FuncData)(ps:List Str)(sp:Sp):Prop where
 len:∀vs H Q E,sp vs H Q E->vs.length=ps.length
 run:∀(A:Around) (outer:List Env) (s:Shared) (H:Hp) (args:Args) (us:List Value) (vs:List V) (Q:VK) (E:XK),gB k A->DK P w K mg base A outer s H->BindsTo s fd args (ps.zip us)->cg vs us->sp vs H Q E->
  codeAny (model P w) A (.call (.ref f) args) (CR CX outer P w H s Q E) s
theorem lL.mono{P:Program}{w:World}{K:PySem.W.Frag}{mg:Str->Option Value}{base:Heap}{CX:CXT}{j k:Nat}{f:Addr}{fd:FuncData}{ps:List Str}{sp:Sp}(F:lL P w K mg base CX j f fd ps sp)(h:j<=k) :
  lL P w K mg base CX k f fd ps sp:=⟨F.len,fun A outer s H args us vs Q E hr=>F.run A outer s H args us vs Q E (hr.mono h)⟩
theorem DK.make{P:Program}{w:World}{K:PySem.W.Frag}{mg:Str->Option Value}{base:Heap}{A:Around}{outer:List Env}{s:Shared}{H:Hp}(e:DK P w K mg base A outer s H)(C:Addr)(us:List Value)(kw:List (Str×Value)) :
  DK P w K mg base (A.under (.builtin "type.__call__" ⟨.ref C::us,kw⟩)) outer s H:=⟨by first|exact e.frames|(simpa [Around.under,Code.envs,Code.isFrame,pushEnvs] using e.frames),e.mod,e.bs,e.bsz,e.funs,e.frf,e.hok,e.bare⟩
section
variable{X:Cx}{pins:List (Addr×Obj)}{σ:St}{H:Hp}{s s':Shared}
theorem Inv.env0(I:Inv X pins σ H s):DK X.prog X.w X.K X.mg X.base X.A X.stack s H:=
 ⟨I.ok.frames,I.ok.mod,I.bs,Nat.le_trans I.ok.bsz I.sz,I.stack,I.stkFree,I.hok,I.bare⟩
theorem Inv.after{Q:VK}{u:Value}(I:Inv X pins σ H s)(h:CE X.stack X.prog X.w H s Q u s'):EP X pins σ Q u s':=by
 obtain⟨v,H',os,bare,un,hok,r,q⟩:=h
 obtain⟨hh,g,d,t,os'⟩:=s'
 obtain rfl:os'=s.os:=os
 exact⟨v,H',I.call (h':=hh) (g':=g) (d':=d) (t':=t) (ch:=[]) un hok bare (fun b z=>absurd z (by simp)),r,q⟩
end
def ET(sp:Sp)(dvs:List V)(E:XK)(t:TA):TE:=fun σ H Q=>t σ H fun vs H1=>sp (vs++dvs) H1 Q E
def vU(C:Addr)(m:Str)(sp:Sp)(dvs:List V)(E:XK)(ta:TE)(t:TA):TE:=fun σ H Q=>ta σ H fun x H1=>∃a dx fs,x=.ref a/\H1 a=some (.ins C dx fs)/\fs.lookup m=none/\
 t σ H1 fun vs H2=>sp (x::(vs++dvs)) H2 Q E
def BS(C:Addr)(sp:Sp)(dvs:List V)(E:XK)(t:TA):TE:=fun σ H Q=>t σ H fun vs H1=>∀x dx,H1 x=none->H1 dx=none->dx≠x->
 sp (.ref x::(vs++dvs)) (upd (upd H1 dx (.own x)) x (.ins C dx [])) (fun v H2=>v=.non/\Q (.ref x) H2) E
def gW(K:PySem.W.Frag)(fd:FuncData)(ps:List Str)(ds:List Value):Prop:=
 ∀(s:Shared) (us:List Value),K.In s.heap->(us++ds).length=ps.length->BindsTo s fd ⟨us,[]⟩ (ps.zip (us++ds))
theorem gW.all{K:PySem.W.Frag}{fd:FuncData}{ps:List Str}(h:∀us:List Value,us.length=ps.length->bindArgs fd ⟨us,[]⟩=pure (ps.zip us)):gW K fd ps []:=fun s us _ hl=>by
 rw[List.append_nil]at hl ⊢
 exact .of_eq (h us hl)
def i7(CX:CXT)(X:Cx)(E:XK):Prop:=∀(pins:List (Addr×Obj)) (σ:St) (H:Hp) (s:Shared) (e:Value) (s':Shared),Inv X pins σ H s->CX X.stack H s E e s'->X.xe e s'
section
variable{X:Cx}{CX:CXT}{k:Nat}{f C:Addr}{fd:FuncData}{ps:List Str}{sp:Sp}{dvs:List V}{ds:List Value}{E:XK}{x m:Str}{p pos apos:Pos}{e o:Expr}{es:List Expr}{ta:TE}{t:TA}
theorem wb{pins:List (Addr×Obj)}{σ:St}{H:Hp}{s:Shared}{Q:VK}{us:List Value}{vs:List V}(F:lL X.prog X.w X.K X.mg X.base CX k f fd ps sp)(hr:gB k X.A)(hb:gW X.K fd ps ds)(hd:cg dvs ds)(hx:i7 CX X E)
  (I:Inv X pins σ H s) (r:cg vs us) (h:sp (vs++dvs) H Q E):wpAny (model X.prog X.w) X.A (call (.ref f) us) (EP X pins σ Q) X.xe s:=by
 have r2:cg (vs++dvs) (us++ds):=r.append hd
 have hl:(us++ds).length=ps.length:=by rw[<-r2.length];exact F.len _ _ _ _ h
 refine wpAny_call (codeAny_mono (F.run X.A X.stack s H ⟨us,[]⟩ (us++ds) (vs++dvs) Q E hr I.env0 (hb s us I.kIn hl) r2 h) fun r s' hq=>?_)
 cases r with
 |error e=>exact hx pins σ H s e s' I hq
 |ok fl=>
  cases fl with
  |ret u=>exact I.after hq
  |next=>exact False.elim hq
  |brk=>exact False.elim hq
  |cont=>exact False.elim hq
theorem CJ(F:lL X.prog X.w X.K X.mg X.base CX k f fd ps sp)(hr:gB k X.A)(hg:Gl X x)(hm:X.mg x=some (.ref f))(hk:PySem.W.keepIn X.K (.ref f)=true)(hb:gW X.K fd ps ds)(hd:cg dvs ds)(hx:i7 CX X E)
  (ha:PA X (e::es) t) (hdb:(x == ("__debug__":Str))=false:=by decide) (he:starEach (e::es) X.env=(false,eval e X.env)::starEach es X.env:=by rfl) (hpl:(backTo pos (starEach es X.env)).any (·.1)=false:=by rfl) :
  PE X (.Call (.Name x p) (e::es) [] pos) (ET sp dvs E t):=by
 intro pins s σ H Q I h
 refine wpAny_Call_Name_kw (wU I hg hm ?_ hdb)
 refine PySem.W.callWith_K (h₀:=X.base) I.ok.mod.kin hk (thn (ha pos pins s σ H _ I h) fun us s1 ⟨vs,H1,I1,r,q⟩=>⟨I1.kIn,?_⟩) he hpl
 exact wb F hr hb hd hx I1 r q
theorem CB{pl:Sem Bool}(he:PE X o ta)(c:Cls X.K C)(hm:DJ X.K C m f)(F:lL X.prog X.w X.K X.mg X.base CX k f fd ps sp)(hr:gB k X.A)(hb:gW X.K fd ps ds)(hd:cg dvs ds)(hx:i7 CX X E)(ha:PA X (e::es) t)
  (hst:starEach (e::es) X.env=(false,eval e X.env)::starEach es X.env:=by rfl) (hpl:(backTo pos (starEach es X.env)).any (·.1)=false:=by rfl)
  (ht:eval (.Call (.Attribute o m apos) (e::es) [] pos) X.env=(do
   let ov <-eval o X.env
   standAt apos.atName
   let (f,first) <-holding [ov] (getMethod ov m pl)
   callWith pos f first (backTo pos (starEach (e::es) X.env)) (backToKw pos (keywordEach [] X.env))):=by rfl) :
  PE X (.Call (.Attribute o m apos) (e::es) [] pos) (vU C m sp dvs E ta t):=by
 intro pins s σ H Q I h
 refine PySem.W.methodCall_KW (pl:=pl) (thn (he pins s σ H _ I h) fun u s1 hz=>?_) ht
 obtain⟨x,H1,I1,rx,a,dx,fs,ex,ea,l,q⟩:=hz
 subst ex
 obtain rfl:u=Value.ref a:=rx
 refine oC I1 ea c hm l ?_
 refine PySem.W.callWith_K (first:=[.ref a]) (h₀:=X.base) I.ok.mod.kin hm.kp (thn (ha pos pins s1 σ H1 _ I1 q) fun us s2 ⟨vs,H2,I2,r,q2⟩=>⟨I2.kIn,?_⟩) hst hpl
 exact wb (us:=.ref a::us) (vs:=.ref a::vs) F hr hb hd hx I2 (.cons rfl r) q2
theorem zi{pl:Sem Bool}(he:PE X o ta)(c:Cls X.K C)(hm:DJ X.K C m f)(F:lL X.prog X.w X.K X.mg X.base CX k f fd ps sp)(hr:gB k X.A)(hb:gW X.K fd ps ds)(hd:cg dvs ds)(hx:i7 CX X E)
  (ht:eval (.Call (.Attribute o m apos) [] [] pos) X.env=(do
   let ov <-eval o X.env
   standAt apos.atName
   let (f,first) <-holding [ov] (getMethod ov m pl)
   callWith pos f first (backTo pos (starEach [] X.env)) (backToKw pos (keywordEach [] X.env))):=by rfl) :
  PE X (.Call (.Attribute o m apos) [] [] pos) (vU C m sp dvs E ta GU):=by
 intro pins s σ H Q I h
 refine PySem.W.methodCall_KW (pl:=pl) (thn (he pins s σ H _ I h) fun u s1 hz=>?_) ht
 obtain⟨x,H1,I1,rx,a,dx,fs,ex,ea,l,q⟩:=hz
 subst ex
 obtain rfl:u=Value.ref a:=rx
 refine oC I1 ea c hm l ?_
 exact PySem.W.callWith_K0 (first:=[.ref a]) I1.kIn hm.kp (wb (us:=[.ref a]) (vs:=[.ref a]) F hr hb hd hx I1 (.cons rfl .nil) q)
structure Mk(K:PySem.W.Frag)(C f:Addr):Prop where
 makes:PySem.W.makesIn K C=true
 init:PySem.W.findIn K (.ref C) "__init__"=some (some (.ref f))
 fn:PySem.W.isFn K (.ref f)=true
 kp:PySem.W.keepIn K (.ref C)=true
theorem yV{pins:List (Addr×Obj)}{σ:St}{H:Hp}{s:Shared}{Q:VK}{us:List Value}{vs:List V}(M:Mk X.K C f)(F:lL X.prog X.w X.K X.mg X.base CX k f fd ps sp)(hr:gB (k+1) X.A)(hb:gW X.K fd ps ds)(hd:cg dvs ds)
  (hx:i7 CX X E) (I:Inv X pins σ H s) (r:cg vs us)
  (h:∀x dx,H x=none->H dx=none->dx≠x->sp (.ref x::(vs++dvs)) (upd (upd H dx (.own x)) x (.ins C dx [])) (fun v H2=>v=.non/\Q (.ref x) H2) E) :
  wpAny (model X.prog X.w) X.A (call (.ref C) us) (EP X pins σ Q) X.xe s:=by
 have hq:=h (s.heap.objs.size+1) s.heap.objs.size (I.hok.fresh (Nat.le_succ _)) (I.hok.fresh (Nat.le_refl _)) (Nat.ne_of_lt (Nat.lt_succ_self _))
 have I2:=Inv.made (C:=C) I
 have r2:cg (V.ref (s.heap.objs.size+1)::(vs++dvs)) (Value.ref (s.heap.objs.size+1)::(us++ds)):=.cons rfl (r.append hd)
 have hl:(Value.ref (s.heap.objs.size+1)::us++ds).length=ps.length:=by
  have e:=r2.length
  rw[F.len _ _ _ _ hq]at e
  exact e.symm
 refine wpAny_call (zH (f:=f) I.kIn M.makes M.init (beq_iff_eq.mp M.fn) (codeAny_mono (F.run _ X.stack _ _ ⟨Value.ref (s.heap.objs.size+1)::us,[]⟩ (Value.ref (s.heap.objs.size+1)::(us++ds)) _ _ E (hr.make C us [])
  (I2.env0.make C us []) (hb _ (Value.ref (s.heap.objs.size+1)::us) I2.kIn hl) r2 hq) fun r s' hq'=>?_))
 cases r with
 |error e=>exact hx pins σ _ _ e s' I2 hq'
 |ok fl=>
  cases fl with
  |ret u=>
   obtain⟨v,H',I3,rv,ev,q3⟩:=I2.after hq'
   subst ev
   exact⟨rv,⟨V.ref (s.heap.objs.size+1),H',I3,rfl,q3⟩⟩
  |next=>exact False.elim hq'
  |brk=>exact False.elim hq'
  |cont=>exact False.elim hq'
theorem CC(M:Mk X.K C f)(F:lL X.prog X.w X.K X.mg X.base CX k f fd ps sp)(hr:gB (k+1) X.A)(hg:Gl X x)(hm:X.mg x=some (.ref C))(hb:gW X.K fd ps ds)(hd:cg dvs ds)(hx:i7 CX X E)
  (ha:PA X (e::es) t) (hdb:(x == ("__debug__":Str))=false:=by decide) (he:starEach (e::es) X.env=(false,eval e X.env)::starEach es X.env:=by rfl) (hpl:(backTo pos (starEach es X.env)).any (·.1)=false:=by rfl) :
  PE X (.Call (.Name x p) (e::es) [] pos) (BS C sp dvs E t):=by
 intro pins s σ H Q I h
 refine wpAny_Call_Name_kw (wU I hg hm ?_ hdb)
 refine PySem.W.callWith_K (h₀:=X.base) I.ok.mod.kin M.kp (thn (ha pos pins s σ H _ I h) fun us s1 ⟨vs,H1,I1,r,q⟩=>⟨I1.kIn,?_⟩) he hpl
 exact yV M F hr hb hd hx I1 r q
end
structure aN(N P:List Str)(sc:Scope):Prop where
 kind:sc.kind=.function
 co:sc.isCoroutine=false
 gen:sc.isGenerator=false
 nd:N.Nodup
 pre:N.take P.length=P
 par:∀x∈P,sc.names.lookup x=some .local\/sc.names.lookup x=some .cell
 nofree:∀y∈sc.names,y.2≠.free
theorem rz{kindOf:Str->Option NameKind}{x:Str}:∀{binds:List (Str×Value)} {m:Str->Option Value},(∀v,(x,v)∉binds)->bindL kindOf binds m x=m x
 |[],_,_=>rfl
 |(n,v)::r,m,h=>by
  unfold bindL
  rw[rz fun w hw=>h w (List.mem_cons_of_mem _ hw)]
  split
  ·have:x≠n:=by rintro rfl;exact h v List.mem_cons_self
   simp[this]
  ·rfl
theorem rB{kindOf:Str->Option NameKind}{x:Str}:∀{binds:List (Str×Value)} {m:Str->Option Value},(∀v,(x,v)∉binds)->bindC kindOf binds m x=m x
 |[],_,_=>rfl
 |(n,v)::r,m,h=>by
  unfold bindC
  rw[rB fun w hw=>h w (List.mem_cons_of_mem _ hw)]
  split
  ·rfl
  ·have:x≠n:=by rintro rfl;exact h v List.mem_cons_self
   simp[this]
theorem rA{kindOf:Str->Option NameKind}{x:Str}{v:Value}:∀{P:List Str} {vs:List Value} {i:Nat} {m:Str->Option Value},P.Nodup->P[i]?=some x->vs[i]?=some v->kindOf x=some .local->
  bindL kindOf (P.zip vs) m x=some v
 |[],_,_,_,_,h,_,_=>by simp at h
 |_::_,[],_,_,_,_,h,_=>by simp at h
 |p::P,w::vs,0,m,nd,h1,h2,hk=>by
  simp at h1 h2;subst h1;subst h2
  show bindL kindOf ((p,w)::P.zip vs) m p=_
  unfold bindL
  rw[rz fun v hv=>(List.nodup_cons.mp nd).1 (List.of_mem_zip hv).1,if_pos hk]
  simp
 |p::P,w::vs,i+1,m,nd,h1,h2,hk=>by
  show bindL kindOf ((p,w)::P.zip vs) m x=_
  unfold bindL
  exact rA (i:=i) (List.nodup_cons.mp nd).2 (by simpa using h1) (by simpa using h2) hk
theorem rC{kindOf:Str->Option NameKind}{x:Str}{v:Value}:∀{P:List Str} {vs:List Value} {i:Nat} {m:Str->Option Value},P.Nodup->P[i]?=some x->vs[i]?=some v->kindOf x≠some .local->
  bindC kindOf (P.zip vs) m x=some v
 |[],_,_,_,_,h,_,_=>by simp at h
 |_::_,[],_,_,_,_,h,_=>by simp at h
 |p::P,w::vs,0,m,nd,h1,h2,hk=>by
  simp at h1 h2;subst h1;subst h2
  show bindC kindOf ((p,w)::P.zip vs) m p=_
  unfold bindC
  rw[rB fun v hv=>(List.nodup_cons.mp nd).1 (List.of_mem_zip hv).1,if_neg hk]
  simp
 |p::P,w::vs,i+1,m,nd,h1,h2,hk=>by
  show bindC kindOf ((p,w)::P.zip vs) m x=_
  unfold bindC
  exact rC (i:=i) (List.nodup_cons.mp nd).2 (by simpa using h1) (by simpa using h2) hk
def jH(N:List Str)(vs:List V):St:=vs.map some++List.replicate (N.length-vs.length) none
def um(CX:CXT)(P:Program)(w:World)(K:PySem.W.Frag)(mg:Str->Option Value)(base:Heap)(N:List Str)(qual:Str)(scope:Scope)(f:Addr)(cd:Value)(A:Around)(outer:List Env)(s:Shared)(H:Hp)(E:XK):Cx where
 prog:=P
 w:=w
 K:=K
 mg:=mg
 base:=base
 A:=A.deeper (envOfC qual scope s.heap.objs.size f cd)
 N:=N
 s₀:=s
 H₀:=H
 env:=envOfC qual scope s.heap.objs.size f cd
 outer:=outer
 stack:=envOfC qual scope s.heap.objs.size f cd::outer
 ex:=[]
 calm:=true
 fn:=fun _=>true
 pn:=[]
 xe:=fun e s'=>wpAny (model P w) (A.deeper (envOfC qual scope s.heap.objs.size f cd)) (leaving (envOfC qual scope s.heap.objs.size f cd) e) (fun _ s''=>CX outer H s E e s'') (fun e' s''=>CX outer H s E e' s'') s'
theorem uq{sc:Scope}{n:Nat}{x:Str}(h:sc.names.lookup x=some .cell):∃c,(cellsFrom n sc.names []).lookup x=some c:=by
 have q:=PySem.W.cellsFrom_some sc.names n [] (.inl h)
 exact Option.isSome_iff_exists.mp q
theorem xh{CX:CXT}{P:Program}{w:World}{K:PySem.W.Frag}{mg:Str->Option Value}{base:Heap}{N ps:List Str}{qual:Str}{scope:Scope}{f:Addr}{cd:Value}{A:Around}{outer:List Env}{s s1:Shared}{H:Hp}{E:XK}{us:List Value}{vs:List V}
  (S:aN N ps scope) (hd:A.handled=none) (e0:DK P w K mg base A outer s H) (hl:vs.length=ps.length) (r:cg vs us)
  (x:InCallC s s.heap.objs.size (bindL (envOfC qual scope s.heap.objs.size f cd).kindOf (ps.zip us) fun _=>none) (cellsFrom (s.heap.objs.size+1) scope.names []) (bindC (envOfC qual scope s.heap.objs.size f cd).kindOf (ps.zip us) fun _=>none) s1) :
  Inv (um CX P w K mg base N qual scope f cd A outer s H E) [] (jH N vs) H s1:=by
 have hpl:ps.length<=N.length:=by have:=congrArg List.length S.pre;rw[List.length_take]at this;omega
 obtain⟨h1,tk,rfl,hk⟩:=x.done
 have noA:∀b:Addr,b∉(um CX P w K mg base N qual scope f cd A outer s H E).ex:=fun b z=>absurd (show b∈([]:List Addr)from z) (by simp)
 refine⟨⟨e0.mod,S.kind,rfl,rfl,Nat.le_refl _,fun y z c h1 h2=>?_,fun y hy=>?_,fun y c _ h=>?_,fun _=>hd,Around.frames_deeper e0.frames,.inr ⟨rfl,rfl⟩,fun b z=>absurd z (noA b),e0.bs,e0.bsz,fun b _ _=>noA b,fun b z=>absurd z (noA b),e0.funs,e0.frf⟩,
  rfl,e0.bare,Un.kept hk,⟨_,x.toInCall.ns,fun i y v h1 h2 h3=>?_⟩,fun y c h=>⟨_,x.cell y c h⟩,e0.hok.fresh (Nat.le_refl _),fun y c h=>?_,fun p hp=>absurd (show p∈([]:List (Addr×Obj))from hp) (by simp),e0.hok.kept hk,?_⟩
 ·exact name_of_addr x.apart (PySem.mem_of_lookup h1) (PySem.mem_of_lookup h2)
 ·have hy:scope.names.lookup y=some .cell\/scope.names.lookup y=some .free:=hy
  rcases hy with hy|hy
  ·exact uq hy
  ·exact absurd rfl (S.nofree _ (PySem.mem_of_lookup hy))
 ·exact Nat.le_of_lt (x.above y c (PySem.mem_of_lookup h))
 ·have hi:i<vs.length:=by
   unfold jH at h2
   by_cases hi:i<vs.length
   ·exact hi
   ·rw[List.getElem?_append_right (by simpa using hi)]at h2
    rw[List.getElem?_replicate]at h2
    split at h2<;>cases h2
  have ha:vs[i]?=some v:=by
   unfold jH at h2
   rw[List.getElem?_append_left (by simpa using hi),List.getElem?_map]at h2
   cases e:vs[i]? with
   |none=>rw[e]at h2;cases h2
   |some a=>rw[e]at h2;cases h2;rfl
  obtain⟨u,hu,rv⟩:=r.get ha
  have hp:ps[i]?=some y:=by
   rw[<-S.pre,List.getElem?_take_of_lt (by omega)];exact h1
  have ndP:ps.Nodup:=by rw[<-S.pre];exact S.nd.sublist (List.take_sublist _ _)
  refine⟨u,rv,?_⟩
  rcases S.par y (List.mem_of_getElem? hp)with k|k
  ·exact .inl ⟨k,rA ndP hp hu k⟩
  ·obtain⟨c,e⟩:=uq (n:=s.heap.objs.size+1) k
   refine .inr ⟨.inl k,c,e,?_⟩
   have q:=x.cell y c e
   rw[rC ndP hp hu (by show scope.names.lookup y≠_;rw[k];decide)]at q
   exact q
 ·exact e0.hok.fresh (Nat.le_of_lt (x.above y c (PySem.mem_of_lookup h)))
 ·unfold jH
  show _=N.length
  rw[List.length_append,List.length_map,List.length_replicate]
  omega
theorem JC{CX:CXT}{P:Program}{w:World}{K:PySem.W.Frag}{mg:Str->Option Value}{base:Heap}{k:Nat}{f:Addr}{name qual:Str}{params:Arguments}{body:List Stmt}{scope:Scope}{dV kV doc pm cdv ct oc:Value}{an od:Option Addr}
  {osl:Array (Option Value)} {N ps:List Str} {sp:Sp} (lk:K.lookup f=some ⟨oc,od,.func (PySem.W.fnOf name qual params body scope dV kV doc pm an cdv ct),osl⟩) (hcd:PySem.W.codeIn K cdv qual=true) (S:aN N ps scope)
  (len:∀vs H Q E,sp vs H Q E->vs.length=ps.length)
  (hbody:∀(A:Around) (outer:List Env) (s:Shared) (H:Hp) (vs:List V) (Q:VK) (E:XK),gB k (A.deeper (envOfC qual scope s.heap.objs.size f cdv))->sp vs H Q E->
   ∃t,PSs (um CX P w K mg base N qual scope f cdv A outer s H E) body t/\t { nx:=fun _ H'=>Q .non H',rt:=Q } (jH N vs) H) :
  lL P w K mg base CX (k+1) f (PySem.W.fnOf name qual params body scope dV kV doc pm an cdv ct) ps sp:=by
 refine⟨len,fun A outer s H args us vs Q E hr e0 hb r hsp=>?_⟩
 have hl:=len _ _ _ _ hsp
 have KX:K.In s.heap:=e0.mod.kin.keeps fun b o e=>(e0.bs b o e).1
 have lim:s.heap.NoLimit:=e0.mod.nolimit.keeps fun b o e=>(e0.bs b o e).1
 have hkind:∀y∈ps.zip us,scope.names.lookup y.1=some .local\/(scope.names.lookup y.1=some .cell/\((cellsFrom (s.heap.objs.size+1) scope.names []).lookup y.1).isSome=true):=fun⟨n,v⟩ hy=>by
  rcases S.par n (List.of_mem_zip hy).1 with q|q
  ·exact .inl q
  ·exact .inr ⟨q,PySem.W.cellsFrom_some _ _ _ (.inl q)⟩
 refine codeAny_call_function hr.depth (KX _ _ lk) rfl S.co S.gen rfl (PySem.W.codeRec_of KX hcd) (hb _ _ _ _ ?_)
 refine wpAny_newFunctionEnv_cells S.kind hkind fun env he s1 x=>?_
 subst he
 refine⟨lim.keeps x.toInCall.keep,codeAny_func ?_⟩
 obtain⟨t,ht,hq⟩:=hbody A outer s H vs Q E (hr.deeper _) hsp
 have I:Inv (um CX P w K mg base N qual scope f cdv A outer s H E) [] (jH N vs) H s1:=xh S hr.hd e0 hl r x
 refine wpAny_mono (ht [] s1 (jH N vs) H _ I hq) (fun fl s' hs=>?_) fun e s' hs=>hs
 have fin:∀{σ':St} {H':Hp} {v:V} {u:Value},Inv (um CX P w K mg base N qual scope f cdv A outer s H E) [] σ' H' s'->dn v u->Q v H'->CE outer P w H s Q u s':=
  fun{σ' H' v u} J rv q=>⟨v,H',J.os,J.bare,J.base,J.hok,rv,q⟩
 cases fl with
 |ret u=>
  obtain⟨v,σ',H',J,rv,q⟩:=hs
  exact fin J rv q
 |next=>
  obtain⟨σ',H',J,q⟩:=hs
  exact fin (v:=V.non) (u:=Value.none) J rfl q
 |brk=>
  obtain⟨_,_,_,q⟩:=hs
  exact False.elim q
 |cont=>
  obtain⟨_,_,_,q⟩:=hs
  exact False.elim q
section
variable{X:Cx}{x:Str}{p pos:Pos}{e:Expr}{es:List Expr}{t:TA}{id T:String}{r:List V->Hp->VK->Prop}
def tCB(r:List V->Hp->VK->Prop)(t:TA):TE:=fun σ H Q=>t σ H fun vs H1=>r vs H1 Q
theorem zm(hc:fP X (.builtin id) r)(hg:Gl X x)(hm:X.mg x=none)(hv:bootBuiltins x=some (.builtin id))(ha:PA X (e::es) t)(hn:x≠"__name__":=by decide)(hdb:(x == ("__debug__":Str))=false:=by decide)
  (he:starEach (e::es) X.env=(false,eval e X.env)::starEach es X.env:=by rfl) (hpl:(backTo pos (starEach es X.env)).any (·.1)=false:=by rfl):PE X (.Call (.Name x p) (e::es) [] pos) (tCB r t):=by
 intro pins s σ H Q I h
 refine wpAny_Call_Name_kw (mY I hg hm hv ?_ hn hdb)
 exact PyProof.Rows.callWith_builtin1 (thn (ha pos pins s σ H _ I h) fun us s1 ⟨vs,H1,I1,r1,q1⟩=>hc pins s1 σ H1 vs us Q I1 r1 q1) he hpl
theorem wB(hc:fP X (.type T) r)(hg:Gl X x)(hm:X.mg x=none)(hv:bootBuiltins x=some (.type T))(ha:PA X (e::es) t)(hn:x≠"__name__":=by decide)(hdb:(x == ("__debug__":Str))=false:=by decide)
  (he:starEach (e::es) X.env=(false,eval e X.env)::starEach es X.env:=by rfl) (hpl:(backTo pos (starEach es X.env)).any (·.1)=false:=by rfl):PE X (.Call (.Name x p) (e::es) [] pos) (tCB r t):=by
 intro pins s σ H Q I h
 refine wpAny_Call_Name_kw (mY I hg hm hv ?_ hn hdb)
 exact PyProof.Rows.callWith_type1 (thn (ha pos pins s σ H _ I h) fun us s1 ⟨vs,H1,I1,r1,q1⟩=>hc pins s1 σ H1 vs us Q I1 r1 q1) he hpl
end
end L2
namespace HT
open PySem PyProof.Rows
section
variable{prog:Program}{w:World}{A:Around}{E:Value->Shared->Prop}{s:Shared}
theorem cat_tup{t b:Addr}{vs ws:List Value}{Q:Value->Shared->Prop}(ht:IsTup s.heap t vs.toArray)(hb:IsTup s.heap b ws.toArray)(hv:vs≠[])
  (h1:ws=[]->Q (.ref t) s) (h2:ws≠[]->Q (.ref s.heap.objs.size) { s with heap:=s.heap.push { cls:=.type "tuple",data:=.seq (vs++ws).toArray } })
  (hsz:vs.length+ws.length<=sizeLine):wpAny (model prog w) A (binaryOp .Add (.ref t) (.ref b)) Q E s:=by
 obtain⟨⟨cls,dd,data,sl⟩,ho,hc,n,hd⟩:=id ht
 obtain⟨⟨cls2,dd2,data2,sl2⟩,ho2,hc2,n2,hd2⟩:=id hb
 simp only at hc hd hc2 hd2
 subst hc hd hc2 hd2
 have e:vs.toArray++ws.toArray=(vs++ws).toArray:=by simp
 by_cases hw:ws=[]
 ·exact concat_meets ⟨_,ho,rfl⟩ ⟨_,ho2,rfl⟩ noFill_tuple_add seq_tuple_add PySem.F.slot_tuple_add PySem.F.entry_tuple_add (PySem.F.args_tuple_add_2 _ _)
   (tuple_addW1 t b vs.toArray ws.toArray n n2 dd dd2 sl sl2 (by simpa using hv) (by simp[hw])) ⟨ho,ho2,h1 hw⟩
 ·refine concat_meets ⟨_,ho,rfl⟩ ⟨_,ho2,rfl⟩ noFill_tuple_add seq_tuple_add PySem.F.slot_tuple_add PySem.F.entry_tuple_add (PySem.F.args_tuple_add_2 _ _)
   (tuple_addW2 t b vs.toArray ws.toArray n n2 dd dd2 sl sl2 (by simpa using hv) (by simpa using hw) (by rw[List.size_toArray,List.size_toArray];exact hsz)) ⟨ho,ho2,?_⟩
  rw[e]
  exact h2 hw
def sIx(n d:Nat):Option Int->Nat
 |none=>d
 |some v=>if v<0 then(v+(n:Int)).toNat else min v.toNat n
theorem sIx_none(n d:Nat):sIx n d none=d:=rfl
theorem sIx_nat(n d k:Nat):sIx n d (some (k:Int))=min k n:=by
 show(if (k:Int)<0 then((k:Int)+(n:Int)).toNat else min (k:Int).toNat n)=min k n
 rw[if_neg (by omega),Int.toNat_natCast]
theorem EZ(n d:Nat)(hd:d<=n)(o:Option Int):sIx n d o<=n:=by
 cases o with
 |none=>exact hd
 |some v=>
  show(if v<0 then(v+(n:Int)).toNat else min v.toNat n)<=n
  by_cases hv:v<0
  ·rw[if_pos hv];omega
  ·rw[if_neg hv];exact Nat.min_le_right _ _
theorem xY(v:Int)(n d:Nat):(if v<0 then max (v+(n:Int)) 0 else min v (n:Int))=((sIx n d (some v):Nat):Int):=by
 show(if v<0 then max (v+(n:Int)) 0 else min v (n:Int))=(((if v<0 then(v+(n:Int)).toNat else min v.toNat n):Nat):Int)
 by_cases hv:v<0
 ·simp only[if_pos hv];omega
 ·simp only[if_neg hv];omega
theorem vb(lo hi:Option Int)(n:Nat):Builtin.Slice.sliceAdjust lo hi 1 (n:Int)=(((sIx n 0 lo:Nat):Int),((sIx n n hi:Nat):Int)):=by
 have h1:¬((1:Int)<0):=by omega
 unfold Builtin.Slice.sliceAdjust
 simp only[h1,if_false]
 refine Prod.ext ?_ ?_
 ·cases lo with
  |none=>rfl
  |some v=>exact xY v n 0
 ·cases hi with
  |none=>rfl
  |some v=>exact xY v n n
theorem uN(i j:Nat):Builtin.Slice.slicePlaces (i:Int) (j:Int) 1=j-i:=by
 unfold Builtin.Slice.slicePlaces
 have h1:(1:Int)>0:=by omega
 simp only[h1,if_true,Int.ediv_one]
 split<;>omega
theorem og{v:Value}{o:Option Int}{Q:Option Int->Shared->Prop}(p:IsPart v o)(h:Q o s):wpAny (model prog w) A (Builtin.Slice.slicePartIndex v) Q E s:=by
 cases p with
 |none=>exact slicePart_none h
 |int i t=>exact slicePart_int h
theorem lM{sl:Addr}{vl vu:Value}{lo hi:Option Int}{n:Nat}{Q:Int×Int×Nat->Shared->Prop}(hs:s.heap.IsSliceOf sl vl vu .none)(pl:IsPart vl lo)(pu:IsPart vu hi)
  (h:Q (((sIx n 0 lo:Nat):Int),1,sIx n n hi-sIx n 0 lo) s):wpAny (model prog w) A (Builtin.Slice.sliceApplied (.ref sl) (pure (n:Int))) Q E s:=by
 obtain⟨os,hos,hcs,hds⟩:=id hs
 unfold Builtin.Slice.sliceApplied Builtin.Slice.sliceFields
 refine wpAny_bind (wpAny_bind (wpAny_field hos hds (x:=vl) rfl (wpAny_bind (wpAny_field hos hds (x:=vu) rfl (wpAny_bind (wpAny_field hos hds (x:=.none) rfl (wpAny_pure ?_)))))))
 refine wpAny_bind (slicePart_none ?_)
 show wpAny _ _ (if ((1:Int) == 0)=true then _ else _) _ _ s
 rw[if_neg (by decide)]
 refine wpAny_bind (og pl (wpAny_bind (og pu (wpAny_bind (wpAny_pure ?_)))))
 show wpAny _ _ (match Builtin.Slice.sliceAdjust lo hi 1 (n:Int)with|(lo,hi)=>pure (lo,(1:Int),Builtin.Slice.slicePlaces lo hi 1)) _ _ s
 rw[vb lo hi n]
 show wpAny _ _ (pure (((sIx n 0 lo:Nat):Int),(1:Int),Builtin.Slice.slicePlaces ((sIx n 0 lo:Nat):Int) ((sIx n n hi:Nat):Int) 1)) _ _ s
 rw[uN]
 exact wpAny_pure h
theorem zf(xs:Array Value)(i k:Nat):((List.range k).filterMap fun(m:Nat)=>xs[((i:Int)+(m:Int)*1).toNat]?).toArray=((xs.toList.drop i).take k).toArray:=by
 have e:(fun(m:Nat)=>xs[((i:Int)+(m:Int)*1).toNat]?)=fun m=>xs[i+m]?:=by
  funext m
  have:((i:Int)+(m:Int)*1).toNat=i+m:=by omega
  rw[this]
 rw[e]
 have:=pick_run xs i k
 rw[List.filterMap_map]at this
 have e2:((fun x=>xs[x]?) ∘ fun x=>i+x)=fun m=>xs[i+m]?:=rfl
 rw[e2]at this
 rw[this]
theorem getItem_tuple_cut{t sl:Addr}{items:Array Value}{vl vu:Value}{lo hi:Option Int}{Q:Value->Shared->Prop}(ht:IsTup s.heap t items)(hs:s.heap.IsSliceOf sl vl vu .none)(pl:IsPart vl lo)(pu:IsPart vu hi)
  (hw:¬(sIx items.size 0 lo=0/\sIx items.size items.size hi=items.size))
  (h:Q (.ref s.heap.objs.size) { s with heap:=s.heap.push { cls:=.type "tuple",data:=.seq ((items.toList.drop (sIx items.size 0 lo)).take (sIx items.size items.size hi-sIx items.size 0 lo)).toArray } })
  (hsz:items.size<=sizeLine):wpAny (model prog w) A (getItem (.ref t) (.ref sl)) Q E s:=by
 have htake:sizeOk (.seq ((items.toList.drop (sIx items.size 0 lo)).take (sIx items.size items.size hi-sIx items.size 0 lo)).toArray):=by
  show((items.toList.drop (sIx items.size 0 lo)).take (sIx items.size items.size hi-sIx items.size 0 lo)).toArray.size<=sizeLine
  rw[List.size_toArray,List.length_take,List.length_drop,Array.length_toList]
  omega
 have hj:sIx items.size items.size hi<=items.size:=EZ _ _ (Nat.le_refl _) hi
 obtain⟨os,hos,hcs,hds⟩:=id hs
 have hTs:s.TypeIs (.ref sl) "slice":=⟨os,hos,hcs⟩
 unfold getItem
 try with_reducible refine wpAny_holding ?_
 first|refine wpAny_bind (wpAny_pure ?_)|skip
 refine wpAny_bind (wpAny_sequenceKey ht.typeIs (by decide) ?_)
 refine wpAny_bind (wpAny_callSpecial?_slot (name:=Str.ofString "__getitem__") ht.typeIs PyProof.Rows.slot_tuple_getitem
  (wpAny_call_entry PyProof.Rows.slot_tuple_getitem ht.typeIs entry_tuple_getitem ?_ (args_tuple_getitem _ _)))
 show wpAny _ _ (Builtin.Tuple.tupleItemsOf (.ref t) >>= _) _ _ s
 refine wpAny_bind (tupleItemsOf_ ht ?_)
 refine wpAny_bind (wpAny_typeOf hTs ?_)
 rw[if_pos (by decide)]
 refine wpAny_bind (lM hs pl pu ?_)
 have hno:¬((((sIx items.size 0 lo:Nat):Int) == 0&&(1:Int) == 1&&(sIx items.size items.size hi-sIx items.size 0 lo) == items.size)=true):=by
  intro q
  rw[Bool.and_eq_true,Bool.and_eq_true]at q
  have q1:((sIx items.size 0 lo:Nat):Int)=0:=eq_of_beq q.1.1
  have q2:sIx items.size items.size hi-sIx items.size 0 lo=items.size:=eq_of_beq q.2
  exact hw ⟨by omega,by omega⟩
 show wpAny _ _ (if (((sIx items.size 0 lo:Nat):Int) == 0&&(1:Int) == 1&&(sIx items.size items.size hi-sIx items.size 0 lo) == items.size)=true then _ else _) _ _ s
 rw[if_neg hno,zf]
 first
  |exact wpAny_bind (m:=Builtin.Tuple.tupleExact _) (wpAny_newObj_type (wpAny_pure ⟨_,rfl,wpAny_pure h⟩) htake)
  |exact wpAny_bind (m:=Builtin.Tuple.tupleExact _) (wpAny_newObj_type (wpAny_bind (wpAny_pure (wpAny_pure ⟨_,rfl,wpAny_pure h⟩))) htake)
  |exact wpAny_bind (wpAny_bind (m:=Builtin.Tuple.tupleExact _) (wpAny_newObj_type (wpAny_pure (wpAny_pure ⟨_,rfl,wpAny_pure h⟩)) htake))
  |exact wpAny_bind (wpAny_bind (m:=Builtin.Tuple.tupleExact _) (wpAny_newObj_type (wpAny_pure ⟨_,rfl,wpAny_pure h⟩) htake))
end
end HT
namespace L2
open PySem PySem.Spec PyProof.Rows
abbrev TO:=St->Hp->(Option Int->Hp->Prop)->Prop
def PO(X:Cx)(e:Option Expr)(t:TO):Prop:=
 ∀(pins:List (Addr×Obj)) (s:Shared) (σ:St) (H:Hp) (Q:Option Int->Hp->Prop),Inv X pins σ H s->t σ H Q->
  wpAny (model X.prog X.w) X.A (evalPart e X.env) (fun u s'=>∃o H',Inv X pins σ H' s'/\IsPart u o/\Q o H') X.xe s
def vT:TO:=fun _ H Q=>Q none H
def EH(t:TE):TO:=fun σ H Q=>t σ H fun x H1=>∃i,x=.int i/\Q (some i) H1
section
variable{X:Cx}{e:Expr}{te:TE}{lo hi:Option Expr}{tl th:TO}{pos p2:Pos}
theorem Cu:PO X none vT:=by
 intro pins s σ H Q I h
 rw[evalPart_none]
 exact wpAny_pure ⟨none,H,I,.none,h⟩
theorem Ct(h:PE X e te):PO X (some e) (EH te):=by
 intro pins s σ H Q I hw
 rw[evalPart_some]
 refine thn (h pins s σ H _ I hw) fun u s1 hz=>?_
 obtain⟨x,H1,I1,r1,q1⟩:=hz
 obtain⟨i,rfl,q⟩:=q1
 obtain⟨t,rfl⟩:=r1
 exact⟨some i,H1,I1,.int i t,q⟩
def SlR(X:Cx)(r:V->Option Int->Option Int->Hp->VK->Prop):Prop:=
 ∀(pins:List (Addr×Obj)) (s:Shared) (σ:St) (H:Hp) (x:V) (v vl vu:Value) (lo hi:Option Int) (sl:Addr) (Q:VK),Inv X pins σ H s->dn x v->s.heap.IsSliceOf sl vl vu .none->IsPart vl lo->IsPart vu hi->r x lo hi H Q->
  ∃T id,typeLookup (.type T) "__getitem__"=pure (some (.builtin id))/\s.TypeIs v T/\wpAny (model X.prog X.w) X.A (getItem v (.ref sl)) (EP X pins σ Q) X.xe s
theorem SlR.or{r r':V->Option Int->Option Int->Hp->VK->Prop}(h:SlR X r)(h':SlR X r'):SlR X (fun x lo hi H Q=>r x lo hi H Q\/r' x lo hi H Q):=by
 intro pins s σ H x v vl vu lo hi sl Q I rx hs pl pu q
 rcases q with q|q
 ·exact h pins s σ H x v vl vu lo hi sl Q I rx hs pl pu q
 ·exact h' pins s σ H x v vl vu lo hi sl Q I rx hs pl pu q
def tSl(r:V->Option Int->Option Int->Hp->VK->Prop)(te:TE)(tl th:TO):TE:=fun σ H Q=>te σ H fun x H1=>tl σ H1 fun l H2=>th σ H2 fun u H3=>r x l u H3 Q
theorem zh{r:V->Option Int->Option Int->Hp->VK->Prop}(hr:SlR X r)(he:PE X e te)(hl:PO X lo tl)(hu:PO X hi th):PE X (.Subscript e (.Slice lo hi none p2) pos) (tSl r te tl th):=by
 intro pins s σ H Q I h
 refine Subscript_ (thn (he pins s σ H _ I h) fun v s1 hz=>?_)
 obtain⟨x,H1,I1,r1,q1⟩:=hz
 refine wpAny_Slice (thn (hl pins s1 σ H1 _ I1 q1) fun vl s2 ⟨l,H2,I2,pl,q2⟩=>thn (hu pins s2 σ H2 _ I2 q2) fun vu s3 hz=>?_)
 obtain⟨u,H3,I3,pu,q3⟩:=hz
 rw[evalPart_none]
 refine wpAny_pure ?_
 have I4:Inv X pins σ H3 { s3 with heap:=s3.heap.push { cls:=.type "slice",data:=.fields #[vl,vu,.none] } }:=I3.kept (t':=s3.toks) fun b ob q=>Heap.get?_push_of_some _ q
 obtain⟨T,id,hT,ht,hg⟩:=hr pins { s3 with heap:=s3.heap.push { cls:=.type "slice",data:=.fields #[vl,vu,.none] } } σ H3 x v vl vu l u s3.heap.objs.size Q I4 r1 (Heap.IsSliceOf.new ..) pl pu q3
 show wpAny (model X.prog X.w) X.A (subscriptTail e (.Slice lo hi none p2) v (.ref s3.heap.objs.size)) (EP X pins σ Q) X.xe { s3 with heap:=s3.heap.push { cls:=.type "slice",data:=.fields #[vl,vu,.none] } }
 exact tail_any (ops:=[.ref s3.heap.objs.size,v]) ht hT hg (by with_unfolding_all rfl)
def xW(xs:List V)(lo hi:Option Int):List V:=(xs.drop (HT.sIx xs.length 0 lo)).take (HT.sIx xs.length xs.length hi-HT.sIx xs.length 0 lo)
theorem nj(xs:List V)(lo hi:Option Int):(xW xs lo hi).length<=xs.length:=by
 unfold xW
 rw[List.length_take,List.length_drop]
 omega
def K1(K:PySem.W.Frag):V->Option Int->Option Int->Hp->VK->Prop:=fun x lo hi H Q=>∃a xs,x=.ref a/\SqT K H a xs/\
 ¬(HT.sIx xs.length 0 lo=0/\HT.sIx xs.length xs.length hi=xs.length)/\∀p,H p=none->Q (.ref p) (upd H p (.tup (xW xs lo hi)))
theorem EX:SlR X (K1 X.K):=by
 intro pins s σ H x v vl vu lo hi sl Q I rx hs pl pu h
 obtain⟨a,xs,rfl,hx,hw,q⟩:=h
 cases rx
 obtain⟨its,r,ht,hz⟩:=I.tuple hx
 have hlen:its.toArray.size=xs.length:=by rw[List.size_toArray];exact r.length.symm
 refine⟨"tuple",_,PyProof.Rows.slot_tuple_getitem.lookup,ht.typeIs,?_⟩
 refine HT.getItem_tuple_cut ht hs pl pu (by rw[hlen];exact hw) ?_ (by rw[hlen];exact hz)
 rw[hlen]
 refine⟨.ref s.heap.objs.size,_,I.laid (t':=s.toks) (o:=.tup (xW xs lo hi)) (fun b ob q=>Heap.get?_push_of_some _ q) (Nat.le_refl _) ?_,rfl,q _ (I.hok.fresh (Nat.le_refl _))⟩
 exact⟨Nat.le_trans (nj xs lo hi) hz,_,(r.drop (HT.sIx xs.length 0 lo)).take (HT.sIx xs.length xs.length hi-HT.sIx xs.length 0 lo),IsTup.new _ _⟩
def IS(K:PySem.W.Frag):R2:=fun x y H Q=>∃a b xs ys,x=.ref a/\y=.ref b/\SqT K H a xs/\SqT K H b ys/\xs≠[]/\xs.length+ys.length<=sizeLine/\
 (ys=[]->Q (.ref a) H)/\(ys≠[]->∀p,H p=none->Q (.ref p) (upd H p (.tup (xs++ys))))
theorem cg.nil_iff{xs:List V}{us:List Value}(r:cg xs us):us=[]↔xs=[]:=by
 cases r with
 |nil=>simp
 |cons _ _=>simp
theorem CW:OpR X (binaryOp .Add) (IS X.K):=by
 intro pins s σ H x y v u Q I rx ry h
 obtain⟨a,b,xs,ys,rfl,rfl,ha,hb,hx,hz,q1,q2⟩:=h
 cases rx
 cases ry
 obtain⟨its,r1,p1,_⟩:=I.tuple ha
 obtain⟨its2,r2,p2,_⟩:=I.tuple hb
 refine HT.cat_tup p1 p2 (fun z=>hx (r1.nil_iff.mp z)) (fun z=>⟨.ref a,H,I,rfl,q1 (r2.nil_iff.mp z)⟩) (fun z=>?_) (by rw[<-r1.length,<-r2.length];exact hz)
 refine⟨.ref s.heap.objs.size,_,I.laid (t':=s.toks) (o:=.tup (xs++ys)) (fun b ob q=>Heap.get?_push_of_some _ q) (Nat.le_refl _) ?_,rfl,q2 (fun w=>z (r2.nil_iff.mpr w)) _ (I.hok.fresh (Nat.le_refl _))⟩
 exact⟨by rw[List.length_append];exact hz,_,r1.append r2,IsTup.new _ _⟩
end
def ixN(n:Nat)(i:Int):Option Nat:=if 0<=i then(if i<n then some i.toNat else none)else if -(n:Int)<=i then some (i+n).toNat else none
def atI{α:Type}(xs:List α)(i:Int):Option α:=(ixN xs.length i).bind fun j=>xs[j]?
theorem xa{n:Nat}{i:Int}{j:Nat}(h:ixN n i=some j):seqIndex? i n=some j/\j<n/\-(n:Int)<=i/\i<n:=by
 unfold ixN at h
 by_cases h0:0<=i
 ·rw[if_pos h0]at h
  by_cases h1:i<n
  ·rw[if_pos h1]at h
   have e:i.toNat=j:=Option.some.inj h
   exact⟨by rw[seqIndex_of h0 h1,e],by omega,by omega,h1⟩
  ·rw[if_neg h1]at h;cases h
 ·rw[if_neg h0]at h
  by_cases h1:-(n:Int)<=i
  ·rw[if_pos h1]at h
   have e:(i+n).toNat=j:=Option.some.inj h
   exact⟨by rw[seqIndex_neg (by omega) h1,e],by omega,h1,by omega⟩
  ·rw[if_neg h1]at h;cases h
theorem yj{α:Type}{xs:List α}{i:Int}{v:α}(h:atI xs i=some v):∃j,seqIndex? i xs.length=some j/\xs[j]?=some v/\j<xs.length/\-(xs.length:Int)<=i/\i<xs.length:=by
 unfold atI at h
 cases e:ixN xs.length i with
 |none=>rw[e]at h;cases h
 |some j=>
  rw[e]at h
  obtain⟨h1,h2,h3,h4⟩:=xa e
  exact⟨j,h1,h,h2,h3,h4⟩
theorem nB{α:Type}{xs:List α}{j:Nat}{v:α}(h:xs[j]?=some v):atI xs (j:Int)=some v:=by
 have hj:j<xs.length:=(List.getElem?_eq_some_iff.mp h).1
 have e:ixN xs.length (j:Int)=some j:=by
  unfold ixN
  rw[if_pos (by omega),if_pos (by omega)];simp
 unfold atI;rw[e];exact h
def sQ(b:Expr):Prop:=∀o i,subscripted b false o i=operate [o,i] (getItem o i)
def IxR(X:Cx)(r:R2):Prop:=
 ∀(value slice:Expr) (pins:List (Addr×Obj)) (s:Shared) (σ:St) (H:Hp) (x y:V) (v u:Value) (Q:VK),Inv X pins σ H s->dn x v->dn y u->r x y H Q->
  subscripted slice false v u=operate [v,u] (getItem v u)->wpAny (model X.prog X.w) X.A (subscriptTail value slice v u) (EP X pins σ Q) X.xe s
def MtR(X:Cx)(id:String)(r:V->List V->Hp->VK->Prop):Prop:=
 ∀(pins:List (Addr×Obj)) (s:Shared) (σ:St) (H:Hp) (x:V) (xs:List V) (v:Value) (us:List Value) (Q:VK),Inv X pins σ H s->dn x v->cg xs us->r x xs H Q->
  wpAny (model X.prog X.w) X.A (call (.builtin id) (v::us)) (EP X pins σ Q) X.xe s
section
variable{X:Cx}{a b:Expr}{ta tb:TE}{pos:Pos}
theorem IxR.or{r r':R2}(h:IxR X r)(h':IxR X r'):IxR X (fun x y H Q=>r x y H Q\/r' x y H Q):=by
 intro value slice pins s σ H x y v u Q I rx ry q hs
 rcases q with q|q
 ·exact h value slice pins s σ H x y v u Q I rx ry q hs
 ·exact h' value slice pins s σ H x y v u Q I rx ry q hs
theorem IY{r:R2}(hr:IxR X r)(ha:PE X a ta)(hb:PE X b tb)(hs:sQ b):PE X (.Subscript a b pos) (tOp r ta tb):=by
 intro pins s σ H Q I h
 exact Subscript_ (JK ha hb I h fun v u s2 x y H2 I2 rx ry q=>hr a b pins s2 σ H2 x y v u Q I2 rx ry q (hs _ _))
def K4(K:PySem.W.Frag):R2:=fun x y H Q=>∃p xs i v,x=.ref p/\y=.int i/\SqL K H p xs/\atI xs i=some v/\Q v H
def K3(K:PySem.W.Frag):R2:=fun x y H Q=>∃p xs i v,x=.ref p/\y=.int i/\SqT K H p xs/\atI xs i=some v/\Q v H
theorem C9:IxR X (K4 X.K):=by
 intro value slice pins s σ H x y v u Q I rx ry h hs
 obtain⟨p,xs,i,z,rfl,rfl,hq,he,q⟩:=h
 cases rx
 obtain⟨t,rfl⟩:=ry
 obtain⟨its,r,pl,hz⟩:=I.list hq
 obtain⟨j,h1,h2,h3,h4,h5⟩:=yj he
 obtain⟨w,ew,rw'⟩:=r.get h2
 have hl:=r.length
 have hn:=tY
 have fin:EP X pins σ Q w s:=⟨z,H,I,rw',q⟩
 by_cases h0:0<=i
 ·have hj:i.toNat=j:=by
   rw[seqIndex_of h0 h5]at h1
   exact Option.some.inj h1
  exact item_listR pl.isList h0 (by omega) (by rw[hj];simpa using ew) fin hs
 ·have hj:(i+(its.toArray.size:Int)).toNat=j:=by
   rw[seqIndex_neg (by omega) h4]at h1
   rw[List.size_toArray,<-hl]
   exact Option.some.inj h1
  exact subscriptTail_builtinR (x:=w) pl.isList.typeIs slot_list_getitem.lookup
   (wpAny_getItem_list_neg (Q:=fun r s'=>r=w/\EP X pins σ Q r s') pl.isList (by omega) (by rw[List.size_toArray]<;>omega) (by omega) (by rw[hj];simpa using ew) ⟨rfl,fin⟩) hs
theorem F7:IxR X (K3 X.K):=by
 intro value slice pins s σ H x y v u Q I rx ry h hs
 obtain⟨p,xs,i,z,rfl,rfl,hq,he,q⟩:=h
 cases rx
 obtain⟨t,rfl⟩:=ry
 obtain⟨its,r,pl,hz⟩:=I.tuple hq
 obtain⟨j,h1,h2,h3,h4,h5⟩:=yj he
 obtain⟨w,ew,rw'⟩:=r.get h2
 have hl:=r.length
 have hn:=tY
 have fin:EP X pins σ Q w s:=⟨z,H,I,rw',q⟩
 exact subscriptTail_builtinR (x:=w) pl.typeIs slot_tuple_getitem.lookup
  (getItem_tuple (j:=j) (Q:=fun r s'=>r=w/\EP X pins σ Q r s') pl (by omega) (by omega) (by rw[List.size_toArray,<-hl];exact h1) (by simpa using ew) ⟨rfl,fin⟩) hs
theorem uP(its:List Value)(n j:Nat)(u:Value):Obj.mapSeq (·.setIfInBounds j u) { cls:=.type "list",data:=.seq its.toArray n }={ cls:=.type "list",data:=.seq (its.set j u).toArray n }:=by
 simp[Obj.mapSeq]
theorem Inv.lst{pins:List (Addr×Obj)}{σ:St}{H:Hp}{s:Shared}{p:Addr}{xs:List V}(I:Inv X pins σ H s)(h:H p=some (.lst xs)) :
  ∃(its:List Value) (n:Nat),cg xs its/\s.heap.get? p=some { cls:=.type "list",data:=.seq its.toArray n }/\xs.length<=sizeLine:=by
 obtain⟨z,its,n,r,e⟩:=I.hok p _ h
 exact⟨its,n,r,e,z⟩
theorem Inv.lstUpd{pins:List (Addr×Obj)}{σ:St}{H:Hp}{s:Shared}{p:Addr}{xs ys:List V}{its its':List Value}{n n':Nat}{f:Obj->Obj}(I:Inv X pins σ H s)(h:H p=some (.lst xs))
  (ho:s.heap.get? p=some { cls:=.type "list",data:=.seq its.toArray n }) (hf:f { cls:=.type "list",data:=.seq its.toArray n }={ cls:=.type "list",data:=.seq its'.toArray n' }) (r:cg ys its') (hz:ys.length<=sizeLine) (t:Nat) :
  Inv X pins σ (upd H p (.lst ys)) { s with heap:=s.heap.update p f,toks:=t }:=by
 have e:(s.heap.update p f).get? p=some { cls:=.type "list",data:=.seq its'.toArray n' }:=by
  rw[Heap.get?_update_self f ho (by rw[hf]<;>rfl),hf]
 refine I.write (x:=p) (e:=p) (by rw[h];trivial) (.inl rfl) (fun b u hb q=>(Heap.get?_update_other _ _ (Ne.symm hb)).trans q) ⟨_,e⟩ ?_
 exact⟨hz,its',n',r,e⟩
def IP:V->V->V->Hp->(Hp->Prop)->Prop:=fun o i v H Q=>∃p xs k j,o=.ref p/\i=.int k/\H p=some (.lst xs)/\ixN xs.length k=some j/\Q (upd H p (.lst (xs.set j v)))
theorem yU:JP X IP:=by
 intro pins s σ H o i v ov iv u Q I ro ri rv h
 obtain⟨p,xs,k,j,rfl,rfl,hp,hj,q⟩:=h
 cases ro
 obtain⟨t,rfl⟩:=ri
 obtain⟨its,n,r,ho,hz⟩:=I.lst hp
 obtain⟨h1,h2,h3,h4⟩:=xa hj
 have hl:=r.length
 have hn:=tY
 have I':Inv X pins σ (upd H p (.lst (xs.set j v))) { s with heap:=s.heap.update p (Obj.mapSeq (·.setIfInBounds j u)) }:=
  I.lstUpd hp ho (uP its n j u) (r.set rv j) (by rw[List.length_set];exact hz) s.toks
 by_cases h0:0<=k
 ·have hk:k.toNat=j:=by
   rw[seqIndex_of h0 h4]at h1
   exact Option.some.inj h1
  exact PySem.W.ki_setAt ho h0 (by omega) (by rw[List.size_toArray,<-hl];exact h4) (by rw[hk];exact⟨_,I',q⟩)
 ·have hk:(k+(its.toArray.size:Int)).toNat=j:=by
   rw[seqIndex_neg (by omega) h3]at h1
   rw[List.size_toArray,<-hl]
   exact Option.some.inj h1
  exact PySem.W.ki_setBack ho (by omega) (by rw[List.size_toArray,<-hl];exact h3) (by omega) (by rw[hk];exact⟨_,I',q⟩)
theorem qt(lo hi:Option Int)(n:Nat):(sliceBounds lo hi none n).1=((HT.sIx n 0 lo:Nat):Int)/\(sliceBounds lo hi none n).2.1=((HT.sIx n n hi:Nat):Int)/\(sliceBounds lo hi none n).2.2=1:=by
 refine⟨?_,?_,rfl⟩
 ·cases lo with
  |none=>simp[sliceBounds,HT.sIx]
  |some i=>
   simp only[sliceBounds,HT.sIx,Option.getD_none,show(1:Int)>0 by decide,if_true]
   by_cases h:i<0
   ·simp only[h,if_true]<;>omega
   ·simp only[h,if_false]<;>omega
 ·cases hi with
  |none=>simp[sliceBounds,HT.sIx]
  |some i=>
   simp only[sliceBounds,HT.sIx,Option.getD_none,show(1:Int)>0 by decide,if_true]
   by_cases h:i<0
   ·simp only[h,if_true]<;>omega
   ·simp only[h,if_false]<;>omega
theorem oZ(its:List Value)(lo hi:Option Int):slicePick its.toArray lo hi none=((its.drop (HT.sIx its.length 0 lo)).take (HT.sIx its.length its.length hi-HT.sIx its.length 0 lo)).toArray:=by
 obtain⟨h1,h2,h3⟩:=qt lo hi its.toArray.size
 unfold slicePick
 rw[h1,h2,h3]
 simp only[sliceRange_one,pick_run,List.size_toArray]<;>rfl
def K2(K:PySem.W.Frag):V->Option Int->Option Int->Hp->VK->Prop:=fun x lo hi H Q=>∃a xs,x=.ref a/\SqL K H a xs/\∀p,H p=none->Q (.ref p) (upd H p (.lst (xW xs lo hi)))
theorem v8:SlR X (K2 X.K):=by
 intro pins s σ H x v vl vu lo hi sl Q I rx hs pl pu h
 obtain⟨a,xs,rfl,hx,q⟩:=h
 cases rx
 obtain⟨its,r,ht,hz⟩:=I.list hx
 have hlen:=r.length
 refine⟨"list",_,slot_list_getitem.lookup,ht.isList.typeIs,?_⟩
 refine wpAny_getItem_list_slice ht.isList hs pl pu .none (by simp) ?_ (by rw[List.size_toArray]<;>omega)
 rw[oZ,<-hlen]
 refine⟨.ref s.heap.objs.size,_,I.laid (t':=s.toks) (o:=.lst (xW xs lo hi)) (fun b ob q=>Heap.get?_push_of_some _ q) (Nat.le_refl _) ?_,rfl,q _ (I.hok.fresh (Nat.le_refl _))⟩
 exact⟨Nat.le_trans (nj xs lo hi) hz,_,0,(r.drop (HT.sIx xs.length 0 lo)).take (HT.sIx xs.length xs.length hi-HT.sIx xs.length 0 lo),Heap.get?_push_size _ rfl⟩
def nQ:V->Bool
 |.non=>true
 |.bl _=>true
 |.int _=>true
 |.str _=>true
 |_=>false
def eqV:V->V->Bool
 |.non,.non=>true
 |.bl a,.bl b=>a == b
 |.bl a,.int b=>(if a then 1 else 0) == b
 |.int a,.bl b=>a == (if b then 1 else 0)
 |.int a,.int b=>a == b
 |.str a,.str b=>a == b
 |_,_=>false
theorem Gw{A:Around}{s:Shared}{y x:V}{u v:Value}(ry:dn y u)(rx:dn x v)(fy:nQ y=true)(fx:nQ x=true):SeqAt.EqAt A s u v (eqV y x):=by
 cases y with
 |non=>
  cases ry
  cases x with
  |non=>cases rx;exact SeqAt.EqAt.same _
  |bl b=>cases rx;exact SeqAt.EqAt.none_bool b
  |int b=>obtain⟨t,rfl⟩:=rx;exact SeqAt.EqAt.none_int b t
  |str b=>obtain⟨t,rfl⟩:=rx;exact SeqAt.EqAt.none_str b t
  |_=>exact absurd (show false=true from fx) Bool.false_ne_true
 |bl a=>
  cases ry
  cases x with
  |non=>cases rx;exact SeqAt.EqAt.bool_none a
  |bl b=>cases rx;exact SeqAt.EqAt.bool_bool a b
  |int b=>obtain⟨t,rfl⟩:=rx;exact SeqAt.EqAt.bool_int a b t
  |str b=>obtain⟨t,rfl⟩:=rx;exact SeqAt.EqAt.bool_str a b t
  |_=>exact absurd (show false=true from fx) Bool.false_ne_true
 |int a=>
  obtain⟨t',rfl⟩:=ry
  cases x with
  |non=>cases rx;exact SeqAt.EqAt.int_none a t'
  |bl b=>cases rx;exact SeqAt.EqAt.int_bool a t' b
  |int b=>obtain⟨t,rfl⟩:=rx;exact SeqAt.EqAt.int_int a t' b t
  |str b=>obtain⟨t,rfl⟩:=rx;exact SeqAt.EqAt.int_str a t' b t
  |_=>exact absurd (show false=true from fx) Bool.false_ne_true
 |str a=>
  obtain⟨t',rfl⟩:=ry
  cases x with
  |non=>cases rx;exact SeqAt.EqAt.str_none a t'
  |bl b=>cases rx;exact SeqAt.EqAt.str_bool a t' b
  |int b=>obtain⟨t,rfl⟩:=rx;exact SeqAt.EqAt.str_int a t' b t
  |str b=>obtain⟨t,rfl⟩:=rx;exact SeqAt.EqAt.str_str a t' b t
  |_=>exact absurd (show false=true from fx) Bool.false_ne_true
 |_=>exact absurd (show false=true from fy) Bool.false_ne_true
def eqU(x:V)(u:Value):Bool:=match u with
 |.none=>eqV .non x
 |.bool b=>eqV (.bl b) x
 |.int i _=>eqV (.int i) x
 |.str z _=>eqV (.str z) x
 |_=>false
theorem A0{x y:V}{u:Value}(r:dn y u)(f:nQ y=true):eqU x u=eqV y x:=by
 cases y with
 |non=>cases r;rfl
 |bl b=>cases r;rfl
 |int i=>obtain⟨t,rfl⟩:=r;rfl
 |str z=>obtain⟨t,rfl⟩:=r;rfl
 |_=>exact absurd (show false=true from f) Bool.false_ne_true
theorem sJ{x:V}:∀{xs:List V} {us:List Value},cg xs us->xs.all nQ=true->us.any (eqU x)=xs.any fun y=>eqV y x
 |_,_,.nil,_=>rfl
 |y::xs,u::us,.cons r t,f=>by
  rw[List.all_cons,Bool.and_eq_true]at f
  rw[List.any_cons,List.any_cons,A0 r f.1,sJ t f.2]
theorem pA{A:Around}{s:Shared}{x:V}{v:Value}(rx:dn x v)(fx:nQ x=true):∀{xs:List V} {us:List Value},cg xs us->xs.all nQ=true->∀u∈us,SeqAt.EqAt A s u v (eqU x u)
 |_,_,.nil,_=>fun u hu=>by cases hu
 |y::xs,u::us,.cons r t,f=>fun u' hu=>by
  rw[List.all_cons,Bool.and_eq_true]at f
  rcases List.mem_cons.mp hu with rfl|hu
  ·rw[A0 r f.1];exact Gw r rx f.1 fx
  ·exact pA rx fx t f.2 u' hu
def inV(x:V)(xs:List V):Bool:=xs.any fun y=>eqV y x
def rIn(K:PySem.W.Frag)(neg:Bool):R2:=fun x y H Q=>∃p xs,y=.ref p/\(SqL K H p xs\/SqT K H p xs)/\nQ x=true/\xs.all nQ=true/\Q (.bl (if neg then !inV x xs else inV x xs)) H
theorem lD:OpR X (compareOp .NotIn) (rIn X.K true):=by
 intro pins s σ H x y v u Q I rx ry h
 obtain⟨p,xs,rfl,hq,fx,fs,q⟩:=h
 cases ry
 rcases hq with hq|hq
 ·obtain⟨its,r,pl,hz⟩:=I.list hq
  refine SeqAt.notIn_listAt (eqU x) pl.isList (fun w hw=>pA rx fx r fs w (by simpa using hw)) ⟨.bl _,H,I,rfl,?_⟩
  rw[show its.toArray.any (eqU x)=its.any (eqU x)by simp,sJ r fs]
  exact q
 ·obtain⟨its,r,pl,hz⟩:=I.tuple hq
  refine SeqAt.notIn_tupleAt (eqU x) pl (fun w hw=>pA rx fx r fs w (by simpa using hw)) ⟨.bl _,H,I,rfl,?_⟩
  rw[show its.toArray.any (eqU x)=its.any (eqU x)by simp,sJ r fs]
  exact q
theorem rp:fP X (.builtin "len") (fun xs H Q=>∃p ys,xs=[.ref p]/\(SqL X.K H p ys\/SqT X.K H p ys)/\Q (.int ys.length) H):=by
 intro pins s σ H xs us Q I r h
 obtain⟨p,ys,rfl,hq,q⟩:=h
 obtain⟨u,rfl,rx⟩:=nJ r
 cases rx
 have hn:=tY
 rcases hq with hq|hq
 ·obtain⟨its,r',pl,hz⟩:=I.list hq
  have hlen:=r'.length
  exact Calls.call_len_list pl.isList (by simp only[List.size_toArray]<;>omega) ⟨.int ys.length,H,I.tok _,⟨s.toks+1,by rw[List.size_toArray,hlen]⟩,q⟩
 ·obtain⟨its,r',pl,hz⟩:=I.tuple hq
  have hlen:=r'.length
  exact len_tuple pl (by simp only[List.size_toArray]<;>omega) ⟨.int ys.length,H,I.tok _,⟨s.toks+1,by rw[List.size_toArray,hlen]⟩,q⟩
theorem fP.or{f:Value}{r r':List V->Hp->VK->Prop}(h:fP X f r)(h':fP X f r'):fP X f (fun xs H Q=>r xs H Q\/r' xs H Q):=by
 intro pins s σ H xs us Q I rs q
 rcases q with q|q
 ·exact h pins s σ H xs us Q I rs q
 ·exact h' pins s σ H xs us Q I rs q
theorem cZ:fP X (.type "list") (fun xs H Q=>∃p ys,xs=[.ref p]/\(SqL X.K H p ys\/SqT X.K H p ys)/\∀l,H l=none->Q (.ref l) (upd H l (.lst ys))):=by
 intro pins s σ H xs us Q I r h
 obtain⟨p,ys,rfl,hq,q⟩:=h
 obtain⟨u,rfl,rx⟩:=nJ r
 cases rx
 have fin:∀(its:List Value),cg ys its->ys.length<=sizeLine->∀(h':Heap) (c':Nat),(∀b o',s.heap.get? b=some o'->h'.get? b=some o')->
   h'.get? s.heap.objs.size=some { cls:=.type "list",dict:=none,data:=.seq its.toArray c',slots:=#[] }->EP X pins σ Q (.ref s.heap.objs.size) { s with heap:=h' }:=fun its r' hz h' c' kp e=>
  ⟨.ref s.heap.objs.size,_,I.laid (t':=s.toks) kp (Nat.le_refl _) (show cB X.prog X.w _ h' _ (.lst ys)from⟨hz,its,c',r',e⟩),rfl,q _ (I.hok.fresh (Nat.le_refl _))⟩
 rcases hq with hq|hq
 ·obtain⟨its,r',pl,hz⟩:=I.list hq
  have hlen:=r'.length
  obtain⟨o,ho,hc,n,hd⟩:=pl.isList
  exact call_list_seq p (.inl rfl) ho hc hd (fun h' c' kp e=>fin its r' hz h' c' kp e) (by simp only[List.size_toArray]<;>omega)
 ·obtain⟨its,r',pl,hz⟩:=I.tuple hq
  have hlen:=r'.length
  obtain⟨o,ho,hc,n,hd⟩:=pl
  exact call_list_seq p (.inr rfl) ho hc hd (fun h' c' kp e=>fin its r' hz h' c' kp e) (by simp only[List.size_toArray]<;>omega)
theorem cH:fP X (.type "tuple") (fun xs H Q=>∃p ys,xs=[.ref p]/\((SqL X.K H p ys/\∀l,H l=none->Q (.ref l) (upd H l (.tup ys)))\/(SqT X.K H p ys/\Q (.ref p) H))):=by
 intro pins s σ H xs us Q I r h
 obtain⟨p,ys,rfl,h⟩:=h
 obtain⟨u,rfl,rx⟩:=nJ r
 cases rx
 rcases h with⟨hq,q⟩|⟨hq,q⟩
 ·obtain⟨its,r',pl,hz⟩:=I.list hq
  have hlen:=r'.length
  refine call_tuple_list pl.isList (fun h' kp=>?_) (by simp only[List.size_toArray]<;>omega)
  have I1:Inv X pins σ H { s with heap:=h' }:=I.kept (t':=s.toks) kp
  have I2:Inv X pins σ (upd H h'.objs.size (.tup ys)) { s with heap:=h'.push { cls:=.type "tuple",data:=.seq its.toArray } }:=
   I1.laid (t':=s.toks) (fun b o e=>Heap.get?_push_of_some _ e) (Nat.le_refl _) (show cB X.prog X.w _ _ _ (.tup ys)from⟨hz,its,r',IsTup.new _ _⟩)
  exact⟨.ref h'.objs.size,_,I2,rfl,q _ (I1.hok.fresh (Nat.le_refl _))⟩
 ·obtain⟨its,r',pl,hz⟩:=I.tuple hq
  exact call_tuple_same pl ⟨.ref p,H,I,rfl,q⟩
def tyV(K:PySem.W.Frag)(T:String)(x:V)(H:Hp):Prop:=match x with
 |.str _=>T="str"
 |.int _=>T="int"
 | .ref p=>(T="list"/\∃xs,SqL K H p xs)\/(T="tuple"/\∃o,K.lookup p=some o/\o.cls=.type "tuple"/\o.dict=none)\/
   (T="dict"/\((∃kvs,H p=some (.dK kvs))\/∃kvs,H p=some (.dT kvs)))\/(T="set"/\∃S n,H p=some (.set S n))
 |_=>False
theorem EF{pins:List (Addr×Obj)}{σ:St}{H:Hp}{s:Shared}{T:String}{x:V}{v:Value}(I:Inv X pins σ H s)(r:dn x v)(ty:tyV X.K T x H) :
  s.TypeIs v T/\∀a,v=.ref a->∃ob,s.heap.get? a=some ob/\ob.dict=none:=by
 cases x with
 |str z=>
  obtain⟨t,rfl⟩:=r
  cases (show T="str" from ty)
  exact⟨typeIs_str s z t,fun _ e=>nomatch e⟩
 |int i=>
  obtain⟨t,rfl⟩:=r
  cases (show T="int" from ty)
  exact⟨typeIs_int s i t,fun _ e=>nomatch e⟩
 |ref p=>
  cases r
  rcases ty with⟨rfl,xs,hq⟩|⟨rfl,o,hk,hc,hd⟩|⟨rfl,hk⟩|⟨rfl,S,n,hk⟩
  ·obtain⟨its,_,pl,_⟩:=I.list hq
   refine⟨pl.isList.typeIs,fun a e=>?_⟩
   cases e
   obtain⟨o,n,e,c,hd,_⟩:=pl
   exact⟨o,e,hd⟩
  ·refine⟨⟨o,I.kIn p o hk,hc⟩,fun a e=>?_⟩
   cases e
   exact⟨o,I.kIn _ o hk,hd⟩
  ·have z:∃o,s.heap.get? p=some o/\o.ExactDict:=by
    rcases hk with⟨kvs,hk⟩|⟨kvs,hk⟩
    ·obtain⟨_,_,_,_,o,_,_,e,ex,_⟩:=I.hok p _ hk
     exact⟨o,e,ex⟩
    ·obtain⟨_,_,_,_,o,_,_,e,ex,_⟩:=I.hok p _ hk
     exact⟨o,e,ex⟩
   obtain⟨o,e,ex⟩:=z
   refine⟨⟨o,e,ex.1⟩,fun a e2=>?_⟩
   cases e2
   exact⟨o,e,ex.2.1⟩
  ·obtain⟨o,_,_,_,e,ex,_⟩:=I.hok p _ hk
   refine⟨⟨o,e,ex.1⟩,fun a e2=>?_⟩
   cases e2
   exact⟨o,e,ex.2.1⟩
 |_=>exact False.elim ty
def tBM(K:PySem.W.Frag)(T:String)(r:V->List V->Hp->VK->Prop)(to:TE)(t:TA):TE:=fun σ H Q=>to σ H fun x H1=>tyV K T x H1/\t σ H1 fun xs H2=>r x xs H2 Q
variable{o e:Expr}{es:List Expr}{to:TE}{t:TA}{name:Str}{apos cpos:Pos}{T id:String}{r:V->List V->Hp->VK->Prop}
theorem IZ(pa:PlainAttrs T)(slot:Slot T name id)(hty:typeOf (.builtin id)=pure (.type "method_descriptor"))(hm:MtR X id r)(ho:PE X o to)(ha:PA X (e::es) t)
  (hbase:attributeBase o name X.env (eval o X.env)=eval o X.env:=by rfl)
  (hfew:((backTo cpos (starEach (e::es) X.env)).all (fun x=>!x.1)&&(backToKw cpos (keywordEach [] X.env)).all (fun x=>x.1.isSome)
   && decide ((e::es).length+([]:List Keyword).length+(if ([]:List Keyword).isEmpty then 0 else 1)<30))=true:=by rfl)
  (hline:(apos.endLine == cpos.line)=true:=by rfl) (hs:starEach (e::es) X.env=(false,eval e X.env)::starEach es X.env:=by rfl) (hplain:(backTo cpos (starEach es X.env)).any (·.1)=false:=by rfl) :
  PE X (.Call (.Attribute o name apos) (e::es) [] cpos) (tBM X.K T r to t):=by
 intro pins s σ H Q I h
 refine wpAny_Call_method_late hbase hfew hline rfl (thn (ho pins s σ H _ I h) fun v s1 hz=>?_)
 obtain⟨x,H1,I1,r1,ty,q1⟩:=hz
 obtain⟨h1,h2⟩:=EF I1 r1 ty
 refine⟨T,id,pa,slot,hty,h1,h2,?_⟩
 have hA:=ha cpos pins s1 σ H1 _ I1 q1
 rw[hs]at hA ⊢
 refine Calls.callWith_builtin (by show(false||(backTo cpos (starEach es X.env)).any (·.1))=false;rw[hplain]<;>rfl) (Calls.evalArgs_plain ?_)
 exact thn hA fun us s2 ⟨vs,H2,I2,r2,q2⟩=>hm pins s2 σ H2 x vs v us Q I2 r1 r2 q2
end
def MtM(X:Cx)(id:String)(r:V->List V->Hp->VK->Prop):Prop:=
 ∀(pins:List (Addr×Obj)) (s:Shared) (σ:St) (H:Hp) (x:V) (xs:List V) (v:Value) (us:List Value) (Q:VK),Inv X pins σ H s->dn x v->cg xs us->r x xs H Q->
  wpAny (model X.prog X.w) X.A (call (.builtin id) (v::us)) (EP X pins σ Q) X.xe s
theorem cg.one:∀{x:V} {us:List Value},cg [x] us->∃u,us=[u]/\dn x u
 |_,_,.cons r .nil=>⟨_,rfl,r⟩
theorem cg.eraseIdx:∀{xs:List V} {us:List Value} (i:Nat),cg xs us->cg (xs.eraseIdx i) (us.eraseIdx i)
 |_,_,_,.nil=>.nil
 |_,_,0,.cons _ t=>t
 |_,_,i+1,.cons r t=>.cons r (cg.eraseIdx i t)
theorem cg.rep{xs:List V}{us:List Value}(h:cg xs us):∀k:Nat,cg (List.replicate k xs).flatten (List.replicate k us).flatten
 |0=>.nil
 |k+1=>by
  rw[List.replicate_succ,List.replicate_succ,List.flatten_cons,List.flatten_cons]
  exact cg.append h (cg.rep h k)
theorem qE{α:Type}:∀(l:List α) (i:Nat),(l.eraseIdx i).length<=l.length
 |[],_=>Nat.le_refl _
 |_::_,0=>Nat.le_succ _
 |_::r,i+1=>Nat.succ_le_succ (qE r i)
theorem m9(its:List Value):∀(k:Nat) (acc:List Value),
  List.foldl (fun x1 x2=>x1++x2) acc.toArray (List.replicate k its.toArray)=(acc++(List.replicate k its).flatten).toArray
 |0,acc=>by simp
 |k+1,acc=>by
  have e:acc.toArray++its.toArray=(acc++its).toArray:=by simp
  have e2:(acc++its)++(List.replicate k its).flatten=acc++(List.replicate (k+1) its).flatten:=by
   rw[List.replicate_succ,List.flatten_cons,List.append_assoc]
  rw[<-e2,<-m9 its k (acc++its),<-e,List.replicate_succ,List.foldl_cons]
section
variable{X:Cx}{pins:List (Addr×Obj)}{σ:St}{H:Hp}{s:Shared}{l b:Addr}{xs ys zs:List V}
theorem Inv.lset{its its':List Value}{n:Nat}{f:Array Value->Array Value}{t':Nat}(I:Inv X pins σ H s)(hH:H l=some (.lst xs))
  (e:s.heap.get? l=some { cls:=.type "list",data:=.seq its.toArray n }) (hf:f its.toArray=its'.toArray) (hv:cg ys its') (hz:ys.length<=sizeLine) :
  Inv X pins σ (upd H l (.lst ys)) { s with heap:=s.heap.update l (Obj.mapSeq f),toks:=t' }:=by
 have q:=PySem.IsL.update e f
 rw[hf]at q
 refine I.write (x:=l) (e:=l) (by rw[hH];exact trivial) (.inl rfl) (fun b' u hb hu=>(Heap.get?_update_other s.heap (Obj.mapSeq f) (Ne.symm hb)).trans hu) ⟨_,q⟩ ?_
 exact⟨hz,its',_,hv,q⟩
theorem Inv.lnew{its:List Value}{t':Nat}(I:Inv X pins σ H s)(hv:cg ys its)(hz:ys.length<=sizeLine) :
  Inv X pins σ (upd H s.heap.objs.size (.lst ys)) { s with heap:=s.heap.push { cls:=.type "list",data:=.seq its.toArray },toks:=t' }:=
 I.laid (fun _ _ q=>Heap.get?_push_of_some _ q) (Nat.le_refl _) ⟨hz,its,0,hv,Heap.get?_push_size _ rfl⟩
theorem Inv.fresh(I:Inv X pins σ H s):H s.heap.objs.size=none:=I.hok.fresh (Nat.le_refl _)
theorem Inv.lstM(I:Inv X pins σ H s)(hH:H l=some (.lst xs)):xs.length<=sizeLine/\∃(its:List Value) (n:Nat),cg xs its/\xs.length=its.length/\s.heap.get? l=some { cls:=.type "list",data:=.seq its.toArray n }:=by
 obtain⟨z,its,n,r,e⟩:=I.hok l _ hH
 exact⟨z,its,n,r,r.length,e⟩
theorem zC{n:Nat}(h:n<=sizeLine):Builtin.List.listTooLong n=false:=by
 unfold Builtin.List.listTooLong
 exact decide_eq_false (by omega)
end
section
variable{X:Cx}
def wg:V->List V->Hp->VK->Prop:=fun x vs H Q=>∃l xs y,x=.ref l/\vs=[y]/\H l=some (.lst xs)/\xs.length<sizeLine/\Q .non (upd H l (.lst (xs++[y])))
theorem mV:MtM X "list.append" wg:=by
 intro pins s σ H x vs v us Q I rx rv h
 obtain⟨l,xs,y,rfl,rfl,hH,hz,q⟩:=h
 cases rx
 obtain⟨u,rfl,ru⟩:=rv.one
 obtain⟨z,its,n,r,hl,e⟩:=I.lstM hH
 refine call_meets F.slot_list_append ⟨_,e,rfl⟩ F.entry_list_append (F.args_list_append_2 _ _) (PySem.list_append l its.toArray n u (by rw[List.size_toArray];omega)) ⟨e,?_⟩
 refine⟨.non,_,I.lset (its':=its++[u]) hH e (by simp) (r.append (.cons ru .nil)) ?_,rfl,q⟩
 rw[List.length_append,List.length_singleton]
 omega
def AE:V->List V->Hp->VK->Prop:=fun x vs H Q=>∃l xs i k y,x=.ref l/\vs=[.int i]/\H l=some (.lst xs)/\-(2^63)<=i/\i<2^63/\seqIndex? i xs.length=some k/\xs[k]?=some y/\Q y (upd H l (.lst (xs.eraseIdx k)))
theorem zG:MtM X "list.pop" AE:=by
 intro pins s σ H x vs v us Q I rx rv h
 obtain⟨l,xs,i,k,y,rfl,rfl,hH,h1,h2,hk,hy,q⟩:=h
 cases rx
 obtain⟨u,rfl,ru⟩:=rv.one
 obtain⟨t,rfl⟩:=ru
 obtain⟨z,its,n,r,hl,e⟩:=I.lstM hH
 obtain⟨w,hw,rw'⟩:=r.get hy
 refine call_meets F.slot_list_pop ⟨_,e,rfl⟩ F.entry_list_pop (F.args_list_pop_2 _ _)
  (MeetsSeq.list_pop_at l its.toArray n i t k w (fitsIndex_both h1 h2) (by rw[List.size_toArray,<-hl];exact hk) (by rw[<-Array.getElem?_toList];exact hw) (by rw[List.size_toArray];omega)) ⟨e,?_⟩
 refine⟨y,_,I.lset (its':=its.eraseIdx k) hH e ?_ (r.eraseIdx k) ?_,rw',q⟩
 ·show its.toArray.eraseIdxIfInBounds k=(its.eraseIdx k).toArray
  rw[List.eraseIdxIfInBounds_toArray]
 ·have:=qE xs k
  omega
def GW:R2:=fun x y H Q=>∃l b xs zs,x=.ref l/\y=.ref b/\H l=some (.lst xs)/\H b=some (.lst zs)/\xs.length+zs.length<=sizeLine/\∀p,H p=none->Q (.ref p) (upd H p (.lst (xs++zs)))
theorem FJ:OpR X (binaryOp .Add) GW:=by
 intro pins s σ H x y v u Q I rx ry h
 obtain⟨l,b,xs,zs,rfl,rfl,hH,hB,hz,q⟩:=h
 cases rx
 cases ry
 obtain⟨z,its,n,r,hl,e⟩:=I.lstM hH
 obtain⟨z2,its2,n2,r2,hl2,e2⟩:=I.lstM hB
 refine PySem.P.add_list e e2 ?_ (by rw[List.size_toArray,List.size_toArray];omega)
 have ea:its.toArray++its2.toArray=(its++its2).toArray:=by simp
 rw[ea]
 exact⟨.ref _,_,I.lnew (t':=s.toks) (r.append r2) (by rw[List.length_append];omega),rfl,q _ I.fresh⟩
def IQ:R2:=fun x y H Q=>∃l k xs,x=.ref l/\y=.int k/\H l=some (.lst xs)/\-(2^63)<=k/\k<2^63/\xs.length*k.toNat<=sizeLine/\
 ∀p,H p=none->Q (.ref p) (upd H p (.lst (List.replicate k.toNat xs).flatten))
theorem rY{α:Type}(xs:List α)(k:Nat):(List.replicate k xs).flatten.length=k*xs.length:=by
 induction k with
 |zero=>simp
 |succ k ih=>rw[List.replicate_succ,List.flatten_cons,List.length_append,ih,Nat.succ_mul,Nat.add_comm]
theorem FI:OpR X (binaryOp .Mult) IQ:=by
 intro pins s σ H x y v u Q I rx ry h
 obtain⟨l,k,xs,rfl,rfl,hH,h1,h2,hz,q⟩:=h
 cases rx
 obtain⟨t,rfl⟩:=ry
 obtain⟨z,its,n,r,hl,e⟩:=I.lstM hH
 have hlen:its.toArray.size*k.toNat<=sizeLine:=by rw[List.size_toArray,<-hl];exact hz
 have hcap:¬its.toArray.size*k.toNat>(2^63-1) / 8:=by
  have:(sizeLine:Nat)<=(2^63-1) / 8:=by decide
  omega
 have hfit:¬(!Builtin.List.listFitsIndex k)=true:=by
  rw[fitsIndex_both h1 h2]
  exact Bool.false_ne_true
 have hlong:¬Builtin.List.listTooLong (its.toArray.size*k.toNat)=true:=by
  rw[zC hlen]
  exact Bool.false_ne_true
 have hnew:List.foldl (fun x1 x2=>x1++x2) #[] (List.replicate (if its.toArray.isEmpty=true then 0 else k.toNat) its.toArray)=(List.replicate k.toNat its).flatten.toArray:=by
  have f0:∀m:Nat,List.foldl (fun x1 x2=>x1++x2) #[] (List.replicate m its.toArray)=(List.replicate m its).flatten.toArray:=fun m=>by
   have:=m9 its m []
   rw[List.nil_append]at this
   exact this
  rw[f0]
  cases its with
  |nil=>simp
  |cons a r'=>rw[if_neg (by simp)]
 refine wpAny_binaryOp_repeat_ref (T:="list") (U:="int") (by decide) ⟨_,e,rfl⟩ (fun s'=>typeIs_int s' k t) noFill_list_mul F.fills_int_mul F.slot_int_rmul repeat_list F.slot_int_index.lookup
  (call_meets F.slot_int_rmul (typeIs_int s k t) F.entry_int_rmul (F.args_int_rmul_2 _ _) (int___rmul___int_list k t l its.toArray n)
   ⟨e,rfl,⟨_,e,rfl⟩,call_meets F.slot_list_mul ⟨_,e,rfl⟩ F.entry_list_mul (F.args_list_mul_2 _ _) (AutoListH.list___mul___list_int_3 l its.toArray n k t hfit hcap hlong) ⟨e,?_⟩⟩)
 rw[hnew]
 exact⟨.ref _,_,I.lnew (t':=s.toks) (r.rep k.toNat) (by rw[rY,Nat.mul_comm];exact hz),rfl,q _ I.fresh⟩
end
section
variable{κ:Type}[DecidableEq κ]
def fQ(kvs:List (κ×V))(k:κ):Option V:=(kvs.find? fun kv=>decide (kv.1=k)).map (·.2)
def l6(kvs:List (κ×V))(k:κ)(v:V):List (κ×V):=
 if (kvs.any fun kv=>decide (kv.1=k))=true then kvs.map (fun kv=>if kv.1=k then(kv.1,v)else kv)else kvs++[(k,v)]
theorem dX{p:κ×V}{r:List (κ×V)}{k:κ}(e:p.1=k):fQ (p::r) k=some p.2:=by simp[fQ,List.find?_cons,e]
theorem dY{p:κ×V}{r:List (κ×V)}{k:κ}(e:¬p.1=k):fQ (p::r) k=fQ r k:=by simp[fQ,List.find?_cons,e]
theorem jG(k:κ):∀kvs:List (κ×V),(kvs.any fun kv=>decide (kv.1=k))=(fQ kvs k).isSome
 |[]=>rfl
 |p::r=>by
  rw[List.any_cons]
  by_cases e:p.1=k
  ·simp only[dX e,decide_eq_true e,Bool.true_or,Option.isSome_some]
  ·rw[dY e,decide_eq_false e,Bool.false_or];exact jG k r
theorem tD(k j:κ)(y:V):∀kvs:List (κ×V),fQ (kvs.map fun kv=>if kv.1=k then(kv.1,y)else kv) j=(fQ kvs j).map fun x=>if j=k then y else x
 |[]=>rfl
 |p::r=>by
  have ih:=tD k j y r
  rw[List.map_cons]
  by_cases h:p.1=k
  ·rw[if_pos h]
   by_cases e:p.1=j
   ·rw[dX (p:=(p.1,y)) e,dX e,Option.map_some,if_pos (e.symm.trans h)]
   ·rw[dY (p:=(p.1,y)) e,dY e,ih]
  ·rw[if_neg h]
   by_cases e:p.1=j
   ·rw[dX (p:=p) e,dX e,Option.map_some,if_neg (fun z=>h (e.trans z))]
   ·rw[dY (p:=p) e,dY e,ih]
theorem qk(k j:κ)(y:V):∀kvs:List (κ×V),fQ kvs k=none->fQ (kvs++[(k,y)]) j=if j=k then some y else fQ kvs j
 |[],_=>by
  by_cases e:k=j
  ·rw[if_pos e.symm];exact dX (p:=(k,y)) e
  ·rw[if_neg (fun z=>e z.symm)];exact dY (p:=(k,y)) e
 |p::r,hn=>by
  rw[List.cons_append]
  have hk:¬p.1=k:=fun z=>by rw[dX z]at hn;cases hn
  rw[dY hk]at hn
  have ih:=qk k j y r hn
  by_cases e:p.1=j
  ·rw[dX e,dX e,if_neg (fun z=>hk (e.trans z))]
  ·rw[dY e,dY e,ih]
theorem yO(kvs:List (κ×V))(k j:κ)(y:V):fQ (l6 kvs k y) j=if j=k then some y else fQ kvs j:=by
 unfold l6
 by_cases a:(kvs.any fun kv=>decide (kv.1=k))=true
 ·rw[if_pos a,tD]
  rw[jG]at a
  by_cases e:j=k
  ·obtain⟨x,hx⟩:=Option.isSome_iff_exists.mp a
   rw[if_pos e,e,hx,Option.map_some,if_pos rfl]
  ·rw[if_neg e]
   cases fQ kvs j with
   |none=>rfl
   |some x=>rw[Option.map_some,if_neg e]
 ·rw[if_neg a]
  refine qk k j y kvs ?_
  rw[jG]at a
  cases q:fQ kvs k with
  |none=>rfl
  |some x=>rw[q]at a;exact(a rfl).elim
theorem jq(kvs:List (κ×V))(k:κ)(v:V):(l6 kvs k v).length<=kvs.length+1:=by
 unfold l6
 split
 ·rw[List.length_map];omega
 ·rw[List.length_append,List.length_cons,List.length_nil];omega
theorem pZ.isSome_eq{o:Option V}{u:Option Value}(r:pZ o u):o.isSome=u.isSome:=by
 cases o with
 |none=>cases u with
  |none=>rfl
  |some _=>exact(show False from r).elim
 |some _=>cases u with
  |none=>exact(show False from r).elim
  |some _=>rfl
theorem KV.val{kvs:List (κ×V)}{vs:List (κ×Value)}(r:KV kvs vs)(k:κ):pZ (fQ kvs k) (valueAt vs k):=by
 unfold KV at r
 induction r with
 |nil=>exact True.intro
 |@cons p q ps qs h t ih=>
  obtain⟨h1,h2⟩:=h
  by_cases e:p.1=k
  ·have e':q.1=k:=h1.symm.trans e
   have b:valueAt (q::qs) k=some q.2:=by simp[valueAt,List.find?_cons,e']
   rw[dX e,b];exact h2
  ·have e':¬q.1=k:=fun z=>e (h1.trans z)
   have b:valueAt (q::qs) k=valueAt qs k:=by simp[valueAt,List.find?_cons,e']
   rw[dY e,b];exact ih
theorem KV.any{kvs:List (κ×V)}{vs:List (κ×Value)}(r:KV kvs vs)(k:κ):(kvs.any fun kv=>decide (kv.1=k))=vs.any fun kv=>decide (kv.1=k):=by
 unfold KV at r
 induction r with
 |nil=>rfl
 |cons h t ih=>rw[List.any_cons,List.any_cons,ih,h.1]
theorem KV.repl{kvs:List (κ×V)}{vs:List (κ×Value)}(r:KV kvs vs)(k:κ){y:V}{u:Value}(ry:dn y u) :
  KV (kvs.map fun kv=>if kv.1=k then(kv.1,y)else kv) (vs.map fun kv=>if kv.1=k then(kv.1,u)else kv):=by
 unfold KV at r ⊢
 induction r with
 |nil=>exact .nil
 |@cons p q ps qs h t ih=>
  rw[List.map_cons,List.map_cons]
  refine .cons ?_ ih
  obtain⟨h1,h2⟩:=h
  by_cases e:p.1=k
  ·rw[if_pos e,if_pos (h1.symm.trans e)];exact⟨h1,ry⟩
  ·rw[if_neg e,if_neg (fun z=>e (h1.trans z))];exact⟨h1,h2⟩
theorem KV.put{kvs:List (κ×V)}{vs:List (κ×Value)}(r:KV kvs vs)(k:κ){y:V}{u:Value}(ry:dn y u):KV (l6 kvs k y) (stored vs k u):=by
 unfold l6 stored
 rw[r.any k]
 by_cases e:(vs.any fun kv=>decide (kv.1=k))=true
 ·rw[if_pos e,if_pos e];exact r.repl k ry
 ·rw[if_neg e,if_neg e];exact Paired.snoc r ⟨rfl,ry⟩
theorem KV.length{kvs:List (κ×V)}{vs:List (κ×Value)}(r:KV kvs vs):kvs.length=vs.length:=Paired.length r
end
theorem w6{P:Program}{w:World}{k:Key}{u:Value}(r:dn (kV k) u):(cY P w).is k u=true:=by
 cases k with
 |inl i=>obtain⟨t,e⟩:=(show ∃t,u=Value.int i t from r);subst e;exact rV P w i t
 |inr x=>obtain⟨t,e⟩:=(show ∃t,u=Value.str x t from r);subst e;exact rT P w x t
theorem qG{P:Program}{w:World}:∀{ks:List Key} {us:List Value},cg (ks.map kV) us->ItemsAre (cY P w) ks us
 |[],_,r=>by rw[List.map_nil]at r;cases r;exact .nil
 |k::ks,_,r=>by
  rw[List.map_cons]at r
  cases r with
  |cons h t=>exact .cons (w6 h) (qG t)
abbrev KT(H:Hp):List (List Key×V)->List (List Key×Addr×Value)->Prop:=Paired fun p q=>p.1=q.1/\H q.2.1=some (.tup (p.1.map kV))/\dn p.2 q.2.2
theorem KT.val{H:Hp}{kvs:List (List Key×V)}{xs:List (List Key×Addr×Value)}(r:KT H kvs xs)(k:List Key):pZ (fQ kvs k) ((atKey xs k).map (·.2)):=by
 induction r with
 |nil=>exact True.intro
 |@cons p q ps qs h t ih=>
  obtain⟨h1,_,h2⟩:=h
  by_cases e:p.1=k
  ·have e':q.1=k:=h1.symm.trans e
   have b:atKey (q::qs) k=some q.2:=by simp[atKey,List.find?_cons,e']
   rw[dX e,b];exact h2
  ·have e':¬q.1=k:=fun z=>e (h1.trans z)
   have b:atKey (q::qs) k=atKey qs k:=by simp[atKey,List.find?_cons,e']
   rw[dY e,b];exact ih
theorem KT.repl{H:Hp}{kvs:List (List Key×V)}{xs:List (List Key×Addr×Value)}(r:KT H kvs xs)(k:List Key){y:V}{u:Value}(ry:dn y u) :
  KT H (kvs.map fun kv=>if kv.1=k then(kv.1,y)else kv) (xs.map (putAt k u)):=by
 induction r with
 |nil=>exact .nil
 |@cons p q ps qs h t ih=>
  rw[List.map_cons,List.map_cons]
  refine .cons ?_ ih
  obtain⟨h1,h2,h3⟩:=h
  unfold putAt
  by_cases e:p.1=k
  ·rw[if_pos e,if_pos (h1.symm.trans e)];exact⟨h1,h2,ry⟩
  ·rw[if_neg e,if_neg (fun z=>e (h1.trans z))];exact⟨h1,h2,h3⟩
theorem KT.put{H:Hp}{kvs:List (List Key×V)}{xs:List (List Key×Addr×Value)}(r:KT H kvs xs)(k:List Key){b:Addr}{y:V}{u:Value}(hb:H b=some (.tup (k.map kV)))(ry:dn y u) :
  KT H (l6 kvs k y) (storedH xs k b u):=by
 have e:(kvs.any fun kv=>decide (kv.1=k))=(atKey xs k).isSome:=by
  rw[jG,(r.val k).isSome_eq,Option.isSome_map]
 unfold l6 storedH
 rw[e]
 by_cases q:(atKey xs k).isSome=true
 ·rw[if_pos q,if_pos q];exact r.repl k ry
 ·rw[if_neg q,if_neg q];exact Paired.snoc r ⟨rfl,hb,ry⟩
theorem KT.keeps{H H':Hp}{kvs:List (List Key×V)}{xs:List (List Key×Addr×Value)}(r:KT H kvs xs)(ht:∀b ys,H b=some (.tup ys)->H' b=some (.tup ys)):KT H' kvs xs:=
 Paired.mapP r fun _ _ z=>⟨z.1,ht _ _ z.2.1,z.2.2⟩
section
variable{P:Program}{w:World}{H:Hp}{h:Heap}{a:Addr}
theorem E2{u:HO}(ok:HOk P w H h)(e:Rd H a u):cB P w H h a u:=e.ok ok
theorem xQ{kvs:List (Key×V)}(ok:HOk P w H h)(e:Rd H a (.dK kvs)):kvs.length<=sizeLine/\(a == sysModules)=false/\∃vs,KV kvs vs/\h.DictOf (cY P w) a vs:=
 show cB P w H h a (.dK kvs)from E2 ok e
theorem Ab{kvs:List (Key×V)}(ok:HOk P w H h)(e:H a=some (.dK kvs)):kvs.length<=sizeLine/\(a == sysModules)=false/\∃vs,KV kvs vs/\h.DictOf (cY P w) a vs:=xQ ok (.inl e)
theorem t6{ks:List Key}(ok:HOk P w H h)(e:H a=some (.tup (ks.map kV))):(tupleKind (cY P w)).is h ks a:=by
 obtain⟨_,its,r,o,h1,h2,n,h3⟩:=(show cB P w H h a (.tup (ks.map kV))from ok a _ e)
 exact⟨o,its.toArray,n,h1,h2,h3,by simpa using qG r⟩
theorem z8{kvs:List (List Key×V)}(ok:HOk P w H h)(e:Rd H a (.dT kvs)):kvs.length<=sizeLine/\(a == sysModules)=false/\
  ∃xs,KT H kvs xs/\h.DictOfH (tupleKind (cY P w)) a xs:=by
 obtain⟨z,y,xs,r,o,es,ep,h1,h2,h3,h4,h5⟩:=(show cB P w H h a (.dT kvs)from E2 ok e)
 refine⟨z,y,xs,r,o,es,ep,h1,h2,h3,h4,fun x hx=>?_,h5⟩
 have all:∀{l:List (List Key×V)} {m:List (List Key×Addr×Value)},KT H l m->∀x∈m,(tupleKind (cY P w)).is h x.1 x.2.1:=by
  intro l m q
  induction q with
  |nil=>intro x hx;exact nomatch hx
  |@cons p q ps qs hq t ih=>
   intro x hx
   rcases List.mem_cons.mp hx with e|hx
   ·subst e
    exact t6 ok (by rw[<-hq.1];exact hq.2.1)
   ·exact ih x hx
 exact all r x hx
theorem JF{kvs:List (List Key×V)}(ok:HOk P w H h)(e:H a=some (.dT kvs)):kvs.length<=sizeLine/\(a == sysModules)=false/\
  ∃xs,KT H kvs xs/\h.DictOfH (tupleKind (cY P w)) a xs:=z8 ok (.inl e)
end
def DGet(H:Hp)(a:Addr)(y:V)(r:Option V):Prop:=
 (∃kvs k,Rd H a (.dK kvs)/\y=kV k/\r=fQ kvs k)\/∃kvs k b,Rd H a (.dT kvs)/\y=.ref b/\H b=some (.tup (k.map kV))/\r=fQ kvs k
def GP(H:Hp)(a:Addr)(y v:V)(H':Hp):Prop:=
 (∃kvs k,H a=some (.dK kvs)/\y=kV k/\kvs.length<sizeLine/\H'=upd H a (.dK (l6 kvs k v)))\/
 ∃kvs k b,H a=some (.dT kvs)/\y=.ref b/\H b=some (.tup (k.map kV))/\kvs.length<sizeLine/\H'=upd H a (.dT (l6 kvs k v))
theorem DGet.k{H:Hp}{a:Addr}{kvs:List (Key×V)}{k:Key}(e:H a=some (.dK kvs)):DGet H a (kV k) (fQ kvs k):=.inl ⟨kvs,k,.inl e,rfl,rfl⟩
theorem GP.k{H:Hp}{a:Addr}{kvs:List (Key×V)}{k:Key}{v:V}(e:H a=some (.dK kvs))(hl:kvs.length<sizeLine):GP H a (kV k) v (upd H a (.dK (l6 kvs k v))):=.inl ⟨kvs,k,e,rfl,hl,rfl⟩
section
variable{X:Cx}{pins:List (Addr×Obj)}{σ:St}{H:Hp}{s:Shared}{a:Addr}{y v:V}{u r:Value}{o:Option V}{A:Around}{E:Value->Shared->Prop}
theorem Inv.big(I:Inv X pins σ H s):sysModules<s.heap.objs.size:=by
 have h:mainGlobals<s.heap.objs.size:=(I.mod.glob.keeps I.bk).lt
 exact Nat.lt_trans (by decide) h
theorem xV{Q:Value->Shared->Prop}(hu:A.units+1<cLine)(I:Inv X pins σ H s)(g:DGet H a y (some v))(ry:dn y u)(h:∀w' s',Inv X pins σ H s'->dn v w'->Q w' s') :
  wpAny (model X.prog X.w) A (getItem (.ref a) u) Q E s:=by
 rcases g with⟨kvs,k,e,ey,l⟩|⟨kvs,k,b,e,ey,eb,l⟩
 ·subst ey
  obtain⟨z,hd,vs,rel,dd⟩:=xQ I.hok e
  obtain⟨w',hw,rw'⟩:=pZ.some_of (v:=v) (o:=valueAt vs k) (by rw[l];exact rel.val k)
  exact wpAny_getItem_of (w6 ry) dd.mapOf hw (h w' _ (I.tok _) rw')
 ·subst ey
  cases (show u=Value.ref b from ry)
  obtain⟨z,hd,xs,rel,dd⟩:=z8 I.hok e
  obtain⟨w',hw,rw'⟩:=pZ.some_of (v:=v) (o:=(atKey xs k).map (·.2)) (by rw[l];exact rel.val k)
  obtain⟨p,hp,hp2⟩:=Option.map_eq_some_iff.mp hw
  refine wpAny_getItem_heap (tupleKind_room_in1 hu) (t6 I.hok eb) dd hp ?_
  rw[hp2]
  exact h w' _ (I.tok _) rw'
theorem Dx{Q:Value->Shared->Prop}(hu:A.units+1<cLine)(I:Inv X pins σ H s)(g:DGet H a y o)(ry:dn y u)(h:∀s',Inv X pins σ H s'->Q (.bool (!o.isSome)) s') :
  wpAny (model X.prog X.w) A (compareOp .NotIn u (.ref a)) Q E s:=by
 rcases g with⟨kvs,k,e,ey,l⟩|⟨kvs,k,b,e,ey,eb,l⟩
 ·subst ey
  obtain⟨z,hd,vs,rel,dd⟩:=xQ I.hok e
  refine wpAny_notIn_of (w6 ry) hd dd.mapOf ?_
  rw[<-(rel.val k).isSome_eq,<-l]
  exact h _ (I.tok _)
 ·subst ey
  cases (show u=Value.ref b from ry)
  obtain⟨z,hd,xs,rel,dd⟩:=z8 I.hok e
  refine wpAny_notIn_heap (tupleKind_room_in1 hu) (t6 I.hok eb) hd dd ?_
  have q:=(rel.val k).isSome_eq
  rw[Option.isSome_map]at q
  rw[<-q,<-l]
  exact h _ (I.tok _)
theorem nh{h':Heap}{t':Nat}{ob:HO}(I:Inv X pins σ H s)(mu:Mut (H a))(hs:Heap.SameBut a s.heap h')(he:∃q,h'.get? a=some q)(new:cB X.prog X.w (upd H a ob) h' a ob) :
  Inv X pins σ (upd H a ob) { s with heap:=h',toks:=t' }:=
 I.write (x:=a) (e:=a) mu (.inl rfl) (fun b q hb z=>(hs.2 b hb).trans z) he new
theorem A2{P:Program}{w:World}{H':Hp}{h':Heap}{kvs:List (Key×V)}{vs:List (Key×Value)}(z:kvs.length<=sizeLine)(hd:(a == sysModules)=false)(rel:KV kvs vs)(dd:h'.DictOf (cY P w) a vs) :
  cB P w H' h' a (.dK kvs):=⟨z,hd,vs,rel,dd⟩
theorem xU{H':Hp}{Q:Unit->Shared->Prop}(hu:A.units+1<cLine)(I:Inv X pins σ H s)(g:GP H a y v H')(ry:dn y u)(rv:dn v r)(h:∀s',Inv X pins σ H' s'->Q () s') :
  wpAny (model X.prog X.w) A (setItem (.ref a) u r) Q E s:=by
 rcases g with⟨kvs,k,e,ey,l,eH⟩|⟨kvs,k,b,e,ey,eb,l,eH⟩
 ·subst ey eH
  obtain⟨z,hd,vs,rel,dd⟩:=Ab I.hok e
  have hz:vs.length<=sizeLine:=by rw[<-rel.length];exact z
  have hl:(l6 kvs k v).length<=sizeLine:=by have:=jq kvs k v;omega
  refine wpAny_setItem_pairs (hsz:=hz) (w6 ry) dd fun h' dd' hs=>h _ ?_
  have he:∃q,h'.get? a=some q:=let ⟨q,_,_,hq,_⟩:=dd';⟨q,hq⟩
  exact nh I (by rw[e];exact True.intro) hs he (A2 hl hd (rel.put k rv) dd')
 ·subst ey eH
  cases (show u=Value.ref b from ry)
  obtain⟨z,hd,xs,rel,dd⟩:=JF I.hok e
  have hz:xs.length<=sizeLine:=by rw[<-Paired.length rel];exact z
  have hl:(l6 kvs k v).length<=sizeLine:=by have:=jq kvs k v;omega
  refine wpAny_setItem_heap (hsz:=hz) (tupleKind_room_in1 hu) (t6 I.hok eb) dd fun h' dd' hs=>h _ ?_
  obtain⟨q,es,ep,hq,h2,h3,h4,_,h5⟩:=dd'
  refine nh I (by rw[e];exact True.intro) hs ⟨q,hq⟩ ⟨hl,hd,_,(rel.put k eb rv).keeps fun c ys ec=>?_,q,es,ep,hq,h2,h3,h4,h5⟩
  rw[bH (Jf ec e (fun z=>nomatch z))]
  exact ec
end
section
variable{X:Cx}{pins:List (Addr×Obj)}{σ:St}{H:Hp}{s:Shared}{a:Addr}{kvs:List (Key×V)}{k:Key}{u:Value}{A:Around}{E:Value->Shared->Prop}
theorem JI{Q:Value->Shared->Prop}(I:Inv X pins σ H s)(e:Rd H a (.dK kvs))(h:∀t s',Inv X pins σ H s'->Q (.int kvs.length t) s'):wpAny (model X.prog X.w) A (call (.builtin "len") [.ref a]) Q E s:=by
 obtain⟨z,hd,vs,rel,dd⟩:=xQ I.hok e
 refine call_len_dict hd dd (by rw[<-rel.length];rw[sizeLine_eq]at z;omega) ?_
 rw[<-rel.length]
 exact h _ _ (I.tok _)
end
def DQ(i:Expr):Prop:=∀ov iv,subscripted i false ov iv=operate [ov,iv] (getItem ov iv)
theorem vV{prog:Program}{w:World}{A:Around}{E:Value->Shared->Prop}{s:Shared}{env:Env}{value slice:Expr}{pos:Pos}{T id:String}{Q:Value->Shared->Prop}
  (hl:typeLookup (.type T) "__getitem__"=pure (some (.builtin id))) (hs:DQ slice)
  (h:wpAny (model prog w) A (eval value env) (fun o s₁=>wpAny (model prog w) A (eval slice env) (fun i s₂=>s₂.TypeIs o T/\wpAny (model prog w) A (getItem o i) Q E s₂) E s₁) E s) :
  wpAny (model prog w) A (eval (.Subscript value slice pos) env) Q E s:=by
 refine Subscript_ (wpAny_mono h (fun o s₁ h₁=>wpAny_mono h₁ (fun i s₂ h₂=>?_) fun _ _ x=>x) fun _ _ x=>x)
 obtain⟨hT,h₂⟩:=h₂
 unfold subscriptTail
 refine wpAny_bind ?_
 rw[getitemInPython_of_ne hT.not_modules]
 refine wpAny_bind (wpAny_specialOf hT hl ?_)
 have fin:wpAny (model prog w) A (subscripted slice false o i) (fun r s₃=>wpAny (model prog w) A (letTemporaryGo value o r >>= fun _=>pure r) Q E s₃) E s₂:=by
  rw[hs o i]
  exact wpAny_operating (wpAny_mono h₂ (fun r s₃ h₃=>wpAny_bind (wpAny_letTemporaryGo (wpAny_pure h₃))) fun _ _ x=>x)
 first
  |exact wpAny_pure (wpAny_bind fin)
  |exact wpAny_bind (wpAny_pure (wpAny_bind fin))
  |exact wpAny_bind fin
theorem sD{X:Cx}{pins:List (Addr×Obj)}{σ:St}{H:Hp}{s:Shared}{a:Addr}{y:V}{o:Option V}(I:Inv X pins σ H s)(g:DGet H a y o):s.TypeIs (.ref a) "dict":=by
 rcases g with⟨kvs,k,e,_,_⟩|⟨kvs,k,b,e,_,_,_⟩
 ·obtain⟨_,_,vs,_,dd⟩:=xQ I.hok e
  exact dd.typeIs
 ·obtain⟨_,_,xs,_,dd⟩:=z8 I.hok e
  exact dd.typeIs
def ER(td ty:TE):TE:=fun σ H Q=>td σ H fun x H1=>ty σ H1 fun y H2=>∃a v,x=.ref a/\DGet H2 a y (some v)/\Q v H2
def oX(ty td:TE):TE:=fun σ H Q=>ty σ H fun y H1=>td σ H1 fun x H2=>∃a o,x=.ref a/\DGet H2 a y o/\Q (.bl (!o.isSome)) H2
def E1(td ty tv:TE):TS:=fun D σ H=>tv σ H fun v H1=>td σ H1 fun x H2=>ty σ H2 fun y H3=>∃a H4,x=.ref a/\GP H3 a y v H4/\D.nx σ H4
section
variable{X:Cx}{o i e value:Expr}{pos pos' tpos:Pos}{td ty tv:TE}
theorem CF(hu:X.A.units+1<cLine)(ho:PE X o td)(hi:PE X i ty)(hs:DQ i):PE X (.Subscript o i pos) (ER td ty):=by
 intro pins s σ H Q I h
 refine vV PySem.F.slot_dict_getitem.lookup hs (thn (ho pins s σ H _ I h) fun u s1 ⟨x,H1,I1,rx,q1⟩=>thn (hi pins s1 σ H1 _ I1 q1) fun iv s2 hz=>?_)
 obtain⟨y,H2,I2,ry,a,v,ex,g,q2⟩:=hz
 subst ex
 obtain rfl:u=Value.ref a:=rx
 exact⟨sD I2 g,xV hu I2 g ry fun w' s3 I3 rw'=>⟨v,H2,I3,rw',q2⟩⟩
theorem wC(hu:X.A.units+1<cLine)(hi:PE X i ty)(ho:PE X o td):PC X .NotIn i o (oX ty td):=by
 intro pins s σ H Q I h
 refine thn (hi pins s σ H _ I h) fun iv s1 ⟨y,H1,I1,ry,q1⟩=>thn (ho pins s1 σ H1 _ I1 q1) fun u s2 hz=>?_
 obtain⟨x,H2,I2,rx,a,ov,ex,g,q2⟩:=hz
 subst ex
 obtain rfl:u=Value.ref a:=rx
 exact Dx hu I2 g ry fun s3 I3=>⟨.bl (!ov.isSome),H2,I3,rfl,q2⟩
theorem Cr(hu:X.A.units+1<cLine)(ho:PE X o td)(hi:PE X i ty)(hv:PE X value tv)(hs:swapsWith value (some (.Subscript o i pos')) pos.line X.env=pure false) :
  PS X (.Assign [.Subscript o i pos'] value pos) (E1 td ty tv):=by
 intro pins s σ H D I h
 refine wpAny_Assign_Subscript (thn (hv pins s σ H _ I h) fun r s1 ⟨v,H1,I1,rv,q1⟩=>thn (ho pins s1 σ H1 _ I1 q1) fun u s2 ⟨x,H2,I2,rx,q2⟩=>thn (hi pins s2 σ H2 _ I2 q2) fun iv s3 hz=>?_) hs
 obtain⟨y,H3,I3,ry,a,H4,ex,g,q3⟩:=hz
 subst ex
 obtain rfl:u=Value.ref a:=rx
 exact xU hu I3 g ry rv fun s4 I4=>⟨σ,H4,I4,q3⟩
end
theorem uj{P:Program}{w:World}{H:Hp}(h:Heap)(hb:sysModules<h.objs.size):cB P w H (h.push { cls:=.type "dict",data:=.dict #[] }) h.objs.size (.dK []):=
 ⟨Nat.zero_le _,beq_eq_false_iff_ne.mpr (Ne.symm (Nat.ne_of_lt hb)),[],.nil,Heap.DictOf.new h⟩
def Ay:TE:=fun _ H Q=>∀p,H p=none->Q (.ref p) (upd H p (.dK []))
section
variable{X:Cx}{pos:Pos}
theorem zj:PE X (.Dict [] [] pos) Ay:=fun pins s σ H Q I h=>
 wpAny_Dict_empty ⟨.ref s.heap.objs.size,_,I.laid (a:=s.heap.objs.size) (o:=.dK []) (t':=s.toks) (fun _ _ q=>Heap.get?_push_of_some _ q) (Nat.le_refl _) (uj s.heap I.big),rfl,h _ (I.hok.fresh (Nat.le_refl _))⟩
end
def qo:List (TE×TE)->St->Hp->(List (V×V)->Hp->Prop)->Prop
 |[],_,H,Q=>Q [] H
 |(tk,tv)::r,σ,H,Q=>tk σ H fun x H1=>tv σ H1 fun y H2=>qo r σ H2 fun ps H3=>Q ((x,y)::ps) H3
abbrev VV:List (V×V)->List (Value×Value)->Prop:=Paired fun p q=>dn p.1 q.1/\dn p.2 q.2
def PPs(X:Cx)(pos:Pos)(keys:List (Option Expr))(values:List Expr)(trs:List (TE×TE)):Prop:=
 ∀(pins:List (Addr×Obj)) (s:Shared) (σ:St) (H:Hp) (Q:List (V×V)->Hp->Prop),Inv X pins σ H s->qo trs σ H Q->
  wpAny (model X.prog X.w) X.A (evalPairs (pairTrees keys values X.env pos)) (fun vs s'=>∃ps H',Inv X pins σ H' s'/\VV ps vs/\Q ps H') X.xe s
theorem wy{X:Cx}{pos:Pos}:PPs X pos [] [] []:=fun pins s σ H Q I h=>pairTrees_nil_walk ⟨[],H,I,.nil,h⟩
theorem tQ{X:Cx}{pos:Pos}{k v:Expr}{ks:List (Option Expr)}{vs:List Expr}{tk tv:TE}{trs:List (TE×TE)}(hk:PE X k tk)(hv:PE X v tv)(hr:PPs X pos ks vs trs) :
  PPs X pos (some k::ks) (v::vs) ((tk,tv)::trs):=fun pins s σ H Q I h=>
 pairTrees_cons_walk (thn (hk pins s σ H _ I h) fun u s1 ⟨x,H1,I1,rx,q1⟩=>thn (hv pins s1 σ H1 _ I1 q1) fun w2 s2 ⟨y,H2,I2,ry,q2⟩=>
  thn (hr pins s2 σ H2 _ I2 q2) fun ws s3 ⟨ps,H3,I3,rel,q3⟩=>⟨(x,y)::ps,H3,I3,.cons ⟨rx,ry⟩ rel,q3⟩)
def lE(kvs more:List (Key×V)):List (Key×V):=more.foldl (fun acc kv=>l6 acc kv.1 kv.2) kvs
theorem KV.merge:∀{more:List (Key×V)} {rs:List (Key×Value)} {kvs:List (Key×V)} {vs:List (Key×Value)},KV more rs->KV kvs vs->KV (lE kvs more) (merged vs rs):=by
 intro more rs kvs vs r
 unfold KV at r
 induction r generalizing kvs vs with
 |nil=>intro q;exact q
 |@cons p q ps qs h t ih=>
  intro r0
  have e:KV (l6 kvs p.1 p.2) (stored vs q.1 q.2):=by
   have:=r0.put p.1 h.2
   rw[<-h.1];exact this
  exact ih e
theorem jY:∀(more kvs:List (Key×V)),(lE kvs more).length<=kvs.length+more.length
 |[],kvs=>by show kvs.length<=kvs.length+0;omega
 |p::r,kvs=>by
  have h1:=jY r (l6 kvs p.1 p.2)
  have h2:=jq kvs p.1 p.2
  show(lE (l6 kvs p.1 p.2) r).length<=_
  rw[List.length_cons];omega
theorem oI{P:Program}{w:World}:∀{kvs:List (Key×V)} {ws:List (Value×Value)},VV (kvs.map fun kv=>(kV kv.1,kv.2)) ws->∃rs,Carries (cY P w) ws rs/\KV kvs rs
 |[],_,r=>by rw[List.map_nil]at r;cases r;exact⟨[],True.intro,.nil⟩
 |p::kvs,_,r=>by
  rw[List.map_cons]at r
  cases r with
  |@cons a b as bs h t=>
   obtain⟨rs,c,q⟩:=oI (P:=P) (w:=w) t
   obtain⟨b1,b2⟩:=b
   exact⟨(p.1,b2)::rs,⟨w6 h.1,rfl,c⟩,.cons ⟨rfl,h.2⟩ q⟩
def EO(trs:List (TE×TE)):TE:=fun σ H Q=>∀p,H p=none->qo trs σ (upd H p (.dK [])) fun ps H2=>H2 p=some (.dK [])/\∃kvs:List (Key×V),ps=kvs.map (fun kv=>(kV kv.1,kv.2))/\kvs.length<=15/\Q (.ref p) (upd H2 p (.dK (lE [] kvs)))
theorem CD{X:Cx}{pos:Pos}{keys:List (Option Expr)}{values:List Expr}{trs:List (TE×TE)}(h:PPs X pos keys values trs)(hall:keys.all (·.isSome)=true)(hl:keys.length=values.length)(h0:keys≠[])
  (h15:keys.length<=15):PE X (.Dict keys values pos) (EO trs):=by
 intro pins s σ H Q I q
 have hn:=I.hok.fresh (Nat.le_refl s.heap.objs.size)
 have I1:=I.laid (a:=s.heap.objs.size) (o:=.dK []) (h':=s.heap.push { cls:=.type "dict",data:=.dict #[] }) (t':=s.toks) (fun _ _ q=>Heap.get?_push_of_some _ q) (Nat.le_refl _) (uj s.heap I.big)
 refine wpAny_Dict_walk (knd:=cY X.prog X.w) hall hl h0 h15 (thn (h pins _ σ _ _ I1 (q _ hn)) fun ws s2 hz=>?_)
 obtain⟨ps,H2,I2,rel,e,kvs,ep,lk,q2⟩:=hz
 subst ep
 obtain⟨rs,c,rk⟩:=oI (P:=X.prog) (w:=X.w) rel
 obtain⟨z,hd,vs0,r0,dd⟩:=Ab I2.hok e
 cases r0
 refine⟨rs,c,dd,fun h' dd' hs=>⟨.ref s.heap.objs.size,_,?_,rfl,q2⟩⟩
 have hz:(lE [] kvs).length<=sizeLine:=by
  have h1:=jY kvs []
  rw[List.length_nil]at h1
  rw[sizeLine_eq];omega
 have he:∃q,h'.get? s.heap.objs.size=some q:=let ⟨q,_,_,hq,_⟩:=dd';⟨q,hq⟩
 exact nh I2 (by rw[e];exact True.intro) hs he (A2 hz hd (rk.merge .nil) dd')
end L2
namespace Att
open PySem PySem.W PySem.Calls PyProof.Rows
theorem m7{P:Params}{h:Heap}:∀(ns:List Int) (vs:List Value),WellAll P h vs (ns.map WData.int)->IntsAre vs ns:=by
 intro ns
 induction ns with
 |nil=>
  intro vs w
  rw[List.map_nil]at w
  cases w
  exact .nil
 |cons n ns ih=>
  intro vs w
  rw[List.map_cons]at w
  cases w with
  |cons a b=>
   cases a
   exact .cons _ _ (ih _ b)
theorem wa{l:OpenLaw}{n:Nat}(hn:l.most=some n){P:Params}{h:Heap}{args:List WData}{vals:List Value}
  (hpre:l.row.toRowW.claim.pre args=true) (hwl:WellAll P h vals args) :
  ∃a vs ns,vals=[Value.ref a]/\args=[WData.list (ns.map WData.int)]/\h.get? a=some { cls:=.type "list",data:=.seq vs.toArray }/\IntsAre vs ns/\ns.length<=n:=by
 have hsh:WShape.hasAll [] args [.list .int]=true:=(pre_splitW hpre).1
 have hc:l.pre.holds [] { args:=args }=true:=(pre_splitW hpre).2
 obtain⟨d,r,rfl,h1,h2⟩:=hasAllW_cons hsh
 obtain rfl:=hasAllW_nil h2
 obtain⟨xs,rfl,h3⟩:=hasW_list h1
 obtain⟨ns,rfl⟩:=items_int h3
 have hlen:ns.length<=n:=by
  unfold OpenLaw.pre at hc
  have h4:(WTm.not (.lt (.lit (.int (n:Int))) (.len (.arg 0)))).holds [] { args:=[.list (ns.map .int)] }=true:=by
   have h4:=(holds_andW hc).1
   rw[hn]at h4
   exact h4
  have h5:=condW_of h4 (w_not (w_lt w_lit (w_len_list (w_arg rfl))))
  rw[List.length_map]at h5
  refine Nat.le_of_not_lt fun q=>?_
  have q':(n:Int)<((ns.length:Nat):Int):=by omega
  first
   |(rw[decide_eq_true q']at h5;exact absurd h5 (by decide))
   |(simp at h5;omega)
 cases hwl with
 |cons w1 w2=>
  cases w2
  cases w1 with
  |list ho hall=>exact⟨_,_,ns,rfl,rfl,ho,m7 ns _ hall,hlen⟩
theorem wz(l:OpenLaw)(args:List WData):l.row.toRowW.claim.post args (.bool true) args=true:=
 postW_of (r:=l.row.toRowW) (X:=(true == true))
  (show WShape.has [] (.bool true) .bool=true by first|rfl|decide|simp[WShape.has,WShape.arms,WShape.armsAll])
  (show(WTm.eq .res (.lit (.bool true))).value [] { args:=args,res:=some (.bool true),after:=args }=some (.bool (true == true))from w_eq_bool (w_res rfl) w_lit) rfl
theorem attach_call{l:OpenLaw}{n:Nat}{q:Program}{loose:List Str}{XP:(Str->Option Value)->Heap->Prop}{YP:World->Heap->Prop}{d:DefRec}
  (hn:l.most=some n) (hdf:d.params.defaults=[])
  (call:∀(w:World) (s₀ s₁:Shared) (mg mb:Str->Option Value) (fa:Addr) (o:Obj) (pm cd doc:Value) (a:Addr) (vs:List Value) (ns:List Int),
   Ground q loose [] XP w s₀ mg mb s₁.heap->YP w s₁.heap->
   s₁.heap.get? fa=some o->o.data=.func (docDef d.name d.params d.body d.scope pm cd doc)->s₁.heap.CodeRec cd d.name->mg d.name=some (.ref fa)->
   s₁.heap.get? a=some { cls:=.type "list",data:=.seq vs.toArray }->IntsAre vs ns->ns.length<=n->s₁.gens=#[]->
   codeAny (model l.prog w) callerA (.call (.ref fa) ⟨[.ref a],[]⟩) (fun r s'=>r=.ok (.ret (.bool true))/\OldK s₁.heap s'.heap/\s'.os=s₁.os/\AllBare s'.gens) s₁) :
  WalkO q loose XP YP l.row.toRowW d [] (fun f vs=>PySem.call f vs):=by
 intro w s₀ s₁ mg mb G Y fa o pm cd doc dV kV ho hd hcd hD hmg hg args vals as hpre hlay hrd hwl hlo
 obtain rfl:dV=.none:=Dflts.none hD hdf
 obtain rfl:kV=.none:=Dflts.noKw hD
 obtain⟨a,vs,ns,rfl,rfl,hobj,hints,hlen⟩:=wa hn hpre hwl
 refine enter_call (codeAny_mono (call w s₀ s₁ mg mb fa o pm cd doc a vs ns G Y ho (fd_plain hd) hcd hmg hobj hints hlen hg) fun r s' hq=>?_)
 obtain⟨rfl,h2,h3,h4⟩:=hq
 exact⟨.inl ⟨.bool true,.bool true,[],rfl,fun _=>rfl,.bool true,wz l _,fun _=>⟨List.Pairwise.nil,fun _ hm=>(nomatch hm)⟩⟩,h2,h3,h4⟩
end Att
namespace L2
open PySem PySem.Spec PyProof.Rows
theorem gk:∀{vs:List Value} {ns:List Int},IntsAre vs ns->cg (ns.map V.int) vs
 |_,_,.nil=>.nil
 |_,_,.cons n t h=>.cons ⟨t,rfl⟩ (gk h)
def JQ(H:Hp):Prop:=∀b,H b=none\/∃o xs,H b=some (.frz o (.lst xs))
theorem zL{P:Program}{w:World}{K:PySem.W.Frag}{mg mb:Str->Option Value}{CX:CXT}{k:Nat}{fa a:Addr}{fd:FuncData}{x:Str}{sp:Sp}{s₁:Shared}{vs:List Value}{ns:List Int}
  (KX:K.In s₁.heap) (hns:s₁.heap.Ns mainGlobals mg) (hb:s₁.heap.Ns builtinsNs mb) (hbb:∀x:Str,x≠"__name__"->mb x=bootBuiltins x) (hlim:s₁.heap.NoLimit) (hg:s₁.gens=#[])
  (ha:s₁.heap.get? a=some { cls:=.type "list",data:=.seq vs.toArray }) (hi:IntsAre vs ns) (hl:ns.length<=sizeLine) (hr:gB k callerA)
  (F:∀base:Heap,K.In base->base.Ns mainGlobals mg->lL P w K mg base CX k fa fd [x] sp) (hbind:∀(s:Shared) (u:Value),BindsTo s fd ⟨[u],[]⟩ [(x,u)])
  (hsp:∀H:Hp,JQ H->SqL K H a (ns.map V.int)->sp [.ref a] H (fun v _=>v=.bl true) fun _ _ _=>False)
  (hCX:∀H e s',CX [] H s₁ (fun _ _ _=>False) e s'->False) :
  codeAny (model P w) callerA (.call (.ref fa) ⟨[.ref a],[]⟩) (fun r s'=>r=.ok (.ret (.bool true))/\OldK s₁.heap s'.heap/\s'.os=s₁.os/\AllBare s'.gens) s₁:=by
 have rv:=gk hi
 have lenV:=hi.length
 have core:∀H:Hp,JQ H->SqL K H a (ns.map V.int)->HOk P w H s₁.heap->(∀b,H b≠none->b=a)->(H a≠none->K.lookup a=none)->
   codeAny (model P w) callerA (.call (.ref fa) ⟨[.ref a],[]⟩) (fun r s'=>r=.ok (.ret (.bool true))/\OldK s₁.heap s'.heap/\s'.os=s₁.os/\AllBare s'.gens) s₁:=by
  intro H hO hS hok hA hK
  have base_of:∀{b:Addr} {o:Obj},s₁.heap.get? b=some o->H b=none->(zT s₁.heap H).get? b=some o:=fun e n=>zS e n
  have noA:∀{b:Addr} {o:Obj} {es:Array DictEntry} {ep:Nat},s₁.heap.get? b=some o->o.data=.dict es ep->H b=none:=fun{b o es ep} e d=>by
   cases q:H b with
   |none=>rfl
   |some u=>
    have e':b=a:=hA b (by rw[q];simp)
    subst e'
    rw[ha]at e;cases e
    have d':Data.seq vs.toArray _=Data.dict es ep:=d
    cases d'
  have nsK:∀{b:Addr} {m:Str->Option Value},s₁.heap.Ns b m->(zT s₁.heap H).Ns b m:=fun{b m} ⟨o,es,ep,e,d,r⟩=>⟨o,es,ep,base_of e (noA e d),d,r⟩
  have hKb:K.In (zT s₁.heap H):=fun b o e=>base_of (KX b o e) (by
   cases q:H b with
   |none=>rfl
   |some u=>
    have e':b=a:=hA b (by rw[q];simp)
    subst e'
    rw[hK (by rw[q];simp)]at e;cases e)
  have hM:Mod K mg (zT s₁.heap H):=⟨hKb,nsK hns,⟨mb,nsK hb,hbb⟩,let ⟨mc,h1,h2⟩:=hlim;⟨mc,nsK h1,h2⟩⟩
  have e0:DK P w K mg (zT s₁.heap H) callerA [] s₁ H:=⟨rfl,hM,fun b o e=>CZ e,Nat.le_of_eq (xl _ _),trivial,fun b hb=>absurd (show b∈([]:List Addr)from hb) (by simp),hok,.of_eq hg⟩
  refine codeAny_mono ((F _ hKb (nsK hns)).run callerA [] s₁ H ⟨[.ref a],[]⟩ [.ref a] [.ref a] _ _ hr e0 (hbind s₁ (.ref a)) (.cons rfl .nil) (hsp H hO hS)) fun r s' h=>?_
  cases r with
  |error e=>exact(hCX H e s' h).elim
  |ok fl=>
   cases fl with
   |next=>exact False.elim h
   |brk=>exact False.elim h
   |cont=>exact False.elim h
   |ret u=>
    obtain⟨v,H',os,bare,un,hok',r',q⟩:=h
    have q':v=.bl true:=q
    subst q'
    obtain rfl:u=Value.bool true:=r'
    refine⟨rfl,OldK.of_keep fun b o e=>?_,os,bare⟩
    cases q:H b with
    |none=>exact un.keep b o e q (by intro z;exact absurd (show b∈([]:List Addr)from z) (by simp)) (by simp)
    |some u=>
     rcases hO b with z|⟨ob,xs,z⟩
     ·rw[q]at z;cases z
     ·have z2:=un.frzs b ob _ z
      obtain⟨e1,_⟩:=hok b _ z
      obtain⟨e2,_⟩:=hok' b _ z2
      rw[e]at e1;cases e1
      exact e2
 cases hk:K.lookup a with
 |some o=>
  have e:=KX a o hk
  rw[ha]at e
  cases e
  refine core (fun _=>none) (fun _=>.inl rfl) (.inr ⟨_,vs.toArray,_,hk,rfl,rfl,rfl,by rw[List.size_toArray,lenV];exact hl,by simpa using rv⟩) (fun b u z=>by have z':(none:Option HO)=some u:=z;cases z') (fun b z=>absurd rfl z) fun z=>absurd rfl z
 |none=>
  refine core (fun b=>if b=a then some (.frz { cls:=.type "list",data:=.seq vs.toArray } (.lst (ns.map V.int)))else none) (fun b=>?_) (.inl (.inr ⟨{ cls:=.type "list",data:=.seq vs.toArray },if_pos rfl⟩)) (fun b u z=>?_) (fun b z=>?_) fun _=>hk
  ·by_cases hb:b=a
   ·exact .inr ⟨_,_,if_pos hb⟩
   ·exact .inl (if_neg hb)
  ·by_cases hb:b=a
   ·have z':=(if_pos hb).symm.trans z
    cases z'
    subst hb
    exact⟨ha,by rw[List.length_map];exact hl,vs,_,rv,ha⟩
   ·have z':=(if_neg hb).symm.trans z
    cases z'
  ·by_cases hb:b=a
   ·exact hb
   ·exact absurd (if_neg hb) z
theorem BQ{l:PySem.W.OpenLaw}{n k:Nat}{q:Program}{loose:List Str}{XP:(Str->Option Value)->Heap->Prop}{YP:World->Heap->Prop}{d:DefRec}{K:Params->PySem.W.Frag}{CX:World->CXT}{sp:World->Sp}{x:Str}
  (hn:l.most=some n) (hn2:n<=sizeLine) (hdf:d.params.defaults=[]) (hr:gB k callerA)
  (hY:∀(w:World) (h:Heap),YP w h->(K w.params).In h)
  (F:∀(w:World) (mg:Str->Option Value) (fa:Addr) (h:Heap),(K w.params).In h->h.Ns mainGlobals mg->mg d.name=some (.ref fa)->
   ∃fd:FuncData,(∀(s:Shared) (u:Value),BindsTo s fd ⟨[u],[]⟩ [(x,u)])/\
    ∀base:Heap,(K w.params).In base->base.Ns mainGlobals mg->lL l.prog w (K w.params) mg base (CX w) k fa fd [x] (sp w))
  (hsp:∀(w:World) (H:Hp) (a:Addr) (ns:List Int),ns.length<=n->JQ H->SqL (K w.params) H a (ns.map V.int)->sp w [.ref a] H (fun v _=>v=.bl true) fun _ _ _=>False)
  (hCX:∀(w:World) (H:Hp) (s:Shared) (e:Value) (s':Shared),CX w [] H s (fun _ _ _=>False) e s'->False) :
  PySem.W.WalkO q loose XP YP l.row.toRowW d [] (fun f vs=>PySem.call f vs):=by
 refine Att.attach_call hn hdf fun w s₀ s₁ mg mb fa o pm cd doc a vs ns G Y ho hd hcd hmg hobj hints hlen hg=>?_
 have KX:=hY w _ Y
 obtain⟨fd,hb,hF⟩:=F w mg fa _ KX G.T.g hmg
 exact zL KX G.T.g G.T.b G.T.builtins G.T.nolimit hg hobj hints (Nat.le_trans hlen hn2) hr hF hb (fun H hO hS=>hsp w H a ns hlen hO hS) fun H e s'=>hCX w H s₁ e s'
def fF(s:Stmt)(j:Nat):Stmt:=match s with
 |.ClassDef _ _ _ body _ _ _ _ _ _ _=>body.getD j (.Pass ⟨0,0,0,0⟩)
 |_=>.Pass ⟨0,0,0,0⟩
def jv(s:Stmt):Arguments:=match s with
 |.FunctionDef _ a _ _ _ _ _ _ _ _=>a
 |_=>{ posonlyargs:=[],args:=[],vararg:=none,kwonlyargs:=[],kw_defaults:=[],kwarg:=none,defaults:=[] }
def d8(s:Stmt):List Stmt:=match s with
 |.FunctionDef _ _ b _ _ _ _ _ _ _=>b
 |_=>[]
def ay(s:Stmt):Scope:=match s with
 |.FunctionDef _ _ _ _ _ _ sc _ _ _=>sc
 |_=>{ kind:=.function,names:=[],isGenerator:=false,isCoroutine:=false }
abbrev CX0:CXT:=fun _ _ _ _ _ _=>False
abbrev E0:XK:=fun _ _ _=>False
theorem zo{X:Cx}:i7 CX0 X E0:=fun _ _ _ _ _ _ _ h=>h.elim
structure Fun(K:PySem.W.Frag)(x qual:Str)(st:Stmt)(f:Addr)(fd:FuncData):Prop where
 ex:∃(oc:Value) (od:Option Addr) (kV doc pm:Value) (an:Option Addr) (cdv ct:Value) (osl:Array (Option Value)),
  fd=PySem.W.fnOf x qual (jv st) (d8 st) (ay st) .none kV doc pm an cdv ct/\K.lookup f=some ⟨oc,od,.func fd,osl⟩/\PySem.W.codeIn K cdv qual=true
 kp:PySem.W.keepIn K (.ref f)=true
section
variable{P:Program}{w:World}{K:PySem.W.Frag}{mg:Str->Option Value}{base:Heap}
theorem Fun.ok{x qual:Str}{st:Stmt}{f:Addr}{fd:FuncData}{N ps:List Str}{k:Nat}{sp:Sp}(F:Fun K x qual st f fd)(S:aN N ps (ay st))(len:∀vs H Q E,sp vs H Q E->vs.length=ps.length)
  (hbody:∀(cdv:Value) (A:Around) (outer:List Env) (s:Shared) (H:Hp) (vs:List V) (Q:VK) (E:XK),gB k (A.deeper (envOfC qual (ay st) s.heap.objs.size f cdv))->sp vs H Q E->
   ∃t,PSs (um CX0 P w K mg base N qual (ay st) f cdv A outer s H E).nox (d8 st) t/\t { nx:=fun _ H'=>Q .non H',rt:=Q } (jH N vs) H):lL P w K mg base CX0 (k+1) f fd ps sp:=by
 obtain⟨oc,od,kV,doc,pm,an,cdv,ct,osl,rfl,lk,hcd⟩:=F.ex
 refine JC lk hcd S len fun A outer s H vs Q E hr hsp=>?_
 obtain⟨t,h,q⟩:=hbody cdv A outer s H vs Q E hr hsp
 exact⟨t,h.nox,q⟩
theorem Fun.binds{x qual:Str}{st:Stmt}{f:Addr}{fd:FuncData}{ps:List Str}(F:Fun K x qual st f fd)
  (h:∀(kV doc pm:Value) (an:Option Addr) (cdv ct:Value) (us:List Value),us.length=ps.length->bindArgs (PySem.W.fnOf x qual (jv st) (d8 st) (ay st) .none kV doc pm an cdv ct) ⟨us,[]⟩=pure (ps.zip us)):gW K fd ps []:=by
 obtain⟨oc,od,kV,doc,pm,an,cdv,ct,osl,rfl,lk,hcd⟩:=F.ex
 exact .all (h kV doc pm an cdv ct)
theorem AX{x qual:Str}{st:Stmt}{f:Addr}{oc:Value}{od an:Option Addr}{osl:Array (Option Value)}{kV doc pm cdv ct:Value}(l:K.lookup f=some ⟨oc,od,.func (PySem.W.fnOf x qual (jv st) (d8 st) (ay st) .none kV doc pm an cdv ct),osl⟩)
  (c:PySem.W.codeIn K cdv qual=true) (k:PySem.W.keepIn K (.ref f)=true):Fun K x qual st f (PySem.W.fnOf x qual (jv st) (d8 st) (ay st) .none kV doc pm an cdv ct):=⟨⟨oc,od,kV,doc,pm,an,cdv,ct,osl,rfl,l,c⟩,k⟩
end
theorem de{A:Around}{k:Nat}(hr:gB k A):A.units+1<cLine:=Nat.lt_of_le_of_lt (Nat.add_le_add_left (by decide:1<=64) _) hr.units
theorem vZ{n:Nat}(h:n<=1000):n<sizeLine:=Nat.lt_of_le_of_lt h (by decide)
section
variable{X:Cx}
theorem pv(i:Nat){x:Str}{pos:Pos}(hN:X.N[i]?=some x:=by rfl)(hv:Vis X.env.scope x:=by first|exact Or.inl rfl|exact Or.inr (Or.inl rfl)|exact Or.inr (Or.inr rfl))(hd:(x == ("__debug__":Str))=false:=by decide)
  (hcd:(x == ("__classdict__":Str))=false:=by decide):PE X (.Name x pos) (GS i):=Fp hN hv hd hcd
theorem x5:fP X (.builtin "len") (fun xs H Q=>∃a kvs,xs=[V.ref a]/\H a=some (.dK kvs)/\Q (.int kvs.length) H):=by
 intro pins s σ H xs us Q I r h
 obtain⟨a,kvs,rfl,ha,q⟩:=h
 obtain⟨u,rfl,ru⟩:=nJ r
 cases ru
 exact JI I (.inl ha) fun t s' I'=>⟨.int kvs.length,H,I',⟨t,rfl⟩,q⟩
end
theorem F9{A B:Prop}(h:B):if false=true then A else B:=by
 rw[if_neg Bool.false_ne_true]
 exact h
theorem F8{A B:Prop}(h:A):if true=true then A else B:=by
 rw[if_pos rfl]
 exact h
def sP(H H':Hp):Prop:=∀b o,H b=some o->H' b=some o
theorem sP.refl(H:Hp):sP H H:=fun _ _ h=>h
theorem sP.trans{H H1 H2:Hp}(a:sP H H1)(b:sP H1 H2):sP H H2:=fun c o h=>b c o (a c o h)
theorem sP.free{H H':Hp}(e:sP H H'){l:Addr}(h:H' l=Option.none):H l=Option.none:=by
 cases q:H l with
 |none=>rfl
 |some o=>
  rw[e l o q]at h
  cases h
end L2
namespace OG
open PySem PySem.Spec PyProof.Rows L2
structure WE(X:Cx)(e:Expr)(t:TE):Prop where
 h:PE X e t
structure WT(X:Cx)(e:Expr)(t:TT):Prop where
 h:PT X e t
structure WW(X:Cx)(e:Expr)(t:TT):Prop where
 h:PW X e t
structure WA(X:Cx)(es:List Expr)(t:TA):Prop where
 h:PA X es t
structure WS(X:Cx)(st:Stmt)(t:TS):Prop where
 h:PS X st t
structure WSs(X:Cx)(st:List Stmt)(t:TS):Prop where
 h:PSs X st t
structure WI(X:Cx)(tg iter:Expr)(wi:TI):Prop where
 h:PI X tg iter wi
structure WG(X:Cx)(target:Expr)(t:TG):Prop where
 h:PG X target t
structure WGs(X:Cx)(ts:List Expr)(t:TGs):Prop where
 h:PGs X ts t
structure WC(X:Cx)(op:CmpOp)(a b:Expr)(t:TE):Prop where
 h:PC X op a b t
structure WO(X:Cx)(e:Option Expr)(t:TO):Prop where
 h:PO X e t
section
variable{X:Cx}
theorem af{i j pos}:WE X (.Constant (.int i) j pos) (tC (.int i)):=⟨Fx ⟩
end
section
variable{X:Cx}
theorem dW{b j pos}:WE X (.Constant (.bool b) j pos) (tC (.bl b)):=⟨I0 ⟩
end
section
variable{X:Cx}
theorem gC{j pos}:WE X (.Constant .none j pos) (tC .non):=⟨Fv ⟩
end
section
variable{X:Cx}
theorem aC{x j pos}:WE X (.Constant (.str x) j pos) (tC (.str x)):=⟨Fs ⟩
end
section
variable{X:Cx}
variable{a b:Expr}{ta tb:TE}{pos:Pos}
theorem BK{op:CmpOp}{t:TE}(h:WC X op a b t)(h1:behindInMarks op b=false:=by first|exact nobehind _ (by decide) (by decide)|rfl):WE X (.Compare a [op] [b] pos) t:=⟨Fz h.h h1⟩
end
section
variable{X:Cx}
variable{a b:Expr}{ta tb:TE}{pos:Pos}
theorem vA{op:CmpOp}{t:TE}(h:WC X op a b t)(h1:behindInMarks op b=false:=by first|exact nobehind _ (by decide) (by decide)|rfl):WT X (.Compare a [op] [b] pos) (tB t):=⟨Fe h.h h1⟩
end
section
variable{X:Cx}
variable{a b:Expr}{ta tb:TE}{pos:Pos}
theorem Bz{e:Expr}{t:TE}(h:WE X e t)(he:∀whole,isTrue e X.env whole=(do let v <-whole;standAt e.pos;holding [v] (truthy v)):=by intro _;rfl):WT X e (tB t):=⟨Fc h.h he⟩
end
section
variable{X:Cx}
variable{a b:Expr}{ta tb:TE}{pos:Pos}
variable{tA tB':TT}{rest:List Expr}
theorem yx(ha:WT X a tA):WW X (.BoolOp .And [a] pos) tA:=⟨Cm ha.h⟩
end
section
variable{X:Cx}
variable{a b:Expr}{ta tb:TE}{pos:Pos}
variable{tA tB':TT}{rest:List Expr}
theorem Bx(ha:WT X a tA):WW X (.BoolOp .Or [a] pos) tA:=⟨E9 ha.h⟩
end
section
variable{X:Cx}
variable{a b:Expr}{ta tb:TE}{pos:Pos}
variable{tA tB':TT}{rest:List Expr}
theorem By(ha:WT X a tA)(hb:WW X (.BoolOp .And (b::rest) pos) tB'):WW X (.BoolOp .And (a::b::rest) pos) (J1 tA tB'):=⟨Fb ha.h hb.h⟩
end
section
variable{X:Cx}
variable{a b:Expr}{ta tb:TE}{pos:Pos}
variable{tA tB':TT}{rest:List Expr}
theorem EA(ha:WT X a tA)(hb:WW X (.BoolOp .Or (b::rest) pos) tB'):WW X (.BoolOp .Or (a::b::rest) pos) (tOr tA tB'):=⟨IT ha.h hb.h⟩
end
section
variable{X:Cx}
variable{a b:Expr}{ta tb:TE}{pos:Pos}
variable{tA tB':TT}{rest:List Expr}
theorem BA(ha:WT X a tA):WT X (.UnaryOp .Not a pos) (JX tA):=⟨Fd ha.h⟩
end
section
variable{X:Cx}
variable{a b:Expr}{ta tb:TE}{pos:Pos}
variable{tA tB':TT}{rest:List Expr}
theorem BG{op}{t:TE}(h:WE X a t):WE X (.BoolOp op [a] pos) t:=⟨Ft h.h⟩
end
section
variable{X:Cx}
variable{a b:Expr}{ta tb:TE}{pos:Pos}
variable{tA tB':TT}{rest:List Expr}
theorem BL(ha:WE X a ta)(hb:WE X (.BoolOp .And (b::rest) pos) tb):WE X (.BoolOp .And (a::b::rest) pos) (EV ta tb):=⟨FA ha.h hb.h⟩
end
section
variable{X:Cx}
variable{a b:Expr}{ta tb:TE}{pos:Pos}
variable{tA tB':TT}{rest:List Expr}
theorem BH(ha:WE X a ta):WE X (.UnaryOp .Not a pos) (EI ta):=⟨Fu ha.h⟩
end
section
variable{X:Cx}{st:Stmt}{rest:List Stmt}{t u:TS}{e:Expr}{te:TE}{pos:Pos}
theorem yy :WSs X [] EK:=⟨Cp ⟩
end
section
variable{X:Cx}{st:Stmt}{rest:List Stmt}{t u:TS}{e:Expr}{te:TE}{pos:Pos}
theorem qe(h1:WS X st t)(h2:WSs X rest u):WSs X (st::rest) (JV t u):=⟨zb h1.h h2.h⟩
end
section
variable{X:Cx}{st:Stmt}{rest:List Stmt}{t u:TS}{e:Expr}{te:TE}{pos:Pos}
theorem tj(h1:WS X st t):WSs X [st] t:=⟨Co h1.h⟩
end
section
variable{X:Cx}{st:Stmt}{rest:List Stmt}{t u:TS}{e:Expr}{te:TE}{pos:Pos}
theorem yz(he:WE X e te)(hs:swapsWith e none pos.line X.env=pure false:=by rfl):WS X (.Expr e pos) (EN te):=⟨Cq he.h hs⟩
end
section
variable{X:Cx}{st:Stmt}{rest:List Stmt}{t u:TS}{e:Expr}{te:TE}{pos:Pos}
theorem vD(he:WE X e te):WS X (.Return (some e) pos) (JW te):=⟨Fg he.h⟩
end
section
variable{X:Cx}{st:Stmt}{rest:List Stmt}{t u:TS}{e:Expr}{te:TE}{pos:Pos}
theorem EB{c:Expr}{a b:List Stmt}{tc:TT}(hc:WT X c tc)(ha:WSs X a t)(hb:WSs X b u):WS X (.If c a b pos) (JZ tc t u):=⟨IU hc.h ha.h hb.h⟩
end
section
variable{X:Cx}{pos:Pos}
theorem a8{i:Nat}{x:Str}(hN:X.N.Nodup)(hi:X.N[i]?=some x)(hx:Loc X.env.scope x)(hf:X.fn x=true\/X.env.scope.names.lookup x=some .local:=by first|exact .inl rfl|exact .inr rfl|assumption):WG X (.Name x pos) (uX i):=⟨Cz hN hi hx hf⟩
end
section
variable{X:Cx}{pos:Pos}
theorem yC :WGs X [] Kk:=⟨Cy ⟩
end
section
variable{X:Cx}{pos:Pos}
theorem vF{e:Expr}{es:List Expr}{t:TG}{u:TGs}(h1:WG X e t)(h2:WGs X es u)(hs:(assignEach (e::es) X.env).map (·.2)=assign e X.env::(assignEach es X.env).map (·.2):=by rfl):WGs X (e::es) (Gq t u):=⟨zg h1.h h2.h hs⟩
end
section
variable{X:Cx}{pos:Pos}
theorem BD{es:List Expr}{k:Nat}{t:TGs}{n:Nat}(hc:X.calm=true)(h:WGs X es t)(hn:(assignEach es X.env).length=n:=by rfl)(hst:(assignEach es X.env).findIdx? (·.1)=none:=by rfl):WG X (.Tuple es k pos) (Ki X.K n t):=⟨Fm hc h.h hn hst⟩
end
section
variable{X:Cx}{pos:Pos}
theorem BE {o i : Expr} {to ti : TE} {t : Hc} (ho : WE X o to) (hi : WE X i ti) (hs : JP X t) (ha : ∀ v, assign (.Subscript o i pos) X.env v = (do
   let ov <-holding [v] (eval o X.env)
   let iv <-holding [v,ov] (eval i X.env)
   standAt pos
   holding [v,ov,iv] (setItem ov iv v)
   release [v,ov,iv] []):=by intro _;rfl):WG X (.Subscript o i pos) (Kj to ti t):=⟨Fo ho.h hi.h hs ha⟩
end
section
variable{X:Cx}{pos:Pos}
theorem vE{tg e:Expr}{te:TE}{g:TG}(he:WE X e te)(hg:WG X tg g)(hs:swapsWithSole [tg] e pos.line X.env=pure false:=by rfl)(hw:swappedStores [tg] e X.env=pure none:=by rfl)(h1:(assignEach [tg] X.env).map (·.2)=[assign tg X.env]:=by rfl):WS X (.Assign [tg] e pos) (EU te g):=⟨Fj he.h hg.h hs hw h1⟩
end
section
variable{X:Cx}{pos:Pos}
theorem vC{i:Nat}{x:Str}{e:Expr}{te:TE}{pos':Pos}(hN:X.N.Nodup)(hi:X.N[i]?=some x)(hx:Loc X.env.scope x)(he:WE X e te)(hs:swapsWith e (some (.Name x pos')) pos.line X.env=pure false:=by rfl)(hf:X.fn x=true\/X.env.scope.names.lookup x=some .local:=by first|exact .inl rfl|exact .inr rfl|assumption):WS X (.Assign [.Name x pos'] e pos) (EU te (uX i)):=⟨Ff hN hi hx he.h hs hf⟩
end
section
variable{X:Cx}{pos:Pos}
theorem vB{c:Expr}{body:List Stmt}{tc:TT}{tb:TS}(hp:PassesOwn (model X.prog X.w) X.A X.env X.xe)(hc:WT X c tc)(hb:WSs X body tb):WS X (.While c body [] pos) (vS tc tb):=⟨zc hp hc.h hb.h⟩
end
section
variable{X:Cx}{tg:Expr}
theorem yB{l:Expr}{tl:TE}(hl:WE X l tl):WI X tg l (Gk X.K tl):=⟨Cw hl.h⟩
end
section
variable{X:Cx}{tg:Expr}
theorem BC{l:Expr}{tl:TE}(hl:WE X l tl):WI X tg l (Kh X.K tl):=⟨Fl hl.h⟩
end
section
variable{X:Cx}{tg:Expr}
theorem uF{a:Expr}{ta:TA}{p pos:Pos}(hg:Gl X "range")(hm:X.mg "range"=none)(ha:WA X [a] ta)(hs:starEach [a] X.env=[(false,eval a X.env)]:=by rfl):WI X tg (.Call (.Name "range" p) [a] [] pos) (Gj ta):=⟨wA hg hm ha.h hs⟩
end
section
variable{X:Cx}{tg:Expr}
theorem rF{iter:Expr}{body:List Stmt}{wi:TI}{g:TG}{tb:TS}{pos:Pos}(hp:PassesOwn (model X.prog X.w) X.A X.env X.xe)(hc:X.calm=true)(hi:WI X tg iter wi)(hg:WG X tg g)(hb:WSs X body tb)(hs:∀x,foldedSetIterable iter X.env x=pure x:=by intro _;rfl):WS X (.For tg iter body [] pos) (EM wi g tb):=⟨Fh hp hc hi.h hg.h hb.h hs⟩
end
section
variable{X:Cx}{a b c:Expr}{ta tb tc:TE}{pos:Pos}
theorem EC{op:Operator}{r:R2}(ho:OpR X (binaryOp op) r)(ha:WE X a ta)(hb:WE X b tb):WE X (.BinOp a op b pos) (tOp r ta tb):=⟨IX ho ha.h hb.h⟩
end
section
variable{X:Cx}{a b c:Expr}{ta tb tc:TE}{pos:Pos}
theorem tu{op:CmpOp}{r:R2}(ho:OpR X (compareOp op) r)(ha:WE X a ta)(hb:WE X b tb)(hm:behindInMarks op b=false):WE X (.Compare a [op] [b] pos) (tOp r ta tb):=⟨CH ho ha.h hb.h hm⟩
end
section
variable{X:Cx}{a b c:Expr}{ta tb tc:TE}{pos:Pos}
theorem tf{op:CmpOp}{r:R2}(ho:OpR X (compareOp op) r)(ha:WE X a ta)(hb:WE X b tb)(hm:behindInMarks op b=false):WT X (.Compare a [op] [b] pos) (EG (tOp r ta tb)):=⟨Cn ho ha.h hb.h hm⟩
end
section
variable{X:Cx}{o e value:Expr}{f:Str}{pos pos' tpos:Pos}{ta tv:TE}
theorem BJ(he:WE X e ta)(hb:attributeBase e f X.env (eval e X.env)=eval e X.env):WE X (.Attribute e f pos) (J0 X.K ta f):=⟨Fy he.h hb⟩
end
section
variable{X:Cx}{o e value:Expr}{f:Str}{pos pos' tpos:Pos}{ta tv:TE}
theorem BB(ha:WE X o ta)(hv:WE X value tv)(hs:swapsWith value (some (.Attribute o f pos')) pos.line X.env=pure false):WS X (.Assign [.Attribute o f pos'] value pos) (J2 X.K ta tv f):=⟨Fi ha.h hv.h hs⟩
end
section
variable{X:Cx}{e:Expr}{es:List Expr}{te:TE}{t:TA}{pos:Pos}
theorem j8 :WA X [] GU:=⟨FD ⟩
end
section
variable{X:Cx}{e:Expr}{es:List Expr}{te:TE}{t:TA}{pos:Pos}
theorem ft(ha:WE X e te)(hr:WA X es t)(hs:starEach (e::es) X.env=(false,eval e X.env)::starEach es X.env:=by rfl):WA X (e::es) (ES te t):=⟨CL ha.h hr.h hs⟩
end
section
variable{X:Cx}{e:Expr}{es:List Expr}{te:TE}{t:TA}{pos:Pos}
theorem BF{x1}(h:WA X es t):WE X (.Tuple es x1 pos) (JU t):=⟨Fq h.h⟩
end
section
variable{X:Cx}{e:Expr}{es:List Expr}{te:TE}{t:TA}{pos:Pos}
theorem vH(h:WA X es t):WE X (.List es pos) (JY t):=⟨Fw h.h⟩
end
section
variable{X:Cx}{CX:CXT}{k:Nat}{f C:Addr}{fd:FuncData}{ps:List Str}{sp:Sp}{dvs:List V}{ds:List Value}{E:XK}{x m:Str}{p pos apos:Pos}{e o:Expr}{es:List Expr}{ta:TE}{t:TA}
theorem yD {pl : Sem Bool} (he : WE X o ta) (c : Cls X.K C) (hm : DJ X.K C m f) (F : lL X.prog X.w X.K X.mg X.base CX k f fd ps sp) (hr : gB k X.A) (hb : gW X.K fd ps ds) (hd : cg dvs ds) (hx : i7 CX X E) (ha : WA X (e :: es) t) (hst : starEach (e :: es) X.env = (false, eval e X.env) :: starEach es X.env := by rfl) (hpl : (backTo pos (starEach es X.env)).any (·.1) = false := by rfl) (ht : eval (.Call (.Attribute o m apos) (e :: es) [] pos) X.env = (do
   let ov <-eval o X.env
   standAt apos.atName
   let (f,first) <-holding [ov] (getMethod ov m pl)
   callWith pos f first (backTo pos (starEach (e::es) X.env)) (backToKw pos (keywordEach [] X.env))):=by rfl):WE X (.Call (.Attribute o m apos) (e::es) [] pos) (vU C m sp dvs E ta t):=⟨CB he.h c hm F hr hb hd hx ha.h hst hpl ht⟩
end
section
variable{X:Cx}{CX:CXT}{k:Nat}{f C:Addr}{fd:FuncData}{ps:List Str}{sp:Sp}{dvs:List V}{ds:List Value}{E:XK}{x m:Str}{p pos apos:Pos}{e o:Expr}{es:List Expr}{ta:TE}{t:TA}
theorem vG {pl : Sem Bool} (he : WE X o ta) (c : Cls X.K C) (hm : DJ X.K C m f) (F : lL X.prog X.w X.K X.mg X.base CX k f fd ps sp) (hr : gB k X.A) (hb : gW X.K fd ps ds) (hd : cg dvs ds) (hx : i7 CX X E) (ht : eval (.Call (.Attribute o m apos) [] [] pos) X.env = (do
   let ov <-eval o X.env
   standAt apos.atName
   let (f,first) <-holding [ov] (getMethod ov m pl)
   callWith pos f first (backTo pos (starEach [] X.env)) (backToKw pos (keywordEach [] X.env))):=by rfl):WE X (.Call (.Attribute o m apos) [] [] pos) (vU C m sp dvs E ta GU):=⟨zi he.h c hm F hr hb hd hx ht⟩
end
section
variable{X:Cx}{CX:CXT}{k:Nat}{f C:Addr}{fd:FuncData}{ps:List Str}{sp:Sp}{dvs:List V}{ds:List Value}{E:XK}{x m:Str}{p pos apos:Pos}{e o:Expr}{es:List Expr}{ta:TE}{t:TA}
theorem yE(M:Mk X.K C f)(F:lL X.prog X.w X.K X.mg X.base CX k f fd ps sp)(hr:gB (k+1) X.A)(hg:Gl X x)(hm:X.mg x=some (.ref C))(hb:gW X.K fd ps ds)(hd:cg dvs ds)(hx:i7 CX X E)(ha:WA X (e::es) t)(hdb:(x == ("__debug__":Str))=false:=by decide)(he:starEach (e::es) X.env=(false,eval e X.env)::starEach es X.env:=by rfl)(hpl:(backTo pos (starEach es X.env)).any (·.1)=false:=by rfl):WE X (.Call (.Name x p) (e::es) [] pos) (BS C sp dvs E t):=⟨CC M F hr hg hm hb hd hx ha.h hdb he hpl⟩
end
section
variable{X:Cx}{x:Str}{p pos:Pos}{e:Expr}{es:List Expr}{t:TA}{id T:String}{r:List V->Hp->VK->Prop}
theorem qh(hc:fP X (.builtin id) r)(hg:Gl X x)(hm:X.mg x=none)(hv:bootBuiltins x=some (.builtin id))(ha:WA X (e::es) t)(hn:x≠"__name__":=by decide)(hdb:(x == ("__debug__":Str))=false:=by decide)(he:starEach (e::es) X.env=(false,eval e X.env)::starEach es X.env:=by rfl)(hpl:(backTo pos (starEach es X.env)).any (·.1)=false:=by rfl):WE X (.Call (.Name x p) (e::es) [] pos) (tCB r t):=⟨zm hc hg hm hv ha.h hn hdb he hpl⟩
end
section
variable{X:Cx}{x:Str}{p pos:Pos}{e:Expr}{es:List Expr}{t:TA}{id T:String}{r:List V->Hp->VK->Prop}
theorem nX(hc:fP X (.type T) r)(hg:Gl X x)(hm:X.mg x=none)(hv:bootBuiltins x=some (.type T))(ha:WA X (e::es) t)(hn:x≠"__name__":=by decide)(hdb:(x == ("__debug__":Str))=false:=by decide)(he:starEach (e::es) X.env=(false,eval e X.env)::starEach es X.env:=by rfl)(hpl:(backTo pos (starEach es X.env)).any (·.1)=false:=by rfl):WE X (.Call (.Name x p) (e::es) [] pos) (tCB r t):=⟨wB hc hg hm hv ha.h hn hdb he hpl⟩
end
section
variable{X:Cx}{e:Expr}{te:TE}{lo hi:Option Expr}{tl th:TO}{pos p2:Pos}
theorem tq :WO X none vT:=⟨Cu ⟩
end
section
variable{X:Cx}{e:Expr}{te:TE}{lo hi:Option Expr}{tl th:TO}{pos p2:Pos}
theorem tm(h:WE X e te):WO X (some e) (EH te):=⟨Ct h.h⟩
end
section
variable{X:Cx}{e:Expr}{te:TE}{lo hi:Option Expr}{tl th:TO}{pos p2:Pos}
theorem qg{r:V->Option Int->Option Int->Hp->VK->Prop}(hr:SlR X r)(he:WE X e te)(hl:WO X lo tl)(hu:WO X hi th):WE X (.Subscript e (.Slice lo hi none p2) pos) (tSl r te tl th):=⟨zh hr he.h hl.h hu.h⟩
end
section
variable{X:Cx}{a b:Expr}{ta tb:TE}{pos:Pos}
theorem ED{r:R2}(hr:IxR X r)(ha:WE X a ta)(hb:WE X b tb)(hs:sQ b):WE X (.Subscript a b pos) (tOp r ta tb):=⟨IY hr ha.h hb.h hs⟩
end
section
variable{X:Cx}{a b:Expr}{ta tb:TE}{pos:Pos}
variable{o e:Expr}{es:List Expr}{to:TE}{t:TA}{name:Str}{apos cpos:Pos}{T id:String}{r:V->List V->Hp->VK->Prop}
theorem Aw (pa : PlainAttrs T) (slot : Slot T name id) (hty : typeOf (.builtin id) = pure (.type "method_descriptor")) (hm : MtR X id r) (ho : WE X o to) (ha : WA X (e :: es) t) (hbase : attributeBase o name X.env (eval o X.env) = eval o X.env := by rfl) (hfew : ((backTo cpos (starEach (e :: es) X.env)).all (fun x => !x.1) && (backToKw cpos (keywordEach [] X.env)).all (fun x => x.1.isSome)
   && decide ((e::es).length+([]:List Keyword).length+(if ([]:List Keyword).isEmpty then 0 else 1)<30))=true:=by rfl) (hline:(apos.endLine == cpos.line)=true:=by rfl) (hs:starEach (e::es) X.env=(false,eval e X.env)::starEach es X.env:=by rfl) (hplain:(backTo cpos (starEach es X.env)).any (·.1)=false:=by rfl):WE X (.Call (.Attribute o name apos) (e::es) [] cpos) (tBM X.K T r to t):=⟨IZ pa slot hty hm ho.h ha.h hbase hfew hline hs hplain⟩
end
section
variable{X:Cx}{o i e value:Expr}{pos pos' tpos:Pos}{td ty tv:TE}
theorem yG(hu:X.A.units+1<cLine)(ho:WE X o td)(hi:WE X i ty)(hs:DQ i):WE X (.Subscript o i pos) (ER td ty):=⟨CF hu ho.h hi.h hs⟩
end
section
variable{X:Cx}{o i e value:Expr}{pos pos' tpos:Pos}{td ty tv:TE}
theorem nY(hu:X.A.units+1<cLine)(hi:WE X i ty)(ho:WE X o td):WC X .NotIn i o (oX ty td):=⟨wC hu hi.h ho.h⟩
end
section
variable{X:Cx}{o i e value:Expr}{pos pos' tpos:Pos}{td ty tv:TE}
theorem yA(hu:X.A.units+1<cLine)(ho:WE X o td)(hi:WE X i ty)(hv:WE X value tv)(hs:swapsWith value (some (.Subscript o i pos')) pos.line X.env=pure false):WS X (.Assign [.Subscript o i pos'] value pos) (E1 td ty tv):=⟨Cr hu ho.h hi.h hv.h hs⟩
end
section
variable{X:Cx}{pos:Pos}
theorem vI :WE X (.Dict [] [] pos) Ay:=⟨zj ⟩
end
section
theorem yF{X:Cx}{pos:Pos}{keys:List (Option Expr)}{values:List Expr}{trs:List (TE×TE)}(h:PPs X pos keys values trs)(hall:keys.all (·.isSome)=true)(hl:keys.length=values.length)(h0:keys≠[])(h15:keys.length<=15):WE X (.Dict keys values pos) (EO trs):=⟨CD h hall hl h0 h15⟩
end
section
variable{X:Cx}
theorem wpv(i:Nat){x:Str}{pos:Pos}(hN:X.N[i]?=some x:=by rfl)(hv:Vis X.env.scope x:=by first|exact Or.inl rfl|exact Or.inr (Or.inl rfl)|exact Or.inr (Or.inr rfl))(hd:(x == ("__debug__":Str))=false:=by decide)(hcd:(x == ("__classdict__":Str))=false:=by decide):WE X (.Name x pos) (GS i):=⟨pv i hN hv hd hcd⟩
end
theorem WW.pt{X:Cx}{e:Expr}{t:TT}(h:WW X e t):WT X e t:=⟨h.h.pt⟩
section
variable{X:Cx}{a b c e:Expr}{ta tb tc:TE}{pos:Pos}
def vi(i j:Int):Prop:=0<j/\j.natAbs.log2<9000
theorem pq:OpR X (binaryOp .FloorDiv) (rI vi fun i j=>.int (i / j)):=opI fun i j _ _ _ _ _ hc q=>by
 refine PyProof.Rows.floordiv_int (by have:=hc.1;omega) ?_ (.inl (PyProof.noPylong_of_log2 hc.2))
 rw[Int.fdiv_eq_ediv_of_nonneg i (Int.le_of_lt hc.1)]
 exact q
theorem sF:fP X (.builtin "isinstance") (fun xs H Q=>∃(x:V) (T:String) (t:Value) (k:Bool),xs=[x,.ty T]/\uw X.K H x t/\PySem.W.kitOne X.K t (.type T)=some k/\Q (.bl k) H):=by
 rintro pins s σ H xs us Q I r ⟨x,T,t,k,rfl,ty,e,q⟩
 obtain⟨u,w',rfl,ru,rw'⟩:=BR r
 cases rw'
 exact xc I ru ty e fun tk=>⟨.bl k,H,I.tok tk,rfl,q⟩
end
theorem dZ{H:Hp}{p:Addr}(h:H p=none)(o:HO):sP H (upd H p o):=fun b u q=>by rw[bH (cP q h)];exact q
def Def(K:PySem.W.Frag)(mg:Str->Option Value)(x:Str)(st:Stmt)(ps:List Str):Prop:=
 ∃f fd,Fun K x x st f fd/\gW K fd ps []/\mg x=some (.ref f)
def Has(P:Program)(w:World)(K:PySem.W.Frag)(mg:Str->Option Value)(base:Heap)(x:Str)(k:Nat)(ps:List Str)(sp:Sp):Prop:=
 ∃f fd,lL P w K mg base CX0 k f fd ps sp/\gW K fd ps []/\PySem.W.keepIn K (.ref f)=true/\mg x=some (.ref f)
section
variable{P:Program}{w:World}{K:PySem.W.Frag}{mg:Str->Option Value}{base:Heap}{x:Str}{st:Stmt}{ps N:List Str}{k j:Nat}{sp sp':Sp}
theorem Has.mono(h:Has P w K mg base x j ps sp)(l:j<=k):Has P w K mg base x k ps sp:=by
 obtain⟨f,fd,a,b,c,d⟩:=h
 exact⟨f,fd,a.mono l,b,c,d⟩
theorem Def.has(d:Def K mg x st ps)(S:aN N ps (ay st))(len:∀vs H Q E,sp vs H Q E->vs.length=ps.length)
  (hbody:∀(f:Addr) (cdv:Value) (A:Around) (outer:List Env) (s:Shared) (H:Hp) (vs:List V) (Q:VK) (E:XK),gB k (A.deeper (envOfC x (ay st) s.heap.objs.size f cdv))->sp vs H Q E->
   ∃t,WSs (um CX0 P w K mg base N x (ay st) f cdv A outer s H E).nox (d8 st) t/\t { nx:=fun _ H'=>Q .non H',rt:=Q } (jH N vs) H):Has P w K mg base x (k+1) ps sp:=by
 obtain⟨f,fd,F,b,m⟩:=d
 exact⟨f,fd,F.ok S len (fun cdv A outer s H vs Q E hr h=>let ⟨t,a,b⟩:=hbody f cdv A outer s H vs Q E hr h;⟨t,a.h,b⟩),b,F.kp,m⟩
theorem Def.none(d:Def K mg x st ps)(no:∀vs H Q E,¬sp vs H Q E):Has P w K mg base x k ps sp:=by
 obtain⟨f,fd,F,b,m⟩:=d
 exact⟨f,fd,⟨fun vs H Q E h=>absurd h (no vs H Q E),fun A outer s H args us vs Q E _ _ _ _ h=>absurd h (no vs H Q E)⟩,b,F.kp,m⟩
end
theorem Av{X:Cx}{k:Nat}{ps:List Str}{sp:Sp}{x:Str}{p pos:Pos}{e:Expr}{es:List Expr}{t:TA}(F:Has X.prog X.w X.K X.mg X.base x k ps sp)(hr:gB k X.A)(hg:Gl X x)
  (ha:WA X (e::es) t) (hdb:(x == ("__debug__":Str))=false:=by decide) (he:starEach (e::es) X.env=(false,eval e X.env)::starEach es X.env:=by rfl) (hpl:(backTo pos (starEach es X.env)).any (·.1)=false:=by rfl) :
  WE X (.Call (.Name x p) (e::es) [] pos) (ET sp [] E0 t):=by
 obtain⟨f,fd,a,b,c,d⟩:=F
 exact⟨CJ a hr hg d c b .nil zo ha.h hdb he hpl⟩
structure Blt(mg:Str->Option Value):Prop where
 len:mg "len"=none
 isinstance:mg "isinstance"=none
 int:mg "int"=none
 bool:mg "bool"=none
 str:mg "str"=none
 tuple:mg "tuple"=none
 list:mg "list"=none
 range:mg "range"=none
 min:mg "min"=none
 sum:mg "sum"=none
 all:mg "all"=none
 zip:mg "zip"=none
 sorted:mg "sorted"=none
 dict:mg "dict"=none
 enumerate:mg "enumerate"=none
 any:mg "any"=none
 max:mg "max"=none
 set:mg "set"=none
theorem qr{n:Nat}(h:n<=1000):n<=sizeLine:=Nat.le_of_lt (vZ h)
theorem uS{n:Nat}(h:n<2^60):n.log2<1920:=by
 by_cases e:n=0
 ·subst e;decide
 ·have:=(Nat.log2_lt e).mpr h;omega
theorem Ad(ns:List Int)(lo hi:Option Int):xW (ns.map V.int) lo hi=((ns.drop (HT.sIx (ns.map V.int).length 0 lo)).take (HT.sIx (ns.map V.int).length (ns.map V.int).length hi-HT.sIx (ns.map V.int).length 0 lo)).map V.int:=by
 unfold xW
 rw[List.map_take,List.map_drop]
def yS(K:PySem.W.Frag):Sp:=fun vs H Q _=>∃(a:Addr) (ns:List Int),vs=[.ref a]/\SqL K H a (ns.map V.int)/\ns.length<=63/\∀H',Q (.bl true) H'
theorem mj:bootBuiltins "int"=some (.type "int"):=rfl
theorem yf:bootBuiltins "bool"=some (.type "bool"):=rfl
theorem Aj:bootBuiltins "str"=some (.type "str"):=rfl
theorem dR:bootBuiltins "tuple"=some (.type "tuple"):=rfl
theorem dz:bootBuiltins "list"=some (.type "list"):=rfl
theorem nu:bootBuiltins "isinstance"=some (.builtin "isinstance"):=rfl
theorem Ak:bootBuiltins "min"=some (.builtin "min"):=rfl
theorem fM:bootBuiltins "sorted"=some (.builtin "sorted"):=rfl
theorem qf{X:Cx}{x:Str}{T:String}{pos:Pos}(hg:Gl X x)(hm:X.mg x=none)(hv:bootBuiltins x=some (.type T))(hn:x≠"__name__":=by decide)(hd:(x == ("__debug__":Str))=false:=by decide):WE X (.Name x pos) (tC (.ty T)):=
 ⟨CK hg hm hv rfl hn hd⟩
theorem lH{α:Type}{xs:List α}{k:Int}{v:α}(h0:0<=k)(h:xs[k.toNat]?=some v):atI xs k=some v:=by
 have ek:k=((k.toNat:Nat):Int):=by omega
 rw[ek];exact nB h
theorem Fun.okW{P:Program}{w:World}{K:PySem.W.Frag}{mg:Str->Option Value}{base:Heap}{x qual:Str}{st:Stmt}{f:Addr}{fd:FuncData}{N ps:List Str}{k:Nat}{sp:Sp}(F:Fun K x qual st f fd)(S:aN N ps (ay st))(len:∀vs H Q E,sp vs H Q E->vs.length=ps.length)
  (hbody:∀(cdv:Value) (A:Around) (outer:List Env) (s:Shared) (H:Hp) (vs:List V) (Q:VK) (E:XK),gB k (A.deeper (envOfC qual (ay st) s.heap.objs.size f cdv))->sp vs H Q E->
   ∃t,WSs (um CX0 P w K mg base N qual (ay st) f cdv A outer s H E).nox (d8 st) t/\t { nx:=fun _ H'=>Q .non H',rt:=Q } (jH N vs) H):lL P w K mg base CX0 (k+1) f fd ps sp:=
 F.ok S len fun cdv A outer s H vs Q E hr h=>let ⟨t,a,b⟩:=hbody cdv A outer s H vs Q E hr h;⟨t,a.h,b⟩
def vv(env:Env):List (Str×Addr)->Prop
 |[]=>True
 |p::r=>env.cells.lookup p.1=some p.2/\vv env r
theorem vv.look{env:Env}:∀{cl:List (Str×Addr)} {y:Str} {c:Addr},vv env cl->cl.lookup y=some c->env.cells.lookup y=some c
 |[],_,_,_,h=>by simp at h
 |(n,d)::r,y,c,a,h=>by
  obtain⟨a1,a2⟩:=a
  rw[List.lookup_cons]at h
  by_cases e:(y == n)=true
  ·rw[e]at h
   have e':y=n:=by simpa using e
   subst e'
   cases h
   exact a1
  ·have e':(y == n)=false:=by simpa using e
   rw[e']at h
   exact vv.look a2 h
abbrev cxC(X:Cx)(Nc:List Str)(scope:Scope)(cl:List (Str×Addr))(s3:Shared)(H3:Hp)(fp:List Addr):Cx where
 prog:=X.prog
 w:=X.w
 K:=X.K
 mg:=X.mg
 base:=X.base
 A:=X.A
 N:=Nc
 s₀:=s3
 H₀:=H3
 env:=compEnvC scope cl s3.heap.objs.size X.env
 outer:=X.stack
 stack:=X.stack
 ex:=fp
 fn:=fun _=>false
 calm:=X.calm
 pn:=[]
 xe:=fun _ _=>False
def stC(n:Nat)(caps:List Nat)(σ:L2.St):L2.St:=List.replicate n none++caps.map fun i=>(σ[i]?).getD none
def BU(wi:TI)(g:TG)(te:TE)(n:Nat)(caps:List Nat):TE:=fun σ H Q=>wi σ H fun J H1=>∀l,H1 l=none->∃W:Nat->Nat->L2.St->Hp->Prop,(∃m,W 0 m (stC n caps σ) (upd H1 l (.lst [])))/\
 ∀i m σ' H2,W i m σ' H2->(J.stop i H2/\Q (.ref l) H2)\/(J.go i H2/\∃N:L2.St->Hp->Prop,(∀σ'' H',N σ'' H'->∃m',m'<m/\W (i+1) m' σ'' H')/\
  ∀x H3,J.yld i H2 x H3->g x σ' H3 fun σ2 H4=>te σ2 H4 fun v H5=>∃ys,H5 l=some (.lst ys)/\ys.length<sizeLine/\N σ2 (upd H5 l (.lst (ys++[v]))))
theorem rh{prog:Program}{w:World}{A:Around}{R:Result->Shared->Prop}{s:Shared}{elt target iter:Expr}{scope:Scope}{pos:Pos}{it acc:Value}{env:Env}(I:Nat->Shared->Prop)
  (turn:∀n s,I n s->wpAny (model prog w) A (pyNext it) (fun r s₁=>match r with
   |none=>R (.ok .next) s₁
   | some v=>wpAny (model prog w) A (letOwnedTupleGo target it v) (fun _ s₁'=>wpAny (model prog w) A (assign target env v) (fun _ s₂=>wpAny (model prog w) A (eval elt env) (fun x s₃=>
     wpAny (model prog w) A (call (.builtin "list.append") [acc,x]) (fun _ s₄=>∃m,m<n/\I m s₄) (fun _ _=>False) s₃)
     (fun _ _=>False) s₂) (fun _ _=>False) s₁') (fun _ _=>False) s₁) (fun _ _=>False) s)
  (n:Nat) (h:I n s) :
  codeAny (model prog w) A (.compLoop (.ListComp elt [⟨target,iter,[],0⟩] scope pos) 0 it acc env) R s:=by
 refine codeAny_loop rfl I (fun n s hI=>?_) n h
 show wpAny _ _ ((compTurn (.ListComp elt [⟨target,iter,[],0⟩] scope pos) 0 it acc env).onRaise (fun x=>do noteFrame x env;theTreesLotGoes x)) _ _ s
 refine wpAny_noted ?_
 rw[compTurn_list1]
 refine wpAny_bind (wpAny_standAt (wpAny_bind (wpAny_mono (turn n s hI) (fun r s₁ h₁=>?_) fun _ _ h'=>h'.elim)))
 cases r with
 |none=>exact wpAny_pure h₁
 |some v=>
  refine wpAny_bind (wpAny_mono h₁ (fun _ s₁' h₁'=>?_) fun _ _ h'=>h'.elim)
  exact wpAny_bind (wpAny_mono h₁' (fun _ s₂ h₂=>wpAny_bind (wpAny_bind (wpAny_mono h₂ (fun x s₃ h₃=>wpAny_bind (wpAny_mono h₃
   (fun _ s₄ h₄=>wpAny_pure (wpAny_pure ⟨rfl,h₄⟩)) fun _ _ h'=>h'.elim)) fun _ _ h'=>h'.elim))) fun _ _ h'=>h'.elim)
section
variable{X:Cx}{pins:List (Addr×Obj)}{σ:L2.St}{H:Hp}{s:Shared}{Nc capN:List Str}{scope:Scope}{cl:List (Str×Addr)}{fp:List Addr}{n:Nat}{caps:List Nat}{tg iter elt:Expr}{pos:Pos}{wi:TI}{g:TG}{te:TE}
def Cap(X:Cx)(scope:Scope)(cl:List (Str×Addr))(i:Nat)(y:Str):Prop:=X.N[i]?=some y/\X.env.scope.names.lookup y=some .cell/\(relabel scope X.env).names.lookup y=some .cell/\∃c,cl.lookup y=some c
theorem Inv.comp{h1:Heap}{t':Nat}(I:Inv X pins σ H s)(hc:X.calm=true)(f2:∀b∈fp,vo X pins H b)(fo:∀b∈fp,b<s.heap.objs.size)(hkind:scope.kind=.function)(hcl:vv X.env cl)
  (hhas:((relabel scope X.env).names.all fun p=>!(p.2 == .cell||p.2 == .free)||(cl.lookup p.1).isSome)=true)
  (hcap:Paired (Cap X scope cl) caps capN) (tn:List Str) (hN:Nc=tn++capN) (hn:tn.length=n)
  (hns:h1.Ns s.heap.objs.size (fun _=>none)) (hk:∀b o,s.heap.get? b=some o->h1.get? b=some o) :
  Inv (cxC X Nc scope cl s H fp) [] (stC n caps σ) H { s with heap:=h1,toks:=t' }:=by
 have lkc:∀y c,cl.lookup y=some c->X.env.cells.lookup y=some c:=fun y c e=>hcl.look e
 refine⟨⟨I.ok.mod,?_,I.ok.glob,I.ok.blt,Nat.le_refl _,fun x y c a b=>I.ok.inj x y c (lkc _ _ a) (lkc _ _ b),fun x hx=>?_,fun x c z=>(nomatch z),I.ok.hd,I.ok.frames,.inl rfl,fun b hb=>⟨Nat.ne_of_lt (fo b hb),fun x c e=>(f2 b hb).2.2.2.2.1 x c (lkc _ _ e)⟩,I.bs,Nat.le_trans I.ok.bsz I.sz,
  fun b o e hb=>?_,fun b hb z=>?_,I.stack,I.stkFree⟩,rfl,I.bare,Un.kept hk,⟨_,hns,fun i y v h1' h2 h3=>?_⟩,fun y c e=>?_,I.hok.fresh (Nat.le_refl _),fun y c e=>I.freeC y c (lkc _ _ e),fun p hp=>(by simp at hp),I.hok.kept hk,?_⟩
 ·exact hkind
 ·have hx':(relabel scope X.env).names.lookup x=some .cell\/(relabel scope X.env).names.lookup x=some .free:=hx
  have mem:∀{k},(relabel scope X.env).names.lookup x=some k->(x,k)∈(relabel scope X.env).names:=fun{k} e=>by
   generalize (relabel scope X.env).names=L at e
   induction L with
   |nil=>simp at e
   |cons p r ih=>
    obtain⟨a,b⟩:=p
    rw[List.lookup_cons]at e
    by_cases q:(x == a)=true
    ·rw[q]at e;cases e
     have:x=a:=by simpa using q
     subst this;exact List.mem_cons_self
    ·rw[show(x == a)=false by simpa using q]at e
     exact List.mem_cons_of_mem _ (ih e)
  have fin:∀{k},(k=NameKind.cell\/k=.free)->(relabel scope X.env).names.lookup x=some k->∃c,cl.lookup x=some c:=fun{k} hk' e=>by
   have:=List.all_eq_true.mp hhas _ (mem e)
   dsimp only at this
   have q:(cl.lookup x).isSome=true:=by
    rcases hk' with z|z<;>subst z<;>simpa using this
   exact Option.isSome_iff_exists.mp q
  rcases hx' with e|e
  ·exact fin (.inl rfl) e
  ·exact fin (.inr rfl) e
 ·rcases(f2 b hb).2.2.2.1 with z|z
  ·exact I.ok.noex b o e z
  ·exact absurd (Nat.lt_of_lt_of_le (Heap.lt_size e) I.ok.bsz) (Nat.not_lt.mpr z)
 ·rcases List.mem_cons.mp (I.stkSub b z)with q|q
  ·exact(f2 b hb).2.1 q
  ·exact(f2 b hb).2.2.1 q
 ·obtain⟨m,hm,hl⟩:=I.loc
  have h2':(stC n caps σ)[i]?=some (some v):=h2
  have h1'':Nc[i]?=some y:=h1'
  unfold stC at h2'
  by_cases hi:i<n
  ·rw[List.getElem?_append_left (by simpa using hi),List.getElem?_replicate,if_pos hi]at h2'
   cases h2'
  ·rw[List.getElem?_append_right (by simp;omega),List.length_replicate,List.getElem?_map]at h2'
   rw[hN,List.getElem?_append_right (by omega),hn]at h1''
   have key:∀(j:Nat) {caps:List Nat} {capN:List Str},Paired (Cap X scope cl) caps capN->capN[j]?=some y->(Option.map (fun i=>(σ[i]?).getD none) caps[j]?)=some (some v)->∃k,Cap X scope cl k y/\σ[k]?=some (some v):=by
    intro j
    induction j with
    |zero=>
     intro caps capN P e1 e2
     cases P with
     |nil=>simp at e1
     |@cons a b l r p t=>
      simp at e1 e2
      subst e1
      cases q:σ[a]? with
      |none=>rw[q]at e2;simp at e2
      |some w'=>rw[q]at e2;simp at e2;subst e2;exact⟨a,p,q⟩
    |succ j ih=>
     intro caps capN P e1 e2
     cases P with
     |nil=>simp at e1
     |cons p t=>exact ih t (by simpa using e1) (by simpa using e2)
   obtain⟨k,⟨c1,c2,c3,c,c4⟩,e⟩:=key _ hcap h1'' h2'
   obtain⟨u,r,lk⟩:=hl k y v c1 e (.inr (.inl c2))
   refine⟨u,r,.inr ⟨.inl c3,c,c4,?_⟩⟩
   rcases lk with⟨z,_⟩|⟨_,c',e',o,ho,hd⟩
   ·have z':X.env.scope.names.lookup y=some .local:=z
    rw[c2]at z';cases z'
   ·rw[lkc _ _ c4]at e'
    cases e'
    exact⟨o,hk _ _ ho,hd⟩
 ·obtain⟨v,o,ho,hd⟩:=I.cell y c (lkc _ _ e)
  exact⟨v,o,hk _ _ ho,hd⟩
 ·show(stC n caps σ).length=Nc.length
  have pl:caps.length=capN.length:=Paired.length hcap
  unfold stC
  rw[List.length_append,List.length_replicate,List.length_map,hN,List.length_append,hn,pl]
end
theorem Af{X:Cx}{Nc capN tn:List Str}{scope:Scope}{cl:List (Str×Addr)}{n:Nat}{caps:List Nat}{tg iter elt:Expr}{pos:Pos}{wi:TI}{g:TG}{te:TE}
  (hc:X.calm=true) (hi:WI X tg iter wi) (hg:∀s3 H3 fp,WG (cxC X Nc scope cl s3 H3 fp) tg g) (he:∀s3 H3 fp,WE (cxC X Nc scope cl s3 H3 fp) elt te)
  (hclos:closureFor scope X.env=pure cl) (hkind:scope.kind=.function) (hnl:∀x∈scope.names,x.2=.local->scope.names.lookup x.1=some .local) (hcell:∀x∈scope.names,x.2≠.cell)
  (hcl:vv X.env cl) (hhas:((relabel scope X.env).names.all fun p=>!(p.2 == .cell||p.2 == .free)||(cl.lookup p.1).isSome)=true)
  (hcap:Paired (Cap X scope cl) caps capN) (hN:Nc=tn++capN) (hn:tn.length=n)
  {use:Option (Value->Sem Unit)} {pins:List (Addr×Obj)} {σ:L2.St} {H:Hp} {s:Shared} {Q:VK} {Qf:Value->Shared->Prop} (I:Inv X pins σ H s) (h:BU wi g te n caps σ H Q)
  (hend:∀(D C:Addr) (s6:Shared) (H5:Hp) (m:Str->Option Value),Inv X pins σ H5 s6->s6.heap.Ns C m->H5 C=none->C≠X.env.locals->X.s₀.heap.objs.size<=C->(∀x c,X.env.cells.lookup x=some c->c≠C)->(∀p∈X.pn++pins,p.1≠C)->Q (.ref D) H5->compPost (model X.prog X.w) X.A X.xe use Qf (.ref D) C (.ok .next) s6)
  (hs:∀x,foldedSetIterable iter X.env x=pure x) :
  wpAny (model X.prog X.w) X.A (comprehension (.ListComp elt [⟨tg,iter,[],0⟩] scope pos) scope X.env (firstIterPos [⟨tg,iter,[],0⟩] pos) (newList []) (firstAsync [⟨tg,iter,[],0⟩]) (firstIter [⟨tg,iter,[],0⟩] X.env) use) Qf X.xe s:=by
 refine wpAny_comprehension_free (use:=use) (g:=⟨tg,iter,[],0⟩) (gs:=[]) rfl hs hclos hkind hnl (thn (hi.h pins s σ H _ I h) fun v s1 h1=>thn h1 fun itv s2 h2=>?_)
 obtain⟨it,fp,tnn,J,H2,rfl,I2,T,st2,f2,hW⟩:=h2
 have hD:=I2.fresh
 obtain⟨W,⟨m0,w0⟩,turn⟩:=hW _ hD
 refine wpAny_newObj_type (wpAny_newFunctionEnv hcell (by intro y hy;simp at hy) (fun h₁ hns₁ hsb₁=>?_) hkind)
 dsimp only at hns₁ hsb₁ ⊢
 have I3:Inv X pins σ (upd H2 s2.heap.objs.size (.lst [])) { s2 with heap:=s2.heap.push { cls:=.type "list",dict:=none,data:=.seq ([]:List Value).toArray },toks:=s2.toks }:=I2.lnew (its:=[]) .nil (Nat.zero_le _)
 generalize hs3:({ s2 with heap:=s2.heap.push { cls:=.type "list",dict:=none,data:=.seq ([]:List Value).toArray },toks:=s2.toks }:Shared)=s3 at I3
 have es3:s3.heap=s2.heap.push { cls:=.type "list",dict:=none,data:=.seq ([]:List Value).toArray }:=by rw[<-hs3]
 generalize hDD:s2.heap.objs.size=D at *
 have kept:∀b o,s3.heap.get? b=some o->h₁.get? b=some o:=fun b o e=>by
  have lt:=Heap.lt_size e
  rw[es3]at lt e
  exact hsb₁.extBut b o (Nat.ne_of_lt lt) (Heap.get?_push_of_some _ e)
 have old:∀b o,s2.heap.get? b=some o->s3.heap.get? b=some o:=fun b o e=>by rw[es3];exact Heap.get?_push_of_some _ e
 have ltD:∀b∈fp,b<D:=fun b hb=>by
  obtain⟨o,e,_⟩:=T.obj 0 _ st2 b hb
  rw[<-hDD];exact Heap.lt_size e
 have fo:∀b∈fp,b<s3.heap.objs.size:=fun b hb=>by
  obtain⟨o,e,_⟩:=T.obj 0 _ st2 b hb
  exact Heap.lt_size (old _ _ e)
 have f3:∀b∈fp,vo X pins (upd H2 D (.lst [])) b:=fun b hb=>by
  refine⟨?_,(f2 b hb).2⟩
  rw[bH (Nat.ne_of_lt (ltD b hb))]
  exact(f2 b hb).1
 rw[<-es3]at hns₁ hsb₁ ⊢
 have Ic:=fun t'=>Inv.comp (h1:=h₁) (t':=t') (Nc:=Nc) (n:=n) I3 hc f3 fo hkind hcl hhas hcap tn hN hn hns₁ kept
 have stat:∀{H':Hp},(∀b∈fp,H' b=none)->∀b∈fp,vo (cxC X Nc scope cl s3 (upd H2 D (.lst [])) fp) [] H' b:=fun hn' b hb=>by
  refine⟨hn' b hb,Nat.ne_of_lt (fo b hb),fun z=>?_,.inl hb,fun x c e=>(f2 b hb).2.2.2.2.1 x c (hcl.look e),fun p hp=>(by simp at hp)⟩
  rcases List.mem_cons.mp (I3.stkSub b z)with q|q
  ·exact(f2 b hb).2.1 q
  ·exact(f2 b hb).2.2.1 q
 have loop:∀s4:Shared,(∃t',s4={ s3 with heap:=h₁,toks:=t' })->codeAny (model X.prog X.w) X.A (.compLoop (.ListComp elt [⟨tg,iter,[],0⟩] scope pos) 0 (.ref it) (.ref D) (compEnvC scope cl s3.heap.objs.size X.env))
   (compPost (model X.prog X.w) X.A X.xe use Qf (.ref D) s3.heap.objs.size) s4:=by
  rintro s4 ⟨t',rfl⟩
  refine rh (fun n' s'=>∃i σ' H',Inv (cxC X Nc scope cl s3 (upd H2 D (.lst [])) fp) [] σ' H' s'/\tnn i s'.heap/\(∀b∈fp,H' b=none)/\W i n' σ' H') ?_ m0
   ⟨0,_,_,Ic t',T.keep 0 _ _ st2 fun b hb o e=>kept _ _ (old _ _ e),fun b hb=>(f3 b hb).1,w0⟩
  rintro n' s5 ⟨i,σ5,H5,I5,st5,fr5,w5⟩
  rcases turn i n' σ5 H5 w5 with⟨stop,qn⟩|⟨go,N,hN',step⟩
  ·refine thn (T.done (cxC X Nc scope cl s3 (upd H2 D (.lst [])) fp) rfl rfl rfl hc i [] s5 σ5 H5 (fun _ _=>False) I5 (stat fr5) st5 stop) fun r s6 ⟨hr,I6⟩=>?_
   subst hr
   obtain⟨m,hm,_⟩:=I6.loc
   have I7:Inv X pins σ H5 s6:=Inv.call' (ch:=fp) I3 I6.os I6.base I6.hok I6.bare fun b hb=>⟨(f2 b hb).2.2.2.1,(f2 b hb).2.1,(f2 b hb).2.2.2.2.1,(f2 b hb).2.2.2.2.2⟩
   exact hend D _ s6 H5 m I7 hm I6.free (Ne.symm (Nat.ne_of_lt I3.lt)) I3.sz (fun x c e=>by
     obtain⟨v',o,ho,_⟩:=I3.cell x c e
     exact Nat.ne_of_lt (Heap.lt_size ho)) (fun p hp=>Nat.ne_of_lt (Heap.lt_size (I3.pin p hp).1)) qn
  ·refine thn (T.item (cxC X Nc scope cl s3 (upd H2 D (.lst [])) fp) rfl rfl rfl hc i [] s5 σ5 H5 (fun _ _=>False) I5 (stat fr5) st5 go) fun r s6 ⟨u,hr,h6⟩=>?_
   subst hr
   refine thn h6 fun _ s7 hz=>?_
   obtain⟨x,H7,I7,r7,y7,st7,fr7⟩:=hz
   have I7':=I7.pinned (stat fr7) (T.obj _ _ st7)
   refine thn ((hg s3 (upd H2 D (.lst [])) fp).h _ s7 σ5 H7 x u _ I7' r7 (step x H7 y7)) fun _ s8 hz=>?_
   obtain⟨σ8,H8,I8,q8⟩:=hz
   refine thn ((he s3 (upd H2 D (.lst [])) fp).h _ s8 σ8 H8 _ I8 q8) fun v9 s9 hz=>?_
   obtain⟨x9,H9,I9,r9,ys,hy,hlt,q9⟩:=hz
   refine thn (mV (X:=cxC X Nc scope cl s3 (upd H2 D (.lst [])) fp) _ s9 σ8 H9 (.ref D) [x9] (.ref D) [v9] (fun _ H'=>N σ8 H') I9 rfl (.cons r9 .nil) ⟨D,ys,x9,rfl,rfl,hy,hlt,q9⟩) fun _ s10 hz=>?_
   obtain⟨_,H10,I10,_,q10⟩:=hz
   obtain⟨m',hm,w10⟩:=hN' σ8 H10 q10
   refine⟨m',hm,i+1,σ8,H10,I10.unpinned,T.keep _ _ _ st7 fun b hb o e=>(I10.pin (b,o) (List.mem_append_right _ (List.mem_append_right _ (fA hb e)))).1,fun b hb=>?_,w10⟩
   obtain⟨o,e,d⟩:=T.obj _ _ st7 b hb
   exact(I10.pin (b,o) (List.mem_append_right _ (List.mem_append_right _ (fA hb e)))).2.1
 have e4:∀t',({ s2 with heap:=h₁,toks:=t' }:Shared)={ s3 with heap:=h₁,toks:=t' }:=fun t'=>by rw[<-hs3]
 refine codeAny_compStart_list (loop _ ⟨_,e4 _⟩) (T.self _ 0 _ _ _ (T.keep 0 _ _ st2 fun b hb o e=>kept _ _ (old _ _ e)) (loop _ ⟨_,e4 _⟩))
theorem yH{X:Cx}{Nc capN tn:List Str}{scope:Scope}{cl:List (Str×Addr)}{n:Nat}{caps:List Nat}{tg iter elt:Expr}{pos:Pos}{wi:TI}{g:TG}{te:TE}
  (hc:X.calm=true) (hi:WI X tg iter wi) (hg:∀s3 H3 fp,WG (cxC X Nc scope cl s3 H3 fp) tg g) (he:∀s3 H3 fp,WE (cxC X Nc scope cl s3 H3 fp) elt te)
  (hclos:closureFor scope X.env=pure cl) (hkind:scope.kind=.function) (hnl:∀x∈scope.names,x.2=.local->scope.names.lookup x.1=some .local) (hcell:∀x∈scope.names,x.2≠.cell)
  (hcl:vv X.env cl) (hhas:((relabel scope X.env).names.all fun p=>!(p.2 == .cell||p.2 == .free)||(cl.lookup p.1).isSome)=true)
  (hcap:Paired (Cap X scope cl) caps capN) (hN:Nc=tn++capN) (hn:tn.length=n)
  (hs:∀x,foldedSetIterable iter X.env x=pure x:=by intro _;rfl) :
  WE X (.ListComp elt [⟨tg,iter,[],0⟩] scope pos) (BU wi g te n caps):=by
 constructor
 intro pins s σ H Q I h
 rw[eval_ListComp]
 refine Af hc hi hg he hclos hkind hnl hcell hcl hhas hcap hN hn I h (fun D C s6 H5 m I7 hm fr nl sz cn pn qn=>⟨m,hm,fun h' hs'=>?_⟩) hs
 exact⟨.ref D,H5,I7.turned (t':=s6.toks) (it:=C) (fun b o hb e=>hs'.extBut b o hb e) fr nl (.inr sz) cn pn,rfl,qn⟩
open PySem.AutoSeq1 (wpAny_loadPart')
theorem Ag{prog:Program}{w:World}{A:Around}{E:Value->Shared->Prop}{s:Shared}{t b:Addr}{vs ws:List Value}{Q:Value->Shared->Prop}(ht:IsTup s.heap t vs.toArray)(hb:IsTup s.heap b ws.toArray)(hv:vs=[])
  (h1:Q (.ref b) s):wpAny (model prog w) A (binaryOp .Add (.ref t) (.ref b)) Q E s:=by
 obtain⟨⟨cls,dd,data,sl⟩,ho,hc,n,hd⟩:=id ht
 obtain⟨⟨cls2,dd2,data2,sl2⟩,ho2,hc2,n2,hd2⟩:=id hb
 simp only at hc hd hc2 hd2
 subst hc hd hc2 hd2
 exact concat_meets ⟨_,ho,rfl⟩ ⟨_,ho2,rfl⟩ noFill_tuple_add seq_tuple_add PySem.F.slot_tuple_add PySem.F.entry_tuple_add (PySem.F.args_tuple_add_2 _ _)
   (tuple_addW0 t b vs.toArray ws.toArray n n2 dd dd2 sl sl2 (by simp[hv])) ⟨ho,ho2,h1⟩
theorem lQ:fillsNumberSlot (.type "tuple") "mul"=pure false:=
 PySem.fillsNumberSlot_seq (id:="tuple.__mul__") (r:=some (.builtin "tuple.__rmul__")) F.slot_tuple_mul.lookup (by decide +kernel) F.slot_tuple_rmul.lookup (by decide +kernel)
theorem qv:seqRepeat? (.type "tuple")=pure (some (.builtin "tuple.__mul__")):=by
 unfold seqRepeat?
 rw[PySem.seqSlot_of (T:="tuple") (name:="__mul__") (id:="tuple.__mul__") F.slot_tuple_mul.lookup (by decide +kernel),PySem.seqSlot_of (T:="tuple") (name:="__rmul__") (id:="tuple.__rmul__") F.slot_tuple_rmul.lookup (by decide +kernel)]
 rfl
theorem nN(a:Int)(t:Tok)(l:Addr)(items:Array Value)(n:Nat)(dd:Option Addr)(sl:Array (Option Value)) :
  Meets (Builtin.«int.__rmul__» ⟨[.int a t,.ref l],[]⟩) (fun _ R s=>s.heap.get? l=some { cls:=.type "tuple",dict:=dd,data:=.seq items n,slots:=sl }/\R (.ok (.ret Value.notImplemented)) s):=
 .of_wp fun prog w A R s h=>by obtain⟨hp,g,d,tk,os⟩:=s;obtain⟨hl,h⟩:=h;wp_walk using wpAny_loadPart' hl;exact⟨_,rfl,h⟩
theorem rK(l:Addr)(items:Array Value)(n:Nat)(dd:Option Addr)(sl:Array (Option Value))(t:Tok) :
  Meets (Builtin.«tuple.__mul__» ⟨[.ref l,.int 1 t],[]⟩) (fun _ R s=>s.heap.get? l=some { cls:=.type "tuple",dict:=dd,data:=.seq items n,slots:=sl }/\R (.ok (.ret (Value.ref l))) s):=
 .of_wp fun prog w A R s h=>by obtain⟨hp,g,d,tk,os⟩:=s;obtain⟨hl,h⟩:=h;have f1:=AutoSeq1.idx_int;wp_walk using wpAny_loadPart' hl;exact⟨_,rfl,h⟩
theorem rJ(l:Addr)(items:Array Value)(n:Nat)(dd:Option Addr)(sl:Array (Option Value))(k:Int)(t:Tok)(hc0:¬(decide (k < -2^63)||decide (k≥2^63))=true)(hc1:¬(items.isEmpty||k == 1)=true)(hc2:¬(decide (k<=0)||items.isEmpty)=true)
  (hc3:¬((items.size:Int)*k>(2^63-1) / 8)) (hc4:¬Builtin.Tuple.tupleTooMany ((items.size:Int)*k)=true) (hz:(List.foldl (fun x1 x2=>x1++x2) #[] (List.replicate k.toNat items)).size<=sizeLine) :
  Meets (Builtin.«tuple.__mul__» ⟨[.ref l,.int k t],[]⟩) (fun _ R s=>s.heap.get? l=some { cls:=.type "tuple",dict:=dd,data:=.seq items n,slots:=sl }/\
   R (.ok (.ret (Value.ref s.heap.objs.size))) { s with heap:=s.heap.push { cls:=Value.type "tuple",data:=Data.seq (List.foldl (fun x1 x2=>x1++x2) #[] (List.replicate k.toNat items)) } }):=
 .of_wp fun prog w A R s h=>by
  obtain⟨hp,g,d,tk,os⟩:=s
  obtain⟨hl,h⟩:=h
  have f1:=AutoSeq1.idx_int
  have g0:(decide (k < -2^63)||decide (k≥2^63))=false:=by simpa using hc0
  have g1:(items.isEmpty||k == 1)=false:=by simpa using hc1
  have g2:(decide (k<=0)||items.isEmpty)=false:=by simpa using hc2
  have g4:Builtin.Tuple.tupleTooMany ((items.size:Int)*k)=false:=by simpa using hc4
  wp_walk using wpAny_loadPart' hl
  refine PySem.W.KFB.if_not g0 ?_
  wp_walk using wpAny_loadPart' hl
  try (refine PySem.W.KFB.if_not g1 ?_;wp_walk using wpAny_loadPart' hl)
  try (refine PySem.W.KFB.if_not g2 ?_;wp_walk using wpAny_loadPart' hl)
  try (rw[if_neg hc3];wp_walk using wpAny_loadPart' hl)
  try (refine PySem.W.KFB.if_not g4 ?_;wp_walk using wpAny_loadPart' hl)
  try (refine wpAny_ite_false (decide_eq_false (Nat.not_lt.mpr hz)) ?_;wp_walk)
  exact⟨_,rfl,h⟩
structure Ks(H:Hp)(p xs:Addr):Prop where
 ex:∃(ns:List Int) (at' cur:Int),H p=some (.lst [.ref xs,.int at',.int cur])/\H xs=some (.lst (ns.map V.int))/\xs≠p/\0<=at'/\0<=cur
def AA(K:PySem.W.Frag):Sp:=fun vs H Q _=>∃(a:Addr) (ns:List Int),vs=[.ref a]/\SqL K H a (ns.map V.int)/\∀(q xs:Addr) (H':Hp),sP H H'->Ks H' q xs->H q=none->Q (.ref q) H'
theorem wR{m:Int}(h0:0<=m)(h:m<2^60):m.natAbs.log2<9000:=by
 have:=uS (n:=m.natAbs) (by omega)
 omega
end OG
namespace OP
open PySem PySem.Spec PyProof.Rows L2 OG
inductive U where
 |non|bl (b:Bool)|int (i:Int)|str (x:Str)|tup (us:List U)|ref (l:Nat)|kl (ns:List Int)
structure Cl where
 C:Addr
 ns:List Str
inductive O where
 |lst (us:List U)|dic (kvs:List (Key×U))|ins (c:Cl) (fs:List (Option U))|fdc (ep:Nat) (kvs:List (Key×U))|dit (kvs:List (List Key×U))|fdt (ep:Nat) (kvs:List (List Key×U))|dnt (kvs:List (List (List Int)×U))|fdn (ep:Nat) (kvs:List (List (List Int)×U))
abbrev Sto:=List O
abbrev Rho:=List (Option U)
def KL(K:PySem.W.Frag)(H:Hp)(a:Addr)(ns:List Int):Prop:=
 (∃o,H a=some (.frz o (.lst (ns.map V.int))))\/
  ∃(o:Obj) (its:Array Value) (n:Nat),K.lookup a=some o/\o.cls=.type "list"/\o.dict=none/\o.data=.seq its n/\its.size<=sizeLine/\cg (ns.map V.int) its.toList
theorem KL.sq{K:PySem.W.Frag}{H:Hp}{a:Addr}{ns:List Int}(h:KL K H a ns):SqL K H a (ns.map V.int):=by
 rcases h with h|h
 ·exact .inl (.inr h)
 ·exact .inr h
mutual
def Is(K:PySem.W.Frag)(m:List Addr)(H:Hp):V->U->Prop
 |v,.non=>v=.non
 |v,.bl b=>v=.bl b
 |v,.int i=>v=.int i
 |v,.str x=>v=.str x
 |v,.tup us=>∃a xs,v=.ref a/\SqT K H a xs/\IsL K m H xs us
 |v,.ref l=>∃a,m[l]?=some a/\v=.ref a
 |v,.kl ns=>∃a,v=.ref a/\KL K H a ns
def IsL(K:PySem.W.Frag)(m:List Addr)(H:Hp):List V->List U->Prop
 |xs,[]=>xs=[]
 |xs,u::us=>∃x r,xs=x::r/\Is K m H x u/\IsL K m H r us
end
structure Ar(K:PySem.W.Frag)(H H':Hp):Prop where
 t:∀a xs,SqT K H a xs->SqT K H' a xs
 l:∀a ns,KL K H a ns->KL K H' a ns
structure Ext(K:PySem.W.Frag)(m:List Addr)(H:Hp)(m':List Addr)(H':Hp):Prop where
 pre:∃t,m'=m++t
 keep:Ar K H H'
section
variable{K:PySem.W.Frag}{m m' m'':List Addr}{H H' H'':Hp}{v x:V}{u:U}{xs ys:List V}{us ws:List U}{a q:Addr}{o:HO}
theorem Ext.refl:Ext K m H m H:=⟨⟨[],by simp⟩,fun _ _ h=>h,fun _ _ h=>h⟩
theorem Ext.trans(a:Ext K m H m' H')(b:Ext K m' H' m'' H''):Ext K m H m'' H'':=by
 obtain⟨t,rfl⟩:=a.pre
 obtain⟨t',rfl⟩:=b.pre
 exact⟨⟨t++t',by simp⟩,fun c ys h=>b.keep.t c ys (a.keep.t c ys h),fun c ys h=>b.keep.l c ys (a.keep.l c ys h)⟩
theorem Ext.of(k:Ar K H H'):Ext K m H m H':=⟨⟨[],by simp⟩,k⟩
theorem Ext.new(k:Ar K H H'):Ext K m H (m++[q]) H':=⟨⟨[q],rfl⟩,k⟩
theorem Ext.get{l:Nat}(e:Ext K m H m' H')(h:m[l]?=some a):m'[l]?=some a:=by
 obtain⟨t,rfl⟩:=e.pre
 rw[List.getElem?_append_left (List.getElem?_eq_some_iff.mp h).1]
 exact h
mutual
theorem Is.mono(e:Ext K m H m' H'):∀{v:V} {u:U},Is K m H v u->Is K m' H' v u
 |v,.non,h=>by unfold Is at h ⊢;exact h
 |v,.bl b,h=>by unfold Is at h ⊢;exact h
 |v,.int i,h=>by unfold Is at h ⊢;exact h
 |v,.str x,h=>by unfold Is at h ⊢;exact h
 |v,.tup us,h=>by
  unfold Is at h ⊢
  obtain⟨a,xs,e1,k,l⟩:=h
  exact⟨a,xs,e1,e.keep.t _ _ k,IsL.mono e l⟩
 |v,.ref l,h=>by
  unfold Is at h ⊢
  obtain⟨a,k,e1⟩:=h
  exact⟨a,e.get k,e1⟩
 |v,.kl ns,h=>by
  unfold Is at h ⊢
  obtain⟨a,e1,k⟩:=h
  exact⟨a,e1,e.keep.l _ _ k⟩
theorem IsL.mono(e:Ext K m H m' H'):∀{xs:List V} {us:List U},IsL K m H xs us->IsL K m' H' xs us
 |xs,[],h=>by unfold IsL at h ⊢;exact h
 |xs,u::us,h=>by
  unfold IsL at h ⊢
  obtain⟨x,r,e1,k,l⟩:=h
  exact⟨x,r,e1,Is.mono e k,IsL.mono e l⟩
end
theorem Is.int_{i:Int}:Is K m H (.int i) (.int i):=by unfold Is;rfl
theorem Is.bl_{b:Bool}:Is K m H (.bl b) (.bl b):=by unfold Is;rfl
theorem Is.non_:Is K m H .non .non:=by unfold Is;rfl
theorem Is.str_{x:Str}:Is K m H (.str x) (.str x):=by unfold Is;rfl
theorem Is.of_int{i:Int}(h:Is K m H v (.int i)):v=.int i:=by unfold Is at h;exact h
theorem Is.of_bl{b:Bool}(h:Is K m H v (.bl b)):v=.bl b:=by unfold Is at h;exact h
theorem Is.of_non(h:Is K m H v .non):v=.non:=by unfold Is at h;exact h
theorem Is.of_str{x:Str}(h:Is K m H v (.str x)):v=.str x:=by unfold Is at h;exact h
theorem Is.of_tup(h:Is K m H v (.tup us)):∃a xs,v=.ref a/\SqT K H a xs/\IsL K m H xs us:=by unfold Is at h;exact h
theorem Is.of_ref{l:Nat}(h:Is K m H v (.ref l)):∃a,m[l]?=some a/\v=.ref a:=by unfold Is at h;exact h
theorem Is.of_kl{ns:List Int}(h:Is K m H v (.kl ns)):∃a,v=.ref a/\KL K H a ns:=by unfold Is at h;exact h
theorem Is.tup_(e:SqT K H a xs)(h:IsL K m H xs us):Is K m H (.ref a) (.tup us):=by unfold Is;exact⟨a,xs,rfl,e,h⟩
theorem Is.ref_{l:Nat}(e:m[l]?=some a):Is K m H (.ref a) (.ref l):=by unfold Is;exact⟨a,e,rfl⟩
theorem IsL.nil_:IsL K m H [] []:=by unfold IsL;rfl
theorem IsL.cons_(h:Is K m H x u)(t:IsL K m H xs us):IsL K m H (x::xs) (u::us):=by unfold IsL;exact⟨x,xs,rfl,h,t⟩
theorem IsL.of_nil(h:IsL K m H xs []):xs=[]:=by unfold IsL at h;exact h
theorem IsL.of_cons(h:IsL K m H xs (u::us)):∃x r,xs=x::r/\Is K m H x u/\IsL K m H r us:=by unfold IsL at h;exact h
theorem IsL.length:∀{xs:List V} {us:List U},IsL K m H xs us->xs.length=us.length
 |xs,[],h=>by rw[h.of_nil];rfl
 |xs,d::ds,h=>by
  obtain⟨x,r,rfl,_,t⟩:=h.of_cons
  rw[List.length_cons,List.length_cons,IsL.length t]
theorem IsL.getD:∀{xs:List V} {us:List U} {i:Nat} {u:U},IsL K m H xs us->us[i]?=some u->∃x,xs[i]?=some x/\Is K m H x u
 |xs,[],i,x,h,e=>by simp at e
 |xs,d::ds,0,x,h,e=>by
  obtain⟨y,r,rfl,k,t⟩:=h.of_cons
  simp at e;subst e;exact⟨y,by simp,k⟩
 |xs,d::ds,i+1,x,h,e=>by
  obtain⟨y,r,rfl,k,t⟩:=h.of_cons
  obtain⟨d',e1,e2⟩:=IsL.getD (i:=i) (u:=x) t (by simpa using e)
  exact⟨d',by simpa using e1,e2⟩
theorem IsL.append:∀{xs:List V} {us:List U},IsL K m H xs us->IsL K m H ys ws->IsL K m H (xs++ys) (us++ws)
 |xs,[],h,k=>by rw[h.of_nil];exact k
 |xs,d::ds,h,k=>by
  obtain⟨y,r,rfl,z,t⟩:=h.of_cons
  exact .cons_ z (IsL.append t k)
theorem IsL.set:∀{xs:List V} {us:List U} {j:Nat},IsL K m H xs us->Is K m H x u->IsL K m H (xs.set j x) (us.set j u)
 |xs,[],j,h,k=>by rw[h.of_nil];exact .nil_
 |xs,d::ds,0,h,k=>by
  obtain⟨y,r,rfl,z,t⟩:=h.of_cons
  exact .cons_ k t
 |xs,d::ds,j+1,h,k=>by
  obtain⟨y,r,rfl,z,t⟩:=h.of_cons
  exact .cons_ z (IsL.set t k)
theorem IsL.drop:∀{xs:List V} {us:List U} (n:Nat),IsL K m H xs us->IsL K m H (xs.drop n) (us.drop n)
 |xs,us,0,h=>h
 |xs,[],n+1,h=>by rw[h.of_nil];exact .nil_
 |xs,d::ds,n+1,h=>by
  obtain⟨y,r,rfl,z,t⟩:=h.of_cons
  exact IsL.drop n t
theorem IsL.take:∀{xs:List V} {us:List U} (n:Nat),IsL K m H xs us->IsL K m H (xs.take n) (us.take n)
 |xs,us,0,h=>.nil_
 |xs,[],n+1,h=>by rw[h.of_nil];exact .nil_
 |xs,d::ds,n+1,h=>by
  obtain⟨y,r,rfl,z,t⟩:=h.of_cons
  exact .cons_ z (IsL.take n t)
theorem IsL.erase:∀{xs:List V} {us:List U} (n:Nat),IsL K m H xs us->IsL K m H (xs.eraseIdx n) (us.eraseIdx n)
 |xs,[],n,h=>by rw[h.of_nil];exact .nil_
 |xs,d::ds,0,h=>by
  obtain⟨y,r,rfl,z,t⟩:=h.of_cons
  exact t
 |xs,d::ds,n+1,h=>by
  obtain⟨y,r,rfl,z,t⟩:=h.of_cons
  exact .cons_ z (IsL.erase n t)
theorem IsL.rep:∀(n:Nat),IsL K m H xs us->IsL K m H (List.replicate n xs).flatten (List.replicate n us).flatten
 |0,h=>.nil_
 |n+1,h=>by
  rw[List.replicate_succ,List.replicate_succ,List.flatten_cons,List.flatten_cons]
  exact h.append (IsL.rep n h)
theorem t8(h:H a=some o)(nt:∀xs,o≠.tup xs)(nf:∀ob xs,o≠.frz ob (.tup xs))(nl:∀ob xs,o≠.frz ob (.lst xs))(o':HO):Ar K H (upd H a o'):=by
 refine⟨fun b xs q=>?_,fun b ns q=>?_⟩
 ·rcases q with(q|⟨ob,q⟩)|q
  ·have n:b≠a:=fun z=>by subst z;rw[q]at h;cases h;exact nt _ rfl
   exact .inl (.inl (by rw[bH n];exact q))
  ·have n:b≠a:=fun z=>by subst z;rw[q]at h;cases h;exact nf _ _ rfl
   exact .inl (.inr ⟨ob,by rw[bH n];exact q⟩)
  ·exact .inr q
 ·rcases q with⟨ob,q⟩|q
  ·have n:b≠a:=fun z=>by subst z;rw[q]at h;cases h;exact nl _ _ rfl
   exact .inl ⟨ob,by rw[bH n];exact q⟩
  ·exact .inr q
theorem eU(s:sP H H'):Ar K H H':=by
 refine⟨fun b xs q=>?_,fun b ns q=>?_⟩
 ·rcases q with(q|⟨ob,q⟩)|q
  ·exact .inl (.inl (s _ _ q))
  ·exact .inl (.inr ⟨ob,s _ _ q⟩)
  ·exact .inr q
 ·rcases q with⟨ob,q⟩|q
  ·exact .inl ⟨ob,s _ _ q⟩
  ·exact .inr q
theorem cq(h:H q=none)(o':HO):Ar K H (upd H q o'):=eU (dZ h o')
end
abbrev NK:=List (List Int)
def hNK(ks:NK):Int:=reduceHash (Builtin.Tuple.tupleHashOf (ks.map fun k=>reduceHash (Builtin.Tuple.tupleHashOf (k.map hashInt))))
abbrev KN:List ((NK×Addr)×V)->List (NK×Addr×Value)->Prop:=Paired fun p q=>p.1.1=q.1/\p.1.2=q.2.1/\dn p.2 q.2.2
def dNo(a:Addr)(kvs:List ((NK×Addr)×V)):HO:=.ext fun h=>kvs.length<=sizeLine/\(a == sysModules)=false/\∃xs,KN kvs xs/\
 ∃o es ep,h.get? a=some o/\o.ExactDict/\o.data=.dict es ep/\es.toList=(xs.map fun x=>(⟨hNK x.1,.ref x.2.1,x.2.2⟩:DictEntry))/\(xs.map (·.1)).Nodup
def kN(K:PySem.W.Frag)(H:Hp)(b:Addr)(k:NK):Prop:=∃cs:List Addr,SqT K H b (cs.map V.ref)/\Paired (fun(l:List Int) c=>SqT K H c (l.map V.int)) k cs
theorem kN.mono{K:PySem.W.Frag}{H H':Hp}{b:Addr}{k:NK}(e:Ar K H H')(h:kN K H b k):kN K H' b k:=let ⟨cs,p,q⟩:=h;⟨cs,e.t _ _ p,Paired.mapP q fun _ _ z=>e.t _ _ z⟩
def nP(kvs:List ((NK×Addr)×V)):List (NK×V):=kvs.map fun p=>(p.1.1,p.2)
def IsP{κ:Type}(K:PySem.W.Frag)(m:List Addr)(H:Hp)(kvs:List (κ×V))(kus:List (κ×U)):Prop:=kvs.map (·.1)=kus.map (·.1)/\IsL K m H (kvs.map (·.2)) (kus.map (·.2))
def Rf(K:PySem.W.Frag)(m:List Addr)(H:Hp):Option V->Option U->Prop
 |some v,some u=>Is K m H v u
 |none,none=>True
 |_,_=>False
structure InF(K:PySem.W.Frag)(m:List Addr)(H:Hp)(c:Cl)(fs:List (Str×V))(fus:List (Option U)):Prop where
 nd:c.ns.Nodup
 few:c.ns.length<1000
 knd:(fs.map (·.1)).Nodup
 sub:∀x∈fs.map (·.1),x∈c.ns
 len:fus.length=c.ns.length
 at_:∀(i:Nat) (x:Str),c.ns[i]?=some x->Rf K m H (fs.lookup x) ((fus[i]?).join)
theorem Rf.mono{K:PySem.W.Frag}{m m':List Addr}{H H':Hp}{v:Option V}{u:Option U}(e:Ext K m H m' H')(h:Rf K m H v u):Rf K m' H' v u:=by
 cases v with
 |none=>cases u with
  |none=>trivial
  |some u=>exact h.elim
 |some v=>cases u with
  |none=>exact h.elim
  |some u=>exact Is.mono e h
theorem InF.mono{K:PySem.W.Frag}{m m':List Addr}{H H':Hp}{c:Cl}{fs:List (Str×V)}{fus:List (Option U)}(e:Ext K m H m' H')(h:InF K m H c fs fus):InF K m' H' c fs fus:=⟨h.nd,h.few,h.knd,h.sub,h.len,fun i x q=>(h.at_ i x q).mono e⟩
def Ob(K:PySem.W.Frag)(m:List Addr)(H:Hp)(a:Addr):O->Prop
 |.lst us=>∃xs,H a=some (.lst xs)/\IsL K m H xs us
 |.dic kus=>∃kvs,H a=some (.dK kvs)/\IsP K m H kvs kus
 |.ins c fus=>∃dx fs,H a=some (.ins c.C dx fs)/\InF K m H c fs fus
 |.fdc ep kus=>∃ob es kvs,H a=some (.frz ob (.dK kvs))/\ob.data=.dict es ep/\IsP K m H kvs kus
 |.dit kus=>∃kvs,H a=some (.dT kvs)/\IsP K m H kvs kus
 |.fdt ep kus=>∃ob es kvs,H a=some (.frz ob (.dT kvs))/\ob.data=.dict es ep/\IsP K m H kvs kus
 |.dnt kus=>∃kvs,H a=some (dNo a kvs)/\(∀p∈kvs,kN K H p.1.2 p.1.1)/\IsP K m H (nP kvs) kus
 |.fdn ep kus=>∃ob es kvs,H a=some (.frz ob (dNo a kvs))/\ob.data=.dict es ep/\(∀p∈kvs,kN K H p.1.2 p.1.1)/\IsP K m H (nP kvs) kus
structure Sr(K:PySem.W.Frag)(m:List Addr)(S:Sto)(H:Hp):Prop where
 len:m.length=S.length
 nd:m.Nodup
 ob:∀(l:Nat) (a:Addr) (o:O),m[l]?=some a->S[l]?=some o->Ob K m H a o
structure Lr(K:PySem.W.Frag)(m:List Addr)(H:Hp)(ρ:Rho)(σ:L2.St):Prop where
 len:ρ.length=σ.length
 at_:∀(i:Nat) (u:U),ρ[i]?=some (some u)->∃v,σ[i]?=some (some v)/\Is K m H v u
section
variable{κ:Type}{K:PySem.W.Frag}{m m':List Addr}{H H':Hp}{S S':Sto}{ρ:Rho}{σ:L2.St}{a q:Addr}{l:Nat}{o:O}{ho:HO}{us:List U}{v:V}{u:U}{kvs:List (κ×V)}{kus:List (κ×U)}
theorem IsP.mono(e:Ext K m H m' H')(h:IsP K m H kvs kus):IsP K m' H' kvs kus:=⟨h.1,h.2.mono e⟩
theorem IsP.length(h:IsP K m H kvs kus):kvs.length=kus.length:=by have:=h.2.length;simpa using this
theorem IsP.nil_:IsP (κ:=κ) K m H [] []:=⟨rfl,.nil_⟩
theorem IsP.cons_{k:κ}(h:Is K m H v u)(t:IsP K m H kvs kus):IsP K m H ((k,v)::kvs) ((k,u)::kus):=⟨by simp[t.1],.cons_ h t.2⟩
theorem IsP.ind{P:List (κ×V)->List (κ×U)->Prop}(h0:P [] [])(h1:∀k v u kvs kus,Is K m H v u->IsP K m H kvs kus->P kvs kus->P ((k,v)::kvs) ((k,u)::kus)):∀{kvs:List (κ×V)} {kus:List (κ×U)},IsP K m H kvs kus->P kvs kus
 |[],[],_=>h0
 |[],p::r,h=>by have:=h.length;simp at this
 |p::r,[],h=>by have:=h.length;simp at this
 |(k,v)::r,(k',u)::r',h=>by
  obtain⟨e,i⟩:=h
  simp only[List.map_cons,List.cons.injEq]at e
  obtain⟨e1,e2⟩:=e
  subst e1
  obtain⟨x,t,e3,iu,it⟩:=i.of_cons
  cases e3
  exact h1 k v u r r' iu ⟨e2,it⟩ (IsP.ind h0 h1 (⟨e2,it⟩:IsP K m H r r'))
theorem Ob.mono(e:Ext K m H m' H')(h1:H' a=H a)(h:Ob K m H a o):Ob K m' H' a o:=by
 cases o with
 |lst us=>obtain⟨xs,k,i⟩:=h;exact⟨xs,h1.trans k,i.mono e⟩
 |dic kus=>obtain⟨xs,k,i⟩:=h;exact⟨xs,h1.trans k,i.mono e⟩
 |ins C fus=>obtain⟨dx,fs,k,i⟩:=h;exact⟨dx,fs,h1.trans k,i.mono e⟩
 |fdc ep kus=>obtain⟨ob,es,kvs,k,d,i⟩:=h;exact⟨ob,es,kvs,h1.trans k,d,i.mono e⟩
 |dit kus=>obtain⟨xs,k,i⟩:=h;exact⟨xs,h1.trans k,i.mono e⟩
 |fdt ep kus=>obtain⟨ob,es,kvs,k,d,i⟩:=h;exact⟨ob,es,kvs,h1.trans k,d,i.mono e⟩
 |dnt kus=>obtain⟨kvs,k,y,i⟩:=h;exact⟨kvs,h1.trans k,fun p hp=>(y p hp).mono e.keep,i.mono e⟩
 |fdn ep kus=>obtain⟨ob,es,kvs,k,d,y,i⟩:=h;exact⟨ob,es,kvs,h1.trans k,d,fun p hp=>(y p hp).mono e.keep,i.mono e⟩
theorem Ob.some(h:Ob K m H a o):∃ho,H a=some ho/\(∀xs,ho≠.tup xs)/\(∀ob xs,ho≠.frz ob (.tup xs))/\(∀ob xs,ho≠.frz ob (.lst xs)):=by
 cases o with
 |lst us=>obtain⟨xs,k,i⟩:=h;exact⟨_,k,by simp,by simp,by simp⟩
 |dic kus=>obtain⟨xs,k,i⟩:=h;exact⟨_,k,by simp,by simp,by simp⟩
 |ins C fus=>obtain⟨dx,fs,k,i⟩:=h;exact⟨_,k,by simp,by simp,by simp⟩
 |fdc ep kus=>obtain⟨ob,es,kvs,k,d,i⟩:=h;exact⟨_,k,by simp,by simp,by simp⟩
 |dit kus=>obtain⟨xs,k,i⟩:=h;exact⟨_,k,by simp,by simp,by simp⟩
 |fdt ep kus=>obtain⟨ob,es,kvs,k,d,i⟩:=h;exact⟨_,k,by simp,by simp,by simp⟩
 |dnt kus=>obtain⟨kvs,k,y,i⟩:=h;exact⟨_,k,by simp[dNo],by simp[dNo],by simp[dNo]⟩
 |fdn ep kus=>obtain⟨ob,es,kvs,k,d,y,i⟩:=h;exact⟨_,k,by simp,by simp[dNo],by simp[dNo]⟩
theorem Lr.mono(e:Ext K m H m' H')(h:Lr K m H ρ σ):Lr K m' H' ρ σ:=⟨h.len,fun i u e1=>let ⟨v,e2,e3⟩:=h.at_ i u e1;⟨v,e2,e3.mono e⟩⟩
theorem Lr.set(h:Lr K m H ρ σ)(i:Nat)(hv:Is K m H v u):Lr K m H (ρ.set i (some u)) (σ.set i (some v)):=by
 refine⟨by simp[h.len],fun j w e=>?_⟩
 by_cases c:i=j
 ·subst c
  rw[List.getElem?_set_self' ]at e
  rw[List.getElem?_set_self']
  have hl:=h.len
  cases e1:ρ[i]? with
  |none=>rw[e1]at e;simp at e
  |some z=>
   rw[e1]at e
   simp at e
   subst e
   have:i < σ.length:=by rw[<-hl];exact(List.getElem?_eq_some_iff.mp e1).1
   rw[List.getElem?_eq_getElem this]
   exact⟨v,rfl,hv⟩
 ·rw[List.getElem?_set_ne c]at e
  rw[List.getElem?_set_ne c]
  exact h.at_ j w e
theorem Sr.get(r:Sr K m S H)(h:S[l]?=some o):∃a,m[l]?=some a/\Ob K m H a o:=by
 have hl:l<m.length:=by rw[r.len];exact(List.getElem?_eq_some_iff.mp h).1
 exact⟨_,List.getElem?_eq_getElem hl,r.ob _ _ _ (List.getElem?_eq_getElem hl) h⟩
theorem Sr.at_(r:Sr K m S H)(h:m[l]?=some a):∃o,S[l]?=some o/\Ob K m H a o:=by
 have hl:l<S.length:=by rw[<-r.len];exact(List.getElem?_eq_some_iff.mp h).1
 exact⟨_,List.getElem?_eq_getElem hl,r.ob _ _ _ h (List.getElem?_eq_getElem hl)⟩
theorem Sr.same(r:Sr K m S H)(s:sP H H'):Sr K m S H':=⟨r.len,r.nd,fun l a o h1 h2=>by
 have q:=r.ob l a o h1 h2
 obtain⟨ho,e,_⟩:=q.some
 exact q.mono (.of (eU s)) (by rw[s _ _ e,e])⟩
theorem Sr.new(r:Sr K m S H)(h:H q=none)(n:Ob K (m++[q]) (upd H q ho) q o):Sr K (m++[q]) (S++[o]) (upd H q ho):=by
 have hq:q∉m:=fun z=>by
  obtain⟨l,e⟩:=List.getElem?_of_mem z
  obtain⟨o,_,k⟩:=r.at_ e
  obtain⟨ho,e2,_⟩:=k.some
  rw[h]at e2;cases e2
 refine⟨by simp[r.len],?_,fun l a o' h1 h2=>?_⟩
 ·rw[List.nodup_append]
  exact⟨r.nd,by simp,fun x hx y hy z=>by simp at hy;subst hy;subst z;exact hq hx⟩
 ·by_cases c:l<m.length
  ·rw[List.getElem?_append_left c]at h1
   rw[List.getElem?_append_left (by rw[<-r.len];exact c)]at h2
   have q':=r.ob l a o' h1 h2
   obtain⟨ho',e,_⟩:=q'.some
   exact q'.mono (.new (cq h _)) (by rw[bH (cP e h)])
  ·have e:l=m.length:=by
    have:=(List.getElem?_eq_some_iff.mp h1).1
    simp at this;omega
   subst e
   rw[List.getElem?_append_right (Nat.le_refl _)]at h1
   rw[List.getElem?_append_right (by rw[r.len];exact Nat.le_refl _)]at h2
   simp[r.len]at h1 h2
   subst h1;subst h2
   exact n
theorem Sr.put(r:Sr K m S H)(h:m[l]?=some a)(n:Ob K m (upd H a ho) a o):Sr K m (S.set l o) (upd H a ho):=by
 obtain⟨o0,h0,k0⟩:=r.at_ h
 obtain⟨ho',e,nt,nf,nl⟩:=k0.some
 refine⟨by simp[r.len],r.nd,fun l' a' o' h1 h2=>?_⟩
 by_cases c:l=l'
 ·subst c
  rw[h]at h1;cases h1
  rw[List.getElem?_set_self (List.getElem?_eq_some_iff.mp h0).1]at h2
  cases h2
  exact n
 ·rw[List.getElem?_set_ne c]at h2
  have na:a'≠a:=fun z=>by
   subst z
   obtain⟨p1,e1⟩:=List.getElem?_eq_some_iff.mp h
   obtain⟨p2,e2⟩:=List.getElem?_eq_some_iff.mp h1
   exact c ((List.getElem_inj r.nd).mp (e1.trans e2.symm))
  exact(r.ob l' a' o' h1 h2).mono (.of (t8 e nt nf nl _)) (by rw[bH na])
theorem Sr.keep(r:Sr K m S H)(h:m[l]?=some a)(ho:HO):Ar K H (upd H a ho):=by
 obtain⟨o0,h0,k0⟩:=r.at_ h
 obtain⟨ho',e,nt,nf,nl⟩:=k0.some
 exact t8 e nt nf nl _
end
def j6(K:PySem.W.Frag)(m:List Addr)(H:Hp)(Q:VK)(u:U)(S':Sto):Prop:=∀m' v H',Ext K m H m' H'->Sr K m' S' H'->Is K m' H' v u->Q v H'
abbrev CE:=Rho->Sto->Option (U×Sto)
abbrev CT:=Rho->Sto->Option (Bool×Sto)
abbrev CA:=Rho->Sto->Option (List U×Sto)
inductive Out where
 |nx|rt (u:U)|bk|ct
abbrev CS:=Rho->Sto->Option (Out×Rho×Sto)
def Ap(K:PySem.W.Frag)(m:List Addr)(H:Hp)(Q:Bool->Hp->Prop)(b:Bool)(S':Sto):Prop:=∀m' H',Ext K m H m' H'->Sr K m' S' H'->Q b H'
def JO(K:PySem.W.Frag)(m:List Addr)(H:Hp)(Q:List V->Hp->Prop)(us:List U)(S':Sto):Prop:=∀m' vs H',Ext K m H m' H'->Sr K m' S' H'->IsL K m' H' vs us->Q vs H'
def gy(K:PySem.W.Frag)(m:List Addr)(H:Hp)(Q:L2.St->Hp->Prop)(ρ':Rho)(S':Sto):Prop:=∀m' σ' H',Ext K m H m' H'->Sr K m' S' H'->Lr K m' H' ρ' σ'->Q σ' H'
def vf(K:PySem.W.Frag)(m:List Addr)(H:Hp)(D:vq):Out->Rho->Sto->Prop
 |.nx,ρ',S'=>gy K m H D.nx ρ' S'
 |.bk,ρ',S'=>gy K m H D.bk ρ' S'
 |.ct,ρ',S'=>gy K m H D.ct ρ' S'
 |.rt u,_,S'=>j6 K m H D.rt u S'
theorem mh{α β γ δ ε:Type}{A B C D:α->β->γ->δ->ε->Prop}{p:Prop}(h:∃a b c d e,A a b c d e/\B a b c d e/\C a b c d e/\D a b c d e)(f:∀a b c d e,A a b c d e->B a b c d e->C a b c d e->D a b c d e->p):p:=by
 obtain⟨a,b,c,d,e,h1,h2,h3,h4⟩:=h
 exact f a b c d e h1 h2 h3 h4
theorem vm{α β γ δ ε ζ:Type}{A B C D:α->β->γ->δ->ε->ζ->Prop}{p:Prop}(h:∃a b c d e g,A a b c d e g/\B a b c d e g/\C a b c d e g/\D a b c d e g)(f:∀a b c d e g,A a b c d e g->B a b c d e g->C a b c d e g->D a b c d e g->p):p:=by
 obtain⟨a,b,c,d,e,g,h1,h2,h3,h4⟩:=h
 exact f a b c d e g h1 h2 h3 h4
theorem Kl{α β γ δ ε ζ:Type}{A B C D E:α->β->γ->δ->ε->ζ->Prop}{p:Prop}(h:∃a b c d e g,A a b c d e g/\B a b c d e g/\C a b c d e g/\D a b c d e g/\E a b c d e g)(f:∀a b c d e g,A a b c d e g->B a b c d e g->C a b c d e g->D a b c d e g->E a b c d e g->p):p:=by
 obtain⟨a,b,c,d,e,g,h1,h2,h3,h4,h5⟩:=h
 exact f a b c d e g h1 h2 h3 h4 h5
def tE(K:PySem.W.Frag)(c:CE):TE:=fun σ H Q=>∃m ρ S u S',Sr K m S H/\Lr K m H ρ σ/\c ρ S=some (u,S')/\j6 K m H Q u S'
def tT(K:PySem.W.Frag)(c:CT):TT:=fun σ H Q=>∃m ρ S u S',Sr K m S H/\Lr K m H ρ σ/\c ρ S=some (u,S')/\Ap K m H Q u S'
def tA(K:PySem.W.Frag)(c:CA):TA:=fun σ H Q=>∃m ρ S u S',Sr K m S H/\Lr K m H ρ σ/\c ρ S=some (u,S')/\JO K m H Q u S'
def tS(K:PySem.W.Frag)(c:CS):TS:=fun D σ H=>∃m ρ S o ρ' S',Sr K m S H/\Lr K m H ρ σ/\c ρ S=some (o,ρ',S')/\vf K m H D o ρ' S'
abbrev QE(X:Cx)(e:Expr)(c:CE):Prop:=WE X e (tE X.K c)
abbrev QT(X:Cx)(e:Expr)(c:CT):Prop:=WT X e (tT X.K c)
abbrev QW(X:Cx)(e:Expr)(c:CT):Prop:=WW X e (tT X.K c)
abbrev QS(X:Cx)(e:Stmt)(c:CS):Prop:=WS X e (tS X.K c)
abbrev QSs(X:Cx)(e:List Stmt)(c:CS):Prop:=WSs X e (tS X.K c)
structure QA(X:Cx)(es:List Expr)(c:CA):Prop where
 h:WA X es (tA X.K c)
 len:∀ρ S us S',c ρ S=some (us,S')->us.length=es.length
section
variable{X:Cx}{e:Expr}{es:List Expr}{st:Stmt}{sts:List Stmt}
theorem _root_.OG.WE.imp{t t':TE}(h:WE X e t)(i:∀σ H Q,t' σ H Q->t σ H Q):WE X e t':=⟨fun pins s σ H Q I k=>h.h pins s σ H Q I (i σ H Q k)⟩
theorem _root_.OG.WT.imp{t t':TT}(h:WT X e t)(i:∀σ H Q,t' σ H Q->t σ H Q):WT X e t':=⟨fun pins s σ H Q I k=>h.h pins s σ H Q I (i σ H Q k)⟩
theorem _root_.OG.WW.imp{t t':TT}(h:WW X e t)(i:∀σ H Q,t' σ H Q->t σ H Q):WW X e t':=⟨fun wh pins s σ H Q I k=>h.h wh pins s σ H Q I (i σ H Q k)⟩
theorem _root_.OG.WA.imp{t t':TA}(h:WA X es t)(i:∀σ H Q,t' σ H Q->t σ H Q):WA X es t':=⟨fun pos pins s σ H Q I k=>h.h pos pins s σ H Q I (i σ H Q k)⟩
theorem _root_.OG.WS.imp{t t':TS}(h:WS X st t)(i:∀D σ H,t' D σ H->t D σ H):WS X st t':=⟨fun pins s σ H D I k=>h.h pins s σ H D I (i D σ H k)⟩
theorem _root_.OG.WSs.imp{t t':TS}(h:WSs X sts t)(i:∀D σ H,t' D σ H->t D σ H):WSs X sts t':=⟨fun pins s σ H D I k=>h.h pins s σ H D I (i D σ H k)⟩
theorem _root_.OG.WI.imp{tg:Expr}{t t':TI}(h:WI X tg e t)(i:∀σ H R,t' σ H R->t σ H R):WI X tg e t':=⟨fun pins s σ H R I k=>h.h pins s σ H R I (i σ H R k)⟩
theorem _root_.OG.WG.imp{t t':TG}(h:WG X e t)(i:∀v σ H Q,t' v σ H Q->t v σ H Q):WG X e t':=⟨fun pins s σ H v u Q I r k=>h.h pins s σ H v u Q I r (i v σ H Q k)⟩
theorem _root_.OG.WGs.imp{t t':TGs}(h:WGs X es t)(i:∀v σ H Q,t' v σ H Q->t v σ H Q):WGs X es t':=⟨fun pins s σ H v u Q I r k=>h.h pins s σ H v u Q I r (i v σ H Q k)⟩
theorem _root_.OG.WE.or{t t':TE}(h:WE X e t)(h':WE X e t'):WE X e (fun σ H Q=>t σ H Q\/t' σ H Q):=⟨fun pins s σ H Q I k=>k.elim (h.h pins s σ H Q I) (h'.h pins s σ H Q I)⟩
theorem _root_.OG.WT.or{t t':TT}(h:WT X e t)(h':WT X e t'):WT X e (fun σ H Q=>t σ H Q\/t' σ H Q):=⟨fun pins s σ H Q I k=>k.elim (h.h pins s σ H Q I) (h'.h pins s σ H Q I)⟩
theorem _root_.OG.WS.or{t t':TS}(h:WS X st t)(h':WS X st t'):WS X st (fun D σ H=>t D σ H\/t' D σ H):=⟨fun pins s σ H D I k=>k.elim (h.h pins s σ H D I) (h'.h pins s σ H D I)⟩
theorem _root_.OG.WI.or{tg:Expr}{t t':TI}(h:WI X tg e t)(h':WI X tg e t'):WI X tg e (fun σ H D=>t σ H D\/t' σ H D):=⟨fun pins s σ H D I k=>k.elim (h.h pins s σ H D I) (h'.h pins s σ H D I)⟩
end
section
variable{K:PySem.W.Frag}{m m':List Addr}{H H':Hp}{Q:VK}{R:L2.St->Hp->Prop}{D:vq}{u:U}{o:Out}{S':Sto}{ρ':Rho}
theorem j6.mono(e:Ext K m H m' H')(p:j6 K m H Q u S'):j6 K m' H' Q u S':=fun m2 v H2 e2 r i=>p m2 v H2 (e.trans e2) r i
theorem Ap.mono{Q:Bool->Hp->Prop}{b:Bool}(e:Ext K m H m' H')(p:Ap K m H Q b S'):Ap K m' H' Q b S':=fun m2 H2 e2 r=>p m2 H2 (e.trans e2) r
theorem gy.mono(e:Ext K m H m' H')(p:gy K m H R ρ' S'):gy K m' H' R ρ' S':=fun m2 v H2 e2 r i=>p m2 v H2 (e.trans e2) r i
theorem vf.mono(e:Ext K m H m' H')(p:vf K m H D o ρ' S'):vf K m' H' D o ρ' S':=by
 cases o with
 |nx=>exact gy.mono e p
 |rt u=>exact j6.mono e p
 |bk=>exact gy.mono e p
 |ct=>exact gy.mono e p
end
def LIM:Nat:=100000
theorem lim{n:Nat}(h:n<=LIM):n<=sizeLine:=Nat.le_trans h (by unfold LIM sizeLine;decide)
theorem FR{n:Nat}(h:n<LIM):n<sizeLine:=Nat.lt_of_lt_of_le h (by unfold LIM sizeLine;decide)
def ah(i:Nat):CE:=fun ρ S=>match ρ[i]? with
 |some (some u)=>some (u,S)
 |_=>none
def cC(u:U):CE:=fun _ S=>some (u,S)
section
variable{X:Cx}{e a b c:Expr}{ca cb cc:CE}{pos:Pos}
theorem ag{i:Nat}(h:WE X e (GS i)):QE X e (ah i):=h.imp fun σ H Q hz=>mh hz fun m ρ S u S' sr lr hc post=>by
 unfold ah at hc
 split at hc
 ·rename_i u' e
  cases hc
  obtain⟨v,e1,e2⟩:=lr.at_ i u e
  exact⟨v,e1,post m v H .refl sr e2⟩
 ·cases hc
theorem q_c{v:V}{u:U}(h:WE X e (tC v))(hi:∀m H,Is X.K m H v u):QE X e (cC u):=h.imp fun σ H Q hz=>mh hz fun m ρ S u' S' sr lr hc post=>by
 cases hc
 exact post m v H .refl sr (hi m H)
theorem ar{i:Int}(h:WE X e (tC (.int i))):QE X e (cC (.int i)):=q_c h fun _ _=>.int_
theorem o8{i:Bool}(h:WE X e (tC (.bl i))):QE X e (cC (.bl i)):=q_c h fun _ _=>.bl_
theorem aV{i:Str}(h:WE X e (tC (.str i))):QE X e (cC (.str i)):=q_c h fun _ _=>.str_
theorem o7(h:WE X e (tC .non)):QE X e (cC .non):=q_c h fun _ _=>.non_
def cOp(f:U->U->Sto->Option (U×Sto))(ca cb:CE):CE:=fun ρ S=>(ca ρ S).bind fun p=>(cb ρ p.2).bind fun q=>f p.1 q.1 q.2
def OpP(K:PySem.W.Frag)(r:R2)(f:U->U->Sto->Option (U×Sto)):Prop:=
 ∀m S H x y v w u S' Q,Sr K m S H->Is K m H v x->Is K m H w y->f x y S=some (u,S')->j6 K m H Q u S'->r v w H Q
theorem wG{K:PySem.W.Frag}{r:R2}{f:U->U->Sto->Option (U×Sto)}(hp:OpP K r f):∀σ H Q,tE K (cOp f ca cb) σ H Q->tOp r (tE K ca) (tE K cb) σ H Q:=by
 rintro σ H Q ⟨m,ρ,S,u,S',sr,lr,hc,post⟩
 obtain⟨⟨x,S1⟩,h1,h⟩:=Option.bind_eq_some_iff.mp hc
 obtain⟨⟨y,S2⟩,h2,h3⟩:=Option.bind_eq_some_iff.mp h
 exact⟨m,ρ,S,x,S1,sr,lr,h1,fun m1 v1 H1 e1 sr1 i1=>⟨m1,ρ,S1,y,S2,sr1,lr.mono e1,h2,fun m2 v2 H2 e2 sr2 i2=>hp m2 S2 H2 x y v1 v2 u S' Q sr2 (i1.mono e2) i2 h3 (post.mono (e1.trans e2))⟩⟩
theorem dB{op:Operator}{r:R2}{f:U->U->Sto->Option (U×Sto)}(ho:OpR X (binaryOp op) r)(hp:OpP X.K r f)(ha:QE X a ca)(hb:QE X b cb):QE X (.BinOp a op b pos) (cOp f ca cb):=(EC ho ha hb).imp (wG hp)
theorem wu{op:CmpOp}{r:R2}{f:U->U->Sto->Option (U×Sto)}(ho:OpR X (compareOp op) r)(hp:OpP X.K r f)(ha:QE X a ca)(hb:QE X b cb)(hm:behindInMarks op b=false):QE X (.Compare a [op] [b] pos) (cOp f ca cb):=(tu ho ha hb hm).imp (wG hp)
def aG(c:CE):CT:=fun ρ S=>(c ρ S).bind fun p=>match p.1 with
 |.bl b=>some (b,p.2)
 |_=>none
theorem lZ{K:PySem.W.Frag}{c:CE}{t:TE}(h:∀σ H Q,tE K c σ H Q->t σ H Q):∀σ H Q,tT K (aG c) σ H Q->t σ H fun x H'=>∃k,x=.bl k/\Q k H':=by
 rintro σ H Q ⟨m,ρ,S,u,S',sr,lr,hc,post⟩
 obtain⟨⟨x,S1⟩,h1,h2⟩:=Option.bind_eq_some_iff.mp hc
 refine h σ H _ ⟨m,ρ,S,x,S1,sr,lr,h1,fun m1 v1 H1 e1 sr1 i1=>?_⟩
 cases x<;>simp at h2
 obtain⟨rfl,rfl⟩:=h2
 exact⟨_,i1.of_bl,post m1 H1 e1 sr1⟩
theorem aR{op:CmpOp}{r:R2}{f:U->U->Sto->Option (U×Sto)}(ho:OpR X (compareOp op) r)(hp:OpP X.K r f)(ha:QE X a ca)(hb:QE X b cb)(hm:behindInMarks op b=false):QT X (.Compare a [op] [b] pos) (aG (cOp f ca cb)):=(tf ho ha hb hm).imp (lZ (wG hp))
theorem gp(h:QE X e ca)(he:∀whole,isTrue e X.env whole=(do let v <-whole;standAt e.pos;holding [v] (truthy v)):=by intro _;rfl):QT X e (aG ca):=(Bz h he).imp (lZ fun _ _ _ z=>z)
variable{ta tb:CT}{rest:List Expr}
def nI(ta tb:CT):CT:=fun ρ S=>(ta ρ S).bind fun p=>if p.1=true then tb ρ p.2 else some (false,p.2)
def cOr(ta tb:CT):CT:=fun ρ S=>(ta ρ S).bind fun p=>if p.1=true then some (true,p.2)else tb ρ p.2
def Ai(ta:CT):CT:=fun ρ S=>(ta ρ S).bind fun p=>some (!p.1,p.2)
theorem uM(h:QW X e ta):QT X e ta:=WW.pt h
theorem jT(ha:QT X a ta):QW X (.BoolOp .And [a] pos) ta:=yx ha
theorem y1(ha:QT X a ta):QW X (.BoolOp .Or [a] pos) ta:=Bx ha
theorem lO(ha:QT X a ta)(hb:QW X (.BoolOp .And (b::rest) pos) tb):QW X (.BoolOp .And (a::b::rest) pos) (nI ta tb):=(By ha hb).imp fun σ H Q hz=>mh hz fun m ρ S u S' sr lr hc post=>by
 obtain⟨⟨x,S1⟩,h1,h2⟩:=Option.bind_eq_some_iff.mp hc
 refine⟨m,ρ,S,x,S1,sr,lr,h1,fun m1 H1 e1 sr1=>?_⟩
 cases x with
 |true=>exact F8 ⟨m1,ρ,S1,u,S',sr1,lr.mono e1,h2,post.mono e1⟩
 |false=>cases h2;exact F9 (post m1 H1 e1 sr1)
theorem E4(ha:QT X a ta)(hb:QW X (.BoolOp .Or (b::rest) pos) tb):QW X (.BoolOp .Or (a::b::rest) pos) (cOr ta tb):=(EA ha hb).imp fun σ H Q hz=>mh hz fun m ρ S u S' sr lr hc post=>by
 obtain⟨⟨x,S1⟩,h1,h2⟩:=Option.bind_eq_some_iff.mp hc
 refine⟨m,ρ,S,x,S1,sr,lr,h1,fun m1 H1 e1 sr1=>?_⟩
 cases x with
 |true=>cases h2;exact F8 (post m1 H1 e1 sr1)
 |false=>exact F9 ⟨m1,ρ,S1,u,S',sr1,lr.mono e1,h2,post.mono e1⟩
theorem mT(ha:QT X a ta):QT X (.UnaryOp .Not a pos) (Ai ta):=(BA ha).imp fun σ H Q hz=>mh hz fun m ρ S u S' sr lr hc post=>by
 obtain⟨⟨x,S1⟩,h1,h2⟩:=Option.bind_eq_some_iff.mp hc
 cases h2
 exact⟨m,ρ,S,x,_,sr,lr,h1,fun m1 H1 e1 sr1=>post m1 H1 e1 sr1⟩
def rq(ca cb:CE):CE:=fun ρ S=>(ca ρ S).bind fun p=>match p.1 with
 |.bl true=>cb ρ p.2
 |.bl false=>some (.bl false,p.2)
 |_=>none
def Km(ca cb:CE):CE:=fun ρ S=>(ca ρ S).bind fun p=>match p.1 with
 |.bl false=>cb ρ p.2
 |.bl true=>some (.bl true,p.2)
 |_=>none
def sH(ca:CE):CE:=fun ρ S=>(ca ρ S).bind fun p=>match p.1 with
 |.bl b=>some (.bl (!b),p.2)
 |_=>none
theorem E5{op}(h:QE X a ca):QE X (.BoolOp op [a] pos) ca:=BG h
theorem AJ(ha:QE X a ca)(hb:QE X (.BoolOp .And (b::rest) pos) cb):QE X (.BoolOp .And (a::b::rest) pos) (rq ca cb):=(BL ha hb).imp fun σ H Q hz=>mh hz fun m ρ S u S' sr lr hc post=>by
 obtain⟨⟨x,S1⟩,h1,h2⟩:=Option.bind_eq_some_iff.mp hc
 refine⟨m,ρ,S,x,S1,sr,lr,h1,fun m1 v1 H1 e1 sr1 i1=>?_⟩
 cases x with
 |bl k=>
  refine⟨k,i1.of_bl,?_⟩
  cases k with
  |true=>exact F8 ⟨m1,ρ,S1,u,S',sr1,lr.mono e1,h2,post.mono e1⟩
  |false=>cases h2;exact F9 (post m1 _ H1 e1 sr1 .bl_)
 |_=>simp at h2
theorem E6(ha:QE X a ca):QE X (.UnaryOp .Not a pos) (sH ca):=(BH ha).imp fun σ H Q hz=>mh hz fun m ρ S u S' sr lr hc post=>by
 obtain⟨⟨x,S1⟩,h1,h2⟩:=Option.bind_eq_some_iff.mp hc
 refine⟨m,ρ,S,x,S1,sr,lr,h1,fun m1 v1 H1 e1 sr1 i1=>?_⟩
 cases x with
 |bl k=>cases h2;exact⟨k,i1.of_bl,post m1 _ H1 e1 sr1 .bl_⟩
 |_=>simp at h2
def cIf(t:CT)(ca cb:CE):CE:=fun ρ S=>(t ρ S).bind fun p=>if p.1=true then ca ρ p.2 else cb ρ p.2
variable{es:List Expr}{cr:CA}
def aB:CA:=fun _ S=>some ([],S)
def ae(ca:CE)(cr:CA):CA:=fun ρ S=>(ca ρ S).bind fun p=>(cr ρ p.2).bind fun q=>some (p.1::q.1,q.2)
theorem aw:QA X [] aB:=⟨j8.imp fun σ H Q hz=>mh hz fun m ρ S u S' sr lr hc post=>by cases hc;exact post m [] H .refl sr .nil_,fun ρ S us S' h=>by cases h;rfl⟩
theorem ab(ha:QE X e ca)(hr:QA X es cr)(hs:starEach (e::es) X.env=(false,eval e X.env)::starEach es X.env:=by rfl):QA X (e::es) (ae ca cr):=⟨(ft ha hr.h hs).imp fun σ H Q hz=>mh hz fun m ρ S u S' sr lr hc post=>by
 obtain⟨⟨x,S1⟩,h1,h⟩:=Option.bind_eq_some_iff.mp hc
 obtain⟨⟨y,S2⟩,h2,h3⟩:=Option.bind_eq_some_iff.mp h
 cases h3
 exact⟨m,ρ,S,x,S1,sr,lr,h1,fun m1 v1 H1 e1 sr1 i1=>⟨m1,ρ,S1,y,S2,sr1,lr.mono e1,h2,fun m2 v2 H2 e2 sr2 i2=>post m2 _ H2 (e1.trans e2) sr2 (.cons_ (i1.mono e2) i2)⟩⟩,
 fun ρ S us S' h=>by
 obtain⟨⟨x,S1⟩,h1,h⟩:=Option.bind_eq_some_iff.mp h
 obtain⟨⟨y,S2⟩,h2,h3⟩:=Option.bind_eq_some_iff.mp h
 cases h3
 simp[hr.len ρ S1 y S2 h2]⟩
def cI(cr:CA):CE:=fun ρ S=>(cr ρ S).bind fun p=>some (.tup p.1,p.2)
def gN(cr:CA):CE:=fun ρ S=>(cr ρ S).bind fun p=>some (.ref p.2.length,p.2++[.lst p.1])
theorem d7{m:List Addr}{S:Sto}{q:Addr}(h:m.length=S.length):(m++[q])[S.length]?=some q:=by rw[List.getElem?_append_right (by omega)];simp[h]
theorem o9{K:PySem.W.Frag}{m:List Addr}{H:Hp}{S:Sto}{us:List U}{xs:List V}{Q:VK}{p:Addr}(sr:Sr K m S H)(i:IsL K m H xs us)(post:j6 K m H Q (.tup us) S)(hp:H p=none):Q (.ref p) (upd H p (.tup xs)):=
 post m _ _ (.of (cq hp _)) (sr.same (dZ hp _)) (.tup_ (SqT.of aP) (i.mono (.of (cq hp _))))
theorem d4{K:PySem.W.Frag}{m:List Addr}{H:Hp}{S:Sto}{us:List U}{xs:List V}{Q:VK}{p:Addr}(sr:Sr K m S H)(i:IsL K m H xs us)(post:j6 K m H Q (.ref S.length) (S++[.lst us]))(hp:H p=none):Q (.ref p) (upd H p (.lst xs)):=
 post (m++[p]) _ _ (.new (cq hp _)) (sr.new hp ⟨xs,aP,i.mono (.new (cq hp _))⟩) (.ref_ (d7 sr.len))
theorem bt{x1}(h:QA X es cr)(hl:es.length<=1000:=by exact Nat.le_of_ble_eq_true rfl):QE X (.Tuple es x1 pos) (cI cr):=(BF h.h).imp fun σ H Q hz=>mh hz fun m ρ S u S' sr lr hc post=>by
 obtain⟨⟨us,S1⟩,h1,h2⟩:=Option.bind_eq_some_iff.mp hc
 cases h2
 refine⟨m,ρ,S,us,_,sr,lr,h1,fun m1 v1 H1 e1 sr1 i1=>⟨qr ?_,fun p hp=>o9 sr1 i1 (post.mono e1) hp⟩⟩
 rw[i1.length,h.len _ _ _ _ h1];exact hl
theorem gH(h:QA X es cr)(hl:es.length<=1000:=by exact Nat.le_of_ble_eq_true rfl):QE X (.List es pos) (gN cr):=(vH h.h).imp fun σ H Q hz=>mh hz fun m ρ S u S' sr lr hc post=>by
 obtain⟨⟨us,S1⟩,h1,h2⟩:=Option.bind_eq_some_iff.mp hc
 cases h2
 refine⟨m,ρ,S,us,_,sr,lr,h1,fun m1 v1 H1 e1 sr1 i1=>⟨qr ?_,fun p hp=>d4 sr1 i1 (post.mono e1) hp⟩⟩
 rw[i1.length,h.len _ _ _ _ h1];exact hl
def cCB(f:List U->Sto->Option (U×Sto))(cr:CA):CE:=fun ρ S=>(cr ρ S).bind fun p=>f p.1 p.2
def nH(K:PySem.W.Frag)(r:List V->Hp->VK->Prop)(f:List U->Sto->Option (U×Sto)):Prop:=
 ∀m S H us vs u S' Q,Sr K m S H->IsL K m H vs us->f us S=some (u,S')->j6 K m H Q u S'->r vs H Q
theorem A5{K:PySem.W.Frag}{r:List V->Hp->VK->Prop}{f:List U->Sto->Option (U×Sto)}(hp:nH K r f):∀σ H Q,tE K (cCB f cr) σ H Q->tCB r (tA K cr) σ H Q:=by
 rintro σ H Q ⟨m,ρ,S,u,S',sr,lr,hc,post⟩
 obtain⟨⟨us,S1⟩,h1,h2⟩:=Option.bind_eq_some_iff.mp hc
 exact⟨m,ρ,S,us,S1,sr,lr,h1,fun m1 v1 H1 e1 sr1 i1=>hp m1 S1 H1 us v1 u S' Q sr1 i1 h2 (post.mono e1)⟩
theorem bQ{id:String}{x:Str}{p:Pos}{r:List V->Hp->VK->Prop}{f:List U->Sto->Option (U×Sto)}(hc:fP X (.builtin id) r)(hp:nH X.K r f)(hg:Gl X x)(hm:X.mg x=none)(hv:bootBuiltins x=some (.builtin id))(ha:QA X (e::es) cr)(hn:x≠"__name__":=by decide)(hdb:(x == ("__debug__":Str))=false:=by decide)(he:starEach (e::es) X.env=(false,eval e X.env)::starEach es X.env:=by rfl)(hpl:(backTo pos (starEach es X.env)).any (·.1)=false:=by rfl) :
  QE X (.Call (.Name x p) (e::es) [] pos) (cCB f cr):=(qh hc hg hm hv ha.h hn hdb he hpl).imp (A5 hp)
theorem bZ{id:String}{x:Str}{p:Pos}{r:List V->Hp->VK->Prop}{f:List U->Sto->Option (U×Sto)}(hc:fP X (.type id) r)(hp:nH X.K r f)(hg:Gl X x)(hm:X.mg x=none)(hv:bootBuiltins x=some (.type id))(ha:QA X (e::es) cr)(hn:x≠"__name__":=by decide)(hdb:(x == ("__debug__":Str))=false:=by decide)(he:starEach (e::es) X.env=(false,eval e X.env)::starEach es X.env:=by rfl)(hpl:(backTo pos (starEach es X.env)).any (·.1)=false:=by rfl) :
  QE X (.Call (.Name x p) (e::es) [] pos) (cCB f cr):=(nX hc hg hm hv ha.h hn hdb he hpl).imp (A5 hp)
end
def yR(K:PySem.W.Frag)(f:List U->Sto->Option (U×Sto)):Sp:=fun vs H Q _=>∃m us S u S',IsL K m H vs us/\Sr K m S H/\f us S=some (u,S')/\j6 K m H Q u S'
abbrev Fn:=List U->Sto->Option (U×Sto)
abbrev dk(P:Program)(w:World)(K:PySem.W.Frag)(mg:Str->Option Value)(base:Heap)(x:Str)(k:Nat)(ps:List Str)(f:Fn):Prop:=Has P w K mg base x k ps (yR K f)
def qp(n:Nat)(us:List U):Rho:=us.map some++List.replicate (n-us.length) none
def fnU(n k:Nat)(c:CS):Fn:=fun us S=>if us.length=k then(c (qp n us) S).bind fun r=>match r.1 with
 |.rt u=>some (u,r.2.2)
 |.nx=>some (.non,r.2.2)
 |_=>none else none
section
variable{P:Program}{w:World}{K:PySem.W.Frag}{mg:Str->Option Value}{base:Heap}{x:Str}{st:Stmt}{ps N:List Str}{k:Nat}{c:CS}{f:Fn}
theorem zK{m:List Addr}{H:Hp}{vs:List V}{us:List U}(i:IsL K m H vs us):Lr K m H (qp N.length us) (L2.jH N vs):=by
 have hl:=i.length
 refine⟨by simp[qp,L2.jH,hl],fun j u e=>?_⟩
 unfold qp at e
 unfold L2.jH
 by_cases c:j<us.length
 ·rw[List.getElem?_append_left (by simpa using c),List.getElem?_map]at e
  rw[List.getElem?_append_left (by simpa [hl] using c),List.getElem?_map]
  rw[List.getElem?_eq_getElem c]at e
  simp at e
  obtain⟨v,e1,e2⟩:=i.getD (List.getElem?_eq_getElem c)
  rw[e1]
  subst e
  exact⟨v,rfl,e2⟩
 ·rw[List.getElem?_append_right (by simpa using c),List.getElem?_replicate]at e
  split at e<;>cases e
theorem xv{X:Cx}{body:List Stmt}{Q:VK}{E:XK}{vs:List V}{H:Hp}(hK:X.K=K)(h:yR K (fnU N.length ps.length c) vs H Q E):tS X.K c { nx:=fun _ H'=>Q .non H',rt:=Q } (L2.jH N vs) H:=by
 subst hK
 obtain⟨m,us,S,u,S',i,sr,hf,post⟩:=h
 unfold fnU at hf
 split at hf
 ·obtain⟨⟨o,ρ',S2⟩,h1,h2⟩:=Option.bind_eq_some_iff.mp hf
  refine⟨m,_,S,o,ρ',S2,sr,zK i,h1,?_⟩
  cases o with
  |rt v=>cases h2;exact post
  |nx=>cases h2;exact fun m1 σ1 H1 e1 sr1 _=>post m1 _ H1 e1 sr1 .non_
  |bk=>simp at h2
  |ct=>simp at h2
 ·cases hf
theorem tH{vs:List V}{H:Hp}{Q:VK}{E:XK}{n k:Nat}(h:yR K (fnU n k c) vs H Q E):vs.length=k:=by
 obtain⟨m,us,S,u,S',i,sr,hf,post⟩:=h
 unfold fnU at hf
 split at hf
 ·rename_i e
  rw[i.length,e]
 ·cases hf
theorem _root_.OG.Def.pure(d:Def K mg x st ps)(S:aN N ps (ay st))
  (hb:∀(f:Addr) (cdv:Value) (A:Around) (outer:List Env) (s:Shared) (H:Hp) (E:XK),gB k (A.deeper (envOfC x (ay st) s.heap.objs.size f cdv))->
   WSs (um CX0 P w K mg base N x (ay st) f cdv A outer s H E).nox (d8 st) (tS K c)):dk P w K mg base x (k+1) ps (fnU N.length ps.length c):=
 d.has S (fun vs H Q E h=>tH h) fun f cdv A outer s H vs Q E hr h=>⟨_,hb f cdv A outer s H E hr,xv (X:=(um CX0 P w K mg base N x (ay st) f cdv A outer s H E).nox) (body:=[]) (ps:=ps) rfl h⟩
theorem _root_.OG.Def.no(d:Def K mg x st ps):dk P w K mg base x k ps (fun _ _=>none):=d.none fun vs H Q E h=>by
 obtain⟨m,us,S,u,S',i,sr,hf,post⟩:=h
 cases hf
theorem aQ{X:Cx}{e:Expr}{es:List Expr}{cr:CA}{p pos:Pos}(F:Has X.prog X.w X.K X.mg X.base x k ps (yR X.K f))(hr:gB k X.A)(hg:Gl X x)(ha:QA X (e::es) cr)
  (hdb:(x == ("__debug__":Str))=false:=by decide) (he:starEach (e::es) X.env=(false,eval e X.env)::starEach es X.env:=by rfl) (hpl:(backTo pos (starEach es X.env)).any (·.1)=false:=by rfl) :
  QE X (.Call (.Name x p) (e::es) [] pos) (cCB f cr):=(Av F hr hg ha.h hdb he hpl).imp fun σ H Q hz=>mh hz fun m ρ S u S' sr lr hc post=>by
 obtain⟨⟨us,S1⟩,h1,h2⟩:=Option.bind_eq_some_iff.mp hc
 exact⟨m,ρ,S,us,S1,sr,lr,h1,fun m1 v1 H1 e1 sr1 i1=>⟨m1,us,S1,u,S',by simpa using i1,sr1,h2,post.mono e1⟩⟩
end
section
variable{X:Cx}{e a b c:Expr}{ca cb cc:CE}{pos:Pos}{st:Stmt}{sts:List Stmt}{c1 c2:CS}
def cf:CS:=fun ρ S=>some (.nx,ρ,S)
def bf(c1 c2:CS):CS:=fun ρ S=>(c1 ρ S).bind fun r=>match r.1 with
 |.nx=>c2 r.2.1 r.2.2
 |o=>some (o,r.2.1,r.2.2)
theorem bw:QSs X [] cf:=yy.imp fun D σ H hz=>vm hz fun m ρ S o ρ' S' sr lr hc post=>by cases hc;exact post m σ H .refl sr lr
theorem aq(h1:QS X st c1)(h2:QSs X sts c2):QSs X (st::sts) (bf c1 c2):=(qe h1 h2).imp fun D σ H hz=>vm hz fun m ρ S o ρ' S' sr lr hc post=>by
 obtain⟨⟨o1,ρ1,S1⟩,h1,h2⟩:=Option.bind_eq_some_iff.mp hc
 refine⟨m,ρ,S,o1,ρ1,S1,sr,lr,h1,?_⟩
 cases o1 with
 |nx=>exact fun m1 σ1 H1 e1 sr1 lr1=>⟨m1,ρ1,S1,o,ρ',S',sr1,lr1,h2,post.mono e1⟩
 |rt u=>cases h2;exact post
 |bk=>cases h2;exact post
 |ct=>cases h2;exact post
theorem ax(h1:QS X st c1):QSs X [st] c1:=tj h1
def ef(ca:CE):CS:=fun ρ S=>(ca ρ S).bind fun p=>some (.nx,ρ,p.2)
theorem bY(he:QE X e ca)(hs:swapsWith e none pos.line X.env=pure false:=by rfl):QS X (.Expr e pos) (ef ca):=(yz he hs).imp fun D σ H hz=>vm hz fun m ρ S o ρ' S' sr lr hc post=>by
 obtain⟨⟨u,S1⟩,h1,h2⟩:=Option.bind_eq_some_iff.mp hc
 cases h2
 exact⟨m,ρ,S,u,_,sr,lr,h1,fun m1 v1 H1 e1 sr1 i1=>post m1 σ H1 e1 sr1 (lr.mono e1)⟩
def fh(ca:CE):CS:=fun ρ S=>(ca ρ S).bind fun p=>some (.rt p.1,ρ,p.2)
theorem aZ(he:QE X e ca):QS X (.Return (some e) pos) (fh ca):=(vD he).imp fun D σ H hz=>vm hz fun m ρ S o ρ' S' sr lr hc post=>by
 obtain⟨⟨u,S1⟩,h1,h2⟩:=Option.bind_eq_some_iff.mp hc
 cases h2
 exact⟨m,ρ,S,u,_,sr,lr,h1,post⟩
def dQ(t:CT)(c1 c2:CS):CS:=fun ρ S=>(t ρ S).bind fun p=>if p.1=true then c1 ρ p.2 else c2 ρ p.2
theorem bC{t:CT}{s1 s2:List Stmt}(hc:QT X c t)(h1:QSs X s1 c1)(h2:QSs X s2 c2):QS X (.If c s1 s2 pos) (dQ t c1 c2):=(EB hc h1 h2).imp fun D σ H hz=>vm hz fun m ρ S o ρ' S' sr lr hc post=>by
 obtain⟨⟨x,S1⟩,h1,h2⟩:=Option.bind_eq_some_iff.mp hc
 refine⟨m,ρ,S,x,S1,sr,lr,h1,fun m1 H1 e1 sr1=>?_⟩
 cases x with
 |true=>exact F8 ⟨m1,ρ,S1,o,ρ',S',sr1,lr.mono e1,h2,post.mono e1⟩
 |false=>exact F9 ⟨m1,ρ,S1,o,ρ',S',sr1,lr.mono e1,h2,post.mono e1⟩
abbrev CG:=U->Rho->Sto->Option (Rho×Sto)
def tG(K:PySem.W.Frag)(g:CG):TG:=fun v σ H Q=>∃m ρ S u ρ' S',Sr K m S H/\Lr K m H ρ σ/\Is K m H v u/\g u ρ S=some (ρ',S')/\gy K m H Q ρ' S'
abbrev QG(X:Cx)(e:Expr)(g:CG):Prop:=WG X e (tG X.K g)
def gNm(i:Nat):CG:=fun u ρ S=>some (ρ.set i (some u),S)
theorem fe{i:Nat}(h:WG X e (uX i)):QG X e (gNm i):=h.imp fun v σ H Q hz=>Kl hz fun m ρ S u ρ' S' sr lr iu hc post=>by
 cases hc
 exact post m _ H .refl sr (lr.set i iu)
def gR:List Nat->List U->Rho->Option Rho
 |[],[],ρ=>some ρ
 |i::is,u::us,ρ=>gR is us (ρ.set i (some u))
 |_,_,_=>none
def tGs(K:PySem.W.Frag)(is:List Nat):TGs:=fun vs σ H Q=>∃m ρ S us ρ',Sr K m S H/\Lr K m H ρ σ/\IsL K m H vs us/\gR is us ρ=some ρ'/\gy K m H Q ρ' S
abbrev QGs(X:Cx)(es:List Expr)(is:List Nat):Prop:=WGs X es (tGs X.K is)
theorem jm:QGs X [] []:=yC.imp fun v σ H Q ⟨m,ρ,S,us,ρ',sr,lr,iu,hc,post⟩=>by
 cases us with
 |nil=>cases hc;exact⟨iu.of_nil,post m σ H .refl sr lr⟩
 |cons a r=>simp[gR]at hc
theorem cE{i:Nat}{is:List Nat}{es:List Expr}(h:WG X e (uX i))(h2:QGs X es is)(hs:(assignEach (e::es) X.env).map (·.2)=assign e X.env::(assignEach es X.env).map (·.2):=by rfl):QGs X (e::es) (i::is):=(vF h h2 hs).imp fun v σ H Q ⟨m,ρ,S,us,ρ',sr,lr,iu,hc,post⟩=>by
 cases us with
 |nil=>simp[gR]at hc
 |cons u r=>
  obtain⟨x,xr,rfl,i1,i2⟩:=iu.of_cons
  exact⟨x,xr,rfl,m,ρ.set i (some u),S,r,ρ',sr,lr.set i i1,i2,hc,post⟩
def gTp(is:List Nat):CG:=fun u ρ S=>match u with
 |.tup us=>(gR is us ρ).bind fun ρ'=>some (ρ',S)
 |_=>none
theorem oh:∀{is:List Nat} {us:List U} {ρ ρ':Rho},gR is us ρ=some ρ'->us.length=is.length
 |[],[],_,_,_=>rfl
 |[],_::_,_,_,h=>by simp[gR]at h
 |_::_,[],_,_,h=>by simp[gR]at h
 |i::is,u::us,ρ,ρ',h=>by
  have:=oh (is:=is) (us:=us) h
  simp[this]
theorem mS{is:List Nat}{es:List Expr}{k:Nat}(hc:X.calm=true)(h:QGs X es is)(hn:(assignEach es X.env).length=is.length:=by rfl)(hst:(assignEach es X.env).findIdx? (·.1)=none:=by rfl):QG X (.Tuple es k pos) (gTp is):=(BD hc h hn hst).imp fun v σ H Q hz=>Kl hz fun m ρ S u ρ' S' sr lr iu hc post=>by
 cases u with
 |tup us=>
  obtain⟨ρ2,h1,h2⟩:=Option.bind_eq_some_iff.mp hc
  cases h2
  obtain⟨a,xs,rfl,sq,il⟩:=iu.of_tup
  refine⟨a,xs,rfl,sq,?_,m,ρ,S,us,ρ',sr,lr,il,h1,post⟩
  rw[il.length];exact oh h1
 |_=>simp[gTp]at hc
def Hb(ca:CE)(g:CG):CS:=fun ρ S=>(ca ρ S).bind fun p=>(g p.1 ρ p.2).bind fun q=>some (.nx,q.1,q.2)
theorem DG{K:PySem.W.Frag}{g:CG}:∀D σ H,tS K (Hb ca g) D σ H->EU (tE K ca) (tG K g) D σ H:=by
 rintro D σ H ⟨m,ρ,S,o,ρ',S',sr,lr,hc,post⟩
 obtain⟨⟨u,S1⟩,h1,h2⟩:=Option.bind_eq_some_iff.mp hc
 obtain⟨⟨ρ2,S2⟩,h3,h4⟩:=Option.bind_eq_some_iff.mp h2
 cases h4
 exact⟨m,ρ,S,u,S1,sr,lr,h1,fun m1 v1 H1 e1 sr1 i1=>⟨m1,ρ,S1,u,_,_,sr1,lr.mono e1,i1,h3,gy.mono e1 post⟩⟩
theorem E3{tg:Expr}{g:CG}(he:QE X e ca)(hg:QG X tg g)(hs:swapsWithSole [tg] e pos.line X.env=pure false:=by rfl)(hw:swappedStores [tg] e X.env=pure none:=by rfl)
  (h1:(assignEach [tg] X.env).map (·.2)=[assign tg X.env]:=by rfl):QS X (.Assign [tg] e pos) (Hb ca g):=(vE he hg hs hw h1).imp DG
def bN(i:Nat)(ca:CE):CS:=fun ρ S=>(ca ρ S).bind fun p=>some (.nx,ρ.set i (some p.1),p.2)
theorem aI{i:Nat}{x:Str}{pos':Pos}(hN:X.N.Nodup)(hi:X.N[i]?=some x)(hx:Loc X.env.scope x)(he:QE X e ca)(hs:swapsWith e (some (.Name x pos')) pos.line X.env=pure false:=by rfl)(hf:X.fn x=true\/X.env.scope.names.lookup x=some .local:=by first|exact .inl rfl|exact .inr rfl|assumption) :
  QS X (.Assign [.Name x pos'] e pos) (bN i ca):=(vC hN hi hx he hs hf).imp fun D σ H hz=>vm hz fun m ρ S o ρ' S' sr lr hc post=>by
 obtain⟨⟨u,S1⟩,h1,h2⟩:=Option.bind_eq_some_iff.mp hc
 cases h2
 exact⟨m,ρ,S,u,_,sr,lr,h1,fun m1 v1 H1 e1 sr1 i1=>post m1 _ H1 e1 sr1 ((lr.mono e1).set i i1)⟩
abbrev CI:=Rho->Sto->Option (List U×(Sto->Prop)×Sto)
def yp(K:PySem.W.Frag)(J:It)(m:List Addr)(H:Hp)(us:List U)(ok:Sto->Prop):Prop:=∀m2 S2 H2 i,Ext K m H m2 H2->Sr K m2 S2 H2->ok S2->
 (∀u,us[i]?=some u->J.go i H2/\∀x H3,J.yld i H2 x H3->Ext K m2 H2 m2 H3/\Sr K m2 S2 H3/\Is K m2 H3 x u)/\(us.length<=i->J.stop i H2)
def tI(K:PySem.W.Frag)(ci:CI):TI:=fun σ H R=>∃m ρ S us ok S',Sr K m S H/\Lr K m H ρ σ/\ci ρ S=some (us,ok,S')/\∀m' H' J,Ext K m H m' H'->Sr K m' S' H'->yp K J m' H' us ok->R J H'
abbrev QI(X:Cx)(tg iter:Expr)(ci:CI):Prop:=WI X tg iter (tI X.K ci)
open Classical in
def dH(ok:Sto->Prop)(g:CG)(cb:CS):List U->CS
 |[]=>fun ρ S=>if ok S then some (.nx,ρ,S)else none
 |u::us=>fun ρ S=>if ok S then(g u ρ S).bind fun p=>(cb p.1 p.2).bind fun r=>match r.1 with
  |.nx=>dH ok g cb us r.2.1 r.2.2
  |.ct=>dH ok g cb us r.2.1 r.2.2
  |.bk=>some (.nx,r.2.1,r.2.2)
  |.rt v=>some (.rt v,r.2.1,r.2.2)else none
def j7(ci:CI)(g:CG)(cb:CS):CS:=fun ρ S=>(ci ρ S).bind fun p=>dH p.2.1 g cb p.1 ρ p.2.2
theorem j3{α:Type}{us:List α}{i:Nat}{u:α}(h:us[i]?=some u):us.drop i=u::us.drop (i+1):=by
 obtain⟨hl,e⟩:=List.getElem?_eq_some_iff.mp h
 rw[List.drop_eq_getElem_cons hl,e]
theorem pB{K:PySem.W.Frag}{g:CG}{cb:CS}{J:It}{us:List U}{ok:Sto->Prop}{D:vq}{m1:List Addr}{H1:Hp}{ρ ρ':Rho}{σ:L2.St}{S1 S':Sto}{o:Out}(sr1:Sr K m1 S1 H1)(lr1:Lr K m1 H1 ρ σ)(ito:yp K J m1 H1 us ok)(h2:dH ok g cb us ρ S1=some (o,ρ',S'))(post:vf K m1 H1 D o ρ' S') :
  ∃W:Nat->Nat->L2.St->Hp->Prop,(∃n,W 0 n σ H1)/\∀i n σ H,W i n σ H->
   (J.stop i H/\D.nx σ H)\/(J.go i H/\∃N:L2.St->Hp->Prop,(∀σ' H',N σ' H'->∃n',n'<n/\W (i+1) n' σ' H')/\∀x H',J.yld i H x H'->tG K g x σ H' fun σ2 H2=>tS K cb { D with nx:=N,ct:=N,bk:=D.nx } σ2 H2):=by
 let W:Nat->Nat->L2.St->Hp->Prop:=fun i n σ2 H2=>n=us.length-i/\i<=us.length/\∃m2 ρ2 S2,Ext K m1 H1 m2 H2/\Sr K m2 S2 H2/\Lr K m2 H2 ρ2 σ2/\dH ok g cb (us.drop i) ρ2 S2=some (o,ρ',S')
 refine⟨W,⟨us.length,by simp,Nat.zero_le _,m1,ρ,S1,.refl,sr1,lr1,by simpa using h2⟩,?_⟩
 rintro i n σ2 H2 ⟨rfl,hi,m2,ρ2,S2,e2,sr2,lr2,hl⟩
 by_cases hlt:i<us.length
 ·have hu:=List.getElem?_eq_getElem hlt
  rw[j3 hu]at hl
  unfold dH at hl
  split at hl
  ·rename_i hok
   obtain⟨⟨ρ3,S3⟩,h3,hl⟩:=Option.bind_eq_some_iff.mp hl
   obtain⟨⟨o4,ρ4,S4⟩,h4,hl⟩:=Option.bind_eq_some_iff.mp hl
   obtain⟨hgo,hy⟩:=(ito m2 S2 H2 i e2 sr2 hok).1 _ hu
   refine .inr ⟨hgo,W (i+1) (us.length-(i+1)),fun σ' H' w'=>⟨_,by omega,w'⟩,fun x H3 y=>?_⟩
   obtain⟨e3,sr3,ix⟩:=hy x H3 y
   refine⟨m2,ρ2,S2,_,ρ3,S3,sr3,lr2.mono e3,ix,h3,fun m4 σ4 H4 e4 sr4 lr4=>⟨m4,ρ3,S3,o4,ρ4,S4,sr4,lr4,h4,?_⟩⟩
   have e14:=(e2.trans e3).trans e4
   have nxt:dH ok g cb (us.drop (i+1)) ρ4 S4=some (o,ρ',S')->gy K m4 H4 (W (i+1) (us.length-(i+1))) ρ4 S4:=fun hn m5 σ5 H5 e5 sr5 lr5=>⟨rfl,hlt,m5,ρ4,S4,e14.trans e5,sr5,lr5,hn⟩
   cases o4 with
   |nx=>exact nxt hl
   |ct=>exact nxt hl
   |bk=>cases hl;exact gy.mono e14 post
   |rt v=>cases hl;exact j6.mono e14 post
  ·cases hl
 ·have e:i=us.length:=by omega
  subst e
  rw[List.drop_length]at hl
  unfold dH at hl
  split at hl
  ·rename_i hok
   cases hl
   exact .inl ⟨(ito m2 _ H2 _ e2 sr2 hok).2 (Nat.le_refl _),post m2 σ2 H2 e2 sr2 lr2⟩
  ·cases hl
theorem Dp{K:PySem.W.Frag}{ci:CI}{g:CG}{cb:CS}:∀D σ H,tS K (j7 ci g cb) D σ H->EM (tI K ci) (tG K g) (tS K cb) D σ H:=by
 rintro D σ H ⟨m,ρ,S,o,ρ',S',sr,lr,hc,post⟩
 obtain⟨⟨us,ok,S1⟩,h1,h2⟩:=Option.bind_eq_some_iff.mp hc
 exact⟨m,ρ,S,us,ok,S1,sr,lr,h1,fun m1 H1 J e1 sr1 ito=>pB sr1 (lr.mono e1) ito h2 (vf.mono e1 post)⟩
theorem gT{tg iter:Expr}{body:List Stmt}{ci:CI}{g:CG}{cb:CS}(hp:PassesOwn (model X.prog X.w) X.A X.env X.xe)(hc:X.calm=true)(hi:QI X tg iter ci)(hg:QG X tg g)(hb:QSs X body cb)(hs:∀x,foldedSetIterable iter X.env x=pure x:=by intro _;rfl):QS X (.For tg iter body [] pos) (j7 ci g cb):=(rF hp hc hi hg hb hs).imp Dp
def cW(t:CT)(cb:CS):Nat->CS
 |0=>fun _ _=>none
 |n+1=>fun ρ S=>(t ρ S).bind fun p=>if p.1=true then(cb ρ p.2).bind fun r=>match r.1 with
  |.nx=>cW t cb n r.2.1 r.2.2
  |.ct=>cW t cb n r.2.1 r.2.2
  |.bk=>some (.nx,r.2.1,r.2.2)
  |.rt v=>some (.rt v,r.2.1,r.2.2)else some (.nx,ρ,p.2)
theorem vK{K:PySem.W.Frag}{t:CT}{cb:CS}{n:Nat}:∀D σ H,tS K (cW t cb n) D σ H->vS (tT K t) (tS K cb) D σ H:=by
 rintro D σ H ⟨m,ρ,S,o,ρ',S',sr,lr,hc,post⟩
 let W:Nat->L2.St->Hp->Prop:=fun n σ2 H2=>∃m2 ρ2 S2,Ext K m H m2 H2/\Sr K m2 S2 H2/\Lr K m2 H2 ρ2 σ2/\cW t cb n ρ2 S2=some (o,ρ',S')
 refine⟨W,⟨n,m,ρ,S,.refl,sr,lr,hc⟩,?_⟩
 rintro k σ2 H2 ⟨m2,ρ2,S2,e2,sr2,lr2,hl⟩
 cases k with
 |zero=>cases hl
 |succ k=>
  unfold cW at hl
  obtain⟨⟨x,S3⟩,h3,hl⟩:=Option.bind_eq_some_iff.mp hl
  refine⟨m2,ρ2,S2,x,S3,sr2,lr2,h3,fun m3 H3 e3 sr3=>?_⟩
  have e13:=e2.trans e3
  cases x with
  |true=>
   rw[if_pos rfl]at hl
   refine F8 ?_
   obtain⟨⟨o4,ρ4,S4⟩,h4,hl⟩:=Option.bind_eq_some_iff.mp hl
   refine⟨W k,fun σ' H' w'=>⟨k,Nat.lt_succ_self _,w'⟩,m3,ρ2,S3,o4,ρ4,S4,sr3,lr2.mono e3,h4,?_⟩
   have nxt:cW t cb k ρ4 S4=some (o,ρ',S')->gy K m3 H3 (W k) ρ4 S4:=fun hn m5 σ5 H5 e5 sr5 lr5=>⟨m5,ρ4,S4,e13.trans e5,sr5,lr5,hn⟩
   cases o4 with
   |nx=>exact nxt hl
   |ct=>exact nxt hl
   |bk=>cases hl;exact gy.mono e13 post
   |rt v=>cases hl;exact j6.mono e13 post
  |false=>
   rw[if_neg Bool.false_ne_true]at hl
   refine F9 ?_
   cases hl
   exact post m3 σ2 H3 e13 sr3 (lr2.mono e3)
theorem l5{body:List Stmt}{t:CT}{cb:CS}(n:Nat)(hp:PassesOwn (model X.prog X.w) X.A X.env X.xe)(hc:QT X c t)(hb:QSs X body cb):QS X (.While c body [] pos) (cW t cb n):=(vB hp hc hb).imp vK
def iTp(ca:CE):CI:=fun ρ S=>(ca ρ S).bind fun p=>match p.1 with
 |.tup us=>some (us,fun _=>True,p.2)
 |.ref l=>match p.2[l]? with
  |some (.lst us)=>some (us,fun S=>S[l]?=some (.lst us),p.2)
  |_=>none
 |_=>none
theorem Ga{K:PySem.W.Frag}{m:List Addr}{H:Hp}{us:List U}{a:Addr}{xs:List V}(sq:SqT K H a xs)(il:IsL K m H xs us):yp K (Itt K a) m H us (fun _=>True):=by
 intro m2 S2 H2 i e2 sr2 _
 have sq2:=e2.keep.t _ _ sq
 have il2:=il.mono e2
 refine⟨fun u hu=>?_,fun hi=>⟨xs,sq2,by rw[il2.length];exact hi⟩⟩
 obtain⟨x,hx,ix⟩:=il2.getD hu
 refine⟨⟨xs,x,sq2,hx⟩,fun y H3 hy=>?_⟩
 obtain⟨rfl,hy⟩:=hy
 have:=hy xs sq2
 rw[hx]at this;cases this
 exact⟨.refl,sr2,ix⟩
theorem Gd{K:PySem.W.Frag}{m:List Addr}{H:Hp}{us:List U}{a:Addr}{l:Nat}(hl:m[l]?=some a):yp K (Itl K a) m H us (fun S=>S[l]?=some (.lst us)):=by
 intro m2 S2 H2 i e2 sr2 hok
 obtain⟨a',ha',xs,hx,il⟩:=sr2.get hok
 rw[e2.get hl]at ha'
 cases ha'
 refine⟨fun u hu=>?_,fun hi=>⟨xs,SqL.of hx,by rw[il.length];exact hi⟩⟩
 obtain⟨x,hx',ix⟩:=il.getD hu
 refine⟨⟨xs,x,SqL.of hx,hx'⟩,fun y H3 hy=>?_⟩
 obtain⟨rfl,hy⟩:=hy
 have:=hy xs (SqL.of hx)
 rw[hx']at this;cases this
 exact⟨.refl,sr2,ix⟩
theorem mR{tg:Expr}(h:QE X e ca):QI X tg e (iTp ca):=((BC h).or (yB h)).imp fun σ H R hz=>vm hz fun m ρ S us ok S' sr lr hc post=>by
 obtain⟨⟨u,S1⟩,h1,h2⟩:=Option.bind_eq_some_iff.mp hc
 cases u with
 |tup ws=>
  cases h2
  refine .inl ⟨m,ρ,S,.tup us,_,sr,lr,h1,fun m1 v1 H1 e1 sr1 i1=>?_⟩
  obtain⟨a,xs,rfl,sq,il⟩:=i1.of_tup
  exact⟨a,rfl,⟨xs,sq⟩,post m1 H1 _ e1 sr1 (Ga sq il)⟩
 |ref l=>
  simp only at h2
  split at h2
  ·rename_i us' hS
   cases h2
   refine .inr ⟨m,ρ,S,.ref l,_,sr,lr,h1,fun m1 v1 H1 e1 sr1 i1=>?_⟩
   obtain⟨a,hl,rfl⟩:=i1.of_ref
   obtain⟨a',ha',xs,hx,il⟩:=sr1.get hS
   rw[hl]at ha';cases ha'
   exact⟨a,rfl,⟨xs,SqL.of hx⟩,post m1 H1 _ e1 sr1 (Gd hl)⟩
  ·cases h2
 |_=>simp at h2
def du(lo:Int)(n:Nat):List U:=(List.range n).map fun i=>.int (lo+(i:Nat))
theorem zQ{K:PySem.W.Frag}{m:List Addr}{H:Hp}{lo:Int}{n:Nat}:yp K (Itr lo n) m H (du lo n) (fun _=>True):=by
 intro m2 S2 H2 i e2 sr2 _
 refine⟨fun u hu=>?_,fun hi=>by show n<=i;simpa [du] using hi⟩
 unfold du at hu
 rw[List.getElem?_map]at hu
 by_cases c:i<n
 ·rw[List.getElem?_range c]at hu
  simp at hu
  subst hu
  refine⟨c,fun y H3 hy=>?_⟩
  obtain⟨rfl,rfl⟩:=hy
  exact⟨.refl,sr2,.int_⟩
 ·rw[List.getElem?_eq_none (by simpa using c)]at hu
  cases hu
def fg(cr:CA):CI:=fun ρ S=>(cr ρ S).bind fun p=>match p.1 with
 |[.int j]=>if -(2^62)<=j/\j<2^62 then some (du 0 j.toNat,fun _=>True,p.2)else none
 |_=>none
theorem iC{tg:Expr}{cr:CA}{p:Pos}(hg:Gl X "range")(hm:X.mg "range"=none)(ha:QA X [a] cr)(hs:starEach [a] X.env=[(false,eval a X.env)]:=by rfl):QI X tg (.Call (.Name "range" p) [a] [] pos) (fg cr):=(uF hg hm ha.h hs).imp fun σ H R hz=>vm hz fun m ρ S us ok S' sr lr hc post=>by
 obtain⟨⟨ws,S1⟩,h1,h2⟩:=Option.bind_eq_some_iff.mp hc
 simp only at h2
 split at h2
 ·rename_i j
  split at h2
  ·rename_i hj
   cases h2
   refine⟨m,ρ,S,_,S',sr,lr,h1,fun m1 v1 H1 e1 sr1 i1=>?_⟩
   obtain⟨x,r,rfl,ix,ir⟩:=i1.of_cons
   rw[ir.of_nil,ix.of_int]
   exact⟨j,rfl,hj.1,hj.2,post m1 H1 _ e1 sr1 zQ⟩
  ·cases h2
 ·cases h2
end
def fI(g:Int->Int->Option U):U->U->Sto->Option (U×Sto)
 |.int i,.int j,S=>(g i j).bind fun u=>some (u,S)
 |_,_,_=>none
section
variable{X:Cx}{K:PySem.W.Frag}
theorem GX{C:Int->Int->Prop}{gV:Int->Int->V}{g:Int->Int->Option U}(h:∀i j u,g i j=some u->C i j/\∀m H,Is K m H (gV i j) u):OpP K (rI C gV) (fI g):=by
 intro m S H x y v w u S' Q sr ix iy hf post
 cases x<;>cases y<;>simp only[fI]at hf<;>try cases hf
 rename_i i j
 obtain⟨u1,h1,h2⟩:=Option.bind_eq_some_iff.mp hf
 cases h2
 obtain⟨hc,hi⟩:=h i j u h1
 exact⟨i,j,ix.of_int,iy.of_int,hc,post m _ H .refl sr (hi m H)⟩
theorem zt{gV:Int->Int->V}{g:Int->Int->Option U}(h:∀i j u,g i j=some u->∀m H,Is K m H (gV i j) u):OpP K (rI0 gV) (fI g):=by
 intro m S H x y v w u S' Q sr ix iy hf post
 cases x<;>cases y<;>simp only[fI]at hf<;>try cases hf
 rename_i i j
 obtain⟨u1,h1,h2⟩:=Option.bind_eq_some_iff.mp hf
 cases h2
 exact⟨i,j,ix.of_int,iy.of_int,post m _ H .refl sr (h i j u h1 m H)⟩
def yZ(K:PySem.W.Frag):R2:=fun x y H Q=>∃a b xs ys,x=.ref a/\y=.ref b/\SqT K H a xs/\SqT K H b ys/\xs.length+ys.length<=sizeLine/\∀q H',sP H H'->SqT K H' q (xs++ys)->Q (.ref q) H'
theorem CY:OpR X (binaryOp .Add) (yZ X.K):=by
 intro pins s σ H x y v u Q I rx ry h
 obtain⟨a,b,xs,ys,rfl,rfl,ha,hb,hz,q⟩:=h
 by_cases e:xs=[]
 ·cases rx
  cases ry
  obtain⟨its,r1,p1,_⟩:=I.tuple ha
  obtain⟨its2,r2,p2,_⟩:=I.tuple hb
  refine Ag p1 p2 (r1.nil_iff.mpr e) ⟨.ref b,H,I,rfl,q b H (.refl _) (by rw[e];exact hb)⟩
 ·refine CW pins s σ H _ _ v u Q I rx ry ⟨a,b,xs,ys,rfl,rfl,ha,hb,e,hz,fun z=>q a H (.refl _) (by rw[z,List.append_nil];exact ha),fun _ p hp=>q p _ (dZ hp _) (SqT.of aP)⟩
def xw:U->U->Sto->Option (U×Sto)
 |.tup a,.tup b,S=>if a.length+b.length<=LIM then some (.tup (a++b),S)else none
 |_,_,_=>none
theorem zq:OpP K (yZ K) xw:=by
 intro m S H x y v w u S' Q sr ix iy hf post
 cases x<;>cases y<;>simp only[xw]at hf<;>try cases hf
 split at hf<;>try cases hf
 rename_i hl
 obtain⟨a,xs,rfl,sa,la⟩:=ix.of_tup
 obtain⟨b,ys,rfl,sb,lb⟩:=iy.of_tup
 refine⟨a,b,xs,ys,rfl,rfl,sa,sb,lim (by rw[la.length,lb.length];exact hl),fun q H' s sq=>?_⟩
 exact post m _ H' (.of (eU s)) (sr.same s) (.tup_ sq ((la.append lb).mono (.of (eU s))))
def pL:U->U->Sto->Option (U×Sto)
 |.ref l,.ref k,S=>match S[l]?,S[k]? with
  |some (.lst a),some (.lst b)=>if a.length+b.length<=LIM then some (.ref S.length,S++[.lst (a++b)])else none
  |_,_=>none
 |_,_,_=>none
theorem zu:OpP K GW pL:=by
 intro m S H x y v w u S' Q sr ix iy hf post
 cases x<;>cases y<;>simp only[pL]at hf<;>try cases hf
 rename_i l k
 split at hf<;>try cases hf
 rename_i a b h1 h2
 split at hf<;>try cases hf
 rename_i hl
 obtain⟨p,hp,rfl⟩:=ix.of_ref
 obtain⟨q,hq,rfl⟩:=iy.of_ref
 obtain⟨p',hp',xs,hx,il⟩:=sr.get h1
 obtain⟨q',hq',ys,hy,il'⟩:=sr.get h2
 rw[hp]at hp';cases hp'
 rw[hq]at hq';cases hq'
 exact⟨p,q,xs,ys,rfl,rfl,hx,hy,lim (by rw[il.length,il'.length];exact hl),fun r hr=>d4 sr (il.append il') post hr⟩
def xy:U->U->Sto->Option (U×Sto)
 |.str a,.str b,S=>if a.length+b.length<=LIM then some (.str (a++b),S)else none
 |_,_,_=>none
theorem zr:OpP K (fun x y H Q=>∃i j,x=.str i/\y=.str j/\i.length+j.length<=sizeLine/\Q (.str (i++j)) H) xy:=by
 intro m S H x y v w u S' Q sr ix iy hf post
 cases x<;>cases y<;>simp only[xy]at hf<;>try cases hf
 split at hf<;>try cases hf
 rename_i hl
 exact⟨_,_,ix.of_str,iy.of_str,lim hl,post m _ H .refl sr .str_⟩
def fu:U->U->Sto->Option (U×Sto)
 |.int i,.int j,S=>some (.int (i+j),S)
 |.tup a,.tup b,S=>if a.length+b.length<=LIM then some (.tup (a++b),S)else none
 |.str a,.str b,S=>if a.length+b.length<=LIM then some (.str (a++b),S)else none
 |.ref l,.ref k,S=>pL (.ref l) (.ref k) S
 |_,_,_=>none
theorem dG:OpR X (binaryOp .Add) (fun x y H Q=>rI0 (fun i j=>.int (i+j)) x y H Q\/(GW x y H Q\/(yZ X.K x y H Q\/∃i j,x=.str i/\y=.str j/\i.length+j.length<=sizeLine/\Q (.str (i++j)) H))):=FK.or (FJ.or (CY.or uO))
theorem dF:OpP K (fun x y H Q=>rI0 (fun i j=>.int (i+j)) x y H Q\/(GW x y H Q\/(yZ K x y H Q\/∃i j,x=.str i/\y=.str j/\i.length+j.length<=sizeLine/\Q (.str (i++j)) H))) fu:=by
 intro m S H x y v w u S' Q sr ix iy hf post
 cases x<;>cases y<;>simp only[fu]at hf<;>try cases hf
 ·exact .inl ⟨_,_,ix.of_int,iy.of_int,post m _ H .refl sr .int_⟩
 ·exact .inr (.inr (.inr (zr m S H _ _ v w u S' Q sr ix iy hf post)))
 ·exact .inr (.inr (.inl (zq m S H _ _ v w u S' Q sr ix iy hf post)))
 ·exact .inr (.inl (zu m S H _ _ v w u S' Q sr ix iy hf post))
def pI:=fI fun i j=>some (.int (i-j))
theorem pe:OpP K (rI0 fun i j=>.int (i-j)) pI:=zt fun i j u h m H=>by cases h;exact .int_
instance {i j:Int}:Decidable (vt i j):=by unfold vt;exact inferInstance
def mf:=fI fun i j=>if vt i j then some (.int (i*j))else none
theorem ph:OpP K (rI vt fun i j=>.int (i*j)) mf:=GX fun i j u h=>by
 split at h
 ·rename_i c;cases h;exact⟨c,fun m H=>.int_⟩
 ·cases h
instance {i j:Int}:Decidable (vi i j):=by unfold vi;exact inferInstance
def z3:=fI fun i j=>if vi i j then some (.int (i / j))else none
theorem CQ:OpP K (rI vi fun i j=>.int (i / j)) z3:=GX fun i j u h=>by
 split at h
 ·rename_i c;cases h;exact⟨c,fun m H=>.int_⟩
 ·cases h
def pK:=fI fun i j=>if 0<j then some (.int (i % j))else none
theorem pj:OpP K (rI (fun _ j=>0<j) fun i j=>.int (i % j)) pK:=GX fun i j u h=>by
 split at h
 ·rename_i c;cases h;exact⟨c,fun m H=>.int_⟩
 ·cases h
instance {i j:Int}:Decidable (DR i j):=by unfold DR;exact inferInstance
def DM:=fI fun i j=>if DR i j then some (.int (i^j.toNat))else none
theorem FE:OpP K (rI DR fun i j=>.int (i^j.toNat)) DM:=GX fun i j u h=>by
 split at h
 ·rename_i c;cases h;exact⟨c,fun m H=>.int_⟩
 ·cases h
def fLt:=fI fun i j=>some (.bl (decide (i<j)))
def fLe:=fI fun i j=>some (.bl (decide (i<=j)))
def fGt:=fI fun i j=>some (.bl (decide (j<i)))
def fGe:=fI fun i j=>some (.bl (decide (j<=i)))
theorem vj:OpP K (rI0 fun i j=>.bl (decide (i<j))) fLt:=zt fun i j u h m H=>by cases h;exact .bl_
theorem AK:OpP K (rI0 fun i j=>.bl (decide (j<i))) fGt:=zt fun i j u h m H=>by cases h;exact .bl_
theorem Jb:OpP K (rI0 fun i j=>.bl (decide (j<=i))) fGe:=zt fun i j u h m H=>by cases h;exact .bl_
def eqS:U->U->Option Bool
 |.int i,.int j=>some (decide (i=j))
 |.bl i,.bl j=>some (decide (i=j))
 |.str i,.str j=>some (decide (i=j))
 |.non,.non=>some true
 |.non,.int _=>some false|.int _,.non=>some false
 |.non,.bl _=>some false|.bl _,.non=>some false
 |.non,.str _=>some false|.str _,.non=>some false
 |.int _,.str _=>some false|.str _,.int _=>some false
 |.bl _,.str _=>some false|.str _,.bl _=>some false
 |_,_=>none
def fEq:U->U->Sto->Option (U×Sto):=fun x y S=>(eqS x y).bind fun b=>some (.bl b,S)
def fNe:U->U->Sto->Option (U×Sto):=fun x y S=>(eqS x y).bind fun b=>some (.bl (!b),S)
theorem A1{m:List Addr}{H:Hp}{x y:U}{v w:V}{b:Bool}(ix:Is K m H v x)(iy:Is K m H w y)(h:eqS x y=some b):IM v w=true/\decide (v=w)=b:=by
 cases x<;>cases y<;>simp only[eqS]at h<;>(first|cases h|skip)
 all_goals
  (first|(have e1:=ix.of_int)|(have e1:=ix.of_bl)|(have e1:=ix.of_str)|(have e1:=ix.of_non))
  (first|(have e2:=iy.of_int)|(have e2:=iy.of_bl)|(have e2:=iy.of_str)|(have e2:=iy.of_non))
  subst e1 e2
  exact⟨rfl,by simp⟩
theorem lC:OpP K rEq fEq:=by
 intro m S H x y v w u S' Q sr ix iy hf post
 obtain⟨b,h1,h2⟩:=Option.bind_eq_some_iff.mp hf
 cases h2
 obtain⟨e1,e2⟩:=A1 ix iy h1
 exact⟨e1,by rw[e2];exact post m _ H .refl sr .bl_⟩
theorem GY:OpP K rNe fNe:=by
 intro m S H x y v w u S' Q sr ix iy hf post
 obtain⟨b,h1,h2⟩:=Option.bind_eq_some_iff.mp hf
 cases h2
 obtain⟨e1,e2⟩:=A1 ix iy h1
 exact⟨e1,by rw[e2];exact post m _ H .refl sr .bl_⟩
def pC:U->Bool
 |.non=>true
 |_=>false
def Gs:U->U->Sto->Option (U×Sto)
 |x,.non,S=>some (.bl (pC x),S)
 |_,_,_=>none
def pJ:U->U->Sto->Option (U×Sto)
 |x,.non,S=>some (.bl (!pC x),S)
 |_,_,_=>none
theorem ud{m:List Addr}{H:Hp}{x:U}{v:V}(ix:Is K m H v x):decide (v=.non)=pC x:=by
 cases x with
 |non=>rw[ix.of_non];rfl
 |bl b=>rw[ix.of_bl];rfl
 |int i=>rw[ix.of_int];rfl
 |str i=>rw[ix.of_str];rfl
 |tup us=>obtain⟨a,xs,rfl,_⟩:=ix.of_tup;rfl
 |ref l=>obtain⟨a,_,rfl⟩:=ix.of_ref;rfl
 |kl ns=>obtain⟨a,rfl,_⟩:=ix.of_kl;rfl
theorem FG:OpP K (fun x y H Q=>y=.non/\Q (.bl (decide (x=.non))) H) Gs:=by
 intro m S H x y v w u S' Q sr ix iy hf post
 cases y<;>simp only[Gs]at hf<;>cases hf
 exact⟨iy.of_non,by rw[ud ix];exact post m _ H .refl sr .bl_⟩
theorem wD:OpP K (fun x y H Q=>y=.non/\Q (.bl (!decide (x=.non))) H) pJ:=by
 intro m S H x y v w u S' Q sr ix iy hf post
 cases y<;>simp only[pJ]at hf<;>cases hf
 exact⟨iy.of_non,by rw[ud ix];exact post m _ H .refl sr .bl_⟩
section
variable{κ:Type}[DecidableEq κ]
def cS{α:Type}(kvs:List (κ×α))(k:κ):Option α:=(kvs.find? fun kv=>decide (kv.1=k)).map (·.2)
def lB{α:Type}(kvs:List (κ×α))(k:κ)(v:α):List (κ×α):=
 if (kvs.any fun kv=>decide (kv.1=k))=true then kvs.map (fun kv=>if kv.1=k then(kv.1,v)else kv)else kvs++[(k,v)]
variable{m:List Addr}{H:Hp}{kvs:List (κ×V)}{kus:List (κ×U)}{k:κ}{v:V}{u:U}
theorem IsP.val(h:IsP K m H kvs kus):Rf K m H (fQ kvs k) (cS kus k):=by
 refine IsP.ind (P:=fun kvs kus=>Rf K m H (fQ kvs k) (cS kus k)) trivial (fun k' v u kvs kus i _ ih=>?_) h
 by_cases e:k'=k
 ·subst e
  simp[fQ,cS,List.find?_cons,Rf,i]
 ·simp only[fQ,cS,List.find?_cons,decide_eq_false e]at ih ⊢
  exact ih
theorem IsP.any_(h:IsP K m H kvs kus):(kvs.any fun kv=>decide (kv.1=k))=(kus.any fun kv=>decide (kv.1=k)):=
 IsP.ind (P:=fun kvs kus=>(kvs.any fun kv=>decide (kv.1=k))=(kus.any fun kv=>decide (kv.1=k))) rfl (fun k' v u kvs kus i _ ih=>by simp only[List.any_cons,ih]) h
theorem IsP.append{kvs':List (κ×V)}{kus':List (κ×U)}(h:IsP K m H kvs kus)(h':IsP K m H kvs' kus'):IsP K m H (kvs++kvs') (kus++kus'):=⟨by simp[h.1,h'.1],by simpa using h.2.append h'.2⟩
theorem IsP.put(h:IsP K m H kvs kus)(i:Is K m H v u):IsP K m H (l6 kvs k v) (lB kus k u):=by
 unfold l6 lB
 rw[h.any_]
 split
 ·refine IsP.ind (P:=fun kvs kus=>IsP K m H (kvs.map fun kv=>if kv.1=k then(kv.1,v)else kv) (kus.map fun kv=>if kv.1=k then(kv.1,u)else kv)) .nil_ (fun k' v' u' kvs kus i' _ ih=>?_) h
  simp only[List.map_cons]
  by_cases e:k'=k
  ·simp only[e,if_true];exact .cons_ i ih
  ·simp only[e,if_false];exact .cons_ i' ih
 ·exact h.append (.cons_ i .nil_)
end
def l8:U->Option Key
 |.int i=>some (.inl i)
 |.str x=>some (.inr x)
 |_=>none
theorem kg{m:List Addr}{H:Hp}{x:U}{v:V}{k:Key}(ix:Is K m H v x)(h:l8 x=some k):v=kV k:=by
 cases x<;>simp only[l8]at h<;>cases h
 ·exact ix.of_int
 ·exact ix.of_str
def gK:U->Bool
 |.non=>true|.bl _=>true|.int _=>true|.str _=>true|_=>false
def eqF:U->U->Bool
 |.non,.non=>true
 |.bl a,.bl b=>a == b
 |.bl a,.int b=>(if a then 1 else 0) == b
 |.int a,.bl b=>a == (if b then 1 else 0)
 |.int a,.int b=>a == b
 |.str a,.str b=>a == b
 |_,_=>false
def inU(x:U)(us:List U):Bool:=us.any fun y=>eqF y x
theorem sj{m:List Addr}{H:Hp}{x:U}{v:V}(ix:Is K m H v x)(h:gK x=true):nQ v=true:=by
 cases x with
 |non=>rw[ix.of_non];rfl
 |bl b=>rw[ix.of_bl];rfl
 |int i=>rw[ix.of_int];rfl
 |str i=>rw[ix.of_str];rfl
 |tup us=>cases h
 |ref l=>cases h
 |kl l=>cases h
theorem Gv{m:List Addr}{H:Hp}{x y:U}{v w:V}(ix:Is K m H v x)(iy:Is K m H w y)(hx:gK x=true)(hy:gK y=true):eqV v w=eqF x y:=by
 cases x<;>(first|cases hx|skip)<;>cases y<;>(first|cases hy|skip)
 all_goals
  (first|(have e1:=ix.of_int)|(have e1:=ix.of_bl)|(have e1:=ix.of_str)|(have e1:=ix.of_non))
  (first|(have e2:=iy.of_int)|(have e2:=iy.of_bl)|(have e2:=iy.of_str)|(have e2:=iy.of_non))
  subst e1 e2
  rfl
theorem pH{m:List Addr}{H:Hp}:∀{xs:List V} {us:List U},IsL K m H xs us->us.all gK=true->xs.all nQ=true
 |xs,[],h,_=>by rw[h.of_nil];rfl
 |xs,u::us,h,k=>by
  obtain⟨x,r,rfl,i,t⟩:=h.of_cons
  rw[List.all_cons,Bool.and_eq_true]at k ⊢
  exact⟨sj i k.1,pH t k.2⟩
theorem xj{m:List Addr}{H:Hp}{x:U}{v:V}(ix:Is K m H v x)(hx:gK x=true):∀{xs:List V} {us:List U},IsL K m H xs us->us.all gK=true->inV v xs=inU x us
 |xs,[],h,_=>by rw[h.of_nil];rfl
 |xs,u::us,h,k=>by
  obtain⟨y,r,rfl,i,t⟩:=h.of_cons
  rw[List.all_cons,Bool.and_eq_true]at k
  have ih:=xj ix hx t k.2
  unfold inV inU at ih ⊢
  rw[List.any_cons,List.any_cons,ih,Gv i ix k.1 hx]
theorem _root_.L2.DGet.kz{H:Hp}{a:Addr}{ob:Obj}{kvs:List (Key×V)}{k:Key}(e:H a=some (.frz ob (.dK kvs))):DGet H a (kV k) (fQ kvs k):=.inl ⟨kvs,k,.inr ⟨ob,e⟩,rfl,rfl⟩
def fIn(neg:Bool):U->U->Sto->Option (U×Sto):=fun x y S=>match y with
 |.tup us=>if gK x=true/\us.all gK=true then some (.bl (if neg then !inU x us else inU x us),S)else none
 |.ref l=>match S[l]? with
  |some (.lst us)=>if gK x=true/\us.all gK=true then some (.bl (if neg then !inU x us else inU x us),S)else none
  |some (.dic kus)=>(l8 x).bind fun k=>some (.bl (if neg then !(cS kus k).isSome else(cS kus k).isSome),S)
  |some (.fdc ep kus)=>(l8 x).bind fun k=>some (.bl (if neg then !(cS kus k).isSome else(cS kus k).isSome),S)
  |_=>none
 |_=>none
theorem Rf.isSome{m:List Addr}{H:Hp}{v:Option V}{u:Option U}(h:Rf K m H v u):v.isSome=u.isSome:=by
 cases v<;>cases u<;>first|rfl|exact h.elim
theorem AW{ca cb:CE}{neg:Bool}(t2:TE->TE->TE)(h2:∀ta tb σ H Q,(ta σ H fun y H1=>tb σ H1 fun x H2=>∃a o,x=.ref a/\DGet H2 a y o/\Q (.bl (if neg then !o.isSome else o.isSome)) H2)->t2 ta tb σ H Q):∀σ H Q,tE K (cOp (fIn neg) ca cb) σ H Q->tOp (rIn K neg) (tE K ca) (tE K cb) σ H Q\/t2 (tE K ca) (tE K cb) σ H Q:=by
 rintro σ H Q ⟨m,ρ,S,u,S',sr,lr,hc,post⟩
 obtain⟨⟨x,S1⟩,h1,h⟩:=Option.bind_eq_some_iff.mp hc
 obtain⟨⟨y,S2⟩,h3,h4⟩:=Option.bind_eq_some_iff.mp h
 cases y with
 |tup us=>
  simp only[fIn]at h4
  split at h4<;>try cases h4
  rename_i hf
  refine .inl ⟨m,ρ,S,x,S1,sr,lr,h1,fun m1 v1 H1 e1 sr1 i1=>⟨m1,ρ,S1,.tup us,S',sr1,lr.mono e1,h3,fun m2 v2 H2 e2 sr2 i2=>?_⟩⟩
  obtain⟨a,xs,rfl,sa,la⟩:=i2.of_tup
  refine⟨a,xs,rfl,.inr sa,sj (i1.mono e2) hf.1,pH la hf.2,?_⟩
  rw[xj (i1.mono e2) hf.1 la hf.2]
  exact post m2 _ H2 (e1.trans e2) sr2 .bl_
 |ref l=>
  simp only[fIn]at h4
  split at h4<;>try cases h4
  ·rename_i us hS
   split at h4<;>try cases h4
   rename_i hf
   refine .inl ⟨m,ρ,S,x,S1,sr,lr,h1,fun m1 v1 H1 e1 sr1 i1=>⟨m1,ρ,S1,.ref l,S',sr1,lr.mono e1,h3,fun m2 v2 H2 e2 sr2 i2=>?_⟩⟩
   obtain⟨a,ha,rfl⟩:=i2.of_ref
   obtain⟨a',ha',xs,hx,la⟩:=sr2.get hS
   rw[ha]at ha';cases ha'
   refine⟨a,xs,rfl,.inl (SqL.of hx),sj (i1.mono e2) hf.1,pH la hf.2,?_⟩
   rw[xj (i1.mono e2) hf.1 la hf.2]
   exact post m2 _ H2 (e1.trans e2) sr2 .bl_
  ·rename_i kus hS
   obtain⟨k,hk,h5⟩:=Option.bind_eq_some_iff.mp h4
   cases h5
   refine .inr (h2 _ _ _ _ _ ⟨m,ρ,S,x,S1,sr,lr,h1,fun m1 v1 H1 e1 sr1 i1=>⟨m1,ρ,S1,.ref l,S',sr1,lr.mono e1,h3,fun m2 v2 H2 e2 sr2 i2=>?_⟩⟩)
   obtain⟨a,ha,rfl⟩:=i2.of_ref
   obtain⟨a',ha',kvs,hx,ip⟩:=sr2.get hS
   rw[ha]at ha';cases ha'
   have ek:=kg (i1.mono e2) hk
   subst ek
   refine⟨a,_,rfl,DGet.k hx,?_⟩
   rw[(IsP.val ip).isSome]
   exact post m2 _ H2 (e1.trans e2) sr2 .bl_
  ·rename_i ep kus hS
   obtain⟨k,hk,h5⟩:=Option.bind_eq_some_iff.mp h4
   cases h5
   refine .inr (h2 _ _ _ _ _ ⟨m,ρ,S,x,S1,sr,lr,h1,fun m1 v1 H1 e1 sr1 i1=>⟨m1,ρ,S1,.ref l,S',sr1,lr.mono e1,h3,fun m2 v2 H2 e2 sr2 i2=>?_⟩⟩)
   obtain⟨a,ha,rfl⟩:=i2.of_ref
   obtain⟨a',ha',ob,es,kvs,hx,hd,ip⟩:=sr2.get hS
   rw[ha]at ha';cases ha'
   have ek:=kg (i1.mono e2) hk
   subst ek
   refine⟨a,_,rfl,DGet.kz hx,?_⟩
   rw[(IsP.val ip).isSome]
   exact post m2 _ H2 (e1.trans e2) sr2 .bl_
 |_=>simp[fIn]at h4
variable{e a b c:Expr}{ca cb cc:CE}{pos:Pos}
theorem Cj(hu:X.A.units+1<cLine)(ha:QE X a ca)(hb:QE X b cb)(hm:behindInMarks .NotIn b=false):QE X (.Compare a [.NotIn] [b] pos) (cOp (fIn true) ca cb):=
 ((tu lD ha hb hm).or (BK (nY hu ha hb) hm)).imp (AW (neg:=true) oX fun _ _ _ _ _ h=>h)
theorem jS(hu:X.A.units+1<cLine)(ha:QE X a ca)(hb:QE X b cb)(hm:behindInMarks .NotIn b=false):QT X (.Compare a [.NotIn] [b] pos) (aG (cOp (fIn true) ca cb)):=
 ((tf lD ha hb hm).or (vA (nY hu ha hb) hm)).imp (lZ (AW (neg:=true) oX fun _ _ _ _ _ h=>h))
def fIx:U->U->Sto->Option (U×Sto):=fun x y S=>match x with
 |.tup us=>match y with
  |.int i=>(atI us i).bind fun u=>some (u,S)
  |_=>none
 |.ref l=>match S[l]? with
  |some (.lst us)=>(match y with
   |.int i=>(atI us i).bind fun u=>some (u,S)
   |_=>none)
  |some (.dic kus)=>(l8 y).bind fun k=>(cS kus k).bind fun u=>some (u,S)
  |some (.fdc ep kus)=>(l8 y).bind fun k=>(cS kus k).bind fun u=>some (u,S)
  |_=>none
 |.kl ns=>match y with
  |.int i=>(atI (ns.map U.int) i).bind fun u=>some (u,S)
  |_=>none
 |_=>none
theorem ue{K:PySem.W.Frag}{m:List Addr}{H:Hp}:∀ns:List Int,IsL K m H (ns.map V.int) (ns.map U.int)
 |[]=>.nil_
 |n::ns=>.cons_ .int_ (ue ns)
theorem yi{m:List Addr}{H:Hp}{xs:List V}{us:List U}{i:Int}{u:U}(l:IsL K m H xs us)(h:atI us i=some u):∃v,atI xs i=some v/\Is K m H v u:=by
 unfold atI at h ⊢
 rw[l.length]
 obtain⟨j,e1,e2⟩:=Option.bind_eq_some_iff.mp h
 rw[e1]
 obtain⟨v,e3,e4⟩:=l.getD e2
 exact⟨v,e3,e4⟩
theorem bj(hu:X.A.units+1<cLine)(ha:QE X a ca)(hb:QE X b cb)(hs:sQ b)(hs2:DQ b):QE X (.Subscript a b pos) (cOp fIx ca cb):=
 ((ED (C9.or F7) ha hb hs).or (yG hu ha hb hs2)).imp fun σ H Q hz=>mh hz fun m ρ S u S' sr lr hc post=>by
 obtain⟨⟨x,S1⟩,h1,h⟩:=Option.bind_eq_some_iff.mp hc
 obtain⟨⟨y,S2⟩,h3,h4⟩:=Option.bind_eq_some_iff.mp h
 cases x with
 |tup us=>
  simp only[fIx]at h4
  split at h4<;>try cases h4
  rename_i i
  obtain⟨w,hw,h5⟩:=Option.bind_eq_some_iff.mp h4
  cases h5
  refine .inl ⟨m,ρ,S,_,S1,sr,lr,h1,fun m1 v1 H1 e1 sr1 i1=>⟨m1,ρ,S1,_,S',sr1,lr.mono e1,h3,fun m2 v2 H2 e2 sr2 i2=>.inr ?_⟩⟩
  obtain⟨a,xs,rfl,sa,la⟩:=(i1.mono e2).of_tup
  obtain⟨z,ez,iz⟩:=yi la hw
  exact⟨a,xs,i,z,rfl,i2.of_int,sa,ez,post m2 _ H2 (e1.trans e2) sr2 iz⟩
 |ref l=>
  simp only[fIx]at h4
  split at h4<;>try cases h4
  ·rename_i us hS
   split at h4<;>try cases h4
   rename_i i
   obtain⟨w,hw,h5⟩:=Option.bind_eq_some_iff.mp h4
   cases h5
   refine .inl ⟨m,ρ,S,_,S1,sr,lr,h1,fun m1 v1 H1 e1 sr1 i1=>⟨m1,ρ,S1,_,S',sr1,lr.mono e1,h3,fun m2 v2 H2 e2 sr2 i2=>.inl ?_⟩⟩
   obtain⟨a,ha,rfl⟩:=(i1.mono e2).of_ref
   obtain⟨a',ha',xs,hx,la⟩:=sr2.get hS
   rw[ha]at ha';cases ha'
   obtain⟨z,ez,iz⟩:=yi la hw
   exact⟨a,xs,i,z,rfl,i2.of_int,SqL.of hx,ez,post m2 _ H2 (e1.trans e2) sr2 iz⟩
  ·rename_i kus hS
   obtain⟨k,hk,h5⟩:=Option.bind_eq_some_iff.mp h4
   obtain⟨w,hw,h6⟩:=Option.bind_eq_some_iff.mp h5
   cases h6
   refine .inr ⟨m,ρ,S,_,S1,sr,lr,h1,fun m1 v1 H1 e1 sr1 i1=>⟨m1,ρ,S1,_,S',sr1,lr.mono e1,h3,fun m2 v2 H2 e2 sr2 i2=>?_⟩⟩
   obtain⟨a,ha,rfl⟩:=(i1.mono e2).of_ref
   obtain⟨a',ha',kvs,hx,ip⟩:=sr2.get hS
   rw[ha]at ha';cases ha'
   have ek:=kg i2 hk
   subst ek
   have rf:=IsP.val (k:=k) ip
   rw[hw]at rf
   cases hv:fQ kvs k with
   |none=>rw[hv]at rf;exact rf.elim
   |some z=>
    rw[hv]at rf
    exact⟨a,z,rfl,by have:=DGet.k (k:=k) hx;rw[hv]at this;exact this,post m2 _ H2 (e1.trans e2) sr2 rf⟩
  ·rename_i ep kus hS
   obtain⟨k,hk,h5⟩:=Option.bind_eq_some_iff.mp h4
   obtain⟨w,hw,h6⟩:=Option.bind_eq_some_iff.mp h5
   cases h6
   refine .inr ⟨m,ρ,S,_,S1,sr,lr,h1,fun m1 v1 H1 e1 sr1 i1=>⟨m1,ρ,S1,_,S',sr1,lr.mono e1,h3,fun m2 v2 H2 e2 sr2 i2=>?_⟩⟩
   obtain⟨a,ha,rfl⟩:=(i1.mono e2).of_ref
   obtain⟨a',ha',ob,es,kvs,hx,hd,ip⟩:=sr2.get hS
   rw[ha]at ha';cases ha'
   have ek:=kg i2 hk
   subst ek
   have rf:=IsP.val (k:=k) ip
   rw[hw]at rf
   cases hv:fQ kvs k with
   |none=>rw[hv]at rf;exact rf.elim
   |some z=>
    rw[hv]at rf
    exact⟨a,z,rfl,by have:=DGet.kz (k:=k) hx;rw[hv]at this;exact this,post m2 _ H2 (e1.trans e2) sr2 rf⟩
 |kl ns=>
  simp only[fIx]at h4
  split at h4<;>try cases h4
  rename_i i
  obtain⟨w,hw,h5⟩:=Option.bind_eq_some_iff.mp h4
  cases h5
  refine .inl ⟨m,ρ,S,_,S1,sr,lr,h1,fun m1 v1 H1 e1 sr1 i1=>⟨m1,ρ,S1,_,S',sr1,lr.mono e1,h3,fun m2 v2 H2 e2 sr2 i2=>.inl ?_⟩⟩
  obtain⟨a,rfl,ka⟩:=(i1.mono e2).of_kl
  obtain⟨z,ez,iz⟩:=yi (ue (K:=X.K) (m:=m2) (H:=H2) ns) hw
  exact⟨a,_,i,z,rfl,i2.of_int,ka.sq,ez,post m2 _ H2 (e1.trans e2) sr2 iz⟩
 |_=>simp[fIx]at h4
def nc:U->U->U->Sto->Option Sto:=fun o i v S=>match o with
 |.ref l=>match S[l]? with
  |some (.lst us)=>(match i with
   |.int k=>(ixN us.length k).bind fun j=>some (S.set l (.lst (us.set j v)))
   |_=>none)
  |some (.dic kus)=>(l8 i).bind fun k=>if kus.length<LIM then some (S.set l (.dic (lB kus k v)))else none
  |_=>none
 |_=>none
def gv(co ci cv:CE):CS:=fun ρ S=>(cv ρ S).bind fun p=>(co ρ p.2).bind fun q=>(ci ρ q.2).bind fun r=>(nc q.1 r.1 p.1 r.2).bind fun S'=>some (.nx,ρ,S')
theorem d3{o i:Expr}{co ci cv:CE}{pos':Pos}(hu:X.A.units+1<cLine)(ho:QE X o co)(hi:QE X i ci)(hv:QE X e cv)
  (hs0:swapsWithSole [.Subscript o i pos'] e pos.line X.env=pure false:=by rfl) (hw:swappedStores [.Subscript o i pos'] e X.env=pure none:=by rfl)
  (h1:(assignEach [.Subscript o i pos'] X.env).map (·.2)=[assign (.Subscript o i pos') X.env]:=by rfl)
  (hs:swapsWith e (some (.Subscript o i pos')) pos.line X.env=pure false:=by rfl)
  (ha:∀v,assign (.Subscript o i pos') X.env v=(do
   let ov <-holding [v] (eval o X.env)
   let iv <-holding [v,ov] (eval i X.env)
   standAt pos'
   holding [v,ov,iv] (setItem ov iv v)
   release [v,ov,iv] []):=by intro _;rfl):QS X (.Assign [.Subscript o i pos'] e pos) (gv co ci cv):=
 ((vE hv (BE ho hi yU ha) hs0 hw h1).or (yA hu ho hi hv hs)).imp fun D σ H hz=>vm hz fun m ρ S o ρ' S' sr lr hc post=>by
 obtain⟨⟨v,S1⟩,h1,h⟩:=Option.bind_eq_some_iff.mp hc
 obtain⟨⟨ou,S2⟩,h2,h⟩:=Option.bind_eq_some_iff.mp h
 obtain⟨⟨iu,S3⟩,h3,h⟩:=Option.bind_eq_some_iff.mp h
 obtain⟨S4,h4,h⟩:=Option.bind_eq_some_iff.mp h
 cases h
 cases ou with
 |ref l=>
  simp only[nc]at h4
  split at h4<;>try cases h4
  ·rename_i us hS
   split at h4<;>try cases h4
   rename_i k
   obtain⟨j,hj,h5⟩:=Option.bind_eq_some_iff.mp h4
   cases h5
   refine .inl ⟨m,ρ,S,v,S1,sr,lr,h1,fun m1 v1 H1 e1 sr1 i1=>⟨m1,ρ,S1,_,S2,sr1,lr.mono e1,h2,fun m2 v2 H2 e2 sr2 i2=>⟨m2,ρ,S2,_,S3,sr2,lr.mono (e1.trans e2),h3,fun m3 v3 H3 e3 sr3 i3=>?_⟩⟩⟩
   obtain⟨a,ha,rfl⟩:=(i2.mono e3).of_ref
   obtain⟨a',ha',xs,hx,la⟩:=sr3.get hS
   rw[ha]at ha';cases ha'
   have e13:=(e1.trans e2).trans e3
   have ek:Ext X.K m3 H3 m3 (upd H3 a (.lst (xs.set j v1))):=.of (sr3.keep ha _)
   refine⟨a,xs,k,j,rfl,i3.of_int,hx,by rw[la.length];exact hj,post m3 σ _ (e13.trans ek) (sr3.put ha ⟨_,aP,((la.set (i1.mono (e2.trans e3)))).mono ek⟩) (lr.mono (e13.trans ek))⟩
  ·rename_i kus hS
   obtain⟨k,hk,h5⟩:=Option.bind_eq_some_iff.mp h4
   split at h5<;>try cases h5
   have hlen:kus.length<LIM:=by assumption
   refine .inr ⟨m,ρ,S,v,S1,sr,lr,h1,fun m1 v1 H1 e1 sr1 i1=>⟨m1,ρ,S1,_,S2,sr1,lr.mono e1,h2,fun m2 v2 H2 e2 sr2 i2=>⟨m2,ρ,S2,_,S3,sr2,lr.mono (e1.trans e2),h3,fun m3 v3 H3 e3 sr3 i3=>?_⟩⟩⟩
   obtain⟨a,ha,rfl⟩:=(i2.mono e3).of_ref
   obtain⟨a',ha',kvs,hx,ip⟩:=sr3.get hS
   rw[ha]at ha';cases ha'
   have ek:=kg i3 hk
   subst ek
   have e13:=(e1.trans e2).trans e3
   have ee:Ext X.K m3 H3 m3 (upd H3 a (.dK (l6 kvs k v1))):=.of (sr3.keep ha _)
   exact⟨a,_,rfl,GP.k hx (FR (by rw[IsP.length ip];exact hlen)),post m3 σ _ (e13.trans ee) (sr3.put ha ⟨_,aP,(IsP.put ip (i1.mono (e2.trans e3))).mono ee⟩) (lr.mono (e13.trans ee))⟩
 |_=>simp[nc]at h4
end
theorem jX{α:Type}[DecidableEq α]:∀{l l':List α},l.Nodup->(∀x∈l,x∈l')->l.length<=l'.length
 |[],_,_,_=>Nat.zero_le _
 |x::r,l',nd,s=>by
  obtain⟨h1,h2⟩:=List.nodup_cons.mp nd
  have hx:=s x List.mem_cons_self
  have:=jX (l:=r) (l':=l'.erase x) h2 fun y hy=>(List.mem_erase_of_ne (fun z=>h1 (by rw[<-z];exact hy))).mpr (s y (List.mem_cons_of_mem _ hy))
  rw[List.length_erase_of_mem hx]at this
  have hp:=List.length_pos_of_mem hx
  rw[List.length_cons]
  omega
theorem fE(f:Str)(v:V):∀fs:List (Str×V),(nM f v fs).map (·.1)=if f∈fs.map (·.1)then fs.map (·.1)else fs.map (·.1)++[f]
 |[]=>by simp[nM]
 |(g,x)::r=>by
  unfold nM
  by_cases e:g=f
  ·simp[e]
  ·have ih:=fE f v r
   rw[if_neg e,List.map_cons,List.map_cons,ih]
   by_cases c:f∈r.map (·.1)
   ·rw[if_pos c,if_pos (List.mem_cons_of_mem _ c)]
   ·rw[if_neg c,if_neg (fun z=>by rcases List.mem_cons.mp z with z|z;exact e z.symm;exact c z)]
    rfl
section
variable{X:Cx}{K:PySem.W.Frag}{m:List Addr}{H:Hp}{c:Cl}{fs:List (Str×V)}{fus:List (Option U)}
theorem InF.room(h:InF K m H c fs fus):fs.length<1000:=by
 have:=jX h.knd h.sub
 rw[List.length_map]at this
 have:=h.few
 omega
theorem mW{f:Str}:∀{fs:List (Str×V)},f∉fs.map (·.1)->fs.lookup f=none
 |[],_=>rfl
 |(g,x)::r,h=>by
  rw[List.lookup_cons]
  have h1:(f == g)=false:=by
   apply beq_eq_false_iff_ne.mpr
   intro z;exact h (by rw[z];exact List.mem_cons_self)
  rw[h1]
  exact mW fun z=>h (List.mem_cons_of_mem _ z)
theorem InF.none_{f:Str}(h:InF K m H c fs fus)(hf:f∉c.ns):fs.lookup f=none:=mW fun z=>hf (h.sub f z)
theorem InF.put{f:Str}{i:Nat}{v:V}{u:U}(h:InF K m H c fs fus)(hi:c.ns[i]?=some f)(hv:Is K m H v u):InF K m H c (nM f v fs) (fus.set i (some u)):=by
 have hfm:f∈c.ns:=List.mem_of_getElem? hi
 refine⟨h.nd,h.few,?_,fun x hx=>?_,by simp[h.len],fun j x hj=>?_⟩
 ·rw[fE]
  split
  ·exact h.knd
  ·rename_i hn
   rw[List.nodup_append]
   exact⟨h.knd,by simp,fun a ha b hb z=>by simp at hb;subst hb;subst z;exact hn ha⟩
 ·rw[fE]at hx
  split at hx
  ·exact h.sub x hx
  ·rcases List.mem_append.mp hx with z|z
   ·exact h.sub x z
   ·simp at z;subst z;exact hfm
 ·rw[jo]
  by_cases e:i=j
  ·subst e
   rw[hi]at hj;cases hj
   rw[if_pos rfl]
   have:i<fus.length:=by rw[h.len];exact(List.getElem?_eq_some_iff.mp hi).1
   rw[List.getElem?_set_self this]
   exact hv
  ·have ne:x≠f:=fun z=>by
    subst z
    obtain⟨p1,e1⟩:=List.getElem?_eq_some_iff.mp hi
    obtain⟨p2,e2⟩:=List.getElem?_eq_some_iff.mp hj
    exact e ((List.getElem_inj h.nd).mp (e1.trans e2.symm))
   rw[if_neg ne,List.getElem?_set_ne e]
   exact h.at_ j x hj
theorem InF.new(nd:c.ns.Nodup)(few:c.ns.length<1000):InF K m H c [] (List.replicate c.ns.length none):=by
 refine⟨nd,few,by simp,fun x hx=>by simp at hx,by simp,fun i x hi=>?_⟩
 rw[List.getElem?_replicate]
 split<;>exact trivial
open Classical in
def Gu(c:Cl)(i:Nat)(x:U)(S:Sto):Option (U×Sto):=match x with
 |.ref l=>match S[l]? with
  |some (.ins c' fus)=>if c'=c then(fus[i]?).join.bind fun u=>some (u,S)else none
  |_=>none
 |_=>none
def nV(c:Cl)(i:Nat)(ca:CE):CE:=fun ρ S=>(ca ρ S).bind fun p=>Gu c i p.1 p.2
open Classical in
def xA(c:Cl)(i:Nat)(x v:U)(S:Sto):Option Sto:=match x with
 |.ref l=>match S[l]? with
  |some (.ins c' fus)=>if c'=c then some (S.set l (.ins c (fus.set i (some v))))else none
  |_=>none
 |_=>none
def kI(c:Cl)(i:Nat)(ca cv:CE):CS:=fun ρ S=>(cv ρ S).bind fun p=>(ca ρ p.2).bind fun q=>(xA c i q.1 p.1 q.2).bind fun S'=>some (.nx,ρ,S')
variable{e:Expr}{ca cv:CE}{pos:Pos}{f:Str}{i:Nat}
theorem gI(hcl:Cls X.K c.C)(hna:i9 X.K c.C f)(hi:c.ns[i]?=some f)(h:QE X e ca)(hb:attributeBase e f X.env (eval e X.env)=eval e X.env:=by rfl):QE X (.Attribute e f pos) (nV c i ca):=(BJ h hb).imp fun σ H Q hz=>mh hz fun m ρ S u S' sr lr hc post=>by
 obtain⟨⟨x,S1⟩,h1,h2⟩:=Option.bind_eq_some_iff.mp hc
 refine⟨m,ρ,S,x,S1,sr,lr,h1,fun m1 v1 H1 e1 sr1 i1=>?_⟩
 cases x with
 |ref l=>
  simp only[Gu]at h2
  split at h2<;>try cases h2
  rename_i c' fus hS
  split at h2<;>try cases h2
  rename_i hc'
  subst hc'
  obtain⟨w,hw,h3⟩:=Option.bind_eq_some_iff.mp h2
  cases h3
  obtain⟨a,ha,rfl⟩:=i1.of_ref
  obtain⟨a',ha',dx,fs,hx,inf⟩:=sr1.get hS
  rw[ha]at ha';cases ha'
  have rf:=inf.at_ i f hi
  rw[hw]at rf
  cases hv:fs.lookup f with
  |none=>rw[hv]at rf;exact rf.elim
  |some z=>
   rw[hv]at rf
   exact⟨a,_,dx,fs,z,rfl,hx,hcl,hna,hv,post m1 _ H1 e1 sr1 rf⟩
 |_=>simp[Gu]at h2
theorem fD{o:Expr}{co:CE}{pos':Pos}(hcl:Cls X.K c.C)(hna:i9 X.K c.C f)(hi:c.ns[i]?=some f)(ho:QE X o co)(hv:QE X e cv)(hs:swapsWith e (some (.Attribute o f pos')) pos.line X.env=pure false:=by rfl):QS X (.Assign [.Attribute o f pos'] e pos) (kI c i co cv):=(BB ho hv hs).imp fun D σ H hz=>vm hz fun m ρ S o ρ' S' sr lr hc post=>by
 obtain⟨⟨v,S1⟩,h1,h⟩:=Option.bind_eq_some_iff.mp hc
 obtain⟨⟨x,S2⟩,h2,h⟩:=Option.bind_eq_some_iff.mp h
 obtain⟨S3,h3,h⟩:=Option.bind_eq_some_iff.mp h
 cases h
 refine⟨m,ρ,S,v,S1,sr,lr,h1,fun m1 v1 H1 e1 sr1 i1=>⟨m1,ρ,S1,x,S2,sr1,lr.mono e1,h2,fun m2 v2 H2 e2 sr2 i2=>?_⟩⟩
 cases x with
 |ref l=>
  simp only[xA]at h3
  split at h3<;>try cases h3
  rename_i c' fus hS
  split at h3<;>try cases h3
  have hc':c'=c:=by assumption
  subst hc'
  obtain⟨a,ha,rfl⟩:=i2.of_ref
  obtain⟨a',ha',dx,fs,hx,inf⟩:=sr2.get hS
  rw[ha]at ha';cases ha'
  have ee:Ext X.K m2 H2 m2 (upd H2 a (.ins c'.C dx (nM f v1 fs))):=.of (sr2.keep ha _)
  have e12:=e1.trans e2
  exact⟨a,_,dx,fs,rfl,hx,hcl,hna,inf.room,post m2 σ _ (e12.trans ee) (sr2.put ha ⟨dx,_,aP,(inf.put hi (i1.mono e2)).mono ee⟩) (lr.mono (e12.trans ee))⟩
 |_=>simp[xA]at h3
structure ja(P:Program)(w:World)(K:PySem.W.Frag)(mg:Str->Option Value)(base:Heap)(c:Cl)(mn:Str)(k:Nat)(ps:List Str)(f:Fn):Prop where
 ex:∃fa fd,DJ K c.C mn fa/\lL P w K mg base CX0 k fa fd ps (yR K f)/\gW K fd ps []
theorem ja.mono{P:Program}{w:World}{mg:Str->Option Value}{base:Heap}{mn:Str}{j k:Nat}{ps:List Str}{f:Fn}(h:ja P w K mg base c mn j ps f)(l:j<=k):ja P w K mg base c mn k ps f:=by
 obtain⟨fa,fd,a,b,d⟩:=h.ex
 exact⟨fa,fd,a,b.mono l,d⟩
open Classical in
def xC(c:Cl)(f:Fn)(x:U)(S:Sto)(args:Sto->Option (List U×Sto)):Option (U×Sto):=match x with
 |.ref l=>match S[l]? with
  |some (.ins c' _)=>if c'=c then(args S).bind fun q=>f (.ref l::q.1) q.2 else none
  |_=>none
 |_=>none
def fv(c:Cl)(f:Fn)(ca:CE)(cr:CA):CE:=fun ρ S=>(ca ρ S).bind fun p=>xC c f p.1 p.2 (cr ρ)
theorem tW{mn:Str}{g:Fn}{co:CE}{cr:CA}(hmn:mn∉c.ns):∀σ H Q,tE K (fv c g co cr) σ H Q->vU c.C mn (yR K g) [] E0 (tE K co) (tA K cr) σ H Q:=by
 rintro σ H Q ⟨m,ρ,S,u,S',sr,lr,hc,post⟩
 obtain⟨⟨x,S1⟩,h1,h2⟩:=Option.bind_eq_some_iff.mp hc
 refine⟨m,ρ,S,x,S1,sr,lr,h1,fun m1 v1 H1 e1 sr1 i1=>?_⟩
 cases x with
 |ref l=>
  simp only[xC]at h2
  split at h2<;>try cases h2
  rename_i c' fus hS
  split at h2<;>try cases h2
  rename_i hc'
  subst hc'
  obtain⟨⟨us,S2⟩,h3,h4⟩:=Option.bind_eq_some_iff.mp h2
  obtain⟨a,ha,rfl⟩:=i1.of_ref
  obtain⟨a',ha',dx,fs,hx,inf⟩:=sr1.get hS
  rw[ha]at ha';cases ha'
  refine⟨a,dx,fs,rfl,hx,inf.none_ hmn,m1,ρ,S1,us,S2,sr1,lr.mono e1,h3,fun m2 vs H2 e2 sr2 i2=>?_⟩
  exact⟨m2,_,S2,u,S',.cons_ (i1.mono e2) (by simpa using i2),sr2,h4,post.mono (e1.trans e2)⟩
 |_=>simp[xC]at h2
theorem iX{mn:Str}{g:Fn}{k:Nat}{ps:List Str}{o:Expr}{es:List Expr}{co:CE}{cr:CA}{apos:Pos}{pl:Sem Bool}(hcl:Cls X.K c.C)(F:ja X.prog X.w X.K X.mg X.base c mn k ps g)(hr:gB k X.A)(hmn:mn∉c.ns)(ho:QE X o co)(ha:QA X (e::es) cr)
  (hst:starEach (e::es) X.env=(false,eval e X.env)::starEach es X.env:=by rfl) (hpl:(backTo pos (starEach es X.env)).any (·.1)=false:=by rfl) (ht:eval (.Call (.Attribute o mn apos) (e::es) [] pos) X.env=(do
   let ov <-eval o X.env
   standAt apos.atName
   let (f,first) <-holding [ov] (getMethod ov mn pl)
   callWith pos f first (backTo pos (starEach (e::es) X.env)) (backToKw pos (keywordEach [] X.env))):=by rfl):QE X (.Call (.Attribute o mn apos) (e::es) [] pos) (fv c g co cr):=by
 obtain⟨fa,fd,hm,F,hb⟩:=F.ex
 exact(yD ho hcl hm F hr hb .nil zo ha.h hst hpl ht).imp (tW hmn)
theorem gG{mn:Str}{g:Fn}{k:Nat}{ps:List Str}{o:Expr}{co:CE}{apos:Pos}{pl:Sem Bool}(hcl:Cls X.K c.C)(F:ja X.prog X.w X.K X.mg X.base c mn k ps g)(hr:gB k X.A)(hmn:mn∉c.ns)(ho:QE X o co)
  (ht:eval (.Call (.Attribute o mn apos) [] [] pos) X.env=(do
   let ov <-eval o X.env
   standAt apos.atName
   let (f,first) <-holding [ov] (getMethod ov mn pl)
   callWith pos f first (backTo pos (starEach [] X.env)) (backToKw pos (keywordEach [] X.env))):=by rfl):QE X (.Call (.Attribute o mn apos) [] [] pos) (fv c g co aB):=by
 obtain⟨fa,fd,hm,F,hb⟩:=F.ex
 refine(vG ho hcl hm F hr hb .nil zo ht).imp fun σ H Q h=>?_
 obtain⟨m,ρ,S,u,S',sr,lr,hc,k⟩:=tW hmn σ H Q h
 refine⟨m,ρ,S,u,S',sr,lr,hc,fun m1 v1 H1 e1 sr1 i1=>?_⟩
 obtain⟨a,dx,fs,h1,h2,h3,m2,ρ2,S2,us,S3,sr2,lr2,h4,h5⟩:=k m1 v1 H1 e1 sr1 i1
 cases h4
 exact⟨a,dx,fs,h1,h2,h3,h5 m2 [] H1 .refl sr2 .nil_⟩
structure CMk(P:Program)(w:World)(K:PySem.W.Frag)(mg:Str->Option Value)(base:Heap)(c:Cl)(x:Str)(k:Nat)(ps:List Str)(f:Fn):Prop where
 ex:∃fa fd,Mk K c.C fa/\lL P w K mg base CX0 k fa fd ps (yR K f)/\gW K fd ps []/\mg x=some (.ref c.C)
 nd:c.ns.Nodup
 few:c.ns.length<1000
theorem CMk.mono{P:Program}{w:World}{mg:Str->Option Value}{base:Heap}{x:Str}{j k:Nat}{ps:List Str}{f:Fn}(h:CMk P w K mg base c x j ps f)(l:j<=k):CMk P w K mg base c x k ps f:=by
 obtain⟨fa,fd,a,b,d⟩:=h.ex
 exact⟨⟨fa,fd,a,b.mono l,d⟩,h.nd,h.few⟩
def xD(c:Cl)(f:Fn):Fn:=fun us S=>(f (.ref S.length::us) (S++[.ins c (List.replicate c.ns.length none)])).bind fun p=>match p.1 with
 |.non=>some (.ref S.length,p.2)
 |_=>none
theorem zI{g:Fn}{cr:CA}(nd:c.ns.Nodup)(few:c.ns.length<1000):∀σ H Q,tE K (cCB (xD c g) cr) σ H Q->BS c.C (yR K g) [] E0 (tA K cr) σ H Q:=by
 rintro σ H Q ⟨m,ρ,S,u,S',sr,lr,hc,post⟩
 obtain⟨⟨us,S1⟩,h1,h2⟩:=Option.bind_eq_some_iff.mp hc
 obtain⟨⟨w,S2⟩,h3,h4⟩:=Option.bind_eq_some_iff.mp h2
 refine⟨m,ρ,S,us,S1,sr,lr,h1,fun m1 vs H1 e1 sr1 i1 x dx hx hdx ne=>?_⟩
 cases w with
 |non=>
  cases h4
  have s1:sP H1 (upd H1 dx (.own x)):=dZ hdx _
  have hx2:(upd H1 dx (.own x)) x=none:=by rw[bH (Ne.symm ne)];exact hx
  have ee:Ext K m1 H1 (m1++[x]) (upd (upd H1 dx (.own x)) x (.ins c.C dx [])):=.new ⟨fun b xs q=>(cq hx2 _).t b xs ((eU s1).t b xs q),fun b xs q=>(cq hx2 _).l b xs ((eU s1).l b xs q)⟩
  refine⟨m1++[x],.ref S1.length::us,S1++[.ins c (List.replicate c.ns.length none)],.non,S2,.cons_ (.ref_ (d7 sr1.len)) (by simpa using i1.mono ee),(sr1.same s1).new (o:=.ins c (List.replicate c.ns.length none)) hx2 ⟨dx,[],aP,InF.new nd few⟩,h3,fun m2 v2 H2 e2 sr2 i2=>⟨i2.of_non,?_⟩⟩
  exact post m2 _ H2 ((e1.trans ee).trans e2) sr2 (.ref_ (e2.get (d7 sr1.len)))
 |_=>simp at h4
theorem E7{x:Str}{g:Fn}{k:Nat}{ps:List Str}{es:List Expr}{cr:CA}{p:Pos}(M:CMk X.prog X.w X.K X.mg X.base c x k ps g)(hr:gB (k+1) X.A)(hg:Gl X x)(ha:QA X (e::es) cr)
  (hdb:(x == ("__debug__":Str))=false:=by decide) (he:starEach (e::es) X.env=(false,eval e X.env)::starEach es X.env:=by rfl) (hpl:(backTo pos (starEach es X.env)).any (·.1)=false:=by rfl):QE X (.Call (.Name x p) (e::es) [] pos) (cCB (xD c g) cr):=by
 obtain⟨fa,fd,hm,F,hb,hx⟩:=M.ex
 exact(yE hm F hr hg hx hb .nil zo ha.h hdb he hpl).imp (zI M.nd M.few)
def Dy:CE:=fun _ S=>some (.ref S.length,S++[.dic []])
theorem E8:QE X (.Dict [] [] pos) Dy:=vI.imp fun σ H Q hz=>mh hz fun m ρ S u S' sr lr hc post=>by
 cases hc
 exact fun p hp=>post (m++[p]) _ _ (.new (cq hp _)) (sr.new hp ⟨[],aP,.nil_⟩) (.ref_ (d7 sr.len))
def GB(cd ck cx:CE):CE:=fun ρ S=>(cd ρ S).bind fun p=>match p.1 with
 |.ref l=>match p.2[l]? with
  |some (.dic _)=>(ck ρ p.2).bind fun q=>(cx ρ q.2).bind fun r=>match r.2[l]? with
   |some (.dic kus)=>(l8 q.1).bind fun k=>some ((cS kus k).getD r.1,r.2)
   |_=>none
  |_=>none
 |_=>none
end
def rE(n:Nat)(caps:List Nat)(ρ:Rho):Rho:=List.replicate n none++caps.map fun i=>(ρ[i]?).getD none
open Classical in
def j4(ok:Sto->Prop)(g:CG)(ce:CE)(l:Nat):List U->Rho->Sto->Option Sto
 |[],_,S=>if ok S then some S else none
 |u::us,ρ,S=>if ok S then(g u ρ S).bind fun p=>(ce p.1 p.2).bind fun r=>match r.2[l]? with
  |some (.lst ys)=>if ys.length<LIM then j4 ok g ce l us p.1 (r.2.set l (.lst (ys++[r.1])))else none
  |_=>none else none
def sI(ci:CI)(g:CG)(ce:CE)(n:Nat)(caps:List Nat):CE:=fun ρ S=>(ci ρ S).bind fun p=>(j4 p.2.1 g ce p.2.2.length p.1 (rE n caps ρ) (p.2.2++[.lst []])).bind fun S'=>some (.ref p.2.2.length,S')
section
variable{X:Cx}{K:PySem.W.Frag}
theorem wO{m:List Addr}{H:Hp}{ρ:Rho}{σ:L2.St}{n:Nat}{caps:List Nat}(lr:Lr K m H ρ σ):Lr K m H (rE n caps ρ) (OG.stC n caps σ):=by
 refine⟨by simp[rE,OG.stC],fun j u e=>?_⟩
 unfold rE at e
 unfold OG.stC
 by_cases c:j<n
 ·rw[List.getElem?_append_left (by simpa using c),List.getElem?_replicate]at e
  split at e<;>cases e
 ·rw[List.getElem?_append_right (by simp;omega),List.getElem?_map]at e ⊢
  simp only[List.length_replicate]at e ⊢
  cases q:caps[j-n]? with
  |none=>rw[q]at e;simp at e
  |some i=>
   rw[q]at e
   simp only[Option.map_some,Option.some.injEq]at e ⊢
   have e2:ρ[i]?=some (some u):=by
    cases z:ρ[i]? with
    |none=>rw[z]at e;simp at e
    |some y=>rw[z]at e;simp at e;rw[e]
   obtain⟨v,h1,h2⟩:=lr.at_ i u e2
   exact⟨v,by rw[h1];rfl,h2⟩
theorem xX{g:CG}{ce:CE}{n:Nat}{caps:List Nat}{J:It}{us:List U}{ok:Sto->Prop}{Q:VK}{m1:List Addr}{H1:Hp}{S1 S':Sto}{ρ:Rho}{σ:L2.St}{l:Addr}(sr1:Sr K m1 S1 H1)(lr:Lr K m1 H1 ρ σ)(ito:yp K J m1 H1 us ok)(hl:H1 l=none)(h2:j4 ok g ce S1.length us (rE n caps ρ) (S1++[.lst []])=some S')
  (post:∀m2 H2,Ext K (m1++[l]) (upd H1 l (.lst [])) m2 H2->Sr K m2 S' H2->Q (.ref l) H2) :
  ∃W:Nat->Nat->L2.St->Hp->Prop,(∃m,W 0 m (OG.stC n caps σ) (upd H1 l (.lst [])))/\
 ∀i m σ' H2,W i m σ' H2->(J.stop i H2/\Q (.ref l) H2)\/(J.go i H2/\∃N:L2.St->Hp->Prop,(∀σ'' H',N σ'' H'->∃m',m'<m/\W (i+1) m' σ'' H')/\
  ∀x H3,J.yld i H2 x H3->tG K g x σ' H3 fun σ2 H4=>tE K ce σ2 H4 fun v H5=>∃ys,H5 l=some (.lst ys)/\ys.length<sizeLine/\N σ2 (upd H5 l (.lst (ys++[v])))):=by
 have ee:Ext K m1 H1 (m1++[l]) (upd H1 l (.lst [])):=.new (cq hl _)
 let W:Nat->Nat->L2.St->Hp->Prop:=fun i k σ2 H2=>k=us.length-i/\i<=us.length/\∃m2 ρ2 S2,Ext K (m1++[l]) (upd H1 l (.lst [])) m2 H2/\Sr K m2 S2 H2/\Lr K m2 H2 ρ2 σ2/\j4 ok g ce S1.length (us.drop i) ρ2 S2=some S'
 refine⟨W,⟨us.length,by simp,Nat.zero_le _,m1++[l],rE n caps ρ,S1++[.lst []],.refl,sr1.new (o:=.lst []) hl ⟨[],aP,.nil_⟩,wO (lr.mono ee),by simpa using h2⟩,?_⟩
 rintro i k σ2 H2 ⟨rfl,hi,m2,ρ2,S2,e2,sr2,lr2,hl2⟩
 by_cases hlt:i<us.length
 ·have hu:=List.getElem?_eq_getElem hlt
  rw[j3 hu]at hl2
  unfold j4 at hl2
  split at hl2
  ·rename_i hok
   obtain⟨⟨ρ3,S3⟩,h3,hl2⟩:=Option.bind_eq_some_iff.mp hl2
   obtain⟨⟨u4,S4⟩,h4,hl2⟩:=Option.bind_eq_some_iff.mp hl2
   simp only at hl2
   split at hl2<;>try cases hl2
   rename_i ys hys
   split at hl2<;>try cases hl2
   rename_i hlen
   obtain⟨hgo,hy⟩:=(ito m2 S2 H2 i (ee.trans e2) sr2 hok).1 _ hu
   refine .inr ⟨hgo,W (i+1) (us.length-(i+1)),fun σ' H' w'=>⟨_,by omega,w'⟩,fun x H3 y=>?_⟩
   obtain⟨e3,sr3,ix⟩:=hy x H3 y
   refine⟨m2,ρ2,S2,_,ρ3,S3,sr3,lr2.mono e3,ix,h3,fun m4 σ4 H4 e4 sr4 lr4=>⟨m4,ρ3,S3,u4,S4,sr4,lr4,h4,fun m5 v5 H5 e5 sr5 i5=>?_⟩⟩
   obtain⟨a',ha',xs,hx,il⟩:=sr5.get hys
   have ha:m5[S1.length]?=some l:=(((e2.trans e3).trans e4).trans e5).get (d7 sr1.len)
   rw[ha]at ha';cases ha'
   have eu:Ext K m5 H5 m5 (upd H5 l (.lst (xs++[v5]))):=.of (sr5.keep ha _)
   refine⟨xs,hx,FR (by rw[il.length];exact hlen),rfl,hlt,m5,ρ3,_,((((e2.trans e3).trans e4).trans e5).trans eu),sr5.put (o:=.lst (ys++[u4])) ha ⟨_,aP,(il.append (.cons_ i5 .nil_)).mono eu⟩,(lr4.mono (e5.trans eu)),hl2⟩
  ·cases hl2
 ·have e:i=us.length:=by omega
  subst e
  rw[List.drop_length]at hl2
  unfold j4 at hl2
  split at hl2
  ·rename_i hok
   cases hl2
   exact .inl ⟨(ito m2 _ H2 _ (ee.trans e2) sr2 hok).2 (Nat.le_refl _),post m2 H2 e2 sr2⟩
  ·cases hl2
theorem Ae{ci:CI}{g:CG}{ce:CE}{n:Nat}{caps:List Nat}:∀σ H Q,tE K (sI ci g ce n caps) σ H Q->BU (tI K ci) (tG K g) (tE K ce) n caps σ H Q:=by
 rintro σ H Q ⟨m,ρ,S,u,S',sr,lr,hc,post⟩
 obtain⟨⟨us,ok,S1⟩,h1,h2⟩:=Option.bind_eq_some_iff.mp hc
 obtain⟨S2,h2,h3⟩:=Option.bind_eq_some_iff.mp h2
 cases h3
 refine⟨m,ρ,S,us,ok,S1,sr,lr,h1,fun m1 H1 J e1 sr1 ito l hl=>?_⟩
 have ee:Ext K m1 H1 (m1++[l]) (upd H1 l (.lst [])):=.new (cq hl _)
 exact xX sr1 (lr.mono e1) ito hl h2 fun m2 H2 e2 sr2=>post m2 _ H2 ((e1.trans ee).trans e2) sr2 (.ref_ (e2.get (d7 sr1.len)))
theorem AI{Nc capN tn:List Str}{scope:Scope}{cl:List (Str×Addr)}{n:Nat}{caps:List Nat}{tg iter elt:Expr}{pos:Pos}{ci:CI}{g:CG}{ce:CE}
  (hc:X.calm=true) (hi:QI X tg iter ci) (hg:∀s3 H3 fp,WG (cxC X Nc scope cl s3 H3 fp) tg (tG X.K g)) (he:∀s3 H3 fp,WE (cxC X Nc scope cl s3 H3 fp) elt (tE X.K ce))
  (hclos:closureFor scope X.env=pure cl) (hkind:scope.kind=.function) (hnl:∀x∈scope.names,x.2=.local->scope.names.lookup x.1=some .local) (hcell:∀x∈scope.names,x.2≠.cell)
  (hcl:vv X.env cl) (hhas:((relabel scope X.env).names.all fun p=>!(p.2 == .cell||p.2 == .free)||(cl.lookup p.1).isSome)=true)
  (hcap:Paired (Cap X scope cl) caps capN) (hN:Nc=tn++capN) (hn:tn.length=n)
  (hs:∀x,foldedSetIterable iter X.env x=pure x:=by intro _;rfl) :
  QE X (.ListComp elt [⟨tg,iter,[],0⟩] scope pos) (sI ci g ce n caps):=(yH hc hi hg he hclos hkind hnl hcell hcl hhas hcap hN hn hs).imp Ae
def gh:Fn
 |[.tup us],S=>some (.int us.length,S)
 |[.ref l],S=>match S[l]? with
  |some (.lst us)=>some (.int us.length,S)
  |some (.dic us)=>some (.int us.length,S)
  |_=>none
 |[.kl ns],S=>some (.int ns.length,S)
 |_,_=>none
abbrev J3(K:PySem.W.Frag):List V->Hp->VK->Prop:=fun xs H Q=>(∃p ys,xs=[.ref p]/\(SqL K H p ys\/SqT K H p ys)/\Q (.int ys.length) H)\/∃a kvs,xs=[V.ref a]/\H a=some (.dK kvs)/\Q (.int kvs.length) H
theorem iE:fP X (.builtin "len") (J3 X.K):=rp.or x5
theorem IsL.one{m:List Addr}{H:Hp}{vs:List V}{u:U}(h:IsL K m H vs [u]):∃v,vs=[v]/\Is K m H v u:=by
 obtain⟨x,r,rfl,i,t⟩:=h.of_cons
 rw[t.of_nil];exact⟨x,rfl,i⟩
theorem IsL.two{m:List Addr}{H:Hp}{vs:List V}{u w:U}(h:IsL K m H vs [u,w]):∃v x,vs=[v,x]/\Is K m H v u/\Is K m H x w:=by
 obtain⟨x,r,rfl,i,t⟩:=h.of_cons
 obtain⟨y,rfl,j⟩:=t.one
 exact⟨x,y,rfl,i,j⟩
theorem iD:nH K (J3 K) gh:=by
 intro m S H us vs u S' Q sr i hf post
 match us,hf with
 |[.tup ws],hf=>
  cases hf
  obtain⟨v,rfl,iv⟩:=i.one
  obtain⟨a,xs,rfl,sa,la⟩:=iv.of_tup
  exact .inl ⟨a,xs,rfl,.inr sa,by rw[la.length];exact post m _ H .refl sr .int_⟩
 |[.ref l],hf=>
  obtain⟨v,rfl,iv⟩:=i.one
  obtain⟨a,ha,rfl⟩:=iv.of_ref
  simp only[gh]at hf
  split at hf<;>try cases hf
  ·rename_i ws hS
   obtain⟨a',ha',xs,hx,la⟩:=sr.get hS
   rw[ha]at ha';cases ha'
   exact .inl ⟨a,xs,rfl,.inl (SqL.of hx),by rw[la.length];exact post m _ H .refl sr .int_⟩
  ·rename_i ws hS
   obtain⟨a',ha',xs,hx,la⟩:=sr.get hS
   rw[ha]at ha';cases ha'
   exact .inr ⟨a,xs,rfl,hx,by rw[IsP.length la];exact post m _ H .refl sr .int_⟩
 |[.kl ns],hf=>
  cases hf
  obtain⟨v,rfl,iv⟩:=i.one
  obtain⟨a,rfl,ka⟩:=iv.of_kl
  exact .inl ⟨a,_,rfl,.inl ka.sq,by rw[List.length_map];exact post m _ H .refl sr .int_⟩
def lT:Fn
 |[.tup us],S=>some (.ref S.length,S++[.lst us])
 |[.ref l],S=>match S[l]? with
  |some (.lst us)=>some (.ref S.length,S++[.lst us])
  |_=>none
 |_,_=>none
theorem ox:nH K (fun xs H Q=>∃p ys,xs=[.ref p]/\(SqL K H p ys\/SqT K H p ys)/\∀l,H l=none->Q (.ref l) (upd H l (.lst ys))) lT:=by
 intro m S H us vs u S' Q sr i hf post
 match us,hf with
 |[.tup ws],hf=>
  cases hf
  obtain⟨v,rfl,iv⟩:=i.one
  obtain⟨a,xs,rfl,sa,la⟩:=iv.of_tup
  exact⟨a,xs,rfl,.inr sa,fun l hl=>d4 sr la post hl⟩
 |[.ref l],hf=>
  obtain⟨v,rfl,iv⟩:=i.one
  obtain⟨a,ha,rfl⟩:=iv.of_ref
  simp only[lT]at hf
  split at hf<;>try cases hf
  rename_i ws hS
  obtain⟨a',ha',xs,hx,la⟩:=sr.get hS
  rw[ha]at ha';cases ha'
  exact⟨a,xs,rfl,.inl (SqL.of hx),fun l hl=>d4 sr la post hl⟩
def gU:Fn
 |[.tup us],S=>some (.tup us,S)
 |[.ref l],S=>match S[l]? with
  |some (.lst us)=>some (.tup us,S)
  |_=>none
 |_,_=>none
theorem jn:nH K (fun xs H Q=>∃p ys,xs=[.ref p]/\((SqL K H p ys/\∀l,H l=none->Q (.ref l) (upd H l (.tup ys)))\/(SqT K H p ys/\Q (.ref p) H))) gU:=by
 intro m S H us vs u S' Q sr i hf post
 match us,hf with
 |[.tup ws],hf=>
  cases hf
  obtain⟨v,rfl,iv⟩:=i.one
  obtain⟨a,xs,rfl,sa,la⟩:=iv.of_tup
  exact⟨a,xs,rfl,.inr ⟨sa,post m _ H .refl sr iv⟩⟩
 |[.ref l],hf=>
  obtain⟨v,rfl,iv⟩:=i.one
  obtain⟨a,ha,rfl⟩:=iv.of_ref
  simp only[gU]at hf
  split at hf<;>try cases hf
  rename_i ws hS
  obtain⟨a',ha',xs,hx,la⟩:=sr.get hS
  rw[ha]at ha';cases ha'
  exact⟨a,xs,rfl,.inl ⟨SqL.of hx,fun l hl=>o9 sr la post hl⟩⟩
def zZ:Fn
 |[.int i],S=>some (.int i,S)
 |[.bl b],S=>some (.int (if b then 1 else 0),S)
 |_,_=>none
theorem CO:nH K (fun xs H Q=>(∃i,xs=[.int i]/\Q (.int i) H)\/∃k,xs=[.bl k]/\Q (.int (if k then 1 else 0)) H) zZ:=by
 intro m S H us vs u S' Q sr i hf post
 match us,hf with
 |[.int j],hf=>
  cases hf
  obtain⟨v,rfl,iv⟩:=i.one
  exact .inl ⟨j,by rw[iv.of_int],post m _ H .refl sr .int_⟩
 |[.bl j],hf=>
  cases hf
  obtain⟨v,rfl,iv⟩:=i.one
  exact .inr ⟨j,by rw[iv.of_bl],post m _ H .refl sr .int_⟩
def JE:Fn
 |[.int i,.int j],S=>some (.int (if j<i then j else i),S)
 |_,_=>none
theorem Ja:nH K (fun xs H Q=>∃i j,xs=[.int i,.int j]/\Q (.int (if j<i then j else i)) H) JE:=by
 intro m S H us vs u S' Q sr i hf post
 match us,hf with
 |[.int j,.int k],hf=>
  cases hf
  obtain⟨v,w,rfl,iv,iw⟩:=i.two
  exact⟨j,k,by rw[iv.of_int,iw.of_int],post m _ H .refl sr .int_⟩
def qI:List U->Option (List Int)
 |[]=>some []
 |.int i::r=>(qI r).map (i::·)
 |_=>none
theorem me:∀{us:List U} {ns:List Int},qI us=some ns->us=ns.map U.int
 |[],ns,h=>by cases h;rfl
 |u::r,ns,h=>by
  cases u<;>simp only[qI]at h<;>try cases h
  obtain⟨ms,e,h⟩:=Option.map_eq_some_iff.mp h
  subst h
  rw[me e];rfl
theorem iG:∀(ns:List Int),qI (ns.map U.int)=some ns
 |[]=>rfl
 |n::r=>by simp[qI,iG r]
theorem IsL.ints{m:List Addr}{H:Hp}:∀{xs:List V} {ns:List Int},IsL K m H xs (ns.map U.int)->xs=ns.map V.int
 |xs,[],h=>h.of_nil
 |xs,n::ns,h=>by
  obtain⟨x,r,rfl,i,t⟩:=h.of_cons
  rw[IsL.ints t,i.of_int];rfl
theorem iP{m:List Addr}{H:Hp}:∀(ns:List Int),IsL K m H (ns.map V.int) (ns.map U.int)
 |[]=>.nil_
 |n::ns=>.cons_ .int_ (iP ns)
inductive Ty where
 |non|bool|int|str|tuple|list|dict
def Ty.nm:Ty->String
 |.non=>"NoneType"|.bool=>"bool"|.int=>"int"|.str=>"str"|.tuple=>"tuple"|.list=>"list"|.dict=>"dict"
def tyU:U->Sto->Option Ty
 |.non,_=>some .non|.bl _,_=>some .bool|.int _,_=>some .int|.str _,_=>some .str|.tup _,_=>some .tuple
 |.ref l,S=>match S[l]? with
  |some (.lst _)=>some .list
  |some (.dic _)=>some .dict
  |_=>none
 |.kl _,_=>none
def Az:Ty->Ty->Bool
 |.non,.non=>true|.bool,.bool=>true|.bool,.int=>true|.int,.int=>true|.str,.str=>true|.tuple,.tuple=>true|.list,.list=>true|.dict,.dict=>true
 |_,_=>false
theorem mZ(a b:Ty)(hb:b≠.non):PySem.W.kitOne K (.type a.nm) (.type b.nm)=some (Az a b):=by
 cases b<;>first|exact absurd rfl hb|(cases a<;>rfl)
abbrev K5(K:PySem.W.Frag):List V->Hp->VK->Prop:=fun xs H Q=>(∃(x:V) (T:String) (t:Value) (k:Bool),xs=[x,.ty T]/\uw K H x t/\PySem.W.kitOne K t (.type T)=some k/\Q (.bl k) H)\/
 ∃(a:Addr) (ys:List V) (T:String) (k:Bool),xs=[.ref a,.ty T]/\SqT K H a ys/\PySem.W.kitOne K (.type "tuple") (.type T)=some k/\Q (.bl k) H
theorem Jd:fP X (.builtin "isinstance") (K5 X.K):=by
 refine sF.or ?_
 rintro pins s σ H xs us Q I r ⟨a,ys,T,k,rfl,sq,e,q⟩
 obtain⟨u,w',rfl,ru,rw'⟩:=BR r
 cases rw'
 cases ru
 obtain⟨its,rv,ht,hz⟩:=I.tuple sq
 obtain⟨o,h1,h2,_⟩:=ht
 exact PySem.W.kia_one PySem.W.kitx_tuple I.kIn ⟨o,h1,h2⟩ e (fun z=>nomatch z) fun tk=>⟨.bl k,H,I.tok tk,rfl,q⟩
def u9(T:Ty)(ca:CE):CE:=fun ρ S=>(ca ρ S).bind fun p=>(tyU p.1 p.2).bind fun t=>some (.bl (Az t T),p.2)
theorem wm{T:Ty}{e eT:Expr}{ca:CE}{p pos:Pos}(hT0:T≠.non)(he:QE X e ca)(hT:WE X eT (tC (.ty T.nm)))(hg:Gl X "isinstance")(hm:X.mg "isinstance"=none)
  (h1:starEach [e,eT] X.env=(false,eval e X.env)::starEach [eT] X.env:=by rfl) (h2:starEach [eT] X.env=(false,eval eT X.env)::starEach [] X.env:=by rfl) (hpl:(backTo pos (starEach [eT] X.env)).any (·.1)=false:=by rfl) :
  QE X (.Call (.Name "isinstance" p) [e,eT] [] pos) (u9 T ca):=(qh Jd hg hm OG.nu (ft he (ft hT j8 h2) h1) (by decide) (by decide) h1 hpl).imp fun σ H Q hz=>mh hz fun m ρ S u S' sr lr hc post=>by
 obtain⟨⟨x,S1⟩,h1,h2⟩:=Option.bind_eq_some_iff.mp hc
 obtain⟨t,ht,h3⟩:=Option.bind_eq_some_iff.mp h2
 cases h3
 refine⟨m,ρ,S,x,_,sr,lr,h1,fun m1 v1 H1 e1 sr1 i1=>?_⟩
 have fin:=post m1 _ H1 e1 sr1 (Is.bl_ (b:=Az t T))
 cases x with
 |non=>cases ht;rw[i1.of_non];exact .inl ⟨_,_,_,_,rfl,.non,mZ .non T hT0,fin⟩
 |bl b=>cases ht;rw[i1.of_bl];exact .inl ⟨_,_,_,_,rfl,.bl b,mZ .bool T hT0,fin⟩
 |int i=>cases ht;rw[i1.of_int];exact .inl ⟨_,_,_,_,rfl,.int i,mZ .int T hT0,fin⟩
 |str i=>cases ht;rw[i1.of_str];exact .inl ⟨_,_,_,_,rfl,.str i,mZ .str T hT0,fin⟩
 |tup us=>
  cases ht
  obtain⟨a,xs,rfl,sa,la⟩:=i1.of_tup
  exact .inr ⟨a,xs,_,_,rfl,sa,mZ .tuple T hT0,fin⟩
 |ref l=>
  obtain⟨a,ha,rfl⟩:=i1.of_ref
  simp only[tyU]at ht
  split at ht<;>try cases ht
  ·rename_i ws hS
   obtain⟨a',ha',xs,hx,la⟩:=sr1.get hS
   rw[ha]at ha';cases ha'
   exact .inl ⟨_,_,_,_,rfl,.lst hx,mZ .list T hT0,fin⟩
  ·rename_i ws hS
   obtain⟨a',ha',xs,hx,la⟩:=sr1.get hS
   rw[ha]at ha';cases ha'
   exact .inl ⟨_,_,_,_,rfl,.dK hx,mZ .dict T hT0,fin⟩
 |kl ns=>cases ht
def cBM(f:U->List U->Sto->Option (U×Sto))(co:CE)(cr:CA):CE:=fun ρ S=>(co ρ S).bind fun p=>match p.1 with
 |.ref l=>match p.2[l]? with
  |some (.lst _)=>(cr ρ p.2).bind fun q=>f p.1 q.1 q.2
  |_=>none
 |_=>none
def MtP(K:PySem.W.Frag)(r:V->List V->Hp->VK->Prop)(f:U->List U->Sto->Option (U×Sto)):Prop:=
 ∀m S H x v us vs u S' Q,Sr K m S H->Is K m H v x->IsL K m H vs us->f x us S=some (u,S')->j6 K m H Q u S'->r v vs H Q
theorem A6{r:V->List V->Hp->VK->Prop}{f:U->List U->Sto->Option (U×Sto)}{co:CE}{cr:CA}(hp:MtP K r f):∀σ H Q,tE K (cBM f co cr) σ H Q->tBM K "list" r (tE K co) (tA K cr) σ H Q:=by
 rintro σ H Q ⟨m,ρ,S,u,S',sr,lr,hc,post⟩
 obtain⟨⟨x,S1⟩,h1,h2⟩:=Option.bind_eq_some_iff.mp hc
 refine⟨m,ρ,S,x,S1,sr,lr,h1,fun m1 v1 H1 e1 sr1 i1=>?_⟩
 cases x with
 |ref l=>
  simp only at h2
  split at h2<;>try cases h2
  rename_i ws hS
  obtain⟨⟨us,S2⟩,h3,h4⟩:=Option.bind_eq_some_iff.mp h2
  obtain⟨a,ha,rfl⟩:=id i1.of_ref
  obtain⟨a',ha',xs,hx,la⟩:=sr1.get hS
  rw[ha]at ha';cases ha'
  exact⟨.inl ⟨rfl,xs,SqL.of hx⟩,m1,ρ,S1,us,S2,sr1,lr.mono e1,h3,fun m2 vs H2 e2 sr2 i2=>hp m2 S2 H2 _ _ us vs u S' Q sr2 (i1.mono e2) i2 h4 (post.mono (e1.trans e2))⟩
 |_=>simp at h2
def bW:U->List U->Sto->Option (U×Sto)
 |.ref l,[u],S=>match S[l]? with
  |some (.lst us)=>if us.length<LIM then some (.non,S.set l (.lst (us++[u])))else none
  |_=>none
 |_,_,_=>none
theorem zv:MtP K wg bW:=by
 intro m S H x v us vs u S' Q sr ix i hf post
 match x,us,hf with
 |.ref l,[w],hf=>
  simp only[bW]at hf
  split at hf<;>try cases hf
  rename_i ws hS
  split at hf<;>try cases hf
  rename_i hl
  obtain⟨a,ha,rfl⟩:=ix.of_ref
  obtain⟨a',ha',xs,hx,la⟩:=sr.get hS
  rw[ha]at ha';cases ha'
  obtain⟨y,rfl,iy⟩:=i.one
  have eu:Ext K m H m (upd H a (.lst (xs++[y]))):=.of (sr.keep ha _)
  exact⟨a,xs,y,rfl,rfl,hx,FR (by rw[la.length];exact hl),post m _ _ eu (sr.put ha ⟨_,aP,(la.append (.cons_ iy .nil_)).mono eu⟩) .non_⟩
variable{e:Expr}{es:List Expr}{co:CE}{cr:CA}{o:Expr}{apos cpos:Pos}
theorem dc (ho : QE X o co) (ha : QA X (e :: es) cr) (hbase : attributeBase o "append" X.env (eval o X.env) = eval o X.env := by rfl) (hfew : ((backTo cpos (starEach (e :: es) X.env)).all (fun x => !x.1) && (backToKw cpos (keywordEach [] X.env)).all (fun x => x.1.isSome)
   && decide ((e::es).length+([]:List Keyword).length+(if ([]:List Keyword).isEmpty then 0 else 1)<30))=true:=by rfl) (hline:(apos.endLine == cpos.line)=true:=by rfl) (hs:starEach (e::es) X.env=(false,eval e X.env)::starEach es X.env:=by rfl) (hplain:(backTo cpos (starEach es X.env)).any (·.1)=false:=by rfl) :
  QE X (.Call (.Attribute o "append" apos) (e::es) [] cpos) (cBM bW co cr):=(Aw PySem.F.plainAttrs_list PySem.F.slot_list_append PySem.F.type_list_append mV ho ha.h hbase hfew hline hs hplain).imp (A6 zv)
end
structure TC(K:PySem.W.Frag)(c:Cl)(NS:List Str):Prop where
 cl:Cls K c.C
 ns:c.ns=NS
 nas:∀f∈NS,i9 K c.C f
section
variable{K:PySem.W.Frag}{c:Cl}{NS:List Str}
theorem TC.ix(T:TC K c NS){i:Nat}{f:Str}(h:NS[i]?=some f):c.ns[i]?=some f:=by rw[T.ns];exact h
theorem TC.na(T:TC K c NS)(i:Nat){f:Str}(h:NS[i]?=some f):i9 K c.C f:=T.nas f (List.mem_of_getElem? h)
theorem TC.nm(T:TC K c NS){f:Str}(h:f∉NS):f∉c.ns:=by rw[T.ns];exact h
end
theorem _root_.L2.Fun.pure{P:Program}{w:World}{K:PySem.W.Frag}{mg:Str->Option Value}{base:Heap}{x qual:Str}{st:Stmt}{f:Addr}{fd:FuncData}{N ps:List Str}{k:Nat}{c:CS}(F:Fun K x qual st f fd)(S:aN N ps (ay st))
  (hb:∀(cdv:Value) (A:Around) (outer:List Env) (s:Shared) (H:Hp) (E:XK),gB k (A.deeper (envOfC qual (ay st) s.heap.objs.size f cdv))->
   WSs (um CX0 P w K mg base N qual (ay st) f cdv A outer s H E).nox (d8 st) (tS K c)):lL P w K mg base CX0 (k+1) f fd ps (yR K (fnU N.length ps.length c)):=
 Fun.okW F S (fun vs H Q E h=>tH h) fun cdv A outer s H vs Q E hr h=>⟨_,hb cdv A outer s H E hr,xv (X:=(um CX0 P w K mg base N qual (ay st) f cdv A outer s H E).nox) (body:=[]) (ps:=ps) rfl h⟩
def SI:Bool->Heap->Addr->Addr->Nat->Prop
 |true,h,it,a,i=>h.IsListIter it a i
 |false,h,it,a,i=>h.IsTupleIter it a i
def SA:Bool->Heap->Addr->Array Value->Prop
 |true,h,a,xs=>h.IsList a xs
 |false,h,a,xs=>h.IsTuple a xs
theorem SI.at_{b:Bool}{h h':Heap}{it a:Addr}{i:Nat}(x:SI b h it a i)(k:∀o,h.get? it=some o->h'.get? it=some o):SI b h' it a i:=by
 cases b with
 |true=>obtain⟨o,e,r⟩:=x;exact⟨o,k o e,r⟩
 |false=>obtain⟨o,e,r⟩:=x;exact⟨o,k o e,r⟩
theorem SA.at_{b:Bool}{h h':Heap}{a:Addr}{xs:Array Value}(x:SA b h a xs)(k:∀o,h.get? a=some o->h'.get? a=some o):SA b h' a xs:=by
 cases b with
 |true=>obtain⟨o,e,r⟩:=x;exact⟨o,k o e,r⟩
 |false=>obtain⟨o,e,r⟩:=x;exact⟨o,k o e,r⟩
theorem SI.obj{b:Bool}{h:Heap}{it a:Addr}{i:Nat}(x:SI b h it a i):∃o,h.get? it=some o/\∀v,o.data≠.cell v:=by
 cases b with
 |true=>obtain⟨o,e,c,d⟩:=x;exact⟨o,e,fun v z=>by rw[d]at z;cases z⟩
 |false=>obtain⟨o,e,c,d⟩:=x;exact⟨o,e,fun v z=>by rw[d]at z;cases z⟩
theorem SA.lt{b:Bool}{h:Heap}{a:Addr}{xs:Array Value}(x:SA b h a xs):a<h.objs.size:=by
 cases b with
 |true=>obtain⟨o,e,_⟩:=x;exact Heap.lt_size e
 |false=>obtain⟨o,e,_⟩:=x;exact Heap.lt_size e
section
variable{prog:Program}{w:World}{A:Around}{E:Value->Shared->Prop}{s:Shared}
theorem yP{I t:Addr}{j:Nat}{ys:Array Value}{y:Value}{Q:Value->Shared->Prop}(hI:s.heap.IsTupleIter I t j)(hT:s.heap.IsTuple t ys)(hy:ys[j]?=some y)
  (k:∀h',h'.IsTupleIter I t (j+1)->Heap.SameBut I s.heap h'->Q y { s with heap:=h' }):wpAny (model prog w) A (Builtin.SmallTypes.nextOf (.ref I)) Q E s:=by
 obtain⟨oi,gi,ci,di⟩:=id hI
 obtain⟨ot,gt,_,nt,dt⟩:=hT
 unfold Builtin.SmallTypes.nextOf
 refine wpAny_bind (wpAny_callSpecial?_slot (name:=Str.ofString "__next__") hI.typeIs PySem.F.slot_tuple_iterator_next (wpAny_call_entry PySem.F.slot_tuple_iterator_next hI.typeIs PySem.F.entry_tuple_iterator_next ?_ (PySem.F.args_tuple_iterator_next_1 _)))
 show wpAny _ _ (field (.ref I) 0 >>= _) _ _ s
 refine wpAny_bind (wpAny_field gi di (x:=.ref t) rfl ?_)
 show wpAny _ _ (ite ((Value.ref t == Value.none)=true) _ _) _ _ s
 rw[if_neg (by exact Bool.false_ne_true)]
 show wpAny _ _ (field (.ref I) 1 >>= _) _ _ s
 refine wpAny_bind (wpAny_field gi di (x:=.int j 0) rfl ?_)
 show wpAny _ _ (seqItems? (.ref t) >>= _) _ _ s
 refine wpAny_bind (wpAny_seqItems gt dt ?_)
 simp only[hy,Int.toNat_natCast]
 refine wpAny_bind (wpAny_setField gi di (by simp) (wpAny_pure ⟨y,rfl,wpAny_pure (k _ ⟨_,Heap.get?_update_self _ gi (Obj.isFreed_of_fields (Obj.data_mapFields di _)),(Obj.cls_mapFields ..).trans ci,?_⟩ (Heap.SameBut.update ..))⟩))
 rw[Obj.data_mapFields di];simp[rawInt]
theorem qm{I t:Addr}{j:Nat}{ys:Array Value}{Q:Value->Shared->Prop}(hh:A.handled=none)(hI:s.heap.IsTupleIter I t j)(hT:s.heap.IsTuple t ys)(hy:ys[j]?=none)
  (k:∀h' e,Heap.ExtBut I s.heap h'->(∃o,h'.get? e=some o/\o.cls=.type "StopIteration")->E (.ref e) { s with heap:=h' }):wpAny (model prog w) A (Builtin.SmallTypes.nextOf (.ref I)) Q E s:=by
 obtain⟨oi,gi,ci,di⟩:=id hI
 obtain⟨ot,gt,_,nt,dt⟩:=hT
 unfold Builtin.SmallTypes.nextOf
 refine wpAny_bind (wpAny_callSpecial?_slot (name:=Str.ofString "__next__") hI.typeIs PySem.F.slot_tuple_iterator_next (wpAny_call_entry PySem.F.slot_tuple_iterator_next hI.typeIs PySem.F.entry_tuple_iterator_next ?_ (PySem.F.args_tuple_iterator_next_1 _)))
 show wpAny _ _ (field (.ref I) 0 >>= _) _ _ s
 refine wpAny_bind (wpAny_field gi di (x:=.ref t) rfl ?_)
 show wpAny _ _ (ite ((Value.ref t == Value.none)=true) _ _) _ _ s
 rw[if_neg (by exact Bool.false_ne_true)]
 show wpAny _ _ (field (.ref I) 1 >>= _) _ _ s
 refine wpAny_bind (wpAny_field gi di (x:=.int j 0) rfl ?_)
 show wpAny _ _ (seqItems? (.ref t) >>= _) _ _ s
 refine wpAny_bind (wpAny_seqItems gt dt ?_)
 simp only[hy,Int.toNat_natCast]
 refine wpAny_bind (wpAny_rule (wpAny_bind (wpAny_setField gi di (by simp) ?_)))
 show wpAny _ _ (newExc (.type "StopIteration") [] >>= _) _ _ _
 simp only[newExc,newTuple];refine wpAny_bind ?_
 refine wpAny_bind (wpAny_newObj_type ?_ (by(size_fits)))
 refine wpAny_bind (m:=firstArgMember _ _) (wpAny_of_eq (a:=Value.none) (by simp only[firstArgMember]<;>rfl) ?_)
 refine wpAny_newObj_type ?_ (by(size_fits))
 simp only[raiseNew]
 refine wpAny_bind (wpAny_handled ?_)
 rw[show A.in1.handled=none from hh]
 exact wpAny_bind (wpAny_pure (wpAny_throw (k _ _ (((Heap.SameBut.update ..).extBut.push _).push _) ⟨_,Heap.get?_push_size _ rfl,rfl⟩)))
theorem BW{b:Bool}{I t:Addr}{j:Nat}{ys:Array Value}{y:Value}{Q:Value->Shared->Prop}(hI:SI b s.heap I t j)(hT:SA b s.heap t ys)(hy:ys[j]?=some y)
  (k:∀h',SI b h' I t (j+1)->Heap.SameBut I s.heap h'->Q y { s with heap:=h' }):wpAny (model prog w) A (Builtin.SmallTypes.nextOf (.ref I)) Q E s:=by
 cases b with
 |true=>exact wpAny_nextOf_list_item hI hT hy k
 |false=>exact yP hI hT hy k
theorem ml{b:Bool}{I t:Addr}{j:Nat}{ys:Array Value}{Q:Value->Shared->Prop}(hh:A.handled=none)(hI:SI b s.heap I t j)(hT:SA b s.heap t ys)(hy:ys[j]?=none)
  (k:∀h' e,Heap.ExtBut I s.heap h'->(∃o,h'.get? e=some o/\o.cls=.type "StopIteration")->E (.ref e) { s with heap:=h' }):wpAny (model prog w) A (Builtin.SmallTypes.nextOf (.ref I)) Q E s:=by
 cases b with
 |true=>exact wpAny_nextOf_list_end hh hI hT hy k
 |false=>exact qm hh hI hT hy k
def itO(b:Bool)(a:Addr):Obj:={ cls:=.type (if b then "list_iterator" else "tuple_iterator"),data:=.fields #[.ref a,.int 0 0] }
theorem Gf{b:Bool}{a i:Addr}{h:Heap}(e:h.get? i=some (itO b a)):SI b h i a 0:=by
 cases b with
 |true=>exact⟨_,e,rfl,rfl⟩
 |false=>exact⟨_,e,rfl,rfl⟩
end
def Sq(K:PySem.W.Frag):Bool->Hp->Addr->List V->Prop
 |true,H,a,xs=>SqL K H a xs
 |false,H,a,xs=>SqT K H a xs
section
variable{X:Cx}{pins:List (Addr×Obj)}{σ:L2.St}{H:Hp}{s:Shared}{h':Heap}
theorem _root_.L2.Inv.turnedL{t':Nat}{ch:List Addr}(I:Inv X pins σ H s)(k:∀b o,b∉ch->s.heap.get? b=some o->h'.get? b=some o)(hf:∀b∈ch,vo X pins H b):Inv X pins σ H { s with heap:=h',toks:=t' }:=by
 have nit:∀b u,H b=some u->b∉ch:=fun b u e z=>by rw[(hf b z).1]at e;cases e
 refine I.step (g':=s.gens) (d':=s.drawn) (ch:=ch) (fun b hb=>⟨(hf b hb).2.2.2.1,(hf b hb).2.1,(hf b hb).2.2.2.2.1,(hf b hb).2.2.2.2.2⟩) (fun b o _ _ hc e _=>k b o hc e) (fun b o _ _ hc e _=>⟨o.slots,k b o hc e⟩) (fun _ _ _ _ n=>n)
  (fun b o hc e=>⟨o,k b o hc e⟩) (fun _ _ e=>e) (fun _ _ _ e=>e) (fun b ps e=>⟨#[],by rw[e];simp⟩) (fun m hm=>?_) (fun b u e=>?_) I.bare
 ·obtain⟨o,es,ep,ho,r⟩:=hm
  exact⟨o,es,ep,k _ o (fun z=>(hf _ z).2.1 rfl) ho,r⟩
 ·refine(I.hok b u e).stay (fun c v hc q=>k c v ?_ q) (fun _ q=>q) fun _ _ q=>q
  rcases hc with z|z
  ·rw[z];exact nit b u e
  ·exact nit c _ z
theorem _root_.L2.Inv.sq{b:Bool}{a:Addr}{xs:List V}(I:Inv X pins σ H s)(h:Sq X.K b H a xs):∃its:List Value,cg xs its/\SA b s.heap a its.toArray:=by
 cases b with
 |true=>obtain⟨its,r,p,_⟩:=I.list h;exact⟨its,r,p.isList⟩
 |false=>obtain⟨its,r,p,_⟩:=I.tuple h;exact⟨its,r,p⟩
theorem _root_.L2.Inv.sq_inj{b:Bool}{a:Addr}{xs ys:List V}(I:Inv X pins σ H s)(h:Sq X.K b H a xs)(h2:Sq X.K b H a ys):xs=ys:=by
 cases b with
 |true=>exact I.list_inj h h2
 |false=>exact I.tuple_inj h h2
end
theorem za{h:Heap}{ob o:Obj}{e:Addr}(q:(h.push ob).get? e=some o)(ne:e≠h.objs.size):h.get? e=some o:=(Heap.get?_push_ne h e ob ne).symm.trans q
theorem zp{P:Program}{w:World}{H:Hp}{h:Heap}{a:Addr}{x y:V}{u v:Value}(e:h.get? a=some { cls:=.type "tuple",data:=.seq #[u,v] })(rx:dn x u)(ry:dn y v):cB P w H h a (.tup [x,y]):=
 ⟨by show 2<=sizeLine;decide,[u,v],.cons rx (.cons ry .nil),⟨_,e,rfl,_,rfl⟩⟩
section
variable{X:Cx}{pos:Pos}
def DL:U->Sto->Option (List U×(Sto->Prop))
 |.tup us,_=>some (us,fun _=>True)
 |.ref l,S=>match S[l]? with
  |some (.lst us)=>some (us,fun S=>S[l]?=some (.lst us))
  |_=>none
 |_,_=>none
theorem EY{K:PySem.W.Frag}{m:List Addr}{S:Sto}{H:Hp}{u:U}{v:V}{us:List U}{ok:Sto->Prop}(sr:Sr K m S H)(iu:Is K m H v u)(h:DL u S=some (us,ok)) :
  ∃b a,v=.ref a/\(∃xs,Sq K b H a xs)/\∀m2 S2 H2,Ext K m H m2 H2->Sr K m2 S2 H2->ok S2->∃xs,Sq K b H2 a xs/\IsL K m2 H2 xs us:=by
 cases u with
 |tup ws=>
  cases h
  obtain⟨a,xs,rfl,sq,il⟩:=iu.of_tup
  exact⟨false,a,rfl,⟨xs,sq⟩,fun m2 S2 H2 e _ _=>⟨xs,e.keep.t _ _ sq,il.mono e⟩⟩
 |ref l=>
  simp only[DL]at h
  split at h<;>try cases h
  rename_i us hS
  obtain⟨a,ha,rfl⟩:=iu.of_ref
  obtain⟨a',ha',xs,hx,il⟩:=sr.get hS
  rw[ha]at ha';cases ha'
  refine⟨true,a,rfl,⟨xs,SqL.of hx⟩,fun m2 S2 H2 e sr2 hok=>?_⟩
  obtain⟨a',ha',xs,hx,il⟩:=sr2.get hok
  rw[e.get ha]at ha';cases ha'
  exact⟨xs,SqL.of hx,il⟩
 |_=>simp[DL]at h
end
theorem Dv{b:Bool}{prog:Program}{w:World}{A:Around}(hh:A.handled=none)(it a:Addr)(hne:a≠it)(ys:Array Value) :
  Draws prog w A it [it,a] ys.size (fun i v=>ys[i]?=some v) (fun i h=>SI b h it a i/\SA b h a ys) where
 live:=fun _ _ st=>let ⟨o,ho,_⟩:=st.1.obj;⟨o,ho⟩
 frame:=fun _ _ _ st hk=>⟨st.1.at_ fun o e=>hk it (by simp) o e,st.2.at_ fun o e=>hk a (by simp) o e⟩
 item:=fun i s Q E hi st hQ=>BW st.1 st.2 (y:=ys[i]) (by simp[hi]) fun h' it' s'=>hQ _ h' s.toks (by simp[hi]) ⟨it',st.2.at_ fun o e=>s'.extBut _ _ hne e⟩ s'
 done:=fun s Q E st hE=>ml hh st.1 st.2 (by simp) hE
structure ESt(b:Bool)(h:Heap)(e it a:Addr)(n:Nat):Prop where
 he:∃old,IsEnum h e it n old
 hi:SI b h it a n
theorem xF(l:Addr)(ys:Array Value)(n:Nat)(dct:Option Addr)(sl:Array (Option Value)) :
  Meets (Builtin.«enumerate.__new__» ⟨[.type "enumerate",.ref l],[]⟩) (fun _ R s=>s.heap.get? l=some { cls:=.type "tuple",dict:=dct,data:=.seq ys n,slots:=sl }/\
   R (.ok (.ret (.ref (s.heap.push (itO false l)).objs.size))) { s with heap:=(s.heap.push (itO false l)).push { cls:=.type "enumerate",data:=.fields #[.none,.bool false,.ref s.heap.objs.size,rawInt 0,.none,.none] } }):=
 .of_wp fun prog w A R s q=>by
  obtain⟨hp,g,d,tk,os⟩:=s
  obtain⟨gl,q⟩:=q
  have sb:=sub_enumerate
  have tl:Heap.IsTuple (Shared.heap ⟨hp,g,d,tk,os⟩) l ys:=⟨_,gl,rfl,n,rfl⟩
  wp_walk using wpAny_loadPart' gl
  refine wpAny_stack_any (fun st=>wpAny_pure ?_)
  split
  ·rename_i c _ _ _ _ _
   cases (c == Value.type "enumerate")<;>(wp_walk using wpAny_loadPart' gl,wpAny_pyIter_tuple tl;exact⟨_,rfl,q⟩)
  ·wp_walk using wpAny_loadPart' gl,wpAny_pyIter_tuple tl
   exact⟨_,rfl,q⟩
theorem xG{b:Bool}{prog:Program}{w:World}{A:Around}{E:Value->Shared->Prop}{s:Shared}{a:Addr}{ys:Array Value}{Q:Value->Shared->Prop}(ha:SA b s.heap a ys)
  (k:∀h' e it,e≠it->s.heap.objs.size<=e->s.heap.objs.size<=it->ESt b h' e it a 0->(∀c o,s.heap.get? c=some o->h'.get? c=some o)->Q (.ref e) { s with heap:=h' }) :
  wpAny (model prog w) A (call (.type "enumerate") [.ref a]) Q E s:=by
 cases b with
 |true=>exact call_enumerate_list ha fun h' e1 e2 sz up=>k h' _ _ (by omega) (Nat.le_add_right _ _) (Nat.le_refl _) ⟨⟨_,e1⟩,e2⟩ up
 |false=>
  obtain⟨⟨c,dct,dt,sl⟩,gl,hc,n,hd⟩:=ha
  simp only at hc hd
  subst hc hd
  refine callType_new PySem.F.called_enumerate (by decide) (PySem.F.typeCall_enumerate_1 _) (PySem.F.newCall_enumerate_1 _) (fun obj=>PySem.F.args_object_init_2 obj _) PySem.F.entry_enumerate_new (xF a ys n dct sl) ⟨gl,?_⟩
  have n1:(s.heap.push (itO false a)).objs.size=s.heap.objs.size+1:=Heap.size_push ..
  have p2:=Heap.get?_push_size (s.heap.push (itO false a)) (o:={ cls:=.type "enumerate",data:=.fields #[.none,.bool false,.ref s.heap.objs.size,rawInt 0,.none,.none] }) rfl
  have p1:((s.heap.push (itO false a)).push { cls:=.type "enumerate",data:=.fields #[.none,.bool false,.ref s.heap.objs.size,rawInt 0,.none,.none] }).get? s.heap.objs.size=some (itO false a):=Heap.get?_push_of_some _ (Heap.get?_push_size _ rfl)
  rw[n1]at p2
  show _/\_
  rw[n1]
  exact⟨⟨_,p2,rfl⟩,k _ (s.heap.objs.size+1) s.heap.objs.size (Nat.ne_of_gt (Nat.lt_succ_self _)) (Nat.le_add_right _ _) (Nat.le_refl _) ⟨⟨_,p2⟩,Gf p1⟩ fun c o x=>Heap.get?_push_of_some _ (Heap.get?_push_of_some _ x)⟩
theorem z4{b:Bool}{prog:Program}{w:World}{A:Around}{E:Value->Shared->Prop}{s:Shared}{e it a:Addr}{i:Int}{j:Nat}{ys:Array Value}{old:Value}{Q:Option Value->Shared->Prop}(hh:A.in1.handled=none)(he:IsEnum s.heap e it i old)(hi:SI b s.heap it a j)(ha:SA b s.heap a ys)(hx:ys[j]?=none)
  (k:∀h',Heap.ExtBut it s.heap h'->Q none { s with heap:=h' }):wpAny (model prog w) A (pyNext (.ref e)) Q E s:=by
 have ty:s.TypeIs (.ref e) "enumerate":=⟨_,he,rfl⟩
 unfold pyNext
 refine wpAny_bind (wpAny_attempt (wpAny_callSpecial?_slot (name:=Str.ofString "__next__") ty PySem.F.slot_enumerate_next (wpAny_call_entry PySem.F.slot_enumerate_next ty PySem.F.entry_enumerate_next ?_ (PySem.F.args_enumerate_next_1 _))))
 show wpAny _ _ (field (.ref e) 2 >>= fun _=>_) _ _ _
 refine wpAny_bind (wpAny_field he rfl (x:=.ref it) rfl (wpAny_bind (ml hh hi ha hx fun h' x he' hx'=>?_)))
 obtain⟨o,ho,co⟩:=hx'
 exact wpAny_bind (wpAny_isInstance (T:="StopIteration") (b:=true) ⟨o,ho,co⟩ isSubtype_stop (wpAny_pure (k _ he')))
def Ite(K:PySem.W.Frag)(b:Bool)(a:Addr):It:=
  ⟨fun i H=>∃xs x,Sq K b H a xs/\xs[i]?=some x,
   fun i H v H'=>∃p x,v=.ref p/\H p=none/\H'=upd H p (.tup [.int i,x])/\∀xs,Sq K b H a xs->xs[i]?=some x,
   fun i H=>∃xs,Sq K b H a xs/\xs.length<=i⟩
theorem vP{P:Program}{w:World}{K:PySem.W.Frag}{es:List Expr}{k:Nat}{pos:Pos}{b:Bool}{e it a:Addr}(ne:e≠it)(nae:a≠e)(nai:a≠it) :
  DH P w K (.Tuple es k pos) (Ite K b a) [e,it] e (fun n h=>ESt b h e it a n) where
 mem:=by simp
 obj:=fun n h st c hc=>by
  obtain⟨⟨old,he⟩,hi⟩:=st
  simp only[List.mem_cons,List.not_mem_nil,or_false]at hc
  rcases hc with rfl|rfl
  ·exact⟨_,he,fun v q=>by cases q⟩
  ·exact hi.obj
 keep:=fun n h h' st kp=>let ⟨old,he⟩:=st.he;⟨⟨old,kp e (by simp) _ he⟩,st.hi.at_ fun o q=>kp it (by simp) o q⟩
 item:=by
  intro X hP hw hK hc n pins s σ H E Iv hf st hg
  subst hP hw hK
  obtain⟨xs,x,qa,hx⟩:=hg
  obtain⟨ia,ra,sa⟩:=Iv.sq qa
  obtain⟨u,hu,ru⟩:=ra.get hx
  obtain⟨⟨old,he⟩,hi⟩:=st
  have hlt:n<ia.toArray.size:=by simpa using (List.getElem?_eq_some_iff.mp hu).1
  refine wpAny_pyNext_enum_itemD (Dv (b:=b) (show X.A.in1.handled=none from Iv.ok.hd hc) it a nai ia.toArray) he ⟨hi,sa⟩ hlt ne (by simp[ne,Ne.symm nae]) fun y h1 tk py out1 st1 T1 sz1 up1=>⟨_,rfl,wpAny_letOwnedTupleGo_enum out1 fun h2 e2 s2=>?_⟩
  have ey:y=u:=by
   have p':ia.toArray[n]?=some y:=py
   rw[List.getElem?_toArray,hu]at p';cases p';rfl
  subst ey
  have hfr:H s.heap.objs.size=none:=Iv.hok.fresh (Nat.le_refl _)
  have elt:e<s.heap.objs.size:=Heap.lt_size he
  have ilt:it<s.heap.objs.size:=by obtain⟨o,q,_⟩:=hi.obj;exact Heap.lt_size q
  have sz:∀c∈[e,it],c<s.heap.objs.size:=fun c hc=>by
   simp only[List.mem_cons,List.not_mem_nil,or_false]at hc
   rcases hc with rfl|rfl
   ·exact elt
   ·exact ilt
  have T2:h2.get? s.heap.objs.size=some { cls:=.type "tuple",data:=.seq #[.int n tk,y] }:=s2.extBut _ _ (Nat.ne_of_gt elt) T1
  have I1:Inv X pins σ (upd H s.heap.objs.size (.tup [.int n,x])) { s with heap:=s.heap.push { cls:=.type "tuple",data:=.seq #[.int n tk,y] },toks:=s.toks }:=
   Iv.laid (fun b o e=>Heap.get?_push_of_some _ e) (Nat.le_refl _) (zp (Heap.get?_push_size _ rfl) ⟨tk,rfl⟩ ru)
  have fr2:∀c∈[e,it],(upd H s.heap.objs.size (.tup [.int n,x])) c=none:=fun c hc=>by rw[bH (Nat.ne_of_lt (sz c hc))];exact(hf c hc).1
  have I2:Inv X pins σ (upd H s.heap.objs.size (.tup [.int n,x])) { s with heap:=h2,toks:=tk+1 }:=
   Inv.turnedL (s:={ s with heap:=s.heap.push { cls:=.type "tuple",data:=.seq #[.int n tk,y] },toks:=s.toks }) (h':=h2) (t':=tk+1) (ch:=[e,it]) I1 (fun c o hn q=>by
    by_cases ce:c=s.heap.objs.size
    ·subst ce
     have q':(s.heap.push { cls:=.type "tuple",data:=.seq #[.int n tk,y] }).get? s.heap.objs.size=some o:=q
     rw[Heap.get?_push_size _ rfl]at q'
     cases q';exact T2
    ·have q':s.heap.get? c=some o:=za q ce
     simp only[List.mem_cons,List.not_mem_nil,or_false,not_or]at hn
     exact s2.extBut _ _ hn.1 (up1 c o hn.1 hn.2 q')) fun c hc=>⟨fr2 c hc,(hf c hc).2⟩
  refine⟨.ref s.heap.objs.size,_,I2,rfl,⟨_,x,rfl,hfr,rfl,fun xs' q=>by rw[Iv.sq_inj q qa];exact hx⟩,⟨⟨_,by simpa using e2⟩,st1.1.at_ fun o q=>s2.extBut _ _ (Ne.symm ne) q⟩,fr2⟩
 done:=by
  intro X hP hw hK hc n pins s σ H E Iv hf st hg
  subst hP hw hK
  obtain⟨xs,qa,hx⟩:=hg
  obtain⟨ia,ra,sa⟩:=Iv.sq qa
  have la:=ra.length
  obtain⟨⟨old,he⟩,hi⟩:=st
  refine z4 (show X.A.in1.handled=none from Iv.ok.hd hc) he hi sa (by simp;omega) fun h1 up1=>⟨rfl,?_⟩
  exact Iv.turnedL (t':=s.toks) (ch:=[e,it]) (fun c o hn q=>by
   simp only[List.mem_cons,List.not_mem_nil,or_false,not_or]at hn
   exact up1 c o hn.2 q) hf
 self:=fun _ _ _ _ _ st h=>let ⟨old,he⟩:=st.he;wpAny_pyIter_enum he h
def Gm(K:PySem.W.Frag)(ta:TA):TI:=fun σ H R=>ta σ H fun vs H2=>∃b a,vs=[.ref a]/\(∃xs,Sq K b H2 a xs)/\R (Ite K b a) H2
theorem ye:bootBuiltins "enumerate"=some (.type "enumerate"):=rfl
section
variable{X:Cx}{pos:Pos}
theorem BM{es:List Expr}{k:Nat}{tp p:Pos}{a:Expr}{ta:TA}(hg:Gl X "enumerate")(hm:X.mg "enumerate"=none)(ha:WA X [a] ta)
  (hs:starEach [a] X.env=(false,eval a X.env)::starEach [] X.env:=by rfl) (hpl:(backTo pos (starEach [] X.env)).any (·.1)=false:=by rfl):WI X (.Tuple es k tp) (.Call (.Name "enumerate" p) [a] [] pos) (Gm X.K ta):=by
 constructor
 intro pins s σ H R I h
 refine wpAny_Call_Name_kw (mY I hg hm OP.ye ?_)
 refine PyProof.Rows.callWith_type1 (thn (ha.h pos pins s σ H _ I h) fun us s1 hz=>?_) hs hpl
 obtain⟨vs,H1,I1,r1,q1⟩:=hz
 obtain⟨b,aa,rfl,⟨xs,qa⟩,q⟩:=q1
 obtain⟨u,rfl,ru⟩:=nJ r1
 cases ru
 obtain⟨ia,ra,sa⟩:=I1.sq qa
 refine xG sa fun h1 e it ne he hi st up=>?_
 obtain⟨old,hE⟩:=st.he
 refine wpAny_pyIter_enum hE ⟨e,[e,it],_,_,H1,rfl,I1.kept (t':=s1.toks) up,vP ne (Nat.ne_of_lt (Nat.lt_of_lt_of_le sa.lt he)) (Nat.ne_of_lt (Nat.lt_of_lt_of_le sa.lt hi)),st,fun c hc=>?_,q⟩
 simp only[List.mem_cons,List.not_mem_nil,or_false]at hc
 rcases hc with rfl|rfl
 ·exact I1.fpOk he (I1.hok.fresh he)
 ·exact I1.fpOk hi (I1.hok.fresh hi)
def xH(us:List U):List U:=us.zipIdx.map fun p=>.tup [.int p.2,p.1]
def qJ(ca:CE):CI:=fun ρ S=>(ca ρ S).bind fun p=>(DL p.1 p.2).bind fun x=>some (xH x.1,x.2,p.2)
theorem rO{es:List Expr}{k:Nat}{tp p:Pos}{a:Expr}{ca:CE}(hg:Gl X "enumerate")(hm:X.mg "enumerate"=none)(ha:QE X a ca)
  (hs:starEach [a] X.env=(false,eval a X.env)::starEach [] X.env:=by rfl) (hpl:(backTo pos (starEach [] X.env)).any (·.1)=false:=by rfl) :
  QI X (.Tuple es k tp) (.Call (.Name "enumerate" p) [a] [] pos) (qJ ca):=(BM hg hm (ft ha j8 hs) hs hpl).imp fun σ H R hz=>vm hz fun m ρ S us ok S' sr lr hf post=>by
 obtain⟨⟨x,S1⟩,h1,h⟩:=Option.bind_eq_some_iff.mp hf
 obtain⟨⟨xs,okx⟩,h3,h⟩:=Option.bind_eq_some_iff.mp h
 cases h
 refine⟨m,ρ,S,x,_,sr,lr,h1,fun m1 v1 H1 e1 sr1 i1=>?_⟩
 obtain⟨b,aa,rfl,q1,k1⟩:=EY sr1 i1 h3
 refine⟨b,aa,rfl,q1,post m1 H1 _ e1 sr1 fun m3 S3 H3 i e3 sr3 hok=>?_⟩
 obtain⟨vs,sq1,l1⟩:=k1 m3 S3 H3 e3 sr3 hok
 have n1:=l1.length
 refine⟨fun u hu=>?_,fun hi=>⟨vs,sq1,?_⟩⟩
 ·simp only[xH,List.getElem?_map,Option.map_eq_some_iff,List.getElem?_zipIdx]at hu
  obtain⟨⟨p,q⟩,⟨y,hp,e⟩,rfl⟩:=hu
  cases e
  obtain⟨vp,ep,ip⟩:=l1.getD hp
  refine⟨⟨vs,vp,sq1,ep⟩,fun v H4 hy=>?_⟩
  obtain⟨r,x',rfl,hr,rfl,f1⟩:=hy
  have:=f1 vs sq1
  rw[ep]at this;cases this
  have ee:Ext X.K m3 H3 m3 (upd H3 r (.tup [.int i,vp])):=.of (cq hr _)
  exact⟨ee,sr3.same (dZ hr _),.tup_ (SqT.of aP) (.cons_ (by simp only[Nat.zero_add];exact .int_) (.cons_ (ip.mono ee) .nil_))⟩
 ·simp only[xH,List.length_map,List.length_zipIdx]at hi
  omega
def jU:List (CE×CE)->Rho->Sto->Option (List (Key×U)×Sto)
 |[],_,S=>some ([],S)
 |(ck,cv)::r,ρ,S=>(ck ρ S).bind fun p=>(cv ρ p.2).bind fun q=>(l8 p.1).bind fun k=>(jU r ρ q.2).bind fun z=>some ((k,q.1)::z.1,z.2)
def wN(kus:List (Key×U))(au:List (Key×U)):List (Key×U):=kus.foldl (fun acc kv=>lB acc kv.1 kv.2) au
def oy(kus:List (Key×U)):List (Key×U):=wN kus []
def yd(prs:List (CE×CE)):CE:=fun ρ S=>(jU prs ρ (S++[.dic []])).bind fun q=>match q.2[S.length]? with
 |some (.dic [])=>some (.ref S.length,q.2.set S.length (.dic (oy q.1)))
 |_=>none
def QP(X:Cx)(pos:Pos)(keys:List (Option Expr))(values:List Expr)(prs:List (CE×CE)):Prop:=PPs X pos keys values (prs.map fun p=>(tE X.K p.1,tE X.K p.2))
theorem AG:QP X pos [] [] []:=wy
theorem jl{k v:Expr}{ks:List (Option Expr)}{vs:List Expr}{ck cv:CE}{prs:List (CE×CE)}(hk:QE X k ck)(hv:QE X v cv)(hr:QP X pos ks vs prs):QP X pos (some k::ks) (v::vs) ((ck,cv)::prs):=tQ hk.h hv.h hr
theorem qz{K:PySem.W.Frag}{ρ:Rho}{σ:L2.St}:∀{prs:List (CE×CE)} {m:List Addr} {S S':Sto} {H:Hp} {kus:List (Key×U)} {R:List (V×V)->Hp->Prop},Sr K m S H->Lr K m H ρ σ->jU prs ρ S=some (kus,S')->
  (∀m' kvs H',Ext K m H m' H'->Sr K m' S' H'->IsP K m' H' kvs kus->R (kvs.map fun kv=>(kV kv.1,kv.2)) H')->qo (prs.map fun p=>(tE K p.1,tE K p.2)) σ H R
 |[],m,S,S',H,kus,R,sr,lr,hc,k=>by cases hc;exact k m [] H .refl sr .nil_
 |(ck,cv)::r,m,S,S',H,kus,R,sr,lr,hc,k=>by
  obtain⟨⟨x,S1⟩,h1,h⟩:=Option.bind_eq_some_iff.mp hc
  obtain⟨⟨y,S2⟩,h2,h⟩:=Option.bind_eq_some_iff.mp h
  obtain⟨kk,h3,h⟩:=Option.bind_eq_some_iff.mp h
  obtain⟨⟨zs,S3⟩,h4,h⟩:=Option.bind_eq_some_iff.mp h
  cases h
  refine⟨m,ρ,S,x,S1,sr,lr,h1,fun m1 v1 H1 e1 sr1 i1=>⟨m1,ρ,S1,y,S2,sr1,lr.mono e1,h2,fun m2 v2 H2 e2 sr2 i2=>?_⟩⟩
  refine qz (prs:=r) sr2 (lr.mono (e1.trans e2)) h4 fun m3 kvs H3 e3 sr3 ip=>?_
  have ek:=kg i1 h3
  subst ek
  exact k m3 ((kk,v2)::kvs) H3 ((e1.trans e2).trans e3) sr3 (.cons_ (i2.mono e3) ip)
theorem ow:∀{prs:List (CE×CE)} {ρ:Rho} {S S':Sto} {kus:List (Key×U)},jU prs ρ S=some (kus,S')->kus.length=prs.length
 |[],_,_,_,_,h=>by cases h;rfl
 |(ck,cv)::r,ρ,S,S',kus,hc=>by
  obtain⟨⟨x,S1⟩,h1,h⟩:=Option.bind_eq_some_iff.mp hc
  obtain⟨⟨y,S2⟩,h2,h⟩:=Option.bind_eq_some_iff.mp h
  obtain⟨kk,h3,h⟩:=Option.bind_eq_some_iff.mp h
  obtain⟨⟨zs,S3⟩,h4,h⟩:=Option.bind_eq_some_iff.mp h
  cases h
  simp[ow h4]
theorem IsP.merge{K:PySem.W.Frag}{m:List Addr}{H:Hp}{kvs:List (Key×V)}{kus:List (Key×U)}(h:IsP K m H kvs kus):∀(av:List (Key×V)) (au:List (Key×U)),IsP K m H av au->IsP K m H (lE av kvs) (wN kus au):=
 IsP.ind (P:=fun kvs kus=>∀(av:List (Key×V)) (au:List (Key×U)),IsP K m H av au->IsP K m H (lE av kvs) (wN kus au)) (fun _ _ h=>h) (fun k v u kvs kus i _ ih av au ha=>ih _ _ (ha.put (k:=k) i)) h
theorem AH{keys:List (Option Expr)}{values:List Expr}{prs:List (CE×CE)}(h:QP X pos keys values prs)(hall:keys.all (·.isSome)=true)(hl:keys.length=values.length)(h0:keys≠[])(h15:keys.length<=15)(hp:prs.length<=15):QE X (.Dict keys values pos) (yd prs):=
 (yF h hall hl h0 h15).imp fun σ H Q hz=>mh hz fun m ρ S u S' sr lr hc post=>by
 obtain⟨⟨kus,S1⟩,h1,h2⟩:=Option.bind_eq_some_iff.mp hc
 simp only at h2
 split at h2<;>try cases h2
 rename_i hS
 intro p hp'
 have ee:Ext X.K m H (m++[p]) (upd H p (.dK [])):=.new (cq hp' _)
 refine qz (sr.new (o:=.dic []) hp' ⟨[],aP,.nil_⟩) (lr.mono ee) h1 fun m1 kvs H1 e1 sr1 ip=>?_
 have ha:m1[S.length]?=some p:=e1.get (d7 sr.len)
 obtain⟨a',ha',kv0,hx,ip0⟩:=sr1.get hS
 rw[ha]at ha';cases ha'
 have e0:kv0=[]:=by have:=IsP.length ip0;simpa using this
 subst e0
 have eu:Ext X.K m1 H1 m1 (upd H1 p (.dK (lE [] kvs))):=.of (sr1.keep ha _)
 refine⟨hx,kvs,rfl,by rw[IsP.length ip,ow h1];exact hp,post m1 _ _ ((ee.trans e1).trans eu) (sr1.put (o:=.dic (oy kus)) ha ⟨_,aP,(IsP.merge ip _ _ .nil_).mono eu⟩) (.ref_ ha)⟩
end
theorem qH:∀{vs:List Value} {ns:List Int},IntsAre vs ns->cg (ns.map V.int) vs
 |_,_,.nil=>.nil
 |_,_,.cons n t r=>.cons ⟨t,rfl⟩ (qH r)
theorem gk:∀{ns:List Int} {vs:List Value},cg (ns.map V.int) vs->IntsAre vs ns
 |[],_,h=>by cases h;exact .nil
 |n::ns,_,.cons r t=>by
  obtain⟨k,rfl⟩:=r
  exact .cons n k (gk t)
def we(K:PySem.W.Frag):List V->Hp->VK->Prop:=fun xs H Q=>∃(p:Addr) (ns:List Int),xs=[.ref p]/\(SqL K H p (ns.map V.int)\/∃kvs,H p=some (.dK kvs)/\kvs.map (·.1)=ns.map Sum.inl)/\ns.length<64/\
 ∀(l:Addr) (ms:List Int),H l=none->ms.Perm ns->ms.Pairwise (·<=·)->Q (.ref l) (upd H l (.lst (ms.map V.int)))
theorem wX{κ:Type}:∀{kvs:List (κ×V)} {vs:List (κ×Value)},KV kvs vs->vs.map (·.1)=kvs.map (·.1)
 |_,_,.nil=>rfl
 |_,_,.cons r t=>by rw[List.map_cons,List.map_cons,wX t,r.1]
theorem rW{P:Program}{w:World}{H:Hp}{h:Heap}{a:Addr}{ms:List Int}{out:Array Value}{e:Nat}(g:h.get? a=some (seqObj "list" out e))(hI:IntsAre out.toList ms)(hl:ms.length<64):cB P w H h a (.lst (ms.map V.int)):=
 ⟨by rw[List.length_map];exact Nat.le_of_lt (Nat.lt_of_lt_of_le hl (by unfold sizeLine;decide)),out.toList,e,qH hI,by rw[Array.toArray_toList];exact g⟩
theorem px{X:Cx}(hc:X.calm=true):fP X (.builtin "sorted") (we X.K):=by
 rintro pins s σ H xs us Q I r ⟨p,ns,rfl,src,h64,q⟩
 obtain⟨u,rfl,ru⟩:=nJ r
 cases ru
 rcases src with hL|⟨kvs,hD,hk⟩
 ·obtain⟨its,rv,pl,hz⟩:=I.list hL
  have hI:=gk rv
  have hlen:=rv.length
  rw[List.length_map]at hlen
  refine sorted_ints pl.isList hI (by omega) fun out ms a1 a2 a3=>?_
  obtain⟨e,ge⟩:=sortedAll_at s.heap its out
  have hf:=I.hok.fresh (Nat.le_succ s.heap.objs.size)
  exact⟨.ref (s.heap.objs.size+1),_,I.laid (t':=s.toks) (fun b o e=>sortedAll_old e) (Nat.le_succ _) (rW ge a1 (by rw[a2.length_eq];exact h64)),rfl,q _ ms hf a2 a3⟩
 ·obtain⟨z,hd,vs,rel,dd⟩:=Ab I.hok hD
  obtain⟨ep,da⟩:=dd.dictAt
  have lkv:kvs.length=ns.length:=by have:=congrArg List.length hk;simpa using this
  have lv:vs.length=ns.length:=by rw[<-Paired.length rel];exact lkv
  have ks:vs.map (·.1)=ns.map Sum.inl:=by
   rw[<-hk];exact wX rel
  refine Calls.call_function_entry kind_sorted plain_sorted entry_sorted (args_sorted1 _) ?_
  unfold Builtin.«sorted»
  refine wpAny_bind (m:=checkCount "sorted" 1 1 _) (wpAny_pure (wpAny_bind (PySem.W.kdu_collect (PySem.W.kdl_dict (kvs:=vs) (ep:=ep) hd) (show X.A.in1.handled=none from I.ok.hd hc) da (by rw[lv,<-lkv];exact z) fun h1 tk acc up hac=>?_)))
  have hla:acc.toList.length=ns.length:=by rw[Array.length_toList,hac.1,lv]
  have hI:IntsAre acc.toList ns:=by
   have key:∀(i:Nat) (v:Value),acc.toList[i]?=some v->∃(n:Int) (t:Tok),ns[i]?=some n/\v=Value.int n t:=fun i v e=>by
    obtain⟨k,x,e1,e2⟩:=hac.2 i v (by rw[<-Array.getElem?_toList];exact e)
    have e3:(vs.map (·.1))[i]?=some k:=by rw[List.getElem?_map,e1];rfl
    rw[ks,List.getElem?_map]at e3
    obtain⟨n,e4,e5⟩:=Option.map_eq_some_iff.mp e3
    subst e5
    rcases bR (k:=Sum.inl n) e2 with⟨j,t,e6,e7⟩|⟨j,t,e6,e7⟩
    ·cases e6;exact⟨n,t,e4,e7⟩
    ·cases e6
   clear hac
   generalize acc.toList=L at key hla
   clear ks lv lkv h64 q hk
   induction L generalizing ns with
   |nil=>cases ns with
    |nil=>exact .nil
    |cons a b=>simp at hla
   |cons a b ih=>cases ns with
    |nil=>simp at hla
    |cons c d=>
     obtain⟨n,t,e1,e2⟩:=key 0 a (by simp)
     simp at e1;subst e1;subst e2
     exact .cons _ t (ih _ (fun i v e=>by have:=key (i+1) v (by simpa using e);simpa using this) (by simpa using hla))
  refine wpAny_bind (wpAny_newList ?_ (by rw[hla,<-lkv];exact z))
  have gL:(h1.push { cls:=.type "list",data:=.seq acc.toList.toArray }).get? h1.objs.size=some (seqObj "list" acc.toList.toArray 0):=Heap.get?_push_size _ rfl
  refine wpAny_bind (wpAny_holding (wpAny_call_entry slot_list_sort ⟨_,gL,rfl⟩ entry_list_sort (list_sort_tree (s:={ s with heap:=h1.push { cls:=.type "list",data:=.seq acc.toList.toArray },toks:=tk }) gL hI (by omega) fun out ms a1 a2 a3=>⟨_,rfl,?_⟩) (args_list_sort _)))
  obtain⟨e,ge⟩:=sortedHeap_at (out:=out) gL
  have I1:Inv X pins σ H { s with heap:=h1,toks:=tk }:=I.kept up
  have hf:=I1.hok.fresh (Nat.le_refl h1.objs.size)
  refine wpAny_pure ⟨_,rfl,.ref h1.objs.size,_,Inv.laid (s:={ s with heap:=h1,toks:=tk }) (h':=sortedHeap (h1.push { cls:=.type "list",data:=.seq acc.toList.toArray }) h1.objs.size acc.toList out) (t':=tk) I1 (fun b o g1=>?_) (Nat.le_refl _) (rW ge a1 (by rw[a2.length_eq];exact h64)),rfl,q _ ms hf a2 a3⟩
  have g1:h1.get? b=some o:=g1
  have lt1:=Heap.lt_size g1
  rw[sortedHeap_old (Nat.ne_of_lt lt1) (by rw[Heap.size_push];exact Nat.lt_succ_of_lt lt1)]
  exact Heap.get?_push_of_some _ g1
def cV(ns:List Int):List Int:=ns.mergeSort (fun a b=>decide (a<=b))
theorem eB(ns:List Int):(cV ns).Perm ns:=List.mergeSort_perm ..
theorem kQ(ns:List Int):(cV ns).Pairwise (·<=·):=by
 have:=List.pairwise_mergeSort (le:=fun(a b:Int)=>decide (a<=b)) (fun a b c h1 h2=>by simp at h1 h2 ⊢;omega) (fun a b=>by simp;omega) ns
 exact this.imp fun h=>by simpa using h
theorem jI{ns ms:List Int}(p:ms.Perm ns)(s:ms.Pairwise (·<=·)):ms=cV ns:=PySem.W.lks_uniq (p.trans (eB ns).symm) s (kQ ns)
def uT:List (Key×U)->Option (List Int)
 |[]=>some []
 |(.inl n,_)::r=>(uT r).map (n::·)
 |_=>none
theorem t4:∀{kus:List (Key×U)} {ns:List Int},uT kus=some ns->kus.map (·.1)=ns.map Sum.inl
 |[],ns,h=>by cases h;rfl
 |(k,u)::r,ns,h=>by
  cases k<;>simp only[uT]at h<;>try cases h
  obtain⟨ms,e,h⟩:=Option.map_eq_some_iff.mp h
  subst h
  simp[t4 e]
def eK:Fn
 |[.ref l],S=>match S[l]? with
  |some (.lst us)=>(qI us).bind fun ns=>if ns.length<64 then some (.ref S.length,S++[.lst ((cV ns).map U.int)])else none
  |some (.dic kus)=>(uT kus).bind fun ns=>if ns.length<64 then some (.ref S.length,S++[.lst ((cV ns).map U.int)])else none
  |_=>none
 |_,_=>none
theorem pf{K:PySem.W.Frag}:nH K (we K) eK:=by
 intro m S H us vs u S' Q sr i hf post
 match us,hf with
 |[.ref l],hf=>
  obtain⟨v,rfl,iv⟩:=i.one
  obtain⟨a,ha,rfl⟩:=iv.of_ref
  simp only[eK]at hf
  split at hf<;>try cases hf
  ·rename_i ws hS
   obtain⟨ns,hn,h⟩:=Option.bind_eq_some_iff.mp hf
   split at h<;>try cases h
   have hc:ns.length<64:=by assumption
   obtain⟨a',ha',xs,hx,la⟩:=sr.get hS
   rw[ha]at ha';cases ha'
   rw[me hn]at la
   rw[la.ints]at hx
   refine⟨a,ns,rfl,.inl (SqL.of hx),hc,fun p ms hp pm sm=>?_⟩
   rw[jI pm sm]
   exact d4 sr (iP _) post hp
  ·rename_i ws hS
   obtain⟨ns,hn,h⟩:=Option.bind_eq_some_iff.mp hf
   split at h<;>try cases h
   have hc:ns.length<64:=by assumption
   obtain⟨a',ha',kvs,hx,ip⟩:=sr.get hS
   rw[ha]at ha';cases ha'
   refine⟨a,ns,rfl,.inr ⟨kvs,hx,by rw[ip.1,t4 hn]⟩,hc,fun p ms hp pm sm=>?_⟩
   rw[jI pm sm]
   exact d4 sr (iP _) post hp
section
variable{ρ:Rho}{S:Sto}{c1 c2:CS}{t ta tb:CT}{ca cb cc:CE}{cr:CA}{u x y:U}{us:List U}{i l:Nat}{f g:U->U->Sto->Option (U×Sto)}{b:Bool}
def J7(S:Sto):Option (Option U)->Option (U×Sto)
 |some (some u)=>some (u,S)
 |_=>none
theorem vw:ah i ρ S=J7 S (ρ[i]?):=rfl
theorem p9:J7 S (some (some u))=some (u,S):=rfl
theorem x_c:cC u ρ S=some (u,S):=rfl
def Jq(f:U->U->Sto->Option (U×Sto))(x:U)(q:U×Sto):=f x q.1 q.2
def Kc(f:U->U->Sto->Option (U×Sto))(cb:CE)(ρ:Rho)(p:U×Sto):=(cb ρ p.2).bind (Jq f p.1)
theorem yr:cOp f ca cb ρ S=(ca ρ S).bind (Kc f cb ρ):=rfl
theorem oR:Kc f cb ρ (x,S)=(cb ρ S).bind (Jq f x):=rfl
theorem oQ:Jq f x (y,S)=f x y S:=rfl
def F1:U×Sto->Option (Bool×Sto)
 |(.bl b,S)=>some (b,S)
 |_=>none
theorem qb:aG ca ρ S=(ca ρ S).bind F1:=by
 unfold aG;congr 1;funext p;obtain⟨u,S⟩:=p;cases u<;>rfl
theorem oP:F1 (.bl b,S)=some (b,S):=rfl
def Jz(tb:CT)(ρ:Rho)(p:Bool×Sto):=if p.1=true then tb ρ p.2 else some (false,p.2)
def kOr(tb:CT)(ρ:Rho)(p:Bool×Sto):=if p.1=true then some (true,p.2)else tb ρ p.2
def Kd(p:Bool×Sto):Option (Bool×Sto):=some (!p.1,p.2)
theorem ID:nI ta tb ρ S=(ta ρ S).bind (Jz tb ρ):=rfl
theorem Ex:Jz tb ρ (true,S)=tb ρ S:=rfl
theorem Ew:Jz tb ρ (false,S)=some (false,S):=rfl
theorem KD:cOr ta tb ρ S=(ta ρ S).bind (kOr tb ρ):=rfl
theorem Hz:kOr tb ρ (true,S)=some (true,S):=rfl
theorem Hy:kOr tb ρ (false,S)=tb ρ S:=rfl
theorem HA:Ai ta ρ S=(ta ρ S).bind Kd:=rfl
theorem Ea:Kd (b,S)=some (!b,S):=rfl
def C8(cb:CE)(ρ:Rho):U×Sto->Option (U×Sto)
 |(.bl true,S)=>cb ρ S
 |(.bl false,S)=>some (.bl false,S)
 |_=>none
def Jp(cb:CE)(ρ:Rho):U×Sto->Option (U×Sto)
 |(.bl false,S)=>cb ρ S
 |(.bl true,S)=>some (.bl true,S)
 |_=>none
def F4:U×Sto->Option (U×Sto)
 |(.bl b,S)=>some (.bl (!b),S)
 |_=>none
theorem Eu:rq ca cb ρ S=(ca ρ S).bind (C8 cb ρ):=by
 unfold rq;congr 1;funext p;obtain⟨u,S⟩:=p;cases u with
 |bl b=>cases b<;>rfl
 |_=>rfl
theorem Bu:C8 cb ρ (.bl true,S)=cb ρ S:=rfl
theorem Bt:C8 cb ρ (.bl false,S)=some (.bl false,S):=rfl
theorem Hx:Km ca cb ρ S=(ca ρ S).bind (Jp cb ρ):=by
 unfold Km;congr 1;funext p;obtain⟨u,S⟩:=p;cases u with
 |bl b=>cases b<;>rfl
 |_=>rfl
theorem D8:Jp cb ρ (.bl false,S)=cb ρ S:=rfl
theorem D7:Jp cb ρ (.bl true,S)=some (.bl true,S):=rfl
theorem D9:sH ca ρ S=(ca ρ S).bind F4:=by
 unfold sH;congr 1;funext p;obtain⟨u,S⟩:=p;cases u<;>rfl
theorem Be:F4 (.bl b,S)=some (.bl (!b),S):=rfl
def w9(u:U)(q:List U×Sto):Option (List U×Sto):=some (u::q.1,q.2)
def AU(cr:CA)(ρ:Rho)(p:U×Sto):=(cr ρ p.2).bind (w9 p.1)
theorem yt:aB ρ S=some ([],S):=rfl
theorem sZ:ae ca cr ρ S=(ca ρ S).bind (AU cr ρ):=rfl
theorem oT:AU cr ρ (u,S)=(cr ρ S).bind (w9 u):=rfl
theorem oS:w9 u (us,S)=some (u::us,S):=rfl
def J8(p:List U×Sto):Option (U×Sto):=some (.tup p.1,p.2)
def Ke(p:List U×Sto):Option (U×Sto):=some (.ref p.2.length,p.2++[.lst p.1])
theorem Hi:cI cr ρ S=(cr ρ S).bind J8:=rfl
theorem DV:J8 (us,S)=some (.tup us,S):=rfl
theorem HK:gN cr ρ S=(cr ρ S).bind Ke:=rfl
theorem Ec:Ke (us,S)=some (.ref S.length,S++[.lst us]):=rfl
def kCB(f:Fn)(p:List U×Sto):=f p.1 p.2
theorem GR{f:Fn}:cCB f cr ρ S=(cr ρ S).bind (kCB f):=rfl
theorem yv{f:Fn}:kCB f (us,S)=f us S:=rfl
def Kf(T:Ty)(p:U×Sto):Option (U×Sto):=(tyU p.1 p.2).bind fun t=>some (.bl (Az t T),p.2)
theorem HS{T:Ty}:u9 T ca ρ S=(ca ρ S).bind (Kf T):=rfl
theorem Eh{T:Ty}:Kf T (u,S)=(tyU u S).bind fun t=>some (.bl (Az t T),S):=rfl
def F2(c2:CS):Out×Rho×Sto->Option (Out×Rho×Sto)
 |(.nx,ρ,S)=>c2 ρ S
 |(o,ρ,S)=>some (o,ρ,S)
theorem DW:cf ρ S=some (.nx,ρ,S):=rfl
theorem Bc:bf c1 c2 ρ S=(c1 ρ S).bind (F2 c2):=by
 unfold bf;congr 1;funext p;obtain⟨o,ρ,S⟩:=p;cases o<;>rfl
theorem As:F2 c2 (.nx,ρ,S)=c2 ρ S:=rfl
theorem D3:F2 c2 (.rt u,ρ,S)=some (.rt u,ρ,S):=rfl
theorem D2:F2 c2 (.bk,ρ,S)=some (.bk,ρ,S):=rfl
theorem D1:F2 c2 (.ct,ρ,S)=some (.ct,ρ,S):=rfl
def F6(ρ:Rho)(p:U×Sto):Option (Out×Rho×Sto):=some (.nx,ρ,p.2)
def Kb(ρ:Rho)(p:U×Sto):Option (Out×Rho×Sto):=some (.rt p.1,ρ,p.2)
theorem Eo:ef ca ρ S=(ca ρ S).bind (F6 ρ):=rfl
theorem Bo:F6 ρ (u,S)=some (.nx,ρ,S):=rfl
theorem D5:fh ca ρ S=(ca ρ S).bind (Kb ρ):=rfl
theorem D4:Kb ρ (u,S)=some (.rt u,ρ,S):=rfl
def Jr(c1 c2:CS)(ρ:Rho)(p:Bool×Sto):=if p.1=true then c1 ρ p.2 else c2 ρ p.2
theorem El:dQ t c1 c2 ρ S=(t ρ S).bind (Jr c1 c2 ρ):=rfl
theorem Ek:Jr c1 c2 ρ (true,S)=c1 ρ S:=rfl
theorem Ej:Jr c1 c2 ρ (false,S)=c2 ρ S:=rfl
def kIf(ca cb:CE)(ρ:Rho)(p:Bool×Sto):=if p.1=true then ca ρ p.2 else cb ρ p.2
theorem KU:cIf t ca cb ρ S=(t ρ S).bind (kIf ca cb ρ):=rfl
theorem HX:kIf ca cb ρ (true,S)=ca ρ S:=rfl
theorem HW:kIf ca cb ρ (false,S)=cb ρ S:=rfl
def J9(i:Nat)(ρ:Rho)(p:U×Sto):Option (Out×Rho×Sto):=some (.nx,ρ.set i (some p.1),p.2)
theorem vx:bN i ca ρ S=(ca ρ S).bind (J9 i ρ):=rfl
theorem D0:J9 i ρ (u,S)=some (.nx,ρ.set i (some u),S):=rfl
def C7(q:Rho×Sto):Option (Out×Rho×Sto):=some (.nx,q.1,q.2)
def Kg(g:CG)(ρ:Rho)(p:U×Sto):=(g p.1 ρ p.2).bind C7
theorem IB{g:CG}:Hb ca g ρ S=(ca ρ S).bind (Kg g ρ):=rfl
theorem Et{g:CG}:Kg g ρ (u,S)=(g u ρ S).bind C7:=rfl
theorem Es:C7 (ρ,S)=some (.nx,ρ,S):=rfl
theorem HZ:gNm i u ρ S=some (ρ.set i (some u),S):=rfl
theorem HY{is:List Nat}:gTp is (.tup us) ρ S=(gR is us ρ).bind fun ρ'=>some (ρ',S):=rfl
theorem Ez:gR [] [] ρ=some ρ:=rfl
theorem Ey{is:List Nat}:gR (i::is) (u::us) ρ=gR is us (ρ.set i (some u)):=rfl
def F3(ρ:Rho)(S':Sto):Option (Out×Rho×Sto):=some (.nx,ρ,S')
def Jn(o v:U)(ρ:Rho)(r:U×Sto):=(nc o r.1 v r.2).bind (F3 ρ)
def Jo(ci:CE)(v:U)(ρ:Rho)(q:U×Sto):=(ci ρ q.2).bind (Jn q.1 v ρ)
def kSI(co ci:CE)(ρ:Rho)(p:U×Sto):=(co ρ p.2).bind (Jo ci p.1 ρ)
theorem Kw:gv ca cb cc ρ S=(cc ρ S).bind (kSI ca cb ρ):=rfl
theorem Ho:kSI ca cb ρ (u,S)=(ca ρ S).bind (Jo cb u ρ):=rfl
theorem Hn:Jo cb y ρ (u,S)=(cb ρ S).bind (Jn u y ρ):=rfl
theorem Hm:Jn x y ρ (u,S)=(nc x u y S).bind (F3 ρ):=rfl
theorem Hl:F3 ρ S=some (.nx,ρ,S):=rfl
def kIx(y:U)(S:Sto):Option O->Option (U×Sto)
 | some (.lst us)=>(match y with
   |.int i=>(atI us i).bind fun u=>some (u,S)
   |_=>none)
 |some (.dic kus)=>(l8 y).bind fun k=>(cS kus k).bind fun u=>some (u,S)
 |some (.fdc _ kus)=>(l8 y).bind fun k=>(cS kus k).bind fun u=>some (u,S)
 |_=>none
theorem HM{j:Int}:fIx (.tup us) (.int j) S=(atI us j).bind fun u=>some (u,S):=rfl
theorem Eg:fIx (.ref l) y S=kIx y S S[l]?:=by
 unfold fIx kIx;dsimp only<;>(generalize S[l]?=q;rcases q with _|o<;>first|rfl|(cases o<;>rfl))
theorem HN{j:Int}:kIx (.int j) S (some (.lst us))=(atI us j).bind fun u=>some (u,S):=rfl
theorem Bm{ep:Nat}{kus:List (Key×U)}:kIx y S (some (.fdc ep kus))=(l8 y).bind fun k=>(cS kus k).bind fun u=>some (u,S):=rfl
theorem HP{kus:List (Key×U)}:kIx y S (some (.dic kus))=(l8 y).bind fun k=>(cS kus k).bind fun u=>some (u,S):=rfl
def GZ(l:Nat)(i v:U)(S:Sto):Option O->Option Sto
 | some (.lst us)=>(match i with
   |.int k=>(ixN us.length k).bind fun j=>some (S.set l (.lst (us.set j v)))
   |_=>none)
 |some (.dic kus)=>(l8 i).bind fun k=>if kus.length<LIM then some (S.set l (.dic (lB kus k v)))else none
 |_=>none
theorem Hk:nc (.ref l) x y S=GZ l x y S S[l]?:=by
 unfold nc GZ;dsimp only<;>(generalize S[l]?=q;rcases q with _|o<;>first|rfl|(cases o<;>rfl))
theorem DX{j:Int}:GZ l (.int j) y S (some (.lst us))=(ixN us.length j).bind fun j=>some (S.set l (.lst (us.set j y))):=rfl
theorem DY{kus:List (Key×U)}:GZ l x y S (some (.dic kus))=(l8 x).bind fun k=>if kus.length<LIM then some (S.set l (.dic (lB kus k y)))else none:=rfl
theorem at0{α:Type}{a:α}{r:List α}:atI (a::r) 0=some a:=by show atI _ ((0:Nat):Int)=_;exact nB rfl
theorem at1{α:Type}{a b:α}{r:List α}:atI (a::b::r) 1=some b:=by show atI _ ((1:Nat):Int)=_;exact nB rfl
theorem at2{α:Type}{a b c:α}{r:List α}:atI (a::b::c::r) 2=some c:=by show atI _ ((2:Nat):Int)=_;exact nB rfl
theorem at3{α:Type}{a b c d:α}{r:List α}:atI (a::b::c::d::r) 3=some d:=by show atI _ ((3:Nat):Int)=_;exact nB rfl
theorem ix0{n:Nat}:ixN (n+1) 0=some 0:=by simp[ixN]
theorem ix1{n:Nat}:ixN (n+1+1) 1=some 1:=by simp[ixN];omega
theorem ix2{n:Nat}:ixN (n+1+1+1) 2=some 2:=by simp[ixN];omega
def G8(S:Sto):Option O->Option (U×Sto)
 |some (.lst us)=>some (.int us.length,S)
 |some (.dic us)=>some (.int us.length,S)
 |_=>none
theorem sX:gh [.ref l] S=G8 S S[l]?:=by
 unfold gh G8;dsimp only<;>(generalize S[l]?=q;rcases q with _|o<;>first|rfl|(cases o<;>rfl))
theorem sY:G8 S (some (.lst us))=some (.int us.length,S):=rfl
theorem Ee{kus:List (Key×U)}:G8 S (some (.dic kus))=some (.int kus.length,S):=rfl
theorem Ed:gh [.tup us] S=some (.int us.length,S):=rfl
variable{j k:Int}
theorem IE:fu (.int j) (.int k) S=some (.int (j+k),S):=rfl
theorem Hj:pI (.int j) (.int k) S=some (.int (j-k),S):=rfl
theorem yu(h:vt j k):mf (.int j) (.int k) S=some (.int (j*k),S):=by simp[mf,fI,h]
theorem Bp(h:vi j k):z3 (.int j) (.int k) S=some (.int (j / k),S):=by simp[z3,fI,h]
theorem qd(h:0<k):pK (.int j) (.int k) S=some (.int (j % k),S):=by simp[pK,fI,h]
theorem Hv(h:DR j k):DM (.int j) (.int k) S=some (.int (j^k.toNat),S):=by simp[DM,fI,h]
theorem HJ:fLt (.int j) (.int k) S=some (.bl (decide (j<k)),S):=rfl
theorem KS:fLe (.int j) (.int k) S=some (.bl (decide (j<=k)),S):=rfl
theorem JT:fGt (.int j) (.int k) S=some (.bl (decide (k<j)),S):=rfl
theorem KW:fGe (.int j) (.int k) S=some (.bl (decide (k<=j)),S):=rfl
theorem Ig:fEq (.int j) (.int k) S=some (.bl (decide (j=k)),S):=rfl
theorem HD:fNe (.int j) (.int k) S=some (.bl (!decide (j=k)),S):=rfl
theorem Ie{a c:Str}:fEq (.str a) (.str c) S=some (.bl (decide (a=c)),S):=rfl
theorem HC{a c:Str}:fNe (.str a) (.str c) S=some (.bl (!decide (a=c)),S):=rfl
theorem Ih{a c:Bool}:fEq (.bl a) (.bl c) S=some (.bl (decide (a=c)),S):=rfl
theorem HE{a c:Bool}:fNe (.bl a) (.bl c) S=some (.bl (!decide (a=c)),S):=rfl
def kFn:Out×Rho×Sto->Option (U×Sto)
 |(.rt u,_,S)=>some (u,S)
 |(.nx,_,S)=>some (.non,S)
 |_=>none
theorem iU{n k:Nat}(h:us.length=k):fnU n k c1 us S=(c1 (qp n us) S).bind kFn:=by
 unfold fnU;rw[if_pos h];congr 1;funext p;obtain⟨o,ρ,S⟩:=p;cases o<;>rfl
theorem Ia:kFn (.rt u,ρ,S)=some (u,S):=rfl
theorem H0:kFn (.nx,ρ,S)=some (.non,S):=rfl
end
section
variable{ρ:Rho}{S:Sto}{c1 c2:CS}{t ta tb:CT}{ca cb cc:CE}{cr:CA}{u x y:U}{us:List U}{i l:Nat}{b:Bool}{c:Cl}{fus:List (Option U)}{g:Fn}
open Classical in
def zP(c:Cl)(i:Nat)(S:Sto):Option O->Option (U×Sto)
 |some (.ins c' fus)=>if c'=c then(fus[i]?).join.bind fun u=>some (u,S)else none
 |_=>none
def Js(c:Cl)(i:Nat)(p:U×Sto):=Gu c i p.1 p.2
theorem Ib:nV c i ca ρ S=(ca ρ S).bind (Js c i):=rfl
theorem En:Js c i (.ref l,S)=zP c i S S[l]?:=by
 unfold Js Gu zP;dsimp only<;>(generalize S[l]?=q;rcases q with _|o<;>first|rfl|(cases o<;>rfl))
theorem Em:zP c i S (some (.ins c fus))=((fus[i]?).join).bind fun u=>some (u,S):=by
 unfold zP;dsimp only;rw[if_pos rfl]
open Classical in
def G5(c:Cl)(i l:Nat)(v:U)(S:Sto):Option O->Option Sto
 |some (.ins c' fus)=>if c'=c then some (S.set l (.ins c (fus.set i (some v))))else none
 |_=>none
def G7(c:Cl)(i:Nat)(v:U)(ρ:Rho)(q:U×Sto):=(xA c i q.1 v q.2).bind (F3 ρ)
def Ka(c:Cl)(i:Nat)(ca:CE)(ρ:Rho)(p:U×Sto):=(ca ρ p.2).bind (G7 c i p.1 ρ)
theorem Kx:kI c i ca cb ρ S=(cb ρ S).bind (Ka c i ca ρ):=rfl
theorem Hu:Ka c i ca ρ (u,S)=(ca ρ S).bind (G7 c i u ρ):=rfl
theorem Ht:G7 c i u ρ (.ref l,S)=(G5 c i l u S S[l]?).bind (F3 ρ):=by
 unfold G7 xA G5;dsimp only<;>(generalize S[l]?=q;rcases q with _|o<;>first|rfl|(cases o<;>rfl))
theorem Hq:G5 c i l u S (some (.ins c fus))=some (S.set l (.ins c (fus.set i (some u)))):=by
 unfold G5;dsimp only;rw[if_pos rfl]
def w8(g:Fn)(l:Nat)(q:List U×Sto):=g (.ref l::q.1) q.2
open Classical in
def t9(c:Cl)(g:Fn)(cr:CA)(ρ:Rho)(l:Nat)(S:Sto):Option O->Option (U×Sto)
 |some (.ins c' _)=>if c'=c then(cr ρ S).bind (w8 g l)else none
 |_=>none
def C6(c:Cl)(g:Fn)(cr:CA)(ρ:Rho)(p:U×Sto):=xC c g p.1 p.2 (cr ρ)
theorem Eb:fv c g ca cr ρ S=(ca ρ S).bind (C6 c g cr ρ):=rfl
theorem Bh:C6 c g cr ρ (.ref l,S)=t9 c g cr ρ l S S[l]?:=by
 unfold C6 xC t9;dsimp only<;>(generalize S[l]?=q;rcases q with _|o<;>first|rfl|(cases o<;>rfl))
theorem Bg:t9 c g cr ρ l S (some (.ins c fus))=(cr ρ S).bind (w8 g l):=by
 unfold t9;dsimp only;rw[if_pos rfl]
theorem Bf:w8 g l (us,S)=g (.ref l::us) S:=rfl
def F5(n:Nat):U×Sto->Option (U×Sto)
 |(.non,S)=>some (.ref n,S)
 |_=>none
theorem Au:xD c g us S=(g (.ref S.length::us) (S++[.ins c (List.replicate c.ns.length none)])).bind (F5 S.length):=by
 unfold xD;congr 1;funext p;obtain⟨u,S⟩:=p;cases u<;>rfl
theorem Bi:F5 i (.non,S)=some (.ref i,S):=rfl
def kIn(neg:Bool)(x:U)(S:Sto):Option O->Option (U×Sto)
 |some (.lst us)=>if gK x=true/\us.all gK=true then some (.bl (if neg then !inU x us else inU x us),S)else none
 |some (.dic kus)=>(l8 x).bind fun k=>some (.bl (if neg then !(cS kus k).isSome else(cS kus k).isSome),S)
 |some (.fdc _ kus)=>(l8 x).bind fun k=>some (.bl (if neg then !(cS kus k).isSome else(cS kus k).isSome),S)
 |_=>none
theorem HU{neg:Bool}:fIn neg x (.ref l) S=kIn neg x S S[l]?:=by
 unfold fIn kIn;dsimp only<;>(generalize S[l]?=q;rcases q with _|o<;>first|rfl|(cases o<;>rfl))
theorem HV{neg:Bool}{kus:List (Key×U)}:kIn neg x S (some (.dic kus))=(l8 x).bind fun k=>some (.bl (if neg then !(cS kus k).isSome else(cS kus k).isSome),S):=rfl
theorem vz{neg:Bool}(h:gK x=true/\us.all gK=true):kIn neg x S (some (.lst us))=some (.bl (if neg then !inU x us else inU x us),S):=by
 unfold kIn;dsimp only;rw[if_pos h]
theorem HL{j:Int}:l8 (.int j)=some (.inl j):=rfl
theorem Ef{z:Str}:l8 (.str z)=some (.inr z):=rfl
def Jx(f:U->List U->Sto->Option (U×Sto))(x:U)(q:List U×Sto):=f x q.1 q.2
def Jy(f:U->List U->Sto->Option (U×Sto))(cr:CA)(ρ:Rho)(x:U)(S:Sto):Option O->Option (U×Sto)
 |some (.lst _)=>(cr ρ S).bind (Jx f x)
 |_=>none
def kBM(f:U->List U->Sto->Option (U×Sto))(cr:CA)(ρ:Rho):U×Sto->Option (U×Sto)
 |(.ref l,S)=>Jy f cr ρ (.ref l) S S[l]?
 |_=>none
variable{fm:U->List U->Sto->Option (U×Sto)}
theorem KZ:cBM fm ca cr ρ S=(ca ρ S).bind (kBM fm cr ρ):=by
 unfold cBM;congr 1;funext p;obtain⟨u,S⟩:=p
 cases u<;>try rfl
theorem IA:kBM fm cr ρ (.ref l,S)=Jy fm cr ρ (.ref l) S S[l]?:=rfl
theorem Iy:Jy fm cr ρ x S (some (.lst us))=(cr ρ S).bind (Jx fm x):=rfl
theorem Iw:Jx fm x (us,S)=fm x us S:=rfl
def G9(l:Nat)(u:U)(S:Sto):Option O->Option (U×Sto)
 |some (.lst us)=>if us.length<LIM then some (.non,S.set l (.lst (us++[u])))else none
 |_=>none
theorem IC:bW (.ref l) [u] S=G9 l u S S[l]?:=by
 unfold bW G9;dsimp only<;>(generalize S[l]?=q;rcases q with _|o<;>first|rfl|(cases o<;>rfl))
theorem fk(h:us.length<LIM):G9 l u S (some (.lst us))=some (.non,S.set l (.lst (us++[u]))):=by
 unfold G9;dsimp only;rw[if_pos h]
def Jt(ku xu:U)(S:Sto):Option O->Option (U×Sto)
 |some (.dic kus)=>(l8 ku).bind fun k=>some ((cS kus k).getD xu,S)
 |_=>none
def Ju(l:Nat)(ku:U)(r:U×Sto):=Jt ku r.1 r.2 r.2[l]?
def Jv(l:Nat)(cx:CE)(ρ:Rho)(q:U×Sto):=(cx ρ q.2).bind (Ju l q.1)
def Jw(l:Nat)(ck cx:CE)(ρ:Rho)(S:Sto):Option O->Option (U×Sto)
 |some (.dic _)=>(ck ρ S).bind (Jv l cx ρ)
 |_=>none
def kDG(ck cx:CE)(ρ:Rho):U×Sto->Option (U×Sto)
 |(.ref l,S)=>Jw l ck cx ρ S S[l]?
 |_=>none
theorem KY:GB ca cb cc ρ S=(ca ρ S).bind (kDG cb cc ρ):=by
 unfold GB;congr 1;funext p;obtain⟨u,S⟩:=p
 cases u<;>try rfl
theorem Ip:kDG cb cc ρ (.ref l,S)=Jw l cb cc ρ S S[l]?:=rfl
theorem Io{kus:List (Key×U)}:Jw l cb cc ρ S (some (.dic kus))=(cb ρ S).bind (Jv l cc ρ):=rfl
theorem Im:Jv l cc ρ (u,S)=(cc ρ S).bind (Ju l u):=rfl
theorem Il:Ju l u (x,S)=Jt u x S S[l]?:=rfl
theorem Ik{kus:List (Key×U)}:Jt u x S (some (.dic kus))=(l8 u).bind fun k=>some ((cS kus k).getD x,S):=rfl
theorem Ep:Dy ρ S=some (.ref S.length,S++[.dic []]):=rfl
def kP3(k:Key)(u:U)(z:List (Key×U)×Sto):Option (List (Key×U)×Sto):=some ((k,u)::z.1,z.2)
def kP2(r:List (CE×CE))(ρ:Rho)(x:U)(q:U×Sto):=(l8 x).bind fun k=>(jU r ρ q.2).bind (kP3 k q.1)
def kP1(cv:CE)(r:List (CE×CE))(ρ:Rho)(p:U×Sto):=(cv ρ p.2).bind (kP2 r ρ p.1)
variable{pr:List (CE×CE)}
theorem KC:jU [] ρ S=some ([],S):=rfl
theorem x_p:jU ((ca,cb)::pr) ρ S=(ca ρ S).bind (kP1 cb pr ρ):=rfl
theorem KA:kP1 cb pr ρ (u,S)=(cb ρ S).bind (kP2 pr ρ u):=rfl
theorem Kz:kP2 pr ρ x (u,S)=(l8 x).bind fun k=>(jU pr ρ S).bind (kP3 k u):=rfl
theorem Ky{k:Key}{z:List (Key×U)}:kP3 k u (z,S)=some ((k,u)::z,S):=rfl
def kD1(n:Nat)(kus:List (Key×U))(S:Sto):Option O->Option (U×Sto)
 |some (.dic [])=>some (.ref n,S.set n (.dic (oy kus)))
 |_=>none
def kD(n:Nat)(q:List (Key×U)×Sto):=kD1 n q.1 q.2 q.2[n]?
theorem Er:yd pr ρ S=(jU pr ρ (S++[.dic []])).bind (kD S.length):=by
 unfold yd;congr 1
theorem Bs{z:List (Key×U)}:kD i (z,S)=kD1 i z S S[i]?:=rfl
theorem Br{z:List (Key×U)}:kD1 i z S (some (.dic []))=some (.ref i,S.set i (.dic (oy z))):=rfl
theorem DS:gU [.tup us] S=some (.tup us,S):=rfl
def Jm(S:Sto):Option O->Option (U×Sto)
 |some (.lst us)=>some (.tup us,S)
 |_=>none
theorem DT:gU [.ref l] S=Jm S S[l]?:=by
 unfold gU Jm;dsimp only<;>(generalize S[l]?=q;rcases q with _|o<;>first|rfl|(cases o<;>rfl))
theorem DU:Jm S (some (.lst us))=some (.tup us,S):=rfl
theorem Bj:lT [.tup us] S=some (.ref S.length,S++[.lst us]):=rfl
def kLs(S:Sto):Option O->Option (U×Sto)
 |some (.lst us)=>some (.ref S.length,S++[.lst us])
 |_=>none
theorem Bk:lT [.ref l] S=kLs S S[l]?:=by
 unfold lT kLs;dsimp only<;>(generalize S[l]?=q;rcases q with _|o<;>first|rfl|(cases o<;>rfl))
theorem Bl:kLs S (some (.lst us))=some (.ref S.length,S++[.lst us]):=rfl
theorem Ei:zZ [.bl b] S=some (.int (if b then 1 else 0),S):=rfl
theorem ga{X:Sto}{n:Nat}:(S++X)[S.length+n]?=X[n]?:=by rw[List.getElem?_append_right (Nat.le_add_right _ _),Nat.add_sub_cancel_left]
theorem ga0{X:Sto}:(S++X)[S.length]?=X[0]?:=ga (n:=0)
theorem gs{X:Sto}{n:Nat}{o:O}:(S++X).set (S.length+n) o=S++X.set n o:=by rw[List.set_append_right _ _ (Nat.le_add_right _ _),Nat.add_sub_cancel_left]
theorem gs0{X:Sto}{o:O}:(S++X).set S.length o=S++X.set 0 o:=gs (n:=0)
section
variable{ok:Sto->Prop}{gg:CG}{cbd:CS}{ρ0 ρ1:Rho}{S0 S1:Sto}
theorem d6(h:ok S):dH ok gg cbd [] ρ S=some (.nx,ρ,S):=by unfold dH;rw[if_pos h]
theorem bx(h:ok S)(hg:gg u ρ S=some (ρ0,S0))(hb:cbd ρ0 S0=some (.nx,ρ1,S1)):dH ok gg cbd (u::us) ρ S=dH ok gg cbd us ρ1 S1:=by
 rw[dH];dsimp only;rw[if_pos h,hg,Option.bind_some];dsimp only;rw[hb,Option.bind_some]
theorem rX(h:ok S)(hg:gg u ρ S=some (ρ0,S0))(hb:cbd ρ0 S0=some (.rt x,ρ1,S1)):dH ok gg cbd (u::us) ρ S=some (.rt x,ρ1,S1):=by
 rw[dH];dsimp only;rw[if_pos h,hg,Option.bind_some];dsimp only;rw[hb,Option.bind_some]
theorem lX{n:Nat}(ht:t ρ S=some (true,S0))(hb:cbd ρ S0=some (.nx,ρ1,S1)):cW t cbd (n+1) ρ S=cW t cbd n ρ1 S1:=by
 rw[cW];dsimp only;rw[ht,Option.bind_some];dsimp only;rw[if_pos rfl,hb,Option.bind_some]
theorem yJ{n:Nat}(ht:t ρ S=some (true,S0))(hb:cbd ρ S0=some (.rt x,ρ1,S1)):cW t cbd (n+1) ρ S=some (.rt x,ρ1,S1):=by
 rw[cW];dsimp only;rw[ht,Option.bind_some];dsimp only;rw[if_pos rfl,hb,Option.bind_some]
theorem gX{n:Nat}(ht:t ρ S=some (false,S0)):cW t cbd (n+1) ρ S=some (.nx,ρ,S0):=by
 rw[cW];dsimp only;rw[ht,Option.bind_some];dsimp only;rw[if_neg (by decide)]
theorem rg{ce:CE}{ys:List U}(h:ok S)(hg:gg u ρ S=some (ρ0,S0))(he:ce ρ0 S0=some (x,S1))(hl:S1[l]?=some (.lst ys))(hn:ys.length<LIM):j4 ok gg ce l (u::us) ρ S=j4 ok gg ce l us ρ0 (S1.set l (.lst (ys++[x]))):=by
 rw[j4,if_pos h,hg,Option.bind_some];dsimp only;rw[he,Option.bind_some];dsimp only;rw[hl];dsimp only;rw[if_pos hn]
theorem uo{ce:CE}(h:ok S):j4 ok gg ce l [] ρ S=some S:=by rw[j4,if_pos h]
end
end
theorem C2{K:PySem.W.Frag}{H:Hp}{p xs:Addr}{c:CS}{r:Rho}{σ:L2.St}{v0:Option V}{Q:VK}{nx bk ct:L2.St->Hp->Prop}(P:Ks H p xs)
  (ok:∀(ns:List Int) (a b:Int),0<=a->0<=b->∃ρ' S',c (none::some (.ref 1)::r) [.lst (ns.map U.int),.lst [.ref 0,.int a,.int b]]=some (.rt (.bl true),ρ',S')) (q:∀H',Q (.bl true) H')
  (hr:r=List.replicate r.length none:=by rfl) (hl:σ.length=r.length:=by rfl):tS K c { nx:=nx,rt:=Q,bk:=bk,ct:=ct } (v0::some (.ref p)::σ) H:=by
 obtain⟨ns,a,b,h1,h2,h3,h4,h5⟩:=P
 obtain⟨ρ',S',e⟩:=ok ns a b h4 h5
 refine⟨[xs,p],_,_,_,ρ',S',⟨rfl,by simp[h3],fun l ad o e1 e2=>?_⟩,⟨by simp[hl],fun i u e1=>?_⟩,e,fun m' v H' _ _ iv=>by rw[iv.of_bl];exact q H'⟩
 ·match l,e1,e2 with
  |0,e1,e2=>
   simp at e1 e2
   subst e1;subst e2
   exact⟨_,h2,iP ns⟩
  |1,e1,e2=>
   simp at e1 e2
   subst e1;subst e2
   exact⟨_,h1,.cons_ (.ref_ rfl) (.cons_ .int_ (.cons_ .int_ .nil_))⟩
  |l+2,e1,e2=>simp at e1
 ·match i,e1 with
  |0,e1=>simp at e1
  |1,e1=>
   simp at e1
   subst e1
   exact⟨.ref p,rfl,.ref_ rfl⟩
  |i+2,e1=>
   simp at e1
   rw[hr,List.getElem?_replicate]at e1
   split at e1<;>cases e1
theorem DO{p:List Value->Prop}(h:p [])(us:List Value)(e:us.length=0):p us:=by rw[List.length_eq_zero_iff.mp e];exact h
theorem JJ{n:Nat}{p:List Value->Prop}(h:∀a us,us.length=n->p (a::us))(us:List Value)(e:us.length=n+1):p us:=by
 cases us with
 |nil=>cases e
 |cons a us=>exact h a us (Nat.succ.inj e)
def JR(H:Hp)(a:Addr)(ep:Nat)(ks:List Key):Prop:=∃ob es kvs,H a=some (.frz ob (.dK kvs))/\ob.data=.dict es ep/\kvs.map (·.1)=ks
def Itd(a:Addr)(ep:Nat)(ks:List Key):It:=
 ⟨fun i H=>i<ks.length/\JR H a ep ks,fun i H x H'=>H'=H/\∃k,ks[i]?=some k/\x=kV k,fun i H=>ks.length<=i/\JR H a ep ks⟩
theorem AY{P:Program}{w:World}{H:Hp}{h:Heap}{a:Addr}{ob:Obj}{kvs:List (Key×V)}{es:Array DictEntry}{ep:Nat}(ok:HOk P w H h)(e:H a=some (.frz ob (.dK kvs)))(d:ob.data=.dict es ep):∃vs,KV kvs vs/\h.DictAt (cY P w) a vs ep:=by
 obtain⟨e1,_,_,vs,r,o,es',ep',e2,e3,e4,rest⟩:=(show cB P w H h a (.frz ob (.dK kvs))from ok a _ e)
 rw[e1]at e2;cases e2
 rw[d]at e4;cases e4
 exact⟨vs,r,ob,es,e1,e3,d,rest⟩
theorem AR{κ:Type}:∀{kvs:List (κ×V)} {vs:List (κ×Value)} {i:Nat} {k:κ} {v:V},KV kvs vs->kvs[i]?=some (k,v)->∃u,vs[i]?=some (k,u)
 |_,_,i,k,v,.nil,h=>by simp at h
 |_,_,0,k,v,.cons (b:=(k',u)) r t,h=>by
  simp at h;subst h
  have:k=k':=r.1
  subst this
  exact⟨u,by simp⟩
 |_,_,i+1,k,v,.cons r t,h=>by
  obtain⟨u,e⟩:=AR (i:=i) t (by simpa using h)
  exact⟨u,by simpa using e⟩
theorem C4{k:Key}{u:Value}(h:rZ k u=true):dn (kV k) u:=by
 rcases bR h with⟨i,t,rfl,rfl⟩|⟨i,t,rfl,rfl⟩
 ·exact⟨t,rfl⟩
 ·exact⟨t,rfl⟩
theorem vQ{P:Program}{w:World}{K:PySem.W.Frag}{tg:Expr}(a it:Addr){ks:List Key}{ep:Nat} :
  DH P w K tg (Itd a ep ks) [it] it (fun n h=>h.IsKeyIter it a n ks.length ep) where
 mem:=by simp
 obj:=fun n h st c hc=>by
  simp only[List.mem_cons,List.not_mem_nil,or_false]at hc
  subst hc
  obtain⟨o,e,_,q⟩:=st
  exact⟨o,e,fun v z=>by rw[q]at z;cases z⟩
 keep:=fun n h h' st kp=>Heap.IsKeyIter.at st fun o q=>kp it (by simp) o q
 item:=by
  intro X hP hw hK hc n pins s σ H E Iv hf st hg
  subst hP hw hK
  obtain⟨hi,ob,es,kvs,hq,d,ek⟩:=hg
  obtain⟨vs,rv,da⟩:=AY Iv.hok hq d
  have hl:ks.length=vs.length:=by rw[<-ek,List.length_map];exact Paired.length rv
  have hi':n<kvs.length:=by rw[<-ek,List.length_map]at hi;exact hi
  have hx:kvs[n]?=some ((kvs[n]).1,(kvs[n]).2):=List.getElem?_eq_getElem hi'
  obtain⟨u,hu⟩:=AR rv hx
  obtain⟨f0,f1,f2,f3⟩:=hf it (by simp)
  have st':s.heap.IsKeyIter it a n vs.length ep:=by rw[<-hl];exact st
  refine wpAny_pyNext_dict_item st' da hu fun key h1 hk st1 sb=>⟨key,rfl,?_⟩
  have I1:Inv X pins σ H { s with heap:=h1 }:=Iv.turned (t':=s.toks) (fun b o hb e=>(sb.2 b hb).trans e) f0 f1 f3.1 f3.2.1 f3.2.2
  have st2:h1.IsKeyIter it a (n+1) ks.length ep:=by rw[hl];exact st1
  obtain⟨o,e,c,q⟩:=id st2
  exact xp (s:={ s with heap:=h1 }) e c q (by decide) ⟨kV (kvs[n]).1,H,I1,C4 hk,⟨rfl,_,by rw[<-ek,List.getElem?_map,hx];rfl,rfl⟩,st2,fun b hb=>(hf b hb).1⟩
 done:=by
  intro X hP hw hK hc n pins s σ H E Iv hf st hg
  subst hP hw hK
  obtain⟨hi,ob,es,kvs,hq,d,ek⟩:=hg
  obtain⟨vs,rv,da⟩:=AY Iv.hok hq d
  have hl:ks.length=vs.length:=by rw[<-ek,List.length_map];exact Paired.length rv
  obtain⟨f0,f1,f2,f3⟩:=hf it (by simp)
  have st':s.heap.IsKeyIter it a n vs.length ep:=by rw[<-hl];exact st
  exact wpAny_pyNext_dict_end (Iv.ok.hd hc) st' da (by rw[List.getElem?_eq_none_iff];omega) fun h1 eb=>⟨rfl,Iv.turned (t':=s.toks) (fun b o hb e=>eb b o hb e) f0 f1 f3.1 f3.2.1 f3.2.2⟩
 self:=fun _ _ _ _ _ st h=>wpAny_pyIter_keyiter st h
theorem md{X:Cx}{pins:List (Addr×Obj)}{σ:L2.St}{H:Hp}{s:Shared}{a:Addr}{o u:HO}(I:Inv X pins σ H s)(e:H a=some o)(nt:∀xs,o≠.tup xs)(no:∀x,o≠.own x)(nb:∀ps,o≠.tbl ps)
  (nf:∀ob u,X.H₀ a≠some (.frz ob u)) (new:cB X.prog X.w (upd H a u) s.heap a u):Inv X pins σ (upd H a u) s:=by
 have nn:∀b,H b=none->upd H a u b=none:=fun b q=>by rw[bH (Ne.symm (cP e q))];exact q
 have ho:∀b x,H b=some (.own x)->upd H a u b=some (.own x):=fun b x q=>by
  rw[bH];exact q
  intro z;subst z;rw[e]at q;cases q;exact no _ rfl
 have ht:∀b xs,H b=some (.tup xs)->upd H a u b=some (.tup xs):=fun b x q=>by
  rw[bH];exact q
  intro z;subst z;rw[e]at q;cases q;exact nt _ rfl
 refine⟨I.ok,I.os,I.bare,⟨I.base.keep,I.base.slot,fun b ob q1 q2 q3=>nn _ (I.base.free b ob q1 q2 q3),I.base.there,fun b xs q=>ht _ _ (I.base.tups b xs q),fun b ob v q=>?_,fun b ps q=>?_⟩,I.loc,I.cell,nn _ I.free,fun x c q=>nn _ (I.freeC x c q),fun p hp=>?_,fun b v q=>?_,I.len⟩
 ·rw[bH];exact I.base.frzs b ob v q
  intro z;subst z;exact nf _ _ q
 ·obtain⟨more,q'⟩:=I.base.tbls b ps q
  refine⟨more,?_⟩
  rw[bH];exact q'
  intro z;subst z;rw[e]at q';cases q';exact nb _ rfl
 ·obtain⟨p1,p2,p3⟩:=I.pin p hp
  exact⟨p1,nn _ p2,p3⟩
 ·by_cases hb:b=a
  ·subst hb;rw[aP]at q;cases q;exact new
  ·rw[bH hb]at q
   exact(I.hok b v q).stay (fun _ _ _ g=>g) (fun c g=>ho c b g) fun c xs g=>ht c xs g
def p8(X:Cx)(a:Addr):Prop:=∀ob u,X.H₀ a≠some (.frz ob u)
def Gn(X:Cx)(tl:TE):TI:=fun σ H R=>tl σ H fun x H1=>∃a kvs,x=.ref a/\H1 a=some (.dK kvs)/\∀ob es ep,p8 X a->ob.data=.dict es ep->R (Itd a ep (kvs.map (·.1))) (upd H1 a (.frz ob (.dK kvs)))
theorem BN{X:Cx}{tg l:Expr}{tl:TE}(hl:WE X l tl):WI X tg l (Gn X tl):=by
 constructor
 intro pins s σ H R I h
 refine thn (hl.h pins s σ H _ I h) fun v s1 hz=>?_
 obtain⟨x,H1,I1,r1,q1⟩:=hz
 obtain⟨a,kvs,rfl,hq,q⟩:=q1
 cases r1
 obtain⟨hz,hs,vs,rv,ob,es,ep,e1,e2,e3,rest⟩:=Ab I1.hok hq
 have da:s1.heap.DictAt (cY X.prog X.w) a vs ep:=⟨ob,es,e1,e2,e3,rest⟩
 have hl:kvs.length=vs.length:=Paired.length rv
 have nf:p8 X a:=fun ob' u' z=>by have:=I1.base.frzs a ob' u' z;rw[hq]at this;cases this
 have I2:Inv X pins σ (upd H1 a (.frz ob (.dK kvs))) s1:=md I1 hq (by simp) (by simp) (by simp) nf ⟨e1,hz,hs,vs,rv,ob,es,ep,e1,e2,e3,rest⟩
 refine wpAny_pyIter_dict hs da ?_
 refine⟨s1.heap.objs.size,[s1.heap.objs.size],_,_,_,rfl,I2.kept (t':=s1.toks) fun b o g=>Heap.get?_push_of_some _ g,vQ a _,⟨_,Heap.get?_push_size _ rfl,rfl,by rw[List.length_map,hl];rfl⟩,fun b hb=>?_,q ob es ep nf e3⟩
 simp only[List.mem_cons,List.not_mem_nil,or_false]at hb
 subst hb
 exact I2.fpOk (Nat.le_refl _) (I2.hok.fresh (Nat.le_refl _))
def GK(X:Cx)(D:vq):vq where
 nx:=fun σ H=>∃a ob kvs,p8 X a/\H a=some (.frz ob (.dK kvs))/\D.nx σ (upd H a (.dK kvs))
 rt:=fun v H=>∃a ob kvs,p8 X a/\H a=some (.frz ob (.dK kvs))/\D.rt v (upd H a (.dK kvs))
 bk:=fun σ H=>∃a ob kvs,p8 X a/\H a=some (.frz ob (.dK kvs))/\D.bk σ (upd H a (.dK kvs))
 ct:=fun σ H=>∃a ob kvs,p8 X a/\H a=some (.frz ob (.dK kvs))/\D.ct σ (upd H a (.dK kvs))
theorem ma{X:Cx}{pins:List (Addr×Obj)}{σ:L2.St}{H:Hp}{s:Shared}{a:Addr}{ob:Obj}{kvs:List (Key×V)}(I:Inv X pins σ H s)(nf:p8 X a)(e:H a=some (.frz ob (.dK kvs))):Inv X pins σ (upd H a (.dK kvs)) s:=
 md I e (by simp) (by simp) (by simp) nf (show cB X.prog X.w H s.heap a (.frz ob (.dK kvs))from I.hok a _ e).2
theorem Bv{X:Cx}{st:Stmt}{t:TS}(h:WS X st t):WS X st (fun D σ H=>t (GK X D) σ H):=by
 constructor
 intro pins s σ H D I k
 refine thn (h.h pins s σ H _ I k) fun f s1 q=>?_
 cases f with
 |next=>obtain⟨σ1,H1,I1,a,ob,kvs,nf,e,r⟩:=q;exact⟨σ1,_,ma I1 nf e,r⟩
 |brk=>obtain⟨σ1,H1,I1,a,ob,kvs,nf,e,r⟩:=q;exact⟨σ1,_,ma I1 nf e,r⟩
 |cont=>obtain⟨σ1,H1,I1,a,ob,kvs,nf,e,r⟩:=q;exact⟨σ1,_,ma I1 nf e,r⟩
 |ret u=>obtain⟨v,σ1,H1,I1,rv,a,ob,kvs,nf,e,r⟩:=q;exact⟨v,σ1,_,ma I1 nf e,rv,r⟩
def kU:Key->U
 |.inl i=>.int i
 |.inr x=>.str x
theorem Gh{K:PySem.W.Frag}{m:List Addr}{H:Hp}(k:Key):Is K m H (kV k) (kU k):=by
 cases k with
 |inl i=>exact .int_
 |inr x=>exact .str_
open Classical in
def uni{α:Type}(F:Nat->Option α):Option α:=if h:∃r,∀n,F n=some r then some h.choose else none
theorem vN{α:Type}{F:Nat->Option α}{r:α}(h:∀n,F n=some r):uni F=some r:=by
 have hx:∃r,∀n,F n=some r:=⟨r,h⟩
 unfold uni
 rw[dif_pos hx]
 have:=hx.choose_spec 0
 rw[h 0]at this
 exact this.symm
theorem oV{α:Type}{F:Nat->Option α}{r:α}(h:uni F=some r)(n:Nat):F n=some r:=by
 unfold uni at h
 split at h
 ·rename_i hx
  cases h
  exact hx.choose_spec n
 ·cases h
def yc(ce:CE)(g:CG)(cb:CS):CS:=fun ρ S=>(ce ρ S).bind fun p=>match p.1 with
 |.ref l=>match p.2[l]? with
  |some (.dic kus)=>uni fun ep=>(dH (fun S'=>S'[l]?=some (.fdc ep kus)) g cb (kus.map fun q=>kU q.1) ρ (p.2.set l (.fdc ep kus))).bind fun r=>match r.2.2[l]? with
   |some (.fdc _ kus')=>some (r.1,r.2.1,r.2.2.set l (.dic kus'))
   |_=>none
  |_=>none
 |_=>none
theorem Df{K:PySem.W.Frag}{m:List Addr}{H:Hp}{a:Addr}{l ep:Nat}{kus:List (Key×U)}(ha:m[l]?=some a):yp K (Itd a ep (kus.map (·.1))) m H (kus.map fun q=>kU q.1) (fun S'=>S'[l]?=some (.fdc ep kus)):=by
 intro m2 S2 H2 i e sr hok
 obtain⟨a',ha',ob,es,kvs,hx,hd,ip⟩:=sr.get hok
 have ha2:=e.get ha
 rw[ha2]at ha';cases ha'
 have hz:JR H2 a ep (kus.map (·.1)):=⟨ob,es,kvs,hx,hd,ip.1⟩
 refine⟨fun u hu=>?_,fun hu=>⟨by simpa using hu,hz⟩⟩
 have hi:i<kus.length:=by have:=(List.getElem?_eq_some_iff.mp hu).1;simpa using this
 refine⟨⟨by simpa using hi,hz⟩,?_⟩
 rintro x H3 ⟨rfl,k,hk,rfl⟩
 refine⟨.refl,sr,?_⟩
 rw[List.getElem?_map]at hk hu
 rw[List.getElem?_eq_getElem hi]at hk hu
 cases hk;cases hu
 exact Gh _
theorem zW{X:Cx}{ce:CE}{g:CG}{cb:CS}:∀D σ H,tS X.K (yc ce g cb) D σ H->EM (Gn X (tE X.K ce)) (tG X.K g) (tS X.K cb) (GK X D) σ H:=by
 rintro D σ H ⟨m,ρ,S,o,ρ',S',sr,lr,hc,post⟩
 obtain⟨⟨x,S1⟩,h1,h⟩:=Option.bind_eq_some_iff.mp hc
 refine⟨m,ρ,S,x,S1,sr,lr,h1,fun m1 v1 H1 e1 sr1 i1=>?_⟩
 cases x with
 |ref l=>
  simp only at h
  split at h<;>try cases h
  rename_i kus hS
  obtain⟨a,ha,rfl⟩:=i1.of_ref
  obtain⟨a',ha',kvs,hx,ip⟩:=sr1.get hS
  rw[ha]at ha';cases ha'
  refine⟨a,kvs,rfl,hx,fun ob es ep nf hd=>?_⟩
  obtain⟨⟨o1,ρ1,S2⟩,h2,h3⟩:=Option.bind_eq_some_iff.mp (oV h ep)
  simp only at h3
  split at h3<;>try cases h3
  rename_i ep' kus' hS2
  have kp:Ar X.K H1 (upd H1 a (.frz ob (.dK kvs))):=sr1.keep ha _
  have ee:Ext X.K m1 H1 m1 (upd H1 a (.frz ob (.dK kvs))):=.of kp
  have sr2:Sr X.K m1 (S1.set l (.fdc ep kus)) (upd H1 a (.frz ob (.dK kvs))):=sr1.put ha ⟨ob,es,kvs,aP,hd,ip.mono ee⟩
  rw[ip.1]
  refine pB sr2 (lr.mono (e1.trans ee)) (Df ha) h2 ?_
  have back:∀m3 H3,Ext X.K m1 (upd H1 a (.frz ob (.dK kvs))) m3 H3->Sr X.K m3 S2 H3->∃ob' kvs',H3 a=some (.frz ob' (.dK kvs'))/\Ext X.K m3 H3 m3 (upd H3 a (.dK kvs'))/\Sr X.K m3 (S2.set l (.dic kus')) (upd H3 a (.dK kvs')):=fun m3 H3 e3 sr3=>by
   obtain⟨a3,ha3,ob3,es3,kvs3,hx3,hd3,ip3⟩:=sr3.get hS2
   rw[e3.get ha]at ha3;cases ha3
   have e4:Ext X.K m3 H3 m3 (upd H3 a (.dK kvs3)):=.of (sr3.keep (e3.get ha) _)
   exact⟨ob3,kvs3,hx3,e4,sr3.put (e3.get ha) ⟨kvs3,aP,ip3.mono e4⟩⟩
  have nxt:∀(R:L2.St->Hp->Prop),gy X.K m H R ρ' (S2.set l (.dic kus'))->gy X.K m1 (upd H1 a (.frz ob (.dK kvs))) (fun σ H=>∃a ob kvs,p8 X a/\H a=some (.frz ob (.dK kvs))/\R σ (upd H a (.dK kvs))) ρ' S2:=fun R p m3 σ3 H3 e3 sr3 lr3=>by
   obtain⟨ob3,kvs3,hx3,e4,sr4⟩:=back m3 H3 e3 sr3
   exact⟨a,ob3,kvs3,nf,hx3,p m3 σ3 _ (((e1.trans ee).trans e3).trans e4) sr4 (lr3.mono e4)⟩
  cases o with
  |nx=>exact nxt _ post
  |bk=>exact nxt _ post
  |ct=>exact nxt _ post
  | rt v=>
    intro m3 v3 H3 e3 sr3 i3
    obtain⟨ob3,kvs3,hx3,e4,sr4⟩:=back m3 H3 e3 sr3
    exact⟨a,ob3,kvs3,nf,hx3,post m3 v3 _ (((e1.trans ee).trans e3).trans e4) sr4 (i3.mono e4)⟩
 |_=>cases h
theorem Cg{X:Cx}{tg iter:Expr}{body:List Stmt}{ce:CE}{g:CG}{cb:CS}{pos:Pos}(hp:PassesOwn (model X.prog X.w) X.A X.env X.xe)(hc:X.calm=true)(hi:QE X iter ce)(hg:QG X tg g)(hb:QSs X body cb)(hs:∀x,foldedSetIterable iter X.env x=pure x:=by intro _;rfl):QS X (.For tg iter body [] pos) (yc ce g cb):=
 (Bv (rF hp hc (BN hi) hg hb hs)).imp zW
end OP
namespace OG
open PySem PySem.Spec PyProof.Rows L2
def rL(wi:TI)(g:TG)(tt:TT)(te:TE)(n:Nat)(caps:List Nat):TE:=fun σ H Q=>wi σ H fun J H1=>∀l,H1 l=none->∃W:Nat->Nat->L2.St->Hp->Prop,(∃m,W 0 m (stC n caps σ) (upd H1 l (.lst [])))/\
 ∀i m σ' H2,W i m σ' H2->(J.stop i H2/\Q (.ref l) H2)\/(J.go i H2/\∃N:L2.St->Hp->Prop,(∀σ'' H',N σ'' H'->∃m',m'<m/\W (i+1) m' σ'' H')/\
  ∀x H3,J.yld i H2 x H3->g x σ' H3 fun σ2 H4=>tt σ2 H4 fun b H5=>match b with
   |true=>te σ2 H5 fun v H6=>∃ys,H6 l=some (.lst ys)/\ys.length<sizeLine/\N σ2 (upd H6 l (.lst (ys++[v])))
   |false=>N σ2 H5)
theorem nT{prog:Program}{w:World}{A:Around}{R:Result->Shared->Prop}{s:Shared}{elt target iter c:Expr}{scope:Scope}{pos:Pos}{it acc:Value}{env:Env}(I:Nat->Shared->Prop)
  (turn:∀n s,I n s->wpAny (model prog w) A (pyNext it) (fun r s₁=>match r with
   |none=>R (.ok .next) s₁
   |some v=>wpAny (model prog w) A (letOwnedTupleGo target it v) (fun _ s₁'=>wpAny (model prog w) A (assign target env v) (fun _ s₂=>wpAny (model prog w) A (PySem.isTrue c env (eval c env)) (fun b s₂'=>match b with
    |true=>wpAny (model prog w) A (eval elt env) (fun x s₃=>
     wpAny (model prog w) A (call (.builtin "list.append") [acc,x]) (fun _ s₄=>∃m,m<n/\I m s₄) (fun _ _=>False) s₃)
     (fun _ _=>False) s₂'
    |false=>∃m,m<n/\I m s₂') (fun _ _=>False) s₂) (fun _ _=>False) s₁') (fun _ _=>False) s₁) (fun _ _=>False) s)
  (n:Nat) (h:I n s) :
  codeAny (model prog w) A (.compLoop (.ListComp elt [⟨target,iter,[c],0⟩] scope pos) 0 it acc env) R s:=by
 refine codeAny_loop rfl I (fun n s hI=>?_) n h
 show wpAny _ _ ((compTurn (.ListComp elt [⟨target,iter,[c],0⟩] scope pos) 0 it acc env).onRaise (fun x=>do noteFrame x env;theTreesLotGoes x)) _ _ s
 refine wpAny_noted ?_
 rw[compTurn_list]
 refine wpAny_bind (wpAny_standAt (wpAny_bind (wpAny_mono (turn n s hI) (fun r s₁ h₁=>?_) fun _ _ h'=>h'.elim)))
 cases r with
 |none=>exact wpAny_pure h₁
 |some v=>
  refine wpAny_bind (wpAny_mono h₁ (fun _ s₁' h₁'=>?_) fun _ _ h'=>h'.elim)
  refine wpAny_bind (wpAny_mono h₁' (fun _ s₂ h₂=>?_) fun _ _ h'=>h'.elim)
  dsimp only
  simp only[List.forIn_cons,List.forIn_nil,if_true,bind_assoc,pure_bind]
  refine wpAny_bind (wpAny_mono h₂ (fun b s₂' h₂'=>?_) fun _ _ h'=>h'.elim)
  cases b with
  |true=>
   rw[if_pos rfl]
   exact wpAny_bind (wpAny_mono h₂' (fun x s₃ h₃=>wpAny_bind (wpAny_mono h₃
    (fun _ s₄ h₄=>wpAny_pure ⟨rfl,h₄⟩) fun _ _ h'=>h'.elim)) fun _ _ h'=>h'.elim)
  |false=>
   rw[if_neg Bool.false_ne_true]
   exact wpAny_pure ⟨rfl,h₂'⟩
theorem u3{X:Cx}{Nc capN tn:List Str}{scope:Scope}{cl:List (Str×Addr)}{n:Nat}{caps:List Nat}{tg iter elt:Expr}{pos:Pos}{wi:TI}{g:TG}{te:TE}{tt:TT}{c:Expr}
  (hc:X.calm=true) (hi:WI X tg iter wi) (hg:∀s3 H3 fp,WG (cxC X Nc scope cl s3 H3 fp) tg g) (he:∀s3 H3 fp,WE (cxC X Nc scope cl s3 H3 fp) elt te)
  (ht:∀s3 H3 fp,WT (cxC X Nc scope cl s3 H3 fp) c tt)
  (hclos:closureFor scope X.env=pure cl) (hkind:scope.kind=.function) (hnl:∀x∈scope.names,x.2=.local->scope.names.lookup x.1=some .local) (hcell:∀x∈scope.names,x.2≠.cell)
  (hcl:vv X.env cl) (hhas:((relabel scope X.env).names.all fun p=>!(p.2 == .cell||p.2 == .free)||(cl.lookup p.1).isSome)=true)
  (hcap:Paired (Cap X scope cl) caps capN) (hN:Nc=tn++capN) (hn:tn.length=n)
  {use:Option (Value->Sem Unit)} {pins:List (Addr×Obj)} {σ:L2.St} {H:Hp} {s:Shared} {Q:VK} {Qf:Value->Shared->Prop} (I:Inv X pins σ H s) (h:rL wi g tt te n caps σ H Q)
  (hend:∀(D C:Addr) (s6:Shared) (H5:Hp) (m:Str->Option Value),Inv X pins σ H5 s6->s6.heap.Ns C m->H5 C=none->C≠X.env.locals->X.s₀.heap.objs.size<=C->(∀x c,X.env.cells.lookup x=some c->c≠C)->(∀p∈X.pn++pins,p.1≠C)->Q (.ref D) H5->compPost (model X.prog X.w) X.A X.xe use Qf (.ref D) C (.ok .next) s6)
  (hs:∀x,foldedSetIterable iter X.env x=pure x) :
  wpAny (model X.prog X.w) X.A (comprehension (.ListComp elt [⟨tg,iter,[c],0⟩] scope pos) scope X.env (firstIterPos [⟨tg,iter,[c],0⟩] pos) (newList []) (firstAsync [⟨tg,iter,[c],0⟩]) (firstIter [⟨tg,iter,[c],0⟩] X.env) use) Qf X.xe s:=by
 refine wpAny_comprehension_free (use:=use) (g:=⟨tg,iter,[c],0⟩) (gs:=[]) rfl hs hclos hkind hnl (thn (hi.h pins s σ H _ I h) fun v s1 h1=>thn h1 fun itv s2 h2=>?_)
 obtain⟨it,fp,tnn,J,H2,rfl,I2,T,st2,f2,hW⟩:=h2
 have hD:=I2.fresh
 obtain⟨W,⟨m0,w0⟩,turn⟩:=hW _ hD
 refine wpAny_newObj_type (wpAny_newFunctionEnv hcell (by intro y hy;simp at hy) (fun h₁ hns₁ hsb₁=>?_) hkind)
 dsimp only at hns₁ hsb₁ ⊢
 have I3:Inv X pins σ (upd H2 s2.heap.objs.size (.lst [])) { s2 with heap:=s2.heap.push { cls:=.type "list",dict:=none,data:=.seq ([]:List Value).toArray },toks:=s2.toks }:=I2.lnew (its:=[]) .nil (Nat.zero_le _)
 generalize hs3:({ s2 with heap:=s2.heap.push { cls:=.type "list",dict:=none,data:=.seq ([]:List Value).toArray },toks:=s2.toks }:Shared)=s3 at I3
 have es3:s3.heap=s2.heap.push { cls:=.type "list",dict:=none,data:=.seq ([]:List Value).toArray }:=by rw[<-hs3]
 generalize hDD:s2.heap.objs.size=D at *
 have kept:∀b o,s3.heap.get? b=some o->h₁.get? b=some o:=fun b o e=>by
  have lt:=Heap.lt_size e
  rw[es3]at lt e
  exact hsb₁.extBut b o (Nat.ne_of_lt lt) (Heap.get?_push_of_some _ e)
 have old:∀b o,s2.heap.get? b=some o->s3.heap.get? b=some o:=fun b o e=>by rw[es3];exact Heap.get?_push_of_some _ e
 have ltD:∀b∈fp,b<D:=fun b hb=>by
  obtain⟨o,e,_⟩:=T.obj 0 _ st2 b hb
  rw[<-hDD];exact Heap.lt_size e
 have fo:∀b∈fp,b<s3.heap.objs.size:=fun b hb=>by
  obtain⟨o,e,_⟩:=T.obj 0 _ st2 b hb
  exact Heap.lt_size (old _ _ e)
 have f3:∀b∈fp,vo X pins (upd H2 D (.lst [])) b:=fun b hb=>by
  refine⟨?_,(f2 b hb).2⟩
  rw[bH (Nat.ne_of_lt (ltD b hb))]
  exact(f2 b hb).1
 rw[<-es3]at hns₁ hsb₁ ⊢
 have Ic:=fun t'=>Inv.comp (h1:=h₁) (t':=t') (Nc:=Nc) (n:=n) I3 hc f3 fo hkind hcl hhas hcap tn hN hn hns₁ kept
 have stat:∀{H':Hp},(∀b∈fp,H' b=none)->∀b∈fp,vo (cxC X Nc scope cl s3 (upd H2 D (.lst [])) fp) [] H' b:=fun hn' b hb=>by
  refine⟨hn' b hb,Nat.ne_of_lt (fo b hb),fun z=>?_,.inl hb,fun x c e=>(f2 b hb).2.2.2.2.1 x c (hcl.look e),fun p hp=>(by simp at hp)⟩
  rcases List.mem_cons.mp (I3.stkSub b z)with q|q
  ·exact(f2 b hb).2.1 q
  ·exact(f2 b hb).2.2.1 q
 have loop:∀s4:Shared,(∃t',s4={ s3 with heap:=h₁,toks:=t' })->codeAny (model X.prog X.w) X.A (.compLoop (.ListComp elt [⟨tg,iter,[c],0⟩] scope pos) 0 (.ref it) (.ref D) (compEnvC scope cl s3.heap.objs.size X.env))
   (compPost (model X.prog X.w) X.A X.xe use Qf (.ref D) s3.heap.objs.size) s4:=by
  rintro s4 ⟨t',rfl⟩
  refine nT (fun n' s'=>∃i σ' H',Inv (cxC X Nc scope cl s3 (upd H2 D (.lst [])) fp) [] σ' H' s'/\tnn i s'.heap/\(∀b∈fp,H' b=none)/\W i n' σ' H') ?_ m0
   ⟨0,_,_,Ic t',T.keep 0 _ _ st2 fun b hb o e=>kept _ _ (old _ _ e),fun b hb=>(f3 b hb).1,w0⟩
  rintro n' s5 ⟨i,σ5,H5,I5,st5,fr5,w5⟩
  rcases turn i n' σ5 H5 w5 with⟨stop,qn⟩|⟨go,N,hN',step⟩
  ·refine thn (T.done (cxC X Nc scope cl s3 (upd H2 D (.lst [])) fp) rfl rfl rfl hc i [] s5 σ5 H5 (fun _ _=>False) I5 (stat fr5) st5 stop) fun r s6 ⟨hr,I6⟩=>?_
   subst hr
   obtain⟨m,hm,_⟩:=I6.loc
   have I7:Inv X pins σ H5 s6:=Inv.call' (ch:=fp) I3 I6.os I6.base I6.hok I6.bare fun b hb=>⟨(f2 b hb).2.2.2.1,(f2 b hb).2.1,(f2 b hb).2.2.2.2.1,(f2 b hb).2.2.2.2.2⟩
   exact hend D _ s6 H5 m I7 hm I6.free (Ne.symm (Nat.ne_of_lt I3.lt)) I3.sz (fun x c e=>by
     obtain⟨v',o,ho,_⟩:=I3.cell x c e
     exact Nat.ne_of_lt (Heap.lt_size ho)) (fun p hp=>Nat.ne_of_lt (Heap.lt_size (I3.pin p hp).1)) qn
  ·refine thn (T.item (cxC X Nc scope cl s3 (upd H2 D (.lst [])) fp) rfl rfl rfl hc i [] s5 σ5 H5 (fun _ _=>False) I5 (stat fr5) st5 go) fun r s6 ⟨u,hr,h6⟩=>?_
   subst hr
   refine thn h6 fun _ s7 hz=>?_
   obtain⟨x,H7,I7,r7,y7,st7,fr7⟩:=hz
   have I7':=I7.pinned (stat fr7) (T.obj _ _ st7)
   refine thn ((hg s3 (upd H2 D (.lst [])) fp).h _ s7 σ5 H7 x u _ I7' r7 (step x H7 y7)) fun _ s8 hz=>?_
   obtain⟨σ8,H8,I8,q8⟩:=hz
   have fin:∀{s10:Shared} {H10:Hp},Inv (cxC X Nc scope cl s3 (upd H2 D (.lst [])) fp) _ σ8 H10 s10->N σ8 H10->∃m',m'<n'/\∃i' σ' H',Inv (cxC X Nc scope cl s3 (upd H2 D (.lst [])) fp) [] σ' H' s10/\tnn i' s10.heap/\(∀b∈fp,H' b=none)/\W i' m' σ' H':=fun{s10 H10} I10 q10=>by
    obtain⟨m',hm,w10⟩:=hN' σ8 H10 q10
    refine⟨m',hm,i+1,σ8,H10,Inv.unpinned I10,T.keep _ _ _ st7 fun b hb o e=>(Inv.pin I10 (b,o) (List.mem_append_right _ (List.mem_append_right _ (fA hb e)))).1,fun b hb=>?_,w10⟩
    obtain⟨o,e,d⟩:=T.obj _ _ st7 b hb
    exact(Inv.pin I10 (b,o) (List.mem_append_right _ (List.mem_append_right _ (fA hb e)))).2.1
   refine thn ((ht s3 (upd H2 D (.lst [])) fp).h _ s8 σ8 H8 _ I8 q8) fun b9 s9' h9=>?_
   obtain⟨H9',I9',q9'⟩:=h9
   cases b9 with
   |false=>exact fin I9' q9'
   |true=>
    refine thn ((he s3 (upd H2 D (.lst [])) fp).h _ s9' σ8 H9' _ I9' q9') fun v9 s9 hz=>?_
    obtain⟨x9,H9,I9,r9,ys,hy,hlt,q9⟩:=hz
    exact thn (mV (X:=cxC X Nc scope cl s3 (upd H2 D (.lst [])) fp) _ s9 σ8 H9 (.ref D) [x9] (.ref D) [v9] (fun _ H'=>N σ8 H') I9 rfl (.cons r9 .nil) ⟨D,ys,x9,rfl,rfl,hy,hlt,q9⟩) fun _ s10 ⟨_,H10,I10,_,q10⟩=>fin I10 q10
 have e4:∀t',({ s2 with heap:=h₁,toks:=t' }:Shared)={ s3 with heap:=h₁,toks:=t' }:=fun t'=>by rw[<-hs3]
 refine codeAny_compStart_list (loop _ ⟨_,e4 _⟩) (T.self _ 0 _ _ _ (T.keep 0 _ _ st2 fun b hb o e=>kept _ _ (old _ _ e)) (loop _ ⟨_,e4 _⟩))
theorem nW{X:Cx}{Nc capN tn:List Str}{scope:Scope}{cl:List (Str×Addr)}{n:Nat}{caps:List Nat}{tg iter elt:Expr}{pos:Pos}{wi:TI}{g:TG}{te:TE}{tt:TT}{c:Expr}
  (hc:X.calm=true) (hi:WI X tg iter wi) (hg:∀s3 H3 fp,WG (cxC X Nc scope cl s3 H3 fp) tg g) (he:∀s3 H3 fp,WE (cxC X Nc scope cl s3 H3 fp) elt te)
  (ht:∀s3 H3 fp,WT (cxC X Nc scope cl s3 H3 fp) c tt)
  (hclos:closureFor scope X.env=pure cl) (hkind:scope.kind=.function) (hnl:∀x∈scope.names,x.2=.local->scope.names.lookup x.1=some .local) (hcell:∀x∈scope.names,x.2≠.cell)
  (hcl:vv X.env cl) (hhas:((relabel scope X.env).names.all fun p=>!(p.2 == .cell||p.2 == .free)||(cl.lookup p.1).isSome)=true)
  (hcap:Paired (Cap X scope cl) caps capN) (hN:Nc=tn++capN) (hn:tn.length=n)
  (hs:∀x,foldedSetIterable iter X.env x=pure x:=by intro _;rfl) :
  WE X (.ListComp elt [⟨tg,iter,[c],0⟩] scope pos) (rL wi g tt te n caps):=by
 constructor
 intro pins s σ H Q I h
 rw[eval_ListComp]
 refine u3 hc hi hg he ht hclos hkind hnl hcell hcl hhas hcap hN hn I h (fun D C s6 H5 m I7 hm fr nl sz cn pn qn=>⟨m,hm,fun h' hs'=>?_⟩) hs
 exact⟨.ref D,H5,I7.turned (t':=s6.toks) (it:=C) (fun b o hb e=>hs'.extBut b o hb e) fr nl (.inr sz) cn pn,rfl,qn⟩
end OG
namespace OP
open PySem PySem.Spec PyProof.Rows L2 OG
open Classical in
def cT(ok:Sto->Prop)(g:CG)(ct:CT)(ce:CE)(l:Nat):List U->Rho->Sto->Option Sto
 |[],_,S=>if ok S then some S else none
 |u::us,ρ,S=>if ok S then(g u ρ S).bind fun p=>(ct p.1 p.2).bind fun q=>if q.1=true then(ce p.1 q.2).bind fun r=>match r.2[l]? with
  |some (.lst ys)=>if ys.length<LIM then cT ok g ct ce l us p.1 (r.2.set l (.lst (ys++[r.1])))else none
  |_=>none else cT ok g ct ce l us p.1 q.2 else none
def pO(ci:CI)(g:CG)(ct:CT)(ce:CE)(n:Nat)(caps:List Nat):CE:=fun ρ S=>(ci ρ S).bind fun p=>(cT p.2.1 g ct ce p.2.2.length p.1 (rE n caps ρ) (p.2.2++[.lst []])).bind fun S'=>some (.ref p.2.2.length,S')
section
variable{X:Cx}{K:PySem.W.Frag}
theorem nq{g:CG}{ct:CT}{ce:CE}{n:Nat}{caps:List Nat}{J:It}{us:List U}{ok:Sto->Prop}{Q:VK}{m1:List Addr}{H1:Hp}{S1 S':Sto}{ρ:Rho}{σ:L2.St}{l:Addr}(sr1:Sr K m1 S1 H1)(lr:Lr K m1 H1 ρ σ)(ito:yp K J m1 H1 us ok)(hl:H1 l=none)(h2:cT ok g ct ce S1.length us (rE n caps ρ) (S1++[.lst []])=some S')
  (post:∀m2 H2,Ext K (m1++[l]) (upd H1 l (.lst [])) m2 H2->Sr K m2 S' H2->Q (.ref l) H2) :
  ∃W:Nat->Nat->L2.St->Hp->Prop,(∃m,W 0 m (OG.stC n caps σ) (upd H1 l (.lst [])))/\
 ∀i m σ' H2,W i m σ' H2->(J.stop i H2/\Q (.ref l) H2)\/(J.go i H2/\∃N:L2.St->Hp->Prop,(∀σ'' H',N σ'' H'->∃m',m'<m/\W (i+1) m' σ'' H')/\
  ∀x H3,J.yld i H2 x H3->tG K g x σ' H3 fun σ2 H4=>tT K ct σ2 H4 fun b H5=>match b with
   |true=>tE K ce σ2 H5 fun v H6=>∃ys,H6 l=some (.lst ys)/\ys.length<sizeLine/\N σ2 (upd H6 l (.lst (ys++[v])))
   |false=>N σ2 H5):=by
 have ee:Ext K m1 H1 (m1++[l]) (upd H1 l (.lst [])):=.new (cq hl _)
 let W:Nat->Nat->L2.St->Hp->Prop:=fun i k σ2 H2=>k=us.length-i/\i<=us.length/\∃m2 ρ2 S2,Ext K (m1++[l]) (upd H1 l (.lst [])) m2 H2/\Sr K m2 S2 H2/\Lr K m2 H2 ρ2 σ2/\cT ok g ct ce S1.length (us.drop i) ρ2 S2=some S'
 refine⟨W,⟨us.length,by simp,Nat.zero_le _,m1++[l],rE n caps ρ,S1++[.lst []],.refl,sr1.new (o:=.lst []) hl ⟨[],aP,.nil_⟩,wO (lr.mono ee),by simpa using h2⟩,?_⟩
 rintro i k σ2 H2 ⟨rfl,hi,m2,ρ2,S2,e2,sr2,lr2,hl2⟩
 by_cases hlt:i<us.length
 ·have hu:=List.getElem?_eq_getElem hlt
  rw[j3 hu]at hl2
  unfold cT at hl2
  split at hl2
  ·rename_i hok
   obtain⟨⟨ρ3,S3⟩,h3,hl2⟩:=Option.bind_eq_some_iff.mp hl2
   obtain⟨⟨b4,S4⟩,h4,hl2⟩:=Option.bind_eq_some_iff.mp hl2
   obtain⟨hgo,hy⟩:=(ito m2 S2 H2 i (ee.trans e2) sr2 hok).1 _ hu
   refine .inr ⟨hgo,W (i+1) (us.length-(i+1)),fun σ' H' w'=>⟨_,by omega,w'⟩,fun x H3 y=>?_⟩
   obtain⟨e3,sr3,ix⟩:=hy x H3 y
   refine⟨m2,ρ2,S2,_,ρ3,S3,sr3,lr2.mono e3,ix,h3,fun m4 σ4 H4 e4 sr4 lr4=>⟨m4,ρ3,S3,b4,S4,sr4,lr4,h4,fun m4' H4' e4' sr4'=>?_⟩⟩
   cases b4 with
   |false=>
    rw[if_neg Bool.false_ne_true]at hl2
    exact⟨rfl,hlt,m4',ρ3,_,(((e2.trans e3).trans e4).trans e4'),sr4',lr4.mono e4',hl2⟩
   |true=>
    rw[if_pos rfl]at hl2
    obtain⟨⟨u5,S5⟩,h5,hl2⟩:=Option.bind_eq_some_iff.mp hl2
    simp only at hl2
    split at hl2<;>try cases hl2
    rename_i ys hys
    split at hl2<;>try cases hl2
    rename_i hlen
    refine⟨m4',ρ3,S4,u5,S5,sr4',lr4.mono e4',h5,fun m5 v5 H5 e5 sr5 i5=>?_⟩
    obtain⟨a',ha',xs,hx,il⟩:=sr5.get hys
    have ha:m5[S1.length]?=some l:=((((e2.trans e3).trans e4).trans e4').trans e5).get (d7 sr1.len)
    rw[ha]at ha';cases ha'
    have eu:Ext K m5 H5 m5 (upd H5 l (.lst (xs++[v5]))):=.of (sr5.keep ha _)
    exact⟨xs,hx,FR (by rw[il.length];exact hlen),rfl,hlt,m5,ρ3,_,(((((e2.trans e3).trans e4).trans e4').trans e5).trans eu),sr5.put (o:=.lst (ys++[u5])) ha ⟨_,aP,(il.append (.cons_ i5 .nil_)).mono eu⟩,(lr4.mono ((e4'.trans e5).trans eu)),hl2⟩
  ·cases hl2
 ·have e:i=us.length:=by omega
  subst e
  rw[List.drop_length]at hl2
  unfold cT at hl2
  split at hl2
  ·rename_i hok
   cases hl2
   exact .inl ⟨(ito m2 _ H2 _ (ee.trans e2) sr2 hok).2 (Nat.le_refl _),post m2 H2 e2 sr2⟩
  ·cases hl2
theorem u2{ci:CI}{g:CG}{ct:CT}{ce:CE}{n:Nat}{caps:List Nat}:∀σ H Q,tE K (pO ci g ct ce n caps) σ H Q->rL (tI K ci) (tG K g) (tT K ct) (tE K ce) n caps σ H Q:=by
 rintro σ H Q ⟨m,ρ,S,u,S',sr,lr,hc,post⟩
 obtain⟨⟨us,ok,S1⟩,h1,h2⟩:=Option.bind_eq_some_iff.mp hc
 obtain⟨S2,h2,h3⟩:=Option.bind_eq_some_iff.mp h2
 cases h3
 refine⟨m,ρ,S,us,ok,S1,sr,lr,h1,fun m1 H1 J e1 sr1 ito l hl=>?_⟩
 have ee:Ext K m1 H1 (m1++[l]) (upd H1 l (.lst [])):=.new (cq hl _)
 exact nq sr1 (lr.mono e1) ito hl h2 fun m2 H2 e2 sr2=>post m2 _ H2 ((e1.trans ee).trans e2) sr2 (.ref_ (e2.get (d7 sr1.len)))
theorem y3{Nc capN tn:List Str}{scope:Scope}{cl:List (Str×Addr)}{n:Nat}{caps:List Nat}{tg iter elt:Expr}{pos:Pos}{ci:CI}{g:CG}{ct:CT}{ce:CE}{c:Expr}
  (hc:X.calm=true) (hi:QI X tg iter ci) (hg:∀s3 H3 fp,WG (cxC X Nc scope cl s3 H3 fp) tg (tG X.K g)) (ht:∀s3 H3 fp,WT (cxC X Nc scope cl s3 H3 fp) c (tT X.K ct)) (he:∀s3 H3 fp,WE (cxC X Nc scope cl s3 H3 fp) elt (tE X.K ce))
  (hclos:closureFor scope X.env=pure cl) (hkind:scope.kind=.function) (hnl:∀x∈scope.names,x.2=.local->scope.names.lookup x.1=some .local) (hcell:∀x∈scope.names,x.2≠.cell)
  (hcl:vv X.env cl) (hhas:((relabel scope X.env).names.all fun p=>!(p.2 == .cell||p.2 == .free)||(cl.lookup p.1).isSome)=true)
  (hcap:Paired (Cap X scope cl) caps capN) (hN:Nc=tn++capN) (hn:tn.length=n)
  (hs:∀x,foldedSetIterable iter X.env x=pure x:=by intro _;rfl) :
  QE X (.ListComp elt [⟨tg,iter,[c],0⟩] scope pos) (pO ci g ct ce n caps):=(nW hc hi hg he ht hclos hkind hnl hcell hcl hhas hcap hN hn hs).imp u2
end
end OP
namespace OP
open PySem PySem.Spec PyProof PyProof.Rows L2 OG
mutual
inductive RdV(K:PySem.W.Frag)(H:Hp):V->PyData->Prop
 |non:RdV K H .non .none
 |bl (b:Bool):RdV K H (.bl b) (.bool b)
 |int (i:Int):RdV K H (.int i) (.int i)
 |str (x:Str):RdV K H (.str x) (.str x)
 |lst {a:Addr} {xs:List V} {ds:List PyData}:SqL K H a xs->yo K H xs ds->RdV K H (.ref a) (.list ds)
 |tup {a:Addr} {xs:List V} {ds:List PyData}:SqT K H a xs->yo K H xs ds->RdV K H (.ref a) (.tuple ds)
inductive yo(K:PySem.W.Frag)(H:Hp):List V->List PyData->Prop
 |nil:yo K H [] []
 |cons {x:V} {xs:List V} {d:PyData} {ds:List PyData}:RdV K H x d->yo K H xs ds->yo K H (x::xs) (d::ds)
end
mutual
inductive Dt(S:Sto):U->PyData->Prop
 |non:Dt S .non .none
 |bl (b:Bool):Dt S (.bl b) (.bool b)
 |int (i:Int):Dt S (.int i) (.int i)
 |str (x:Str):Dt S (.str x) (.str x)
 |lst {l:Nat} {us:List U} {ds:List PyData}:S[l]?=some (.lst us)->DtL S us ds->Dt S (.ref l) (.list ds)
 |tup {us:List U} {ds:List PyData}:DtL S us ds->Dt S (.tup us) (.tuple ds)
inductive DtL(S:Sto):List U->List PyData->Prop
 |nil:DtL S [] []
 |cons {x:U} {xs:List U} {d:PyData} {ds:List PyData}:Dt S x d->DtL S xs ds->DtL S (x::xs) (d::ds)
end
section
variable{X:Cx}{K:PySem.W.Frag}{pins:List (Addr×Obj)}{σ:L2.St}{H:Hp}{s:Shared}
mutual
theorem RdV.reads(I:Inv X pins σ H s):∀{x:V} {d:PyData} {v:Value},RdV X.K H x d->dn x v->∃as,Reads s.heap v d as
 |_,_,_,.non,r=>by cases r;exact⟨_,.none⟩
 |_,_,_,.bl b,r=>by cases r;exact⟨_,.bool b⟩
 |_,_,_,.int i,r=>by obtain⟨t,rfl⟩:=r;exact⟨_,.int i t⟩
 |_,_,_,.str i,r=>by obtain⟨t,rfl⟩:=r;exact⟨_,.str i t⟩
 |_,_,_,.lst (a:=a) h t,r=>by
  cases r
  obtain⟨its,rv,pl,_⟩:=I.list h
  obtain⟨as,k⟩:=yo.reads I t rv
  obtain⟨o,h1,h2,n,h3⟩:=pl.isList
  exact⟨_,.list h1 h2 h3 (by simpa using k)⟩
 |_,_,_,.tup (a:=a) h t,r=>by
  cases r
  obtain⟨its,rv,pl,_⟩:=I.tuple h
  obtain⟨as,k⟩:=yo.reads I t rv
  obtain⟨o,h1,h2,n,h3⟩:=pl
  exact⟨_,.tuple h1 h2 h3 (by simpa using k)⟩
theorem yo.reads(I:Inv X pins σ H s):∀{xs:List V} {ds:List PyData} {vs:List Value},yo X.K H xs ds->cg xs vs->∃as,ReadsAll s.heap vs ds as
 |_,_,_,.nil,r=>by cases r;exact⟨_,.nil⟩
 |_,_,_,.cons h t,.cons r rs=>by
  obtain⟨as,a⟩:=RdV.reads I h r
  obtain⟨bs,b⟩:=yo.reads I t rs
  exact⟨_,.cons a b⟩
end
mutual
theorem Dt.rd{m:List Addr}{S:Sto}(sr:Sr K m S H):∀{u:U} {d:PyData} {v:V},Dt S u d->Is K m H v u->RdV K H v d
 |_,_,_,.non,i=>by rw[i.of_non];exact .non
 |_,_,_,.bl b,i=>by rw[i.of_bl];exact .bl b
 |_,_,_,.int b,i=>by rw[i.of_int];exact .int b
 |_,_,_,.str b,i=>by rw[i.of_str];exact .str b
 |_,_,_,.lst h t,i=>by
  obtain⟨a,ha,rfl⟩:=i.of_ref
  obtain⟨a',ha',xs,hx,il⟩:=sr.get h
  rw[ha]at ha';cases ha'
  exact .lst (SqL.of hx) (DtL.rd sr t il)
 |_,_,_,.tup t,i=>by
  obtain⟨a,xs,rfl,sa,la⟩:=i.of_tup
  exact .tup sa (DtL.rd sr t la)
theorem DtL.rd{m:List Addr}{S:Sto}(sr:Sr K m S H):∀{us:List U} {ds:List PyData} {vs:List V},DtL S us ds->IsL K m H vs us->yo K H vs ds
 |_,_,_,.nil,i=>by rw[i.of_nil];exact .nil
 |_,_,_,.cons h t,i=>by
  obtain⟨x,r,rfl,i1,i2⟩:=i.of_cons
  exact .cons (Dt.rd sr h i1) (DtL.rd sr t i2)
end
mutual
theorem Dt.uniq{S:Sto}:∀{u:U} {d e:PyData},Dt S u d->Dt S u e->d=e
 |_,_,_,.non,.non=>rfl
 |_,_,_,.bl _,.bl _=>rfl
 |_,_,_,.int _,.int _=>rfl
 |_,_,_,.str _,.str _=>rfl
 |_,_,_,.lst h t,.lst h' t'=>by
  rw[h]at h';cases h'
  rw[DtL.uniq t t']
 |_,_,_,.tup t,.tup t'=>by rw[DtL.uniq t t']
theorem DtL.uniq{S:Sto}:∀{us:List U} {ds es:List PyData},DtL S us ds->DtL S us es->ds=es
 |_,_,_,.nil,.nil=>rfl
 |_,_,_,.cons h t,.cons h' t'=>by rw[Dt.uniq h h',DtL.uniq t t']
end
def Aq(d:PyData):Prop:=d.canLay0=true/\d.depth<=60
def J4(K:PySem.W.Frag)(neg:Bool):R2:=fun x y H Q=>(∃dx dy,RdV K H x dx/\RdV K H y dy/\Aq dx/\Aq dy/\Q (.bl (if neg then !dx.eqv dy else dx.eqv dy)) H)\/
 ∃a b xs ys,x=.ref a/\y=.ref b/\SqL K H a xs/\SqL K H b ys/\xs.length≠ys.length/\Q (.bl neg) H
theorem wF(hu:X.A.units+64<cLine):OpR X (compareOp .NotEq) (J4 X.K true):=by
 rintro pins s σ H x y v u Q I rx ry (⟨dx,dy,hx,hy,lx,ly,q⟩|⟨a,b,xs,ys,rfl,rfl,ha,hb,ne,q⟩)
 ·obtain⟨as,hx⟩:=hx.reads I rx
  obtain⟨bs,hy⟩:=hy.reads I ry
  exact SeqAt.compareNe_reads hx hy lx.1 ly.1 (by have:=lx.2;omega) ⟨.bl _,H,I,rfl,q⟩
 ·cases rx
  cases ry
  obtain⟨i1,r1,p1,_⟩:=I.list ha
  obtain⟨i2,r2,p2,_⟩:=I.list hb
  have l1:=r1.length
  have l2:=r2.length
  exact SeqAt.RcNeAt.lists_lengths p1.isList p2.isList (by simp;omega) (by omega) X.prog X.w X.xe _ ⟨.bl true,H,I,rfl,q⟩
def yq(x y:U)(S:Sto)(b:Bool):Prop:=(∃dx dy,Dt S x dx/\Dt S y dy/\Aq dx/\Aq dy/\b=dx.eqv dy)\/∃l l' us vs,x=.ref l/\y=.ref l'/\S[l]?=some (.lst us)/\S[l']?=some (.lst vs)/\us.length≠vs.length/\b=false
theorem DtL.length{S:Sto}:∀{us:List U} {ds:List PyData},DtL S us ds->us.length=ds.length
 |_,_,.nil=>rfl
 |_,_,.cons _ t=>by rw[List.length_cons,List.length_cons,DtL.length t]
theorem yq.mix{l l':Nat}{us vs:List U}{S:Sto}{dx dy:PyData}(h1:Dt S (.ref l) dx)(h2:Dt S (.ref l') dy)(k1:S[l]?=some (.lst us))(k2:S[l']?=some (.lst vs))(ne:us.length≠vs.length):dx.eqv dy=false:=by
 cases h1 with
 |lst a1 t1=>
  cases h2 with
  |lst a2 t2=>
   rw[k1]at a1;cases a1
   rw[k2]at a2;cases a2
   show PyData.eqvAll _ _=false
   exact SeqAt.eqvAll_other_length (by rw[<-t1.length,<-t2.length];exact ne)
theorem yq.uniq{x y:U}{S:Sto}{b c:Bool}(h:yq x y S b)(k:yq x y S c):b=c:=by
 rcases h with⟨dx,dy,h1,h2,_,_,rfl⟩|⟨l,l',us,vs,rfl,rfl,h1,h2,ne,rfl⟩
 ·rcases k with⟨ex,ey,k1,k2,_,_,rfl⟩|⟨l,l',us,vs,rfl,rfl,k1,k2,ne,rfl⟩
  ·rw[h1.uniq k1,h2.uniq k2]
  ·exact yq.mix h1 h2 k1 k2 ne
 ·rcases k with⟨ex,ey,k1,k2,_,_,rfl⟩|⟨_,_,_,_,_,_,_,_,_,rfl⟩
  ·exact(yq.mix k1 k2 h1 h2 ne).symm
  ·rfl
open Classical in
def uY(neg:Bool):U->U->Sto->Option (U×Sto):=fun x y S=>if h:∃b,yq x y S b then some (.bl (if neg then !h.choose else h.choose),S)else none
theorem xE{x y:U}{S:Sto}{b:Bool}(neg:Bool)(h:yq x y S b):uY neg x y S=some (.bl (if neg then !b else b),S):=by
 unfold uY
 rw[dif_pos ⟨b,h⟩]
 have e:(⟨b,h⟩:∃b,yq x y S b).choose=b:=(Exists.choose_spec (⟨b,h⟩:∃b,yq x y S b)).uniq h
 rw[e]
theorem CP{neg:Bool}:OpP K (J4 K neg) (uY neg):=by
 intro m S H x y v w u S' Q sr ix iy hf post
 unfold uY at hf
 split at hf<;>try cases hf
 rename_i h
 have hb:=h.choose_spec
 generalize h.choose=b at hb post
 rcases hb with⟨dx,dy,h1,h2,l1,l2,rfl⟩|⟨l,l',us,vs,rfl,rfl,h1,h2,ne,rfl⟩
 ·exact .inl ⟨dx,dy,h1.rd sr ix,h2.rd sr iy,l1,l2,post m _ H .refl sr .bl_⟩
 ·obtain⟨a,ha,rfl⟩:=ix.of_ref
  obtain⟨a',ha',xs,hx,la⟩:=sr.get h1
  rw[ha]at ha';cases ha'
  obtain⟨c,hc,rfl⟩:=iy.of_ref
  obtain⟨c',hc',ys,hy,lc⟩:=sr.get h2
  rw[hc]at hc';cases hc'
  refine .inr ⟨a,c,xs,ys,rfl,rfl,SqL.of hx,SqL.of hy,by rw[la.length,lc.length];exact ne,?_⟩
  have e:(if neg=true then !false else false)=neg:=by cases neg<;>rfl
  have:=post m _ H .refl sr (Is.bl_ (b:=if neg=true then !false else false))
  rw[e]at this
  exact this
def DN(us:List U)(lo hi:Option Int):List U:=(us.drop (HT.sIx us.length 0 lo)).take (HT.sIx us.length us.length hi-HT.sIx us.length 0 lo)
theorem A4{m:List Addr}{xs:List V}{us:List U}{lo hi:Option Int}(i:IsL K m H xs us):IsL K m H (xW xs lo hi) (DN us lo hi):=by
 unfold xW DN
 rw[i.length]
 exact(i.drop _).take _
def fSl(x:U)(lo hi:Option Int)(S:Sto):Option (U×Sto):=match x with
 |.tup us=>if HT.sIx us.length 0 lo=0/\HT.sIx us.length us.length hi=us.length then none else some (.tup (DN us lo hi),S)
 |.ref l=>match S[l]? with
  |some (.lst us)=>some (.ref S.length,S++[.lst (DN us lo hi)])
  |_=>none
 |_=>none
def Ah:Option CE->Rho->Sto->Option (Option Int×Sto)
 |none,_,S=>some (none,S)
 |some c,ρ,S=>(c ρ S).bind fun p=>match p.1 with
  |.int i=>some (some i,p.2)
  |_=>none
def cSl(ca:CE)(cl ch:Option CE):CE:=fun ρ S=>(ca ρ S).bind fun p=>(Ah cl ρ p.2).bind fun q=>(Ah ch ρ q.2).bind fun r=>fSl p.1 q.1 r.1 r.2
def JN(K:PySem.W.Frag)(m:List Addr)(H:Hp)(Q:Option Int->Hp->Prop)(o:Option Int)(S':Sto):Prop:=∀m' H',Ext K m H m' H'->Sr K m' S' H'->Q o H'
def tO(K:PySem.W.Frag)(c:Option CE):TO:=fun σ H Q=>∃m ρ S o S',Sr K m S H/\Lr K m H ρ σ/\Ah c ρ S=some (o,S')/\JN K m H Q o S'
abbrev QO(X:Cx)(e:Option Expr)(c:Option CE):Prop:=WO X e (tO X.K c)
theorem wk:QO X none none:=⟨fun pins s σ H Q I hz=>mh hz fun m ρ S o S' sr lr hc post=>tq.h pins s σ H Q I (by cases hc;exact post m H .refl sr)⟩
theorem wj{e:Expr}{ca:CE}(h:QE X e ca):QO X (some e) (some ca):=⟨fun pins s σ H Q I hz=>mh hz fun m ρ S o S' sr lr hc post=>(tm h).h pins s σ H Q I (by
 obtain⟨⟨x,S1⟩,h1,h2⟩:=Option.bind_eq_some_iff.mp hc
 refine⟨m,ρ,S,x,S1,sr,lr,h1,fun m1 v1 H1 e1 sr1 i1=>?_⟩
 cases x<;>simp at h2
 obtain⟨rfl,rfl⟩:=h2
 exact⟨_,i1.of_int,post m1 H1 e1 sr1⟩)⟩
theorem J5{e:Expr}{lo hi:Option Expr}{ca:CE}{cl ch:Option CE}{pos p2:Pos}(ha:QE X e ca)(hl:QO X lo cl)(hh:QO X hi ch):QE X (.Subscript e (.Slice lo hi none p2) pos) (cSl ca cl ch):=(qg (v8.or EX) ha hl hh).imp fun σ H Q hz=>mh hz fun m ρ S u S' sr lr hc post=>by
 obtain⟨⟨x,S1⟩,h1,ha⟩:=Option.bind_eq_some_iff.mp hc
 obtain⟨⟨l,S2⟩,h2,hb⟩:=Option.bind_eq_some_iff.mp ha
 obtain⟨⟨k,S3⟩,h3,h⟩:=Option.bind_eq_some_iff.mp hb
 clear ha hb hc
 refine⟨m,ρ,S,x,S1,sr,lr,h1,fun m1 v1 H1 e1 sr1 i1=>⟨m1,ρ,S1,l,S2,sr1,lr.mono e1,h2,fun m2 H2 e2 sr2=>⟨m2,ρ,S2,k,S3,sr2,lr.mono (e1.trans e2),h3,fun m3 H3 e3 sr3=>?_⟩⟩⟩
 have i3:=i1.mono (e2.trans e3)
 have e03:=(e1.trans e2).trans e3
 cases x with
 |tup us=>
  simp only[fSl]at h
  split at h<;>try cases h
  rename_i hw
  obtain⟨a,xs,rfl,sa,la⟩:=i3.of_tup
  exact .inr ⟨a,xs,rfl,sa,by rw[la.length];exact hw,fun p hp=>o9 sr3 (A4 la) (post.mono e03) hp⟩
 |ref r=>
  simp only[fSl]at h
  split at h<;>try cases h
  rename_i us hS
  obtain⟨a,ha,rfl⟩:=i3.of_ref
  obtain⟨a',ha',xs,hx,la⟩:=sr3.get hS
  rw[ha]at ha';cases ha'
  exact .inl ⟨a,xs,rfl,SqL.of hx,fun p hp=>d4 sr3 (A4 la) (post.mono e03) hp⟩
 |_=>simp[fSl]at h
end
section
variable{X:Cx}{K:PySem.W.Frag}
def Cd(K:PySem.W.Frag):R2:=fun x y H Q=>∃a k xs,x=.ref a/\y=.int k/\SqT K H a xs/\xs≠[]/\1<=k/\xs.length*k.toNat<=1000/\∀q H',sP H H'->SqT K H' q (List.replicate k.toNat xs).flatten->Q (.ref q) H'
theorem CU:OpR X (binaryOp .Mult) (Cd X.K):=by
 intro pins s σ H x y v u Q I rx ry h
 obtain⟨a,k,xs,rfl,rfl,ha,hne,hk,hz,q⟩:=h
 cases rx
 obtain⟨t,rfl⟩:=ry
 obtain⟨its,r1,p1,hzz⟩:=I.tuple ha
 have hlen:=r1.length
 obtain⟨⟨cls,dd,data,sl⟩,ho,hc,n,hd⟩:=id p1
 simp only at hc hd
 subst hc hd
 have hne':its≠[]:=fun z=>hne (r1.nil_iff.mp z)
 refine wpAny_binaryOp_repeat_ref (T:="tuple") (U:="int") (by decide) ⟨_,ho,rfl⟩ (fun s'=>typeIs_int s' k t) lQ F.fills_int_mul F.slot_int_rmul qv F.slot_int_index.lookup
  (call_meets F.slot_int_rmul (typeIs_int s k t) F.entry_int_rmul (F.args_int_rmul_2 _ _) (nN k t a its.toArray n dd sl) ⟨ho,rfl,⟨_,ho,rfl⟩,?_⟩)
 by_cases k1:k=1
 ·subst k1
  refine call_meets F.slot_tuple_mul ⟨_,ho,rfl⟩ F.entry_tuple_mul (F.args_tuple_mul_2 _ _) (rK a its.toArray n dd sl t) ⟨ho,⟨.ref a,H,I,rfl,q a H (.refl _) ?_⟩⟩
  simpa using ha
 ·have hfold:List.foldl (fun x1 x2=>x1++x2) #[] (List.replicate k.toNat its.toArray)=(List.replicate k.toNat its).flatten.toArray:=by
   have:=m9 its k.toNat []
   rw[List.nil_append]at this
   exact this
  have hfl:(List.replicate k.toNat its).flatten.length<=1000:=by rw[rY,<-hlen,Nat.mul_comm];exact hz
  have hlp:0<its.length:=List.length_pos_iff.mpr hne'
  have hk2:k.toNat<=1000:=Nat.le_trans (Nat.le_mul_of_pos_left _ (by rw[hlen];exact hlp)) hz
  have hsz:(its.toArray.size:Int)*k<=1000:=by
   rw[List.size_toArray,<-hlen]
   have e:k=((k.toNat:Nat):Int):=by omega
   rw[e,<-Int.natCast_mul]
   omega
  refine call_meets F.slot_tuple_mul ⟨_,ho,rfl⟩ F.entry_tuple_mul (F.args_tuple_mul_2 _ _) (rJ a its.toArray n dd sl k t ?_ ?_ ?_ ?_ ?_ ?_) ⟨ho,?_⟩
  ·simp;omega
  ·simp[hne',k1]
  ·simp[hne'];omega
  ·omega
  ·unfold Builtin.Tuple.tupleTooMany
   have:¬(its.toArray.size:Int)*k>(sizeLine:Int):=by
    have:(1000:Nat)<=sizeLine:=qr (Nat.le_refl _)
    omega
   simpa using this
  ·rw[hfold,List.size_toArray];exact qr hfl
  ·rw[hfold]
   refine⟨.ref s.heap.objs.size,_,I.laid (t':=s.toks) (o:=.tup (List.replicate k.toNat xs).flatten) (fun b ob q=>Heap.get?_push_of_some _ q) (Nat.le_refl _) ?_,rfl,q _ _ (dZ (I.hok.fresh (Nat.le_refl _)) _) (SqT.of aP)⟩
   exact⟨qr (by rw[rY,Nat.mul_comm];exact hz),_,r1.rep k.toNat,IsTup.new _ _⟩
def xB:U->U->Sto->Option (U×Sto)
 |.int i,.int j,S=>if vt i j then some (.int (i*j),S)else none
 |.tup us,.int k,S=>if us≠[]/\1<=k/\us.length*k.toNat<=1000 then some (.tup (List.replicate k.toNat us).flatten,S)else none
 |.ref l,.int k,S=>match S[l]? with
  |some (.lst us)=>if 0<=k/\k<=100000/\us.length*k.toNat<=LIM then some (.ref S.length,S++[.lst (List.replicate k.toNat us).flatten])else none
  |_=>none
 |_,_,_=>none
theorem FL:OpR X (binaryOp .Mult) (fun x y H Q=>rI vt (fun i j=>.int (i*j)) x y H Q\/(Cd X.K x y H Q\/IQ x y H Q)):=iY.or (CU.or FI)
instance {us:List U}:Decidable (us≠[]):=match us with
 |[]=>.isFalse fun h=>h rfl
 |_::_=>.isTrue fun h=>by cases h
theorem FF:OpP K (fun x y H Q=>rI vt (fun i j=>.int (i*j)) x y H Q\/(Cd K x y H Q\/IQ x y H Q)) xB:=by
 intro m S H x y v w u S' Q sr ix iy hf post
 cases x<;>cases y<;>simp only[xB]at hf<;>try cases hf
 ·split at hf<;>try cases hf
  rename_i hc
  exact .inl ⟨_,_,ix.of_int,iy.of_int,hc,post m _ H .refl sr .int_⟩
 ·rename_i us k
  split at hf<;>try cases hf
  rename_i hc
  obtain⟨a,xs,rfl,sa,la⟩:=ix.of_tup
  refine .inr (.inl ⟨a,k,xs,rfl,iy.of_int,sa,fun z=>hc.1 ?_,hc.2.1,by rw[la.length];exact hc.2.2,fun q H' s sq=>?_⟩)
  ·subst z
   have:=la.length
   exact List.length_eq_zero_iff.mp this.symm
  ·exact post m _ H' (.of (eU s)) (sr.same s) (.tup_ sq ((la.rep k.toNat).mono (.of (eU s))))
 ·rename_i l k
  split at hf<;>try cases hf
  rename_i us hS
  split at hf<;>try cases hf
  rename_i hc
  obtain⟨a,ha,rfl⟩:=ix.of_ref
  obtain⟨a',ha',xs,hx,la⟩:=sr.get hS
  rw[ha]at ha';cases ha'
  exact .inr (.inr ⟨a,k,xs,rfl,iy.of_int,hx,by omega,by omega,lim (by rw[la.length];exact hc.2.2),fun p hp=>d4 sr (la.rep k.toNat) post hp⟩)
end
section
variable{X:Cx}{K:PySem.W.Frag}
def ng:U->List U->Sto->Option (U×Sto)
 |.ref l,[.int i],S=>match S[l]? with
  |some (.lst us)=>if 0<=i/\i<us.length/\us.length<=LIM then(us[i.toNat]?).bind fun u=>some (u,S.set l (.lst (us.eraseIdx i.toNat)))else none
  |_=>none
 |_,_,_=>none
theorem CM:MtP K AE ng:=by
 intro m S H x v us vs u S' Q sr ix i hf post
 match x,us,hf with
 |.ref l,[.int k],hf=>
  simp only[ng]at hf
  split at hf<;>try cases hf
  rename_i ws hS
  split at hf<;>try cases hf
  rename_i hk
  obtain⟨w,hw,h⟩:=Option.bind_eq_some_iff.mp hf
  cases h
  obtain⟨a,ha,rfl⟩:=ix.of_ref
  obtain⟨a',ha',xs,hx,la⟩:=sr.get hS
  rw[ha]at ha';cases ha'
  obtain⟨y,hy,iy⟩:=la.getD hw
  obtain⟨z,rfl,iz⟩:=i.one
  have eu:Ext K m H m (upd H a (.lst (xs.eraseIdx k.toNat))):=.of (sr.keep ha _)
  have hL:ws.length<=100000:=hk.2.2
  exact⟨a,xs,k,k.toNat,y,rfl,by rw[iz.of_int],hx,by omega,by omega,seqIndex_of hk.1 (by rw[la.length];exact hk.2.1),hy,post m _ _ eu (sr.put ha ⟨_,aP,(la.erase _).mono eu⟩) (iy.mono eu)⟩
variable{e:Expr}{es:List Expr}{co:CE}{cr:CA}{o:Expr}{apos cpos:Pos}
theorem Ci (ho : QE X o co) (ha : QA X (e :: es) cr) (hbase : attributeBase o "pop" X.env (eval o X.env) = eval o X.env := by rfl) (hfew : ((backTo cpos (starEach (e :: es) X.env)).all (fun x => !x.1) && (backToKw cpos (keywordEach [] X.env)).all (fun x => x.1.isSome)
   && decide ((e::es).length+([]:List Keyword).length+(if ([]:List Keyword).isEmpty then 0 else 1)<30))=true:=by rfl) (hline:(apos.endLine == cpos.line)=true:=by rfl) (hs:starEach (e::es) X.env=(false,eval e X.env)::starEach es X.env:=by rfl) (hplain:(backTo cpos (starEach es X.env)).any (·.1)=false:=by rfl) :
  QE X (.Call (.Attribute o "pop" apos) (e::es) [] cpos) (cBM ng co cr):=(Aw PySem.F.plainAttrs_list PySem.F.slot_list_pop PySem.F.type_list_pop zG ho ha.h hbase hfew hline hs hplain).imp (A6 CM)
def gx(cr:CA):CE:=fun ρ S=>(cr ρ S).bind fun p=>match p.1 with
 |[.int j]=>if 0<=j/\j<=1000 then some (.ref p.2.length,p.2++[.lst (du 0 j.toNat)])else none
 |_=>none
theorem oz:∀(n:Nat) (a:Int) (vs:List Value),vs.length=n->(∀(j:Nat) (v:Value),vs[j]?=some v->∃t,v=Value.int (a+(j:Int)) t)->cg ((List.range n).map fun i:Nat=>V.int (a+(i:Nat))) vs
 |0,a,vs,hl,h=>by
  rw[List.length_eq_zero_iff.mp hl];exact .nil
 |n+1,a,[],hl,h=>by simp at hl
 |n+1,a,v::vs,hl,h=>by
  rw[List.range_succ_eq_map,List.map_cons,List.map_map]
  refine .cons ?_ ?_
  ·obtain⟨t,e⟩:=h 0 v rfl
   exact⟨t,by simpa using e⟩
  ·have:=oz n (a+1) vs (by simpa using hl) fun j x hx=>by
    obtain⟨t,e⟩:=h (j+1) x (by simpa using hx)
    exact⟨t,by rw[e];congr 1;omega⟩
   have e:(List.range n).map (fun i:Nat=>V.int (a+1+(i:Nat)))=(List.range n).map ((fun i:Nat=>V.int (a+(i:Nat))) ∘ Nat.succ):=List.map_congr_left fun i _=>by
    simp only[Function.comp];congr 1;omega
   rw[<-e];exact this
theorem qi{a:Expr}{ta:TA}{p1 p2 pos1 pos2:Pos}(hc:X.calm=true)(hgl:Gl X "list")(hml:X.mg "list"=none)(hg:Gl X "range")(hm:X.mg "range"=none)(ha:WA X [a] ta)(hs:starEach [a] X.env=[(false,eval a X.env)])
  (hs1:starEach [Expr.Call (.Name "range" p2) [a] [] pos2] X.env=[(false,eval (.Call (.Name "range" p2) [a] [] pos2) X.env)]) :
  WE X (.Call (.Name "list" p1) [.Call (.Name "range" p2) [a] [] pos2] [] pos1) (fun σ H Q=>ta σ H fun vs H1=>∃j:Int,vs=[.int j]/\0<=j/\j<=1000/\∀p,H1 p=none->Q (.ref p) (upd H1 p (.lst ((List.range j.toNat).map fun i:Nat=>V.int (0+(i:Nat)))))):=by
 constructor
 intro pins s σ H Q I h
 refine wpAny_Call_Name_kw (mY I hgl hml OG.dz ?_ (by decide) (by decide))
 refine PyProof.Rows.callWith_type1 ?_ hs1 rfl
 rw[hs1]
 show wpAny _ _ (spliced [(false,eval (.Call (.Name "range" p2) [a] [] pos2) X.env)]) _ _ s
 refine Calls.spliced_cons ?_
 refine Call_ (mY I hg hm boot_range (PyProof.Rows.callWith_type1 (thn (ha.h pos2 pins s σ H _ I h) fun us s1 ⟨vs,H1,I1,r1,q1⟩=>?_) hs rfl))
 obtain⟨j,e,j0,j1,q⟩:=q1
 subst e
 cases r1 with
 |cons r rr=>
  cases rr
  obtain⟨t,rfl⟩:=r
  refine call_range_1 ?_
  refine Calls.spliced_nil ?_
  have hsz:Builtin.Range.rangeSize 0 j 1=((j.toNat:Nat):Int):=by
   unfold Builtin.Range.rangeSize
   simp
   omega
  refine call_list_range (n:=j.toNat) (I1.ok.hd hc) (Heap.get?_push_size _ rfl) ?_ hsz (by omega) fun h' tk acc c' hk hg' hi=>?_
  ·unfold Builtin.Range.small
   rw[hsz]
   unfold Builtin.Range.rangeFitsLong
   simp
   omega
  ·have hv:cg ((List.range j.toNat).map fun i:Nat=>V.int (0+(i:Nat))) acc.toList:=oz j.toNat 0 acc.toList (by simpa using hi.1) fun k v hv=>by
    obtain⟨t,e⟩:=hi.2 k v (by simpa using hv)
    exact⟨t,by rw[e];congr 1;omega⟩
   refine⟨.ref _,_,I1.laid (t':=tk) (o:=.lst ((List.range j.toNat).map fun i:Nat=>V.int (0+(i:Nat)))) (fun b ob q=>hk b ob (Heap.get?_push_of_some _ q)) (by rw[Heap.size_push];omega) ?_,rfl,q _ (I1.hok.fresh (by rw[Heap.size_push];omega))⟩
   exact⟨by rw[List.length_map,List.length_range];exact Nat.le_trans (by omega) (show 1000<=sizeLine by decide),_,_,hv,by simpa using hg'⟩
theorem xf{m:List Addr}{H:Hp}(n:Nat):IsL K m H ((List.range n).map fun i:Nat=>V.int (0+(i:Nat))) (du 0 n):=by
 unfold du
 generalize List.range n=l
 induction l with
 |nil=>exact .nil_
 |cons a r ih=>exact .cons_ .int_ ih
theorem rP{a:Expr}{cr:CA}{p1 p2 pos1 pos2:Pos}(hc:X.calm=true)(hgl:Gl X "list")(hml:X.mg "list"=none)(hg:Gl X "range")(hm:X.mg "range"=none)(ha:QA X [a] cr)(hs:starEach [a] X.env=[(false,eval a X.env)])
  (hs1:starEach [Expr.Call (.Name "range" p2) [a] [] pos2] X.env=[(false,eval (.Call (.Name "range" p2) [a] [] pos2) X.env)]) :
  QE X (.Call (.Name "list" p1) [.Call (.Name "range" p2) [a] [] pos2] [] pos1) (gx cr):=(qi hc hgl hml hg hm ha.h hs hs1).imp fun σ H Q hz=>mh hz fun m ρ S u S' sr lr hc post=>by
 obtain⟨⟨ws,S1⟩,h1,h2⟩:=Option.bind_eq_some_iff.mp hc
 simp only at h2
 split at h2<;>try cases h2
 rename_i j
 split at h2<;>try cases h2
 rename_i hj
 refine⟨m,ρ,S,_,S1,sr,lr,h1,fun m1 v1 H1 e1 sr1 i1=>?_⟩
 obtain⟨x,rfl,ix⟩:=i1.one
 rw[ix.of_int]
 exact⟨j,rfl,hj.1,hj.2,fun p hp=>d4 sr1 (xf _) (post.mono e1) hp⟩
end
section
variable{prog:Program}{w:World}{A:Around}{E:Value->Shared->Prop}{s:Shared}{d it:Addr}{o:Obj}{es:Array DictEntry}{ep i:Nat}
theorem tM{Q:Value->Shared->Prop}(hd:(d == sysModules)=false)(ho:s.heap.get? d=some o)(hc:o.ExactDict)(he:o.data=.dict es ep)
  (q:Q (.ref s.heap.objs.size) { s with heap:=s.heap.push { cls:=.type "dict_keyiterator",data:=.fields #[.ref d,.int 0 0,.int es.size 0,.int ep 0] } }):wpAny (model prog w) A (pyIter (.ref d)) Q E s:=by
 have T:s.TypeIs (.ref d) "dict":=⟨o,ho,hc.1⟩
 refine wpAny_pyIter_slot T F.slot_dict_iter (wpAny_call_entry F.slot_dict_iter T F.entry_dict_iter ?_ (F.args_dict_iter_1 _))
 unfold Builtin.«dict.__iter__»;refine wpAny_bind ?_
 unfold Builtin.Dict.dictSlotNone;refine wpAny_bind (wpAny_notOrdered_dict T ?_)
 refine wpAny_pure (show wpAny _ _ (Builtin.Dict.showsAll d >>= _) _ _ s from ?_)
 unfold Builtin.Dict.showsAll;rw[if_neg (by rw[hd];exact Bool.false_ne_true)]
 refine wpAny_bind (wpAny_pure (wpAny_bind (wpAny_dictEntries ho he (wpAny_bind (wpAny_dictEpoch ho he ?_)))))
 refine wpAny_bind (wpAny_newObj_type (wpAny_pure ⟨_,rfl,"dict_keyiterator",_,⟨_,Heap.get?_push_size _ rfl,rfl⟩,F.slot_dict_keyiterator_next.lookup,q⟩))
theorem tN{Q:Option Value->Shared->Prop}(hit:s.heap.IsKeyIter it d i es.size ep)(ho:s.heap.get? d=some o)(he:o.data=.dict es ep)(hi:i<es.size)
  (q:∀h',h'.IsKeyIter it d (i+1) es.size ep->Heap.SameBut it s.heap h'->Q (some es[i].key) { s with heap:=h' }):wpAny (model prog w) A (pyNext (.ref it)) Q E s:=by
 obtain⟨io,hio,ic,id'⟩:=id hit
 unfold pyNext;refine wpAny_bind (wpAny_attempt (wpAny_callSpecial?_slot (name:=Str.ofString "__next__") hit.typeIs F.slot_dict_keyiterator_next (wpAny_call_entry F.slot_dict_keyiterator_next hit.typeIs F.entry_dict_keyiterator_next ?_ (F.args_dict_keyiterator_next_1 _))))
 refine wpAny_bind (wpAny_pure (wpAny_bind (wpAny_bind ?_)))
 first|refine wpAny_bind (wpAny_typeNameOfWhole_keyiter hit.typeIs (wpAny_pure (wpAny_bind (wpAny_fieldsOf hio id' ?_))))|refine wpAny_bind (wpAny_typeNameOf_keyiter hit.typeIs (wpAny_pure (wpAny_bind (wpAny_fieldsOf hio id' ?_))))
 simp only[show Builtin.Dict_items.ownsTuple "dict_keyiterator"=false by decide,Bool.false_eq_true,if_false]
 refine(show wpAny _ _ (if (Value.ref d == Value.none)=true then _ else _) _ _ s from ?_)
 rw[if_neg (show ¬((Value.ref d == Value.none)=true)from Bool.false_ne_true)];refine wpAny_bind (wpAny_pure (wpAny_bind (wpAny_dictEntries ho he ?_)))
 rw[if_neg (by simp)];refine wpAny_bind (wpAny_pure (wpAny_bind (wpAny_dictEpoch ho he ?_)))
 rw[if_neg (by simp)];refine wpAny_pure ?_
 simp only[show ¬((i:Int)<0)by omega,if_false,Int.toNat_natCast,Array.getElem?_eq_getElem hi];refine wpAny_bind ?_
 first|refine wpAny_bind (wpAny_typeNameOfWhole_keyiter hit.typeIs (wpAny_pure (wpAny_bind (wpAny_isOneOf_keyiter hit.typeIs ?_))))|refine wpAny_bind (wpAny_typeNameOf_keyiter hit.typeIs (wpAny_pure (wpAny_bind (wpAny_isOneOf_keyiter hit.typeIs ?_))))
 refine(show wpAny _ _ (setField (.ref it) 1 (rawInt ((i:Int)+1)) >>= _) _ _ s from wpAny_bind (wpAny_setField hio id' (by simp) ?_))
 have hit2:(s.heap.update it (Obj.mapFields (·.setIfInBounds 1 (rawInt ((i:Int)+1))))).IsKeyIter it d (i+1) es.size ep:=⟨_,Heap.get?_update_self _ hio (Obj.isFreed_of_fields (Obj.data_mapFields id' _)),(Obj.cls_mapFields ..).trans ic,by rw[Obj.data_mapFields id'];simp[rawInt]⟩
 refine wpAny_bind (wpAny_holding (wpAny_bind (wpAny_isOneOf_keyiter (s:={ s with heap:=s.heap.update it (Obj.mapFields (·.setIfInBounds 1 (rawInt ((i:Int)+1)))) }) hit2.typeIs ?_)))
 exact(show wpAny _ _ (pure es[i].key) _ _ _ from wpAny_pure (wpAny_pure ⟨_,rfl,wpAny_pure (q _ hit2 (Heap.SameBut.update ..))⟩))
theorem wd{Q:Option Value->Shared->Prop}(hh:A.handled=none)(hit:s.heap.IsKeyIter it d i es.size ep)(ho:s.heap.get? d=some o)(he:o.data=.dict es ep)(hi:es.size<=i)
  (q:∀h',Heap.ExtBut it s.heap h'->Q none { s with heap:=h' }):wpAny (model prog w) A (pyNext (.ref it)) Q E s:=by
 obtain⟨io,hio,ic,id'⟩:=id hit
 unfold pyNext;refine wpAny_bind (wpAny_attempt (wpAny_callSpecial?_slot (name:=Str.ofString "__next__") hit.typeIs F.slot_dict_keyiterator_next (wpAny_call_entry F.slot_dict_keyiterator_next hit.typeIs F.entry_dict_keyiterator_next ?_ (F.args_dict_keyiterator_next_1 _))))
 refine wpAny_bind (wpAny_pure (wpAny_bind (wpAny_bind ?_)))
 first|refine wpAny_bind (wpAny_typeNameOfWhole_keyiter hit.typeIs (wpAny_pure (wpAny_bind (wpAny_fieldsOf hio id' ?_))))|refine wpAny_bind (wpAny_typeNameOf_keyiter hit.typeIs (wpAny_pure (wpAny_bind (wpAny_fieldsOf hio id' ?_))))
 simp only[show Builtin.Dict_items.ownsTuple "dict_keyiterator"=false by decide,Bool.false_eq_true,if_false]
 refine(show wpAny _ _ (if (Value.ref d == Value.none)=true then _ else _) _ _ s from ?_)
 rw[if_neg (show ¬((Value.ref d == Value.none)=true)from Bool.false_ne_true)];refine wpAny_bind (wpAny_pure (wpAny_bind (wpAny_dictEntries ho he ?_)))
 rw[if_neg (by simp)];refine wpAny_bind (wpAny_pure (wpAny_bind (wpAny_dictEpoch ho he ?_)))
 rw[if_neg (by simp)];refine wpAny_pure ?_
 simp only[show ¬((i:Int)<0)by omega,if_false,Int.toNat_natCast,Array.getElem?_eq_none hi];refine wpAny_bind ?_
 first|refine wpAny_bind (wpAny_typeNameOfWhole_keyiter hit.typeIs (wpAny_pure ?_));skip|refine wpAny_bind (wpAny_typeNameOf_keyiter hit.typeIs (wpAny_pure ?_));skip
 refine(show wpAny _ _ (setField (.ref it) 0 .none >>= _) _ _ s from wpAny_bind (wpAny_setField hio id' (by simp) ?_))
 refine(show wpAny _ _ (newExc (.type "StopIteration") [] >>= _) _ _ _ from wpAny_bind ?_)
 simp only[newExc,newTuple];refine wpAny_bind (wpAny_newObj_type ?_ (by size_fits));refine wpAny_bind (m:=firstArgMember _ _) (wpAny_of_eq (a:=Value.none) (by first|rfl|(simp only[firstArgMember];rfl)) (wpAny_newObj_type ?_ (by size_fits)))
 simp only[raiseNew];refine wpAny_bind (wpAny_handled ?_);rw[show A.in1.handled=none from hh]
 refine wpAny_bind (wpAny_pure (wpAny_throw ?_));refine wpAny_bind (wpAny_isInstance (T:="StopIteration") (b:=true) ⟨_,Heap.get?_push_size _ rfl,rfl⟩ isSubtype_stop ?_);exact wpAny_pure (q _ (((Heap.SameBut.update ..).extBut.push _).push _))
end
def FzT(H:Hp)(a:Addr)(ep:Nat)(ks:List (List Key)):Prop:=∃ob es kvs,H a=some (.frz ob (.dT kvs))/\ob.data=.dict es ep/\kvs.map (·.1)=ks
def Itt(a:Addr)(ep:Nat)(ks:List (List Key)):It:=
 ⟨fun i H=>i<ks.length/\FzT H a ep ks,fun i H x H'=>H'=H/\∃k p,ks[i]?=some k/\x=.ref p/\H p=some (.tup (k.map kV)),fun i H=>ks.length<=i/\FzT H a ep ks⟩
end OP
namespace OP
open PySem PySem.Spec PyProof PyProof.Rows L2 OG PySem.W
theorem Cc{prog:Program}{w:World}{d:Addr}{o:Obj}{es:Array DictEntry}{ep:Nat}(hd:(d == sysModules)=false)(hc:o.ExactDict)(he:o.data=.dict es ep) :
  KdlSrc prog w "dict" d d es.size (fun i v=>∃h:i<es.size,v=es[i].key) (fun h=>h.get? d=some o) where
 type:=fun s g=>⟨o,g,hc.1⟩
 there:=fun h g=>⟨Heap.lt_size g,Heap.lt_size g⟩
 keep:=fun h h' g m=>m d (.inl rfl) o g
 notList:=by decide
 notTuple:=by decide
 hint:=fun A E s Q g q=>kdl_hint_dict ⟨o,g,hc.1⟩ q
 iter:=fun A s hh g=>by
  refine⟨_,fun i h=>h.IsKeyIter s.heap.objs.size d i es.size ep/\h.get? d=some o,fun E Q q=>tM hd g hc he q,?_,⟨⟨_,Heap.get?_push_size _ rfl,rfl,rfl⟩,Heap.get?_push_of_some _ g⟩⟩
  refine⟨fun b hb=>by simp at hb;simp[hb],fun i h h' st m=>?_,fun i s' Q E hi st k=>?_,fun s' Q E st k=>?_,fun i s' Q E st q=>?_⟩
  ·obtain⟨⟨o1,g1,c1,d1⟩,g2⟩:=st
   exact⟨⟨o1,m _ (by simp) o1 g1,c1,d1⟩,m _ (by simp) o g2⟩
  ·refine tN st.1 st.2 he hi fun h' it' sb=>k _ h' _ ⟨hi,rfl⟩ ⟨it',?_⟩ fun b o' hb g'=>?_
   ·have:d≠s.heap.objs.size:=Nat.ne_of_lt (Heap.lt_size g)
    rw[sb.2 d this];exact st.2
   ·rw[sb.2 b (by simpa using hb)];exact g'
  ·exact wd hh st.1 st.2 he (Nat.le_refl _) fun h' eb=>k h' _ fun b o' hb g'=>eb b o' (by simpa using hb) g'
  ·exact wpAny_pyIter_keyiter st.1 q
section
variable{prog:Program}{w:World}{A:Around}{E:Value->Shared->Prop}{s:Shared}{κ:SortKind}{LT:Keyed->Keyed->Bool}{X:Keyed->Prop}
def Kt(prog:Program)(w:World)(A:Around)(E:Value->Shared->Prop)(s:Shared)(κ:SortKind)(LT:Keyed->Keyed->Bool)(X:Keyed->Prop):Prop:=
 ∀x y st (Q:Option Bool->SortSt->Shared->Prop),X x->X y->Rows.kindOf st=κ->Q (some (LT x y)) st s->kasC (model prog w) A E (lt' x y) Q st s
theorem xJ{arr:Array Keyed}{i:Nat}{x:Keyed}{st:SortSt}{Q:Keyed->SortSt->Shared->Prop}(h:arr[i]?=some x)(q:Q x st s):kasC (model prog w) A E (elem' arr i) Q st s:=by
 rw[elem'_eq,h]
 exact kasC_pure q
end
section
variable{α:Type}{LT:α->α->Bool}{a b o:List α}{i j k:Nat}
def Kv(LT:α->α->Bool)(l:List α):Prop:=l.Pairwise fun x y=>LT x y=true
end
section
variable{prog:Program}{w:World}{A:Around}{E:Value->Shared->Prop}{s:Shared}{κ:SortKind}{LT:Keyed->Keyed->Bool}{X:Keyed->Prop}
def Gl(st st':SortSt):Prop:=∃g,st'=SortSt.mk' (Rows.kindOf st) (arrOf st) (pendingOf st) g (failedOf st)
theorem oA{l:Array Keyed}{i:Nat}(h:i<l.size):l[i]?=some (kas_item l i):=by
 unfold kas_item;simp[Array.getD,h]
theorem De{l:Array Keyed}{i:Nat}(h:i<l.size):l.toList.drop i=kas_item l i::l.toList.drop (i+1):=by
 rw[List.drop_eq_getElem_cons (by simpa using h)]
 congr 1
 have:=oA h
 simpa [h] using this
theorem Gb{l:Array Keyed}{i:Nat}(h:i<l.size):kas_item l i∈l.toList:=List.mem_of_mem_drop (i:=i) (by rw[De h];exact List.mem_cons_self)
theorem JA{l:Array Keyed}{i:Nat}{x:Keyed}(h:x∈l.toList.drop i):∃t,i+t<l.size/\x=kas_item l (i+t):=by
 obtain⟨t,ht,e⟩:=List.getElem_of_mem h
 rw[List.length_drop]at ht
 have hz:i+t<l.size:=by simp at ht;omega
 refine⟨t,hz,?_⟩
 rw[<-e,List.getElem_drop]
 have:=oA hz
 simpa [hz] using this
theorem Dd{l:Array Keyed}{i k:Nat}{x:Keyed}(h:x∈(l.toList.drop i).take k):∃t,t<k/\i+t<l.size/\x=kas_item l (i+t):=by
 obtain⟨t,ht,e⟩:=List.getElem_of_mem h
 rw[List.length_take,List.length_drop]at ht
 have hz:i+t<l.size:=by simp at ht;omega
 refine⟨t,by omega,hz,?_⟩
 rw[<-e,List.getElem_take,List.getElem_drop]
 have:=oA hz
 simpa [hz] using this
theorem Ge{l:Array Keyed}{i j:Nat}(h:Kv LT l.toList)(hij:i<j)(hj:j<l.size):LT (kas_item l i) (kas_item l j)=true:=by
 have hi:i<l.size:=by omega
 have:=List.pairwise_iff_getElem.mp h i j (by simpa using hi) (by simpa using hj) hij
 have e1:=oA hi
 have e2:=oA hj
 simp only[hi,hj,getElem?_pos,Option.some.injEq]at e1 e2
 rw[<-e1,<-e2]
 simpa using this
variable{a b out:Array Keyed}{i j k:Nat}
end
section
variable{LT:Keyed->Keyed->Bool}{X:Keyed->Prop}{a b out:Array Keyed}{i j p:Nat}
theorem Dh{l:Array Keyed}{x:Keyed}(h:x∈l.toList.take i):∃t,t<i/\t<l.size/\x=kas_item l t:=by
 obtain⟨t,h1,h2,e⟩:=Dd (i:=0) (k:=i) h
 exact⟨t,h1,by omega,by rw[e,Nat.zero_add]⟩
end
section
variable{prog:Program}{w:World}{A:Around}{E:Value->Shared->Prop}{s:Shared}{κ:SortKind}{LT:Keyed->Keyed->Bool}{X:Keyed->Prop}
theorem ua{P R S:List Keyed}{arr:Array Keyed}(h:arr.toList=P++(R++S)){i:Nat}(hi:i<R.length):P.length+i<arr.size/\arr[P.length+i]?=some (kas_item R.toArray i):=by
 have hz:arr.size=P.length+(R.length+S.length):=by rw[<-Array.length_toList,h,List.length_append,List.length_append]
 refine⟨by omega,?_⟩
 rw[<-Array.getElem?_toList,h,List.getElem?_append_right (by omega),Nat.add_sub_cancel_left,List.getElem?_append_left hi]
 have:=oA (l:=R.toArray) (i:=i) (by simpa using hi)
 simpa using this
end
section
variable{prog:Program}{w:World}{A:Around}{E:Value->Shared->Prop}{s:Shared}{κ:SortKind}{LT:Keyed->Keyed->Bool}{X:Keyed->Prop}
variable{R1 R2 P S:List Keyed}{k m:Nat}
theorem im{l:List Keyed}{i:Nat}(h:i<l.length):kas_item l.toArray i∈l:=by
 have:=Gb (l:=l.toArray) (i:=i) (by simpa using h)
 simpa using this
theorem ia{l:List Keyed}{i j:Nat}(ha:Kv LT l)(h:i<j)(hj:j<l.length):LT (kas_item l.toArray i) (kas_item l.toArray j)=true:=Ge (l:=l.toArray) (by simpa using ha) h (by simpa using hj)
theorem io{l:List Keyed}{x:Keyed}(h:x∈l.drop k):∃t,k<=t/\t<l.length/\x=kas_item l.toArray t:=by
 obtain⟨t,h1,h2⟩:=JA (l:=l.toArray) (i:=k) (by simpa using h)
 exact⟨k+t,by omega,by simpa using h1,h2⟩
theorem ip{l:List Keyed}{x:Keyed}(h:x∈l.take k):∃t,t<k/\t<l.length/\x=kas_item l.toArray t:=by
 obtain⟨t,h1,h2,h3⟩:=Dh (l:=l.toArray) (i:=k) (by simpa using h)
 exact⟨t,h1,by simpa using h2,h3⟩
end
section
variable{prog:Program}{w:World}{A:Around}{E:Value->Shared->Prop}{s:Shared}{κ:SortKind}{LT:Keyed->Keyed->Bool}{X:Keyed->Prop}{P W:List Keyed}
structure Od(LT:Keyed->Keyed->Bool)(X:Keyed->Prop)(W:List Keyed):Prop where
 xx:∀x∈W,X x
 tr:∀{x y z},X x->X y->X z->LT x y=true->LT y z=true->LT x z=true
 asym:∀{x y},X x->X y->LT x y=true->LT y x=false
 pw:W.Pairwise fun x y=>LT x y=true\/LT y x=true
theorem FQ(hl:Kt prog w A E s κ LT X)(O:Od LT X W){st:SortSt}{i j:Nat}{Q:Option Bool->SortSt->Shared->Prop}(hk:Rows.kindOf st=κ)(ha:(arrOf st).toList=P++W)(hi:i<W.length)(hj:j<W.length)(q:Q (some (LT (kas_item W.toArray i) (kas_item W.toArray j))) st s):kasC (model prog w) A E (ltAt' (P.length+i) (P.length+j)) Q st s:=by
 have h':(arrOf st).toList=P++(W++[]):=by rw[ha,List.append_nil]
 rw[ltAt'_eq]
 refine kasC_bind (kasC_get ?_)
 refine kasC_bind (xJ (ua h' hi).2 ?_)
 refine kasC_bind (xJ (ua h' hj).2 ?_)
 exact hl _ _ _ _ (O.xx _ (im hi)) (O.xx _ (im hj)) hk q
end
section
variable{prog:Program}{w:World}{A:Around}{E:Value->Shared->Prop}{s:Shared}{κ:SortKind}{LT:Keyed->Keyed->Bool}{X:Keyed->Prop}{P W:List Keyed}
theorem lt1(hl:Kt prog w A E s κ LT X)(O:Od LT X W){st:SortSt}{n:Nat}{Q:Option Bool->SortSt->Shared->Prop}(hk:Rows.kindOf st=κ)(ha:(arrOf st).toList=P++W)(h1:1<=n)(hn:n<W.length)(q:Q (some (LT (kas_item W.toArray n) (kas_item W.toArray (n-1)))) st s):kasC (model prog w) A E (ltAt' (P.length+n) (P.length+n-1)) Q st s:=by
 rw[show P.length+n-1=P.length+(n-1)by omega]
 exact FQ hl O hk ha hn (by omega) q
end
end OP
namespace OP
open PySem PySem.Spec PyProof.Rows L2 OG
section
variable{P:Program}{w:World}{K:PySem.W.Frag}{h base:Heap}{mg:Str->Option Value}{x q:Str}{st:Stmt}{f C:Addr}{oc:Value}{od an:Option Addr}{osl:Array (Option Value)}{kV doc pm cdv ct:Value}{ps N:List Str}{k:Nat}{c:CS}{cl:Cl}
def Ku(K:PySem.W.Frag)(x q:Str)(st:Stmt)(f:Addr):Prop:=∃fd,Fun K x q st f fd
abbrev fAt(x q:Str)(st:Stmt)(oc:Value)(od an:Option Addr)(osl:Array (Option Value))(kV doc pm cdv ct:Value):Obj:=⟨oc,od,.func (PySem.W.fnOf x q (jv st) (d8 st) (ay st) .none kV doc pm an cdv ct),osl⟩
def GO(K:PySem.W.Frag)(x:Str)(st:Stmt):Prop:=∃f,PySem.W.nsIn K mainGlobals x=some (some (.ref f))/\Ku K x x st f
theorem La(a:PySem.W.nsIn K mainGlobals x=some (some (.ref f)))(l:K.lookup f=some (fAt x x st oc od an osl kV doc pm cdv ct))(c:PySem.W.codeIn K cdv x=true)(k:PySem.W.keepIn K (.ref f)=true):GO K x st:=⟨f,a,_,AX l c k⟩
def GN(K:PySem.W.Frag):List (Str×Stmt)->Prop
 |[]=>True
 |(x,st)::r=>GO K x st/\GN K r
def GJ(K:PySem.W.Frag)(C:Addr)(x q:Str)(st:Stmt):Prop:=∃f,PySem.W.findIn K (.ref C) x=some (some (.ref f))/\PySem.W.isFn K (.ref f)=true/\Ku K x q st f
theorem K7(a:PySem.W.findIn K (.ref C) x=some (some (.ref f)))(i:PySem.W.isFn K (.ref f)=true)(l:K.lookup f=some (fAt x q st oc od an osl kV doc pm cdv ct))(c:PySem.W.codeIn K cdv q=true)(k:PySem.W.keepIn K (.ref f)=true):GJ K C x q st:=⟨f,a,i,_,AX l c k⟩
def GI(K:PySem.W.Frag)(C:Addr):List (Str×Str×Stmt)->Prop
 |[]=>True
 |(x,q,st)::r=>GJ K C x q st/\GI K C r
def GH(K:PySem.W.Frag)(C:Addr):List Str->Prop
 |[]=>True
 |x::r=>PySem.W.findIn K (.ref C) x=some none/\GH K C r
def Hh(K:PySem.W.Frag):List Str->Prop
 |[]=>True
 |x::r=>PySem.W.nsIn K mainGlobals x=some none/\Hh K r
structure GQ(K:PySem.W.Frag)(x:Str)(C:Addr)(ns:List Str)(ms:List (Str×Str×Stmt)):Prop where
 a:PySem.W.nsIn K mainGlobals x=some (some (.ref C))
 pg:PySem.W.plainGet K C Str.empty=true
 hd:PySem.W.hasDictIn K C=true
 po:PySem.W.plainOver K C=true
 sa:PySem.W.findIn K (.ref C) "__setattr__"=some (some (.builtin "object.__setattr__"))
 mc:PySem.W.makesIn K C=true
 kc:PySem.W.keepIn K (.ref C)=true
 nf:GH K C ns
 ms:GI K C ms
theorem GH.nas:∀{ns:List Str},GH K C ns->∀f∈ns,PySem.W.findIn K (.ref C) f=some none
 |[],_,f,h=>by cases h
 |x::r,h,f,hf=>by
  rcases List.mem_cons.mp hf with rfl|z
  ·exact h.1
  ·exact GH.nas h.2 f z
theorem GQ.tc{ns:List Str}{ms:List (Str×Str×Stmt)}(h:GQ K x C ns ms):TC K (⟨C,ns⟩:Cl) ns:=⟨⟨h.pg,h.hd,h.po,h.sa⟩,rfl,fun f hf=>h.nf.nas f hf⟩
abbrev Bd(x q:Str)(st:Stmt)(ps:List Str):Prop:=∀us:List Value,us.length=ps.length->∀(kV doc pm:Value) (an:Option Addr) (cdv ct:Value),bindArgs (PySem.W.fnOf x q (jv st) (d8 st) (ay st) .none kV doc pm an cdv ct) ⟨us,[]⟩=pure (ps.zip us)
theorem GO.df(d:GO K x st)(X:K.In h)(G:h.Ns mainGlobals mg)(b:Bd x x st ps:=by first|exact DO fun _ _ _ _ _ _=>rfl|(repeat (first|exact DO fun _ _ _ _ _ _=>rfl|refine JJ fun _=>?_))):Def K mg x st ps:=by
 obtain⟨f,a,fd,F⟩:=d
 exact⟨f,fd,F,F.binds fun kV doc pm an cdv ct us hl=>b us hl kV doc pm an cdv ct,PySem.W.mg_of X G a⟩
def MtD(K:PySem.W.Frag)(C:Addr)(x q:Str)(st:Stmt)(ps:List Str):Prop:=∃fa fd,Fun K x q st fa fd/\gW K fd ps []/\DJ K C x fa
theorem GJ.mt(d:GJ K C x q st)(b:Bd x q st ps:=by first|exact DO fun _ _ _ _ _ _=>rfl|(repeat (first|exact DO fun _ _ _ _ _ _=>rfl|refine JJ fun _=>?_))):MtD K C x q st ps:=by
 obtain⟨f,a,i,fd,F⟩:=d
 exact⟨f,fd,F,F.binds fun kV doc pm an cdv ct us hl=>b us hl kV doc pm an cdv ct,a,i,F.kp⟩
theorem MtD.pure(d:MtD K cl.C x q st ps)(S:aN N ps (ay st))
  (hb:∀(f:Addr) (cdv:Value) (A:Around) (outer:List Env) (s:Shared) (H:Hp) (E:XK),gB k (A.deeper (envOfC q (ay st) s.heap.objs.size f cdv))->WSs (um CX0 P w K mg base N q (ay st) f cdv A outer s H E).nox (d8 st) (tS K c)) :
  ja P w K mg base cl x (k+1) ps (fnU N.length ps.length c):=by
 obtain⟨fa,fd,F,b,m⟩:=d
 exact⟨fa,fd,m,F.pure S (hb fa),b⟩
def MkD(K:PySem.W.Frag)(mg:Str->Option Value)(C:Addr)(x q:Str)(st:Stmt)(ps:List Str):Prop:=∃fa fd,Fun K "__init__" q st fa fd/\gW K fd ps []/\Mk K C fa/\mg x=some (.ref C)
theorem GQ.mkd{ns:List Str}{ms:List (Str×Str×Stmt)}(h0:GQ K x C ns ms)(d:GJ K C "__init__" q st)(X:K.In h)(G:h.Ns mainGlobals mg)(b:Bd "__init__" q st ps:=by first|exact DO fun _ _ _ _ _ _=>rfl|(repeat (first|exact DO fun _ _ _ _ _ _=>rfl|refine JJ fun _=>?_))):MkD K mg C x q st ps:=by
 obtain⟨f,a,i,fd,F⟩:=d
 exact⟨f,fd,F,F.binds fun kV doc pm an cdv ct us hl=>b us hl kV doc pm an cdv ct,⟨h0.mc,a,i,h0.kc⟩,PySem.W.mg_of X G h0.a⟩
theorem MkD.pure{NS:List Str}(d:MkD K mg cl.C x q st ps)(T:TC K cl NS)(S:aN N ps (ay st))
  (hb:∀(f:Addr) (cdv:Value) (A:Around) (outer:List Env) (s:Shared) (H:Hp) (E:XK),gB k (A.deeper (envOfC q (ay st) s.heap.objs.size f cdv))->WSs (um CX0 P w K mg base N q (ay st) f cdv A outer s H E).nox (d8 st) (tS K c))
  (nd:NS.Nodup:=by decide +kernel) (few:NS.length<1000:=by decide):CMk P w K mg base cl x (k+1) ps (fnU N.length ps.length c):=by
 obtain⟨fa,fd,F,b,m,g⟩:=d
 exact⟨⟨fa,fd,m,F.pure S (hb fa),b,g⟩,by rw[T.ns];exact nd,by rw[T.ns];exact few⟩
def Ko:List Str:=["len","isinstance","int","bool","str","tuple","list","range","min","sum","all","zip","sorted","dict","enumerate","any","max","set"]
theorem Hh.blt(z:Hh K Ko)(X:K.In h)(G:h.Ns mainGlobals mg):Blt mg:=by
 obtain⟨a,b,c,d,e,f,g,i,j,k,l,m,n,o,p,q,r,s,-⟩:=z
 constructor<;>(refine PySem.W.mg_none_of X G ?_;assumption)
theorem FU{sp:Sp}{fa:Addr}(d:GO K "law" st)(X:K.In h)(G:h.Ns mainGlobals mg)(hfa:mg "law"=some (.ref fa))(ok:∀fd,Fun K "law" "law" st fa fd->∀base:Heap,lL P w K mg base CX0 k fa fd ["script"] sp)
  (b:∀(kV doc pm:Value) (an:Option Addr) (cdv ct v:Value),bindArgs (PySem.W.fnOf "law" "law" (jv st) (d8 st) (ay st) .none kV doc pm an cdv ct) ⟨[v],[]⟩=pure [(("script":Str),v)]:=by intros;rfl) :
  ∃fd:FuncData,(∀(s:Shared) (v:Value),BindsTo s fd ⟨[v],[]⟩ [("script",v)])/\∀base:Heap,K.In base->base.Ns mainGlobals mg->lL P w K mg base CX0 k fa fd ["script"] sp:=by
 obtain⟨f,a,fd,F⟩:=d
 cases hfa.symm.trans (PySem.W.mg_of X G a)
 refine⟨fd,fun s v=>?_,fun base _ _=>ok fd F base⟩
 obtain⟨oc,od,kV,doc,pm,an,cdv,ct,osl,rfl,lk,hcd⟩:=F.ex
 exact .of_eq (b kV doc pm an cdv ct v)
end
end OP
namespace OP
open PySem PySem.Spec PyProof PyProof.Rows L2 OG PySem.W
section
variable{P:Program}{w:World}
def NI(P:Program)(w:World)(h:Heap)(k:List Int)(v:Value):Prop:=∃b,v=.ref b/\IsTupleKey (intKind P w) h k b
def sV(P:Program)(w:World)(h:Heap)(ks:NK)(a:Addr):Prop:=∃o its n,h.get? a=some o/\o.cls=.type "tuple"/\o.data=.seq its n/\Paired (NI P w h) ks its.toList
def dNK(ks:NK):Nat:=(ks.map fun k=>k.length+1).sum
variable{h:Heap}{s:Shared}{A:Around}{E:Value->Shared->Prop}
theorem sV.ty{ks:NK}{a:Addr}(x:sV P w s.heap ks a):s.TypeIs (.ref a) "tuple":=let ⟨o,_,_,g,c,_⟩:=x;⟨o,g,c⟩
theorem AQ:∀{ks ls:NK} {vs:List Value},Paired (NI P w h) ks vs->Paired (NI P w h) ls vs->ks=ls
 |_,_,_,.nil,.nil=>rfl
 |_,_,_,.cons a r,.cons b t=>by
  obtain⟨x,rfl,p⟩:=a
  obtain⟨y,e,q⟩:=b
  cases e
  rw[p.inj q,AQ r t]
theorem sV.inj{ks ls:NK}{a:Addr}(x:sV P w h ks a)(y:sV P w h ls a):ks=ls:=by
 obtain⟨o,its,n,g,_,d,r⟩:=x
 obtain⟨o',its',n',g',_,d',r'⟩:=y
 rw[g]at g';cases g'
 rw[d]at d';cases d'
 exact AQ r r'
theorem sV.keeps{h':Heap}{ks:NK}{a d:Addr}{o:Obj}{es ep}(x:sV P w h ks a)(g0:h.get? d=some o)(d0:o.data=.dict es ep)(sb:Heap.SameBut d h h'):sV P w h' ks a:=by
 obtain⟨ob,its,n,g,c,e,r⟩:=x
 have ne:a≠d:=fun z=>by subst z;rw[g]at g0;cases g0;rw[e]at d0;cases d0
 exact⟨ob,its,n,(sb.2 a ne).trans g,c,e,Paired.mapP r fun k v ⟨b,e1,t⟩=>⟨b,e1,t.keeps g0 d0 sb⟩⟩
theorem C1{ks:NK}{a:Addr}{Q:Int->Shared->Prop}(hu:A.units+1<cLine)(hk:sV P w s.heap ks a)(q:Q (hNK ks) { s with toks:=s.toks+(dNK ks+1) }):wpAny (model P w) A (pyHash (.ref a)) Q E s:=by
 have T:=hk.ty
 obtain⟨o,its,n,g,_,d,r⟩:=hk
 have eh:hNK ks=reduceHash (Builtin.Tuple.tupleHashOf (ks.map (tupleKeyHash (intKind P w)))):=rfl
 rw[eh]at q
 clear eh
 unfold pyHash
 first|unfold pyHashByItsType|skip
 first|refine wpAny_bind (wpAny_cRoomFor_or (Or.inr (Nat.lt_of_succ_lt hu)) ?_)|skip
 refine wpAny_bind (wpAny_specialOf T PySem.F.slot_tuple_hash.lookup ?_)
 have nb:¬(some (Value.builtin "tuple.__hash__") == some Value.none)=true:=by rw[beq_builtin_none];exact Bool.false_ne_true
 dsimp only
 rw[if_neg nb]
 refine wpAny_bind (wpAny_specialOf T PySem.F.slot_tuple_hash.lookup ?_)
 refine wpAny_bind (wpAny_callSpecialIfBoundUnlessNone?_slot T PySem.F.slot_tuple_hash (wpAny_call_entry PySem.F.slot_tuple_hash T PySem.F.entry_tuple_hash ?_ (PySem.F.args_tuple_hash_1 _)))
 refine wpAny_bind (m:=Builtin.Tuple.tupleItemsOf (.ref a)) (wpAny_tupleItemsOf g d ?_)
 refine wpAny_bind ?_
 rw[<-Array.forIn_toList]
 refine wpAny_forIn_list _ (fun rest (b:Array Int) s'=>∃fore aft,ks=fore++aft/\Paired (NI P w s.heap) aft rest/\b.toList=fore.map (tupleKeyHash (intKind P w))/\s'={ s with toks:=s.toks+dNK fore }) _ ?_ ?_ _ _ ⟨[],ks,rfl,r,rfl,rfl⟩
 ·rintro x rest b s' ⟨fore,aft,rfl,hl,hb,rfl⟩
  cases hl with
  |@cons k _ ks' _ h1 hl'=>
   obtain⟨c,rfl,t⟩:=h1
   refine wpAny_bind (wpAny_pyHash_tuple (s:={ s with toks:=s.toks+dNK fore }) hu t ?_)
   have fin:∃fore' aft',fore++k::ks'=fore'++aft'/\Paired (NI P w s.heap) aft' rest/\(b.push (tupleKeyHash (intKind P w) k)).toList=fore'.map (tupleKeyHash (intKind P w))/\({ s with toks:=s.toks+dNK fore+(k.length+1) }:Shared)={ s with toks:=s.toks+dNK fore' }:=⟨fore++[k],ks',by simp,hl',by simp[hb],by simp[dNK,Nat.add_assoc]⟩
   first
    |exact wpAny_pure fin
    |exact wpAny_bind (wpAny_pure (wpAny_pure fin))
 ·rintro b s' ⟨fore,aft,rfl,hl,hb,rfl⟩
  cases hl
  rw[List.append_nil]at q
  show wpAny _ _ (retInt (Builtin.Tuple.tupleHashOf b.toList)) _ _ _
  rw[hb]
  refine wpAny_ret_mkInt ?_
  unfold reduceHash at q
  unfold pyHashByItsType.reduced
  dsimp only
  split at q
  ·rename_i c
   rw[if_pos c]
   exact wpAny_pure (by simpa [Nat.add_assoc] using q)
  ·rename_i c
   rw[if_neg c]
   exact wpAny_bind (wpAny_rule (wpAny_pure (by simpa [Nat.add_assoc] using q)))
theorem FO{x y:NK}{a b:Addr}{R:PySem.Fin->Shared->Prop}(hu:A.units<cLine)(hx:sV P w s.heap x a)(hy:sV P w s.heap y b)(q:R (.done (.ret (.bool (decide (x=y))))) s) :
  wpAny (model P w) A (Builtin.«tuple.__eq__» ⟨[.ref a,.ref b],[]⟩) R E s:=by
 have T:=hy.ty
 obtain⟨oa,xs,na,ga,_,da,ra⟩:=hx
 obtain⟨ob,ys,nb,gb,_,db,rb⟩:=hy
 refine wpAny_bind (m:=isInstance (.ref b) (.type "tuple")) (wpAny_isInstance T isSubtype_tuple_tuple ?_)
 simp only[Bool.not_true,Bool.false_eq_true,if_false]
 refine wpAny_bind (wpAny_tupleItemsOf ga da (wpAny_bind (wpAny_tupleItemsOf gb db (wpAny_bind ?_))))
 refine wpAny_forIn_list _ (fun rest r s'=>r.1=none/\s'=s/\∃x' y' us vs,rest=List.zip us vs/\Paired (NI P w s.heap) x' us/\Paired (NI P w s.heap) y' vs/\decide (x'=y')=decide (x=y)/\(us.length == vs.length)=(xs.size == ys.size)) _ ?_ ?_ _ _ ⟨rfl,rfl,x,y,xs.toList,ys.toList,rfl,ra,rb,rfl,by simp⟩
 ·rintro⟨u,v⟩ rest r s' ⟨hr,rfl,x',y',us,vs,hz,h1,h2,hd,hl⟩
  cases h1 with
  |nil=>simp at hz
  |@cons k1 _ x2 us2 p1 t1=>cases h2 with
   |nil=>simp at hz
   |@cons k2 _ y2 vs2 p2 t2=>
    rw[List.zip_cons_cons]at hz
    injection hz with e1 e2
    injection e1 with e3 e4
    subst e2;subst e3;subst e4
    obtain⟨c1,rfl,q1⟩:=p1
    obtain⟨c2,rfl,q2⟩:=p2
    refine wpAny_bind (wpAny_eqBool_tuple hu q1 q2 ?_)
    by_cases hk:k1=k2
    ·subst hk
     rw[decide_eq_true rfl]
     simp only[Bool.not_true,Bool.false_eq_true,if_false]
     refine wpAny_pure ⟨rfl,rfl,x2,y2,us2,vs2,rfl,t1,t2,?_,by simpa using hl⟩
     rw[<-hd]
     by_cases hxy:x2=y2<;>simp[hxy]
    ·rw[decide_eq_false hk]
     simp only[Bool.not_false,if_true]
     have hf:decide (x=y)=false:=by rw[<-hd];simp[hk]
     rw[hf]at q
     exact wpAny_bind (wpAny_pure (wpAny_pure (wpAny_pure q)))
 ·rintro⟨r1,r2⟩ s' ⟨hr,rfl,x',y',us,vs,hz,h1,h2,hd,hl⟩
  dsimp only at hr
  subst hr
  refine wpAny_pure ?_
  have e:(xs.size == ys.size)=decide (x=y):=by
   rw[<-hd,<-hl]
   cases h1 with
   |nil=>cases h2 with
    |nil=>simp
    |cons _ _=>simp
   |cons _ _=>cases h2 with
    |nil=>simp
    |cons _ _=>simp at hz
  rw[<-e]at q
  exact q
theorem Je{x y:NK}{a b:Addr}{Q:Bool->Shared->Prop}(hu:A.units+1<cLine)(hx:sV P w s.heap x a)(hy:sV P w s.heap y b)(q:Q (decide (x=y)) s):wpAny (model P w) A (eqBool (.ref a) (.ref b)) Q E s:=by
 unfold eqBool
 try with_reducible refine wpAny_holding ?_
 dsimp only
 by_cases hab:(Value.ref a == Value.ref b)=true
 ·rw[if_pos hab]
  have e:a=b:=by have:=eq_of_beq hab;injection this
  subst e
  obtain rfl:=hx.inj hy
  exact wpAny_bind (wpAny_rule (wpAny_pure (by simpa using q)))
 ·rw[if_neg hab]
  exact wpAny_bind (wpAny_richCompare_same_room (op:=.Eq) hx.ty hy.ty PySem.F.slot_tuple_eq (wpAny_call_entry PySem.F.slot_tuple_eq hx.ty PySem.F.entry_tuple_eq (FO hu hx hy ⟨_,rfl,(fun e=>nomatch e),wpAny_truthy_bool q⟩) (PySem.F.args_tuple_eq_2 _ _)) (Nat.lt_of_succ_lt hu))
theorem wK{ks:List Int}{a:Addr}{n:Nat}{Q:Bool->Shared->Prop}(hk:IsTupleKey (intKind P w) s.heap ks a)(q:Q true s):wpAny (model P w) A (eqIsQuiet (n+1) (.ref a)) Q E s:=by
 have T:=hk.typeIs
 obtain⟨o,its,k,g,_,d,i⟩:=hk
 unfold eqIsQuiet
 refine wpAny_bind (wpAny_specialOf T PySem.F.slot_tuple_eq.lookup ?_)
 refine wpAny_bind (m:=isInstance (.ref a) (.type "tuple")) (wpAny_isInstance T isSubtype_tuple_tuple ?_)
 simp only[Bool.not_true,Bool.false_eq_true,if_false]
 refine wpAny_bind (wpAny_seqItems g d (wpAny_bind ?_))
 change wpAny _ _ (forIn its _ _) _ _ s
 rw[<-Array.forIn_toList]
 refine wpAny_forIn_list _ (fun rest r s'=>r.1=none/\s'=s/\∀v∈rest,carriedByValue v=true) _ ?_ ?_ _ _ ⟨rfl,rfl,i.byValue⟩
 ·rintro v rest r s' ⟨hr,rfl,all⟩
  rw[eqIsQuiet_byValue _ (all v List.mem_cons_self)]
  refine wpAny_bind (wpAny_pure ?_)
  simp only[Bool.not_true,Bool.false_eq_true,if_false]
  exact wpAny_pure ⟨rfl,rfl,fun u hu'=>all u (List.mem_cons_of_mem _ hu')⟩
 ·rintro⟨r1,r2⟩ s' ⟨hr,rfl,_⟩
  dsimp only at hr
  subst hr
  exact wpAny_pure q
theorem zE{ks:NK}{a:Addr}{Q:Bool->Shared->Prop}(hk:sV P w s.heap ks a)(q:Q true s):wpAny (model P w) A (eqIsQuiet 8 (.ref a)) Q E s:=by
 have T:=hk.ty
 obtain⟨o,its,k,g,_,d,i⟩:=hk
 unfold eqIsQuiet
 refine wpAny_bind (wpAny_specialOf T PySem.F.slot_tuple_eq.lookup ?_)
 refine wpAny_bind (m:=isInstance (.ref a) (.type "tuple")) (wpAny_isInstance T isSubtype_tuple_tuple ?_)
 simp only[Bool.not_true,Bool.false_eq_true,if_false]
 refine wpAny_bind (wpAny_seqItems g d (wpAny_bind ?_))
 change wpAny _ _ (forIn its _ _) _ _ s
 rw[<-Array.forIn_toList]
 refine wpAny_forIn_list _ (fun rest r s'=>r.1=none/\s'=s/\∃ls,Paired (NI P w s.heap) ls rest) _ ?_ ?_ _ _ ⟨rfl,rfl,ks,i⟩
 ·rintro v rest r s' ⟨hr,rfl,ls,all⟩
  cases all with
  |cons p t=>
   obtain⟨c,rfl,p⟩:=p
   refine wpAny_bind (wK p ?_)
   simp only[Bool.not_true,Bool.false_eq_true,if_false]
   exact wpAny_pure ⟨rfl,rfl,_,t⟩
 ·rintro⟨r1,r2⟩ s' ⟨hr,rfl,_⟩
  dsimp only at hr
  subst hr
  exact wpAny_pure q
end
def gJ(P:Program)(w:World):HeapKind P w NK where
 is:=sV P w
 hash:=hNK
 draws:=fun ks=>dNK ks+1
 room:=fun A=>A.units+1<cLine
 inj:=fun x y=>x.inj y
 keeps:=fun x g d sb=>x.keeps g d sb
 pyHash:=fun hu hk q=>C1 hu hk q
 eqBool:=fun hu x y q=>Je hu x y q
 quiet:=fun hk q=>zE hk q
section
variable{P:Program}{w:World}{K:PySem.W.Frag}{m:List Addr}{H:Hp}
theorem uf:∀{ns:List Int} {us:List Value},cg (ns.map V.int) us->ItemsAre (intKind P w) ns us
 |[],_,r=>by cases r;exact .nil
 |n::ns,_,r=>by
  cases r with
  |cons a t=>obtain⟨k,rfl⟩:=a;exact .cons (intKind_is _ _ _ _) (uf t)
theorem tL:∀{cs:List Addr} {us:List Value},cg (cs.map V.ref) us->us=cs.map Value.ref
 |[],_,r=>by cases r;rfl
 |c::cs,_,r=>by
  cases r with
  |cons a t=>cases a;rw[tL t];rfl
variable{X:Cx}{pins:List (Addr×Obj)}{σ:L2.St}{s:Shared}{a b:Addr}{k:NK}{kvs:List ((NK×Addr)×V)}{v:V}{A:Around}{E:Value->Shared->Prop}
theorem wW(I:Inv X pins σ H s)(h:kN X.K H b k):(gJ X.prog X.w).is s.heap k b:=by
 obtain⟨cs,p,q⟩:=h
 obtain⟨its,r,⟨o,h1,h2,n,h3⟩,hz⟩:=I.tuple p
 have e:=tL r
 subst e
 refine⟨o,_,n,h1,h2,h3,?_⟩
 clear p r h3 hz
 induction q with
 |nil=>exact .nil
 |cons z _ ih=>
  refine .cons ?_ ih
  obtain⟨its,r,⟨o,h1,h2,n,h3⟩,_⟩:=I.tuple z
  exact⟨_,rfl,o,its.toArray,n,h1,h2,h3,by simpa using uf r⟩
theorem KN.val{xs:List (NK×Addr×Value)}(r:KN kvs xs)(k:NK):pZ (fQ (nP kvs) k) ((atKey xs k).map (·.2)):=by
 induction r with
 |nil=>exact True.intro
 |@cons p q ps qs h t ih=>
  obtain⟨h1,_,h2⟩:=h
  by_cases e:p.1.1=k
  ·have e':q.1=k:=h1.symm.trans e
   have b:atKey (q::qs) k=some q.2:=by simp[atKey,List.find?_cons,e']
   have c:fQ (nP (p::ps)) k=some p.2:=by simp[fQ,nP,List.find?_cons,e]
   rw[c,b];exact h2
  ·have e':¬q.1=k:=fun z=>e (h1.trans z)
   have b:atKey (q::qs) k=atKey qs k:=by simp[atKey,List.find?_cons,e']
   have c:fQ (nP (p::ps)) k=fQ (nP ps) k:=by simp[fQ,nP,List.find?_cons,e]
   rw[c,b];exact ih
def wx(kvs:List ((NK×Addr)×V))(k:NK)(b:Addr)(v:V):List ((NK×Addr)×V):=if (fQ (nP kvs) k).isSome=true then kvs.map fun p=>if p.1.1=k then(p.1,v)else p else kvs++[((k,b),v)]
theorem FP:nP (wx kvs k b v)=l6 (nP kvs) k v:=by
 unfold wx l6
 have e:((nP kvs).any fun kv=>decide (kv.1=k))=(fQ (nP kvs) k).isSome:=by rw[jG]
 rw[e]
 split
 ·unfold nP
  rw[List.map_map,List.map_map]
  refine List.map_congr_left fun p _=>?_
  dsimp only[Function.comp]
  by_cases c:p.1.1=k
  ·rw[if_pos c,if_pos c]
  ·rw[if_neg c,if_neg c]
 ·unfold nP;rw[List.map_append];rfl
theorem y6{p:(NK×Addr)×V}(h:p∈wx kvs k b v):(∃q∈kvs,q.1=p.1)\/p.1=(k,b):=by
 unfold wx at h
 split at h
 ·obtain⟨q,hq,e⟩:=List.mem_map.mp h
  refine .inl ⟨q,hq,?_⟩
  split at e
  ·rw[<-e]
  ·rw[e]
 ·rcases List.mem_append.mp h with z|z
  ·exact .inl ⟨p,z,rfl⟩
  ·rw[List.mem_singleton.mp z];exact .inr rfl
theorem y8:(wx kvs k b v).length<=kvs.length+1:=by
 unfold wx
 split
 ·rw[List.length_map];omega
 ·rw[List.length_append];exact Nat.le_refl _
theorem KN.put{xs:List (NK×Addr×Value)}{u:Value}(r:KN kvs xs)(ru:dn v u):KN (wx kvs k b v) (storedH xs k b u):=by
 have e:=(r.val k).isSome_eq
 rw[Option.isSome_map]at e
 unfold wx storedH
 rw[e]
 split
 ·clear e
  rename_i hs
  clear hs
  induction r with
  |nil=>exact .nil
  |@cons p q ps qs h t ih=>
   rw[List.map_cons,List.map_cons]
   refine .cons ?_ ih
   obtain⟨h1,h2,h3⟩:=h
   unfold putAt
   by_cases c:p.1.1=k
   ·rw[if_pos c,if_pos (h1.symm.trans c)];exact⟨h1,h2,ru⟩
   ·rw[if_neg c,if_neg (fun z=>c (h1.trans z))];exact⟨h1,h2,h3⟩
 ·exact Paired.snoc r ⟨rfl,rfl,ru⟩
theorem xO(I:Inv X pins σ H s)(e:Rd H a (dNo a kvs))(ky:∀p∈kvs,kN X.K H p.1.2 p.1.1):kvs.length<=sizeLine/\(a == sysModules)=false/\∃xs,KN kvs xs/\s.heap.DictOfH (gJ X.prog X.w) a xs:=by
 obtain⟨⟨z,y,xs,r,o,es,ep,h1,h2,h3,h4,h5⟩,rest⟩:=(show cB X.prog X.w H s.heap a (dNo a kvs)from e.ok I.hok)
 refine⟨z,y,xs,r,o,es,ep,h1,h2,h3,h4,fun x hx=>?_,h5⟩
 clear h4 h5 e z rest
 induction r with
 |nil=>exact nomatch hx
 |@cons p q ps qs hq t ih=>
  rcases List.mem_cons.mp hx with e|hx
  ·subst e
   have:=wW I (ky p List.mem_cons_self)
   rw[hq.1,hq.2.1]at this
   exact this
  ·exact ih (fun p hp=>ky p (List.mem_cons_of_mem _ hp)) hx
theorem Ji{Q:Value->Shared->Prop}(hu:A.units+2<cLine)(I:Inv X pins σ H s)(e:Rd H a (dNo a kvs))(ky:∀p∈kvs,kN X.K H p.1.2 p.1.1)(kb:kN X.K H b k)(l:fQ (nP kvs) k=some v)(q:∀w' s',Inv X pins σ H s'->dn v w'->Q w' s') :
  wpAny (model X.prog X.w) A (getItem (.ref a) (.ref b)) Q E s:=by
 obtain⟨z,hd,xs,rel,dd⟩:=xO I e ky
 obtain⟨w',hw,rw'⟩:=pZ.some_of (v:=v) (o:=(atKey xs k).map (·.2)) (by rw[<-l];exact rel.val k)
 obtain⟨p,hp,hp2⟩:=Option.map_eq_some_iff.mp hw
 refine wpAny_getItem_heap (knd:=gJ X.prog X.w) hu (wW I kb) dd hp ?_
 rw[hp2]
 exact q w' _ (I.tok _) rw'
theorem Jh{Q:Value->Shared->Prop}(hu:A.units+2<cLine)(I:Inv X pins σ H s)(e:Rd H a (dNo a kvs))(ky:∀p∈kvs,kN X.K H p.1.2 p.1.1)(kb:kN X.K H b k)(q:∀s',Inv X pins σ H s'->Q (.bool (!(fQ (nP kvs) k).isSome)) s') :
  wpAny (model X.prog X.w) A (compareOp .NotIn (.ref b) (.ref a)) Q E s:=by
 obtain⟨z,hd,xs,rel,dd⟩:=xO I e ky
 refine wpAny_notIn_heap (knd:=gJ X.prog X.w) hu (wW I kb) hd dd ?_
 have e1:=(rel.val k).isSome_eq
 rw[Option.isSome_map]at e1
 rw[<-e1]
 exact q _ (I.tok _)
theorem xP{h':Heap}{P:Program}{w:World}{xs:List (NK×Addr×Value)}(z:kvs.length<=sizeLine)(hd:(a == sysModules)=false)(rel:KN kvs xs)(dd:h'.DictOfH (gJ P w) a xs):cB P w H h' a (dNo a kvs):=by
 obtain⟨o,es,ep,h1,h2,h3,h4,_,h5⟩:=dd
 refine⟨⟨z,hd,xs,rel,o,es,ep,h1,h2,h3,h4,h5⟩,⟨o,h1⟩,fun g1 g2 ⟨z,y,xs,r,o,es,ep,h1,h2⟩ k=>⟨z,y,xs,r,o,es,ep,k o h1,h2⟩⟩
theorem Jg{u:Value}{Q:Unit->Shared->Prop}(hu:A.units+2<cLine)(I:Inv X pins σ H s)(e:H a=some (dNo a kvs))(ky:∀p∈kvs,kN X.K H p.1.2 p.1.1)(kb:kN X.K H b k)(hl:kvs.length<sizeLine)(ru:dn v u)
  (q:∀s',Inv X pins σ (upd H a (dNo a (wx kvs k b v))) s'->Q () s'):wpAny (model X.prog X.w) A (setItem (.ref a) (.ref b) u) Q E s:=by
 obtain⟨z,hd,xs,rel,dd⟩:=xO I (.inl e) ky
 have hz:xs.length<=sizeLine:=by rw[<-Paired.length rel];exact z
 refine wpAny_setItem_heap (hsz:=hz) (knd:=gJ X.prog X.w) hu (wW I kb) dd fun h' dd' hs=>q _ ?_
 obtain⟨o,es,ep,h1,_⟩:=id dd'
 exact nh I (by rw[e];exact True.intro) hs ⟨o,h1⟩ (xP (by have:=y8 (kvs:=kvs) (k:=k) (b:=b) (v:=v);omega) hd (rel.put ru) dd')
end
section
variable{X:Cx}{K:PySem.W.Frag}{m:List Addr}{H:Hp}
def wJ:List U->Option NK
 |[]=>some []
 |.tup us::r=>(qI us).bind fun k=>(wJ r).map (k::·)
 |_=>none
theorem wI:∀{us:List U} {xs:List V} {ks:NK},IsL K m H xs us->wJ us=some ks->∃cs:List Addr,xs=cs.map V.ref/\Paired (fun(l:List Int) c=>SqT K H c (l.map V.int)) ks cs
 |[],xs,ks,i,h=>by cases h;exact⟨[],i.of_nil,.nil⟩
 |u::us,xs,ks,i,h=>by
  unfold wJ at h
  split at h
  ·rename_i e;cases e
  ·rename_i us' r e
   injection e with e1 e2
   subst e1;subst e2
   obtain⟨k,hk,h⟩:=Option.bind_eq_some_iff.mp h
   obtain⟨ks',hk',rfl⟩:=Option.map_eq_some_iff.mp h
   obtain⟨x,r,rfl,ix,ir⟩:=i.of_cons
   obtain⟨c,ys,rfl,sq,il⟩:=ix.of_tup
   rw[me hk]at il
   rw[IsL.ints il]at sq
   obtain⟨cs,rfl,q⟩:=wI ir hk'
   exact⟨c::cs,rfl,.cons sq q⟩
  ·cases h
theorem zM{us:List U}{v:V}{ks:NK}(i:Is K m H v (.tup us))(h:wJ us=some ks):∃b,v=.ref b/\kN K H b ks:=by
 obtain⟨b,xs,rfl,sq,il⟩:=i.of_tup
 obtain⟨cs,rfl,q⟩:=wI il h
 exact⟨b,rfl,cs,sq,q⟩
def Dw(S:Sto)(l:Nat):Option (List (NK×U)):=match S[l]? with
 |some (.dnt kus)=>some kus
 |some (.fdn _ kus)=>some kus
 |_=>none
theorem Gz{S:Sto}{l:Nat}{kus:List (NK×U)}{a:Addr}(sr:Sr K m S H)(ha:m[l]?=some a)(h:Dw S l=some kus):∃kvs,Rd H a (dNo a kvs)/\(∀p∈kvs,kN K H p.1.2 p.1.1)/\IsP K m H (nP kvs) kus:=by
 unfold Dw at h
 split at h<;>try cases h
 ·rename_i hS
  obtain⟨a',ha',kvs,hx,ky,ip⟩:=sr.get hS
  rw[ha]at ha';cases ha'
  exact⟨kvs,.inl hx,ky,ip⟩
 ·rename_i ep hS
  obtain⟨a',ha',ob,es,kvs,hx,hd,ky,ip⟩:=sr.get hS
  rw[ha]at ha';cases ha'
  exact⟨kvs,.inr ⟨ob,hx⟩,ky,ip⟩
def IH(K:PySem.W.Frag)(td ty:TE):TE:=fun σ H Q=>td σ H fun x H1=>ty σ H1 fun y H2=>∃a b kvs k v,x=.ref a/\y=.ref b/\Rd H2 a (dNo a kvs)/\(∀p∈kvs,kN K H2 p.1.2 p.1.1)/\kN K H2 b k/\fQ (nP kvs) k=some v/\Q v H2
theorem BO{o i:Expr}{td ty:TE}{pos:Pos}(hu:X.A.units+2<cLine)(ho:WE X o td)(hi:WE X i ty)(hs:DQ i):WE X (.Subscript o i pos) (IH X.K td ty):=by
 constructor
 intro pins s σ H Q I h
 refine vV PySem.F.slot_dict_getitem.lookup hs (thn (ho.h pins s σ H _ I h) fun u s1 hz=>?_)
 obtain⟨x,H1,I1,rx,q1⟩:=hz
 refine thn (hi.h pins s1 σ H1 _ I1 q1) fun iv s2 hz=>?_
 obtain⟨y,H2,I2,ry,a,b,kvs,k,v,rfl,rfl,e,ky,kb,l,q2⟩:=hz
 cases rx
 cases ry
 obtain⟨_,_,xs,rel,dd⟩:=xO I2 e ky
 exact⟨dd.typeIs,Ji hu I2 e ky kb l fun w' s' I' r=>⟨v,H2,I',r,q2⟩⟩
def vk:U->U->Sto->Option (U×Sto):=fun x y S=>match x with
 |.ref l=>match y with
  |.tup us=>(wJ us).bind fun ks=>(Dw S l).bind fun kus=>(cS kus ks).bind fun u=>some (u,S)
  |_=>none
 |_=>none
theorem Ck{a b:Expr}{ca cb:CE}{pos:Pos}(hu:X.A.units+2<cLine)(ha:QE X a ca)(hb:QE X b cb)(hs:DQ b):QE X (.Subscript a b pos) (cOp vk ca cb):=
 (BO hu ha hb hs).imp fun σ H Q hz=>mh hz fun m ρ S u S' sr lr hc post=>by
 obtain⟨⟨x,S1⟩,h1,h⟩:=Option.bind_eq_some_iff.mp hc
 obtain⟨⟨y,S2⟩,h3,h4⟩:=Option.bind_eq_some_iff.mp h
 refine⟨m,ρ,S,_,S1,sr,lr,h1,fun m1 v1 H1 e1 sr1 i1=>⟨m1,ρ,S1,_,S2,sr1,lr.mono e1,h3,fun m2 v2 H2 e2 sr2 i2=>?_⟩⟩
 cases x with
 |ref l=>cases y with
  |tup us=>
   simp only[vk]at h4
   obtain⟨ks,hk,h5⟩:=Option.bind_eq_some_iff.mp h4
   obtain⟨kus,hd,h6⟩:=Option.bind_eq_some_iff.mp h5
   obtain⟨z,hv,h7⟩:=Option.bind_eq_some_iff.mp h6
   cases h7
   obtain⟨a,ha,rfl⟩:=(i1.mono e2).of_ref
   obtain⟨b,rfl,kb⟩:=zM i2 hk
   obtain⟨kvs,rd,ky,ip⟩:=Gz sr2 ha hd
   have rf:=IsP.val (k:=ks) ip
   rw[hv]at rf
   cases hw:fQ (nP kvs) ks with
   |none=>rw[hw]at rf;exact rf.elim
   |some w=>
    rw[hw]at rf
    exact⟨a,b,kvs,ks,w,rfl,rfl,rd,ky,kb,hw,post m2 _ H2 (e1.trans e2) sr2 rf⟩
  |_=>cases h4
 |_=>cases h4
def EJ(K:PySem.W.Frag)(ty td:TE):TE:=fun σ H Q=>ty σ H fun y H1=>td σ H1 fun x H2=>∃a b kvs k,x=.ref a/\y=.ref b/\Rd H2 a (dNo a kvs)/\(∀p∈kvs,kN K H2 p.1.2 p.1.1)/\kN K H2 b k/\Q (.bl (!(fQ (nP kvs) k).isSome)) H2
theorem BP{o i:Expr}{td ty:TE}(hu:X.A.units+2<cLine)(hi:WE X i ty)(ho:WE X o td):WC X .NotIn i o (EJ X.K ty td):=by
 constructor
 intro pins s σ H Q I h
 refine thn (hi.h pins s σ H _ I h) fun iv s1 hz=>?_
 obtain⟨y,H1,I1,ry,q1⟩:=hz
 refine thn (ho.h pins s1 σ H1 _ I1 q1) fun u s2 hz=>?_
 obtain⟨x,H2,I2,rx,a,b,kvs,k,rfl,rfl,e,ky,kb,q2⟩:=hz
 cases rx
 cases ry
 exact Jh hu I2 e ky kb fun s3 I3=>⟨.bl _,H2,I3,rfl,q2⟩
def zY:U->U->Sto->Option (U×Sto):=fun y x S=>match x with
 |.ref l=>match y with
  |.tup us=>(wJ us).bind fun ks=>(Dw S l).bind fun kus=>some (.bl (!(cS kus ks).isSome),S)
  |_=>none
 |_=>none
theorem zD{ca cb:CE}:∀σ H Q,tE X.K (cOp zY ca cb) σ H Q->EJ X.K (tE X.K ca) (tE X.K cb) σ H Q:=by
 rintro σ H Q ⟨m,ρ,S,u,S',sr,lr,hc,post⟩
 obtain⟨⟨y,S1⟩,h1,h⟩:=Option.bind_eq_some_iff.mp hc
 obtain⟨⟨x,S2⟩,h3,h4⟩:=Option.bind_eq_some_iff.mp h
 refine⟨m,ρ,S,_,S1,sr,lr,h1,fun m1 v1 H1 e1 sr1 i1=>⟨m1,ρ,S1,_,S2,sr1,lr.mono e1,h3,fun m2 v2 H2 e2 sr2 i2=>?_⟩⟩
 cases x with
 |ref l=>cases y with
  |tup us=>
   simp only[zY]at h4
   obtain⟨ks,hk,h5⟩:=Option.bind_eq_some_iff.mp h4
   obtain⟨kus,hd,h6⟩:=Option.bind_eq_some_iff.mp h5
   cases h6
   obtain⟨a,ha,rfl⟩:=i2.of_ref
   obtain⟨b,rfl,kb⟩:=zM (i1.mono e2) hk
   obtain⟨kvs,rd,ky,ip⟩:=Gz sr2 ha hd
   have rf:=IsP.val (k:=ks) ip
   have es:(fQ (nP kvs) ks).isSome=(cS kus ks).isSome:=by
    cases h7:fQ (nP kvs) ks<;>cases h8:cS kus ks<;>rw[h7,h8]at rf<;>first|rfl|exact rf.elim
   refine⟨a,b,kvs,ks,rfl,rfl,rd,ky,kb,?_⟩
   rw[es]
   exact post m2 _ H2 (e1.trans e2) sr2 .bl_
  |_=>cases h4
 |_=>cases h4
theorem qx{a b:Expr}{ca cb:CE}{pos:Pos}(hu:X.A.units+2<cLine)(ha:QE X a ca)(hb:QE X b cb)(hm:behindInMarks .NotIn b=false):QT X (.Compare a [.NotIn] [b] pos) (aG (cOp zY ca cb)):=(vA (BP hu ha hb) hm).imp (lZ zD)
def IG(K:PySem.W.Frag)(td ty tv:TE):TS:=fun D σ H=>tv σ H fun v H1=>td σ H1 fun x H2=>ty σ H2 fun y H3=>∃a b kvs k,x=.ref a/\y=.ref b/\H3 a=some (dNo a kvs)/\(∀p∈kvs,kN K H3 p.1.2 p.1.1)/\kN K H3 b k/\kvs.length<sizeLine/\D.nx σ (upd H3 a (dNo a (wx kvs k b v)))
theorem Bw{o i e:Expr}{td ty tv:TE}{pos pos':Pos}(hu:X.A.units+2<cLine)(ho:WE X o td)(hi:WE X i ty)(hv:WE X e tv)(hs:swapsWith e (some (.Subscript o i pos')) pos.line X.env=pure false):WS X (.Assign [.Subscript o i pos'] e pos) (IG X.K td ty tv):=by
 constructor
 intro pins s σ H D I h
 refine wpAny_Assign_Subscript (thn (hv.h pins s σ H _ I h) fun r s1 hz=>?_) hs
 obtain⟨v,H1,I1,rv,q1⟩:=hz
 refine thn (ho.h pins s1 σ H1 _ I1 q1) fun u s2 hz=>?_
 obtain⟨x,H2,I2,rx,q2⟩:=hz
 refine thn (hi.h pins s2 σ H2 _ I2 q2) fun iv s3 hz=>?_
 obtain⟨y,H3,I3,ry,a,b,kvs,k,rfl,rfl,e1,ky,kb,hl,q3⟩:=hz
 cases rx
 cases ry
 exact Jg hu I3 e1 ky kb hl rv fun s4 I4=>⟨σ,_,I4,q3⟩
def kH(co ci cv:CE):CS:=fun ρ S=>(cv ρ S).bind fun p=>(co ρ p.2).bind fun q=>(ci ρ q.2).bind fun r=>match q.1 with
 |.ref l=>match r.1 with
  |.tup us=>match r.2[l]? with
   |some (.dnt kus)=>(wJ us).bind fun k=>if kus.length<LIM then some (.nx,ρ,r.2.set l (.dnt (lB kus k p.1)))else none
   |_=>none
  |_=>none
 |_=>none
theorem qw{o i e:Expr}{co ci cv:CE}{pos pos':Pos}(hu:X.A.units+2<cLine)(ho:QE X o co)(hi:QE X i ci)(hv:QE X e cv)(hs:swapsWith e (some (.Subscript o i pos')) pos.line X.env=pure false:=by rfl):QS X (.Assign [.Subscript o i pos'] e pos) (kH co ci cv):=
 (Bw hu ho hi hv hs).imp fun D σ H hz=>vm hz fun m ρ S oo ρ' S' sr lr hc post=>by
 obtain⟨⟨v,S1⟩,h1,ha⟩:=Option.bind_eq_some_iff.mp hc
 obtain⟨⟨ou,S2⟩,h2,hb⟩:=Option.bind_eq_some_iff.mp ha
 obtain⟨⟨iu,S3⟩,h3,h⟩:=Option.bind_eq_some_iff.mp hb
 clear ha hb hc
 cases ou with
 |ref l=>cases iu with
  |tup us=>
   simp only at h
   split at h<;>try cases h
   rename_i kus hS
   obtain⟨k,hk,h4⟩:=Option.bind_eq_some_iff.mp h
   split at h4<;>try cases h4
   rename_i hlen
   refine⟨m,ρ,S,v,S1,sr,lr,h1,fun m1 v1 H1 e1 sr1 i1=>⟨m1,ρ,S1,_,S2,sr1,lr.mono e1,h2,fun m2 v2 H2 e2 sr2 i2=>⟨m2,ρ,S2,_,S3,sr2,lr.mono (e1.trans e2),h3,fun m3 v3 H3 e3 sr3 i3=>?_⟩⟩⟩
   obtain⟨a,ha,rfl⟩:=(i2.mono e3).of_ref
   obtain⟨a',ha',kvs,hx,ky,ip⟩:=sr3.get hS
   rw[ha]at ha';cases ha'
   obtain⟨b,rfl,kb⟩:=zM i3 hk
   have e13:=(e1.trans e2).trans e3
   have ee:Ext X.K m3 H3 m3 (upd H3 a (dNo a (wx kvs k b v1))):=.of (sr3.keep ha _)
   have hl:kvs.length<sizeLine:=FR (by have:=IsP.length ip;unfold nP at this;rw[List.length_map]at this;rw[this];exact hlen)
   refine⟨a,b,kvs,k,rfl,rfl,hx,ky,kb,hl,post m3 σ _ (e13.trans ee) (sr3.put ha ⟨_,aP,fun p hp=>?_,?_⟩) (lr.mono (e13.trans ee))⟩
   ·rcases y6 hp with⟨q,hq,e⟩|e
    ·rw[<-e];exact(ky q hq).mono ee.keep
    ·rw[e];exact kb.mono ee.keep
   ·rw[FP]
    exact(IsP.put ip (i1.mono (e2.trans e3))).mono ee
  |_=>cases h
 |_=>cases h
end
section
variable{X:Cx}{K:PySem.W.Frag}{m:List Addr}{H:Hp}{a:Addr}{kvs:List ((NK×Addr)×V)}
def EL(K:PySem.W.Frag)(tk tv:TE):TE:=fun σ H Q=>∀p,H p=none->qo [(tk,tv)] σ (upd H p (dNo p [])) fun ps H2=>H2 p=some (dNo p [])/\∃b k v,ps=[(.ref b,v)]/\kN K H2 b k/\Q (.ref p) (upd H2 p (dNo p [((k,b),v)]))
theorem Aa{P:Program}{w:World}(h:Heap)(hb:sysModules<h.objs.size):cB P w H (h.push { cls:=.type "dict",data:=.dict #[] }) h.objs.size (dNo h.objs.size []):=by
 refine xP (xs:=[]) (Nat.zero_le _) (beq_eq_false_iff_ne.mpr (Ne.symm (Nat.ne_of_lt hb))) .nil ?_
 exact⟨_,#[],0,Heap.get?_push_size _ rfl,⟨rfl,rfl,rfl⟩,rfl,rfl,fun x hx=>(List.not_mem_nil hx).elim,List.nodup_nil⟩
theorem yL{k v:Expr}{tk tv:TE}{pos:Pos}(hu:X.A.units+2<cLine)(hk:WE X k tk)(hv:WE X v tv):WE X (.Dict [some k] [v] pos) (EL X.K tk tv):=by
 constructor
 intro pins s σ H Q I q
 have hn:=I.hok.fresh (Nat.le_refl s.heap.objs.size)
 have I1:=I.laid (a:=s.heap.objs.size) (o:=dNo s.heap.objs.size []) (h':=s.heap.push { cls:=.type "dict",data:=.dict #[] }) (t':=s.toks) (fun _ _ q=>Heap.get?_push_of_some _ q) (Nat.le_refl _) (Aa s.heap I.big)
 refine wpAny_Dict_any rfl rfl (by simp) (by simp) (thn (tQ hk.h hv.h wy pins _ σ _ _ I1 (q _ hn)) fun ws s2 hz=>?_)
 obtain⟨ps,H2,I2,rel,e,b,k,v,rfl,kb,q2⟩:=hz
 cases rel with
 |cons r t=>
  cases t
  rename_i w0
  obtain⟨w1,w2⟩:=w0
  obtain⟨r1,r2⟩:=r
  cases (show w1=Value.ref b from r1)
  obtain⟨z,hd,xs,rel,dd⟩:=xO I2 (.inl e) (fun p hp=>(List.not_mem_nil hp).elim)
  cases rel
  unfold storeAll
  rw[List.forIn_cons]
  refine wpAny_bind (wpAny_bind (wpAny_dictSet_heap (hsz:=Nat.zero_le _) (knd:=gJ X.prog X.w) (Nat.lt_of_succ_lt hu) (wW I2 kb) dd fun h' dd' hs=>wpAny_pure ?_))
  dsimp only
  rw[List.forIn_nil]
  obtain⟨o,es,ep,h1,_⟩:=id dd'
  refine wpAny_pure ⟨.ref s.heap.objs.size,_,nh I2 (by rw[e];exact True.intro) hs ⟨o,h1⟩ (xP (kvs:=[((k,b),v)]) (show 1<=sizeLine by decide) hd (KN.put (kvs:=[]) (k:=k) (b:=b) .nil r2) dd'),rfl,q2⟩
def i6(ck cv:CE):CE:=fun ρ S=>(ck ρ (S++[.dnt []])).bind fun p=>(cv ρ p.2).bind fun q=>match p.1 with
 |.tup us=>(wJ us).bind fun k=>match q.2[S.length]? with
  |some (.dnt [])=>some (.ref S.length,q.2.set S.length (.dnt [(k,q.1)]))
  |_=>none
 |_=>none
theorem wo{k v:Expr}{ck cv:CE}{pos:Pos}(hu:X.A.units+2<cLine)(hk:QE X k ck)(hv:QE X v cv):QE X (.Dict [some k] [v] pos) (i6 ck cv):=
 (yL hu hk hv).imp fun σ H Q hz=>mh hz fun m ρ S u S' sr lr hc post=>by
 obtain⟨⟨x,S1⟩,h1,h⟩:=Option.bind_eq_some_iff.mp hc
 obtain⟨⟨y,S2⟩,h2,h3⟩:=Option.bind_eq_some_iff.mp h
 cases x with
 |tup us=>
  simp only at h3
  obtain⟨kk,hk,h4⟩:=Option.bind_eq_some_iff.mp h3
  split at h4<;>try cases h4
  rename_i hS
  intro p hp
  have ee:Ext X.K m H (m++[p]) (upd H p (dNo p [])):=.new (cq hp _)
  refine⟨m++[p],ρ,_,_,S1,sr.new (o:=.dnt []) hp ⟨[],aP,(fun q hq=>(List.not_mem_nil hq).elim),.nil_⟩,lr.mono ee,h1,fun m1 v1 H1 e1 sr1 i1=>⟨m1,ρ,S1,y,S2,sr1,lr.mono (ee.trans e1),h2,fun m2 v2 H2 e2 sr2 i2=>?_⟩⟩
  have ha:m2[S.length]?=some p:=(e1.trans e2).get (d7 sr.len)
  obtain⟨a',ha',kv0,hx,ky,ip0⟩:=sr2.get hS
  rw[ha]at ha';cases ha'
  have e0:kv0=[]:=by have:=IsP.length ip0;unfold nP at this;simpa using this
  subst e0
  obtain⟨b,rfl,kb⟩:=zM (i1.mono e2) hk
  have eu:Ext X.K m2 H2 m2 (upd H2 p (dNo p [((kk,b),v2)])):=.of (sr2.keep ha _)
  refine⟨hx,b,kk,v2,rfl,kb,post m2 _ _ (((ee.trans e1).trans e2).trans eu) (sr2.put (o:=.dnt [(kk,y)]) ha ⟨_,aP,fun q hq=>?_,.cons_ (i2.mono eu) .nil_⟩) (.ref_ ha)⟩
  rw[List.mem_singleton.mp hq]
  exact kb.mono eu.keep
 |_=>cases h3
def FzN(K:PySem.W.Frag)(H:Hp)(a:Addr)(ep:Nat)(ks:List NK):Prop:=∃ob es kvs,H a=some (.frz ob (dNo a kvs))/\ob.data=.dict es ep/\(∀p∈kvs,kN K H p.1.2 p.1.1)/\(nP kvs).map (·.1)=ks
def Itn(K:PySem.W.Frag)(a:Addr)(ep:Nat)(ks:List NK):It:=
 ⟨fun i H=>i<ks.length/\FzN K H a ep ks,fun i H x H'=>H'=H/\∃k p,ks[i]?=some k/\x=.ref p/\kN K H p k,fun i H=>ks.length<=i/\FzN K H a ep ks⟩
theorem si{P:Program}{w:World}{h:Heap}{ob:Obj}{es:Array DictEntry}{ep:Nat}(ok:HOk P w H h)(e:Rd H a (dNo a kvs))(g:h.get? a=some ob)(d:ob.data=.dict es ep) :
  es.size=kvs.length/\∀(i:Nat) (hi:i<es.size),∃q,kvs[i]?=some q/\es[i].key=.ref q.1.2:=by
 obtain⟨⟨_,_,xs,r,o,es',ep',e2,e3,e4,e5,_⟩,_⟩:=(show cB P w H h a (dNo a kvs)from e.ok ok)
 rw[g]at e2;cases e2
 rw[d]at e4;cases e4
 have hl:kvs.length=xs.length:=Paired.length r
 have hs:es.size=xs.length:=by rw[<-Array.length_toList,e5,List.length_map]
 refine⟨by omega,fun i hi=>?_⟩
 have key:∀{l:List ((NK×Addr)×V)} {m:List (NK×Addr×Value)} {i:Nat} {x:NK×Addr×Value},KN l m->m[i]?=some x->∃q,l[i]?=some q/\q.1.2=x.2.1:=by
  intro l m i x q
  induction q generalizing i with
  |nil=>intro z;simp at z
  |@cons p q ps qs hq t ih=>
   intro z
   cases i with
   |zero=>simp at z;subst z;exact⟨p,rfl,hq.2.1⟩
   |succ i=>exact ih (by simpa using z)
 have hx:xs[i]?=some xs[i]:=List.getElem?_eq_getElem (by omega)
 obtain⟨q,k1,k2⟩:=key r hx
 refine⟨q,k1,?_⟩
 have h1:es.toList[i]?=some (⟨hNK xs[i].1,.ref xs[i].2.1,xs[i].2.2⟩:DictEntry):=by rw[e5,List.getElem?_map,hx];rfl
 rw[Array.getElem?_toList,Array.getElem?_eq_getElem hi]at h1
 rw[Option.some.inj h1,k2]
theorem Jj{q:(NK×Addr)×V}{i:Nat}(h:kvs[i]?=some q):((nP kvs).map (·.1))[i]?=some q.1.1:=by unfold nP;rw[List.map_map,List.getElem?_map,h];rfl
theorem wM:((nP kvs).map (·.1)).length=kvs.length:=by unfold nP;rw[List.length_map,List.length_map]
theorem uI{P:Program}{w:World}{tg:Expr}(a it:Addr){ks:List NK}{ep:Nat} :
  DH P w K tg (Itn K a ep ks) [it] it (fun n h=>h.IsKeyIter it a n ks.length ep) where
 mem:=by simp
 obj:=fun n h st c hc=>by
  simp only[List.mem_cons,List.not_mem_nil,or_false]at hc
  subst hc
  obtain⟨o,e,_,q⟩:=st
  exact⟨o,e,fun v z=>by rw[q]at z;cases z⟩
 keep:=fun n h h' st kp=>Heap.IsKeyIter.at st fun o q=>kp it (by simp) o q
 item:=by
  intro X hP hw hK hc n pins s σ H E Iv hf st hg
  subst hP hw hK
  obtain⟨hi,ob,es,kvs,hq,d,ky,ek⟩:=hg
  have g1:s.heap.get? a=some ob:=(show cB X.prog X.w H s.heap a (.frz ob (dNo a kvs))from Iv.hok a _ hq).1
  obtain⟨g2,g3⟩:=si Iv.hok (.inr ⟨ob,hq⟩) g1 d
  have hl:ks.length=es.size:=by rw[<-ek,wM,g2]
  have hi':n<es.size:=by omega
  obtain⟨q,k1,k2⟩:=g3 n hi'
  obtain⟨f0,f1,f2,f3⟩:=hf it (by simp)
  refine tN (by rw[<-hl];exact st) g1 d hi' fun h1 st1 sb=>⟨_,rfl,?_⟩
  have I1:Inv X pins σ H { s with heap:=h1 }:=Iv.turned (t':=s.toks) (fun b o hb e=>(sb.2 b hb).trans e) f0 f1 f3.1 f3.2.1 f3.2.2
  have st2:h1.IsKeyIter it a (n+1) ks.length ep:=by rw[hl];exact st1
  obtain⟨o,e,c,z⟩:=id st2
  exact xp (s:={ s with heap:=h1 }) e c z (by decide) ⟨.ref q.1.2,H,I1,by rw[k2];rfl,⟨rfl,q.1.1,q.1.2,by rw[<-ek];exact Jj k1,rfl,ky q (List.mem_of_getElem? k1)⟩,st2,fun b hb=>(hf b hb).1⟩
 done:=by
  intro X hP hw hK hc n pins s σ H E Iv hf st hg
  subst hP hw hK
  obtain⟨hi,ob,es,kvs,hq,d,ky,ek⟩:=hg
  have g1:s.heap.get? a=some ob:=(show cB X.prog X.w H s.heap a (.frz ob (dNo a kvs))from Iv.hok a _ hq).1
  obtain⟨g2,g3⟩:=si Iv.hok (.inr ⟨ob,hq⟩) g1 d
  have hl:ks.length=es.size:=by rw[<-ek,wM,g2]
  obtain⟨f0,f1,f2,f3⟩:=hf it (by simp)
  exact wd (Iv.ok.hd hc) (by rw[<-hl];exact st) g1 d (by omega) fun h1 eb=>⟨rfl,Iv.turned (t':=s.toks) (fun b o hb e=>eb b o hb e) f0 f1 f3.1 f3.2.1 f3.2.2⟩
 self:=fun _ _ _ _ _ st h=>wpAny_pyIter_keyiter st h
def xk(X:Cx)(tl:TE):TI:=fun σ H R=>tl σ H fun x H1=>∃a kvs,x=.ref a/\H1 a=some (dNo a kvs)/\∀ob es ep,p8 X a->ob.data=.dict es ep->R (Itn X.K a ep ((nP kvs).map (·.1))) (upd H1 a (.frz ob (dNo a kvs)))
theorem tw{tg l:Expr}{tl:TE}(hl:WE X l tl):WI X tg l (xk X tl):=by
 constructor
 intro pins s σ H R I h
 refine thn (hl.h pins s σ H _ I h) fun v s1 hz=>?_
 obtain⟨x,H1,I1,r1,a,kvs,rfl,hq,q⟩:=hz
 cases r1
 have ok:=(show cB X.prog X.w H1 s1.heap a (dNo a kvs)from I1.hok a _ hq)
 obtain⟨⟨hz,hs,xs,rv,ob,es,ep,e1,e2,e3,e4,e5⟩,st⟩:=id ok
 have hl:kvs.length=es.size:=by rw[<-Array.length_toList,e4,List.length_map];exact Paired.length rv
 have nf:p8 X a:=fun ob' u' z=>by have:=I1.base.frzs a ob' u' z;rw[hq]at this;cases this
 have I2:Inv X pins σ (upd H1 a (.frz ob (dNo a kvs))) s1:=md I1 hq (by simp[dNo]) (by simp[dNo]) (by simp[dNo]) nf ⟨e1,ok⟩
 refine tM hs e1 e2 e3 ?_
 refine⟨s1.heap.objs.size,[s1.heap.objs.size],_,_,_,rfl,I2.kept (t':=s1.toks) fun b o g=>Heap.get?_push_of_some _ g,uI a _,⟨_,Heap.get?_push_size _ rfl,rfl,by rw[wM,hl];rfl⟩,fun b hb=>?_,q ob es ep nf e3⟩
 simp only[List.mem_cons,List.not_mem_nil,or_false]at hb
 subst hb
 exact I2.fpOk (Nat.le_refl _) (I2.hok.fresh (Nat.le_refl _))
def Bb(X:Cx)(D:vq):vq where
 nx:=fun σ H=>∃a ob kvs,p8 X a/\H a=some (.frz ob (dNo a kvs))/\D.nx σ (upd H a (dNo a kvs))
 rt:=fun v H=>∃a ob kvs,p8 X a/\H a=some (.frz ob (dNo a kvs))/\D.rt v (upd H a (dNo a kvs))
 bk:=fun σ H=>∃a ob kvs,p8 X a/\H a=some (.frz ob (dNo a kvs))/\D.bk σ (upd H a (dNo a kvs))
 ct:=fun σ H=>∃a ob kvs,p8 X a/\H a=some (.frz ob (dNo a kvs))/\D.ct σ (upd H a (dNo a kvs))
theorem iF{pins:List (Addr×Obj)}{σ:L2.St}{s:Shared}{ob:Obj}(I:Inv X pins σ H s)(nf:p8 X a)(e:H a=some (.frz ob (dNo a kvs))):Inv X pins σ (upd H a (dNo a kvs)) s:=
 md I e (by simp) (by simp) (by simp) nf (show cB X.prog X.w H s.heap a (.frz ob (dNo a kvs))from I.hok a _ e).2
theorem yw{st:Stmt}{t:TS}(h:WS X st t):WS X st (fun D σ H=>t (Bb X D) σ H):=by
 constructor
 intro pins s σ H D I k
 refine thn (h.h pins s σ H _ I k) fun f s1 q=>?_
 cases f with
 |next=>obtain⟨σ1,H1,I1,a,ob,kvs,nf,e,r⟩:=q;exact⟨σ1,_,iF I1 nf e,r⟩
 |brk=>obtain⟨σ1,H1,I1,a,ob,kvs,nf,e,r⟩:=q;exact⟨σ1,_,iF I1 nf e,r⟩
 |cont=>obtain⟨σ1,H1,I1,a,ob,kvs,nf,e,r⟩:=q;exact⟨σ1,_,iF I1 nf e,r⟩
 |ret u=>obtain⟨v,σ1,H1,I1,rv,a,ob,kvs,nf,e,r⟩:=q;exact⟨v,σ1,_,iF I1 nf e,rv,r⟩
def nU(k:NK):U:=.tup (k.map fun l=>.tup (l.map U.int))
theorem Gg{p:Addr}{k:NK}(h:kN K H p k):Is K m H (.ref p) (nU k):=by
 obtain⟨cs,sq,q⟩:=h
 refine .tup_ sq ?_
 clear sq
 induction q with
 |nil=>exact .nil_
 |cons z _ ih=>exact .cons_ (.tup_ z (iP _)) ih
theorem uc{l ep:Nat}{kus:List (NK×U)}(ha:m[l]?=some a):yp K (Itn K a ep (kus.map (·.1))) m H (kus.map fun q=>nU q.1) (fun S'=>S'[l]?=some (.fdn ep kus)):=by
 intro m2 S2 H2 i e sr hok
 obtain⟨a',ha',ob,es,kvs,hx,hd,ky,ip⟩:=sr.get hok
 rw[e.get ha]at ha';cases ha'
 have hz:FzN K H2 a ep (kus.map (·.1)):=⟨ob,es,kvs,hx,hd,ky,ip.1⟩
 refine⟨fun u hu=>?_,fun hu=>⟨by simpa using hu,hz⟩⟩
 have hi:i<kus.length:=by have:=(List.getElem?_eq_some_iff.mp hu).1;simpa using this
 refine⟨⟨by simpa using hi,hz⟩,?_⟩
 rintro x H3 ⟨rfl,k,p,hk,rfl,hp⟩
 refine⟨.refl,sr,?_⟩
 rw[List.getElem?_map]at hk hu
 rw[List.getElem?_eq_getElem hi]at hk hu
 cases hk;cases hu
 exact Gg hp
theorem ui{m1:List Addr}{H1:Hp}{S1:Sto}{l ep:Nat}{kus:List (NK×U)}{ob:Obj}{es:Array DictEntry}(sr:Sr X.K m1 S1 H1)(ha:m1[l]?=some a)(ky:∀p∈kvs,kN X.K H1 p.1.2 p.1.1)(ip:IsP X.K m1 H1 (nP kvs) kus)(hd:ob.data=.dict es ep) :
  Ext X.K m1 H1 m1 (upd H1 a (.frz ob (dNo a kvs)))/\Sr X.K m1 (S1.set l (.fdn ep kus)) (upd H1 a (.frz ob (dNo a kvs))):=by
 have ee:Ext X.K m1 H1 m1 (upd H1 a (.frz ob (dNo a kvs))):=.of (sr.keep ha _)
 exact⟨ee,sr.put ha ⟨ob,es,kvs,aP,hd,fun p hp=>(ky p hp).mono ee.keep,ip.mono ee⟩⟩
theorem sC{m3:List Addr}{H3:Hp}{S2:Sto}{l ep:Nat}{kus:List (NK×U)}(sr3:Sr X.K m3 S2 H3)(ha:m3[l]?=some a)(hS:S2[l]?=some (.fdn ep kus)) :
  ∃ob' kvs',H3 a=some (.frz ob' (dNo a kvs'))/\Ext X.K m3 H3 m3 (upd H3 a (dNo a kvs'))/\Sr X.K m3 (S2.set l (.dnt kus)) (upd H3 a (dNo a kvs')):=by
 obtain⟨a3,ha3,ob3,es3,kvs3,hx3,hd3,ky3,ip3⟩:=sr3.get hS
 rw[ha]at ha3;cases ha3
 have e4:Ext X.K m3 H3 m3 (upd H3 a (dNo a kvs3)):=.of (sr3.keep ha _)
 exact⟨ob3,kvs3,hx3,e4,sr3.put ha ⟨kvs3,aP,fun p hp=>(ky3 p hp).mono e4.keep,ip3.mono e4⟩⟩
def ya(ce:CE)(g:CG)(cb:CS):CS:=fun ρ S=>(ce ρ S).bind fun p=>match p.1 with
 |.ref l=>match p.2[l]? with
  |some (.dnt kus)=>uni fun ep=>(dH (fun S'=>S'[l]?=some (.fdn ep kus)) g cb (kus.map fun q=>nU q.1) ρ (p.2.set l (.fdn ep kus))).bind fun r=>match r.2.2[l]? with
   |some (.fdn _ kus')=>some (r.1,r.2.1,r.2.2.set l (.dnt kus'))
   |_=>none
  |_=>none
 |_=>none
theorem zV{ce:CE}{g:CG}{cb:CS}:∀D σ H,tS X.K (ya ce g cb) D σ H->EM (xk X (tE X.K ce)) (tG X.K g) (tS X.K cb) (Bb X D) σ H:=by
 rintro D σ H ⟨m,ρ,S,o,ρ',S',sr,lr,hc,post⟩
 obtain⟨⟨x,S1⟩,h1,h⟩:=Option.bind_eq_some_iff.mp hc
 refine⟨m,ρ,S,x,S1,sr,lr,h1,fun m1 v1 H1 e1 sr1 i1=>?_⟩
 cases x with
 |ref l=>
  simp only at h
  split at h<;>try cases h
  rename_i kus hS
  obtain⟨a,ha,rfl⟩:=i1.of_ref
  obtain⟨a',ha',kvs,hx,ky,ip⟩:=sr1.get hS
  rw[ha]at ha';cases ha'
  refine⟨a,kvs,rfl,hx,fun ob es ep nf hd=>?_⟩
  obtain⟨⟨o1,ρ1,S2⟩,h2,h3⟩:=Option.bind_eq_some_iff.mp (oV h ep)
  simp only at h3
  split at h3<;>try cases h3
  rename_i ep' kus' hS2
  obtain⟨ee,sr2⟩:=ui sr1 ha ky ip hd
  rw[ip.1]
  refine pB sr2 (lr.mono (e1.trans ee)) (uc ha) h2 ?_
  have nxt:∀(R:L2.St->Hp->Prop),gy X.K m H R ρ' (S2.set l (.dnt kus'))->gy X.K m1 (upd H1 a (.frz ob (dNo a kvs))) (fun σ H=>∃a ob kvs,p8 X a/\H a=some (.frz ob (dNo a kvs))/\R σ (upd H a (dNo a kvs))) ρ' S2:=fun R p m3 σ3 H3 e3 sr3 lr3=>by
   obtain⟨ob3,kvs3,hx3,e4,sr4⟩:=sC sr3 (e3.get ha) hS2
   exact⟨a,ob3,kvs3,nf,hx3,p m3 σ3 _ (((e1.trans ee).trans e3).trans e4) sr4 (lr3.mono e4)⟩
  cases o with
  |nx=>exact nxt _ post
  |bk=>exact nxt _ post
  |ct=>exact nxt _ post
  | rt v=>
    intro m3 v3 H3 e3 sr3 i3
    obtain⟨ob3,kvs3,hx3,e4,sr4⟩:=sC sr3 (e3.get ha) hS2
    exact⟨a,ob3,kvs3,nf,hx3,post m3 v3 _ (((e1.trans ee).trans e3).trans e4) sr4 (i3.mono e4)⟩
 |_=>cases h
theorem Ce{tg iter:Expr}{body:List Stmt}{ce:CE}{g:CG}{cb:CS}{pos:Pos}(hp:PassesOwn (model X.prog X.w) X.A X.env X.xe)(hc:X.calm=true)(hi:QE X iter ce)(hg:QG X tg g)(hb:QSs X body cb)(hs:∀x,foldedSetIterable iter X.env x=pure x:=by intro _;rfl):QS X (.For tg iter body [] pos) (ya ce g cb):=
 (yw (rF hp hc (tw hi) hg hb hs)).imp zV
theorem yK{e:Expr}{t:TE}(h:WE X e t):WE X e (fun σ H Q=>t σ H fun v H'=>∃a ob kvs,p8 X a/\H' a=some (.frz ob (dNo a kvs))/\Q v (upd H' a (dNo a kvs))):=by
 constructor
 intro pins s σ H Q I k
 refine thn (h.h pins s σ H _ I k) fun u s1 hz=>?_
 obtain⟨v,H1,I1,r1,a,ob,kvs,nf,e,q⟩:=hz
 exact⟨v,_,iF I1 nf e,r1,q⟩
def x8(ce:CE)(f:(Sto->Prop)->Nat->List U->Rho->Sto->Option Sto)(n:Nat)(caps:List Nat):CE:=fun ρ S=>(ce ρ S).bind fun p=>match p.1 with
 |.ref l=>match p.2[l]? with
  |some (.dnt kus)=>uni fun ep=>(f (fun S'=>S'[l]?=some (.fdn ep kus)) p.2.length (kus.map fun q=>nU q.1) (rE n caps ρ) (p.2.set l (.fdn ep kus)++[.lst []])).bind fun S'=>match S'[l]? with
   |some (.fdn _ kus')=>some (.ref p.2.length,S'.set l (.dnt kus'))
   |_=>none
  |_=>none
 |_=>none
def iR(ce:CE)(g:CG)(ct:CT)(el:CE)(n:Nat)(caps:List Nat):CE:=x8 ce (fun ok l=>cT ok g ct el l) n caps
theorem vM{ce:CE}{f:(Sto->Prop)->Nat->List U->Rho->Sto->Option Sto}{n:Nat}{caps:List Nat}{G:It->Hp->L2.St->VK->Prop}
  (core:∀{J:It} {us:List U} {ok:Sto->Prop} {Q:VK} {m1:List Addr} {H1:Hp} {S1 S':Sto} {ρ:Rho} {σ:L2.St},Sr X.K m1 S1 H1->Lr X.K m1 H1 ρ σ->yp X.K J m1 H1 us ok->f ok S1.length us (rE n caps ρ) (S1++[.lst []])=some S'->
   (∀l,H1 l=none->∀m2 H2,Ext X.K (m1++[l]) (upd H1 l (.lst [])) m2 H2->Sr X.K m2 S' H2->Q (.ref l) H2)->G J H1 σ Q) :
  ∀σ H Q,tE X.K (x8 ce f n caps) σ H Q->xk X (tE X.K ce) σ H fun J H1=>G J H1 σ fun v H'=>∃a ob kvs,p8 X a/\H' a=some (.frz ob (dNo a kvs))/\Q v (upd H' a (dNo a kvs)):=by
 intro σ H Q hz
 refine mh hz fun m ρ S u S' sr lr hc post=>?_
 obtain⟨⟨x,S1⟩,h1,h⟩:=Option.bind_eq_some_iff.mp hc
 refine⟨m,ρ,S,x,S1,sr,lr,h1,fun m1 v1 H1 e1 sr1 i1=>?_⟩
 cases x with
 |ref l=>
  simp only at h
  split at h<;>try cases h
  rename_i kus hS
  obtain⟨a,ha,rfl⟩:=i1.of_ref
  obtain⟨a',ha',kvs,hx,ky,ip⟩:=sr1.get hS
  rw[ha]at ha';cases ha'
  refine⟨a,kvs,rfl,hx,fun ob es ep nf hd=>?_⟩
  obtain⟨S2,h2,h3⟩:=Option.bind_eq_some_iff.mp (oV h ep)
  try simp only at h3
  split at h3<;>try cases h3
  rename_i ep' kus' hS2
  obtain⟨ee,sr2⟩:=ui sr1 ha ky ip hd
  rw[ip.1]
  have hln:(S1.set l (.fdn ep kus)).length=S1.length:=by simp
  refine core sr2 (lr.mono (e1.trans ee)) (uc ha) (by rw[hln];exact h2) fun p hp m3 H3 e3 sr3=>?_
  have en:Ext X.K m1 (upd H1 a (.frz ob (dNo a kvs))) (m1++[p]) (upd (upd H1 a (.frz ob (dNo a kvs))) p (.lst [])):=.new (cq hp _)
  have e03:=en.trans e3
  obtain⟨ob3,kvs3,hx3,e4,sr4⟩:=sC sr3 (e03.get ha) hS2
  refine⟨a,ob3,kvs3,nf,hx3,post m3 _ _ (((e1.trans ee).trans e03).trans e4) sr4 ?_⟩
  have lg:(m1++[p])[S1.length]?=some p:=d7 sr1.len
  exact .ref_ (e3.get lg)
 |_=>cases h
variable{Nc capN tn:List Str}{scope:Scope}{cl:List (Str×Addr)}{n:Nat}{caps:List Nat}{tg iter elt c:Expr}{pos:Pos}{ci:CE}{g:CG}{ct:CT}{ce:CE}
theorem wq(hc:X.calm=true)(hi:QE X iter ci)(hg:∀s3 H3 fp,WG (cxC X Nc scope cl s3 H3 fp) tg (tG X.K g))(ht:∀s3 H3 fp,WT (cxC X Nc scope cl s3 H3 fp) c (tT X.K ct))(he:∀s3 H3 fp,WE (cxC X Nc scope cl s3 H3 fp) elt (tE X.K ce))
  (hclos:closureFor scope X.env=pure cl) (hkind:scope.kind=.function) (hnl:∀x∈scope.names,x.2=.local->scope.names.lookup x.1=some .local) (hcell:∀x∈scope.names,x.2≠.cell)
  (hcl:vv X.env cl) (hhas:((relabel scope X.env).names.all fun p=>!(p.2 == .cell||p.2 == .free)||(cl.lookup p.1).isSome)=true)
  (hcap:Paired (Cap X scope cl) caps capN) (hN:Nc=tn++capN) (hn:tn.length=n)
  (hs:∀x,foldedSetIterable iter X.env x=pure x:=by intro _;rfl) :
  QE X (.ListComp elt [⟨tg,iter,[c],0⟩] scope pos) (iR ci g ct ce n caps):=
 (yK (nW hc (tw hi) hg he ht hclos hkind hnl hcell hcl hhas hcap hN hn hs)).imp (vM (G:=fun J H1 σ Q=>∀l,H1 l=none->∃W:Nat->Nat->L2.St->Hp->Prop,(∃m,W 0 m (OG.stC n caps σ) (upd H1 l (.lst [])))/\
  ∀i m σ' H2,W i m σ' H2->(J.stop i H2/\Q (.ref l) H2)\/(J.go i H2/\∃N:L2.St->Hp->Prop,(∀σ'' H',N σ'' H'->∃m',m'<m/\W (i+1) m' σ'' H')/\
  ∀x H3,J.yld i H2 x H3->tG X.K g x σ' H3 fun σ2 H4=>tT X.K ct σ2 H4 fun b H5=>match b with
   |true=>tE X.K ce σ2 H5 fun v H6=>∃ys,H6 l=some (.lst ys)/\ys.length<sizeLine/\N σ2 (upd H6 l (.lst (ys++[v])))
   |false=>N σ2 H5)) fun sr lr ito h2 post l hl=>nq sr lr ito hl h2 (post l hl))
def AF(K:PySem.W.Frag):List V->Hp->VK->Prop:=fun xs H Q=>∃d kvs,xs=[.ref d]/\H d=some (dNo d kvs)/\∀l,H l=none->Q (.ref l) (upd H l (.lst (kvs.map fun p=>.ref p.1.2)))
theorem C0(hc:X.calm=true):fP X (.type "list") (AF X.K):=by
 rintro pins s σ H xs us Q I r ⟨d,kvs,rfl,hD,q⟩
 obtain⟨u,rfl,ru⟩:=nJ r
 cases ru
 obtain⟨⟨hz,hs,xs,rv,ob,es,ep,e1,e2,e3,e4,e5⟩,st⟩:=(show cB X.prog X.w H s.heap d (dNo d kvs)from I.hok d _ hD)
 obtain⟨g2,g3⟩:=si I.hok (.inl hD) e1 e3
 refine kdl_call (Cc hs e2 e3) (I.ok.hd hc) e1 (by rw[g2];exact hz) fun h' tk acc c up gl hac=>?_
 have hv:cg (kvs.map fun p=>V.ref p.1.2) acc.toList:=by
  have ea:acc.toList=kvs.map fun p=>Value.ref p.1.2:=by
   refine List.ext_getElem? fun i=>?_
   by_cases hi:i<es.size
   ·have hi':i<acc.size:=by rw[hac.1];exact hi
    obtain⟨_,e6⟩:=hac.2 i acc[i] (Array.getElem?_eq_getElem hi')
    obtain⟨q,k1,k2⟩:=g3 i hi
    rw[Array.getElem?_toList,Array.getElem?_eq_getElem hi',e6,k2,List.getElem?_map,k1];rfl
   ·rw[List.getElem?_eq_none (by rw[Array.length_toList,hac.1];omega),List.getElem?_eq_none (by rw[List.length_map,<-g2];omega)]
  rw[ea]
  clear hac e4 rv g3 hz g2 hD q st gl ea
  induction kvs with
  |nil=>exact .nil
  |cons p r ih=>exact .cons rfl ih
 exact⟨.ref s.heap.objs.size,_,I.laid (o:=.lst (kvs.map fun p=>.ref p.1.2)) (t':=tk) up (Nat.le_refl _) ⟨by rw[List.length_map];exact hz,_,c,hv,by rw[gl]⟩,rfl,q _ (I.hok.fresh (Nat.le_refl _))⟩
def oF:Fn
 |[.ref l],S=>match S[l]? with
  |some (.dnt kus)=>some (.ref S.length,S++[.lst (kus.map fun p=>nU p.1)])
  |_=>none
 |_,_=>none
theorem xg:∀{kvs:List ((NK×Addr)×V)},(∀p∈kvs,kN K H p.1.2 p.1.1)->IsL K m H (kvs.map fun p=>.ref p.1.2) (((nP kvs).map (·.1)).map nU)
 |[],_=>.nil_
 |p::r,h=>.cons_ (Gg (h p List.mem_cons_self)) (xg fun q hq=>h q (List.mem_cons_of_mem _ hq))
theorem CN:nH K (AF K) oF:=by
 intro m S H us vs u S' Q sr i hf post
 match us,hf with
 |[.ref l],hf=>
  obtain⟨v,rfl,iv⟩:=i.one
  obtain⟨a,ha,rfl⟩:=iv.of_ref
  simp only[oF]at hf
  split at hf<;>try cases hf
  rename_i ws hS
  obtain⟨a',ha',kvs,hx,ky,ip⟩:=sr.get hS
  rw[ha]at ha';cases ha'
  refine⟨a,kvs,rfl,hx,fun p hp=>?_⟩
  have il:=xg (m:=m) ky
  rw[ip.1,List.map_map]at il
  exact d4 sr il post hp
end
theorem jZ{A:Around}{k:Nat}(hr:gB k A):A.units+2<cLine:=Nat.lt_of_le_of_lt (Nat.add_le_add_left (by decide:2<=64) _) hr.units
section
variable{prog:Program}{w:World}{A:Around}{E:Value->Shared->Prop}{s:Shared}
theorem sE{l:Addr}{vs:List Value}{Q:List Value->Shared->Prop}(ht:IsTup s.heap l vs.toArray)(hz:vs.length<=sizeLine)
  (q:Q vs { s with heap:=(s.heap.push (seqObj "list" #[] 0)).update s.heap.objs.size (Obj.mapSeq fun x=>x++vs.toArray) }):wpAny (model prog w) A (collect (.ref l)) Q E s:=by
 obtain⟨o,g,c,n,d⟩:=id ht
 have g':(s.heap.push (seqObj "list" #[] 0)).get? l=some o:=Heap.get?_push_of_some _ g
 have g0:(s.heap.push (seqObj "list" #[] 0)).get? s.heap.objs.size=some (seqObj "list" #[] 0):=Heap.get?_push_size _ rfl
 unfold collect
 refine wpAny_bind (wpAny_runValue (codeAny_builtin entry_proto_collect' ?_))
 refine wpAny_bind (m:=newList []) (wpAny_newList (wpAny_pure ⟨Code.quiet_builtin _ (by decide +kernel),codeAny_builtin entry_list_iadd' ?_⟩))
 refine(show wpAny _ _ (Builtin.List.listExtendWith (.ref s.heap.objs.size) (.ref l) (.ref s.heap.objs.size)) _ _ { s with heap:=s.heap.push (seqObj "list" #[] 0) } from ?_)
 unfold Builtin.List.listExtendWith
 refine wpAny_bind (wpAny_typeOf (T:="tuple") ⟨o,g',c⟩ ?_)
 have tt:(Value.type "tuple" == Value.type "tuple")=true:=by rfl
 rw[if_pos (by rw[tt,Bool.or_true])]
 refine wpAny_bind (listItems_at g' d (wpAny_bind (listItems_at g0 rfl ?_)))
 rw[if_neg (by simp)]
 refine wpAny_bind (listUpdate_at g0 rfl ?_ (Nat.zero_le _) (by simp only[Array.size_append,List.size_toArray,List.length_nil];omega))
 refine wpAny_pure ?_
 refine wpAny_bind (m:=load s.heap.objs.size) (wpAny_load (get?_update_seq g0 fun x=>x++vs.toArray) ?_)
 dsimp only
 have e:((#[]:Array Value)++vs.toArray).toList=vs:=by simp
 show wpAny _ _ (pure ((#[]:Array Value)++vs.toArray).toList) Q E _
 rw[e]
 exact wpAny_pure q
theorem uJ{l:Addr}{vs:List Value}{ns:List Int}{Q:Value->Shared->Prop}(ht:IsTup s.heap l vs.toArray)(hI:IntsAre vs ns)(h64:vs.length<64)
  (q:∀(out:Array Value) (ms:List Int),IntsAre out.toList ms->ms.Perm ns->ms.Pairwise (·<=·)->Q (.ref (s.heap.objs.size+1)) { s with heap:=sortedAll s.heap vs out }) :
  wpAny (model prog w) A (call (.builtin "sorted") [.ref l]) Q E s:=by
 have hz:vs.length<=sizeLine:=by unfold sizeLine;omega
 refine Calls.call_function_entry kind_sorted plain_sorted entry_sorted (args_sorted1 _) ?_
 unfold Builtin.«sorted»
 refine wpAny_bind (m:=checkCount "sorted" 1 1 _) (wpAny_pure (wpAny_bind (sE ht hz (wpAny_bind (wpAny_newList ?_ hz)))))
 have sz:((s.heap.push (seqObj "list" #[] 0)).update s.heap.objs.size (Obj.mapSeq fun x=>x++vs.toArray)).objs.size=s.heap.objs.size+1:=by rw[Heap.size_update,size_push']
 have gL:(((s.heap.push (seqObj "list" #[] 0)).update s.heap.objs.size (Obj.mapSeq fun x=>x++vs.toArray)).push (seqObj "list" vs.toArray 0)).get? (s.heap.objs.size+1)=some (seqObj "list" vs.toArray 0):=by
  rw[<-sz];exact Heap.get?_push_size _ rfl
 refine(show wpAny _ _ _ _ _ { s with heap:=((s.heap.push (seqObj "list" #[] 0)).update s.heap.objs.size (Obj.mapSeq fun x=>x++vs.toArray)).push (seqObj "list" vs.toArray 0) } from ?_)
 rw[sz]
 refine wpAny_bind (wpAny_holding (wpAny_call_entry slot_list_sort ⟨_,gL,rfl⟩ entry_list_sort (list_sort_tree gL hI h64 fun out ms a1 a2 a3=>⟨_,rfl,?_⟩) (args_list_sort _)))
 exact wpAny_pure ⟨_,rfl,q out ms a1 a2 a3⟩
end
def tP(K:PySem.W.Frag):List V->Hp->VK->Prop:=fun xs H Q=>∃(p:Addr) (ns:List Int),xs=[.ref p]/\SqT K H p (ns.map V.int)/\ns.length<64/\∀(l:Addr) (ms:List Int),H l=none->ms.Perm ns->ms.Pairwise (·<=·)->Q (.ref l) (upd H l (.lst (ms.map V.int)))
theorem qC{X:Cx}:fP X (.builtin "sorted") (tP X.K):=by
 rintro pins s σ H xs us Q I r ⟨p,ns,rfl,sq,h64,q⟩
 obtain⟨u,rfl,ru⟩:=nJ r
 cases ru
 obtain⟨its,rv,tp,hz⟩:=I.tuple sq
 have hlen:=rv.length
 rw[List.length_map]at hlen
 refine uJ tp (gk rv) (by omega) fun out ms a1 a2 a3=>?_
 obtain⟨e,ge⟩:=sortedAll_at s.heap its out
 have hf:=I.hok.fresh (Nat.le_succ s.heap.objs.size)
 exact⟨.ref (s.heap.objs.size+1),_,I.laid (t':=s.toks) (fun b o e=>sortedAll_old e) (Nat.le_succ _) (rW ge a1 (by rw[a2.length_eq];exact h64)),rfl,q _ ms hf a2 a3⟩
def iQ:Fn
 |[.tup us],S=>(qI us).bind fun ns=>if ns.length<64 then some (.ref S.length,S++[.lst ((cV ns).map U.int)])else none
 |_,_=>none
theorem qA{K:PySem.W.Frag}:nH K (tP K) iQ:=by
 intro m S H us vs u S' Q sr i hf post
 match us,hf with
 |[.tup ws],hf=>
  obtain⟨v,rfl,iv⟩:=i.one
  simp only[iQ]at hf
  obtain⟨ns,hn,h⟩:=Option.bind_eq_some_iff.mp hf
  split at h<;>try cases h
  have hc:ns.length<64:=by assumption
  obtain⟨a,xs,rfl,sq,il⟩:=iv.of_tup
  rw[me hn]at il
  rw[il.ints]at sq
  refine⟨a,ns,rfl,sq,hc,fun p ms hp pm sm=>?_⟩
  rw[jI pm sm]
  exact d4 sr (iP _) post hp
end OP
namespace OQ
open PySem PySem.Spec PyProof.Rows L2 OG OP
def eM:CS:=
 (bf (dQ (aG (cOp fEq (cOp fIx (ah 0) (cC (.int 2))) (cC (.int 0)))) (bf (bN 2 (cOp fIx (ah 0) (cC (.int 1))))
  (bf (gv (ah 0) (cC (.int 1)) (cOp fu (ah 2) (cC (.int 1))))
  (bf (bN 3 (cC (.int 0)))
  (bf (dQ (aG (cOp fLt (ah 2) (cCB gh (ae (cOp fIx (ah 0) (cC (.int 0))) aB)))) (bN 3 (cOp fIx (cOp fIx (ah 0) (cC (.int 0))) (ah 2))) (dQ (aG (cOp fGt (cCB gh (ae (cOp fIx (ah 0) (cC (.int 0))) aB)) (cC (.int 0)))) (bN 3 (cOp fu (cOp pK (cOp fIx (cOp fIx (ah 0) (cC (.int 0))) (cOp pK (cOp mf (ah 2) (cC (.int 3))) (cCB gh (ae (cOp fIx (ah 0) (cC (.int 0))) aB)))) (cC (.int 1000003))) (cOp mf (cC (.int 97)) (ah 2)))) cf))
  (bf (bN 4 (cOp pK (cOp mf (cOp fu (cOp fu (cOp pK (ah 3) (cC (.int 998244353))) (cOp mf (cC (.int 53)) (ah 2))) (cC (.int 1))) (cC (.int 48271))) (cC (.int 2147483647))))
  (bf (bN 5 (cOp pK (cOp fu (cOp fu (cOp mf (ah 4) (ah 4)) (cOp mf (cC (.int 69621)) (ah 2))) (cC (.int 5))) (cC (.int 1000000007))))
  (bf (bN 6 (cOp pK (cOp fu (cOp mf (ah 5) (ah 5)) (ah 4)) (cC (.int 998244353))))
  (bf (gv (ah 0) (cC (.int 2)) (cOp fu (cOp z3 (cOp fu (cOp mf (ah 5) (cC (.int 998244353))) (ah 6)) (cC (.int 16))) (cC (.int 1))))
  (dQ (aG (cOp fGe (ah 3) (cOp DM (cC (.int 10)) (cC (.int 18))))) (gv (ah 0) (cC (.int 2)) (cOp z3 (ah 3) (cOp DM (cC (.int 10)) (cC (.int 18))))) cf))))))))) cf)
  (bf (bN 7 (cOp pK (cOp fIx (ah 0) (cC (.int 2))) (ah 1)))
  (bf (gv (ah 0) (cC (.int 2)) (cOp z3 (cOp fIx (ah 0) (cC (.int 2))) (ah 1)))
  (fh (ah 7)))))
theorem su{a0 a1:U}{S:Sto}:fnU 8 2 (eM ) [a0,a1] S=((eM ) [some a0,some a1,none,none,none,none,none,none] S).bind kFn:=iU rfl
def eV(ak:Fn):CS:=
 (fh (cI (ae (cOp fu (cC (.int 1)) (cCB ak (ae (ah 0) (ae (cC (.int 6)) aB)))) (ae (cOp fIx (gN (ae (cC (.int 2)) (ae (cC (.int 3)) (ae (cC (.int 5)) (ae (cC (.int 10)) (ae (cOp fu (cC (.int 2)) (cCB ak (ae (ah 0) (ae (cC (.int 999)) aB)))) aB)))))) (cCB ak (ae (ah 0) (ae (cC (.int 5)) aB)))) aB))))
theorem qS{ak:Fn}{a0:U}{S:Sto}:fnU 1 1 (eV ak) [a0] S=((eV ak) [some a0] S).bind kFn:=iU rfl
def fz(aK:Fn):CS:=
 (bf (bN 1 (cOp fu (ah 1) (cC (.int 1))))
  (dQ (aG (cOp fEq (cOp fIx (ah 2) (cC (.int 0))) (cC (.str "try")))) (bN 1 (cOp fu (cOp fu (ah 1) (cCB aK (ae (cOp fIx (ah 2) (cC (.int 1))) aB))) (cCB aK (ae (cOp fIx (ah 2) (cC (.int 2))) aB)))) cf))
def fJ(aK:Fn):CS:=
 (bf (bN 1 (cC (.int 0)))
  (bf (j7 (iTp (ah 0)) (gNm 2) (fz aK))
  (fh (ah 1))))
theorem sv{aK:Fn}{a0:U}{S:Sto}:fnU 3 1 (fJ aK) [a0] S=((fJ aK) [some a0,none,none] S).bind kFn:=iU rfl
def bc(ak:Fn):CS:=
 (bf (dQ (aG (cOp fLt (ah 2) (cC (.int 4)))) (fh (cI (ae (cC (.str "look")) (ae (ah 3) (ae (cCB ak (ae (ah 0) (ae (cOp fIx (ah 1) (cC (.int 0))) aB))) aB))))) cf)
  (bf (dQ (aG (cOp fLt (ah 2) (cC (.int 7)))) (fh (cI (ae (cC (.str "put")) (ae (cCB ak (ae (ah 0) (ae (cOp fIx (ah 1) (cC (.int 0))) aB))) (ae (ah 3) aB))))) cf)
  (bf (dQ (aG (cOp fLt (ah 2) (cC (.int 9)))) (fh (cI (ae (cC (.str "set")) (ae (ah 3) (ae (cCB ak (ae (ah 0) (ae (cOp fIx (ah 1) (cC (.int 1))) aB))) aB))))) cf)
  (bf (dQ (aG (cOp fLt (ah 2) (cC (.int 11)))) (fh (cI (ae (cC (.str "plus")) (ae (ah 3) (ae (cCB ak (ae (ah 0) (ae (cC (.int 4)) aB))) aB))))) cf)
  (fh (cI (ae (cC (.str "leap")) (ae (ah 3) (ae (cOp fu (cC (.int 1)) (cCB ak (ae (ah 0) (ae (cOp fIx (gN (ae (cC (.int 2)) (ae (cC (.int 12)) aB))) (cCB ak (ae (ah 0) (ae (cC (.int 2)) aB)))) aB)))) aB)))))))))
theorem kr{ak:Fn}{a0 a1 a2 a3:U}{S:Sto}:fnU 4 4 (bc ak) [a0,a1,a2,a3] S=((bc ak) [some a0,some a1,some a2,some a3] S).bind kFn:=iU rfl
def dD(ak aT aE aK:Fn):CS:=
 (bf (bN 7 (cCB ak (ae (ah 0) (ae (cC (.int 16)) aB))))
  (bf (bN 8 (cCB ak (ae (ah 0) (ae (cC (.int 4)) aB))))
  (dQ (nI (aG (cOp fGt (ah 5) (cC (.int 0)))) (nI (aG (cOp fLt (cCB gh (ae (ah 4) aB)) (cC (.int 12)))) (aG (cOp fLt (ah 7) (cC (.int 13)))))) (bf (ef (cBM bW (ah 4) (ae (cCB aT (ae (ah 0) (ae (ah 1) (ae (ah 7) (ae (ah 8) aB))))) aB)))
  (bN 5 (cOp pI (ah 5) (cC (.int 1))))) (dQ (nI (aG (cOp fGt (ah 5) (cC (.int 0)))) (nI (aG (cOp fLt (cCB gh (ae (ah 4) aB)) (cC (.int 12)))) (cOr (aG (cOp fEq (ah 7) (cC (.int 13)))) (aG (cOp fEq (ah 3) (cC (.int 0))))))) (bf (dQ (nI (aG (cOp fGt (ah 5) (cC (.int 1)))) (nI (aG (cOp fLt (cCB gh (ae (ah 4) aB)) (cC (.int 11)))) (aG (cOp fGt (cCB ak (ae (ah 0) (ae (cC (.int 4)) aB))) (cC (.int 0)))))) (bf (ef (cBM bW (ah 4) (ae (cI (ae (cC (.str "leap")) (ae (ah 8) (ae (cC (.int 1)) aB)))) aB)))
  (bN 5 (cOp pI (ah 5) (cC (.int 1))))) cf)
  (bf (ef (cBM bW (ah 4) (ae (cI (ae (cC (.str "wait")) aB)) aB)))
  (bN 5 (cOp pI (ah 5) (cC (.int 1)))))) (dQ (nI (aG (cOp fGt (ah 5) (cC (.int 0)))) (aG (cOp fLt (cCB gh (ae (ah 4) aB)) (cC (.int 12))))) (bf (bN 9 (cCB aE (ae (ah 0) (ae (ah 1) (ae (cCB ak (ae (ah 0) (ae (ah 5) aB))) (ae (cOp pI (ah 3) (cC (.int 1))) aB))))))
  (bf (bN 5 (cOp pI (cOp pI (ah 5) (cC (.int 1))) (cCB aK (ae (ah 9) aB))))
  (bf (bN 10 (cCB aE (ae (ah 0) (ae (ah 1) (ae (cCB ak (ae (ah 0) (ae (cOp fu (ah 5) (cC (.int 1))) aB))) (ae (cOp pI (ah 3) (cC (.int 1))) aB))))))
  (bf (bN 5 (cOp pI (ah 5) (cCB aK (ae (ah 10) aB))))
  (ef (cBM bW (ah 4) (ae (cI (ae (cC (.str "try")) (ae (ah 9) (ae (ah 10) aB)))) aB))))))) cf)))))
def dv(ak aT aE aK:Fn):CS:=
 (bf (bN 4 (gN aB))
  (bf (bN 5 (ah 2))
  (bf (j7 (fg (ae (cCB ak (ae (ah 0) (ae (cOp fu (cCB JE (ae (cC (.int 12)) (ae (ah 2) aB))) (cC (.int 1))) aB))) aB)) (gNm 6) (dD ak aT aE aK))
  (fh (cCB gU (ae (ah 4) aB))))))
theorem nS{ak aT aE aK:Fn}{a0 a1 a2 a3:U}{S:Sto}:fnU 11 4 (dv ak aT aE aK) [a0,a1,a2,a3] S=((dv ak aT aE aK) [some a0,some a1,some a2,some a3,none,none,none,none,none,none,none] S).bind kFn:=iU rfl
def bF:CS:=
 (bf (Hb (ah 1) (gTp [3,4,5]))
  (dQ (aG (cOp fEq (ah 3) (cC (.str "look")))) (bf (dQ (nI (aG (cOp (fIn true) (ah 5) (cOp fIx (ah 2) (cC (.str "own"))))) (aG (cOp (fIn true) (ah 5) (cOp fIx (ah 2) (cC (.str "looked")))))) (ef (cBM bW (cOp fIx (ah 2) (cC (.str "looked"))) (ae (ah 5) aB))) cf)
  (gv (cOp fIx (ah 2) (cC (.str "hands"))) (ah 4) (cOp fIx (cOp fIx (ah 2) (cC (.str "state"))) (ah 5)))) (dQ (aG (cOp fEq (ah 3) (cC (.str "put")))) (bf (gv (cOp fIx (ah 2) (cC (.str "state"))) (ah 4) (cOp fIx (cOp fIx (ah 2) (cC (.str "hands"))) (ah 5)))
  (dQ (aG (cOp (fIn true) (ah 4) (cOp fIx (ah 2) (cC (.str "own"))))) (ef (cBM bW (cOp fIx (ah 2) (cC (.str "own"))) (ae (ah 4) aB))) cf)) (dQ (aG (cOp fEq (ah 3) (cC (.str "set")))) (gv (cOp fIx (ah 2) (cC (.str "hands"))) (ah 4) (ah 5)) (gv (cOp fIx (ah 2) (cC (.str "hands"))) (ah 4) (cOp pK (cOp fu (cOp fIx (cOp fIx (ah 2) (cC (.str "hands"))) (ah 4)) (cOp fIx (cOp fIx (ah 2) (cC (.str "hands"))) (ah 5))) (cOp fIx (ah 0) (cC (.int 1)))))))))
theorem qU{a0 a1 a2:U}{S:Sto}:fnU 6 3 (bF ) [a0,a1,a2] S=((bF ) [some a0,some a1,some a2,none,none,none] S).bind kFn:=iU rfl
def cR(bD aL:Fn):CS:=
 (gv (ah 2) (ah 6) (cOp fIx (ah 5) (ah 6)))
def bh(bD aL:Fn):CS:=
 (dQ (aG (cOp fGt (ah 3) (cC (.int 0)))) (bN 3 (cOp pI (ah 3) (cC (.int 1)))) (dQ (aG (cOp fEq (cOp fIx (ah 4) (cC (.int 0))) (cC (.str "wait")))) (fh (cC (.bl true))) (dQ (aG (cOp fEq (cOp fIx (ah 4) (cC (.int 0))) (cC (.str "leap")))) (bN 3 (cOp mf (cOp fIx (ah 4) (cC (.int 2))) (cCB zZ (ae (cOp fEq (cOp fIx (cOp fIx (ah 2) (cC (.str "hands"))) (cOp fIx (ah 4) (cC (.int 1)))) (cC (.int 0))) aB)))) (dQ (aG (cOp fNe (cOp fIx (ah 4) (cC (.int 0))) (cC (.str "try")))) (ef (cCB bD (ae (ah 0) (ae (ah 4) (ae (ah 2) aB))))) (bf (bN 5 (yd [((cC (.str "state")),(cCB lT (ae (cOp fIx (ah 2) (cC (.str "state"))) aB))),((cC (.str "own")),(cCB lT (ae (cOp fIx (ah 2) (cC (.str "own"))) aB))),((cC (.str "hands")),(cCB lT (ae (cOp fIx (ah 2) (cC (.str "hands"))) aB)))]))
  (dQ (aG (cCB aL (ae (ah 0) (ae (cOp fIx (ah 4) (cC (.int 1))) (ae (ah 2) aB))))) (bf (yc (ah 5) (gNm 6) (cR bD aL))
  (dQ (aG (cCB aL (ae (ah 0) (ae (cOp fIx (ah 4) (cC (.int 2))) (ae (ah 2) aB))))) (fh (cC (.bl true))) cf)) cf))))))
def dJ(bD aL:Fn):CS:=
 (bf (bN 3 (cC (.int 0)))
  (bf (j7 (iTp (ah 1)) (gNm 4) (bh bD aL))
  (fh (cC (.bl false)))))
theorem qT{bD aL:Fn}{a0 a1 a2:U}{S:Sto}:fnU 7 3 (dJ bD aL) [a0,a1,a2] S=((dJ bD aL) [some a0,some a1,some a2,none,none,none,none] S).bind kFn:=iU rfl
def iI:CS:=
 (fh (cOp fu (cOp fu (cSl (ah 0) none (some (ah 1))) (cI (ae (ah 2) aB))) (cSl (ah 0) (some (cOp fu (ah 1) (cC (.int 1)))) none)))
theorem xK{a0 a1 a2:U}{S:Sto}:fnU 3 3 (iI ) [a0,a1,a2] S=((iI ) [some a0,some a1,some a2] S).bind kFn:=iU rfl
def jx(fuel:Nat):CS:=
 (bN 1 (cOp fIx (ah 1) (cC (.int 2))))
def iJ(fuel:Nat):CS:=
 (bf (bN 1 (ah 0))
  (bf (cW (nI (aG (cOp fGe (cOp fIx (ah 1) (cC (.int 1))) (cCB gh (ae (cOp fIx (ah 1) (cC (.int 0))) aB)))) (aG (cOp pJ (cOp fIx (ah 1) (cC (.int 2))) (cC .non)))) (jx fuel) fuel)
  (fh (ah 1))))
theorem xM{fuel:Nat}{a0:U}{S:Sto}:fnU 2 1 (iJ fuel) [a0] S=((iJ fuel) [some a0,none] S).bind kFn:=iU rfl
def dN(ao:Cl):CS:=
 (bf (dQ (aG (cOp fGe (cOp fIx (nV ao 3 (ah 0)) (cC (.int 1))) (cCB gh (ae (cOp fIx (nV ao 3 (ah 0)) (cC (.int 0))) aB)))) (fh (cC .non)) cf)
  (fh (cOp fIx (cOp fIx (nV ao 3 (ah 0)) (cC (.int 0))) (cOp fIx (nV ao 3 (ah 0)) (cC (.int 1))))))
theorem lF{ao:Cl}{a0:U}{S:Sto}:fnU 1 1 (dN ao) [a0] S=((dN ao) [some a0] S).bind kFn:=iU rfl
def dP(aD:Fn)(ao:Cl):CS:=
 (bf (bN 1 (fv ao aD (ah 0) aB))
  (fh (rq (cOp fEq (cOp fIx (ah 1) (cC (.int 0))) (cC (.str "look"))) (cOp Gs (cOp fIx (nV ao 2 (ah 0)) (cOp fIx (ah 1) (cC (.int 2)))) (cC .non)))))
theorem lG{aD:Fn}{ao:Cl}{a0:U}{S:Sto}:fnU 2 1 (dP aD ao) [a0] S=((dP aD ao) [some a0,none] S).bind kFn:=iU rfl
def eY(bS:Fn)(ao:Cl):CS:=
 (kI ao 1 (ah 0) (cCB bS (ae (nV ao 1 (ah 0)) (ae (ah 1) (ae (ah 2) aB)))))
theorem qX{bS:Fn}{ao:Cl}{a0 a1 a2:U}{S:Sto}:fnU 3 3 (eY bS ao) [a0,a1,a2] S=((eY bS ao) [some a0,some a1,some a2] S).bind kFn:=iU rfl
def bX(ao:Cl):CS:=
 (bf (bN 2 (nV ao 3 (ah 0)))
  (fh (cI (ae (cOp fIx (ah 2) (cC (.int 0))) (ae (cOp fu (cOp fu (cOp fIx (ah 2) (cC (.int 1))) (cC (.int 1))) (ah 1)) (ae (cOp fIx (ah 2) (cC (.int 2))) (ae (cOp fIx (ah 2) (cC (.int 3))) aB)))))))
theorem ju{ao:Cl}{a0 a1:U}{S:Sto}:fnU 3 2 (bX ao) [a0,a1] S=((bX ao) [some a0,some a1,none] S).bind kFn:=iU rfl
def cy(aY aF:Fn)(ao:Cl):CS:=
 (kI ao 3 (ah 0) (cCB aY (ae (fv ao aF (ah 0) (ae (ah 1) aB)) aB)))
theorem kE{aY aF:Fn}{ao:Cl}{a0 a1:U}{S:Sto}:fnU 2 2 (cy aY aF ao) [a0,a1] S=((cy aY aF ao) [some a0,some a1] S).bind kFn:=iU rfl
def eZ(aU aD aH:Fn)(ao:Cl):CS:=
 (bf (ef (fv ao aU (ah 0) (ae (cOp fIx (fv ao aD (ah 0) aB) (cC (.int 1))) (ae (ah 1) aB))))
  (ef (fv ao aH (ah 0) (ae (cC (.int 0)) aB))))
theorem qY{aU aD aH:Fn}{ao:Cl}{a0 a1:U}{S:Sto}:fnU 2 2 (eZ aU aD aH ao) [a0,a1] S=((eZ aU aD aH ao) [some a0,some a1] S).bind kFn:=iU rfl
def cA(aY aF:Fn)(ao:Cl):CS:=
 (bf (bN 3 (fv ao aF (ah 0) (ae (cC (.int 0)) aB)))
  (bf (bN 4 (cCB aY (ae (cI (ae (ah 2) (ae (cC (.int 0)) (ae (ah 3) (ae (cOp fIx (ah 3) (cC (.int 3))) aB))))) aB)))
  (kI ao 3 (ah 0) (cCB aY (ae (cI (ae (ah 1) (ae (cC (.int 0)) (ae (ah 3) (ae (cI (ae (nV ao 1 (ah 0)) (ae (nV ao 2 (ah 0)) (ae (ah 4) aB)))) aB))))) aB)))))
theorem kF{aY aF:Fn}{ao:Cl}{a0 a1 a2:U}{S:Sto}:fnU 5 3 (cA aY aF ao) [a0,a1,a2] S=((cA aY aF ao) [some a0,some a1,some a2,none,none] S).bind kFn:=iU rfl
def bO(ao:Cl):CS:=
 (bf (bN 1 (cOp fIx (nV ao 3 (ah 0)) (cC (.int 3))))
  (bf (dQ (aG (cOp Gs (ah 1) (cC .non))) (fh (cC (.bl false))) cf)
  (bf (kI ao 1 (ah 0) (cOp fIx (ah 1) (cC (.int 0))))
  (bf (kI ao 2 (ah 0) (cOp fIx (ah 1) (cC (.int 1))))
  (bf (kI ao 3 (ah 0) (cOp fIx (ah 1) (cC (.int 2))))
  (fh (cC (.bl true))))))))
theorem gq{ao:Cl}{a0:U}{S:Sto}:fnU 2 1 (bO ao) [a0] S=((bO ao) [some a0,none] S).bind kFn:=iU rfl
def aW(bS aD bz bA aU aH:Fn)(ao:Cl):CS:=
 (bf (bN 1 (fv ao aD (ah 0) aB))
  (bf (bN 2 (cOp fIx (ah 1) (cC (.int 0))))
  (bf (dQ (aG (cOp fEq (ah 2) (cC (.str "wait")))) (fh (fv ao bz (ah 0) aB)) cf)
  (bf (dQ (aG (cOp fEq (ah 2) (cC (.str "try")))) (bf (ef (fv ao bA (ah 0) (ae (cOp fIx (ah 1) (cC (.int 1))) (ae (cOp fIx (ah 1) (cC (.int 2))) aB))))
  (fh (cC (.bl true)))) cf)
  (bf (bN 3 (cC (.int 0)))
  (bf (dQ (aG (cOp fEq (ah 2) (cC (.str "look")))) (ef (fv ao aU (ah 0) (ae (cOp fIx (ah 1) (cC (.int 1))) (ae (cOp fIx (nV ao 2 (ah 0)) (cOp fIx (ah 1) (cC (.int 2)))) aB)))) (dQ (aG (cOp fEq (ah 2) (cC (.str "put")))) (kI ao 2 (ah 0) (cCB bS (ae (nV ao 2 (ah 0)) (ae (cOp fIx (ah 1) (cC (.int 1))) (ae (cOp fIx (nV ao 1 (ah 0)) (cOp fIx (ah 1) (cC (.int 2)))) aB))))) (dQ (aG (cOp fEq (ah 2) (cC (.str "set")))) (ef (fv ao aU (ah 0) (ae (cOp fIx (ah 1) (cC (.int 1))) (ae (cOp fIx (ah 1) (cC (.int 2))) aB)))) (dQ (aG (cOp fEq (ah 2) (cC (.str "plus")))) (ef (fv ao aU (ah 0) (ae (cOp fIx (ah 1) (cC (.int 1))) (ae (cOp pK (cOp fu (cOp fIx (nV ao 1 (ah 0)) (cOp fIx (ah 1) (cC (.int 1)))) (cOp fIx (nV ao 1 (ah 0)) (cOp fIx (ah 1) (cC (.int 2))))) (nV ao 0 (ah 0))) aB)))) (dQ (aG (cOp fEq (cOp fIx (nV ao 1 (ah 0)) (cOp fIx (ah 1) (cC (.int 1)))) (cC (.int 0)))) (bN 3 (cOp fIx (ah 1) (cC (.int 2)))) cf)))))
  (bf (ef (fv ao aH (ah 0) (ae (ah 3) aB)))
  (fh (cC (.bl true))))))))))
theorem fG{bS aD bz bA aU aH:Fn}{ao:Cl}{a0:U}{S:Sto}:fnU 4 1 (aW bS aD bz bA aU aH ao) [a0] S=((aW bS aD bz bA aU aH ao) [some a0,none,none,none] S).bind kFn:=iU rfl
def cw(ao:Cl):CS:=
 (fh (pO (qJ (nV ao 2 (ah 0))) (gTp [0,1]) (aG (cOp pJ (ah 1) (cC .non))) (cI (ae (ah 0) (ae (ah 1) aB))) 2 []))
theorem kC{ao:Cl}{a0:U}{S:Sto}:fnU 1 1 (cw ao) [a0] S=((cw ao) [some a0] S).bind kFn:=iU rfl
def eW(aY:Fn)(ao:Cl):CS:=
 (bf (kI ao 0 (ah 0) (cOp fIx (ah 1) (cC (.int 1))))
  (bf (kI ao 1 (ah 0) (cI (ae (cC (.int 0)) (ae (cC (.int 0)) (ae (cC (.int 0)) (ae (cC (.int 0)) aB))))))
  (bf (kI ao 2 (ah 0) (cOp xB (cI (ae (cC .non) aB)) (cOp fIx (ah 1) (cC (.int 0)))))
  (kI ao 3 (ah 0) (cCB aY (ae (cI (ae (ah 2) (ae (cC (.int 0)) (ae (cC .non) (ae (cC .non) aB))))) aB))))))
theorem qW{aY:Fn}{ao:Cl}{a0 a1 a2:U}{S:Sto}:fnU 3 3 (eW aY ao) [a0,a1,a2] S=((eW aY ao) [some a0,some a1,some a2] S).bind kFn:=iU rfl
def bI(aD b8 b7 bu:Fn)(ao:Cl)(fuel:Nat):CS:=
 (dQ (aG (fv ao b8 (ah 0) aB)) (bf (bN 3 (cOp fIx (fv ao aD (ah 0) aB) (cC (.int 2))))
  (bf (gv (ah 2) (ah 3) (cC (.bl true)))
  (ef (fv ao b7 (ah 0) (ae (cOp fIx (ah 1) (ah 3)) aB))))) (dQ (Ai (aG (fv ao bu (ah 0) aB))) (fh (cC (.bl false))) cf))
def cQ(aD b8 b7 bu:Fn)(ao:Cl)(fuel:Nat):CS:=
 (bf (cW (aG (cOp pJ (fv ao aD (ah 0) aB) (cC .non))) (bI aD b8 b7 bu ao fuel) fuel)
  (fh (cC (.bl true))))
theorem nR{aD b8 b7 bu:Fn}{ao:Cl}{fuel:Nat}{a0 a1 a2:U}{S:Sto}:fnU 4 3 (cQ aD b8 b7 bu ao fuel) [a0,a1,a2] S=((cQ aD b8 b7 bu ao fuel) [some a0,some a1,some a2,none] S).bind kFn:=iU rfl
def dM(aL:Fn):CS:=
 (bf (bN 3 (yd [((cC (.str "state")),(cCB lT (ae (ah 2) aB))),((cC (.str "own")),(gN aB)),((cC (.str "hands")),(gN (ae (cC (.int 0)) (ae (cC (.int 0)) (ae (cC (.int 0)) (ae (cC (.int 0)) aB)))))),((cC (.str "looked")),(gN aB))]))
  (bf (dQ (aG (cCB aL (ae (ah 0) (ae (ah 1) (ae (ah 3) aB))))) (fh (cI (ae (cC (.str "waits")) (ae (cCB eK (ae (cOp fIx (ah 3) (cC (.str "looked"))) aB)) aB)))) cf)
  (fh (cI (ae (cC (.str "done")) (ae (cCB gU (ae (cOp fIx (ah 3) (cC (.str "state"))) aB)) (ae (cCB gU (ae (cOp fIx (ah 3) (cC (.str "hands"))) aB)) aB)))))))
theorem qV{aL:Fn}{a0 a1 a2:U}{S:Sto}:fnU 4 3 (dM aL) [a0,a1,a2] S=((dM aL) [some a0,some a1,some a2,none] S).bind kFn:=iU rfl
def nA(bB bb b6:Fn)(ao:Cl):CS:=
 (gv (ah 5) (ah 6) (ah 7))
def kG(bB bb b6:Fn)(ao:Cl):CS:=
 (bf (bN 3 (cCB (xD ao b6) (ae (ah 0) (ae (ah 1) aB))))
  (bf (bN 4 Dy)
  (bf (dQ (Ai (aG (cCB bB (ae (ah 3) (ae (ah 2) (ae (ah 4) aB)))))) (fh (cI (ae (cC (.str "waits")) (ae (cCB eK (ae (ah 4) aB)) aB)))) cf)
  (bf (bN 5 (cCB lT (ae (ah 2) aB)))
  (bf (j7 (iTp (fv ao bb (ah 3) aB)) (gTp [6,7]) (nA bB bb b6 ao))
  (fh (cI (ae (cC (.str "done")) (ae (cCB gU (ae (ah 5) aB)) (ae (nV ao 1 (ah 3)) aB))))))))))
theorem Dr{bB bb b6:Fn}{ao:Cl}{a0 a1 a2:U}{S:Sto}:fnU 8 3 (kG bB bb b6 ao) [a0,a1,a2] S=((kG bB bb b6 ao) [some a0,some a1,some a2,none,none,none,none,none] S).bind kFn:=iU rfl
end OQ
local macro_rules
 | `(tactic| rwa $s:rwRuleSeq) => do
  let ts : Array (Lean.TSyntax `term) := s.raw[1].getSepArgs.map fun r => ⟨r[1]⟩
  let us : Array (Lean.TSyntax `term) := (("vw p9 x_c yr oR oQ qb oP ID Ex Ew KD Hz Hy HA Ea Eu Bu Bt Hx D8 D7 D9 Be yt sZ oT oS Hi DV HK Ec GR yv HS Eh DW Bc As D3 D2 D1 Eo Bo D5 D4 El Ek Ej KU HX HW vx D0 IB Et Es HZ HY Ez Ey Kw Ho Hn Hm Hl HM Eg HN HP Hk DX DY sX sY Ee Ed IE Hj HJ KS JT KW Ig HD Ie HC Ih HE Ia H0 at0 at1 at2 at3 ix0 ix1 ix2 Option.bind_some List.getElem?_cons_zero List.getElem?_cons_succ List.set_cons_zero List.set_cons_succ List.length_cons List.length_nil List.map_cons List.map_nil decide_true decide_false Bool.not_true Bool.not_false Ib En Em Kx Hu Ht Hq Eb Bh Bg Bf Bi HU HV HL Ef KZ IA Iy Iw IC KY Ip Io Im Il Ik Ep KC x_p KA Kz Ky Er Bs Br DS DT DU Bj Bk Bl Ei ga ga0 gs gs0 Option.join_some Nat.add_zero List.cons_append List.nil_append List.append_assoc" : String).splitOn " ").toArray.map fun x => ⟨(Lean.mkIdent ((x.splitOn ".").foldl Lean.Name.str Lean.Name.anonymous)).raw⟩
  let vs:=ts++us
  `(tactic| simp only [$[$vs:term],*])
namespace OQ
open PySem PySem.Spec PyProof.Rows L2 OG OP
def pen(a c:Int):O:=.lst [.ref 0,.int a,.int c]
section
variable{S:Sto}{j k:Int}
theorem vy(h:-(2^64)<k/\k<2^64):mf (.int j) (.int k) S=some (.int (j*k),S):=yu (.inr h)
theorem qc(h:-(2^64)<j/\j<2^64):mf (.int j) (.int k) S=some (.int (j*k),S):=yu (.inl h)
theorem KR:mf (.int j) (.int 3) S=some (.int (j*3),S):=vy (by decide)
theorem HH:mf (.int 97) (.int k) S=some (.int (97*k),S):=qc (by decide)
theorem HI:mf (.int 53) (.int k) S=some (.int (53*k),S):=qc (by decide)
theorem KQ:mf (.int j) (.int 48271) S=some (.int (j*48271),S):=vy (by decide)
theorem KP:mf (.int 69621) (.int k) S=some (.int (69621*k),S):=qc (by decide)
theorem KO:mf (.int j) (.int 998244353) S=some (.int (j*998244353),S):=vy (by decide)
theorem HG:mf (.int (j % 2147483647)) (.int k) S=some (.int (j % 2147483647*k),S):=qc (by have:=Int.emod_nonneg j (show(2147483647:Int)≠0 by decide);have:=Int.emod_lt_of_pos j (show(0:Int)<2147483647 by decide);omega)
theorem HF:mf (.int (j % 1000000007)) (.int k) S=some (.int (j % 1000000007*k),S):=qc (by have:=Int.emod_nonneg j (show(1000000007:Int)≠0 by decide);have:=Int.emod_lt_of_pos j (show(0:Int)<1000000007 by decide);omega)
theorem KJ:pK (.int j) (.int 998244353) S=some (.int (j % 998244353),S):=qd (by decide)
theorem KI:pK (.int j) (.int 2147483647) S=some (.int (j % 2147483647),S):=qd (by decide)
theorem KH:pK (.int j) (.int 1000000007) S=some (.int (j % 1000000007),S):=qd (by decide)
theorem KG:pK (.int j) (.int 1000003) S=some (.int (j % 1000003),S):=qd (by decide)
theorem Ir:z3 (.int j) (.int 16) S=some (.int (j / 16),S):=Bp ⟨by decide,by decide +kernel⟩
theorem D6:DM (.int 10) (.int 18) S=some (.int 1000000000000000000,S):=Hv (j:=10) (k:=18) ⟨by decide,by decide,by decide⟩
theorem Iq:z3 (.int j) (.int 1000000000000000000) S=some (.int (j / 1000000000000000000),S):=Bp ⟨by decide,by decide +kernel⟩
theorem atU{ns:List Int}{k:Int}(h0:0<=k)(h1:k<(ns.length:Int)):∃v:Int,atI (ns.map U.int) k=some (.int v):=by
 have hk:k.toNat<ns.length:=by omega
 exact⟨ns[k.toNat],lH h0 (by rw[List.getElem?_map,List.getElem?_eq_getElem hk];rfl)⟩
end
def fN:Fn:=fnU 8 2 eM
theorem bK(ns:List Int)(T:Sto){a c m:Int}(ha:0<=a)(hc:0<=c)(hm:0<m)(hb:m.natAbs.log2<9000) :
  ∃f a' c',fN [.ref 1,.int m] (.lst (ns.map U.int)::pen a c::T)=some (.int f,.lst (ns.map U.int)::pen a' c'::T)/\0<=f/\f<m/\0<=a'/\0<=c':=by
 unfold fN
 rw[su]
 have dm:∀{j:Int} {S:Sto},z3 (.int j) (.int m) S=some (.int (j / m),S):=Bp ⟨hm,hb⟩
 have mm:∀{j:Int} {S:Sto},pK (.int j) (.int m) S=some (.int (j % m),S):=qd hm
 have fin:∀{a' c':Int},0<=a'->0<=c'->0<=c' % m/\c' % m<m/\0<=a'/\0<=c' / m:=fun h1 h2=>⟨Int.emod_nonneg _ (by omega),Int.emod_lt_of_pos _ hm,h1,Int.ediv_nonneg h2 (by omega)⟩
 by_cases c0:c=0
 ·subst c0
  have cell : ∃ z : Int, (dQ (aG (cOp fLt (ah 2) (cCB gh (ae (cOp fIx (ah 0) (cC (U.int 0))) aB))))
              (bN 3 (cOp fIx (cOp fIx (ah 0) (cC (U.int 0))) (ah 2)))
              (dQ
               (aG (cOp fGt (cCB gh (ae (cOp fIx (ah 0) (cC (U.int 0))) aB)) (cC (U.int 0))))
               (bN 3
                (cOp fu
                 (cOp pK
                  (cOp fIx (cOp fIx (ah 0) (cC (U.int 0)))
                   (cOp pK (cOp mf (ah 2) (cC (U.int 3)))
                    (cCB gh (ae (cOp fIx (ah 0) (cC (U.int 0))) aB))))
                  (cC (U.int 1000003)))
                 (cOp mf (cC (U.int 97)) (ah 2))))
               cf)) [some (.ref 1),some (.int m),some (.int a),some (.int 0),none,none,none,none] (O.lst (ns.map U.int)::.lst [.ref 0,.int (a+1),.int 0]::T)=some (.nx,[some (.ref 1),some (.int m),some (.int a),some (.int z),none,none,none,none],O.lst (ns.map U.int)::.lst [.ref 0,.int (a+1),.int 0]::T):=by
   by_cases h1:a<(ns.length:Int)
   ·obtain⟨z,hz⟩:=atU ha h1
    exact⟨z,by rwa[hz,h1,List.length_map]⟩
   ·by_cases h2:(0:Int)<(ns.length:Int)
    ·obtain⟨z,hz⟩:=atU (ns:=ns) (k:=a*3 % (ns.length:Int)) (Int.emod_nonneg _ (by omega)) (Int.emod_lt_of_pos _ h2)
     exact⟨z % 1000003+97*a,by rwa[h1,h2,KR,qd h2,hz,KG,HH,List.length_map]⟩
    ·exact⟨0,by rwa[h1,h2,List.length_map]⟩
  obtain⟨z,hz⟩:=cell
  rwa[eM,pen,hz,KJ,KI,KH,HI,KQ,KP,KO,HG,HF,Ir,D6]
  by_cases h3:(1000000000000000000:Int)<=z
  ·rwa[h3,D6,Iq,mm,dm]
   exact⟨_,_,_,rfl,fin (by omega) (Int.ediv_nonneg (by omega) (by omega))⟩
  ·rwa[h3,mm,dm]
   refine⟨_,_,_,rfl,fin (by omega) ?_⟩
   exact Int.add_nonneg (Int.ediv_nonneg (Int.add_nonneg (Int.mul_nonneg (Int.emod_nonneg _ (by decide)) (by decide)) (Int.emod_nonneg _ (by decide))) (by decide)) (by decide)
 ·rwa[eM,pen,c0,mm,dm]
  exact⟨_,_,_,rfl,fin ha hc⟩
theorem l9{m:Int}(h0:0<=m)(h:m<2^60):m.natAbs.log2<9000:=wR h0 h
abbrev scr(ns:List Int):O:=.lst (ns.map U.int)
theorem IW{f g:Int}(g0:0<=g)(g1:g<999)(f0:0<=f)(f1:f<5):∃v:Int,atI [U.int 2,U.int 3,U.int 5,U.int 10,U.int (2+g)] f=some (.int v)/\2<=v/\v<=1000:=by
 have:f=0\/f=1\/f=2\/f=3\/f=4:=by omega
 rcases this with rfl|rfl|rfl|rfl|rfl
 ·exact⟨2,rfl,by omega,by omega⟩
 ·exact⟨3,rfl,by omega,by omega⟩
 ·exact⟨5,rfl,by omega,by omega⟩
 ·exact⟨10,rfl,by omega,by omega⟩
 ·exact⟨2+g,rfl,by omega,by omega⟩
def jy:Fn:=fnU 1 1 (eV fN)
theorem yI(ns:List Int)(T:Sto){a c:Int}(ha:0<=a)(hc:0<=c) :
  ∃n w a' c' G,jy [.ref 1] (scr ns::pen a c::T)=some (.tup [.int n,.int w],scr ns::pen a' c'::(T++G))/\1<=n/\n<=6/\2<=w/\w<=1000/\0<=a'/\0<=c':=by
 unfold jy
 rw[qS]
 obtain⟨f1,a1,c1,h1,p1,q1,ha1,hc1⟩:=bK ns T (m:=6) ha hc (by decide) (by decide +kernel)
 obtain⟨f2,a2,c2,h2,p2,q2,ha2,hc2⟩:=bK ns T (m:=999) ha1 hc1 (by decide) (by decide +kernel)
 obtain⟨f3,a3,c3,h3,p3,q3,ha3,hc3⟩:=bK ns (T++[.lst [.int 2,.int 3,.int 5,.int 10,.int (2+f2)]]) (m:=5) ha2 hc2 (by decide) (by decide +kernel)
 obtain⟨v,hv,v0,v1⟩:=IW p2 q2 p3 q3
 refine⟨1+f1,v,a3,c3,[.lst [.int 2,.int 3,.int 5,.int 10,.int (2+f2)]],?_,by omega,by omega,v0,v1,ha3,hc3⟩
 rwa[eV,h1,h2,h3,hv]
inductive e9 where
 |look (h b:Int)|put (b h:Int)|set (h v:Int)|plus (h g:Int)|leap (h k:Int)|wait
def e9.u:e9->U
 |.look h b=>.tup [.str "look",.int h,.int b]
 |.put b h=>.tup [.str "put",.int b,.int h]
 |.set h v=>.tup [.str "set",.int h,.int v]
 |.plus h g=>.tup [.str "plus",.int h,.int g]
 |.leap h k=>.tup [.str "leap",.int h,.int k]
 |.wait=>.tup [.str "wait"]
def e9.ok(n w:Int):e9->Prop
 |.look h b=>0<=h/\h<4/\0<=b/\b<n
 |.put b h=>0<=h/\h<4/\0<=b/\b<n
 |.set h v=>0<=h/\h<4/\0<=v/\v<w
 |.plus h g=>0<=h/\h<4/\0<=g/\g<4
 |.leap h k=>0<=h/\h<4/\1<=k/\k<=12
 |.wait=>True
def kK:Fn:=fnU 4 4 (bc fN)
theorem ze(ns:List Int)(T:Sto){a c n w way hand:Int}(ha:0<=a)(hc:0<=c)(n0:1<=n)(n1:n<=6)(w0:2<=w)(w1:w<=1000)(y0:0<=way)(h0:0<=hand)(h1:hand<4) :
  ∃(d:e9) (a' c':Int) (G:Sto),kK [.ref 1,.tup [.int n,.int w],.int way,.int hand] (scr ns::pen a c::T)=some (d.u,scr ns::pen a' c'::(T++G))/\d.ok n w/\0<=a'/\0<=c':=by
 unfold kK
 rw[kr]
 by_cases c4:way<4
 ·obtain⟨f,a1,c1,e1,p1,q1,ha1,hc1⟩:=bK ns T (m:=n) ha hc (by omega) (l9 (by omega) (by omega))
  exact⟨.look hand f,a1,c1,[],by rwa[bc,c4,e1,e9.u,List.append_nil],⟨h0,h1,p1,q1⟩,ha1,hc1⟩
 by_cases c7:way<7
 ·obtain⟨f,a1,c1,e1,p1,q1,ha1,hc1⟩:=bK ns T (m:=n) ha hc (by omega) (l9 (by omega) (by omega))
  exact⟨.put f hand,a1,c1,[],by rwa[bc,c4,c7,e1,e9.u,List.append_nil],⟨h0,h1,p1,q1⟩,ha1,hc1⟩
 by_cases c9:way<9
 ·obtain⟨f,a1,c1,e1,p1,q1,ha1,hc1⟩:=bK ns T (m:=w) ha hc (by omega) (l9 (by omega) (by omega))
  exact⟨.set hand f,a1,c1,[],by rwa[bc,c4,c7,c9,e1,e9.u,List.append_nil],⟨h0,h1,p1,q1⟩,ha1,hc1⟩
 by_cases c11:way<11
 ·obtain⟨f,a1,c1,e1,p1,q1,ha1,hc1⟩:=bK ns T (m:=4) ha hc (by omega) (l9 (by omega) (by omega))
  exact⟨.plus hand f,a1,c1,[],by rwa[bc,c4,c7,c9,c11,e1,e9.u,List.append_nil],⟨h0,h1,p1,q1⟩,ha1,hc1⟩
 obtain⟨f,a1,c1,e1,p1,q1,ha1,hc1⟩:=bK ns (T++[.lst [.int 2,.int 12]]) (m:=2) ha hc (by decide) (by decide +kernel)
 have key:∃z:Int,atI [U.int 2,U.int 12] f=some (.int z)/\0<z/\z<=12:=by
  have:f=0\/f=1:=by omega
  rcases this with rfl|rfl
  ·exact⟨2,rfl,by omega,by omega⟩
  ·exact⟨12,rfl,by omega,by omega⟩
 obtain⟨z,hz,z0,z1⟩:=key
 obtain⟨g,a2,c2,e2,p2,q2,ha2,hc2⟩:=bK ns (T++[.lst [.int 2,.int 12]]) (m:=z) ha1 hc1 z0 (l9 (by omega) (by omega))
 exact⟨.leap hand (1+g),a2,c2,[.lst [.int 2,.int 12]],by rwa[bc,c4,c7,c9,c11,e1,e2,hz,e9.u],⟨h0,h1,by omega,by omega⟩,ha2,hc2⟩
def uD(fd fs:Fn):Fn:=fnU 11 4 (dv fN kK fd fs)
theorem kT:decide (("wait":Str)="leap")=false:=by decide +kernel
theorem mq:decide (("wait":Str)="try")=false:=by decide +kernel
theorem kS:decide (("wait":Str)="look")=false:=by decide +kernel
theorem mv:decide (("wait":Str)="put")=false:=by decide +kernel
theorem mr:decide (("wait":Str)="set")=false:=by decide +kernel
theorem kR:decide (("wait":Str)="plus")=false:=by decide +kernel
theorem kY:decide (("leap":Str)="wait")=false:=by decide +kernel
theorem mJ:decide (("leap":Str)="try")=false:=by decide +kernel
theorem k7:decide (("leap":Str)="look")=false:=by decide +kernel
theorem mL:decide (("leap":Str)="put")=false:=by decide +kernel
theorem mK:decide (("leap":Str)="set")=false:=by decide +kernel
theorem kZ:decide (("leap":Str)="plus")=false:=by decide +kernel
theorem mw:decide (("try":Str)="wait")=false:=by decide +kernel
theorem mz:decide (("try":Str)="leap")=false:=by decide +kernel
theorem my:decide (("try":Str)="look")=false:=by decide +kernel
theorem n8:decide (("try":Str)="put")=false:=by decide +kernel
theorem nZ:decide (("try":Str)="set")=false:=by decide +kernel
theorem mx:decide (("try":Str)="plus")=false:=by decide +kernel
theorem g7:decide (("look":Str)="wait")=false:=by decide +kernel
theorem g8:decide (("look":Str)="leap")=false:=by decide +kernel
theorem gE:decide (("look":Str)="try")=false:=by decide +kernel
theorem mI:decide (("look":Str)="put")=false:=by decide +kernel
theorem mH:decide (("look":Str)="set")=false:=by decide +kernel
theorem kX:decide (("look":Str)="plus")=false:=by decide +kernel
theorem jd:decide (("put":Str)="wait")=false:=by decide +kernel
theorem je:decide (("put":Str)="leap")=false:=by decide +kernel
theorem iO:decide (("put":Str)="try")=false:=by decide +kernel
theorem mE:decide (("put":Str)="look")=false:=by decide +kernel
theorem oe:decide (("put":Str)="set")=false:=by decide +kernel
theorem mD:decide (("put":Str)="plus")=false:=by decide +kernel
theorem jb:decide (("set":Str)="wait")=false:=by decide +kernel
theorem jc:decide (("set":Str)="leap")=false:=by decide +kernel
theorem iN:decide (("set":Str)="try")=false:=by decide +kernel
theorem mC:decide (("set":Str)="look")=false:=by decide +kernel
theorem n9:decide (("set":Str)="put")=false:=by decide +kernel
theorem mB:decide (("set":Str)="plus")=false:=by decide +kernel
theorem g5:decide (("plus":Str)="wait")=false:=by decide +kernel
theorem g6:decide (("plus":Str)="leap")=false:=by decide +kernel
theorem gD:decide (("plus":Str)="try")=false:=by decide +kernel
theorem kW:decide (("plus":Str)="look")=false:=by decide +kernel
theorem mG:decide (("plus":Str)="put")=false:=by decide +kernel
theorem mF:decide (("plus":Str)="set")=false:=by decide +kernel
theorem SNX:type_of% @kT/\type_of% @mq/\type_of% @kS/\type_of% @mv/\type_of% @mr/\type_of% @kR/\type_of% @kY/\type_of% @mJ/\type_of% @k7/\type_of% @mL/\type_of% @mK/\type_of% @kZ/\type_of% @mw/\type_of% @mz/\type_of% @my/\type_of% @n8/\type_of% @nZ/\type_of% @mx/\type_of% @g7/\type_of% @g8/\type_of% @gE/\type_of% @mI/\type_of% @mH/\type_of% @kX/\type_of% @jd/\type_of% @je/\type_of% @iO/\type_of% @mE/\type_of% @oe/\type_of% @mD/\type_of% @jb/\type_of% @jc/\type_of% @iN/\type_of% @mC/\type_of% @n9/\type_of% @mB/\type_of% @g5/\type_of% @g6/\type_of% @gD/\type_of% @kW/\type_of% @mG/\type_of% @mF:=⟨@kT,@mq,@kS,@mv,@mr,@kR,@kY,@mJ,@k7,@mL,@mK,@kZ,@mw,@mz,@my,@n8,@nZ,@mx,@g7,@g8,@gE,@mI,@mH,@kX,@jd,@je,@iO,@mE,@oe,@mD,@jb,@jc,@iN,@mC,@n9,@mB,@g5,@g6,@gD,@kW,@mG,@mF⟩
structure M where
 hs:List Int
 ps:List (Int×Int)
 lk:List Int
def sN(lk:List Int)(b:Int):List Int:=if b∈lk then lk else lk++[b]
def qD(first:List Int)(m:M)(b:Int):Int:=(cS m.ps b).getD (first.getD b.toNat 0)
def step(w:Int)(first:List Int)(m:M):e9->M
 |.look h b=>⟨m.hs.set h.toNat (qD first m b),m.ps,if (cS m.ps b).isSome then m.lk else sN m.lk b⟩
 |.put b h=>⟨m.hs,lB m.ps b (m.hs.getD h.toNat 0),m.lk⟩
 |.set h v=>⟨m.hs.set h.toNat v,m.ps,m.lk⟩
 |.plus h g=>⟨m.hs.set h.toNat ((m.hs.getD h.toNat 0+m.hs.getD g.toNat 0) % w),m.ps,m.lk⟩
 |.leap _ _=>m
 |.wait=>m
def uZ(lk:List Int):List (Key×U):=lk.map fun b=>(.inl b,.bl true)
theorem y4(b:Int)(lk:List Int):lB (uZ lk) (.inl b) (.bl true)=uZ (sN lk b):=by
 have ha:((uZ lk).any fun kv=>decide (kv.1=Sum.inl b))=decide (b∈lk):=by
  unfold uZ
  induction lk with
  |nil=>rfl
  |cons k r ih=>
   simp only[List.map_cons,List.any_cons,ih]
   by_cases e:k=b
   ·subst e;simp
   ·rw[decide_eq_false (fun z:(Sum.inl k:Key)=Sum.inl b=>e (Sum.inl.inj z))]
    simp[Ne.symm e]
 unfold lB sN
 rw[ha]
 by_cases c:b∈lk
 ·rw[if_pos (decide_eq_true c),if_pos c]
  unfold uZ
  rw[List.map_map]
  refine List.map_congr_left fun p _=>?_
  simp only[Function.comp]
  split<;>rfl
 ·rw[if_neg (by simpa using c),if_neg c]
  simp[uZ]
theorem at4{hs:List Int}{h:Int}(l:hs.length=4)(h0:0<=h)(h1:h<4):atI (hs.map U.int) h=some (.int (hs.getD h.toNat 0)):=by
 have hk:h.toNat<hs.length:=by omega
 refine lH h0 ?_
 rw[List.getElem?_map,List.getElem?_eq_getElem hk,List.getD_eq_getElem?_getD,List.getElem?_eq_getElem hk];rfl
theorem ixL{us:List U}{h:Int}{n:Nat}(l:us.length=n)(h0:0<=h)(h1:h<n):ixN us.length h=some h.toNat:=by
 unfold ixN;rw[if_pos h0,if_pos (by omega)]
theorem atF{first:List Int}{b n:Int}(l:first.length=n.toNat)(h0:0<=b)(h1:b<n):atI (first.map U.int) b=some (.int (first.getD b.toNat 0)):=by
 have hk:b.toNat<first.length:=by omega
 refine lH h0 ?_
 rw[List.getElem?_map,List.getElem?_eq_getElem hk,List.getD_eq_getElem?_getD,List.getElem?_eq_getElem hk];rfl
theorem map_set{hs:List Int}{k:Nat}{v:Int}:(hs.map U.int).set k (.int v)=(hs.set k v).map U.int:=by rw[List.map_set]
inductive DF(α:Type) where
 |pl (d:e9)|tr (a b:List α)
def DF.u{α:Type}(f:α->U):DF α->U
 |.pl d=>d.u
 |.tr a b=>.tup [.str "try",.tup (a.map f),.tup (b.map f)]
section
variable{α:Type}(w:Int)(first:List Int)(rn:List α->M->Bool×M)
def IF(a b:List α)(m:M):Bool×M:=match rn a m with
 |(true,m')=>(true,m')
 |(false,m')=>rn b ⟨m.hs,m.ps,m'.lk⟩
def eA:List (DF α)->Nat->M->Bool×M
 |[],_,m=>(true,m)
 |_::r,k+1,m=>eA r k m
 |.tr a b::r,0,m=>match IF rn a b m with
  |(true,m')=>eA r 0 m'
  |(false,m')=>(false,m')
 |.pl .wait::_,0,m=>(false,m)
 |.pl (.leap h k)::r,0,m=>eA r (if m.hs.getD h.toNat 0=0 then k.toNat else 0) m
 |.pl (.look h b)::r,0,m=>eA r 0 (step w first m (.look h b))
 |.pl (.put h b)::r,0,m=>eA r 0 (step w first m (.put h b))
 |.pl (.set h b)::r,0,m=>eA r 0 (step w first m (.set h b))
 |.pl (.plus h b)::r,0,m=>eA r 0 (step w first m (.plus h b))
theorem qu:∀(ds:List (DF α)) (k:Nat) (m:M),eA w first rn ds k m=eA w first rn (ds.drop k) 0 m
 |[],k,m=>by simp[eA]
 |d::r,0,m=>by simp
 |d::r,k+1,m=>by rw[eA,qu r k m];rfl
end
def Dl:Nat->Type
 |0=>DF Empty
 |j+1=>DF (Dl j)
def Dl.u:(j:Nat)->Dl j->U
 |0,d=>DF.u (fun x=>nomatch x) d
 |j+1,d=>DF.u (Dl.u j) d
def DF.ok{α:Type}(n w:Int)(k:List α->Prop):DF α->Prop
 |.pl d=>d.ok n w
 |.tr a b=>k a/\k b
structure Wf(n:Int)(m:M):Prop where
 h4:m.hs.length=4
 pk:(m.ps.map (·.1)).Nodup
 pb:∀k∈m.ps.map (·.1),0<=k/\k<n
 lk:m.lk.Nodup
 lb:∀k∈m.lk,0<=k/\k<n
theorem few:∀(n:Nat) (l:List Int),l.Nodup->(∀k∈l,0<=k/\k<n)->l.length<=n
 |0,l,_,h=>by
  cases l with
  |nil=>simp
  |cons a r=>have:=h a (by simp);omega
 |n+1,l,nd,h=>by
  have ih:=few n (l.erase (n:Int)) (nd.erase _) fun k hk=>by
   have h1:=h k (List.mem_of_mem_erase hk)
   have h2:k≠(n:Int):=fun z=>by subst z;exact(nd.not_mem_erase) hk
   omega
  rw[List.length_erase]at ih
  split at ih<;>omega
theorem Wf.few{n:Int}{m:M}(h:Wf n m)(n0:0<=n)(n1:n<=6):m.ps.length<=6/\m.lk.length<=6:=by
 have a:=OQ.few n.toNat _ h.pk fun k hk=>by have:=h.pb k hk;omega
 have b:=OQ.few n.toNat _ h.lk fun k hk=>by have:=h.lb k hk;omega
 rw[List.length_map]at a
 omega
theorem yn{l:List Int}{b:Int}(h:l.Nodup):(sN l b).Nodup:=by
 unfold sN
 split
 ·exact h
 ·rename_i c
  rw[List.nodup_append]
  exact⟨h,by simp,fun x hx y hy z=>by simp at hy;subst hy;subst z;exact c hx⟩
theorem uv{l:List Int}{b k:Int}(h:k∈sN l b):k∈l\/k=b:=by
 unfold sN at h
 split at h
 ·exact .inl h
 ·simpa using h
theorem mU(b v:Int)(ps:List (Int×Int)):(lB ps b v).map (·.1)=sN (ps.map (·.1)) b:=by
 have ha:(ps.any fun kv=>decide (kv.1=b))=decide (b∈ps.map (·.1)):=by
  induction ps with
  |nil=>rfl
  |cons p r ih=>
   simp only[List.any_cons,ih,List.map_cons]
   by_cases e:p.1=b
   ·simp[e]
   ·simp[e,Ne.symm e]
 unfold lB sN
 rw[ha]
 by_cases c:b∈ps.map (·.1)
 ·rw[if_pos (decide_eq_true c),if_pos c,List.map_map]
  refine List.map_congr_left fun p _=>?_
  simp only[Function.comp]
  split<;>rfl
 ·rw[if_neg (by simpa using c),if_neg c]
  simp
theorem vX{n w:Int}{first:List Int}{m:M}{d:e9}(h:Wf n m)(od:d.ok n w):Wf n (step w first m d):=by
 cases d with
 |look g b=>
  obtain⟨_,_,b0,b1⟩:=od
  refine⟨by simpa [step] using h.h4,h.pk,h.pb,?_,?_⟩
  ·simp only[step];split
   ·exact h.lk
   ·exact yn h.lk
  ·simp only[step];split
   ·exact h.lb
   ·exact fun k hk=>(uv hk).elim (h.lb k) fun e=>by subst e;exact⟨b0,b1⟩
 |put b g=>
  obtain⟨b0,b1,b2,b3⟩:=od
  refine⟨h.h4,?_,?_,h.lk,h.lb⟩
  ·simp only[step];rw[mU];exact yn h.pk
  ·simp only[step];rw[mU]
   exact fun k hk=>(uv hk).elim (h.pb k) fun e=>by subst e;constructor<;>omega
 |set g v=>exact⟨by simpa [step] using h.h4,h.pk,h.pb,h.lk,h.lb⟩
 |plus g v=>exact⟨by simpa [step] using h.h4,h.pk,h.pb,h.lk,h.lb⟩
 |leap g k=>exact h
 |wait=>exact h
structure Fr(ls:List Nat)(S S':Sto):Prop where
 len:S.length<=S'.length
 old:∀l,l<S.length->l∉ls->S'[l]?=S[l]?
theorem Fr.refl{ls:List Nat}{S:Sto}:Fr ls S S:=⟨Nat.le_refl _,fun _ _ _=>rfl⟩
theorem Fr.set{ls:List Nat}{S:Sto}{l:Nat}{o:O}(h:l∈ls):Fr ls S (S.set l o):=⟨by simp,fun k _ hk=>by rw[List.getElem?_set_ne (fun z=>hk (by subst z;exact h))]⟩
theorem Fr.trans{ls:List Nat}{S S' S'':Sto}(a:Fr ls S S')(b:Fr ls S' S''):Fr ls S S'':=⟨Nat.le_trans a.len b.len,fun l hl hn=>by rw[b.old l (Nat.lt_of_lt_of_le hl a.len) hn,a.old l hl hn]⟩
theorem br{α:Type}{l:List α}{k:Nat}{x:α}(h:l[k]?=some x):k<l.length:=(List.getElem?_eq_some_iff.mp h).1
theorem aJ{α:Type}{l r:List α}{k:Nat}{x:α}(h:l[k]?=some x):(l++r)[k]?=some x:=by rw[List.getElem?_append_left (br h)];exact h
def nL(w:Int)(first:List Int):(j:Nat)->List (Dl j)->M->Bool×M
 |0,ds,m=>eA w first (fun _ m=>(true,m)) ds 0 m
 |j+1,ds,m=>eA w first (nL w first j) ds 0 m
def OkL(n w:Int):(j:Nat)->List (Dl j)->Prop
 |0,ds=>ds.length<=30/\∀d∈ds,DF.ok n w (fun _=>False) d
 |j+1,ds=>ds.length<=30/\∀d∈ds,DF.ok n w (OkL n w j) d
def m0:M:=⟨[0,0,0,0],[],[]⟩
theorem qF:∀lk:List Int,uT (uZ lk)=some lk
 |[]=>rfl
 |b::r=>by
  have ih:=qF r
  unfold uZ at ih ⊢
  simp only[List.map_cons,uT,ih,Option.map_some]
def beh(first:List Int)(ps:List (Int×Int))(k:Nat):List Int:=(first.zipIdx k).map fun p=>(cS ps (p.2:Int)).getD p.1
def told(r:Bool×M)(first:List Int)(l:Nat):U:=match r with
 |(true,m)=>.tup [.str "done",.tup ((beh first m.ps 0).map U.int),.tup (m.hs.map U.int)]
 |(false,_)=>.tup [.str "waits",.ref l]
theorem xt{ls:List Nat}{S0 S':Sto}(len:S0.length<=S'.length)(old:∀l,l<S0.length->S'[l]?=S0[l]?):∃G,S'=S0++G:=by
 refine⟨S'.drop S0.length,List.ext_getElem? fun l=>?_⟩
 by_cases c:l<S0.length
 ·rw[old l c,List.getElem?_append_left c]
 ·rw[List.getElem?_append_right (by omega),List.getElem?_drop];congr 1;omega
theorem inI(b:Int):∀l:List Int,inU (.int b) (l.map U.int)=decide (b∈l)
 |[]=>by simp[inU]
 |x::r=>by
  have ih:=inI b r
  unfold inU at ih ⊢
  rw[List.map_cons,List.any_cons,ih,show eqF (.int x) (.int b)=(x == b)from rfl]
  by_cases e:x=b
  ·subst e;simp
  ·have:(x == b)=false:=by simpa using e
   rw[this];simp[Ne.symm e]
theorem JD(l:List Int):(l.map U.int).all gK=true:=by
 induction l with
 |nil=>rfl
 |cons x r ih=>rw[List.map_cons,List.all_cons,ih];rfl
theorem AS(b:Int):∀ps:List (Int×Int),decide (b∈ps.map (·.1))=(cS ps b).isSome
 |[]=>rfl
 |(k,v)::r=>by
  have ih:=AS b r
  unfold cS at ih ⊢
  simp only[List.map_cons,List.find?_cons]
  by_cases e:k=b
  ·subst e;simp
  ·rw[decide_eq_false e,<-ih]
   simp[Ne.symm e]
theorem rH(b v j:Int)(ps:List (Int×Int)):cS (lB ps b v) j=if j=b then some v else cS ps j:=by
 have e1:∀ps:List (Int×Int),cS ps j=(fQ (ps.map fun p=>(p.1,V.int p.2)) j).map fun x=>match x with|.int i=>i|_=>0:=fun ps=>by
  unfold cS fQ
  induction ps with
  |nil=>rfl
  |cons p r ih=>
   simp only[List.map_cons,List.find?_cons]
   by_cases e:p.1=j
   ·simp[e]
   ·rw[decide_eq_false e];exact ih
 have e2:(lB ps b v).map (fun p=>(p.1,V.int p.2))=l6 (ps.map fun p=>(p.1,V.int p.2)) b (.int v):=by
  unfold lB l6
  have:(ps.map fun p=>(p.1,V.int p.2)).any (fun kv=>decide (kv.1=b))=ps.any fun kv=>decide (kv.1=b):=by rw[List.any_map];rfl
  rw[this]
  split
  ·rw[List.map_map,List.map_map]
   refine List.map_congr_left fun p _=>?_
   simp only[Function.comp]
   split<;>rfl
  ·simp
 rw[e1,e2,yO]
 split
 ·rfl
 ·exact(e1 ps).symm
theorem jw(first:List Int)(ps:List (Int×Int))(k:Nat):(beh first ps k).length=first.length:=by simp[beh]
theorem nv(first:List Int)(ps:List (Int×Int))(k i:Nat)(h:i<first.length):(beh first ps k)[i]?=some ((cS ps ((k+i:Nat):Int)).getD (first.getD i 0)):=by
 unfold beh
 rw[List.getElem?_map,List.getElem?_zipIdx,List.getElem?_eq_getElem h]
 simp[List.getD_eq_getElem?_getD,List.getElem?_eq_getElem h]
theorem GC{first:List Int}{m:M}{n b:Int}(lf:first.length=n.toNat)(b0:0<=b)(b1:b<n):atI ((beh first m.ps 0).map U.int) b=some (.int (qD first m b)):=by
 have hb:b.toNat<first.length:=by omega
 refine lH b0 ?_
 rw[List.getElem?_map,nv _ _ _ _ hb]
 unfold qD
 have:((0+b.toNat:Nat):Int)=b:=by omega
 rw[this];rfl
theorem Dz{first:List Int}{ps:List (Int×Int)}{n b v:Int}(lf:first.length=n.toNat)(b0:0<=b)(b1:b<n):(beh first ps 0).set b.toNat v=beh first (lB ps b v) 0:=by
 refine List.ext_getElem? fun i=>?_
 by_cases hi:i<first.length
 ·rw[nv _ _ _ _ hi,List.getElem?_set,jw]
  by_cases e:b.toNat=i
  ·have:((0+i:Nat):Int)=b:=by omega
   rw[if_pos e,if_pos (by omega),rH,this,if_pos rfl];rfl
  ·rw[if_neg e,nv _ _ _ _ hi,rH,if_neg (by omega)]
 ·rw[List.getElem?_eq_none (by simp[jw];omega),List.getElem?_eq_none (by rw[jw];omega)]
section
variable{first:List Int}
theorem DB:beh first [] 0=first:=by
 refine List.ext_getElem? fun i=>?_
 by_cases hi:i<first.length
 ·rw[nv _ _ _ _ hi,List.getElem?_eq_getElem hi]
  simp[cS,List.getD_eq_getElem?_getD,List.getElem?_eq_getElem hi]
 ·rw[List.getElem?_eq_none (by rw[jw];omega),List.getElem?_eq_none (by omega)]
end
def l7(ls lo lh ll:Nat):List (Key×U):=[(.inr "state",.ref ls),(.inr "own",.ref lo),(.inr "hands",.ref lh),(.inr "looked",.ref ll)]
section
variable{ls lo lh ll:Nat}
theorem dC:cS (l7 ls lo lh ll) (.inr "state")=some (.ref ls):=by rfl
theorem iZ:cS (l7 ls lo lh ll) (.inr "own")=some (.ref lo):=by rfl
theorem cU:cS (l7 ls lo lh ll) (.inr "hands")=some (.ref lh):=by rfl
theorem d5:cS (l7 ls lo lh ll) (.inr "looked")=some (.ref ll):=by rfl
theorem zA{x:Nat}:lB (l7 ls lo lh ll) (.inr "state") (.ref x)=l7 x lo lh ll:=by rfl
theorem FN{x:Nat}:lB (l7 ls lo lh ll) (.inr "own") (.ref x)=l7 ls x lh ll:=by rfl
theorem zB{x:Nat}:lB (l7 ls lo lh ll) (.inr "hands") (.ref x)=l7 ls lo x ll:=by rfl
end
structure Al(first:List Int)(i ls lo lh ll:Nat)(m:M)(S:Sto):Prop where
 ei:S[i]?=some (.dic (l7 ls lo lh ll))
 es:S[ls]?=some (.lst ((beh first m.ps 0).map U.int))
 eo:S[lo]?=some (.lst ((m.ps.map (·.1)).map U.int))
 eh:S[lh]?=some (.lst (m.hs.map U.int))
 el:S[ll]?=some (.lst (m.lk.map U.int))
 nd:ls≠lo/\ls≠lh/\ls≠ll/\lo≠lh/\lo≠ll/\lh≠ll
section
variable{w:Int}{first:List Int}{i ls lo lh ll:Nat}{m:M}{S:Sto}
theorem zF{x y:Nat}{kus:List (Key×U)}{us:List U}(a:S[x]?=some (.dic kus))(b:S[y]?=some (.lst us)):x≠y:=fun z=>by rw[z,b]at a;cases a
theorem Al.ns(h:Al first i ls lo lh ll m S):i≠ls/\i≠lo/\i≠lh/\i≠ll:=⟨zF h.ei h.es,zF h.ei h.eo,zF h.ei h.eh,zF h.ei h.el⟩
theorem Al.app(h:Al first i ls lo lh ll m S)(T:Sto):Al first i ls lo lh ll m (S++T):=⟨aJ h.ei,aJ h.es,aJ h.eo,aJ h.eh,aJ h.el,h.nd⟩
theorem Al.setH(h:Al first i ls lo lh ll m S)(hs:List Int):Al first i ls lo lh ll ⟨hs,m.ps,m.lk⟩ (S.set lh (.lst (hs.map U.int))):=by
 obtain⟨n1,n2,n3,n4,n5,n6⟩:=h.nd
 obtain⟨k1,k2,k3,k4⟩:=h.ns
 exact⟨by rw[List.getElem?_set_ne (Ne.symm k3)];exact h.ei,by rw[List.getElem?_set_ne (Ne.symm n2)];exact h.es,by rw[List.getElem?_set_ne (Ne.symm n4)];exact h.eo,List.getElem?_set_self (br h.eh),by rw[List.getElem?_set_ne n6];exact h.el,h.nd⟩
theorem Al.setL(h:Al first i ls lo lh ll m S)(lk:List Int):Al first i ls lo lh ll ⟨m.hs,m.ps,lk⟩ (S.set ll (.lst (lk.map U.int))):=by
 obtain⟨n1,n2,n3,n4,n5,n6⟩:=h.nd
 obtain⟨k1,k2,k3,k4⟩:=h.ns
 exact⟨by rw[List.getElem?_set_ne (Ne.symm k4)];exact h.ei,by rw[List.getElem?_set_ne (Ne.symm n3)];exact h.es,by rw[List.getElem?_set_ne (Ne.symm n5)];exact h.eo,by rw[List.getElem?_set_ne (Ne.symm n6)];exact h.eh,List.getElem?_set_self (br h.el),h.nd⟩
theorem o5{α:Type}{l:List α}{k:Nat}{x:α}(h:l[k]?=some x):l.set k x=l:=by
 refine List.ext_getElem? fun j=>?_
 by_cases c:k=j
 ·subst c;rw[List.getElem?_set_self (br h),h]
 ·rw[List.getElem?_set_ne c]
theorem Al.setP(h:Al first i ls lo lh ll m S)(ps:List (Int×Int)){S':Sto}(e:S'=(S.set ls (.lst ((beh first ps 0).map U.int))).set lo (.lst ((ps.map (·.1)).map U.int))):Al first i ls lo lh ll ⟨m.hs,ps,m.lk⟩ S':=by
 obtain⟨n1,n2,n3,n4,n5,n6⟩:=h.nd
 obtain⟨k1,k2,k3,k4⟩:=h.ns
 subst e
 exact⟨by rw[List.getElem?_set_ne (Ne.symm k2),List.getElem?_set_ne (Ne.symm k1)];exact h.ei,by rw[List.getElem?_set_ne (Ne.symm n1)];exact List.getElem?_set_self (br h.es),List.getElem?_set_self (by simpa using br h.eo),by rw[List.getElem?_set_ne n4,List.getElem?_set_ne n2];exact h.eh,by rw[List.getElem?_set_ne n5,List.getElem?_set_ne n3];exact h.el,h.nd⟩
def DP:Fn:=fnU 6 3 bF
theorem Jk{n:Int}{d:e9}(h:Al first i ls lo lh ll m S)(wf:Wf n m)(od:d.ok n w)(lf:first.length=n.toNat)(n0:0<=n)(n1:n<=6)(w0:2<=w)(nw:d≠.wait)(nl:∀h k,d≠.leap h k) :
  ∃S',DP [.tup [.int n,.int w],d.u,.ref i] S=some (.non,S')/\Al first i ls lo lh ll (step w first m d) S'/\Fr [i,ls,lo,lh,ll] S S':=by
 unfold DP
 rw[qU]
 obtain⟨f1,f2⟩:=wf.few n0 n1
 have h4:=wf.h4
 have i4:∀{h:Int},0<=h->h<4->ixN (m.hs.map U.int).length h=some h.toNat:=fun h0 h1=>ixL (n:=4) (by simpa using h4) h0 h1
 have fl:∀{b:Int} {l:List Int},gK (.int b)=true/\(l.map U.int).all gK=true:=fun{b l}=>⟨rfl,JD l⟩
 have hp':((m.ps.map (·.1)).map U.int).length<LIM:=by simp;unfold LIM;omega
 have hl':(m.lk.map U.int).length<LIM:=by simp;unfold LIM;omega
 cases d with
 |wait=>exact absurd rfl nw
 |leap h k=>exact absurd rfl (nl h k)
 |look g b=>
  obtain⟨h0,h1,b0,b1⟩:=od
  have ba:=GC (m:=m) lf b0 b1
  cases hv:(cS m.ps b).isSome with
  |true=>
   have h2:=h.setH (m.hs.set g.toNat (qD first m b))
   refine⟨_,?_,by simp only[step,hv,if_true];exact h2,.set (by simp)⟩
   rwa[bF,e9.u,h.ei,h.es,h.eo,h.eh,h.el,iZ,cU,dC,d5,vz fl,inI,AS,hv,ba,i4 h0 h1,map_set,if_true,SNX]
  |false=>
   by_cases hk:b∈m.lk
   ·have h2:=h.setH (m.hs.set g.toNat (qD first m b))
    refine⟨_,?_,by simp only[step,hv,sN,hk,if_true,Bool.false_eq_true,if_false];exact h2,.set (by simp)⟩
    rwa[bF,e9.u,h.ei,h.es,h.eo,h.eh,h.el,iZ,cU,dC,d5,vz fl,inI,AS,hv,hk,ba,i4 h0 h1,map_set,if_true,if_false,Bool.false_eq_true,SNX]
   ·have h1':=h.setL (m.lk++[b])
    have h2:=h1'.setH (m.hs.set g.toNat (qD first m b))
    simp only[List.map_append,List.map_cons,List.map_nil]at h1' h2
    refine⟨_,?_,by simp only[step,hv,sN,hk,if_true,Bool.false_eq_true,if_false];exact h2,Fr.trans (.set (by simp)) (.set (by simp))⟩
    rwa[bF,e9.u,h.ei,h.es,h.eo,h.eh,h.el,h1'.ei,h1'.es,h1'.eh,iZ,cU,dC,d5,vz fl,fk hl',inI,AS,hv,hk,ba,i4 h0 h1,map_set,if_true,if_false,Bool.false_eq_true,SNX]
 |put b g=>
  obtain⟨h0,h1,b0,b1⟩:=od
  have bi:ixN ((beh first m.ps 0).map U.int).length b=some b.toNat:=ixL (n:=n.toNat) (by simp[jw,lf]) b0 (by omega)
  have bp:=Dz (ps:=m.ps) (v:=m.hs.getD g.toNat 0) lf b0 b1
  have hk:=mU b (m.hs.getD g.toNat 0) m.ps
  obtain⟨m1,m2,m3,m4,m5,m6⟩:=h.nd
  obtain⟨k1,k2,k3,k4⟩:=h.ns
  have g1:∀X,(S.set ls X)[i]?=some (.dic (l7 ls lo lh ll)):=fun X=>by rw[List.getElem?_set_ne (Ne.symm k1)];exact h.ei
  have g2:∀X,(S.set ls X)[lo]?=some (.lst ((m.ps.map (·.1)).map U.int)):=fun X=>by rw[List.getElem?_set_ne m1];exact h.eo
  cases hv:(cS m.ps b).isSome with
  |true=>
   have hm:b∈m.ps.map (·.1):=of_decide_eq_true (by rw[AS,hv])
   rw[sN,if_pos hm]at hk
   have h2:=h.setP (lB m.ps b (m.hs.getD g.toNat 0)) (S':=S.set ls (.lst ((beh first (lB m.ps b (m.hs.getD g.toNat 0)) 0).map U.int))) (by
    rw[hk,o5 (g2 _)])
   refine⟨_,?_,h2,.set (by simp)⟩
   rwa[bF,e9.u,h.ei,h.es,h.eo,h.eh,h.el,g1,g2,iZ,cU,dC,d5,vz fl,inI,AS,hv,bi,bp,at4 h4 h0 h1,map_set,if_true,SNX]
  |false=>
   have hm:¬b∈m.ps.map (·.1):=of_decide_eq_false (by rw[AS,hv])
   rw[sN,if_neg hm]at hk
   have h2:=h.setP (lB m.ps b (m.hs.getD g.toNat 0)) rfl
   refine⟨_,?_,h2,Fr.trans (.set (by simp)) (.set (by simp))⟩
   rwa[bF,e9.u,h.ei,h.es,h.eo,h.eh,h.el,g1,g2,iZ,cU,dC,d5,vz fl,fk hp',inI,AS,hv,bi,bp,hk,at4 h4 h0 h1,map_set,if_true,List.map_append,SNX]
 |set g v=>
  obtain⟨h0,h1,b0,b1⟩:=od
  have h2:=h.setH (m.hs.set g.toNat v)
  refine⟨_,?_,h2,.set (by simp)⟩
  rwa[bF,e9.u,h.ei,h.es,h.eo,h.eh,h.el,iZ,cU,dC,d5,i4 h0 h1,map_set,SNX]
 |plus g k=>
  obtain⟨h0,h1,g0,g1⟩:=od
  have h2:=h.setH (m.hs.set g.toNat ((m.hs.getD g.toNat 0+m.hs.getD k.toNat 0) % w))
  refine⟨_,?_,h2,.set (by simp)⟩
  rwa[bF,e9.u,h.ei,h.es,h.eo,h.eh,h.el,iZ,cU,dC,d5,i4 h0 h1,at4 h4 h0 h1,at4 h4 g0 g1,qd (show 0<w by omega),map_set,SNX]
end
section
variable{w:Int}{first:List Int}{i ls lo lh ll:Nat}{m:M}{S:Sto}{n:Int}
theorem Cv{x x1 x2:Nat}{S1:Sto}(len:S.length<=S1.length)(p:x1=x\/S.length<=x1)(q:x2=x1\/S1.length<=x2):x2=x\/S.length<=x2:=by omega
theorem AZ{ls1 lo1 lh1:Nat}{S1 S2:Sto}(a:Fr [i,ls,lo,lh,ll] S S1)(p:ls1=ls\/S.length<=ls1)(q:lo1=lo\/S.length<=lo1)(r:lh1=lh\/S.length<=lh1)(b:Fr [i,ls1,lo1,lh1,ll] S1 S2):Fr [i,ls,lo,lh,ll] S S2:=
 ⟨Nat.le_trans a.len b.len,fun l hl hn=>by
  rw[b.old l (Nat.lt_of_lt_of_le hl a.len) ?_,a.old l hl hn]
  simp only[List.mem_cons,List.not_mem_nil,or_false,not_or]at hn ⊢
  omega⟩
def ReL(first:List Int)(i ls lo lh ll:Nat)(S S':Sto)(r:Bool×M):Prop:=
 ∃ls' lo' lh',Al first i ls' lo' lh' ll r.2 S'/\Fr [i,ls,lo,lh,ll] S S'/\(ls'=ls\/S.length<=ls')/\(lo'=lo\/S.length<=lo')/\(lh'=lh\/S.length<=lh')
theorem ReL.here(h:Al first i ls lo lh ll m S){b:Bool}:ReL first i ls lo lh ll S S (b,m):=⟨ls,lo,lh,h,.refl,.inl rfl,.inl rfl,.inl rfl⟩
theorem ReL.go{ls1 lo1 lh1:Nat}{S1 S2:Sto}{r:Bool×M}(a:Fr [i,ls,lo,lh,ll] S S1)(p:ls1=ls\/S.length<=ls1)(q:lo1=lo\/S.length<=lo1)(t:lh1=lh\/S.length<=lh1)(h:ReL first i ls1 lo1 lh1 ll S1 S2 r):ReL first i ls lo lh ll S S2 r:=by
 obtain⟨ls',lo',lh',e1,e2,e3,e4,e5⟩:=h
 exact⟨ls',lo',lh',e1,AZ a p q t e2,Cv a.len p e3,Cv a.len q e4,Cv a.len t e5⟩
variable{α:Type}{fw:Fn}{rn:List α->M->Bool×M}{f:α->U}{k:List α->Prop}
def jr(N:Nat):List (Key×U):=[(.inr "state",.ref (N+1)),(.inr "own",.ref (N+2)),(.inr "hands",.ref (N+3))]
theorem C3(N:Nat):oy [(.inr "state",.ref (N+1)),(.inr "own",.ref (N+2)),(.inr "hands",.ref (N+3))]=jr N:=by rfl
theorem zN(N:Nat):cS (jr N) (.inr "state")=some (.ref (N+1)):=by rfl
theorem FV(N:Nat):cS (jr N) (.inr "own")=some (.ref (N+2)):=by rfl
theorem zO(N:Nat):cS (jr N) (.inr "hands")=some (.ref (N+3)):=by rfl
theorem pz{a b c d:Nat}:(l7 a b c d).length<LIM:=by show 4<LIM;unfold LIM;omega
theorem DC{fp:Fn}{N:Nat}{ρ:Rho}(hi:S[i]?=some (.dic (l7 ls lo lh ll)))(hN:S[N]?=some (.dic (jr N))){r0 r1 r3 r4 r6:Option U} :
  ∃r6',yc (ah 5) (gNm 6) (cR fp fw) [r0,r1,some (.ref i),r3,r4,some (.ref N),r6] S=some (.nx,[r0,r1,some (.ref i),r3,r4,some (.ref N),r6'],S.set i (.dic (l7 (N+1) (N+2) (N+3) ll))):=by
 have ni:i≠N:=fun z=>by subst z;rw[hi]at hN;cases hN
 have li:=br hi
 have lN:=br hN
 refine⟨some (.str "hands"),?_⟩
 unfold yc
 simp only[vw,List.getElem?_cons_succ,List.getElem?_cons_zero,p9,Option.bind_some,hN]
 refine vN fun ep=>?_
 have g0:∀X Y,((S.set N X).set i Y)[N]?=some X:=fun X Y=>by rw[List.getElem?_set_ne ni];exact List.getElem?_set_self lN
 have g00:∀X,(S.set N X)[N]?=some X:=fun X=>List.getElem?_set_self lN
 have g1:∀X Y,((S.set N X).set i Y)[i]?=some Y:=fun X Y=>List.getElem?_set_self (by simpa using li)
 have g2:∀X,(S.set N X)[i]?=some (.dic (l7 ls lo lh ll)):=fun X=>by rw[List.getElem?_set_ne (Ne.symm ni)];exact hi
 have e:dH (fun S'=>S'[N]?=some (.fdc ep (jr N))) (gNm 6) (cR fp fw) ((jr N).map fun q=>kU q.1) [r0,r1,some (.ref i),r3,r4,some (.ref N),r6] (S.set N (.fdc ep (jr N)))
   = some (.nx,[r0,r1,some (.ref i),r3,r4,some (.ref N),some (.str "hands")],(S.set N (.fdc ep (jr N))).set i (.dic (l7 (N+1) (N+2) (N+3) ll))):=by
  refine(bx (ρ1:=[r0,r1,some (.ref i),r3,r4,some (.ref N),some (.str "state")]) (S1:=(S.set N (.fdc ep (jr N))).set i (.dic (l7 (N+1) lo lh ll))) (g00 _) rfl ?_).trans ?_
  ·rwa[cR,kU,g00,g2,Bm,zN,zA,pz,if_true]
  refine(bx (ρ1:=[r0,r1,some (.ref i),r3,r4,some (.ref N),some (.str "own")]) (S1:=(S.set N (.fdc ep (jr N))).set i (.dic (l7 (N+1) (N+2) lh ll))) (g0 _ _) rfl ?_).trans ?_
  ·rwa[cR,kU,g0,g1,Bm,FV,FN,pz,if_true,List.set_set]
  refine(bx (ρ1:=[r0,r1,some (.ref i),r3,r4,some (.ref N),some (.str "hands")]) (S1:=(S.set N (.fdc ep (jr N))).set i (.dic (l7 (N+1) (N+2) (N+3) ll))) (g0 _ _) rfl ?_).trans ?_
  ·rwa[cR,kU,g0,g1,Bm,zO,zB,pz,if_true,List.set_set]
  exact d6 (g0 _ _)
 rw[e,Option.bind_some]
 simp only[g0]
 congr 3
 rw[List.set_comm _ _ ni,List.set_set,o5 hN]
end
theorem Fr.app{ls:List Nat}{S:Sto}(T:Sto):Fr ls S (S++T):=⟨by simp,fun l hl _=>by rw[List.getElem?_append_left hl]⟩
section
variable{w:Int}{first:List Int}{i ls lo lh ll:Nat}{m:M}{S:Sto}{n:Int}
variable{α:Type}{fw:Fn}{rn:List α->M->Bool×M}{f:α->U}{k:List α->Prop}
def HwT(first:List Int)(n w:Int)(i:Nat)(fw:Fn)(rn:List α->M->Bool×M)(f:α->U)(k:List α->Prop):Prop:=∀(a:List α) (m:M) (ls lo lh ll:Nat) (S:Sto),k a->Al first i ls lo lh ll m S->Wf n m->∃S',fw [.tup [.int n,.int w],.tup (a.map f),.ref i] S=some (.bl (!(rn a m).1),S')/\ReL first i ls lo lh ll S S' (rn a m)/\Wf n (rn a m).2
theorem fB(Hw:HwT first n w i fw rn f k)(all:U)(lf:first.length=n.toNat)(n0:0<=n)(n1:n<=6)(w0:2<=w):∀(ds:List (DF α)) (out:Nat) (r4 r5 r6:Option U) (m:M) (ls lo lh:Nat) (S:Sto),(∀d∈ds,d.ok n w k)->Al first i ls lo lh ll m S->Wf n m->
  ∃ρ S',dH (fun _=>True) (gNm 4) (bh DP fw) (ds.map (DF.u f)) [some (.tup [.int n,.int w]),some all,some (.ref i),some (.int out),r4,r5,r6] S=some (if (eA w first rn ds out m).1 then Out.nx else Out.rt (.bl true),ρ,S')/\ReL first i ls lo lh ll S S' (eA w first rn ds out m)/\Wf n (eA w first rn ds out m).2
 |[],out,r4,r5,r6,m,ls,lo,lh,S,_,h,wf=>⟨_,S,by rw[eA];exact d6 trivial,by rw[eA];exact .here h,by rw[eA];exact wf⟩
 |d::r,out+1,r4,r5,r6,m,ls,lo,lh,S,oa,h,wf=>by
  obtain⟨ρ,S',e,ih⟩:=fB Hw all lf n0 n1 w0 r out (some (d.u f)) r5 r6 m ls lo lh S (fun x hx=>oa x (List.mem_cons_of_mem _ hx)) h wf
  rw[eA]
  refine⟨ρ,S',(bx trivial rfl ?_).trans e,ih⟩
  have e1:(0:Int)<((out+1:Nat):Int):=by omega
  have e2:((out+1:Nat):Int)-1=(out:Int):=by omega
  rwa[bh,e1,e2]
 |d::r,0,r4,r5,r6,m,ls,lo,lh,S,oa,h,wf=>by
  have od:=oa d List.mem_cons_self
  have or:∀x∈r,x.ok n w k:=fun x hx=>oa x (List.mem_cons_of_mem _ hx)
  have z0:¬((0:Int)<((0:Nat):Int)):=by decide
  have h4:=wf.h4
  have plain:∀d':e9,d=.pl d'->d'≠.wait->(∀h k,d'≠.leap h k)->(∃x rr,d'.u=.tup (.str x::rr)/\decide (x=("wait":Str))=false/\decide (x=("leap":Str))=false/\decide (x=("try":Str))=false)->eA w first rn (.pl d'::r) 0 m=eA w first rn r 0 (step w first m d')->
    ∃ρ S',dH (fun _=>True) (gNm 4) (bh DP fw) ((d::r).map (DF.u f)) [some (.tup [.int n,.int w]),some all,some (.ref i),some (.int (0:Nat)),r4,r5,r6] S=some (if (eA w first rn (.pl d'::r) 0 m).1 then Out.nx else Out.rt (.bl true),ρ,S')/\ReL first i ls lo lh ll S S' (eA w first rn (.pl d'::r) 0 m)/\Wf n (eA w first rn (.pl d'::r) 0 m).2:=by
   rintro d' rfl nw nl ⟨x,rr,e0,s1,s2,s3⟩ e
   obtain⟨S1,hg,a1,f1⟩:=Jk (w:=w) h wf od lf n0 n1 w0 nw nl
   obtain⟨ρ,S',el,ih,iw⟩:=fB Hw all lf n0 n1 w0 r 0 (some d'.u) r5 r6 (step w first m d') ls lo lh S1 or a1 (vX wf od)
   rw[e]
   refine⟨ρ,S',(bx trivial rfl ?_).trans el,.go f1 (.inl rfl) (.inl rfl) (.inl rfl) ih,iw⟩
   simp only[DF.u]
   rw[e0]at hg ⊢
   rwa[bh,z0,s1,s2,s3,hg]
  cases d with
  |tr a b=>
   obtain⟨ka,kb⟩:=od
   have li:=br h.ei
   have l1:=br h.es
   have l2:=br h.eo
   have l3:=br h.eh
   have l4:=br h.el
   have h1:=h.app [.dic []]
   have h2:=h.app [.dic [],.lst ((beh first m.ps 0).map U.int)]
   have h3:=h.app [.dic [],.lst ((beh first m.ps 0).map U.int),.lst ((m.ps.map (·.1)).map U.int)]
   have h4:=h.app [.dic (jr S.length),.lst ((beh first m.ps 0).map U.int),.lst ((m.ps.map (·.1)).map U.int),.lst (m.hs.map U.int)]
   obtain⟨S5,er,⟨ls5,lo5,lh5,a5,f5,p5,q5,t5⟩,wf5⟩:=Hw a m ls lo lh ll _ ka h4 wf
   have ff:Fr [i,ls,lo,lh,ll] S S5:=Fr.trans (Fr.app _) f5
   have len5:=f5.len
   simp only[List.length_append,List.length_cons,List.length_nil]at len5 p5 q5 t5
   rw[eA]
   unfold IF
   cases e:rn a m with
   |mk t m'=>
    rw[e]at er a5 wf5
    cases t with
    |true=>
     obtain⟨ρ,S',el,ih,iw⟩:=fB Hw all lf n0 n1 w0 r 0 (some (DF.u f (.tr a b))) (some (.ref S.length)) r6 m' ls5 lo5 lh5 S5 or a5 wf5
     refine⟨ρ,S',(bx trivial rfl ?_).trans el,.go ff (by omega) (by omega) (by omega) ih,iw⟩
     rwa[bh,DF.u,z0,h.ei,h1.ei,h1.es,h2.ei,h2.eo,h3.ei,h3.eh,dC,iZ,cU,C3,er,List.length_append,Nat.zero_add,Nat.reduceAdd,SNX]
    |false=>
     have old:∀x,x<4->S5[S.length+x]?=[O.dic (jr S.length),.lst ((beh first m.ps 0).map U.int),.lst ((m.ps.map (·.1)).map U.int),.lst (m.hs.map U.int)][x]?:=fun x hx=>by
      rw[f5.old _ (by simp;omega) (by simp;omega),ga]
     have o0:S5[S.length]?=some (.dic (jr S.length)):=old 0 (by omega)
     obtain⟨r6',eb⟩:=DC (fw:=fw) (fp:=DP) (ρ:=[]) (r0:=some (.tup [.int n,.int w])) (r1:=some all) (r3:=some (.int (0:Nat))) (r4:=some (DF.u f (.tr a b))) (r6:=r6) a5.ei o0
     have k5:=a5.ns
     have a6:Al first i (S.length+1) (S.length+2) (S.length+3) ll ⟨m.hs,m.ps,m'.lk⟩ (S5.set i (.dic (l7 (S.length+1) (S.length+2) (S.length+3) ll))):=
      ⟨List.getElem?_set_self (br a5.ei),by rw[List.getElem?_set_ne (by omega)];exact old 1 (by omega),by rw[List.getElem?_set_ne (by omega)];exact old 2 (by omega),by rw[List.getElem?_set_ne (by omega)];exact old 3 (by omega),by rw[List.getElem?_set_ne k5.2.2.2];exact a5.el,by omega⟩
     have f6:Fr [i,ls,lo,lh,ll] S (S5.set i (.dic (l7 (S.length+1) (S.length+2) (S.length+3) ll))):=ff.trans (.set (by simp))
     obtain⟨S7,er7,⟨ls7,lo7,lh7,a7,f7,p7,q7,t7⟩,wf7⟩:=Hw b ⟨m.hs,m.ps,m'.lk⟩ _ _ _ _ _ kb a6 ⟨wf.h4,wf.pk,wf.pb,wf5.lk,wf5.lb⟩
     have ff7:Fr [i,ls,lo,lh,ll] S S7:=AZ f6 (.inr (by omega)) (.inr (by omega)) (.inr (by omega)) f7
     have len7:=f7.len
     simp only[List.length_set]at len7 p7 q7 t7
     simp only[DF.u]at eb
     have e6:=a6.ei
     cases e2:rn b ⟨m.hs,m.ps,m'.lk⟩with
     |mk t2 m2=>
      rw[e2]at er7 a7 wf7
      cases t2 with
      |true=>
       obtain⟨ρ,S',el,ih,iw⟩:=fB Hw all lf n0 n1 w0 r 0 (some (DF.u f (.tr a b))) (some (.ref S.length)) r6' m2 ls7 lo7 lh7 S7 or a7 wf7
       simp only[e2]
       refine⟨ρ,S',(bx trivial rfl ?_).trans el,.go ff7 (.inr (by omega)) (.inr (by omega)) (.inr (by omega)) ih,iw⟩
       rwa[bh,DF.u,z0,h.ei,h1.ei,h1.es,h2.ei,h2.eo,h3.ei,h3.eh,dC,iZ,cU,C3,er,eb,er7,List.length_append,Nat.zero_add,Nat.reduceAdd,SNX]
      |false=>
       simp only[e2]
       refine⟨[some (.tup [.int n,.int w]),some all,some (.ref i),some (.int (0:Nat)),some (DF.u f (.tr a b)),some (.ref S.length),r6'],S7,rX trivial rfl ?_,⟨ls7,lo7,lh7,a7,ff7,.inr (by omega),.inr (by omega),.inr (by omega)⟩,wf7⟩
       rwa[bh,DF.u,z0,h.ei,h1.ei,h1.es,h2.ei,h2.eo,h3.ei,h3.eh,dC,iZ,cU,C3,er,eb,er7,List.length_append,Nat.zero_add,Nat.reduceAdd,SNX]
  |pl d=>
   cases d with
   |wait=>
    refine⟨[some (.tup [.int n,.int w]),some all,some (.ref i),some (.int (0:Nat)),some (e9.u .wait),r5,r6],S,(rX trivial rfl ?_).trans (by rw[eA];rfl),by rw[eA];exact .here h,by rw[eA];exact wf⟩
    rwa[bh,z0,DF.u,e9.u,SNX]
   |leap g j=>
    obtain⟨h0,h4',k0,k1⟩:=od
    rw[eA]
    have cm:∀{x:Int},vt j x:=fun{x}=>.inl ⟨by omega,by omega⟩
    by_cases z:m.hs.getD g.toNat 0=0
    ·rw[if_pos z]
     obtain⟨ρ,S',el,ih⟩:=fB Hw all lf n0 n1 w0 r j.toNat (some (e9.u (.leap g j))) r5 r6 m ls lo lh S or h wf
     refine⟨ρ,S',(bx trivial rfl ?_).trans el,ih⟩
     have e1:((j.toNat:Nat):Int)=j*1:=by omega
     rw[e1]
     rwa[bh,z0,DF.u,e9.u,h.ei,h.eh,cU,at4 h4 h0 h4',z,yu cm,if_true,SNX]
    ·rw[if_neg z]
     obtain⟨ρ,S',el,ih⟩:=fB Hw all lf n0 n1 w0 r 0 (some (e9.u (.leap g j))) r5 r6 m ls lo lh S or h wf
     refine⟨ρ,S',(bx trivial rfl ?_).trans el,ih⟩
     have e1:((0:Nat):Int)=j*0:=by omega
     rw[e1]
     rwa[bh,Int.mul_zero,Int.lt_irrefl,DF.u,e9.u,h.ei,h.eh,cU,at4 h4 h0 h4',z,yu cm,if_false,Bool.false_eq_true,SNX]
   |look g b=>exact plain _ rfl (by simp) (by simp) ⟨_,_,rfl,g7,g8,gE⟩ (by rw[eA])
   |put g b=>exact plain _ rfl (by simp) (by simp) ⟨_,_,rfl,jd,je,iO⟩ (by rw[eA])
   |set g b=>exact plain _ rfl (by simp) (by simp) ⟨_,_,rfl,jb,jc,iN⟩ (by rw[eA])
   |plus g b=>exact plain _ rfl (by simp) (by simp) ⟨_,_,rfl,g5,g6,gD⟩ (by rw[eA])
end
section
variable{w:Int}{first:List Int}{i ls lo lh ll:Nat}{m:M}{S:Sto}{n:Int}
def pS(fw:Fn):Fn:=fnU 7 3 (dJ DP fw)
theorem oU{α:Type}{fw:Fn}{rn:List α->M->Bool×M}{f:α->U}{k:List α->Prop}(Hw:HwT first n w i fw rn f k)(lf:first.length=n.toNat)(n0:0<=n)(n1:n<=6)(w0:2<=w)(ds:List (DF α))(oa:∀d∈ds,d.ok n w k)(h:Al first i ls lo lh ll m S)(wf:Wf n m) :
  ∃S',pS fw [.tup [.int n,.int w],.tup (ds.map (DF.u f)),.ref i] S=some (.bl (!(eA w first rn ds 0 m).1),S')/\ReL first i ls lo lh ll S S' (eA w first rn ds 0 m)/\Wf n (eA w first rn ds 0 m).2:=by
 unfold pS
 rw[qT]
 obtain⟨ρ,S',e1,e2,e3⟩:=fB Hw (.tup (ds.map (DF.u f))) lf n0 n1 w0 ds 0 none none none m ls lo lh S oa h wf
 refine⟨S',?_,e2,e3⟩
 have z:((0:Nat):Int)=0:=rfl
 rw[z]at e1
 cases e:(eA w first rn ds 0 m).1 with
 |true=>rw[e]at e1;simp only[if_true]at e1;rwa[dJ,j7,iTp,e1]
 |false=>rw[e]at e1;simp only[Bool.false_eq_true,if_false]at e1;rwa[dJ,j7,iTp,e1]
def sO:Nat->Fn
 |0=>pS fun _ _=>none
 |j+1=>pS (sO j)
theorem tx(lf:first.length=n.toNat)(n0:0<=n)(n1:n<=6)(w0:2<=w):∀J j:Nat,j<=J->HwT first n w i (sO J) (nL w first j) (Dl.u j) (OkL n w j)
 |0,0,_=>fun a m ls lo lh ll S ka h wf=>oU (k:=fun _=>False) (fun a m ls lo lh ll S ka=>ka.elim) lf n0 n1 w0 a ka.2 h wf
 |J+1,0,_=>fun a m ls lo lh ll S ka h wf=>oU (k:=fun _=>False) (fun a m ls lo lh ll S ka=>ka.elim) lf n0 n1 w0 a ka.2 h wf
 |J+1,j+1,hJ=>fun a m ls lo lh ll S ka h wf=>oU (tx lf n0 n1 w0 J j (by omega)) lf n0 n1 w0 a ka.2 h wf
def dj(j:Nat):Fn:=fnU 4 3 (dM (sO j))
theorem AO(N:Nat):oy [(.inr "state",.ref (N+1)),(.inr "own",.ref (N+2)),(.inr "hands",.ref (N+3)),(.inr "looked",.ref (N+4))]=l7 (N+1) (N+2) (N+3) (N+4):=by rfl
theorem wV{J j:Nat}(hJ:j<=J)(S0:Sto)(ds:List (Dl j))(od:OkL n w j ds)(lf:first.length=n.toNat)(n0:0<=n)(n1:n<=6)(w0:2<=w) :
  ∃G l,dj J [.tup [.int n,.int w],.tup (ds.map (Dl.u j)),.tup (first.map U.int)] S0=some (told (nL w first j ds m0) first l,S0++G)/\((nL w first j ds m0).1=false->(S0++G)[l]?=some (.lst ((cV (nL w first j ds m0).2.lk).map U.int))/\S0.length<=l)/\Wf n (nL w first j ds m0).2:=by
 unfold dj
 rw[qV]
 have h0:Al first S0.length (S0.length+1) (S0.length+2) (S0.length+3) (S0.length+4) m0 (S0++[.dic (l7 (S0.length+1) (S0.length+2) (S0.length+3) (S0.length+4)),.lst (first.map U.int),.lst [],.lst [.int 0,.int 0,.int 0,.int 0],.lst []]):=
  ⟨by rw[ga0];rfl,by rw[ga];simp[m0,DB],by rw[ga];rfl,by rw[ga];rfl,by rw[ga];rfl,by omega⟩
 obtain⟨S1,er,⟨ls1,lo1,lh1,a1,f1,p1,q1,t1⟩,wf1⟩:=tx lf n0 n1 w0 J j hJ ds m0 _ _ _ _ _ od h0 ⟨rfl,by simp[m0],by simp[m0],by simp[m0],by simp[m0]⟩
 obtain⟨G1,rfl⟩:∃G,S1=S0++G:=xt (ls:=[]) (by have:=f1.len;simp at this;omega) fun l hl=>by
  rw[f1.old l (by simp;omega) (by simp;omega),List.getElem?_append_left hl]
 obtain⟨_,k2⟩:=wf1.few n0 n1
 unfold told
 cases e:nL w first j ds m0 with
 |mk b m=>
  rw[e]at er a1 k2 wf1
  cases b with
  |true=>
   refine⟨G1,0,?_,by simp,wf1⟩
   rwa[dM,AO,dC,cU,d5,er,a1.ei,a1.es,a1.eh,List.length_append,Nat.zero_add,Nat.reduceAdd]
  |false=>
   have l0:m.lk.length<64:=Nat.lt_of_le_of_lt k2 (by decide)
   have hs:eK [.ref (S0.length+4)] (S0++G1)=some (.ref (S0++G1).length,(S0++G1)++[.lst ((cV m.lk).map U.int)]):=by
    simp only[eK,a1.el,iG,Option.bind_some,l0,if_true]
   refine⟨G1++[.lst ((cV m.lk).map U.int)],(S0++G1).length,?_,fun _=>⟨?_,by simp⟩,wf1⟩
   ·rwa[dM,AO,dC,cU,d5,er,a1.ei,hs,List.length_append,Nat.zero_add,Nat.reduceAdd]
   ·rw[<-List.append_assoc,ga0];rfl
end
theorem Bn{x:U}{S:Sto}:Gs x .non S=some (.bl (pC x),S):=rfl
section
variable{α:Type}{n w:Int}{f:α->U}{k:List α->Prop}{s:List α->Int}
def szF(s:List α->Int):List (DF α)->Int
 |[]=>0
 |.pl _::r=>1+szF s r
 |.tr a b::r=>1+s a+s b+szF s r
theorem oY(s:List α->Int):∀(x y:List (DF α)),szF s (x++y)=szF s x+szF s y
 |[],y=>by simp[szF]
 |.pl d::r,y=>by simp only[List.cons_append,szF,oY s r y];omega
 |.tr a b::r,y=>by simp only[List.cons_append,szF,oY s r y];omega
def HsT(fs:Fn)(f:α->U)(k:List α->Prop)(s:List α->Int):Prop:=∀(a:List α) (S:Sto),k a->fs [.tup (a.map f)] S=some (.int (s a),S)
def uy(fs:Fn):Fn:=fnU 3 1 (fJ fs)
theorem mM{fs:Fn}(Hs:HsT fs f k s)(x:U):∀(ds:List (DF α)) (many:Int) (r2:Option U) (S:Sto),(∀d∈ds,d.ok n w k)->
  ∃r2',dH (fun _=>True) (gNm 2) (fz fs) (ds.map (DF.u f)) [some x,some (.int many),r2] S=some (.nx,[some x,some (.int (many+szF s ds)),r2'],S)
 |[],many,r2,S,_=>⟨r2,by simp only[szF,Int.add_zero,List.map_nil];exact d6 trivial⟩
 |d::r,many,r2,S,oa=>by
  have od:=oa d List.mem_cons_self
  cases d with
  |pl d=>
   obtain⟨r2',ih⟩:=mM Hs x r (many+1) (some d.u) S fun y hy=>oa y (List.mem_cons_of_mem _ hy)
   have e:many+szF s (.pl d::r)=many+1+szF s r:=by simp only[szF];omega
   rw[e]
   refine⟨r2',(bx trivial rfl ?_).trans ih⟩
   have h0:∃y rr,d.u=.tup (.str y::rr)/\decide (y=("try":Str))=false:=by
    cases d<;>first|exact⟨_,_,rfl,gE⟩|exact⟨_,_,rfl,iO⟩|exact⟨_,_,rfl,iN⟩|exact⟨_,_,rfl,gD⟩|exact⟨_,_,rfl,by decide +kernel⟩
   obtain⟨y,rr,e0,e1⟩:=h0
   simp only[DF.u]
   rw[e0]
   rwa[fz,e1]
  |tr a b=>
   obtain⟨ka,kb⟩:=od
   obtain⟨r2',ih⟩:=mM Hs x r (many+1+s a+s b) (some (DF.u f (.tr a b))) S fun y hy=>oa y (List.mem_cons_of_mem _ hy)
   have e:many+szF s (.tr a b::r)=many+1+s a+s b+szF s r:=by simp only[szF];omega
   rw[e]
   refine⟨r2',(bx trivial rfl ?_).trans ih⟩
   rwa[fz,DF.u,Hs a _ ka,Hs b _ kb,SNX]
theorem rM{fs:Fn}(Hs:HsT fs f k s)(ds:List (DF α))(S:Sto)(oa:∀d∈ds,d.ok n w k):uy fs [.tup (ds.map (DF.u f))] S=some (.int (szF s ds),S):=by
 unfold uy
 rw[sv]
 obtain⟨r2,e⟩:=mM Hs (.tup (ds.map (DF.u f))) ds 0 none S oa
 rw[Int.zero_add]at e
 rwa[fJ,j7,iTp,e]
end
def ve:Nat->Fn
 |0=>uy fun _ _=>none
 |j+1=>uy (ve j)
def BZ:(j:Nat)->List (Dl j)->Int
 |0,ds=>szF (fun _=>0) ds
 |j+1,ds=>szF (BZ j) ds
theorem o3{n w:Int}:∀J j:Nat,j<=J->HsT (ve J) (Dl.u j) (OkL n w j) (BZ j)
 |0,0,_=>fun a S ka=>rM (n:=n) (w:=w) (k:=fun _=>False) (fun _ _ z=>z.elim) a S ka.2
 |J+1,0,_=>fun a S ka=>rM (n:=n) (w:=w) (k:=fun _=>False) (fun _ _ z=>z.elim) a S ka.2
 |J+1,j+1,h=>fun a S ka=>rM (n:=n) (w:=w) (o3 J j (by omega)) a S ka.2
section
variable{α:Type}{f:α->U}{k:List α->Prop}{s:List α->Int}
def HdT(n w t:Int)(fd:Fn)(f:α->U)(k:List α->Prop)(s:List α->Int):Prop:=∀(ns:List Int) (T:Sto) (a c room:Int),0<=a->0<=c->0<=room->room<=40->
 ∃(ds:List α) (a' c':Int) (G:Sto),fd [.ref 1,.tup [.int n,.int w],.int room,.int t] (scr ns::pen a c::T)=some (.tup (ds.map f),scr ns::pen a' c'::(T++G))/\k ds/\s ds<=room/\0<=s ds/\0<=a'/\0<=c'/\ds.length<=12
def iW(ak aT aE aK:Fn):CS:=
 (dQ (nI (aG (cOp fGt (ah 5) (cC (.int 0)))) (nI (aG (cOp fLt (cCB gh (ae (ah 4) aB)) (cC (.int 12)))) (aG (cOp fLt (ah 7) (cC (.int 13)))))) (bf (ef (cBM bW (ah 4) (ae (cCB aT (ae (ah 0) (ae (ah 1) (ae (ah 7) (ae (ah 8) aB))))) aB)))
  (bN 5 (cOp pI (ah 5) (cC (.int 1))))) (dQ (nI (aG (cOp fGt (ah 5) (cC (.int 0)))) (nI (aG (cOp fLt (cCB gh (ae (ah 4) aB)) (cC (.int 12)))) (cOr (aG (cOp fEq (ah 7) (cC (.int 13)))) (aG (cOp fEq (ah 3) (cC (.int 0))))))) (bf (dQ (nI (aG (cOp fGt (ah 5) (cC (.int 1)))) (nI (aG (cOp fLt (cCB gh (ae (ah 4) aB)) (cC (.int 11)))) (aG (cOp fGt (cCB ak (ae (ah 0) (ae (cC (.int 4)) aB))) (cC (.int 0)))))) (bf (ef (cBM bW (ah 4) (ae (cI (ae (cC (.str "leap")) (ae (ah 8) (ae (cC (.int 1)) aB)))) aB)))
  (bN 5 (cOp pI (ah 5) (cC (.int 1))))) cf)
  (bf (ef (cBM bW (ah 4) (ae (cI (ae (cC (.str "wait")) aB)) aB)))
  (bN 5 (cOp pI (ah 5) (cC (.int 1)))))) (dQ (nI (aG (cOp fGt (ah 5) (cC (.int 0)))) (aG (cOp fLt (cCB gh (ae (ah 4) aB)) (cC (.int 12))))) (bf (bN 9 (cCB aE (ae (ah 0) (ae (ah 1) (ae (cCB ak (ae (ah 0) (ae (ah 5) aB))) (ae (cOp pI (ah 3) (cC (.int 1))) aB))))))
  (bf (bN 5 (cOp pI (cOp pI (ah 5) (cC (.int 1))) (cCB aK (ae (ah 9) aB))))
  (bf (bN 10 (cCB aE (ae (ah 0) (ae (ah 1) (ae (cCB ak (ae (ah 0) (ae (cOp fu (ah 5) (cC (.int 1))) aB))) (ae (cOp pI (ah 3) (cC (.int 1))) aB))))))
  (bf (bN 5 (cOp pI (ah 5) (cCB aK (ae (ah 10) aB))))
  (ef (cBM bW (ah 4) (ae (cI (ae (cC (.str "try")) (ae (ah 9) (ae (ah 10) aB)))) aB))))))) cf)))
theorem GD{f g h i:Fn}:dD f g h i=bf (bN 7 (cCB f (ae (ah 0) (ae (cC (.int 16)) aB)))) (bf (bN 8 (cCB f (ae (ah 0) (ae (cC (.int 4)) aB)))) (iW f g h i)):=rfl
theorem dh(ns:List Int)(T:Sto){n w room t:Int}{fd fs:Fn}(Hs:HsT fs f k s)(Hd:t≠0->HdT n w (t-1) fd f k s)(n0:1<=n)(n1:n<=6)(w0:2<=w)(w1:w<=1000)(rm:room<=40):∀(us:List U) (r6 r7 r8 r9 r10:Option U) (left:Int) (ds:List (DF α)) (G:Sto) {a c:Int},0<=a->0<=c->ds.length<=12->(∀d∈ds,d.ok n w k)->0<=left->szF s ds+left<=room->0<=szF s ds->
  ∃(ds':List (DF α)) (ρ:Rho) (a' c':Int) (G':Sto),dH (fun _=>True) (gNm 6) (dD fN kK fd fs) us [some (.ref 1),some (.tup [.int n,.int w]),some (.int room),some (.int t),some (.ref (T.length+1+1)),some (.int left),r6,r7,r8,r9,r10] (scr ns::pen a c::(T++.lst (ds.map (DF.u f))::G))
   = some (.nx,some (.ref 1)::some (.tup [.int n,.int w])::some (.int room)::some (.int t)::some (.ref (T.length+1+1))::ρ,scr ns::pen a' c'::(T++.lst (ds'.map (DF.u f))::G'))/\ds'.length<=12/\(∀d∈ds',d.ok n w k)/\szF s ds'<=room/\0<=szF s ds'/\0<=a'/\0<=c'
 |[],r6,r7,r8,r9,r10,left,ds,G,a,c,ha,hc,hl,hd,l0,sz,s0=>⟨ds,_,a,c,G,by simp[dH];rfl,hl,hd,by omega,s0,ha,hc⟩
 |u::us,r6,r7,r8,r9,r10,left,ds,G,a,c,ha,hc,hl,hd,l0,sz,s0=>by
  obtain⟨f1,a1,c1,e1,p1,q1,ha1,hc1⟩:=bK ns (T++.lst (ds.map (DF.u f))::G) (m:=16) ha hc (by decide) (by decide +kernel)
  obtain⟨f2,a2,c2,e2,p2,q2,ha2,hc2⟩:=bK ns (T++.lst (ds.map (DF.u f))::G) (m:=4) ha1 hc1 (by decide) (by decide +kernel)
  have pre:dD fN kK fd fs [some (.ref 1),some (.tup [.int n,.int w]),some (.int room),some (.int t),some (.ref (T.length+1+1)),some (.int left),some u,r7,r8,r9,r10] (scr ns::pen a c::(T++.lst (ds.map (DF.u f))::G))
    = iW fN kK fd fs [some (.ref 1),some (.tup [.int n,.int w]),some (.int room),some (.int t),some (.ref (T.length+1+1)),some (.int left),some u,some (.int f1),some (.int f2),r9,r10] (scr ns::pen a2 c2::(T++.lst (ds.map (DF.u f))::G)):=by
   rw[GD]
   rwa[e1,e2]
  by_cases hL:0<left
  case neg=>
   obtain⟨ds',ρ,a',c',G',h,kk⟩:=dh ns T (room:=room) (t:=t) (fd:=fd) (fs:=fs) Hs Hd n0 n1 w0 w1 rm us (some u) (some (.int f1)) (some (.int f2)) r9 r10 left ds G ha2 hc2 hl hd l0 sz s0
   exact⟨ds',ρ,a',c',G',(bx trivial rfl (pre.trans (by rwa[iW,hL]))).trans h,kk⟩
  by_cases hN:(ds.length:Int)<12
  case neg=>
   obtain⟨ds',ρ,a',c',G',h,kk⟩:=dh ns T (room:=room) (t:=t) (fd:=fd) (fs:=fs) Hs Hd n0 n1 w0 w1 rm us (some u) (some (.int f1)) (some (.int f2)) r9 r10 left ds G ha2 hc2 hl hd l0 sz s0
   exact⟨ds',ρ,a',c',G',(bx trivial rfl (pre.trans (by rwa[iW,hL,hN,List.length_map]))).trans h,kk⟩
  have hlm:(ds.map (DF.u f)).length<LIM:=by unfold LIM;simp;omega
  have okd:∀{ds:List (DF α)} {d:DF α},(∀d∈ds,d.ok n w k)->d.ok n w k->∀x∈ds++[d],x.ok n w k:=fun h1 h2 x hx=>by
   rcases List.mem_append.mp hx with z|z
   ·exact h1 x z
   ·simp at z;subst z;exact h2
  have s1:∀(x:List (DF α)) (d:e9),szF s (x++[.pl d])=szF s x+1:=fun x d=>by rw[oY];simp[szF]
  by_cases hW:f1<13
  ·obtain⟨d,a3,c3,G3,e3,od,ha3,hc3⟩:=ze ns (T++.lst (ds.map (DF.u f))::G) ha2 hc2 n0 n1 w0 w1 p1 p2 q2
   obtain⟨ds',ρ,a',c',G',h,kk⟩:=dh ns T (room:=room) (t:=t) (fd:=fd) (fs:=fs) Hs Hd n0 n1 w0 w1 rm us (some u) (some (.int f1)) (some (.int f2)) r9 r10 (left-1) (ds++[.pl d]) (G++G3) ha3 hc3 (by simp;omega) (okd hd (show DF.ok n w k (.pl d)from od)) (by omega) (by rw[s1];omega) (by rw[s1];omega)
   simp only[List.map_append,List.map_cons,List.map_nil,DF.u]at h
   exact⟨ds',ρ,a',c',G',(bx trivial rfl (pre.trans (by rwa[iW,e3,hL,hN,hW,fk hlm,List.length_map]))).trans h,kk⟩
  ·have wt:DF.u f (.pl .wait)=U.tup [.str "wait"]:=rfl
   obtain⟨bE,hE⟩:∃b,decide (f1=13)=b:=⟨_,rfl⟩
   obtain⟨bT,hT⟩:∃b,decide (t=0)=b:=⟨_,rfl⟩
   by_cases hX:bE=false/\bT=false
   ·obtain⟨rfl,rfl⟩:=hX
    have tz:t≠0:=of_decide_eq_false hT
    obtain⟨f3,a3,c3,e3,p3,q3,ha3,hc3⟩:=bK ns (T++.lst (ds.map (DF.u f))::G) (m:=left) ha2 hc2 hL (l9 (by omega) (by omega))
    obtain⟨A,a4,c4,G4,e4,kA,sA,sA0,ha4,hc4,_⟩:=Hd tz ns (T++.lst (ds.map (DF.u f))::G) a3 c3 f3 ha3 hc3 p3 (by omega)
    obtain⟨f5,a5,c5,e5,p5,q5,ha5,hc5⟩:=bK ns (T++.lst (ds.map (DF.u f))::(G++G4)) (m:=left-1-s A+1) ha4 hc4 (by omega) (l9 (by omega) (by omega))
    obtain⟨B,a6,c6,G6,e6,kB,sB,sB0,ha6,hc6,_⟩:=Hd tz ns (T++.lst (ds.map (DF.u f))::(G++G4)) a5 c5 f5 ha5 hc5 p5 (by omega)
    have s2:szF s (ds++[.tr A B])=szF s ds+1+s A+s B:=by rw[oY];simp only[szF];omega
    obtain⟨ds',ρ,a',c',G',h,kk⟩:=dh ns T (room:=room) (t:=t) (fd:=fd) (fs:=fs) Hs Hd n0 n1 w0 w1 rm us (some u) (some (.int f1)) (some (.int f2)) (some (.tup (A.map f))) (some (.tup (B.map f))) (left-1-s A-s B) (ds++[.tr A B]) (G++(G4++G6)) ha6 hc6 (by simp;omega) (okd hd (show DF.ok n w k (.tr A B)from⟨kA,kB⟩)) (by omega) (by rw[s2];omega) (by rw[s2];omega)
    simp only[List.map_append,List.map_cons,List.map_nil,DF.u]at h
    simp only[List.append_assoc,List.cons_append]at e4 e6
    exact⟨ds',ρ,a',c',G',(bx trivial rfl (pre.trans (by rwa[iW,e3,e4,e5,e6,Hs A _ kA,Hs B _ kB,hL,hN,hW,hE,hT,fk hlm,List.length_map]))).trans h,kk⟩
   have hO:(bE||bT)=true:=by cases bE<;>cases bT<;>simp_all
   have hC:∀S':Sto,(cOr (aG (cOp fEq (ah 7) (cC (.int 13)))) (aG (cOp fEq (ah 3) (cC (.int 0))))) [some (.ref 1),some (.tup [.int n,.int w]),some (.int room),some (.int t),some (.ref (T.length+1+1)),some (.int left),some u,some (.int f1),some (.int f2),r9,r10] S'=some (true,S'):=fun S'=>by
    cases bE<;>cases bT<;>first|(exact absurd hO (by decide))|rwa[hE,hT]
   by_cases hM:1<left
   case neg=>
    obtain⟨ds',ρ,a',c',G',h,kk⟩:=dh ns T (room:=room) (t:=t) (fd:=fd) (fs:=fs) Hs Hd n0 n1 w0 w1 rm us (some u) (some (.int f1)) (some (.int f2)) r9 r10 (left-1) (ds++[.pl .wait]) G ha2 hc2 (by simp;omega) (okd hd (show DF.ok n w k (.pl .wait)from trivial)) (by omega) (by rw[s1];omega) (by rw[s1];omega)
    simp only[List.map_append,List.map_cons,List.map_nil]at h
    refine⟨ds',ρ,a',c',G',(bx trivial rfl ?_).trans h,kk⟩
    refine pre.trans ?_
    rwa[iW,hC,hL,hN,hW,hM,wt,fk hlm,List.length_map]
   by_cases hK:(ds.length:Int)<11
   case neg=>
    obtain⟨ds',ρ,a',c',G',h,kk⟩:=dh ns T (room:=room) (t:=t) (fd:=fd) (fs:=fs) Hs Hd n0 n1 w0 w1 rm us (some u) (some (.int f1)) (some (.int f2)) r9 r10 (left-1) (ds++[.pl .wait]) G ha2 hc2 (by simp;omega) (okd hd (show DF.ok n w k (.pl .wait)from trivial)) (by omega) (by rw[s1];omega) (by rw[s1];omega)
    simp only[List.map_append,List.map_cons,List.map_nil]at h
    refine⟨ds',ρ,a',c',G',(bx trivial rfl ?_).trans h,kk⟩
    refine pre.trans ?_
    rwa[iW,hC,hL,hN,hW,hM,hK,wt,fk hlm,List.length_map]
   obtain⟨f3,a3,c3,e3,p3,q3,ha3,hc3⟩:=bK ns (T++.lst (ds.map (DF.u f))::G) (m:=4) ha2 hc2 (by decide) (by decide +kernel)
   by_cases hZ:0<f3
   ·have lp:DF.u f (.pl (.leap f2 1))=U.tup [.str "leap",.int f2,.int 1]:=rfl
    have hlm2:(ds.map (DF.u f)++[U.tup [.str "leap",.int f2,.int 1]]).length<LIM:=by unfold LIM;simp;omega
    obtain⟨ds',ρ,a',c',G',h,kk⟩:=dh ns T (room:=room) (t:=t) (fd:=fd) (fs:=fs) Hs Hd n0 n1 w0 w1 rm us (some u) (some (.int f1)) (some (.int f2)) r9 r10 (left-1-1) (ds++[.pl (.leap f2 1)]++[.pl .wait]) G ha3 hc3 (by simp;omega) (okd (okd hd (show DF.ok n w k (.pl (.leap f2 1))from⟨p2,q2,by omega,by omega⟩)) (show DF.ok n w k (.pl .wait)from trivial)) (by omega) (by rw[s1,s1];omega) (by rw[s1,s1];omega)
    simp only[List.map_append,List.map_cons,List.map_nil]at h
    refine⟨ds',ρ,a',c',G',(bx trivial rfl ?_).trans h,kk⟩
    refine pre.trans ?_
    rwa[iW,hC,e3,hL,hN,hW,hM,hK,hZ,lp,wt,fk hlm,fk hlm2,List.length_map]
   ·obtain⟨ds',ρ,a',c',G',h,kk⟩:=dh ns T (room:=room) (t:=t) (fd:=fd) (fs:=fs) Hs Hd n0 n1 w0 w1 rm us (some u) (some (.int f1)) (some (.int f2)) r9 r10 (left-1) (ds++[.pl .wait]) G ha3 hc3 (by simp;omega) (okd hd (show DF.ok n w k (.pl .wait)from trivial)) (by omega) (by rw[s1];omega) (by rw[s1];omega)
    simp only[List.map_append,List.map_cons,List.map_nil]at h
    refine⟨ds',ρ,a',c',G',(bx trivial rfl ?_).trans h,kk⟩
    refine pre.trans ?_
    rwa[iW,hC,e3,hL,hN,hW,hM,hK,hZ,wt,fk hlm,List.length_map]
theorem mi{n w t:Int}{fd fs:Fn}(Hs:HsT fs f k s)(Hd:t≠0->HdT n w (t-1) fd f k s)(n0:1<=n)(n1:n<=6)(w0:2<=w)(w1:w<=1000):HdT n w t (uD fd fs) (DF.u f) (fun ds=>ds.length<=30/\∀d∈ds,DF.ok n w k d) (szF s):=by
 intro ns T a c room ha hc r0 r1
 unfold uD
 rw[nS]
 have hm:JE [.int 12,.int room]=fun S=>some (.int (if room<12 then room else 12),S):=rfl
 have hk:0<=(if room<12 then room else 12)/\(if room<12 then room else 12)<=12:=by split<;>omega
 generalize (if room<12 then room else 12)=mm at hm hk
 obtain⟨f1,a1,c1,e1,p1,q1,ha1,hc1⟩:=bK ns (T++[.lst []]) (m:=mm+1) ha hc (by omega) (l9 (by omega) (by omega))
 obtain⟨ds,ρ,a',c',G,h,k1,k2,k3,k4,k5,k6⟩:=dh ns T (room:=room) (t:=t) (fd:=fd) (fs:=fs) Hs Hd n0 n1 w0 w1 r1 (du 0 f1.toNat) none none none none none room [] [] ha1 hc1 (by simp) (by simp) r0 (by simp[szF]) (by simp[szF])
 refine⟨ds,a',c',.lst (ds.map (DF.u f))::G,?_,⟨by omega,k2⟩,k3,k4,k5,k6,k1⟩
 have hr:-(2^62)<=f1/\f1<2^62:=by omega
 simp only[List.map_nil]at h
 rwa[dv,j7,fg,hm,e1,hr,h,if_true,and_self]
end
def pY:Nat->Fn
 |0=>uD (fun _ _=>none) fun _ _=>none
 |j+1=>uD (pY j) (ve j)
theorem uk{n w:Int}(n0:1<=n)(n1:n<=6)(w0:2<=w)(w1:w<=1000):∀(J j t:Nat),t<=j->j<=J->HdT n w t (pY J) (Dl.u j) (OkL n w j) (BZ j)
 |0,0,0,_,_=>mi (k:=fun _=>False) (fun _ _ z=>z.elim) (fun z=>absurd rfl z) n0 n1 w0 w1
 |J+1,0,0,_,_=>mi (k:=fun _=>False) (fun _ _ z=>z.elim) (fun z=>absurd rfl z) n0 n1 w0 w1
 |J+1,j+1,0,_,h=>mi (o3 J j (by omega)) (fun z=>absurd rfl z) n0 n1 w0 w1
 | J+1,j+1,t+1,h,h'=>mi (o3 J j (by omega)) (fun _=>by
   have e:((t+1:Nat):Int)-1=(t:Int):=by omega
   rw[e];exact uk n0 n1 w0 w1 J j t (by omega) (by omega)) n0 n1 w0 w1
theorem uE{x:U}{S:Sto}:pJ x .non S=some (.bl (!pC x),S):=rfl
theorem ug:pC .non=true:=rfl
theorem xi{us:List U}:pC (.tup us)=false:=rfl
theorem Gi{i:Int}:pC (.int i)=false:=rfl
theorem IL{us:List U}{k:Nat}{S:Sto}(h:k<us.length):fSl (.tup us) none (some (k:Int)) S=some (.tup (us.take k),S):=by
 have e:HT.sIx us.length us.length (some (k:Int))=k:=by rw[HT.sIx_nat];omega
 simp only[fSl,HT.sIx_none,e,DN,List.drop_zero,Nat.sub_zero]
 rw[if_neg (by omega)]
theorem BY{us:List U}{k:Nat}{S:Sto}(h0:0<k)(h:k<=us.length):fSl (.tup us) (some (k:Int)) none S=some (.tup (us.drop k),S):=by
 have e:HT.sIx us.length 0 (some (k:Int))=k:=by rw[HT.sIx_nat];omega
 simp only[fSl,HT.sIx_none,e,DN]
 rw[if_neg (by omega),List.take_of_length_le (by simp)]
def ux:Fn:=fnU 3 3 iI
theorem vJ{us:List U}{k:Int}{v:U}{S:Sto}(k0:0<=k)(h:k<us.length)(hl:us.length<=50):ux [.tup us,.int k,v] S=some (.tup (us.set k.toNat v),S):=by
 unfold ux
 rw[xK]
 have ek:k=((k.toNat:Nat):Int):=by omega
 have hk:k.toNat<us.length:=by omega
 have e1:k+1=((k.toNat+1:Nat):Int):=by omega
 have a1:fSl (.tup us) none (some k) S=some (.tup (us.take k.toNat),S):=by rw[ek];exact IL hk
 have a2:fSl (.tup us) (some (k+1)) none S=some (.tup (us.drop (k.toNat+1)),S):=by rw[e1];exact BY (by omega) (by omega)
 have b1:fu (.tup (us.take k.toNat)) (.tup [v]) S=some (.tup (us.take k.toNat++[v]),S):=by
  unfold fu;simp only;rw[if_pos (by simp;unfold LIM;omega)]
 have b2:fu (.tup (us.take k.toNat++[v])) (.tup (us.drop (k.toNat+1))) S=some (.tup (us.take k.toNat++[v]++us.drop (k.toNat+1)),S):=by
  unfold fu;simp only;rw[if_pos (by simp;unfold LIM;omega)]
 rw[List.set_eq_take_append_cons_drop,if_pos hk]
 rwa[iI,cSl,Ah,a1,a2,b1,b2]
def pt(ds:List U)(q:Int)(A B:U):U:=.tup [.tup ds,.int q,A,B]
inductive Onw:Nat->U->U->Prop
 |stop {d:Nat} {ds:List U} {q:Int} {A B:U}:q<ds.length->Onw d (pt ds q A B) (pt ds q A B)
 |top {d:Nat} {ds:List U} {q:Int} {B:U}:Onw d (pt ds q .non B) (pt ds q .non B)
 |up {d:Nat} {ds ds':List U} {q q':Int} {A' B B' y:U}:(ds.length:Int)<=q->Onw d (pt ds' q' A' B') y->Onw (d+1) (pt ds q (pt ds' q' A' B') B) y
def vg:Fn:=fnU 2 1 (iJ 100)
theorem zx{F:Nat}{d:Nat}{x y:U}{S:Sto}{r:Option U}(h:Onw d x y):∀(fuel:Nat),d<fuel->
  cW (nI (aG (cOp fGe (cOp fIx (ah 1) (cC (.int 1))) (cCB gh (ae (cOp fIx (ah 1) (cC (.int 0))) aB)))) (aG (cOp pJ (cOp fIx (ah 1) (cC (.int 2))) (cC .non)))) (jx F) fuel [r,some x] S=some (.nx,[r,some y],S):=by
 induction h with
 |@stop d ds q A B h=>
  intro fuel hf
  obtain⟨f,rfl⟩:∃f,fuel=f+1:=⟨fuel-1,by omega⟩
  have c:¬(ds.length:Int)<=q:=by omega
  refine gX ?_
  unfold pt
  rwa[c]
 |@top d ds q B=>
  intro fuel hf
  obtain⟨f,rfl⟩:∃f,fuel=f+1:=⟨fuel-1,by omega⟩
  refine gX ?_
  unfold pt
  by_cases c:(ds.length:Int)<=q
  ·rwa[c,uE,ug]
  ·rwa[c]
 |@up d ds ds' q q' A' B B' y h _ ih=>
  intro fuel hf
  obtain⟨f,rfl⟩:∃f,fuel=f+1:=⟨fuel-1,by omega⟩
  refine(lX (ρ1:=[r,some (pt ds' q' A' B')]) (S1:=S) (S0:=S) ?_ ?_).trans (ih f (by omega))
  ·unfold pt
   rwa[h,uE,xi]
  ·unfold pt
   rwa[jx]
theorem tU{d:Nat}{x y:U}{S:Sto}(h:Onw d x y)(hd:d<100):vg [x] S=some (y,S):=by
 unfold vg
 rw[xM]
 rwa[iJ,zx h 100 hd]
def sk(n:Nat)(ps:List (Int×Int)):List U:=(List.range n).map fun b:Nat=>((cS ps (b:Int)).map U.int).getD .non
theorem j2{n:Nat}{ps:List (Int×Int)}:(sk n ps).length=n:=by simp[sk]
theorem xI{n:Nat}{ps:List (Int×Int)}{b:Int}(b0:0<=b)(b1:b<n):atI (sk n ps) b=some (((cS ps b).map U.int).getD .non):=by
 refine lH b0 ?_
 unfold sk
 rw[List.getElem?_map,List.getElem?_range (by omega)]
 have:((b.toNat:Nat):Int)=b:=by omega
 simp[this]
theorem z6{n:Nat}{ps:List (Int×Int)}{b v:Int}(b0:0<=b)(b1:b<n):(sk n ps).set b.toNat (.int v)=sk n (lB ps b v):=by
 refine List.ext_getElem? fun i=>?_
 by_cases hi:i<n
 ·rw[List.getElem?_set,j2]
  unfold sk
  rw[List.getElem?_map,List.getElem?_map,List.getElem?_range hi]
  simp only[Option.map_some,rH]
  by_cases e:b.toNat=i
  ·have:(i:Int)=b:=by omega
   rw[if_pos e,if_pos (by omega),this,if_pos rfl];rfl
  ·rw[if_neg e,if_neg (by omega)]
 ·rw[List.getElem?_eq_none (by rw[List.length_set,j2];omega),List.getElem?_eq_none (by rw[j2];omega)]
theorem z7{n:Nat}:sk n []=List.replicate n .non:=by
 unfold sk
 refine List.ext_getElem? fun i=>?_
 by_cases hi:i<n
 ·rw[List.getElem?_map,List.getElem?_range hi,List.getElem?_replicate,if_pos hi];rfl
 ·rw[List.getElem?_eq_none (by simp;omega),List.getElem?_eq_none (by simp;omega)]
def dO(cD:Cl)(w:Int)(n:Nat)(m:M)(x:U):O:=.ins cD [some (.int w),some (.tup (m.hs.map U.int)),some (.tup (sk n m.ps)),some x]
structure Cf(cD:Cl)(w:Int)(n i ll:Nat)(m:M)(x:U)(S:Sto):Prop where
 ei:S[i]?=some (dO cD w n m x)
 el:S[ll]?=some (.dic (uZ m.lk))
structure Kp(ls:List Nat)(S S':Sto):Prop where
 len:S'.length=S.length
 old:∀l,l∉ls->S'[l]?=S[l]?
theorem Kp.refl{ls:List Nat}{S:Sto}:Kp ls S S:=⟨rfl,fun _ _=>rfl⟩
theorem Kp.set{ls:List Nat}{S:Sto}{l:Nat}{o:O}(h:l∈ls):Kp ls S (S.set l o):=⟨by simp,fun k hk=>by rw[List.getElem?_set_ne (fun z=>hk (by subst z;exact h))]⟩
theorem Kp.trans{ls:List Nat}{S S' S'':Sto}(a:Kp ls S S')(b:Kp ls S' S''):Kp ls S S'':=⟨b.len.trans a.len,fun l hn=>by rw[b.old l hn,a.old l hn]⟩
section
variable{cD:Cl}{w:Int}{n i ll:Nat}{m:M}{x A B:U}{S:Sto}{ds:List U}{q:Int}
theorem Cf.ne(h:Cf cD w n i ll m x S):i≠ll:=fun z=>by have a:=h.ei;have b:=h.el;rw[z,b]at a;cases a
theorem Cf.setI(h:Cf cD w n i ll m x S)(hs:List Int)(ps:List (Int×Int))(y:U):Cf cD w n i ll ⟨hs,ps,m.lk⟩ y (S.set i (dO cD w n ⟨hs,ps,m.lk⟩ y)):=
 ⟨List.getElem?_set_self (br h.ei),by rw[List.getElem?_set_ne h.ne];exact h.el⟩
theorem Cf.setL(h:Cf cD w n i ll m x S)(lk:List Int):Cf cD w n i ll ⟨m.hs,m.ps,lk⟩ x (S.set ll (.dic (uZ lk))):=
 ⟨by rw[List.getElem?_set_ne (Ne.symm h.ne)];exact h.ei,List.getElem?_set_self (br h.el)⟩
def i8(cD:Cl):Fn:=fnU 1 1 (dN cD)
theorem iH{u:U}(h:Cf cD w n i ll m (pt ds q A B) S)(q0:0<=q)(hu:ds[q.toNat]?=some u):i8 cD [.ref i] S=some (u,S):=by
 unfold i8
 rw[lF]
 have hl:=br hu
 have c:¬(ds.length:Int)<=q:=by omega
 have ha:atI ds q=some u:=lH q0 hu
 have e:=h.ei
 unfold dO pt at e
 rwa[dN,e,c,ha]
theorem Ac(h:Cf cD w n i ll m (pt ds q A B) S)(hq:(ds.length:Int)<=q):i8 cD [.ref i] S=some (.non,S):=by
 unfold i8
 rw[lF]
 have e:=h.ei
 unfold dO pt at e
 rwa[dN,e,hq]
def uA(cD:Cl):Fn:=fnU 3 3 (eY ux cD)
theorem pE{k v:Int}(h:Cf cD w n i ll m x S)(h4:m.hs.length=4)(k0:0<=k)(k1:k<4):uA cD [.ref i,.int k,.int v] S=some (.non,S.set i (dO cD w n ⟨m.hs.set k.toNat v,m.ps,m.lk⟩ x)):=by
 unfold uA
 rw[qX]
 have e:=h.ei
 unfold dO at e ⊢
 have hw:=vJ (us:=m.hs.map U.int) (v:=.int v) (S:=S) k0 (by simp;omega) (by simp;omega)
 rw[map_set]at hw
 rwa[eY,e,hw]
def Hf(cD:Cl):Fn:=fnU 3 2 (bX cD)
theorem FC{k:Int}(h:Cf cD w n i ll m (pt ds q A B) S):Hf cD [.ref i,.int k] S=some (pt ds (q+1+k) A B,S):=by
 unfold Hf
 rw[ju]
 have e:=h.ei
 unfold dO pt at e
 unfold pt
 rwa[bX,e]
def Hg(cD:Cl):Fn:=fnU 2 2 (cy vg (Hf cD) cD)
theorem uW{k:Int}{d:Nat}{y:U}(h:Cf cD w n i ll m (pt ds q A B) S)(ho:Onw d (pt ds (q+1+k) A B) y)(hd:d<100):Hg cD [.ref i,.int k] S=some (.non,S.set i (dO cD w n m y)):=by
 unfold Hg
 rw[kE]
 have e:=h.ei
 have ep:=FC (k:=k) h
 have eo:=tU (S:=S) ho hd
 unfold dO at e ⊢
 rwa[cy,e,ep,eo]
def uB(cD:Cl):Fn:=fnU 2 2 (eZ (uA cD) (i8 cD) (Hg cD) cD)
theorem Di{g b v:Int}{d:Nat}{y:U}(h:Cf cD w n i ll m (pt ds q A B) S)(h4:m.hs.length=4)(q0:0<=q)(hu:ds[q.toNat]?=some (e9.u (.look g b)))(g0:0<=g)(g1:g<4)(ho:Onw d (pt ds (q+1+0) A B) y)(hd:d<100) :
  uB cD [.ref i,.int v] S=some (.non,S.set i (dO cD w n ⟨m.hs.set g.toNat v,m.ps,m.lk⟩ y)):=by
 unfold uB
 rw[qY]
 have e:=h.ei
 have ed:=iH h q0 hu
 have eh:=pE (v:=v) h h4 g0 g1
 have h2:=h.setI (m.hs.set g.toNat v) m.ps (pt ds q A B)
 have e2:=h2.ei
 have eg:=uW h2 ho hd
 unfold dO at e e2 eh eg ⊢
 rw[List.set_set]at eg
 unfold e9.u at ed
 rwa[eZ,e,ed,eh,e2,eg]
def oO(cD:Cl):Fn:=fnU 2 1 (bO cD)
theorem yh(h:Cf cD w n i ll m (pt ds q A .non) S):oO cD [.ref i] S=some (.bl false,S):=by
 unfold oO
 rw[gq]
 have e:=h.ei
 unfold dO pt at e
 rwa[bO,e,Bn,ug]
def bk(n:Nat)(hs:List Int)(ps:List (Int×Int))(y:U):U:=.tup [.tup (hs.map U.int),.tup (sk n ps),y]
theorem yg{hs:List Int}{ps:List (Int×Int)}{y:U}(h:Cf cD w n i ll m (pt ds q A (bk n hs ps y)) S):oO cD [.ref i] S=some (.bl true,S.set i (dO cD w n ⟨hs,ps,m.lk⟩ y)):=by
 unfold oO
 rw[gq]
 have l:=br h.ei
 have e:=h.ei
 unfold dO pt bk at e
 unfold dO
 have g:∀o:O,(S.set i o)[i]?=some o:=fun o=>List.getElem?_set_self l
 rwa[bO,e,Bn,xi,g,List.set_set]
def sU(cD:Cl):Fn:=fnU 5 3 (cA vg (Hf cD) cD)
theorem z5{a b:List U}{d d':Nat}{y z:U}(h:Cf cD w n i ll m (pt ds q A B) S)(ho:Onw d (pt b 0 (pt ds (q+1+0) A B) B) z)(hd:d<100)
  (ho':Onw d' (pt a 0 (pt ds (q+1+0) A B) (bk n m.hs m.ps z)) y) (hd':d'<100):sU cD [.ref i,.tup a,.tup b] S=some (.non,S.set i (dO cD w n m y)):=by
 unfold sU
 rw[kF]
 have e:=h.ei
 have ep:=FC (k:=0) h
 have e1:=tU (S:=S) ho hd
 have e2:=tU (S:=S) ho' hd'
 unfold dO at e ⊢
 unfold pt at ep e1 e2 e
 unfold bk at e2
 rwa[cA,e,ep,e1,e2]
end
def lv(m:M):e9->Int
 |.leap h k=>if m.hs.getD h.toNat 0=0 then k else 0
 |_=>0
section
variable{cD:Cl}{w n:Int}{first:List Int}{i ll:Nat}{m:M}{A B:U}{S:Sto}{ds:List U}{q:Int}{r3:Option U}{F:Nat}
def lI(cD:Cl):Fn:=fnU 2 1 (dP (i8 cD) cD)
theorem pR{x:Str}{r:List U}(h:Cf cD w n.toNat i ll m (pt ds q A B) S)(q0:0<=q)(hu:ds[q.toNat]?=some (.tup (.str x::r)))(hx:decide (x=("look":Str))=false):lI cD [.ref i] S=some (.bl false,S):=by
 unfold lI
 rw[lG]
 have e:=h.ei
 have ed:=iH h q0 hu
 unfold dO at e
 rwa[dP,e,ed,hx]
theorem yk{g b:Int}(h:Cf cD w n.toNat i ll m (pt ds q A B) S)(q0:0<=q)(hu:ds[q.toNat]?=some (e9.u (.look g b)))(b0:0<=b)(b1:b<n):lI cD [.ref i] S=some (.bl (!(cS m.ps b).isSome),S):=by
 unfold lI
 rw[lG]
 have e:=h.ei
 have ed:=iH h q0 hu
 have ea:=xI (n:=n.toNat) (ps:=m.ps) b0 (by omega)
 have ei:pC (((cS m.ps b).map U.int).getD .non)=!(cS m.ps b).isSome:=by cases cS m.ps b<;>rfl
 unfold dO at e
 unfold e9.u at ed
 rwa[dP,e,ed,ea,Bn,ei,SNX]
def Ba(cD:Cl):Fn:=fnU 4 1 (aW ux (i8 cD) (oO cD) (sU cD) (uA cD) (Hg cD) cD)
theorem xN(h:Cf cD w n.toNat i ll m (pt ds q A B) S)(q0:0<=q)(hu:ds[q.toNat]?=some (e9.u .wait)){r:U×Sto}(hb:oO cD [.ref i] S=some r):Ba cD [.ref i] S=some r:=by
 unfold Ba
 rw[fG]
 have e:=h.ei
 have ed:=iH h q0 hu
 unfold dO at e
 unfold e9.u at ed
 obtain⟨u,S'⟩:=r
 rwa[aW,e,ed,hb,SNX]
theorem Gy{a b:List U}{d d':Nat}{y z:U}(h:Cf cD w n.toNat i ll m (pt ds q A B) S)(q0:0<=q)(hu:ds[q.toNat]?=some (.tup [.str "try",.tup a,.tup b]))(ho:Onw d (pt b 0 (pt ds (q+1+0) A B) B) z)(hd:d<100)
  (ho':Onw d' (pt a 0 (pt ds (q+1+0) A B) (bk n.toNat m.hs m.ps z)) y) (hd':d'<100):Ba cD [.ref i] S=some (.bl true,S.set i (dO cD w n.toNat m y)):=by
 unfold Ba
 rw[fG]
 have e:=h.ei
 have ed:=iH h q0 hu
 have en:=z5 h ho hd ho' hd'
 unfold dO at e en ⊢
 rwa[aW,e,ed,en,SNX]
theorem z9{d:e9}{dd:Nat}{y:U}(nw:d≠.wait)(h:Cf cD w n.toNat i ll m (pt ds q A B) S)(wf:Wf n m)(w0:2<=w)(n1:n<=6)(od:d.ok n w)(q0:0<=q)(hu:ds[q.toNat]?=some d.u)(ha:∀g b,d=.look g b->(cS m.ps b).isSome=true)(ho:Onw dd (pt ds (q+1+lv m d) A B) y)(hd:dd<100) :
  Ba cD [.ref i] S=some (.bl true,S.set i (dO cD w n.toNat (step w first m d) y)):=by
 unfold Ba
 rw[fG]
 have e:=h.ei
 have ed:=iH h q0 hu
 have h4:=wf.h4
 cases d with
 |wait=>exact absurd rfl nw
 |look g b=>
  obtain⟨g0,g1,b0,b1⟩:=od
  obtain⟨v,hv⟩:=Option.isSome_iff_exists.mp (ha g b rfl)
  have ea:=xI (n:=n.toNat) (ps:=m.ps) b0 (by omega)
  rw[hv,Option.map_some,Option.getD_some]at ea
  have eh:=pE (v:=v) h h4 g0 g1
  have h2:=h.setI (m.hs.set g.toNat v) m.ps (pt ds q A B)
  have e2:=h2.ei
  have eg:=uW h2 ho hd
  unfold dO at e e2 eh eg ⊢
  rw[List.set_set]at eg
  unfold e9.u at ed
  simp only[step,qD,hv,Option.getD_some,Option.isSome_some,if_true]
  simp only[lv]at eg
  rwa[aW,e,ed,ea,eh,e2,eg,SNX]
 |put b g=>
  obtain⟨g0,g1,b0,b1⟩:=od
  have hw:=vJ (us:=sk n.toNat m.ps) (v:=.int (m.hs.getD g.toNat 0)) (S:=S) b0 (by rw[j2];omega) (by rw[j2];omega)
  rw[z6 b0 (by omega)]at hw
  have h2:=h.setI m.hs (lB m.ps b (m.hs.getD g.toNat 0)) (pt ds q A B)
  have e2:=h2.ei
  have eg:=uW h2 ho hd
  unfold dO at e e2 eg ⊢
  rw[List.set_set]at eg
  unfold e9.u at ed
  simp only[lv]at eg
  simp only[step]
  rwa[aW,e,ed,at4 h4 g0 g1,hw,e2,eg,SNX]
 |set g v=>
  obtain⟨g0,g1,b0,b1⟩:=od
  have eh:=pE (v:=v) h h4 g0 g1
  have h2:=h.setI (m.hs.set g.toNat v) m.ps (pt ds q A B)
  have e2:=h2.ei
  have eg:=uW h2 ho hd
  unfold dO at e e2 eh eg ⊢
  rw[List.set_set]at eg
  unfold e9.u at ed
  simp only[lv]at eg
  simp only[step]
  rwa[aW,e,ed,eh,e2,eg,SNX]
 |plus g k=>
  obtain⟨g0,g1,b0,b1⟩:=od
  have eh:=pE (v:=(m.hs.getD g.toNat 0+m.hs.getD k.toNat 0) % w) h h4 g0 g1
  have h2:=h.setI (m.hs.set g.toNat ((m.hs.getD g.toNat 0+m.hs.getD k.toNat 0) % w)) m.ps (pt ds q A B)
  have e2:=h2.ei
  have eg:=uW h2 ho hd
  unfold dO at e e2 eh eg ⊢
  rw[List.set_set]at eg
  unfold e9.u at ed
  simp only[lv]at eg
  simp only[step]
  rwa[aW,e,ed,at4 h4 g0 g1,at4 h4 b0 b1,qd (show 0<w by omega),eh,e2,eg,SNX]
 |leap g k=>
  obtain⟨g0,g1,b0,b1⟩:=od
  have eg:=uW h ho hd
  unfold dO at e eg ⊢
  unfold e9.u at ed
  simp only[step]
  simp only[lv]at eg
  by_cases z:m.hs.getD g.toNat 0=0
  ·rw[if_pos z]at eg
   rwa[aW,e,ed,at4 h4 g0 g1,z,eg,SNX]
  ·rw[if_neg z]at eg
   rwa[aW,e,ed,at4 h4 g0 g1,z,eg,SNX]
abbrev bG(cD:Cl)(F:Nat):CS:=bI (i8 cD) (lI cD) (uB cD) (Ba cD) cD F
theorem EE(d:e9):∃x r,d.u=.tup (.str x::r):=by cases d<;>exact⟨_,_,rfl⟩
theorem ub{d:e9}{dd:Nat}{y:U}(nw:d≠.wait)(h:Cf cD w n.toNat i ll m (pt ds q A B) S)(wf:Wf n m)(lf:first.length=n.toNat)(w0:2<=w)(n0:0<=n)(n1:n<=6)(od:d.ok n w)(q0:0<=q)(hu:ds[q.toNat]?=some d.u)(ho:Onw dd (pt ds (q+1+lv m d) A B) y)(hd:dd<100) :
  ∃r3' S',bG cD F [some (.ref i),some (.tup (first.map U.int)),some (.ref ll),r3] S=some (.nx,[some (.ref i),some (.tup (first.map U.int)),some (.ref ll),r3'],S')/\Cf cD w n.toNat i ll (step w first m d) y S'/\Kp [i,ll] S S':=by
 have e:=h.ei
 have go:(∀g b,d=.look g b->(cS m.ps b).isSome=true)->lI cD [.ref i] S=some (.bl false,S)->(step w first m d).lk=m.lk->∃r3' S',bG cD F [some (.ref i),some (.tup (first.map U.int)),some (.ref ll),r3] S=some (.nx,[some (.ref i),some (.tup (first.map U.int)),some (.ref ll),r3'],S')/\Cf cD w n.toNat i ll (step w first m d) y S'/\Kp [i,ll] S S':=by
  intro ha hk hl
  have ed:=z9 (first:=first) nw h wf w0 n1 od q0 hu ha ho hd
  refine⟨r3,_,?_,⟨List.getElem?_set_self (br h.ei),by rw[List.getElem?_set_ne h.ne,hl];exact h.el⟩,.set (by simp)⟩
  unfold dO at e
  rwa[bG,bI,e,hk,ed]
 have other:∀x r,d.u=.tup (.str x::r)->decide (x=("look":Str))=false->lI cD [.ref i] S=some (.bl false,S):=fun x r e1 e2=>pR h q0 (by rw[hu,e1]) e2
 cases d with
 |wait=>exact absurd rfl nw
 |put b g=>exact go (by intro _ _ z;cases z) (other _ _ rfl (by decide +kernel)) rfl
 |set b g=>exact go (by intro _ _ z;cases z) (other _ _ rfl (by decide +kernel)) rfl
 |plus b g=>exact go (by intro _ _ z;cases z) (other _ _ rfl (by decide +kernel)) rfl
 |leap b g=>exact go (by intro _ _ z;cases z) (other _ _ rfl (by decide +kernel)) rfl
 |look g b=>
  obtain⟨g0,g1,b0,b1⟩:=id od
  have hk:=yk h q0 hu b0 b1
  cases hv:cS m.ps b with
  |some v=>
   rw[hv]at hk
   exact go (by intro _ _ z;cases z;rw[hv];rfl) hk (by simp[step,hv])
  |none=>
   rw[hv]at hk
   have h2:=h.setL (sN m.lk b)
   have ed:=iH h q0 hu
   have eh:=Di (v:=first.getD b.toNat 0) h2 wf.h4 q0 hu g0 g1 ho hd
   have h3:=h2.setI (m.hs.set g.toNat (first.getD b.toNat 0)) m.ps y
   have e2:=h2.ei
   have es:step w first m (.look g b)=⟨m.hs.set g.toNat (first.getD b.toNat 0),m.ps,sN m.lk b⟩:=by simp[step,qD,hv]
   rw[es]
   refine⟨some (.int b),_,?_,h3,(Kp.set (by simp)).trans (.set (by simp))⟩
   have fl:(uZ m.lk).length<LIM:=by have:=(wf.few n0 n1).2;unfold uZ LIM;simp;omega
   unfold dO at e e2
   unfold e9.u at ed
   simp only[Option.isSome_none]at hk
   rwa[bG,bI,e,hk,ed,h.el,y4,fl,if_true,e2,atF lf b0 b1,eh]
theorem AV{a b:List U}{d d':Nat}{y z:U}(h:Cf cD w n.toNat i ll m (pt ds q A B) S)(q0:0<=q)(hu:ds[q.toNat]?=some (.tup [.str "try",.tup a,.tup b]))(ho:Onw d (pt b 0 (pt ds (q+1+0) A B) B) z)(hd:d<100)
  (ho':Onw d' (pt a 0 (pt ds (q+1+0) A B) (bk n.toNat m.hs m.ps z)) y) (hd':d'<100) :
  ∃S',bG cD F [some (.ref i),some (.tup (first.map U.int)),some (.ref ll),r3] S=some (.nx,[some (.ref i),some (.tup (first.map U.int)),some (.ref ll),r3],S')/\Cf cD w n.toNat i ll m y S'/\Kp [i,ll] S S':=by
 have e:=h.ei
 have hk:=pR h q0 hu (by decide +kernel)
 have ed:=Gy h q0 hu ho hd ho' hd'
 refine⟨_,?_,h.setI m.hs m.ps y,.set (by simp)⟩
 unfold dO at e
 rwa[bG,bI,e,hk,ed]
theorem xb{hs:List Int}{ps:List (Int×Int)}{y:U}(h:Cf cD w n.toNat i ll m (pt ds q A (bk n.toNat hs ps y)) S)(q0:0<=q)(hu:ds[q.toNat]?=some (e9.u .wait)) :
  ∃S',bG cD F [some (.ref i),some (.tup (first.map U.int)),some (.ref ll),r3] S=some (.nx,[some (.ref i),some (.tup (first.map U.int)),some (.ref ll),r3],S')/\Cf cD w n.toNat i ll ⟨hs,ps,m.lk⟩ y S'/\Kp [i,ll] S S':=by
 have e:=h.ei
 have hk:=pR h q0 hu (by decide +kernel)
 have ed:=xN h q0 hu (yg h)
 refine⟨_,?_,h.setI hs ps y,.set (by simp)⟩
 unfold dO at e
 rwa[bG,bI,e,hk,ed]
theorem Dc(h:Cf cD w n.toNat i ll m (pt ds q A .non) S)(q0:0<=q)(hu:ds[q.toNat]?=some (e9.u .wait)) :
  bG cD F [some (.ref i),some (.tup (first.map U.int)),some (.ref ll),r3] S=some (.rt (.bl false),[some (.ref i),some (.tup (first.map U.int)),some (.ref ll),r3],S):=by
 have e:=h.ei
 have hk:=pR h q0 hu (by decide +kernel)
 have ed:=xN h q0 hu (yh h)
 unfold dO at e
 rwa[bG,bI,e,hk,ed]
end
def OnA(dep:Nat)(ds:List U)(A B:U):Prop:=∀p:Int,(ds.length:Int)<=p->∃y,Onw dep (pt ds p A B) y
theorem OnA.any{dep:Nat}{ds:List U}{A B:U}(h:OnA dep ds A B)(p:Int):∃y,Onw dep (pt ds p A B) y:=by
 by_cases c:p<ds.length
 ·exact⟨_,.stop c⟩
 ·exact h p (by omega)
theorem OnA.top{dep:Nat}{ds:List U}{B:U}:OnA dep ds .non B:=fun p _=>⟨_,.top⟩
theorem OnA.up{dep:Nat}{ds ds':List U}{q':Int}{A' B B' y:U}(h:Onw dep (pt ds' q' A' B') y):OnA (dep+1) ds (pt ds' q' A' B') B:=fun p hp=>⟨y,.up hp h⟩
theorem Onw.here{dep:Nat}{ds:List U}{q:Int}{A B x:U}(h:Onw dep (pt ds q A B) x)(c:q<ds.length):x=pt ds q A B:=by
 generalize e:pt ds q A B=z at h
 cases h with
 |stop _=>rfl
 |top=>rfl
 |up h' _=>
  unfold pt at e
  injection e with e
  injection e with e1 e2
  injection e1 with e1
  injection e2 with e2 _
  injection e2 with e2
  subst e1 e2
  omega
theorem Onw.upInv{dep:Nat}{ds ds':List U}{q q':Int}{A' B B' x:U}(h:Onw (dep+1) (pt ds q (pt ds' q' A' B') B) x)(c:(ds.length:Int)<=q):Onw dep (pt ds' q' A' B') x:=by
 generalize e:pt ds q (pt ds' q' A' B') B=z at h
 generalize e0:dep+1=k at h
 cases h with
 |stop h'=>
  unfold pt at e
  injection e with e
  injection e with e1 e2
  injection e1 with e1
  injection e2 with e2 _
  injection e2 with e2
  subst e1 e2
  omega
 |top=>
  unfold pt at e
  injection e with e
  injection e with _ e
  injection e with _ e
  injection e with e _
  cases e
 |up h' h2=>
  unfold pt at e
  injection e with e
  injection e with _ e
  injection e with _ e
  injection e with e _
  injection e with e
  injection e with e1 e
  injection e1 with e1
  injection e with e2 e
  injection e2 with e2
  injection e with e3 e
  injection e with e4 _
  subst e1 e2 e3 e4
  cases e0
  exact h2
section
variable{cD:Cl}{w n:Int}{first:List Int}{i ll F:Nat}
abbrev tG(cD:Cl):CT:=aG (cOp pJ (fv cD (i8 cD) (ah 0) aB) (cC .non))
theorem oW{m:M}{ds us:List U}{q:Int}{A B:U}{S:Sto}{ρ:Rho}(h:Cf cD w n.toNat i ll m (pt ds q A B) S)(q0:0<=q)(hu:ds[q.toNat]?=some (.tup us)):tG cD (some (.ref i)::ρ) S=some (true,S):=by
 have e:=h.ei
 have ed:=iH h q0 hu
 unfold dO at e
 rwa[tG,e,ed,uE,xi]
theorem yQ{m:M}{ds:List U}{q:Int}{A B:U}{S:Sto}{ρ:Rho}(h:Cf cD w n.toNat i ll m (pt ds q A B) S)(hq:(ds.length:Int)<=q):tG cD (some (.ref i)::ρ) S=some (false,S):=by
 have e:=h.ei
 have ed:=Ac h hq
 unfold dO at e
 rwa[tG,e,ed,uE,ug]
abbrev Gx(first:List Int)(i ll:Nat)(r3:Option U):Rho:=[some (.ref i),some (.tup (first.map U.int)),some (.ref ll),r3]
def Rch(cD:Cl)(F:Nat)(first:List Int)(i ll s:Nat)(S S':Sto):Prop:=∀r3,∃r3',∀fuel,cW (tG cD) (bG cD F) (fuel+s) (Gx first i ll r3) S=cW (tG cD) (bG cD F) fuel (Gx first i ll r3') S'
theorem Rch.refl{S:Sto}:Rch cD F first i ll 0 S S:=fun r3=>⟨r3,fun _=>rfl⟩
theorem Rch.trans{s t:Nat}{S S' S'':Sto}(a:Rch cD F first i ll s S S')(b:Rch cD F first i ll t S' S''):Rch cD F first i ll (s+t) S S'':=fun r3=>by
 obtain⟨r4,ha⟩:=a r3
 obtain⟨r5,hb⟩:=b r4
 exact⟨r5,fun fuel=>by rw[show fuel+(s+t)=fuel+t+s by omega,ha,hb]⟩
theorem Rch.one{S S':Sto}(ht:∀r3,tG cD (Gx first i ll r3) S=some (true,S))(h:∀r3,∃r3',bG cD F (Gx first i ll r3) S=some (.nx,Gx first i ll r3',S')):Rch cD F first i ll 1 S S':=fun r3=>by
 obtain⟨r4,h⟩:=h r3
 exact⟨r4,fun fuel=>lX (ht r3) h⟩
def AtW(B x:U):Prop:=∃ds q A,x=pt ds q A B/\0<=q/\ds[q.toNat]?=some (e9.u .wait)
def JS(dep:Nat)(ds:List U)(A B x:U):Bool->Prop
 |true=>∃p:Int,(ds.length:Int)<=p/\Onw dep (pt ds p A B) x
 |false=>AtW B x
def HrT{α:Type}(cD:Cl)(F:Nat)(w n:Int)(first:List Int)(i ll D c:Nat)(rn:List α->M->Bool×M)(f:α->U)(k:List α->Prop):Prop:=
 ∀(a:List α) (m:M) (dep:Nat) (A B x:U) (S:Sto),k a->Wf n m->dep<=D->OnA dep (a.map f) A B->Onw dep (pt (a.map f) 0 A B) x->Cf cD w n.toNat i ll m x S->
  Wf n (rn a m).2/\∃s x' S',s<=c/\Cf cD w n.toNat i ll (rn a m).2 x' S'/\Kp [i,ll] S S'/\Rch cD F first i ll s S S'/\JS dep (a.map f) A B x' (rn a m).1
variable{α:Type}{rn:List α->M->Bool×M}{f:α->U}{k:List α->Prop}{D c:Nat}
theorem yW(Hr:HrT cD F w n first i ll (D+1) c rn f k)(hD:D<=90)(lf:first.length=n.toNat)(w0:2<=w)(n0:0<=n)(n1:n<=6)(all:List (DF α))(oa:∀d∈all,d.ok n w k){dep:Nat}{A B:U}(hdep:dep<=D)(hA:OnA dep (all.map (DF.u f)) A B) :
  ∀(N place:Nat) (m:M) (x:U) (S:Sto),all.length-place<=N->Wf n m->Onw dep (pt (all.map (DF.u f)) place A B) x->Cf cD w n.toNat i ll m x S->
  Wf n (eA w first rn (all.drop place) 0 m).2/\∃s x' S',s<=N*(2*c+2)/\Cf cD w n.toNat i ll (eA w first rn (all.drop place) 0 m).2 x' S'/\Kp [i,ll] S S'/\Rch cD F first i ll s S S'/\JS dep (all.map (DF.u f)) A B x' (eA w first rn (all.drop place) 0 m).1:=by
 intro N
 induction N with
 |zero=>
  intro place m x S hN wf ho h
  rw[List.drop_eq_nil_of_le (by omega),eA]
  exact⟨wf,0,x,S,Nat.zero_le _,h,.refl,.refl,(place:Int),by simp;omega,ho⟩
 |succ N ih=>
  intro place m x S hN wf ho h
  by_cases cl:place<all.length
  case neg=>
   rw[List.drop_eq_nil_of_le (by omega),eA]
   exact⟨wf,0,x,S,Nat.zero_le _,h,.refl,.refl,(place:Int),by simp;omega,ho⟩
  have hd:=List.getElem?_eq_getElem cl
  have od:=oa _ (List.getElem_mem cl)
  generalize all[place]=d at hd od
  rw[j3 hd]
  have hx:=ho.here (by simp;omega)
  subst hx
  have hu:(all.map (DF.u f))[(place:Int).toNat]?=some (d.u f):=by rw[Int.toNat_natCast,List.getElem?_map,hd];rfl
  have q0:(0:Int)<=place:=by omega
  have c2:(N+1)*(2*c+2)=N*(2*c+2)+(2*c+2):=by rw[Nat.succ_mul]
  have goon:∀(p:Nat) (m':M) (x':U) (s1:Nat) (S1:Sto),place<p->Wf n m'->Onw dep (pt (all.map (DF.u f)) p A B) x'->Cf cD w n.toNat i ll m' x' S1->Kp [i,ll] S S1->s1<=2*c+2->Rch cD F first i ll s1 S S1->
    Wf n (eA w first rn (all.drop p) 0 m').2/\∃s x' S',s<=(N+1)*(2*c+2)/\Cf cD w n.toNat i ll (eA w first rn (all.drop p) 0 m').2 x' S'/\Kp [i,ll] S S'/\Rch cD F first i ll s S S'/\JS dep (all.map (DF.u f)) A B x' (eA w first rn (all.drop p) 0 m').1:=by
   intro p m' x' s1 S1 hp wf1 ho1 h1 k1 l1 r1
   obtain⟨wf2,s2,x2,S2,l2,h2,k2,r2,e2⟩:=ih p m' x' S1 (by omega) wf1 ho1 h1
   exact⟨wf2,s1+s2,x2,S2,by omega,h2,k1.trans k2,r1.trans r2,e2⟩
  cases d with
  |pl d=>
   by_cases dw:d=.wait
   ·subst dw
    rw[eA]
    exact⟨wf,0,_,S,Nat.zero_le _,h,.refl,.refl,_,_,_,rfl,q0,hu⟩
   ·have lv0:0<=lv m d:=by
     cases d<;>simp only[lv]<;>try exact Int.le_refl _
     obtain⟨_,_,b,_⟩:=od
     split<;>omega
    obtain⟨y,hy⟩:=hA.any ((place:Int)+1+lv m d)
    have e1:(place:Int)+1+lv m d=((place+1+(lv m d).toNat:Nat):Int):=by omega
    have one:∃S1,Rch cD F first i ll 1 S S1/\Cf cD w n.toNat i ll (step w first m d) y S1/\Kp [i,ll] S S1:=by
     obtain⟨_,S1,e0,h1,k1⟩:=ub (F:=F) (r3:=none) dw h wf lf w0 n0 n1 od q0 hu hy (by omega)
     refine⟨S1,.one (fun r3=>?_) (fun r3=>?_),h1,k1⟩
     ·obtain⟨x0,r0,ex⟩:=EE d
      exact oW h q0 (by rw[hu];simp only[DF.u];rw[ex])
     ·obtain⟨r4,S2,e2,h2,k2⟩:=ub (F:=F) (r3:=r3) dw h wf lf w0 n0 n1 od q0 hu hy (by omega)
      have es:S2=S1:=by
       refine List.ext_getElem? fun l=>?_
       by_cases z1:l=i
       ·subst z1;rw[h2.ei,h1.ei]
       ·by_cases z2:l=ll
        ·subst z2;rw[h2.el,h1.el]
        ·rw[k2.old l (by simp[z1,z2]),k1.old l (by simp[z1,z2])]
      exact⟨r4,by rw[e2,es]⟩
    obtain⟨S1,r1,h1,k1⟩:=one
    have er:eA w first rn (.pl d::all.drop (place+1)) 0 m=eA w first rn (all.drop (place+1+(lv m d).toNat)) 0 (step w first m d):=by
     cases d with
     |wait=>exact absurd rfl dw
     |leap g j=>
      rw[eA,qu,List.drop_drop]
      simp only[lv,step]
      split<;>simp
     |look g b=>rw[eA];simp[lv]
     |put g b=>rw[eA];simp[lv]
     |set g b=>rw[eA];simp[lv]
     |plus g b=>rw[eA];simp[lv]
    rw[er]
    rw[e1]at hy
    exact goon _ _ y 1 S1 (by omega) (vX wf od) hy h1 k1 (by omega) r1
  |tr a b=>
   obtain⟨ka,kb⟩:=od
   simp only[DF.u]at hu
   obtain⟨yb,hyb⟩:=hA.any ((place:Int)+1+0)
   have onb:∀(ds:List U) (B':U),OnA (dep+1) ds (pt (all.map (DF.u f)) ((place:Int)+1+0) A B) B':=fun ds B'=>.up hyb
   obtain⟨z,hz⟩:=(onb (b.map f) B).any 0
   obtain⟨y,hy⟩:=(onb (a.map f) (bk n.toNat m.hs m.ps z)).any 0
   have e1:(place:Int)+1+0=((place+1:Nat):Int):=by omega
   have one:∃S1,Rch cD F first i ll 1 S S1/\Cf cD w n.toNat i ll m y S1/\Kp [i,ll] S S1:=by
    obtain⟨S1,e0,h1,k1⟩:=AV (F:=F) (first:=first) (r3:=none) h q0 hu hz (by omega) hy (by omega)
    refine⟨S1,.one (fun r3=>oW h q0 hu) (fun r3=>?_),h1,k1⟩
    obtain⟨S2,e2,h2,k2⟩:=AV (F:=F) (first:=first) (r3:=r3) h q0 hu hz (by omega) hy (by omega)
    have es:S2=S1:=by
     refine List.ext_getElem? fun l=>?_
     by_cases z1:l=i
     ·subst z1;rw[h2.ei,h1.ei]
     ·by_cases z2:l=ll
      ·subst z2;rw[h2.el,h1.el]
      ·rw[k2.old l (by simp[z1,z2]),k1.old l (by simp[z1,z2])]
    exact⟨r3,by rw[e2,es]⟩
   obtain⟨S1,r1,h1,k1⟩:=one
   obtain⟨wf2,s2,x2,S2,l2,h2,k2,r2,e2⟩:=Hr a m (dep+1) _ _ y S1 ka wf (by omega) (onb _ _) hy h1
   rw[eA]
   unfold IF
   cases er:rn a m with
   |mk t m'=>
    rw[er]at wf2 h2 e2
    cases t with
    |true=>
     obtain⟨p,hp,hp2⟩:=e2
     have:=hp2.upInv hp
     rw[e1]at this
     exact goon (place+1) m' x2 (1+s2) S2 (by omega) wf2 this h2 (k1.trans k2) (by omega) (r1.trans r2)
    |false=>
     obtain⟨ds',q',A',rfl,q0',hw⟩:=e2
     have back:∃S3,Rch cD F first i ll 1 S2 S3/\Cf cD w n.toNat i ll ⟨m.hs,m.ps,m'.lk⟩ z S3/\Kp [i,ll] S2 S3:=by
      obtain⟨S3,e0,h3,k3⟩:=xb (F:=F) (first:=first) (r3:=none) h2 q0' hw
      refine⟨S3,.one (fun r3=>oW h2 q0' hw) (fun r3=>?_),h3,k3⟩
      obtain⟨S4,e4,h4,k4⟩:=xb (F:=F) (first:=first) (r3:=r3) h2 q0' hw
      have es:S4=S3:=by
       refine List.ext_getElem? fun l=>?_
       by_cases z1:l=i
       ·subst z1;rw[h4.ei,h3.ei]
       ·by_cases z2:l=ll
        ·subst z2;rw[h4.el,h3.el]
        ·rw[k4.old l (by simp[z1,z2]),k3.old l (by simp[z1,z2])]
      exact⟨r3,by rw[e4,es]⟩
     obtain⟨S3,r3,h3,k3⟩:=back
     obtain⟨wf4,s4,x4,S4,l4,h4,k4,r4,e4⟩:=Hr b ⟨m.hs,m.ps,m'.lk⟩ (dep+1) _ _ z S3 kb ⟨wf.h4,wf.pk,wf.pb,wf2.lk,wf2.lb⟩ (by omega) (onb _ _) hz h3
     have kk:=((k1.trans k2).trans k3).trans k4
     have rr:=((r1.trans r2).trans r3).trans r4
     simp only
     cases er2:rn b ⟨m.hs,m.ps,m'.lk⟩with
     |mk t2 m2=>
      rw[er2]at wf4 h4 e4
      cases t2 with
      |true=>
       obtain⟨p,hp,hp2⟩:=e4
       have:=hp2.upInv hp
       rw[e1]at this
       exact goon (place+1) m2 x4 (1+s2+1+s4) S4 (by omega) wf4 this h4 kk (by omega) rr
      |false=>exact⟨wf4,1+s2+1+s4,x4,S4,by omega,h4,kk,rr,e4⟩
theorem AD(Hr:HrT cD F w n first i ll (D+1) c rn f k)(hD:D<=90)(lf:first.length=n.toNat)(w0:2<=w)(n0:0<=n)(n1:n<=6):HrT cD F w n first i ll D (30*(2*c+2)) (fun ds m=>eA w first rn ds 0 m) (DF.u f) (fun ds=>ds.length<=30/\∀d∈ds,DF.ok n w k d):=by
 intro a m dep A B x S ka wf hdep hA ho h
 exact yW Hr hD lf w0 n0 n1 a ka.2 hdep hA 30 0 m x S (by omega) wf ho h
def cJ:Nat->Nat
 |0=>60
 |j+1=>30*(2*cJ j+2)
theorem wc(lf:first.length=n.toNat)(w0:2<=w)(n0:0<=n)(n1:n<=6):∀(j D:Nat),D+j<=90->HrT cD F w n first i ll D (cJ j) (nL w first j) (Dl.u j) (OkL n w j)
 |0,D,hD=>AD (c:=0) (k:=fun _=>False) (fun a m dep A B x S ka=>ka.elim) (by omega) lf w0 n0 n1
 |j+1,D,hD=>AD (k:=OkL n w j) (wc lf w0 n0 n1 j (D+1) (by omega)) (by omega) lf w0 n0 n1
def uC(cD:Cl):Fn:=fnU 4 3 (cQ (i8 cD) (lI cD) (uB cD) (Ba cD) cD 20000000)
theorem Dm{j:Nat}(hj:j<=3)(lf:first.length=n.toNat)(w0:2<=w)(n0:0<=n)(n1:n<=6)(ds:List (Dl j))(od:OkL n w j ds){m:M}{S:Sto}(wf:Wf n m)(h:Cf cD w n.toNat i ll m (pt (ds.map (Dl.u j)) 0 .non .non) S) :
  Wf n (nL w first j ds m).2/\∃x' S',uC cD [.ref i,.tup (first.map U.int),.ref ll] S=some (.bl (nL w first j ds m).1,S')/\Cf cD w n.toNat i ll (nL w first j ds m).2 x' S'/\Kp [i,ll] S S':=by
 obtain⟨wf1,s,x',S',ls,h1,k1,r1,e1⟩:=wc (cD:=cD) (F:=20000000) (i:=i) (ll:=ll) lf w0 n0 n1 j 0 (by omega) ds m 0 .non .non _ S od wf (Nat.le_refl _) .top .top h
 refine⟨wf1,x',S',?_,h1,k1⟩
 have hc:cJ j<=13179660:=by
  have:j=0\/j=1\/j=2\/j=3:=by omega
  rcases this with rfl|rfl|rfl|rfl<;>decide
 obtain⟨r3,r1⟩:=r1 none
 have r2:=r1 (20000000-s)
 rw[show 20000000-s+s=20000000 by omega]at r2
 unfold uC
 rw[nR]
 obtain⟨fl,hfl⟩:∃fl,20000000-s=fl+1:=⟨20000000-s-1,by omega⟩
 rw[hfl]at r2
 cases er:(nL w first j ds m).1 with
 |true=>
  rw[er]at e1
  obtain⟨p,hp,ho⟩:=e1
  have hx:x'=pt (ds.map (Dl.u j)) p .non .non:=by
   generalize ez:pt (ds.map (Dl.u j)) p .non .non=z at ho
   cases ho with
   |stop _=>rfl
   |top=>rfl
  subst hx
  have ht:=yQ (ρ:=[some (.tup (first.map U.int)),some (.ref ll),r3]) h1 hp
  have r4:=r2.trans (gX ht)
  rwa[cQ,r4]
 |false=>
  rw[er]at e1
  obtain⟨ds',q',A',rfl,q0',hw⟩:=e1
  have ht:=oW (ρ:=[some (.tup (first.map U.int)),some (.ref ll),r3]) h1 q0' hw
  have r4:=r2.trans (yJ ht (Dc h1 q0' hw))
  rwa[cQ,r4]
end
def prs:List (Option Int)->Nat->List (Int×Int)
 |[],_=>[]
 |none::r,k=>prs r (k+1)
 |some v::r,k=>((k:Int),v)::prs r (k+1)
def oq(n:Nat)(ps:List (Int×Int)):List (Option Int):=(List.range n).map fun b:Nat=>cS ps (b:Int)
def ou:Option Int->U
 |none=>.non
 |some v=>.int v
theorem Dq{n:Nat}{ps:List (Int×Int)}:sk n ps=(oq n ps).map ou:=by
 unfold sk oq
 rw[List.map_map]
 refine List.map_congr_left fun b _=>?_
 simp only[Function.comp]
 cases cS ps (b:Int)<;>rfl
def pU(p:Int×Int):U:=.tup [.int p.1,.int p.2]
theorem oH{ok:Sto->Prop}{g:CG}{ct:CT}{ce:CE}{l:Nat}{ρ:Rho}{S:Sto}(h:ok S):cT ok g ct ce l [] ρ S=some S:=by rw[cT,if_pos h]
theorem rj{ok:Sto->Prop}{g:CG}{ct:CT}{ce:CE}{l:Nat}{ρ ρ0:Rho}{S S0 S1:Sto}{u:U}{us:List U}(h:ok S)(hg:g u ρ S=some (ρ0,S0))(ht:ct ρ0 S0=some (false,S1)):cT ok g ct ce l (u::us) ρ S=cT ok g ct ce l us ρ0 S1:=by
 rw[cT,if_pos h,hg,Option.bind_some,ht,Option.bind_some,if_neg Bool.false_ne_true]
theorem oG{ok:Sto->Prop}{g:CG}{ct:CT}{ce:CE}{l:Nat}{ρ ρ0:Rho}{S S0 S1 S2:Sto}{u x:U}{us ys:List U}(h:ok S)(hg:g u ρ S=some (ρ0,S0))(ht:ct ρ0 S0=some (true,S1))(he:ce ρ0 S1=some (x,S2))(hl:S2[l]?=some (.lst ys))(hn:ys.length<LIM) :
  cT ok g ct ce l (u::us) ρ S=cT ok g ct ce l us ρ0 (S2.set l (.lst (ys++[x]))):=by
 rw[cT,if_pos h,hg,Option.bind_some,ht,Option.bind_some,if_pos rfl,he,Option.bind_some]
 simp only[hl,hn,if_true]
theorem rR(S:Sto):∀(qs:List (Option Int)) (k:Nat) (ys:List (Int×Int)) (r0 r1:Option U),ys.length+qs.length<=1000->
  cT (fun _=>True) (gTp [0,1]) (aG (cOp pJ (ah 1) (cC .non))) (cI (ae (ah 0) (ae (ah 1) aB))) S.length (((qs.map ou).zipIdx k).map fun p=>.tup [.int p.2,p.1]) [r0,r1] (S++[.lst (ys.map pU)])
   = some (S++[.lst ((ys++prs qs k).map pU)])
 |[],k,ys,r0,r1,hl=>by
  simp only[List.map_nil,List.zipIdx_nil,prs,List.append_nil]
  exact oH trivial
 |none::qs,k,ys,r0,r1,hl=>by
  have ih:=rR S qs (k+1) ys (some (.int k)) (some .non) (by simp at hl ⊢;omega)
  simp only[List.map_cons,List.zipIdx_cons,prs,ou]
  refine(rj (ρ0:=[some (.int k),some .non]) (S0:=S++[.lst (ys.map pU)]) (S1:=S++[.lst (ys.map pU)]) trivial rfl ?_).trans ih
  rwa[uE,ug]
 |some v::qs,k,ys,r0,r1,hl=>by
  have ih:=rR S qs (k+1) (ys++[((k:Int),v)]) (some (.int k)) (some (.int v)) (by simp at hl ⊢;omega)
  simp only[List.map_cons,List.zipIdx_cons,prs,ou]
  refine(oG (ρ0:=[some (.int k),some (.int v)]) (S0:=S++[.lst (ys.map pU)]) (S1:=S++[.lst (ys.map pU)]) (S2:=S++[.lst (ys.map pU)]) (x:=pU (k,v)) (ys:=ys.map pU) trivial rfl ?_ ?_ ?_ (by simp at hl ⊢;unfold LIM;omega)).trans ?_
  ·rwa[uE,Gi]
  ·rwa[pU]
  ·rwa[]
  ·have e5:(S++[O.lst (ys.map pU)]).set S.length (.lst (ys.map pU++[pU ((k:Int),v)]))=S++[.lst ((ys++[((k:Int),v)]).map pU)]:=by
    rwa[List.map_append,List.map_cons,List.map_nil]
   rw[e5,ih]
   simp
section
variable{cD:Cl}{w n:Int}{first:List Int}{i ll:Nat}{m:M}{x:U}{S:Sto}
def He(cD:Cl):Fn:=fnU 1 1 (cw cD)
def ppL(n:Int)(m:M):List (Int×Int):=prs (oq n.toNat m.ps) 0
theorem IV(h:Cf cD w n.toNat i ll m x S)(n1:n<=6):He cD [.ref i] S=some (.ref S.length,S++[.lst ((ppL n m).map pU)]):=by
 unfold He
 rw[kC]
 have e:=h.ei
 unfold dO at e
 have hb:=rR S (oq n.toNat m.ps) 0 [] none none (by simp[oq];omega)
 simp only[List.nil_append,List.map_nil]at hb
 rw[Dq]at e
 unfold ppL
 rwa[cw,pO,qJ,DL,xH,rE,e,hb,List.replicate]
theorem rQ:∀(qs:List (Option Int)) (k:Nat) (p:Int×Int),p∈prs qs k->∃j:Nat,p.1=((k+j:Nat):Int)/\qs[j]?=some (some p.2)
 |[],k,p,h=>by simp[prs]at h
 |none::r,k,p,h=>by
  obtain⟨j,e1,e2⟩:=rQ r (k+1) p (by simpa [prs] using h)
  exact⟨j+1,by rw[e1];omega,by simpa using e2⟩
 |some v::r,k,p,h=>by
  simp only[prs,List.mem_cons]at h
  rcases h with rfl|h
  ·exact⟨0,by simp,by simp⟩
  ·obtain⟨j,e1,e2⟩:=rQ r (k+1) p h
   exact⟨j+1,by rw[e1];omega,by simpa using e2⟩
theorem FH{ps:List (Int×Int)}{j:Nat}{v:Int}:(oq n.toNat ps)[j]?=some (some v)↔(j<n.toNat/\cS ps (j:Int)=some v):=by
 unfold oq
 rw[List.getElem?_map]
 by_cases c:j<n.toNat
 ·rw[List.getElem?_range c];simp[c]
 ·rw[List.getElem?_eq_none (by simpa using c)];simp[c]
theorem Cs{p:Int×Int}(h:p∈ppL n m):0<=p.1/\p.1<n/\cS m.ps p.1=some p.2:=by
 obtain⟨j,e1,e2⟩:=rQ _ _ _ h
 obtain⟨e3,e4⟩:=FH.mp e2
 rw[Nat.zero_add]at e1
 rw[e1]
 exact⟨by omega,by omega,e4⟩
theorem pG:∀(qs:List (Option Int)) (k:Nat) (R:List Int) (j:Nat),((prs qs k).foldl (fun r p=>r.set p.1.toNat p.2) R)[j]?=(R[j]?).map fun x=>if k<=j then((qs[j-k]?).join).getD x else x
 |[],k,R,j=>by simp[prs]
 |none::r,k,R,j=>by
  rw[prs,pG r (k+1) R j]
  congr 1
  funext x
  by_cases h1:k+1<=j
  ·rw[if_pos h1,if_pos (by omega),show j-k=j-(k+1)+1 by omega,List.getElem?_cons_succ]
  ·rw[if_neg h1]
   by_cases h2:k<=j
   ·rw[if_pos h2,show j-k=0 by omega];simp
   ·rw[if_neg h2]
 |some v::r,k,R,j=>by
  rw[prs,List.foldl_cons,pG r (k+1) _ j]
  simp only[Int.toNat_natCast]
  by_cases h1:k+1<=j
  ·rw[List.getElem?_set_ne (by omega)]
   congr 1
   funext x
   rw[if_pos h1,if_pos (by omega),show j-k=j-(k+1)+1 by omega,List.getElem?_cons_succ]
  ·by_cases h2:k=j
   ·subst h2
    rw[List.getElem?_set_self']
    cases R[k]? with
    |none=>rfl
    |some z=>simp;intro h;omega
   ·rw[List.getElem?_set_ne h2]
    congr 1
    funext x
    rw[if_neg h1,if_neg (by omega)]
theorem zX(lf:first.length=n.toNat):(ppL n m).foldl (fun r p=>r.set p.1.toNat p.2) first=beh first m.ps 0:=by
 refine List.ext_getElem? fun j=>?_
 unfold ppL
 rw[pG]
 by_cases c:j<first.length
 ·rw[nv _ _ _ _ c,List.getElem?_eq_getElem c]
  have e:(oq n.toNat m.ps)[j]?=some (cS m.ps (j:Int)):=by unfold oq;rw[List.getElem?_map,List.getElem?_range (by omega)];rfl
  simp only[Option.map_some,Nat.zero_le,if_true,Nat.sub_zero,e,Option.join_some,Nat.zero_add,List.getD_eq_getElem?_getD,List.getElem?_eq_getElem c,Option.getD_some]
 ·rw[List.getElem?_eq_none (l:=first) (by omega),List.getElem?_eq_none (l:=beh first m.ps 0) (by rw[jw];omega)];rfl
end
section
variable{cD:Cl}{w n:Int}{first:List Int}
def uz(cD:Cl):Fn:=fnU 3 3 (eW vg cD)
theorem Dg{S0:Sto}{ds:List U}(n0:1<=n)(n1:n<=6):uz cD [.ref S0.length,.tup [.int n,.int w],.tup ds] (S0++[.ins cD [none,none,none,none]])=some (.non,S0++[dO cD w n.toNat m0 (pt ds 0 .non .non)]):=by
 unfold uz
 rw[qW]
 have eo:∀S:Sto,vg [.tup [.tup ds,.int 0,.non,.non]] S=some (.tup [.tup ds,.int 0,.non,.non],S):=fun S=>tU (d:=0) (.top:Onw 0 (pt ds 0 .non .non) _) (by decide)
 have em:∀S:Sto,xB (.tup [.non]) (.int n) S=some (.tup (sk n.toNat []),S):=fun S=>by
  unfold xB
  simp only
  rw[if_pos ⟨by simp,n0,by simp;omega⟩,z7]
  congr 3
  induction n.toNat with
  |zero=>rfl
  |succ k ih=>rw[List.replicate_succ,List.replicate_succ,List.flatten_cons,ih];rfl
 unfold dO pt m0
 rwa[eW,em,eo]
theorem vY{S:Sto}{ll:Nat}{lk:List Int}(h:S[ll]?=some (.dic (uZ lk)))(hl:lk.length<64):eK [.ref ll] S=some (.ref S.length,S++[.lst ((cV lk).map U.int)]):=by
 simp only[eK,h,qF,Option.bind_some,hl,if_true]
theorem FW{S0:Sto}{X:Sto}{S':Sto}{a b:Nat}(k:Kp [a,b] (S0++X) S')(ha:S0.length<=a)(hb:S0.length<=b):∃Y,S'=S0++Y/\Y.length=X.length:=by
 obtain⟨Y,rfl⟩:=xt (ls:=[]) (S0:=S0) (S':=S') (by have:=k.len;simp at this;omega) fun l hl=>by
  rw[k.old l (by simp;omega),List.getElem?_append_left hl]
 exact⟨Y,rfl,by have:=k.len;simp at this;omega⟩
theorem wf0:Wf n m0:=⟨rfl,by simp[m0],by simp[m0],by simp[m0],by simp[m0]⟩
def jA(cD:Cl):Fn:=fnU 8 3 (kG (uC cD) (He cD) (uz cD) cD)
theorem yl{x3 x4:Option U}{lr lp:Nat}{us:List U}{xs:U}{ys:U}{f1 f2 f3:Fn}:∀(ps:List (Int×Int)) (R:List Int) (S:Sto) (r6 r7:Option U),S[lr]?=some (.lst (R.map U.int))->S[lp]?=some (.lst us)->lr≠lp->(∀p∈ps,0<=p.1/\p.1<R.length)->
  ∃r6' r7',dH (fun S=>S[lp]?=some (.lst us)) (gTp [6,7]) (nA f1 f2 f3 cD) (ps.map pU) [some xs,some ys,some (.tup (first.map U.int)),x3,x4,some (.ref lr),r6,r7] S
   = some (.nx,[some xs,some ys,some (.tup (first.map U.int)),x3,x4,some (.ref lr),r6',r7'],S.set lr (.lst ((ps.foldl (fun r p=>r.set p.1.toNat p.2) R).map U.int)))
 |[],R,S,r6,r7,h1,h2,ne,_=>⟨r6,r7,by rw[List.map_nil,d6 h2,List.foldl_nil,o5 h1]⟩
 |p::ps,R,S,r6,r7,h1,h2,ne,hb=>by
  obtain⟨b0,b1⟩:=hb p List.mem_cons_self
  have h1':(S.set lr (.lst ((R.set p.1.toNat p.2).map U.int)))[lr]?=some (.lst ((R.set p.1.toNat p.2).map U.int)):=List.getElem?_set_self (br h1)
  obtain⟨r6',r7',ih⟩:=yl (x3:=x3) (x4:=x4) (lr:=lr) (lp:=lp) (us:=us) (xs:=xs) (ys:=ys) (f1:=f1) (f2:=f2) (f3:=f3) ps (R.set p.1.toNat p.2) (S.set lr (.lst ((R.set p.1.toNat p.2).map U.int))) (some (.int p.1)) (some (.int p.2)) h1' (by rw[List.getElem?_set_ne ne];exact h2) ne fun q hq=>by rw[List.length_set];exact hb q (List.mem_cons_of_mem _ hq)
  rw[List.set_set]at ih
  refine⟨r6',r7',?_⟩
  rw[List.map_cons,List.foldl_cons]
  refine(bx h2 (ρ0:=[some xs,some ys,some (.tup (first.map U.int)),x3,x4,some (.ref lr),some (.int p.1),some (.int p.2)]) (S0:=S) (by rwa[pU]) ?_).trans ih
  have ix:ixN (R.map U.int).length p.1=some p.1.toNat:=by unfold ixN;rw[if_pos b0,if_pos (by simp;omega)]
  rwa[nA,h1,ix,map_set]
theorem An{j:Nat}(hj:j<=3)(S0:Sto)(hns:cD.ns.length=4)(ds:List (Dl j))(od:OkL n w j ds)(lf:first.length=n.toNat)(n0:1<=n)(n1:n<=6)(w0:2<=w) :
  Wf n (nL w first j ds m0).2/\∃G l,jA cD [.tup [.int n,.int w],.tup (ds.map (Dl.u j)),.tup (first.map U.int)] S0=some (told (nL w first j ds m0) first l,S0++G)/\((nL w first j ds m0).1=false->(S0++G)[l]?=some (.lst ((cV (nL w first j ds m0).2.lk).map U.int))/\S0.length<=l):=by
 have c0:Cf cD w n.toNat S0.length (S0.length+1) m0 (pt (ds.map (Dl.u j)) 0 .non .non) (S0++[dO cD w n.toNat m0 (pt (ds.map (Dl.u j)) 0 .non .non),.dic []]):=⟨by rw[ga0];rfl,by rw[ga];rfl⟩
 obtain⟨wf,x',S',eg,c1,k1⟩:=Dm hj lf w0 (by omega) n1 ds od wf0 c0
 refine⟨wf,?_⟩
 have hi:=Dg (cD:=cD) (w:=w) (S0:=S0) (ds:=ds.map (Dl.u j)) n0 n1
 obtain⟨Y,rfl,lY⟩:=FW k1 (Nat.le_refl _) (by omega)
 have lk6:=(wf.few (by omega) n1).2
 unfold jA
 rw[Dr]
 have es:=vY c1.el (by omega)
 unfold told
 cases er:nL w first j ds m0 with
 |mk t m=>
  rw[er]at eg c1 es lk6 wf
  cases t with
  |false=>
   refine⟨Y++[.lst ((cV m.lk).map U.int)],S0.length+Y.length,?_,fun _=>⟨?_,by omega⟩⟩
   ·simp only[List.length_append,List.append_assoc]at es
    rwa[kG,Au,hns,List.replicate,hi,eg,es,List.length_append]
   ·rw[<-List.append_assoc,<-List.length_append,ga0];rfl
  |true=>
   have c2:Cf cD w n.toNat S0.length (S0.length+1) m x' (S0++(Y++[.lst (first.map U.int)])):=by rw[<-List.append_assoc];exact⟨aJ c1.ei,aJ c1.el⟩
   have ep:=IV c2 n1
   have ei:=c2.ei
   have c3:Cf cD w n.toNat S0.length (S0.length+1) m x' (S0++(Y++[.lst ((beh first m.ps 0).map U.int),.lst ((ppL n m).map pU)])):=by rw[<-List.append_assoc];exact⟨aJ c1.ei,aJ c1.el⟩
   have e3:=c3.ei
   obtain⟨r6,r7,el⟩:=yl (first:=first) (cD:=cD) (f1:=uC cD) (f2:=He cD) (f3:=uz cD) (x3:=some (.ref S0.length)) (x4:=some (.ref (S0.length+1))) (xs:=.tup [.int n,.int w]) (ys:=.tup (ds.map (Dl.u j))) (lr:=S0.length+Y.length) (lp:=S0.length+(Y.length+1)) (us:=(ppL n m).map pU) (ppL n m) first (S0++(Y++[.lst (first.map U.int),.lst ((ppL n m).map pU)])) none none
    (by rw[<-List.append_assoc,<-List.length_append,ga0];rfl) (by rw[<-List.append_assoc,<-Nat.add_assoc,<-List.length_append,ga];rfl) (by omega) (fun p hp=>by obtain⟨a,b,_⟩:=Cs hp;omega)
   rw[zX lf]at el
   have gset:(S0++(Y++[O.lst (first.map U.int),.lst ((ppL n m).map pU)])).set (S0.length+Y.length) (.lst ((beh first m.ps 0).map U.int))=S0++(Y++[.lst ((beh first m.ps 0).map U.int),.lst ((ppL n m).map pU)]):=by
    rw[gs,gs0];rfl
   rw[gset]at el
   have gl:(S0++(Y++[O.lst (first.map U.int),.lst ((ppL n m).map pU)]))[S0.length+(Y.length+1)]?=some (.lst ((ppL n m).map pU)):=by rw[<-List.append_assoc,<-Nat.add_assoc,<-List.length_append,ga];rfl
   have gr:(S0++(Y++[O.lst ((beh first m.ps 0).map U.int),.lst ((ppL n m).map pU)]))[S0.length+Y.length]?=some (.lst ((beh first m.ps 0).map U.int)):=by rw[<-List.append_assoc,<-List.length_append,ga0];rfl
   refine⟨Y++[.lst ((beh first m.ps 0).map U.int),.lst ((ppL n m).map pU)],0,?_,fun z=>by cases z⟩
   simp only[List.length_append,List.append_assoc,List.length_cons,List.length_nil,Nat.zero_add,List.cons_append,List.nil_append]at ep
   unfold dO at ei e3
   rwa[kG,Au,hns,List.replicate,hi,eg,ep,ei,j7,iTp,el,e3,gl,gr,List.length_append]
end
def Lay(k:Nat)(S:Sto)(u:U):Prop:=∃d,Dt S u d/\d.canLay0=true/\d.depth<=k
def kJ(k:Nat)(S:Sto)(u v:U):Prop:=∃d,Dt S u d/\Dt S v d/\d.canLay0=true/\d.depth<=k
def iK(k:Nat)(S:Sto)(us vs:List U):Prop:=∃ds,DtL S us ds/\DtL S vs ds/\PyData.canLayAll0 ds=true/\PyData.depthAll ds<=k
section
variable{k j:Nat}{S:Sto}{u v:U}{us vs:List U}
theorem Lay.mono(h:Lay k S u)(l:k<=j):Lay j S u:=by obtain⟨d,a,b,c⟩:=h;exact⟨d,a,b,Nat.le_trans c l⟩
theorem Lay.int{i:Int}:Lay k S (.int i):=⟨_,.int i,rfl,Nat.zero_le _⟩
theorem Lay.str{x:Str}(h:PyData.strOk x=true):Lay k S (.str x):=⟨_,.str x,h,Nat.zero_le _⟩
theorem kJ.refl(h:Lay k S u):kJ k S u u:=by obtain⟨d,a,b,c⟩:=h;exact⟨d,a,a,b,c⟩
theorem iK.nil:iK k S [] []:=⟨[],.nil,.nil,rfl,Nat.zero_le _⟩
theorem iK.cons(h:kJ k S u v)(t:iK k S us vs):iK k S (u::us) (v::vs):=by
 obtain⟨d,a,b,c,e⟩:=h
 obtain⟨ds,a',b',c',e'⟩:=t
 refine⟨d::ds,.cons a a',.cons b b',by unfold PyData.canLayAll0;rw[c,c'];rfl,?_⟩
 unfold PyData.depthAll
 exact Nat.max_le.mpr ⟨e,e'⟩
theorem iK.all:∀{us:List U},(∀u∈us,Lay k S u)->iK k S us us
 |[],_=>.nil
 |u::us,h=>.cons (.refl (h u List.mem_cons_self)) (iK.all fun x hx=>h x (List.mem_cons_of_mem _ hx))
theorem kJ.tup(h:iK k S us vs):kJ (k+1) S (.tup us) (.tup vs):=by
 obtain⟨ds,a,b,c,e⟩:=h
 refine⟨.tuple ds,.tup a,.tup b,by unfold PyData.canLay0;exact c,?_⟩
 unfold PyData.depth
 omega
theorem kJ.lst{l l':Nat}(h1:S[l]?=some (.lst us))(h2:S[l']?=some (.lst vs))(h:iK k S us vs):kJ (k+1) S (.ref l) (.ref l'):=by
 obtain⟨ds,a,b,c,e⟩:=h
 refine⟨.list ds,.lst h1 a,.lst h2 b,by unfold PyData.canLay0;exact c,?_⟩
 unfold PyData.depth
 omega
theorem Lay.tup(h:∀u∈us,Lay k S u):Lay (k+1) S (.tup us):=by
 obtain⟨d,a,_,b,c⟩:=kJ.tup (iK.all h)
 exact⟨d,a,b,c⟩
theorem kJ.ne(h:kJ k S u v)(hk:k<=60):uY true u v S=some (.bl false,S):=by
 obtain⟨d,a,b,c,e⟩:=h
 exact xE true (.inl ⟨d,d,a,b,⟨c,Nat.le_trans e hk⟩,⟨c,Nat.le_trans e hk⟩,(SeqAt.eqv_refl d c).symm⟩)
theorem Lay.deed(d:e9):Lay 1 S d.u:=by
  cases d
  all_goals
    refine .tup fun u hu=>?_
    simp only[List.mem_cons,List.not_mem_nil,or_false]at hu
    first
    | (rcases hu with rfl | rfl | rfl
       · exact .str (by decide +kernel)
       · exact .int
       · exact .int)
    |(subst hu;exact .str (by decide +kernel))
theorem Lay.df{α:Type}{f:α->U}(hf:∀a,Lay k S (f a))(d:DF α):Lay (k+2) S (d.u f):=by
 cases d with
 |pl d=>exact(Lay.deed d).mono (by omega)
 |tr a b=>
  refine .tup fun u hu=>?_
  simp only[List.mem_cons,List.not_mem_nil,or_false]at hu
  rcases hu with rfl|rfl|rfl
  ·exact .str (by decide +kernel)
  ·refine .tup fun u hu=>?_
   obtain⟨i,_,rfl⟩:=List.mem_map.mp hu
   exact hf i
  ·refine .tup fun u hu=>?_
   obtain⟨i,_,rfl⟩:=List.mem_map.mp hu
   exact hf i
theorem Lay.dl:∀(j:Nat) (d:Dl j),Lay (2*j+2) S (Dl.u j d)
 |0,d=>Lay.df (k:=0) (fun a=>nomatch a) d
 |j+1,d=>(Lay.df (k:=2*j+2) (Lay.dl j) d).mono (by omega)
theorem Lay.dls{j:Nat}(ds:List (Dl j)):Lay (2*j+3) S (.tup (ds.map (Dl.u j))):=.tup fun u hu=>by
 obtain⟨i,_,rfl⟩:=List.mem_map.mp hu
 exact Lay.dl j i
end
def dlU{j:Nat}(d:List (Dl j)):U:=.tup (d.map (Dl.u j))
section
variable{cD:Cl}{n w:Int}{j:Nat}{Ds:List (List (Dl j))}{ld lo:Nat}{x2:Option U}{us:List U}
theorem JH{o:Int}(o0:0<=o)(o1:o<Ds.length):atI (Ds.map dlU) o=some (dlU (Ds.getD o.toNat [])):=by
 have hk:o.toNat<Ds.length:=by omega
 refine lH o0 ?_
 rw[List.getElem?_map,List.getElem?_eq_getElem hk,List.getD_eq_getElem?_getD,List.getElem?_eq_getElem hk];rfl
theorem JG{o:Int}(hd:∀d∈Ds,OkL n w j d)(o0:0<=o)(o1:o<Ds.length):OkL n w j (Ds.getD o.toNat []):=by
 have hk:o.toNat<Ds.length:=by omega
 rw[List.getD_eq_getElem?_getD,List.getElem?_eq_getElem hk]
 exact hd _ (List.getElem_mem hk)
end
def dI(ak:Fn):CS:=
 (bf (bN 2 (cCB ak (ae (ah 0) (ae (cOp fIx (ah 1) (cC (.int 0))) aB))))
  (bf (bN 3 (cCB ak (ae (ah 0) (ae (cOp fIx (ah 1) (cC (.int 0))) aB))))
  (bf (bN 4 (cCB ak (ae (ah 0) (ae (cC (.int 5)) aB))))
  (bf (bN 5 (cI (ae (cI (ae (cC (.str "look")) (ae (cC (.int 0)) (ae (ah 2) aB)))) (ae (cI (ae (cC (.str "leap")) (ae (cC (.int 0)) (ae (cC (.int 1)) aB)))) (ae (cI (ae (cC (.str "wait")) aB)) aB)))))
  (bf (dQ (aG (cOp fEq (ah 4) (cC (.int 0)))) (bN 5 (cI (ae (cI (ae (cC (.str "look")) (ae (cC (.int 0)) (ae (ah 2) aB)))) (ae (cI (ae (cC (.str "set")) (ae (cC (.int 1)) (ae (cC (.int 1)) aB)))) (ae (cI (ae (cC (.str "leap")) (ae (cC (.int 0)) (ae (cC (.int 1)) aB)))) (ae (cI (ae (cC (.str "leap")) (ae (cC (.int 2)) (ae (cC (.int 1)) aB)))) (ae (cI (ae (cC (.str "wait")) aB)) aB))))))) cf)
  (bf (dQ (aG (cOp fEq (ah 4) (cC (.int 1)))) (bf (bN 6 (cI (ae (cI (ae (cC (.str "look")) (ae (cC (.int 0)) (ae (ah 3) aB)))) (ae (cI (ae (cC (.str "leap")) (ae (cC (.int 0)) (ae (cC (.int 1)) aB)))) (ae (cI (ae (cC (.str "wait")) aB)) aB)))))
  (bN 5 (cI (ae (cI (ae (cC (.str "look")) (ae (cC (.int 0)) (ae (ah 2) aB)))) (ae (cI (ae (cC (.str "try")) (ae (cI (ae (cI (ae (cC (.str "leap")) (ae (cC (.int 0)) (ae (cC (.int 1)) aB)))) (ae (cI (ae (cC (.str "leap")) (ae (cC (.int 2)) (ae (cC (.int 1)) aB)))) (ae (cI (ae (cC (.str "wait")) aB)) aB)))) (ae (ah 6) aB)))) aB))))) cf)
  (bf (bN 7 (cOp fIx (gN (ae (ah 2) (ae (ah 3) aB))) (cCB ak (ae (ah 0) (ae (cC (.int 2)) aB)))))
  (fh (cOp fu (ah 5) (cI (ae (cI (ae (cC (.str "set")) (ae (cC (.int 3)) (ae (cCB ak (ae (ah 0) (ae (cC (.int 2)) aB))) aB)))) (ae (cI (ae (cC (.str "put")) (ae (ah 7) (ae (cC (.int 3)) aB)))) aB))))))))))))
theorem sy{ak:Fn}{a0 a1:U}{S:Sto}:fnU 8 2 (dI ak) [a0,a1] S=((dI ak) [some a0,some a1,none,none,none,none,none,none] S).bind kFn:=iU rfl
def bg(ak aE cG:Fn):CS:=
 (dQ (nI (aG (cOp fLt (ah 4) (cC (.int 5)))) (aG (cOp fEq (cCB ak (ae (ah 0) (ae (cC (.int 4)) aB))) (cC (.int 0))))) (ef (cBM bW (ah 3) (ae (cCB aE (ae (ah 0) (ae (ah 1) (ae (cC (.int 10)) (ae (cC (.int 2)) aB))))) aB))) (ef (cBM bW (ah 3) (ae (cCB cG (ae (ah 0) (ae (ah 1) aB))) aB))))
def bJ(ak aE cG:Fn):CS:=
 (bf (bN 3 (gN aB))
  (bf (bN 4 (cOp fu (cC (.int 1)) (cCB ak (ae (ah 0) (ae (ah 2) aB)))))
  (bf (j7 (fg (ae (ah 4) aB)) (gNm 5) (bg ak aE cG))
  (fh (ah 3)))))
theorem iT{ak aE cG:Fn}{a0 a1 a2:U}{S:Sto}:fnU 6 3 (bJ ak aE cG) [a0,a1,a2] S=((bJ ak aE cG) [some a0,some a1,some a2,none,none,none] S).bind kFn:=iU rfl
def cN(ak:Fn):CS:=
 (fh (cCB gU (ae (sI (fg (ae (cOp fIx (ah 1) (cC (.int 0))) aB)) (gNm 0) (cCB ak (ae (ah 1) (ae (cOp fIx (gN (ae (cC (.int 2)) (ae (cOp fIx (ah 2) (cC (.int 1))) aB))) (cCB zZ (ae (cOp fEq (cCB ak (ae (ah 1) (ae (cC (.int 4)) aB))) (cC (.int 0))) aB))) aB))) 1 [0,1]) aB)))
theorem lV{ak:Fn}{a0 a1:U}{S:Sto}:fnU 2 2 (cN ak) [a0,a1] S=((cN ak) [some a0,some a1] S).bind kFn:=iU rfl
def pQ(aX:Fn):CS:=
 (dQ (aG (cOp (fIn true) (ah 4) (cOp fIx (ah 2) (cC (.int 0))))) (bf (bN 6 (cCB aX (ae (ah 0) (ae (ah 5) (ae (cOp fIx (ah 2) (cC (.int 1))) aB)))))
  (dQ (aG (cOp fEq (cOp fIx (ah 6) (cC (.int 0))) (cC (.str "done")))) (ef (cBM bW (ah 3) (ae (cI (ae (ah 4) (ae (cI (ae (cCB gU (ae (cCB iQ (ae (cOp fu (cOp fIx (ah 2) (cC (.int 0))) (cI (ae (ah 4) aB))) aB)) aB)) (ae (cOp fIx (ah 6) (cC (.int 1))) aB))) aB))) aB))) cf)) cf)
def sG(aX:Fn):CS:=
 (bf (bN 3 (gN aB))
  (bf (j7 (qJ (ah 1)) (gTp [4,5]) (pQ aX))
  (fh (ah 3))))
def gP(bV:Fn)(fuel:Nat):CS:=
 (dQ (aG (cOp zY (ah 7) (ah 4))) (bf (kH (ah 4) (ah 7) (cOp fu (cOp vk (ah 4) (cOp fIx (ah 3) (ah 5))) (gN (ae (ah 6) aB))))
  (ef (cBM bW (ah 3) (ae (ah 7) aB)))) cf)
def gO(bV:Fn)(fuel:Nat):CS:=
 (bf (j7 (iTp (cCB bV (ae (ah 0) (ae (ah 2) (ae (cOp fIx (ah 3) (ah 5)) aB))))) (gTp [6,7]) (gP bV fuel))
  (bN 5 (cOp fu (ah 5) (cC (.int 1)))))
def fK(bV:Fn)(fuel:Nat):CS:=
 (bf (bN 3 (gN (ae (cI (ae (cI aB) (ae (ah 1) aB))) aB)))
  (bf (bN 4 (i6 (cOp fIx (ah 3) (cC (.int 0))) (gN aB)))
  (bf (bN 5 (cC (.int 0)))
  (bf (cW (aG (cOp fLt (ah 5) (cCB gh (ae (ah 3) aB)))) (gO bV fuel) fuel)
  (fh (ah 4))))))
theorem sx{bV:Fn}{fuel:Nat}{a0 a1 a2:U}{S:Sto}:fnU 8 3 (fK bV fuel) [a0,a1,a2] S=((fK bV fuel) [some a0,some a1,some a2,none,none,none,none,none] S).bind kFn:=iU rfl
def cL(aX:Fn):CS:=
 (bf (bN 5 (cCB aX (ae (ah 0) (ae (cOp fIx (ah 1) (ah 4)) (ae (ah 2) aB)))))
  (bf (dQ (aG (cOp fNe (cOp fIx (ah 5) (cC (.int 0))) (cC (.str "done")))) (fh (cC (.bl false))) cf)
  (bN 2 (cOp fIx (ah 5) (cC (.int 1))))))
def cu(aX:Fn):CS:=
 (bf (j7 (iTp (ah 3)) (gNm 4) (cL aX))
  (fh (cC (.bl true))))
theorem kx{aX:Fn}{a0 a1 a2 a3:U}{S:Sto}:fnU 6 4 (cu aX) [a0,a1,a2,a3] S=((cu aX) [some a0,some a1,some a2,some a3,none,none] S).bind kFn:=iU rfl
def cK(gM:Fn):CS:=
 (dQ (aG (cOp (fIn true) (ah 4) (cOp fIx (ah 2) (cC (.int 0))))) (bf (bN 6 (cCB gM (ae (ah 0) (ae (ah 5) (ae (cOp fIx (ah 2) (cC (.int 1))) aB)))))
  (dQ (aG (cOp fEq (cOp fIx (ah 6) (cC (.int 0))) (cC (.str "done")))) (ef (cBM bW (ah 3) (ae (cI (ae (ah 4) (ae (cI (ae (cCB gU (ae (cCB iQ (ae (cOp fu (cOp fIx (ah 2) (cC (.int 0))) (cI (ae (ah 4) aB))) aB)) aB)) (ae (cOp fIx (ah 6) (cC (.int 1))) aB))) aB))) aB))) cf)) cf)
def fH(gM:Fn):CS:=
 (bf (bN 3 (gN aB))
  (bf (j7 (qJ (ah 1)) (gTp [4,5]) (cK gM))
  (fh (ah 3))))
theorem so{gM:Fn}{a0 a1 a2:U}{S:Sto}:fnU 7 3 (fH gM) [a0,a1,a2] S=((fH gM) [some a0,some a1,some a2,none,none,none,none] S).bind kFn:=iU rfl
def fY(bU:Fn)(fuel:Nat):CS:=
 (dQ (aG (cOp zY (ah 7) (ah 3))) (bf (kH (ah 3) (ah 7) (cOp fu (cOp vk (ah 3) (ah 5)) (gN (ae (ah 6) aB))))
  (ef (cBM bW (ah 4) (ae (ah 7) aB)))) cf)
def ej(bU:Fn)(fuel:Nat):CS:=
 (bf (bN 5 (cBM ng (ah 4) (ae (cC (.int 0)) aB)))
  (j7 (iTp (cCB bU (ae (ah 0) (ae (ah 2) (ae (ah 5) aB))))) (gTp [6,7]) (fY bU fuel)))
def cM(bU:Fn)(fuel:Nat):CS:=
 (bf (bN 3 (i6 (cI (ae (cI aB) (ae (ah 1) aB))) (gN aB)))
  (bf (bN 4 (gN (ae (cI (ae (cI aB) (ae (ah 1) aB))) aB)))
  (bf (cW (aG (cOp fGt (cCB gh (ae (ah 4) aB)) (cC (.int 0)))) (ej bU fuel) fuel)
  (fh (ah 3)))))
theorem lU{bU:Fn}{fuel:Nat}{a0 a1 a2:U}{S:Sto}:fnU 8 3 (cM bU fuel) [a0,a1,a2] S=((cM bU fuel) [some a0,some a1,some a2,none,none,none,none,none] S).bind kFn:=iU rfl
def d9:CS:=
 (fh (cOp (fIn true) (cC (.bl false)) (sI (iTp (ah 0)) (gNm 0) (rq (u9 .int (ah 0)) (sH (u9 .bool (ah 0)))) 1 [])))
theorem pM{a0:U}{S:Sto}:fnU 1 1 (d9 ) [a0] S=((d9 ) [some a0] S).bind kFn:=iU rfl
def e8(bo:Fn):CS:=
 (dQ (aG (cOp fEq (cCB gh (ae (cOp fIx (ah 4) (cC (.int 0))) aB)) (cCB gh (ae (ah 2) aB)))) (fh (cI (ae (cC (.str "all")) (ae (cOp vk (ah 3) (ah 4)) aB)))) cf)
def gu(bo:Fn):CS:=
 (bf (bN 3 (cCB bo (ae (ah 0) (ae (ah 1) (ae (ah 2) aB)))))
  (bf (ya (ah 3) (gNm 4) (e8 bo))
  (fh (cI (ae (cC (.str "never")) (ae (cCB oF (ae (ah 3) aB)) aB))))))
theorem u0{bo:Fn}{a0 a1 a2:U}{S:Sto}:fnU 5 3 (gu bo) [a0,a1,a2] S=((gu bo) [some a0,some a1,some a2,none,none] S).bind kFn:=iU rfl
end OQ
namespace OL
open PySem PySem.Spec PyProof.Rows L2 OG OP OQ
def top(i:Nat):Stmt:=PySem.Challenge.pw_oneglance_k54_all_are_done.main.body.getD i (.Pass ⟨0,0,0,0⟩)
abbrev ig:Stmt:=fF (top 1) 0
abbrev iA:Stmt:=fF (top 1) 1
abbrev iB:Stmt:=fF (top 1) 2
abbrev iq:Stmt:=fF (top 1) 3
abbrev fC:Stmt:=fF (top 1) 4
abbrev ik:Stmt:=fF (top 1) 5
abbrev dE:Stmt:=fF (top 1) 6
abbrev eI:Stmt:=fF (top 1) 7
abbrev eJ:Stmt:=fF (top 1) 8
abbrev eF:Stmt:=fF (top 1) 9
abbrev eE:Stmt:=fF (top 1) 10
abbrev mP:Stmt:=top 2
abbrev mQ:Stmt:=top 3
abbrev gc:Stmt:=top 4
abbrev rN:Stmt:=top 5
abbrev jf:Stmt:=top 7
abbrev fb:Stmt:=top 8
abbrev j9:Stmt:=top 9
abbrev ke:Stmt:=top 11
abbrev jg:Stmt:=top 12
abbrev hU:Stmt:=top 13
abbrev jh:Stmt:=top 15
abbrev eC:Stmt:=top 16
abbrev gf:Stmt:=top 17
abbrev ib:Stmt:=top 18
abbrev hV:Stmt:=top 19
abbrev ie:Stmt:=top 20
abbrev jk:Stmt:=top 21
abbrev dq:Stmt:=top 22
abbrev fc:Stmt:=top 23
abbrev jj:Stmt:=top 24
abbrev ji:Stmt:=top 25
abbrev eD:Stmt:=top 26
abbrev gF:Stmt:=top 27
abbrev Ca:Stmt:=top 28
section
variable{P:Program}{w:World}{K:PySem.W.Frag}{mg:Str->Option Value}{base:Heap}
theorem k9:aN ["pen","many","at","cell","one","two","three","found"] ["pen","many"] (ay jg):=⟨rfl,rfl,rfl,by decide +kernel,rfl,by decide +kernel,by decide +kernel⟩
theorem se{k:Nat}(d:Def K mg "_law_take" jg ["pen","many"])(B:Blt mg):dk P w K mg base "_law_take" (k+1) ["pen","many"] (fnU 8 2 (eM )):=
 d.pure k9 fun f cdv A outer s H E hr=>(by
  have hu:=de hr
  have nd:=k9.nd
  exact(aq (bC (aR eR lC (bj hu (ag (wpv 0)) (ar af) (fun _ _=>rfl) (fun _ _=>rfl)) (ar af) (aM _)) (aq (aI (i:=2) nd rfl (by first|exact Or.inl rfl|exact Or.inr rfl) (bj hu (ag (wpv 0)) (ar af) (fun _ _=>rfl) (fun _ _=>rfl)))
   (aq (d3 hu (ag (wpv 0)) (ar af) (dB dG dF (ag (wpv 2)) (ar af)))
   (aq (aI (i:=3) nd rfl (by first|exact Or.inl rfl|exact Or.inr rfl) (ar af))
   (aq (bC (aR lP vj (ag (wpv 2)) (bQ iE iD rfl B.len PySem.boot_len (ab (bj hu (ag (wpv 0)) (ar af) (fun _ _=>rfl) (fun _ _=>rfl)) aw)) (aM _)) (ax (aI (i:=3) nd rfl (by first|exact Or.inl rfl|exact Or.inr rfl) (bj hu (bj hu (ag (wpv 0)) (ar af) (fun _ _=>rfl) (fun _ _=>rfl)) (ag (wpv 2)) (fun _ _=>rfl) (fun _ _=>rfl)))) (ax (bC (aR qB AK (bQ iE iD rfl B.len PySem.boot_len (ab (bj hu (ag (wpv 0)) (ar af) (fun _ _=>rfl) (fun _ _=>rfl)) aw)) (ar af) (aM _)) (ax (aI (i:=3) nd rfl (by first|exact Or.inl rfl|exact Or.inr rfl) (dB dG dF (dB jW pj (bj hu (bj hu (ag (wpv 0)) (ar af) (fun _ _=>rfl) (fun _ _=>rfl)) (dB jW pj (dB iY ph (ag (wpv 2)) (ar af)) (bQ iE iD rfl B.len PySem.boot_len (ab (bj hu (ag (wpv 0)) (ar af) (fun _ _=>rfl) (fun _ _=>rfl)) aw))) (fun _ _=>rfl) (fun _ _=>rfl)) (ar af)) (dB iY ph (ar af) (ag (wpv 2)))))) bw)))
   (aq (aI (i:=4) nd rfl (by first|exact Or.inl rfl|exact Or.inr rfl) (dB jW pj (dB iY ph (dB dG dF (dB dG dF (dB jW pj (ag (wpv 3)) (ar af)) (dB iY ph (ar af) (ag (wpv 2)))) (ar af)) (ar af)) (ar af)))
   (aq (aI (i:=5) nd rfl (by first|exact Or.inl rfl|exact Or.inr rfl) (dB jW pj (dB dG dF (dB dG dF (dB iY ph (ag (wpv 4)) (ag (wpv 4))) (dB iY ph (ar af) (ag (wpv 2)))) (ar af)) (ar af)))
   (aq (aI (i:=6) nd rfl (by first|exact Or.inl rfl|exact Or.inr rfl) (dB jW pj (dB dG dF (dB iY ph (ag (wpv 5)) (ag (wpv 5))) (ag (wpv 4))) (ar af)))
   (aq (d3 hu (ag (wpv 0)) (ar af) (dB dG dF (dB pq CQ (dB dG dF (dB iY ph (ag (wpv 5)) (ar af)) (ag (wpv 6))) (ar af)) (ar af)))
   (ax (bC (aR CV Jb (ag (wpv 3)) (dB AL FE (ar af) (ar af)) (aM _)) (ax (d3 hu (ag (wpv 0)) (ar af) (dB pq CQ (ag (wpv 3)) (dB AL FE (ar af) (ar af))))) bw)))))))))) bw)
   (aq (aI (i:=7) nd rfl (by first|exact Or.inl rfl|exact Or.inr rfl) (dB jW pj (bj hu (ag (wpv 0)) (ar af) (fun _ _=>rfl) (fun _ _=>rfl)) (ag (wpv 1))))
   (aq (d3 hu (ag (wpv 0)) (ar af) (dB pq CQ (bj hu (ag (wpv 0)) (ar af) (fun _ _=>rfl) (fun _ _=>rfl)) (ag (wpv 1))))
   (ax (aZ (ag (wpv 7))))))))
theorem jJ:aN ["pen"] ["pen"] (ay hU):=⟨rfl,rfl,rfl,by decide +kernel,rfl,by decide +kernel,by decide +kernel⟩
theorem qK{k:Nat}{ak:Fn}(d:Def K mg "_law_world" hU ["pen"])(B:Blt mg)(aA:dk P w K mg base "_law_take" (k) ["pen","many"] ak):dk P w K mg base "_law_world" (k+1) ["pen"] (fnU 1 1 (eV ak)):=
 d.pure jJ fun f cdv A outer s H E hr=>(by
  have hu:=de hr
  have nd:=jJ.nd
  exact(ax (aZ (bt (ab (dB dG dF (ar af) (aQ aA hr rfl (ab (ag (wpv 0)) (ab (ar af) aw)))) (ab (bj hu (gH (ab (ar af) (ab (ar af) (ab (ar af) (ab (ar af) (ab (dB dG dF (ar af) (aQ aA hr rfl (ab (ag (wpv 0)) (ab (ar af) aw)))) aw)))))) (aQ aA hr rfl (ab (ag (wpv 0)) (ab (ar af) aw))) (fun _ _=>rfl) (fun _ _=>rfl)) aw))))))
theorem lj:aN ["dealing","many","deed"] ["dealing"] (ay jh):=⟨rfl,rfl,rfl,by decide +kernel,rfl,by decide +kernel,by decide +kernel⟩
theorem js{k:Nat}{aK:Fn}(d:Def K mg "_law_size" jh ["dealing"])(B:Blt mg)(fO:dk P w K mg base "_law_size" (k) ["dealing"] aK):dk P w K mg base "_law_size" (k+1) ["dealing"] (fnU 3 1 (fJ aK)):=
 d.pure lj fun f cdv A outer s H E hr=>(by
  have hu:=de hr
  have nd:=lj.nd
  exact(aq (aI (i:=1) nd rfl (by first|exact Or.inl rfl|exact Or.inr rfl) (ar af))
   (aq (gT PassesOwn.never rfl (mR (ag (wpv 0))) (fe (a8 (i:=2) nd rfl (by first|exact Or.inl rfl|exact Or.inr rfl))) (aq (aI (i:=1) nd rfl (by first|exact Or.inl rfl|exact Or.inr rfl) (dB dG dF (ag (wpv 1)) (ar af)))
   (ax (bC (aR eR lC (bj hu (ag (wpv 2)) (ar af) (fun _ _=>rfl) (fun _ _=>rfl)) (aV aC) (aM _)) (ax (aI (i:=1) nd rfl (by first|exact Or.inl rfl|exact Or.inr rfl) (dB dG dF (dB dG dF (ag (wpv 1)) (aQ fO hr rfl (ab (bj hu (ag (wpv 2)) (ar af) (fun _ _=>rfl) (fun _ _=>rfl)) aw))) (aQ fO hr rfl (ab (bj hu (ag (wpv 2)) (ar af) (fun _ _=>rfl) (fun _ _=>rfl)) aw))))) bw))))
   (ax (aZ (ag (wpv 1)))))))
theorem fR:aN ["pen","world","way","hand"] ["pen","world","way","hand"] (ay eC):=⟨rfl,rfl,rfl,by decide +kernel,rfl,by decide +kernel,by decide +kernel⟩
theorem kh{k:Nat}{ak:Fn}(d:Def K mg "_law_plain_deed" eC ["pen","world","way","hand"])(B:Blt mg)(aA:dk P w K mg base "_law_take" (k) ["pen","many"] ak):dk P w K mg base "_law_plain_deed" (k+1) ["pen","world","way","hand"] (fnU 4 4 (bc ak)):=
 d.pure fR fun f cdv A outer s H E hr=>(by
  have hu:=de hr
  have nd:=fR.nd
  exact(aq (bC (aR lP vj (ag (wpv 2)) (ar af) (aM _)) (ax (aZ (bt (ab (aV aC) (ab (ag (wpv 3)) (ab (aQ aA hr rfl (ab (ag (wpv 0)) (ab (bj hu (ag (wpv 1)) (ar af) (fun _ _=>rfl) (fun _ _=>rfl)) aw))) aw)))))) bw)
   (aq (bC (aR lP vj (ag (wpv 2)) (ar af) (aM _)) (ax (aZ (bt (ab (aV aC) (ab (aQ aA hr rfl (ab (ag (wpv 0)) (ab (bj hu (ag (wpv 1)) (ar af) (fun _ _=>rfl) (fun _ _=>rfl)) aw))) (ab (ag (wpv 3)) aw)))))) bw)
   (aq (bC (aR lP vj (ag (wpv 2)) (ar af) (aM _)) (ax (aZ (bt (ab (aV aC) (ab (ag (wpv 3)) (ab (aQ aA hr rfl (ab (ag (wpv 0)) (ab (bj hu (ag (wpv 1)) (ar af) (fun _ _=>rfl) (fun _ _=>rfl)) aw))) aw)))))) bw)
   (aq (bC (aR lP vj (ag (wpv 2)) (ar af) (aM _)) (ax (aZ (bt (ab (aV aC) (ab (ag (wpv 3)) (ab (aQ aA hr rfl (ab (ag (wpv 0)) (ab (ar af) aw))) aw)))))) bw)
   (ax (aZ (bt (ab (aV aC) (ab (ag (wpv 3)) (ab (dB dG dF (ar af) (aQ aA hr rfl (ab (ag (wpv 0)) (ab (bj hu (gH (ab (ar af) (ab (ar af) aw))) (aQ aA hr rfl (ab (ag (wpv 0)) (ab (ar af) aw))) (fun _ _=>rfl) (fun _ _=>rfl)) aw)))) aw)))))))))))
theorem hG:aN ["pen","world","room","tries","deeds","left","k","way","hand","one","other"] ["pen","world","room","tries"] (ay gf):=⟨rfl,rfl,rfl,by decide +kernel,rfl,by decide +kernel,by decide +kernel⟩
theorem eO{k:Nat}{ak aT aE aK:Fn}(d:Def K mg "_law_dealing" gf ["pen","world","room","tries"])(B:Blt mg)(aA:dk P w K mg base "_law_take" (k) ["pen","many"] ak)(bP:dk P w K mg base "_law_plain_deed" (k) ["pen","world","way","hand"] aT)(eP:dk P w K mg base "_law_dealing" (k) ["pen","world","room","tries"] aE)(fO:dk P w K mg base "_law_size" (k) ["dealing"] aK):dk P w K mg base "_law_dealing" (k+1) ["pen","world","room","tries"] (fnU 11 4 (dv ak aT aE aK)):=
 d.pure hG fun f cdv A outer s H E hr=>(by
  have hu:=de hr
  have nd:=hG.nd
  exact(aq (aI (i:=4) nd rfl (by first|exact Or.inl rfl|exact Or.inr rfl) (gH aw))
   (aq (aI (i:=5) nd rfl (by first|exact Or.inl rfl|exact Or.inr rfl) (ag (wpv 2)))
   (aq (gT PassesOwn.never rfl (iC rfl B.range (ab (aQ aA hr rfl (ab (ag (wpv 0)) (ab (dB dG dF (bQ (xZ rfl) Ja rfl B.min OG.Ak (ab (ar af) (ab (ag (wpv 2)) aw))) (ar af)) aw))) aw)) (fe (a8 (i:=6) nd rfl (by first|exact Or.inl rfl|exact Or.inr rfl))) (aq (aI (i:=7) nd rfl (by first|exact Or.inl rfl|exact Or.inr rfl) (aQ aA hr rfl (ab (ag (wpv 0)) (ab (ar af) aw))))
   (aq (aI (i:=8) nd rfl (by first|exact Or.inl rfl|exact Or.inr rfl) (aQ aA hr rfl (ab (ag (wpv 0)) (ab (ar af) aw))))
   (ax (bC (uM (lO (aR qB AK (ag (wpv 5)) (ar af) (aM _)) (lO (aR lP vj (bQ iE iD rfl B.len PySem.boot_len (ab (ag (wpv 4)) aw)) (ar af) (aM _)) (jT (aR lP vj (ag (wpv 7)) (ar af) (aM _)))))) (aq (bY (dc (ag (wpv 4)) (ab (aQ bP hr rfl (ab (ag (wpv 0)) (ab (ag (wpv 1)) (ab (ag (wpv 7)) (ab (ag (wpv 8)) aw))))) aw)))
   (ax (aI (i:=5) nd rfl (by first|exact Or.inl rfl|exact Or.inr rfl) (dB jV pe (ag (wpv 5)) (ar af))))) (ax (bC (uM (lO (aR qB AK (ag (wpv 5)) (ar af) (aM _)) (lO (aR lP vj (bQ iE iD rfl B.len PySem.boot_len (ab (ag (wpv 4)) aw)) (ar af) (aM _)) (jT (uM (E4 (aR eR lC (ag (wpv 7)) (ar af) (aM _)) (y1 (aR eR lC (ag (wpv 3)) (ar af) (aM _))))))))) (aq (bC (uM (lO (aR qB AK (ag (wpv 5)) (ar af) (aM _)) (lO (aR lP vj (bQ iE iD rfl B.len PySem.boot_len (ab (ag (wpv 4)) aw)) (ar af) (aM _)) (jT (aR qB AK (aQ aA hr rfl (ab (ag (wpv 0)) (ab (ar af) aw))) (ar af) (aM _)))))) (aq (bY (dc (ag (wpv 4)) (ab (bt (ab (aV aC) (ab (ag (wpv 8)) (ab (ar af) aw)))) aw)))
   (ax (aI (i:=5) nd rfl (by first|exact Or.inl rfl|exact Or.inr rfl) (dB jV pe (ag (wpv 5)) (ar af))))) bw)
   (aq (bY (dc (ag (wpv 4)) (ab (bt (ab (aV aC) aw)) aw)))
   (ax (aI (i:=5) nd rfl (by first|exact Or.inl rfl|exact Or.inr rfl) (dB jV pe (ag (wpv 5)) (ar af)))))) (ax (bC (uM (lO (aR qB AK (ag (wpv 5)) (ar af) (aM _)) (jT (aR lP vj (bQ iE iD rfl B.len PySem.boot_len (ab (ag (wpv 4)) aw)) (ar af) (aM _))))) (aq (aI (i:=9) nd rfl (by first|exact Or.inl rfl|exact Or.inr rfl) (aQ eP hr rfl (ab (ag (wpv 0)) (ab (ag (wpv 1)) (ab (aQ aA hr rfl (ab (ag (wpv 0)) (ab (ag (wpv 5)) aw))) (ab (dB jV pe (ag (wpv 3)) (ar af)) aw))))))
   (aq (aI (i:=5) nd rfl (by first|exact Or.inl rfl|exact Or.inr rfl) (dB jV pe (dB jV pe (ag (wpv 5)) (ar af)) (aQ fO hr rfl (ab (ag (wpv 9)) aw))))
   (aq (aI (i:=10) nd rfl (by first|exact Or.inl rfl|exact Or.inr rfl) (aQ eP hr rfl (ab (ag (wpv 0)) (ab (ag (wpv 1)) (ab (aQ aA hr rfl (ab (ag (wpv 0)) (ab (dB dG dF (ag (wpv 5)) (ar af)) aw))) (ab (dB jV pe (ag (wpv 3)) (ar af)) aw))))))
   (aq (aI (i:=5) nd rfl (by first|exact Or.inl rfl|exact Or.inr rfl) (dB jV pe (ag (wpv 5)) (aQ fO hr rfl (ab (ag (wpv 10)) aw))))
   (ax (bY (dc (ag (wpv 4)) (ab (bt (ab (aV aC) (ab (ag (wpv 9)) (ab (ag (wpv 10)) aw)))) aw)))))))) bw)))))))))
   (ax (aZ (bZ cH jn rfl B.tuple OG.dR (ab (ag (wpv 4)) aw))))))))
theorem jL:aN ["world","deed","now","word","one","other"] ["world","deed","now"] (ay ib):=⟨rfl,rfl,rfl,by decide +kernel,rfl,by decide +kernel,by decide +kernel⟩
theorem qL{k:Nat}(d:Def K mg "_law_plain" ib ["world","deed","now"])(B:Blt mg):dk P w K mg base "_law_plain" (k+1) ["world","deed","now"] (fnU 6 3 (bF )):=
 d.pure jL fun f cdv A outer s H E hr=>(by
  have hu:=de hr
  have nd:=jL.nd
  exact(aq (E3 (ag (wpv 1)) (mS rfl (cE (a8 (i:=3) nd rfl (by first|exact Or.inl rfl|exact Or.inr rfl)) (cE (a8 (i:=4) nd rfl (by first|exact Or.inl rfl|exact Or.inr rfl)) (cE (a8 (i:=5) nd rfl (by first|exact Or.inl rfl|exact Or.inr rfl)) jm)))))
   (ax (bC (aR eR lC (ag (wpv 3)) (aV aC) (aM _)) (aq (bC (uM (lO (jS hu (ag (wpv 5)) (bj hu (ag (wpv 2)) (aV aC) (fun _ _=>rfl) (fun _ _=>rfl)) (by with_unfolding_all rfl)) (jT (jS hu (ag (wpv 5)) (bj hu (ag (wpv 2)) (aV aC) (fun _ _=>rfl) (fun _ _=>rfl)) (by with_unfolding_all rfl))))) (ax (bY (dc (bj hu (ag (wpv 2)) (aV aC) (fun _ _=>rfl) (fun _ _=>rfl)) (ab (ag (wpv 5)) aw)))) bw)
   (ax (d3 hu (bj hu (ag (wpv 2)) (aV aC) (fun _ _=>rfl) (fun _ _=>rfl)) (ag (wpv 4)) (bj hu (bj hu (ag (wpv 2)) (aV aC) (fun _ _=>rfl) (fun _ _=>rfl)) (ag (wpv 5)) (fun _ _=>rfl) (fun _ _=>rfl))))) (ax (bC (aR eR lC (ag (wpv 3)) (aV aC) (aM _)) (aq (d3 hu (bj hu (ag (wpv 2)) (aV aC) (fun _ _=>rfl) (fun _ _=>rfl)) (ag (wpv 4)) (bj hu (bj hu (ag (wpv 2)) (aV aC) (fun _ _=>rfl) (fun _ _=>rfl)) (ag (wpv 5)) (fun _ _=>rfl) (fun _ _=>rfl)))
   (ax (bC (jS hu (ag (wpv 4)) (bj hu (ag (wpv 2)) (aV aC) (fun _ _=>rfl) (fun _ _=>rfl)) (by with_unfolding_all rfl)) (ax (bY (dc (bj hu (ag (wpv 2)) (aV aC) (fun _ _=>rfl) (fun _ _=>rfl)) (ab (ag (wpv 4)) aw)))) bw))) (ax (bC (aR eR lC (ag (wpv 3)) (aV aC) (aM _)) (ax (d3 hu (bj hu (ag (wpv 2)) (aV aC) (fun _ _=>rfl) (fun _ _=>rfl)) (ag (wpv 4)) (ag (wpv 5)))) (ax (d3 hu (bj hu (ag (wpv 2)) (aV aC) (fun _ _=>rfl) (fun _ _=>rfl)) (ag (wpv 4)) (dB jW pj (dB dG dF (bj hu (bj hu (ag (wpv 2)) (aV aC) (fun _ _=>rfl) (fun _ _=>rfl)) (ag (wpv 4)) (fun _ _=>rfl) (fun _ _=>rfl)) (bj hu (bj hu (ag (wpv 2)) (aV aC) (fun _ _=>rfl) (fun _ _=>rfl)) (ag (wpv 5)) (fun _ _=>rfl) (fun _ _=>rfl))) (bj hu (ag (wpv 0)) (ar af) (fun _ _=>rfl) (fun _ _=>rfl)))))))))))))
theorem jK:aN ["world","dealing","now","out","deed","kept","part"] ["world","dealing","now"] (ay hV):=⟨rfl,rfl,rfl,by decide +kernel,rfl,by decide +kernel,by decide +kernel⟩
theorem fX{k:Nat}{bD aL:Fn}(d:Def K mg "_law_waits" hV ["world","dealing","now"])(B:Blt mg)(dS:dk P w K mg base "_law_plain" (k) ["world","deed","now"] bD)(f9:dk P w K mg base "_law_waits" (k) ["world","dealing","now"] aL):dk P w K mg base "_law_waits" (k+1) ["world","dealing","now"] (fnU 7 3 (dJ bD aL)):=
 d.pure jK fun f cdv A outer s H E hr=>(by
  have hu:=de hr
  have nd:=jK.nd
  exact(aq (aI (i:=3) nd rfl (by first|exact Or.inl rfl|exact Or.inr rfl) (ar af))
   (aq (gT PassesOwn.never rfl (mR (ag (wpv 1))) (fe (a8 (i:=4) nd rfl (by first|exact Or.inl rfl|exact Or.inr rfl))) (ax (bC (aR qB AK (ag (wpv 3)) (ar af) (aM _)) (ax (aI (i:=3) nd rfl (by first|exact Or.inl rfl|exact Or.inr rfl) (dB jV pe (ag (wpv 3)) (ar af)))) (ax (bC (aR eR lC (bj hu (ag (wpv 4)) (ar af) (fun _ _=>rfl) (fun _ _=>rfl)) (aV aC) (aM _)) (ax (aZ (o8 dW))) (ax (bC (aR eR lC (bj hu (ag (wpv 4)) (ar af) (fun _ _=>rfl) (fun _ _=>rfl)) (aV aC) (aM _)) (ax (aI (i:=3) nd rfl (by first|exact Or.inl rfl|exact Or.inr rfl) (dB iY ph (bj hu (ag (wpv 4)) (ar af) (fun _ _=>rfl) (fun _ _=>rfl)) (bZ nr CO rfl B.int OG.mj (ab (wu eR lC (bj hu (bj hu (ag (wpv 2)) (aV aC) (fun _ _=>rfl) (fun _ _=>rfl)) (bj hu (ag (wpv 4)) (ar af) (fun _ _=>rfl) (fun _ _=>rfl)) (fun _ _=>rfl) (fun _ _=>rfl)) (ar af) (aM _)) aw))))) (ax (bC (aR zw GY (bj hu (ag (wpv 4)) (ar af) (fun _ _=>rfl) (fun _ _=>rfl)) (aV aC) (aM _)) (ax (bY (aQ dS hr rfl (ab (ag (wpv 0)) (ab (ag (wpv 4)) (ab (ag (wpv 2)) aw)))))) (aq (aI (i:=5) nd rfl (by first|exact Or.inl rfl|exact Or.inr rfl) (AH (jl (aV aC) (bZ cZ ox rfl B.list OG.dz (ab (bj hu (ag (wpv 2)) (aV aC) (fun _ _=>rfl) (fun _ _=>rfl)) aw)) (jl (aV aC) (bZ cZ ox rfl B.list OG.dz (ab (bj hu (ag (wpv 2)) (aV aC) (fun _ _=>rfl) (fun _ _=>rfl)) aw)) (jl (aV aC) (bZ cZ ox rfl B.list OG.dz (ab (bj hu (ag (wpv 2)) (aV aC) (fun _ _=>rfl) (fun _ _=>rfl)) aw)) AG))) rfl rfl (by simp) (by exact Nat.le_of_ble_eq_true rfl) (by exact Nat.le_of_ble_eq_true rfl)))
   (ax (bC (gp (aQ f9 hr rfl (ab (ag (wpv 0)) (ab (bj hu (ag (wpv 4)) (ar af) (fun _ _=>rfl) (fun _ _=>rfl)) (ab (ag (wpv 2)) aw))))) (aq (Cg PassesOwn.never rfl (ag (wpv 5)) (fe (a8 (i:=6) nd rfl (by first|exact Or.inl rfl|exact Or.inr rfl))) (ax (d3 hu (ag (wpv 2)) (ag (wpv 6)) (bj hu (ag (wpv 5)) (ag (wpv 6)) (fun _ _=>rfl) (fun _ _=>rfl)))))
   (ax (bC (gp (aQ f9 hr rfl (ab (ag (wpv 0)) (ab (bj hu (ag (wpv 4)) (ar af) (fun _ _=>rfl) (fun _ _=>rfl)) (ab (ag (wpv 2)) aw))))) (ax (aZ (o8 dW))) bw))) bw))))))))))))
   (ax (aZ (o8 dW))))))
theorem jM:aN ["world","dealing","state","now"] ["world","dealing","state"] (ay ie):=⟨rfl,rfl,rfl,by decide +kernel,rfl,by decide +kernel,by decide +kernel⟩
theorem qM{k:Nat}{aL:Fn}(d:Def K mg "_law_alone" ie ["world","dealing","state"])(B:Blt mg)(f9:dk P w K mg base "_law_waits" (k) ["world","dealing","now"] aL):dk P w K mg base "_law_alone" (k+1) ["world","dealing","state"] (fnU 4 3 (dM aL)):=
 d.pure jM fun f cdv A outer s H E hr=>(by
  have hu:=de hr
  have nd:=jM.nd
  exact(aq (aI (i:=3) nd rfl (by first|exact Or.inl rfl|exact Or.inr rfl) (AH (jl (aV aC) (bZ cZ ox rfl B.list OG.dz (ab (ag (wpv 2)) aw)) (jl (aV aC) (gH aw) (jl (aV aC) (gH (ab (ar af) (ab (ar af) (ab (ar af) (ab (ar af) aw))))) (jl (aV aC) (gH aw) AG)))) rfl rfl (by simp) (by exact Nat.le_of_ble_eq_true rfl) (by exact Nat.le_of_ble_eq_true rfl)))
   (aq (bC (gp (aQ f9 hr rfl (ab (ag (wpv 0)) (ab (ag (wpv 1)) (ab (ag (wpv 3)) aw))))) (ax (aZ (bt (ab (aV aC) (ab (bQ (px rfl) pf rfl B.sorted OG.fM (ab (bj hu (ag (wpv 3)) (aV aC) (fun _ _=>rfl) (fun _ _=>rfl)) aw)) aw))))) bw)
   (ax (aZ (bt (ab (aV aC) (ab (bZ cH jn rfl B.tuple OG.dR (ab (bj hu (ag (wpv 3)) (aV aC) (fun _ _=>rfl) (fun _ _=>rfl)) aw)) (ab (bZ cH jn rfl B.tuple OG.dR (ab (bj hu (ag (wpv 3)) (aV aC) (fun _ _=>rfl) (fun _ _=>rfl)) aw)) aw)))))))))
theorem oj:aN ["row","place","value"] ["row","place","value"] (ay mP):=⟨rfl,rfl,rfl,by decide +kernel,rfl,by decide +kernel,by decide +kernel⟩
theorem xn{k:Nat}(d:Def K mg "with_at" mP ["row","place","value"])(B:Blt mg):dk P w K mg base "with_at" (k+1) ["row","place","value"] (fnU 3 3 (iI )):=
 d.pure oj fun f cdv A outer s H E hr=>(by
  have hu:=de hr
  have nd:=oj.nd
  exact(ax (aZ (dB dG dF (dB dG dF (J5 (ag (wpv 0)) wk (wj (ag (wpv 1)))) (bt (ab (ag (wpv 2)) aw))) (J5 (ag (wpv 0)) (wj (dB dG dF (ag (wpv 1)) (ar af))) wk)))))
theorem om:aN ["part","reached"] ["part"] (ay mQ):=⟨rfl,rfl,rfl,by decide +kernel,rfl,by decide +kernel,by decide +kernel⟩
theorem xo{k:Nat}{fuel:Nat}(d:Def K mg "onwards" mQ ["part"])(B:Blt mg):dk P w K mg base "onwards" (k+1) ["part"] (fnU 2 1 (iJ fuel)):=
 d.pure om fun f cdv A outer s H E hr=>(by
  have hu:=de hr
  have nd:=om.nd
  exact(aq (aI (i:=1) nd rfl (by first|exact Or.inl rfl|exact Or.inr rfl) (ag (wpv 0)))
   (aq (l5 fuel PassesOwn.never (uM (lO (aR CV Jb (bj hu (ag (wpv 1)) (ar af) (fun _ _=>rfl) (fun _ _=>rfl)) (bQ iE iD rfl B.len PySem.boot_len (ab (bj hu (ag (wpv 1)) (ar af) (fun _ _=>rfl) (fun _ _=>rfl)) aw)) (aM _)) (jT (aR rS wD (bj hu (ag (wpv 1)) (ar af) (fun _ _=>rfl) (fun _ _=>rfl)) (o7 gC) (aM _))))) (ax (aI (i:=1) nd rfl (by first|exact Or.inl rfl|exact Or.inr rfl) (bj hu (ag (wpv 1)) (ar af) (fun _ _=>rfl) (fun _ _=>rfl)))))
   (ax (aZ (ag (wpv 1)))))))
theorem jQ:aN ["self"] ["self"] (ay iA):=⟨rfl,rfl,rfl,by decide +kernel,rfl,by decide +kernel,by decide +kernel⟩
theorem qQ{k:Nat}{ao:Cl}(d:MtD K ao.C "deed" "Doing.deed" iA ["self"])(B:Blt mg)(TDoing:TC K ao ["wheel","held","puts","part"]):ja P w K mg base ao "deed" (k+1) ["self"] (fnU 1 1 (dN ao)):=
 d.pure jQ fun f cdv A outer s H E hr=>(by
  have hu:=de hr
  have nd:=jQ.nd
  exact(aq (bC (aR CV Jb (bj hu (gI TDoing.cl (TDoing.na 3 rfl) (TDoing.ix rfl) (ag (wpv 0))) (ar af) (fun _ _=>rfl) (fun _ _=>rfl)) (bQ iE iD rfl B.len PySem.boot_len (ab (bj hu (gI TDoing.cl (TDoing.na 3 rfl) (TDoing.ix rfl) (ag (wpv 0))) (ar af) (fun _ _=>rfl) (fun _ _=>rfl)) aw)) (aM _)) (ax (aZ (o7 gC))) bw)
   (ax (aZ (bj hu (bj hu (gI TDoing.cl (TDoing.na 3 rfl) (TDoing.ix rfl) (ag (wpv 0))) (ar af) (fun _ _=>rfl) (fun _ _=>rfl)) (bj hu (gI TDoing.cl (TDoing.na 3 rfl) (TDoing.ix rfl) (ag (wpv 0))) (ar af) (fun _ _=>rfl) (fun _ _=>rfl)) (fun _ _=>rfl) (fun _ _=>rfl))))))
theorem jR:aN ["self","deed"] ["self"] (ay iB):=⟨rfl,rfl,rfl,by decide +kernel,rfl,by decide +kernel,by decide +kernel⟩
theorem qR{k:Nat}{aD:Fn}{ao:Cl}(d:MtD K ao.C "asks" "Doing.asks" iB ["self"])(B:Blt mg)(TDoing:TC K ao ["wheel","held","puts","part"])(M_Doing_deed:ja P w K mg base ao "deed" (k) ["self"] aD):ja P w K mg base ao "asks" (k+1) ["self"] (fnU 2 1 (dP aD ao)):=
 d.pure jR fun f cdv A outer s H E hr=>(by
  have hu:=de hr
  have nd:=jR.nd
  exact(aq (aI (i:=1) nd rfl (by first|exact Or.inl rfl|exact Or.inr rfl) (gG TDoing.cl M_Doing_deed hr (TDoing.nm (by decide +kernel)) (ag (wpv 0))))
   (ax (aZ (AJ (wu eR lC (bj hu (ag (wpv 1)) (ar af) (fun _ _=>rfl) (fun _ _=>rfl)) (aV aC) (aM _)) (E5 (wu AM FG (bj hu (gI TDoing.cl (TDoing.na 2 rfl) (TDoing.ix rfl) (ag (wpv 0))) (bj hu (ag (wpv 1)) (ar af) (fun _ _=>rfl) (fun _ _=>rfl)) (fun _ _=>rfl) (fun _ _=>rfl)) (o7 gC) (aM _))))))))
theorem jO:aN ["self","hand","number"] ["self","hand","number"] (ay ik):=⟨rfl,rfl,rfl,by decide +kernel,rfl,by decide +kernel,by decide +kernel⟩
theorem qO{k:Nat}{bS:Fn}{ao:Cl}(d:MtD K ao.C "hold" "Doing.hold" ik ["self","hand","number"])(B:Blt mg)(TDoing:TC K ao ["wheel","held","puts","part"])(gA:dk P w K mg base "with_at" (k) ["row","place","value"] bS):ja P w K mg base ao "hold" (k+1) ["self","hand","number"] (fnU 3 3 (eY bS ao)):=
 d.pure jO fun f cdv A outer s H E hr=>(by
  have hu:=de hr
  have nd:=jO.nd
  exact(ax (fD TDoing.cl (TDoing.na 1 rfl) (TDoing.ix rfl) (ag (wpv 0)) (aQ gA hr rfl (ab (gI TDoing.cl (TDoing.na 1 rfl) (TDoing.ix rfl) (ag (wpv 0))) (ab (ag (wpv 1)) (ab (ag (wpv 2)) aw)))))))
theorem fq:aN ["self","left_out","part"] ["self","left_out"] (ay dE):=⟨rfl,rfl,rfl,by decide +kernel,rfl,by decide +kernel,by decide +kernel⟩
theorem jt{k:Nat}{ao:Cl}(d:MtD K ao.C "part_behind" "Doing.part_behind" dE ["self","left_out"])(B:Blt mg)(TDoing:TC K ao ["wheel","held","puts","part"]):ja P w K mg base ao "part_behind" (k+1) ["self","left_out"] (fnU 3 2 (bX ao)):=
 d.pure fq fun f cdv A outer s H E hr=>(by
  have hu:=de hr
  have nd:=fq.nd
  exact(aq (aI (i:=2) nd rfl (by first|exact Or.inl rfl|exact Or.inr rfl) (gI TDoing.cl (TDoing.na 3 rfl) (TDoing.ix rfl) (ag (wpv 0))))
   (ax (aZ (bt (ab (bj hu (ag (wpv 2)) (ar af) (fun _ _=>rfl) (fun _ _=>rfl)) (ab (dB dG dF (dB dG dF (bj hu (ag (wpv 2)) (ar af) (fun _ _=>rfl) (fun _ _=>rfl)) (ar af)) (ag (wpv 1))) (ab (bj hu (ag (wpv 2)) (ar af) (fun _ _=>rfl) (fun _ _=>rfl)) (ab (bj hu (ag (wpv 2)) (ar af) (fun _ _=>rfl) (fun _ _=>rfl)) aw)))))))))
theorem fV:aN ["self","left_out"] ["self","left_out"] (ay eI):=⟨rfl,rfl,rfl,by decide +kernel,rfl,by decide +kernel,by decide +kernel⟩
theorem ko{k:Nat}{aY aF:Fn}{ao:Cl}(d:MtD K ao.C "go_behind" "Doing.go_behind" eI ["self","left_out"])(B:Blt mg)(TDoing:TC K ao ["wheel","held","puts","part"])(dA:dk P w K mg base "onwards" (k) ["part"] aY)(M_Doing_part_behind:ja P w K mg base ao "part_behind" (k) ["self","left_out"] aF):ja P w K mg base ao "go_behind" (k+1) ["self","left_out"] (fnU 2 2 (cy aY aF ao)):=
 d.pure fV fun f cdv A outer s H E hr=>(by
  have hu:=de hr
  have nd:=fV.nd
  exact(ax (fD TDoing.cl (TDoing.na 3 rfl) (TDoing.ix rfl) (ag (wpv 0)) (aQ dA hr rfl (ab (iX TDoing.cl M_Doing_part_behind hr (TDoing.nm (by decide +kernel)) (ag (wpv 0)) (ab (ag (wpv 1)) aw)) aw)))))
theorem jP:aN ["self","number"] ["self","number"] (ay iq):=⟨rfl,rfl,rfl,by decide +kernel,rfl,by decide +kernel,by decide +kernel⟩
theorem qP{k:Nat}{aU aD aH:Fn}{ao:Cl}(d:MtD K ao.C "hear" "Doing.hear" iq ["self","number"])(B:Blt mg)(TDoing:TC K ao ["wheel","held","puts","part"])(M_Doing_hold:ja P w K mg base ao "hold" (k) ["self","hand","number"] aU)(M_Doing_deed:ja P w K mg base ao "deed" (k) ["self"] aD)(M_Doing_go_behind:ja P w K mg base ao "go_behind" (k) ["self","left_out"] aH):ja P w K mg base ao "hear" (k+1) ["self","number"] (fnU 2 2 (eZ aU aD aH ao)):=
 d.pure jP fun f cdv A outer s H E hr=>(by
  have hu:=de hr
  have nd:=jP.nd
  exact(aq (bY (iX TDoing.cl M_Doing_hold hr (TDoing.nm (by decide +kernel)) (ag (wpv 0)) (ab (bj hu (gG TDoing.cl M_Doing_deed hr (TDoing.nm (by decide +kernel)) (ag (wpv 0))) (ar af) (fun _ _=>rfl) (fun _ _=>rfl)) (ab (ag (wpv 1)) aw))))
   (ax (bY (iX TDoing.cl M_Doing_go_behind hr (TDoing.nm (by decide +kernel)) (ag (wpv 0)) (ab (ar af) aw))))))
theorem fW:aN ["self","one","other","behind","instead"] ["self","one","other"] (ay eJ):=⟨rfl,rfl,rfl,by decide +kernel,rfl,by decide +kernel,by decide +kernel⟩
theorem kq{k:Nat}{aY aF:Fn}{ao:Cl}(d:MtD K ao.C "enter_try" "Doing.enter_try" eJ ["self","one","other"])(B:Blt mg)(TDoing:TC K ao ["wheel","held","puts","part"])(dA:dk P w K mg base "onwards" (k) ["part"] aY)(M_Doing_part_behind:ja P w K mg base ao "part_behind" (k) ["self","left_out"] aF):ja P w K mg base ao "enter_try" (k+1) ["self","one","other"] (fnU 5 3 (cA aY aF ao)):=
 d.pure fW fun f cdv A outer s H E hr=>(by
  have hu:=de hr
  have nd:=fW.nd
  exact(aq (aI (i:=3) nd rfl (by first|exact Or.inl rfl|exact Or.inr rfl) (iX TDoing.cl M_Doing_part_behind hr (TDoing.nm (by decide +kernel)) (ag (wpv 0)) (ab (ar af) aw)))
   (aq (aI (i:=4) nd rfl (by first|exact Or.inl rfl|exact Or.inr rfl) (aQ dA hr rfl (ab (bt (ab (ag (wpv 2)) (ab (ar af) (ab (ag (wpv 3)) (ab (bj hu (ag (wpv 3)) (ar af) (fun _ _=>rfl) (fun _ _=>rfl)) aw))))) aw)))
   (ax (fD TDoing.cl (TDoing.na 3 rfl) (TDoing.ix rfl) (ag (wpv 0)) (aQ dA hr rfl (ab (bt (ab (ag (wpv 1)) (ab (ar af) (ab (ag (wpv 3)) (ab (bt (ab (gI TDoing.cl (TDoing.na 1 rfl) (TDoing.ix rfl) (ag (wpv 0))) (ab (gI TDoing.cl (TDoing.na 2 rfl) (TDoing.ix rfl) (ag (wpv 0))) (ab (ag (wpv 4)) aw)))) aw))))) aw)))))))
theorem fU:aN ["self","back"] ["self"] (ay eF):=⟨rfl,rfl,rfl,by decide +kernel,rfl,by decide +kernel,by decide +kernel⟩
theorem km{k:Nat}{ao:Cl}(d:MtD K ao.C "goes_back" "Doing.goes_back" eF ["self"])(B:Blt mg)(TDoing:TC K ao ["wheel","held","puts","part"]):ja P w K mg base ao "goes_back" (k+1) ["self"] (fnU 2 1 (bO ao)):=
 d.pure fU fun f cdv A outer s H E hr=>(by
  have hu:=de hr
  have nd:=fU.nd
  exact(aq (aI (i:=1) nd rfl (by first|exact Or.inl rfl|exact Or.inr rfl) (bj hu (gI TDoing.cl (TDoing.na 3 rfl) (TDoing.ix rfl) (ag (wpv 0))) (ar af) (fun _ _=>rfl) (fun _ _=>rfl)))
   (aq (bC (aR AM FG (ag (wpv 1)) (o7 gC) (aM _)) (ax (aZ (o8 dW))) bw)
   (aq (fD TDoing.cl (TDoing.na 1 rfl) (TDoing.ix rfl) (ag (wpv 0)) (bj hu (ag (wpv 1)) (ar af) (fun _ _=>rfl) (fun _ _=>rfl)))
   (aq (fD TDoing.cl (TDoing.na 2 rfl) (TDoing.ix rfl) (ag (wpv 0)) (bj hu (ag (wpv 1)) (ar af) (fun _ _=>rfl) (fun _ _=>rfl)))
   (aq (fD TDoing.cl (TDoing.na 3 rfl) (TDoing.ix rfl) (ag (wpv 0)) (bj hu (ag (wpv 1)) (ar af) (fun _ _=>rfl) (fun _ _=>rfl)))
   (ax (aZ (o8 dW)))))))))
theorem gS:aN ["self","deed","word","left_out"] ["self"] (ay fC):=⟨rfl,rfl,rfl,by decide +kernel,rfl,by decide +kernel,by decide +kernel⟩
theorem m8{k:Nat}{bS aD bz bA aU aH:Fn}{ao:Cl}(d:MtD K ao.C "do_deed" "Doing.do_deed" fC ["self"])(B:Blt mg)(TDoing:TC K ao ["wheel","held","puts","part"])(gA:dk P w K mg base "with_at" (k) ["row","place","value"] bS)(M_Doing_deed:ja P w K mg base ao "deed" (k) ["self"] aD)(M_Doing_goes_back:ja P w K mg base ao "goes_back" (k) ["self"] bz)(M_Doing_enter_try:ja P w K mg base ao "enter_try" (k) ["self","one","other"] bA)(M_Doing_hold:ja P w K mg base ao "hold" (k) ["self","hand","number"] aU)(M_Doing_go_behind:ja P w K mg base ao "go_behind" (k) ["self","left_out"] aH):ja P w K mg base ao "do_deed" (k+1) ["self"] (fnU 4 1 (aW bS aD bz bA aU aH ao)):=
 d.pure gS fun f cdv A outer s H E hr=>(by
  have hu:=de hr
  have nd:=gS.nd
  exact(aq (aI (i:=1) nd rfl (by first|exact Or.inl rfl|exact Or.inr rfl) (gG TDoing.cl M_Doing_deed hr (TDoing.nm (by decide +kernel)) (ag (wpv 0))))
   (aq (aI (i:=2) nd rfl (by first|exact Or.inl rfl|exact Or.inr rfl) (bj hu (ag (wpv 1)) (ar af) (fun _ _=>rfl) (fun _ _=>rfl)))
   (aq (bC (aR eR lC (ag (wpv 2)) (aV aC) (aM _)) (ax (aZ (gG TDoing.cl M_Doing_goes_back hr (TDoing.nm (by decide +kernel)) (ag (wpv 0))))) bw)
   (aq (bC (aR eR lC (ag (wpv 2)) (aV aC) (aM _)) (aq (bY (iX TDoing.cl M_Doing_enter_try hr (TDoing.nm (by decide +kernel)) (ag (wpv 0)) (ab (bj hu (ag (wpv 1)) (ar af) (fun _ _=>rfl) (fun _ _=>rfl)) (ab (bj hu (ag (wpv 1)) (ar af) (fun _ _=>rfl) (fun _ _=>rfl)) aw))))
   (ax (aZ (o8 dW)))) bw)
   (aq (aI (i:=3) nd rfl (by first|exact Or.inl rfl|exact Or.inr rfl) (ar af))
   (aq (bC (aR eR lC (ag (wpv 2)) (aV aC) (aM _)) (ax (bY (iX TDoing.cl M_Doing_hold hr (TDoing.nm (by decide +kernel)) (ag (wpv 0)) (ab (bj hu (ag (wpv 1)) (ar af) (fun _ _=>rfl) (fun _ _=>rfl)) (ab (bj hu (gI TDoing.cl (TDoing.na 2 rfl) (TDoing.ix rfl) (ag (wpv 0))) (bj hu (ag (wpv 1)) (ar af) (fun _ _=>rfl) (fun _ _=>rfl)) (fun _ _=>rfl) (fun _ _=>rfl)) aw))))) (ax (bC (aR eR lC (ag (wpv 2)) (aV aC) (aM _)) (ax (fD TDoing.cl (TDoing.na 2 rfl) (TDoing.ix rfl) (ag (wpv 0)) (aQ gA hr rfl (ab (gI TDoing.cl (TDoing.na 2 rfl) (TDoing.ix rfl) (ag (wpv 0))) (ab (bj hu (ag (wpv 1)) (ar af) (fun _ _=>rfl) (fun _ _=>rfl)) (ab (bj hu (gI TDoing.cl (TDoing.na 1 rfl) (TDoing.ix rfl) (ag (wpv 0))) (bj hu (ag (wpv 1)) (ar af) (fun _ _=>rfl) (fun _ _=>rfl)) (fun _ _=>rfl) (fun _ _=>rfl)) aw)))))) (ax (bC (aR eR lC (ag (wpv 2)) (aV aC) (aM _)) (ax (bY (iX TDoing.cl M_Doing_hold hr (TDoing.nm (by decide +kernel)) (ag (wpv 0)) (ab (bj hu (ag (wpv 1)) (ar af) (fun _ _=>rfl) (fun _ _=>rfl)) (ab (bj hu (ag (wpv 1)) (ar af) (fun _ _=>rfl) (fun _ _=>rfl)) aw))))) (ax (bC (aR eR lC (ag (wpv 2)) (aV aC) (aM _)) (ax (bY (iX TDoing.cl M_Doing_hold hr (TDoing.nm (by decide +kernel)) (ag (wpv 0)) (ab (bj hu (ag (wpv 1)) (ar af) (fun _ _=>rfl) (fun _ _=>rfl)) (ab (dB jW pj (dB dG dF (bj hu (gI TDoing.cl (TDoing.na 1 rfl) (TDoing.ix rfl) (ag (wpv 0))) (bj hu (ag (wpv 1)) (ar af) (fun _ _=>rfl) (fun _ _=>rfl)) (fun _ _=>rfl) (fun _ _=>rfl)) (bj hu (gI TDoing.cl (TDoing.na 1 rfl) (TDoing.ix rfl) (ag (wpv 0))) (bj hu (ag (wpv 1)) (ar af) (fun _ _=>rfl) (fun _ _=>rfl)) (fun _ _=>rfl) (fun _ _=>rfl))) (gI TDoing.cl (TDoing.na 0 rfl) (TDoing.ix rfl) (ag (wpv 0)))) aw))))) (ax (bC (aR eR lC (bj hu (gI TDoing.cl (TDoing.na 1 rfl) (TDoing.ix rfl) (ag (wpv 0))) (bj hu (ag (wpv 1)) (ar af) (fun _ _=>rfl) (fun _ _=>rfl)) (fun _ _=>rfl) (fun _ _=>rfl)) (ar af) (aM _)) (ax (aI (i:=3) nd rfl (by first|exact Or.inl rfl|exact Or.inr rfl) (bj hu (ag (wpv 1)) (ar af) (fun _ _=>rfl) (fun _ _=>rfl)))) bw)))))))))
   (aq (bY (iX TDoing.cl M_Doing_go_behind hr (TDoing.nm (by decide +kernel)) (ag (wpv 0)) (ab (ag (wpv 3)) aw)))
   (ax (aZ (o8 dW)))))))))))
theorem fT:aN ["self"] ["self"] (ay eE):=⟨rfl,rfl,rfl,by decide +kernel,rfl,by decide +kernel,by decide +kernel⟩
theorem kj{k:Nat}{ao:Cl}(d:MtD K ao.C "put_pairs" "Doing.put_pairs" eE ["self"])(B:Blt mg)(TDoing:TC K ao ["wheel","held","puts","part"]):ja P w K mg base ao "put_pairs" (k+1) ["self"] (fnU 1 1 (cw ao)):=
 d.pure fT fun f cdv A outer s H E hr=>(by
  have hu:=de hr
  have nd:=fT.nd
  exact(ax (aZ (y3 (Nc:=["box","number"]) (tn:=["box","number"]) (capN:=[]) (caps:=[]) rfl (rO rfl B.enumerate (gI TDoing.cl (TDoing.na 2 rfl) (TDoing.ix rfl) (ag (wpv 0)))) (fun _ _ _=>(mS rfl (cE (a8 (i:=0) (show(["box","number"]:List Str).Nodup by decide +kernel) rfl (by first|exact Or.inl rfl|exact Or.inr rfl)) (cE (a8 (i:=1) (show(["box","number"]:List Str).Nodup by decide +kernel) rfl (by first|exact Or.inl rfl|exact Or.inr rfl)) jm)))) (fun _ _ _=>(aR rS wD (ag (wpv 1)) (o7 gC) (aM _))) (fun _ _ _=>(bt (ab (ag (wpv 0)) (ab (ag (wpv 1)) aw)))) rfl rfl (by decide +kernel) (by decide +kernel) trivial rfl .nil rfl rfl))))
theorem jN:aN ["self","world","dealing"] ["self","world","dealing"] (ay ig):=⟨rfl,rfl,rfl,by decide +kernel,rfl,by decide +kernel,by decide +kernel⟩
theorem qN{k:Nat}{aY:Fn}{ao:Cl}(d:MkD K mg ao.C "Doing" "Doing.__init__" ig ["self","world","dealing"])(B:Blt mg)(TDoing:TC K ao ["wheel","held","puts","part"])(dA:dk P w K mg base "onwards" (k) ["part"] aY):CMk P w K mg base ao "Doing" (k+1) ["self","world","dealing"] (fnU 3 3 (eW aY ao)):=
 d.pure TDoing jN fun f cdv A outer s H E hr=>(by
  have hu:=de hr
  have nd:=jN.nd
  exact(aq (fD TDoing.cl (TDoing.na 0 rfl) (TDoing.ix rfl) (ag (wpv 0)) (bj hu (ag (wpv 1)) (ar af) (fun _ _=>rfl) (fun _ _=>rfl)))
   (aq (fD TDoing.cl (TDoing.na 1 rfl) (TDoing.ix rfl) (ag (wpv 0)) (bt (ab (ar af) (ab (ar af) (ab (ar af) (ab (ar af) aw))))))
   (aq (fD TDoing.cl (TDoing.na 2 rfl) (TDoing.ix rfl) (ag (wpv 0)) (dB FL FF (bt (ab (o7 gC) aw)) (bj hu (ag (wpv 1)) (ar af) (fun _ _=>rfl) (fun _ _=>rfl))))
   (ax (fD TDoing.cl (TDoing.na 3 rfl) (TDoing.ix rfl) (ag (wpv 0)) (aQ dA hr rfl (ab (bt (ab (ag (wpv 2)) (ab (ar af) (ab (o7 gC) (ab (o7 gC) aw))))) aw))))))))
theorem g9:aN ["doing","state","looked","box"] ["doing","state","looked"] (ay gc):=⟨rfl,rfl,rfl,by decide +kernel,rfl,by decide +kernel,by decide +kernel⟩
theorem nO{k:Nat}{aD b8 b7 bu:Fn}{ao:Cl}{fuel:Nat}(d:Def K mg "goes_through" gc ["doing","state","looked"])(B:Blt mg)(TDoing:TC K ao ["wheel","held","puts","part"])(M_Doing_deed:ja P w K mg base ao "deed" (k) ["self"] aD)(M_Doing_asks:ja P w K mg base ao "asks" (k) ["self"] b8)(M_Doing_hear:ja P w K mg base ao "hear" (k) ["self","number"] b7)(M_Doing_do_deed:ja P w K mg base ao "do_deed" (k) ["self"] bu):dk P w K mg base "goes_through" (k+1) ["doing","state","looked"] (fnU 4 3 (cQ aD b8 b7 bu ao fuel)):=
 d.pure g9 fun f cdv A outer s H E hr=>(by
  have hu:=de hr
  have nd:=g9.nd
  exact(aq (l5 fuel PassesOwn.never (aR rS wD (gG TDoing.cl M_Doing_deed hr (TDoing.nm (by decide +kernel)) (ag (wpv 0))) (o7 gC) (aM _)) (ax (bC (gp (gG TDoing.cl M_Doing_asks hr (TDoing.nm (by decide +kernel)) (ag (wpv 0)))) (aq (aI (i:=3) nd rfl (by first|exact Or.inl rfl|exact Or.inr rfl) (bj hu (gG TDoing.cl M_Doing_deed hr (TDoing.nm (by decide +kernel)) (ag (wpv 0))) (ar af) (fun _ _=>rfl) (fun _ _=>rfl)))
   (aq (d3 hu (ag (wpv 2)) (ag (wpv 3)) (o8 dW))
   (ax (bY (iX TDoing.cl M_Doing_hear hr (TDoing.nm (by decide +kernel)) (ag (wpv 0)) (ab (bj hu (ag (wpv 1)) (ag (wpv 3)) (fun _ _=>rfl) (fun _ _=>rfl)) aw)))))) (ax (bC (mT (gp (gG TDoing.cl M_Doing_do_deed hr (TDoing.nm (by decide +kernel)) (ag (wpv 0))))) (ax (aZ (o8 dW))) bw)))))
   (ax (aZ (o8 dW)))))
theorem tK:aN ["world","dealing","state","doing","looked","reached","box","number"] ["world","dealing","state"] (ay rN):=⟨rfl,rfl,rfl,by decide +kernel,rfl,by decide +kernel,by decide +kernel⟩
theorem Dk{k:Nat}{bB bb b6:Fn}{ao:Cl}(d:Def K mg "alone" rN ["world","dealing","state"])(B:Blt mg)(TDoing:TC K ao ["wheel","held","puts","part"])(gj:dk P w K mg base "goes_through" (k+1) ["doing","state","looked"] bB)(M_Doing_put_pairs:ja P w K mg base ao "put_pairs" (k+1) ["self"] bb)(M_Doing:CMk P w K mg base ao "Doing" k ["self","world","dealing"] b6):dk P w K mg base "alone" (k+1+1) ["world","dealing","state"] (fnU 8 3 (kG bB bb b6 ao)):=
 d.pure tK fun f cdv A outer s H E hr=>(by
  have hu:=de hr
  have nd:=tK.nd
  exact(aq (aI (i:=3) nd rfl (by first|exact Or.inl rfl|exact Or.inr rfl) (E7 M_Doing hr rfl (ab (ag (wpv 0)) (ab (ag (wpv 1)) aw))))
   (aq (aI (i:=4) nd rfl (by first|exact Or.inl rfl|exact Or.inr rfl) E8)
   (aq (bC (mT (gp (aQ gj hr rfl (ab (ag (wpv 3)) (ab (ag (wpv 2)) (ab (ag (wpv 4)) aw)))))) (ax (aZ (bt (ab (aV aC) (ab (bQ (px rfl) pf rfl B.sorted OG.fM (ab (ag (wpv 4)) aw)) aw))))) bw)
   (aq (aI (i:=5) nd rfl (by first|exact Or.inl rfl|exact Or.inr rfl) (bZ cZ ox rfl B.list OG.dz (ab (ag (wpv 2)) aw)))
   (aq (gT PassesOwn.never rfl (mR (gG TDoing.cl M_Doing_put_pairs hr (TDoing.nm (by decide +kernel)) (ag (wpv 3)))) (mS rfl (cE (a8 (i:=6) nd rfl (by first|exact Or.inl rfl|exact Or.inr rfl)) (cE (a8 (i:=7) nd rfl (by first|exact Or.inl rfl|exact Or.inr rfl)) jm))) (ax (d3 hu (ag (wpv 5)) (ag (wpv 6)) (ag (wpv 7)))))
   (ax (aZ (bt (ab (aV aC) (ab (bZ cH jn rfl B.tuple OG.dR (ab (ag (wpv 5)) aw)) (ab (gI TDoing.cl (TDoing.na 1 rfl) (TDoing.ix rfl) (ag (wpv 3))) aw))))))))))))
theorem lA:aN ["pen","world","box","there","way","guard","other","goal"] ["pen","world"] (ay jk):=⟨rfl,rfl,rfl,by decide +kernel,rfl,by decide +kernel,by decide +kernel⟩
theorem sh{k:Nat}{ak:Fn}(d:Def K mg "_law_keen" jk ["pen","world"])(B:Blt mg)(aA:dk P w K mg base "_law_take" (k) ["pen","many"] ak):dk P w K mg base "_law_keen" (k+1) ["pen","world"] (fnU 8 2 (dI ak)):=
 d.pure lA fun f cdv A outer s H E hr=>(by
  have hu:=de hr
  have nd:=lA.nd
  exact(aq (aI (i:=2) nd rfl (by first|exact Or.inl rfl|exact Or.inr rfl) (aQ aA hr rfl (ab (ag (wpv 0)) (ab (bj hu (ag (wpv 1)) (ar af) (fun _ _=>rfl) (fun _ _=>rfl)) aw))))
   (aq (aI (i:=3) nd rfl (by first|exact Or.inl rfl|exact Or.inr rfl) (aQ aA hr rfl (ab (ag (wpv 0)) (ab (bj hu (ag (wpv 1)) (ar af) (fun _ _=>rfl) (fun _ _=>rfl)) aw))))
   (aq (aI (i:=4) nd rfl (by first|exact Or.inl rfl|exact Or.inr rfl) (aQ aA hr rfl (ab (ag (wpv 0)) (ab (ar af) aw))))
   (aq (aI (i:=5) nd rfl (by first|exact Or.inl rfl|exact Or.inr rfl) (bt (ab (bt (ab (aV aC) (ab (ar af) (ab (ag (wpv 2)) aw)))) (ab (bt (ab (aV aC) (ab (ar af) (ab (ar af) aw)))) (ab (bt (ab (aV aC) aw)) aw)))))
   (aq (bC (aR eR lC (ag (wpv 4)) (ar af) (aM _)) (ax (aI (i:=5) nd rfl (by first|exact Or.inl rfl|exact Or.inr rfl) (bt (ab (bt (ab (aV aC) (ab (ar af) (ab (ag (wpv 2)) aw)))) (ab (bt (ab (aV aC) (ab (ar af) (ab (ar af) aw)))) (ab (bt (ab (aV aC) (ab (ar af) (ab (ar af) aw)))) (ab (bt (ab (aV aC) (ab (ar af) (ab (ar af) aw)))) (ab (bt (ab (aV aC) aw)) aw)))))))) bw)
   (aq (bC (aR eR lC (ag (wpv 4)) (ar af) (aM _)) (aq (aI (i:=6) nd rfl (by first|exact Or.inl rfl|exact Or.inr rfl) (bt (ab (bt (ab (aV aC) (ab (ar af) (ab (ag (wpv 3)) aw)))) (ab (bt (ab (aV aC) (ab (ar af) (ab (ar af) aw)))) (ab (bt (ab (aV aC) aw)) aw)))))
   (ax (aI (i:=5) nd rfl (by first|exact Or.inl rfl|exact Or.inr rfl) (bt (ab (bt (ab (aV aC) (ab (ar af) (ab (ag (wpv 2)) aw)))) (ab (bt (ab (aV aC) (ab (bt (ab (bt (ab (aV aC) (ab (ar af) (ab (ar af) aw)))) (ab (bt (ab (aV aC) (ab (ar af) (ab (ar af) aw)))) (ab (bt (ab (aV aC) aw)) aw)))) (ab (ag (wpv 6)) aw)))) aw)))))) bw)
   (aq (aI (i:=7) nd rfl (by first|exact Or.inl rfl|exact Or.inr rfl) (bj hu (gH (ab (ag (wpv 2)) (ab (ag (wpv 3)) aw))) (aQ aA hr rfl (ab (ag (wpv 0)) (ab (ar af) aw))) (fun _ _=>rfl) (fun _ _=>rfl)))
   (ax (aZ (dB dG dF (ag (wpv 5)) (bt (ab (bt (ab (aV aC) (ab (ar af) (ab (aQ aA hr rfl (ab (ag (wpv 0)) (ab (ar af) aw))) aw)))) (ab (bt (ab (aV aC) (ab (ag (wpv 7)) (ab (ar af) aw)))) aw))))))))))))))
theorem eQ:aN ["pen","world","most","found","many","k"] ["pen","world","most"] (ay dq):=⟨rfl,rfl,rfl,by decide +kernel,rfl,by decide +kernel,by decide +kernel⟩
theorem iS{k:Nat}{ak aE cG:Fn}(d:Def K mg "_law_some_dealings" dq ["pen","world","most"])(B:Blt mg)(aA:dk P w K mg base "_law_take" (k) ["pen","many"] ak)(eP:dk P w K mg base "_law_dealing" (k) ["pen","world","room","tries"] aE)(jE:dk P w K mg base "_law_keen" (k) ["pen","world"] cG):dk P w K mg base "_law_some_dealings" (k+1) ["pen","world","most"] (fnU 6 3 (bJ ak aE cG)):=
 d.pure eQ fun f cdv A outer s H E hr=>(by
  have hu:=de hr
  have nd:=eQ.nd
  exact(aq (aI (i:=3) nd rfl (by first|exact Or.inl rfl|exact Or.inr rfl) (gH aw))
   (aq (aI (i:=4) nd rfl (by first|exact Or.inl rfl|exact Or.inr rfl) (dB dG dF (ar af) (aQ aA hr rfl (ab (ag (wpv 0)) (ab (ag (wpv 2)) aw)))))
   (aq (gT PassesOwn.never rfl (iC rfl B.range (ab (ag (wpv 4)) aw)) (fe (a8 (i:=5) nd rfl (by first|exact Or.inl rfl|exact Or.inr rfl))) (ax (bC (uM (lO (aR lP vj (ag (wpv 4)) (ar af) (aM _)) (jT (aR eR lC (aQ aA hr rfl (ab (ag (wpv 0)) (ab (ar af) aw))) (ar af) (aM _))))) (ax (bY (dc (ag (wpv 3)) (ab (aQ eP hr rfl (ab (ag (wpv 0)) (ab (ag (wpv 1)) (ab (ar af) (ab (ar af) aw))))) aw)))) (ax (bY (dc (ag (wpv 3)) (ab (aQ jE hr rfl (ab (ag (wpv 0)) (ab (ag (wpv 1)) aw))) aw)))))))
   (ax (aZ (ag (wpv 3))))))))
theorem gn:aN ["pen","world"] ["pen","world"] (ay fc):=⟨rfl,rfl,rfl,by decide +kernel,rfl,by decide +kernel,by decide +kernel⟩
theorem lS{k:Nat}{ak:Fn}(d:Def K mg "_law_few_state" fc ["pen","world"])(B:Blt mg)(aA:dk P w K mg base "_law_take" (k) ["pen","many"] ak):dk P w K mg base "_law_few_state" (k+1) ["pen","world"] (fnU 2 2 (cN ak)):=
 d.pure gn fun f cdv A outer s H E hr=>(by
  have hu:=de hr
  have nd:=gn.nd
  exact(ax (aZ (bZ cH jn rfl B.tuple OG.dR (ab (AI (Nc:=["box","pen","world"]) (tn:=["box"]) (capN:=["pen","world"]) (caps:=[0,1]) rfl (iC rfl B.range (ab (bj hu (ag (wpv 1)) (ar af) (fun _ _=>rfl) (fun _ _=>rfl)) aw)) (fun _ _ _=>(fe (a8 (i:=0) (show(["box","pen","world"]:List Str).Nodup by decide +kernel) rfl (by first|exact Or.inl rfl|exact Or.inr rfl)))) (fun _ _ _=>(aQ aA hr rfl (ab (ag (wpv 1)) (ab (bj hu (gH (ab (ar af) (ab (bj hu (ag (wpv 2)) (ar af) (fun _ _=>rfl) (fun _ _=>rfl)) aw))) (bZ nr CO rfl B.int OG.mj (ab (wu eR lC (aQ aA hr rfl (ab (ag (wpv 1)) (ab (ar af) aw))) (ar af) (aM _)) aw)) (fun _ _=>rfl) (fun _ _=>rfl)) aw)))) rfl rfl (by decide +kernel) (by decide +kernel) ⟨rfl,rfl,trivial⟩ rfl (.cons ⟨rfl,rfl,rfl,_,rfl⟩ (.cons ⟨rfl,rfl,rfl,_,rfl⟩ .nil)) rfl rfl) aw)))))
theorem lz:aN ["world","dealings","row","found","number","dealing","told"] ["world","dealings","row"] (ay jj):=⟨rfl,rfl,rfl,by decide +kernel,rfl,by decide +kernel,by decide +kernel⟩
theorem sg{k:Nat}{aX:Fn}(d:Def K mg "_law_next" jj ["world","dealings","row"])(B:Blt mg)(dU:dk P w K mg base "_law_alone" (k) ["world","dealing","state"] aX):dk P w K mg base "_law_next" (k+1) ["world","dealings","row"] (fnU 7 3 (sG aX)):=
 d.pure lz fun f cdv A outer s H E hr=>(by
  have hu:=de hr
  have nd:=lz.nd
  exact(aq (aI (i:=3) nd rfl (by first|exact Or.inl rfl|exact Or.inr rfl) (gH aw))
   (aq (gT PassesOwn.never rfl (rO rfl B.enumerate (ag (wpv 1))) (mS rfl (cE (a8 (i:=4) nd rfl (by first|exact Or.inl rfl|exact Or.inr rfl)) (cE (a8 (i:=5) nd rfl (by first|exact Or.inl rfl|exact Or.inr rfl)) jm))) (ax (bC (jS hu (ag (wpv 4)) (bj hu (ag (wpv 2)) (ar af) (fun _ _=>rfl) (fun _ _=>rfl)) (by with_unfolding_all rfl)) (aq (aI (i:=6) nd rfl (by first|exact Or.inl rfl|exact Or.inr rfl) (aQ dU hr rfl (ab (ag (wpv 0)) (ab (ag (wpv 5)) (ab (bj hu (ag (wpv 2)) (ar af) (fun _ _=>rfl) (fun _ _=>rfl)) aw)))))
   (ax (bC (aR eR lC (bj hu (ag (wpv 6)) (ar af) (fun _ _=>rfl) (fun _ _=>rfl)) (aV aC) (aM _)) (ax (bY (dc (ag (wpv 3)) (ab (bt (ab (ag (wpv 4)) (ab (bt (ab (bZ cH jn rfl B.tuple OG.dR (ab (bQ qC qA rfl B.sorted OG.fM (ab (dB dG dF (bj hu (ag (wpv 2)) (ar af) (fun _ _=>rfl) (fun _ _=>rfl)) (bt (ab (ag (wpv 4)) aw))) aw)) aw)) (ab (bj hu (ag (wpv 6)) (ar af) (fun _ _=>rfl) (fun _ _=>rfl)) aw))) aw))) aw)))) bw))) bw)))
   (ax (aZ (ag (wpv 3)))))))
theorem lq:aN ["world","state","dealings","rows","known","at","number","row"] ["world","state","dealings"] (ay ji):=⟨rfl,rfl,rfl,by decide +kernel,rfl,by decide +kernel,by decide +kernel⟩
theorem sf{k:Nat}{bV:Fn}{fuel:Nat}(d:Def K mg "_law_rows" ji ["world","state","dealings"])(B:Blt mg)(jD:dk P w K mg base "_law_next" (k) ["world","dealings","row"] bV):dk P w K mg base "_law_rows" (k+1) ["world","state","dealings"] (fnU 8 3 (fK bV fuel)):=
 d.pure lq fun f cdv A outer s H E hr=>(by
  have hu:=de hr
  have nd:=lq.nd
  exact(aq (aI (i:=3) nd rfl (by first|exact Or.inl rfl|exact Or.inr rfl) (gH (ab (bt (ab (bt aw) (ab (ag (wpv 1)) aw))) aw)))
   (aq (aI (i:=4) nd rfl (by first|exact Or.inl rfl|exact Or.inr rfl) (wo (jZ hr) (bj hu (ag (wpv 3)) (ar af) (fun _ _=>rfl) (fun _ _=>rfl)) (gH aw)))
   (aq (aI (i:=5) nd rfl (by first|exact Or.inl rfl|exact Or.inr rfl) (ar af))
   (aq (l5 fuel PassesOwn.never (aR lP vj (ag (wpv 5)) (bQ iE iD rfl B.len PySem.boot_len (ab (ag (wpv 3)) aw)) (aM _)) (aq (gT PassesOwn.never rfl (mR (aQ jD hr rfl (ab (ag (wpv 0)) (ab (ag (wpv 2)) (ab (bj hu (ag (wpv 3)) (ag (wpv 5)) (fun _ _=>rfl) (fun _ _=>rfl)) aw))))) (mS rfl (cE (a8 (i:=6) nd rfl (by first|exact Or.inl rfl|exact Or.inr rfl)) (cE (a8 (i:=7) nd rfl (by first|exact Or.inl rfl|exact Or.inr rfl)) jm))) (ax (bC (qx (jZ hr) (ag (wpv 7)) (ag (wpv 4)) (by with_unfolding_all rfl)) (aq (qw (jZ hr) (ag (wpv 4)) (ag (wpv 7)) (dB dG dF (Ck (jZ hr) (ag (wpv 4)) (bj hu (ag (wpv 3)) (ag (wpv 5)) (fun _ _=>rfl) (fun _ _=>rfl)) (fun _ _=>rfl)) (gH (ab (ag (wpv 6)) aw))))
   (ax (bY (dc (ag (wpv 3)) (ab (ag (wpv 7)) aw))))) bw)))
   (ax (aI (i:=5) nd rfl (by first|exact Or.inl rfl|exact Or.inr rfl) (dB dG dF (ag (wpv 5)) (ar af))))))
   (ax (aZ (ag (wpv 4)))))))))
theorem fS:aN ["world","dealings","state","order","number","told"] ["world","dealings","state","order"] (ay eD):=⟨rfl,rfl,rfl,by decide +kernel,rfl,by decide +kernel,by decide +kernel⟩
theorem ki{k:Nat}{aX:Fn}(d:Def K mg "_law_goes_along" eD ["world","dealings","state","order"])(B:Blt mg)(dU:dk P w K mg base "_law_alone" (k) ["world","dealing","state"] aX):dk P w K mg base "_law_goes_along" (k+1) ["world","dealings","state","order"] (fnU 6 4 (cu aX)):=
 d.pure fS fun f cdv A outer s H E hr=>(by
  have hu:=de hr
  have nd:=fS.nd
  exact(aq (gT PassesOwn.never rfl (mR (ag (wpv 3))) (fe (a8 (i:=4) nd rfl (by first|exact Or.inl rfl|exact Or.inr rfl))) (aq (aI (i:=5) nd rfl (by first|exact Or.inl rfl|exact Or.inr rfl) (aQ dU hr rfl (ab (ag (wpv 0)) (ab (bj hu (ag (wpv 1)) (ag (wpv 4)) (fun _ _=>rfl) (fun _ _=>rfl)) (ab (ag (wpv 2)) aw)))))
   (aq (bC (aR zw GY (bj hu (ag (wpv 5)) (ar af) (fun _ _=>rfl) (fun _ _=>rfl)) (aV aC) (aM _)) (ax (aZ (o8 dW))) bw)
   (ax (aI (i:=2) nd rfl (by first|exact Or.inl rfl|exact Or.inr rfl) (bj hu (ag (wpv 5)) (ar af) (fun _ _=>rfl) (fun _ _=>rfl)))))))
   (ax (aZ (o8 dW)))))
theorem iV:aN ["found"] ["found"] (ay gF):=⟨rfl,rfl,rfl,by decide +kernel,rfl,by decide +kernel,by decide +kernel⟩
theorem pF{k:Nat}(d:Def K mg "_law_is_row" gF ["found"])(B:Blt mg):dk P w K mg base "_law_is_row" (k+1) ["found"] (fnU 1 1 (d9 )):=
 d.pure iV fun f cdv A outer s H E hr=>(by
  have hu:=de hr
  have nd:=iV.nd
  exact(ax (aZ (Cj hu (o8 dW) (AI (Nc:=["one"]) (tn:=["one"]) (capN:=[]) (caps:=[]) rfl (mR (ag (wpv 0))) (fun _ _ _=>(fe (a8 (i:=0) (show(["one"]:List Str).Nodup by decide +kernel) rfl (by first|exact Or.inl rfl|exact Or.inr rfl)))) (fun _ _ _=>(AJ (wm (T:=.int) (by intro z;cases z) (ag (wpv 0)) (qf rfl B.int OG.mj) rfl B.isinstance) (E5 (E6 (wm (T:=.bool) (by intro z;cases z) (ag (wpv 0)) (qf rfl B.bool OG.yf) rfl B.isinstance))))) rfl rfl (by decide +kernel) (by decide +kernel) trivial rfl .nil rfl rfl) (by with_unfolding_all rfl)))))
theorem k8:aN ["world","dealings","place","ways","number","dealing","told"] ["world","dealings","place"] (ay jf):=⟨rfl,rfl,rfl,by decide +kernel,rfl,by decide +kernel,by decide +kernel⟩
theorem sd{k:Nat}{gM:Fn}(d:Def K mg "ways_from" jf ["world","dealings","place"])(B:Blt mg)(sW:dk P w K mg base "alone" (k) ["world","dealing","state"] gM):dk P w K mg base "ways_from" (k+1) ["world","dealings","place"] (fnU 7 3 (fH gM)):=
 d.pure k8 fun f cdv A outer s H E hr=>(by
  have hu:=de hr
  have nd:=k8.nd
  exact(aq (aI (i:=3) nd rfl (by first|exact Or.inl rfl|exact Or.inr rfl) (gH aw))
   (aq (gT PassesOwn.never rfl (rO rfl B.enumerate (ag (wpv 1))) (mS rfl (cE (a8 (i:=4) nd rfl (by first|exact Or.inl rfl|exact Or.inr rfl)) (cE (a8 (i:=5) nd rfl (by first|exact Or.inl rfl|exact Or.inr rfl)) jm))) (ax (bC (jS hu (ag (wpv 4)) (bj hu (ag (wpv 2)) (ar af) (fun _ _=>rfl) (fun _ _=>rfl)) (by with_unfolding_all rfl)) (aq (aI (i:=6) nd rfl (by first|exact Or.inl rfl|exact Or.inr rfl) (aQ sW hr rfl (ab (ag (wpv 0)) (ab (ag (wpv 5)) (ab (bj hu (ag (wpv 2)) (ar af) (fun _ _=>rfl) (fun _ _=>rfl)) aw)))))
   (ax (bC (aR eR lC (bj hu (ag (wpv 6)) (ar af) (fun _ _=>rfl) (fun _ _=>rfl)) (aV aC) (aM _)) (ax (bY (dc (ag (wpv 3)) (ab (bt (ab (ag (wpv 4)) (ab (bt (ab (bZ cH jn rfl B.tuple OG.dR (ab (bQ qC qA rfl B.sorted OG.fM (ab (dB dG dF (bj hu (ag (wpv 2)) (ar af) (fun _ _=>rfl) (fun _ _=>rfl)) (bt (ab (ag (wpv 4)) aw))) aw)) aw)) (ab (bj hu (ag (wpv 6)) (ar af) (fun _ _=>rfl) (fun _ _=>rfl)) aw))) aw))) aw)))) bw))) bw)))
   (ax (aZ (ag (wpv 3)))))))
theorem gm:aN ["world","state","dealings","rows","left","place","number","reached"] ["world","state","dealings"] (ay fb):=⟨rfl,rfl,rfl,by decide +kernel,rfl,by decide +kernel,by decide +kernel⟩
theorem lR{k:Nat}{bU:Fn}{fuel:Nat}(d:Def K mg "rows_to_places" fb ["world","state","dealings"])(B:Blt mg)(jB:dk P w K mg base "ways_from" (k) ["world","dealings","place"] bU):dk P w K mg base "rows_to_places" (k+1) ["world","state","dealings"] (fnU 8 3 (cM bU fuel)):=
 d.pure gm fun f cdv A outer s H E hr=>(by
  have hu:=de hr
  have nd:=gm.nd
  exact(aq (aI (i:=3) nd rfl (by first|exact Or.inl rfl|exact Or.inr rfl) (wo (jZ hr) (bt (ab (bt aw) (ab (ag (wpv 1)) aw))) (gH aw)))
   (aq (aI (i:=4) nd rfl (by first|exact Or.inl rfl|exact Or.inr rfl) (gH (ab (bt (ab (bt aw) (ab (ag (wpv 1)) aw))) aw)))
   (aq (l5 fuel PassesOwn.never (aR qB AK (bQ iE iD rfl B.len PySem.boot_len (ab (ag (wpv 4)) aw)) (ar af) (aM _)) (aq (aI (i:=5) nd rfl (by first|exact Or.inl rfl|exact Or.inr rfl) (Ci (ag (wpv 4)) (ab (ar af) aw)))
   (ax (gT PassesOwn.never rfl (mR (aQ jB hr rfl (ab (ag (wpv 0)) (ab (ag (wpv 2)) (ab (ag (wpv 5)) aw))))) (mS rfl (cE (a8 (i:=6) nd rfl (by first|exact Or.inl rfl|exact Or.inr rfl)) (cE (a8 (i:=7) nd rfl (by first|exact Or.inl rfl|exact Or.inr rfl)) jm))) (ax (bC (qx (jZ hr) (ag (wpv 7)) (ag (wpv 3)) (by with_unfolding_all rfl)) (aq (qw (jZ hr) (ag (wpv 3)) (ag (wpv 7)) (dB dG dF (Ck (jZ hr) (ag (wpv 3)) (ag (wpv 5)) (fun _ _=>rfl)) (gH (ab (ag (wpv 6)) aw))))
   (ax (bY (dc (ag (wpv 4)) (ab (ag (wpv 7)) aw))))) bw))))))
   (ax (aZ (ag (wpv 3))))))))
theorem mN:aN ["world","state","dealings","rows","place"] ["world","state","dealings"] (ay j9):=⟨rfl,rfl,rfl,by decide +kernel,rfl,by decide +kernel,by decide +kernel⟩
theorem uU{k:Nat}{bo:Fn}(d:Def K mg "all_done" j9 ["world","state","dealings"])(B:Blt mg)(fi:dk P w K mg base "rows_to_places" (k) ["world","state","dealings"] bo):dk P w K mg base "all_done" (k+1) ["world","state","dealings"] (fnU 5 3 (gu bo)):=
 d.pure mN fun f cdv A outer s H E hr=>(by
  have hu:=de hr
  have nd:=mN.nd
  exact(aq (aI (i:=3) nd rfl (by first|exact Or.inl rfl|exact Or.inr rfl) (aQ fi hr rfl (ab (ag (wpv 0)) (ab (ag (wpv 1)) (ab (ag (wpv 2)) aw)))))
   (aq (Ce PassesOwn.never rfl (ag (wpv 3)) (fe (a8 (i:=4) nd rfl (by first|exact Or.inl rfl|exact Or.inr rfl))) (ax (bC (aR eR lC (bQ iE iD rfl B.len PySem.boot_len (ab (bj hu (ag (wpv 4)) (ar af) (fun _ _=>rfl) (fun _ _=>rfl)) aw)) (bQ iE iD rfl B.len PySem.boot_len (ab (ag (wpv 2)) aw)) (aM _)) (ax (aZ (bt (ab (aV aC) (ab (Ck (jZ hr) (ag (wpv 3)) (ag (wpv 4)) (fun _ _=>rfl)) aw))))) bw)))
   (ax (aZ (bt (ab (aV aC) (ab (bZ (C0 rfl) CN rfl B.list OG.dz (ab (ag (wpv 3)) aw)) aw))))))))
theorem AB:aN ["script","pen","world","turn","state","dealings","can","handed","again","found"] ["script"] (ay Ca):=⟨rfl,rfl,rfl,by decide +kernel,rfl,by decide +kernel,by decide +kernel⟩
def nz(b5 bq aS cF dg bL a9:Fn):CS:=
 (bf (bN 9 (cCB dg (ae (ah 2) (ae (ah 4) (ae (ah 7) aB)))))
  (bf (dQ (cOr (Ai (aG (u9 .tuple (ah 9)))) (cOr (aG (cOp fNe (cCB gh (ae (ah 9) aB)) (cC (.int 2)))) (aG (cOp (uY true) (ah 7) (ah 5))))) (fh (cC (.bl false))) cf)
  (bf (dQ (Ai (aG (u9 .list (cOp fIx (ah 9) (cC (.int 1)))))) (fh (cC (.bl false))) cf)
  (bf (dQ (cOr (aG (cOp fNe (cOp fIx (ah 9) (cC (.int 0))) (cOp fIx (gN (ae (cC (.str "never")) (ae (cC (.str "all")) aB))) (cCB zZ (ae (ah 6) aB))))) (Ai (aG (u9 .str (cOp fIx (ah 9) (cC (.int 0))))))) (fh (cC (.bl false))) cf)
  (bf (dQ (nI (aG (ah 6)) (cOr (Ai (aG (cCB bL (ae (cOp fIx (ah 9) (cC (.int 1))) aB)))) (aG (cOp (uY true) (cCB eK (ae (cOp fIx (ah 9) (cC (.int 1))) aB)) (gx (ae (cCB gh (ae (ah 5) aB)) aB)))))) (fh (cC (.bl false))) cf)
  (bf (dQ (nI (aG (ah 6)) (Ai (aG (cCB a9 (ae (ah 2) (ae (ah 5) (ae (ah 4) (ae (cOp fIx (ah 9) (cC (.int 1))) aB)))))))) (fh (cC (.bl false))) cf)
  (ef (cBM bW (cOp fIx (ah 9) (cC (.int 1))) (ae (cC (.int 0)) aB)))))))))
def ny(b5 bq aS cF dg bL a9:Fn):CS:=
 (bf (bN 4 (cCB bq (ae (ah 1) (ae (ah 2) aB))))
  (bf (bN 5 (cCB aS (ae (ah 1) (ae (ah 2) (ae (cC (.int 6)) aB)))))
  (bf (bN 6 (cOp (uY true) (iR (cCB cF (ae (ah 2) (ae (ah 4) (ae (ah 5) aB)))) (gNm 0) (aG (cOp fEq (cCB gh (ae (cOp fIx (ah 0) (cC (.int 0))) aB)) (cCB gh (ae (ah 1) aB)))) (ah 0) 1 [5]) (gN aB)))
  (bf (bN 7 (cCB lT (ae (ah 5) aB)))
  (j7 (fg (ae (cC (.int 2)) aB)) (gNm 8) (nz b5 bq aS cF dg bL a9))))))
def x6(b5 bq aS cF dg bL a9:Fn):CS:=
 (bf (bN 2 (cCB b5 (ae (ah 1) aB)))
  (bf (j7 (fg (ae (cC (.int 2)) aB)) (gNm 3) (ny b5 bq aS cF dg bL a9))
  (fh (cC (.bl true)))))
theorem JB{k:Nat}{b5 bq aS cF dg bL a9:Fn}{fa:Addr}{fd:FuncData}(F:Fun K "law" "law" Ca fa fd)(B:Blt mg)(vh:Has P w K mg base "_law_pen" k ["script"] (AA K))(iM:dk P w K mg base "_law_world" k ["pen"] b5)(fj:dk P w K mg base "_law_few_state" k ["pen","world"] bq)(dr:dk P w K mg base "_law_some_dealings" k ["pen","world","most"] aS)(jC:dk P w K mg base "_law_rows" k ["world","state","dealings"] cF)(kO:dk P w K mg base "all_done" k ["world","state","dealings"] dg)(gQ:dk P w K mg base "_law_is_row" k ["found"] bL)(eN:dk P w K mg base "_law_goes_along" k ["world","dealings","state","order"] a9)
  (ok:∀(ns:List Int) (a c:Int),0<=a->0<=c->∃ρ' S',x6 b5 bq aS cF dg bL a9 [none,some (.ref 1),none,none,none,none,none,none,none,none] [.lst (ns.map U.int),.lst [.ref 0,.int a,.int c]]=some (.rt (.bl true),ρ',S')):lL P w K mg base CX0 (k+1) fa fd ["script"] (yS K):=by
 refine Fun.okW F AB (fun vs H Q E h=>(by obtain⟨a,ns,rfl,_⟩:=h;rfl)) fun cdv A outer s H vs Q E hr h=>?_
 obtain⟨a,ns,rfl,hS,hlen,q⟩:=h
 have hu:=de hr
 have nd:=AB.nd
 refine⟨_,qe (u:=tS K (x6 b5 bq aS cF dg bL a9)) (vC (i:=1) nd rfl (by first|exact Or.inl rfl|exact Or.inr rfl) (Av vh hr rfl (ft (wpv 0) j8))) (aq (aI (i:=2) nd rfl (by first|exact Or.inl rfl|exact Or.inr rfl) (aQ iM hr rfl (ab (ag (wpv 1)) aw)))
   (aq (gT PassesOwn.never rfl (iC rfl B.range (ab (ar af) aw)) (fe (a8 (i:=3) nd rfl (by first|exact Or.inl rfl|exact Or.inr rfl))) (aq (aI (i:=4) nd rfl (by first|exact Or.inl rfl|exact Or.inr rfl) (aQ fj hr rfl (ab (ag (wpv 1)) (ab (ag (wpv 2)) aw))))
   (aq (aI (i:=5) nd rfl (by first|exact Or.inl rfl|exact Or.inr rfl) (aQ dr hr rfl (ab (ag (wpv 1)) (ab (ag (wpv 2)) (ab (ar af) aw)))))
   (aq (aI (i:=6) nd rfl (by first|exact Or.inl rfl|exact Or.inr rfl) (wu (wF hr.units) CP (wq (Nc:=["row","dealings"]) (tn:=["row"]) (capN:=["dealings"]) (caps:=[5]) rfl (aQ jC hr rfl (ab (ag (wpv 2)) (ab (ag (wpv 4)) (ab (ag (wpv 5)) aw)))) (fun _ _ _=>(fe (a8 (i:=0) (show(["row","dealings"]:List Str).Nodup by decide +kernel) rfl (by first|exact Or.inl rfl|exact Or.inr rfl)))) (fun _ _ _=>(aR eR lC (bQ iE iD rfl B.len PySem.boot_len (ab (bj hu (ag (wpv 0)) (ar af) (fun _ _=>rfl) (fun _ _=>rfl)) aw)) (bQ iE iD rfl B.len PySem.boot_len (ab (ag (wpv 1)) aw)) (aM _))) (fun _ _ _=>(ag (wpv 0))) rfl rfl (by decide +kernel) (by decide +kernel) ⟨rfl,trivial⟩ rfl (.cons ⟨rfl,rfl,rfl,_,rfl⟩ .nil) rfl rfl) (gH aw) (aM _)))
   (aq (aI (i:=7) nd rfl (by first|exact Or.inl rfl|exact Or.inr rfl) (bZ cZ ox rfl B.list OG.dz (ab (ag (wpv 5)) aw)))
   (ax (gT PassesOwn.never rfl (iC rfl B.range (ab (ar af) aw)) (fe (a8 (i:=8) nd rfl (by first|exact Or.inl rfl|exact Or.inr rfl))) (aq (aI (i:=9) nd rfl (by first|exact Or.inl rfl|exact Or.inr rfl) (aQ kO hr rfl (ab (ag (wpv 2)) (ab (ag (wpv 4)) (ab (ag (wpv 7)) aw)))))
   (aq (bC (uM (E4 (mT (gp (wm (T:=.tuple) (by intro z;cases z) (ag (wpv 9)) (qf rfl B.tuple OG.dR) rfl B.isinstance))) (E4 (aR zw GY (bQ iE iD rfl B.len PySem.boot_len (ab (ag (wpv 9)) aw)) (ar af) (aM _)) (y1 (aR (wF hr.units) CP (ag (wpv 7)) (ag (wpv 5)) (aM _)))))) (ax (aZ (o8 dW))) bw)
   (aq (bC (mT (gp (wm (T:=.list) (by intro z;cases z) (bj hu (ag (wpv 9)) (ar af) (fun _ _=>rfl) (fun _ _=>rfl)) (qf rfl B.list OG.dz) rfl B.isinstance))) (ax (aZ (o8 dW))) bw)
   (aq (bC (uM (E4 (aR zw GY (bj hu (ag (wpv 9)) (ar af) (fun _ _=>rfl) (fun _ _=>rfl)) (bj hu (gH (ab (aV aC) (ab (aV aC) aw))) (bZ nr CO rfl B.int OG.mj (ab (ag (wpv 6)) aw)) (fun _ _=>rfl) (fun _ _=>rfl)) (aM _)) (y1 (mT (gp (wm (T:=.str) (by intro z;cases z) (bj hu (ag (wpv 9)) (ar af) (fun _ _=>rfl) (fun _ _=>rfl)) (qf rfl B.str OG.Aj) rfl B.isinstance)))))) (ax (aZ (o8 dW))) bw)
   (aq (bC (uM (lO (gp (ag (wpv 6))) (jT (uM (E4 (mT (gp (aQ gQ hr rfl (ab (bj hu (ag (wpv 9)) (ar af) (fun _ _=>rfl) (fun _ _=>rfl)) aw)))) (y1 (aR (wF hr.units) CP (bQ (px rfl) pf rfl B.sorted OG.fM (ab (bj hu (ag (wpv 9)) (ar af) (fun _ _=>rfl) (fun _ _=>rfl)) aw)) (rP rfl rfl B.list rfl B.range (ab (bQ iE iD rfl B.len PySem.boot_len (ab (ag (wpv 5)) aw)) aw) rfl rfl) (aM _)))))))) (ax (aZ (o8 dW))) bw)
   (aq (bC (uM (lO (gp (ag (wpv 6))) (jT (mT (gp (aQ eN hr rfl (ab (ag (wpv 2)) (ab (ag (wpv 5)) (ab (ag (wpv 4)) (ab (bj hu (ag (wpv 9)) (ar af) (fun _ _=>rfl) (fun _ _=>rfl)) aw)))))))))) (ax (aZ (o8 dW))) bw)
   (ax (bY (dc (bj hu (ag (wpv 9)) (ar af) (fun _ _=>rfl) (fun _ _=>rfl)) (ab (ar af) aw)))))))))))))))))
   (ax (aZ (o8 dW))))),?_⟩
 refine⟨_,rfl,a,ns,rfl,hS,fun p xs H1 s1 P1 n1=>?_⟩
 exact C2 P1 ok q
end
end OL
namespace OQ
open PySem PySem.Spec PyProof.Rows L2 OG OP
abbrev Pl:=List Int×List Int
def plU(p:Pl):U:=.tup [.tup (p.1.map U.int),.tup (p.2.map U.int)]
def nkP(p:Pl):NK:=[p.1,p.2]
abbrev Kn:=List (Pl×List Int)
def goD(w:Int)(st:List Int)(d:List (Dl 2)):Option (List Int):=match nL w st 2 d m0 with
 |(true,m)=>some (beh st m.ps 0)
 |(false,_)=>none
def Ax(w:Int)(p:Pl)(d:List (Dl 2))(k:Nat):List (Int×Pl):=if (k:Int)∈p.1 then[]else match goD w p.2 d with
 |some st=>[((k:Int),(cV (p.1++[(k:Int)]),st))]
 |none=>[]
def c8(w:Int)(p:Pl):List (List (Dl 2))->Nat->List (Int×Pl)
 |[],_=>[]
 |d::r,k=>Ax w p d k++c8 w p r (k+1)
def vc(row:List Int):List (Int×Pl)->Kn->Kn
 |[],kn=>kn
 |(a,p)::r,kn=>vc row r (if p∈kn.map (·.1)then kn else kn++[(p,row++[a])])
section
variable{w:Int}{Ds:List (List (Dl 2))}{st0:List Int}{p p':Pl}{a:Int}{r row:List Int}{kn:Kn}
theorem xq{st st':List Int}{d:List (Dl 2)}(h:goD w st d=some st'):st'.length=st.length:=by
 unfold goD at h
 split at h
 ·cases h;rw[jw]
 ·cases h
theorem gZ:∀{ds:List (List (Dl 2))} {k:Nat},(a,p')∈c8 w p ds k->∃i:Nat,a=((k+i:Nat):Int)/\i<ds.length/\a∉p.1/\∃st,goD w p.2 (ds.getD i [])=some st/\p'=(cV (p.1++[a]),st)
 |[],k,h=>by cases h
 |d::ds,k,h=>by
  rcases List.mem_append.mp h with h|h
  ·unfold Ax at h
   split at h
   ·cases h
   ·rename_i hn
    split at h
    ·rename_i st hg
     rw[List.mem_singleton]at h
     cases h
     exact⟨0,rfl,by simp,hn,st,hg,rfl⟩
    ·cases h
  ·obtain⟨i,h1,h2,h3,st,h4,h5⟩:=gZ h
   exact⟨i+1,by rw[h1];congr 1;omega,by rw[List.length_cons];omega,h3,st,by simpa using h4,h5⟩
inductive p6(w:Int)(Ds:List (List (Dl 2)))(st0:List Int):List Int->Pl->Prop
 |nil:p6 w Ds st0 [] ([],st0)
 |snoc {r:List Int} {p p':Pl} {a:Int}:p6 w Ds st0 r p->(a,p')∈c8 w p Ds 0->p6 w Ds st0 (r++[a]) p'
theorem uK:cV (cV r++[a])=cV (r++[a]):=
 (jI ((eB _).trans ((eB r).append_right [a])) (kQ _))
structure GG(Ds:List (List (Dl 2)))(st0 r:List Int)(p:Pl):Prop where
 nd:r.Nodup
 bd:∀b∈r,0<=b/\b<(Ds.length:Int)
 gone:p.1=cV r
 len:p.2.length=st0.length
theorem p6.ok(h:p6 w Ds st0 r p):GG Ds st0 r p:=by
 induction h with
 |nil=>exact⟨List.nodup_nil,fun b hb=>(List.not_mem_nil hb).elim,by simp[cV],rfl⟩
 |@snoc r p p' a _ hw ih=>
  obtain⟨i,h1,h2,h3,st,h4,h5⟩:=gZ hw
  subst h5
  have na:a∉r:=fun z=>h3 (by rw[ih.gone];exact(eB r).mem_iff.mpr z)
  refine⟨List.nodup_append.mpr ⟨ih.nd,by simp,fun x hx y hy e=>na (by rw[List.mem_singleton.mp hy]at e;rw[<-e];exact hx)⟩,fun b hb=>?_,by rw[ih.gone,uK],by rw[xq h4,ih.len]⟩
  rcases List.mem_append.mp hb with z|z
  ·exact ih.bd b z
  ·rw[List.mem_singleton.mp z,h1];omega
theorem yM{p1 p2:Pl}(h1:(a,p1)∈c8 w p Ds 0)(h2:(a,p2)∈c8 w p Ds 0):p1=p2:=by
 obtain⟨i,e1,_,_,st,g1,rfl⟩:=gZ h1
 obtain⟨j,e2,_,_,st',g2,rfl⟩:=gZ h2
 have:i=j:=by omega
 subst this
 rw[g1]at g2;cases g2;rfl
theorem p6.det(h:p6 w Ds st0 r p):∀{p'},p6 w Ds st0 r p'->p=p':=by
 induction h with
 |nil=>
  intro p' h
  generalize e:([]:List Int)=r at h
  cases h with
  |nil=>rfl
  |snoc _ _=>exact absurd e.symm (by simp)
 |@snoc r p q a h1 hw ih=>
  intro p' h
  generalize e:r++[a]=s at h
  cases h with
  |nil=>exact absurd e (by simp)
  |@snoc r' p2 _ a' h2 hw'=>
   obtain⟨e1,e2⟩:=List.append_inj' e rfl
   cases e2
   subst e1
   have:=ih h2
   subst this
   exact yM hw hw'
def K9(r:List Int):List (List Int):=([0,1,2,3,4,5]:List Int).filterMap fun a=>if a∈r then none else some (r++[a])
def Jl:Nat->List (List Int)
 |0=>[[]]
 |k+1=>(Jl k).flatMap K9
def Kq:List (List Int):=[0,1,2,3,4,5,6].flatMap Jl
theorem Ao:Kq.length=1957:=by decide +kernel
theorem p6.lev(hN:Ds.length<=6)(h:p6 w Ds st0 r p):r∈Jl r.length:=by
 induction h with
 |nil=>exact List.mem_singleton.mpr rfl
 |@snoc r p p' a h0 hw ih=>
  have ok:=(p6.snoc h0 hw).ok
  rw[List.length_append,List.length_singleton]
  refine List.mem_flatMap.mpr ⟨r,ih,List.mem_filterMap.mpr ⟨a,?_,?_⟩⟩
  ·have:=ok.bd a (List.mem_append_right _ List.mem_cons_self)
   simp only[List.mem_cons,List.not_mem_nil,or_false]
   omega
  ·rw[if_neg fun z=>(List.nodup_append.mp ok.nd).2.2 a z a List.mem_cons_self rfl]
theorem p6.few(hN:Ds.length<=6)(h:p6 w Ds st0 r p):r.length<=Ds.length:=by
 have ok:=h.ok
 have:=List.Nodup.length_le_of_subset ok.nd (l₂:=(List.range Ds.length).map fun i:Nat=>(i:Int)) fun b hb=>by
  obtain⟨h1,h2⟩:=ok.bd b hb
  exact List.mem_map.mpr ⟨b.toNat,List.mem_range.mpr (by omega),by omega⟩
 simpa using this
structure KnI(w:Int)(Ds:List (List (Dl 2)))(st0:List Int)(kn:Kn):Prop where
 nd:(kn.map (·.1)).Nodup
 pa:∀q∈kn,p6 w Ds st0 q.2 q.1
theorem KnI.few(h:KnI w Ds st0 kn)(hN:Ds.length<=6):kn.length<=1957:=by
 have nd:(kn.map (·.2)).Nodup:=by
  refine List.pairwise_map.mpr (List.Pairwise.imp_of_mem (fun{x y} hx hy hn e=>hn ?_) (List.pairwise_map.mp h.nd))
  have h1:=h.pa x hx
  have h2:=h.pa y hy
  rw[<-e]at h2
  exact h1.det h2
 have:=List.Nodup.length_le_of_subset nd (l₂:=Kq) fun x hx=>by
  obtain⟨q,hq,rfl⟩:=List.mem_map.mp hx
  have hp:=h.pa q hq
  have hl:=hp.few hN
  refine List.mem_flatMap.mpr ⟨q.2.length,?_,hp.lev hN⟩
  have:q.2.length<=6:=by omega
  generalize q.2.length=z at this
  match z,this with
  |0,_=>simp
  |1,_=>simp
  |2,_=>simp
  |3,_=>simp
  |4,_=>simp
  |5,_=>simp
  |6,_=>simp
  |z+7,h=>omega
 rw[Ao,List.length_map]at this
 exact this
theorem KnI.add(hp:p6 w Ds st0 row p):∀(ws:List (Int×Pl)) (kn:Kn),KnI w Ds st0 kn->(∀x∈ws,x∈c8 w p Ds 0)->KnI w Ds st0 (vc row ws kn)
 |[],kn,h,_=>h
 |(a,q)::ws,kn,h,hw=>by
  unfold vc
  refine KnI.add hp ws _ ?_ fun x hx=>hw x (List.mem_cons_of_mem _ hx)
  split
  ·exact h
  ·rename_i hn
   refine⟨?_,fun x hx=>?_⟩
   ·rw[List.map_append,List.nodup_append]
    exact⟨h.nd,by simp,fun x hx y hy e=>hn (by rw[List.map_cons,List.map_nil,List.mem_singleton]at hy;rw[e,hy]at hx;exact hx)⟩
   ·rcases List.mem_append.mp hx with z|z
    ·exact h.pa x z
    ·rw[List.mem_singleton.mp z];exact .snoc hp (hw _ List.mem_cons_self)
theorem j5:∀(ws:List (Int×Pl)) (kn:Kn),∃t,vc row ws kn=kn++t
 |[],kn=>⟨[],(List.append_nil _).symm⟩
 |(a,q)::ws,kn=>by
  unfold vc
  split
  ·exact j5 ws kn
  ·obtain⟨t,e⟩:=j5 ws (kn++[(q,row++[a])])
   exact⟨[(q,row++[a])]++t,by rw[e,List.append_assoc]⟩
def kn0(st0:List Int):Kn:=[(([],st0),[])]
theorem wY:KnI w Ds st0 (kn0 st0):=⟨by simp[kn0],fun q hq=>by rw[List.mem_singleton.mp hq];exact .nil⟩
def bfs(w:Int)(Ds:List (List (Dl 2))):Nat->Nat->Kn->Kn
 |0,_,kn=>kn
 |f+1,i,kn=>match kn[i]? with
  |none=>kn
  |some q=>bfs w Ds f (i+1) (vc q.2 (c8 w q.1 Ds 0) kn)
theorem A7:∀(f i:Nat) (kn:Kn),KnI w Ds st0 kn->KnI w Ds st0 (bfs w Ds f i kn)
 |0,_,kn,h=>h
 |f+1,i,kn,h=>by
  unfold bfs
  split
  ·exact h
  ·rename_i q hq
   exact A7 f (i+1) _ (KnI.add (h.pa q (List.mem_of_getElem? hq)) _ _ h fun x hx=>hx)
def cX(w:Int)(Ds:List (List (Dl 2)))(st0:List Int):Kn:=bfs w Ds 3000 0 (kn0 st0)
theorem o6:KnI w Ds st0 (cX w Ds st0):=A7 _ _ _ wY
end
theorem nK{ca cb:CS}{ρ ρ':Rho}{S S':Sto}(h:ca ρ S=some (.nx,ρ',S')):bf ca cb ρ S=cb ρ' S':=by rw[Bc,h,Option.bind_some,As]
def kP(x:Int×Pl):U:=.tup [.int x.1,plU x.2]
section
variable{n w:Int}{Ds:List (List (Dl 2))}{p:Pl}{f:Fn}{S:Sto}{ld:Nat}
def lW(n w:Int)(f:Fn):Prop:=∀(d:List (Dl 2)) (st:List Int) (S:Sto),OkL n w 2 d->st.length=n.toNat->∃G l,f [.tup [.int n,.int w],dlU d,.tup (st.map U.int)] S=some (told (nL w st 2 d m0) st l,S++G)
theorem AN{k:Int}{xs:List Int}{S:Sto}:fIn true (.int k) (.tup (xs.map U.int)) S=some (.bl (!decide (k∈xs)),S):=by
 have h1:(xs.map U.int).all gK=true:=by rw[List.all_map];exact List.all_eq_true.mpr fun _ _=>rfl
 have h2:inU (.int k) (xs.map U.int)=decide (k∈xs):=by
  induction xs with
  |nil=>rfl
  |cons x xs ih=>
   have ih:=ih (by rw[List.all_map];exact List.all_eq_true.mpr fun _ _=>rfl)
   unfold inU at ih ⊢
   rw[List.map_cons,List.any_cons,ih]
   have:eqF (.int x) (.int k)=(x == k):=rfl
   rw[this]
   by_cases e:x=k
   ·subst e;simp
   ·have e':¬k=x:=fun z=>e z.symm
    simp[e,e']
 unfold fIn
 dsimp only
 rw[if_pos ⟨rfl,h1⟩,h2]
 rfl
theorem yT{xs:List Int}{k:Int}{S:Sto}(h:xs.length<=40):iQ [.tup (xs.map U.int++[.int k])] S=some (.ref S.length,S++[.lst ((cV (xs++[k])).map U.int)]):=by
 have e:xs.map U.int++[U.int k]=(xs++[k]).map U.int:=by rw[List.map_append];rfl
 have hl:(xs++[k]).length<64:=by rw[List.length_append,List.length_singleton];omega
 rw[e]
 simp only[iQ,iG,Option.bind_some,if_pos hl]
theorem EW:decide (("done":Str)="done")=true:=by decide +kernel
theorem II:decide (("waits":Str)="done")=false:=by decide +kernel
theorem yN(hf:lW n w f){d:List (Dl 2)}{k:Nat}(od:OkL n w 2 d)(hp:p.1.length<=40)(hs:p.2.length=n.toNat){acc:List (Int×Pl)}{G:Sto}{r6:Option U}(ha:acc.length<=900) :
  ∃G' r6',cK f [some (.tup [.int n,.int w]),some (.ref ld),some (plU p),some (.ref S.length),some (.int k),some (dlU d),r6] (S++(.lst (acc.map kP)::G))
   = some (.nx,[some (.tup [.int n,.int w]),some (.ref ld),some (plU p),some (.ref S.length),some (.int k),some (dlU d),r6'],S++(.lst ((acc++Ax w p d k).map kP)::(G++G'))):=by
 unfold Ax
 have hL:(acc.map kP).length<LIM:=by unfold LIM;rw[List.length_map];omega
 have hA:(p.1.map U.int).length+1<=LIM:=by unfold LIM;rw[List.length_map];omega
 by_cases hk:(k:Int)∈p.1
 ·rw[if_pos hk]
  refine⟨[],r6,?_⟩
  have h1:∀Y,fIn true (.int k) (.tup (p.1.map U.int)) Y=some (.bl false,Y):=fun Y=>by rw[AN,decide_eq_true hk];rfl
  rwa[cK,plU,h1,List.append_nil]
 ·rw[if_neg hk]
  have h1:∀Y,fIn true (.int k) (.tup (p.1.map U.int)) Y=some (.bl true,Y):=fun Y=>by rw[AN,decide_eq_false hk];rfl
  obtain⟨G1,l,h2⟩:=hf d p.2 (S++(.lst (acc.map kP)::G)) od hs
  unfold goD
  cases er:nL w p.2 2 d m0 with
  |mk t m=>
   rw[er]at h2
   cases t with
   |false=>
    refine⟨G1,some (.tup [.str "waits",.ref l]),?_⟩
    dsimp only[told]at h2
    simp only[List.append_assoc,List.cons_append]at h2
    rwa[cK,plU,h1,h2,II,List.append_nil]
   |true=>
    dsimp only[told]at h2
    obtain⟨Y1,hY⟩:∃Y1,Y1=S++(.lst (acc.map kP)::G)++G1:=⟨_,rfl⟩
    rw[<-hY]at h2
    have h3:∀Y,fu (.tup (p.1.map U.int)) (.tup [.int k]) Y=some (.tup (p.1.map U.int++[.int k]),Y):=fun Y=>by
     simp only[fu];rw[if_pos (by simpa using hA)]
    have g1:∀X,(Y1++X)[S.length]?=some (.lst (acc.map kP)):=fun X=>by rw[hY];exact aJ (aJ (by rw[ga0];rfl))
    have g0:∀Z:Sto,(Y1++Z)[Y1.length]?=Z[0]?:=fun Z=>ga0
    refine⟨G1++[.lst ((cV (p.1++[(k:Int)])).map U.int)],some (.tup [.str "done",.tup ((beh p.2 m.ps 0).map U.int),.tup (m.hs.map U.int)]),?_⟩
    have eS:S++(O.lst ((acc++[((k:Int),(cV (p.1++[(k:Int)]),beh p.2 m.ps 0))]).map kP)::(G++(G1++[O.lst ((cV (p.1++[(k:Int)])).map U.int)])))=(Y1++[O.lst ((cV (p.1++[(k:Int)])).map U.int)]).set S.length (O.lst (acc.map kP++[U.tup [.int k,.tup [.tup ((cV (p.1++[(k:Int)])).map U.int),.tup ((beh p.2 m.ps 0).map U.int)]]])):=by
     rw[hY,List.append_assoc,List.append_assoc,gs0,List.map_append]
     simp only[List.cons_append,List.set_cons_zero]
     rfl
    dsimp only
    rw[eS]
    obtain⟨Sl,hSl⟩:∃Sl,Sl=S.length:=⟨_,rfl⟩
    rw[<-hSl]at g1 ⊢
    have h2':f [.tup [.int n,.int w],dlU d,.tup (p.2.map U.int)] (S++(.lst (acc.map kP)::G))=_:=h2
    obtain⟨Y0,hY0⟩:∃Y0,Y0=S++(O.lst (acc.map kP)::G):=⟨_,rfl⟩
    rw[<-hY0]at h2' ⊢
    clear hY eS hY0 h2
    have g2:Y1[Sl]?=some (.lst (acc.map kP)):=by have:=g1 [];rw[List.append_nil]at this;exact this
    rwa[cK,plU,h1,h2',EW,h3,yT hp,g0,g1,g2,fk hL]
theorem qj(hf:lW n w f)(hp:p.1.length<=40)(hs:p.2.length=n.toNat)(hd:S[ld]?=some (.lst (Ds.map dlU))):∀(ds:List (List (Dl 2))) (k:Nat) (acc:List (Int×Pl)) (G:Sto) (r4 r5 r6:Option U),(∀d∈ds,OkL n w 2 d)->acc.length+ds.length<=900->
  ∃G' r4' r5' r6',dH (fun Z=>Z[ld]?=some (.lst (Ds.map dlU))) (gTp [4,5]) (cK f) (((ds.map dlU).zipIdx k).map fun p=>.tup [.int p.2,p.1]) [some (.tup [.int n,.int w]),some (.ref ld),some (plU p),some (.ref S.length),r4,r5,r6] (S++(.lst (acc.map kP)::G))
   = some (.nx,[some (.tup [.int n,.int w]),some (.ref ld),some (plU p),some (.ref S.length),r4',r5',r6'],S++(.lst ((acc++c8 w p ds k).map kP)::G'))
 |[],k,acc,G,r4,r5,r6,_,_=>⟨G,r4,r5,r6,by rw[show c8 w p [] k=[]from rfl,List.append_nil];exact d6 (aJ hd)⟩
 |d::ds,k,acc,G,r4,r5,r6,ok,hl=>by
  rw[List.length_cons]at hl
  obtain⟨G1,r6',h1⟩:=yN (S:=S) (ld:=ld) (k:=k) (acc:=acc) (G:=G) (r6:=r6) hf (ok d List.mem_cons_self) hp hs (by omega)
  have hw:(Ax w p d k).length<=1:=by unfold Ax;split;exact Nat.zero_le _;split;exact Nat.le_refl _;exact Nat.zero_le _
  obtain⟨G',a4,a5,a6,ih⟩:=qj hf hp hs hd ds (k+1) (acc++Ax w p d k) (G++G1) (some (.int k)) (some (dlU d)) r6' (fun x hx=>ok x (List.mem_cons_of_mem _ hx)) (by rw[List.length_append];omega)
  refine⟨G',a4,a5,a6,?_⟩
  rw[List.map_cons,List.zipIdx_cons,List.map_cons,show c8 w p (d::ds) k=Ax w p d k++c8 w p ds (k+1)from rfl,<-List.append_assoc]
  exact(bx (aJ hd) rfl h1).trans ih
def fZ(f:Fn):Fn:=fnU 7 3 (fH f)
theorem vL(hf:lW n w f)(hp:p.1.length<=40)(hs:p.2.length=n.toNat)(hd:S[ld]?=some (.lst (Ds.map dlU)))(ok:∀d∈Ds,OkL n w 2 d)(hl:Ds.length<=900) :
  ∃G,fZ f [.tup [.int n,.int w],.ref ld,plU p] S=some (.ref S.length,S++(.lst ((c8 w p Ds 0).map kP)::G)):=by
 unfold fZ
 rw[so]
 obtain⟨G,r4,r5,r6,h⟩:=qj (S:=S) (ld:=ld) hf hp hs hd Ds 0 [] [] none none none ok (by rw[List.length_nil];omega)
 refine⟨G,?_⟩
 rw[List.nil_append]at h
 have e1:bN 3 (gN aB) [some (.tup [.int n,.int w]),some (.ref ld),some (plU p),none,none,none,none] S=some (.nx,[some (.tup [.int n,.int w]),some (.ref ld),some (plU p),some (.ref S.length),none,none,none],S++[.lst []]):=rfl
 have gl:(S++[O.lst []])[ld]?=some (.lst (Ds.map dlU)):=aJ hd
 have e2:j7 (qJ (ah 1)) (gTp [4,5]) (cK f) [some (.tup [.int n,.int w]),some (.ref ld),some (plU p),some (.ref S.length),none,none,none] (S++[.lst []])=some (.nx,[some (.tup [.int n,.int w]),some (.ref ld),some (plU p),some (.ref S.length),r4,r5,r6],S++(.lst ((c8 w p Ds 0).map kP)::G)):=by
  have ei:qJ (ah 1) [some (.tup [.int n,.int w]),some (.ref ld),some (plU p),some (.ref S.length),none,none,none] (S++[.lst []])=some (xH (Ds.map dlU),fun Z=>Z[ld]?=some (.lst (Ds.map dlU)),S++[.lst []]):=by
   have v0:ah 1 [some (.tup [.int n,.int w]),some (.ref ld),some (plU p),some (.ref S.length),none,none,none] (S++[.lst []])=some (.ref ld,S++[.lst []]):=rfl
   unfold qJ
   rw[v0,Option.bind_some]
   simp only[DL,gl,Option.bind_some]
  unfold j7
  rw[ei,Option.bind_some]
  exact h
 unfold fH
 rw[nK e1,nK e2]
 rfl
end
theorem wL{p q:Pl}(h:nkP p=nkP q):p=q:=by
 unfold nkP at h
 simp only[List.cons.injEq,and_true]at h
 exact Prod.ext h.1 h.2
def RA(b:Nat)(no:List Nat)(Y:Sto):Kn->List (NK×U)->Prop:=Paired fun(q:Pl×List Int) (k:NK×U)=>k.1=nkP q.1/\∃l,k.2=.ref l/\b<=l/\l∉no/\Y[l]?=some (.lst (q.2.map U.int))
section
variable{b:Nat}{no:List Nat}{Y Y':Sto}{kn:Kn}{kus:List (NK×U)}{p:Pl}{row:List Int}{a:Int}
theorem RA.mono(h:RA b no Y kn kus)(m:∀l,b<=l->l∉no->∀o,Y[l]?=some o->Y'[l]?=some o):RA b no Y' kn kus:=Paired.mapP h fun q k ⟨e,l,h1,h2,h3,h4⟩=>⟨e,l,h1,h2,h3,m l h2 h3 _ h4⟩
theorem RA.length(h:RA b no Y kn kus):kn.length=kus.length:=Paired.length h
theorem RA.none(h:RA b no Y kn kus)(hp:p∉kn.map (·.1)):cS kus (nkP p)=none:=by
 induction h with
 |nil=>rfl
 |@cons q k ks us r t ih=>
  rw[List.map_cons,List.mem_cons,not_or]at hp
  have ne:¬k.1=nkP p:=fun z=>hp.1 (wL (z.symm.trans r.1))
  have:=ih hp.2
  unfold cS at this ⊢
  rw[List.find?_cons,decide_eq_false ne]
  exact this
theorem RA.val(h:RA b no Y kn kus)(nd:(kn.map (·.1)).Nodup){q:Pl×List Int}(hq:q∈kn):∃l,cS kus (nkP q.1)=some (.ref l)/\b<=l/\l∉no/\Y[l]?=some (.lst (q.2.map U.int)):=by
 induction h with
 |nil=>cases hq
 |@cons x k ks us r t ih=>
  rw[List.map_cons,List.nodup_cons]at nd
  obtain⟨e,l,h1,h2,h3,h4⟩:=r
  rcases List.mem_cons.mp hq with rfl|hq
  ·refine⟨l,?_,h2,h3,h4⟩
   unfold cS
   rw[List.find?_cons,decide_eq_true e,Option.map_some,h1]
  ·obtain⟨l',v,rest⟩:=ih nd.2 hq
   have ne:¬k.1=nkP q.1:=fun z=>nd.1 (by rw[wL (e.symm.trans z)];exact List.mem_map.mpr ⟨q,hq,rfl⟩)
   refine⟨l',?_,rest⟩
   unfold cS at v ⊢
   rw[List.find?_cons,decide_eq_false ne]
   exact v
theorem y9{κ α:Type}[DecidableEq κ]{kus:List (κ×α)}{k:κ}{u:α}(h:cS kus k=none):lB kus k u=kus++[(k,u)]:=by
 induction kus with
 |nil=>rfl
 |cons x r ih=>
  unfold cS at h
  rw[List.find?_cons]at h
  by_cases e:x.1=k
  ·rw[decide_eq_true e]at h;cases h
  ·rw[decide_eq_false e]at h
   have:=ih h
   simp only[lB,e,List.any_cons,decide_false,Bool.false_or,List.map_cons,if_false]at this ⊢
   split at this
   ·rename_i c
    rw[if_pos c,this]
    try rfl
   ·rename_i c
    rw[if_neg c]
    try rfl
structure BI(Z:Sto)(dl ll:Nat)(kn:Kn)(lus:List U)(kus:List (NK×U))(Y:Sto):Prop where
 pre:∃G,Y=Z++G
 hd:Y[dl]?=some (.dnt kus)
 hl:Y[ll]?=some (.lst lus)
 ne:dl≠ll
 zd:Z.length<=dl
 zl:Z.length<=ll
 ra:RA Z.length [dl,ll] Y kn kus
variable{Z:Sto}{dl ll:Nat}{lus:List U}
def A9(Y:Sto)(dl ll:Nat)(kus:List (NK×U))(lus:List U)(row:List Int)(a:Int)(p:Pl):Sto:=
 ((Y++[O.lst [.int a],O.lst ((row++[a]).map U.int)]).set dl (O.dnt (kus++[(nkP p,.ref (Y.length+1))]))).set ll (O.lst (lus++[plU p]))
theorem BI.grow(B:BI Z dl ll kn lus kus Y)(G:Sto):BI Z dl ll kn lus kus (Y++G):=by
 obtain⟨G0,e⟩:=B.pre
 exact⟨⟨G0++G,by rw[e,List.append_assoc]⟩,aJ B.hd,aJ B.hl,B.ne,B.zd,B.zl,B.ra.mono fun l _ _ o h=>aJ h⟩
theorem uu(B:BI Z dl ll kn lus kus Y){l:Nat}{o:O}(h1:l≠dl)(h2:l≠ll)(h:Y[l]?=some o):(A9 Y dl ll kus lus row a p)[l]?=some o:=by
 unfold A9
 rw[List.getElem?_set_ne (Ne.symm h2),List.getElem?_set_ne (Ne.symm h1)]
 exact aJ h
theorem BI.add(B:BI Z dl ll kn lus kus Y):BI Z dl ll (kn++[(p,row++[a])]) (lus++[plU p]) (kus++[(nkP p,.ref (Y.length+1))]) (A9 Y dl ll kus lus row a p):=by
 obtain⟨G0,e⟩:=B.pre
 have ld:dl<Y.length:=(List.getElem?_eq_some_iff.mp B.hd).1
 have l2:ll<Y.length:=(List.getElem?_eq_some_iff.mp B.hl).1
 have zy:Z.length<=Y.length:=by rw[e,List.length_append];omega
 refine⟨?_,?_,?_,B.ne,B.zd,B.zl,?_⟩
 ·unfold A9
  rw[e,List.append_assoc,List.set_append_right _ _ B.zd,List.set_append_right _ _ B.zl]
  exact⟨_,rfl⟩
 ·unfold A9
  rw[List.getElem?_set_ne (Ne.symm B.ne),List.getElem?_set_self (by rw[List.length_append];omega)]
 ·unfold A9
  rw[List.getElem?_set_self (by rw[List.length_set,List.length_append];omega)]
 ·refine Paired.snoc (B.ra.mono fun l h1 h2 o h=>?_) ⟨rfl,Y.length+1,rfl,by omega,?_,?_⟩
  ·simp only[List.mem_cons,List.not_mem_nil,or_false,not_or]at h2
   exact uu B h2.1 h2.2 h
  ·simp only[List.mem_cons,List.not_mem_nil,or_false,not_or]
   omega
  ·unfold A9
   rw[List.getElem?_set_ne (by omega),List.getElem?_set_ne (by omega),ga]
   rfl
theorem BI.left(B:BI Z dl ll kn lus kus Y)(lus':List U):BI Z dl ll kn lus' kus (Y.set ll (.lst lus')):=by
 obtain⟨G0,e⟩:=B.pre
 have l2:ll<Y.length:=(List.getElem?_eq_some_iff.mp B.hl).1
 refine⟨?_,by rw[List.getElem?_set_ne (Ne.symm B.ne)];exact B.hd,List.getElem?_set_self l2,B.ne,B.zd,B.zl,B.ra.mono fun l h1 h2 o h=>?_⟩
 ·rw[e,List.set_append_right _ _ B.zl];exact⟨_,rfl⟩
 ·simp only[List.mem_cons,List.not_mem_nil,or_false,not_or]at h2
  rw[List.getElem?_set_ne (Ne.symm h2.2)];exact h
theorem kf:wJ [.tup (p.1.map U.int),.tup (p.2.map U.int)]=some (nkP p):=by simp only[wJ,iG,Option.bind_some,Option.map_some,nkP]
theorem HB{l:Nat}(h:Y[l]?=some (.dnt kus)):zY (plU p) (.ref l) Y=some (.bl (!(cS kus (nkP p)).isSome),Y):=by
 unfold zY plU
 dsimp only
 rw[kf,Option.bind_some]
 unfold Dw
 rw[h]
 rfl
theorem HQ{l:Nat}{u:U}(h:Y[l]?=some (.dnt kus))(v:cS kus (nkP p)=some u):vk (.ref l) (plU p) Y=some (u,Y):=by
 unfold vk plU
 dsimp only
 rw[kf,Option.bind_some]
 unfold Dw
 rw[h]
 dsimp only
 rw[Option.bind_some,v]
 rfl
theorem DZ{co ci cv:CE}{ρ:Rho}{S1 S2 S3:Sto}{v:U}{l:Nat}(h1:cv ρ Y=some (v,S1))(h2:co ρ S1=some (.ref l,S2))(h3:ci ρ S2=some (plU p,S3))(h:S3[l]?=some (.dnt kus))(hl:kus.length<LIM)(hn:cS kus (nkP p)=none) :
  kH co ci cv ρ Y=some (.nx,ρ,S3.set l (.dnt (kus++[(nkP p,v)]))):=by
 unfold kH
 rw[h1,Option.bind_some]
 dsimp only
 rw[h2,Option.bind_some]
 dsimp only
 rw[h3,Option.bind_some]
 dsimp only[plU]
 rw[h]
 dsimp only
 rw[kf,Option.bind_some,if_pos hl,y9 hn]
theorem Iu{l k:Nat}{r1 r2:List Int}(h1:Y[l]?=some (.lst (r1.map U.int)))(h2:Y[k]?=some (.lst (r2.map U.int)))(hl:r1.length+r2.length<=900):fu (.ref l) (.ref k) Y=some (.ref Y.length,Y++[.lst ((r1++r2).map U.int)]):=by
 have:(r1.map U.int).length+(r2.map U.int).length<=LIM:=by unfold LIM;rw[List.length_map,List.length_map];omega
 simp only[fu,pL,h1,h2]
 rw[if_pos this,List.map_append]
end
section
variable{kn:Kn}{kus:List (NK×U)}{p p0:Pl}{row:List Int}{a n w:Int}{Z Y:Sto}{dl ll ld wl F:Nat}{lus:List U}{fw f:Fn}{W st:U}{Ds:List (List (Dl 2))}{st0:List Int}
def knA(kn:Kn)(row:List Int)(a:Int)(p:Pl):Kn:=if p∈kn.map (·.1)then kn else kn++[(p,row++[a])]
def luA(kn:Kn)(lus:List U)(p:Pl):List U:=if p∈kn.map (·.1)then lus else lus++[plU p]
def stA(kn:Kn)(Y:Sto)(dl ll:Nat)(kus:List (NK×U))(lus:List U)(row:List Int)(a:Int)(p:Pl):Sto:=if p∈kn.map (·.1)then Y else A9 Y dl ll kus lus row a p
theorem BI.stA(B:BI Z dl ll kn lus kus Y):∃kus',BI Z dl ll (knA kn row a p) (luA kn lus p) kus' (stA kn Y dl ll kus lus row a p):=by
 unfold knA luA OQ.stA
 split
 ·exact⟨_,B⟩
 ·exact⟨_,B.add⟩
theorem BV(B:BI Z dl ll kn lus kus Y){l:Nat}{o:O}(h1:l≠dl)(h2:l≠ll)(h:Y[l]?=some o):(stA kn Y dl ll kus lus row a p)[l]?=some o:=by
 unfold stA
 split
 ·exact h
 ·exact uu B h1 h2 h
theorem vR{cd cl cp cn cr:CE}{ρ:Rho}(B:BI Z dl ll kn lus kus Y)(nd:(kn.map (·.1)).Nodup)(hq:(p0,row)∈kn)(hk:kn.length<=1957)(hl:lus.length<=1957)(hr:row.length<=6)
  (vd:∀S,cd ρ S=some (.ref dl,S)) (vl:∀S,cl ρ S=some (.ref ll,S)) (vp:cp ρ Y=some (plU p0,Y)) (vn:∀S,cn ρ S=some (.int a,S)) (vr:∀S,cr ρ S=some (plU p,S)) :
  dQ (aG (cOp zY cr cd)) (bf (kH cd cr (cOp fu (cOp vk cd cp) (gN (ae cn aB)))) (ef (cBM bW cl (ae cr aB)))) cf ρ Y=some (.nx,ρ,stA kn Y dl ll kus lus row a p):=by
 have t1:aG (cOp zY cr cd) ρ Y=some (!(cS kus (nkP p)).isSome,Y):=by
  rwa[vr,vd,HB B.hd]
 rw[El,t1,Option.bind_some]
 unfold stA
 by_cases hp:p∈kn.map (·.1)
 ·rw[if_pos hp]
  obtain⟨q,hq',e⟩:=List.mem_map.mp hp
  obtain⟨l,v,_⟩:=B.ra.val nd hq'
  rw[e]at v
  rw[v]
  rfl
 ·rw[if_neg hp]
  have hn:=B.ra.none hp
  rw[hn]
  obtain⟨l,v,l1,l2,l3⟩:=B.ra.val nd hq
  dsimp only at v l3
  have e1:(Y++[O.lst [.int a]])[Y.length]?=some (.lst ([a].map U.int)):=by rw[ga0];rfl
  have hv:cOp fu (cOp vk cd cp) (gN (ae cn aB)) ρ Y=some (.ref (Y.length+1),Y++[O.lst [.int a],O.lst ((row++[a]).map U.int)]):=by
   have s1:cOp vk cd cp ρ Y=some (.ref l,Y):=by
    rwa[vd,vp,HQ B.hd v]
   have s2:gN (ae cn aB) ρ Y=some (.ref Y.length,Y++[O.lst [.int a]]):=by
    rwa[vn]
   have s3:=Iu (Y:=Y++[O.lst [.int a]]) (aJ l3) e1 (by rw[List.length_singleton];omega)
   rw[yr,s1,Option.bind_some,oR,s2,Option.bind_some,oQ,s3,List.append_assoc,List.length_append]
   rfl
  have hd2:(Y++[O.lst [.int a],O.lst ((row++[a]).map U.int)])[dl]?=some (.dnt kus):=aJ B.hd
  have hs:=DZ (ρ:=ρ) hv (vd _) (vr _) hd2 (by rw[<-B.ra.length];unfold LIM;omega) hn
  have gl:((Y++[O.lst [.int a],O.lst ((row++[a]).map U.int)]).set dl (.dnt (kus++[(nkP p,.ref (Y.length+1))])))[ll]?=some (.lst lus):=by
   rw[List.getElem?_set_ne B.ne];exact aJ B.hl
  have hL:lus.length<LIM:=by unfold LIM;omega
  show bf _ _ ρ Y=_
  rw[nK hs]
  rwa[vl,vr,gl,fk hL]
  rfl
theorem ym{ws:List (Int×Pl)}:vc row ((a,p)::ws) kn=vc row ws (knA kn row a p):=rfl
def luW(lus:List U):List (Int×Pl)->Kn->List Int->List U
 |[],_,_=>lus
 |(a,p)::ws,kn,row=>luW (luA kn lus p) ws (knA kn row a p) row
theorem tX:∀(ws:List (Int×Pl)) (kn:Kn) (lus:List U) (t:List (Pl×List Int)),vc row ws kn=kn++t->luW lus ws kn row=lus++t.map fun q=>plU q.1
 |[],kn,lus,t,h=>by
  have:t=[]:=by have:=congrArg List.length h;rw[show vc row [] kn=kn from rfl,List.length_append]at this;exact List.eq_nil_of_length_eq_zero (by omega)
  subst this
  exact(List.append_nil _).symm
 |(a,p)::ws,kn,lus,t,h=>by
  rw[ym]at h
  unfold luW
  by_cases hp:p∈kn.map (·.1)
  ·have e1:knA kn row a p=kn:=by unfold knA;rw[if_pos hp]
   have e2:luA kn lus p=lus:=by unfold luA;rw[if_pos hp]
   rw[e1]at h
   rw[e1,e2]
   exact tX ws kn lus t h
  ·have e1:knA kn row a p=kn++[(p,row++[a])]:=by unfold knA;rw[if_neg hp]
   have e2:luA kn lus p=lus++[plU p]:=by unfold luA;rw[if_neg hp]
   rw[e1]at h
   rw[e1,e2]
   obtain⟨t',e⟩:=j5 (row:=row) ws (kn++[(p,row++[a])])
   rw[e,List.append_assoc]at h
   have ht:t=[(p,row++[a])]++t':=(List.append_cancel_left h).symm
   rw[tX ws _ (lus++[plU p]) t' e,ht,List.append_assoc,List.map_append]
   rfl
theorem rG(R:List U->Prop)(Rm:∀l u,R l->R (l++[u])){ρ0:Option U->Option U->Rho}{cb:CS}{us:List U}(hp:p6 w Ds st0 row p0)(hN:Ds.length<=6)(g67:∀u6 u7 v6 v7 S,gTp [6,7] (.tup [u6,u7]) (ρ0 v6 v7) S=some (ρ0 (some u6) (some u7),S))
  (body:∀{kn:Kn} {lus:List U} {kus:List (NK×U)} {Y:Sto} {a:Int} {p:Pl},BI Z dl ll kn lus kus Y->(kn.map (·.1)).Nodup->(p0,row)∈kn->kn.length<=1957->lus.length<=1957->R lus->cb (ρ0 (some (.int a)) (some (plU p))) Y=some (.nx,ρ0 (some (.int a)) (some (plU p)),stA kn Y dl ll kus lus row a p))
  (h1:wl≠dl) (h2:wl≠ll):∀(ws:List (Int×Pl)) (kn:Kn) (lus:List U) (kus:List (NK×U)) (Y:Sto) (v6 v7:Option U),(∀x∈ws,x∈c8 w p0 Ds 0)->KnI w Ds st0 kn->(p0,row)∈kn->lus.length<=kn.length->R lus->BI Z dl ll kn lus kus Y->Y[wl]?=some (.lst us)->
  ∃kus' Y' v6' v7',dH (fun Z=>Z[wl]?=some (.lst us)) (gTp [6,7]) cb (ws.map kP) (ρ0 v6 v7) Y=some (.nx,ρ0 v6' v7',Y')/\BI Z dl ll (vc row ws kn) (luW lus ws kn row) kus' Y'
 |[],kn,lus,kus,Y,v6,v7,_,_,_,_,_,B,hw=>⟨kus,Y,v6,v7,d6 hw,B⟩
 |(a,p)::ws,kn,lus,kus,Y,v6,v7,hws,I,hq,hll,hR,B,hw=>by
  have few:=I.few hN
  have I':KnI w Ds st0 (knA kn row a p):=KnI.add hp [(a,p)] kn I fun x hx=>by rw[List.mem_singleton.mp hx];exact hws _ List.mem_cons_self
  have hq':(p0,row)∈knA kn row a p:=by unfold knA;split;exact hq;exact List.mem_append_left _ hq
  have hb:=body (a:=a) (p:=p) B I.nd hq few (by omega) hR
  obtain⟨kus1,B1⟩:=B.stA (row:=row) (a:=a) (p:=p)
  have hll':(luA kn lus p).length<=(knA kn row a p).length:=by
   unfold luA knA
   split
   ·exact hll
   ·rw[List.length_append,List.length_append];exact Nat.add_le_add_right hll _
  obtain⟨kus',Y',a6,a7,ih,B'⟩:=rG R Rm hp hN g67 body h1 h2 ws _ _ kus1 _ (some (.int a)) (some (plU p)) (fun x hx=>hws x (List.mem_cons_of_mem _ hx)) I' hq' hll' (by unfold luA;split;exact hR;exact Rm _ _ hR) B1 (BV B h1 h2 hw)
  refine⟨kus',Y',a6,a7,?_,B'⟩
  rw[List.map_cons]
  exact(bx hw (g67 _ _ _ _ _) hb).trans ih
end
def plQ(q:Pl×List Int):U:=plU q.1
section
variable{kn:Kn}{kus:List (NK×U)}{n w:Int}{Z Y S:Sto}{dl ll ld F:Nat}{f:Fn}{st:U}{Ds:List (List (Dl 2))}{st0:List Int}
abbrev rhP(n w:Int)(st:U)(ld dl ll:Nat)(r5 r6 r7:Option U):Rho:=[some (.tup [.int n,.int w]),some st,some (.ref ld),some (.ref dl),some (.ref ll),r5,r6,r7]
abbrev wtP:CT:=aG (cOp fGt (cCB gh (ae (ah 4) aB)) (cC (.int 0)))
theorem K6{us:List U}{u:U}{l:Nat}(h:Y[l]?=some (.lst (u::us)))(hl:us.length<=1957):ng (.ref l) [.int 0] Y=some (u,Y.set l (.lst us)):=by
 have c:(0:Int)<=0/\(0:Int)<((u::us).length:Int)/\(u::us).length<=LIM:=⟨Int.le_refl _,by rw[List.length_cons];omega,by unfold LIM;rw[List.length_cons];omega⟩
 simp only[ng,h]
 rw[if_pos c]
 rfl
theorem Du{i:Nat}{q:Pl×List Int}(h:kn[i]?=some q):kn.drop i=q::kn.drop (i+1):=by
 obtain⟨hi,e⟩:=List.getElem?_eq_some_iff.mp h
 rw[List.drop_eq_getElem_cons hi,e]
theorem qy(hf:lW n w f)(hN:Ds.length<=6)(hs:st0.length=n.toNat)(ok:∀d∈Ds,OkL n w 2 d)(hz:Z[ld]?=some (.lst (Ds.map dlU))):∀(g i:Nat) (kn:Kn) (kus:List (NK×U)) (Y:Sto) (r5 r6 r7:Option U),KnI w Ds st0 kn->i<=kn.length->1958<=g+i->BI Z dl ll kn ((kn.drop i).map plQ) kus Y->
  ∃kus' lus' Y' r5' r6' r7',cW wtP (ej (fZ f) F) g (rhP n w st ld dl ll r5 r6 r7) Y=some (.nx,rhP n w st ld dl ll r5' r6' r7',Y')/\BI Z dl ll (bfs w Ds g i kn) lus' kus' Y'
 |0,i,kn,kus,Y,r5,r6,r7,I,hi,hg,B=>by have:=I.few hN;omega
 |g+1,i,kn,kus,Y,r5,r6,r7,I,hi,hg,B=>by
  have few:=I.few hN
  unfold bfs
  cases hq:kn[i]? with
  |none=>
   have e:i=kn.length:=by have:=List.getElem?_eq_none_iff.mp hq;omega
   have eL:(kn.drop i).map plQ=[]:=by rw[e,List.drop_length];rfl
   have hl:=B.hl
   rw[eL]at hl
   refine⟨kus,_,Y,r5,r6,r7,gX ?_,B⟩
   rwa[wtP,rhP,hl]
   rfl
  |some q=>
   dsimp only
   have hm:q∈kn:=List.mem_of_getElem? hq
   have pa:=I.pa q hm
   have pok:=pa.ok
   have rl:=pa.few hN
   have ed:=Du hq
   have hl:=B.hl
   rw[ed,List.map_cons]at hl
   have dl1:((kn.drop (i+1)).map plQ).length<=1957:=by rw[List.length_map,List.length_drop];omega
   have B1:=B.left ((kn.drop (i+1)).map plQ)
   obtain⟨Y1,hY1⟩:∃Y1,Y1=Y.set ll (.lst ((kn.drop (i+1)).map plQ)):=⟨_,rfl⟩
   rw[<-hY1]at B1
   have z1:Y1[ld]?=some (.lst (Ds.map dlU)):=by obtain⟨G,e⟩:=B1.pre;rw[e];exact aJ hz
   obtain⟨G,hw⟩:=vL (S:=Y1) (p:=q.1) hf (by rw[pok.gone,(eB _).length_eq];omega) (by rw[pok.len];exact hs) z1 ok (by omega)
   obtain⟨Y2,hY2⟩:∃Y2,Y2=Y1++(O.lst ((c8 w q.1 Ds 0).map kP)::G):=⟨_,rfl⟩
   have B2:=B1.grow (O.lst ((c8 w q.1 Ds 0).map kP)::G)
   rw[<-hY2]at B2 hw
   have gw:Y2[Y1.length]?=some (.lst ((c8 w q.1 Ds 0).map kP)):=by rw[hY2,ga0];rfl
   have d1:Y1.length≠dl:=by have:=(List.getElem?_eq_some_iff.mp B1.hd).1;omega
   have d2:Y1.length≠ll:=by have:=(List.getElem?_eq_some_iff.mp B1.hl).1;omega
   obtain⟨kus',Y',a6,a7,hL,B'⟩:=rG (fun _=>True) (fun _ _ _=>trivial) (ρ0:=fun v6 v7=>rhP n w st ld dl ll (some (plU q.1)) v6 v7) (cb:=fY (fZ f) F) (row:=q.2) pa hN (fun _ _ _ _ _=>rfl)
    (fun{kn lus kus Y a p} B nd hq hk hl _=>vR B nd hq hk hl (by omega) (fun _=>rfl) (fun _=>rfl) rfl (fun _=>rfl) (fun _=>rfl)) d1 d2 _ kn ((kn.drop (i+1)).map plQ) kus Y2 r6 r7 (fun x hx=>hx) I hm (by rw[List.length_map,List.length_drop];omega) trivial B2 gw
   obtain⟨t,et⟩:=j5 (row:=q.2) (c8 w q.1 Ds 0) kn
   have el:=tX (row:=q.2) (c8 w q.1 Ds 0) kn ((kn.drop (i+1)).map plQ) t et
   have hi1:i+1<=kn.length:=(List.getElem?_eq_some_iff.mp hq).1
   have el2:luW ((kn.drop (i+1)).map plQ) (c8 w q.1 Ds 0) kn q.2=((vc q.2 (c8 w q.1 Ds 0) kn).drop (i+1)).map plQ:=by
    rw[el,et,List.drop_append_of_le_length hi1,List.map_append];rfl
   rw[el2]at B'
   have I':=KnI.add pa (c8 w q.1 Ds 0) kn I fun x hx=>hx
   obtain⟨kus2,lus2,Y3,c5,c6,c7,ih,B3⟩:=qy hf hN hs ok hz g (i+1) _ kus' Y' (some (plU q.1)) a6 a7 I' (by rw[et,List.length_append];omega) (by omega) B'
   refine⟨kus2,lus2,Y3,c5,c6,c7,(lX (S0:=Y) ?_ ?_).trans ih,B3⟩
   ·have ge:decide (((plQ q::(kn.drop (i+1)).map plQ).length:Int)>0)=true:=by rw[List.length_cons];exact decide_eq_true (by omega)
    simp only[wtP,rhP,hl,vw,p9,yr,oR,oQ,GR,yv,sZ,oT,oS,yt,x_c,qb,oP,sX,sY,JT,ge,List.getElem?_cons_zero,List.getElem?_cons_succ,Option.bind_some]
   ·unfold ej
    have e5:bN 5 (cBM ng (ah 4) (ae (cC (.int 0)) aB)) (rhP n w st ld dl ll r5 r6 r7) Y=some (.nx,rhP n w st ld dl ll (some (plU q.1)) r6 r7,Y1):=by
     have:=K6 hl dl1
     rw[<-hY1]at this
     rwa[rhP,hl,this,plQ]
    rw[nK e5]
    have ei:iTp (cCB (fZ f) (ae (ah 0) (ae (ah 2) (ae (ah 5) aB)))) (rhP n w st ld dl ll (some (plU q.1)) r6 r7) Y1=some ((c8 w q.1 Ds 0).map kP,fun Z=>Z[Y1.length]?=some (.lst ((c8 w q.1 Ds 0).map kP)),Y2):=by
     have ec:cCB (fZ f) (ae (ah 0) (ae (ah 2) (ae (ah 5) aB))) (rhP n w st ld dl ll (some (plU q.1)) r6 r7) Y1=some (.ref Y1.length,Y2):=hw
     unfold iTp
     rw[ec,Option.bind_some]
     simp only[gw]
    unfold j7
    rw[ei,Option.bind_some]
    exact hL
def oM(f:Fn)(F:Nat):Fn:=fnU 8 3 (cM (fZ f) F)
theorem ur{X:Sto}{dl ll k:Nat}(hZ:∃G,X=S++G)(h1:X[dl]?=some (.dnt [(nkP ([],st0),.ref k)]))(h2:X[ll]?=some (.lst [plU ([],st0)]))(h3:X[k]?=some (.lst []))(ne:dl≠ll)(k1:k≠dl)(k2:k≠ll)(zd:S.length<=dl)(zl:S.length<=ll)(zk:S.length<=k):BI S dl ll (kn0 st0) ((kn0 st0).map plQ) [(nkP ([],st0),.ref k)] X:=
 ⟨hZ,h1,h2,ne,zd,zl,.cons ⟨rfl,k,rfl,zk,by simp[k1,k2],h3⟩ .nil⟩
theorem Cb(hf:lW n w f)(hN:Ds.length<=6)(hs:st0.length=n.toNat)(ok:∀d∈Ds,OkL n w 2 d)(hz:S[ld]?=some (.lst (Ds.map dlU))) :
  ∃kus lus Y,oM f 3000 [.tup [.int n,.int w],.tup (st0.map U.int),.ref ld] S=some (.ref S.length,Y)/\BI S S.length (S.length+2) (cX w Ds st0) lus kus Y:=by
 unfold oM
 rw[lU]
 obtain⟨Y0,hY0⟩:∃Y0,Y0=S++[O.dnt [(nkP ([],st0),.ref (S.length+1))],O.lst [],O.lst [plU ([],st0)]]:=⟨_,rfl⟩
 have B0:=ur (S:=S) (X:=Y0) (st0:=st0) (dl:=S.length) (ll:=S.length+2) (k:=S.length+1) ⟨_,hY0⟩ (by rw[hY0,ga0];rfl) (by rw[hY0,ga];rfl) (by rw[hY0,ga];rfl) (by omega) (by omega) (by omega) (Nat.le_refl _) (by omega) (by omega)
 obtain⟨kus,lus,Y,r5,r6,r7,hL,B⟩:=qy (Z:=S) (F:=3000) (st:=.tup (st0.map U.int)) hf hN hs ok hz 3000 0 (kn0 st0) _ Y0 none none none wY (Nat.zero_le _) (by omega) B0
 refine⟨kus,lus,Y,?_,B⟩
 have e1:bN 3 (i6 (cI (ae (cI aB) (ae (ah 1) aB))) (gN aB)) [some (.tup [.int n,.int w]),some (.tup (st0.map U.int)),some (.ref ld),none,none,none,none,none] S=some (.nx,[some (.tup [.int n,.int w]),some (.tup (st0.map U.int)),some (.ref ld),some (.ref S.length),none,none,none,none],S++[O.dnt [(nkP ([],st0),.ref (S.length+1))],O.lst []]):=by
  have ed:i6 (cI (ae (cI aB) (ae (ah 1) aB))) (gN aB) [some (.tup [.int n,.int w]),some (.tup (st0.map U.int)),some (.ref ld),none,none,none,none,none] S=some (.ref S.length,S++[O.dnt [(nkP ([],st0),.ref (S.length+1))],O.lst []]):=by
   have k1:cI (ae (cI aB) (ae (ah 1) aB)) [some (.tup [.int n,.int w]),some (.tup (st0.map U.int)),some (.ref ld),none,none,none,none,none] (S++[.dnt []])=some (.tup [.tup [],.tup (st0.map U.int)],S++[.dnt []]):=rfl
   have k2:gN aB [some (.tup [.int n,.int w]),some (.tup (st0.map U.int)),some (.ref ld),none,none,none,none,none] (S++[.dnt []])=some (.ref (S++[O.dnt []]).length,S++[.dnt []]++[.lst []]):=rfl
   have nk:wJ [.tup [],.tup (st0.map U.int)]=some (nkP ([],st0)):=kf (p:=([],st0))
   unfold i6
   rw[k1,Option.bind_some]
   dsimp only
   rw[k2,Option.bind_some]
   dsimp only
   rw[nk,Option.bind_some,List.append_assoc,ga0]
   dsimp only[List.cons_append,List.nil_append,List.getElem?_cons_zero]
   rw[gs0,List.length_append]
   rfl
  rw[vx,ed]
  rfl
 have e2:bN 4 (gN (ae (cI (ae (cI aB) (ae (ah 1) aB))) aB)) [some (.tup [.int n,.int w]),some (.tup (st0.map U.int)),some (.ref ld),some (.ref S.length),none,none,none,none] (S++[O.dnt [(nkP ([],st0),.ref (S.length+1))],O.lst []])=some (.nx,rhP n w (.tup (st0.map U.int)) ld S.length (S.length+2) none none none,Y0):=by
  rw[hY0]
  have:(S++[O.dnt [(nkP ([],st0),.ref (S.length+1))],O.lst []]).length=S.length+2:=by rw[List.length_append];rfl
  have e:gN (ae (cI (ae (cI aB) (ae (ah 1) aB))) aB) [some (.tup [.int n,.int w]),some (.tup (st0.map U.int)),some (.ref ld),some (.ref S.length),none,none,none,none] (S++[O.dnt [(nkP ([],st0),.ref (S.length+1))],O.lst []])=some (.ref (S++[O.dnt [(nkP ([],st0),.ref (S.length+1))],O.lst []]).length,S++[O.dnt [(nkP ([],st0),.ref (S.length+1))],O.lst []]++[.lst [plU ([],st0)]]):=rfl
  rw[vx,e,this,List.append_assoc]
  rfl
 unfold cM
 rw[nK e1,nK e2,nK hL]
 rfl
end
section
variable{kn:Kn}{kus:List (NK×U)}{n w:Int}{Z Y S:Sto}{dl ll ld F:Nat}{f:Fn}{st:U}{Ds:List (List (Dl 2))}{st0:List Int}
abbrev rhW(n w:Int)(st:U)(ld dl ll i:Nat)(r6 r7:Option U):Rho:=[some (.tup [.int n,.int w]),some st,some (.ref ld),some (.ref ll),some (.ref dl),some (.int i),r6,r7]
abbrev wtW:CT:=aG (cOp fLt (ah 5) (cCB gh (ae (ah 3) aB)))
theorem A8{i:Nat}{q:Pl×List Int}{t:List U}(h:kn[i]?=some q):atI (kn.map plQ++t) (i:Int)=some (plU q.1):=by
 refine lH (by omega) ?_
 have:((i:Int)).toNat=i:=rfl
 rw[this]
 exact aJ (by rw[List.getElem?_map,h];rfl)
theorem tZ(hf:lW n w f)(hN:Ds.length<=6)(hs:st0.length=n.toNat)(ok:∀d∈Ds,OkL n w 2 d)(hz:Z[ld]?=some (.lst (Ds.map dlU))):∀(g i:Nat) (kn:Kn) (kus:List (NK×U)) (Y:Sto) (r6 r7:Option U),KnI w Ds st0 kn->i<=kn.length->1958<=g+i->BI Z dl ll kn (kn.map plQ) kus Y->
  ∃kus' lus' Y' i' r6' r7',cW wtW (gO (fZ f) F) g (rhW n w st ld dl ll i r6 r7) Y=some (.nx,rhW n w st ld dl ll i' r6' r7',Y')/\BI Z dl ll (bfs w Ds g i kn) lus' kus' Y'
 |0,i,kn,kus,Y,r6,r7,I,hi,hg,B=>by have:=I.few hN;omega
 |g+1,i,kn,kus,Y,r6,r7,I,hi,hg,B=>by
  have few:=I.few hN
  unfold bfs
  have hl:=B.hl
  have ln:(kn.map plQ).length=kn.length:=List.length_map ..
  cases hq:kn[i]? with
  |none=>
   have e:i=kn.length:=by have:=List.getElem?_eq_none_iff.mp hq;omega
   refine⟨kus,_,Y,i,r6,r7,gX (S0:=Y) ?_,B⟩
   have ge:decide ((i:Int)<((kn.map plQ).length:Int))=false:=decide_eq_false (by omega)
   simp only[wtW,rhW,hl,vw,p9,yr,oR,oQ,GR,yv,sZ,oT,oS,yt,qb,oP,sX,sY,HJ,ge,List.getElem?_cons_zero,List.getElem?_cons_succ,Option.bind_some]
  |some q=>
   dsimp only
   have hm:q∈kn:=List.mem_of_getElem? hq
   have pa:=I.pa q hm
   have pok:=pa.ok
   have rl:=pa.few hN
   have hi1:i<kn.length:=(List.getElem?_eq_some_iff.mp hq).1
   have z1:Y[ld]?=some (.lst (Ds.map dlU)):=by obtain⟨G,e⟩:=B.pre;rw[e];exact aJ hz
   obtain⟨G,hw⟩:=vL (S:=Y) (p:=q.1) hf (by rw[pok.gone,(eB _).length_eq];omega) (by rw[pok.len];exact hs) z1 ok (by omega)
   obtain⟨Y2,hY2⟩:∃Y2,Y2=Y++(O.lst ((c8 w q.1 Ds 0).map kP)::G):=⟨_,rfl⟩
   have B2:=B.grow (O.lst ((c8 w q.1 Ds 0).map kP)::G)
   rw[<-hY2]at B2 hw
   have gw:Y2[Y.length]?=some (.lst ((c8 w q.1 Ds 0).map kP)):=by rw[hY2,ga0];rfl
   have d1:Y.length≠dl:=by have:=(List.getElem?_eq_some_iff.mp B.hd).1;omega
   have d2:Y.length≠ll:=by have:=(List.getElem?_eq_some_iff.mp B.hl).1;omega
   obtain⟨kus',Y',a6,a7,hL,B'⟩:=rG (fun lus=>∃t,lus=kn.map plQ++t) (fun l u ⟨t,e⟩=>⟨t++[u],by rw[e,List.append_assoc]⟩) (ρ0:=fun v6 v7=>rhW n w st ld dl ll i v6 v7) (cb:=gP (fZ f) F) (row:=q.2) pa hN (fun _ _ _ _ _=>rfl)
    (fun{kn' lus kus Y a p} B nd hq' hk hl hR=>by
     obtain⟨t,et⟩:=hR
     have ea:=A8 (t:=t) hq
     rw[<-et]at ea
     have gl:=B.hl
     refine vR (cp:=cOp fIx (ah 3) (ah 5)) B nd hq' hk hl (by omega) (fun _=>rfl) (fun _=>rfl) ?_ (fun _=>rfl) (fun _=>rfl)
     rwa[rhW,gl,ea]) d1 d2 _ kn (kn.map plQ) kus Y2 r6 r7 (fun x hx=>hx) I hm (by rw[ln];exact Nat.le_refl _) ⟨[],(List.append_nil _).symm⟩ B2 gw
   obtain⟨t,et⟩:=j5 (row:=q.2) (c8 w q.1 Ds 0) kn
   have el:=tX (row:=q.2) (c8 w q.1 Ds 0) kn (kn.map plQ) t et
   have el2:luW (kn.map plQ) (c8 w q.1 Ds 0) kn q.2=(vc q.2 (c8 w q.1 Ds 0) kn).map plQ:=by rw[el,et,List.map_append];rfl
   rw[el2]at B'
   have I':=KnI.add pa (c8 w q.1 Ds 0) kn I fun x hx=>hx
   obtain⟨kus2,lus2,Y3,i',c6,c7,ih,B3⟩:=tZ hf hN hs ok hz g (i+1) _ kus' Y' a6 a7 I' (by rw[et,List.length_append];omega) (by omega) B'
   refine⟨kus2,lus2,Y3,i',c6,c7,(lX (S0:=Y) ?_ ?_).trans ih,B3⟩
   ·have ge:decide ((i:Int)<((kn.map plQ).length:Int))=true:=decide_eq_true (by omega)
    simp only[wtW,rhW,hl,vw,p9,yr,oR,oQ,GR,yv,sZ,oT,oS,yt,qb,oP,sX,sY,HJ,ge,List.getElem?_cons_zero,List.getElem?_cons_succ,Option.bind_some]
   ·unfold gO
    have ea:=A8 (t:=[]) hq
    rw[List.append_nil]at ea
    have ei:iTp (cCB (fZ f) (ae (ah 0) (ae (ah 2) (ae (cOp fIx (ah 3) (ah 5)) aB)))) (rhW n w st ld dl ll i r6 r7) Y=some ((c8 w q.1 Ds 0).map kP,fun Z=>Z[Y.length]?=some (.lst ((c8 w q.1 Ds 0).map kP)),Y2):=by
     have ec:cCB (fZ f) (ae (ah 0) (ae (ah 2) (ae (cOp fIx (ah 3) (ah 5)) aB))) (rhW n w st ld dl ll i r6 r7) Y=some (.ref Y.length,Y2):=by
      rwa[rhW,hl,ea,hw]
     unfold iTp
     rw[ec,Option.bind_some]
     simp only[gw]
    have e5:j7 (iTp (cCB (fZ f) (ae (ah 0) (ae (ah 2) (ae (cOp fIx (ah 3) (ah 5)) aB))))) (gTp [6,7]) (gP (fZ f) F) (rhW n w st ld dl ll i r6 r7) Y=some (.nx,rhW n w st ld dl ll i a6 a7,Y'):=by
     unfold j7
     rw[ei,Option.bind_some]
     exact hL
    rw[nK e5]
    rfl
theorem Bq{ck cv:CE}{ρ:Rho}{T Y1 Y2:Sto}{p:Pl}{v:U}(h1:ck ρ (T++[.dnt []])=some (plU p,Y1))(h2:cv ρ Y1=some (v,Y2))(h3:Y2[T.length]?=some (.dnt [])):i6 ck cv ρ T=some (.ref T.length,Y2.set T.length (.dnt [(nkP p,v)])):=by
 unfold i6
 rw[h1,Option.bind_some]
 dsimp only
 rw[h2,Option.bind_some]
 dsimp only[plU]
 rw[kf,Option.bind_some,h3]
def iL(f:Fn)(F:Nat):Fn:=fnU 8 3 (fK (fZ f) F)
theorem zJ(hf:lW n w f)(hN:Ds.length<=6)(hs:st0.length=n.toNat)(ok:∀d∈Ds,OkL n w 2 d)(hz:S[ld]?=some (.lst (Ds.map dlU))) :
  ∃kus lus Y,iL f 3000 [.tup [.int n,.int w],.tup (st0.map U.int),.ref ld] S=some (.ref (S.length+1),Y)/\BI S (S.length+1) S.length (cX w Ds st0) lus kus Y:=by
 unfold iL
 rw[sx]
 obtain⟨Y0,hY0⟩:∃Y0,Y0=S++[O.lst [plU ([],st0)],O.dnt [(nkP ([],st0),.ref (S.length+2))],O.lst []]:=⟨_,rfl⟩
 have B0:=ur (S:=S) (X:=Y0) (st0:=st0) (dl:=S.length+1) (ll:=S.length) (k:=S.length+2) ⟨_,hY0⟩ (by rw[hY0,ga];rfl) (by rw[hY0,ga0];rfl) (by rw[hY0,ga];rfl) (by omega) (by omega) (by omega) (by omega) (Nat.le_refl _) (by omega)
 obtain⟨kus,lus,Y,i,r6,r7,hL,B⟩:=tZ (Z:=S) (F:=3000) (st:=.tup (st0.map U.int)) hf hN hs ok hz 3000 0 (kn0 st0) _ Y0 none none wY (Nat.zero_le _) (by omega) B0
 refine⟨kus,lus,Y,?_,B⟩
 have e1:bN 3 (gN (ae (cI (ae (cI aB) (ae (ah 1) aB))) aB)) [some (.tup [.int n,.int w]),some (.tup (st0.map U.int)),some (.ref ld),none,none,none,none,none] S=some (.nx,[some (.tup [.int n,.int w]),some (.tup (st0.map U.int)),some (.ref ld),some (.ref S.length),none,none,none,none],S++[O.lst [plU ([],st0)]]):=rfl
 have e2:bN 4 (i6 (cOp fIx (ah 3) (cC (.int 0))) (gN aB)) [some (.tup [.int n,.int w]),some (.tup (st0.map U.int)),some (.ref ld),some (.ref S.length),none,none,none,none] (S++[O.lst [plU ([],st0)]])=some (.nx,[some (.tup [.int n,.int w]),some (.tup (st0.map U.int)),some (.ref ld),some (.ref S.length),some (.ref (S.length+1)),none,none,none],Y0):=by
  have ed:i6 (cOp fIx (ah 3) (cC (.int 0))) (gN aB) [some (.tup [.int n,.int w]),some (.tup (st0.map U.int)),some (.ref ld),some (.ref S.length),none,none,none,none] (S++[O.lst [plU ([],st0)]])=some (.ref (S.length+1),Y0):=by
   have g:(S++[O.lst [plU ([],st0)]]++[O.dnt []])[S.length]?=some (.lst [plU ([],st0)]):=aJ (by rw[ga0];rfl)
   have k1:cOp fIx (ah 3) (cC (.int 0)) [some (.tup [.int n,.int w]),some (.tup (st0.map U.int)),some (.ref ld),some (.ref S.length),none,none,none,none] (S++[O.lst [plU ([],st0)]]++[.dnt []])=some (plU ([],st0),S++[O.lst [plU ([],st0)]]++[.dnt []]):=by
    have v3:ah 3 [some (.tup [.int n,.int w]),some (.tup (st0.map U.int)),some (.ref ld),some (.ref S.length),none,none,none,none] (S++[O.lst [plU ([],st0)]]++[.dnt []])=some (.ref S.length,S++[O.lst [plU ([],st0)]]++[.dnt []]):=rfl
    rw[yr,v3,Option.bind_some,oR,x_c,Option.bind_some,oQ,Eg,g]
    rfl
   have k2:∀T:Sto,gN aB [some (.tup [.int n,.int w]),some (.tup (st0.map U.int)),some (.ref ld),some (.ref S.length),none,none,none,none] T=some (.ref T.length,T++[.lst []]):=fun _=>rfl
   have l1:(S++[O.lst [plU ([],st0)]]).length=S.length+1:=by rw[List.length_append];rfl
   have g2:(S++[O.lst [plU ([],st0)]]++[O.dnt []]++[O.lst []])[(S++[O.lst [plU ([],st0)]]).length]?=some (.dnt []):=aJ (by rw[ga0];rfl)
   have g3:(S++[O.lst [plU ([],st0)]]++[O.dnt []]++[O.lst []]).set (S++[O.lst [plU ([],st0)]]).length (.dnt [(nkP ([],st0),.ref (S++[O.lst [plU ([],st0)]]++[O.dnt []]).length)])=Y0:=by
    rw[List.append_assoc (S++[O.lst [plU ([],st0)]]),gs0,hY0,List.length_append,List.length_append,List.append_assoc]
    rfl
   rw[Bq (p:=([],st0)) k1 (k2 _) g2,g3,l1]
  rw[vx,ed]
  rfl
 have e3:bN 5 (cC (.int 0)) [some (.tup [.int n,.int w]),some (.tup (st0.map U.int)),some (.ref ld),some (.ref S.length),some (.ref (S.length+1)),none,none,none] Y0=some (.nx,rhW n w (.tup (st0.map U.int)) ld (S.length+1) S.length 0 none none,Y0):=rfl
 unfold fK
 rw[nK e1,nK e2,nK e3,nK hL]
 rfl
end
def sR:Fn:=fnU 2 2 (cN fN)
theorem uh(ns:List Int)(T:Sto){n w:Int}(w0:2<=w)(w1:w<=1000):∀(us:List U) (r:Option U) (ys:List Int) (G:Sto) {a c:Int},0<=a->0<=c->ys.length+us.length<=1000->
  ∃(zs:List Int) (a' c':Int) (G':Sto),j4 (fun _=>True) (gNm 0) (cCB fN (ae (ah 1) (ae (cOp fIx (gN (ae (cC (.int 2)) (ae (cOp fIx (ah 2) (cC (.int 1))) aB))) (cCB zZ (ae (cOp fEq (cCB fN (ae (ah 1) (ae (cC (.int 4)) aB))) (cC (.int 0))) aB))) aB))) (T.length+1+1) us [r,some (.ref 1),some (.tup [.int n,.int w])] (scr ns::pen a c::(T++.lst (ys.map U.int)::G))
   = some (scr ns::pen a' c'::(T++.lst (zs.map U.int)::G'))/\zs.length=ys.length+us.length/\0<=a'/\0<=c'
 |[],r,ys,G,a,c,ha,hc,hl=>⟨ys,a,c,G,uo trivial,rfl,ha,hc⟩
 |u::us,r,ys,G,a,c,ha,hc,hl=>by
  obtain⟨f,a1,c1,h1,p1,q1,ha1,hc1⟩:=bK ns (T++.lst (ys.map U.int)::(G++[.lst [.int 2,.int w]])) (m:=4) ha hc (by decide) (by decide +kernel)
  obtain⟨z,hz,z0,z1⟩:∃z:Int,atI [U.int 2,U.int w] (if (decide (f=0))=true then 1 else 0)=some (.int z)/\0<z/\z<=1000:=by
   by_cases e:f=0
   ·rw[if_pos (decide_eq_true e)];exact⟨w,rfl,by omega,w1⟩
   ·rw[decide_eq_false e];exact⟨2,rfl,by omega,by omega⟩
  obtain⟨g,a2,c2,h2,p2,q2,ha2,hc2⟩:=bK ns (T++.lst (ys.map U.int)::(G++[.lst [.int 2,.int w]])) (m:=z) ha1 hc1 z0 (l9 (by omega) (by omega))
  obtain⟨zs,a3,c3,G',h3,e3,ha3,hc3⟩:=uh ns T (n:=n) w0 w1 us (some u) (ys++[g]) (G++[.lst [.int 2,.int w]]) ha2 hc2 (by simp at hl ⊢;omega)
  refine⟨zs,a3,c3,G',?_,by simp at e3 ⊢;omega,ha3,hc3⟩
  refine(rg (ρ0:=[some u,some (.ref 1),some (.tup [.int n,.int w])]) (S0:=scr ns::pen a c::(T++.lst (ys.map U.int)::G)) (S1:=scr ns::pen a2 c2::(T++.lst (ys.map U.int)::(G++[.lst [.int 2,.int w]]))) (x:=.int g) (ys:=ys.map U.int) trivial rfl ?_ ?_ (by unfold LIM;simp at hl ⊢;omega)).trans ?_
  ·have gg:(T++O.lst (ys.map U.int)::(G++[O.lst [.int 2,.int w]]))[T.length+(G.length+1)]?=some (.lst [.int 2,.int w]):=by rw[ga,List.getElem?_cons_succ,ga0];rfl
   rwa[h1,h2,hz,gg,List.length_append]
  ·rwa[]
  ·rw[<-h3]
   rwa[List.map_append,List.map_cons,List.map_nil]
theorem Gr(ns:List Int)(T:Sto){a c n w:Int}(ha:0<=a)(hc:0<=c)(n0:1<=n)(n1:n<=6)(w0:2<=w)(w1:w<=1000) :
  ∃(zs:List Int) (a' c':Int) (G:Sto),sR [.ref 1,.tup [.int n,.int w]] (scr ns::pen a c::T)=some (.tup (zs.map U.int),scr ns::pen a' c'::(T++G))/\zs.length=n.toNat/\0<=a'/\0<=c':=by
 unfold sR
 rw[lV]
 obtain⟨zs,a',c',G',h,e,ha',hc'⟩:=uh ns T (n:=n) w0 w1 (du 0 n.toNat) none [] [] ha hc (by simp[du];omega)
 refine⟨zs,a',c',.lst (zs.map U.int)::G',?_,by rw[e];simp[du],ha',hc'⟩
 have hr:-(2^62)<=n/\n<2^62:=by omega
 simp only[List.map_nil]at h
 rwa[cN,sI,fg,rE,hr,h,if_true,and_self,List.replicate,Option.getD_some]
def oN:Fn:=fnU 8 2 (dI fN)
abbrev pd(d:e9):Dl 2:=DF.pl d
abbrev pd1(d:e9):Dl 1:=DF.pl d
abbrev td(a b:List e9):Dl 2:=DF.tr (a.map pd1) (b.map pd1)
theorem ok1{n w:Int}{ds:List e9}(h:∀d∈ds,d.ok n w)(hl:ds.length<=30):OkL n w 1 (ds.map pd1):=⟨by rw[List.length_map];exact hl,fun d hd=>by
 obtain⟨x,hx,rfl⟩:=List.mem_map.mp hd
 exact h x hx⟩
theorem ok2{n w:Int}{ds:List (Dl 2)}{b v:Int}(h:ds.length<=20)(k:∀d∈ds,DF.ok n w (OkL n w 1) d)(b0:0<=b)(b1:b<n)(v0:0<=v)(v1:v<w):OkL n w 2 (ds++[pd (.set 3 v),pd (.put b 3)]):=⟨by rw[List.length_append];simp;omega,fun d hd=>by
 rcases List.mem_append.mp hd with z|z
 ·exact k d z
 ·simp only[List.mem_cons,List.not_mem_nil,or_false]at z
  rcases z with rfl|rfl
  ·exact⟨by omega,by omega,v0,v1⟩
  ·exact⟨by omega,by omega,b0,b1⟩⟩
theorem C5(ns:List Int)(T:Sto){a c n w:Int}(ha:0<=a)(hc:0<=c)(n0:1<=n)(n1:n<=6)(w0:2<=w)(w1:w<=1000) :
  ∃(d:List (Dl 2)) (a' c':Int) (G:Sto),oN [.ref 1,.tup [.int n,.int w]] (scr ns::pen a c::T)=some (dlU d,scr ns::pen a' c'::(T++G))/\OkL n w 2 d/\0<=a'/\0<=c':=by
 unfold oN
 rw[sy]
 obtain⟨f,a1,c1,e1,p1,q1,ha1,hc1⟩:=bK ns T (m:=n) ha hc (by omega) (l9 (by omega) (by omega))
 obtain⟨g,a2,c2,e2,p2,q2,ha2,hc2⟩:=bK ns T (m:=n) ha1 hc1 (by omega) (l9 (by omega) (by omega))
 obtain⟨k,a3,c3,e3,p3,q3,ha3,hc3⟩:=bK ns T (m:=5) ha2 hc2 (by decide) (by decide +kernel)
 obtain⟨t,a4,c4,e4,p4,q4,ha4,hc4⟩:=bK ns (T++[.lst [.int f,.int g]]) (m:=2) ha3 hc3 (by decide) (by decide +kernel)
 obtain⟨v,a5,c5,e5,p5,q5,ha5,hc5⟩:=bK ns (T++[.lst [.int f,.int g]]) (m:=2) ha4 hc4 (by decide) (by decide +kernel)
 obtain⟨b,hb,b0,b1⟩:∃b:Int,atI [U.int f,U.int g] t=some (.int b)/\0<=b/\b<n:=by
  have:t=0\/t=1:=by omega
  rcases this with rfl|rfl
  ·exact⟨f,rfl,p1,q1⟩
  ·exact⟨g,rfl,p2,q2⟩
 have cat:∀(x y z u v:U) (S:Sto),fu (.tup [x,y,z]) (.tup [u,v]) S=some (.tup [x,y,z,u,v],S):=fun _ _ _ _ _ _=>rfl
 have cat2:∀(x y u v:U) (S:Sto),fu (.tup [x,y]) (.tup [u,v]) S=some (.tup [x,y,u,v],S):=fun _ _ _ _ _=>rfl
 have cat5:∀(x y z p q u v:U) (S:Sto),fu (.tup [x,y,z,p,q]) (.tup [u,v]) S=some (.tup [x,y,z,p,q,u,v],S):=fun _ _ _ _ _ _ _ _=>rfl
 by_cases k0:k=0
 ·refine⟨[pd (.look 0 f),pd (.set 1 1),pd (.leap 0 1),pd (.leap 2 1),pd .wait]++[pd (.set 3 v),pd (.put b 3)],a5,c5,[.lst [.int f,.int g]],?_,ok2 (by simp) (fun d hd=>?_) b0 b1 p5 (by omega),ha5,hc5⟩
  ·have t0:decide (k=0)=true:=decide_eq_true k0
   have t1:decide (k=1)=false:=decide_eq_false (by omega)
   rwa[dI,e1,e2,e3,t0,t1,e4,hb,e5,cat,cat2,cat5]
   rfl
  ·simp only[List.mem_cons,List.not_mem_nil,or_false]at hd
   rcases hd with rfl|rfl|rfl|rfl|rfl
   ·exact⟨by omega,by omega,p1,q1⟩
   ·exact⟨by omega,by omega,by omega,by omega⟩
   ·exact⟨by omega,by omega,by omega,by omega⟩
   ·exact⟨by omega,by omega,by omega,by omega⟩
   ·exact trivial
 have t0:decide (k=0)=false:=decide_eq_false k0
 by_cases k1:k=1
 ·refine⟨[pd (.look 0 f),td [.leap 0 1,.leap 2 1,.wait] [.look 0 g,.leap 0 1,.wait]]++[pd (.set 3 v),pd (.put b 3)],a5,c5,[.lst [.int f,.int g]],?_,ok2 (by simp) (fun d hd=>?_) b0 b1 p5 (by omega),ha5,hc5⟩
  ·have t1:decide (k=1)=true:=decide_eq_true k1
   rwa[dI,e1,e2,e3,t0,t1,e4,hb,e5,cat,cat2,cat5]
   rfl
  ·simp only[List.mem_cons,List.not_mem_nil,or_false]at hd
   rcases hd with rfl|rfl
   ·exact⟨by omega,by omega,p1,q1⟩
   ·refine⟨ok1 (fun d hd=>?_) (by simp),ok1 (fun d hd=>?_) (by simp)⟩
    ·simp only[List.mem_cons,List.not_mem_nil,or_false]at hd
     rcases hd with rfl|rfl|rfl
     ·exact⟨by omega,by omega,by omega,by omega⟩
     ·exact⟨by omega,by omega,by omega,by omega⟩
     ·exact trivial
    ·simp only[List.mem_cons,List.not_mem_nil,or_false]at hd
     rcases hd with rfl|rfl|rfl
     ·exact⟨by omega,by omega,p2,q2⟩
     ·exact⟨by omega,by omega,by omega,by omega⟩
     ·exact trivial
 ·refine⟨[pd (.look 0 f),pd (.leap 0 1),pd .wait]++[pd (.set 3 v),pd (.put b 3)],a5,c5,[.lst [.int f,.int g]],?_,ok2 (by simp) (fun d hd=>?_) b0 b1 p5 (by omega),ha5,hc5⟩
  ·have t1:decide (k=1)=false:=decide_eq_false k1
   rwa[dI,e1,e2,e3,t0,t1,e4,hb,e5,cat,cat2,cat5]
   rfl
  ·simp only[List.mem_cons,List.not_mem_nil,or_false]at hd
   rcases hd with rfl|rfl|rfl
   ·exact⟨by omega,by omega,p1,q1⟩
   ·exact⟨by omega,by omega,by omega,by omega⟩
   ·exact trivial
def nC:Fn:=fnU 6 3 (bJ fN (pY 3) oN)
theorem qq(ns:List Int)(T:Sto){n w m:Int}(n0:1<=n)(n1:n<=6)(w0:2<=w)(w1:w<=1000):∀(us:List U) (r:Option U) (ys:List (List (Dl 2))) (G:Sto) {a c:Int},0<=a->0<=c->ys.length+us.length<=900->(∀d∈ys,OkL n w 2 d)->
  ∃(zs:List (List (Dl 2))) (a' c':Int) (G':Sto) (r':Option U),dH (fun _=>True) (gNm 5) (bg fN (pY 3) oN) us [some (.ref 1),some (.tup [.int n,.int w]),some (.int 6),some (.ref (T.length+1+1)),some (.int m),r] (scr ns::pen a c::(T++.lst (ys.map dlU)::G))
   = some (.nx,[some (.ref 1),some (.tup [.int n,.int w]),some (.int 6),some (.ref (T.length+1+1)),some (.int m),r'],scr ns::pen a' c'::(T++.lst (zs.map dlU)::G'))/\zs.length=ys.length+us.length/\(∀d∈zs,OkL n w 2 d)/\0<=a'/\0<=c'
 |[],r,ys,G,a,c,ha,hc,hl,hy=>⟨ys,a,c,G,r,d6 trivial,rfl,hy,ha,hc⟩
 |u::us,r,ys,G,a,c,ha,hc,hl,hy=>by
  have step:∃(d:List (Dl 2)) (a1 c1:Int) (G1:Sto),bg fN (pY 3) oN [some (.ref 1),some (.tup [.int n,.int w]),some (.int 6),some (.ref (T.length+1+1)),some (.int m),some u] (scr ns::pen a c::(T++.lst (ys.map dlU)::G))
    = some (.nx,[some (.ref 1),some (.tup [.int n,.int w]),some (.int 6),some (.ref (T.length+1+1)),some (.int m),some u],scr ns::pen a1 c1::(T++.lst ((ys++[d]).map dlU)::(G++G1)))/\OkL n w 2 d/\0<=a1/\0<=c1:=by
   have hL:(ys.map dlU).length<LIM:=by unfold LIM;simp at hl ⊢;omega
   have em:∀d:List (Dl 2),(ys++[d]).map dlU=ys.map dlU++[dlU d]:=fun d=>by rw[List.map_append];rfl
   obtain⟨f,a1,c1,e1,p1,q1,ha1,hc1⟩:=bK ns (T++.lst (ys.map dlU)::G) (m:=4) ha hc (by decide) (by decide +kernel)
   have mk:∀{a c:Int},0<=a->0<=c->∃(d:List (Dl 2)) (a1 c1:Int) (G1:Sto),oN [.ref 1,.tup [.int n,.int w]] (scr ns::pen a c::(T++.lst (ys.map dlU)::G))=some (dlU d,scr ns::pen a1 c1::(T++.lst (ys.map dlU)::(G++G1)))/\OkL n w 2 d/\0<=a1/\0<=c1:=fun ha hc=>by
    obtain⟨d,a1,c1,G1,h,k⟩:=C5 ns (T++.lst (ys.map dlU)::G) ha hc n0 n1 w0 w1
    exact⟨d,a1,c1,G1,by rw[h,List.append_assoc,List.cons_append],k⟩
   by_cases m5:m<5
   ·have t5:decide (m<5)=true:=decide_eq_true m5
    by_cases f0:f=0
    ·have t0:decide (f=0)=true:=decide_eq_true f0
     obtain⟨d,a2,c2,G1,h1,kd,_,_,ha2,hc2,_⟩:=uk n0 n1 w0 w1 3 2 2 (by omega) (by omega) ns (T++.lst (ys.map dlU)::G) a1 c1 10 ha1 hc1 (by omega) (by omega)
     have c2':((2:Nat):Int)=2:=rfl
     simp only[c2',List.append_assoc,List.cons_append]at h1
     refine⟨d,a2,c2,G1,?_,kd,ha2,hc2⟩
     rw[em]
     rwa[bg,e1,t5,t0,h1,fk hL,dlU]
    ·have t0:decide (f=0)=false:=decide_eq_false f0
     obtain⟨d,a2,c2,G1,h1,kd,ha2,hc2⟩:=mk ha1 hc1
     refine⟨d,a2,c2,G1,?_,kd,ha2,hc2⟩
     rw[em]
     rwa[bg,e1,t5,t0,h1,fk hL]
   ·have t5:decide (m<5)=false:=decide_eq_false m5
    obtain⟨d,a2,c2,G1,h1,kd,ha2,hc2⟩:=mk ha hc
    refine⟨d,a2,c2,G1,?_,kd,ha2,hc2⟩
    rw[em]
    rwa[bg,t5,h1,fk hL]
  obtain⟨d,a1,c1,G1,h1,kd,ha1,hc1⟩:=step
  obtain⟨zs,a2,c2,G2,r',h2,e2,b2,ha2,hc2⟩:=qq ns T n0 n1 w0 w1 us (some u) (ys++[d]) (G++G1) (m:=m) ha1 hc1 (by simp at hl ⊢;omega) (fun x hx=>by
   rcases List.mem_append.mp hx with z|z
   ·exact hy x z
   ·rw[List.mem_singleton.mp z];exact kd)
  exact⟨zs,a2,c2,G2,r',(bx trivial rfl h1).trans h2,by simp at e2 ⊢;omega,b2,ha2,hc2⟩
theorem BX(ns:List Int)(T:Sto){a c n w:Int}(ha:0<=a)(hc:0<=c)(n0:1<=n)(n1:n<=6)(w0:2<=w)(w1:w<=1000) :
  ∃(Ds:List (List (Dl 2))) (a' c':Int) (G:Sto),nC [.ref 1,.tup [.int n,.int w],.int 6] (scr ns::pen a c::T)=some (.ref (T.length+1+1),scr ns::pen a' c'::(T++.lst (Ds.map dlU)::G))/\Ds.length<=6/\(∀d∈Ds,OkL n w 2 d)/\0<=a'/\0<=c':=by
 unfold nC
 rw[iT]
 obtain⟨f,a1,c1,e1,p1,q1,ha1,hc1⟩:=bK ns (T++[.lst []]) (m:=6) ha hc (by decide) (by decide +kernel)
 obtain⟨zs,a2,c2,G2,r',h2,e2,b2,ha2,hc2⟩:=qq ns T n0 n1 w0 w1 (du 0 (1+f).toNat) none [] [] (m:=1+f) ha1 hc1 (by simp[du];omega) (by simp)
 refine⟨zs,a2,c2,G2,?_,by rw[e2];simp[du];omega,b2,ha2,hc2⟩
 have hr:-(2^62)<=1+f/\1+f<2^62:=by omega
 simp only[List.map_nil]at h2
 rwa[bJ,j7,fg,e1,hr,h2,if_true,and_self]
section
variable{kn:Kn}{kus:List (NK×U)}{n w:Int}{Z Y S:Sto}{dl ll ld F:Nat}{f:Fn}{st:U}{Ds:List (List (Dl 2))}{st0:List Int}{b:Nat}{no:List Nat}
def jF(N:Nat)(q:Pl×List Int):Bool:=decide ((q.1.1.length:Int)=(N:Int))
theorem RA.keys(h:RA b no Y kn kus):(kus.map fun q=>nU q.1)=kn.map plQ:=by
 induction h with
 |nil=>rfl
 |@cons q k ks us r t ih=>
  rw[List.map_cons,List.map_cons,ih,r.1]
  rfl
theorem HR{l:Nat}{u:U}{p:Pl}{ep:Nat}(h:Y[l]?=some (.fdn ep kus))(v:cS kus (nkP p)=some u):vk (.ref l) (plU p) Y=some (u,Y):=by
 unfold vk plU
 dsimp only
 rw[kf,Option.bind_some]
 unfold Dw
 rw[h]
 dsimp only
 rw[Option.bind_some,v]
 rfl
def Ha(kus:List (NK×U))(N:Nat)(kn:Kn):Out:=match kn.find? (jF N)with
 |some q=>.rt (.tup [.str "all",(cS kus (nkP q.1)).getD .non])
 |none=>.nx
def GV(N:Nat):Kn->Option U->Option U
 |[],r=>r
 |q::kn,_=>if jF N q=true then some (plU q.1)else GV N kn (some (plU q.1))
theorem qZ{ep:Nat}{x0 x1:Option U}(hz:Y[ld]?=some (.lst (Ds.map dlU)))(hf:Y[dl]?=some (.fdn ep kus)):∀(kn:Kn) (r4:Option U),(∀q∈kn,∃u,cS kus (nkP q.1)=some u)->
  dH (fun S'=>S'[dl]?=some (.fdn ep kus)) (gNm 4) (e8 (oM f 3000)) (kn.map plQ) [x0,x1,some (.ref ld),some (.ref dl),r4] Y=some (Ha kus Ds.length kn,[x0,x1,some (.ref ld),some (.ref dl),GV Ds.length kn r4],Y)
 |[],r4,_=>d6 hf
 |q::kn,r4,hv=>by
  have ih:=qZ (x0:=x0) (x1:=x1) hz hf kn (some (plU q.1)) fun x hx=>hv x (List.mem_cons_of_mem _ hx)
  obtain⟨u,v⟩:=hv q List.mem_cons_self
  have hx:=HR hf v
  unfold Ha GV
  rw[List.find?_cons]
  have ln:((q.1.1.map U.int).length:Int)=(q.1.1.length:Int):=by rw[List.length_map]
  have ld':((Ds.map dlU).length:Int)=(Ds.length:Int):=by rw[List.length_map]
  rw[List.map_cons]
  cases hq:jF Ds.length q with
  |true=>
   have t:decide ((q.1.1.length:Int)=(Ds.length:Int))=true:=hq
   refine(rX hf rfl ?_)
   rw[v]
   simp only[plU]at hx
   rwa[e8,plQ,plU,hz,ln,ld',t,hx,Option.getD_some,if_true]
  |false=>
   have t:decide ((q.1.1.length:Int)=(Ds.length:Int))=false:=hq
   refine(bx hf rfl ?_).trans ih
   rwa[e8,plQ,plU,hz,ln,ld',t]
def gz(f:Fn):Fn:=fnU 5 3 (gu (oM f 3000))
theorem tJ{o1 o2:O}(h:Y[dl]?=some o2):(Y.set dl o1).set dl o2=Y:=by
 rw[List.set_set]
 refine List.ext_getElem? fun i=>?_
 by_cases e:dl=i
 ·subst e
  rw[List.getElem?_set_self (List.getElem?_eq_some_iff.mp h).1,h]
 ·rw[List.getElem?_set_ne e]
def GL(S Y:Sto)(N:Nat)(kn:Kn)(v:U):Prop:=∃l,S.length<=l/\match kn.find? (jF N)with
 |some q=>v=.tup [.str "all",.ref l]/\Y[l]?=some (.lst (q.2.map U.int))
 |none=>v=.tup [.str "never",.ref l]/\∃us,us.length<=1957/\Y[l]?=some (.lst us)
theorem sM(hf:lW n w f)(hN:Ds.length<=6)(hs:st0.length=n.toNat)(ok:∀d∈Ds,OkL n w 2 d)(hz:S[ld]?=some (.lst (Ds.map dlU))) :
  ∃v G,gz f [.tup [.int n,.int w],.tup (st0.map U.int),.ref ld] S=some (v,S++G)/\GL S (S++G) Ds.length (cX w Ds st0) v:=by
 unfold gz
 rw[u0]
 obtain⟨kus,lus,Y,e1,B⟩:=Cb hf hN hs ok hz
 obtain⟨G,eG⟩:=B.pre
 have I:=o6 (w:=w) (Ds:=Ds) (st0:=st0)
 have few:=I.few hN
 have hl:S.length<Y.length:=(List.getElem?_eq_some_iff.mp B.hd).1
 have ldS:ld<S.length:=(List.getElem?_eq_some_iff.mp hz).1
 have s1:bN 3 (cCB (oM f 3000) (ae (ah 0) (ae (ah 1) (ae (ah 2) aB)))) [some (.tup [.int n,.int w]),some (.tup (st0.map U.int)),some (.ref ld),none,none] S=some (.nx,[some (.tup [.int n,.int w]),some (.tup (st0.map U.int)),some (.ref ld),some (.ref S.length),none],Y):=by
  rwa[e1]
 have lp:ya (ah 3) (gNm 4) (e8 (oM f 3000)) [some (.tup [.int n,.int w]),some (.tup (st0.map U.int)),some (.ref ld),some (.ref S.length),none] Y=some (Ha kus Ds.length (cX w Ds st0),[some (.tup [.int n,.int w]),some (.tup (st0.map U.int)),some (.ref ld),some (.ref S.length),GV Ds.length (cX w Ds st0) none],Y):=by
  have v3:ah 3 [some (.tup [.int n,.int w]),some (.tup (st0.map U.int)),some (.ref ld),some (.ref S.length),none] Y=some (.ref S.length,Y):=rfl
  unfold ya
  rw[v3,Option.bind_some]
  dsimp only
  rw[B.hd]
  dsimp only
  rw[B.ra.keys]
  refine vN fun ep=>?_
  rw[qZ (by rw[List.getElem?_set_ne (by omega),eG];exact aJ hz) (List.getElem?_set_self hl) _ _ fun q hq=>by
    obtain⟨l,v,_⟩:=B.ra.val I.nd hq
    exact⟨_,v⟩,Option.bind_some]
  dsimp only
  rw[List.getElem?_set_self hl]
  dsimp only
  rw[tJ B.hd]
 unfold gu
 rw[nK s1]
 unfold Ha at lp
 cases hq:(cX w Ds st0).find? (jF Ds.length)with
 |some q=>
  rw[hq]at lp
  obtain⟨l,v,l1,l2,l3⟩:=B.ra.val I.nd (List.mem_of_find?_eq_some hq)
  dsimp only at lp
  rw[v]at lp
  refine⟨.tup [.str "all",.ref l],G,?_,l,l1,?_⟩
  ·rw[Bc,lp,eG];rfl
  ·rw[hq,<-eG];exact⟨rfl,l3⟩
 |none=>
  rw[hq]at lp
  refine⟨.tup [.str "never",.ref Y.length],G++[.lst ((cX w Ds st0).map plQ)],?_,Y.length,by omega,?_⟩
  ·have el:∀ρ:Rho,ρ[3]?=some (some (.ref S.length))->fh (cI (ae (cC (.str "never")) (ae (cCB oF (ae (ah 3) aB)) aB))) ρ Y=some (.rt (.tup [.str "never",.ref Y.length]),ρ,Y++[.lst ((cX w Ds st0).map plQ)]):=fun ρ h=>by
    have h3:oF [.ref S.length] Y=some (.ref Y.length,Y++[.lst ((cX w Ds st0).map plQ)]):=by
     simp only[oF,B.hd,B.ra.keys]
    rwa[h,h3]
   rw[nK lp,el _ rfl,<-List.append_assoc,<-eG]
   rfl
  ·rw[hq]
   refine⟨rfl,_,?_,by rw[<-List.append_assoc,<-eG,ga0];rfl⟩
   rw[List.length_map];exact few
theorem pN{ep k:Nat}{x1:U}(hk:k<=1957)(he:x1=.ref ld):∀(kn:Kn) (r:Option U) (ys:List U),(∀ys,(Y++[O.lst ys])[dl]?=some (.fdn ep kus))->Y[ld]?=some (.lst (Ds.map dlU))->ys.length+kn.length<=k->
  cT (fun S'=>S'[dl]?=some (.fdn ep kus)) (gNm 0) (aG (cOp fEq (cCB gh (ae (cOp fIx (ah 0) (cC (.int 0))) aB)) (cCB gh (ae (ah 1) aB)))) (ah 0) Y.length (kn.map plQ) [r,some x1] (Y++[.lst ys])=some (Y++[.lst (ys++(kn.filter (jF Ds.length)).map plQ)])
 |[],r,ys,hf,hz,_=>by rw[List.filter_nil,List.map_nil,List.append_nil];exact oH (hf _)
 |q::kn,r,ys,hf,hz,hl=>by
  have ln:((q.1.1.map U.int).length:Int)=(q.1.1.length:Int):=by rw[List.length_map]
  have ld':((Ds.map dlU).length:Int)=(Ds.length:Int):=by rw[List.length_map]
  have hz':(Y++[O.lst ys])[ld]?=some (.lst (Ds.map dlU)):=aJ hz
  rw[List.length_cons]at hl
  rw[List.map_cons,List.filter_cons]
  cases hq:jF Ds.length q with
  |true=>
   have t:decide ((q.1.1.length:Int)=(Ds.length:Int))=true:=hq
   have ih:=pN hk he kn (some (plQ q)) (ys++[plQ q]) hf hz (by rw[List.length_append];simp;omega)
   refine(oG (ρ0:=[some (plQ q),some x1]) (S0:=Y++[.lst ys]) (S1:=Y++[.lst ys]) (S2:=Y++[.lst ys]) (x:=plQ q) (ys:=ys) (hf _) rfl ?_ rfl (by rw[ga0];rfl) (by unfold LIM;omega)).trans ?_
   ·subst he
    rwa[plQ,plU,hz',ln,ld',t]
   ·rw[gs0,if_pos rfl,List.map_cons]
    rw[List.append_assoc]at ih
    exact ih
  |false=>
   have t:decide ((q.1.1.length:Int)=(Ds.length:Int))=false:=hq
   have ih:=pN hk he kn (some (plQ q)) ys hf hz (by omega)
   rw[if_neg Bool.false_ne_true]
   refine Eq.trans (rj (ρ0:=[some (plQ q),some x1]) (S0:=Y++[.lst ys]) (S1:=Y++[.lst ys]) (hf _) rfl ?_) ih
   subst he
   rwa[plQ,plU,hz',ln,ld',t]
theorem GA{ce:CE}{ρ:Rho}{lus:List U}(hN:Ds.length<=6)(hv:ρ[5]?=some (some (.ref ld)))(hz:Y[ld]?=some (.lst (Ds.map dlU)))(hc:ce ρ S=some (.ref dl,Y))(B:BI S dl ll (cX w Ds st0) lus kus Y)(ne:ld≠dl) :
  cOp (uY true) (iR ce (gNm 0) (aG (cOp fEq (cCB gh (ae (cOp fIx (ah 0) (cC (.int 0))) aB)) (cCB gh (ae (ah 1) aB)))) (ah 0) 1 [5]) (gN aB) ρ S=some (.bl ((cX w Ds st0).find? (jF Ds.length)).isSome,Y++[.lst (((cX w Ds st0).filter (jF Ds.length)).map plQ),.lst []]):=by
 have I:=o6 (w:=w) (Ds:=Ds) (st0:=st0)
 have few:=I.few hN
 have hl:dl<Y.length:=(List.getElem?_eq_some_iff.mp B.hd).1
 have e1:iR ce (gNm 0) (aG (cOp fEq (cCB gh (ae (cOp fIx (ah 0) (cC (.int 0))) aB)) (cCB gh (ae (ah 1) aB)))) (ah 0) 1 [5] ρ S=some (.ref Y.length,Y++[.lst (((cX w Ds st0).filter (jF Ds.length)).map plQ)]):=by
  unfold iR x8
  rw[hc,Option.bind_some]
  dsimp only
  rw[B.hd]
  dsimp only
  refine vN fun ep=>?_
  have hr:rE 1 [5] ρ=[none,some (.ref ld)]:=by
   simp only[rE,List.replicate,List.map_cons,List.map_nil,hv,Option.getD_some,List.cons_append,List.nil_append]
  have:=pN (Y:=Y.set dl (.fdn ep kus)) (kus:=kus) (ep:=ep) (dl:=dl) (Ds:=Ds) (ld:=ld) few rfl (cX w Ds st0) none [] (fun ys=>aJ (List.getElem?_set_self hl)) (by rw[List.getElem?_set_ne (Ne.symm ne)];exact hz) (by simp)
  rw[List.length_set,List.nil_append]at this
  rw[B.ra.keys,hr,this,Option.bind_some]
  rw[aJ (List.getElem?_set_self hl)]
  dsimp only
  rw[List.set_append_left _ _ (by rw[List.length_set];exact hl),tJ B.hd]
 have e2:gN aB ρ (Y++[.lst (((cX w Ds st0).filter (jF Ds.length)).map plQ)])=some (.ref (Y.length+1),Y++[.lst (((cX w Ds st0).filter (jF Ds.length)).map plQ),.lst []]):=by
  rwa[List.length_append]
 have g1:(Y++[.lst (((cX w Ds st0).filter (jF Ds.length)).map plQ),O.lst []])[Y.length]?=some (.lst (((cX w Ds st0).filter (jF Ds.length)).map plQ)):=by rw[ga0];rfl
 have g2:(Y++[.lst (((cX w Ds st0).filter (jF Ds.length)).map plQ),O.lst []])[Y.length+1]?=some (.lst []):=by rw[ga];rfl
 rw[yr,e1,Option.bind_some,oR,e2,Option.bind_some,oQ]
 cases hq:(cX w Ds st0).find? (jF Ds.length)with
 |none=>
  have h0:(cX w Ds st0).filter (jF Ds.length)=[]:=List.filter_eq_nil_iff.mpr fun x hx=>by simpa using List.find?_eq_none.mp hq x hx
  rw[h0]at g1 g2 ⊢
  exact(kJ.lst (k:=0) g1 g2 .nil).ne (by omega)
 |some q=>
  have h0:q∈(cX w Ds st0).filter (jF Ds.length):=List.mem_filter.mpr ⟨List.mem_of_find?_eq_some hq,List.find?_some hq⟩
  exact xE true (.inr ⟨_,_,_,_,rfl,rfl,g1,g2,(by rw[List.length_map];intro z;rw[List.eq_nil_of_length_eq_zero z]at h0;cases h0),rfl⟩)
def kL:Fn:=fnU 1 1 d9
theorem oB{lo:Nat}{us:List U}:∀(os:List Int) (r:Option U) (k:Nat),S[lo]?=some (.lst us)->k+os.length<=900->
  j4 (fun S=>S[lo]?=some (.lst us)) (gNm 0) (rq (u9 .int (ah 0)) (sH (u9 .bool (ah 0)))) S.length (os.map U.int) [r] (S++[.lst (List.replicate k (.bl true))])=some (S++[.lst (List.replicate (k+os.length) (.bl true))])
 |[],r,k,h,_=>uo (aJ h)
 |o::os,r,k,h,hk=>by
  rw[List.length_cons]at hk
  have ih:=oB os (some (.int o)) (k+1) h (by omega)
  refine(rg (ρ0:=[some (.int o)]) (S0:=S++[.lst (List.replicate k (.bl true))]) (S1:=S++[.lst (List.replicate k (.bl true))]) (x:=.bl true) (ys:=List.replicate k (.bl true)) (aJ h) rfl rfl (by rw[ga0];rfl) (by unfold LIM;rw[List.length_replicate];omega)).trans ?_
  rw[gs0,List.length_cons,show k+(os.length+1)=k+1+os.length by omega,<-ih,List.replicate_succ']
  rfl
theorem zR{lo:Nat}{os:List Int}(h:S[lo]?=some (.lst (os.map U.int)))(hl:os.length<=900):kL [.ref lo] S=some (.bl true,S++[.lst (List.replicate os.length (.bl true))]):=by
 unfold kL
 rw[pM]
 have e:=oB (us:=os.map U.int) os none 0 h (by omega)
 rw[Nat.zero_add]at e
 have hi:iTp (ah 0) [some (.ref lo)] S=some (os.map U.int,fun S=>S[lo]?=some (.lst (os.map U.int)),S):=by
  have v0:ah 0 [some (.ref lo)] S=some (.ref lo,S):=rfl
  unfold iTp
  rw[v0,Option.bind_some]
  simp only[h]
 have hc:sI (iTp (ah 0)) (gNm 0) (rq (u9 .int (ah 0)) (sH (u9 .bool (ah 0)))) 1 [] [some (.ref lo)] S=some (.ref S.length,S++[.lst (List.replicate os.length (.bl true))]):=by
  unfold sI
  rw[hi,Option.bind_some]
  have:(rE 1 [] [some (.ref lo)])=[none]:=rfl
  have e':j4 (fun S=>S[lo]?=some (.lst (os.map U.int))) (gNm 0) (rq (u9 .int (ah 0)) (sH (u9 .bool (ah 0)))) S.length (os.map U.int) [none] (S++[.lst []])=_:=e
  dsimp only
  rw[this,e',Option.bind_some]
 have hin:fIn true (.bl false) (.ref S.length) (S++[.lst (List.replicate os.length (.bl true))])=some (.bl true,S++[.lst (List.replicate os.length (.bl true))]):=by
  have g:(S++[.lst (List.replicate os.length (.bl true))])[S.length]?=some (.lst (List.replicate os.length (.bl true))):=by rw[ga0];rfl
  have a:(List.replicate os.length (U.bl true)).all gK=true:=List.all_eq_true.mpr fun x hx=>by rw[(List.mem_replicate.mp hx).2];rfl
  have b:inU (.bl false) (List.replicate os.length (U.bl true))=false:=by
   unfold inU
   refine List.any_eq_false.mpr fun x hx=>?_
   rw[(List.mem_replicate.mp hx).2]
   exact Bool.false_ne_true
  unfold fIn
  dsimp only
  rw[g]
  dsimp only
  rw[if_pos ⟨rfl,a⟩,b]
  rfl
 unfold d9
 rw[D5,yr,x_c,Option.bind_some,oR,hc,Option.bind_some,oQ,hin]
 rfl
def follow(w:Int)(Ds:List (List (Dl 2))):List Int->List Int->Option (List Int)
 |[],st=>some st
 |o::os,st=>(goD w st (Ds.getD o.toNat [])).bind (follow w Ds os)
theorem oE:∀(os ps:List Int) (st:List Int),follow w Ds (os++ps) st=(follow w Ds os st).bind (follow w Ds ps)
 |[],ps,st=>rfl
 |o::os,ps,st=>by
  rw[List.cons_append]
  unfold follow
  cases goD w st (Ds.getD o.toNat [])with
  |none=>rfl
  |some s=>rw[Option.bind_some,Option.bind_some];exact oE os ps s
theorem p6.follow{r:List Int}{p:Pl}(h:p6 w Ds st0 r p):OQ.follow w Ds r st0=some p.2:=by
 induction h with
 |nil=>rfl
 |@snoc r p p' a _ hw ih=>
  obtain⟨i,h1,h2,h3,st,h4,h5⟩:=gZ hw
  rw[oE,ih,Option.bind_some]
  unfold OQ.follow
  rw[h1,Nat.zero_add,Int.toNat_natCast,h4,h5]
  rfl
def kM(f:Fn):Fn:=fnU 6 4 (cu f)
theorem oJ{lo:Nat}{us:List U}(hf:lW n w f)(ok:∀d∈Ds,OkL n w 2 d):∀(os:List Int) (st:List Int) (S:Sto) (r4 r5:Option U),S[ld]?=some (.lst (Ds.map dlU))->S[lo]?=some (.lst us)->(∀o∈os,0<=o/\o<(Ds.length:Int))->st.length=n.toNat->(follow w Ds os st).isSome=true->
  ∃X r2 r4' r5',dH (fun S=>S[lo]?=some (.lst us)) (gNm 4) (cL f) (os.map U.int) [some (.tup [.int n,.int w]),some (.ref ld),some (.tup (st.map U.int)),some (.ref lo),r4,r5] S=some (.nx,[some (.tup [.int n,.int w]),some (.ref ld),r2,some (.ref lo),r4',r5'],S++X)
 |[],st,S,r4,r5,h1,h2,_,_,_=>⟨[],_,_,_,by rw[List.append_nil];exact d6 h2⟩
 |o::os,st,S,r4,r5,h1,h2,ho,hs,hg=>by
  obtain⟨o0,o1⟩:=ho o List.mem_cons_self
  obtain⟨G,l,e1⟩:=hf (Ds.getD o.toNat []) st S (JG ok o0 o1) hs
  have ea:=JH o0 o1
  unfold follow at hg
  cases hgo:goD w st (Ds.getD o.toNat [])with
  |none=>rw[hgo]at hg;cases hg
  |some st'=>
   rw[hgo,Option.bind_some]at hg
   have hl:=xq hgo
   unfold goD at hgo
   cases er:nL w st 2 (Ds.getD o.toNat []) m0 with
   |mk t m=>
    rw[er]at e1 hgo
    cases t with
    |false=>cases hgo
    |true=>
     dsimp only at hgo
     have hb:beh st m.ps 0=st':=by injection hgo
     dsimp only[told]at e1
     rw[hb]at e1
     obtain⟨X,r2,r4',r5',ih⟩:=oJ hf ok os st' (S++G) (some (.int o)) (some (.tup [.str "done",.tup (st'.map U.int),.tup (m.hs.map U.int)])) (aJ h1) (aJ h2) (fun x hx=>ho x (List.mem_cons_of_mem _ hx)) (by omega) hg
     refine⟨G++X,r2,r4',r5',?_⟩
     rw[<-List.append_assoc,<-ih,List.map_cons]
     refine bx h2 rfl ?_
     have nd:decide (("done":Str)="done")=true:=EW
     rwa[cL,h1,ea,e1,nd]
theorem Am{lo:Nat}{os:List Int}{st:List Int}(hf:lW n w f)(ok:∀d∈Ds,OkL n w 2 d)(h1:S[ld]?=some (.lst (Ds.map dlU)))(h2:S[lo]?=some (.lst (os.map U.int)))(ho:∀o∈os,0<=o/\o<(Ds.length:Int))(hs:st.length=n.toNat)(hg:(follow w Ds os st).isSome=true) :
  ∃X,kM f [.tup [.int n,.int w],.ref ld,.tup (st.map U.int),.ref lo] S=some (.bl true,S++X):=by
 unfold kM
 rw[kx]
 obtain⟨X,r2,r4,r5,e⟩:=oJ (us:=os.map U.int) (lo:=lo) hf ok os st S none none h1 h2 ho hs hg
 refine⟨X,?_⟩
 have hi:iTp (ah 3) [some (.tup [.int n,.int w]),some (.ref ld),some (.tup (st.map U.int)),some (.ref lo),none,none] S=some (os.map U.int,fun S=>S[lo]?=some (.lst (os.map U.int)),S):=by
  have v0:ah 3 [some (.tup [.int n,.int w]),some (.ref ld),some (.tup (st.map U.int)),some (.ref lo),none,none] S=some (.ref lo,S):=rfl
  unfold iTp
  rw[v0,Option.bind_some]
  simp only[h2]
 have hc:j7 (iTp (ah 3)) (gNm 4) (cL f) [some (.tup [.int n,.int w]),some (.ref ld),some (.tup (st.map U.int)),some (.ref lo),none,none] S=some (.nx,[some (.tup [.int n,.int w]),some (.ref ld),r2,some (.ref lo),r4,r5],S++X):=by
  unfold j7
  rw[hi,Option.bind_some]
  exact e
 unfold cu
 rw[nK hc]
 rfl
theorem yX{r:List Int}{N:Nat}(nd:r.Nodup)(bd:∀b∈r,0<=b/\b<(N:Int))(hl:r.length=N):(cV r).map U.int=du 0 N:=by
 have e:cV r=(List.range N).map fun i:Nat=>(i:Int):=by
  refine(jI ?_ ?_).symm
  ·refine(List.perm_ext_iff_of_nodup ?_ nd).mpr fun a=>⟨fun h=>?_,fun h=>?_⟩
   ·exact List.pairwise_map.mpr (List.Pairwise.imp (fun h e=>h (Int.ofNat.inj e)) List.nodup_range)
   ·obtain⟨i,hi,rfl⟩:=List.mem_map.mp h
    refine Decidable.byContradiction fun z=>?_
    have:=List.Nodup.length_le_of_subset (List.nodup_cons.mpr ⟨z,nd⟩) (l₂:=(List.range N).map fun i:Nat=>(i:Int)) fun b hb=>by
     rcases List.mem_cons.mp hb with rfl|hb
     ·exact h
     ·obtain⟨h1,h2⟩:=bd b hb
      exact List.mem_map.mpr ⟨b.toNat,List.mem_range.mpr (by omega),by omega⟩
    rw[List.length_cons,List.length_map,List.length_range]at this
    omega
   ·obtain⟨h1,h2⟩:=bd a h
    exact List.mem_map.mpr ⟨a.toNat,List.mem_range.mpr (by omega),by omega⟩
  ·exact List.pairwise_map.mpr (List.Pairwise.imp (fun h=>by omega) List.pairwise_lt_range)
 rw[e,List.map_map]
 unfold du
 refine List.map_congr_left fun i _=>?_
 simp
end
end OQ
namespace OL
open PySem PySem.Spec PyProof.Rows L2 OG OP OQ
abbrev fL(cD:Cl)(f:Fn->Fn->Fn->Fn->Fn->Fn->Fn->CS):CS:=f jy sR nC (iL (dj 3) 3000) (gz (jA cD)) kL (kM (dj 3))
section
variable{cD:Cl}{n w:Int}{Ds:List (List (Dl 2))}{st:List Int}{ld lh:Nat}
theorem Lb(hns:cD.ns.length=4)(n0:1<=n)(n1:n<=6)(w0:2<=w):lW n w (jA cD):=fun d st S od hs=>by
 obtain⟨_,G,l,h,_⟩:=An (cD:=cD) (j:=2) (by omega) S hns d od hs n0 n1 w0
 exact⟨G,l,h⟩
theorem Kr(n0:1<=n)(n1:n<=6)(w0:2<=w):lW n w (dj 3):=fun d st S od hs=>by
 obtain⟨G,l,h,_⟩:=wV (J:=3) (j:=2) (by omega) S d od hs (by omega) n1 w0
 exact⟨G,l,h⟩
theorem IK:decide (("all":Str)="all")=true:=by decide +kernel
theorem IJ:decide (("never":Str)="never")=true:=by decide +kernel
theorem JM:atI [U.str "never",U.str "all"] 1=some (.str "all"):=rfl
theorem JL:atI [U.str "never",U.str "all"] 0=some (.str "never"):=rfl
theorem va(hns:cD.ns.length=4)(n0:1<=n)(n1:n<=6)(w0:2<=w)(hN:Ds.length<=6)(ok:∀d∈Ds,OkL n w 2 d)(hs:st.length=n.toNat){S:Sto}{x3 r8 r9:Option U}(h1:S[ld]?=some (.lst (Ds.map dlU)))(h2:S[lh]?=some (.lst (Ds.map dlU))) :
  ∃X r9',fL cD nz [none,some (.ref 1),some (.tup [.int n,.int w]),x3,some (.tup (st.map U.int)),some (.ref ld),some (.bl ((cX w Ds st).find? (jF Ds.length)).isSome),some (.ref lh),r8,r9] S
   = some (.nx,[none,some (.ref 1),some (.tup [.int n,.int w]),x3,some (.tup (st.map U.int)),some (.ref ld),some (.bl ((cX w Ds st).find? (jF Ds.length)).isSome),some (.ref lh),r8,r9'],S++X):=by
 obtain⟨v,G,e1,l,ll,D⟩:=sM (Lb hns n0 n1 w0) hN hs ok h2
 obtain⟨S1,hS1⟩:∃S1,S1=S++G:=⟨_,rfl⟩
 have sl:S.length<=S1.length:=by rw[hS1,List.length_append];omega
 have old:∀i,i<S.length->S1[i]?=S[i]?:=fun i hi=>by rw[hS1,List.getElem?_append_left hi]
 have k1:S1[ld]?=some (.lst (Ds.map dlU)):=by rw[hS1];exact aJ h1
 have k2:S1[lh]?=some (.lst (Ds.map dlU)):=by rw[hS1];exact aJ h2
 rw[<-hS1]at e1 D
 clear hS1
 have en:uY true (.ref lh) (.ref ld) S1=some (.bl false,S1):=by
  refine(kJ.lst (k:=9) k2 k1 (.all fun x hx=>?_)).ne (by omega)
  obtain⟨d,_,rfl⟩:=List.mem_map.mp hx
  exact(Lay.dls d).mono (by omega)
 have fin:∀{Y:Sto} {us:List U} {o:O},(∃Z,Y=S1++Z)->S1[l]?=some (.lst us)->∃X,Y.set l o=S++X:=fun{Y us o} ⟨Z,e⟩ hl=>by
  refine xt (ls:=[]) (by rw[List.length_set,e,List.length_append];omega) fun i hi=>?_
  rw[List.getElem?_set_ne (by omega),e,List.getElem?_append_left (by omega),old i hi]
 have ty:∀{us:List U},S1[l]?=some (.lst us)->tyU (.ref l) S1=some .list:=fun{us} h=>by simp only[tyU,h]
 have l2:decide (((0+1+1:Nat):Int)=2)=true:=rfl
 have sL:Az .list .list=true:=rfl
 have sT:Az .tuple .tuple=true:=rfl
 have sS:Az .str .str=true:=rfl
 have tT:∀{us:List U} {Y:Sto},tyU (.tup us) Y=some .tuple:=rfl
 have tS:∀{x:Str} {Y:Sto},tyU (.str x) Y=some .str:=rfl
 show ∃X r9',nz jy sR nC (iL (dj 3) 3000) (gz (jA cD)) kL (kM (dj 3)) _ _=_
 unfold nz
 cases hq:(cX w Ds st).find? (jF Ds.length)with
 |none=>
  rw[hq]at D
  obtain⟨rfl,us,lu,gl⟩:=D
  obtain⟨X,eX⟩:=fin (Y:=S1++[.lst [.str "never",.str "all"]]) (o:=.lst (us++[.int 0])) ⟨_,rfl⟩ gl
  refine⟨X,some (.tup [.str "never",.ref l]),?_⟩
  rw[<-eX]
  have gl2:(S1++[.lst [.str "never",.str "all"]])[l]?=some (.lst us):=aJ gl
  have hL:us.length<LIM:=by unfold LIM;omega
  have i0:∀{Y:Sto},zZ [.bl false] Y=some (.int 0,Y):=rfl
  have hn:(none:Option (Pl×List Int)).isSome=false:=rfl
  rwa[hn,e1,l2,tT,sT,en,ty gl,sL,tS,sS,i0,JL,IJ,gl2,fk hL]
 |some q=>
  rw[hq]at D
  obtain⟨rfl,gl⟩:=D
  have I:=o6 (w:=w) (Ds:=Ds) (st0:=st)
  have pa:=I.pa q (List.mem_of_find?_eq_some hq)
  have pok:=pa.ok
  have rl:q.2.length=Ds.length:=by
   have h:=List.find?_some hq
   have h':(q.1.1.length:Int)=(Ds.length:Int):=of_decide_eq_true h
   rw[pok.gone,(eB _).length_eq]at h'
   omega
  obtain⟨S2,hS2⟩:∃S2,S2=S1++[O.lst [.str "never",.str "all"]]:=⟨_,rfl⟩
  have gl2:S2[l]?=some (.lst (q.2.map U.int)):=by rw[hS2];exact aJ gl
  have e2:=zR gl2 (by omega)
  obtain⟨S3,hS3⟩:∃S3,S3=S2++[O.lst (List.replicate q.2.length (.bl true))]:=⟨_,rfl⟩
  rw[<-hS3]at e2
  have gl3:S3[l]?=some (.lst (q.2.map U.int)):=by rw[hS3];exact aJ gl2
  have e3:eK [.ref l] S3=some (.ref S3.length,S3++[.lst ((cV q.2).map U.int)]):=by
   have:q.2.length<64:=by omega
   simp only[eK,gl3,iG,Option.bind_some,if_pos this]
  obtain⟨S5,hS5⟩:∃S5,S5=S3++[O.lst ((cV q.2).map U.int),O.lst (du 0 Ds.length)]:=⟨_,rfl⟩
  have k13:S3[ld]?=some (.lst (Ds.map dlU)):=by rw[hS3,hS2];exact aJ (aJ k1)
  have er:∀ρ:Rho,ρ[5]?=some (some (.ref ld))->gx (ae (cCB gh (ae (ah 5) aB)) aB) ρ (S3++[.lst ((cV q.2).map U.int)])=some (.ref (S3.length+1),S5):=fun ρ h=>by
   have g:(S3++[O.lst ((cV q.2).map U.int)])[ld]?=some (.lst (Ds.map dlU)):=aJ k13
   have ec:ae (cCB gh (ae (ah 5) aB)) aB ρ (S3++[.lst ((cV q.2).map U.int)])=some ([.int ((Ds.map dlU).length)],S3++[.lst ((cV q.2).map U.int)]):=by
    rwa[h,g]
   unfold gx
   rw[ec,Option.bind_some]
   dsimp only
   rw[List.length_map,if_pos ⟨by omega,by omega⟩,Int.toNat_natCast,List.append_assoc,List.length_append,hS5]
   rfl
  have g5a:S5[S3.length]?=some (.lst ((cV q.2).map U.int)):=by rw[hS5,ga0];rfl
  have g5b:S5[S3.length+1]?=some (.lst ((cV q.2).map U.int)):=by rw[hS5,ga,yX pok.nd pok.bd rl];rfl
  have e5:uY true (.ref S3.length) (.ref (S3.length+1)) S5=some (.bl false,S5):=by
   refine(kJ.lst (k:=0) g5a g5b (.all fun x hx=>?_)).ne (by omega)
   obtain⟨d,_,rfl⟩:=List.mem_map.mp hx
   exact .int
  have k15:S5[ld]?=some (.lst (Ds.map dlU)):=by rw[hS5];exact aJ k13
  have gl5:S5[l]?=some (.lst (q.2.map U.int)):=by rw[hS5];exact aJ gl3
  obtain⟨Z,e6⟩:=Am (Kr n0 n1 w0) ok k15 gl5 pok.bd hs (by rw[pa.follow];rfl)
  obtain⟨S6,hS6⟩:∃S6,S6=S5++Z:=⟨_,rfl⟩
  rw[<-hS6]at e6
  have gl6:S6[l]?=some (.lst (q.2.map U.int)):=by rw[hS6];exact aJ gl5
  obtain⟨X,eX⟩:=fin (Y:=S6) (o:=.lst (q.2.map U.int++[.int 0])) ⟨_,by rw[hS6,hS5,hS3,hS2,List.append_assoc,List.append_assoc,List.append_assoc]⟩ gl
  refine⟨X,some (.tup [.str "all",.ref l]),?_⟩
  rw[<-eX]
  have hL:(q.2.map U.int).length<LIM:=by unfold LIM;rw[List.length_map];omega
  have i1:∀{Y:Sto},zZ [.bl true] Y=some (.int 1,Y):=rfl
  have hn:(some q).isSome=true:=rfl
  have e4':∀{ρ:Rho},ρ[5]?=some (some (.ref ld))->ρ[9]?=some (some (.tup [.str "all",.ref l]))->aG (cOp (uY true) (cCB eK (ae (cOp fIx (ah 9) (cC (.int 1))) aB)) (gx (ae (cCB gh (ae (ah 5) aB)) aB))) ρ S3=some (false,S5):=fun{ρ} h5 h9=>by
   have es:cCB eK (ae (cOp fIx (ah 9) (cC (.int 1))) aB) ρ S3=some (.ref S3.length,S3++[.lst ((cV q.2).map U.int)]):=by
    rwa[h9,e3]
   rw[qb,yr,es,Option.bind_some,oR,er ρ h5,Option.bind_some,oQ,e5]
   rfl
  have en2:aG (cOp fNe (cOp fIx (ah 9) (cC (.int 0))) (cOp fIx (gN (ae (cC (.str "never")) (ae (cC (.str "all")) aB))) (cCB zZ (ae (ah 6) aB)))) [none,some (.ref 1),some (.tup [.int n,.int w]),x3,some (.tup (st.map U.int)),some (.ref ld),some (.bl true),some (.ref lh),r8,some (.tup [.str "all",.ref l])] S1=some (false,S2):=by
   rw[hS2]
   rwa[i1,JM,IK]
  have e4:=e4' (ρ:=[none,some (.ref 1),some (.tup [.int n,.int w]),x3,some (.tup (st.map U.int)),some (.ref ld),some (.bl true),some (.ref lh),r8,some (.tup [.str "all",.ref l])]) rfl rfl
  clear hS2 hS3 hS5 hS6 er e4'
  rwa[hn,e1,l2,tT,sT,en,ty gl,sL,en2,tS,sS,e2,e4,e6,gl6,fk hL]
theorem oK(hns:cD.ns.length=4)(n0:1<=n)(n1:n<=6)(w0:2<=w)(hN:Ds.length<=6)(ok:∀d∈Ds,OkL n w 2 d)(hs:st.length=n.toNat){x3:Option U}:∀(vs:List U) (S:Sto) (r8 r9:Option U),S[ld]?=some (.lst (Ds.map dlU))->S[lh]?=some (.lst (Ds.map dlU))->
  ∃X r8' r9',dH (fun _=>True) (gNm 8) (fL cD nz) vs [none,some (.ref 1),some (.tup [.int n,.int w]),x3,some (.tup (st.map U.int)),some (.ref ld),some (.bl ((cX w Ds st).find? (jF Ds.length)).isSome),some (.ref lh),r8,r9] S
   = some (.nx,[none,some (.ref 1),some (.tup [.int n,.int w]),x3,some (.tup (st.map U.int)),some (.ref ld),some (.bl ((cX w Ds st).find? (jF Ds.length)).isSome),some (.ref lh),r8',r9'],S++X)
 |[],S,r8,r9,_,_=>⟨[],r8,r9,by rw[List.append_nil];exact d6 trivial⟩
 |v::vs,S,r8,r9,h1,h2=>by
  obtain⟨X,r9',e1⟩:=va (r8:=some v) (r9:=r9) (x3:=x3) hns n0 n1 w0 hN ok hs h1 h2
  obtain⟨Y,r8',r9'',e2⟩:=oK hns n0 n1 w0 hN ok hs vs (S++X) (some v) r9' (aJ h1) (aJ h2)
  exact⟨X++Y,r8',r9'',((bx trivial rfl e1).trans e2).trans (by rw[List.append_assoc])⟩
theorem ql(hns:cD.ns.length=4)(ns:List Int)(n0:1<=n)(n1:n<=6)(w0:2<=w)(w1:w<=1000):∀(us:List U) (T:Sto) (a c:Int) (r3 r4 r5 r6 r7 r8 r9:Option U),0<=a->0<=c->
  ∃ρ S',dH (fun _=>True) (gNm 3) (fL cD ny) us [none,some (.ref 1),some (.tup [.int n,.int w]),r3,r4,r5,r6,r7,r8,r9] (scr ns::pen a c::T)=some (.nx,ρ,S')
 |[],T,a,c,r3,r4,r5,r6,r7,r8,r9,_,_=>⟨_,_,d6 trivial⟩
 |u::us,T,a,c,r3,r4,r5,r6,r7,r8,r9,ha,hc=>by
  obtain⟨st,a1,c1,G1,e1,hs,ha1,hc1⟩:=Gr ns T ha hc n0 n1 w0 w1
  obtain⟨Ds,a2,c2,G2,e2,hN,ok,ha2,hc2⟩:=BX ns (T++G1) ha1 hc1 n0 n1 w0 w1
  obtain⟨S2,hS2⟩:∃S2,S2=scr ns::pen a2 c2::(T++G1++.lst (Ds.map dlU)::G2):=⟨_,rfl⟩
  obtain⟨ld,hld⟩:∃ld,ld=(T++G1).length+1+1:=⟨_,rfl⟩
  have g2:S2[ld]?=some (.lst (Ds.map dlU)):=by
   rw[hS2,hld]
   simp only[List.getElem?_cons_succ]
   rw[ga0];rfl
  rw[<-hS2,<-hld]at e2
  obtain⟨kus,lus,Y,e3,B⟩:=zJ (Kr n0 n1 w0) hN hs ok g2
  obtain⟨G3,eG3⟩:=B.pre
  have ldl:ld<S2.length:=(List.getElem?_eq_some_iff.mp g2).1
  have gY:Y[ld]?=some (.lst (Ds.map dlU)):=by rw[eG3];exact aJ g2
  obtain⟨Y2,hY2⟩:∃Y2,Y2=Y++[.lst (((cX w Ds st).filter (jF Ds.length)).map plQ),.lst []]:=⟨_,rfl⟩
  have s6:bN 6 (cOp (uY true) (iR (cCB (iL (dj 3) 3000) (ae (ah 2) (ae (ah 4) (ae (ah 5) aB)))) (gNm 0) (aG (cOp fEq (cCB gh (ae (cOp fIx (ah 0) (cC (.int 0))) aB)) (cCB gh (ae (ah 1) aB)))) (ah 0) 1 [5]) (gN aB)) [none,some (.ref 1),some (.tup [.int n,.int w]),some u,some (.tup (st.map U.int)),some (.ref ld),r6,r7,r8,r9] S2
    = some (.nx,[none,some (.ref 1),some (.tup [.int n,.int w]),some u,some (.tup (st.map U.int)),some (.ref ld),some (.bl ((cX w Ds st).find? (jF Ds.length)).isSome),r7,r8,r9],Y2):=by
   have ec:=GA (ce:=cCB (iL (dj 3) 3000) (ae (ah 2) (ae (ah 4) (ae (ah 5) aB)))) (ρ:=[none,some (.ref 1),some (.tup [.int n,.int w]),some u,some (.tup (st.map U.int)),some (.ref ld),r6,r7,r8,r9]) hN rfl gY (by rwa[e3]) B (by omega)
   rw[vx,ec,<-hY2]
   rfl
  have gY2:Y2[ld]?=some (.lst (Ds.map dlU)):=by rw[hY2];exact aJ gY
  have s4:bN 4 (cCB sR (ae (ah 1) (ae (ah 2) aB))) [none,some (.ref 1),some (.tup [.int n,.int w]),some u,r4,r5,r6,r7,r8,r9] (scr ns::pen a c::T)=some (.nx,[none,some (.ref 1),some (.tup [.int n,.int w]),some u,some (.tup (st.map U.int)),r5,r6,r7,r8,r9],scr ns::pen a1 c1::(T++G1)):=by rwa[e1]
  have s5:bN 5 (cCB nC (ae (ah 1) (ae (ah 2) (ae (cC (.int 6)) aB)))) [none,some (.ref 1),some (.tup [.int n,.int w]),some u,some (.tup (st.map U.int)),r5,r6,r7,r8,r9] (scr ns::pen a1 c1::(T++G1))=some (.nx,[none,some (.ref 1),some (.tup [.int n,.int w]),some u,some (.tup (st.map U.int)),some (.ref ld),r6,r7,r8,r9],S2):=by rwa[e2]
  have s7:bN 7 (cCB lT (ae (ah 5) aB)) [none,some (.ref 1),some (.tup [.int n,.int w]),some u,some (.tup (st.map U.int)),some (.ref ld),some (.bl ((cX w Ds st).find? (jF Ds.length)).isSome),r7,r8,r9] Y2=some (.nx,[none,some (.ref 1),some (.tup [.int n,.int w]),some u,some (.tup (st.map U.int)),some (.ref ld),some (.bl ((cX w Ds st).find? (jF Ds.length)).isSome),some (.ref Y2.length),r8,r9],Y2++[.lst (Ds.map dlU)]):=by rwa[gY2]
  obtain⟨X,r8',r9',el⟩:=oK (cD:=cD) (x3:=some u) (ld:=ld) (lh:=Y2.length) hns n0 n1 w0 hN ok hs (du 0 2) (Y2++[.lst (Ds.map dlU)]) r8 r9 (aJ gY2) (by rw[ga0];rfl)
  have eS:Y2++[.lst (Ds.map dlU)]++X=scr ns::pen a2 c2::(T++(G1++(.lst (Ds.map dlU)::(G2++(G3++([.lst (((cX w Ds st).filter (jF Ds.length)).map plQ),.lst []]++([.lst (Ds.map dlU)]++X))))))):=by
   rw[hY2,eG3,hS2]
   simp only[List.append_assoc,List.cons_append]
  rw[eS]at el
  obtain⟨ρ',S',ih⟩:=ql hns ns n0 n1 w0 w1 us (T++(G1++(.lst (Ds.map dlU)::(G2++(G3++([.lst (((cX w Ds st).filter (jF Ds.length)).map plQ),.lst []]++([.lst (Ds.map dlU)]++X))))))) a2 c2 (some u) (some (.tup (st.map U.int))) (some (.ref ld)) (some (.bl ((cX w Ds st).find? (jF Ds.length)).isSome)) (some (.ref Y2.length)) r8' r9' ha2 hc2
  refine⟨ρ',S',(bx trivial rfl ?_).trans ih⟩
  show ny jy sR nC (iL (dj 3) 3000) (gz (jA cD)) kL (kM (dj 3)) _ _=_
  unfold ny
  simp only[List.set_cons_succ,List.set_cons_zero]
  rw[nK s4,nK s5,nK s6,nK s7]
  have r2:fg (ae (cC (.int 2)) aB)=fun ρ S=>some (du 0 2,fun _=>True,S):=rfl
  rw[r2]
  exact el
theorem FT{cD:Cl}(hns:cD.ns.length=4)(ns:List Int)(a c:Int)(ha:0<=a)(hc:0<=c):∃ρ' S',(fL cD x6) [none,some (.ref 1),none,none,none,none,none,none,none,none] [.lst (ns.map U.int),.lst [.ref 0,.int a,.int c]]=some (.rt (.bl true),ρ',S'):=by
 obtain⟨n,w,a1,c1,G,e1,n0,n1,w0,w1,ha1,hc1⟩:=yI ns [] ha hc
 obtain⟨ρ,S',e6⟩:=ql (cD:=cD) hns ns n0 n1 w0 w1 (du 0 2) ([]++G) a1 c1 none none none none none none none ha1 hc1
 refine⟨ρ,S',?_⟩
 have s2:bN 2 (cCB jy (ae (ah 1) aB)) [none,some (.ref 1),none,none,none,none,none,none,none,none] [scr ns,pen a c]=some (.nx,[none,some (.ref 1),some (.tup [.int n,.int w]),none,none,none,none,none,none,none],scr ns::pen a1 c1::([]++G)):=by rwa[e1]
 have r2:fg (ae (cC (.int 2)) aB)=fun ρ S=>some (du 0 2,fun _=>True,S):=rfl
 have e7:j7 (fg (ae (cC (.int 2)) aB)) (gNm 3) (fL cD ny) [none,some (.ref 1),some (.tup [.int n,.int w]),none,none,none,none,none,none,none] (scr ns::pen a1 c1::([]++G))=some (.nx,ρ,S'):=by
  rw[r2];exact e6
 show x6 jy sR nC (iL (dj 3) 3000) (gz (jA cD)) kL (kM (dj 3)) _ [scr ns,pen a c]=_
 unfold x6
 rw[nK s2,nK e7]
 rfl
end
section
variable{P:Program}{w:World}{K:PySem.W.Frag}{mg:Str->Option Value}{base:Heap}
theorem mO:aN ["script"] ["script"] (ay ke):=⟨rfl,rfl,rfl,by decide +kernel,rfl,by decide +kernel,by decide +kernel⟩
theorem Dj{k:Nat}(B:Blt mg)(d:Def K mg "_law_pen" ke ["script"]):Has P w K mg base "_law_pen" (k+1) ["script"] (AA K):=by
 refine d.has mO (fun vs H Q E h=>?_) (fun f cdv A outer s H vs Q E hr h=>?_)
 ·obtain⟨a,ns,rfl,_⟩:=h;rfl
 obtain⟨a,ns,rfl,hS,q⟩:=h
 have nd:=mO.nd
 refine⟨_,(tj (vD (vH (ft (nX cZ rfl B.list OG.dz (ft (qg v8 (wpv 0) tq (tm af)) j8)) (ft af (ft af j8)))))),?_⟩
 refine⟨_,rfl,_,rfl,a,_,rfl,hS,fun p hp=>⟨p,_,rfl,.inl (SqL.of aP),fun l hl=>⟨(by show 3<=sizeLine;decide),fun r hr'=>?_⟩⟩⟩
 obtain⟨ms,em⟩:∃ms:List Int,xW (ns.map V.int) none (some 63)=ms.map V.int:=⟨_,Ad _ _ _⟩
 rw[em]at hl hr' ⊢
 refine q r l _ (((dZ hp _).trans (dZ hl _)).trans (dZ hr' _)) ⟨ms,0,0,aP,?_,cP aP hr',by decide,by decide⟩ ?_
 ·rw[bH (cP aP hr')];exact aP
 ·exact(((dZ hp _).trans (dZ hl _))).free hr'
end
theorem GF{l:PySem.W.OpenLaw}{w:World}{K:PySem.W.Frag}{h:Heap}{mg:Str->Option Value}{fa:Addr}(X:K.In h)(G:h.Ns mainGlobals mg)(hfa:mg "law"=some (.ref fa))
  {CDoing:Addr}
  (ds:GN K [("_law_take",jg),("_law_world",hU),("_law_size",jh),("_law_plain_deed",eC),("_law_dealing",gf),("_law_plain",ib),("_law_waits",hV),("_law_alone",ie),("with_at",mP),("onwards",mQ),("goes_through",gc),("alone",rN),("_law_keen",jk),("_law_some_dealings",dq),("_law_few_state",fc),("_law_next",jj),("_law_rows",ji),("_law_goes_along",eD),("_law_is_row",gF),("ways_from",jf),("rows_to_places",fb),("all_done",j9),("_law_pen",ke),("law",Ca)])
  (cl_Doing:GQ K "Doing" CDoing ["wheel","held","puts","part"] [("__init__","Doing.__init__",ig),("deed","Doing.deed",iA),("asks","Doing.asks",iB),("hold","Doing.hold",ik),("part_behind","Doing.part_behind",dE),("go_behind","Doing.go_behind",eI),("hear","Doing.hear",iq),("enter_try","Doing.enter_try",eJ),("goes_back","Doing.goes_back",eF),("do_deed","Doing.do_deed",fC),("put_pairs","Doing.put_pairs",eE)])
  (zs:Hh K Ko) :
  ∃fd:FuncData,(∀(s:Shared) (v:Value),BindsTo s fd ⟨[v],[]⟩ [("script",v)])/\∀base:Heap,K.In base->base.Ns mainGlobals mg->lL l.prog w K mg base CX0 9 fa fd ["script"] (yS K):=by
 obtain⟨d__law_take,d__law_world,d__law_size,d__law_plain_deed,d__law_dealing,d__law_plain,d__law_waits,d__law_alone,d_with_at,d_onwards,d_goes_through,d_alone,d__law_keen,d__law_some_dealings,d__law_few_state,d__law_next,d__law_rows,d__law_goes_along,d__law_is_row,d_ways_from,d_rows_to_places,d_all_done,d__law_pen,d_law,-⟩:=ds
 obtain⟨m_Doing_init,m_Doing_deed,m_Doing_asks,m_Doing_hold,m_Doing_part_behind,m_Doing_go_behind,m_Doing_hear,m_Doing_enter_try,m_Doing_goes_back,m_Doing_do_deed,m_Doing_put_pairs,-⟩:=cl_Doing.ms
 have TDoing:=cl_Doing.tc
 have B:=zs.blt X G
 refine FU d_law X G hfa fun fd F_law base=>?_
 have Gp:=Dj (P:=l.prog) (w:=w) (base:=base) (k:=0) B (d__law_pen.df X G)
 have aA:=se (P:=l.prog) (w:=w) (base:=base) (k:=0) (d__law_take.df X G) B 
 have iM:=qK (P:=l.prog) (w:=w) (base:=base) (k:=1) (d__law_world.df X G) B aA
 have lK:dk l.prog w K mg base "_law_size" 1 ["dealing"] (ve 0):=js (P:=l.prog) (w:=w) (base:=base) (k:=0) (d__law_size.df X G) B ((d__law_size.df X G (ps:=["dealing"])).no)
 have lJ:dk l.prog w K mg base "_law_size" 2 ["dealing"] (ve 1):=js (P:=l.prog) (w:=w) (base:=base) (k:=1) (d__law_size.df X G) B lK
 have rD:dk l.prog w K mg base "_law_size" 3 ["dealing"] (ve 2):=js (P:=l.prog) (w:=w) (base:=base) (k:=2) (d__law_size.df X G) B lJ
 have bP:=kh (P:=l.prog) (w:=w) (base:=base) (k:=1) (d__law_plain_deed.df X G) B aA
 have nG:dk l.prog w K mg base "_law_dealing" 3 ["pen","world","room","tries"] (pY 0):=eO (P:=l.prog) (w:=w) (base:=base) (k:=2) (d__law_dealing.df X G) B (Has.mono aA (by decide)) bP ((d__law_dealing.df X G (ps:=["pen","world","room","tries"])).no) ((d__law_size.df X G (ps:=["dealing"])).no)
 have nF:dk l.prog w K mg base "_law_dealing" 4 ["pen","world","room","tries"] (pY 1):=eO (P:=l.prog) (w:=w) (base:=base) (k:=3) (d__law_dealing.df X G) B (Has.mono aA (by decide)) (Has.mono bP (by decide)) nG (Has.mono lK (by decide))
 have nE:dk l.prog w K mg base "_law_dealing" 5 ["pen","world","room","tries"] (pY 2):=eO (P:=l.prog) (w:=w) (base:=base) (k:=4) (d__law_dealing.df X G) B (Has.mono aA (by decide)) (Has.mono bP (by decide)) nF (Has.mono lJ (by decide))
 have nD:dk l.prog w K mg base "_law_dealing" 6 ["pen","world","room","tries"] (pY 3):=eO (P:=l.prog) (w:=w) (base:=base) (k:=5) (d__law_dealing.df X G) B (Has.mono aA (by decide)) (Has.mono bP (by decide)) nE (Has.mono rD (by decide))
 have dS:=qL (P:=l.prog) (w:=w) (base:=base) (k:=0) (d__law_plain.df X G) B 
 have pX:dk l.prog w K mg base "_law_waits" 2 ["world","dealing","now"] (sO 0):=fX (P:=l.prog) (w:=w) (base:=base) (k:=1) (d__law_waits.df X G) B dS ((d__law_waits.df X G (ps:=["world","dealing","now"])).no)
 have pW:dk l.prog w K mg base "_law_waits" 3 ["world","dealing","now"] (sO 1):=fX (P:=l.prog) (w:=w) (base:=base) (k:=2) (d__law_waits.df X G) B (Has.mono dS (by decide)) pX
 have pV:dk l.prog w K mg base "_law_waits" 4 ["world","dealing","now"] (sO 2):=fX (P:=l.prog) (w:=w) (base:=base) (k:=3) (d__law_waits.df X G) B (Has.mono dS (by decide)) pW
 have pT:dk l.prog w K mg base "_law_waits" 5 ["world","dealing","now"] (sO 3):=fX (P:=l.prog) (w:=w) (base:=base) (k:=4) (d__law_waits.df X G) B (Has.mono dS (by decide)) pV
 have dU:=qM (P:=l.prog) (w:=w) (base:=base) (k:=5) (d__law_alone.df X G) B pT
 have gA:=xn (P:=l.prog) (w:=w) (base:=base) (k:=0) (d_with_at.df X G) B 
 have dA:=xo (P:=l.prog) (w:=w) (base:=base) (k:=0) (fuel:=100) (d_onwards.df X G) B 
 have M_Doing_deed:=qQ (P:=l.prog) (w:=w) (base:=base) (k:=0) (m_Doing_deed.mt) B TDoing
 have M_Doing_asks:=qR (P:=l.prog) (w:=w) (base:=base) (k:=1) (m_Doing_asks.mt) B TDoing M_Doing_deed
 have M_Doing_hold:=qO (P:=l.prog) (w:=w) (base:=base) (k:=1) (m_Doing_hold.mt) B TDoing gA
 have M_Doing_part_behind:=jt (P:=l.prog) (w:=w) (base:=base) (k:=0) (m_Doing_part_behind.mt) B TDoing
 have M_Doing_go_behind:=ko (P:=l.prog) (w:=w) (base:=base) (k:=1) (m_Doing_go_behind.mt) B TDoing dA M_Doing_part_behind
 have M_Doing_hear:=qP (P:=l.prog) (w:=w) (base:=base) (k:=2) (m_Doing_hear.mt) B TDoing M_Doing_hold (M_Doing_deed.mono (by decide)) M_Doing_go_behind
 have M_Doing_enter_try:=kq (P:=l.prog) (w:=w) (base:=base) (k:=1) (m_Doing_enter_try.mt) B TDoing dA M_Doing_part_behind
 have M_Doing_goes_back:=km (P:=l.prog) (w:=w) (base:=base) (k:=0) (m_Doing_goes_back.mt) B TDoing
 have M_Doing_do_deed:=m8 (P:=l.prog) (w:=w) (base:=base) (k:=2) (m_Doing_do_deed.mt) B TDoing (Has.mono gA (by decide)) (M_Doing_deed.mono (by decide)) (M_Doing_goes_back.mono (by decide)) M_Doing_enter_try M_Doing_hold M_Doing_go_behind
 have M_Doing_put_pairs:=kj (P:=l.prog) (w:=w) (base:=base) (k:=0) (m_Doing_put_pairs.mt) B TDoing
 have M_Doing_init:=qN (P:=l.prog) (w:=w) (base:=base) (k:=1) (cl_Doing.mkd m_Doing_init X G) B TDoing dA
 have gj:=nO (P:=l.prog) (w:=w) (base:=base) (k:=3) (fuel:=20000000) (d_goes_through.df X G) B TDoing (M_Doing_deed.mono (by decide)) (M_Doing_asks.mono (by decide)) M_Doing_hear M_Doing_do_deed
 have sW:=Dk (P:=l.prog) (w:=w) (base:=base) (k:=3) (d_alone.df X G) B TDoing gj (M_Doing_put_pairs.mono (by decide)) (M_Doing_init.mono (by decide))
 have jE:=sh (P:=l.prog) (w:=w) (base:=base) (k:=1) (d__law_keen.df X G) B aA
 have dr:=iS (P:=l.prog) (w:=w) (base:=base) (k:=6) (d__law_some_dealings.df X G) B (Has.mono aA (by decide)) nD (Has.mono jE (by decide))
 have fj:=lS (P:=l.prog) (w:=w) (base:=base) (k:=1) (d__law_few_state.df X G) B aA
 have jD:=sg (P:=l.prog) (w:=w) (base:=base) (k:=6) (d__law_next.df X G) B dU
 have jC:=sf (P:=l.prog) (w:=w) (base:=base) (k:=7) (fuel:=3000) (d__law_rows.df X G) B jD
 have eN:=ki (P:=l.prog) (w:=w) (base:=base) (k:=6) (d__law_goes_along.df X G) B dU
 have gQ:=pF (P:=l.prog) (w:=w) (base:=base) (k:=0) (d__law_is_row.df X G) B 
 have jB:=sd (P:=l.prog) (w:=w) (base:=base) (k:=5) (d_ways_from.df X G) B sW
 have fi:=lR (P:=l.prog) (w:=w) (base:=base) (k:=6) (fuel:=3000) (d_rows_to_places.df X G) B jB
 have kO:=uU (P:=l.prog) (w:=w) (base:=base) (k:=7) (d_all_done.df X G) B fi
 exact JB (P:=l.prog) (w:=w) (base:=base) (k:=8) F_law B (Has.mono Gp (by decide)) (Has.mono iM (by decide)) (Has.mono fj (by decide)) (Has.mono dr (by decide)) jC kO (Has.mono gQ (by decide)) (Has.mono eN (by decide)) fun ns a c ha hc=>FT (cD:=⟨CDoing,_⟩) rfl ns a c ha hc
theorem K0{l:PySem.W.OpenLaw}{q:Program}{loose:List Str}{XP:(Str->Option Value)->Heap->Prop}{YP:World->Heap->Prop}{d:DefRec}{K:Params->PySem.W.Frag}(hn:l.most=some 63)(hdf:d.params.defaults=[])
  (hY:∀(w:World) (h:Heap),YP w h->(K w.params).In h)
  (F:∀(w:World) (mg:Str->Option Value) (fa:Addr) (h:Heap),(K w.params).In h->h.Ns mainGlobals mg->mg d.name=some (.ref fa)->
   ∃fd:FuncData,(∀(s:Shared) (u:Value),BindsTo s fd ⟨[u],[]⟩ [("script",u)])/\∀base:Heap,(K w.params).In base->base.Ns mainGlobals mg->lL l.prog w (K w.params) mg base CX0 9 fa fd ["script"] (yS (K w.params))) :
  PySem.W.WalkO q loose XP YP l.row.toRowW d [] (fun f vs=>PySem.call f vs):=
 L2.BQ (n:=63) (k:=9) (x:="script") (CX:=fun _=>CX0) (sp:=fun w=>yS (K w.params)) hn (by decide) hdf ⟨rfl,by decide,by decide,rfl⟩ hY F (fun _ _ a ns hl _ hS=>⟨a,ns,rfl,hS,hl,fun _=>rfl⟩) fun _ _ _ _ _ z=>z
end OL
namespace PySem.W.Fast
def tw9013904067842895279:=0
def tw5250210857976147273:=0
def tw2445408102870591647:=0
def tw16283731730883834873:=0
def tw3076876552772232005:=0
def tw686188668202995260:=0
def tw12779511318665626139:=0
def tw17884148474617590020:=0
def tw15984229971792281404:=0
def tw6650037338107957834:=0
def tw7140332708794263202:=0
def tw12107228517195506876:=0
def tw2734036298864017204:=0
def tw6890619135947204168:=0
def tw3852754308758565044:=0
def tw354737249906704114:=0
def tw9878442566249781008:=0
def tw10715327776246054062:=0
def tw12002158305163151639:=0
def tw281668168494460728:=0
def tw10935440171501485359:=0
def tw13148224022478222464:=0
def tw1139487868029908079:=0
def tw6817595843264463270:=0
def tw1875190259280312390:=0
def tw1736377017947911317:=0
def tw8506190887933201001:=0
def tw2014983503570796539:=0
def tw2071683913560514440:=0
def tw2220000584121499428:=0
def tw1917851415166944444:=0
def tw9876205167635640425:=0
def tw5677518031580965194:=0
def tw10324121388357891126:=0
def tw2424529896810577141:=0
def tw11513513642017417219:=0
def tw9887768121771415657:=0
def tw1371954664002130220:=0
def tw14296483125124811318:=0
def tw5230383776080691569:=0
def tw10886986616391916074:=0
def tw12347162998872806808:=0
def tw9760254299610825273:=0
def tw4541883614935460635:=0
def tw10950569958672399213:=0
def tw1626357312158913482:=0
def tw15086071972928701337:=0
def tw9357140542677949513:=0
def tw10543835678520558697:=0
def tw15734031142009001418:=0
def tw3703735900084247144:=0
def tw9122911694466180046:=0
def tw4473058233099582325:=0
def tw6192175684043411881:=0
def tw12555986308564799447:=0
def tw2717525908276880696:=0
def tw3499900896079863557:=0
def tw11771771871820940105:=0
def tw2716200761169795912:=0
def tw13057836797571833952:=0
def tw170819961447400903:=0
def tw2178888462186483428:=0
def tw11179790404729118884:=0
def tw15916074491948730140:=0
def tw17562609039379988488:=0
def tw17384795070081969760:=0
def tw13463226686381104666:=0
def tw2352685247325024416:=0
def tw2273164037213710984:=0
def tw16189787031542611839:=0
def tw13695431793495980958:=0
def tw18059095968118540140:=0
def tw3020047381207618634:=0
def tw14740895919281408841:=0
def tw11829561388828705266:=0
def tw8850593260025494104:=0
def tw7977756898239109967:=0
def tw9293438564090338819:=0
def tw5965192732426600919:=0
def tw6727508636969303723:=0
def tw218546715730974665:=0
def tw13517783789636616179:=0
def tw3373738035676525825:=0
def tw17938157784661691195:=0
def tw13608059562519634452:=0
def tw3323396605039385969:=0
def tw14056138392043223314:=0
def tw3274201205544243056:=0
def tw10011879456203834519:=0
def tw16383713655485230966:=0
def tw6437401218477894921:=0
def tw4907457054756278832:=0
def tw4481654741958266593:=0
def tw12318228208339348790:=0
def tw5521833266182512568:=0
def tw15207431682399104693:=0
def tw239522252921668171:=0
def tw17900111590962794029:=0
def tw8093481057180042973:=0
def tw11395076783573237149:=0
def tw14214992224294216951:=0
def tw9225738667206680628:=0
def tw10897685732044763260:=0
def tw16429724853354650507:=0
def tw9524900359120049852:=0
def tw1318851197874210986:=0
def tw11843268321320805879:=0
def tw275371405036861606:=0
def tw1568219588681718197:=0
def tw1955036375181350915:=0
def tw3100019754862326660:=0
def tw5411721600466543922:=0
def tw13281672192937330865:=0
def tw17275185473074913807:=0
def tw11378236708609507556:=0
def tw16640004535601801758:=0
def tw259301987602613672:=0
def tw6026736873512858995:=0
def tw15905852017542661563:=0
def tw16360318440244059082:=0
def tw5738223126768215324:=0
def tw8292075277106539890:=0
def tw18130111492177691986:=0
def tw15047291290439493993:=0
def tw11119969119743993389:=0
def tw11977092134318083336:=0
def tw4636519997336971049:=0
def tw8072607277645971349:=0
def tw14489516428105485102:=0
def tw17958824577413312937:=0
def tw16577650532126004452:=0
def tw281648487878197883:=0
def tw350990369047440696:=0
def tw3659730446455558192:=0
def tw8428809706216928159:=0
def tw12311845200480360180:=0
def tw15414777515859652618:=0
def tw16441080640003982656:=0
def tw14105132723403018405:=0
def tw16634232215131896645:=0
def tw10651603972456669928:=0
def tw8027598240983067448:=0
def tw11758148462326381660:=0
def tw1781278393096696497:=0
def tw7636260924440910177:=0
def tw6651708047385118113:=0
def tw18295035520713210401:=0
def tw17428332287823301612:=0
def tw10460755174296438916:=0
def tw6233622497255419271:=0
def tw12502075966692815759:=0
def tw4274826953080317675:=0
def tw18105232953801628772:=0
def tw18436581382763999934:=0
def tw13205964996124349737:=0
end PySem.W.Fast
open PySem PySem.W PyProof.Rows
open OP in
set_option maxRecDepth 100000 in
set_option maxHeartbeats 0 in
theorem PySem.Challenge.cw_oneglance_k54_all_are_done_holds : PySem.Challenge.rw_oneglance_k54_all_are_done.Holds := by
 w_on; o_law; k_head; (case hw => w_witness2)
 k_fill
 refine OL.K0 (l := PySem.Challenge.rw_oneglance_k54_all_are_done) rfl rfl (fun w h Y => PySem.W.kIn_of Y) ?F
 case F =>
  intro w mg fa h KX G hmg
  refine' OL.GF KX G hmg ?ds ?cl_Doing ?zs
  (case ds => (repeat (refine' ⟨La ?a ?l ?c ?k, ?_⟩; (case a => k_is); (case l => k_is); (case c => k_is); (case k => k_is))); exact trivial)
  (case cl_Doing => (refine' ⟨?a, ?b, ?c, ?d, ?e, ?f, ?g, ?n, ?m⟩; (case a => k_is); (case b => k_is); (case c => k_is); (case d => k_is); (case e => k_is); (case f => k_is); (case g => k_is); (case n => (repeat (refine' ⟨?a, ?_⟩; (case a => k_is))); exact trivial); (case m => (repeat (refine' ⟨K7 ?a ?i ?l ?c ?k, ?_⟩; (case a => k_is); (case i => k_is); (case l => k_is); (case c => k_is); (case k => k_is))); exact trivial)))
  (case zs => (repeat (refine' ⟨?a, ?_⟩; (case a => k_is))); exact trivial)
