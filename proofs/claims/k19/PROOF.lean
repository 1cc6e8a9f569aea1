import PyProof.Rows.All
import Wide.All
import OpenK.AllK
import Wide.FinOn
import Lean
import PyProof.EqAt
import PyProof.EqKinds
import PyProof.TupleCall
import PySem.Challenge.RW_oneglance_k19_good_or_none
local macro_rules|`(tactic|trivial)=>`(tactic|exact Or.inl rfl)
local macro_rules|`(tactic|trivial)=>`(tactic|exact Or.inr rfl)
set_option maxHeartbeats 4000000
set_option Elab.async false
set_option linter.all false
set_option maxRecDepth 100000
noncomputable section
open Option renaming bind_eq_some_iff→Q0, bind_some→Q4, map_eq_some_iff→Qn, getD_some→Qo, isSome_none→ZM
open PySem.W renaming Frag→Q1
open PySem renaming wpAny_bind→Q2, wpAny_pure→QQ, wpAny_mono→Z9
open List renaming append_assoc→Q3, length_map→Q5, length_append→Q6, getElem?_eq_getElem→Q8, getElem?_eq_some_iff→Q9, map_cons→QX, append_nil→QJ, map_append→QV, length_cons→QY, mem_map→QR, mem_cons_self→QU, size_toArray→QH, mem_cons_of_mem→QD, mem_cons→QM, getElem?_append_left→QN, mem_append_right→QL, getElem?_cons_succ→Qq, cons_append→Qz, getElem?_append_right→Qx, mem_singleton→Qv, nil_append→Qk, getElem?_set_ne→Qy, mem_append→Qw, getElem?_map→Qb, map_map→Qg, replicate→Qh, nodup_append→Qe, mem_append_left→Qd, length_singleton→Qa, not_mem_nil→Qc, mem_filter→Qp, find?_cons→Qt, map_nil→Ql, range→Qi, getD_eq_getElem?_getD→Qs, length_eq_zero_iff→Z8, nodup_nil→ZQ, all_eq_true→ZX, map_congr_left→ZV, getElem?_eq_none→ZK, getElem?_cons_zero→ZY, any_cons→ZR, nodup_cons→ZG, getElem?_replicate→ZH, filterMap_cons→ZD, nodup_iff_pairwise_ne→ZF, getElem?_set→ZC, pairwise_cons→ZN, getElem?_set_self→ZP, concat_eq_append→ZL
open PySem.Heap renaming get?_push_of_some→Q7, lt_size→QB, get?_push_size→QF, SameBut→ZT
open Nat renaming le_refl→QZ, le_trans→Qj, ne_of_lt→Qr, lt_of_lt_of_le→Qu, zero_le→Z7
open Bool renaming false_ne_true→QK, false_eq_true→QC, and_eq_true→Qm, eq_iff_iff→ZE
open Array renaming getElem?_eq_getElem→ZJ, length_toList→ZU, getElem?_toList→ZI, getD_eq_getD_getElem?→ZO
namespace L2
open PySem PySem.Spec PyProof.Rows
abbrev Key:=Sum Int Str
def uL:Key->Value->Bool
 |.inl k,v=>Value.isInt k v
 |.inr x,v=>Value.isStrOf x v
def O3(w:World):Key->Int
 |.inl k=>hashInt k
 |.inr x=>hashStr w x
theorem bP:∀{k:Key} {v:Value},uL k v=true->(∃i t,k=Sum.inl i/\v=Value.int i t)\/(∃x t,k=Sum.inr x/\v=Value.str x t)
 |.inl i,v,h=>by
  obtain⟨t,e⟩:=Value.isInt_shape (k:=i) (v:=v) h;exact .inl ⟨i,t,rfl,e⟩
 |.inr x,v,h=>by
  obtain⟨t,e⟩:=Value.isStrOf_shape (x:=x) (v:=v) h;exact .inr ⟨x,t,rfl,e⟩
theorem zZ(i:Int)(t:Tok):uL (.inl i) (.int i t)=true:=by simp[uL,Value.isInt]
theorem zY(x:Str)(t:Tok):uL (.inr x) (.str x t)=true:=by simp[uL,Value.isStrOf]
theorem Kh(a b:Int):decide ((Sum.inl a:Key)=Sum.inl b)=(a == b):=by
 by_cases e:a=b
 ·subst e;simp
 ·have h:¬(Sum.inl a:Key)=Sum.inl b:=fun q=>e (Sum.inl.inj q);rw[decide_eq_false h];exact(beq_eq_false_iff_ne.mpr e).symm
theorem Ke(a b:Str):decide ((Sum.inr a:Key)=Sum.inr b)=decide (a=b):=by
 by_cases e:a=b
 ·subst e;simp
 ·have h:¬(Sum.inr a:Key)=Sum.inr b:=fun q=>e (Sum.inr.inj q);rw[decide_eq_false h,decide_eq_false e]
theorem Kg(a:Int)(b:Str):decide ((Sum.inl a:Key)=Sum.inr b)=false:=decide_eq_false (fun q=>nomatch q)
theorem Kf(a:Str)(b:Int):decide ((Sum.inr a:Key)=Sum.inl b)=false:=decide_eq_false (fun q=>nomatch q)
def cG(prog:Program)(w:World):PySem.KeyKind prog w Key where
 is:=uL
 hash:=O3 w
 inj:=fun v a b ha hb=>by
  rcases bP ha with⟨i,t,rfl,rfl⟩|⟨x,t,rfl,rfl⟩
  ·rcases bP hb with⟨j,u,rfl,e⟩|⟨y,u,rfl,e⟩
   ·injection e with e1 _;rw[e1]
   ·exact nomatch e
  ·rcases bP hb with⟨j,u,rfl,e⟩|⟨y,u,rfl,e⟩
   ·exact nomatch e
   ·injection e with e1 _;rw[e1]
 byValue:=fun k v h=>by
  rcases bP h with⟨i,t,rfl,rfl⟩|⟨x,t,rfl,rfl⟩<;>rfl
 pyHash:=fun hv h=>by
  rcases bP hv with⟨i,t,rfl,rfl⟩|⟨x,t,rfl,rfl⟩
  ·exact wpAny_pyHash_int h
  ·exact wpAny_pyHash_str h
 eqBool:=fun hu hv h=>by
  rcases bP hu with⟨i,t,rfl,rfl⟩|⟨x,t,rfl,rfl⟩
  ·rcases bP hv with⟨j,u,rfl,rfl⟩|⟨y,u,rfl,rfl⟩
   ·rw[Kh]at h;exact wpAny_eqBool_int h
   ·rw[Kg]at h;exact SeqAt.EqAt.int_str i t y u _ _ _ _ h
  ·rcases bP hv with⟨j,u,rfl,rfl⟩|⟨y,u,rfl,rfl⟩
   ·rw[Kf]at h;exact SeqAt.EqAt.str_int x t j u _ _ _ _ h
   ·rw[Ke]at h;exact wpAny_eqBool_str h
 «strs»:=fun k x t v h=>by
  rcases bP h with⟨i,u,rfl,e⟩|⟨y,u,rfl,e⟩
  ·exact nomatch e
  ·injection e with e1 _;subst e1;cases v<;>rfl
theorem uI(prog:Program)(w:World)(i:Int)(t:Tok):(cG prog w).is (.inl i) (.int i t)=true:=zZ i t
theorem uH(prog:Program)(w:World)(x:Str)(t:Tok):(cG prog w).is (.inr x) (.str x t)=true:=zY x t
inductive V where
 |non|bl (b:Bool)|int (i:Int)|str (x:Str)|byt (b:Array UInt8)|flt (b:UInt64)|ref (a:Addr)|ty (n:String)
 deriving DecidableEq
def cD:V->Value->Prop
 |.non,u=>u=Value.none
 |.bl b,u=>u=Value.bool b
 |.int i,u=>∃t,u=Value.int i t
 |.str x,u=>∃t,u=Value.str x t
 |.byt b,u=>∃t,u=Value.bytes b t
 |.flt b,u=>∃t,u=Value.float b t
 |.ref a,u=>u=Value.ref a
 |.ty n,u=>u=Value.type n
abbrev bU:List V->List Value->Prop:=Paired cD
theorem bU.length{xs:List V}{us:List Value}(r:bU xs us):xs.length=us.length:=Paired.length r
theorem bU.get:∀{xs:List V} {us:List Value} {i:Nat} {x:V},bU xs us->xs[i]?=some x->∃u,us[i]?=some u/\cD x u
 |_,_,_,_,.nil,e=>by simp at e
 |_,_,0,_,.cons r _,e=>by simp at e;subst e;exact⟨_,rfl,r⟩
 |_,_,i+1,x,.cons _ t,e=>by
  obtain⟨u,h1,h2⟩:=bU.get (i:=i) (x:=x) t (by simpa using e);exact⟨u,by simpa using h1,h2⟩
theorem bU.set{x:V}{u:Value}(r:cD x u):∀{xs:List V} {us:List Value} (i:Nat),bU xs us->bU (xs.set i x) (us.set i u)
 |_,_,_,.nil=>.nil
 |_,_,0,.cons _ t=>.cons r t
 |_,_,i+1,.cons q t=>.cons q (bU.set r i t)
theorem bU.append:∀{xs ys:List V} {us ws:List Value},bU xs us->bU ys ws->bU (xs++ys) (us++ws)
 |_,_,_,_,.nil,s=>s
 |_,_,_,_,.cons r t,s=>.cons r (bU.append t s)
theorem bU.take:∀{xs:List V} {us:List Value} (n:Nat),bU xs us->bU (xs.take n) (us.take n)
 |_,_,0,_=>.nil
 |_,_,_+1,.nil=>.nil
 |_,_,n+1,.cons r t=>.cons r (bU.take n t)
theorem bU.drop:∀{xs:List V} {us:List Value} (n:Nat),bU xs us->bU (xs.drop n) (us.drop n)
 |_,_,0,r=>r
 |_,_,_+1,.nil=>.nil
 |_,_,n+1,.cons _ t=>bU.drop n t
def qA:Option V->Option Value->Prop
 |some v,some u=>cD v u
 |none,none=>True
 |_,_=>False
def KV{κ:Type}:List (κ×V)->List (κ×Value)->Prop:=Paired fun(p:κ×V) (q:κ×Value)=>p.1=q.1/\cD p.2 q.2
def kV:Key->V
 |.inl i=>.int i
 |.inr x=>.str x
inductive HO where
 |lst (xs:List V)
 |tup (xs:List V)
 |dK (kvs:List (Key×V))|dT (kvs:List (List Key×V))
 |set (S:Int->Bool) (n:Nat)
 |ins (C dx:Addr) (fs:List (Str×V))
 |own (x:Addr)
 |xd (fs:List (Str×V))
 |met (f x:Addr)
 |rng (lo hi:Int)
 |frz (o:Obj) (u:HO)
 |tbl (ps:Array Value)
 |ext (φ:Heap->Prop)
abbrev Hp:=Addr->Option HO
def upd(H:Hp)(a:Addr)(o:HO):Hp:=fun b=>if b=a then some o else H b
theorem aN{H:Hp}{a:Addr}{o:HO}:upd H a o a=some o:=by unfold upd;rw[if_pos rfl]
theorem bA{H:Hp}{a b:Addr}{o:HO}(h:b≠a):upd H a o b=H b:=by unfold upd;rw[if_neg h]
theorem M0{H:Hp}{a b:Addr}{o u:HO}(h:H a=some o)(h':H b=some u)(d:o≠u):a≠b:=by
 intro e;subst e;rw[h]at h';exact d (Option.some.inj h')
theorem cP{H:Hp}{a b:Addr}{o:HO}(h:H a=some o)(h':H b=none):a≠b:=by
 intro e;subst e;rw[h]at h';cases h'
section
variable(P:Program)(w:World)
def cy(H:Hp)(h:Heap)(a:Addr):HO->Prop
 |.lst xs=>xs.length<=sizeLine/\∃(its:List Value) (n:Nat),bU xs its/\h.get? a=some { cls:=.type "list",data:=.seq its.toArray n }
 |.tup xs=>xs.length<=sizeLine/\∃its:List Value,bU xs its/\IsTup h a its.toArray
 |.dK kvs=>kvs.length<=sizeLine/\(a == sysModules)=false/\∃vs,KV kvs vs/\h.DictOf (cG P w) a vs
 | .dT kvs=>kvs.length<=sizeLine/\(a == sysModules)=false/\∃xs:List (List Key×Addr×Value),
   Paired (fun(p:List Key×V) (q:List Key×Addr×Value)=>p.1=q.1/\H q.2.1=some (.tup (p.1.map kV))/\cD p.2 q.2.2) kvs xs/\
   ∃o es ep,h.get? a=some o/\o.ExactDict/\o.data=.dict es ep/\es.toList=xs.map (entryOfKey (tupleKind (cG P w)))/\(xs.map (·.1)).Nodup
 |.set S n=>h.SetOf (intKind P w) a S n
 | .ins C dx fs=>H dx=some (.own a)/\fs.length<=1000/\dx≠a/\h.get? a=some (PySem.W.instObj C dx)/\
   ∃mA,h.Ns1 dx mA/\(∀f,qA (fs.lookup f) (mA f))/\PySem.Within mA (fs.map (·.1))
 |.own _=>∃o,h.get? a=some o
 |.xd fs=>∃mA,h.Ns1 a mA/\∀f,qA (fs.lookup f) (mA f)
 |.rng lo hi=>∃t u v,h.get? a=some { cls:=.type "range",data:=.fields #[.int lo t,.int hi u,.int 1 v] }
 |.frz o u=>h.get? a=some o/\cy H h a u
 |.tbl ps=>h.get? a=some { cls:=.none,data:=.fields ps }
 |.met f x=>h.get? a=some (PySem.W.methodObj (.ref f) (.ref x))
 |.ext φ=>φ h/\(∃o,h.get? a=some o)/\∀h1 h2:Heap,φ h1->(∀o,h1.get? a=some o->h2.get? a=some o)->φ h2
def HOk(H:Hp)(h:Heap):Prop:=∀a o,H a=some o->cy P w H h a o
end
section
variable{P:Program}{w:World}{H H':Hp}{h h':Heap}{a:Addr}{o:HO}
theorem cy.lt(x:cy P w H h a o):a<h.objs.size:=by
 cases o with
 |lst xs=>obtain⟨_,_,_,_,e⟩:=x;exact QB e
 |tup xs=>obtain⟨_,_,_,p⟩:=x;exact p.lt
 |dK kvs=>obtain⟨_,_,_,_,o,_,_,e,_⟩:=x;exact QB e
 |dT kvs=>obtain⟨_,_,_,_,o,_,_,e,_⟩:=x;exact QB e
 |set S n=>obtain⟨o,_,_,_,e,_⟩:=x;exact QB e
 |ins C dx fs=>obtain⟨_,_,_,e,_⟩:=x;exact QB e
 |own y=>obtain⟨_,e⟩:=x;exact QB e
 |xd fs=>obtain⟨_,⟨_,_,_,e,_⟩,_⟩:=x;exact QB e
 |rng lo hi=>obtain⟨_,_,_,e⟩:=x;exact QB e
 |frz ob u=>obtain⟨e,_⟩:=x;exact QB e
 |tbl ps=>exact QB (show h.get? a=some _ from x)
 |met f y=>exact QB (show h.get? a=some _ from x)
 |ext φ=>obtain⟨_,⟨_,e⟩,_⟩:=x;exact QB e
theorem Paired.mapP{α β:Type}{F G:α->β->Prop}:∀{l₁:List α} {l₂:List β},Paired F l₁ l₂->(∀a b,F a b->G a b)->Paired G l₁ l₂
 |_,_,.nil,_=>.nil
 |_,_,.cons r t,f=>.cons (f _ _ r) (Paired.mapP t f)
theorem cy.stay(x:cy P w H h a o)(k:∀b u,(b=a\/H b=some (.own a))->h.get? b=some u->h'.get? b=some u)
  (ho:∀b,H b=some (.own a)->H' b=some (.own a)) (ht:∀b xs,H b=some (.tup xs)->H' b=some (.tup xs)):cy P w H' h' a o:=by
 induction o with
 |lst xs=>obtain⟨z,its,n,r,e⟩:=x;exact⟨z,its,n,r,k _ _ (.inl rfl) e⟩
 |tup xs=>obtain⟨z,its,r,ob,e,c⟩:=x;exact⟨z,its,r,ob,k _ _ (.inl rfl) e,c⟩
 |dK kvs=>obtain⟨z,y,vs,r,ob,es,ep,e,c⟩:=x;exact⟨z,y,vs,r,ob,es,ep,k _ _ (.inl rfl) e,c⟩
 |dT kvs=>
  obtain⟨z,y,xs,r,ob,es,ep,e,c⟩:=x;exact⟨z,y,xs,Paired.mapP r fun p q z=>⟨z.1,ht _ _ z.2.1,z.2.2⟩,ob,es,ep,k _ _ (.inl rfl) e,c⟩
 |set S n=>obtain⟨ob,es,ep,t,e,c⟩:=x;exact⟨ob,es,ep,t,k _ _ (.inl rfl) e,c⟩
 |ins C dx fs=>
  obtain⟨d,z,ne,e,mA,⟨od,es,ep,e2,c⟩,r⟩:=x;exact⟨ho _ d,z,ne,k _ _ (.inl rfl) e,mA,⟨od,es,ep,k _ _ (.inr d) e2,c⟩,r⟩
 |own y=>obtain⟨ob,e⟩:=x;exact⟨ob,k _ _ (.inl rfl) e⟩
 |xd fs=>obtain⟨mA,⟨od,es,ep,e,c⟩,r⟩:=x;exact⟨mA,⟨od,es,ep,k _ _ (.inl rfl) e,c⟩,r⟩
 |rng lo hi=>obtain⟨t,u,v,e⟩:=x;exact⟨t,u,v,k _ _ (.inl rfl) e⟩
 |frz ob u ih=>obtain⟨e,q⟩:=x;exact⟨k _ _ (.inl rfl) e,ih q⟩
 |tbl ps=>
  have e:h.get? a=some { cls:=.none,data:=.fields ps }:=x;show h'.get? a=some { cls:=.none,data:=.fields ps };exact k a _ (.inl rfl) e
 |met f y=>
  have e:h.get? a=some (PySem.W.methodObj (.ref f) (.ref y)):=x;show h'.get? a=some (PySem.W.methodObj (.ref f) (.ref y));exact k a _ (.inl rfl) e
 |ext φ=>obtain⟨p,⟨o,e⟩,st⟩:=x;exact⟨st _ _ p fun o q=>k _ _ (.inl rfl) q,⟨o,k _ _ (.inl rfl) e⟩,st⟩
theorem HOk.lt(x:HOk P w H h)(e:H a=some o):a<h.objs.size:=(x a o e).lt
theorem HOk.fresh(x:HOk P w H h)(e:h.objs.size<=a):H a=none:=by
 cases q:H a with
 |none=>rfl
 |some u=>exact absurd (Qu (x.lt q) e) (Nat.lt_irrefl _)
theorem HOk.kept(x:HOk P w H h)(k:∀b u,h.get? b=some u->h'.get? b=some u):HOk P w H h':=fun a o e=>
 (x a o e).stay (fun b u _ q=>k b u q) (fun _ q=>q) fun _ _ q=>q
theorem HOk.laid(x:HOk P w H h)(k:∀b u,h.get? b=some u->h'.get? b=some u)(hp:h.objs.size<=a)(new:cy P w (upd H a o) h' a o):HOk P w (upd H a o) h':=fun b u e=>by
 have hn:=x.fresh hp;by_cases hb:b=a
 ·subst hb;rw[aN]at e;cases e;exact new
 ·rw[bA hb]at e;exact(x b u e).stay (fun c v _ q=>k c v q) (fun c q=>by rw[bA (cP q hn)];exact q) fun c xs q=>by rw[bA (cP q hn)];exact q
end
def Rd(H:Hp)(a:Addr)(u:HO):Prop:=H a=some u\/∃o,H a=some (.frz o u)
theorem Rd.ok{P:Program}{w:World}{H:Hp}{h:Heap}{a:Addr}{u:HO}(r:Rd H a u)(x:HOk P w H h):cy P w H h a u:=by
 rcases r with r|⟨o,r⟩
 ·exact x a u r
 ·obtain⟨_,q⟩:=x a _ r;exact q
def Mut:Option HO->Prop
 |some (.lst _)=>True
 |some (.dK _)=>True
 |some (.dT _)=>True
 |some (.set _ _)=>True
 |some (.ins _ _ _)=>True
 |some (.ext _)=>True
 |_=>False
section
variable{P:Program}{w:World}{H:Hp}{h h':Heap}{x e:Addr}{o':HO}
theorem HOk.write(ok:HOk P w H h)(mu:Mut (H x))(he:e=x\/H e=some (.own x))(k:∀b u,b≠e->h.get? b=some u->h'.get? b=some u)(heo:∃u,h'.get? e=some u)
  (new:cy P w (upd H x o') h' x o'):HOk P w (upd H x o') h':=fun b u q=>by
 have nown:∀c y,H c=some (.own y)->c≠x:=fun c y r z=>by subst z;rw[r]at mu;exact mu
 have ntup:∀c xs,H c=some (.tup xs)->c≠x:=fun c xs r z=>by subst z;rw[r]at mu;exact mu
 by_cases hb:b=x
 ·subst hb;rw[aN]at q;cases q;exact new
 ·rw[bA hb]at q;by_cases hbe:b=e
  ·have q':H b=some (.own x):=by
    rcases he with z|z
    ·exact absurd (hbe.trans z) hb
    ·rw[hbe];exact z
   rw[q]at q';cases q';obtain⟨v,hv⟩:=heo;exact⟨v,by rw[hbe];exact hv⟩
  ·refine(ok b u q).stay (fun c v hc r=>k c v ?_ r) (fun c r=>by rw[bA (nown c b r)];exact r) fun c xs r=>by rw[bA (ntup c xs r)];exact r
   rcases hc with rfl|hc
   ·exact hbe
   ·rintro rfl;rcases he with z|z
    ·exact nown c b hc z
    ·rw[hc]at z;cases z;exact hb rfl
end
structure Un(fs ex:List Addr)(H H':Hp)(h h':Heap):Prop where
 keep:∀b o,h.get? b=some o->H b=none->b∉fs->b∉ex->h'.get? b=some o
 slot:∀b o,h.get? b=some o->H b=none->b∈fs->b∉ex->∃sl,h'.get? b=some { o with slots:=sl }
 free:∀b o,h.get? b=some o->H b=none->b∉ex->H' b=none
 there:∀b o,h.get? b=some o->b∉ex->∃o',h'.get? b=some o'
 tups:∀b xs,H b=some (.tup xs)->H' b=some (.tup xs)
 frzs:∀b o u,H b=some (.frz o u)->H' b=some (.frz o u)
 tbls:∀b ps,H b=some (.tbl ps)->∃more,H' b=some (.tbl (ps++more))
section
variable{fs ex:List Addr}{H H1:Hp}{h h1 h':Heap}{a x e:Addr}{o:HO}
theorem Un.any(u:Un fs ex H H1 h h1){b:Addr}{ob:Obj}(q:h.get? b=some ob)(n:H b=none)(hx:b∉ex):∃sl,h1.get? b=some { ob with slots:=sl }:=by
 by_cases hb:b∈fs
 ·exact u.slot b ob q n hb hx
 ·exact⟨ob.slots,u.keep b ob q n hb hx⟩
theorem Un.kept(k:∀b u,h.get? b=some u->h'.get? b=some u):Un fs ex H H h h':=
 ⟨fun b ob q _ _ _=>k b ob q,fun b ob q _ _ _=>⟨ob.slots,k b ob q⟩,fun _ _ _ n _=>n,fun b ob q _=>⟨ob,k b ob q⟩,fun _ _ q=>q,fun _ _ _ q=>q,fun _ ps q=>⟨#[],by rw[q];simp⟩⟩
theorem Un.refl:Un fs ex H H h h:=Un.kept fun _ _ q=>q
theorem Un.laid(k:∀b u,h.get? b=some u->h'.get? b=some u)(hp:h.objs.size<=a)(hn:H a=none):Un fs ex H (upd H a o) h h' where
 keep:=fun b u q _ _ _=>k b u q
 slot:=fun b u q _ _ _=>⟨u.slots,k b u q⟩
 free:=fun b u q n _=>by rw[bA (Qr (Qu (QB q) hp))];exact n
 there:=fun b u q _=>⟨u,k b u q⟩
 tups:=fun b xs q=>by rw[bA (cP q hn)];exact q
 frzs:=fun b u xs q=>by rw[bA (cP q hn)];exact q
 tbls:=fun b ps q=>⟨#[],by rw[bA (cP q hn),q];simp⟩
theorem Un.write(mu:Mut (H x))(he:e=x\/H e=some (.own x))(k:∀b u,b≠e->h.get? b=some u->h'.get? b=some u)(heo:∃u,h'.get? e=some u):Un fs ex H (upd H x o) h h':=by
 have hx:∀b,H b=none->b≠x:=fun b n z=>by subst z;rw[n]at mu;exact mu
 have hb:∀b,H b=none->b≠e:=fun b n z=>by
  subst z;rcases he with r|r
  ·exact hx b n r
  ·rw[n]at r;cases r
 have hm:∀b u,H b=some u->¬Mut (some u)->b≠x:=fun b u q nm z=>by subst z;rw[q]at mu;exact nm mu
 refine⟨fun b u q n _ _=>k b u (hb b n) q,fun b u q n _ _=>⟨u.slots,k b u (hb b n) q⟩,fun b u q n _=>by rw[bA (hx b n)];exact n,fun b u q _=>?_,
  fun b xs q=>by rw[bA (hm b _ q fun z=>z)];exact q,fun b u xs q=>by rw[bA (hm b _ q fun z=>z)];exact q,fun b ps q=>⟨#[],by rw[bA (hm b _ q fun z=>z),q];simp⟩⟩
 by_cases hbe:b=e
 ·subst hbe;exact heo
 ·exact⟨u,k b u hbe q⟩
end
def trk(h:Heap)(H:Hp):List Addr:=(Qi h.objs.size).filter fun a=>(H a).isSome
def C6(h:Heap)(H:Hp):Heap:=PySem.W.hideAll h (trk h H)
theorem Ae(h:Heap)(H:Hp):(C6 h H).objs.size=h.objs.size:=PySem.W.hideAll_size _ _
theorem C5{h:Heap}{H:Hp}{b:Addr}{o:Obj}(e:h.get? b=some o)(n:H b=none):(C6 h H).get? b=some o:=
 PySem.W.hideAll_get _ e fun hm=>by
  have q:(H b).isSome=true:=(Qp.mp hm).2;rw[n]at q;simp at q
theorem Gm{h:Heap}{H:Hp}{b:Addr}{o:Obj}(e:(C6 h H).get? b=some o):h.get? b=some o/\H b=none:=by
 have e':h.get? b=some o:=PySem.W.of_hideAll (trk h H) e;refine⟨e',?_⟩;cases q:H b with
 |none=>rfl
 |some x=>
  have hm:b∈trk h H:=Qp.mpr ⟨List.mem_range.mpr (QB e'),by simp[q]⟩;have z:(C6 h H).get? b=none:=PySem.W.hideAll_none (trk h H) hm;rw[z]at e;cases e
structure Mod(K:Q1)(mg:Str->Option Value)(base:Heap):Prop where
 kin:K.In base
 glob:base.Ns mainGlobals mg
 blt:∃mb,base.Ns builtinsNs mb/\∀x:Str,x≠"__name__"->mb x=bootBuiltins x
 nolimit:base.NoLimit
structure Cx where
 prog:Program
 w:World
 K:Q1
 mg:Str->Option Value
 base:Heap
 A:Around
 N:List Str
 s₀:Shared
 H₀:Hp
 env:Env
 outer:List Env
 stack:List Env
 ex:List Addr
 fn:Str->Bool
 calm:Bool
 pn:List (Addr×Obj)
 xe:Value->Shared->Prop
def frs(l:List Env):List Addr:=l.filterMap (·.frame)
abbrev Cx.fs(X:Cx):List Addr:=frs X.outer
def Vis(sc:Scope)(x:Str):Prop:=sc.names.lookup x=some .local\/sc.names.lookup x=some .cell\/sc.names.lookup x=some .free
def Loc(sc:Scope)(x:Str):Prop:=sc.names.lookup x=some .local\/sc.names.lookup x=some .cell
def O9(env:Env)(h:Heap)(m:Str->Option Value)(x:Str)(u:Value):Prop:=
 (env.kindOf x=some .local/\m x=some u)\/((env.kindOf x=some .cell\/env.kindOf x=some .free)/\∃c,env.cells.lookup x=some c/\h.IsCell c (some u))
structure Cx.Ok(X:Cx):Prop where
 mod:Mod X.K X.mg X.base
 kind:X.env.scope.kind=.function
 glob:X.env.globals=mainGlobals
 blt:X.env.builtins=builtinsNs
 above:X.s₀.heap.objs.size<=X.env.locals
 inj:∀x y c,X.env.cells.lookup x=some c->X.env.cells.lookup y=some c->x=y
 has:∀x,(X.env.kindOf x=some .cell\/X.env.kindOf x=some .free)->∃c,X.env.cells.lookup x=some c
 cab:∀x c,X.fn x=true->X.env.cells.lookup x=some c->X.s₀.heap.objs.size<=c
 hd:X.calm=true->X.A.handled=none
 frames:X.A.frames=some X.stack
 stk:X.stack=X.outer\/(X.stack=X.env::X.outer/\X.env.frame=some X.env.locals)
 exf:∀b∈X.ex,b≠X.env.locals/\∀x c,X.env.cells.lookup x=some c->c≠b
 bs:∀b o,X.base.get? b=some o->X.s₀.heap.get? b=some o/\X.H₀ b=none
 bsz:X.base.objs.size<=X.s₀.heap.objs.size
 noex:∀b o,X.base.get? b=some o->b∉X.ex
 exfs:∀b∈X.ex,b∉X.fs
 funs:X.s₀.heap.FunFrames X.base X.outer
 frf:∀b∈X.fs,X.H₀ b=none
structure Inv(X:Cx)(pins:List (Addr×Obj))(σ:List (Option V))(H:Hp)(s:Shared):Prop where
 ok:X.Ok
 os:s.os=X.s₀.os
 bare:AllBare s.gens
 base:Un X.fs X.ex X.H₀ H X.s₀.heap s.heap
 loc:∃m,s.heap.Ns X.env.locals m/\∀(i:Nat) (x:Str) (v:V),X.N[i]?=some x->σ[i]?=some (some v)->Vis X.env.scope x->∃u,cD v u/\O9 X.env s.heap m x u
 cell:∀x c,X.env.cells.lookup x=some c->∃v,s.heap.IsCell c v
 free:H X.env.locals=none
 freeC:∀x c,X.env.cells.lookup x=some c->H c=none
 pin:∀p∈X.pn++pins,s.heap.get? p.1=some p.2/\H p.1=none/\p.1≠X.env.locals/\p.1∉X.fs/\∀v,p.2.data≠.cell v
 hok:HOk X.prog X.w H s.heap
 len:σ.length=X.N.length
section
variable{X:Cx}{pins:List (Addr×Obj)}{σ:List (Option V)}{H H':Hp}{s:Shared}{h':Heap}
theorem Cx.Ok.nofr(ok:X.Ok){b:Addr}{o:Obj}(e:X.base.get? b=some o):b∉X.fs:=fun hb=>by
 have:=(ok.funs.mem hb).1;rw[e]at this;cases this
theorem Inv.bs(I:Inv X pins σ H s):∀b o,X.base.get? b=some o->s.heap.get? b=some o/\H b=none:=fun b o e=>
 ⟨I.base.keep b o (I.ok.bs b o e).1 (I.ok.bs b o e).2 (I.ok.nofr e) (I.ok.noex b o e),I.base.free b o (I.ok.bs b o e).1 (I.ok.bs b o e).2 (I.ok.noex b o e)⟩
theorem Inv.bk(I:Inv X pins σ H s):∀b o,X.base.get? b=some o->s.heap.get? b=some o:=fun b o e=>(I.bs b o e).1
theorem Inv.mod(I:Inv X pins σ H s):Mod X.K X.mg X.base:=I.ok.mod
theorem Inv.kIn(I:Inv X pins σ H s):X.K.In s.heap:=I.ok.mod.kin.keeps I.bk
theorem Inv.lt(I:Inv X pins σ H s):X.env.locals<s.heap.objs.size:=let ⟨_,hn,_⟩:=I.loc;hn.lt
theorem Inv.sz(I:Inv X pins σ H s):X.s₀.heap.objs.size<=s.heap.objs.size:=Qj I.ok.above (Nat.le_of_lt I.lt)
theorem Inv.nofs(I:Inv X pins σ H s){a:Addr}(h:s.heap.objs.size<=a):a∉X.fs:=fun hb=>by
 obtain⟨_,o,ho,_⟩:=I.ok.funs.mem hb;exact absurd (Qu (QB ho) (Qj I.sz h)) (Nat.lt_irrefl _)
theorem Inv.cne(I:Inv X pins σ H s):∀x c,X.env.cells.lookup x=some c->c≠X.env.locals:=fun x c e z=>by
 obtain⟨v,o,ho,hd⟩:=I.cell x c e;obtain⟨m,⟨o',es,ep,ho',hd',_⟩,_⟩:=I.loc;rw[z,ho']at ho;cases ho;rw[hd']at hd;cases hd
theorem Inv.funs(I:Inv X pins σ H s):s.heap.FunFrames X.base X.outer:=by
 have all:∀(l:List Env),(∀b∈frs l,b∈X.fs)->X.s₀.heap.FunFrames X.base l->s.heap.FunFrames X.base l:=by
  intro l;induction l with
  |nil=>intro _ _;trivial
  |cons env r ih=>
   intro hs hl;obtain⟨hk,⟨L,o,hf,hn,ho,hd⟩,hr⟩:=hl;have hL:L∈X.fs:=hs L (by unfold frs;rw[ZD,hf];exact QU);obtain⟨sl,e⟩:=I.base.slot L o ho (I.ok.frf L hL) hL fun z=>I.ok.exfs L z hL;exact⟨hk,⟨L,_,hf,hn,e,hd⟩,ih (fun b hb=>hs b (by unfold frs;rw[ZD,hf];exact QD _ hb)) hr⟩
 exact all X.outer (fun _ hb=>hb) I.ok.funs
theorem Inv.stack(I:Inv X pins σ H s):s.heap.FunFrames X.base X.stack:=by
 rcases I.ok.stk with e|⟨e,hf⟩
 ·rw[e];exact I.funs
 ·rw[e];obtain⟨m,hn,_⟩:=I.loc;refine .cons (by rw[I.ok.kind];decide) hf hn ?_ I.funs;exact Heap.get?_none_of_le (Qj I.ok.bsz I.ok.above)
theorem Inv.stkSub(I:Inv X pins σ H s):∀b∈frs X.stack,b∈X.env.locals::X.fs:=fun b hb=>by
 rcases I.ok.stk with e|⟨e,hf⟩
 ·rw[e]at hb;exact QD _ hb
 ·rw[e]at hb;unfold frs at hb;rw[ZD,hf]at hb;exact hb
theorem Inv.stkFree(I:Inv X pins σ H s):∀b∈frs X.stack,H b=none:=fun b hb=>by
 rcases QM.mp (I.stkSub b hb)with e|hb
 ·rw[e];exact I.free
 ·obtain⟨_,o,ho,_⟩:=I.ok.funs.mem hb;exact I.base.free b o ho (I.ok.frf b hb) fun z=>I.ok.exfs b z hb
theorem Inv.step{g':Array GenState}{t':Nat}{d':Drawn}{ch:List Addr}(I:Inv X pins σ H s)
  (hch:∀b∈ch,(b∈X.ex\/X.s₀.heap.objs.size<=b)/\b≠X.env.locals/\(∀x c,X.env.cells.lookup x=some c->c≠b)/\∀p∈X.pn++pins,p.1≠b)
  (keep:∀b o,b≠X.env.locals->b∉X.fs->b∉ch->s.heap.get? b=some o->H b=none->h'.get? b=some o)
  (slot:∀b o,b≠X.env.locals->b∈X.fs->b∉ch->s.heap.get? b=some o->H b=none->∃sl,h'.get? b=some { o with slots:=sl }) (free:∀b o,b∉ch->s.heap.get? b=some o->H b=none->H' b=none)
  (there:∀b o,b∉ch->s.heap.get? b=some o->∃o',h'.get? b=some o')
  (tups:∀b xs,H b=some (.tup xs)->H' b=some (.tup xs)) (frzs:∀b o u,H b=some (.frz o u)->H' b=some (.frz o u)) (tbls:∀b ps,H b=some (.tbl ps)->∃more,H' b=some (.tbl (ps++more)))
  (ns:∀m,s.heap.Ns X.env.locals m->h'.Ns X.env.locals m) (hok:HOk X.prog X.w H' h') (hg:AllBare g') :
  Inv X pins σ H' { s with heap:=h',gens:=g',drawn:=d',toks:=t' }:=by
 have neL:∀b o,X.s₀.heap.get? b=some o->b≠X.env.locals:=fun b o e=>Qr (Qu (QB e) I.ok.above);have neC:∀b o,X.s₀.heap.get? b=some o->b∉X.ex->b∉ch:=fun b o e hx hb=>by
  rcases(hch b hb).1 with z|z
  ·exact hx z
  ·exact absurd (Qu (QB e) z) (Nat.lt_irrefl _)
 have cellK:∀x c,X.env.cells.lookup x=some c->∀v,s.heap.IsCell c v->h'.IsCell c v:=fun x c e v ⟨o,ho,hd⟩=>by
  have nch:c∉ch:=fun z=>(hch c z).2.2.1 x c e rfl;by_cases hc:c∈X.fs
  ·obtain⟨sl,q⟩:=slot c o (I.cne x c e) hc nch ho (I.freeC x c e);exact⟨_,q,hd⟩
  ·exact⟨o,keep c o (I.cne x c e) hc nch ho (I.freeC x c e),hd⟩
 refine⟨I.ok,I.os,hg,⟨fun b o e n hb hx=>?_,fun b o e n hb hx=>?_,fun b o e n hx=>?_,fun b o e hx=>?_,fun b xs e=>tups b xs (I.base.tups b xs e),fun b o xs e=>frzs b o xs (I.base.frzs b o xs e),fun b ps e=>?_⟩,?_,fun x c e=>?_,?_,fun x c e=>?_,fun p hp=>?_,hok,I.len⟩
 ·exact keep b o (neL b o e) hb (neC b o e hx) (I.base.keep b o e n hb hx) (I.base.free b o e n hx)
 ·obtain⟨sl,e1⟩:=I.base.slot b o e n hb hx;obtain⟨sl',e2⟩:=slot b _ (neL b o e) hb (neC b o e hx) e1 (I.base.free b o e n hx);exact⟨sl',e2⟩
 ·obtain⟨o',e1⟩:=I.base.there b o e hx;exact free b o' (neC b o e hx) e1 (I.base.free b o e n hx)
 ·obtain⟨o',e1⟩:=I.base.there b o e hx;exact there b o' (neC b o e hx) e1
 ·obtain⟨m1,e1⟩:=I.base.tbls b ps e;obtain⟨m2,e2⟩:=tbls b _ e1;exact⟨m1++m2,by rw[e2,Array.append_assoc]⟩
 ·obtain⟨m,hn,hl⟩:=I.loc;refine⟨m,ns m hn,fun i x v e1 e2 e3=>?_⟩;obtain⟨u,r,l⟩:=hl i x v e1 e2 e3;refine⟨u,r,?_⟩;rcases l with l|⟨k,c,e,z⟩
  ·exact .inl l
  ·exact .inr ⟨k,c,e,cellK x c e _ z⟩
 ·obtain⟨v,z⟩:=I.cell x c e;exact⟨v,cellK x c e v z⟩
 ·obtain⟨m,⟨o,_,_,ho,_⟩,_⟩:=I.loc;exact free _ o (fun z=>(hch _ z).2.1 rfl) ho I.free
 ·obtain⟨v,o,ho,hd⟩:=I.cell x c e;exact free c o (fun z=>(hch c z).2.2.1 x c e rfl) ho (I.freeC x c e)
 ·obtain⟨e,n,ne,nf,d⟩:=I.pin p hp;have nch:p.1∉ch:=fun z=>(hch p.1 z).2.2.2 p hp rfl;exact⟨keep p.1 p.2 ne nf nch e n,free p.1 p.2 nch e n,ne,nf,d⟩
theorem Inv.un{t':Nat}(I:Inv X pins σ H s)(u:Un X.fs [] H H' s.heap h')(hok:HOk X.prog X.w H' h'):Inv X pins σ H' { s with heap:=h',toks:=t' }:=by
 obtain⟨m,⟨o,es,ep,ho,r⟩,_⟩:=id I.loc;obtain⟨sl,hL⟩:=u.any ho I.free (by simp);exact I.step (g':=s.gens) (d':=s.drawn) (ch:=[]) (fun _ z=>nomatch z) (fun b o _ hb _ e n=>u.keep b o e n hb (by simp)) (fun b o _ hb _ e n=>u.slot b o e n hb (by simp)) (fun b o _ e n=>u.free b o e n (by simp)) (fun b o _ e=>u.there b o e (by simp)) u.tups u.frzs u.tbls (fun m' hm=>by
  obtain⟨o',es',ep',ho',r'⟩:=hm;rw[ho]at ho';cases ho';exact⟨_,es',ep',hL,r'⟩) hok I.bare
theorem Inv.call{g':Array GenState}{t':Nat}{d':Drawn}{ch:List Addr}(I:Inv X pins σ H s)(u:Un (frs X.stack) ch H H' s.heap h')(hok:HOk X.prog X.w H' h')(hg:AllBare g')
  (hch:∀b∈ch,(b∈X.ex\/X.s₀.heap.objs.size<=b)/\b≠X.env.locals/\(∀x c,X.env.cells.lookup x=some c->c≠b)/\∀p∈X.pn++pins,p.1≠b) :
  Inv X pins σ H' { s with heap:=h',gens:=g',drawn:=d',toks:=t' }:=by
 obtain⟨m,⟨o,es,ep,ho,r⟩,_⟩:=id I.loc;obtain⟨sl,hL⟩:=u.any ho I.free fun z=>(hch _ z).2.1 rfl;exact I.step (ch:=ch) hch (fun b o hL hb hc e n=>u.keep b o e n (fun z=>(QM.mp (I.stkSub b z)).elim hL hb) hc) (fun b o _ _ hc e n=>u.any e n hc) (fun b o hc e n=>u.free b o e n hc) (fun b o hc e=>u.there b o e hc) u.tups u.frzs u.tbls (fun m' hm=>by
  obtain⟨o',es',ep',ho',r'⟩:=hm;rw[ho]at ho';cases ho';exact⟨_,es',ep',hL,r'⟩) hok hg
theorem Inv.turned{t':Nat}{it:Addr}(I:Inv X pins σ H s)(k:∀b o,b≠it->s.heap.get? b=some o->h'.get? b=some o)(hn:H it=none)(hL:it≠X.env.locals)
  (h1:it∈X.ex\/X.s₀.heap.objs.size<=it) (h2:∀x c,X.env.cells.lookup x=some c->c≠it) (h3:∀p∈X.pn++pins,p.1≠it):Inv X pins σ H { s with heap:=h',toks:=t' }:=by
 have nit:∀b u,H b=some u->b≠it:=fun b u e z=>by rw[z,hn]at e;cases e
 refine I.step (g':=s.gens) (d':=s.drawn) (ch:=[it]) (fun b hb=>?_) (fun b o _ _ hc e _=>k b o (fun z=>hc (by simp[z])) e) (fun b o _ _ hc e _=>⟨o.slots,k b o (fun z=>hc (by simp[z])) e⟩) (fun _ _ _ _ n=>n)
  (fun b o hc e=>⟨o,k b o (fun z=>hc (by simp[z])) e⟩) (fun _ _ e=>e) (fun _ _ _ e=>e) (fun b ps e=>⟨#[],by rw[e];simp⟩) (fun m hm=>?_) (fun b u e=>?_) I.bare
 ·have e:b=it:=by simpa using hb
  subst e;exact⟨h1,hL,h2,h3⟩
 ·obtain⟨o,es,ep,ho,r⟩:=hm;exact⟨o,es,ep,k _ o (Ne.symm hL) ho,r⟩
 ·refine(I.hok b u e).stay (fun c v hc q=>k c v ?_ q) (fun _ q=>q) fun _ _ q=>q;rcases hc with z|z
  ·rw[z];exact nit b u e
  ·exact nit c _ z
theorem Inv.tok(I:Inv X pins σ H s)(t:Nat):Inv X pins σ H { s with toks:=t }:=I.un (h':=s.heap) (t':=t) Un.refl I.hok
theorem Inv.kept{t':Nat}(I:Inv X pins σ H s)(k:∀b u,s.heap.get? b=some u->h'.get? b=some u):Inv X pins σ H { s with heap:=h',toks:=t' }:=I.un (Un.kept k) (I.hok.kept k)
theorem Inv.laid{a:Addr}{o:HO}{t':Nat}(I:Inv X pins σ H s)(k:∀b u,s.heap.get? b=some u->h'.get? b=some u)(hp:s.heap.objs.size<=a)(new:cy X.prog X.w (upd H a o) h' a o) :
  Inv X pins σ (upd H a o) { s with heap:=h',toks:=t' }:=I.un (Un.laid k hp (I.hok.fresh hp)) (I.hok.laid k hp new)
theorem Inv.write{x e:Addr}{o:HO}{t':Nat}(I:Inv X pins σ H s)(mu:Mut (H x))(he:e=x\/H e=some (.own x))(k:∀b u,b≠e->s.heap.get? b=some u->h'.get? b=some u)(heo:∃u,h'.get? e=some u)
  (new:cy X.prog X.w (upd H x o) h' x o):Inv X pins σ (upd H x o) { s with heap:=h',toks:=t' }:=I.un (Un.write mu he k heo) (I.hok.write mu he k heo new)
theorem Inv.pins_of{pins':List (Addr×Obj)}(I:Inv X pins σ H s)(h:∀p∈pins',s.heap.get? p.1=some p.2/\H p.1=none/\p.1≠X.env.locals/\p.1∉X.fs/\∀v,p.2.data≠.cell v):Inv X pins' σ H s:=
 ⟨I.ok,I.os,I.bare,I.base,I.loc,I.cell,I.free,I.freeC,fun p hp=>(Qw.mp hp).elim (fun z=>I.pin p (Qd _ z)) (h p),I.hok,I.len⟩
theorem v7{N:List Str}(hN:N.Nodup){i j:Nat}{x:Str}(a:N[i]?=some x)(b:N[j]?=some x):i=j:=by
 obtain⟨h1,e1⟩:=Q9.mp a;obtain⟨h2,e2⟩:=Q9.mp b;exact(List.getElem_inj hN).mp (e1.trans e2.symm)
theorem nO{M:Model}{A:Around}{E:Value->Shared->Prop}{i:Nat}{x:Str}{v:V}{u:Value}{Q:Unit->Shared->Prop}(I:Inv X pins σ H s)(hN:X.N.Nodup)(hi:X.N[i]?=some x)(hx:Loc X.env.scope x)(r:cD v u)
  (h:∀s',Inv X pins (σ.set i (some v)) H s'->(∃a,ZT a s.heap s'.heap/\(a=X.env.locals\/X.env.cells.lookup x=some a))->Q () s') (hf:X.fn x=true\/X.env.scope.names.lookup x=some .local:=by first|exact .inl rfl|exact .inr rfl|assumption):wpAny M A (storeName X.env x u) Q E s:=by
 obtain⟨m,hn,hl⟩:=id I.loc;have hcls:(X.env.scope.kind == .class||(X.env.scope.kind == .module&&X.env.locals !=X.env.globals))=false:=by rw[I.ok.kind];rfl
 have hiσ:i < σ.length:=by rw[I.len];exact(Q9.mp hi).1
 have cne:=I.cne;have tracked:∀{a:Addr} {h':Heap},(∃o,s.heap.get? a=some o/\H a=none)->ZT a s.heap h'->HOk X.prog X.w H h':=fun{a h'} ha hs b ob e=>by
  obtain⟨_,_,hfree⟩:=ha;refine(I.hok b ob e).stay (fun c w' hc q=>(hs.2 c ?_).trans q) (fun _ q=>q) fun _ _ q=>q;rintro rfl;rcases hc with rfl|hc
  ·rw[hfree]at e;cases e
  ·rw[hfree]at hc;cases hc
 rcases hx with hk|hk
 ·refine wpAny_storeName_local hk hn (fun h' hn' hs=>?_) hcls;obtain⟨oL,_,_,hoL,_⟩:=id hn;refine h _ ⟨I.ok,I.os,I.bare,⟨fun b o e n hb hx=>?_,fun b o e n hb hx=>?_,I.base.free,fun b o e hx=>?_,I.base.tups,I.base.frzs,I.base.tbls⟩,⟨_,hn',fun j y v' e1 e2 e3=>?_⟩,fun y c e=>?_,I.free,I.freeC,fun p hp=>?_,tracked ⟨oL,hoL,I.free⟩ hs,by simpa using I.len⟩ ⟨_,hs,.inl rfl⟩
  ·exact(hs.2 b (Qr (Qu (QB e) I.ok.above))).trans (I.base.keep b o e n hb hx)
  ·obtain⟨sl,e1⟩:=I.base.slot b o e n hb hx;exact⟨sl,(hs.2 b (Qr (Qu (QB e) I.ok.above))).trans e1⟩
  ·obtain⟨o',e1⟩:=I.base.there b o e hx;exact⟨o',(hs.2 b (Qr (Qu (QB e) I.ok.above))).trans e1⟩
  ·by_cases hj:j=i
   ·subst hj;rw[hi]at e1;cases e1;rw[ZP hiσ]at e2;cases e2;exact⟨u,r,.inl ⟨hk,by simp⟩⟩
   ·rw[Qy (Ne.symm hj)]at e2;obtain⟨u',r',q⟩:=hl j y v' e1 e2 e3;refine⟨u',r',?_⟩;rcases q with⟨k,e⟩|⟨k,c,e,z⟩
    ·refine .inl ⟨k,?_⟩;have:y≠x:=fun e=>hj (v7 hN e1 (e▸hi));simp[this,e]
    ·exact .inr ⟨k,c,e,z.sameBut hs (cne y c e)⟩
  ·obtain⟨w',z⟩:=I.cell y c e;exact⟨w',z.sameBut hs (cne y c e)⟩
  ·obtain⟨e,n,ne,nf,d⟩:=I.pin p hp;exact⟨(hs.2 p.1 ne).trans e,n,ne,nf,d⟩
 ·have hfn:X.fn x=true:=by
   rcases hf with z|z
   ·exact z
   ·rw[z]at hk;cases hk
  obtain⟨c,hc⟩:=I.ok.has x (.inl hk);obtain⟨w',z⟩:=I.cell x c hc;refine wpAny_storeName_cell I.ok.kind hk hc z (fun h' hc' hs=>?_);obtain⟨oc,hoc,hocd⟩:=id z;refine h { s with heap:=h' } ⟨I.ok,I.os,I.bare,⟨fun b o e n hb hx=>?_,fun b o e n hb hx=>?_,I.base.free,fun b o e hx=>?_,I.base.tups,I.base.frzs,I.base.tbls⟩,⟨m,hn.sameBut hs (Ne.symm (cne x c hc)),fun j y v' e1 e2 e3=>?_⟩,fun y c' e=>?_,I.free,I.freeC,fun p hp=>?_,tracked ⟨oc,hoc,I.freeC x c hc⟩ hs,by simpa using I.len⟩ ⟨c,hs,.inr hc⟩
  ·exact(hs.2 b (Qr (Qu (QB e) (I.ok.cab x c hfn hc)))).trans (I.base.keep b o e n hb hx)
  ·obtain⟨sl,e1⟩:=I.base.slot b o e n hb hx;exact⟨sl,(hs.2 b (Qr (Qu (QB e) (I.ok.cab x c hfn hc)))).trans e1⟩
  ·obtain⟨o',e1⟩:=I.base.there b o e hx;exact⟨o',(hs.2 b (Qr (Qu (QB e) (I.ok.cab x c hfn hc)))).trans e1⟩
  ·by_cases hj:j=i
   ·subst hj;rw[hi]at e1;cases e1;rw[ZP hiσ]at e2;cases e2;exact⟨u,r,.inr ⟨.inl hk,c,hc,hc'⟩⟩
   ·rw[Qy (Ne.symm hj)]at e2;obtain⟨u',r',q⟩:=hl j y v' e1 e2 e3;refine⟨u',r',?_⟩;rcases q with q|⟨k,c',e,z'⟩
    ·exact .inl q
    ·refine .inr ⟨k,c',e,z'.sameBut hs ?_⟩;rintro rfl;exact hj (v7 hN e1 (I.ok.inj _ _ _ e hc▸hi))
  ·by_cases hcc:c'=c
   ·subst hcc;exact⟨_,hc'⟩
   ·obtain⟨w2,z2⟩:=I.cell y c' e;exact⟨w2,z2.sameBut hs hcc⟩
  ·obtain⟨e,n,ne,nf,d⟩:=I.pin p hp;refine⟨(hs.2 p.1 ?_).trans e,n,ne,nf,d⟩;intro q;rw[q,hoc]at e;have q':oc=p.2:=Option.some.inj e;exact d w' (by rw[<-q'];exact hocd)
theorem vL{M:Model}{A:Around}{E:Value->Shared->Prop}{i:Nat}{x:Str}{v:V}{u:Value}{Q:Unit->Shared->Prop}(I:Inv X pins σ H s)(hN:X.N.Nodup)(hi:X.N[i]?=some x)(hx:Loc X.env.scope x)(r:cD v u)
  (h:∀s',Inv X pins (σ.set i (some v)) H s'->Q () s') (hf:X.fn x=true\/X.env.scope.names.lookup x=some .local:=by first|exact .inl rfl|exact .inr rfl|assumption):wpAny M A (storeName X.env x u) Q E s:=
 nO I hN hi hx r (fun s' I' _=>h s' I') hf
theorem Inv.call'{s':Shared}{ch:List Addr}(I:Inv X pins σ H s)(ho:s'.os=s.os)(u:Un (frs X.stack) ch H H' s.heap s'.heap)(hok:HOk X.prog X.w H' s'.heap)(hg:AllBare s'.gens)
  (hch:∀b∈ch,(b∈X.ex\/X.s₀.heap.objs.size<=b)/\b≠X.env.locals/\(∀x c,X.env.cells.lookup x=some c->c≠b)/\∀p∈X.pn++pins,p.1≠b):Inv X pins σ H' s':=by
 obtain⟨h',g',d',t',o'⟩:=s';have e:o'=s.os:=ho;subst e;exact I.call (g':=g') (t':=t') (d':=d') u hok hg hch
end
abbrev XK:=Value->Option Addr->Hp->Prop
abbrev St:=List (Option V)
abbrev VK:=V->Hp->Prop
abbrev TE:=St->Hp->VK->Prop
abbrev TT:=St->Hp->(Bool->Hp->Prop)->Prop
abbrev TA:=St->Hp->(List V->Hp->Prop)->Prop
structure Bo where
 nx:St->Hp->Prop
 rt:VK
 bk:St->Hp->Prop:=fun _ _=>False
 ct:St->Hp->Prop:=fun _ _=>False
abbrev TS:=Bo->St->Hp->Prop
def EP(X:Cx)(pins:List (Addr×Obj))(σ:St)(Q:VK)(u:Value)(s':Shared):Prop:=∃v H',Inv X pins σ H' s'/\cD v u/\Q v H'
def TP(X:Cx)(pins:List (Addr×Obj))(σ:St)(Q:Bool->Hp->Prop)(b:Bool)(s':Shared):Prop:=∃H',Inv X pins σ H' s'/\Q b H'
def AP(X:Cx)(pins:List (Addr×Obj))(σ:St)(Q:List V->Hp->Prop)(us:List Value)(s':Shared):Prop:=∃vs H',Inv X pins σ H' s'/\bU vs us/\Q vs H'
def SP(X:Cx)(pins:List (Addr×Obj))(D:Bo)(f:Flow)(s':Shared):Prop:=
 match f with
 |.next=>∃σ' H',Inv X pins σ' H' s'/\D.nx σ' H'
 |.brk=>∃σ' H',Inv X pins σ' H' s'/\D.bk σ' H'
 |.cont=>∃σ' H',Inv X pins σ' H' s'/\D.ct σ' H'
 |.ret u=>∃v σ' H',Inv X pins σ' H' s'/\cD v u/\D.rt v H'
def PE(X:Cx)(e:Expr)(t:TE):Prop:=
 ∀(pins:List (Addr×Obj)) (s:Shared) (σ:St) (H:Hp) (Q:VK),Inv X pins σ H s->t σ H Q->wpAny (model X.prog X.w) X.A (eval e X.env) (EP X pins σ Q) X.xe s
def PT(X:Cx)(e:Expr)(t:TT):Prop:=
 ∀(pins:List (Addr×Obj)) (s:Shared) (σ:St) (H:Hp) (Q:Bool->Hp->Prop),Inv X pins σ H s->t σ H Q->wpAny (model X.prog X.w) X.A (isTrue e X.env (eval e X.env)) (TP X pins σ Q) X.xe s
def PW(X:Cx)(e:Expr)(t:TT):Prop:=
 ∀(whole:Sem Value) (pins:List (Addr×Obj)) (s:Shared) (σ:St) (H:Hp) (Q:Bool->Hp->Prop),Inv X pins σ H s->t σ H Q->wpAny (model X.prog X.w) X.A (isTrue e X.env whole) (TP X pins σ Q) X.xe s
theorem PW.pt{X:Cx}{e:Expr}{t:TT}(h:PW X e t):PT X e t:=h _
def PA(X:Cx)(es:List Expr)(t:TA):Prop:=
 ∀(pos:Pos) (pins:List (Addr×Obj)) (s:Shared) (σ:St) (H:Hp) (Q:List V->Hp->Prop),Inv X pins σ H s->t σ H Q->wpAny (model X.prog X.w) X.A (spliced (backTo pos (starEach es X.env))) (AP X pins σ Q) X.xe s
def PS(X:Cx)(st:Stmt)(t:TS):Prop:=
 ∀(pins:List (Addr×Obj)) (s:Shared) (σ:St) (H:Hp) (D:Bo),Inv X pins σ H s->t D σ H->wpAny (model X.prog X.w) X.A (exec st X.env) (SP X pins D) X.xe s
def PSs(X:Cx)(st:List Stmt)(t:TS):Prop:=
 ∀(pins:List (Addr×Obj)) (s:Shared) (σ:St) (H:Hp) (D:Bo),Inv X pins σ H s->t D σ H->wpAny (model X.prog X.w) X.A (execs st X.env) (SP X pins D) X.xe s
theorem thn{α:Type}{t:Sem α}{Q Q':α->Shared->Prop}{M:Model}{A:Around}{E:Value->Shared->Prop}{s:Shared}(h:wpAny M A t Q E s)(hQ:∀a s,Q a s->Q' a s):wpAny M A t Q' E s:=Z9 h hQ fun _ _ x=>x
section
variable{X:Cx}
def Le(i:Nat):TE:=fun σ H Q=>∃v,σ[i]?=some (some v)/\Q v H
def tC(v:V):TE:=fun _ H Q=>Q v H
theorem JJ{i:Nat}{x:Str}{pos:Pos}(hN:X.N[i]?=some x)(hv:Vis X.env.scope x)(hd:(x == ("__debug__":Str))=false:=by decide)(hcd:(x == ("__classdict__":Str))=false:=by decide):PE X (.Name x pos) (Le i):=by
 intro pins s σ H Q I h;obtain⟨v,e,h⟩:=h;obtain⟨m,hn,hl⟩:=I.loc;obtain⟨u,r,l⟩:=hl i x v hN e hv;have fin:EP X pins σ Q u s:=⟨v,H,I,r,h⟩;rcases l with⟨hk,hm⟩|⟨hk,c,hc,hcell⟩
 ·exact wpAny_Name (wpAny_loadName_local I.ok.kind hk hn hm fin) hd
 ·rcases hk with hk|hk
  ·exact wpAny_Name (wpAny_loadName_cell I.ok.kind hk hc hcell fin) hd
  ·exact wpAny_Name (wpAny_loadName_free I.ok.kind hk hc hcell fin hcd) hd
theorem JQ{i j pos}:PE X (.Constant (.int i) j pos) (tC (.int i)):=fun _ _ _ H _ I h=>wpAny_Constant_int ⟨.int i,H,I.tok _,⟨_,rfl⟩,h⟩
theorem MQ{b j pos}:PE X (.Constant (.bool b) j pos) (tC (.bl b)):=fun _ _ _ H _ I h=>Constant_bool ⟨.bl b,H,I,rfl,h⟩
theorem JO{j pos}:PE X (.Constant .none j pos) (tC .non):=fun _ _ _ H _ I h=>Constant_none ⟨.non,H,I,rfl,h⟩
theorem JL{x j pos}:PE X (.Constant (.str x) j pos) (tC (.str x)):=fun _ _ _ H _ I h=>Calls.Constant_str ⟨.str x,H,I.tok _,⟨_,rfl⟩,h⟩
def Gl(X:Cx)(x:Str):Prop:=X.env.kindOf x=some .globalImplicit
theorem qV{E:Value->Shared->Prop}{pins:List (Addr×Obj)}{s:Shared}{σ:St}{H:Hp}{x:Str}{u:Value}{pos:Pos}{Q:Value->Shared->Prop}(I:Inv X pins σ H s)(hg:Gl X x)(hm:X.mg x=some u)(h:Q u s)
  (hd:(x == ("__debug__":Str))=false:=by decide):wpAny (model X.prog X.w) X.A (eval (.Name x pos) X.env) Q E s:=
 Calls.Name_function_global I.ok.kind hg (Calls.loadGlobal_global (by rw[I.ok.glob];exact I.mod.glob.keeps I.bk) hm h) hd
theorem oE{E:Value->Shared->Prop}{pins:List (Addr×Obj)}{s:Shared}{σ:St}{H:Hp}{x:Str}{u:Value}{pos:Pos}{Q:Value->Shared->Prop}(I:Inv X pins σ H s)(hg:Gl X x)(hm:X.mg x=none)(hv:bootBuiltins x=some u)(h:Q u s)
  (hn:x≠"__name__":=by decide) (hd:(x == ("__debug__":Str))=false:=by decide):wpAny (model X.prog X.w) X.A (eval (.Name x pos) X.env) Q E s:=by
 obtain⟨mb,h1,h2⟩:=I.mod.blt;exact Calls.Name_function_global I.ok.kind hg (Calls.loadGlobal_builtin (by rw[I.ok.glob];exact I.mod.glob.keeps I.bk) hm (by rw[I.ok.blt];exact h1.keeps I.bk) ((h2 x hn).trans hv) h) hd
theorem F5{x:Str}{v:V}{u:Value}{pos:Pos}(hg:Gl X x)(hm:X.mg x=some u)(r:cD v u)(hd:(x == ("__debug__":Str))=false:=by decide):PE X (.Name x pos) (tC v):=
 fun _ _ _ H _ I h=>qV I hg hm ⟨v,H,I,r,h⟩ hd
theorem Ga{x:Str}{v:V}{u:Value}{pos:Pos}(hg:Gl X x)(hm:X.mg x=none)(hv:bootBuiltins x=some u)(r:cD v u)(hn:x≠"__name__":=by decide)(hd:(x == ("__debug__":Str))=false:=by decide):PE X (.Name x pos) (tC v):=
 fun _ _ _ H _ I h=>oE I hg hm hv ⟨v,H,I,r,h⟩ hn hd
variable{a b:Expr}{ta tb:TE}{pos:Pos}
def PC(X:Cx)(op:CmpOp)(a b:Expr)(t:TE):Prop:=
 ∀(pins:List (Addr×Obj)) (s:Shared) (σ:St) (H:Hp) (Q:VK),Inv X pins σ H s->t σ H Q->
  wpAny (model X.prog X.w) X.A (eval a X.env) (fun v s₁=>wpAny (model X.prog X.w) X.A (eval b X.env) (fun u s₂=>wpAny (model X.prog X.w) X.A (compareOp op v u) (EP X pins σ Q) X.xe s₂) X.xe s₁) X.xe s
def tB(t:TE):TT:=fun σ H Q=>t σ H fun x H1=>∃c,x=.bl c/\Q c H1
theorem JS{op:CmpOp}{t:TE}(h:PC X op a b t)(h1:behindInMarks op b=false:=by first|exact nobehind _ (by decide) (by decide)|rfl):PE X (.Compare a [op] [b] pos) t:=fun pins s σ H Q I hw=>wpAny_Compare1 (h pins s σ H Q I hw) h1
theorem Jz{op:CmpOp}{t:TE}(h:PC X op a b t)(h1:behindInMarks op b=false:=by first|exact nobehind _ (by decide) (by decide)|rfl):PT X (.Compare a [op] [b] pos) (tB t):=by
 intro pins s σ H Q I hw;refine wpAny_isTrue_Compare1 (thn (h pins s σ H _ I hw) fun v s1 h1=>thn h1 fun u s2 h2=>thn h2 fun c s3 hz=>?_) h1;obtain⟨x,H1,I1,r1,q1⟩:=hz;obtain⟨d,rfl,q⟩:=q1;cases r1;exact wpAny_truthy_bool ⟨H1,I1,q⟩
theorem Jx{e:Expr}{t:TE}(h:PE X e t)(he:∀whole,isTrue e X.env whole=(do let v <-whole;standAt e.pos;holding [v] (truthy v)):=by intro _;rfl):PT X e (tB t):=by
 intro pins s σ H Q I hw;refine isTrue_plain (thn (h pins s σ H _ I hw) fun v s1 ⟨x,H1,I1,r1,q1⟩=>?_) (he _);obtain⟨d,rfl,q⟩:=q1;cases r1;exact wpAny_truthy_bool ⟨H1,I1,q⟩
variable{tA tB':TT}{rest:List Expr}
def NW(t u:TT):TT:=fun σ H Q=>t σ H fun c H1=>if c=true then u σ H1 Q else Q false H1
def tOr(t u:TT):TT:=fun σ H Q=>t σ H fun c H1=>if c=true then Q true H1 else u σ H1 Q
def NQ(t:TT):TT:=fun σ H Q=>t σ H fun c H1=>Q (!c) H1
theorem FK(ha:PT X a tA):PW X (.BoolOp .And [a] pos) tA:=by
 intro wh pins s σ H Q I h;refine isTrue_and (thn (ha pins s σ H Q I h) fun c s1 e=>?_);cases c with
 |true=>exact isTrue_and_nil e
 |false=>exact e
theorem Ju(ha:PT X a tA):PW X (.BoolOp .Or [a] pos) tA:=by
 intro wh pins s σ H Q I h;refine isTrue_or (thn (ha pins s σ H Q I h) fun c s1 e=>?_);cases c with
 |false=>exact isTrue_or_nil e
 |true=>exact e
theorem Jv(ha:PT X a tA)(hb:PW X (.BoolOp .And (b::rest) pos) tB'):PW X (.BoolOp .And (a::b::rest) pos) (NW tA tB'):=by
 intro wh pins s σ H Q I h;refine isTrue_and (thn (ha pins s σ H _ I h) fun c s1 ⟨H1,I1,q1⟩=>?_);cases c with
 |true=>exact hb wh pins s1 σ H1 Q I1 q1
 |false=>exact⟨H1,I1,q1⟩
theorem MI(ha:PT X a tA)(hb:PW X (.BoolOp .Or (b::rest) pos) tB'):PW X (.BoolOp .Or (a::b::rest) pos) (tOr tA tB'):=by
 intro wh pins s σ H Q I h;refine isTrue_or (thn (ha pins s σ H _ I h) fun c s1 ⟨H1,I1,q1⟩=>?_);cases c with
 |true=>exact⟨H1,I1,q1⟩
 |false=>exact hb wh pins s1 σ H1 Q I1 q1
theorem Jy(ha:PT X a tA):PT X (.UnaryOp .Not a pos) (NQ tA):=by
 intro pins s σ H Q I h;exact isTrue_not (ha pins s σ H (fun c H1=>Q (!c) H1) I h)
def Jg(ta tb:TE):TE:=fun σ H Q=>ta σ H fun x H1=>∃c,x=.bl c/\if c=true then tb σ H1 Q else Q (.bl false) H1
def NP(ta tb:TE):TE:=fun σ H Q=>ta σ H fun x H1=>∃c,x=.bl c/\if c=true then Q (.bl true) H1 else tb σ H1 Q
def IX(ta:TE):TE:=fun σ H Q=>ta σ H fun x H1=>∃c,x=.bl c/\Q (.bl (!c)) H1
theorem JM{op}{t:TE}(h:PE X a t):PE X (.BoolOp op [a] pos) t:=fun pins s σ H Q I hw=>BoolOp_one (h pins s σ H Q I hw)
theorem JU(ha:PE X a ta)(hb:PE X (.BoolOp .And (b::rest) pos) tb):PE X (.BoolOp .And (a::b::rest) pos) (Jg ta tb):=by
 intro pins s σ H Q I h;refine BoolOp_and (thn (ha pins s σ H _ I h) fun v s1 hz=>?_);obtain⟨x,H1,I1,r1,q1⟩:=hz;obtain⟨c,rfl,q1⟩:=q1;cases r1;refine wpAny_truthy_bool ?_;cases c with
 |true=>exact hb pins s1 σ H1 Q I1 q1
 |false=>exact⟨.bl false,H1,I1,rfl,q1⟩
theorem MM(ha:PE X a ta)(hb:PE X (.BoolOp .Or (b::rest) pos) tb):PE X (.BoolOp .Or (a::b::rest) pos) (NP ta tb):=by
 intro pins s σ H Q I h;refine BoolOp_or (thn (ha pins s σ H _ I h) fun v s1 hz=>?_);obtain⟨x,H1,I1,r1,q1⟩:=hz;obtain⟨c,rfl,q1⟩:=q1;cases r1;refine wpAny_truthy_bool ?_;cases c with
 |false=>exact hb pins s1 σ H1 Q I1 q1
 |true=>exact⟨.bl true,H1,I1,rfl,q1⟩
theorem JN(ha:PE X a ta):PE X (.UnaryOp .Not a pos) (IX ta):=by
 intro pins s σ H Q I h;refine UnaryOp_ (thn (ha pins s σ H _ I h) fun v s1 hz=>?_);obtain⟨x,H1,I1,r1,q1⟩:=hz;obtain⟨c,rfl,q1⟩:=q1;cases r1;exact not_of (wpAny_truthy_bool ⟨.bl (!c),H1,I1,rfl,q1⟩)
end
def SqL(K:Q1)(H:Hp)(a:Addr)(xs:List V):Prop:=
 Rd H a (.lst xs)\/
  ∃(o:Obj) (its:Array Value) (n:Nat),K.lookup a=some o/\o.cls=.type "list"/\o.dict=none/\o.data=.seq its n/\its.size<=sizeLine/\bU xs its.toList
def SqT(K:Q1)(H:Hp)(a:Addr)(xs:List V):Prop:=
 Rd H a (.tup xs)\/
  ∃(o:Obj) (its:Array Value) (n:Nat),K.lookup a=some o/\o.cls=.type "tuple"/\o.data=.seq its n/\its.size<=sizeLine/\bU xs its.toList
def O8:Value->Option V
 |.none=>some .non
 |.bool b=>some (.bl b)
 |.int i _=>some (.int i)
 |.str x _=>some (.str x)
 |.bytes b _=>some (.byt b)
 |.float b _=>some (.flt b)
 |.ref a=>some (.ref a)
 |.type n=>some (.ty n)
 |_=>none
theorem cD.abs{x:V}{u:Value}(r:cD x u):O8 u=some x:=by
 cases x with
 |non=>cases r;rfl
 |bl _=>cases r;rfl
 |int _=>obtain⟨t,rfl⟩:=r;rfl
 |str _=>obtain⟨t,rfl⟩:=r;rfl
 |byt _=>obtain⟨t,rfl⟩:=r;rfl
 |flt _=>obtain⟨t,rfl⟩:=r;rfl
 |ref _=>cases r;rfl
 |ty _=>cases r;rfl
theorem cD.inj{x y:V}{u:Value}(r:cD x u)(q:cD y u):x=y:=Option.some.inj (r.abs.symm.trans q.abs)
theorem bU.inj:∀{xs ys:List V} {us:List Value},bU xs us->bU ys us->xs=ys
 |_,_,_,.nil,.nil=>rfl
 |_,_,_,.cons r t,.cons r' t'=>by rw[r.inj r',bU.inj t t']
section
variable{X:Cx}{pins:List (Addr×Obj)}{σ:St}{H:Hp}{s:Shared}{a:Addr}{xs ys:List V}
theorem SqL.of{K:Q1}(h:H a=some (.lst xs)):SqL K H a xs:=.inl (.inl h)
theorem SqT.of{K:Q1}(h:H a=some (.tup xs)):SqT K H a xs:=.inl (.inl h)
theorem Inv.list(I:Inv X pins σ H s)(h:SqL X.K H a xs):∃its:List Value,bU xs its/\PlainL s.heap a its.toArray/\xs.length<=sizeLine:=by
 rcases h with h|⟨o,its,n,hk,hc,hd,hs,hz,r⟩
 ·obtain⟨z,its,n,r,e⟩:=h.ok I.hok;exact⟨its,r,⟨_,n,e,rfl,rfl,rfl⟩,z⟩
 ·refine⟨its.toList,r,⟨o,n,I.kIn a o hk,hc,hd,by simpa using hs⟩,?_⟩;have e:=r.length;simp only[ZU]at e;omega
theorem Inv.tuple(I:Inv X pins σ H s)(h:SqT X.K H a xs):∃its:List Value,bU xs its/\IsTup s.heap a its.toArray/\xs.length<=sizeLine:=by
 rcases h with h|⟨o,its,n,hk,hc,hs,hz,r⟩
 ·obtain⟨z,its,r,p⟩:=h.ok I.hok;exact⟨its,r,p,z⟩
 ·refine⟨its.toList,r,⟨o,I.kIn a o hk,hc,n,by simpa using hs⟩,?_⟩;have e:=r.length;simp only[ZU]at e;omega
theorem Inv.list_inj(I:Inv X pins σ H s)(h:SqL X.K H a xs)(h':SqL X.K H a ys):xs=ys:=by
 obtain⟨its,r,⟨o,n,e,_,_,d⟩,_⟩:=I.list h;obtain⟨its',r',⟨o',n',e',_,_,d'⟩,_⟩:=I.list h';rw[e]at e';cases e';rw[d]at d';injection d' with d1 _;have:its=its':=by simpa using congrArg Array.toList d1
 subst this;exact r.inj r'
theorem Inv.tuple_inj(I:Inv X pins σ H s)(h:SqT X.K H a xs)(h':SqT X.K H a ys):xs=ys:=by
 obtain⟨its,r,⟨o,e,_,n,d⟩,_⟩:=I.tuple h;obtain⟨its',r',⟨o',e',_,n',d'⟩,_⟩:=I.tuple h';rw[e]at e';cases e';rw[d]at d';injection d' with d1 _;have:its=its':=by simpa using congrArg Array.toList d1
 subst this;exact r.inj r'
end
abbrev Cx.wish(X:Cx)(E:Value->Shared->Prop):Cx:={ X with xe:=E }
abbrev Cx.nox(X:Cx):Cx:=X.wish fun _ _=>False
theorem Cx.Ok.wish{X:Cx}(ok:X.Ok)(E:Value->Shared->Prop):(X.wish E).Ok:=
 ⟨ok.mod,ok.kind,ok.glob,ok.blt,ok.above,ok.inj,ok.has,ok.cab,ok.hd,ok.frames,ok.stk,ok.exf,ok.bs,ok.bsz,ok.noex,ok.exfs,ok.funs,ok.frf⟩
theorem Cx.Ok.unwish{X:Cx}{E:Value->Shared->Prop}(ok:(X.wish E).Ok):X.Ok:=
 ⟨ok.mod,ok.kind,ok.glob,ok.blt,ok.above,ok.inj,ok.has,ok.cab,ok.hd,ok.frames,ok.stk,ok.exf,ok.bs,ok.bsz,ok.noex,ok.exfs,ok.funs,ok.frf⟩
section
variable{X:Cx}{pins:List (Addr×Obj)}{σ:St}{H:Hp}{s:Shared}{E:Value->Shared->Prop}
theorem Inv.wish(I:Inv X pins σ H s)(E:Value->Shared->Prop):Inv (X.wish E) pins σ H s:=⟨I.ok.wish E,I.os,I.bare,I.base,I.loc,I.cell,I.free,I.freeC,I.pin,I.hok,I.len⟩
theorem Inv.unwish(I:Inv (X.wish E) pins σ H s):Inv X pins σ H s:=⟨I.ok.unwish,I.os,I.bare,I.base,I.loc,I.cell,I.free,I.freeC,I.pin,I.hok,I.len⟩
theorem SP.unwish{D:Bo}{f:Flow}{s':Shared}(h:SP (X.wish E) pins D f s'):SP X pins D f s':=by
 cases f with
 |next=>obtain⟨σ',H',I,q⟩:=h;exact⟨σ',H',I.unwish,q⟩
 |brk=>obtain⟨σ',H',I,q⟩:=h;exact⟨σ',H',I.unwish,q⟩
 |cont=>obtain⟨σ',H',I,q⟩:=h;exact⟨σ',H',I.unwish,q⟩
 |ret u=>obtain⟨v,σ',H',I,r,q⟩:=h;exact⟨v,σ',H',I.unwish,r,q⟩
theorem PSs.nox{st:List Stmt}{t:TS}(h:PSs X.nox st t):PSs X st t:=fun pins s σ H D I hw=>
 Z9 (h pins s σ H D (I.wish _) hw) (fun _ _ q=>q.unwish) fun _ _ z=>False.elim z
end
section
variable{X:Cx}{st:Stmt}{rest:List Stmt}{t u:TS}{e:Expr}{te:TE}{pos:Pos}
def IZ:TS:=fun D σ H=>D.nx σ H
def NN(t u:TS):TS:=fun D σ H=>t { D with nx:=u D } σ H
theorem FP:PSs X [] IZ:=fun _ _ σ H _ I h=>wpAny_execs_nil ⟨σ,H,I,h⟩
theorem B7(h1:PS X st t)(h2:PSs X rest u):PSs X (st::rest) (NN t u):=by
 intro pins s σ H D I h;refine wpAny_execs_cons (thn (h1 pins s σ H { D with nx:=u D } I h) fun f s1 q=>?_);cases f with
 |next=>
  obtain⟨σ',H',I',q⟩:=q;exact h2 pins s1 σ' H' D I' q
 |ret v=>exact q
 |brk=>exact q
 |cont=>exact q
theorem FO(h1:PS X st t):PSs X [st] t:=by
 intro pins s σ H D I h;refine wpAny_execs_cons (thn (h1 pins s σ H D I h) fun f s1 q=>?_);cases f with
 |next=>exact wpAny_execs_nil q
 |ret v=>exact q
 |brk=>exact q
 |cont=>exact q
theorem Inv.quiet{pins:List (Addr×Obj)}{σ:St}{H:Hp}{s:Shared}(I:Inv X pins σ H s):interactive X.env=false:=by simp[interactive,I.ok.kind]
def Ja(te:TE):TS:=fun D σ H=>te σ H fun _ H1=>D.nx σ H1
theorem FQ(he:PE X e te)(hs:swapsWith e none pos.line X.env=pure false:=by rfl):PS X (.Expr e pos) (Ja te):=by
 intro pins s σ H D I h;exact wpAny_Expr_any (thn (he pins s σ H _ I h) fun v s1 ⟨x,H1,I1,r1,q1⟩=>⟨σ,H1,I1,q1⟩) I.quiet hs
def NO(te:TE):TS:=fun D σ H=>te σ H D.rt
theorem JB(he:PE X e te):PS X (.Return (some e) pos) (NO te):=by
 intro pins s σ H D I h;exact wpAny_Return_some (thn (he pins s σ H _ I h) fun v s1 ⟨x,H1,I1,r1,q1⟩=>⟨x,σ,H1,I1,r1,q1⟩)
def NT(c:TT)(t u:TS):TS:=fun D σ H=>c σ H fun b H1=>if b=true then t D σ H1 else u D σ H1
theorem MJ{c:Expr}{a b:List Stmt}{tc:TT}(hc:PT X c tc)(ha:PSs X a t)(hb:PSs X b u):PS X (.If c a b pos) (NT tc t u):=by
 intro pins s σ H D I h;refine wpAny_If (thn (hc pins s σ H _ I h) fun d s1 ⟨H1,I1,q1⟩=>?_);cases d with
 |true=>exact ha pins s1 σ H1 D I1 q1
 |false=>exact hb pins s1 σ H1 D I1 q1
def DW:TS:=fun _ _ _=>False
theorem B9:PS X st DW:=fun _ _ _ _ _ _ h=>h.elim
end
abbrev TG:=V->St->Hp->(St->Hp->Prop)->Prop
abbrev TGs:=List V->St->Hp->(St->Hp->Prop)->Prop
def PG(X:Cx)(target:Expr)(t:TG):Prop:=
 ∀(pins:List (Addr×Obj)) (s:Shared) (σ:St) (H:Hp) (v:V) (u:Value) (Q:St->Hp->Prop),Inv X pins σ H s->cD v u->t v σ H Q->
  wpAny (model X.prog X.w) X.A (assign target X.env u) (fun _ s'=>∃σ' H',Inv X pins σ' H' s'/\Q σ' H') X.xe s
def PGs(X:Cx)(ts:List Expr)(t:TGs):Prop:=
 ∀(pins:List (Addr×Obj)) (s:Shared) (σ:St) (H:Hp) (vs:List V) (us:List Value) (Q:St->Hp->Prop),Inv X pins σ H s->bU vs us->t vs σ H Q->
  wpAny (model X.prog X.w) X.A (assignInOrder ((assignEach ts X.env).map (·.2)) us) (fun _ s'=>∃σ' H',Inv X pins σ' H' s'/\Q σ' H') X.xe s
abbrev Lx:=V->V->V->Hp->(Hp->Prop)->Prop
def NF(X:Cx)(t:Lx):Prop:=
 ∀(pins:List (Addr×Obj)) (s:Shared) (σ:St) (H:Hp) (o i v:V) (ov iv u:Value) (Q:Hp->Prop),Inv X pins σ H s->cD o ov->cD i iv->cD v u->t o i v H Q->
  wpAny (model X.prog X.w) X.A (setItem ov iv u) (fun _ s'=>∃H',Inv X pins σ H' s'/\Q H') X.xe s
section
variable{X:Cx}{pos:Pos}
def xF(i:Nat):TG:=fun v σ H Q=>Q (σ.set i (some v)) H
theorem FX{i:Nat}{x:Str}(hN:X.N.Nodup)(hi:X.N[i]?=some x)(hx:Loc X.env.scope x)(hf:X.fn x=true\/X.env.scope.names.lookup x=some .local:=by first|exact .inl rfl|exact .inr rfl|assumption):PG X (.Name x pos) (xF i):=by
 intro pins s σ H v u Q I r h;exact wpAny_assign_Name (vL I hN hi hx r (fun s' I'=>⟨_,H,I',h⟩) hf)
def Om:TGs:=fun vs σ H Q=>vs=[]/\Q σ H
def KC(t:TG)(u:TGs):TGs:=fun vs σ H Q=>∃v r,vs=v::r/\t v σ H fun σ' H'=>u r σ' H' Q
theorem FW:PGs X [] Om:=by
 intro pins s σ H vs us Q I r h;obtain⟨e,h⟩:=h;subst e;cases r;exact assignInOrder_nil ⟨σ,H,I,h⟩
theorem Cb{e:Expr}{es:List Expr}{t:TG}{u:TGs}(h1:PG X e t)(h2:PGs X es u)
  (hs:(assignEach (e::es) X.env).map (·.2)=assign e X.env::(assignEach es X.env).map (·.2):=by rfl):PGs X (e::es) (KC t u):=by
 intro pins s σ H vs us Q I r h;obtain⟨v,vr,e1,h⟩:=h;subst e1;cases r with
 |cons r rr=>
  rw[hs];refine assignInOrder_cons (thn (h1 pins s σ H _ _ _ I r h) fun _ s1 hz=>?_);obtain⟨σ1,H1,I1,q1⟩:=hz;exact h2 pins s1 σ1 H1 _ _ Q I1 rr q1
def Oh(K:Q1)(n:Nat)(t:TGs):TG:=fun v σ H Q=>∃a xs,v=.ref a/\SqT K H a xs/\xs.length=n/\t xs σ H Q
theorem JH{es:List Expr}{k:Nat}{t:TGs}{n:Nat}(hc:X.calm=true)(h:PGs X es t)
  (hn:(assignEach es X.env).length=n:=by rfl) (hst:(assignEach es X.env).findIdx? (·.1)=none:=by rfl):PG X (.Tuple es k pos) (Oh X.K n t):=by
 intro pins s σ H v u Q I r hw;obtain⟨a,xs,e1,hq,hl,hw⟩:=hw;subst e1;cases r;obtain⟨its,rv,ht,hz⟩:=I.tuple hq;refine assign_Tuple_tuple (I.ok.hd hc) ht (by simp[hn,<-hl,rv.length]) hst fun h' hx=>?_;have I1:Inv X pins σ H { s with heap:=h' }:=I.kept (t':=s.toks) fun b o e=>hx b o (Qr (QB e)) e;exact h pins _ σ H xs _ Q I1 (by simpa using rv) hw
def Ol(to ti:TE)(t:Lx):TG:=fun v σ H Q=>to σ H fun o H1=>ti σ H1 fun i H2=>t o i v H2 fun H3=>Q σ H3
theorem JI{o i:Expr}{to ti:TE}{t:Lx}(ho:PE X o to)(hi:PE X i ti)(hs:NF X t)
  (ha:∀v,assign (.Subscript o i pos) X.env v=(do
   let ov <-holding [v] (eval o X.env)
   let iv <-holding [v,ov] (eval i X.env)
   standAt pos
   holding [v,ov,iv] (setItem ov iv v)
   release [v,ov,iv] []):=by intro _;rfl):PG X (.Subscript o i pos) (Ol to ti t):=by
 intro pins s σ H v u Q I r h;rw[ha];refine Q2 (wpAny_holding (thn (ho pins s σ H _ I h) fun ov s1 hz=>?_));obtain⟨x,H1,I1,r1,q1⟩:=hz;refine Q2 (wpAny_holding (thn (hi pins s1 σ H1 _ I1 q1) fun iv s2 hz=>?_));obtain⟨y,H2,I2,r2,q2⟩:=hz;refine Q2 (wpAny_standAt (Q2 (wpAny_holding (thn (hs pins s2 σ H2 x y v ov iv u _ I2 r1 r2 r q2) fun _ s3 ⟨H3,I3,q3⟩=>?_))));exact wpAny_release ⟨σ,H3,I3,q3⟩
def Jf(te:TE)(g:TG):TS:=fun D σ H=>te σ H fun x H1=>g x σ H1 D.nx
theorem JE{tg e:Expr}{te:TE}{g:TG}(he:PE X e te)(hg:PG X tg g)(hs:swapsWithSole [tg] e pos.line X.env=pure false:=by rfl)(hw:swappedStores [tg] e X.env=pure none:=by rfl)
  (h1:(assignEach [tg] X.env).map (·.2)=[assign tg X.env]:=by rfl):PS X (.Assign [tg] e pos) (Jf te g):=by
 intro pins s σ H D I h;refine wpAny_Assign_stores (thn (he pins s σ H _ I h) fun v s1 hz=>?_) hs hw;obtain⟨x,H1,I1,r1,q1⟩:=hz;rw[h1];exact thn (hg pins s1 σ H1 x v _ I1 r1 q1) fun _ s2 q=>q
theorem JA{i:Nat}{x:Str}{e:Expr}{te:TE}{pos':Pos}(hN:X.N.Nodup)(hi:X.N[i]?=some x)(hx:Loc X.env.scope x)(he:PE X e te)(hs:swapsWith e (some (.Name x pos')) pos.line X.env=pure false:=by rfl)(hf:X.fn x=true\/X.env.scope.names.lookup x=some .local:=by first|exact .inl rfl|exact .inr rfl|assumption) :
  PS X (.Assign [.Name x pos'] e pos) (Jf te (xF i)):=by
 intro pins s σ H D I h;refine wpAny_Assign_Name (thn (he pins s σ H _ I h) fun v s1 hz=>?_) hs;obtain⟨y,H1,I1,r1,q1⟩:=hz;exact vL I1 hN hi hx r1 (fun s2 I2=>⟨_,H1,I2,q1⟩) hf
def yI(c:TT)(tb:TS):TS:=fun D σ H=>∃W:Nat->St->Hp->Prop,(∃m,W m σ H)/\∀m σ H,W m σ H->
 c σ H fun b H1=>if b=true then ∃N:St->Hp->Prop,(∀σ' H',N σ' H'->∃m',m'<m/\W m' σ' H')/\tb { D with nx:=N,ct:=N,bk:=D.nx } σ H1 else D.nx σ H1
theorem B8{c:Expr}{body:List Stmt}{tc:TT}{tb:TS}(hp:PassesOwn (model X.prog X.w) X.A X.env X.xe)(hc:PT X c tc)(hb:PSs X body tb):PS X (.While c body [] pos) (yI tc tb):=by
 intro pins s σ H D I h;obtain⟨W,⟨m0,w0⟩,turn⟩:=h;refine wpAny_While (codeAny_whileLoop (fun n s'=>∃σ' H',Inv X pins σ' H' s'/\W n σ' H') ?_ m0 ⟨σ,H,I,w0⟩);rintro n s1 ⟨σ1,H1,I1,w1⟩;refine wpAny_passesOwn hp (thn (hc pins s1 σ1 H1 _ I1 (turn n σ1 H1 w1)) fun b s2 ⟨H2,I2,q2⟩=>?_);cases b with
 |true=>
  obtain⟨N,hN,q2⟩:=q2;rw[if_pos rfl];refine wpAny_passesOwn hp (thn (hb pins s2 σ1 H2 _ I2 q2) fun f s3 q3=>?_);cases f with
  |next=>
   obtain⟨σ3,H3,I3,n3⟩:=q3;obtain⟨m',hm,w3⟩:=hN σ3 H3 n3;exact⟨m',hm,σ3,H3,I3,w3⟩
  |cont=>
   obtain⟨σ3,H3,I3,n3⟩:=q3;obtain⟨m',hm,w3⟩:=hN σ3 H3 n3;exact⟨m',hm,σ3,H3,I3,w3⟩
  |brk=>exact q3
  |ret v=>exact q3
 |false=>
  rw[if_neg QK];exact wpAny_execs_nil ⟨σ1,H2,I2,q2⟩
end
structure It where
 go:Nat->Hp->Prop
 yld:Nat->Hp->V->Hp->Prop
 stop:Nat->Hp->Prop
def x6(X:Cx)(pins:List (Addr×Obj))(H:Hp)(b:Addr):Prop:=
 H b=none/\b≠X.env.locals/\b∉X.fs/\(b∈X.ex\/X.s₀.heap.objs.size<=b)/\(∀x c,X.env.cells.lookup x=some c->c≠b)/\∀p∈X.pn++pins,p.1≠b
theorem Inv.fpOk{X:Cx}{pins:List (Addr×Obj)}{σ:St}{H H':Hp}{s:Shared}{b:Addr}(I:Inv X pins σ H s)(hb:s.heap.objs.size<=b)(hn:H' b=none):x6 X pins H' b:=by
 refine⟨hn,Nat.ne_of_gt (Qu I.lt hb),I.nofs hb,.inr (Qj I.sz hb),fun x c e z=>?_,fun p hp z=>?_⟩
 ·obtain⟨v,q⟩:=I.cell x c e;exact absurd (Qu q.lt (by rw[z];exact hb)) (Nat.lt_irrefl _)
 ·exact absurd (Qu (QB (I.pin p hp).1) (by rw[z];exact hb)) (Nat.lt_irrefl _)
structure Hc(P:Program)(w:World)(K:Q1)(tg:Expr)(J:It)(fp:List Addr)(it:Addr)(tn:Nat->Heap->Prop):Prop where
 mem:it∈fp
 obj:∀i h,tn i h->∀b∈fp,∃o,h.get? b=some o/\∀v,o.data≠.cell v
 keep:∀i h h',tn i h->(∀b∈fp,∀o,h.get? b=some o->h'.get? b=some o)->tn i h'
 item:∀(X:Cx),X.prog=P->X.w=w->X.K=K->X.calm=true->∀(i:Nat) (pins:List (Addr×Obj)) (s:Shared) (σ:St) (H:Hp) (E:Value->Shared->Prop),Inv X pins σ H s->(∀b∈fp,x6 X pins H b)->tn i s.heap->J.go i H->
  wpAny (model P w) X.A (pyNext (.ref it)) (fun r s1=>∃u,r=some u/\
   wpAny (model P w) X.A (letOwnedTupleGo tg (.ref it) u) (fun _ s2=>∃x H',Inv X pins σ H' s2/\cD x u/\J.yld i H x H'/\tn (i+1) s2.heap/\∀b∈fp,H' b=none) E s1) E s
 done:∀(X:Cx),X.prog=P->X.w=w->X.K=K->X.calm=true->∀(i:Nat) (pins:List (Addr×Obj)) (s:Shared) (σ:St) (H:Hp) (E:Value->Shared->Prop),Inv X pins σ H s->(∀b∈fp,x6 X pins H b)->tn i s.heap->J.stop i H->
  wpAny (model P w) X.A (pyNext (.ref it)) (fun r s1=>r=none/\Inv X pins σ H s1) E s
 self:∀(A:Around) (i:Nat) (s:Shared) (Q:Value->Shared->Prop) (E:Value->Shared->Prop),tn i s.heap->Q (.ref it) s->wpAny (model P w) A (pyIter (.ref it)) Q E s
abbrev TI:=St->Hp->(It->Hp->Prop)->Prop
def PIE(X:Cx)(pins:List (Addr×Obj))(σ:St)(tg:Expr)(R:It->Hp->Prop)(itv:Value)(s2:Shared):Prop:=
 ∃(it:Addr) (fp:List Addr) (tn:Nat->Heap->Prop) (J:It) (H':Hp),itv=.ref it/\Inv X pins σ H' s2/\Hc X.prog X.w X.K tg J fp it tn/\tn 0 s2.heap/\(∀b∈fp,x6 X pins H' b)/\R J H'
def PI(X:Cx)(tg iter:Expr)(wi:TI):Prop:=
 ∀(pins:List (Addr×Obj)) (s:Shared) (σ:St) (H:Hp) (R:It->Hp->Prop),Inv X pins σ H s->wi σ H R->
  wpAny (model X.prog X.w) X.A (eval iter X.env) (fun v s1=>wpAny (model X.prog X.w) X.A (pyIter v) (PIE X pins σ tg R) X.xe s1) X.xe s
theorem Ah {M : Model} {A : Around} {E : Value -> Shared -> Prop} {s : Shared} {tg : Expr} {it : Addr} {u : Value} {o : Obj} {n : String} {vs : Array Value} {Q : Unit -> Shared -> Prop} (ho : s.heap.get? it = some o) (hc : o.cls = .type n) (hd : o.data = .fields vs)
    (hn:["enumerate","zip","dict_itemiterator","dict_reverseitemiterator","odict_iterator","itertools.zip_longest","itertools.pairwise"].contains n=false) (hQ:Q () s):wpAny M A (letOwnedTupleGo tg (.ref it) u) Q E s:=by
  unfold letOwnedTupleGo;cases tg<;>first
    |exact QQ hQ
    | (cases u <;> first
        |exact QQ hQ
        | (refine Q2 (wpAny_load ho ?_)
           rw[hc,hd];show wpAny M A (if (["enumerate","zip","dict_itemiterator","dict_reverseitemiterator","odict_iterator","itertools.zip_longest","itertools.pairwise"].contains n&&vs[0]? == some (rawInt _))=true then _ else _) Q E s;rw[if_neg (by intro h;rw[hn,Bool.false_and]at h;cases h)];exact QQ hQ))
def Itl(K:Q1)(a:Addr):It:=
 ⟨fun i H=>∃xs x,SqL K H a xs/\xs[i]?=some x,fun i H x H'=>H'=H/\∀xs,SqL K H a xs->xs[i]?=some x,fun i H=>∃xs,SqL K H a xs/\xs.length<=i⟩
def Itt(K:Q1)(a:Addr):It:=
 ⟨fun i H=>∃xs x,SqT K H a xs/\xs[i]?=some x,fun i H x H'=>H'=H/\∀xs,SqT K H a xs->xs[i]?=some x,fun i H=>∃xs,SqT K H a xs/\xs.length<=i⟩
def Itr(lo:Int)(n:Nat):It:=⟨fun i _=>i<n,fun i H x H'=>H'=H/\x=.int (lo+i),fun i _=>n<=i⟩
theorem yD{P:Program}{w:World}{K:Q1}{tg:Expr}(a it:Addr):Hc P w K tg (Itl K a) [it] it (fun i h=>h.IsListIter it a i) where
 mem:=by simp
 obj:=fun i h st b hb=>by
  have e:b=it:=by simpa using hb
  subst e;obtain⟨o,e,c,d⟩:=st;exact⟨o,e,fun v z=>by rw[d]at z;cases z⟩
 keep:=fun i h h' st k=>st.at fun o e=>k it (by simp) o e
 item:=by
  intro X hP hw hK hc i pins s σ H E I hf st hg;subst hP hw hK;obtain⟨xs,x,hq,hx⟩:=hg;obtain⟨its,rv,p,hz⟩:=I.list hq;obtain⟨u,hu,ru⟩:=rv.get hx;obtain⟨f0,f1,f2,f3,f4,f5⟩:=hf it (by simp);refine wpAny_pyNext_list_item st p.isList (x:=u) (by simpa using hu) fun h' st' sb=>?_;have I1:Inv X pins σ H { s with heap:=h' }:=I.turned (t':=s.toks) (fun b o hb e=>(sb.2 b hb).trans e) f0 f1 f3 f4 f5;obtain⟨o,e,c,d⟩:=id st';exact⟨u,rfl,Ah (s:={ s with heap:=h' }) e c d (by decide) ⟨x,H,I1,ru,⟨rfl,fun ys hy=>by rw[I.list_inj hy hq];exact hx⟩,st',fun b hb=>(hf b hb).1⟩⟩
 done:=by
  intro X hP hw hK hc i pins s σ H E I hf st hg;subst hP hw hK;obtain⟨xs,hq,hx⟩:=hg;obtain⟨its,rv,p,hz⟩:=I.list hq;obtain⟨f0,f1,f2,f3,f4,f5⟩:=hf it (by simp);have hl:=rv.length;exact wpAny_pyNext_list_end (I.ok.hd hc) st p.isList (by simp;omega) fun h' eb=>⟨rfl,I.turned (t':=s.toks) (fun b o hb e=>eb b o hb e) f0 f1 f3 f4 f5⟩
 self:=fun _ _ _ _ _ st h=>wpAny_pyIter_listiter st h
theorem xa{P:Program}{w:World}{K:Q1}{tg:Expr}(a it:Addr):Hc P w K tg (Itt K a) [it] it (fun i h=>h.IsTupleIter it a i) where
 mem:=by simp
 obj:=fun i h st b hb=>by
  have e:b=it:=by simpa using hb
  subst e;obtain⟨o,e,c,d⟩:=st;exact⟨o,e,fun v z=>by rw[d]at z;cases z⟩
 keep:=fun i h h' st k=>st.at fun o e=>k it (by simp) o e
 item:=by
  intro X hP hw hK hc i pins s σ H E I hf st hg;subst hP hw hK;obtain⟨xs,x,hq,hx⟩:=hg;obtain⟨its,rv,p,hz⟩:=I.tuple hq;obtain⟨u,hu,ru⟩:=rv.get hx;obtain⟨f0,f1,f2,f3,f4,f5⟩:=hf it (by simp);refine wpAny_pyNext_tuple_item st (show s.heap.IsTuple a its.toArray from p) (x:=u) (by simpa using hu) fun h' st' sb=>?_;have I1:Inv X pins σ H { s with heap:=h' }:=I.turned (t':=s.toks) (fun b o hb e=>(sb.2 b hb).trans e) f0 f1 f3 f4 f5;obtain⟨o,e,c,d⟩:=id st';exact⟨u,rfl,Ah (s:={ s with heap:=h' }) e c d (by decide) ⟨x,H,I1,ru,⟨rfl,fun ys hy=>by rw[I.tuple_inj hy hq];exact hx⟩,st',fun b hb=>(hf b hb).1⟩⟩
 done:=by
  intro X hP hw hK hc i pins s σ H E I hf st hg;subst hP hw hK;obtain⟨xs,hq,hx⟩:=hg;obtain⟨its,rv,p,hz⟩:=I.tuple hq;obtain⟨f0,f1,f2,f3,f4,f5⟩:=hf it (by simp);have hl:=rv.length;exact wpAny_pyNext_tuple_end (I.ok.hd hc) st (show s.heap.IsTuple a its.toArray from p) (by simp;omega) fun h' eb=>⟨rfl,I.turned (t':=s.toks) (fun b o hb e=>eb b o hb e) f0 f1 f3 f4 f5⟩
 self:=fun _ _ _ _ _ st h=>wpAny_pyIter_tupleiter st h
theorem xb{P:Program}{w:World}{K:Q1}{tg:Expr}(it:Addr)(lo:Int)(n:Nat):Hc P w K tg (Itr lo n) [it] it (fun i h=>IsRangeIter h it (lo+(i:Nat)*1) ((n:Int)-(i:Nat)) 1) where
 mem:=by simp
 obj:=fun i h st b hb=>by
  have e:b=it:=by simpa using hb
  subst e;exact⟨_,st,fun v z=>by
   have z':Data.fields _=Data.cell v:=z;cases z'⟩
 keep:=fun i h h' st k=>k it (by simp) _ st
 item:=by
  intro X hP hw hK hc i pins s σ H E I hf st hg;subst hP hw hK;obtain⟨f0,f1,f2,f3,f4,f5⟩:=hf it (by simp);have W:=Walks.range (prog:=X.prog) (w:=X.w) (I.ok.hd hc) it lo 1 n;refine W.item i s _ _ hg st fun v h' tk hv st' kk=>?_;obtain⟨t,rfl⟩:=hv;have I1:Inv X pins σ H { s with heap:=h',toks:=tk }:=I.turned (fun b o hb e=>kk b o (by simpa using hb) e) f0 f1 f3 f4 f5;refine⟨_,rfl,Ah (s:={ s with heap:=h',toks:=tk }) (n:="range_iterator") st' rfl rfl (by decide) ⟨.int (lo+i),H,I1,⟨t,?_⟩,⟨rfl,rfl⟩,st',fun b hb=>(hf b hb).1⟩⟩;rw[Int.mul_one]
 done:=by
  intro X hP hw hK hc i pins s σ H E I hf st hg;subst hP hw hK;obtain⟨f0,f1,f2,f3,f4,f5⟩:=hf it (by simp);exact wpAny_pyNext_range_end (I.ok.hd hc) st (by have:n<=i:=hg;omega) fun h' eb=>⟨rfl,I.turned (t':=s.toks) (fun b o hb e=>eb b o hb e) f0 f1 f3 f4 f5⟩
 self:=fun _ _ _ _ _ st h=>wpAny_pyIter_rangeiter st h
section
variable{X:Cx}{tg:Expr}
def Kw(K:Q1)(tl:TE):TI:=fun σ H R=>tl σ H fun x H1=>∃a,x=.ref a/\(∃xs,SqL K H1 a xs)/\R (Itl K a) H1
def Of(K:Q1)(tl:TE):TI:=fun σ H R=>tl σ H fun x H1=>∃a,x=.ref a/\(∃xs,SqT K H1 a xs)/\R (Itt K a) H1
theorem FV{l:Expr}{tl:TE}(hl:PE X l tl):PI X tg l (Kw X.K tl):=by
 intro pins s σ H R I h;refine thn (hl pins s σ H _ I h) fun v s1 hz=>?_;obtain⟨x,H1,I1,r1,q1⟩:=hz;obtain⟨a,e,⟨xs,hq⟩,q⟩:=q1;subst e;cases r1;obtain⟨its,rv,p,hz⟩:=I1.list hq;refine wpAny_pyIter_list p.isList ?_;refine⟨s1.heap.objs.size,[s1.heap.objs.size],_,_,H1,rfl,I1.kept (t':=s1.toks) fun b o e=>Q7 _ e,yD a _,⟨_,QF _ rfl,rfl,rfl⟩,fun b hb=>?_,q⟩;have e:b=s1.heap.objs.size:=by simpa using hb
 subst e;exact I1.fpOk (QZ _) (I1.hok.fresh (QZ _))
theorem JG{l:Expr}{tl:TE}(hl:PE X l tl):PI X tg l (Of X.K tl):=by
 intro pins s σ H R I h;refine thn (hl pins s σ H _ I h) fun v s1 hz=>?_;obtain⟨x,H1,I1,r1,q1⟩:=hz;obtain⟨a,e,⟨xs,hq⟩,q⟩:=q1;subst e;cases r1;obtain⟨its,rv,p,hz⟩:=I1.tuple hq;refine wpAny_pyIter_tuple (show s1.heap.IsTuple a its.toArray from p) ?_;refine⟨s1.heap.objs.size,[s1.heap.objs.size],_,_,H1,rfl,I1.kept (t':=s1.toks) fun b o e=>Q7 _ e,xa a _,⟨_,QF _ rfl,rfl,rfl⟩,fun b hb=>?_,q⟩;have e:b=s1.heap.objs.size:=by simpa using hb
 subst e;exact I1.fpOk (QZ _) (I1.hok.fresh (QZ _))
theorem BW{pins:List (Addr×Obj)}{σ:St}{H:Hp}{s:Shared}{R:It->Hp->Prop}{E:Value->Shared->Prop}{lo hi:Int}{t u v:Tok}{tk:Nat}(I:Inv X pins σ H s)(h1:-(2^62)<=lo)(h2:lo<2^62)(h3:-(2^62)<=hi)(h4:hi<2^62)
  (q:R (Itr lo (hi-lo).toNat) H):wpAny (model X.prog X.w) X.A (pyIter (.ref s.heap.objs.size)) (PIE X pins σ tg R) E { s with heap:=s.heap.push { cls:=.type "range",data:=.fields #[.int lo t,.int hi u,.int 1 v] },toks:=tk }:=by
 refine wpAny_pyIter_range (IsRange.new ..) (small_one h1 h2 h3 h4) ?_;have I1:Inv X pins σ H { s with heap:=s.heap.push { cls:=.type "range",data:=.fields #[.int lo t,.int hi u,.int 1 v] },toks:=tk }:=I.kept fun b o e=>Q7 _ e;refine⟨(s.heap.push { cls:=.type "range",data:=.fields #[.int lo t,.int hi u,.int 1 v] }).objs.size,[(s.heap.push { cls:=.type "range",data:=.fields #[.int lo t,.int hi u,.int 1 v] }).objs.size],_,_,H,rfl,
  I1.kept (t':=tk) fun b o e=>Q7 _ e,xb _ lo (hi-lo).toNat,?_,fun b hb=>?_,q⟩
 ·have e1:lo+((0:Nat):Int)*1=lo:=by simp
  have e2:(((hi-lo).toNat:Nat):Int)-((0:Nat):Int)=Builtin.Range.rangeSize lo hi 1:=by rw[rangeSize_one];split<;>omega
  show IsRangeIter _ _ (lo+((0:Nat):Int)*1) ((((hi-lo).toNat:Nat):Int)-((0:Nat):Int)) 1;rw[e1,e2];exact QF _ rfl
 ·have e:b=(s.heap.push { cls:=.type "range",data:=.fields #[.int lo t,.int hi u,.int 1 v] }).objs.size:=by simpa using hb
  subst e;exact I1.fpOk (QZ _) (I1.hok.fresh (QZ _))
def Kv(ta:TA):TI:=fun σ H R=>ta σ H fun vs H1=>∃j:Int,vs=[.int j]/\-(2^62)<=j/\j<2^62/\R (Itr 0 j.toNat) H1
theorem zt{a:Expr}{ta:TA}{p pos:Pos}(hg:Gl X "range")(hm:X.mg "range"=none)(ha:PA X [a] ta)(hs:starEach [a] X.env=[(false,eval a X.env)]:=by rfl):PI X tg (.Call (.Name "range" p) [a] [] pos) (Kv ta):=by
 intro pins s σ H R I h;refine Call_ (oE I hg hm boot_range (PyProof.Rows.callWith_type1 (thn (ha pos pins s σ H _ I h) fun us s1 ⟨vs,H1,I1,r1,q1⟩=>?_) hs rfl));obtain⟨j,e,q1,q2,q⟩:=q1;subst e;cases r1 with
 |cons r rr=>
  cases rr;obtain⟨t,rfl⟩:=r;exact call_range_1 (BW I1 (by omega) (by omega) q1 q2 (by simpa using q))
def Lg(wi:TI)(g:TG)(tb:TS):TS:=fun D σ H=>wi σ H fun J H1=>∃W:Nat->Nat->St->Hp->Prop,(∃m,W 0 m σ H1)/\∀i m σ H,W i m σ H->
 (J.stop i H/\D.nx σ H)\/(J.go i H/\∃N:St->Hp->Prop,(∀σ' H',N σ' H'->∃m',m'<m/\W (i+1) m' σ' H')/\∀x H',J.yld i H x H'->g x σ H' fun σ2 H2=>tb { D with nx:=N,ct:=N,bk:=D.nx } σ2 H2)
def vZ(fp:List Addr)(h:Heap):List (Addr×Obj):=fp.filterMap fun b=>(h.get? b).map fun o=>(b,o)
theorem fH{fp:List Addr}{h:Heap}{b:Addr}{o:Obj}(hb:b∈fp)(e:h.get? b=some o):(b,o)∈vZ fp h:=List.mem_filterMap.mpr ⟨b,hb,by rw[e];rfl⟩
theorem zB{fp:List Addr}{h:Heap}{p:Addr×Obj}(hp:p∈vZ fp h):p.1∈fp/\h.get? p.1=some p.2:=by
 obtain⟨b,hb,e⟩:=List.mem_filterMap.mp hp;cases q:h.get? b with
 |none=>rw[q]at e;cases e
 |some o=>
  rw[q]at e;have e':(b,o)=p:=Option.some.inj e;subst e';exact⟨hb,q⟩
theorem Inv.pinned{pins:List (Addr×Obj)}{σ:St}{H:Hp}{s:Shared}{fp:List Addr}(I:Inv X pins σ H s)(hf:∀b∈fp,x6 X pins H b)(ho:∀b∈fp,∃o,s.heap.get? b=some o/\∀v,o.data≠.cell v):Inv X (pins++vZ fp s.heap) σ H s:=
 I.pins_of fun p hp=>(Qw.mp hp).elim (fun z=>I.pin p (QL _ z)) fun z=>by
  obtain⟨hb,e⟩:=zB z;obtain⟨f0,f1,f2,_⟩:=hf p.1 hb;obtain⟨o,e',d⟩:=ho p.1 hb;rw[e]at e';cases e';exact⟨e,f0,f1,f2,d⟩
theorem Inv.unpinned{pins pl:List (Addr×Obj)}{σ:St}{H:Hp}{s:Shared}(I:Inv X (pins++pl) σ H s):Inv X pins σ H s:=I.pins_of fun p hp=>I.pin p (QL _ (Qd _ hp))
theorem JC{iter:Expr}{body:List Stmt}{wi:TI}{g:TG}{tb:TS}{pos:Pos}(hp:PassesOwn (model X.prog X.w) X.A X.env X.xe)(hc:X.calm=true)(hi:PI X tg iter wi)(hg:PG X tg g)(hb:PSs X body tb)
  (hs:∀x,foldedSetIterable iter X.env x=pure x:=by intro _;rfl):PS X (.For tg iter body [] pos) (Lg wi g tb):=by
 intro pins s σ H D I h;refine wpAny_For (thn (hi pins s σ H _ I h) fun v s1 h1=>thn h1 fun itv s2 h2=>?_) hs;obtain⟨it,fp,tn,J,H2,e,I2,T,st2,f2,W,⟨m0,w0⟩,turn⟩:=h2;subst e;have stat:∀{H':Hp},(∀b∈fp,H' b=none)->∀b∈fp,x6 X pins H' b:=fun hn b hb=>⟨hn b hb,(f2 b hb).2⟩;refine codeAny_forLoop_any (fun n s'=>∃i σ' H',Inv X pins σ' H' s'/\tn i s'.heap/\(∀b∈fp,H' b=none)/\W i n σ' H') ?_ m0 ⟨0,σ,H2,I2,st2,fun b hb=>(f2 b hb).1,w0⟩;rintro n s3 ⟨i,σ3,H3,I3,st3,fr3,w3⟩;rcases turn i n σ3 H3 w3 with⟨stop,qn⟩|⟨go,N,hN,step⟩
 ·refine wpAny_passesOwn hp (thn (T.done X rfl rfl rfl hc i pins s3 σ3 H3 X.xe I3 (stat fr3) st3 stop) fun r s4 ⟨hr,I4⟩=>?_);subst hr;exact wpAny_execs_nil ⟨σ3,H3,I4,qn⟩
 ·refine wpAny_passesOwn hp (thn (T.item X rfl rfl rfl hc i pins s3 σ3 H3 X.xe I3 (stat fr3) st3 go) fun r s4 ⟨u,hr,h4⟩=>?_);subst hr;refine wpAny_passesOwn hp (thn h4 fun _ s5 hz=>?_);obtain⟨x,H5,I5,r5,y5,st5,fr5⟩:=hz;have I5':=I5.pinned (stat fr5) (T.obj _ _ st5);refine wpAny_passesOwn hp (thn (hg _ s5 σ3 H5 x u _ I5' r5 (step x H5 y5)) fun _ s6 hz=>?_);obtain⟨σ6,H6,I6,q6⟩:=hz;refine wpAny_passesOwn hp (thn (hb _ s6 σ6 H6 _ I6 q6) fun f s7 q7=>?_);have again:∀{σ7:St} {H7:Hp},Inv X (pins++vZ fp s5.heap) σ7 H7 s7->N σ7 H7->∃m,m<n/\∃i σ' H',Inv X pins σ' H' s7/\tn i s7.heap/\(∀b∈fp,H' b=none)/\W i m σ' H':=fun{σ7 H7} I7 n7=>by
   obtain⟨m',hm,w7⟩:=hN σ7 H7 n7;refine⟨m',hm,i+1,σ7,H7,I7.unpinned,T.keep _ _ _ st5 fun b hb o e=>(I7.pin (b,o) (QL _ (QL _ (fH hb e)))).1,fun b hb=>?_,w7⟩;obtain⟨o,e,d⟩:=T.obj _ _ st5 b hb;exact(I7.pin (b,o) (QL _ (QL _ (fH hb e)))).2.1
  cases f with
  |next=>obtain⟨σ7,H7,I7,n7⟩:=q7;exact again I7 n7
  |cont=>obtain⟨σ7,H7,I7,n7⟩:=q7;exact again I7 n7
  |brk=>obtain⟨σ7,H7,I7,q7⟩:=q7;exact⟨σ7,H7,I7.unpinned,q7⟩
  |ret v=>obtain⟨x7,σ7,H7,I7,r7,q7⟩:=q7;exact⟨x7,σ7,H7,I7.unpinned,r7,q7⟩
end
abbrev R2:=V->V->Hp->VK->Prop
def OpR(X:Cx)(f:Value->Value->Sem Value)(r:R2):Prop:=
 ∀(pins:List (Addr×Obj)) (s:Shared) (σ:St) (H:Hp) (x y:V) (v u:Value) (Q:VK),Inv X pins σ H s->cD x v->cD y u->r x y H Q->
  wpAny (model X.prog X.w) X.A (f v u) (EP X pins σ Q) X.xe s
def UnR(X:Cx)(f:Value->Sem Value)(r:V->Hp->VK->Prop):Prop:=
 ∀(pins:List (Addr×Obj)) (s:Shared) (σ:St) (H:Hp) (x:V) (v:Value) (Q:VK),Inv X pins σ H s->cD x v->r x H Q->
  wpAny (model X.prog X.w) X.A (f v) (EP X pins σ Q) X.xe s
def fY(X:Cx)(f:Value)(r:List V->Hp->VK->Prop):Prop:=
 ∀(pins:List (Addr×Obj)) (s:Shared) (σ:St) (H:Hp) (xs:List V) (us:List Value) (Q:VK),Inv X pins σ H s->bU xs us->r xs H Q->
  wpAny (model X.prog X.w) X.A (call f us) (EP X pins σ Q) X.xe s
def tOp(r:R2)(ta tb:TE):TE:=fun σ H Q=>ta σ H fun x H1=>tb σ H1 fun y H2=>r x y H2 Q
def tUn(r:V->Hp->VK->Prop)(ta:TE):TE:=fun σ H Q=>ta σ H fun x H1=>r x H1 Q
def rI(C:Int->Int->Prop)(g:Int->Int->V):R2:=fun x y H Q=>∃i j,x=.int i/\y=.int j/\C i j/\Q (g i j) H
def rI0(g:Int->Int->V):R2:=fun x y H Q=>∃i j,x=.int i/\y=.int j/\Q (g i j) H
section
variable{X:Cx}{a b:Expr}{ta tb:TE}{pos:Pos}
theorem Nx(ha:PE X a ta)(hb:PE X b tb){pins:List (Addr×Obj)}{s:Shared}{σ:St}{H:Hp}{R:V->V->Hp->Prop}(I:Inv X pins σ H s)
  (h:ta σ H fun x H1=>tb σ H1 fun y H2=>R x y H2) {Q:Value->Shared->Prop} {f:Value->Value->Sem Value}
  (hf:∀v u s2 x y H2,Inv X pins σ H2 s2->cD x v->cD y u->R x y H2->wpAny (model X.prog X.w) X.A (f v u) Q X.xe s2) :
  wpAny (model X.prog X.w) X.A (eval a X.env) (fun v s₁=>wpAny (model X.prog X.w) X.A (eval b X.env) (fun u s₂=>wpAny (model X.prog X.w) X.A (f v u) Q X.xe s₂) X.xe s₁) X.xe s:=by
 refine thn (ha pins s σ H _ I h) fun v s1 hz=>?_;obtain⟨x,H1,I1,r1,q1⟩:=hz;refine thn (hb pins s1 σ H1 _ I1 q1) fun u s2 hz=>?_;obtain⟨y,H2,I2,r2,q2⟩:=hz;exact hf v u s2 x y H2 I2 r1 r2 q2
theorem MN{op:Operator}{r:R2}(ho:OpR X (binaryOp op) r)(ha:PE X a ta)(hb:PE X b tb):PE X (.BinOp a op b pos) (tOp r ta tb):=by
 intro pins s σ H Q I h;exact wpAny_BinOp (Nx ha hb I h fun v u s2 x y H2 I2 rx ry q=>ho pins s2 σ H2 x y v u Q I2 rx ry q)
theorem ML{op:UnaryOp}{r:V->Hp->VK->Prop}(ho:UnR X (unaryOp op) r)(ha:PE X a ta):PE X (.UnaryOp op a pos) (tUn r ta):=by
 intro pins s σ H Q I h;exact UnaryOp_ (thn (ha pins s σ H _ I h) fun v s1 ⟨x,H1,I1,r1,q1⟩=>ho pins s1 σ H1 x v Q I1 r1 q1)
theorem opI{f:Value->Value->Sem Value}{C:Int->Int->Prop}{g:Int->Int->Int}
  (rule:∀(i j:Int) (t u:Tok) (s:Shared) (Q:Value->Shared->Prop) (E:Value->Shared->Prop),C i j->Q (.int (g i j) s.toks) { s with toks:=s.toks+1 }->wpAny (model X.prog X.w) X.A (f (.int i t) (.int j u)) Q E s) :
  OpR X f (rI C fun i j=>.int (g i j)):=by
 intro pins s σ H x y v u Q I rx ry h;obtain⟨i,j,rfl,rfl,hc,q⟩:=h;obtain⟨t,rfl⟩:=rx;obtain⟨t',rfl⟩:=ry;exact rule i j t t' s _ _ hc ⟨.int (g i j),H,I.tok _,⟨_,rfl⟩,q⟩
theorem N2{f:Value->Value->Sem Value}{g:Int->Int->Int}
  (rule:∀(i j:Int) (t u:Tok) (s:Shared) (Q:Value->Shared->Prop) (E:Value->Shared->Prop),Q (.int (g i j) s.toks) { s with toks:=s.toks+1 }->wpAny (model X.prog X.w) X.A (f (.int i t) (.int j u)) Q E s) :
  OpR X f (rI0 fun i j=>.int (g i j)):=by
 intro pins s σ H x y v u Q I rx ry h;obtain⟨i,j,rfl,rfl,q⟩:=h;obtain⟨t,rfl⟩:=rx;obtain⟨t',rfl⟩:=ry;exact rule i j t t' s _ _ ⟨.int (g i j),H,I.tok _,⟨_,rfl⟩,q⟩
theorem MX{f:Value->Value->Sem Value}{g:Int->Int->Bool}
  (rule:∀(i j:Int) (t u:Tok) (s:Shared) (Q:Value->Shared->Prop) (E:Value->Shared->Prop),Q (.bool (g i j)) s->wpAny (model X.prog X.w) X.A (f (.int i t) (.int j u)) Q E s) :
  OpR X f (rI0 fun i j=>.bl (g i j)):=by
 intro pins s σ H x y v u Q I rx ry h;obtain⟨i,j,rfl,rfl,q⟩:=h;obtain⟨t,rfl⟩:=rx;obtain⟨t',rfl⟩:=ry;exact rule i j t t' s _ _ ⟨.bl (g i j),H,I,rfl,q⟩
def Hw(i j:Int):Prop:=0<=j/\j<=1000000/\i.natAbs<2^64
def EF(i j:Int):Prop:=(-(2^64)<i/\i<2^64)\/(-(2^64)<j/\j<2^64)
theorem EF.ok{i j:Int}(h:EF i j):IntMulOk i j:=by
 rcases h with⟨h1,h2⟩|⟨h1,h2⟩
 ·exact .of_left (intBits_le_64 h1 h2)
 ·exact .of_right (intBits_le_64 h1 h2)
theorem J2:OpR X (binaryOp .Add) (rI0 fun i j=>.int (i+j)):=N2 fun _ _ _ _ _ _ _ q=>add_int q
theorem J0:OpR X (binaryOp .Sub) (rI0 fun i j=>.int (i-j)):=N2 fun _ _ _ _ _ _ _ q=>sub_int q
theorem mY:OpR X (binaryOp .Mult) (rI EF fun i j=>.int (i*j)):=opI fun _ _ _ _ _ _ _ hc q=>mul_int q hc.ok
theorem og:OpR X (binaryOp .Mod) (rI (fun _ j=>0<j) fun i j=>.int (i % j)):=opI fun i j _ _ _ _ _ hc q=>by
 have h1:(0:Int)<j:=hc;exact mod_int' (by omega) (by rw[Int.fmod_eq_emod_of_nonneg i (by omega)];exact q)
theorem Ee:OpR X (binaryOp .Pow) (rI Hw fun i j=>.int (i^j.toNat)):=opI fun _ _ _ _ _ _ _ hc q=>pow_int_small hc.1 hc.2.1 hc.2.2 q
end
def MC:V->V->Bool
 |.non,.non=>true|.non,.int _=>true|.int _,.non=>true|.non,.bl _=>true|.bl _,.non=>true|.non,.str _=>true|.str _,.non=>true
 |.int _,.int _=>true|.bl _,.bl _=>true|.str _,.str _=>true|.byt _,.byt _=>true
 |.int _,.str _=>true|.str _,.int _=>true|.bl _,.str _=>true|.str _,.bl _=>true
 |_,_=>false
def rEq:R2:=fun x y H Q=>MC x y=true/\Q (.bl (decide (x=y))) H
def rNe:R2:=fun x y H Q=>MC x y=true/\Q (.bl (!decide (x=y))) H
theorem AH{i j:Int}:decide (V.int i=V.int j)=(i == j):=by
 rw[ZE];simp
theorem Ey{i j:Bool}:decide (V.bl i=V.bl j)=(i == j):=by
 rw[ZE];simp
theorem AG{i j:Str}:decide (V.str i=V.str j)=(i == j):=by
 rw[ZE];simp
theorem AI{i j:Array UInt8}:decide (V.byt i=V.byt j)=(i.toList == j.toList):=by
 rw[ZE];cases i;cases j;simp
section
variable{X:Cx}{a b c:Expr}{ta tb:TE}{pos:Pos}
theorem bQ{pins:List (Addr×Obj)}{σ:St}{H:Hp}{s:Shared}{Q:VK}{k k':Bool}(I:Inv X pins σ H s)(q:Q (.bl k) H)(e:k=k'):EP X pins σ Q (.bool k') s:=by
 subst e;exact⟨.bl k,H,I,rfl,q⟩
theorem d8:OpR X (compareOp .Eq) rEq:=by
 intro pins s σ H x y v u Q I rx ry h;obtain⟨hs,q⟩:=h;cases x with
 |non=>
  cases rx;cases y with
  |non=>cases ry;exact PySem.EqNone.eq_none_none (bQ I q (by simp))
  |bl j=>cases ry;exact PySem.EqNone.eq_none_bool (bQ I q (by simp))
  |int j=>obtain⟨t',rfl⟩:=ry;exact PySem.EqNone.eq_none_int (bQ I q (by simp))
  |str j=>obtain⟨t',rfl⟩:=ry;exact PySem.EqNone.eq_none_str (bQ I q (by simp))
  |_=>exact absurd (show false=true from hs) QK
 |bl i=>
  cases rx;cases y with
  |non=>cases ry;exact PySem.EqNone.eq_bool_none (bQ I q (by simp))
  |bl j=>cases ry;exact eq_bool (bQ I q Ey)
  |str j=>obtain⟨t',rfl⟩:=ry;exact PySem.EqMixed.eq_bool_str (bQ I q (by simp))
  |_=>exact absurd (show false=true from hs) QK
 |int i=>
  obtain⟨t,rfl⟩:=rx;cases y with
  |non=>cases ry;exact PySem.EqNone.eq_int_none (bQ I q (by simp))
  |int j=>obtain⟨t',rfl⟩:=ry;exact eq_int (bQ I q AH)
  |str j=>obtain⟨t',rfl⟩:=ry;exact PySem.EqMixed.eq_int_str (bQ I q (by simp))
  |_=>exact absurd (show false=true from hs) QK
 |str i=>
  obtain⟨t,rfl⟩:=rx;cases y with
  |non=>cases ry;exact PySem.EqNone.eq_str_none (bQ I q (by simp))
  |bl j=>cases ry;exact PySem.EqMixed.eq_str_bool (bQ I q (by simp))
  |int j=>obtain⟨t',rfl⟩:=ry;exact PySem.EqMixed.eq_str_int (bQ I q (by simp))
  |str j=>obtain⟨t',rfl⟩:=ry;exact eq_str (bQ I q AG)
  |_=>exact absurd (show false=true from hs) QK
 |byt i=>
  obtain⟨t,rfl⟩:=rx;cases y with
  |byt j=>obtain⟨t',rfl⟩:=ry;exact PySem.W.eq_bytes (bQ I q AI)
  |_=>exact absurd (show false=true from hs) QK
 |_=>cases y<;>exact absurd (show false=true from hs) QK
theorem Cu:OpR X (compareOp .NotEq) rNe:=by
 intro pins s σ H x y v u Q I rx ry h;obtain⟨hs,q⟩:=h;cases x with
 |non=>
  cases rx;cases y with
  |non=>cases ry;exact PySem.EqNone.ne_none_none (bQ I q (by simp))
  |bl j=>cases ry;exact PySem.EqNone.ne_none_bool (bQ I q (by simp))
  |int j=>obtain⟨t',rfl⟩:=ry;exact PySem.EqNone.ne_none_int (bQ I q (by simp))
  |str j=>obtain⟨t',rfl⟩:=ry;exact PySem.EqNone.ne_none_str (bQ I q (by simp))
  |_=>exact absurd (show false=true from hs) QK
 |bl i=>
  cases rx;cases y with
  |non=>cases ry;exact PySem.EqNone.ne_bool_none (bQ I q (by simp))
  |bl j=>cases ry;exact ne_bool (bQ I q (congrArg not Ey))
  |str j=>obtain⟨t',rfl⟩:=ry;exact PySem.EqMixed.ne_bool_str (bQ I q (by simp))
  |_=>exact absurd (show false=true from hs) QK
 |int i=>
  obtain⟨t,rfl⟩:=rx;cases y with
  |non=>cases ry;exact PySem.EqNone.ne_int_none (bQ I q (by simp))
  |int j=>obtain⟨t',rfl⟩:=ry;exact ne_int (bQ I q (congrArg not AH))
  |str j=>obtain⟨t',rfl⟩:=ry;exact PySem.EqMixed.ne_int_str (bQ I q (by simp))
  |_=>exact absurd (show false=true from hs) QK
 |str i=>
  obtain⟨t,rfl⟩:=rx;cases y with
  |non=>cases ry;exact PySem.EqNone.ne_str_none (bQ I q (by simp))
  |bl j=>cases ry;exact PySem.EqMixed.ne_str_bool (bQ I q (by simp))
  |int j=>obtain⟨t',rfl⟩:=ry;exact PySem.EqMixed.ne_str_int (bQ I q (by simp))
  |str j=>obtain⟨t',rfl⟩:=ry;exact ne_str (bQ I q (congrArg not AG))
  |_=>exact absurd (show false=true from hs) QK
 |byt i=>
  obtain⟨t,rfl⟩:=rx;cases y with
  |byt j=>obtain⟨t',rfl⟩:=ry;exact PySem.W.ne_bytes (bQ I q (congrArg not AI))
  |_=>exact absurd (show false=true from hs) QK
 |_=>cases y<;>exact absurd (show false=true from hs) QK
theorem Cv:OpR X (compareOp .Lt) (rI0 fun i j=>.bl (decide (i<j))):=MX fun _ _ _ _ _ _ _ q=>lt_int q
theorem Gi:OpR X (compareOp .Gt) (rI0 fun i j=>.bl (decide (j<i))):=MX fun _ _ _ _ _ _ _ q=>gt_int q
theorem MW:OpR X (compareOp .GtE) (rI0 fun i j=>.bl (decide (j<=i))):=MX fun _ _ _ _ _ _ _ q=>ge_int q
theorem Ef:OpR X (compareOp .Is) (fun x y H Q=>y=.non/\Q (.bl (decide (x=.non))) H):=by
 intro pins s σ H x y v u Q I rx ry h;obtain⟨rfl,q⟩:=h;cases ry;refine is_none_gen (bQ I q ?_);cases x<;>first
  |(cases rx;rfl)
  |(obtain⟨t,rfl⟩:=rx;rfl)
theorem OpR.or{f:Value->Value->Sem Value}{r r':R2}(h:OpR X f r)(h':OpR X f r'):OpR X f (fun x y H Q=>r x y H Q\/r' x y H Q):=by
 intro pins s σ H x y v u Q I rx ry q;rcases q with q|q
 ·exact h pins s σ H x y v u Q I rx ry q
 ·exact h' pins s σ H x y v u Q I rx ry q
theorem aY(b:Expr){op:CmpOp}(h:op≠.In:=by decide)(h2:op≠.NotIn:=by decide):behindInMarks op b=false:=by
 have e1:(op == CmpOp.In)=false:=by cases op<;>first|rfl|exact absurd rfl h
 have e2:(op == CmpOp.NotIn)=false:=by cases op<;>first|rfl|exact absurd rfl h2
 cases b<;>simp[behindInMarks,e1,e2]
theorem F8{op:CmpOp}{r:R2}(ho:OpR X (compareOp op) r)(ha:PE X a ta)(hb:PE X b tb)(hm:behindInMarks op b=false):PE X (.Compare a [op] [b] pos) (tOp r ta tb):=by
 intro pins s σ H Q I h;exact wpAny_Compare1 (Nx ha hb I h fun v u s2 x y H2 I2 rx ry q=>ho pins s2 σ H2 x y v u Q I2 rx ry q) hm
def IV(t:TE):TT:=fun σ H Q=>t σ H fun x H'=>∃k,x=.bl k/\Q k H'
theorem FN{op:CmpOp}{r:R2}(ho:OpR X (compareOp op) r)(ha:PE X a ta)(hb:PE X b tb)(hm:behindInMarks op b=false):PT X (.Compare a [op] [b] pos) (IV (tOp r ta tb)):=by
 intro pins s σ H Q I h;refine wpAny_isTrue_Compare1 (thn (ha pins s σ H _ I h) fun v s1 ⟨x,H1,I1,r1,q1⟩=>thn (hb pins s1 σ H1 _ I1 q1) fun u s2 ⟨y,H2,I2,r2,q2⟩=>
  thn (ho pins s2 σ H2 x y v u _ I2 r1 r2 q2) fun c s3 ⟨z,H3,I3,r3,k,e,q3⟩=>?_) hm
 subst e;cases r3;exact wpAny_truthy_bool ⟨H3,I3,q3⟩
theorem wg:(sizeLine:Nat)<2^63:=by rw[sizeLine_eq];decide
theorem xn:OpR X (binaryOp .Add) (fun x y H Q=>∃i j,x=.str i/\y=.str j/\i.length+j.length<=sizeLine/\Q (.str (i++j)) H):=by
 intro pins s σ H x y v u Q I rx ry h;obtain⟨i,j,rfl,rfl,hz,q⟩:=h;obtain⟨t,rfl⟩:=rx;obtain⟨t',rfl⟩:=ry;exact add_str (fun t' tk=>⟨.str (i++j),H,I.tok _,⟨_,rfl⟩,q⟩) hz
theorem ng{x:V}{us:List Value}(r:bU [x] us):∃u,us=[u]/\cD x u:=by
 cases r with
 |cons r1 r2=>cases r2;exact⟨_,rfl,r1⟩
theorem IP{x y:V}{us:List Value}(r:bU [x,y] us):∃u w',us=[u,w']/\cD x u/\cD y w':=by
 cases r with
 |cons r1 r2=>
  cases r2 with
  |cons r3 r4=>cases r4;exact⟨_,_,rfl,r1,r3⟩
theorem AS:fY X (.type "int") (fun xs H Q=>(∃i,xs=[.int i]/\Q (.int i) H)\/∃k,xs=[.bl k]/\Q (.int (if k then 1 else 0)) H):=by
 intro pins s σ H xs us Q I r h;rcases h with⟨i,rfl,q⟩|⟨k,rfl,q⟩
 ·obtain⟨u,rfl,t,rfl⟩:=ng r;exact call_int_int ⟨.int i,H,I,⟨_,rfl⟩,q⟩
 ·obtain⟨u,rfl,r1⟩:=ng r;cases r1;exact call_int_bool ⟨.int (if k then 1 else 0),H,I.tok _,⟨_,rfl⟩,q⟩
end
structure Hg(h:Heap)(x dx C:Addr)(mA:Str->Option Value):Prop where
 obj:h.get? x=some (PySem.W.instObj C dx)
 ns:h.Ns1 dx mA
 ne:dx≠x
theorem zN{h:Heap}{dx:Addr}{mA:Str->Option Value}(n:h.Ns1 dx mA):∃od,h.get? dx=some od/\∀name,PySem.W.lookIn name od=some (mA name):=by
 obtain⟨o,es,ep,ho,hd,hk,_,hm⟩:=n;refine⟨o,ho,fun name=>?_⟩;have e:=hm name;unfold nsFind findBy at e;rw[<-Array.find?_toList]at e;unfold PySem.W.lookIn;rw[hd];dsimp only;split
 ·rename_i y q;rw[q]at e;exact congrArg some e
 ·rename_i q;rw[q]at e;have a:es.toList.any (·.refKey)=false:=by
   rw[List.any_eq_false];intro y hy;obtain⟨z,t,hkey⟩:=hk y (Array.mem_toList_iff.mp hy);simp[DictEntry.refKey,hkey]
  have a':¬es.toList.any (·.refKey)=true:=by rw[a];exact QK
  rw[if_neg a'];exact congrArg some e
theorem Hg.look{h:Heap}{x dx C:Addr}{mA:Str->Option Value}(I:Hg h x dx C mA):∃od,PySem.W.InstAt h x (PySem.W.instObj C dx) C (some od)/\∀name,PySem.W.lookIn name od=some (mA name):=
 let ⟨od,ho,hl⟩:=zN I.ns
 ⟨od,⟨I.obj,rfl,rfl,ho⟩,hl⟩
section
variable{prog:Program}{w:World}{A:Around}{E:Value->Shared->Prop}{s:Shared}{K:Q1}{x dx C f:Addr}{mA:Str->Option Value}{name:Str}{v:Value}
theorem GJ{expr:Bool}{Q:Value->Shared->Prop}(X:K.In s.heap)(I:Hg s.heap x dx C mA)(hg:PySem.W.plainGet K C name=true)(hh:PySem.W.hasDictIn K C=true)
  (ha:PySem.W.findIn K (.ref C) name=some none) (hv:mA name=some v) (hv':PySem.W.handedIn v=true) (h:Q v { s with toks:=s.toks+1 }) :
  wpAny (model prog w) A (getAttr (.ref x) name expr) Q E s:=by
 obtain⟨od,J,hl⟩:=I.look;exact PySem.W.get_value X J (PySem.W.plainGet_of hg).1 (PySem.W.findObj_own hh ha rfl (by rw[hl,hv])) hv' h
theorem C7{pl:Sem Bool}{Q:Value×List Value->Shared->Prop}(X:K.In s.heap)(I:Hg s.heap x dx C mA)(hg:PySem.W.plainGet K C name=true)
  (hf:PySem.W.findIn K (.ref C) name=some (some (.ref f))) (ht:PySem.W.isFn K (.ref f)=true) (hv:mA name=none) (h:Q (.ref f,[.ref x]) s) :
  wpAny (model prog w) A (getMethod (.ref x) name pl) Q E s:=by
 obtain⟨od,J,hl⟩:=I.look;exact PySem.W.method_fn X J (PySem.W.plainGet_of hg).1 (PySem.W.plainGet_of hg).2 hf (beq_iff_eq.mp ht) (by show(PySem.W.lookIn name od).map (·.isSome)=some false;rw[hl,hv];rfl) h
theorem Fz{ns:List Str}{Q:Unit->Shared->Prop}(X:K.In s.heap)(I:Hg s.heap x dx C mA)
  (hs:PySem.W.findIn K (.ref C) "__setattr__"=some (some (.builtin "object.__setattr__"))) (hp:PySem.W.plainOver K C=true) (ht:PySem.W.takerIn K C name=some none) (hh:PySem.W.hasDictIn K C=true)
  (hw:PySem.Within mA ns) (hsz:ns.length<=sizeLine)
  (h:∀h',Hg h' x dx C (fun y=>if y=name then some v else mA y)->ZT dx s.heap h'->Q () { s with heap:=h',toks:=s.toks+2 }) :
  wpAny (model prog w) A (setAttr (.ref x) name v) Q E s:=by
 obtain⟨od,J,hl⟩:=I.look;refine PySem.W.set_plain X J hs (PySem.W.osa_open (s:={ s with toks:=s.toks+1 }) (r:=none) X J hp ht fun b=>?_);obtain⟨cd,hc,hd'⟩:=PySem.W.any_some hh;have hx:s.heap.get? x=some ⟨.ref C,some dx,.plain,#[]⟩:=I.obj;refine Q2 (QQ (Q2 (Q2 (wpAny_loadPart hx (Q2 (PySem.W.Looks.here (s:={ s with toks:=s.toks+1 }) (PySem.W.looks_clsIn X hc) ?_))))));rw[hd'];refine QQ (a:=some dx) (Q2 (QQ (Q2 ?_)));refine wpAny_nsSet1 (s:={ s with toks:=s.toks+1 }) I.ns fun h' hn2 hs2=>?_;obtain⟨oD,esD,epD,hoD,hdD,hcD⟩:=hn2.count (PySem.Within.cons name v hw);refine Q2 (wpAny_lookBehind hoD (by rw[hdD];exact pastItsLine_dict (Qj hcD (by rw[QY];omega))) ?_);exact QQ (h _ ⟨(hs2.2 _ (Ne.symm I.ne)).trans I.obj,hn2,I.ne⟩ hs2)
theorem CK{R:Result->Shared->Prop}{vs:List Value}{kw:List (Str×Value)}(X:K.In s.heap)(hm:PySem.W.makesIn K C=true)
  (hi:PySem.W.findIn K (.ref C) "__init__"=some (some (.ref f))) (hf:PySem.W.typeIn K (.ref f)=some (.type "function"))
  (h:codeAny (model prog w) (A.under (.builtin "type.__call__" ⟨.ref C::vs,kw⟩)) (.call (.ref f) ⟨.ref (s.heap.objs.size+1)::vs,kw⟩) (PySem.W.InitBack (s.heap.objs.size+1) R)
   { s with heap:=(s.heap.push PySem.W.emptyDict).push (PySem.W.instObj C s.heap.objs.size) }) :
  codeAny (model prog w) A (.call (.ref C) ⟨vs,kw⟩) R s:=by
 obtain⟨hh,g,d,t,os⟩:=s;exact PySem.W.make_core (PySem.W.makes_of X hm) (PySem.W.looks_findIn X hi) (fun self=>PySem.W.bind_fn X self hf) (.inl rfl) h
end
def pI(f:Str)(v:V):List (Str×V)->List (Str×V)
 |[]=>[(f,v)]
 |(g,x)::r=>if g=f then(g,v)::r else(g,x)::pI f v r
theorem kr(f g:Str)(v:V):∀fs:List (Str×V),(pI f v fs).lookup g=if g=f then some v else fs.lookup g
 |[]=>by
  show List.lookup g [(f,v)]=_;by_cases h:g=f
  ·have hb:(g == f)=true:=beq_iff_eq.mpr h;simp only[List.lookup,hb,if_pos h]
  ·have hb:(g == f)=false:=beq_eq_false_iff_ne.mpr h;simp only[List.lookup,hb,if_neg h]
 |(k,x)::r=>by
  have ih:=kr f g v r;rw[show pI f v ((k,x)::r)=(if k=f then(k,v)::r else(k,x)::pI f v r)from rfl];by_cases hk:k=f
  ·rw[if_pos hk];by_cases h:g=k
   ·have hb:(g == k)=true:=beq_iff_eq.mpr h;simp only[List.lookup,hb,if_pos (h.trans hk)]
   ·have hb:(g == k)=false:=beq_eq_false_iff_ne.mpr h;simp only[List.lookup,hb,if_neg (fun e:g=f=>h (e.trans hk.symm))]
  ·rw[if_neg hk];by_cases h:g=k
   ·have hb:(g == k)=true:=beq_iff_eq.mpr h;simp only[List.lookup,hb,if_neg (fun e:g=f=>hk (h.symm.trans e))]
   ·have hb:(g == k)=false:=beq_eq_false_iff_ne.mpr h;simp only[List.lookup,hb];exact ih
theorem fQ(f:Str)(v:V):∀fs:List (Str×V),f∈(pI f v fs).map (·.1)/\∀g,g∈fs.map (·.1)->g∈(pI f v fs).map (·.1)
 |[]=>⟨by simp[pI],fun g h=>by simp at h⟩
 |(k,x)::r=>by
  obtain⟨i1,i2⟩:=fQ f v r;rw[show pI f v ((k,x)::r)=(if k=f then(k,v)::r else(k,x)::pI f v r)from rfl];by_cases hk:k=f
  ·rw[if_pos hk];subst hk;exact⟨by simp,fun g h=>by simpa using h⟩
  ·rw[if_neg hk];refine⟨?_,fun g h=>?_⟩
   ·rw[QX];exact QD _ i1
   ·rw[QX]at h ⊢;rcases QM.mp h with e|e
    ·exact QM.mpr (.inl e)
    ·exact QD _ (i2 g e)
theorem oC(f:Str)(v:V):∀fs:List (Str×V),(pI f v fs).length<=fs.length+1
 |[]=>by simp[pI]
 |(k,x)::r=>by
  have ih:=oC f v r;rw[show pI f v ((k,x)::r)=(if k=f then(k,v)::r else(k,x)::pI f v r)from rfl];by_cases hk:k=f
  ·rw[if_pos hk,QY,QY];omega
  ·rw[if_neg hk,QY,QY];omega
theorem qA.some_of{v:V}{o:Option Value}(r:qA (some v) o):∃u,o=some u/\cD v u:=by
 cases o with
 |none=>exact(show False from r).elim
 |some u=>exact⟨u,rfl,r⟩
theorem qA.none_of{o:Option Value}(r:qA none o):o=none:=by
 cases o with
 |none=>rfl
 |some u=>exact(show False from r).elim
theorem Af{v:V}{u:Value}(r:cD v u):PySem.W.handedIn u=true:=by
 cases v with
 |non=>cases (show u=Value.none from r);rfl
 |bl b=>cases (show u=Value.bool b from r);rfl
 |int i=>obtain⟨t,e⟩:=(show ∃t,u=Value.int i t from r);cases e;rfl
 |str x=>obtain⟨t,e⟩:=(show ∃t,u=Value.str x t from r);cases e;rfl
 |byt b=>obtain⟨t,e⟩:=(show ∃t,u=Value.bytes b t from r);cases e;rfl
 |flt b=>obtain⟨t,e⟩:=(show ∃t,u=Value.float b t from r);cases e;rfl
 |ref a=>cases (show u=Value.ref a from r);rfl
 |ty n=>cases (show u=Value.type n from r);rfl
section
variable{P:Program}{w:World}{H:Hp}{h:Heap}{a C dx:Addr}{fs:List (Str×V)}
theorem qX(hok:HOk P w H h)(e:H a=some (.ins C dx fs)):∃mA,Hg h a dx C mA/\(∀f,qA (fs.lookup f) (mA f))/\PySem.Within mA (fs.map (·.1))/\fs.length<=1000/\H dx=some (.own a):=by
 obtain⟨d,z,ne,ob,mA,n,r,q⟩:=(show cy P w H h a (.ins C dx fs)from hok a _ e);exact⟨mA,⟨ob,n,ne⟩,r,q,z,d⟩
end
structure Cls(K:Q1)(C:Addr):Prop where
 pg:PySem.W.plainGet K C Str.empty=true
 hd:PySem.W.hasDictIn K C=true
 po:PySem.W.plainOver K C=true
 sa:PySem.W.findIn K (.ref C) "__setattr__"=some (some (.builtin "object.__setattr__"))
theorem Cls.get{K:Q1}{C:Addr}(c:Cls K C)(f:Str):PySem.W.plainGet K C f=true:=c.pg
def ke(K:Q1)(C:Addr)(f:Str):Prop:=PySem.W.findIn K (.ref C) f=some none
theorem ke.taker{K:Q1}{C:Addr}{f:Str}(n:ke K C f):PySem.W.takerIn K C f=some none:=by
 unfold PySem.W.takerIn;rw[show PySem.W.findIn K (.ref C) f=some none from n];rfl
structure K9(K:Q1)(C:Addr)(m:Str)(f:Addr):Prop where
 at_:PySem.W.findIn K (.ref C) m=some (some (.ref f))
 fn:PySem.W.isFn K (.ref f)=true
 kp:PySem.W.keepIn K (.ref f)=true
section
variable{X:Cx}{pins:List (Addr×Obj)}{σ:St}{H:Hp}{s:Shared}{a C dx:Addr}{fs:List (Str×V)}{f:Str}{v:V}{A:Around}{E:Value->Shared->Prop}
theorem xE{b:Bool}{Q:Value->Shared->Prop}(I:Inv X pins σ H s)(e:H a=some (.ins C dx fs))(c:Cls X.K C)(n:ke X.K C f)(l:fs.lookup f=some v)
  (h:∀u s',Inv X pins σ H s'->cD v u->Q u s'):wpAny (model X.prog X.w) A (getAttr (.ref a) f b) Q E s:=by
 obtain⟨mA,O,r,_,_,_⟩:=qX I.hok e;obtain⟨u,hu,ru⟩:=qA.some_of (v:=v) (o:=mA f) (by rw[<-l];exact r f);exact GJ I.kIn O (c.get f) c.hd n hu (Af ru) (h u _ (I.tok _) ru)
theorem xD{m:Str}{g:Addr}{pl:Sem Bool}{Q:Value×List Value->Shared->Prop}(I:Inv X pins σ H s)(e:H a=some (.ins C dx fs))(c:Cls X.K C)(k:K9 X.K C m g)(l:fs.lookup m=none)
  (h:Q (.ref g,[.ref a]) s):wpAny (model X.prog X.w) A (getMethod (.ref a) m pl) Q E s:=by
 obtain⟨mA,O,r,_,_,_⟩:=qX I.hok e;have hn:mA m=none:=qA.none_of (by rw[<-l];exact r m);exact C7 I.kIn O (c.get m) k.at_ k.fn hn h
theorem xg{y:V}{u:Value}{Q:Unit->Shared->Prop}(I:Inv X pins σ H s)(e:H a=some (.ins C dx fs))(c:Cls X.K C)(n:ke X.K C f)(hl:fs.length<1000)(ry:cD y u)
  (h:∀s',Inv X pins σ (upd H a (.ins C dx (pI f y fs))) s'->Q () s'):wpAny (model X.prog X.w) A (setAttr (.ref a) f u) Q E s:=by
 obtain⟨mA,O,r,wi,_,ho⟩:=qX I.hok e;have hz:(fs.map (·.1)).length<=sizeLine:=by rw[Q5,sizeLine_eq];omega
 refine Fz I.kIn O c.sa c.po n.taker c.hd wi hz fun h' O' sb=>h _ ?_;have hd:∃o,h'.get? dx=some o:=let ⟨o,_,_,e',_⟩:=O'.ns;⟨o,e'⟩
 refine I.write (x:=a) (e:=dx) (by rw[e];exact True.intro) (.inr ho) (fun b q hb z=>(sb.2 b hb).trans z) hd ?_;refine⟨by rw[bA O.ne];exact ho,?_,O.ne,O'.obj,_,O'.ns,fun g=>?_,fun g hg=>?_⟩
 ·have:=oC f y fs;omega
 ·show qA ((pI f y fs).lookup g) (if g=f then some u else mA g);rw[kr];by_cases q:g=f
  ·rw[if_pos q,if_pos q];exact ry
  ·rw[if_neg q,if_neg q];exact r g
 ·by_cases q:g=f
  ·rw[q];exact(fQ f y fs).1
  ·refine(fQ f y fs).2 g (wi g fun z=>hg ?_);show(if g=f then some u else mA g)=none;rw[if_neg q];exact z
theorem Inv.made(I:Inv X pins σ H s):Inv X pins σ (upd (upd H s.heap.objs.size (.own (s.heap.objs.size+1))) (s.heap.objs.size+1) (.ins C s.heap.objs.size []))
  { s with heap:=(s.heap.push PySem.W.emptyDict).push (PySem.W.instObj C s.heap.objs.size) }:=by
 have e1:(s.heap.push PySem.W.emptyDict).get? s.heap.objs.size=some PySem.W.emptyDict:=QF s.heap rfl;have e2:((s.heap.push PySem.W.emptyDict).push (PySem.W.instObj C s.heap.objs.size)).get? (s.heap.objs.size+1)=some (PySem.W.instObj C s.heap.objs.size):=by
  have:=QF (s.heap.push PySem.W.emptyDict) (o:=PySem.W.instObj C s.heap.objs.size) rfl;rwa[Heap.size_push]at this
 have e3:(s.heap.push PySem.W.emptyDict).Ns s.heap.objs.size (fun _=>none):=⟨PySem.W.emptyDict,#[],_,e1,rfl,(fun e he=>absurd he (by simp)),fun _=>rfl⟩;have I1:=I.laid (a:=s.heap.objs.size) (o:=.own (s.heap.objs.size+1)) (h':=s.heap.push PySem.W.emptyDict) (t':=s.toks) (fun b u q=>Q7 _ q) (QZ _) ⟨_,e1⟩;refine I1.laid (a:=s.heap.objs.size+1) (o:=.ins C s.heap.objs.size []) (t':=s.toks) (fun b u q=>Q7 _ q) (Nat.le_of_eq (Heap.size_push _ _)) ?_;have ne:s.heap.objs.size≠s.heap.objs.size+1:=Qr (Nat.lt_succ_self _);refine⟨by rw[bA ne,aN],Z7 _,ne,e2,fun _=>none,(Heap.Ns1.of_empty e3).at fun o q=>Q7 _ q,fun _=>True.intro,fun y hy=>absurd rfl hy⟩
theorem G8{prog:Program}{w:World}{env:Env}{e:Expr}{f:Str}{pos:Pos}{s:Shared}{Q:Value->Shared->Prop}(hb:attributeBase e f env (eval e env)=eval e env)
  (h:wpAny (model prog w) A (eval e env) (fun o s₁=>wpAny (model prog w) A (getAttr o f true) Q E s₁) E s):wpAny (model prog w) A (eval (.Attribute e f pos) env) Q E s:=
 Attribute_any_ h (by rw[arm_eval_Attribute,hb])
end
def NU(K:Q1)(ta:TE)(f:Str):TE:=fun σ H Q=>ta σ H fun x H1=>∃a C dx fs v,x=.ref a/\H1 a=some (.ins C dx fs)/\Cls K C/\ke K C f/\fs.lookup f=some v/\Q v H1
def NY(K:Q1)(ta tv:TE)(f:Str):TS:=fun D σ H=>tv σ H fun y H1=>ta σ H1 fun x H2=>∃a C dx fs,x=.ref a/\H2 a=some (.ins C dx fs)/\Cls K C/\ke K C f/\fs.length<1000/\
 D.nx σ (upd H2 a (.ins C dx (pI f y fs)))
section
variable{X:Cx}{o e value:Expr}{f:Str}{pos pos':Pos}{ta tv:TE}
theorem JR(he:PE X e ta)(hb:attributeBase e f X.env (eval e X.env)=eval e X.env):PE X (.Attribute e f pos) (NU X.K ta f):=by
 intro pins s σ H Q I h;refine G8 hb (thn (he pins s σ H _ I h) fun u s1 hz=>?_);obtain⟨x,H1,I1,rx,a,C,dx,fs,v,ex,ea,c,n,l,q⟩:=hz;subst ex;obtain rfl:u=Value.ref a:=rx;exact xE I1 ea c n l fun u' s2 I2 ru=>⟨v,H1,I2,ru,q⟩
theorem JD(ha:PE X o ta)(hv:PE X value tv)(hs:swapsWith value (some (.Attribute o f pos')) pos.line X.env=pure false):PS X (.Assign [.Attribute o f pos'] value pos) (NY X.K ta tv f):=by
 intro pins s σ H D I h;refine plainObj_wpAny_Assign_Attribute (thn (hv pins s σ H _ I h) fun u s1 ⟨y,H1,I1,ry,q⟩=>thn (ha pins s1 σ H1 _ I1 q) fun ov s2 hz=>?_) hs;obtain⟨x,H2,I2,rx,a,C,dx,fs,ex,ea,c,n,l,q2⟩:=hz;subst ex;obtain rfl:ov=Value.ref a:=rx;exact xg I2 ea c n l ry fun s3 I3=>⟨σ,_,I3,q2⟩
end
section
variable{X:Cx}{pins:List (Addr×Obj)}{σ:St}{H:Hp}{s:Shared}{A:Around}{E:Value->Shared->Prop}{Q:Value->Shared->Prop}{c:Value}{b:Bool}
inductive w4(K:Q1)(H:Hp):V->Value->Prop where
 |non:w4 K H .non (.type "NoneType")
 |bl (x:Bool):w4 K H (.bl x) (.type "bool")
 |int (i:Int):w4 K H (.int i) (.type "int")
 |str (x:Str):w4 K H (.str x) (.type "str")
 |flt (x:UInt64):w4 K H (.flt x) (.type "float")
 |lst {a:Addr} {xs:List V} (e:H a=some (.lst xs)):w4 K H (.ref a) (.type "list")
 |frz {a:Addr} {o:Obj} {xs:List V} (e:H a=some (.frz o (.lst xs))):w4 K H (.ref a) (.type "list")
 |tup {a:Addr} {xs:List V} (e:H a=some (.tup xs)):w4 K H (.ref a) (.type "tuple")
 |dK {a:Addr} {kvs:List (Key×V)} (e:H a=some (.dK kvs)):w4 K H (.ref a) (.type "dict")
 |dT {a:Addr} {kvs:List (List Key×V)} (e:H a=some (.dT kvs)):w4 K H (.ref a) (.type "dict")
 | ins {a C dx:Addr} {fs:List (Str×V)} (e:H a=some (.ins C dx fs)) (cl:Cls K C) (ha:PySem.W.findIn K (.ref C) "__class__"=some (some (.builtin "object.__class__")))
   (hn:PySem.W.specialIn K (.builtin "object.__class__") "__get__"=some (some (.builtin "getset_descriptor.__get__"))) (htk:PySem.W.takesIn K (.builtin "object.__class__")=some true)
   (hm:PySem.W.mroIn K C (.type "object")=some true):w4 K H (.ref a) (.ref C)
theorem z7{x:V}{u t:Value}(I:Inv X pins σ H s)(rx:cD x u)(ty:w4 X.K H x t)(e:PySem.W.kitOne X.K t c=some b)(h:∀tk,Q (.bool b) { s with toks:=tk }) :
  wpAny (model X.prog X.w) A (call (.builtin "isinstance") [u,c]) Q E s:=by
 cases ty with
 |non=>cases (show u=Value.none from rx);exact PySem.W.kia_one PySem.W.kitx_none I.kIn True.intro e (fun z=>nomatch z) h
 |bl y=>cases (show u=Value.bool y from rx);exact PySem.W.kia_one PySem.W.kitx_bool I.kIn True.intro e (fun z=>nomatch z) h
 |int i=>obtain⟨t,q⟩:=(show ∃t,u=Value.int i t from rx);cases q;exact PySem.W.kia_one PySem.W.kitx_int I.kIn True.intro e (fun z=>nomatch z) h
 |str y=>obtain⟨t,q⟩:=(show ∃t,u=Value.str y t from rx);cases q;exact PySem.W.kia_one PySem.W.kitx_str I.kIn True.intro e (fun z=>nomatch z) h
 |flt y=>obtain⟨t,q⟩:=(show ∃t,u=Value.float y t from rx);cases q;exact PySem.W.kia_one PySem.W.kitx_float I.kIn True.intro e (fun z=>nomatch z) h
 |@lst a xs ea=>
  cases (show u=Value.ref a from rx);obtain⟨_,_,n,_,h1⟩:=(show cy X.prog X.w H s.heap a (.lst xs)from I.hok a _ ea);exact PySem.W.kia_one PySem.W.kitx_list I.kIn ⟨_,h1,rfl⟩ e (fun z=>nomatch z) h
 |@frz a ob xs ea=>
  cases (show u=Value.ref a from rx);obtain⟨_,_,_,n,_,h1⟩:=(show cy X.prog X.w H s.heap a (.frz ob (.lst xs))from I.hok a _ ea);exact PySem.W.kia_one PySem.W.kitx_list I.kIn ⟨_,h1,rfl⟩ e (fun z=>nomatch z) h
 |@tup a xs ea=>
  cases (show u=Value.ref a from rx);obtain⟨_,_,_,p⟩:=(show cy X.prog X.w H s.heap a (.tup xs)from I.hok a _ ea);obtain⟨o,h1,h2,_⟩:=p;exact PySem.W.kia_one PySem.W.kitx_tuple I.kIn ⟨o,h1,h2⟩ e (fun z=>nomatch z) h
 |@dK a kvs ea=>
  cases (show u=Value.ref a from rx);obtain⟨_,_,vs,_,p⟩:=(show cy X.prog X.w H s.heap a (.dK kvs)from I.hok a _ ea);obtain⟨o,es,ep,h1,h2,_⟩:=p;exact PySem.W.kia_one PySem.W.kitx_dict I.kIn ⟨o,h1,h2.1⟩ e (fun z=>nomatch z) h
 |@dT a kvs ea=>
  cases (show u=Value.ref a from rx);obtain⟨_,_,xs,_,o,es,ep,h1,h2,_⟩:=(show cy X.prog X.w H s.heap a (.dT kvs)from I.hok a _ ea);exact PySem.W.kia_one PySem.W.kitx_dict I.kIn ⟨o,h1,h2.1⟩ e (fun z=>nomatch z) h
 |@ins a C dx fs ea cl ha hn htk hm=>
  cases (show u=Value.ref a from rx);obtain⟨mA,O,_⟩:=qX I.hok ea;obtain⟨od,J,_⟩:=O.look;exact PySem.W.kia_one (PySem.W.kitx_own (cl.get _) cl.hd ha hn htk hm) I.kIn J e (fun z=>nomatch z) h
end
structure hU(k:Nat)(A:Around):Prop where
 hd:A.handled=none
 dp:A.depth+3*k+5<recursionLimit
 un:A.units+16*k+200<cLine
 gd:A.guards=some []
theorem hU.mono{j k:Nat}{A:Around}(r:hU k A)(h:j<=k):hU j A:=⟨r.hd,by have:=r.dp;omega,by have:=r.un;omega,r.gd⟩
theorem hU.deeper{k:Nat}{A:Around}(r:hU (k+1) A)(env:Env):hU k (A.deeper env):=
 ⟨r.hd,by have:=r.dp;show A.depth+1+3*k+5<_;omega,by have:=r.un;show A.units+3+16*k+200<_;omega,r.gd⟩
theorem xt{A:Around}{C:Addr}{us:List Value}{kw:List (Str×Value)}:(A.under (.builtin "type.__call__" ⟨.ref C::us,kw⟩)).depth=A.depth+1:=by
 first|rfl|simp[Around.under,Code.weight,Code.isCreation,Code.isGuard,Code.isCaller,Code.frames,Code.isFrame,guardIds]
theorem xq{A:Around}{C:Addr}{us:List Value}{kw:List (Str×Value)}:(A.under (.builtin "type.__call__" ⟨.ref C::us,kw⟩)).units=A.units+1:=by
 first|rfl|simp[Around.under,Code.cUnits,Code.frames,Code.isFrame]
theorem hU.make{k:Nat}{A:Around}(r:hU (k+1) A)(C:Addr)(us:List Value)(kw:List (Str×Value)):hU k (A.under (.builtin "type.__call__" ⟨.ref C::us,kw⟩)):=
 ⟨r.hd,by have:=r.dp;rw[xt];omega,by have:=r.un;rw[xq];omega,r.gd⟩
theorem hU.depth{k:Nat}{A:Around}(r:hU k A):A.depth<recursionLimit:=by have:=r.dp;omega
theorem hU.units{k:Nat}{A:Around}(r:hU k A):A.units+64<cLine:=by have:=r.un;omega
def Lf:TA:=fun _ H Q=>Q [] H
def Jd(ta:TE)(tr:TA):TA:=fun σ H Q=>ta σ H fun x H1=>tr σ H1 fun xs H2=>Q (x::xs) H2
section
variable{X:Cx}{e:Expr}{es:List Expr}{te:TE}{t:TA}{pos:Pos}
theorem JW:PA X [] Lf:=fun _ _ _ _ H Q I h=>Calls.spliced_nil ⟨[],H,I,.nil,h⟩
theorem Gd(ha:PE X e te)(hr:PA X es t)(hs:starEach (e::es) X.env=(false,eval e X.env)::starEach es X.env:=by rfl):PA X (e::es) (Jd te t):=by
 intro pos pins s σ H Q I h;rw[hs];show wpAny _ _ (spliced ((false,eval e X.env)::backTo pos (starEach es X.env))) _ _ s;refine Calls.spliced_cons (thn (ha pins s σ H _ I h) fun u s1 hz=>?_);obtain⟨x,H1,I1,r1,q1⟩:=hz;exact thn (hr pos pins s1 σ H1 _ I1 q1) fun us s2 ⟨xs,H2,I2,r2,q2⟩=>⟨x::xs,H2,I2,.cons r1 r2,q2⟩
def NM(t:TA):TE:=fun σ H Q=>t σ H fun xs H1=>xs.length<=sizeLine/\∀p,H1 p=none->Q (.ref p) (upd H1 p (.tup xs))
def NR(t:TA):TE:=fun σ H Q=>t σ H fun xs H1=>xs.length<=sizeLine/\∀p,H1 p=none->Q (.ref p) (upd H1 p (.lst xs))
theorem JK{x1}(h:PA X es t):PE X (.Tuple es x1 pos) (NM t):=by
 intro pins s σ H Q I hq;refine wpAny_Tuple_spliced (thn (h pos pins s σ H _ I hq) fun us s1 ⟨xs,H1,I1,r,z,q⟩=>⟨by rw[<-r.length];exact z,?_⟩);have hf:H1 s1.heap.objs.size=none:=I1.hok.fresh (QZ _);refine⟨.ref s1.heap.objs.size,upd H1 s1.heap.objs.size (.tup xs),I1.laid (t':=s1.toks) (fun b u e=>Q7 _ e) (QZ _) ?_,rfl,q _ hf⟩;exact⟨z,us,r,⟨_,QF _ rfl,rfl,_,rfl⟩⟩
theorem JP(h:PA X es t):PE X (.List es pos) (NR t):=by
 intro pins s σ H Q I hq;refine wpAny_List_spliced (thn (h pos pins s σ H _ I hq) fun us s1 ⟨xs,H1,I1,r,z,q⟩=>⟨by rw[<-r.length];exact z,?_⟩);have hf:H1 s1.heap.objs.size=none:=I1.hok.fresh (QZ _);refine⟨.ref s1.heap.objs.size,upd H1 s1.heap.objs.size (.lst xs),I1.laid (t':=s1.toks) (fun b u e=>Q7 _ e) (QZ _) ?_,rfl,q _ hf⟩;exact⟨z,us,0,r,QF _ rfl⟩
end
abbrev Sp:=List V->Hp->VK->XK->Prop
abbrev CXT:=List Env->Hp->Shared->XK->Value->Shared->Prop
structure Hi(P:Program)(w:World)(K:Q1)(mg:Str->Option Value)(base:Heap)(A:Around)(outer:List Env)(s:Shared)(H:Hp):Prop where
 frames:A.frames=some outer
 mod:Mod K mg base
 bs:∀b o,base.get? b=some o->s.heap.get? b=some o/\H b=none
 bsz:base.objs.size<=s.heap.objs.size
 funs:s.heap.FunFrames base outer
 frf:∀b∈frs outer,H b=none
 hok:HOk P w H s.heap
 bare:AllBare s.gens
def CE(outer:List Env)(P:Program)(w:World)(H:Hp)(s:Shared)(Q:VK)(u:Value)(s':Shared):Prop:=
 ∃v H',s'.os=s.os/\AllBare s'.gens/\Un (frs outer) [] H H' s.heap s'.heap/\HOk P w H' s'.heap/\cD v u/\Q v H'
def CR(CX:CXT)(outer:List Env)(P:Program)(w:World)(H:Hp)(s:Shared)(Q:VK)(E:XK)(r:Result)(s':Shared):Prop:=
 match r with
 |.ok (.ret u)=>CE outer P w H s Q u s'
 |.ok _=>False
 |.error e=>CX outer H s E e s'
structure nc(P:Program)(w:World)(K:Q1)(mg:Str->Option Value)(base:Heap)(CX:CXT)(k:Nat)(f:Addr)(fd:FuncData)(ps:List Str)(sp:Sp):Prop where
 len:∀vs H Q E,sp vs H Q E->vs.length=ps.length
 run:∀(A:Around) (outer:List Env) (s:Shared) (H:Hp) (args:Args) (us:List Value) (vs:List V) (Q:VK) (E:XK),hU k A->Hi P w K mg base A outer s H->BindsTo s fd args (ps.zip us)->bU vs us->sp vs H Q E->
  codeAny (model P w) A (.call (.ref f) args) (CR CX outer P w H s Q E) s
theorem nc.mono{P:Program}{w:World}{K:Q1}{mg:Str->Option Value}{base:Heap}{CX:CXT}{j k:Nat}{f:Addr}{fd:FuncData}{ps:List Str}{sp:Sp}(F:nc P w K mg base CX j f fd ps sp)(h:j<=k) :
  nc P w K mg base CX k f fd ps sp:=⟨F.len,fun A outer s H args us vs Q E hr=>F.run A outer s H args us vs Q E (hr.mono h)⟩
theorem Hi.make{P:Program}{w:World}{K:Q1}{mg:Str->Option Value}{base:Heap}{A:Around}{outer:List Env}{s:Shared}{H:Hp}(e:Hi P w K mg base A outer s H)(C:Addr)(us:List Value)(kw:List (Str×Value)) :
  Hi P w K mg base (A.under (.builtin "type.__call__" ⟨.ref C::us,kw⟩)) outer s H:=⟨by first|exact e.frames|(simpa [Around.under,Code.envs,Code.isFrame,pushEnvs] using e.frames),e.mod,e.bs,e.bsz,e.funs,e.frf,e.hok,e.bare⟩
section
variable{X:Cx}{pins:List (Addr×Obj)}{σ:St}{H:Hp}{s s':Shared}
theorem Inv.env0(I:Inv X pins σ H s):Hi X.prog X.w X.K X.mg X.base X.A X.stack s H:=
 ⟨I.ok.frames,I.ok.mod,I.bs,Qj I.ok.bsz I.sz,I.stack,I.stkFree,I.hok,I.bare⟩
theorem Inv.after{Q:VK}{u:Value}(I:Inv X pins σ H s)(h:CE X.stack X.prog X.w H s Q u s'):EP X pins σ Q u s':=by
 obtain⟨v,H',os,bare,un,hok,r,q⟩:=h;obtain⟨hh,g,d,t,os'⟩:=s';obtain rfl:os'=s.os:=os;exact⟨v,H',I.call (h':=hh) (g':=g) (d':=d) (t':=t) (ch:=[]) un hok bare (fun b z=>absurd z (by simp)),r,q⟩
end
def Je(sp:Sp)(dvs:List V)(E:XK)(t:TA):TE:=fun σ H Q=>t σ H fun vs H1=>sp (vs++dvs) H1 Q E
def Fv(C:Addr)(m:Str)(sp:Sp)(dvs:List V)(E:XK)(ta:TE)(t:TA):TE:=fun σ H Q=>ta σ H fun x H1=>∃a dx fs,x=.ref a/\H1 a=some (.ins C dx fs)/\fs.lookup m=none/\
 t σ H1 fun vs H2=>sp (x::(vs++dvs)) H2 Q E
def yK(C:Addr)(sp:Sp)(dvs:List V)(E:XK)(t:TA):TE:=fun σ H Q=>t σ H fun vs H1=>∀x dx,H1 x=none->H1 dx=none->dx≠x->
 sp (.ref x::(vs++dvs)) (upd (upd H1 dx (.own x)) x (.ins C dx [])) (fun v H2=>v=.non/\Q (.ref x) H2) E
def iT(K:Q1)(fd:FuncData)(ps:List Str)(ds:List Value):Prop:=
 ∀(s:Shared) (us:List Value),K.In s.heap->(us++ds).length=ps.length->BindsTo s fd ⟨us,[]⟩ (ps.zip (us++ds))
theorem iT.all{K:Q1}{fd:FuncData}{ps:List Str}(h:∀us:List Value,us.length=ps.length->bindArgs fd ⟨us,[]⟩=pure (ps.zip us)):iT K fd ps []:=fun s us _ hl=>by
 rw[QJ]at hl ⊢;exact .of_eq (h us hl)
def j9(CX:CXT)(X:Cx)(E:XK):Prop:=∀(pins:List (Addr×Obj)) (σ:St) (H:Hp) (s:Shared) (e:Value) (s':Shared),Inv X pins σ H s->CX X.stack H s E e s'->X.xe e s'
section
variable{X:Cx}{CX:CXT}{k:Nat}{f C:Addr}{fd:FuncData}{ps:List Str}{sp:Sp}{dvs:List V}{ds:List Value}{E:XK}{x m:Str}{p pos apos:Pos}{e o:Expr}{es:List Expr}{ta:TE}{t:TA}
theorem D5{pins:List (Addr×Obj)}{σ:St}{H:Hp}{s:Shared}{Q:VK}{us:List Value}{vs:List V}(F:nc X.prog X.w X.K X.mg X.base CX k f fd ps sp)(hr:hU k X.A)(hb:iT X.K fd ps ds)(hd:bU dvs ds)(hx:j9 CX X E)
  (I:Inv X pins σ H s) (r:bU vs us) (h:sp (vs++dvs) H Q E):wpAny (model X.prog X.w) X.A (call (.ref f) us) (EP X pins σ Q) X.xe s:=by
 have r2:bU (vs++dvs) (us++ds):=r.append hd;have hl:(us++ds).length=ps.length:=by rw[<-r2.length];exact F.len _ _ _ _ h
 refine wpAny_call (codeAny_mono (F.run X.A X.stack s H ⟨us,[]⟩ (us++ds) (vs++dvs) Q E hr I.env0 (hb s us I.kIn hl) r2 h) fun r s' hq=>?_);cases r with
 |error e=>exact hx pins σ H s e s' I hq
 |ok fl=>
  cases fl with
  |ret u=>exact I.after hq
  |next=>exact False.elim hq
  |brk=>exact False.elim hq
  |cont=>exact False.elim hq
theorem F9(F:nc X.prog X.w X.K X.mg X.base CX k f fd ps sp)(hr:hU k X.A)(hg:Gl X x)(hm:X.mg x=some (.ref f))(hk:PySem.W.keepIn X.K (.ref f)=true)(hb:iT X.K fd ps ds)(hd:bU dvs ds)(hx:j9 CX X E)
  (ha:PA X (e::es) t) (hdb:(x == ("__debug__":Str))=false:=by decide) (he:starEach (e::es) X.env=(false,eval e X.env)::starEach es X.env:=by rfl) (hpl:(backTo pos (starEach es X.env)).any (·.1)=false:=by rfl) :
  PE X (.Call (.Name x p) (e::es) [] pos) (Je sp dvs E t):=by
 intro pins s σ H Q I h;refine wpAny_Call_Name_kw (qV I hg hm ?_ hdb);refine PySem.W.callWith_K (h₀:=X.base) I.ok.mod.kin hk (thn (ha pos pins s σ H _ I h) fun us s1 ⟨vs,H1,I1,r,q⟩=>⟨I1.kIn,?_⟩) he hpl;exact D5 F hr hb hd hx I1 r q
theorem FY{pl:Sem Bool}(he:PE X o ta)(c:Cls X.K C)(hm:K9 X.K C m f)(F:nc X.prog X.w X.K X.mg X.base CX k f fd ps sp)(hr:hU k X.A)(hb:iT X.K fd ps ds)(hd:bU dvs ds)(hx:j9 CX X E)(ha:PA X (e::es) t)
  (hst:starEach (e::es) X.env=(false,eval e X.env)::starEach es X.env:=by rfl) (hpl:(backTo pos (starEach es X.env)).any (·.1)=false:=by rfl)
  (ht:eval (.Call (.Attribute o m apos) (e::es) [] pos) X.env=(do
   let ov <-eval o X.env
   standAt apos.atName
   let (f,first) <-holding [ov] (getMethod ov m pl)
   callWith pos f first (backTo pos (starEach (e::es) X.env)) (backToKw pos (keywordEach [] X.env))):=by rfl) :
  PE X (.Call (.Attribute o m apos) (e::es) [] pos) (Fv C m sp dvs E ta t):=by
 intro pins s σ H Q I h;refine PySem.W.methodCall_KW (pl:=pl) (thn (he pins s σ H _ I h) fun u s1 hz=>?_) ht;obtain⟨x,H1,I1,rx,a,dx,fs,ex,ea,l,q⟩:=hz;subst ex;obtain rfl:u=Value.ref a:=rx;refine xD I1 ea c hm l ?_;refine PySem.W.callWith_K (first:=[.ref a]) (h₀:=X.base) I.ok.mod.kin hm.kp (thn (ha pos pins s1 σ H1 _ I1 q) fun us s2 ⟨vs,H2,I2,r,q2⟩=>⟨I2.kIn,?_⟩) hst hpl;exact D5 (us:=.ref a::us) (vs:=.ref a::vs) F hr hb hd hx I2 (.cons rfl r) q2
structure Mk(K:Q1)(C f:Addr):Prop where
 makes:PySem.W.makesIn K C=true
 init:PySem.W.findIn K (.ref C) "__init__"=some (some (.ref f))
 fn:PySem.W.isFn K (.ref f)=true
 kp:PySem.W.keepIn K (.ref C)=true
theorem vN{pins:List (Addr×Obj)}{σ:St}{H:Hp}{s:Shared}{Q:VK}{us:List Value}{vs:List V}(M:Mk X.K C f)(F:nc X.prog X.w X.K X.mg X.base CX k f fd ps sp)(hr:hU (k+1) X.A)(hb:iT X.K fd ps ds)(hd:bU dvs ds)
  (hx:j9 CX X E) (I:Inv X pins σ H s) (r:bU vs us)
  (h:∀x dx,H x=none->H dx=none->dx≠x->sp (.ref x::(vs++dvs)) (upd (upd H dx (.own x)) x (.ins C dx [])) (fun v H2=>v=.non/\Q (.ref x) H2) E) :
  wpAny (model X.prog X.w) X.A (call (.ref C) us) (EP X pins σ Q) X.xe s:=by
 have hq:=h (s.heap.objs.size+1) s.heap.objs.size (I.hok.fresh (Nat.le_succ _)) (I.hok.fresh (QZ _)) (Qr (Nat.lt_succ_self _));have I2:=Inv.made (C:=C) I;have r2:bU (V.ref (s.heap.objs.size+1)::(vs++dvs)) (Value.ref (s.heap.objs.size+1)::(us++ds)):=.cons rfl (r.append hd);have hl:(Value.ref (s.heap.objs.size+1)::us++ds).length=ps.length:=by
  have e:=r2.length;rw[F.len _ _ _ _ hq]at e;exact e.symm
 refine wpAny_call (CK (f:=f) I.kIn M.makes M.init (beq_iff_eq.mp M.fn) (codeAny_mono (F.run _ X.stack _ _ ⟨Value.ref (s.heap.objs.size+1)::us,[]⟩ (Value.ref (s.heap.objs.size+1)::(us++ds)) _ _ E (hr.make C us [])
  (I2.env0.make C us []) (hb _ (Value.ref (s.heap.objs.size+1)::us) I2.kIn hl) r2 hq) fun r s' hq'=>?_))
 cases r with
 |error e=>exact hx pins σ _ _ e s' I2 hq'
 |ok fl=>
  cases fl with
  |ret u=>
   obtain⟨v,H',I3,rv,ev,q3⟩:=I2.after hq';subst ev;exact⟨rv,⟨V.ref (s.heap.objs.size+1),H',I3,rfl,q3⟩⟩
  |next=>exact False.elim hq'
  |brk=>exact False.elim hq'
  |cont=>exact False.elim hq'
theorem FZ(M:Mk X.K C f)(F:nc X.prog X.w X.K X.mg X.base CX k f fd ps sp)(hr:hU (k+1) X.A)(hg:Gl X x)(hm:X.mg x=some (.ref C))(hb:iT X.K fd ps ds)(hd:bU dvs ds)(hx:j9 CX X E)
  (ha:PA X (e::es) t) (hdb:(x == ("__debug__":Str))=false:=by decide) (he:starEach (e::es) X.env=(false,eval e X.env)::starEach es X.env:=by rfl) (hpl:(backTo pos (starEach es X.env)).any (·.1)=false:=by rfl) :
  PE X (.Call (.Name x p) (e::es) [] pos) (yK C sp dvs E t):=by
 intro pins s σ H Q I h;refine wpAny_Call_Name_kw (qV I hg hm ?_ hdb);refine PySem.W.callWith_K (h₀:=X.base) I.ok.mod.kin M.kp (thn (ha pos pins s σ H _ I h) fun us s1 ⟨vs,H1,I1,r,q⟩=>⟨I1.kIn,?_⟩) he hpl;exact vN M F hr hb hd hx I1 r q
theorem Cd(M:Mk X.K C f)(F:nc X.prog X.w X.K X.mg X.base CX k f fd ps sp)(hr:hU (k+1) X.A)(hg:Gl X x)(hm:X.mg x=some (.ref C))(hb:iT X.K fd ps ds)(hd:bU dvs ds)(hx:j9 CX X E)
  (hdb:(x == ("__debug__":Str))=false:=by decide):PE X (.Call (.Name x p) [] [] pos) (yK C sp dvs E Lf):=by
 intro pins s σ H Q I h;refine wpAny_Call_Name_kw (qV I hg hm ?_ hdb);exact PySem.W.callWith_K0 I.kIn M.kp (vN (us:=[]) M F hr hb hd hx I .nil h)
end
structure aL(N P:List Str)(sc:Scope):Prop where
 kind:sc.kind=.function
 co:sc.isCoroutine=false
 gen:sc.isGenerator=false
 nd:N.Nodup
 pre:N.take P.length=P
 par:∀x∈P,sc.names.lookup x=some .local\/sc.names.lookup x=some .cell
 nofree:∀y∈sc.names,y.2≠.free
theorem ui{kindOf:Str->Option NameKind}{x:Str}:∀{binds:List (Str×Value)} {m:Str->Option Value},(∀v,(x,v)∉binds)->bindL kindOf binds m x=m x
 |[],_,_=>rfl
 |(n,v)::r,m,h=>by
  unfold bindL;rw[ui fun w hw=>h w (QD _ hw)];split
  ·have:x≠n:=by rintro rfl;exact h v QU
   simp[this]
  ·rfl
theorem uk{kindOf:Str->Option NameKind}{x:Str}:∀{binds:List (Str×Value)} {m:Str->Option Value},(∀v,(x,v)∉binds)->bindC kindOf binds m x=m x
 |[],_,_=>rfl
 |(n,v)::r,m,h=>by
  unfold bindC;rw[uk fun w hw=>h w (QD _ hw)];split
  ·rfl
  ·have:x≠n:=by rintro rfl;exact h v QU
   simp[this]
theorem uj{kindOf:Str->Option NameKind}{x:Str}{v:Value}:∀{P:List Str} {vs:List Value} {i:Nat} {m:Str->Option Value},P.Nodup->P[i]?=some x->vs[i]?=some v->kindOf x=some .local->
  bindL kindOf (P.zip vs) m x=some v
 |[],_,_,_,_,h,_,_=>by simp at h
 |_::_,[],_,_,_,_,h,_=>by simp at h
 |p::P,w::vs,0,m,nd,h1,h2,hk=>by
  simp at h1 h2;subst h1;subst h2;show bindL kindOf ((p,w)::P.zip vs) m p=_;unfold bindL;rw[ui fun v hv=>(ZG.mp nd).1 (List.of_mem_zip hv).1,if_pos hk];simp
 |p::P,w::vs,i+1,m,nd,h1,h2,hk=>by
  show bindL kindOf ((p,w)::P.zip vs) m x=_;unfold bindL;exact uj (i:=i) (ZG.mp nd).2 (by simpa using h1) (by simpa using h2) hk
theorem um{kindOf:Str->Option NameKind}{x:Str}{v:Value}:∀{P:List Str} {vs:List Value} {i:Nat} {m:Str->Option Value},P.Nodup->P[i]?=some x->vs[i]?=some v->kindOf x≠some .local->
  bindC kindOf (P.zip vs) m x=some v
 |[],_,_,_,_,h,_,_=>by simp at h
 |_::_,[],_,_,_,_,h,_=>by simp at h
 |p::P,w::vs,0,m,nd,h1,h2,hk=>by
  simp at h1 h2;subst h1;subst h2;show bindC kindOf ((p,w)::P.zip vs) m p=_;unfold bindC;rw[uk fun v hv=>(ZG.mp nd).1 (List.of_mem_zip hv).1,if_neg hk];simp
 |p::P,w::vs,i+1,m,nd,h1,h2,hk=>by
  show bindC kindOf ((p,w)::P.zip vs) m x=_;unfold bindC;exact um (i:=i) (ZG.mp nd).2 (by simpa using h1) (by simpa using h2) hk
def kP(N:List Str)(vs:List V):St:=vs.map some++Qh (N.length-vs.length) none
def wL(CX:CXT)(P:Program)(w:World)(K:Q1)(mg:Str->Option Value)(base:Heap)(N:List Str)(qual:Str)(scope:Scope)(f:Addr)(cd:Value)(A:Around)(outer:List Env)(s:Shared)(H:Hp)(E:XK):Cx where
 prog:=P
 w:=w
 K:=K
 mg:=mg
 base:=base
 A:=A.deeper (envOfC qual scope s.heap.objs.size f cd)
 N:=N
 s₀:=s
 H₀:=H
 env:=envOfC qual scope s.heap.objs.size f cd
 outer:=outer
 stack:=envOfC qual scope s.heap.objs.size f cd::outer
 ex:=[]
 calm:=true
 fn:=fun _=>true
 pn:=[]
 xe:=fun e s'=>wpAny (model P w) (A.deeper (envOfC qual scope s.heap.objs.size f cd)) (leaving (envOfC qual scope s.heap.objs.size f cd) e) (fun _ s''=>CX outer H s E e s'') (fun e' s''=>CX outer H s E e' s'') s'
theorem wQ{sc:Scope}{n:Nat}{x:Str}(h:sc.names.lookup x=some .cell):∃c,(cellsFrom n sc.names []).lookup x=some c:=by
 have q:=PySem.W.cellsFrom_some sc.names n [] (.inl h);exact Option.isSome_iff_exists.mp q
theorem Ab{CX:CXT}{P:Program}{w:World}{K:Q1}{mg:Str->Option Value}{base:Heap}{N ps:List Str}{qual:Str}{scope:Scope}{f:Addr}{cd:Value}{A:Around}{outer:List Env}{s s1:Shared}{H:Hp}{E:XK}{us:List Value}{vs:List V}
  (S:aL N ps scope) (hd:A.handled=none) (e0:Hi P w K mg base A outer s H) (hl:vs.length=ps.length) (r:bU vs us)
  (x:InCallC s s.heap.objs.size (bindL (envOfC qual scope s.heap.objs.size f cd).kindOf (ps.zip us) fun _=>none) (cellsFrom (s.heap.objs.size+1) scope.names []) (bindC (envOfC qual scope s.heap.objs.size f cd).kindOf (ps.zip us) fun _=>none) s1) :
  Inv (wL CX P w K mg base N qual scope f cd A outer s H E) [] (kP N vs) H s1:=by
 have hpl:ps.length<=N.length:=by have:=congrArg List.length S.pre;rw[List.length_take]at this;omega
 obtain⟨h1,tk,rfl,hk⟩:=x.done;have noA:∀b:Addr,b∉(wL CX P w K mg base N qual scope f cd A outer s H E).ex:=fun b z=>absurd (show b∈([]:List Addr)from z) (by simp);refine⟨⟨e0.mod,S.kind,rfl,rfl,QZ _,fun y z c h1 h2=>?_,fun y hy=>?_,fun y c _ h=>?_,fun _=>hd,Around.frames_deeper e0.frames,.inr ⟨rfl,rfl⟩,fun b z=>absurd z (noA b),e0.bs,e0.bsz,fun b _ _=>noA b,fun b z=>absurd z (noA b),e0.funs,e0.frf⟩,
  rfl,e0.bare,Un.kept hk,⟨_,x.toInCall.ns,fun i y v h1 h2 h3=>?_⟩,fun y c h=>⟨_,x.cell y c h⟩,e0.hok.fresh (QZ _),fun y c h=>?_,fun p hp=>absurd (show p∈([]:List (Addr×Obj))from hp) (by simp),e0.hok.kept hk,?_⟩
 ·exact name_of_addr x.apart (PySem.mem_of_lookup h1) (PySem.mem_of_lookup h2)
 ·have hy:scope.names.lookup y=some .cell\/scope.names.lookup y=some .free:=hy;rcases hy with hy|hy
  ·exact wQ hy
  ·exact absurd rfl (S.nofree _ (PySem.mem_of_lookup hy))
 ·exact Nat.le_of_lt (x.above y c (PySem.mem_of_lookup h))
 ·have hi:i<vs.length:=by
   unfold kP at h2;by_cases hi:i<vs.length
   ·exact hi
   ·rw[Qx (by simpa using hi)]at h2;rw[ZH]at h2;split at h2<;>cases h2
  have ha:vs[i]?=some v:=by
   unfold kP at h2;rw[QN (by simpa using hi),Qb]at h2;cases e:vs[i]? with
   |none=>rw[e]at h2;cases h2
   |some a=>rw[e]at h2;cases h2;rfl
  obtain⟨u,hu,rv⟩:=r.get ha;have hp:ps[i]?=some y:=by
   rw[<-S.pre,List.getElem?_take_of_lt (by omega)];exact h1
  have ndP:ps.Nodup:=by rw[<-S.pre];exact S.nd.sublist (List.take_sublist _ _)
  refine⟨u,rv,?_⟩;rcases S.par y (List.mem_of_getElem? hp)with k|k
  ·exact .inl ⟨k,uj ndP hp hu k⟩
  ·obtain⟨c,e⟩:=wQ (n:=s.heap.objs.size+1) k;refine .inr ⟨.inl k,c,e,?_⟩;have q:=x.cell y c e;rw[um ndP hp hu (by show scope.names.lookup y≠_;rw[k];decide)]at q;exact q
 ·exact e0.hok.fresh (Nat.le_of_lt (x.above y c (PySem.mem_of_lookup h)))
 ·unfold kP;show _=N.length;rw[Q6,Q5,List.length_replicate];omega
theorem Nq{CX:CXT}{P:Program}{w:World}{K:Q1}{mg:Str->Option Value}{base:Heap}{k:Nat}{f:Addr}{name qual:Str}{params:Arguments}{body:List Stmt}{scope:Scope}{dV kV doc pm cdv ct oc:Value}{an od:Option Addr}
  {osl:Array (Option Value)} {N ps:List Str} {sp:Sp} (lk:K.lookup f=some ⟨oc,od,.func (PySem.W.fnOf name qual params body scope dV kV doc pm an cdv ct),osl⟩) (hcd:PySem.W.codeIn K cdv qual=true) (S:aL N ps scope)
  (len:∀vs H Q E,sp vs H Q E->vs.length=ps.length)
  (hbody:∀(A:Around) (outer:List Env) (s:Shared) (H:Hp) (vs:List V) (Q:VK) (E:XK),hU k (A.deeper (envOfC qual scope s.heap.objs.size f cdv))->sp vs H Q E->
   ∃t,PSs (wL CX P w K mg base N qual scope f cdv A outer s H E) body t/\t { nx:=fun _ H'=>Q .non H',rt:=Q } (kP N vs) H) :
  nc P w K mg base CX (k+1) f (PySem.W.fnOf name qual params body scope dV kV doc pm an cdv ct) ps sp:=by
 refine⟨len,fun A outer s H args us vs Q E hr e0 hb r hsp=>?_⟩;have hl:=len _ _ _ _ hsp;have KX:K.In s.heap:=e0.mod.kin.keeps fun b o e=>(e0.bs b o e).1;have lim:s.heap.NoLimit:=e0.mod.nolimit.keeps fun b o e=>(e0.bs b o e).1;have hkind:∀y∈ps.zip us,scope.names.lookup y.1=some .local\/(scope.names.lookup y.1=some .cell/\((cellsFrom (s.heap.objs.size+1) scope.names []).lookup y.1).isSome=true):=fun⟨n,v⟩ hy=>by
  rcases S.par n (List.of_mem_zip hy).1 with q|q
  ·exact .inl q
  ·exact .inr ⟨q,PySem.W.cellsFrom_some _ _ _ (.inl q)⟩
 refine codeAny_call_function hr.depth (KX _ _ lk) rfl S.co S.gen rfl (PySem.W.codeRec_of KX hcd) (hb _ _ _ _ ?_);refine wpAny_newFunctionEnv_cells S.kind hkind fun env he s1 x=>?_;subst he;refine⟨lim.keeps x.toInCall.keep,codeAny_func ?_⟩;obtain⟨t,ht,hq⟩:=hbody A outer s H vs Q E (hr.deeper _) hsp;have I:Inv (wL CX P w K mg base N qual scope f cdv A outer s H E) [] (kP N vs) H s1:=Ab S hr.hd e0 hl r x;refine Z9 (ht [] s1 (kP N vs) H _ I hq) (fun fl s' hs=>?_) fun e s' hs=>hs;have fin:∀{σ':St} {H':Hp} {v:V} {u:Value},Inv (wL CX P w K mg base N qual scope f cdv A outer s H E) [] σ' H' s'->cD v u->Q v H'->CE outer P w H s Q u s':=
  fun{σ' H' v u} J rv q=>⟨v,H',J.os,J.bare,J.base,J.hok,rv,q⟩
 cases fl with
 |ret u=>
  obtain⟨v,σ',H',J,rv,q⟩:=hs;exact fin J rv q
 |next=>
  obtain⟨σ',H',J,q⟩:=hs;exact fin (v:=V.non) (u:=Value.none) J rfl q
 |brk=>
  obtain⟨_,_,_,q⟩:=hs;exact False.elim q
 |cont=>
  obtain⟨_,_,_,q⟩:=hs;exact False.elim q
section
variable{X:Cx}{x:Str}{p pos:Pos}{e:Expr}{es:List Expr}{t:TA}{id T:String}{r:List V->Hp->VK->Prop}
def tCB(r:List V->Hp->VK->Prop)(t:TA):TE:=fun σ H Q=>t σ H fun vs H1=>r vs H1 Q
theorem Cj(hc:fY X (.builtin id) r)(hg:Gl X x)(hm:X.mg x=none)(hv:bootBuiltins x=some (.builtin id))(ha:PA X (e::es) t)(hn:x≠"__name__":=by decide)(hdb:(x == ("__debug__":Str))=false:=by decide)
  (he:starEach (e::es) X.env=(false,eval e X.env)::starEach es X.env:=by rfl) (hpl:(backTo pos (starEach es X.env)).any (·.1)=false:=by rfl):PE X (.Call (.Name x p) (e::es) [] pos) (tCB r t):=by
 intro pins s σ H Q I h;refine wpAny_Call_Name_kw (oE I hg hm hv ?_ hn hdb);exact PyProof.Rows.callWith_builtin1 (thn (ha pos pins s σ H _ I h) fun us s1 ⟨vs,H1,I1,r1,q1⟩=>hc pins s1 σ H1 vs us Q I1 r1 q1) he hpl
theorem zu(hc:fY X (.type T) r)(hg:Gl X x)(hm:X.mg x=none)(hv:bootBuiltins x=some (.type T))(ha:PA X (e::es) t)(hn:x≠"__name__":=by decide)(hdb:(x == ("__debug__":Str))=false:=by decide)
  (he:starEach (e::es) X.env=(false,eval e X.env)::starEach es X.env:=by rfl) (hpl:(backTo pos (starEach es X.env)).any (·.1)=false:=by rfl):PE X (.Call (.Name x p) (e::es) [] pos) (tCB r t):=by
 intro pins s σ H Q I h;refine wpAny_Call_Name_kw (oE I hg hm hv ?_ hn hdb);exact PyProof.Rows.callWith_type1 (thn (ha pos pins s σ H _ I h) fun us s1 ⟨vs,H1,I1,r1,q1⟩=>hc pins s1 σ H1 vs us Q I1 r1 q1) he hpl
end
end L2
namespace HT
open PySem PyProof.Rows
section
variable{prog:Program}{w:World}{A:Around}{E:Value->Shared->Prop}{s:Shared}
theorem cat_tup{t b:Addr}{vs ws:List Value}{Q:Value->Shared->Prop}(ht:IsTup s.heap t vs.toArray)(hb:IsTup s.heap b ws.toArray)(hv:vs≠[])
  (h1:ws=[]->Q (.ref t) s) (h2:ws≠[]->Q (.ref s.heap.objs.size) { s with heap:=s.heap.push { cls:=.type "tuple",data:=.seq (vs++ws).toArray } })
  (hsz:vs.length+ws.length<=sizeLine):wpAny (model prog w) A (binaryOp .Add (.ref t) (.ref b)) Q E s:=by
 obtain⟨⟨cls,dd,data,sl⟩,ho,hc,n,hd⟩:=id ht;obtain⟨⟨cls2,dd2,data2,sl2⟩,ho2,hc2,n2,hd2⟩:=id hb;simp only at hc hd hc2 hd2;subst hc hd hc2 hd2;have e:vs.toArray++ws.toArray=(vs++ws).toArray:=by simp
 by_cases hw:ws=[]
 ·exact concat_meets ⟨_,ho,rfl⟩ ⟨_,ho2,rfl⟩ noFill_tuple_add seq_tuple_add PySem.F.slot_tuple_add PySem.F.entry_tuple_add (PySem.F.args_tuple_add_2 _ _)
   (tuple_addW1 t b vs.toArray ws.toArray n n2 dd dd2 sl sl2 (by simpa using hv) (by simp[hw])) ⟨ho,ho2,h1 hw⟩
 ·refine concat_meets ⟨_,ho,rfl⟩ ⟨_,ho2,rfl⟩ noFill_tuple_add seq_tuple_add PySem.F.slot_tuple_add PySem.F.entry_tuple_add (PySem.F.args_tuple_add_2 _ _)
   (tuple_addW2 t b vs.toArray ws.toArray n n2 dd dd2 sl sl2 (by simpa using hv) (by simpa using hw) (by rw[QH,QH];exact hsz)) ⟨ho,ho2,?_⟩
  rw[e];exact h2 hw
def sIx(n d:Nat):Option Int->Nat
 |none=>d
 |some v=>if v<0 then(v+(n:Int)).toNat else min v.toNat n
theorem Jl(n d:Nat)(hd:d<=n)(o:Option Int):sIx n d o<=n:=by
 cases o with
 |none=>exact hd
 |some v=>
  show(if v<0 then(v+(n:Int)).toNat else min v.toNat n)<=n;by_cases hv:v<0
  ·rw[if_pos hv];omega
  ·rw[if_neg hv];exact Nat.min_le_right _ _
theorem AO(v:Int)(n d:Nat):(if v<0 then max (v+(n:Int)) 0 else min v (n:Int))=((sIx n d (some v):Nat):Int):=by
 show(if v<0 then max (v+(n:Int)) 0 else min v (n:Int))=(((if v<0 then(v+(n:Int)).toNat else min v.toNat n):Nat):Int);by_cases hv:v<0
 ·simp only[if_pos hv];omega
 ·simp only[if_neg hv];omega
theorem xU(lo hi:Option Int)(n:Nat):Builtin.Slice.sliceAdjust lo hi 1 (n:Int)=(((sIx n 0 lo:Nat):Int),((sIx n n hi:Nat):Int)):=by
 have h1:¬((1:Int)<0):=by omega
 unfold Builtin.Slice.sliceAdjust;simp only[h1,if_false];refine Prod.ext ?_ ?_
 ·cases lo with
  |none=>rfl
  |some v=>exact AO v n 0
 ·cases hi with
  |none=>rfl
  |some v=>exact AO v n n
theorem xl(i j:Nat):Builtin.Slice.slicePlaces (i:Int) (j:Int) 1=j-i:=by
 unfold Builtin.Slice.slicePlaces;have h1:(1:Int)>0:=by omega
 simp only[h1,if_true,Int.ediv_one];split<;>omega
theorem p6{v:Value}{o:Option Int}{Q:Option Int->Shared->Prop}(p:IsPart v o)(h:Q o s):wpAny (model prog w) A (Builtin.Slice.slicePartIndex v) Q E s:=by
 cases p with
 |none=>exact slicePart_none h
 |int i t=>exact slicePart_int h
theorem nh{sl:Addr}{vl vu:Value}{lo hi:Option Int}{n:Nat}{Q:Int×Int×Nat->Shared->Prop}(hs:s.heap.IsSliceOf sl vl vu .none)(pl:IsPart vl lo)(pu:IsPart vu hi)
  (h:Q (((sIx n 0 lo:Nat):Int),1,sIx n n hi-sIx n 0 lo) s):wpAny (model prog w) A (Builtin.Slice.sliceApplied (.ref sl) (pure (n:Int))) Q E s:=by
 obtain⟨os,hos,hcs,hds⟩:=id hs;unfold Builtin.Slice.sliceApplied Builtin.Slice.sliceFields;refine Q2 (Q2 (wpAny_field hos hds (x:=vl) rfl (Q2 (wpAny_field hos hds (x:=vu) rfl (Q2 (wpAny_field hos hds (x:=.none) rfl (QQ ?_)))))));refine Q2 (slicePart_none ?_);show wpAny _ _ (if ((1:Int) == 0)=true then _ else _) _ _ s;rw[if_neg (by decide)];refine Q2 (p6 pl (Q2 (p6 pu (Q2 (QQ ?_)))));show wpAny _ _ (match Builtin.Slice.sliceAdjust lo hi 1 (n:Int)with|(lo,hi)=>pure (lo,(1:Int),Builtin.Slice.slicePlaces lo hi 1)) _ _ s;rw[xU lo hi n];show wpAny _ _ (pure (((sIx n 0 lo:Nat):Int),(1:Int),Builtin.Slice.slicePlaces ((sIx n 0 lo:Nat):Int) ((sIx n n hi:Nat):Int) 1)) _ _ s;rw[xl];exact QQ h
theorem Ca(xs:Array Value)(i k:Nat):((Qi k).filterMap fun(m:Nat)=>xs[((i:Int)+(m:Int)*1).toNat]?).toArray=((xs.toList.drop i).take k).toArray:=by
 have e:(fun(m:Nat)=>xs[((i:Int)+(m:Int)*1).toNat]?)=fun m=>xs[i+m]?:=by
  funext m;have:((i:Int)+(m:Int)*1).toNat=i+m:=by omega
  rw[this]
 rw[e];have:=pick_run xs i k;rw[List.filterMap_map]at this;have e2:((fun x=>xs[x]?) ∘ fun x=>i+x)=fun m=>xs[i+m]?:=rfl;rw[e2]at this;rw[this]
theorem getItem_tuple_cut{t sl:Addr}{items:Array Value}{vl vu:Value}{lo hi:Option Int}{Q:Value->Shared->Prop}(ht:IsTup s.heap t items)(hs:s.heap.IsSliceOf sl vl vu .none)(pl:IsPart vl lo)(pu:IsPart vu hi)
  (hw:¬(sIx items.size 0 lo=0/\sIx items.size items.size hi=items.size))
  (h:Q (.ref s.heap.objs.size) { s with heap:=s.heap.push { cls:=.type "tuple",data:=.seq ((items.toList.drop (sIx items.size 0 lo)).take (sIx items.size items.size hi-sIx items.size 0 lo)).toArray } })
  (hsz:items.size<=sizeLine):wpAny (model prog w) A (getItem (.ref t) (.ref sl)) Q E s:=by
 have htake:sizeOk (.seq ((items.toList.drop (sIx items.size 0 lo)).take (sIx items.size items.size hi-sIx items.size 0 lo)).toArray):=by
  show((items.toList.drop (sIx items.size 0 lo)).take (sIx items.size items.size hi-sIx items.size 0 lo)).toArray.size<=sizeLine;rw[QH,List.length_take,List.length_drop,ZU];omega
 have hj:sIx items.size items.size hi<=items.size:=Jl _ _ (QZ _) hi;obtain⟨os,hos,hcs,hds⟩:=id hs;have hTs:s.TypeIs (.ref sl) "slice":=⟨os,hos,hcs⟩;unfold getItem;try with_reducible refine wpAny_holding ?_
 first|refine Q2 (QQ ?_)|skip
 refine Q2 (wpAny_sequenceKey ht.typeIs (by decide) ?_);refine Q2 (wpAny_callSpecial?_slot (name:=Str.ofString "__getitem__") ht.typeIs PyProof.Rows.slot_tuple_getitem
  (wpAny_call_entry PyProof.Rows.slot_tuple_getitem ht.typeIs entry_tuple_getitem ?_ (args_tuple_getitem _ _)))
 show wpAny _ _ (Builtin.Tuple.tupleItemsOf (.ref t) >>= _) _ _ s;refine Q2 (tupleItemsOf_ ht ?_);refine Q2 (wpAny_typeOf hTs ?_);rw[if_pos (by decide)];refine Q2 (nh hs pl pu ?_);have hno:¬((((sIx items.size 0 lo:Nat):Int) == 0&&(1:Int) == 1&&(sIx items.size items.size hi-sIx items.size 0 lo) == items.size)=true):=by
  intro q;rw[Qm,Qm]at q;have q1:((sIx items.size 0 lo:Nat):Int)=0:=eq_of_beq q.1.1;have q2:sIx items.size items.size hi-sIx items.size 0 lo=items.size:=eq_of_beq q.2;exact hw ⟨by omega,by omega⟩
 show wpAny _ _ (if (((sIx items.size 0 lo:Nat):Int) == 0&&(1:Int) == 1&&(sIx items.size items.size hi-sIx items.size 0 lo) == items.size)=true then _ else _) _ _ s;rw[if_neg hno,Ca];first
  |exact Q2 (m:=Builtin.Tuple.tupleExact _) (wpAny_newObj_type (QQ ⟨_,rfl,QQ h⟩) htake)
  |exact Q2 (m:=Builtin.Tuple.tupleExact _) (wpAny_newObj_type (Q2 (QQ (QQ ⟨_,rfl,QQ h⟩))) htake)
  |exact Q2 (Q2 (m:=Builtin.Tuple.tupleExact _) (wpAny_newObj_type (QQ (QQ ⟨_,rfl,QQ h⟩)) htake))
  |exact Q2 (Q2 (m:=Builtin.Tuple.tupleExact _) (wpAny_newObj_type (QQ ⟨_,rfl,QQ h⟩) htake))
end
end HT
namespace L2
open PySem PySem.Spec PyProof.Rows
abbrev TO:=St->Hp->(Option Int->Hp->Prop)->Prop
def PO(X:Cx)(e:Option Expr)(t:TO):Prop:=
 ∀(pins:List (Addr×Obj)) (s:Shared) (σ:St) (H:Hp) (Q:Option Int->Hp->Prop),Inv X pins σ H s->t σ H Q->
  wpAny (model X.prog X.w) X.A (evalPart e X.env) (fun u s'=>∃o H',Inv X pins σ H' s'/\IsPart u o/\Q o H') X.xe s
def yJ:TO:=fun _ H Q=>Q none H
def IW(t:TE):TO:=fun σ H Q=>t σ H fun x H1=>∃i,x=.int i/\Q (some i) H1
section
variable{X:Cx}{e:Expr}{te:TE}{lo hi:Option Expr}{tl th:TO}{pos p2:Pos}
theorem FU:PO X none yJ:=by
 intro pins s σ H Q I h;rw[evalPart_none];exact QQ ⟨none,H,I,.none,h⟩
theorem FT(h:PE X e te):PO X (some e) (IW te):=by
 intro pins s σ H Q I hw;rw[evalPart_some];refine thn (h pins s σ H _ I hw) fun u s1 hz=>?_;obtain⟨x,H1,I1,r1,q1⟩:=hz;obtain⟨i,rfl,q⟩:=q1;obtain⟨t,rfl⟩:=r1;exact⟨some i,H1,I1,.int i t,q⟩
def SlR(X:Cx)(r:V->Option Int->Option Int->Hp->VK->Prop):Prop:=
 ∀(pins:List (Addr×Obj)) (s:Shared) (σ:St) (H:Hp) (x:V) (v vl vu:Value) (lo hi:Option Int) (sl:Addr) (Q:VK),Inv X pins σ H s->cD x v->s.heap.IsSliceOf sl vl vu .none->IsPart vl lo->IsPart vu hi->r x lo hi H Q->
  ∃T id,typeLookup (.type T) "__getitem__"=pure (some (.builtin id))/\s.TypeIs v T/\wpAny (model X.prog X.w) X.A (getItem v (.ref sl)) (EP X pins σ Q) X.xe s
theorem SlR.or{r r':V->Option Int->Option Int->Hp->VK->Prop}(h:SlR X r)(h':SlR X r'):SlR X (fun x lo hi H Q=>r x lo hi H Q\/r' x lo hi H Q):=by
 intro pins s σ H x v vl vu lo hi sl Q I rx hs pl pu q;rcases q with q|q
 ·exact h pins s σ H x v vl vu lo hi sl Q I rx hs pl pu q
 ·exact h' pins s σ H x v vl vu lo hi sl Q I rx hs pl pu q
def tSl(r:V->Option Int->Option Int->Hp->VK->Prop)(te:TE)(tl th:TO):TE:=fun σ H Q=>te σ H fun x H1=>tl σ H1 fun l H2=>th σ H2 fun u H3=>r x l u H3 Q
theorem Cc{r:V->Option Int->Option Int->Hp->VK->Prop}(hr:SlR X r)(he:PE X e te)(hl:PO X lo tl)(hu:PO X hi th):PE X (.Subscript e (.Slice lo hi none p2) pos) (tSl r te tl th):=by
 intro pins s σ H Q I h;refine Subscript_ (thn (he pins s σ H _ I h) fun v s1 hz=>?_);obtain⟨x,H1,I1,r1,q1⟩:=hz;refine wpAny_Slice (thn (hl pins s1 σ H1 _ I1 q1) fun vl s2 ⟨l,H2,I2,pl,q2⟩=>thn (hu pins s2 σ H2 _ I2 q2) fun vu s3 hz=>?_);obtain⟨u,H3,I3,pu,q3⟩:=hz;rw[evalPart_none];refine QQ ?_;have I4:Inv X pins σ H3 { s3 with heap:=s3.heap.push { cls:=.type "slice",data:=.fields #[vl,vu,.none] } }:=I3.kept (t':=s3.toks) fun b ob q=>Q7 _ q;obtain⟨T,id,hT,ht,hg⟩:=hr pins { s3 with heap:=s3.heap.push { cls:=.type "slice",data:=.fields #[vl,vu,.none] } } σ H3 x v vl vu l u s3.heap.objs.size Q I4 r1 (Heap.IsSliceOf.new ..) pl pu q3;show wpAny (model X.prog X.w) X.A (subscriptTail e (.Slice lo hi none p2) v (.ref s3.heap.objs.size)) (EP X pins σ Q) X.xe { s3 with heap:=s3.heap.push { cls:=.type "slice",data:=.fields #[vl,vu,.none] } };exact tail_any (ops:=[.ref s3.heap.objs.size,v]) ht hT hg (by with_unfolding_all rfl)
def AL(xs:List V)(lo hi:Option Int):List V:=(xs.drop (HT.sIx xs.length 0 lo)).take (HT.sIx xs.length xs.length hi-HT.sIx xs.length 0 lo)
theorem oY(xs:List V)(lo hi:Option Int):(AL xs lo hi).length<=xs.length:=by
 unfold AL;rw[List.length_take,List.length_drop];omega
def OV(K:Q1):V->Option Int->Option Int->Hp->VK->Prop:=fun x lo hi H Q=>∃a xs,x=.ref a/\SqT K H a xs/\
 ¬(HT.sIx xs.length 0 lo=0/\HT.sIx xs.length xs.length hi=xs.length)/\∀p,H p=none->Q (.ref p) (upd H p (.tup (AL xs lo hi)))
theorem Jj:SlR X (OV X.K):=by
 intro pins s σ H x v vl vu lo hi sl Q I rx hs pl pu h;obtain⟨a,xs,rfl,hx,hw,q⟩:=h;cases rx;obtain⟨its,r,ht,hz⟩:=I.tuple hx;have eK:its.toArray.size=xs.length:=by rw[QH];exact r.length.symm
 refine⟨"tuple",_,PyProof.Rows.slot_tuple_getitem.lookup,ht.typeIs,?_⟩;refine HT.getItem_tuple_cut ht hs pl pu (by rw[eK];exact hw) ?_ (by rw[eK];exact hz);rw[eK];refine⟨.ref s.heap.objs.size,_,I.laid (t':=s.toks) (o:=.tup (AL xs lo hi)) (fun b ob q=>Q7 _ q) (QZ _) ?_,rfl,q _ (I.hok.fresh (QZ _))⟩;exact⟨Qj (oY xs lo hi) hz,_,(r.drop (HT.sIx xs.length 0 lo)).take (HT.sIx xs.length xs.length hi-HT.sIx xs.length 0 lo),IsTup.new _ _⟩
def MF(K:Q1):R2:=fun x y H Q=>∃a b xs ys,x=.ref a/\y=.ref b/\SqT K H a xs/\SqT K H b ys/\xs≠[]/\xs.length+ys.length<=sizeLine/\
 (ys=[]->Q (.ref a) H)/\(ys≠[]->∀p,H p=none->Q (.ref p) (upd H p (.tup (xs++ys))))
theorem bU.nil_iff{xs:List V}{us:List Value}(r:bU xs us):us=[]↔xs=[]:=by
 cases r with
 |nil=>simp
 |cons _ _=>simp
theorem Gj:OpR X (binaryOp .Add) (MF X.K):=by
 intro pins s σ H x y v u Q I rx ry h;obtain⟨a,b,xs,ys,rfl,rfl,ha,hb,hx,hz,q1,q2⟩:=h;cases rx;cases ry;obtain⟨its,r1,p1,_⟩:=I.tuple ha;obtain⟨its2,r2,p2,_⟩:=I.tuple hb;refine HT.cat_tup p1 p2 (fun z=>hx (r1.nil_iff.mp z)) (fun z=>⟨.ref a,H,I,rfl,q1 (r2.nil_iff.mp z)⟩) (fun z=>?_) (by rw[<-r1.length,<-r2.length];exact hz);refine⟨.ref s.heap.objs.size,_,I.laid (t':=s.toks) (o:=.tup (xs++ys)) (fun b ob q=>Q7 _ q) (QZ _) ?_,rfl,q2 (fun w=>z (r2.nil_iff.mpr w)) _ (I.hok.fresh (QZ _))⟩;exact⟨by rw[Q6];exact hz,_,r1.append r2,IsTup.new _ _⟩
end
def ixN(n:Nat)(i:Int):Option Nat:=if 0<=i then(if i<n then some i.toNat else none)else if -(n:Int)<=i then some (i+n).toNat else none
def atI{α:Type}(xs:List α)(i:Int):Option α:=(ixN xs.length i).bind fun j=>xs[j]?
theorem z6{n:Nat}{i:Int}{j:Nat}(h:ixN n i=some j):seqIndex? i n=some j/\j<n/\-(n:Int)<=i/\i<n:=by
 unfold ixN at h;by_cases h0:0<=i
 ·rw[if_pos h0]at h;by_cases h1:i<n
  ·rw[if_pos h1]at h;have e:i.toNat=j:=Option.some.inj h;exact⟨by rw[seqIndex_of h0 h1,e],by omega,by omega,h1⟩
  ·rw[if_neg h1]at h;cases h
 ·rw[if_neg h0]at h;by_cases h1:-(n:Int)<=i
  ·rw[if_pos h1]at h;have e:(i+n).toNat=j:=Option.some.inj h;exact⟨by rw[seqIndex_neg (by omega) h1,e],by omega,h1,by omega⟩
  ·rw[if_neg h1]at h;cases h
theorem A6{α:Type}{xs:List α}{i:Int}{v:α}(h:atI xs i=some v):∃j,seqIndex? i xs.length=some j/\xs[j]?=some v/\j<xs.length/\-(xs.length:Int)<=i/\i<xs.length:=by
 unfold atI at h;cases e:ixN xs.length i with
 |none=>rw[e]at h;cases h
 |some j=>
  rw[e]at h;obtain⟨h1,h2,h3,h4⟩:=z6 e;exact⟨j,h1,h,h2,h3,h4⟩
theorem pf{α:Type}{xs:List α}{j:Nat}{v:α}(h:xs[j]?=some v):atI xs (j:Int)=some v:=by
 have hj:j<xs.length:=(Q9.mp h).1;have e:ixN xs.length (j:Int)=some j:=by
  unfold ixN;rw[if_pos (by omega),if_pos (by omega)];simp
 unfold atI;rw[e];exact h
def vj(b:Expr):Prop:=∀o i,subscripted b false o i=operate [o,i] (getItem o i)
def IxR(X:Cx)(r:R2):Prop:=
 ∀(value slice:Expr) (pins:List (Addr×Obj)) (s:Shared) (σ:St) (H:Hp) (x y:V) (v u:Value) (Q:VK),Inv X pins σ H s->cD x v->cD y u->r x y H Q->
  subscripted slice false v u=operate [v,u] (getItem v u)->wpAny (model X.prog X.w) X.A (subscriptTail value slice v u) (EP X pins σ Q) X.xe s
def MtR(X:Cx)(id:String)(r:V->List V->Hp->VK->Prop):Prop:=
 ∀(pins:List (Addr×Obj)) (s:Shared) (σ:St) (H:Hp) (x:V) (xs:List V) (v:Value) (us:List Value) (Q:VK),Inv X pins σ H s->cD x v->bU xs us->r x xs H Q->
  wpAny (model X.prog X.w) X.A (call (.builtin id) (v::us)) (EP X pins σ Q) X.xe s
section
variable{X:Cx}{a b:Expr}{ta tb:TE}{pos:Pos}
theorem IxR.or{r r':R2}(h:IxR X r)(h':IxR X r'):IxR X (fun x y H Q=>r x y H Q\/r' x y H Q):=by
 intro value slice pins s σ H x y v u Q I rx ry q hs;rcases q with q|q
 ·exact h value slice pins s σ H x y v u Q I rx ry q hs
 ·exact h' value slice pins s σ H x y v u Q I rx ry q hs
theorem MO{r:R2}(hr:IxR X r)(ha:PE X a ta)(hb:PE X b tb)(hs:vj b):PE X (.Subscript a b pos) (tOp r ta tb):=by
 intro pins s σ H Q I h;exact Subscript_ (Nx ha hb I h fun v u s2 x y H2 I2 rx ry q=>hr a b pins s2 σ H2 x y v u Q I2 rx ry q (hs _ _))
def OY(K:Q1):R2:=fun x y H Q=>∃p xs i v,x=.ref p/\y=.int i/\SqL K H p xs/\atI xs i=some v/\Q v H
def OX(K:Q1):R2:=fun x y H Q=>∃p xs i v,x=.ref p/\y=.int i/\SqT K H p xs/\atI xs i=some v/\Q v H
theorem GG:IxR X (OY X.K):=by
 intro value slice pins s σ H x y v u Q I rx ry h hs;obtain⟨p,xs,i,z,rfl,rfl,hq,he,q⟩:=h;cases rx;obtain⟨t,rfl⟩:=ry;obtain⟨its,r,pl,hz⟩:=I.list hq;obtain⟨j,h1,h2,h3,h4,h5⟩:=A6 he;obtain⟨w,ew,rw'⟩:=r.get h2;have hl:=r.length;have hn:=wg;have fin:EP X pins σ Q w s:=⟨z,H,I,rw',q⟩;by_cases h0:0<=i
 ·have hj:i.toNat=j:=by
   rw[seqIndex_of h0 h5]at h1;exact Option.some.inj h1
  exact item_listR pl.isList h0 (by omega) (by rw[hj];simpa using ew) fin hs
 ·have hj:(i+(its.toArray.size:Int)).toNat=j:=by
   rw[seqIndex_neg (by omega) h4]at h1;rw[QH,<-hl];exact Option.some.inj h1
  exact subscriptTail_builtinR (x:=w) pl.isList.typeIs slot_list_getitem.lookup
   (wpAny_getItem_list_neg (Q:=fun r s'=>r=w/\EP X pins σ Q r s') pl.isList (by omega) (by rw[QH]<;>omega) (by omega) (by rw[hj];simpa using ew) ⟨rfl,fin⟩) hs
theorem Ko:IxR X (OX X.K):=by
 intro value slice pins s σ H x y v u Q I rx ry h hs;obtain⟨p,xs,i,z,rfl,rfl,hq,he,q⟩:=h;cases rx;obtain⟨t,rfl⟩:=ry;obtain⟨its,r,pl,hz⟩:=I.tuple hq;obtain⟨j,h1,h2,h3,h4,h5⟩:=A6 he;obtain⟨w,ew,rw'⟩:=r.get h2;have hl:=r.length;have hn:=wg;have fin:EP X pins σ Q w s:=⟨z,H,I,rw',q⟩;exact subscriptTail_builtinR (x:=w) pl.typeIs slot_tuple_getitem.lookup
  (getItem_tuple (j:=j) (Q:=fun r s'=>r=w/\EP X pins σ Q r s') pl (by omega) (by omega) (by rw[QH,<-hl];exact h1) (by simpa using ew) ⟨rfl,fin⟩) hs
theorem xp(its:List Value)(n j:Nat)(u:Value):Obj.mapSeq (·.setIfInBounds j u) { cls:=.type "list",data:=.seq its.toArray n }={ cls:=.type "list",data:=.seq (its.set j u).toArray n }:=by
 simp[Obj.mapSeq]
theorem Inv.lst{pins:List (Addr×Obj)}{σ:St}{H:Hp}{s:Shared}{p:Addr}{xs:List V}(I:Inv X pins σ H s)(h:H p=some (.lst xs)) :
  ∃(its:List Value) (n:Nat),bU xs its/\s.heap.get? p=some { cls:=.type "list",data:=.seq its.toArray n }/\xs.length<=sizeLine:=by
 obtain⟨z,its,n,r,e⟩:=I.hok p _ h;exact⟨its,n,r,e,z⟩
theorem Inv.lstUpd{pins:List (Addr×Obj)}{σ:St}{H:Hp}{s:Shared}{p:Addr}{xs ys:List V}{its its':List Value}{n n':Nat}{f:Obj->Obj}(I:Inv X pins σ H s)(h:H p=some (.lst xs))
  (ho:s.heap.get? p=some { cls:=.type "list",data:=.seq its.toArray n }) (hf:f { cls:=.type "list",data:=.seq its.toArray n }={ cls:=.type "list",data:=.seq its'.toArray n' }) (r:bU ys its') (hz:ys.length<=sizeLine) (t:Nat) :
  Inv X pins σ (upd H p (.lst ys)) { s with heap:=s.heap.update p f,toks:=t }:=by
 have e:(s.heap.update p f).get? p=some { cls:=.type "list",data:=.seq its'.toArray n' }:=by
  rw[Heap.get?_update_self f ho (by rw[hf]<;>rfl),hf]
 refine I.write (x:=p) (e:=p) (by rw[h];trivial) (.inl rfl) (fun b u hb q=>(Heap.get?_update_other _ _ (Ne.symm hb)).trans q) ⟨_,e⟩ ?_;exact⟨hz,its',n',r,e⟩
def MD:V->V->V->Hp->(Hp->Prop)->Prop:=fun o i v H Q=>∃p xs k j,o=.ref p/\i=.int k/\H p=some (.lst xs)/\ixN xs.length k=some j/\Q (upd H p (.lst (xs.set j v)))
theorem BR:NF X MD:=by
 intro pins s σ H o i v ov iv u Q I ro ri rv h;obtain⟨p,xs,k,j,rfl,rfl,hp,hj,q⟩:=h;cases ro;obtain⟨t,rfl⟩:=ri;obtain⟨its,n,r,ho,hz⟩:=I.lst hp;obtain⟨h1,h2,h3,h4⟩:=z6 hj;have hl:=r.length;have hn:=wg;have I':Inv X pins σ (upd H p (.lst (xs.set j v))) { s with heap:=s.heap.update p (Obj.mapSeq (·.setIfInBounds j u)) }:=
  I.lstUpd hp ho (xp its n j u) (r.set rv j) (by rw[List.length_set];exact hz) s.toks
 by_cases h0:0<=k
 ·have hk:k.toNat=j:=by
   rw[seqIndex_of h0 h4]at h1;exact Option.some.inj h1
  exact PySem.W.ki_setAt ho h0 (by omega) (by rw[QH,<-hl];exact h4) (by rw[hk];exact⟨_,I',q⟩)
 ·have hk:(k+(its.toArray.size:Int)).toNat=j:=by
   rw[seqIndex_neg (by omega) h3]at h1;rw[QH,<-hl];exact Option.some.inj h1
  exact PySem.W.ki_setBack ho (by omega) (by rw[QH,<-hl];exact h3) (by omega) (by rw[hk];exact⟨_,I',q⟩)
theorem sg(lo hi:Option Int)(n:Nat):(sliceBounds lo hi none n).1=((HT.sIx n 0 lo:Nat):Int)/\(sliceBounds lo hi none n).2.1=((HT.sIx n n hi:Nat):Int)/\(sliceBounds lo hi none n).2.2=1:=by
 refine⟨?_,?_,rfl⟩
 ·cases lo with
  |none=>simp[sliceBounds,HT.sIx]
  |some i=>
   simp only[sliceBounds,HT.sIx,Option.getD_none,show(1:Int)>0 by decide,if_true];by_cases h:i<0
   ·simp only[h,if_true]<;>omega
   ·simp only[h,if_false]<;>omega
 ·cases hi with
  |none=>simp[sliceBounds,HT.sIx]
  |some i=>
   simp only[sliceBounds,HT.sIx,Option.getD_none,show(1:Int)>0 by decide,if_true];by_cases h:i<0
   ·simp only[h,if_true]<;>omega
   ·simp only[h,if_false]<;>omega
theorem qM(its:List Value)(lo hi:Option Int):slicePick its.toArray lo hi none=((its.drop (HT.sIx its.length 0 lo)).take (HT.sIx its.length its.length hi-HT.sIx its.length 0 lo)).toArray:=by
 obtain⟨h1,h2,h3⟩:=sg lo hi its.toArray.size;unfold slicePick;rw[h1,h2,h3];simp only[sliceRange_one,pick_run,QH]<;>rfl
def OW(K:Q1):V->Option Int->Option Int->Hp->VK->Prop:=fun x lo hi H Q=>∃a xs,x=.ref a/\SqL K H a xs/\∀p,H p=none->Q (.ref p) (upd H p (.lst (AL xs lo hi)))
theorem yR:SlR X (OW X.K):=by
 intro pins s σ H x v vl vu lo hi sl Q I rx hs pl pu h;obtain⟨a,xs,rfl,hx,q⟩:=h;cases rx;obtain⟨its,r,ht,hz⟩:=I.list hx;have eK:=r.length;refine⟨"list",_,slot_list_getitem.lookup,ht.isList.typeIs,?_⟩;refine wpAny_getItem_list_slice ht.isList hs pl pu .none (by simp) ?_ (by rw[QH]<;>omega);rw[qM,<-eK];refine⟨.ref s.heap.objs.size,_,I.laid (t':=s.toks) (o:=.lst (AL xs lo hi)) (fun b ob q=>Q7 _ q) (QZ _) ?_,rfl,q _ (I.hok.fresh (QZ _))⟩;exact⟨Qj (oY xs lo hi) hz,_,0,(r.drop (HT.sIx xs.length 0 lo)).take (HT.sIx xs.length xs.length hi-HT.sIx xs.length 0 lo),QF _ rfl⟩
def pN:V->Bool
 |.non=>true
 |.bl _=>true
 |.int _=>true
 |.str _=>true
 |_=>false
def eqV:V->V->Bool
 |.non,.non=>true
 |.bl a,.bl b=>a == b
 |.bl a,.int b=>(if a then 1 else 0) == b
 |.int a,.bl b=>a == (if b then 1 else 0)
 |.int a,.int b=>a == b
 |.str a,.str b=>a == b
 |_,_=>false
theorem KR{A:Around}{s:Shared}{y x:V}{u v:Value}(ry:cD y u)(rx:cD x v)(fy:pN y=true)(fx:pN x=true):SeqAt.EqAt A s u v (eqV y x):=by
 cases y with
 |non=>
  cases ry;cases x with
  |non=>cases rx;exact SeqAt.EqAt.same _
  |bl b=>cases rx;exact SeqAt.EqAt.none_bool b
  |int b=>obtain⟨t,rfl⟩:=rx;exact SeqAt.EqAt.none_int b t
  |str b=>obtain⟨t,rfl⟩:=rx;exact SeqAt.EqAt.none_str b t
  |_=>exact absurd (show false=true from fx) QK
 |bl a=>
  cases ry;cases x with
  |non=>cases rx;exact SeqAt.EqAt.bool_none a
  |bl b=>cases rx;exact SeqAt.EqAt.bool_bool a b
  |int b=>obtain⟨t,rfl⟩:=rx;exact SeqAt.EqAt.bool_int a b t
  |str b=>obtain⟨t,rfl⟩:=rx;exact SeqAt.EqAt.bool_str a b t
  |_=>exact absurd (show false=true from fx) QK
 |int a=>
  obtain⟨t',rfl⟩:=ry;cases x with
  |non=>cases rx;exact SeqAt.EqAt.int_none a t'
  |bl b=>cases rx;exact SeqAt.EqAt.int_bool a t' b
  |int b=>obtain⟨t,rfl⟩:=rx;exact SeqAt.EqAt.int_int a t' b t
  |str b=>obtain⟨t,rfl⟩:=rx;exact SeqAt.EqAt.int_str a t' b t
  |_=>exact absurd (show false=true from fx) QK
 |str a=>
  obtain⟨t',rfl⟩:=ry;cases x with
  |non=>cases rx;exact SeqAt.EqAt.str_none a t'
  |bl b=>cases rx;exact SeqAt.EqAt.str_bool a t' b
  |int b=>obtain⟨t,rfl⟩:=rx;exact SeqAt.EqAt.str_int a t' b t
  |str b=>obtain⟨t,rfl⟩:=rx;exact SeqAt.EqAt.str_str a t' b t
  |_=>exact absurd (show false=true from fx) QK
 |_=>exact absurd (show false=true from fy) QK
def eqU(x:V)(u:Value):Bool:=match u with
 |.none=>eqV .non x
 |.bool b=>eqV (.bl b) x
 |.int i _=>eqV (.int i) x
 |.str z _=>eqV (.str z) x
 |_=>false
theorem Et{x y:V}{u:Value}(r:cD y u)(f:pN y=true):eqU x u=eqV y x:=by
 cases y with
 |non=>cases r;rfl
 |bl b=>cases r;rfl
 |int i=>obtain⟨t,rfl⟩:=r;rfl
 |str z=>obtain⟨t,rfl⟩:=r;rfl
 |_=>exact absurd (show false=true from f) QK
theorem ph{x:V}:∀{xs:List V} {us:List Value},bU xs us->xs.all pN=true->us.any (eqU x)=xs.any fun y=>eqV y x
 |_,_,.nil,_=>rfl
 |y::xs,u::us,.cons r t,f=>by
  rw[List.all_cons,Qm]at f;rw[ZR,ZR,Et r f.1,ph t f.2]
theorem lL{A:Around}{s:Shared}{x:V}{v:Value}(rx:cD x v)(fx:pN x=true):∀{xs:List V} {us:List Value},bU xs us->xs.all pN=true->∀u∈us,SeqAt.EqAt A s u v (eqU x u)
 |_,_,.nil,_=>fun u hu=>by cases hu
 |y::xs,u::us,.cons r t,f=>fun u' hu=>by
  rw[List.all_cons,Qm]at f;rcases QM.mp hu with rfl|hu
  ·rw[Et r f.1];exact KR r rx f.1 fx
  ·exact lL rx fx t f.2 u' hu
def inV(x:V)(xs:List V):Bool:=xs.any fun y=>eqV y x
def rIn(K:Q1)(neg:Bool):R2:=fun x y H Q=>∃p xs,y=.ref p/\(SqL K H p xs\/SqT K H p xs)/\pN x=true/\xs.all pN=true/\Q (.bl (if neg then !inV x xs else inV x xs)) H
theorem sG:OpR X (compareOp .In) (rIn X.K false):=by
 intro pins s σ H x y v u Q I rx ry h;obtain⟨p,xs,rfl,hq,fx,fs,q⟩:=h;cases ry;rcases hq with hq|hq
 ·obtain⟨its,r,pl,hz⟩:=I.list hq;refine SeqAt.in_listAt (eqU x) pl.isList (fun w hw=>lL rx fx r fs w (by simpa using hw)) ⟨.bl _,H,I,rfl,?_⟩;rw[show its.toArray.any (eqU x)=its.any (eqU x)by simp,ph r fs];exact q
 ·obtain⟨its,r,pl,hz⟩:=I.tuple hq;refine SeqAt.in_tupleAt (eqU x) pl (fun w hw=>lL rx fx r fs w (by simpa using hw)) ⟨.bl _,H,I,rfl,?_⟩;rw[show its.toArray.any (eqU x)=its.any (eqU x)by simp,ph r fs];exact q
theorem mX:OpR X (compareOp .NotIn) (rIn X.K true):=by
 intro pins s σ H x y v u Q I rx ry h;obtain⟨p,xs,rfl,hq,fx,fs,q⟩:=h;cases ry;rcases hq with hq|hq
 ·obtain⟨its,r,pl,hz⟩:=I.list hq;refine SeqAt.notIn_listAt (eqU x) pl.isList (fun w hw=>lL rx fx r fs w (by simpa using hw)) ⟨.bl _,H,I,rfl,?_⟩;rw[show its.toArray.any (eqU x)=its.any (eqU x)by simp,ph r fs];exact q
 ·obtain⟨its,r,pl,hz⟩:=I.tuple hq;refine SeqAt.notIn_tupleAt (eqU x) pl (fun w hw=>lL rx fx r fs w (by simpa using hw)) ⟨.bl _,H,I,rfl,?_⟩;rw[show its.toArray.any (eqU x)=its.any (eqU x)by simp,ph r fs];exact q
theorem uc:fY X (.builtin "len") (fun xs H Q=>∃p ys,xs=[.ref p]/\(SqL X.K H p ys\/SqT X.K H p ys)/\Q (.int ys.length) H):=by
 intro pins s σ H xs us Q I r h;obtain⟨p,ys,rfl,hq,q⟩:=h;obtain⟨u,rfl,rx⟩:=ng r;cases rx;have hn:=wg;rcases hq with hq|hq
 ·obtain⟨its,r',pl,hz⟩:=I.list hq;have eK:=r'.length;exact Calls.call_len_list pl.isList (by simp only[QH]<;>omega) ⟨.int ys.length,H,I.tok _,⟨s.toks+1,by rw[QH,eK]⟩,q⟩
 ·obtain⟨its,r',pl,hz⟩:=I.tuple hq;have eK:=r'.length;exact len_tuple pl (by simp only[QH]<;>omega) ⟨.int ys.length,H,I.tok _,⟨s.toks+1,by rw[QH,eK]⟩,q⟩
theorem fY.or{f:Value}{r r':List V->Hp->VK->Prop}(h:fY X f r)(h':fY X f r'):fY X f (fun xs H Q=>r xs H Q\/r' xs H Q):=by
 intro pins s σ H xs us Q I rs q;rcases q with q|q
 ·exact h pins s σ H xs us Q I rs q
 ·exact h' pins s σ H xs us Q I rs q
theorem m8:fY X (.type "list") (fun xs H Q=>∃p ys,xs=[.ref p]/\(SqL X.K H p ys\/SqT X.K H p ys)/\∀l,H l=none->Q (.ref l) (upd H l (.lst ys))):=by
 intro pins s σ H xs us Q I r h;obtain⟨p,ys,rfl,hq,q⟩:=h;obtain⟨u,rfl,rx⟩:=ng r;cases rx;have fin:∀(its:List Value),bU ys its->ys.length<=sizeLine->∀(h':Heap) (c':Nat),(∀b o',s.heap.get? b=some o'->h'.get? b=some o')->
   h'.get? s.heap.objs.size=some { cls:=.type "list",dict:=none,data:=.seq its.toArray c',slots:=#[] }->EP X pins σ Q (.ref s.heap.objs.size) { s with heap:=h' }:=fun its r' hz h' c' kp e=>
  ⟨.ref s.heap.objs.size,_,I.laid (t':=s.toks) kp (QZ _) (show cy X.prog X.w _ h' _ (.lst ys)from⟨hz,its,c',r',e⟩),rfl,q _ (I.hok.fresh (QZ _))⟩
 rcases hq with hq|hq
 ·obtain⟨its,r',pl,hz⟩:=I.list hq;have eK:=r'.length;obtain⟨o,ho,hc,n,hd⟩:=pl.isList;exact call_list_seq p (.inl rfl) ho hc hd (fun h' c' kp e=>fin its r' hz h' c' kp e) (by simp only[QH]<;>omega)
 ·obtain⟨its,r',pl,hz⟩:=I.tuple hq;have eK:=r'.length;obtain⟨o,ho,hc,n,hd⟩:=pl;exact call_list_seq p (.inr rfl) ho hc hd (fun h' c' kp e=>fin its r' hz h' c' kp e) (by simp only[QH]<;>omega)
theorem b8:fY X (.type "tuple") (fun xs H Q=>∃p ys,xs=[.ref p]/\((SqL X.K H p ys/\∀l,H l=none->Q (.ref l) (upd H l (.tup ys)))\/(SqT X.K H p ys/\Q (.ref p) H))):=by
 intro pins s σ H xs us Q I r h;obtain⟨p,ys,rfl,h⟩:=h;obtain⟨u,rfl,rx⟩:=ng r;cases rx;rcases h with⟨hq,q⟩|⟨hq,q⟩
 ·obtain⟨its,r',pl,hz⟩:=I.list hq;have eK:=r'.length;refine call_tuple_list pl.isList (fun h' kp=>?_) (by simp only[QH]<;>omega);have I1:Inv X pins σ H { s with heap:=h' }:=I.kept (t':=s.toks) kp;have I2:Inv X pins σ (upd H h'.objs.size (.tup ys)) { s with heap:=h'.push { cls:=.type "tuple",data:=.seq its.toArray } }:=
   I1.laid (t':=s.toks) (fun b o e=>Q7 _ e) (QZ _) (show cy X.prog X.w _ _ _ (.tup ys)from⟨hz,its,r',IsTup.new _ _⟩)
  exact⟨.ref h'.objs.size,_,I2,rfl,q _ (I1.hok.fresh (QZ _))⟩
 ·obtain⟨its,r',pl,hz⟩:=I.tuple hq;exact call_tuple_same pl ⟨.ref p,H,I,rfl,q⟩
def tyV(K:Q1)(T:String)(x:V)(H:Hp):Prop:=match x with
 |.str _=>T="str"
 |.int _=>T="int"
 | .ref p=>(T="list"/\∃xs,SqL K H p xs)\/(T="tuple"/\∃o,K.lookup p=some o/\o.cls=.type "tuple"/\o.dict=none)\/
   (T="dict"/\((∃kvs,H p=some (.dK kvs))\/∃kvs,H p=some (.dT kvs)))\/(T="set"/\∃S n,H p=some (.set S n))
 |_=>False
theorem DU{pins:List (Addr×Obj)}{σ:St}{H:Hp}{s:Shared}{T:String}{x:V}{v:Value}(I:Inv X pins σ H s)(r:cD x v)(ty:tyV X.K T x H) :
  s.TypeIs v T/\∀a,v=.ref a->∃ob,s.heap.get? a=some ob/\ob.dict=none:=by
 cases x with
 |str z=>
  obtain⟨t,rfl⟩:=r;cases (show T="str" from ty);exact⟨typeIs_str s z t,fun _ e=>nomatch e⟩
 |int i=>
  obtain⟨t,rfl⟩:=r;cases (show T="int" from ty);exact⟨typeIs_int s i t,fun _ e=>nomatch e⟩
 |ref p=>
  cases r;rcases ty with⟨rfl,xs,hq⟩|⟨rfl,o,hk,hc,hd⟩|⟨rfl,hk⟩|⟨rfl,S,n,hk⟩
  ·obtain⟨its,_,pl,_⟩:=I.list hq;refine⟨pl.isList.typeIs,fun a e=>?_⟩;cases e;obtain⟨o,n,e,c,hd,_⟩:=pl;exact⟨o,e,hd⟩
  ·refine⟨⟨o,I.kIn p o hk,hc⟩,fun a e=>?_⟩;cases e;exact⟨o,I.kIn _ o hk,hd⟩
  ·have z:∃o,s.heap.get? p=some o/\o.ExactDict:=by
    rcases hk with⟨kvs,hk⟩|⟨kvs,hk⟩
    ·obtain⟨_,_,_,_,o,_,_,e,ex,_⟩:=I.hok p _ hk;exact⟨o,e,ex⟩
    ·obtain⟨_,_,_,_,o,_,_,e,ex,_⟩:=I.hok p _ hk;exact⟨o,e,ex⟩
   obtain⟨o,e,ex⟩:=z;refine⟨⟨o,e,ex.1⟩,fun a e2=>?_⟩;cases e2;exact⟨o,e,ex.2.1⟩
  ·obtain⟨o,_,_,_,e,ex,_⟩:=I.hok p _ hk;refine⟨⟨o,e,ex.1⟩,fun a e2=>?_⟩;cases e2;exact⟨o,e,ex.2.1⟩
 |_=>exact False.elim ty
def NV(K:Q1)(T:String)(r:V->List V->Hp->VK->Prop)(to:TE):TE:=fun σ H Q=>to σ H fun x H1=>tyV K T x H1/\r x [] H1 Q
def tBM(K:Q1)(T:String)(r:V->List V->Hp->VK->Prop)(to:TE)(t:TA):TE:=fun σ H Q=>to σ H fun x H1=>tyV K T x H1/\t σ H1 fun xs H2=>r x xs H2 Q
variable{o e:Expr}{es:List Expr}{to:TE}{t:TA}{name:Str}{apos cpos:Pos}{T id:String}{r:V->List V->Hp->VK->Prop}
theorem JT(pa:PlainAttrs T)(slot:Slot T name id)(hty:typeOf (.builtin id)=pure (.type "method_descriptor"))(hm:MtR X id r)(ho:PE X o to)
  (hbase:attributeBase o name X.env (eval o X.env)=eval o X.env:=by rfl) (hline:(apos.endLine == cpos.line)=true:=by rfl):PE X (.Call (.Attribute o name apos) [] [] cpos) (NV X.K T r to):=by
 intro pins s σ H Q I h;refine wpAny_Call_method0_late hbase hline (thn (ho pins s σ H _ I h) fun v s1 hz=>?_);obtain⟨x,H1,I1,r1,ty,q1⟩:=hz;obtain⟨h1,h2⟩:=DU I1 r1 ty;exact⟨T,id,pa,slot,hty,h1,h2,Calls.callWith_builtin rfl (PySem.evalArgs_none (hm pins s1 σ H1 x [] v [] Q I1 r1 .nil q1))⟩
theorem MP(pa:PlainAttrs T)(slot:Slot T name id)(hty:typeOf (.builtin id)=pure (.type "method_descriptor"))(hm:MtR X id r)(ho:PE X o to)(ha:PA X (e::es) t)
  (hbase:attributeBase o name X.env (eval o X.env)=eval o X.env:=by rfl)
  (hfew:((backTo cpos (starEach (e::es) X.env)).all (fun x=>!x.1)&&(backToKw cpos (keywordEach [] X.env)).all (fun x=>x.1.isSome)
   && decide ((e::es).length+([]:List Keyword).length+(if ([]:List Keyword).isEmpty then 0 else 1)<30))=true:=by rfl)
  (hline:(apos.endLine == cpos.line)=true:=by rfl) (hs:starEach (e::es) X.env=(false,eval e X.env)::starEach es X.env:=by rfl) (hplain:(backTo cpos (starEach es X.env)).any (·.1)=false:=by rfl) :
  PE X (.Call (.Attribute o name apos) (e::es) [] cpos) (tBM X.K T r to t):=by
 intro pins s σ H Q I h;refine wpAny_Call_method_late hbase hfew hline rfl (thn (ho pins s σ H _ I h) fun v s1 hz=>?_);obtain⟨x,H1,I1,r1,ty,q1⟩:=hz;obtain⟨h1,h2⟩:=DU I1 r1 ty;refine⟨T,id,pa,slot,hty,h1,h2,?_⟩;have hA:=ha cpos pins s1 σ H1 _ I1 q1;rw[hs]at hA ⊢;refine Calls.callWith_builtin (by show(false||(backTo cpos (starEach es X.env)).any (·.1))=false;rw[hplain]<;>rfl) (Calls.evalArgs_plain ?_);exact thn hA fun us s2 ⟨vs,H2,I2,r2,q2⟩=>hm pins s2 σ H2 x vs v us Q I2 r1 r2 q2
end
def MtM(X:Cx)(id:String)(r:V->List V->Hp->VK->Prop):Prop:=
 ∀(pins:List (Addr×Obj)) (s:Shared) (σ:St) (H:Hp) (x:V) (xs:List V) (v:Value) (us:List Value) (Q:VK),Inv X pins σ H s->cD x v->bU xs us->r x xs H Q->
  wpAny (model X.prog X.w) X.A (call (.builtin id) (v::us)) (EP X pins σ Q) X.xe s
theorem bU.one:∀{x:V} {us:List Value},bU [x] us->∃u,us=[u]/\cD x u
 |_,_,.cons r .nil=>⟨_,rfl,r⟩
theorem bU.zero:∀{us:List Value},bU [] us->us=[]
 |_,.nil=>rfl
theorem bU.dropLast{xs:List V}{us:List Value}(h:bU xs us):bU xs.dropLast us.dropLast:=by
 induction h with
 |nil=>exact .nil
 |cons r t ih=>
  cases t with
  |nil=>exact .nil
  |cons q t'=>exact .cons r ih
theorem bU.eraseIdx:∀{xs:List V} {us:List Value} (i:Nat),bU xs us->bU (xs.eraseIdx i) (us.eraseIdx i)
 |_,_,_,.nil=>.nil
 |_,_,0,.cons _ t=>t
 |_,_,i+1,.cons r t=>.cons r (bU.eraseIdx i t)
theorem xI{α:Type}(l:List α):l.eraseIdx (l.length-1)=l.dropLast:=by
 induction l with
 |nil=>rfl
 |cons a r ih=>
  cases r with
  |nil=>rfl
  |cons b r=>
   have e:(a::b::r).length-1=((b::r).length-1)+1:=by
    have h1:(a::b::r).length=r.length+2:=rfl;have h2:(b::r).length=r.length+1:=rfl;omega
   rw[e,List.eraseIdx_cons_succ,ih];all_goals rfl
theorem sR{α:Type}:∀(l:List α) (i:Nat),(l.eraseIdx i).length<=l.length
 |[],_=>QZ _
 |_::_,0=>Nat.le_succ _
 |_::r,i+1=>Nat.succ_le_succ (sR r i)
section
variable{X:Cx}{pins:List (Addr×Obj)}{σ:St}{H:Hp}{s:Shared}{l:Addr}{xs ys:List V}
theorem Inv.lset{its its':List Value}{n:Nat}{f:Array Value->Array Value}{t':Nat}(I:Inv X pins σ H s)(hH:H l=some (.lst xs))
  (e:s.heap.get? l=some { cls:=.type "list",data:=.seq its.toArray n }) (hf:f its.toArray=its'.toArray) (hv:bU ys its') (hz:ys.length<=sizeLine) :
  Inv X pins σ (upd H l (.lst ys)) { s with heap:=s.heap.update l (Obj.mapSeq f),toks:=t' }:=by
 have q:=PySem.IsL.update e f;rw[hf]at q;refine I.write (x:=l) (e:=l) (by rw[hH];exact trivial) (.inl rfl) (fun b' u hb hu=>(Heap.get?_update_other s.heap (Obj.mapSeq f) (Ne.symm hb)).trans hu) ⟨_,q⟩ ?_;exact⟨hz,its',_,hv,q⟩
theorem Inv.lnew{its:List Value}{t':Nat}(I:Inv X pins σ H s)(hv:bU ys its)(hz:ys.length<=sizeLine) :
  Inv X pins σ (upd H s.heap.objs.size (.lst ys)) { s with heap:=s.heap.push { cls:=.type "list",data:=.seq its.toArray },toks:=t' }:=
 I.laid (fun _ _ q=>Q7 _ q) (QZ _) ⟨hz,its,0,hv,QF _ rfl⟩
theorem Inv.fresh(I:Inv X pins σ H s):H s.heap.objs.size=none:=I.hok.fresh (QZ _)
theorem Inv.lstM(I:Inv X pins σ H s)(hH:H l=some (.lst xs)):xs.length<=sizeLine/\∃(its:List Value) (n:Nat),bU xs its/\xs.length=its.length/\s.heap.get? l=some { cls:=.type "list",data:=.seq its.toArray n }:=by
 obtain⟨z,its,n,r,e⟩:=I.hok l _ hH;exact⟨z,its,n,r,r.length,e⟩
theorem Cw{n:Nat}(h:n<=sizeLine):Builtin.List.listTooLong n=false:=by
 unfold Builtin.List.listTooLong;exact decide_eq_false (by omega)
end
section
variable{X:Cx}
def y3:V->List V->Hp->VK->Prop:=fun x vs H Q=>∃l xs y,x=.ref l/\vs=[y]/\H l=some (.lst xs)/\xs.length<sizeLine/\Q .non (upd H l (.lst (xs++[y])))
theorem om:MtM X "list.append" y3:=by
 intro pins s σ H x vs v us Q I rx rv h;obtain⟨l,xs,y,rfl,rfl,hH,hz,q⟩:=h;cases rx;obtain⟨u,rfl,ru⟩:=rv.one;obtain⟨z,its,n,r,hl,e⟩:=I.lstM hH;refine call_meets F.slot_list_append ⟨_,e,rfl⟩ F.entry_list_append (F.args_list_append_2 _ _) (PySem.list_append l its.toArray n u (by rw[QH];omega)) ⟨e,?_⟩;refine⟨.non,_,I.lset (its':=its++[u]) hH e (by simp) (r.append (.cons ru .nil)) ?_,rfl,q⟩;rw[Q6,Qa];omega
def y1:V->List V->Hp->VK->Prop:=fun x vs H Q=>∃l b xs zs,x=.ref l/\vs=[.ref b]/\H l=some (.lst xs)/\H b=some (.lst zs)/\xs.length+zs.length<=sizeLine/\Q .non (upd H l (.lst (xs++zs)))
theorem zH:MtM X "list.extend" y1:=by
 intro pins s σ H x vs v us Q I rx rv h;obtain⟨l,b,xs,zs,rfl,rfl,hH,hB,hz,q⟩:=h;cases rx;obtain⟨u,rfl,ru⟩:=rv.one;cases ru;obtain⟨z,its,n,r,hl,e⟩:=I.lstM hH;obtain⟨z2,its2,n2,r2,hl2,e2⟩:=I.lstM hB;have hsz:its.toArray.size+its2.toArray.size<=sizeLine:=by rw[QH,QH];omega
 have hlong:¬(!its.toArray.isEmpty&&Builtin.List.listTooLong (its.toArray.size+its2.toArray.size))=true:=by
  rw[Cw hsz,Bool.and_false];exact QK
 refine call_meets F.slot_list_extend ⟨_,e,rfl⟩ F.entry_list_extend (F.args_list_extend_2 _ _)
  (AutoSeq1.list_extend_list_list_0 l its.toArray n b its2.toArray n2 hlong (by rw[QH];omega) (by omega)) ⟨e,e2,?_⟩
 refine⟨.non,_,I.lset (its':=its++its2) hH e (by simp) (r.append r2) ?_,rfl,q⟩;rw[Q6];omega
def NZ:V->List V->Hp->VK->Prop:=fun x vs H Q=>∃l xs y,x=.ref l/\vs=[]/\H l=some (.lst xs)/\xs[xs.length-1]?=some y/\Q y (upd H l (.lst xs.dropLast))
theorem J7:MtM X "list.pop" NZ:=by
 intro pins s σ H x vs v us Q I rx rv h;obtain⟨l,xs,y,rfl,rfl,hH,hy,q⟩:=h;cases rx;have hus:=rv.zero;subst hus;obtain⟨z,its,n,r,hl,e⟩:=I.lstM hH;obtain⟨u,hu,ru⟩:=r.get hy;have hy':its.toArray[its.toArray.size-1]?=some u:=by
  show its.toArray[its.length-1]?=some u;rw[<-ZI,<-hl];exact hu
 refine call_meets F.slot_list_pop ⟨_,e,rfl⟩ F.entry_list_pop (F.args_list_pop_1 _) (MeetsSeq.list_pop_last l its.toArray n u hy' (by rw[QH];omega)) ⟨e,?_⟩;refine⟨y,_,I.lset (its':=its.dropLast) hH e ?_ r.dropLast ?_,ru,q⟩
 ·show its.toArray.eraseIdxIfInBounds (its.toArray.size-1)=its.dropLast.toArray;rw[QH,List.eraseIdxIfInBounds_toArray,xI]
 ·rw[List.length_dropLast];omega
def D6:V->List V->Hp->VK->Prop:=fun x vs H Q=>∃l xs i k y,x=.ref l/\vs=[.int i]/\H l=some (.lst xs)/\-(2^63)<=i/\i<2^63/\seqIndex? i xs.length=some k/\xs[k]?=some y/\Q y (upd H l (.lst (xs.eraseIdx k)))
theorem CC:MtM X "list.pop" D6:=by
 intro pins s σ H x vs v us Q I rx rv h;obtain⟨l,xs,i,k,y,rfl,rfl,hH,h1,h2,hk,hy,q⟩:=h;cases rx;obtain⟨u,rfl,ru⟩:=rv.one;obtain⟨t,rfl⟩:=ru;obtain⟨z,its,n,r,hl,e⟩:=I.lstM hH;obtain⟨w,hw,rw'⟩:=r.get hy;refine call_meets F.slot_list_pop ⟨_,e,rfl⟩ F.entry_list_pop (F.args_list_pop_2 _ _)
  (MeetsSeq.list_pop_at l its.toArray n i t k w (fitsIndex_both h1 h2) (by rw[QH,<-hl];exact hk) (by rw[<-ZI];exact hw) (by rw[QH];omega)) ⟨e,?_⟩
 refine⟨y,_,I.lset (its':=its.eraseIdx k) hH e ?_ (r.eraseIdx k) ?_,rw',q⟩
 ·show its.toArray.eraseIdxIfInBounds k=(its.eraseIdx k).toArray;rw[List.eraseIdxIfInBounds_toArray]
 ·have:=sR xs k;omega
def Li:R2:=fun x y H Q=>∃l b xs zs,x=.ref l/\y=.ref b/\H l=some (.lst xs)/\H b=some (.lst zs)/\xs.length+zs.length<=sizeLine/\∀p,H p=none->Q (.ref p) (upd H p (.lst (xs++zs)))
theorem J1:OpR X (binaryOp .Add) Li:=by
 intro pins s σ H x y v u Q I rx ry h;obtain⟨l,b,xs,zs,rfl,rfl,hH,hB,hz,q⟩:=h;cases rx;cases ry;obtain⟨z,its,n,r,hl,e⟩:=I.lstM hH;obtain⟨z2,its2,n2,r2,hl2,e2⟩:=I.lstM hB;refine PySem.P.add_list e e2 ?_ (by rw[QH,QH];omega);have ea:its.toArray++its2.toArray=(its++its2).toArray:=by simp
 rw[ea];exact⟨.ref _,_,I.lnew (t':=s.toks) (r.append r2) (by rw[Q6];omega),rfl,q _ I.fresh⟩
end
section
variable{κ:Type}[DecidableEq κ]
def jU(kvs:List (κ×V))(k:κ):Option V:=(kvs.find? fun kv=>decide (kv.1=k)).map (·.2)
def pC(kvs:List (κ×V))(k:κ)(v:V):List (κ×V):=
 if (kvs.any fun kv=>decide (kv.1=k))=true then kvs.map (fun kv=>if kv.1=k then(kv.1,v)else kv)else kvs++[(k,v)]
theorem qH{p:κ×V}{r:List (κ×V)}{k:κ}(e:p.1=k):jU (p::r) k=some p.2:=by simp[jU,Qt,e]
theorem qI{p:κ×V}{r:List (κ×V)}{k:κ}(e:¬p.1=k):jU (p::r) k=jU r k:=by simp[jU,Qt,e]
theorem qJ(k:κ):∀kvs:List (κ×V),(kvs.any fun kv=>decide (kv.1=k))=(jU kvs k).isSome
 |[]=>rfl
 |p::r=>by
  rw[ZR];by_cases e:p.1=k
  ·simp only[qH e,decide_eq_true e,Bool.true_or,Option.isSome_some]
  ·rw[qI e,decide_eq_false e,Bool.false_or];exact qJ k r
theorem kx(kvs:List (κ×V))(k:κ)(v:V):(pC kvs k v).length<=kvs.length+1:=by
 unfold pC;split
 ·rw[Q5];omega
 ·rw[Q6,QY,List.length_nil];omega
theorem qA.isSome_eq{o:Option V}{u:Option Value}(r:qA o u):o.isSome=u.isSome:=by
 cases o with
 |none=>cases u with
  |none=>rfl
  |some _=>exact(show False from r).elim
 |some _=>cases u with
  |none=>exact(show False from r).elim
  |some _=>rfl
theorem qA.getD{o:Option V}{u:Option Value}{d:V}{d':Value}(r:qA o u)(rd:cD d d'):cD (o.getD d) (u.getD d'):=by
 cases o with
 |none=>cases u with
  |none=>exact rd
  |some _=>exact(show False from r).elim
 |some _=>cases u with
  |none=>exact(show False from r).elim
  |some _=>exact r
theorem KV.val{kvs:List (κ×V)}{vs:List (κ×Value)}(r:KV kvs vs)(k:κ):qA (jU kvs k) (valueAt vs k):=by
 unfold KV at r;induction r with
 |nil=>exact True.intro
 |@cons p q ps qs h t ih=>
  obtain⟨h1,h2⟩:=h;by_cases e:p.1=k
  ·have e':q.1=k:=h1.symm.trans e;have b:valueAt (q::qs) k=some q.2:=by simp[valueAt,Qt,e']
   rw[qH e,b];exact h2
  ·have e':¬q.1=k:=fun z=>e (h1.trans z);have b:valueAt (q::qs) k=valueAt qs k:=by simp[valueAt,Qt,e']
   rw[qI e,b];exact ih
theorem KV.any{kvs:List (κ×V)}{vs:List (κ×Value)}(r:KV kvs vs)(k:κ):(kvs.any fun kv=>decide (kv.1=k))=vs.any fun kv=>decide (kv.1=k):=by
 unfold KV at r;induction r with
 |nil=>rfl
 |cons h t ih=>rw[ZR,ZR,ih,h.1]
theorem KV.repl{kvs:List (κ×V)}{vs:List (κ×Value)}(r:KV kvs vs)(k:κ){y:V}{u:Value}(ry:cD y u) :
  KV (kvs.map fun kv=>if kv.1=k then(kv.1,y)else kv) (vs.map fun kv=>if kv.1=k then(kv.1,u)else kv):=by
 unfold KV at r ⊢;induction r with
 |nil=>exact .nil
 |@cons p q ps qs h t ih=>
  rw[QX,QX];refine .cons ?_ ih;obtain⟨h1,h2⟩:=h;by_cases e:p.1=k
  ·rw[if_pos e,if_pos (h1.symm.trans e)];exact⟨h1,ry⟩
  ·rw[if_neg e,if_neg (fun z=>e (h1.trans z))];exact⟨h1,h2⟩
theorem KV.put{kvs:List (κ×V)}{vs:List (κ×Value)}(r:KV kvs vs)(k:κ){y:V}{u:Value}(ry:cD y u):KV (pC kvs k y) (stored vs k u):=by
 unfold pC stored;rw[r.any k];by_cases e:(vs.any fun kv=>decide (kv.1=k))=true
 ·rw[if_pos e,if_pos e];exact r.repl k ry
 ·rw[if_neg e,if_neg e];exact Paired.snoc r ⟨rfl,ry⟩
theorem KV.length{kvs:List (κ×V)}{vs:List (κ×Value)}(r:KV kvs vs):kvs.length=vs.length:=Paired.length r
end
theorem uM{P:Program}{w:World}{k:Key}{u:Value}(r:cD (kV k) u):(cG P w).is k u=true:=by
 cases k with
 |inl i=>obtain⟨t,e⟩:=(show ∃t,u=Value.int i t from r);subst e;exact uI P w i t
 |inr x=>obtain⟨t,e⟩:=(show ∃t,u=Value.str x t from r);subst e;exact uH P w x t
theorem sS{P:Program}{w:World}:∀{ks:List Key} {us:List Value},bU (ks.map kV) us->ItemsAre (cG P w) ks us
 |[],_,r=>by rw[Ql]at r;cases r;exact .nil
 |k::ks,_,r=>by
  rw[QX]at r;cases r with
  |cons h t=>exact .cons (uM h) (sS t)
abbrev KT(H:Hp):List (List Key×V)->List (List Key×Addr×Value)->Prop:=Paired fun p q=>p.1=q.1/\H q.2.1=some (.tup (p.1.map kV))/\cD p.2 q.2.2
theorem KT.val{H:Hp}{kvs:List (List Key×V)}{xs:List (List Key×Addr×Value)}(r:KT H kvs xs)(k:List Key):qA (jU kvs k) ((atKey xs k).map (·.2)):=by
 induction r with
 |nil=>exact True.intro
 |@cons p q ps qs h t ih=>
  obtain⟨h1,_,h2⟩:=h;by_cases e:p.1=k
  ·have e':q.1=k:=h1.symm.trans e;have b:atKey (q::qs) k=some q.2:=by simp[atKey,Qt,e']
   rw[qH e,b];exact h2
  ·have e':¬q.1=k:=fun z=>e (h1.trans z);have b:atKey (q::qs) k=atKey qs k:=by simp[atKey,Qt,e']
   rw[qI e,b];exact ih
theorem KT.repl{H:Hp}{kvs:List (List Key×V)}{xs:List (List Key×Addr×Value)}(r:KT H kvs xs)(k:List Key){y:V}{u:Value}(ry:cD y u) :
  KT H (kvs.map fun kv=>if kv.1=k then(kv.1,y)else kv) (xs.map (putAt k u)):=by
 induction r with
 |nil=>exact .nil
 |@cons p q ps qs h t ih=>
  rw[QX,QX];refine .cons ?_ ih;obtain⟨h1,h2,h3⟩:=h;unfold putAt;by_cases e:p.1=k
  ·rw[if_pos e,if_pos (h1.symm.trans e)];exact⟨h1,h2,ry⟩
  ·rw[if_neg e,if_neg (fun z=>e (h1.trans z))];exact⟨h1,h2,h3⟩
theorem KT.put{H:Hp}{kvs:List (List Key×V)}{xs:List (List Key×Addr×Value)}(r:KT H kvs xs)(k:List Key){b:Addr}{y:V}{u:Value}(hb:H b=some (.tup (k.map kV)))(ry:cD y u) :
  KT H (pC kvs k y) (storedH xs k b u):=by
 have e:(kvs.any fun kv=>decide (kv.1=k))=(atKey xs k).isSome:=by
  rw[qJ,(r.val k).isSome_eq,Option.isSome_map]
 unfold pC storedH;rw[e];by_cases q:(atKey xs k).isSome=true
 ·rw[if_pos q,if_pos q];exact r.repl k ry
 ·rw[if_neg q,if_neg q];exact Paired.snoc r ⟨rfl,hb,ry⟩
theorem KT.keeps{H H':Hp}{kvs:List (List Key×V)}{xs:List (List Key×Addr×Value)}(r:KT H kvs xs)(ht:∀b ys,H b=some (.tup ys)->H' b=some (.tup ys)):KT H' kvs xs:=
 Paired.mapP r fun _ _ z=>⟨z.1,ht _ _ z.2.1,z.2.2⟩
section
variable{P:Program}{w:World}{H:Hp}{h:Heap}{a:Addr}
theorem Jn{u:HO}(ok:HOk P w H h)(e:Rd H a u):cy P w H h a u:=e.ok ok
theorem t8{kvs:List (Key×V)}(ok:HOk P w H h)(e:Rd H a (.dK kvs)):kvs.length<=sizeLine/\(a == sysModules)=false/\∃vs,KV kvs vs/\h.DictOf (cG P w) a vs:=
 show cy P w H h a (.dK kvs)from Jn ok e
theorem Dm{kvs:List (Key×V)}(ok:HOk P w H h)(e:H a=some (.dK kvs)):kvs.length<=sizeLine/\(a == sysModules)=false/\∃vs,KV kvs vs/\h.DictOf (cG P w) a vs:=t8 ok (.inl e)
theorem qk{ks:List Key}(ok:HOk P w H h)(e:H a=some (.tup (ks.map kV))):(tupleKind (cG P w)).is h ks a:=by
 obtain⟨_,its,r,o,h1,h2,n,h3⟩:=(show cy P w H h a (.tup (ks.map kV))from ok a _ e);exact⟨o,its.toArray,n,h1,h2,h3,by simpa using sS r⟩
theorem u6{kvs:List (List Key×V)}(ok:HOk P w H h)(e:Rd H a (.dT kvs)):kvs.length<=sizeLine/\(a == sysModules)=false/\
  ∃xs,KT H kvs xs/\h.DictOfH (tupleKind (cG P w)) a xs:=by
 obtain⟨z,y,xs,r,o,es,ep,h1,h2,h3,h4,h5⟩:=(show cy P w H h a (.dT kvs)from Jn ok e);refine⟨z,y,xs,r,o,es,ep,h1,h2,h3,h4,fun x hx=>?_,h5⟩;have all:∀{l:List (List Key×V)} {m:List (List Key×Addr×Value)},KT H l m->∀x∈m,(tupleKind (cG P w)).is h x.1 x.2.1:=by
  intro l m q;induction q with
  |nil=>intro x hx;exact nomatch hx
  |@cons p q ps qs hq t ih=>
   intro x hx;rcases QM.mp hx with e|hx
   ·subst e;exact qk ok (by rw[<-hq.1];exact hq.2.1)
   ·exact ih x hx
 exact all r x hx
theorem Nt{kvs:List (List Key×V)}(ok:HOk P w H h)(e:H a=some (.dT kvs)):kvs.length<=sizeLine/\(a == sysModules)=false/\
  ∃xs,KT H kvs xs/\h.DictOfH (tupleKind (cG P w)) a xs:=u6 ok (.inl e)
end
def DGet(H:Hp)(a:Addr)(y:V)(r:Option V):Prop:=
 (∃kvs k,Rd H a (.dK kvs)/\y=kV k/\r=jU kvs k)\/∃kvs k b,Rd H a (.dT kvs)/\y=.ref b/\H b=some (.tup (k.map kV))/\r=jU kvs k
def EE(H:Hp)(a:Addr)(y v:V)(H':Hp):Prop:=
 (∃kvs k,H a=some (.dK kvs)/\y=kV k/\kvs.length<sizeLine/\H'=upd H a (.dK (pC kvs k v)))\/
 ∃kvs k b,H a=some (.dT kvs)/\y=.ref b/\H b=some (.tup (k.map kV))/\kvs.length<sizeLine/\H'=upd H a (.dT (pC kvs k v))
theorem DGet.k{H:Hp}{a:Addr}{kvs:List (Key×V)}{k:Key}(e:H a=some (.dK kvs)):DGet H a (kV k) (jU kvs k):=.inl ⟨kvs,k,.inl e,rfl,rfl⟩
theorem EE.k{H:Hp}{a:Addr}{kvs:List (Key×V)}{k:Key}{v:V}(e:H a=some (.dK kvs))(hl:kvs.length<sizeLine):EE H a (kV k) v (upd H a (.dK (pC kvs k v))):=.inl ⟨kvs,k,e,rfl,hl,rfl⟩
theorem EE.t{H:Hp}{a b:Addr}{kvs:List (List Key×V)}{k:List Key}{v:V}(e:H a=some (.dT kvs))(eb:H b=some (.tup (k.map kV)))(hl:kvs.length<sizeLine) :
  EE H a (.ref b) v (upd H a (.dT (pC kvs k v))):=.inr ⟨kvs,k,b,e,rfl,eb,hl,rfl⟩
section
variable{X:Cx}{pins:List (Addr×Obj)}{σ:St}{H:Hp}{s:Shared}{a:Addr}{y v:V}{u r:Value}{o:Option V}{A:Around}{E:Value->Shared->Prop}
theorem Inv.big(I:Inv X pins σ H s):sysModules<s.heap.objs.size:=by
 have h:mainGlobals<s.heap.objs.size:=(I.mod.glob.keeps I.bk).lt;exact Nat.lt_trans (by decide) h
theorem AK{Q:Value->Shared->Prop}(hu:A.units+1<cLine)(I:Inv X pins σ H s)(g:DGet H a y (some v))(ry:cD y u)(h:∀w' s',Inv X pins σ H s'->cD v w'->Q w' s') :
  wpAny (model X.prog X.w) A (getItem (.ref a) u) Q E s:=by
 rcases g with⟨kvs,k,e,ey,l⟩|⟨kvs,k,b,e,ey,eb,l⟩
 ·subst ey;obtain⟨z,hd,vs,rel,dd⟩:=t8 I.hok e;obtain⟨w',hw,rw'⟩:=qA.some_of (v:=v) (o:=valueAt vs k) (by rw[l];exact rel.val k);exact wpAny_getItem_of (uM ry) dd.mapOf hw (h w' _ (I.tok _) rw')
 ·subst ey;cases (show u=Value.ref b from ry);obtain⟨z,hd,xs,rel,dd⟩:=u6 I.hok e;obtain⟨w',hw,rw'⟩:=qA.some_of (v:=v) (o:=(atKey xs k).map (·.2)) (by rw[l];exact rel.val k);obtain⟨p,hp,hp2⟩:=Qn.mp hw;refine wpAny_getItem_heap (tupleKind_room_in1 hu) (qk I.hok eb) dd hp ?_;rw[hp2];exact h w' _ (I.tok _) rw'
theorem O6{Q:Value->Shared->Prop}(hu:A.units+1<cLine)(I:Inv X pins σ H s)(g:DGet H a y o)(ry:cD y u)(h:∀s',Inv X pins σ H s'->Q (.bool o.isSome) s') :
  wpAny (model X.prog X.w) A (compareOp .In u (.ref a)) Q E s:=by
 rcases g with⟨kvs,k,e,ey,l⟩|⟨kvs,k,b,e,ey,eb,l⟩
 ·subst ey;obtain⟨z,hd,vs,rel,dd⟩:=t8 I.hok e;refine wpAny_in_of (uM ry) hd dd.mapOf ?_;rw[<-(rel.val k).isSome_eq,<-l];exact h _ (I.tok _)
 ·subst ey;cases (show u=Value.ref b from ry);obtain⟨z,hd,xs,rel,dd⟩:=u6 I.hok e;refine wpAny_in_heap (tupleKind_room_in1 hu) (qk I.hok eb) hd dd ?_;have q:=(rel.val k).isSome_eq;rw[Option.isSome_map]at q;rw[<-q,<-l];exact h _ (I.tok _)
theorem GU{Q:Value->Shared->Prop}(hu:A.units+1<cLine)(I:Inv X pins σ H s)(g:DGet H a y o)(ry:cD y u)(h:∀s',Inv X pins σ H s'->Q (.bool (!o.isSome)) s') :
  wpAny (model X.prog X.w) A (compareOp .NotIn u (.ref a)) Q E s:=by
 rcases g with⟨kvs,k,e,ey,l⟩|⟨kvs,k,b,e,ey,eb,l⟩
 ·subst ey;obtain⟨z,hd,vs,rel,dd⟩:=t8 I.hok e;refine wpAny_notIn_of (uM ry) hd dd.mapOf ?_;rw[<-(rel.val k).isSome_eq,<-l];exact h _ (I.tok _)
 ·subst ey;cases (show u=Value.ref b from ry);obtain⟨z,hd,xs,rel,dd⟩:=u6 I.hok e;refine wpAny_notIn_heap (tupleKind_room_in1 hu) (qk I.hok eb) hd dd ?_;have q:=(rel.val k).isSome_eq;rw[Option.isSome_map]at q;rw[<-q,<-l];exact h _ (I.tok _)
theorem oX{h':Heap}{t':Nat}{ob:HO}(I:Inv X pins σ H s)(mu:Mut (H a))(hs:ZT a s.heap h')(he:∃q,h'.get? a=some q)(new:cy X.prog X.w (upd H a ob) h' a ob) :
  Inv X pins σ (upd H a ob) { s with heap:=h',toks:=t' }:=
 I.write (x:=a) (e:=a) mu (.inl rfl) (fun b q hb z=>(hs.2 b hb).trans z) he new
theorem Ex{P:Program}{w:World}{H':Hp}{h':Heap}{kvs:List (Key×V)}{vs:List (Key×Value)}(z:kvs.length<=sizeLine)(hd:(a == sysModules)=false)(rel:KV kvs vs)(dd:h'.DictOf (cG P w) a vs) :
  cy P w H' h' a (.dK kvs):=⟨z,hd,vs,rel,dd⟩
theorem AJ{H':Hp}{Q:Unit->Shared->Prop}(hu:A.units+1<cLine)(I:Inv X pins σ H s)(g:EE H a y v H')(ry:cD y u)(rv:cD v r)(h:∀s',Inv X pins σ H' s'->Q () s') :
  wpAny (model X.prog X.w) A (setItem (.ref a) u r) Q E s:=by
 rcases g with⟨kvs,k,e,ey,l,eH⟩|⟨kvs,k,b,e,ey,eb,l,eH⟩
 ·subst ey eH;obtain⟨z,hd,vs,rel,dd⟩:=Dm I.hok e;have hz:vs.length<=sizeLine:=by rw[<-rel.length];exact z
  have hl:(pC kvs k v).length<=sizeLine:=by have:=kx kvs k v;omega
  refine wpAny_setItem_pairs (hsz:=hz) (uM ry) dd fun h' dd' hs=>h _ ?_;have he:∃q,h'.get? a=some q:=let ⟨q,_,_,hq,_⟩:=dd';⟨q,hq⟩
  exact oX I (by rw[e];exact True.intro) hs he (Ex hl hd (rel.put k rv) dd')
 ·subst ey eH;cases (show u=Value.ref b from ry);obtain⟨z,hd,xs,rel,dd⟩:=Nt I.hok e;have hz:xs.length<=sizeLine:=by rw[<-Paired.length rel];exact z
  have hl:(pC kvs k v).length<=sizeLine:=by have:=kx kvs k v;omega
  refine wpAny_setItem_heap (hsz:=hz) (tupleKind_room_in1 hu) (qk I.hok eb) dd fun h' dd' hs=>h _ ?_;obtain⟨q,es,ep,hq,h2,h3,h4,_,h5⟩:=dd';refine oX I (by rw[e];exact True.intro) hs ⟨q,hq⟩ ⟨hl,hd,_,(rel.put k eb rv).keeps fun c ys ec=>?_,q,es,ep,hq,h2,h3,h4,h5⟩;rw[bA (M0 ec e (fun z=>nomatch z))];exact ec
end
section
variable{X:Cx}{pins:List (Addr×Obj)}{σ:St}{H:Hp}{s:Shared}{a:Addr}{kvs:List (Key×V)}{A:Around}{E:Value->Shared->Prop}
theorem Nu{Q:Value->Shared->Prop}(I:Inv X pins σ H s)(e:Rd H a (.dK kvs))(h:∀t s',Inv X pins σ H s'->Q (.int kvs.length t) s'):wpAny (model X.prog X.w) A (call (.builtin "len") [.ref a]) Q E s:=by
 obtain⟨z,hd,vs,rel,dd⟩:=t8 I.hok e;refine call_len_dict hd dd (by rw[<-rel.length];rw[sizeLine_eq]at z;omega) ?_;rw[<-rel.length];exact h _ _ (I.tok _)
end
def Hu(i:Expr):Prop:=∀ov iv,subscripted i false ov iv=operate [ov,iv] (getItem ov iv)
theorem yL{prog:Program}{w:World}{A:Around}{E:Value->Shared->Prop}{s:Shared}{env:Env}{value slice:Expr}{pos:Pos}{T id:String}{Q:Value->Shared->Prop}
  (hl:typeLookup (.type T) "__getitem__"=pure (some (.builtin id))) (hs:Hu slice)
  (h:wpAny (model prog w) A (eval value env) (fun o s₁=>wpAny (model prog w) A (eval slice env) (fun i s₂=>s₂.TypeIs o T/\wpAny (model prog w) A (getItem o i) Q E s₂) E s₁) E s) :
  wpAny (model prog w) A (eval (.Subscript value slice pos) env) Q E s:=by
 refine Subscript_ (Z9 h (fun o s₁ h₁=>Z9 h₁ (fun i s₂ h₂=>?_) fun _ _ x=>x) fun _ _ x=>x);obtain⟨hT,h₂⟩:=h₂;unfold subscriptTail;refine Q2 ?_;rw[getitemInPython_of_ne hT.not_modules];refine Q2 (wpAny_specialOf hT hl ?_);have fin:wpAny (model prog w) A (subscripted slice false o i) (fun r s₃=>wpAny (model prog w) A (letTemporaryGo value o r >>= fun _=>pure r) Q E s₃) E s₂:=by
  rw[hs o i];exact wpAny_operating (Z9 h₂ (fun r s₃ h₃=>Q2 (wpAny_letTemporaryGo (QQ h₃))) fun _ _ x=>x)
 first
  |exact QQ (Q2 fin)
  |exact Q2 (QQ (Q2 fin))
  |exact Q2 fin
theorem u7{X:Cx}{pins:List (Addr×Obj)}{σ:St}{H:Hp}{s:Shared}{a:Addr}{y:V}{o:Option V}(I:Inv X pins σ H s)(g:DGet H a y o):s.TypeIs (.ref a) "dict":=by
 rcases g with⟨kvs,k,e,_,_⟩|⟨kvs,k,b,e,_,_,_⟩
 ·obtain⟨_,_,vs,_,dd⟩:=t8 I.hok e;exact dd.typeIs
 ·obtain⟨_,_,xs,_,dd⟩:=u6 I.hok e;exact dd.typeIs
def Jc(td ty:TE):TE:=fun σ H Q=>td σ H fun x H1=>ty σ H1 fun y H2=>∃a v,x=.ref a/\DGet H2 a y (some v)/\Q v H2
def Lh(ty td:TE):TE:=fun σ H Q=>ty σ H fun y H1=>td σ H1 fun x H2=>∃a o,x=.ref a/\DGet H2 a y o/\Q (.bl o.isSome) H2
def qK(ty td:TE):TE:=fun σ H Q=>ty σ H fun y H1=>td σ H1 fun x H2=>∃a o,x=.ref a/\DGet H2 a y o/\Q (.bl (!o.isSome)) H2
def Jm(td ty tv:TE):TS:=fun D σ H=>tv σ H fun v H1=>td σ H1 fun x H2=>ty σ H2 fun y H3=>∃a H4,x=.ref a/\EE H3 a y v H4/\D.nx σ H4
section
variable{X:Cx}{o i value:Expr}{pos pos':Pos}{td ty tv:TE}
theorem F7(hu:X.A.units+1<cLine)(ho:PE X o td)(hi:PE X i ty)(hs:Hu i):PE X (.Subscript o i pos) (Jc td ty):=by
 intro pins s σ H Q I h;refine yL PySem.F.slot_dict_getitem.lookup hs (thn (ho pins s σ H _ I h) fun u s1 ⟨x,H1,I1,rx,q1⟩=>thn (hi pins s1 σ H1 _ I1 q1) fun iv s2 hz=>?_);obtain⟨y,H2,I2,ry,a,v,ex,g,q2⟩:=hz;subst ex;obtain rfl:u=Value.ref a:=rx;exact⟨u7 I2 g,AK hu I2 g ry fun w' s3 I3 rw'=>⟨v,H2,I3,rw',q2⟩⟩
theorem JV(hu:X.A.units+1<cLine)(hi:PE X i ty)(ho:PE X o td):PC X .In i o (Lh ty td):=by
 intro pins s σ H Q I h;refine thn (hi pins s σ H _ I h) fun iv s1 ⟨y,H1,I1,ry,q1⟩=>thn (ho pins s1 σ H1 _ I1 q1) fun u s2 hz=>?_;obtain⟨x,H2,I2,rx,a,ov,ex,g,q2⟩:=hz;subst ex;obtain rfl:u=Value.ref a:=rx;exact O6 hu I2 g ry fun s3 I3=>⟨.bl ov.isSome,H2,I3,rfl,q2⟩
theorem zv(hu:X.A.units+1<cLine)(hi:PE X i ty)(ho:PE X o td):PC X .NotIn i o (qK ty td):=by
 intro pins s σ H Q I h;refine thn (hi pins s σ H _ I h) fun iv s1 ⟨y,H1,I1,ry,q1⟩=>thn (ho pins s1 σ H1 _ I1 q1) fun u s2 hz=>?_;obtain⟨x,H2,I2,rx,a,ov,ex,g,q2⟩:=hz;subst ex;obtain rfl:u=Value.ref a:=rx;exact GU hu I2 g ry fun s3 I3=>⟨.bl (!ov.isSome),H2,I3,rfl,q2⟩
theorem FR(hu:X.A.units+1<cLine)(ho:PE X o td)(hi:PE X i ty)(hv:PE X value tv)(hs:swapsWith value (some (.Subscript o i pos')) pos.line X.env=pure false) :
  PS X (.Assign [.Subscript o i pos'] value pos) (Jm td ty tv):=by
 intro pins s σ H D I h;refine wpAny_Assign_Subscript (thn (hv pins s σ H _ I h) fun r s1 ⟨v,H1,I1,rv,q1⟩=>thn (ho pins s1 σ H1 _ I1 q1) fun u s2 ⟨x,H2,I2,rx,q2⟩=>thn (hi pins s2 σ H2 _ I2 q2) fun iv s3 hz=>?_) hs;obtain⟨y,H3,I3,ry,a,H4,ex,g,q3⟩:=hz;subst ex;obtain rfl:u=Value.ref a:=rx;exact AJ hu I3 g ry rv fun s4 I4=>⟨σ,H4,I4,q3⟩
end
theorem wK{P:Program}{w:World}{H:Hp}(h:Heap)(hb:sysModules<h.objs.size):cy P w H (h.push { cls:=.type "dict",data:=.dict #[] }) h.objs.size (.dK []):=
 ⟨Z7 _,beq_eq_false_iff_ne.mpr (Ne.symm (Qr hb)),[],.nil,Heap.DictOf.new h⟩
theorem Dj{P:Program}{w:World}{H:Hp}(h:Heap)(hb:sysModules<h.objs.size):cy P w H (h.push { cls:=.type "dict",data:=.dict #[] }) h.objs.size (.dT []):=
 ⟨Z7 _,beq_eq_false_iff_ne.mpr (Ne.symm (Qr hb)),[],.nil,_,#[],0,QF _ rfl,⟨rfl,rfl,rfl⟩,rfl,rfl,ZQ⟩
def DY:TE:=fun _ H Q=>∀p,H p=none->Q (.ref p) (upd H p (.dK []))
def DX:TE:=fun _ H Q=>∀p,H p=none->Q (.ref p) (upd H p (.dT []))
section
variable{X:Cx}{pos:Pos}
theorem Cg:PE X (.Dict [] [] pos) DY:=fun pins s σ H Q I h=>
 wpAny_Dict_empty ⟨.ref s.heap.objs.size,_,I.laid (a:=s.heap.objs.size) (o:=.dK []) (t':=s.toks) (fun _ _ q=>Q7 _ q) (QZ _) (wK s.heap I.big),rfl,h _ (I.hok.fresh (QZ _))⟩
theorem Ce:PE X (.Dict [] [] pos) DX:=fun pins s σ H Q I h=>
 wpAny_Dict_empty ⟨.ref s.heap.objs.size,_,I.laid (a:=s.heap.objs.size) (o:=.dT []) (t':=s.toks) (fun _ _ q=>Q7 _ q) (QZ _) (Dj s.heap I.big),rfl,h _ (I.hok.fresh (QZ _))⟩
end
def sd:List (TE×TE)->St->Hp->(List (V×V)->Hp->Prop)->Prop
 |[],_,H,Q=>Q [] H
 |(tk,tv)::r,σ,H,Q=>tk σ H fun x H1=>tv σ H1 fun y H2=>sd r σ H2 fun ps H3=>Q ((x,y)::ps) H3
abbrev VV:List (V×V)->List (Value×Value)->Prop:=Paired fun p q=>cD p.1 q.1/\cD p.2 q.2
def PPs(X:Cx)(pos:Pos)(keys:List (Option Expr))(values:List Expr)(trs:List (TE×TE)):Prop:=
 ∀(pins:List (Addr×Obj)) (s:Shared) (σ:St) (H:Hp) (Q:List (V×V)->Hp->Prop),Inv X pins σ H s->sd trs σ H Q->
  wpAny (model X.prog X.w) X.A (evalPairs (pairTrees keys values X.env pos)) (fun vs s'=>∃ps H',Inv X pins σ H' s'/\VV ps vs/\Q ps H') X.xe s
theorem zp{X:Cx}{pos:Pos}:PPs X pos [] [] []:=fun pins s σ H Q I h=>pairTrees_nil_walk ⟨[],H,I,.nil,h⟩
theorem vX{X:Cx}{pos:Pos}{k v:Expr}{ks:List (Option Expr)}{vs:List Expr}{tk tv:TE}{trs:List (TE×TE)}(hk:PE X k tk)(hv:PE X v tv)(hr:PPs X pos ks vs trs) :
  PPs X pos (some k::ks) (v::vs) ((tk,tv)::trs):=fun pins s σ H Q I h=>
 pairTrees_cons_walk (thn (hk pins s σ H _ I h) fun u s1 ⟨x,H1,I1,rx,q1⟩=>thn (hv pins s1 σ H1 _ I1 q1) fun w2 s2 ⟨y,H2,I2,ry,q2⟩=>
  thn (hr pins s2 σ H2 _ I2 q2) fun ws s3 ⟨ps,H3,I3,rel,q3⟩=>⟨(x,y)::ps,H3,I3,.cons ⟨rx,ry⟩ rel,q3⟩)
def mZ(kvs more:List (Key×V)):List (Key×V):=more.foldl (fun acc kv=>pC acc kv.1 kv.2) kvs
theorem KV.merge:∀{more:List (Key×V)} {rs:List (Key×Value)} {kvs:List (Key×V)} {vs:List (Key×Value)},KV more rs->KV kvs vs->KV (mZ kvs more) (merged vs rs):=by
 intro more rs kvs vs r;unfold KV at r;induction r generalizing kvs vs with
 |nil=>intro q;exact q
 |@cons p q ps qs h t ih=>
  intro r0;have e:KV (pC kvs p.1 p.2) (stored vs q.1 q.2):=by
   have:=r0.put p.1 h.2;rw[<-h.1];exact this
  exact ih e
theorem lN:∀(more kvs:List (Key×V)),(mZ kvs more).length<=kvs.length+more.length
 |[],kvs=>by show kvs.length<=kvs.length+0;omega
 |p::r,kvs=>by
  have h1:=lN r (pC kvs p.1 p.2);have h2:=kx kvs p.1 p.2;show(mZ (pC kvs p.1 p.2) r).length<=_;rw[QY];omega
theorem qw{P:Program}{w:World}:∀{kvs:List (Key×V)} {ws:List (Value×Value)},VV (kvs.map fun kv=>(kV kv.1,kv.2)) ws->∃rs,Carries (cG P w) ws rs/\KV kvs rs
 |[],_,r=>by rw[Ql]at r;cases r;exact⟨[],True.intro,.nil⟩
 |p::kvs,_,r=>by
  rw[QX]at r;cases r with
  |@cons a b as bs h t=>
   obtain⟨rs,c,q⟩:=qw (P:=P) (w:=w) t;obtain⟨b1,b2⟩:=b;exact⟨(p.1,b2)::rs,⟨uM h.1,rfl,c⟩,.cons ⟨rfl,h.2⟩ q⟩
def Jb(trs:List (TE×TE)):TE:=fun σ H Q=>∀p,H p=none->sd trs σ (upd H p (.dK [])) fun ps H2=>H2 p=some (.dK [])/\∃kvs:List (Key×V),ps=kvs.map (fun kv=>(kV kv.1,kv.2))/\kvs.length<=15/\Q (.ref p) (upd H2 p (.dK (mZ [] kvs)))
theorem F6{X:Cx}{pos:Pos}{keys:List (Option Expr)}{values:List Expr}{trs:List (TE×TE)}(h:PPs X pos keys values trs)(hall:keys.all (·.isSome)=true)(hl:keys.length=values.length)(h0:keys≠[])
  (h15:keys.length<=15):PE X (.Dict keys values pos) (Jb trs):=by
 intro pins s σ H Q I q;have hn:=I.hok.fresh (QZ s.heap.objs.size);have I1:=I.laid (a:=s.heap.objs.size) (o:=.dK []) (h':=s.heap.push { cls:=.type "dict",data:=.dict #[] }) (t':=s.toks) (fun _ _ q=>Q7 _ q) (QZ _) (wK s.heap I.big);refine wpAny_Dict_walk (knd:=cG X.prog X.w) hall hl h0 h15 (thn (h pins _ σ _ _ I1 (q _ hn)) fun ws s2 hz=>?_);obtain⟨ps,H2,I2,rel,e,kvs,ep,lk,q2⟩:=hz;subst ep;obtain⟨rs,c,rk⟩:=qw (P:=X.prog) (w:=X.w) rel;obtain⟨z,hd,vs0,r0,dd⟩:=Dm I2.hok e;cases r0;refine⟨rs,c,dd,fun h' dd' hs=>⟨.ref s.heap.objs.size,_,?_,rfl,q2⟩⟩;have hz:(mZ [] kvs).length<=sizeLine:=by
  have h1:=lN kvs [];rw[List.length_nil]at h1;rw[sizeLine_eq];omega
 have he:∃q,h'.get? s.heap.objs.size=some q:=let ⟨q,_,_,hq,_⟩:=dd';⟨q,hq⟩
 exact oX I2 (by rw[e];exact True.intro) hs he (Ex hz hd (rk.merge .nil) dd')
structure M2(X:Cx)(o:Expr)(m:Str)(apos:Pos)(e f:Expr)(cpos:Pos):Prop where
 base:attributeBase o m X.env (eval o X.env)=eval o X.env
 few:((backTo cpos (starEach [e,f] X.env)).all (fun x=>!x.1)&&(backToKw cpos (keywordEach [] X.env)).all (fun x=>x.1.isSome)
  && decide (([e,f]:List Expr).length+([]:List Keyword).length+(if ([]:List Keyword).isEmpty then 0 else 1)<30))=true
 line:(apos.endLine == cpos.line)=true
 trees:backTo cpos (starEach [e,f] X.env)=[(false,eval e X.env),(false,eval f X.env)]
def IsD(H:Hp)(a:Addr):Prop:=(∃kvs,Rd H a (.dK kvs))\/∃kvs,Rd H a (.dT kvs)
theorem Ku{X:Cx}{pins:List (Addr×Obj)}{σ:St}{H:Hp}{s:Shared}{a:Addr}(I:Inv X pins σ H s)(d:IsD H a) :
  s.TypeIs (.ref a) "dict"/\(∀b,Value.ref a=.ref b->∃ob,s.heap.get? b=some ob/\ob.dict=none)/\(a == sysModules)=false:=by
 rcases d with⟨kvs,e⟩|⟨kvs,e⟩
 ·obtain⟨_,hd,vs,_,dd⟩:=t8 I.hok e;refine⟨dd.typeIs,fun b q=>?_,hd⟩;cases q;obtain⟨ob,_,_,h1,h2,_⟩:=dd;exact⟨ob,h1,h2.2.1⟩
 ·obtain⟨_,hd,xs,_,dd⟩:=u6 I.hok e;refine⟨dd.typeIs,fun b q=>?_,hd⟩;cases q;obtain⟨ob,_,_,h1,h2,_⟩:=dd;exact⟨ob,h1,h2.2.1⟩
section
variable{X:Cx}{pins:List (Addr×Obj)}{σ:St}{H:Hp}{s:Shared}{a:Addr}{y d:V}{u r:Value}{o:Option V}{A:Around}{E:Value->Shared->Prop}
theorem KZ{Q:Value->Shared->Prop}(hu:A.units+1<cLine)(I:Inv X pins σ H s)(g:DGet H a y o)(ry:cD y u)(rd:cD d r)(h:∀w' s',Inv X pins σ H s'->cD (o.getD d) w'->Q w' s') :
  wpAny (model X.prog X.w) A (call (.builtin "dict.get") [.ref a,u,r]) Q E s:=by
 rcases g with⟨kvs,k,e,ey,l⟩|⟨kvs,k,b,e,ey,eb,l⟩
 ·subst ey;obtain⟨z,hd,vs,rel,dd⟩:=t8 I.hok e;refine call_meetsIn PySem.F.slot_dict_get dd.typeIs PySem.F.entry_dict_get (PySem.F.args_dict_get_3 _ _ _) (meets_dict_get_default (cG X.prog X.w) a (uM ry) hd r) ⟨_,dd.mapOf,h _ _ (I.tok _) ?_⟩;rw[l];exact(rel.val k).getD rd
 ·subst ey;cases (show u=Value.ref b from ry);obtain⟨z,hd,xs,rel,dd⟩:=u6 I.hok e;refine call_meetsIn PySem.F.slot_dict_get dd.typeIs PySem.F.entry_dict_get (PySem.F.args_dict_get_3 _ _ _) (meetsH_dict_get_default (tupleKind (cG X.prog X.w)) a b hd r) ⟨tupleKind_room_in1 hu,k,xs,qk I.hok eb,dd,h _ _ (I.tok _) ?_⟩;rw[l];exact(rel.val k).getD rd
end
def DZ(td ty tx:TE):TE:=fun σ H Q=>td σ H fun x H1=>∃a,x=.ref a/\IsD H1 a/\ty σ H1 fun y H2=>tx σ H2 fun z H3=>∃o,DGet H3 a y o/\Q (o.getD z) H3
section
variable{X:Cx}{o e f:Expr}{apos cpos:Pos}{td ty tx:TE}
theorem Ci(hu:X.A.units+1<cLine)(ho:PE X o td)(he:PE X e ty)(hf:PE X f tx)(m:M2 X o "get" apos e f cpos):PE X (.Call (.Attribute o "get" apos) [e,f] [] cpos) (DZ td ty tx):=by
 intro pins s σ H Q I h;refine wpAny_Call_method m.base m.few m.line PySem.F.plainAttrs_dict PySem.F.slot_dict_get PySem.F.type_dict_get (thn (ho pins s σ H _ I h) fun u s1 hz=>?_);obtain⟨x,H1,I1,rx,a,ex,d,q1⟩:=hz;subst ex;obtain rfl:u=Value.ref a:=rx;obtain⟨t1,t2,_⟩:=Ku I1 d;refine⟨t1,t2,?_⟩;rw[m.trees];refine Calls.callWith_builtin rfl (Calls.evalArgs_plain (Calls.spliced_cons (thn (he pins s1 σ H1 _ I1 q1) fun iv s2 ⟨y,H2,I2,ry,q2⟩=>
  Calls.spliced_cons (thn (hf pins s2 σ H2 _ I2 q2) fun fv s3 ⟨z,H3,I3,rz,ov,g,q3⟩=>Calls.spliced_nil ?_))))
 exact KZ hu I3 g ry rz fun w' s4 I4 rw'=>⟨_,H3,I4,rw',q3⟩
end
end L2
namespace Att
open PySem PySem.W PySem.Calls PyProof.Rows
theorem oG{P:Params}{h:Heap}:∀(ns:List Int) (vs:List Value),WellAll P h vs (ns.map WData.int)->IntsAre vs ns:=by
 intro ns;induction ns with
 |nil=>
  intro vs w;rw[Ql]at w;cases w;exact .nil
 |cons n ns ih=>
  intro vs w;rw[QX]at w;cases w with
  |cons a b=>
   cases a;exact .cons _ _ (ih _ b)
theorem yS{l:OpenLaw}{n:Nat}(hn:l.most=some n){P:Params}{h:Heap}{args:List WData}{vals:List Value}
  (hpre:l.row.toRowW.claim.pre args=true) (hwl:WellAll P h vals args) :
  ∃a vs ns,vals=[Value.ref a]/\args=[WData.list (ns.map WData.int)]/\h.get? a=some { cls:=.type "list",data:=.seq vs.toArray }/\IntsAre vs ns/\ns.length<=n:=by
 have hsh:WShape.hasAll [] args [.list .int]=true:=(pre_splitW hpre).1;have hc:l.pre.holds [] { args:=args }=true:=(pre_splitW hpre).2;obtain⟨d,r,rfl,h1,h2⟩:=hasAllW_cons hsh;obtain rfl:=hasAllW_nil h2;obtain⟨xs,rfl,h3⟩:=hasW_list h1;obtain⟨ns,rfl⟩:=items_int h3;have eK:ns.length<=n:=by
  unfold OpenLaw.pre at hc;have h4:(WTm.not (.lt (.lit (.int (n:Int))) (.len (.arg 0)))).holds [] { args:=[.list (ns.map .int)] }=true:=by
   have h4:=(holds_andW hc).1;rw[hn]at h4;exact h4
  have h5:=condW_of h4 (w_not (w_lt w_lit (w_len_list (w_arg rfl))));rw[Q5]at h5;refine Nat.le_of_not_lt fun q=>?_;have q':(n:Int)<((ns.length:Nat):Int):=by omega
  first
   |(rw[decide_eq_true q']at h5;exact absurd h5 (by decide))
   |(simp at h5;omega)
 cases hwl with
 |cons w1 w2=>
  cases w2;cases w1 with
  |list ho hall=>exact⟨_,_,ns,rfl,rfl,ho,oG ns _ hall,eK⟩
theorem zq(l:OpenLaw)(args:List WData):l.row.toRowW.claim.post args (.bool true) args=true:=
 postW_of (r:=l.row.toRowW) (X:=(true == true))
  (show WShape.has [] (.bool true) .bool=true by first|rfl|decide|simp[WShape.has,WShape.arms,WShape.armsAll])
  (show(WTm.eq .res (.lit (.bool true))).value [] { args:=args,res:=some (.bool true),after:=args }=some (.bool (true == true))from w_eq_bool (w_res rfl) w_lit) rfl
theorem attach_call{l:OpenLaw}{n:Nat}{q:Program}{loose:List Str}{XP:(Str->Option Value)->Heap->Prop}{YP:World->Heap->Prop}{d:DefRec}
  (hn:l.most=some n) (hdf:d.params.defaults=[])
  (call:∀(w:World) (s₀ s₁:Shared) (mg mb:Str->Option Value) (fa:Addr) (o:Obj) (pm cd doc:Value) (a:Addr) (vs:List Value) (ns:List Int),
   Ground q loose [] XP w s₀ mg mb s₁.heap->YP w s₁.heap->
   s₁.heap.get? fa=some o->o.data=.func (docDef d.name d.params d.body d.scope pm cd doc)->s₁.heap.CodeRec cd d.name->mg d.name=some (.ref fa)->
   s₁.heap.get? a=some { cls:=.type "list",data:=.seq vs.toArray }->IntsAre vs ns->ns.length<=n->s₁.gens=#[]->
   codeAny (model l.prog w) callerA (.call (.ref fa) ⟨[.ref a],[]⟩) (fun r s'=>r=.ok (.ret (.bool true))/\OldK s₁.heap s'.heap/\s'.os=s₁.os/\AllBare s'.gens) s₁) :
  WalkO q loose XP YP l.row.toRowW d [] (fun f vs=>PySem.call f vs):=by
 intro w s₀ s₁ mg mb G Y fa o pm cd doc dV kV ho hd hcd hD hmg hg args vals as hpre hlay hrd hwl hlo;obtain rfl:dV=.none:=Dflts.none hD hdf;obtain rfl:kV=.none:=Dflts.noKw hD;obtain⟨a,vs,ns,rfl,rfl,hobj,hints,eK⟩:=yS hn hpre hwl;refine enter_call (codeAny_mono (call w s₀ s₁ mg mb fa o pm cd doc a vs ns G Y ho (fd_plain hd) hcd hmg hobj hints eK hg) fun r s' hq=>?_);obtain⟨rfl,h2,h3,h4⟩:=hq;exact⟨.inl ⟨.bool true,.bool true,[],rfl,fun _=>rfl,.bool true,zq l _,fun _=>⟨List.Pairwise.nil,fun _ hm=>(nomatch hm)⟩⟩,h2,h3,h4⟩
end Att
namespace L2
open PySem PySem.Spec PyProof.Rows
theorem gQ:∀{vs:List Value} {ns:List Int},IntsAre vs ns->bU (ns.map V.int) vs
 |_,_,.nil=>.nil
 |_,_,.cons n t h=>.cons ⟨t,rfl⟩ (gQ h)
def NG(H:Hp):Prop:=∀b,H b=none\/∃o xs,H b=some (.frz o (.lst xs))
theorem CO{P:Program}{w:World}{K:Q1}{mg mb:Str->Option Value}{CX:CXT}{k:Nat}{fa a:Addr}{fd:FuncData}{x:Str}{sp:Sp}{s₁:Shared}{vs:List Value}{ns:List Int}
  (KX:K.In s₁.heap) (hns:s₁.heap.Ns mainGlobals mg) (hb:s₁.heap.Ns builtinsNs mb) (hbb:∀x:Str,x≠"__name__"->mb x=bootBuiltins x) (hlim:s₁.heap.NoLimit) (hg:s₁.gens=#[])
  (ha:s₁.heap.get? a=some { cls:=.type "list",data:=.seq vs.toArray }) (hi:IntsAre vs ns) (hl:ns.length<=sizeLine) (hr:hU k callerA)
  (F:∀base:Heap,K.In base->base.Ns mainGlobals mg->nc P w K mg base CX k fa fd [x] sp) (hbind:∀(s:Shared) (u:Value),BindsTo s fd ⟨[u],[]⟩ [(x,u)])
  (hsp:∀H:Hp,NG H->SqL K H a (ns.map V.int)->sp [.ref a] H (fun v _=>v=.bl true) fun _ _ _=>False)
  (hCX:∀H e s',CX [] H s₁ (fun _ _ _=>False) e s'->False) :
  codeAny (model P w) callerA (.call (.ref fa) ⟨[.ref a],[]⟩) (fun r s'=>r=.ok (.ret (.bool true))/\OldK s₁.heap s'.heap/\s'.os=s₁.os/\AllBare s'.gens) s₁:=by
 have rv:=gQ hi;have lenV:=hi.length;have core:∀H:Hp,NG H->SqL K H a (ns.map V.int)->HOk P w H s₁.heap->(∀b,H b≠none->b=a)->(H a≠none->K.lookup a=none)->
   codeAny (model P w) callerA (.call (.ref fa) ⟨[.ref a],[]⟩) (fun r s'=>r=.ok (.ret (.bool true))/\OldK s₁.heap s'.heap/\s'.os=s₁.os/\AllBare s'.gens) s₁:=by
  intro H hO hS hok hA hK;have base_of:∀{b:Addr} {o:Obj},s₁.heap.get? b=some o->H b=none->(C6 s₁.heap H).get? b=some o:=fun e n=>C5 e n;have noA:∀{b:Addr} {o:Obj} {es:Array DictEntry} {ep:Nat},s₁.heap.get? b=some o->o.data=.dict es ep->H b=none:=fun{b o es ep} e d=>by
   cases q:H b with
   |none=>rfl
   |some u=>
    have e':b=a:=hA b (by rw[q];simp);subst e';rw[ha]at e;cases e;have d':Data.seq vs.toArray _=Data.dict es ep:=d;cases d'
  have nsK:∀{b:Addr} {m:Str->Option Value},s₁.heap.Ns b m->(C6 s₁.heap H).Ns b m:=fun{b m} ⟨o,es,ep,e,d,r⟩=>⟨o,es,ep,base_of e (noA e d),d,r⟩;have hKb:K.In (C6 s₁.heap H):=fun b o e=>base_of (KX b o e) (by
   cases q:H b with
   |none=>rfl
   |some u=>
    have e':b=a:=hA b (by rw[q];simp);subst e';rw[hK (by rw[q];simp)]at e;cases e)
  have hM:Mod K mg (C6 s₁.heap H):=⟨hKb,nsK hns,⟨mb,nsK hb,hbb⟩,let ⟨mc,h1,h2⟩:=hlim;⟨mc,nsK h1,h2⟩⟩;have e0:Hi P w K mg (C6 s₁.heap H) callerA [] s₁ H:=⟨rfl,hM,fun b o e=>Gm e,Nat.le_of_eq (Ae _ _),trivial,fun b hb=>absurd (show b∈([]:List Addr)from hb) (by simp),hok,.of_eq hg⟩;refine codeAny_mono ((F _ hKb (nsK hns)).run callerA [] s₁ H ⟨[.ref a],[]⟩ [.ref a] [.ref a] _ _ hr e0 (hbind s₁ (.ref a)) (.cons rfl .nil) (hsp H hO hS)) fun r s' h=>?_;cases r with
  |error e=>exact(hCX H e s' h).elim
  |ok fl=>
   cases fl with
   |next=>exact False.elim h
   |brk=>exact False.elim h
   |cont=>exact False.elim h
   |ret u=>
    obtain⟨v,H',os,bare,un,hok',r',q⟩:=h;have q':v=.bl true:=q;subst q';obtain rfl:u=Value.bool true:=r';refine⟨rfl,OldK.of_keep fun b o e=>?_,os,bare⟩;cases q:H b with
    |none=>exact un.keep b o e q (by intro z;exact absurd (show b∈([]:List Addr)from z) (by simp)) (by simp)
    |some u=>
     rcases hO b with z|⟨ob,xs,z⟩
     ·rw[q]at z;cases z
     ·have z2:=un.frzs b ob _ z;obtain⟨e1,_⟩:=hok b _ z;obtain⟨e2,_⟩:=hok' b _ z2;rw[e]at e1;cases e1;exact e2
 cases hk:K.lookup a with
 |some o=>
  have e:=KX a o hk;rw[ha]at e;cases e;refine core (fun _=>none) (fun _=>.inl rfl) (.inr ⟨_,vs.toArray,_,hk,rfl,rfl,rfl,by rw[QH,lenV];exact hl,by simpa using rv⟩) (fun b u z=>by have z':(none:Option HO)=some u:=z;cases z') (fun b z=>absurd rfl z) fun z=>absurd rfl z
 |none=>
  refine core (fun b=>if b=a then some (.frz { cls:=.type "list",data:=.seq vs.toArray } (.lst (ns.map V.int)))else none) (fun b=>?_) (.inl (.inr ⟨{ cls:=.type "list",data:=.seq vs.toArray },if_pos rfl⟩)) (fun b u z=>?_) (fun b z=>?_) fun _=>hk
  ·by_cases hb:b=a
   ·exact .inr ⟨_,_,if_pos hb⟩
   ·exact .inl (if_neg hb)
  ·by_cases hb:b=a
   ·have z':=(if_pos hb).symm.trans z;cases z';subst hb;exact⟨ha,by rw[Q5];exact hl,vs,_,rv,ha⟩
   ·have z':=(if_neg hb).symm.trans z;cases z'
  ·by_cases hb:b=a
   ·exact hb
   ·exact absurd (if_neg hb) z
theorem Fq{l:PySem.W.OpenLaw}{n k:Nat}{q:Program}{loose:List Str}{XP:(Str->Option Value)->Heap->Prop}{YP:World->Heap->Prop}{d:DefRec}{K:Params->Q1}{CX:World->CXT}{sp:World->Sp}{x:Str}
  (hn:l.most=some n) (hn2:n<=sizeLine) (hdf:d.params.defaults=[]) (hr:hU k callerA)
  (hY:∀(w:World) (h:Heap),YP w h->(K w.params).In h)
  (F:∀(w:World) (mg:Str->Option Value) (fa:Addr) (h:Heap),(K w.params).In h->h.Ns mainGlobals mg->mg d.name=some (.ref fa)->
   ∃fd:FuncData,(∀(s:Shared) (u:Value),BindsTo s fd ⟨[u],[]⟩ [(x,u)])/\
    ∀base:Heap,(K w.params).In base->base.Ns mainGlobals mg->nc l.prog w (K w.params) mg base (CX w) k fa fd [x] (sp w))
  (hsp:∀(w:World) (H:Hp) (a:Addr) (ns:List Int),ns.length<=n->NG H->SqL (K w.params) H a (ns.map V.int)->sp w [.ref a] H (fun v _=>v=.bl true) fun _ _ _=>False)
  (hCX:∀(w:World) (H:Hp) (s:Shared) (e:Value) (s':Shared),CX w [] H s (fun _ _ _=>False) e s'->False) :
  PySem.W.WalkO q loose XP YP l.row.toRowW d [] (fun f vs=>PySem.call f vs):=by
 refine Att.attach_call hn hdf fun w s₀ s₁ mg mb fa o pm cd doc a vs ns G Y ho hd hcd hmg hobj hints eK hg=>?_;have KX:=hY w _ Y;obtain⟨fd,hb,hF⟩:=F w mg fa _ KX G.T.g hmg;exact CO KX G.T.g G.T.b G.T.builtins G.T.nolimit hg hobj hints (Qj eK hn2) hr hF hb (fun H hO hS=>hsp w H a ns eK hO hS) fun H e s'=>hCX w H s₁ e s'
def mB(s:Stmt)(j:Nat):Stmt:=match s with
 |.ClassDef _ _ _ body _ _ _ _ _ _ _=>body.getD j (.Pass ⟨0,0,0,0⟩)
 |_=>.Pass ⟨0,0,0,0⟩
def kB(s:Stmt):Arguments:=match s with
 |.FunctionDef _ a _ _ _ _ _ _ _ _=>a
 |_=>{ posonlyargs:=[],args:=[],vararg:=none,kwonlyargs:=[],kw_defaults:=[],kwarg:=none,defaults:=[] }
def dZ(s:Stmt):List Stmt:=match s with
 |.FunctionDef _ _ b _ _ _ _ _ _ _=>b
 |_=>[]
def ax(s:Stmt):Scope:=match s with
 |.FunctionDef _ _ _ _ _ _ sc _ _ _=>sc
 |_=>{ kind:=.function,names:=[],isGenerator:=false,isCoroutine:=false }
abbrev CX0:CXT:=fun _ _ _ _ _ _=>False
abbrev E0:XK:=fun _ _ _=>False
theorem Ck{X:Cx}:j9 CX0 X E0:=fun _ _ _ _ _ _ _ h=>h.elim
structure Fun(K:Q1)(x qual:Str)(st:Stmt)(f:Addr)(fd:FuncData):Prop where
 ex:∃(oc:Value) (od:Option Addr) (kV doc pm:Value) (an:Option Addr) (cdv ct:Value) (osl:Array (Option Value)),
  fd=PySem.W.fnOf x qual (kB st) (dZ st) (ax st) .none kV doc pm an cdv ct/\K.lookup f=some ⟨oc,od,.func fd,osl⟩/\PySem.W.codeIn K cdv qual=true
 kp:PySem.W.keepIn K (.ref f)=true
section
variable{P:Program}{w:World}{K:Q1}{mg:Str->Option Value}{base:Heap}
theorem Fun.ok{x qual:Str}{st:Stmt}{f:Addr}{fd:FuncData}{N ps:List Str}{k:Nat}{sp:Sp}(F:Fun K x qual st f fd)(S:aL N ps (ax st))(len:∀vs H Q E,sp vs H Q E->vs.length=ps.length)
  (hbody:∀(cdv:Value) (A:Around) (outer:List Env) (s:Shared) (H:Hp) (vs:List V) (Q:VK) (E:XK),hU k (A.deeper (envOfC qual (ax st) s.heap.objs.size f cdv))->sp vs H Q E->
   ∃t,PSs (wL CX0 P w K mg base N qual (ax st) f cdv A outer s H E).nox (dZ st) t/\t { nx:=fun _ H'=>Q .non H',rt:=Q } (kP N vs) H):nc P w K mg base CX0 (k+1) f fd ps sp:=by
 obtain⟨oc,od,kV,doc,pm,an,cdv,ct,osl,rfl,lk,hcd⟩:=F.ex;refine Nq lk hcd S len fun A outer s H vs Q E hr hsp=>?_;obtain⟨t,h,q⟩:=hbody cdv A outer s H vs Q E hr hsp;exact⟨t,h.nox,q⟩
theorem Fun.binds{x qual:Str}{st:Stmt}{f:Addr}{fd:FuncData}{ps:List Str}(F:Fun K x qual st f fd)
  (h:∀(kV doc pm:Value) (an:Option Addr) (cdv ct:Value) (us:List Value),us.length=ps.length->bindArgs (PySem.W.fnOf x qual (kB st) (dZ st) (ax st) .none kV doc pm an cdv ct) ⟨us,[]⟩=pure (ps.zip us)):iT K fd ps []:=by
 obtain⟨oc,od,kV,doc,pm,an,cdv,ct,osl,rfl,lk,hcd⟩:=F.ex;exact .all (h kV doc pm an cdv ct)
theorem Ep{x qual:Str}{st:Stmt}{f:Addr}{oc:Value}{od an:Option Addr}{osl:Array (Option Value)}{kV doc pm cdv ct:Value}(l:K.lookup f=some ⟨oc,od,.func (PySem.W.fnOf x qual (kB st) (dZ st) (ax st) .none kV doc pm an cdv ct),osl⟩)
  (c:PySem.W.codeIn K cdv qual=true) (k:PySem.W.keepIn K (.ref f)=true):Fun K x qual st f (PySem.W.fnOf x qual (kB st) (dZ st) (ax st) .none kV doc pm an cdv ct):=⟨⟨oc,od,kV,doc,pm,an,cdv,ct,osl,rfl,l,c⟩,k⟩
end
theorem cM{A:Around}{k:Nat}(hr:hU k A):A.units+1<cLine:=Nat.lt_of_le_of_lt (Nat.add_le_add_left (by decide:1<=64) _) hr.units
theorem yQ{n:Nat}(h:n<=1000):n<sizeLine:=Nat.lt_of_le_of_lt h (by decide)
section
variable{X:Cx}
theorem pv(i:Nat){x:Str}{pos:Pos}(hN:X.N[i]?=some x:=by rfl)(hv:Vis X.env.scope x:=by first|exact Or.inl rfl|exact Or.inr (Or.inl rfl)|exact Or.inr (Or.inr rfl))(hd:(x == ("__debug__":Str))=false:=by decide)
  (hcd:(x == ("__classdict__":Str))=false:=by decide):PE X (.Name x pos) (Le i):=JJ hN hv hd hcd
theorem AR:fY X (.builtin "len") (fun xs H Q=>∃a kvs,xs=[V.ref a]/\H a=some (.dK kvs)/\Q (.int kvs.length) H):=by
 intro pins s σ H xs us Q I r h;obtain⟨a,kvs,rfl,ha,q⟩:=h;obtain⟨u,rfl,ru⟩:=ng r;cases ru;exact Nu I (.inl ha) fun t s' I'=>⟨.int kvs.length,H,I',⟨t,rfl⟩,q⟩
end
theorem Hn{A B:Prop}(h:B):if false=true then A else B:=by
 rw[if_neg QK];exact h
theorem Hm{A B:Prop}(h:A):if true=true then A else B:=by
 rw[if_pos rfl];exact h
def vi(H H':Hp):Prop:=∀b o,H b=some o->H' b=some o
theorem vi.refl(H:Hp):vi H H:=fun _ _ h=>h
theorem vi.trans{H H1 H2:Hp}(a:vi H H1)(b:vi H1 H2):vi H H2:=fun c o h=>b c o (a c o h)
theorem vi.free{H H':Hp}(e:vi H H'){l:Addr}(h:H' l=Option.none):H l=Option.none:=by
 cases q:H l with
 |none=>rfl
 |some o=>
  rw[e l o q]at h;cases h
end L2
namespace OG
open PySem PySem.Spec PyProof.Rows L2
structure WE(X:Cx)(e:Expr)(t:TE):Prop where
 h:PE X e t
structure WT(X:Cx)(e:Expr)(t:TT):Prop where
 h:PT X e t
structure WW(X:Cx)(e:Expr)(t:TT):Prop where
 h:PW X e t
structure WA(X:Cx)(es:List Expr)(t:TA):Prop where
 h:PA X es t
structure WS(X:Cx)(st:Stmt)(t:TS):Prop where
 h:PS X st t
structure WSs(X:Cx)(st:List Stmt)(t:TS):Prop where
 h:PSs X st t
structure WI(X:Cx)(tg iter:Expr)(wi:TI):Prop where
 h:PI X tg iter wi
structure WG(X:Cx)(target:Expr)(t:TG):Prop where
 h:PG X target t
structure WGs(X:Cx)(ts:List Expr)(t:TGs):Prop where
 h:PGs X ts t
structure WC(X:Cx)(op:CmpOp)(a b:Expr)(t:TE):Prop where
 h:PC X op a b t
structure WO(X:Cx)(e:Option Expr)(t:TO):Prop where
 h:PO X e t
section
variable{X:Cx}
theorem ak{i j pos}:WE X (.Constant (.int i) j pos) (tC (.int i)):=⟨JQ ⟩
theorem cT{b j pos}:WE X (.Constant (.bool b) j pos) (tC (.bl b)):=⟨MQ ⟩
theorem yn{j pos}:WE X (.Constant .none j pos) (tC .non):=⟨JO ⟩
theorem aI{x j pos}:WE X (.Constant (.str x) j pos) (tC (.str x)):=⟨JL ⟩
end
section
variable{X:Cx}
variable{a b:Expr}{pos:Pos}
theorem yv{op:CmpOp}{t:TE}(h:WC X op a b t)(h1:behindInMarks op b=false:=by first|exact nobehind _ (by decide) (by decide)|rfl):WE X (.Compare a [op] [b] pos) t:=⟨JS h.h h1⟩
theorem uz{op:CmpOp}{t:TE}(h:WC X op a b t)(h1:behindInMarks op b=false:=by first|exact nobehind _ (by decide) (by decide)|rfl):WT X (.Compare a [op] [b] pos) (tB t):=⟨Jz h.h h1⟩
end
section
variable{X:Cx}
variable{pos:Pos}
theorem E7{e:Expr}{t:TE}(h:WE X e t)(he:∀whole,isTrue e X.env whole=(do let v <-whole;standAt e.pos;holding [v] (truthy v)):=by intro _;rfl):WT X e (tB t):=⟨Jx h.h he⟩
end
section
variable{X:Cx}
variable{a:Expr}{pos:Pos}
variable{tA:TT}
theorem Bq(ha:WT X a tA):WW X (.BoolOp .And [a] pos) tA:=⟨FK ha.h⟩
theorem E5(ha:WT X a tA):WW X (.BoolOp .Or [a] pos) tA:=⟨Ju ha.h⟩
end
section
variable{X:Cx}
variable{a b:Expr}{pos:Pos}
variable{tA tB':TT}{rest:List Expr}
theorem E6(ha:WT X a tA)(hb:WW X (.BoolOp .And (b::rest) pos) tB'):WW X (.BoolOp .And (a::b::rest) pos) (NW tA tB'):=⟨Jv ha.h hb.h⟩
theorem IF(ha:WT X a tA)(hb:WW X (.BoolOp .Or (b::rest) pos) tB'):WW X (.BoolOp .Or (a::b::rest) pos) (tOr tA tB'):=⟨MI ha.h hb.h⟩
end
section
variable{X:Cx}
variable{a:Expr}{pos:Pos}
variable{tA:TT}
theorem E8(ha:WT X a tA):WT X (.UnaryOp .Not a pos) (NQ tA):=⟨Jy ha.h⟩
end
section
variable{X:Cx}
variable{a:Expr}{pos:Pos}
theorem Fe{op}{t:TE}(h:WE X a t):WE X (.BoolOp op [a] pos) t:=⟨JM h.h⟩
end
section
variable{X:Cx}
variable{a b:Expr}{ta tb:TE}{pos:Pos}
variable{rest:List Expr}
theorem Fi(ha:WE X a ta)(hb:WE X (.BoolOp .And (b::rest) pos) tb):WE X (.BoolOp .And (a::b::rest) pos) (Jg ta tb):=⟨JU ha.h hb.h⟩
theorem II(ha:WE X a ta)(hb:WE X (.BoolOp .Or (b::rest) pos) tb):WE X (.BoolOp .Or (a::b::rest) pos) (NP ta tb):=⟨MM ha.h hb.h⟩
end
section
variable{X:Cx}
variable{a:Expr}{ta:TE}{pos:Pos}
theorem Ff(ha:WE X a ta):WE X (.UnaryOp .Not a pos) (IX ta):=⟨JN ha.h⟩
end
section
variable{X:Cx}
theorem Br :WSs X [] IZ:=⟨FP ⟩
end
section
variable{X:Cx}{st:Stmt}{rest:List Stmt}{t u:TS}
theorem rQ(h1:WS X st t)(h2:WSs X rest u):WSs X (st::rest) (NN t u):=⟨B7 h1.h h2.h⟩
end
section
variable{X:Cx}{st:Stmt}{t:TS}
theorem vx(h1:WS X st t):WSs X [st] t:=⟨FO h1.h⟩
end
section
variable{X:Cx}{e:Expr}{te:TE}{pos:Pos}
theorem Bs(he:WE X e te)(hs:swapsWith e none pos.line X.env=pure false:=by rfl):WS X (.Expr e pos) (Ja te):=⟨FQ he.h hs⟩
theorem yh(he:WE X e te):WS X (.Return (some e) pos) (NO te):=⟨JB he.h⟩
end
section
variable{X:Cx}{t u:TS}{pos:Pos}
theorem IG{c:Expr}{a b:List Stmt}{tc:TT}(hc:WT X c tc)(ha:WSs X a t)(hb:WSs X b u):WS X (.If c a b pos) (NT tc t u):=⟨MJ hc.h ha.h hb.h⟩
end
section
variable{X:Cx}{st:Stmt}
theorem yi :WS X st DW:=⟨B9 ⟩
end
section
variable{X:Cx}{pos:Pos}
theorem aB{i:Nat}{x:Str}(hN:X.N.Nodup)(hi:X.N[i]?=some x)(hx:Loc X.env.scope x)(hf:X.fn x=true\/X.env.scope.names.lookup x=some .local:=by first|exact .inl rfl|exact .inr rfl|assumption):WG X (.Name x pos) (xF i):=⟨FX hN hi hx hf⟩
end
section
variable{X:Cx}
theorem Bu :WGs X [] Om:=⟨FW ⟩
theorem yl{e:Expr}{es:List Expr}{t:TG}{u:TGs}(h1:WG X e t)(h2:WGs X es u)(hs:(assignEach (e::es) X.env).map (·.2)=assign e X.env::(assignEach es X.env).map (·.2):=by rfl):WGs X (e::es) (KC t u):=⟨Cb h1.h h2.h hs⟩
end
section
variable{X:Cx}{pos:Pos}
theorem Fc{es:List Expr}{k:Nat}{t:TGs}{n:Nat}(hc:X.calm=true)(h:WGs X es t)(hn:(assignEach es X.env).length=n:=by rfl)(hst:(assignEach es X.env).findIdx? (·.1)=none:=by rfl):WG X (.Tuple es k pos) (Oh X.K n t):=⟨JH hc h.h hn hst⟩
theorem Fd {o i : Expr} {to ti : TE} {t : Lx} (ho : WE X o to) (hi : WE X i ti) (hs : NF X t) (ha : ∀ v, assign (.Subscript o i pos) X.env v = (do
   let ov <-holding [v] (eval o X.env)
   let iv <-holding [v,ov] (eval i X.env)
   standAt pos
   holding [v,ov,iv] (setItem ov iv v)
   release [v,ov,iv] []):=by intro _;rfl):WG X (.Subscript o i pos) (Ol to ti t):=⟨JI ho.h hi.h hs ha⟩
theorem yk{tg e:Expr}{te:TE}{g:TG}(he:WE X e te)(hg:WG X tg g)(hs:swapsWithSole [tg] e pos.line X.env=pure false:=by rfl)(hw:swappedStores [tg] e X.env=pure none:=by rfl)(h1:(assignEach [tg] X.env).map (·.2)=[assign tg X.env]:=by rfl):WS X (.Assign [tg] e pos) (Jf te g):=⟨JE he.h hg.h hs hw h1⟩
theorem yg{i:Nat}{x:Str}{e:Expr}{te:TE}{pos':Pos}(hN:X.N.Nodup)(hi:X.N[i]?=some x)(hx:Loc X.env.scope x)(he:WE X e te)(hs:swapsWith e (some (.Name x pos')) pos.line X.env=pure false:=by rfl)(hf:X.fn x=true\/X.env.scope.names.lookup x=some .local:=by first|exact .inl rfl|exact .inr rfl|assumption):WS X (.Assign [.Name x pos'] e pos) (Jf te (xF i)):=⟨JA hN hi hx he.h hs hf⟩
theorem yf{c:Expr}{body:List Stmt}{tc:TT}{tb:TS}(hp:PassesOwn (model X.prog X.w) X.A X.env X.xe)(hc:WT X c tc)(hb:WSs X body tb):WS X (.While c body [] pos) (yI tc tb):=⟨B8 hp hc.h hb.h⟩
end
section
variable{X:Cx}{tg:Expr}
theorem Bt{l:Expr}{tl:TE}(hl:WE X l tl):WI X tg l (Kw X.K tl):=⟨FV hl.h⟩
theorem Fb{l:Expr}{tl:TE}(hl:WE X l tl):WI X tg l (Of X.K tl):=⟨JG hl.h⟩
theorem w9{a:Expr}{ta:TA}{p pos:Pos}(hg:Gl X "range")(hm:X.mg "range"=none)(ha:WA X [a] ta)(hs:starEach [a] X.env=[(false,eval a X.env)]:=by rfl):WI X tg (.Call (.Name "range" p) [a] [] pos) (Kv ta):=⟨zt hg hm ha.h hs⟩
theorem yj{iter:Expr}{body:List Stmt}{wi:TI}{g:TG}{tb:TS}{pos:Pos}(hp:PassesOwn (model X.prog X.w) X.A X.env X.xe)(hc:X.calm=true)(hi:WI X tg iter wi)(hg:WG X tg g)(hb:WSs X body tb)(hs:∀x,foldedSetIterable iter X.env x=pure x:=by intro _;rfl):WS X (.For tg iter body [] pos) (Lg wi g tb):=⟨JC hp hc hi.h hg.h hb.h hs⟩
end
section
variable{X:Cx}{a b:Expr}{ta tb:TE}{pos:Pos}
theorem IJ{op:Operator}{r:R2}(ho:OpR X (binaryOp op) r)(ha:WE X a ta)(hb:WE X b tb):WE X (.BinOp a op b pos) (tOp r ta tb):=⟨MN ho ha.h hb.h⟩
end
section
variable{X:Cx}{a:Expr}{ta:TE}{pos:Pos}
theorem IH{op:UnaryOp}{r:V->Hp->VK->Prop}(ho:UnR X (unaryOp op) r)(ha:WE X a ta):WE X (.UnaryOp op a pos) (tUn r ta):=⟨ML ho ha.h⟩
end
section
variable{X:Cx}{a b:Expr}{ta tb:TE}{pos:Pos}
theorem qE{op:CmpOp}{r:R2}(ho:OpR X (compareOp op) r)(ha:WE X a ta)(hb:WE X b tb)(hm:behindInMarks op b=false):WE X (.Compare a [op] [b] pos) (tOp r ta tb):=⟨F8 ho ha.h hb.h hm⟩
theorem qD{op:CmpOp}{r:R2}(ho:OpR X (compareOp op) r)(ha:WE X a ta)(hb:WE X b tb)(hm:behindInMarks op b=false):WT X (.Compare a [op] [b] pos) (IV (tOp r ta tb)):=⟨FN ho ha.h hb.h hm⟩
end
section
variable{X:Cx}{e:Expr}{f:Str}{pos:Pos}{ta:TE}
theorem Fg(he:WE X e ta)(hb:attributeBase e f X.env (eval e X.env)=eval e X.env):WE X (.Attribute e f pos) (NU X.K ta f):=⟨JR he.h hb⟩
end
section
variable{X:Cx}{o value:Expr}{f:Str}{pos pos':Pos}{ta tv:TE}
theorem E9(ha:WE X o ta)(hv:WE X value tv)(hs:swapsWith value (some (.Attribute o f pos')) pos.line X.env=pure false):WS X (.Assign [.Attribute o f pos'] value pos) (NY X.K ta tv f):=⟨JD ha.h hv.h hs⟩
end
section
variable{X:Cx}
theorem mf :WA X [] Lf:=⟨JW ⟩
end
section
variable{X:Cx}{e:Expr}{es:List Expr}{te:TE}{t:TA}
theorem fB(ha:WE X e te)(hr:WA X es t)(hs:starEach (e::es) X.env=(false,eval e X.env)::starEach es X.env:=by rfl):WA X (e::es) (Jd te t):=⟨Gd ha.h hr.h hs⟩
end
section
variable{X:Cx}{es:List Expr}{t:TA}{pos:Pos}
theorem ym{x1}(h:WA X es t):WE X (.Tuple es x1 pos) (NM t):=⟨JK h.h⟩
theorem yp(h:WA X es t):WE X (.List es pos) (NR t):=⟨JP h.h⟩
end
section
variable{X:Cx}{CX:CXT}{k:Nat}{f C:Addr}{fd:FuncData}{ps:List Str}{sp:Sp}{dvs:List V}{ds:List Value}{E:XK}{m:Str}{pos apos:Pos}{e o:Expr}{es:List Expr}{ta:TE}{t:TA}
theorem Bv {pl : Sem Bool} (he : WE X o ta) (c : Cls X.K C) (hm : K9 X.K C m f) (F : nc X.prog X.w X.K X.mg X.base CX k f fd ps sp) (hr : hU k X.A) (hb : iT X.K fd ps ds) (hd : bU dvs ds) (hx : j9 CX X E) (ha : WA X (e :: es) t) (hst : starEach (e :: es) X.env = (false, eval e X.env) :: starEach es X.env := by rfl) (hpl : (backTo pos (starEach es X.env)).any (·.1) = false := by rfl) (ht : eval (.Call (.Attribute o m apos) (e :: es) [] pos) X.env = (do
   let ov <-eval o X.env
   standAt apos.atName
   let (f,first) <-holding [ov] (getMethod ov m pl)
   callWith pos f first (backTo pos (starEach (e::es) X.env)) (backToKw pos (keywordEach [] X.env))):=by rfl):WE X (.Call (.Attribute o m apos) (e::es) [] pos) (Fv C m sp dvs E ta t):=⟨FY he.h c hm F hr hb hd hx ha.h hst hpl ht⟩
end
section
variable{X:Cx}{CX:CXT}{k:Nat}{f C:Addr}{fd:FuncData}{ps:List Str}{sp:Sp}{dvs:List V}{ds:List Value}{E:XK}{x:Str}{p pos:Pos}{e:Expr}{es:List Expr}{t:TA}
theorem Bw(M:Mk X.K C f)(F:nc X.prog X.w X.K X.mg X.base CX k f fd ps sp)(hr:hU (k+1) X.A)(hg:Gl X x)(hm:X.mg x=some (.ref C))(hb:iT X.K fd ps ds)(hd:bU dvs ds)(hx:j9 CX X E)(ha:WA X (e::es) t)(hdb:(x == ("__debug__":Str))=false:=by decide)(he:starEach (e::es) X.env=(false,eval e X.env)::starEach es X.env:=by rfl)(hpl:(backTo pos (starEach es X.env)).any (·.1)=false:=by rfl):WE X (.Call (.Name x p) (e::es) [] pos) (yK C sp dvs E t):=⟨FZ M F hr hg hm hb hd hx ha.h hdb he hpl⟩
end
section
variable{X:Cx}{CX:CXT}{k:Nat}{f C:Addr}{fd:FuncData}{ps:List Str}{sp:Sp}{dvs:List V}{ds:List Value}{E:XK}{x:Str}{p pos:Pos}
theorem yo(M:Mk X.K C f)(F:nc X.prog X.w X.K X.mg X.base CX k f fd ps sp)(hr:hU (k+1) X.A)(hg:Gl X x)(hm:X.mg x=some (.ref C))(hb:iT X.K fd ps ds)(hd:bU dvs ds)(hx:j9 CX X E)(hdb:(x == ("__debug__":Str))=false:=by decide):WE X (.Call (.Name x p) [] [] pos) (yK C sp dvs E Lf):=⟨Cd M F hr hg hm hb hd hx hdb⟩
end
section
variable{X:Cx}{x:Str}{p pos:Pos}{e:Expr}{es:List Expr}{t:TA}{id:String}{r:List V->Hp->VK->Prop}
theorem rS(hc:fY X (.builtin id) r)(hg:Gl X x)(hm:X.mg x=none)(hv:bootBuiltins x=some (.builtin id))(ha:WA X (e::es) t)(hn:x≠"__name__":=by decide)(hdb:(x == ("__debug__":Str))=false:=by decide)(he:starEach (e::es) X.env=(false,eval e X.env)::starEach es X.env:=by rfl)(hpl:(backTo pos (starEach es X.env)).any (·.1)=false:=by rfl):WE X (.Call (.Name x p) (e::es) [] pos) (tCB r t):=⟨Cj hc hg hm hv ha.h hn hdb he hpl⟩
end
section
variable{X:Cx}{x:Str}{p pos:Pos}{e:Expr}{es:List Expr}{t:TA}{T:String}{r:List V->Hp->VK->Prop}
theorem pX(hc:fY X (.type T) r)(hg:Gl X x)(hm:X.mg x=none)(hv:bootBuiltins x=some (.type T))(ha:WA X (e::es) t)(hn:x≠"__name__":=by decide)(hdb:(x == ("__debug__":Str))=false:=by decide)(he:starEach (e::es) X.env=(false,eval e X.env)::starEach es X.env:=by rfl)(hpl:(backTo pos (starEach es X.env)).any (·.1)=false:=by rfl):WE X (.Call (.Name x p) (e::es) [] pos) (tCB r t):=⟨zu hc hg hm hv ha.h hn hdb he hpl⟩
end
section
variable{X:Cx}
theorem vA :WO X none yJ:=⟨FU ⟩
end
section
variable{X:Cx}{e:Expr}{te:TE}
theorem vz(h:WE X e te):WO X (some e) (IW te):=⟨FT h.h⟩
end
section
variable{X:Cx}{e:Expr}{te:TE}{lo hi:Option Expr}{tl th:TO}{pos p2:Pos}
theorem rR{r:V->Option Int->Option Int->Hp->VK->Prop}(hr:SlR X r)(he:WE X e te)(hl:WO X lo tl)(hu:WO X hi th):WE X (.Subscript e (.Slice lo hi none p2) pos) (tSl r te tl th):=⟨Cc hr he.h hl.h hu.h⟩
end
section
variable{X:Cx}{a b:Expr}{ta tb:TE}{pos:Pos}
theorem IK{r:R2}(hr:IxR X r)(ha:WE X a ta)(hb:WE X b tb)(hs:vj b):WE X (.Subscript a b pos) (tOp r ta tb):=⟨MO hr ha.h hb.h hs⟩
end
section
variable{X:Cx}
variable{o:Expr}{to:TE}{name:Str}{apos cpos:Pos}{T id:String}{r:V->List V->Hp->VK->Prop}
theorem Fh(pa:PlainAttrs T)(slot:Slot T name id)(hty:typeOf (.builtin id)=pure (.type "method_descriptor"))(hm:MtR X id r)(ho:WE X o to)(hbase:attributeBase o name X.env (eval o X.env)=eval o X.env:=by rfl)(hline:(apos.endLine == cpos.line)=true:=by rfl):WE X (.Call (.Attribute o name apos) [] [] cpos) (NV X.K T r to):=⟨JT pa slot hty hm ho.h hbase hline⟩
end
section
variable{X:Cx}
variable{o e:Expr}{es:List Expr}{to:TE}{t:TA}{name:Str}{apos cpos:Pos}{T id:String}{r:V->List V->Hp->VK->Prop}
theorem vB (pa : PlainAttrs T) (slot : Slot T name id) (hty : typeOf (.builtin id) = pure (.type "method_descriptor")) (hm : MtR X id r) (ho : WE X o to) (ha : WA X (e :: es) t) (hbase : attributeBase o name X.env (eval o X.env) = eval o X.env := by rfl) (hfew : ((backTo cpos (starEach (e :: es) X.env)).all (fun x => !x.1) && (backToKw cpos (keywordEach [] X.env)).all (fun x => x.1.isSome)
   && decide ((e::es).length+([]:List Keyword).length+(if ([]:List Keyword).isEmpty then 0 else 1)<30))=true:=by rfl) (hline:(apos.endLine == cpos.line)=true:=by rfl) (hs:starEach (e::es) X.env=(false,eval e X.env)::starEach es X.env:=by rfl) (hplain:(backTo cpos (starEach es X.env)).any (·.1)=false:=by rfl):WE X (.Call (.Attribute o name apos) (e::es) [] cpos) (tBM X.K T r to t):=⟨MP pa slot hty hm ho.h ha.h hbase hfew hline hs hplain⟩
end
section
variable{X:Cx}{o i:Expr}{pos:Pos}{td ty:TE}
theorem Bz(hu:X.A.units+1<cLine)(ho:WE X o td)(hi:WE X i ty)(hs:Hu i):WE X (.Subscript o i pos) (Jc td ty):=⟨F7 hu ho.h hi.h hs⟩
end
section
variable{X:Cx}{o i:Expr}{td ty:TE}
theorem yw(hu:X.A.units+1<cLine)(hi:WE X i ty)(ho:WE X o td):WC X .In i o (Lh ty td):=⟨JV hu hi.h ho.h⟩
theorem pY(hu:X.A.units+1<cLine)(hi:WE X i ty)(ho:WE X o td):WC X .NotIn i o (qK ty td):=⟨zv hu hi.h ho.h⟩
end
section
variable{X:Cx}{o i value:Expr}{pos pos':Pos}{td ty tv:TE}
theorem vy(hu:X.A.units+1<cLine)(ho:WE X o td)(hi:WE X i ty)(hv:WE X value tv)(hs:swapsWith value (some (.Subscript o i pos')) pos.line X.env=pure false):WS X (.Assign [.Subscript o i pos'] value pos) (Jm td ty tv):=⟨FR hu ho.h hi.h hv.h hs⟩
end
section
variable{X:Cx}{pos:Pos}
theorem yr :WE X (.Dict [] [] pos) DY:=⟨Cg ⟩
theorem yq :WE X (.Dict [] [] pos) DX:=⟨Ce ⟩
end
theorem By{X:Cx}{pos:Pos}{keys:List (Option Expr)}{values:List Expr}{trs:List (TE×TE)}(h:PPs X pos keys values trs)(hall:keys.all (·.isSome)=true)(hl:keys.length=values.length)(h0:keys≠[])(h15:keys.length<=15):WE X (.Dict keys values pos) (Jb trs):=⟨F6 h hall hl h0 h15⟩
section
variable{X:Cx}{o e f:Expr}{apos cpos:Pos}{td ty tx:TE}
theorem yt(hu:X.A.units+1<cLine)(ho:WE X o td)(he:WE X e ty)(hf:WE X f tx)(m:M2 X o "get" apos e f cpos):WE X (.Call (.Attribute o "get" apos) [e,f] [] cpos) (DZ td ty tx):=⟨Ci hu ho.h he.h hf.h m⟩
end
section
variable{X:Cx}
theorem wpv(i:Nat){x:Str}{pos:Pos}(hN:X.N[i]?=some x:=by rfl)(hv:Vis X.env.scope x:=by first|exact Or.inl rfl|exact Or.inr (Or.inl rfl)|exact Or.inr (Or.inr rfl))(hd:(x == ("__debug__":Str))=false:=by decide)(hcd:(x == ("__classdict__":Str))=false:=by decide):WE X (.Name x pos) (Le i):=⟨pv i hN hv hd hcd⟩
end
theorem WW.pt{X:Cx}{e:Expr}{t:TT}(h:WW X e t):WT X e t:=⟨h.h.pt⟩
section
variable{X:Cx}{e:Expr}
def xZ(i j:Int):Prop:=0<j/\j.natAbs.log2<9000
theorem qR:OpR X (binaryOp .FloorDiv) (rI xZ fun i j=>.int (i / j)):=opI fun i j _ _ _ _ _ hc q=>by
 refine PyProof.Rows.floordiv_int (by have:=hc.1;omega) ?_ (.inl (PyProof.noPylong_of_log2 hc.2));rw[Int.fdiv_eq_ediv_of_nonneg i (Int.le_of_lt hc.1)];exact q
theorem vc:fY X (.builtin "isinstance") (fun xs H Q=>∃(x:V) (T:String) (t:Value) (k:Bool),xs=[x,.ty T]/\w4 X.K H x t/\PySem.W.kitOne X.K t (.type T)=some k/\Q (.bl k) H):=by
 rintro pins s σ H xs us Q I r ⟨x,T,t,k,rfl,ty,e,q⟩;obtain⟨u,w',rfl,ru,rw'⟩:=IP r;cases rw';exact z7 I ru ty e fun tk=>⟨.bl k,H,I.tok tk,rfl,q⟩
end
theorem dR{H:Hp}{p:Addr}(h:H p=none)(o:HO):vi H (upd H p o):=fun b u q=>by rw[bA (cP q h)];exact q
def Def(K:Q1)(mg:Str->Option Value)(x:Str)(st:Stmt)(ps:List Str):Prop:=
 ∃f fd,Fun K x x st f fd/\iT K fd ps []/\mg x=some (.ref f)
def Has(P:Program)(w:World)(K:Q1)(mg:Str->Option Value)(base:Heap)(x:Str)(k:Nat)(ps:List Str)(sp:Sp):Prop:=
 ∃f fd,nc P w K mg base CX0 k f fd ps sp/\iT K fd ps []/\PySem.W.keepIn K (.ref f)=true/\mg x=some (.ref f)
section
variable{P:Program}{w:World}{K:Q1}{mg:Str->Option Value}{base:Heap}{x:Str}{st:Stmt}{ps N:List Str}{k j:Nat}{sp:Sp}
theorem Has.mono(h:Has P w K mg base x j ps sp)(l:j<=k):Has P w K mg base x k ps sp:=by
 obtain⟨f,fd,a,b,c,d⟩:=h;exact⟨f,fd,a.mono l,b,c,d⟩
theorem Def.has(d:Def K mg x st ps)(S:aL N ps (ax st))(len:∀vs H Q E,sp vs H Q E->vs.length=ps.length)
  (hbody:∀(f:Addr) (cdv:Value) (A:Around) (outer:List Env) (s:Shared) (H:Hp) (vs:List V) (Q:VK) (E:XK),hU k (A.deeper (envOfC x (ax st) s.heap.objs.size f cdv))->sp vs H Q E->
   ∃t,WSs (wL CX0 P w K mg base N x (ax st) f cdv A outer s H E).nox (dZ st) t/\t { nx:=fun _ H'=>Q .non H',rt:=Q } (kP N vs) H):Has P w K mg base x (k+1) ps sp:=by
 obtain⟨f,fd,F,b,m⟩:=d;exact⟨f,fd,F.ok S len (fun cdv A outer s H vs Q E hr h=>let ⟨t,a,b⟩:=hbody f cdv A outer s H vs Q E hr h;⟨t,a.h,b⟩),b,F.kp,m⟩
end
theorem DQ{X:Cx}{k:Nat}{ps:List Str}{sp:Sp}{x:Str}{p pos:Pos}{e:Expr}{es:List Expr}{t:TA}(F:Has X.prog X.w X.K X.mg X.base x k ps sp)(hr:hU k X.A)(hg:Gl X x)
  (ha:WA X (e::es) t) (hdb:(x == ("__debug__":Str))=false:=by decide) (he:starEach (e::es) X.env=(false,eval e X.env)::starEach es X.env:=by rfl) (hpl:(backTo pos (starEach es X.env)).any (·.1)=false:=by rfl) :
  WE X (.Call (.Name x p) (e::es) [] pos) (Je sp [] E0 t):=by
 obtain⟨f,fd,a,b,c,d⟩:=F;exact⟨F9 a hr hg d c b .nil Ck ha.h hdb he hpl⟩
structure Blt(mg:Str->Option Value):Prop where
 len:mg "len"=none
 isinstance:mg "isinstance"=none
 int:mg "int"=none
 bool:mg "bool"=none
 str:mg "str"=none
 tuple:mg "tuple"=none
 list:mg "list"=none
 range:mg "range"=none
 min:mg "min"=none
 sum:mg "sum"=none
 all:mg "all"=none
 zip:mg "zip"=none
 sorted:mg "sorted"=none
 dict:mg "dict"=none
 enumerate:mg "enumerate"=none
 any:mg "any"=none
 max:mg "max"=none
 set:mg "set"=none
theorem D3{n:Nat}(h:n<=1000):n<=sizeLine:=Nat.le_of_lt (yQ h)
theorem xv{n:Nat}(h:n<2^60):n.log2<1920:=by
 by_cases e:n=0
 ·subst e;decide
 ·have:=(Nat.log2_lt e).mpr h;omega
theorem Dq(ns:List Int)(lo hi:Option Int):AL (ns.map V.int) lo hi=((ns.drop (HT.sIx (ns.map V.int).length 0 lo)).take (HT.sIx (ns.map V.int).length (ns.map V.int).length hi-HT.sIx (ns.map V.int).length 0 lo)).map V.int:=by
 unfold AL;rw[List.map_take,List.map_drop]
def BQ(K:Q1):Sp:=fun vs H Q _=>∃(a:Addr) (ns:List Int),vs=[.ref a]/\SqL K H a (ns.map V.int)/\ns.length<=63/\∀H',Q (.bl true) H'
theorem wU:bootBuiltins "int"=some (.type "int"):=rfl
theorem o9:bootBuiltins "bool"=some (.type "bool"):=rfl
theorem wR:bootBuiltins "str"=some (.type "str"):=rfl
theorem dg:bootBuiltins "tuple"=some (.type "tuple"):=rfl
theorem jA:bootBuiltins "list"=some (.type "list"):=rfl
theorem o8:bootBuiltins "isinstance"=some (.builtin "isinstance"):=rfl
theorem Dx:bootBuiltins "all"=some (.builtin "all"):=rfl
theorem dE:bootBuiltins "sorted"=some (.builtin "sorted"):=rfl
theorem mO{X:Cx}{x:Str}{T:String}{pos:Pos}(hg:Gl X x)(hm:X.mg x=none)(hv:bootBuiltins x=some (.type T))(hn:x≠"__name__":=by decide)(hd:(x == ("__debug__":Str))=false:=by decide):WE X (.Name x pos) (tC (.ty T)):=
 ⟨Ga hg hm hv rfl hn hd⟩
theorem Bx{X:Cx}{x:Str}{i:Int}{pos:Pos}(hg:Gl X x)(hm:∃t,X.mg x=some (.int i t))(hd:(x == ("__debug__":Str))=false:=by decide):WE X (.Name x pos) (tC (.int i)):=by
 obtain⟨t,hm⟩:=hm;exact⟨F5 hg hm ⟨t,rfl⟩ hd⟩
theorem A5{α:Type}{xs:List α}{k:Int}{v:α}(h0:0<=k)(h:xs[k.toNat]?=some v):atI xs k=some v:=by
 have ek:k=((k.toNat:Nat):Int):=by omega
 rw[ek];exact pf h
theorem Fun.okW{P:Program}{w:World}{K:Q1}{mg:Str->Option Value}{base:Heap}{x qual:Str}{st:Stmt}{f:Addr}{fd:FuncData}{N ps:List Str}{k:Nat}{sp:Sp}(F:Fun K x qual st f fd)(S:aL N ps (ax st))(len:∀vs H Q E,sp vs H Q E->vs.length=ps.length)
  (hbody:∀(cdv:Value) (A:Around) (outer:List Env) (s:Shared) (H:Hp) (vs:List V) (Q:VK) (E:XK),hU k (A.deeper (envOfC qual (ax st) s.heap.objs.size f cdv))->sp vs H Q E->
   ∃t,WSs (wL CX0 P w K mg base N qual (ax st) f cdv A outer s H E).nox (dZ st) t/\t { nx:=fun _ H'=>Q .non H',rt:=Q } (kP N vs) H):nc P w K mg base CX0 (k+1) f fd ps sp:=
 F.ok S len fun cdv A outer s H vs Q E hr h=>let ⟨t,a,b⟩:=hbody cdv A outer s H vs Q E hr h;⟨t,a.h,b⟩
def ux(env:Env):List (Str×Addr)->Prop
 |[]=>True
 |p::r=>env.cells.lookup p.1=some p.2/\ux env r
theorem ux.look{env:Env}:∀{cl:List (Str×Addr)} {y:Str} {c:Addr},ux env cl->cl.lookup y=some c->env.cells.lookup y=some c
 |[],_,_,_,h=>by simp at h
 |(n,d)::r,y,c,a,h=>by
  obtain⟨a1,a2⟩:=a;rw[List.lookup_cons]at h;by_cases e:(y == n)=true
  ·rw[e]at h;have e':y=n:=by simpa using e
   subst e';cases h;exact a1
  ·have e':(y == n)=false:=by simpa using e
   rw[e']at h;exact ux.look a2 h
abbrev cxC(X:Cx)(Nc:List Str)(scope:Scope)(cl:List (Str×Addr))(s3:Shared)(H3:Hp)(fp:List Addr):Cx where
 prog:=X.prog
 w:=X.w
 K:=X.K
 mg:=X.mg
 base:=X.base
 A:=X.A
 N:=Nc
 s₀:=s3
 H₀:=H3
 env:=compEnvC scope cl s3.heap.objs.size X.env
 outer:=X.stack
 stack:=X.stack
 ex:=fp
 fn:=fun _=>false
 calm:=X.calm
 pn:=[]
 xe:=fun _ _=>False
def stC(n:Nat)(caps:List Nat)(σ:L2.St):L2.St:=Qh n none++caps.map fun i=>(σ[i]?).getD none
def BL(wi:TI)(g:TG)(te:TE)(n:Nat)(caps:List Nat):TE:=fun σ H Q=>wi σ H fun J H1=>∀l,H1 l=none->∃W:Nat->Nat->L2.St->Hp->Prop,(∃m,W 0 m (stC n caps σ) (upd H1 l (.lst [])))/\
 ∀i m σ' H2,W i m σ' H2->(J.stop i H2/\Q (.ref l) H2)\/(J.go i H2/\∃N:L2.St->Hp->Prop,(∀σ'' H',N σ'' H'->∃m',m'<m/\W (i+1) m' σ'' H')/\
  ∀x H3,J.yld i H2 x H3->g x σ' H3 fun σ2 H4=>te σ2 H4 fun v H5=>∃ys,H5 l=some (.lst ys)/\ys.length<sizeLine/\N σ2 (upd H5 l (.lst (ys++[v]))))
theorem ua{prog:Program}{w:World}{A:Around}{R:Result->Shared->Prop}{s:Shared}{elt target iter:Expr}{scope:Scope}{pos:Pos}{it acc:Value}{env:Env}(I:Nat->Shared->Prop)
  (turn:∀n s,I n s->wpAny (model prog w) A (pyNext it) (fun r s₁=>match r with
   |none=>R (.ok .next) s₁
   | some v=>wpAny (model prog w) A (letOwnedTupleGo target it v) (fun _ s₁'=>wpAny (model prog w) A (assign target env v) (fun _ s₂=>wpAny (model prog w) A (eval elt env) (fun x s₃=>
     wpAny (model prog w) A (call (.builtin "list.append") [acc,x]) (fun _ s₄=>∃m,m<n/\I m s₄) (fun _ _=>False) s₃)
     (fun _ _=>False) s₂) (fun _ _=>False) s₁') (fun _ _=>False) s₁) (fun _ _=>False) s)
  (n:Nat) (h:I n s) :
  codeAny (model prog w) A (.compLoop (.ListComp elt [⟨target,iter,[],0⟩] scope pos) 0 it acc env) R s:=by
 refine codeAny_loop rfl I (fun n s hI=>?_) n h;show wpAny _ _ ((compTurn (.ListComp elt [⟨target,iter,[],0⟩] scope pos) 0 it acc env).onRaise (fun x=>do noteFrame x env;theTreesLotGoes x)) _ _ s;refine wpAny_noted ?_;rw[compTurn_list1];refine Q2 (wpAny_standAt (Q2 (Z9 (turn n s hI) (fun r s₁ h₁=>?_) fun _ _ h'=>h'.elim)));cases r with
 |none=>exact QQ h₁
 |some v=>
  refine Q2 (Z9 h₁ (fun _ s₁' h₁'=>?_) fun _ _ h'=>h'.elim);exact Q2 (Z9 h₁' (fun _ s₂ h₂=>Q2 (Q2 (Z9 h₂ (fun x s₃ h₃=>Q2 (Z9 h₃
   (fun _ s₄ h₄=>QQ (QQ ⟨rfl,h₄⟩)) fun _ _ h'=>h'.elim)) fun _ _ h'=>h'.elim))) fun _ _ h'=>h'.elim)
section
variable{X:Cx}{pins:List (Addr×Obj)}{σ:L2.St}{H:Hp}{s:Shared}{Nc capN:List Str}{scope:Scope}{cl:List (Str×Addr)}{fp:List Addr}{n:Nat}{caps:List Nat}
def Cap(X:Cx)(scope:Scope)(cl:List (Str×Addr))(i:Nat)(y:Str):Prop:=X.N[i]?=some y/\X.env.scope.names.lookup y=some .cell/\(relabel scope X.env).names.lookup y=some .cell/\∃c,cl.lookup y=some c
theorem Inv.comp{h1:Heap}{t':Nat}(I:Inv X pins σ H s)(hc:X.calm=true)(f2:∀b∈fp,x6 X pins H b)(fo:∀b∈fp,b<s.heap.objs.size)(hkind:scope.kind=.function)(hcl:ux X.env cl)
  (hhas:((relabel scope X.env).names.all fun p=>!(p.2 == .cell||p.2 == .free)||(cl.lookup p.1).isSome)=true)
  (hcap:Paired (Cap X scope cl) caps capN) (tn:List Str) (hN:Nc=tn++capN) (hn:tn.length=n)
  (hns:h1.Ns s.heap.objs.size (fun _=>none)) (hk:∀b o,s.heap.get? b=some o->h1.get? b=some o) :
  Inv (cxC X Nc scope cl s H fp) [] (stC n caps σ) H { s with heap:=h1,toks:=t' }:=by
 have lkc:∀y c,cl.lookup y=some c->X.env.cells.lookup y=some c:=fun y c e=>hcl.look e;refine⟨⟨I.ok.mod,?_,I.ok.glob,I.ok.blt,QZ _,fun x y c a b=>I.ok.inj x y c (lkc _ _ a) (lkc _ _ b),fun x hx=>?_,fun x c z=>(nomatch z),I.ok.hd,I.ok.frames,.inl rfl,fun b hb=>⟨Qr (fo b hb),fun x c e=>(f2 b hb).2.2.2.2.1 x c (lkc _ _ e)⟩,I.bs,Qj I.ok.bsz I.sz,
  fun b o e hb=>?_,fun b hb z=>?_,I.stack,I.stkFree⟩,rfl,I.bare,Un.kept hk,⟨_,hns,fun i y v h1' h2 h3=>?_⟩,fun y c e=>?_,I.hok.fresh (QZ _),fun y c e=>I.freeC y c (lkc _ _ e),fun p hp=>(by simp at hp),I.hok.kept hk,?_⟩
 ·exact hkind
 ·have hx':(relabel scope X.env).names.lookup x=some .cell\/(relabel scope X.env).names.lookup x=some .free:=hx;have mem:∀{k},(relabel scope X.env).names.lookup x=some k->(x,k)∈(relabel scope X.env).names:=fun{k} e=>by
   generalize (relabel scope X.env).names=L at e;induction L with
   |nil=>simp at e
   |cons p r ih=>
    obtain⟨a,b⟩:=p;rw[List.lookup_cons]at e;by_cases q:(x == a)=true
    ·rw[q]at e;cases e;have:x=a:=by simpa using q
     subst this;exact QU
    ·rw[show(x == a)=false by simpa using q]at e;exact QD _ (ih e)
  have fin:∀{k},(k=NameKind.cell\/k=.free)->(relabel scope X.env).names.lookup x=some k->∃c,cl.lookup x=some c:=fun{k} hk' e=>by
   have:=ZX.mp hhas _ (mem e);dsimp only at this;have q:(cl.lookup x).isSome=true:=by
    rcases hk' with z|z<;>subst z<;>simpa using this
   exact Option.isSome_iff_exists.mp q
  rcases hx' with e|e
  ·exact fin (.inl rfl) e
  ·exact fin (.inr rfl) e
 ·rcases(f2 b hb).2.2.2.1 with z|z
  ·exact I.ok.noex b o e z
  ·exact absurd (Qu (QB e) I.ok.bsz) (Nat.not_lt.mpr z)
 ·rcases QM.mp (I.stkSub b z)with q|q
  ·exact(f2 b hb).2.1 q
  ·exact(f2 b hb).2.2.1 q
 ·obtain⟨m,hm,hl⟩:=I.loc;have h2':(stC n caps σ)[i]?=some (some v):=h2;have h1'':Nc[i]?=some y:=h1';unfold stC at h2';by_cases hi:i<n
  ·rw[QN (by simpa using hi),ZH,if_pos hi]at h2';cases h2'
  ·rw[Qx (by simp;omega),List.length_replicate,Qb]at h2';rw[hN,Qx (by omega),hn]at h1'';have key:∀(j:Nat) {caps:List Nat} {capN:List Str},Paired (Cap X scope cl) caps capN->capN[j]?=some y->(Option.map (fun i=>(σ[i]?).getD none) caps[j]?)=some (some v)->∃k,Cap X scope cl k y/\σ[k]?=some (some v):=by
    intro j;induction j with
    |zero=>
     intro caps capN P e1 e2;cases P with
     |nil=>simp at e1
     |@cons a b l r p t=>
      simp at e1 e2;subst e1;cases q:σ[a]? with
      |none=>rw[q]at e2;simp at e2
      |some w'=>rw[q]at e2;simp at e2;subst e2;exact⟨a,p,q⟩
    |succ j ih=>
     intro caps capN P e1 e2;cases P with
     |nil=>simp at e1
     |cons p t=>exact ih t (by simpa using e1) (by simpa using e2)
   obtain⟨k,⟨c1,c2,c3,c,c4⟩,e⟩:=key _ hcap h1'' h2';obtain⟨u,r,lk⟩:=hl k y v c1 e (.inr (.inl c2));refine⟨u,r,.inr ⟨.inl c3,c,c4,?_⟩⟩;rcases lk with⟨z,_⟩|⟨_,c',e',o,ho,hd⟩
   ·have z':X.env.scope.names.lookup y=some .local:=z;rw[c2]at z';cases z'
   ·rw[lkc _ _ c4]at e';cases e';exact⟨o,hk _ _ ho,hd⟩
 ·obtain⟨v,o,ho,hd⟩:=I.cell y c (lkc _ _ e);exact⟨v,o,hk _ _ ho,hd⟩
 ·show(stC n caps σ).length=Nc.length;have pl:caps.length=capN.length:=Paired.length hcap;unfold stC;rw[Q6,List.length_replicate,Q5,hN,Q6,hn,pl]
end
theorem wO{X:Cx}{Nc capN tn:List Str}{scope:Scope}{cl:List (Str×Addr)}{n:Nat}{caps:List Nat}{tg iter elt:Expr}{pos:Pos}{wi:TI}{g:TG}{te:TE}
  (hc:X.calm=true) (hi:WI X tg iter wi) (hg:∀s3 H3 fp,WG (cxC X Nc scope cl s3 H3 fp) tg g) (he:∀s3 H3 fp,WE (cxC X Nc scope cl s3 H3 fp) elt te)
  (hclos:closureFor scope X.env=pure cl) (hkind:scope.kind=.function) (hnl:∀x∈scope.names,x.2=.local->scope.names.lookup x.1=some .local) (hcell:∀x∈scope.names,x.2≠.cell)
  (hcl:ux X.env cl) (hhas:((relabel scope X.env).names.all fun p=>!(p.2 == .cell||p.2 == .free)||(cl.lookup p.1).isSome)=true)
  (hcap:Paired (Cap X scope cl) caps capN) (hN:Nc=tn++capN) (hn:tn.length=n)
  {use:Option (Value->Sem Unit)} {pins:List (Addr×Obj)} {σ:L2.St} {H:Hp} {s:Shared} {Q:VK} {Qf:Value->Shared->Prop} (I:Inv X pins σ H s) (h:BL wi g te n caps σ H Q)
  (hend:∀(D C:Addr) (s6:Shared) (H5:Hp) (m:Str->Option Value),Inv X pins σ H5 s6->s6.heap.Ns C m->H5 C=none->C≠X.env.locals->X.s₀.heap.objs.size<=C->(∀x c,X.env.cells.lookup x=some c->c≠C)->(∀p∈X.pn++pins,p.1≠C)->Q (.ref D) H5->compPost (model X.prog X.w) X.A X.xe use Qf (.ref D) C (.ok .next) s6)
  (hs:∀x,foldedSetIterable iter X.env x=pure x) :
  wpAny (model X.prog X.w) X.A (comprehension (.ListComp elt [⟨tg,iter,[],0⟩] scope pos) scope X.env (firstIterPos [⟨tg,iter,[],0⟩] pos) (newList []) (firstAsync [⟨tg,iter,[],0⟩]) (firstIter [⟨tg,iter,[],0⟩] X.env) use) Qf X.xe s:=by
 refine wpAny_comprehension_free (use:=use) (g:=⟨tg,iter,[],0⟩) (gs:=[]) rfl hs hclos hkind hnl (thn (hi.h pins s σ H _ I h) fun v s1 h1=>thn h1 fun itv s2 h2=>?_);obtain⟨it,fp,tnn,J,H2,rfl,I2,T,st2,f2,hW⟩:=h2;have hD:=I2.fresh;obtain⟨W,⟨m0,w0⟩,turn⟩:=hW _ hD;refine wpAny_newObj_type (wpAny_newFunctionEnv hcell (by intro y hy;simp at hy) (fun h₁ hns₁ hsb₁=>?_) hkind);dsimp only at hns₁ hsb₁ ⊢;have I3:Inv X pins σ (upd H2 s2.heap.objs.size (.lst [])) { s2 with heap:=s2.heap.push { cls:=.type "list",dict:=none,data:=.seq ([]:List Value).toArray },toks:=s2.toks }:=I2.lnew (its:=[]) .nil (Z7 _);generalize hs3:({ s2 with heap:=s2.heap.push { cls:=.type "list",dict:=none,data:=.seq ([]:List Value).toArray },toks:=s2.toks }:Shared)=s3 at I3;have es3:s3.heap=s2.heap.push { cls:=.type "list",dict:=none,data:=.seq ([]:List Value).toArray }:=by rw[<-hs3]
 generalize hDD:s2.heap.objs.size=D at *;have kept:∀b o,s3.heap.get? b=some o->h₁.get? b=some o:=fun b o e=>by
  have lt:=QB e;rw[es3]at lt e;exact hsb₁.extBut b o (Qr lt) (Q7 _ e)
 have old:∀b o,s2.heap.get? b=some o->s3.heap.get? b=some o:=fun b o e=>by rw[es3];exact Q7 _ e
 have ltD:∀b∈fp,b<D:=fun b hb=>by
  obtain⟨o,e,_⟩:=T.obj 0 _ st2 b hb;rw[<-hDD];exact QB e
 have fo:∀b∈fp,b<s3.heap.objs.size:=fun b hb=>by
  obtain⟨o,e,_⟩:=T.obj 0 _ st2 b hb;exact QB (old _ _ e)
 have f3:∀b∈fp,x6 X pins (upd H2 D (.lst [])) b:=fun b hb=>by
  refine⟨?_,(f2 b hb).2⟩;rw[bA (Qr (ltD b hb))];exact(f2 b hb).1
 rw[<-es3]at hns₁ hsb₁ ⊢;have Ic:=fun t'=>Inv.comp (h1:=h₁) (t':=t') (Nc:=Nc) (n:=n) I3 hc f3 fo hkind hcl hhas hcap tn hN hn hns₁ kept;have stat:∀{H':Hp},(∀b∈fp,H' b=none)->∀b∈fp,x6 (cxC X Nc scope cl s3 (upd H2 D (.lst [])) fp) [] H' b:=fun hn' b hb=>by
  refine⟨hn' b hb,Qr (fo b hb),fun z=>?_,.inl hb,fun x c e=>(f2 b hb).2.2.2.2.1 x c (hcl.look e),fun p hp=>(by simp at hp)⟩;rcases QM.mp (I3.stkSub b z)with q|q
  ·exact(f2 b hb).2.1 q
  ·exact(f2 b hb).2.2.1 q
 have loop:∀s4:Shared,(∃t',s4={ s3 with heap:=h₁,toks:=t' })->codeAny (model X.prog X.w) X.A (.compLoop (.ListComp elt [⟨tg,iter,[],0⟩] scope pos) 0 (.ref it) (.ref D) (compEnvC scope cl s3.heap.objs.size X.env))
   (compPost (model X.prog X.w) X.A X.xe use Qf (.ref D) s3.heap.objs.size) s4:=by
  rintro s4 ⟨t',rfl⟩;refine ua (fun n' s'=>∃i σ' H',Inv (cxC X Nc scope cl s3 (upd H2 D (.lst [])) fp) [] σ' H' s'/\tnn i s'.heap/\(∀b∈fp,H' b=none)/\W i n' σ' H') ?_ m0
   ⟨0,_,_,Ic t',T.keep 0 _ _ st2 fun b hb o e=>kept _ _ (old _ _ e),fun b hb=>(f3 b hb).1,w0⟩
  rintro n' s5 ⟨i,σ5,H5,I5,st5,fr5,w5⟩;rcases turn i n' σ5 H5 w5 with⟨stop,qn⟩|⟨go,N,hN',step⟩
  ·refine thn (T.done (cxC X Nc scope cl s3 (upd H2 D (.lst [])) fp) rfl rfl rfl hc i [] s5 σ5 H5 (fun _ _=>False) I5 (stat fr5) st5 stop) fun r s6 ⟨hr,I6⟩=>?_;subst hr;obtain⟨m,hm,_⟩:=I6.loc;have I7:Inv X pins σ H5 s6:=Inv.call' (ch:=fp) I3 I6.os I6.base I6.hok I6.bare fun b hb=>⟨(f2 b hb).2.2.2.1,(f2 b hb).2.1,(f2 b hb).2.2.2.2.1,(f2 b hb).2.2.2.2.2⟩;exact hend D _ s6 H5 m I7 hm I6.free (Ne.symm (Qr I3.lt)) I3.sz (fun x c e=>by
     obtain⟨v',o,ho,_⟩:=I3.cell x c e;exact Qr (QB ho)) (fun p hp=>Qr (QB (I3.pin p hp).1)) qn
  ·refine thn (T.item (cxC X Nc scope cl s3 (upd H2 D (.lst [])) fp) rfl rfl rfl hc i [] s5 σ5 H5 (fun _ _=>False) I5 (stat fr5) st5 go) fun r s6 ⟨u,hr,h6⟩=>?_;subst hr;refine thn h6 fun _ s7 hz=>?_;obtain⟨x,H7,I7,r7,y7,st7,fr7⟩:=hz;have I7':=I7.pinned (stat fr7) (T.obj _ _ st7);refine thn ((hg s3 (upd H2 D (.lst [])) fp).h _ s7 σ5 H7 x u _ I7' r7 (step x H7 y7)) fun _ s8 hz=>?_;obtain⟨σ8,H8,I8,q8⟩:=hz;refine thn ((he s3 (upd H2 D (.lst [])) fp).h _ s8 σ8 H8 _ I8 q8) fun v9 s9 hz=>?_;obtain⟨x9,H9,I9,r9,ys,hy,hlt,q9⟩:=hz;refine thn (om (X:=cxC X Nc scope cl s3 (upd H2 D (.lst [])) fp) _ s9 σ8 H9 (.ref D) [x9] (.ref D) [v9] (fun _ H'=>N σ8 H') I9 rfl (.cons r9 .nil) ⟨D,ys,x9,rfl,rfl,hy,hlt,q9⟩) fun _ s10 hz=>?_;obtain⟨_,H10,I10,_,q10⟩:=hz;obtain⟨m',hm,w10⟩:=hN' σ8 H10 q10;refine⟨m',hm,i+1,σ8,H10,I10.unpinned,T.keep _ _ _ st7 fun b hb o e=>(I10.pin (b,o) (QL _ (QL _ (fH hb e)))).1,fun b hb=>?_,w10⟩;obtain⟨o,e,d⟩:=T.obj _ _ st7 b hb;exact(I10.pin (b,o) (QL _ (QL _ (fH hb e)))).2.1
 have e4:∀t',({ s2 with heap:=h₁,toks:=t' }:Shared)={ s3 with heap:=h₁,toks:=t' }:=fun t'=>by rw[<-hs3]
 refine codeAny_compStart_list (loop _ ⟨_,e4 _⟩) (T.self _ 0 _ _ _ (T.keep 0 _ _ st2 fun b hb o e=>kept _ _ (old _ _ e)) (loop _ ⟨_,e4 _⟩))
theorem BA{X:Cx}{Nc capN tn:List Str}{scope:Scope}{cl:List (Str×Addr)}{n:Nat}{caps:List Nat}{tg iter elt:Expr}{pos:Pos}{wi:TI}{g:TG}{te:TE}
  (hc:X.calm=true) (hi:WI X tg iter wi) (hg:∀s3 H3 fp,WG (cxC X Nc scope cl s3 H3 fp) tg g) (he:∀s3 H3 fp,WE (cxC X Nc scope cl s3 H3 fp) elt te)
  (hclos:closureFor scope X.env=pure cl) (hkind:scope.kind=.function) (hnl:∀x∈scope.names,x.2=.local->scope.names.lookup x.1=some .local) (hcell:∀x∈scope.names,x.2≠.cell)
  (hcl:ux X.env cl) (hhas:((relabel scope X.env).names.all fun p=>!(p.2 == .cell||p.2 == .free)||(cl.lookup p.1).isSome)=true)
  (hcap:Paired (Cap X scope cl) caps capN) (hN:Nc=tn++capN) (hn:tn.length=n)
  (hs:∀x,foldedSetIterable iter X.env x=pure x:=by intro _;rfl) :
  WE X (.ListComp elt [⟨tg,iter,[],0⟩] scope pos) (BL wi g te n caps):=by
 constructor;intro pins s σ H Q I h;rw[eval_ListComp];refine wO hc hi hg he hclos hkind hnl hcell hcl hhas hcap hN hn I h (fun D C s6 H5 m I7 hm fr nl sz cn pn qn=>⟨m,hm,fun h' hs'=>?_⟩) hs;exact⟨.ref D,H5,I7.turned (t':=s6.toks) (it:=C) (fun b o hb e=>hs'.extBut b o hb e) fr nl (.inr sz) cn pn,rfl,qn⟩
section
variable{X:Cx}
theorem yC:∀{bs:List Bool} {us:List Value} {i:Nat} {v:Value},bU (bs.map V.bl) us->us[i]?=some v->∃b,bs[i]?=some b/\v=.bool b
 |[],_,_,_,r,e=>by cases r;simp at e
 |b::bs,_,0,_,.cons r _,e=>by
  have r':_=Value.bool b:=r;simp at e;subst e;exact⟨b,by simp,r'⟩
 |b::bs,_,i+1,v,.cons _ t,e=>by
  obtain⟨b',e1,e2⟩:=yC (i:=i) (v:=v) t (by simpa using e);exact⟨b',by simpa using e1,e2⟩
theorem DB(bs:List Bool):(Qi bs.length).all (fun i=>(bs[i]?).getD true)=bs.all id:=by
 rw[ZE,ZX,ZX];constructor
 ·intro h b hb;obtain⟨i,hi,e⟩:=List.mem_iff_getElem.mp hb;have:=h i (List.mem_range.mpr hi);rw[Q8 hi,Qo,e]at this;exact this
 ·intro h i hi;have hi':=List.mem_range.mp hi;have:=h _ (List.getElem_mem hi');rw[Q8 hi',Qo];exact this
theorem Gr{h:Heap}{b:Addr}{o:Obj}(e:h.get? b=some o):¬b∈[h.objs.size]:=fun z=>by
 have z':b=h.objs.size:=by simpa using z
 exact absurd (QB e) (by rw[z'];exact Nat.lt_irrefl _)
theorem Dw(hc:X.calm=true):fY X (.builtin "all") (fun xs H Q=>∃(p:Addr) (bs:List Bool),xs=[.ref p]/\SqL X.K H p (bs.map V.bl)/\Q (.bl (bs.all id)) H):=by
 intro pins s σ H xs us Q I r h;obtain⟨p,bs,rfl,hq,q⟩:=h;obtain⟨u,rfl,rx⟩:=ng r;cases rx;obtain⟨its,rv,pl,hz⟩:=I.list hq;have eK:=rv.length;rw[Q5]at eK;refine call_all_walk (wpAny_pyIter_list pl.isList ?_);have lt:p<s.heap.objs.size:=by obtain⟨o,e,_⟩:=pl.isList;exact QB e
 refine⟨s.heap.objs.size,_,_,_,_,_,fun i=>(bs[i]?).getD true,rfl,Walks.list (show X.A.in1.handled=none from I.ok.hd hc) s.heap.objs.size p (Qr lt) its.toArray,⟨⟨_,QF _ rfl,rfl,rfl⟩,pl.isList.at fun o e=>Q7 _ e⟩,?_,fun h' tk hk=>?_⟩
 ·intro i v s' Q' E' hP hQ;have hP':its.toArray[i]?=some v:=hP;obtain⟨b,e1,e2⟩:=yC rv (by simpa using hP');subst e2;dsimp only at hQ;rw[e1,Qo]at hQ;exact wpAny_truthy_bool hQ
 ·have e:(Qi its.toArray.size).all (fun i=>(bs[i]?).getD true)=bs.all id:=by
   rw[QH,<-eK];exact DB bs
  rw[e];exact⟨.bl (bs.all id),H,I.kept fun b o e=>hk b o (Gr e) (Q7 _ e),rfl,q⟩
end
open PySem.AutoSeq1 (wpAny_loadPart')
theorem Dv{prog:Program}{w:World}{A:Around}{E:Value->Shared->Prop}{s:Shared}{t b:Addr}{vs ws:List Value}{Q:Value->Shared->Prop}(ht:IsTup s.heap t vs.toArray)(hb:IsTup s.heap b ws.toArray)(hv:vs=[])
  (h1:Q (.ref b) s):wpAny (model prog w) A (binaryOp .Add (.ref t) (.ref b)) Q E s:=by
 obtain⟨⟨cls,dd,data,sl⟩,ho,hc,n,hd⟩:=id ht;obtain⟨⟨cls2,dd2,data2,sl2⟩,ho2,hc2,n2,hd2⟩:=id hb;simp only at hc hd hc2 hd2;subst hc hd hc2 hd2;exact concat_meets ⟨_,ho,rfl⟩ ⟨_,ho2,rfl⟩ noFill_tuple_add seq_tuple_add PySem.F.slot_tuple_add PySem.F.entry_tuple_add (PySem.F.args_tuple_add_2 _ _)
   (tuple_addW0 t b vs.toArray ws.toArray n n2 dd dd2 sl sl2 (by simp[hv])) ⟨ho,ho2,h1⟩
structure Ot(H:Hp)(p xs:Addr):Prop where
 ex:∃(ns:List Int) (at' cur:Int),H p=some (.lst [.ref xs,.int at',.int cur])/\H xs=some (.lst (ns.map V.int))/\xs≠p/\0<=at'/\0<=cur
def D1(K:Q1):Sp:=fun vs H Q _=>∃(a:Addr) (ns:List Int),vs=[.ref a]/\SqL K H a (ns.map V.int)/\∀(q xs:Addr) (H':Hp),vi H H'->Ot H' q xs->H q=none->Q (.ref q) H'
theorem zO{m:Int}(h0:0<=m)(h:m<2^60):m.natAbs.log2<9000:=by
 have:=xv (n:=m.natAbs) (by omega);omega
end OG
namespace OP
open PySem PySem.Spec PyProof.Rows L2 OG
inductive U where
 |non|bl (b:Bool)|int (i:Int)|str (x:Str)|tup (us:List U)|ref (l:Nat)|kl (ns:List Int)
structure Cl where
 C:Addr
 ns:List Str
inductive O where
 |lst (us:List U)|dic (kvs:List (Key×U))|ins (c:Cl) (fs:List (Option U))|fdc (ep:Nat) (kvs:List (Key×U))|dit (kvs:List (List Key×U))|fdt (ep:Nat) (kvs:List (List Key×U))|dnt (kvs:List (List (List Int)×U))|fdn (ep:Nat) (kvs:List (List (List Int)×U))
abbrev Sto:=List O
abbrev Rho:=List (Option U)
def KL(K:Q1)(H:Hp)(a:Addr)(ns:List Int):Prop:=
 (∃o,H a=some (.frz o (.lst (ns.map V.int))))\/
  ∃(o:Obj) (its:Array Value) (n:Nat),K.lookup a=some o/\o.cls=.type "list"/\o.dict=none/\o.data=.seq its n/\its.size<=sizeLine/\bU (ns.map V.int) its.toList
theorem KL.sq{K:Q1}{H:Hp}{a:Addr}{ns:List Int}(h:KL K H a ns):SqL K H a (ns.map V.int):=by
 rcases h with h|h
 ·exact .inl (.inr h)
 ·exact .inr h
mutual
def Is(K:Q1)(m:List Addr)(H:Hp):V->U->Prop
 |v,.non=>v=.non
 |v,.bl b=>v=.bl b
 |v,.int i=>v=.int i
 |v,.str x=>v=.str x
 |v,.tup us=>∃a xs,v=.ref a/\SqT K H a xs/\IsL K m H xs us
 |v,.ref l=>∃a,m[l]?=some a/\v=.ref a
 |v,.kl ns=>∃a,v=.ref a/\KL K H a ns
def IsL(K:Q1)(m:List Addr)(H:Hp):List V->List U->Prop
 |xs,[]=>xs=[]
 |xs,u::us=>∃x r,xs=x::r/\Is K m H x u/\IsL K m H r us
end
structure Bl(K:Q1)(H H':Hp):Prop where
 t:∀a xs,SqT K H a xs->SqT K H' a xs
 l:∀a ns,KL K H a ns->KL K H' a ns
structure Ext(K:Q1)(m:List Addr)(H:Hp)(m':List Addr)(H':Hp):Prop where
 pre:∃t,m'=m++t
 keep:Bl K H H'
section
variable{K:Q1}{m m' m'':List Addr}{H H' H'':Hp}{v x:V}{u:U}{xs ys:List V}{us ws:List U}{a q:Addr}{o:HO}
theorem Ext.refl:Ext K m H m H:=⟨⟨[],by simp⟩,fun _ _ h=>h,fun _ _ h=>h⟩
theorem Ext.trans(a:Ext K m H m' H')(b:Ext K m' H' m'' H''):Ext K m H m'' H'':=by
 obtain⟨t,rfl⟩:=a.pre;obtain⟨t',rfl⟩:=b.pre;exact⟨⟨t++t',by simp⟩,fun c ys h=>b.keep.t c ys (a.keep.t c ys h),fun c ys h=>b.keep.l c ys (a.keep.l c ys h)⟩
theorem Ext.of(k:Bl K H H'):Ext K m H m H':=⟨⟨[],by simp⟩,k⟩
theorem Ext.new(k:Bl K H H'):Ext K m H (m++[q]) H':=⟨⟨[q],rfl⟩,k⟩
theorem Ext.get{l:Nat}(e:Ext K m H m' H')(h:m[l]?=some a):m'[l]?=some a:=by
 obtain⟨t,rfl⟩:=e.pre;rw[QN (Q9.mp h).1];exact h
mutual
theorem Is.mono(e:Ext K m H m' H'):∀{v:V} {u:U},Is K m H v u->Is K m' H' v u
 |v,.non,h=>by unfold Is at h ⊢;exact h
 |v,.bl b,h=>by unfold Is at h ⊢;exact h
 |v,.int i,h=>by unfold Is at h ⊢;exact h
 |v,.str x,h=>by unfold Is at h ⊢;exact h
 |v,.tup us,h=>by
  unfold Is at h ⊢;obtain⟨a,xs,e1,k,l⟩:=h;exact⟨a,xs,e1,e.keep.t _ _ k,IsL.mono e l⟩
 |v,.ref l,h=>by
  unfold Is at h ⊢;obtain⟨a,k,e1⟩:=h;exact⟨a,e.get k,e1⟩
 |v,.kl ns,h=>by
  unfold Is at h ⊢;obtain⟨a,e1,k⟩:=h;exact⟨a,e1,e.keep.l _ _ k⟩
theorem IsL.mono(e:Ext K m H m' H'):∀{xs:List V} {us:List U},IsL K m H xs us->IsL K m' H' xs us
 |xs,[],h=>by unfold IsL at h ⊢;exact h
 |xs,u::us,h=>by
  unfold IsL at h ⊢;obtain⟨x,r,e1,k,l⟩:=h;exact⟨x,r,e1,Is.mono e k,IsL.mono e l⟩
end
theorem Is.int_{i:Int}:Is K m H (.int i) (.int i):=by unfold Is;rfl
theorem Is.bl_{b:Bool}:Is K m H (.bl b) (.bl b):=by unfold Is;rfl
theorem Is.non_:Is K m H .non .non:=by unfold Is;rfl
theorem Is.str_{x:Str}:Is K m H (.str x) (.str x):=by unfold Is;rfl
theorem Is.of_int{i:Int}(h:Is K m H v (.int i)):v=.int i:=by unfold Is at h;exact h
theorem Is.of_bl{b:Bool}(h:Is K m H v (.bl b)):v=.bl b:=by unfold Is at h;exact h
theorem Is.of_non(h:Is K m H v .non):v=.non:=by unfold Is at h;exact h
theorem Is.of_str{x:Str}(h:Is K m H v (.str x)):v=.str x:=by unfold Is at h;exact h
theorem Is.of_tup(h:Is K m H v (.tup us)):∃a xs,v=.ref a/\SqT K H a xs/\IsL K m H xs us:=by unfold Is at h;exact h
theorem Is.of_ref{l:Nat}(h:Is K m H v (.ref l)):∃a,m[l]?=some a/\v=.ref a:=by unfold Is at h;exact h
theorem Is.of_kl{ns:List Int}(h:Is K m H v (.kl ns)):∃a,v=.ref a/\KL K H a ns:=by unfold Is at h;exact h
theorem Is.tup_(e:SqT K H a xs)(h:IsL K m H xs us):Is K m H (.ref a) (.tup us):=by unfold Is;exact⟨a,xs,rfl,e,h⟩
theorem Is.ref_{l:Nat}(e:m[l]?=some a):Is K m H (.ref a) (.ref l):=by unfold Is;exact⟨a,e,rfl⟩
theorem IsL.nil_:IsL K m H [] []:=by unfold IsL;rfl
theorem IsL.cons_(h:Is K m H x u)(t:IsL K m H xs us):IsL K m H (x::xs) (u::us):=by unfold IsL;exact⟨x,xs,rfl,h,t⟩
theorem IsL.of_nil(h:IsL K m H xs []):xs=[]:=by unfold IsL at h;exact h
theorem IsL.of_cons(h:IsL K m H xs (u::us)):∃x r,xs=x::r/\Is K m H x u/\IsL K m H r us:=by unfold IsL at h;exact h
theorem IsL.length:∀{xs:List V} {us:List U},IsL K m H xs us->xs.length=us.length
 |xs,[],h=>by rw[h.of_nil];rfl
 |xs,d::ds,h=>by
  obtain⟨x,r,rfl,_,t⟩:=h.of_cons;rw[QY,QY,IsL.length t]
theorem IsL.getD:∀{xs:List V} {us:List U} {i:Nat} {u:U},IsL K m H xs us->us[i]?=some u->∃x,xs[i]?=some x/\Is K m H x u
 |xs,[],i,x,h,e=>by simp at e
 |xs,d::ds,0,x,h,e=>by
  obtain⟨y,r,rfl,k,t⟩:=h.of_cons;simp at e;subst e;exact⟨y,by simp,k⟩
 |xs,d::ds,i+1,x,h,e=>by
  obtain⟨y,r,rfl,k,t⟩:=h.of_cons;obtain⟨d',e1,e2⟩:=IsL.getD (i:=i) (u:=x) t (by simpa using e);exact⟨d',by simpa using e1,e2⟩
theorem IsL.append:∀{xs:List V} {us:List U},IsL K m H xs us->IsL K m H ys ws->IsL K m H (xs++ys) (us++ws)
 |xs,[],h,k=>by rw[h.of_nil];exact k
 |xs,d::ds,h,k=>by
  obtain⟨y,r,rfl,z,t⟩:=h.of_cons;exact .cons_ z (IsL.append t k)
theorem IsL.set:∀{xs:List V} {us:List U} {j:Nat},IsL K m H xs us->Is K m H x u->IsL K m H (xs.set j x) (us.set j u)
 |xs,[],j,h,k=>by rw[h.of_nil];exact .nil_
 |xs,d::ds,0,h,k=>by
  obtain⟨y,r,rfl,z,t⟩:=h.of_cons;exact .cons_ k t
 |xs,d::ds,j+1,h,k=>by
  obtain⟨y,r,rfl,z,t⟩:=h.of_cons;exact .cons_ z (IsL.set t k)
theorem IsL.drop:∀{xs:List V} {us:List U} (n:Nat),IsL K m H xs us->IsL K m H (xs.drop n) (us.drop n)
 |xs,us,0,h=>h
 |xs,[],n+1,h=>by rw[h.of_nil];exact .nil_
 |xs,d::ds,n+1,h=>by
  obtain⟨y,r,rfl,z,t⟩:=h.of_cons;exact IsL.drop n t
theorem IsL.take:∀{xs:List V} {us:List U} (n:Nat),IsL K m H xs us->IsL K m H (xs.take n) (us.take n)
 |xs,us,0,h=>.nil_
 |xs,[],n+1,h=>by rw[h.of_nil];exact .nil_
 |xs,d::ds,n+1,h=>by
  obtain⟨y,r,rfl,z,t⟩:=h.of_cons;exact .cons_ z (IsL.take n t)
theorem IsL.erase:∀{xs:List V} {us:List U} (n:Nat),IsL K m H xs us->IsL K m H (xs.eraseIdx n) (us.eraseIdx n)
 |xs,[],n,h=>by rw[h.of_nil];exact .nil_
 |xs,d::ds,0,h=>by
  obtain⟨y,r,rfl,z,t⟩:=h.of_cons;exact t
 |xs,d::ds,n+1,h=>by
  obtain⟨y,r,rfl,z,t⟩:=h.of_cons;exact .cons_ z (IsL.erase n t)
theorem wq(h:H a=some o)(nt:∀xs,o≠.tup xs)(nf:∀ob xs,o≠.frz ob (.tup xs))(nl:∀ob xs,o≠.frz ob (.lst xs))(o':HO):Bl K H (upd H a o'):=by
 refine⟨fun b xs q=>?_,fun b ns q=>?_⟩
 ·rcases q with(q|⟨ob,q⟩)|q
  ·have n:b≠a:=fun z=>by subst z;rw[q]at h;cases h;exact nt _ rfl
   exact .inl (.inl (by rw[bA n];exact q))
  ·have n:b≠a:=fun z=>by subst z;rw[q]at h;cases h;exact nf _ _ rfl
   exact .inl (.inr ⟨ob,by rw[bA n];exact q⟩)
  ·exact .inr q
 ·rcases q with⟨ob,q⟩|q
  ·have n:b≠a:=fun z=>by subst z;rw[q]at h;cases h;exact nl _ _ rfl
   exact .inl ⟨ob,by rw[bA n];exact q⟩
  ·exact .inr q
theorem gX(s:vi H H'):Bl K H H':=by
 refine⟨fun b xs q=>?_,fun b ns q=>?_⟩
 ·rcases q with(q|⟨ob,q⟩)|q
  ·exact .inl (.inl (s _ _ q))
  ·exact .inl (.inr ⟨ob,s _ _ q⟩)
  ·exact .inr q
 ·rcases q with⟨ob,q⟩|q
  ·exact .inl ⟨ob,s _ _ q⟩
  ·exact .inr q
theorem bT(h:H q=none)(o':HO):Bl K H (upd H q o'):=gX (dR h o')
end
abbrev NK:=List (List Int)
def hNK(ks:NK):Int:=reduceHash (Builtin.Tuple.tupleHashOf (ks.map fun k=>reduceHash (Builtin.Tuple.tupleHashOf (k.map hashInt))))
abbrev KN:List ((NK×Addr)×V)->List (NK×Addr×Value)->Prop:=Paired fun p q=>p.1.1=q.1/\p.1.2=q.2.1/\cD p.2 q.2.2
def dNo(a:Addr)(kvs:List ((NK×Addr)×V)):HO:=.ext fun h=>kvs.length<=sizeLine/\(a == sysModules)=false/\∃xs,KN kvs xs/\
 ∃o es ep,h.get? a=some o/\o.ExactDict/\o.data=.dict es ep/\es.toList=(xs.map fun x=>(⟨hNK x.1,.ref x.2.1,x.2.2⟩:DictEntry))/\(xs.map (·.1)).Nodup
def nH(K:Q1)(H:Hp)(b:Addr)(k:NK):Prop:=∃cs:List Addr,SqT K H b (cs.map V.ref)/\Paired (fun(l:List Int) c=>SqT K H c (l.map V.int)) k cs
theorem nH.mono{K:Q1}{H H':Hp}{b:Addr}{k:NK}(e:Bl K H H')(h:nH K H b k):nH K H' b k:=let ⟨cs,p,q⟩:=h;⟨cs,e.t _ _ p,Paired.mapP q fun _ _ z=>e.t _ _ z⟩
def nP(kvs:List ((NK×Addr)×V)):List (NK×V):=kvs.map fun p=>(p.1.1,p.2)
def IsP{κ:Type}(K:Q1)(m:List Addr)(H:Hp)(kvs:List (κ×V))(kus:List (κ×U)):Prop:=kvs.map (·.1)=kus.map (·.1)/\IsL K m H (kvs.map (·.2)) (kus.map (·.2))
def Rf(K:Q1)(m:List Addr)(H:Hp):Option V->Option U->Prop
 |some v,some u=>Is K m H v u
 |none,none=>True
 |_,_=>False
structure InF(K:Q1)(m:List Addr)(H:Hp)(c:Cl)(fs:List (Str×V))(fus:List (Option U)):Prop where
 nd:c.ns.Nodup
 few:c.ns.length<1000
 knd:(fs.map (·.1)).Nodup
 sub:∀x∈fs.map (·.1),x∈c.ns
 len:fus.length=c.ns.length
 at_:∀(i:Nat) (x:Str),c.ns[i]?=some x->Rf K m H (fs.lookup x) ((fus[i]?).join)
theorem Rf.mono{K:Q1}{m m':List Addr}{H H':Hp}{v:Option V}{u:Option U}(e:Ext K m H m' H')(h:Rf K m H v u):Rf K m' H' v u:=by
 cases v with
 |none=>cases u with
  |none=>trivial
  |some u=>exact h.elim
 |some v=>cases u with
  |none=>exact h.elim
  |some u=>exact Is.mono e h
theorem InF.mono{K:Q1}{m m':List Addr}{H H':Hp}{c:Cl}{fs:List (Str×V)}{fus:List (Option U)}(e:Ext K m H m' H')(h:InF K m H c fs fus):InF K m' H' c fs fus:=⟨h.nd,h.few,h.knd,h.sub,h.len,fun i x q=>(h.at_ i x q).mono e⟩
def Ob(K:Q1)(m:List Addr)(H:Hp)(a:Addr):O->Prop
 |.lst us=>∃xs,H a=some (.lst xs)/\IsL K m H xs us
 |.dic kus=>∃kvs,H a=some (.dK kvs)/\IsP K m H kvs kus
 |.ins c fus=>∃dx fs,H a=some (.ins c.C dx fs)/\InF K m H c fs fus
 |.fdc ep kus=>∃ob es kvs,H a=some (.frz ob (.dK kvs))/\ob.data=.dict es ep/\IsP K m H kvs kus
 |.dit kus=>∃kvs,H a=some (.dT kvs)/\IsP K m H kvs kus
 |.fdt ep kus=>∃ob es kvs,H a=some (.frz ob (.dT kvs))/\ob.data=.dict es ep/\IsP K m H kvs kus
 |.dnt kus=>∃kvs,H a=some (dNo a kvs)/\(∀p∈kvs,nH K H p.1.2 p.1.1)/\IsP K m H (nP kvs) kus
 |.fdn ep kus=>∃ob es kvs,H a=some (.frz ob (dNo a kvs))/\ob.data=.dict es ep/\(∀p∈kvs,nH K H p.1.2 p.1.1)/\IsP K m H (nP kvs) kus
structure Sr(K:Q1)(m:List Addr)(S:Sto)(H:Hp):Prop where
 len:m.length=S.length
 nd:m.Nodup
 ob:∀(l:Nat) (a:Addr) (o:O),m[l]?=some a->S[l]?=some o->Ob K m H a o
structure Lr(K:Q1)(m:List Addr)(H:Hp)(ρ:Rho)(σ:L2.St):Prop where
 len:ρ.length=σ.length
 at_:∀(i:Nat) (u:U),ρ[i]?=some (some u)->∃v,σ[i]?=some (some v)/\Is K m H v u
section
variable{κ:Type}{K:Q1}{m m':List Addr}{H H':Hp}{S:Sto}{ρ:Rho}{σ:L2.St}{a q:Addr}{l:Nat}{o:O}{ho:HO}{us:List U}{v:V}{u:U}{kvs:List (κ×V)}{kus:List (κ×U)}
theorem IsP.mono(e:Ext K m H m' H')(h:IsP K m H kvs kus):IsP K m' H' kvs kus:=⟨h.1,h.2.mono e⟩
theorem IsP.length(h:IsP K m H kvs kus):kvs.length=kus.length:=by have:=h.2.length;simpa using this
theorem IsP.nil_:IsP (κ:=κ) K m H [] []:=⟨rfl,.nil_⟩
theorem IsP.cons_{k:κ}(h:Is K m H v u)(t:IsP K m H kvs kus):IsP K m H ((k,v)::kvs) ((k,u)::kus):=⟨by simp[t.1],.cons_ h t.2⟩
theorem IsP.ind{P:List (κ×V)->List (κ×U)->Prop}(h0:P [] [])(h1:∀k v u kvs kus,Is K m H v u->IsP K m H kvs kus->P kvs kus->P ((k,v)::kvs) ((k,u)::kus)):∀{kvs:List (κ×V)} {kus:List (κ×U)},IsP K m H kvs kus->P kvs kus
 |[],[],_=>h0
 |[],p::r,h=>by have:=h.length;simp at this
 |p::r,[],h=>by have:=h.length;simp at this
 |(k,v)::r,(k',u)::r',h=>by
  obtain⟨e,i⟩:=h;simp only[QX,List.cons.injEq]at e;obtain⟨e1,e2⟩:=e;subst e1;obtain⟨x,t,e3,iu,it⟩:=i.of_cons;cases e3;exact h1 k v u r r' iu ⟨e2,it⟩ (IsP.ind h0 h1 (⟨e2,it⟩:IsP K m H r r'))
theorem Ob.mono(e:Ext K m H m' H')(h1:H' a=H a)(h:Ob K m H a o):Ob K m' H' a o:=by
 cases o with
 |lst us=>obtain⟨xs,k,i⟩:=h;exact⟨xs,h1.trans k,i.mono e⟩
 |dic kus=>obtain⟨xs,k,i⟩:=h;exact⟨xs,h1.trans k,i.mono e⟩
 |ins C fus=>obtain⟨dx,fs,k,i⟩:=h;exact⟨dx,fs,h1.trans k,i.mono e⟩
 |fdc ep kus=>obtain⟨ob,es,kvs,k,d,i⟩:=h;exact⟨ob,es,kvs,h1.trans k,d,i.mono e⟩
 |dit kus=>obtain⟨xs,k,i⟩:=h;exact⟨xs,h1.trans k,i.mono e⟩
 |fdt ep kus=>obtain⟨ob,es,kvs,k,d,i⟩:=h;exact⟨ob,es,kvs,h1.trans k,d,i.mono e⟩
 |dnt kus=>obtain⟨kvs,k,y,i⟩:=h;exact⟨kvs,h1.trans k,fun p hp=>(y p hp).mono e.keep,i.mono e⟩
 |fdn ep kus=>obtain⟨ob,es,kvs,k,d,y,i⟩:=h;exact⟨ob,es,kvs,h1.trans k,d,fun p hp=>(y p hp).mono e.keep,i.mono e⟩
theorem Ob.some(h:Ob K m H a o):∃ho,H a=some ho/\(∀xs,ho≠.tup xs)/\(∀ob xs,ho≠.frz ob (.tup xs))/\(∀ob xs,ho≠.frz ob (.lst xs)):=by
 cases o with
 |lst us=>obtain⟨xs,k,i⟩:=h;exact⟨_,k,by simp,by simp,by simp⟩
 |dic kus=>obtain⟨xs,k,i⟩:=h;exact⟨_,k,by simp,by simp,by simp⟩
 |ins C fus=>obtain⟨dx,fs,k,i⟩:=h;exact⟨_,k,by simp,by simp,by simp⟩
 |fdc ep kus=>obtain⟨ob,es,kvs,k,d,i⟩:=h;exact⟨_,k,by simp,by simp,by simp⟩
 |dit kus=>obtain⟨xs,k,i⟩:=h;exact⟨_,k,by simp,by simp,by simp⟩
 |fdt ep kus=>obtain⟨ob,es,kvs,k,d,i⟩:=h;exact⟨_,k,by simp,by simp,by simp⟩
 |dnt kus=>obtain⟨kvs,k,y,i⟩:=h;exact⟨_,k,by simp[dNo],by simp[dNo],by simp[dNo]⟩
 |fdn ep kus=>obtain⟨ob,es,kvs,k,d,y,i⟩:=h;exact⟨_,k,by simp,by simp[dNo],by simp[dNo]⟩
theorem Lr.mono(e:Ext K m H m' H')(h:Lr K m H ρ σ):Lr K m' H' ρ σ:=⟨h.len,fun i u e1=>let ⟨v,e2,e3⟩:=h.at_ i u e1;⟨v,e2,e3.mono e⟩⟩
theorem Lr.set(h:Lr K m H ρ σ)(i:Nat)(hv:Is K m H v u):Lr K m H (ρ.set i (some u)) (σ.set i (some v)):=by
 refine⟨by simp[h.len],fun j w e=>?_⟩;by_cases c:i=j
 ·subst c;rw[List.getElem?_set_self' ]at e;rw[List.getElem?_set_self'];have hl:=h.len;cases e1:ρ[i]? with
  |none=>rw[e1]at e;simp at e
  |some z=>
   rw[e1]at e;simp at e;subst e;have:i < σ.length:=by rw[<-hl];exact(Q9.mp e1).1
   rw[Q8 this];exact⟨v,rfl,hv⟩
 ·rw[Qy c]at e;rw[Qy c];exact h.at_ j w e
theorem Sr.get(r:Sr K m S H)(h:S[l]?=some o):∃a,m[l]?=some a/\Ob K m H a o:=by
 have hl:l<m.length:=by rw[r.len];exact(Q9.mp h).1
 exact⟨_,Q8 hl,r.ob _ _ _ (Q8 hl) h⟩
theorem Sr.at_(r:Sr K m S H)(h:m[l]?=some a):∃o,S[l]?=some o/\Ob K m H a o:=by
 have hl:l<S.length:=by rw[<-r.len];exact(Q9.mp h).1
 exact⟨_,Q8 hl,r.ob _ _ _ h (Q8 hl)⟩
theorem Sr.same(r:Sr K m S H)(s:vi H H'):Sr K m S H':=⟨r.len,r.nd,fun l a o h1 h2=>by
 have q:=r.ob l a o h1 h2;obtain⟨ho,e,_⟩:=q.some;exact q.mono (.of (gX s)) (by rw[s _ _ e,e])⟩
theorem Sr.new(r:Sr K m S H)(h:H q=none)(n:Ob K (m++[q]) (upd H q ho) q o):Sr K (m++[q]) (S++[o]) (upd H q ho):=by
 have hq:q∉m:=fun z=>by
  obtain⟨l,e⟩:=List.getElem?_of_mem z;obtain⟨o,_,k⟩:=r.at_ e;obtain⟨ho,e2,_⟩:=k.some;rw[h]at e2;cases e2
 refine⟨by simp[r.len],?_,fun l a o' h1 h2=>?_⟩
 ·rw[Qe];exact⟨r.nd,by simp,fun x hx y hy z=>by simp at hy;subst hy;subst z;exact hq hx⟩
 ·by_cases c:l<m.length
  ·rw[QN c]at h1;rw[QN (by rw[<-r.len];exact c)]at h2;have q':=r.ob l a o' h1 h2;obtain⟨ho',e,_⟩:=q'.some;exact q'.mono (.new (bT h _)) (by rw[bA (cP e h)])
  ·have e:l=m.length:=by
    have:=(Q9.mp h1).1;simp at this;omega
   subst e;rw[Qx (QZ _)]at h1;rw[Qx (by rw[r.len];exact QZ _)]at h2;simp[r.len]at h1 h2;subst h1;subst h2;exact n
theorem Sr.put(r:Sr K m S H)(h:m[l]?=some a)(n:Ob K m (upd H a ho) a o):Sr K m (S.set l o) (upd H a ho):=by
 obtain⟨o0,h0,k0⟩:=r.at_ h;obtain⟨ho',e,nt,nf,nl⟩:=k0.some;refine⟨by simp[r.len],r.nd,fun l' a' o' h1 h2=>?_⟩;by_cases c:l=l'
 ·subst c;rw[h]at h1;cases h1;rw[ZP (Q9.mp h0).1]at h2;cases h2;exact n
 ·rw[Qy c]at h2;have na:a'≠a:=fun z=>by
   subst z;obtain⟨p1,e1⟩:=Q9.mp h;obtain⟨p2,e2⟩:=Q9.mp h1;exact c ((List.getElem_inj r.nd).mp (e1.trans e2.symm))
  exact(r.ob l' a' o' h1 h2).mono (.of (wq e nt nf nl _)) (by rw[bA na])
theorem Sr.keep(r:Sr K m S H)(h:m[l]?=some a)(ho:HO):Bl K H (upd H a ho):=by
 obtain⟨o0,h0,k0⟩:=r.at_ h;obtain⟨ho',e,nt,nf,nl⟩:=k0.some;exact wq e nt nf nl _
end
def l7(K:Q1)(m:List Addr)(H:Hp)(Q:VK)(u:U)(S':Sto):Prop:=∀m' v H',Ext K m H m' H'->Sr K m' S' H'->Is K m' H' v u->Q v H'
abbrev CE:=Rho->Sto->Option (U×Sto)
abbrev CT:=Rho->Sto->Option (Bool×Sto)
abbrev CA:=Rho->Sto->Option (List U×Sto)
inductive Out where
 |nx|rt (u:U)|bk|ct
abbrev CS:=Rho->Sto->Option (Out×Rho×Sto)
def DC(K:Q1)(m:List Addr)(H:Hp)(Q:Bool->Hp->Prop)(b:Bool)(S':Sto):Prop:=∀m' H',Ext K m H m' H'->Sr K m' S' H'->Q b H'
def NC(K:Q1)(m:List Addr)(H:Hp)(Q:List V->Hp->Prop)(us:List U)(S':Sto):Prop:=∀m' vs H',Ext K m H m' H'->Sr K m' S' H'->IsL K m' H' vs us->Q vs H'
def iS(K:Q1)(m:List Addr)(H:Hp)(Q:L2.St->Hp->Prop)(ρ':Rho)(S':Sto):Prop:=∀m' σ' H',Ext K m H m' H'->Sr K m' S' H'->Lr K m' H' ρ' σ'->Q σ' H'
def xV(K:Q1)(m:List Addr)(H:Hp)(D:Bo):Out->Rho->Sto->Prop
 |.nx,ρ',S'=>iS K m H D.nx ρ' S'
 |.bk,ρ',S'=>iS K m H D.bk ρ' S'
 |.ct,ρ',S'=>iS K m H D.ct ρ' S'
 |.rt u,_,S'=>l7 K m H D.rt u S'
theorem mF{α β γ δ ε:Type}{A B C D:α->β->γ->δ->ε->Prop}{p:Prop}(h:∃a b c d e,A a b c d e/\B a b c d e/\C a b c d e/\D a b c d e)(f:∀a b c d e,A a b c d e->B a b c d e->C a b c d e->D a b c d e->p):p:=by
 obtain⟨a,b,c,d,e,h1,h2,h3,h4⟩:=h;exact f a b c d e h1 h2 h3 h4
theorem uv{α β γ δ ε ζ:Type}{A B C D:α->β->γ->δ->ε->ζ->Prop}{p:Prop}(h:∃a b c d e g,A a b c d e g/\B a b c d e g/\C a b c d e g/\D a b c d e g)(f:∀a b c d e g,A a b c d e g->B a b c d e g->C a b c d e g->D a b c d e g->p):p:=by
 obtain⟨a,b,c,d,e,g,h1,h2,h3,h4⟩:=h;exact f a b c d e g h1 h2 h3 h4
theorem Oo{α β γ δ ε ζ:Type}{A B C D E:α->β->γ->δ->ε->ζ->Prop}{p:Prop}(h:∃a b c d e g,A a b c d e g/\B a b c d e g/\C a b c d e g/\D a b c d e g/\E a b c d e g)(f:∀a b c d e g,A a b c d e g->B a b c d e g->C a b c d e g->D a b c d e g->E a b c d e g->p):p:=by
 obtain⟨a,b,c,d,e,g,h1,h2,h3,h4,h5⟩:=h;exact f a b c d e g h1 h2 h3 h4 h5
def tE(K:Q1)(c:CE):TE:=fun σ H Q=>∃m ρ S u S',Sr K m S H/\Lr K m H ρ σ/\c ρ S=some (u,S')/\l7 K m H Q u S'
def tT(K:Q1)(c:CT):TT:=fun σ H Q=>∃m ρ S u S',Sr K m S H/\Lr K m H ρ σ/\c ρ S=some (u,S')/\DC K m H Q u S'
def tA(K:Q1)(c:CA):TA:=fun σ H Q=>∃m ρ S u S',Sr K m S H/\Lr K m H ρ σ/\c ρ S=some (u,S')/\NC K m H Q u S'
def tS(K:Q1)(c:CS):TS:=fun D σ H=>∃m ρ S o ρ' S',Sr K m S H/\Lr K m H ρ σ/\c ρ S=some (o,ρ',S')/\xV K m H D o ρ' S'
abbrev QE(X:Cx)(e:Expr)(c:CE):Prop:=WE X e (tE X.K c)
abbrev QT(X:Cx)(e:Expr)(c:CT):Prop:=WT X e (tT X.K c)
abbrev QW(X:Cx)(e:Expr)(c:CT):Prop:=WW X e (tT X.K c)
abbrev QS(X:Cx)(e:Stmt)(c:CS):Prop:=WS X e (tS X.K c)
abbrev QSs(X:Cx)(e:List Stmt)(c:CS):Prop:=WSs X e (tS X.K c)
structure QA(X:Cx)(es:List Expr)(c:CA):Prop where
 h:WA X es (tA X.K c)
 len:∀ρ S us S',c ρ S=some (us,S')->us.length=es.length
section
variable{X:Cx}{e:Expr}{es:List Expr}{st:Stmt}{sts:List Stmt}
theorem _root_.OG.WE.imp{t t':TE}(h:WE X e t)(i:∀σ H Q,t' σ H Q->t σ H Q):WE X e t':=⟨fun pins s σ H Q I k=>h.h pins s σ H Q I (i σ H Q k)⟩
theorem _root_.OG.WT.imp{t t':TT}(h:WT X e t)(i:∀σ H Q,t' σ H Q->t σ H Q):WT X e t':=⟨fun pins s σ H Q I k=>h.h pins s σ H Q I (i σ H Q k)⟩
theorem _root_.OG.WW.imp{t t':TT}(h:WW X e t)(i:∀σ H Q,t' σ H Q->t σ H Q):WW X e t':=⟨fun wh pins s σ H Q I k=>h.h wh pins s σ H Q I (i σ H Q k)⟩
theorem _root_.OG.WA.imp{t t':TA}(h:WA X es t)(i:∀σ H Q,t' σ H Q->t σ H Q):WA X es t':=⟨fun pos pins s σ H Q I k=>h.h pos pins s σ H Q I (i σ H Q k)⟩
theorem _root_.OG.WS.imp{t t':TS}(h:WS X st t)(i:∀D σ H,t' D σ H->t D σ H):WS X st t':=⟨fun pins s σ H D I k=>h.h pins s σ H D I (i D σ H k)⟩
theorem _root_.OG.WSs.imp{t t':TS}(h:WSs X sts t)(i:∀D σ H,t' D σ H->t D σ H):WSs X sts t':=⟨fun pins s σ H D I k=>h.h pins s σ H D I (i D σ H k)⟩
theorem _root_.OG.WI.imp{tg:Expr}{t t':TI}(h:WI X tg e t)(i:∀σ H R,t' σ H R->t σ H R):WI X tg e t':=⟨fun pins s σ H R I k=>h.h pins s σ H R I (i σ H R k)⟩
theorem _root_.OG.WG.imp{t t':TG}(h:WG X e t)(i:∀v σ H Q,t' v σ H Q->t v σ H Q):WG X e t':=⟨fun pins s σ H v u Q I r k=>h.h pins s σ H v u Q I r (i v σ H Q k)⟩
theorem _root_.OG.WGs.imp{t t':TGs}(h:WGs X es t)(i:∀v σ H Q,t' v σ H Q->t v σ H Q):WGs X es t':=⟨fun pins s σ H v u Q I r k=>h.h pins s σ H v u Q I r (i v σ H Q k)⟩
theorem _root_.OG.WE.or{t t':TE}(h:WE X e t)(h':WE X e t'):WE X e (fun σ H Q=>t σ H Q\/t' σ H Q):=⟨fun pins s σ H Q I k=>k.elim (h.h pins s σ H Q I) (h'.h pins s σ H Q I)⟩
theorem _root_.OG.WT.or{t t':TT}(h:WT X e t)(h':WT X e t'):WT X e (fun σ H Q=>t σ H Q\/t' σ H Q):=⟨fun pins s σ H Q I k=>k.elim (h.h pins s σ H Q I) (h'.h pins s σ H Q I)⟩
theorem _root_.OG.WS.or{t t':TS}(h:WS X st t)(h':WS X st t'):WS X st (fun D σ H=>t D σ H\/t' D σ H):=⟨fun pins s σ H D I k=>k.elim (h.h pins s σ H D I) (h'.h pins s σ H D I)⟩
theorem _root_.OG.WI.or{tg:Expr}{t t':TI}(h:WI X tg e t)(h':WI X tg e t'):WI X tg e (fun σ H D=>t σ H D\/t' σ H D):=⟨fun pins s σ H D I k=>k.elim (h.h pins s σ H D I) (h'.h pins s σ H D I)⟩
end
section
variable{K:Q1}{m m':List Addr}{H H':Hp}{Q:VK}{R:L2.St->Hp->Prop}{D:Bo}{u:U}{o:Out}{S':Sto}{ρ':Rho}
theorem l7.mono(e:Ext K m H m' H')(p:l7 K m H Q u S'):l7 K m' H' Q u S':=fun m2 v H2 e2 r i=>p m2 v H2 (e.trans e2) r i
theorem DC.mono{Q:Bool->Hp->Prop}{b:Bool}(e:Ext K m H m' H')(p:DC K m H Q b S'):DC K m' H' Q b S':=fun m2 H2 e2 r=>p m2 H2 (e.trans e2) r
theorem iS.mono(e:Ext K m H m' H')(p:iS K m H R ρ' S'):iS K m' H' R ρ' S':=fun m2 v H2 e2 r i=>p m2 v H2 (e.trans e2) r i
theorem xV.mono(e:Ext K m H m' H')(p:xV K m H D o ρ' S'):xV K m' H' D o ρ' S':=by
 cases o with
 |nx=>exact iS.mono e p
 |rt u=>exact l7.mono e p
 |bk=>exact iS.mono e p
 |ct=>exact iS.mono e p
end
def LIM:Nat:=100000
theorem lim{n:Nat}(h:n<=LIM):n<=sizeLine:=Qj h (by unfold LIM sizeLine;decide)
theorem Hl{n:Nat}(h:n<LIM):n<sizeLine:=Qu h (by unfold LIM sizeLine;decide)
def ag(i:Nat):CE:=fun ρ S=>match ρ[i]? with
 |some (some u)=>some (u,S)
 |_=>none
def cC(u:U):CE:=fun _ S=>some (u,S)
section
variable{X:Cx}{e a b c:Expr}{ca cb:CE}{pos:Pos}
theorem ab{i:Nat}(h:WE X e (Le i)):QE X e (ag i):=h.imp fun σ H Q hz=>mF hz fun m ρ S u S' sr lr hc post=>by
 unfold ag at hc;split at hc
 ·rename_i u' e;cases hc;obtain⟨v,e1,e2⟩:=lr.at_ i u e;exact⟨v,e1,post m v H .refl sr e2⟩
 ·cases hc
theorem q_c{v:V}{u:U}(h:WE X e (tC v))(hi:∀m H,Is X.K m H v u):QE X e (cC u):=h.imp fun σ H Q hz=>mF hz fun m ρ S u' S' sr lr hc post=>by
 cases hc;exact post m v H .refl sr (hi m H)
theorem aD{i:Int}(h:WE X e (tC (.int i))):QE X e (cC (.int i)):=q_c h fun _ _=>.int_
theorem n5{i:Bool}(h:WE X e (tC (.bl i))):QE X e (cC (.bl i)):=q_c h fun _ _=>.bl_
theorem bI{i:Str}(h:WE X e (tC (.str i))):QE X e (cC (.str i)):=q_c h fun _ _=>.str_
theorem Jq(h:WE X e (tC .non)):QE X e (cC .non):=q_c h fun _ _=>.non_
def cOp(f:U->U->Sto->Option (U×Sto))(ca cb:CE):CE:=fun ρ S=>(ca ρ S).bind fun p=>(cb ρ p.2).bind fun q=>f p.1 q.1 q.2
def OpP(K:Q1)(r:R2)(f:U->U->Sto->Option (U×Sto)):Prop:=
 ∀m S H x y v w u S' Q,Sr K m S H->Is K m H v x->Is K m H w y->f x y S=some (u,S')->l7 K m H Q u S'->r v w H Q
theorem zA{K:Q1}{r:R2}{f:U->U->Sto->Option (U×Sto)}(hp:OpP K r f):∀σ H Q,tE K (cOp f ca cb) σ H Q->tOp r (tE K ca) (tE K cb) σ H Q:=by
 rintro σ H Q ⟨m,ρ,S,u,S',sr,lr,hc,post⟩;obtain⟨⟨x,S1⟩,h1,h⟩:=Q0.mp hc;obtain⟨⟨y,S2⟩,h2,h3⟩:=Q0.mp h;exact⟨m,ρ,S,x,S1,sr,lr,h1,fun m1 v1 H1 e1 sr1 i1=>⟨m1,ρ,S1,y,S2,sr1,lr.mono e1,h2,fun m2 v2 H2 e2 sr2 i2=>hp m2 S2 H2 x y v1 v2 u S' Q sr2 (i1.mono e2) i2 h3 (post.mono (e1.trans e2))⟩⟩
theorem iL{op:Operator}{r:R2}{f:U->U->Sto->Option (U×Sto)}(ho:OpR X (binaryOp op) r)(hp:OpP X.K r f)(ha:QE X a ca)(hb:QE X b cb):QE X (.BinOp a op b pos) (cOp f ca cb):=(IJ ho ha hb).imp (zA hp)
theorem xk{op:CmpOp}{r:R2}{f:U->U->Sto->Option (U×Sto)}(ho:OpR X (compareOp op) r)(hp:OpP X.K r f)(ha:QE X a ca)(hb:QE X b cb)(hm:behindInMarks op b=false):QE X (.Compare a [op] [b] pos) (cOp f ca cb):=(qE ho ha hb hm).imp (zA hp)
def aF(c:CE):CT:=fun ρ S=>(c ρ S).bind fun p=>match p.1 with
 |.bl b=>some (b,p.2)
 |_=>none
theorem kO{K:Q1}{c:CE}{t:TE}(h:∀σ H Q,tE K c σ H Q->t σ H Q):∀σ H Q,tT K (aF c) σ H Q->t σ H fun x H'=>∃k,x=.bl k/\Q k H':=by
 rintro σ H Q ⟨m,ρ,S,u,S',sr,lr,hc,post⟩;obtain⟨⟨x,S1⟩,h1,h2⟩:=Q0.mp hc;refine h σ H _ ⟨m,ρ,S,x,S1,sr,lr,h1,fun m1 v1 H1 e1 sr1 i1=>?_⟩;cases x<;>simp at h2;obtain⟨rfl,rfl⟩:=h2;exact⟨_,i1.of_bl,post m1 H1 e1 sr1⟩
theorem bc{op:CmpOp}{r:R2}{f:U->U->Sto->Option (U×Sto)}(ho:OpR X (compareOp op) r)(hp:OpP X.K r f)(ha:QE X a ca)(hb:QE X b cb)(hm:behindInMarks op b=false):QT X (.Compare a [op] [b] pos) (aF (cOp f ca cb)):=(qD ho ha hb hm).imp (kO (zA hp))
theorem fA(h:QE X e ca)(he:∀whole,isTrue e X.env whole=(do let v <-whole;standAt e.pos;holding [v] (truthy v)):=by intro _;rfl):QT X e (aF ca):=(E7 h he).imp (kO fun _ _ _ z=>z)
variable{ta tb:CT}{rest:List Expr}
def pD(ta tb:CT):CT:=fun ρ S=>(ta ρ S).bind fun p=>if p.1=true then tb ρ p.2 else some (false,p.2)
def cOr(ta tb:CT):CT:=fun ρ S=>(ta ρ S).bind fun p=>if p.1=true then some (true,p.2)else tb ρ p.2
def x5(ta:CT):CT:=fun ρ S=>(ta ρ S).bind fun p=>some (!p.1,p.2)
theorem si(h:QW X e ta):QT X e ta:=WW.pt h
theorem iM(ha:QT X a ta):QW X (.BoolOp .And [a] pos) ta:=Bq ha
theorem y8(ha:QT X a ta):QW X (.BoolOp .Or [a] pos) ta:=E5 ha
theorem ko(ha:QT X a ta)(hb:QW X (.BoolOp .And (b::rest) pos) tb):QW X (.BoolOp .And (a::b::rest) pos) (pD ta tb):=(E6 ha hb).imp fun σ H Q hz=>mF hz fun m ρ S u S' sr lr hc post=>by
 obtain⟨⟨x,S1⟩,h1,h2⟩:=Q0.mp hc;refine⟨m,ρ,S,x,S1,sr,lr,h1,fun m1 H1 e1 sr1=>?_⟩;cases x with
 |true=>exact Hm ⟨m1,ρ,S1,u,S',sr1,lr.mono e1,h2,post.mono e1⟩
 |false=>cases h2;exact Hn (post m1 H1 e1 sr1)
theorem Hk(ha:QT X a ta)(hb:QW X (.BoolOp .Or (b::rest) pos) tb):QW X (.BoolOp .Or (a::b::rest) pos) (cOr ta tb):=(IF ha hb).imp fun σ H Q hz=>mF hz fun m ρ S u S' sr lr hc post=>by
 obtain⟨⟨x,S1⟩,h1,h2⟩:=Q0.mp hc;refine⟨m,ρ,S,x,S1,sr,lr,h1,fun m1 H1 e1 sr1=>?_⟩;cases x with
 |true=>cases h2;exact Hm (post m1 H1 e1 sr1)
 |false=>exact Hn ⟨m1,ρ,S1,u,S',sr1,lr.mono e1,h2,post.mono e1⟩
theorem p9(ha:QT X a ta):QT X (.UnaryOp .Not a pos) (x5 ta):=(E8 ha).imp fun σ H Q hz=>mF hz fun m ρ S u S' sr lr hc post=>by
 obtain⟨⟨x,S1⟩,h1,h2⟩:=Q0.mp hc;cases h2;exact⟨m,ρ,S,x,_,sr,lr,h1,fun m1 H1 e1 sr1=>post m1 H1 e1 sr1⟩
def rD(ca cb:CE):CE:=fun ρ S=>(ca ρ S).bind fun p=>match p.1 with
 |.bl true=>cb ρ p.2
 |.bl false=>some (.bl false,p.2)
 |_=>none
def Lw(ca cb:CE):CE:=fun ρ S=>(ca ρ S).bind fun p=>match p.1 with
 |.bl false=>cb ρ p.2
 |.bl true=>some (.bl true,p.2)
 |_=>none
def xS(ca:CE):CE:=fun ρ S=>(ca ρ S).bind fun p=>match p.1 with
 |.bl b=>some (.bl (!b),p.2)
 |_=>none
theorem za{op}(h:QE X a ca):QE X (.BoolOp op [a] pos) ca:=Fe h
theorem vV(ha:QE X a ca)(hb:QE X (.BoolOp .And (b::rest) pos) cb):QE X (.BoolOp .And (a::b::rest) pos) (rD ca cb):=(Fi ha hb).imp fun σ H Q hz=>mF hz fun m ρ S u S' sr lr hc post=>by
 obtain⟨⟨x,S1⟩,h1,h2⟩:=Q0.mp hc;refine⟨m,ρ,S,x,S1,sr,lr,h1,fun m1 v1 H1 e1 sr1 i1=>?_⟩;cases x with
 |bl k=>
  refine⟨k,i1.of_bl,?_⟩;cases k with
  |true=>exact Hm ⟨m1,ρ,S1,u,S',sr1,lr.mono e1,h2,post.mono e1⟩
  |false=>cases h2;exact Hn (post m1 _ H1 e1 sr1 .bl_)
 |_=>simp at h2
theorem MH(ha:QE X a ca)(hb:QE X (.BoolOp .Or (b::rest) pos) cb):QE X (.BoolOp .Or (a::b::rest) pos) (Lw ca cb):=(II ha hb).imp fun σ H Q hz=>mF hz fun m ρ S u S' sr lr hc post=>by
 obtain⟨⟨x,S1⟩,h1,h2⟩:=Q0.mp hc;refine⟨m,ρ,S,x,S1,sr,lr,h1,fun m1 v1 H1 e1 sr1 i1=>?_⟩;cases x with
 |bl k=>
  refine⟨k,i1.of_bl,?_⟩;cases k with
  |false=>exact Hn ⟨m1,ρ,S1,u,S',sr1,lr.mono e1,h2,post.mono e1⟩
  |true=>cases h2;exact Hm (post m1 _ H1 e1 sr1 .bl_)
 |_=>simp at h2
theorem Jp(ha:QE X a ca):QE X (.UnaryOp .Not a pos) (xS ca):=(Ff ha).imp fun σ H Q hz=>mF hz fun m ρ S u S' sr lr hc post=>by
 obtain⟨⟨x,S1⟩,h1,h2⟩:=Q0.mp hc;refine⟨m,ρ,S,x,S1,sr,lr,h1,fun m1 v1 H1 e1 sr1 i1=>?_⟩;cases x with
 |bl k=>cases h2;exact⟨k,i1.of_bl,post m1 _ H1 e1 sr1 .bl_⟩
 |_=>simp at h2
variable{es:List Expr}{cr:CA}
def aG:CA:=fun _ S=>some ([],S)
def af(ca:CE)(cr:CA):CA:=fun ρ S=>(ca ρ S).bind fun p=>(cr ρ p.2).bind fun q=>some (p.1::q.1,q.2)
theorem ay:QA X [] aG:=⟨mf.imp fun σ H Q hz=>mF hz fun m ρ S u S' sr lr hc post=>by cases hc;exact post m [] H .refl sr .nil_,fun ρ S us S' h=>by cases h;rfl⟩
theorem ae(ha:QE X e ca)(hr:QA X es cr)(hs:starEach (e::es) X.env=(false,eval e X.env)::starEach es X.env:=by rfl):QA X (e::es) (af ca cr):=⟨(fB ha hr.h hs).imp fun σ H Q hz=>mF hz fun m ρ S u S' sr lr hc post=>by
 obtain⟨⟨x,S1⟩,h1,h⟩:=Q0.mp hc;obtain⟨⟨y,S2⟩,h2,h3⟩:=Q0.mp h;cases h3;exact⟨m,ρ,S,x,S1,sr,lr,h1,fun m1 v1 H1 e1 sr1 i1=>⟨m1,ρ,S1,y,S2,sr1,lr.mono e1,h2,fun m2 v2 H2 e2 sr2 i2=>post m2 _ H2 (e1.trans e2) sr2 (.cons_ (i1.mono e2) i2)⟩⟩,
 fun ρ S us S' h=>by
 obtain⟨⟨x,S1⟩,h1,h⟩:=Q0.mp h;obtain⟨⟨y,S2⟩,h2,h3⟩:=Q0.mp h;cases h3;simp[hr.len ρ S1 y S2 h2]⟩
def gp(cr:CA):CE:=fun ρ S=>(cr ρ S).bind fun p=>some (.tup p.1,p.2)
def iU(cr:CA):CE:=fun ρ S=>(cr ρ S).bind fun p=>some (.ref p.2.length,p.2++[.lst p.1])
theorem dB{m:List Addr}{S:Sto}{q:Addr}(h:m.length=S.length):(m++[q])[S.length]?=some q:=by rw[Qx (by omega)];simp[h]
theorem qO{K:Q1}{m:List Addr}{H:Hp}{S:Sto}{us:List U}{xs:List V}{Q:VK}{p:Addr}(sr:Sr K m S H)(i:IsL K m H xs us)(post:l7 K m H Q (.tup us) S)(hp:H p=none):Q (.ref p) (upd H p (.tup xs)):=
 post m _ _ (.of (bT hp _)) (sr.same (dR hp _)) (.tup_ (SqT.of aN) (i.mono (.of (bT hp _))))
theorem dX{K:Q1}{m:List Addr}{H:Hp}{S:Sto}{us:List U}{xs:List V}{Q:VK}{p:Addr}(sr:Sr K m S H)(i:IsL K m H xs us)(post:l7 K m H Q (.ref S.length) (S++[.lst us]))(hp:H p=none):Q (.ref p) (upd H p (.lst xs)):=
 post (m++[p]) _ _ (.new (bT hp _)) (sr.new hp ⟨xs,aN,i.mono (.new (bT hp _))⟩) (.ref_ (dB sr.len))
theorem eC{x1}(h:QA X es cr)(hl:es.length<=1000:=by exact Nat.le_of_ble_eq_true rfl):QE X (.Tuple es x1 pos) (gp cr):=(ym h.h).imp fun σ H Q hz=>mF hz fun m ρ S u S' sr lr hc post=>by
 obtain⟨⟨us,S1⟩,h1,h2⟩:=Q0.mp hc;cases h2;refine⟨m,ρ,S,us,_,sr,lr,h1,fun m1 v1 H1 e1 sr1 i1=>⟨D3 ?_,fun p hp=>qO sr1 i1 (post.mono e1) hp⟩⟩;rw[i1.length,h.len _ _ _ _ h1];exact hl
theorem fZ(h:QA X es cr)(hl:es.length<=1000:=by exact Nat.le_of_ble_eq_true rfl):QE X (.List es pos) (iU cr):=(yp h.h).imp fun σ H Q hz=>mF hz fun m ρ S u S' sr lr hc post=>by
 obtain⟨⟨us,S1⟩,h1,h2⟩:=Q0.mp hc;cases h2;refine⟨m,ρ,S,us,_,sr,lr,h1,fun m1 v1 H1 e1 sr1 i1=>⟨D3 ?_,fun p hp=>dX sr1 i1 (post.mono e1) hp⟩⟩;rw[i1.length,h.len _ _ _ _ h1];exact hl
def cCB(f:List U->Sto->Option (U×Sto))(cr:CA):CE:=fun ρ S=>(cr ρ S).bind fun p=>f p.1 p.2
def nz(K:Q1)(r:List V->Hp->VK->Prop)(f:List U->Sto->Option (U×Sto)):Prop:=
 ∀m S H us vs u S' Q,Sr K m S H->IsL K m H vs us->f us S=some (u,S')->l7 K m H Q u S'->r vs H Q
theorem EA{K:Q1}{r:List V->Hp->VK->Prop}{f:List U->Sto->Option (U×Sto)}(hp:nz K r f):∀σ H Q,tE K (cCB f cr) σ H Q->tCB r (tA K cr) σ H Q:=by
 rintro σ H Q ⟨m,ρ,S,u,S',sr,lr,hc,post⟩;obtain⟨⟨us,S1⟩,h1,h2⟩:=Q0.mp hc;exact⟨m,ρ,S,us,S1,sr,lr,h1,fun m1 v1 H1 e1 sr1 i1=>hp m1 S1 H1 us v1 u S' Q sr1 i1 h2 (post.mono e1)⟩
theorem cw{id:String}{x:Str}{p:Pos}{r:List V->Hp->VK->Prop}{f:List U->Sto->Option (U×Sto)}(hc:fY X (.builtin id) r)(hp:nz X.K r f)(hg:Gl X x)(hm:X.mg x=none)(hv:bootBuiltins x=some (.builtin id))(ha:QA X (e::es) cr)(hn:x≠"__name__":=by decide)(hdb:(x == ("__debug__":Str))=false:=by decide)(he:starEach (e::es) X.env=(false,eval e X.env)::starEach es X.env:=by rfl)(hpl:(backTo pos (starEach es X.env)).any (·.1)=false:=by rfl) :
  QE X (.Call (.Name x p) (e::es) [] pos) (cCB f cr):=(rS hc hg hm hv ha.h hn hdb he hpl).imp (EA hp)
theorem dU{id:String}{x:Str}{p:Pos}{r:List V->Hp->VK->Prop}{f:List U->Sto->Option (U×Sto)}(hc:fY X (.type id) r)(hp:nz X.K r f)(hg:Gl X x)(hm:X.mg x=none)(hv:bootBuiltins x=some (.type id))(ha:QA X (e::es) cr)(hn:x≠"__name__":=by decide)(hdb:(x == ("__debug__":Str))=false:=by decide)(he:starEach (e::es) X.env=(false,eval e X.env)::starEach es X.env:=by rfl)(hpl:(backTo pos (starEach es X.env)).any (·.1)=false:=by rfl) :
  QE X (.Call (.Name x p) (e::es) [] pos) (cCB f cr):=(pX hc hg hm hv ha.h hn hdb he hpl).imp (EA hp)
end
def BP(K:Q1)(f:List U->Sto->Option (U×Sto)):Sp:=fun vs H Q _=>∃m us S u S',IsL K m H vs us/\Sr K m S H/\f us S=some (u,S')/\l7 K m H Q u S'
abbrev Fn:=List U->Sto->Option (U×Sto)
abbrev cS(P:Program)(w:World)(K:Q1)(mg:Str->Option Value)(base:Heap)(x:Str)(k:Nat)(ps:List Str)(f:Fn):Prop:=Has P w K mg base x k ps (BP K f)
def se(n:Nat)(us:List U):Rho:=us.map some++Qh (n-us.length) none
def fnU(n k:Nat)(c:CS):Fn:=fun us S=>if us.length=k then(c (se n us) S).bind fun r=>match r.1 with
 |.rt u=>some (u,r.2.2)
 |.nx=>some (.non,r.2.2)
 |_=>none else none
section
variable{P:Program}{w:World}{K:Q1}{mg:Str->Option Value}{base:Heap}{x:Str}{st:Stmt}{ps N:List Str}{k:Nat}{c:CS}{f:Fn}
theorem CM{m:List Addr}{H:Hp}{vs:List V}{us:List U}(i:IsL K m H vs us):Lr K m H (se N.length us) (L2.kP N vs):=by
 have hl:=i.length;refine⟨by simp[se,L2.kP,hl],fun j u e=>?_⟩;unfold se at e;unfold L2.kP;by_cases c:j<us.length
 ·rw[QN (by simpa using c),Qb]at e;rw[QN (by simpa [hl] using c),Qb];rw[Q8 c]at e;simp at e;obtain⟨v,e1,e2⟩:=i.getD (Q8 c);rw[e1];subst e;exact⟨v,rfl,e2⟩
 ·rw[Qx (by simpa using c),ZH]at e;split at e<;>cases e
theorem An{X:Cx}{body:List Stmt}{Q:VK}{E:XK}{vs:List V}{H:Hp}(hK:X.K=K)(h:BP K (fnU N.length ps.length c) vs H Q E):tS X.K c { nx:=fun _ H'=>Q .non H',rt:=Q } (L2.kP N vs) H:=by
 subst hK;obtain⟨m,us,S,u,S',i,sr,hf,post⟩:=h;unfold fnU at hf;split at hf
 ·obtain⟨⟨o,ρ',S2⟩,h1,h2⟩:=Q0.mp hf;refine⟨m,_,S,o,ρ',S2,sr,CM i,h1,?_⟩;cases o with
  |rt v=>cases h2;exact post
  |nx=>cases h2;exact fun m1 σ1 H1 e1 sr1 _=>post m1 _ H1 e1 sr1 .non_
  |bk=>simp at h2
  |ct=>simp at h2
 ·cases hf
theorem vM{vs:List V}{H:Hp}{Q:VK}{E:XK}{n k:Nat}(h:BP K (fnU n k c) vs H Q E):vs.length=k:=by
 obtain⟨m,us,S,u,S',i,sr,hf,post⟩:=h;unfold fnU at hf;split at hf
 ·rename_i e;rw[i.length,e]
 ·cases hf
theorem _root_.OG.Def.pure(d:Def K mg x st ps)(S:aL N ps (ax st))
  (hb:∀(f:Addr) (cdv:Value) (A:Around) (outer:List Env) (s:Shared) (H:Hp) (E:XK),hU k (A.deeper (envOfC x (ax st) s.heap.objs.size f cdv))->
   WSs (wL CX0 P w K mg base N x (ax st) f cdv A outer s H E).nox (dZ st) (tS K c)):cS P w K mg base x (k+1) ps (fnU N.length ps.length c):=
 d.has S (fun vs H Q E h=>vM h) fun f cdv A outer s H vs Q E hr h=>⟨_,hb f cdv A outer s H E hr,An (X:=(wL CX0 P w K mg base N x (ax st) f cdv A outer s H E).nox) (body:=[]) (ps:=ps) rfl h⟩
theorem aV{X:Cx}{e:Expr}{es:List Expr}{cr:CA}{p pos:Pos}(F:Has X.prog X.w X.K X.mg X.base x k ps (BP X.K f))(hr:hU k X.A)(hg:Gl X x)(ha:QA X (e::es) cr)
  (hdb:(x == ("__debug__":Str))=false:=by decide) (he:starEach (e::es) X.env=(false,eval e X.env)::starEach es X.env:=by rfl) (hpl:(backTo pos (starEach es X.env)).any (·.1)=false:=by rfl) :
  QE X (.Call (.Name x p) (e::es) [] pos) (cCB f cr):=(DQ F hr hg ha.h hdb he hpl).imp fun σ H Q hz=>mF hz fun m ρ S u S' sr lr hc post=>by
 obtain⟨⟨us,S1⟩,h1,h2⟩:=Q0.mp hc;exact⟨m,ρ,S,us,S1,sr,lr,h1,fun m1 v1 H1 e1 sr1 i1=>⟨m1,us,S1,u,S',by simpa using i1,sr1,h2,post.mono e1⟩⟩
end
section
variable{X:Cx}{e a c:Expr}{ca cb:CE}{pos:Pos}{st:Stmt}{sts:List Stmt}{c1 c2:CS}
def cf:CS:=fun ρ S=>some (.nx,ρ,S)
def bj(c1 c2:CS):CS:=fun ρ S=>(c1 ρ S).bind fun r=>match r.1 with
 |.nx=>c2 r.2.1 r.2.2
 |o=>some (o,r.2.1,r.2.2)
theorem bF:QSs X [] cf:=Br.imp fun D σ H hz=>uv hz fun m ρ S o ρ' S' sr lr hc post=>by cases hc;exact post m σ H .refl sr lr
theorem ar(h1:QS X st c1)(h2:QSs X sts c2):QSs X (st::sts) (bj c1 c2):=(rQ h1 h2).imp fun D σ H hz=>uv hz fun m ρ S o ρ' S' sr lr hc post=>by
 obtain⟨⟨o1,ρ1,S1⟩,h1,h2⟩:=Q0.mp hc;refine⟨m,ρ,S,o1,ρ1,S1,sr,lr,h1,?_⟩;cases o1 with
 |nx=>exact fun m1 σ1 H1 e1 sr1 lr1=>⟨m1,ρ1,S1,o,ρ',S',sr1,lr1,h2,post.mono e1⟩
 |rt u=>cases h2;exact post
 |bk=>cases h2;exact post
 |ct=>cases h2;exact post
theorem aA(h1:QS X st c1):QSs X [st] c1:=vx h1
def uf:CS:=fun _ _=>none
theorem nA:QS X st uf:=yi.imp fun D σ H hz=>uv hz fun m ρ S o ρ' S' sr lr hc post=>by cases hc
def fG(ca:CE):CS:=fun ρ S=>(ca ρ S).bind fun p=>some (.nx,ρ,p.2)
theorem dj(he:QE X e ca)(hs:swapsWith e none pos.line X.env=pure false:=by rfl):QS X (.Expr e pos) (fG ca):=(Bs he hs).imp fun D σ H hz=>uv hz fun m ρ S o ρ' S' sr lr hc post=>by
 obtain⟨⟨u,S1⟩,h1,h2⟩:=Q0.mp hc;cases h2;exact⟨m,ρ,S,u,_,sr,lr,h1,fun m1 v1 H1 e1 sr1 i1=>post m1 σ H1 e1 sr1 (lr.mono e1)⟩
def et(ca:CE):CS:=fun ρ S=>(ca ρ S).bind fun p=>some (.rt p.1,ρ,p.2)
theorem aX(he:QE X e ca):QS X (.Return (some e) pos) (et ca):=(yh he).imp fun D σ H hz=>uv hz fun m ρ S o ρ' S' sr lr hc post=>by
 obtain⟨⟨u,S1⟩,h1,h2⟩:=Q0.mp hc;cases h2;exact⟨m,ρ,S,u,_,sr,lr,h1,post⟩
def ff(t:CT)(c1 c2:CS):CS:=fun ρ S=>(t ρ S).bind fun p=>if p.1=true then c1 ρ p.2 else c2 ρ p.2
theorem cE{t:CT}{s1 s2:List Stmt}(hc:QT X c t)(h1:QSs X s1 c1)(h2:QSs X s2 c2):QS X (.If c s1 s2 pos) (ff t c1 c2):=(IG hc h1 h2).imp fun D σ H hz=>uv hz fun m ρ S o ρ' S' sr lr hc post=>by
 obtain⟨⟨x,S1⟩,h1,h2⟩:=Q0.mp hc;refine⟨m,ρ,S,x,S1,sr,lr,h1,fun m1 H1 e1 sr1=>?_⟩;cases x with
 |true=>exact Hm ⟨m1,ρ,S1,o,ρ',S',sr1,lr.mono e1,h2,post.mono e1⟩
 |false=>exact Hn ⟨m1,ρ,S1,o,ρ',S',sr1,lr.mono e1,h2,post.mono e1⟩
abbrev CG:=U->Rho->Sto->Option (Rho×Sto)
def tG(K:Q1)(g:CG):TG:=fun v σ H Q=>∃m ρ S u ρ' S',Sr K m S H/\Lr K m H ρ σ/\Is K m H v u/\g u ρ S=some (ρ',S')/\iS K m H Q ρ' S'
abbrev QG(X:Cx)(e:Expr)(g:CG):Prop:=WG X e (tG X.K g)
def gNm(i:Nat):CG:=fun u ρ S=>some (ρ.set i (some u),S)
theorem bC{i:Nat}(h:WG X e (xF i)):QG X e (gNm i):=h.imp fun v σ H Q hz=>Oo hz fun m ρ S u ρ' S' sr lr iu hc post=>by
 cases hc;exact post m _ H .refl sr (lr.set i iu)
def iI:List Nat->List U->Rho->Option Rho
 |[],[],ρ=>some ρ
 |i::is,u::us,ρ=>iI is us (ρ.set i (some u))
 |_,_,_=>none
def tGs(K:Q1)(is:List Nat):TGs:=fun vs σ H Q=>∃m ρ S us ρ',Sr K m S H/\Lr K m H ρ σ/\IsL K m H vs us/\iI is us ρ=some ρ'/\iS K m H Q ρ' S
abbrev QGs(X:Cx)(es:List Expr)(is:List Nat):Prop:=WGs X es (tGs X.K is)
theorem eB:QGs X [] []:=Bu.imp fun v σ H Q ⟨m,ρ,S,us,ρ',sr,lr,iu,hc,post⟩=>by
 cases us with
 |nil=>cases hc;exact⟨iu.of_nil,post m σ H .refl sr lr⟩
 |cons a r=>simp[iI]at hc
theorem a9{i:Nat}{is:List Nat}{es:List Expr}(h:WG X e (xF i))(h2:QGs X es is)(hs:(assignEach (e::es) X.env).map (·.2)=assign e X.env::(assignEach es X.env).map (·.2):=by rfl):QGs X (e::es) (i::is):=(yl h h2 hs).imp fun v σ H Q ⟨m,ρ,S,us,ρ',sr,lr,iu,hc,post⟩=>by
 cases us with
 |nil=>simp[iI]at hc
 |cons u r=>
  obtain⟨x,xr,rfl,i1,i2⟩:=iu.of_cons;exact⟨x,xr,rfl,m,ρ.set i (some u),S,r,ρ',sr,lr.set i i1,i2,hc,post⟩
def gTp(is:List Nat):CG:=fun u ρ S=>match u with
 |.tup us=>(iI is us ρ).bind fun ρ'=>some (ρ',S)
 |_=>none
theorem p7:∀{is:List Nat} {us:List U} {ρ ρ':Rho},iI is us ρ=some ρ'->us.length=is.length
 |[],[],_,_,_=>rfl
 |[],_::_,_,_,h=>by simp[iI]at h
 |_::_,[],_,_,h=>by simp[iI]at h
 |i::is,u::us,ρ,ρ',h=>by
  have:=p7 (is:=is) (us:=us) h;simp[this]
theorem gT{is:List Nat}{es:List Expr}{k:Nat}(hc:X.calm=true)(h:QGs X es is)(hn:(assignEach es X.env).length=is.length:=by rfl)(hst:(assignEach es X.env).findIdx? (·.1)=none:=by rfl):QG X (.Tuple es k pos) (gTp is):=(Fc hc h hn hst).imp fun v σ H Q hz=>Oo hz fun m ρ S u ρ' S' sr lr iu hc post=>by
 cases u with
 |tup us=>
  obtain⟨ρ2,h1,h2⟩:=Q0.mp hc;cases h2;obtain⟨a,xs,rfl,sq,il⟩:=iu.of_tup;refine⟨a,xs,rfl,sq,?_,m,ρ,S,us,ρ',sr,lr,il,h1,post⟩;rw[il.length];exact p7 h1
 |_=>simp[gTp]at hc
def Hr(ca:CE)(g:CG):CS:=fun ρ S=>(ca ρ S).bind fun p=>(g p.1 ρ p.2).bind fun q=>some (.nx,q.1,q.2)
theorem Ha{K:Q1}{g:CG}:∀D σ H,tS K (Hr ca g) D σ H->Jf (tE K ca) (tG K g) D σ H:=by
 rintro D σ H ⟨m,ρ,S,o,ρ',S',sr,lr,hc,post⟩;obtain⟨⟨u,S1⟩,h1,h2⟩:=Q0.mp hc;obtain⟨⟨ρ2,S2⟩,h3,h4⟩:=Q0.mp h2;cases h4;exact⟨m,ρ,S,u,S1,sr,lr,h1,fun m1 v1 H1 e1 sr1 i1=>⟨m1,ρ,S1,u,_,_,sr1,lr.mono e1,i1,h3,iS.mono e1 post⟩⟩
theorem D9{tg:Expr}{g:CG}(he:QE X e ca)(hg:QG X tg g)(hs:swapsWithSole [tg] e pos.line X.env=pure false:=by rfl)(hw:swappedStores [tg] e X.env=pure none:=by rfl)
  (h1:(assignEach [tg] X.env).map (·.2)=[assign tg X.env]:=by rfl):QS X (.Assign [tg] e pos) (Hr ca g):=(yk he hg hs hw h1).imp Ha
def dI(i:Nat)(ca:CE):CS:=fun ρ S=>(ca ρ S).bind fun p=>some (.nx,ρ.set i (some p.1),p.2)
theorem aZ{i:Nat}{x:Str}{pos':Pos}(hN:X.N.Nodup)(hi:X.N[i]?=some x)(hx:Loc X.env.scope x)(he:QE X e ca)(hs:swapsWith e (some (.Name x pos')) pos.line X.env=pure false:=by rfl)(hf:X.fn x=true\/X.env.scope.names.lookup x=some .local:=by first|exact .inl rfl|exact .inr rfl|assumption) :
  QS X (.Assign [.Name x pos'] e pos) (dI i ca):=(yg hN hi hx he hs hf).imp fun D σ H hz=>uv hz fun m ρ S o ρ' S' sr lr hc post=>by
 obtain⟨⟨u,S1⟩,h1,h2⟩:=Q0.mp hc;cases h2;exact⟨m,ρ,S,u,_,sr,lr,h1,fun m1 v1 H1 e1 sr1 i1=>post m1 _ H1 e1 sr1 ((lr.mono e1).set i i1)⟩
abbrev CI:=Rho->Sto->Option (List U×(Sto->Prop)×Sto)
def Bm(K:Q1)(J:It)(m:List Addr)(H:Hp)(us:List U)(ok:Sto->Prop):Prop:=∀m2 S2 H2 i,Ext K m H m2 H2->Sr K m2 S2 H2->ok S2->
 (∀u,us[i]?=some u->J.go i H2/\∀x H3,J.yld i H2 x H3->Ext K m2 H2 m2 H3/\Sr K m2 S2 H3/\Is K m2 H3 x u)/\(us.length<=i->J.stop i H2)
def tI(K:Q1)(ci:CI):TI:=fun σ H R=>∃m ρ S us ok S',Sr K m S H/\Lr K m H ρ σ/\ci ρ S=some (us,ok,S')/\∀m' H' J,Ext K m H m' H'->Sr K m' S' H'->Bm K J m' H' us ok->R J H'
abbrev QI(X:Cx)(tg iter:Expr)(ci:CI):Prop:=WI X tg iter (tI X.K ci)
open Classical in
def d9(ok:Sto->Prop)(g:CG)(cb:CS):List U->CS
 |[]=>fun ρ S=>if ok S then some (.nx,ρ,S)else none
 |u::us=>fun ρ S=>if ok S then(g u ρ S).bind fun p=>(cb p.1 p.2).bind fun r=>match r.1 with
  |.nx=>d9 ok g cb us r.2.1 r.2.2
  |.ct=>d9 ok g cb us r.2.1 r.2.2
  |.bk=>some (.nx,r.2.1,r.2.2)
  |.rt v=>some (.rt v,r.2.1,r.2.2)else none
def me(ci:CI)(g:CG)(cb:CS):CS:=fun ρ S=>(ci ρ S).bind fun p=>d9 p.2.1 g cb p.1 ρ p.2.2
theorem oW{α:Type}{us:List α}{i:Nat}{u:α}(h:us[i]?=some u):us.drop i=u::us.drop (i+1):=by
 obtain⟨hl,e⟩:=Q9.mp h;rw[List.drop_eq_getElem_cons hl,e]
theorem wb{K:Q1}{g:CG}{cb:CS}{J:It}{us:List U}{ok:Sto->Prop}{D:Bo}{m1:List Addr}{H1:Hp}{ρ ρ':Rho}{σ:L2.St}{S1 S':Sto}{o:Out}(sr1:Sr K m1 S1 H1)(lr1:Lr K m1 H1 ρ σ)(ito:Bm K J m1 H1 us ok)(h2:d9 ok g cb us ρ S1=some (o,ρ',S'))(post:xV K m1 H1 D o ρ' S') :
  ∃W:Nat->Nat->L2.St->Hp->Prop,(∃n,W 0 n σ H1)/\∀i n σ H,W i n σ H->
   (J.stop i H/\D.nx σ H)\/(J.go i H/\∃N:L2.St->Hp->Prop,(∀σ' H',N σ' H'->∃n',n'<n/\W (i+1) n' σ' H')/\∀x H',J.yld i H x H'->tG K g x σ H' fun σ2 H2=>tS K cb { D with nx:=N,ct:=N,bk:=D.nx } σ2 H2):=by
 let W:Nat->Nat->L2.St->Hp->Prop:=fun i n σ2 H2=>n=us.length-i/\i<=us.length/\∃m2 ρ2 S2,Ext K m1 H1 m2 H2/\Sr K m2 S2 H2/\Lr K m2 H2 ρ2 σ2/\d9 ok g cb (us.drop i) ρ2 S2=some (o,ρ',S')
 refine⟨W,⟨us.length,by simp,Z7 _,m1,ρ,S1,.refl,sr1,lr1,by simpa using h2⟩,?_⟩;rintro i n σ2 H2 ⟨rfl,hi,m2,ρ2,S2,e2,sr2,lr2,hl⟩;by_cases hlt:i<us.length
 ·have hu:=Q8 hlt;rw[oW hu]at hl;unfold d9 at hl;split at hl
  ·rename_i hok;obtain⟨⟨ρ3,S3⟩,h3,hl⟩:=Q0.mp hl;obtain⟨⟨o4,ρ4,S4⟩,h4,hl⟩:=Q0.mp hl;obtain⟨hgo,hy⟩:=(ito m2 S2 H2 i e2 sr2 hok).1 _ hu;refine .inr ⟨hgo,W (i+1) (us.length-(i+1)),fun σ' H' w'=>⟨_,by omega,w'⟩,fun x H3 y=>?_⟩;obtain⟨e3,sr3,ix⟩:=hy x H3 y;refine⟨m2,ρ2,S2,_,ρ3,S3,sr3,lr2.mono e3,ix,h3,fun m4 σ4 H4 e4 sr4 lr4=>⟨m4,ρ3,S3,o4,ρ4,S4,sr4,lr4,h4,?_⟩⟩;have e14:=(e2.trans e3).trans e4;have nxt:d9 ok g cb (us.drop (i+1)) ρ4 S4=some (o,ρ',S')->iS K m4 H4 (W (i+1) (us.length-(i+1))) ρ4 S4:=fun hn m5 σ5 H5 e5 sr5 lr5=>⟨rfl,hlt,m5,ρ4,S4,e14.trans e5,sr5,lr5,hn⟩;cases o4 with
   |nx=>exact nxt hl
   |ct=>exact nxt hl
   |bk=>cases hl;exact iS.mono e14 post
   |rt v=>cases hl;exact l7.mono e14 post
  ·cases hl
 ·have e:i=us.length:=by omega
  subst e;rw[List.drop_length]at hl;unfold d9 at hl;split at hl
  ·rename_i hok;cases hl;exact .inl ⟨(ito m2 _ H2 _ e2 sr2 hok).2 (QZ _),post m2 σ2 H2 e2 sr2 lr2⟩
  ·cases hl
theorem GL{K:Q1}{ci:CI}{g:CG}{cb:CS}:∀D σ H,tS K (me ci g cb) D σ H->Lg (tI K ci) (tG K g) (tS K cb) D σ H:=by
 rintro D σ H ⟨m,ρ,S,o,ρ',S',sr,lr,hc,post⟩;obtain⟨⟨us,ok,S1⟩,h1,h2⟩:=Q0.mp hc;exact⟨m,ρ,S,us,ok,S1,sr,lr,h1,fun m1 H1 J e1 sr1 ito=>wb sr1 (lr.mono e1) ito h2 (xV.mono e1 post)⟩
theorem fu{tg iter:Expr}{body:List Stmt}{ci:CI}{g:CG}{cb:CS}(hp:PassesOwn (model X.prog X.w) X.A X.env X.xe)(hc:X.calm=true)(hi:QI X tg iter ci)(hg:QG X tg g)(hb:QSs X body cb)(hs:∀x,foldedSetIterable iter X.env x=pure x:=by intro _;rfl):QS X (.For tg iter body [] pos) (me ci g cb):=(yj hp hc hi hg hb hs).imp GL
def eN(t:CT)(cb:CS):Nat->CS
 |0=>fun _ _=>none
 |n+1=>fun ρ S=>(t ρ S).bind fun p=>if p.1=true then(cb ρ p.2).bind fun r=>match r.1 with
  |.nx=>eN t cb n r.2.1 r.2.2
  |.ct=>eN t cb n r.2.1 r.2.2
  |.bk=>some (.nx,r.2.1,r.2.2)
  |.rt v=>some (.rt v,r.2.1,r.2.2)else some (.nx,ρ,p.2)
theorem yx{K:Q1}{t:CT}{cb:CS}{n:Nat}:∀D σ H,tS K (eN t cb n) D σ H->yI (tT K t) (tS K cb) D σ H:=by
 rintro D σ H ⟨m,ρ,S,o,ρ',S',sr,lr,hc,post⟩;let W:Nat->L2.St->Hp->Prop:=fun n σ2 H2=>∃m2 ρ2 S2,Ext K m H m2 H2/\Sr K m2 S2 H2/\Lr K m2 H2 ρ2 σ2/\eN t cb n ρ2 S2=some (o,ρ',S')
 refine⟨W,⟨n,m,ρ,S,.refl,sr,lr,hc⟩,?_⟩;rintro k σ2 H2 ⟨m2,ρ2,S2,e2,sr2,lr2,hl⟩;cases k with
 |zero=>cases hl
 |succ k=>
  unfold eN at hl;obtain⟨⟨x,S3⟩,h3,hl⟩:=Q0.mp hl;refine⟨m2,ρ2,S2,x,S3,sr2,lr2,h3,fun m3 H3 e3 sr3=>?_⟩;have e13:=e2.trans e3;cases x with
  |true=>
   rw[if_pos rfl]at hl;refine Hm ?_;obtain⟨⟨o4,ρ4,S4⟩,h4,hl⟩:=Q0.mp hl;refine⟨W k,fun σ' H' w'=>⟨k,Nat.lt_succ_self _,w'⟩,m3,ρ2,S3,o4,ρ4,S4,sr3,lr2.mono e3,h4,?_⟩;have nxt:eN t cb k ρ4 S4=some (o,ρ',S')->iS K m3 H3 (W k) ρ4 S4:=fun hn m5 σ5 H5 e5 sr5 lr5=>⟨m5,ρ4,S4,e13.trans e5,sr5,lr5,hn⟩;cases o4 with
   |nx=>exact nxt hl
   |ct=>exact nxt hl
   |bk=>cases hl;exact iS.mono e13 post
   |rt v=>cases hl;exact l7.mono e13 post
  |false=>
   rw[if_neg QK]at hl;refine Hn ?_;cases hl;exact post m3 σ2 H3 e13 sr3 (lr2.mono e3)
theorem vT{body:List Stmt}{t:CT}{cb:CS}(n:Nat)(hp:PassesOwn (model X.prog X.w) X.A X.env X.xe)(hc:QT X c t)(hb:QSs X body cb):QS X (.While c body [] pos) (eN t cb n):=(yf hp hc hb).imp yx
def iTp(ca:CE):CI:=fun ρ S=>(ca ρ S).bind fun p=>match p.1 with
 |.tup us=>some (us,fun _=>True,p.2)
 |.ref l=>match p.2[l]? with
  |some (.lst us)=>some (us,fun S=>S[l]?=some (.lst us),p.2)
  |_=>none
 |_=>none
theorem Kq{K:Q1}{m:List Addr}{H:Hp}{us:List U}{a:Addr}{xs:List V}(sq:SqT K H a xs)(il:IsL K m H xs us):Bm K (Itt K a) m H us (fun _=>True):=by
 intro m2 S2 H2 i e2 sr2 _;have sq2:=e2.keep.t _ _ sq;have il2:=il.mono e2;refine⟨fun u hu=>?_,fun hi=>⟨xs,sq2,by rw[il2.length];exact hi⟩⟩;obtain⟨x,hx,ix⟩:=il2.getD hu;refine⟨⟨xs,x,sq2,hx⟩,fun y H3 hy=>?_⟩;obtain⟨rfl,hy⟩:=hy;have:=hy xs sq2;rw[hx]at this;cases this;exact⟨.refl,sr2,ix⟩
theorem Kr{K:Q1}{m:List Addr}{H:Hp}{us:List U}{a:Addr}{l:Nat}(hl:m[l]?=some a):Bm K (Itl K a) m H us (fun S=>S[l]?=some (.lst us)):=by
 intro m2 S2 H2 i e2 sr2 hok;obtain⟨a',ha',xs,hx,il⟩:=sr2.get hok;rw[e2.get hl]at ha';cases ha';refine⟨fun u hu=>?_,fun hi=>⟨xs,SqL.of hx,by rw[il.length];exact hi⟩⟩;obtain⟨x,hx',ix⟩:=il.getD hu;refine⟨⟨xs,x,SqL.of hx,hx'⟩,fun y H3 hy=>?_⟩;obtain⟨rfl,hy⟩:=hy;have:=hy xs (SqL.of hx);rw[hx']at this;cases this;exact⟨.refl,sr2,ix⟩
theorem cL{tg:Expr}(h:QE X e ca):QI X tg e (iTp ca):=((Fb h).or (Bt h)).imp fun σ H R hz=>uv hz fun m ρ S us ok S' sr lr hc post=>by
 obtain⟨⟨u,S1⟩,h1,h2⟩:=Q0.mp hc;cases u with
 |tup ws=>
  cases h2;refine .inl ⟨m,ρ,S,.tup us,_,sr,lr,h1,fun m1 v1 H1 e1 sr1 i1=>?_⟩;obtain⟨a,xs,rfl,sq,il⟩:=i1.of_tup;exact⟨a,rfl,⟨xs,sq⟩,post m1 H1 _ e1 sr1 (Kq sq il)⟩
 |ref l=>
  simp only at h2;split at h2
  ·rename_i us' hS;cases h2;refine .inr ⟨m,ρ,S,.ref l,_,sr,lr,h1,fun m1 v1 H1 e1 sr1 i1=>?_⟩;obtain⟨a,hl,rfl⟩:=i1.of_ref;obtain⟨a',ha',xs,hx,il⟩:=sr1.get hS;rw[hl]at ha';cases ha';exact⟨a,rfl,⟨xs,SqL.of hx⟩,post m1 H1 _ e1 sr1 (Kr hl)⟩
  ·cases h2
 |_=>simp at h2
def eg(lo:Int)(n:Nat):List U:=(Qi n).map fun i=>.int (lo+(i:Nat))
theorem CY{K:Q1}{m:List Addr}{H:Hp}{lo:Int}{n:Nat}:Bm K (Itr lo n) m H (eg lo n) (fun _=>True):=by
 intro m2 S2 H2 i e2 sr2 _;refine⟨fun u hu=>?_,fun hi=>by show n<=i;simpa [eg] using hi⟩;unfold eg at hu;rw[Qb]at hu;by_cases c:i<n
 ·rw[List.getElem?_range c]at hu;simp at hu;subst hu;refine⟨c,fun y H3 hy=>?_⟩;obtain⟨rfl,rfl⟩:=hy;exact⟨.refl,sr2,.int_⟩
 ·rw[ZK (by simpa using c)]at hu;cases hu
def iB(cr:CA):CI:=fun ρ S=>(cr ρ S).bind fun p=>match p.1 with
 |[.int j]=>if -(2^62)<=j/\j<2^62 then some (eg 0 j.toNat,fun _=>True,p.2)else none
 |_=>none
theorem jr{tg:Expr}{cr:CA}{p:Pos}(hg:Gl X "range")(hm:X.mg "range"=none)(ha:QA X [a] cr)(hs:starEach [a] X.env=[(false,eval a X.env)]:=by rfl):QI X tg (.Call (.Name "range" p) [a] [] pos) (iB cr):=(w9 hg hm ha.h hs).imp fun σ H R hz=>uv hz fun m ρ S us ok S' sr lr hc post=>by
 obtain⟨⟨ws,S1⟩,h1,h2⟩:=Q0.mp hc;simp only at h2;split at h2
 ·rename_i j;split at h2
  ·rename_i hj;cases h2;refine⟨m,ρ,S,_,S',sr,lr,h1,fun m1 v1 H1 e1 sr1 i1=>?_⟩;obtain⟨x,r,rfl,ix,ir⟩:=i1.of_cons;rw[ir.of_nil,ix.of_int];exact⟨j,rfl,hj.1,hj.2,post m1 H1 _ e1 sr1 CY⟩
  ·cases h2
 ·cases h2
end
def fI(g:Int->Int->Option U):U->U->Sto->Option (U×Sto)
 |.int i,.int j,S=>(g i j).bind fun u=>some (u,S)
 |_,_,_=>none
section
variable{X:Cx}{K:Q1}
theorem Lj{C:Int->Int->Prop}{gV:Int->Int->V}{g:Int->Int->Option U}(h:∀i j u,g i j=some u->C i j/\∀m H,Is K m H (gV i j) u):OpP K (rI C gV) (fI g):=by
 intro m S H x y v w u S' Q sr ix iy hf post;cases x<;>cases y<;>simp only[fI]at hf<;>try cases hf
 rename_i i j;obtain⟨u1,h1,h2⟩:=Q0.mp hf;cases h2;obtain⟨hc,hi⟩:=h i j u h1;exact⟨i,j,ix.of_int,iy.of_int,hc,post m _ H .refl sr (hi m H)⟩
theorem Cq{gV:Int->Int->V}{g:Int->Int->Option U}(h:∀i j u,g i j=some u->∀m H,Is K m H (gV i j) u):OpP K (rI0 gV) (fI g):=by
 intro m S H x y v w u S' Q sr ix iy hf post;cases x<;>cases y<;>simp only[fI]at hf<;>try cases hf
 rename_i i j;obtain⟨u1,h1,h2⟩:=Q0.mp hf;cases h2;exact⟨i,j,ix.of_int,iy.of_int,post m _ H .refl sr (h i j u h1 m H)⟩
def BX(K:Q1):R2:=fun x y H Q=>∃a b xs ys,x=.ref a/\y=.ref b/\SqT K H a xs/\SqT K H b ys/\xs.length+ys.length<=sizeLine/\∀q H',vi H H'->SqT K H' q (xs++ys)->Q (.ref q) H'
theorem Gk:OpR X (binaryOp .Add) (BX X.K):=by
 intro pins s σ H x y v u Q I rx ry h;obtain⟨a,b,xs,ys,rfl,rfl,ha,hb,hz,q⟩:=h;by_cases e:xs=[]
 ·cases rx;cases ry;obtain⟨its,r1,p1,_⟩:=I.tuple ha;obtain⟨its2,r2,p2,_⟩:=I.tuple hb;refine Dv p1 p2 (r1.nil_iff.mpr e) ⟨.ref b,H,I,rfl,q b H (.refl _) (by rw[e];exact hb)⟩
 ·refine Gj pins s σ H _ _ v u Q I rx ry ⟨a,b,xs,ys,rfl,rfl,ha,hb,e,hz,fun z=>q a H (.refl _) (by rw[z,QJ];exact ha),fun _ p hp=>q p _ (dR hp _) (SqT.of aN)⟩
def Ap:U->U->Sto->Option (U×Sto)
 |.tup a,.tup b,S=>if a.length+b.length<=LIM then some (.tup (a++b),S)else none
 |_,_,_=>none
theorem Co:OpP K (BX K) Ap:=by
 intro m S H x y v w u S' Q sr ix iy hf post;cases x<;>cases y<;>simp only[Ap]at hf<;>try cases hf
 split at hf<;>try cases hf
 rename_i hl;obtain⟨a,xs,rfl,sa,la⟩:=ix.of_tup;obtain⟨b,ys,rfl,sb,lb⟩:=iy.of_tup;refine⟨a,b,xs,ys,rfl,rfl,sa,sb,lim (by rw[la.length,lb.length];exact hl),fun q H' s sq=>?_⟩;exact post m _ H' (.of (gX s)) (sr.same s) (.tup_ sq ((la.append lb).mono (.of (gX s))))
def mD:U->U->Sto->Option (U×Sto)
 |.ref l,.ref k,S=>match S[l]?,S[k]? with
  |some (.lst a),some (.lst b)=>if a.length+b.length<=LIM then some (.ref S.length,S++[.lst (a++b)])else none
  |_,_=>none
 |_,_,_=>none
theorem Cr:OpP K Li mD:=by
 intro m S H x y v w u S' Q sr ix iy hf post;cases x<;>cases y<;>simp only[mD]at hf<;>try cases hf
 rename_i l k;split at hf<;>try cases hf
 rename_i a b h1 h2;split at hf<;>try cases hf
 rename_i hl;obtain⟨p,hp,rfl⟩:=ix.of_ref;obtain⟨q,hq,rfl⟩:=iy.of_ref;obtain⟨p',hp',xs,hx,il⟩:=sr.get h1;obtain⟨q',hq',ys,hy,il'⟩:=sr.get h2;rw[hp]at hp';cases hp';rw[hq]at hq';cases hq';exact⟨p,q,xs,ys,rfl,rfl,hx,hy,lim (by rw[il.length,il'.length];exact hl),fun r hr=>dX sr (il.append il') post hr⟩
def Aq:U->U->Sto->Option (U×Sto)
 |.str a,.str b,S=>if a.length+b.length<=LIM then some (.str (a++b),S)else none
 |_,_,_=>none
theorem Cp:OpP K (fun x y H Q=>∃i j,x=.str i/\y=.str j/\i.length+j.length<=sizeLine/\Q (.str (i++j)) H) Aq:=by
 intro m S H x y v w u S' Q sr ix iy hf post;cases x<;>cases y<;>simp only[Aq]at hf<;>try cases hf
 split at hf<;>try cases hf
 rename_i hl;exact⟨_,_,ix.of_str,iy.of_str,lim hl,post m _ H .refl sr .str_⟩
def j8:U->U->Sto->Option (U×Sto)
 |.int i,.int j,S=>some (.int (i+j),S)
 |.tup a,.tup b,S=>if a.length+b.length<=LIM then some (.tup (a++b),S)else none
 |.str a,.str b,S=>if a.length+b.length<=LIM then some (.str (a++b),S)else none
 |.ref l,.ref k,S=>mD (.ref l) (.ref k) S
 |_,_,_=>none
theorem ju:OpR X (binaryOp .Add) (fun x y H Q=>rI0 (fun i j=>.int (i+j)) x y H Q\/(Li x y H Q\/(BX X.K x y H Q\/∃i j,x=.str i/\y=.str j/\i.length+j.length<=sizeLine/\Q (.str (i++j)) H))):=J2.or (J1.or (Gk.or xn))
theorem jt:OpP K (fun x y H Q=>rI0 (fun i j=>.int (i+j)) x y H Q\/(Li x y H Q\/(BX K x y H Q\/∃i j,x=.str i/\y=.str j/\i.length+j.length<=sizeLine/\Q (.str (i++j)) H))) j8:=by
 intro m S H x y v w u S' Q sr ix iy hf post;cases x<;>cases y<;>simp only[j8]at hf<;>try cases hf
 ·exact .inl ⟨_,_,ix.of_int,iy.of_int,post m _ H .refl sr .int_⟩
 ·exact .inr (.inr (.inr (Cp m S H _ _ v w u S' Q sr ix iy hf post)))
 ·exact .inr (.inr (.inl (Co m S H _ _ v w u S' Q sr ix iy hf post)))
 ·exact .inr (.inl (Cr m S H _ _ v w u S' Q sr ix iy hf post))
def Nr:=fI fun i j=>some (.int (i-j))
theorem MR:OpP K (rI0 fun i j=>.int (i-j)) Nr:=Cq fun i j u h m H=>by cases h;exact .int_
instance {i j:Int}:Decidable (EF i j):=by unfold EF;exact inferInstance
def oO:=fI fun i j=>if EF i j then some (.int (i*j))else none
theorem sE:OpP K (rI EF fun i j=>.int (i*j)) oO:=Lj fun i j u h=>by
 split at h
 ·rename_i c;cases h;exact⟨c,fun m H=>.int_⟩
 ·cases h
instance {i j:Int}:Decidable (xZ i j):=by unfold xZ;exact inferInstance
def De:=fI fun i j=>if xZ i j then some (.int (i / j))else none
theorem Gh:OpP K (rI xZ fun i j=>.int (i / j)) De:=Lj fun i j u h=>by
 split at h
 ·rename_i c;cases h;exact⟨c,fun m H=>.int_⟩
 ·cases h
def tJ:=fI fun i j=>if 0<j then some (.int (i % j))else none
theorem uE:OpP K (rI (fun _ j=>0<j) fun i j=>.int (i % j)) tJ:=Lj fun i j u h=>by
 split at h
 ·rename_i c;cases h;exact⟨c,fun m H=>.int_⟩
 ·cases h
instance {i j:Int}:Decidable (Hw i j):=by unfold Hw;exact inferInstance
def Ho:=fI fun i j=>if Hw i j then some (.int (i^j.toNat))else none
theorem JX:OpP K (rI Hw fun i j=>.int (i^j.toNat)) Ho:=Lj fun i j u h=>by
 split at h
 ·rename_i c;cases h;exact⟨c,fun m H=>.int_⟩
 ·cases h
def fLt:=fI fun i j=>some (.bl (decide (i<j)))
def fGt:=fI fun i j=>some (.bl (decide (j<i)))
def fGe:=fI fun i j=>some (.bl (decide (j<=i)))
theorem Ll:OpP K (rI0 fun i j=>.bl (decide (i<j))) fLt:=Cq fun i j u h m H=>by cases h;exact .bl_
theorem MU:OpP K (rI0 fun i j=>.bl (decide (j<i))) fGt:=Cq fun i j u h m H=>by cases h;exact .bl_
theorem O2:OpP K (rI0 fun i j=>.bl (decide (j<=i))) fGe:=Cq fun i j u h m H=>by cases h;exact .bl_
def eqS:U->U->Option Bool
 |.int i,.int j=>some (decide (i=j))
 |.bl i,.bl j=>some (decide (i=j))
 |.str i,.str j=>some (decide (i=j))
 |.non,.non=>some true
 |.non,.int _=>some false|.int _,.non=>some false
 |.non,.bl _=>some false|.bl _,.non=>some false
 |.non,.str _=>some false|.str _,.non=>some false
 |.int _,.str _=>some false|.str _,.int _=>some false
 |.bl _,.str _=>some false|.str _,.bl _=>some false
 |_,_=>none
def fEq:U->U->Sto->Option (U×Sto):=fun x y S=>(eqS x y).bind fun b=>some (.bl b,S)
def fNe:U->U->Sto->Option (U×Sto):=fun x y S=>(eqS x y).bind fun b=>some (.bl (!b),S)
theorem Eu{m:List Addr}{H:Hp}{x y:U}{v w:V}{b:Bool}(ix:Is K m H v x)(iy:Is K m H w y)(h:eqS x y=some b):MC v w=true/\decide (v=w)=b:=by
 cases x<;>cases y<;>simp only[eqS]at h<;>(first|cases h|skip);all_goals
  (first|(have e1:=ix.of_int)|(have e1:=ix.of_bl)|(have e1:=ix.of_str)|(have e1:=ix.of_non))
  (first|(have e2:=iy.of_int)|(have e2:=iy.of_bl)|(have e2:=iy.of_str)|(have e2:=iy.of_non))
  subst e1 e2;exact⟨rfl,by simp⟩
theorem md:OpP K rEq fEq:=by
 intro m S H x y v w u S' Q sr ix iy hf post;obtain⟨b,h1,h2⟩:=Q0.mp hf;cases h2;obtain⟨e1,e2⟩:=Eu ix iy h1;exact⟨e1,by rw[e2];exact post m _ H .refl sr .bl_⟩
theorem Lk:OpP K rNe fNe:=by
 intro m S H x y v w u S' Q sr ix iy hf post;obtain⟨b,h1,h2⟩:=Q0.mp hf;cases h2;obtain⟨e1,e2⟩:=Eu ix iy h1;exact⟨e1,by rw[e2];exact post m _ H .refl sr .bl_⟩
def C2:U->Bool
 |.non=>true
 |_=>false
def KH:U->U->Sto->Option (U×Sto)
 |x,.non,S=>some (.bl (C2 x),S)
 |_,_,_=>none
theorem C1{m:List Addr}{H:Hp}{x:U}{v:V}(ix:Is K m H v x):decide (v=.non)=C2 x:=by
 cases x with
 |non=>rw[ix.of_non];rfl
 |bl b=>rw[ix.of_bl];rfl
 |int i=>rw[ix.of_int];rfl
 |str i=>rw[ix.of_str];rfl
 |tup us=>obtain⟨a,xs,rfl,_⟩:=ix.of_tup;rfl
 |ref l=>obtain⟨a,_,rfl⟩:=ix.of_ref;rfl
 |kl ns=>obtain⟨a,rfl,_⟩:=ix.of_kl;rfl
theorem JZ:OpP K (fun x y H Q=>y=.non/\Q (.bl (decide (x=.non))) H) KH:=by
 intro m S H x y v w u S' Q sr ix iy hf post;cases y<;>simp only[KH]at hf<;>cases hf;exact⟨iy.of_non,by rw[C1 ix];exact post m _ H .refl sr .bl_⟩
section
variable{κ:Type}[DecidableEq κ]
def aS{α:Type}(kvs:List (κ×α))(k:κ):Option α:=(kvs.find? fun kv=>decide (kv.1=k)).map (·.2)
def eJ{α:Type}(kvs:List (κ×α))(k:κ)(v:α):List (κ×α):=
 if (kvs.any fun kv=>decide (kv.1=k))=true then kvs.map (fun kv=>if kv.1=k then(kv.1,v)else kv)else kvs++[(k,v)]
variable{m:List Addr}{H:Hp}{kvs:List (κ×V)}{kus:List (κ×U)}{k:κ}{v:V}{u:U}
theorem IsP.val(h:IsP K m H kvs kus):Rf K m H (jU kvs k) (aS kus k):=by
 refine IsP.ind (P:=fun kvs kus=>Rf K m H (jU kvs k) (aS kus k)) trivial (fun k' v u kvs kus i _ ih=>?_) h;by_cases e:k'=k
 ·subst e;simp[jU,aS,Qt,Rf,i]
 ·simp only[jU,aS,Qt,decide_eq_false e]at ih ⊢;exact ih
theorem IsP.any_(h:IsP K m H kvs kus):(kvs.any fun kv=>decide (kv.1=k))=(kus.any fun kv=>decide (kv.1=k)):=
 IsP.ind (P:=fun kvs kus=>(kvs.any fun kv=>decide (kv.1=k))=(kus.any fun kv=>decide (kv.1=k))) rfl (fun k' v u kvs kus i _ ih=>by simp only[ZR,ih]) h
theorem IsP.append{kvs':List (κ×V)}{kus':List (κ×U)}(h:IsP K m H kvs kus)(h':IsP K m H kvs' kus'):IsP K m H (kvs++kvs') (kus++kus'):=⟨by simp[h.1,h'.1],by simpa using h.2.append h'.2⟩
theorem IsP.put(h:IsP K m H kvs kus)(i:Is K m H v u):IsP K m H (pC kvs k v) (eJ kus k u):=by
 unfold pC eJ;rw[h.any_];split
 ·refine IsP.ind (P:=fun kvs kus=>IsP K m H (kvs.map fun kv=>if kv.1=k then(kv.1,v)else kv) (kus.map fun kv=>if kv.1=k then(kv.1,u)else kv)) .nil_ (fun k' v' u' kvs kus i' _ ih=>?_) h;simp only[QX];by_cases e:k'=k
  ·simp only[e,if_true];exact .cons_ i ih
  ·simp only[e,if_false];exact .cons_ i' ih
 ·exact h.append (.cons_ i .nil_)
end
def nr:U->Option Key
 |.int i=>some (.inl i)
 |.str x=>some (.inr x)
 |_=>none
theorem jw{m:List Addr}{H:Hp}{x:U}{v:V}{k:Key}(ix:Is K m H v x)(h:nr x=some k):v=kV k:=by
 cases x<;>simp only[nr]at h<;>cases h
 ·exact ix.of_int
 ·exact ix.of_str
def iC:U->Bool
 |.non=>true|.bl _=>true|.int _=>true|.str _=>true|_=>false
def eqF:U->U->Bool
 |.non,.non=>true
 |.bl a,.bl b=>a == b
 |.bl a,.int b=>(if a then 1 else 0) == b
 |.int a,.bl b=>a == (if b then 1 else 0)
 |.int a,.int b=>a == b
 |.str a,.str b=>a == b
 |_,_=>false
def inU(x:U)(us:List U):Bool:=us.any fun y=>eqF y x
theorem uV{m:List Addr}{H:Hp}{x:U}{v:V}(ix:Is K m H v x)(h:iC x=true):pN v=true:=by
 cases x with
 |non=>rw[ix.of_non];rfl
 |bl b=>rw[ix.of_bl];rfl
 |int i=>rw[ix.of_int];rfl
 |str i=>rw[ix.of_str];rfl
 |tup us=>cases h
 |ref l=>cases h
 |kl l=>cases h
theorem KQ{m:List Addr}{H:Hp}{x y:U}{v w:V}(ix:Is K m H v x)(iy:Is K m H w y)(hx:iC x=true)(hy:iC y=true):eqV v w=eqF x y:=by
 cases x<;>(first|cases hx|skip)<;>cases y<;>(first|cases hy|skip);all_goals
  (first|(have e1:=ix.of_int)|(have e1:=ix.of_bl)|(have e1:=ix.of_str)|(have e1:=ix.of_non))
  (first|(have e2:=iy.of_int)|(have e2:=iy.of_bl)|(have e2:=iy.of_str)|(have e2:=iy.of_non))
  subst e1 e2;rfl
theorem rh{m:List Addr}{H:Hp}:∀{xs:List V} {us:List U},IsL K m H xs us->us.all iC=true->xs.all pN=true
 |xs,[],h,_=>by rw[h.of_nil];rfl
 |xs,u::us,h,k=>by
  obtain⟨x,r,rfl,i,t⟩:=h.of_cons;rw[List.all_cons,Qm]at k ⊢;exact⟨uV i k.1,rh t k.2⟩
theorem Ad{m:List Addr}{H:Hp}{x:U}{v:V}(ix:Is K m H v x)(hx:iC x=true):∀{xs:List V} {us:List U},IsL K m H xs us->us.all iC=true->inV v xs=inU x us
 |xs,[],h,_=>by rw[h.of_nil];rfl
 |xs,u::us,h,k=>by
  obtain⟨y,r,rfl,i,t⟩:=h.of_cons;rw[List.all_cons,Qm]at k;have ih:=Ad ix hx t k.2;unfold inV inU at ih ⊢;rw[ZR,ZR,ih,KQ i ix k.1 hx]
theorem _root_.L2.DGet.kz{H:Hp}{a:Addr}{ob:Obj}{kvs:List (Key×V)}{k:Key}(e:H a=some (.frz ob (.dK kvs))):DGet H a (kV k) (jU kvs k):=.inl ⟨kvs,k,.inr ⟨ob,e⟩,rfl,rfl⟩
def fIn(neg:Bool):U->U->Sto->Option (U×Sto):=fun x y S=>match y with
 |.tup us=>if iC x=true/\us.all iC=true then some (.bl (if neg then !inU x us else inU x us),S)else none
 |.ref l=>match S[l]? with
  |some (.lst us)=>if iC x=true/\us.all iC=true then some (.bl (if neg then !inU x us else inU x us),S)else none
  |some (.dic kus)=>(nr x).bind fun k=>some (.bl (if neg then !(aS kus k).isSome else(aS kus k).isSome),S)
  |some (.fdc ep kus)=>(nr x).bind fun k=>some (.bl (if neg then !(aS kus k).isSome else(aS kus k).isSome),S)
  |_=>none
 |_=>none
theorem Rf.isSome{m:List Addr}{H:Hp}{v:Option V}{u:Option U}(h:Rf K m H v u):v.isSome=u.isSome:=by
 cases v<;>cases u<;>first|rfl|exact h.elim
theorem wD{ca cb:CE}{neg:Bool}(t2:TE->TE->TE)(h2:∀ta tb σ H Q,(ta σ H fun y H1=>tb σ H1 fun x H2=>∃a o,x=.ref a/\DGet H2 a y o/\Q (.bl (if neg then !o.isSome else o.isSome)) H2)->t2 ta tb σ H Q):∀σ H Q,tE K (cOp (fIn neg) ca cb) σ H Q->tOp (rIn K neg) (tE K ca) (tE K cb) σ H Q\/t2 (tE K ca) (tE K cb) σ H Q:=by
 rintro σ H Q ⟨m,ρ,S,u,S',sr,lr,hc,post⟩;obtain⟨⟨x,S1⟩,h1,h⟩:=Q0.mp hc;obtain⟨⟨y,S2⟩,h3,h4⟩:=Q0.mp h;cases y with
 |tup us=>
  simp only[fIn]at h4;split at h4<;>try cases h4
  rename_i hf;refine .inl ⟨m,ρ,S,x,S1,sr,lr,h1,fun m1 v1 H1 e1 sr1 i1=>⟨m1,ρ,S1,.tup us,S',sr1,lr.mono e1,h3,fun m2 v2 H2 e2 sr2 i2=>?_⟩⟩;obtain⟨a,xs,rfl,sa,la⟩:=i2.of_tup;refine⟨a,xs,rfl,.inr sa,uV (i1.mono e2) hf.1,rh la hf.2,?_⟩;rw[Ad (i1.mono e2) hf.1 la hf.2];exact post m2 _ H2 (e1.trans e2) sr2 .bl_
 |ref l=>
  simp only[fIn]at h4;split at h4<;>try cases h4
  ·rename_i us hS;split at h4<;>try cases h4
   rename_i hf;refine .inl ⟨m,ρ,S,x,S1,sr,lr,h1,fun m1 v1 H1 e1 sr1 i1=>⟨m1,ρ,S1,.ref l,S',sr1,lr.mono e1,h3,fun m2 v2 H2 e2 sr2 i2=>?_⟩⟩;obtain⟨a,ha,rfl⟩:=i2.of_ref;obtain⟨a',ha',xs,hx,la⟩:=sr2.get hS;rw[ha]at ha';cases ha';refine⟨a,xs,rfl,.inl (SqL.of hx),uV (i1.mono e2) hf.1,rh la hf.2,?_⟩;rw[Ad (i1.mono e2) hf.1 la hf.2];exact post m2 _ H2 (e1.trans e2) sr2 .bl_
  ·rename_i kus hS;obtain⟨k,hk,h5⟩:=Q0.mp h4;cases h5;refine .inr (h2 _ _ _ _ _ ⟨m,ρ,S,x,S1,sr,lr,h1,fun m1 v1 H1 e1 sr1 i1=>⟨m1,ρ,S1,.ref l,S',sr1,lr.mono e1,h3,fun m2 v2 H2 e2 sr2 i2=>?_⟩⟩);obtain⟨a,ha,rfl⟩:=i2.of_ref;obtain⟨a',ha',kvs,hx,ip⟩:=sr2.get hS;rw[ha]at ha';cases ha';have ek:=jw (i1.mono e2) hk;subst ek;refine⟨a,_,rfl,DGet.k hx,?_⟩;rw[(IsP.val ip).isSome];exact post m2 _ H2 (e1.trans e2) sr2 .bl_
  ·rename_i ep kus hS;obtain⟨k,hk,h5⟩:=Q0.mp h4;cases h5;refine .inr (h2 _ _ _ _ _ ⟨m,ρ,S,x,S1,sr,lr,h1,fun m1 v1 H1 e1 sr1 i1=>⟨m1,ρ,S1,.ref l,S',sr1,lr.mono e1,h3,fun m2 v2 H2 e2 sr2 i2=>?_⟩⟩);obtain⟨a,ha,rfl⟩:=i2.of_ref;obtain⟨a',ha',ob,es,kvs,hx,hd,ip⟩:=sr2.get hS;rw[ha]at ha';cases ha';have ek:=jw (i1.mono e2) hk;subst ek;refine⟨a,_,rfl,DGet.kz hx,?_⟩;rw[(IsP.val ip).isSome];exact post m2 _ H2 (e1.trans e2) sr2 .bl_
 |_=>simp[fIn]at h4
variable{e a b:Expr}{ca cb:CE}{pos:Pos}
theorem O1(hu:X.A.units+1<cLine)(ha:QE X a ca)(hb:QE X b cb)(hm:behindInMarks .In b=false):QE X (.Compare a [.In] [b] pos) (cOp (fIn false) ca cb):=
 ((qE sG ha hb hm).or (yv (yw hu ha hb) hm)).imp (wD (neg:=false) Lh fun _ _ _ _ _ h=>h)
theorem so(hu:X.A.units+1<cLine)(ha:QE X a ca)(hb:QE X b cb)(hm:behindInMarks .In b=false):QT X (.Compare a [.In] [b] pos) (aF (cOp (fIn false) ca cb)):=
 ((qD sG ha hb hm).or (uz (yw hu ha hb) hm)).imp (kO (wD (neg:=false) Lh fun _ _ _ _ _ h=>h))
theorem zb(hu:X.A.units+1<cLine)(ha:QE X a ca)(hb:QE X b cb)(hm:behindInMarks .NotIn b=false):QE X (.Compare a [.NotIn] [b] pos) (cOp (fIn true) ca cb):=
 ((qE mX ha hb hm).or (yv (pY hu ha hb) hm)).imp (wD (neg:=true) qK fun _ _ _ _ _ h=>h)
theorem lF(hu:X.A.units+1<cLine)(ha:QE X a ca)(hb:QE X b cb)(hm:behindInMarks .NotIn b=false):QT X (.Compare a [.NotIn] [b] pos) (aF (cOp (fIn true) ca cb)):=
 ((qD mX ha hb hm).or (uz (pY hu ha hb) hm)).imp (kO (wD (neg:=true) qK fun _ _ _ _ _ h=>h))
def fIx:U->U->Sto->Option (U×Sto):=fun x y S=>match x with
 |.tup us=>match y with
  |.int i=>(atI us i).bind fun u=>some (u,S)
  |_=>none
 |.ref l=>match S[l]? with
  |some (.lst us)=>(match y with
   |.int i=>(atI us i).bind fun u=>some (u,S)
   |_=>none)
  |some (.dic kus)=>(nr y).bind fun k=>(aS kus k).bind fun u=>some (u,S)
  |some (.fdc ep kus)=>(nr y).bind fun k=>(aS kus k).bind fun u=>some (u,S)
  |_=>none
 |.kl ns=>match y with
  |.int i=>(atI (ns.map U.int) i).bind fun u=>some (u,S)
  |_=>none
 |_=>none
theorem wB{K:Q1}{m:List Addr}{H:Hp}:∀ns:List Int,IsL K m H (ns.map V.int) (ns.map U.int)
 |[]=>.nil_
 |n::ns=>.cons_ .int_ (wB ns)
theorem A4{m:List Addr}{H:Hp}{xs:List V}{us:List U}{i:Int}{u:U}(l:IsL K m H xs us)(h:atI us i=some u):∃v,atI xs i=some v/\Is K m H v u:=by
 unfold atI at h ⊢;rw[l.length];obtain⟨j,e1,e2⟩:=Q0.mp h;rw[e1];obtain⟨v,e3,e4⟩:=l.getD e2;exact⟨v,e3,e4⟩
theorem bB(hu:X.A.units+1<cLine)(ha:QE X a ca)(hb:QE X b cb)(hs:vj b)(hs2:Hu b):QE X (.Subscript a b pos) (cOp fIx ca cb):=
 ((IK (GG.or Ko) ha hb hs).or (Bz hu ha hb hs2)).imp fun σ H Q hz=>mF hz fun m ρ S u S' sr lr hc post=>by
 obtain⟨⟨x,S1⟩,h1,h⟩:=Q0.mp hc;obtain⟨⟨y,S2⟩,h3,h4⟩:=Q0.mp h;cases x with
 |tup us=>
  simp only[fIx]at h4;split at h4<;>try cases h4
  rename_i i;obtain⟨w,hw,h5⟩:=Q0.mp h4;cases h5;refine .inl ⟨m,ρ,S,_,S1,sr,lr,h1,fun m1 v1 H1 e1 sr1 i1=>⟨m1,ρ,S1,_,S',sr1,lr.mono e1,h3,fun m2 v2 H2 e2 sr2 i2=>.inr ?_⟩⟩;obtain⟨a,xs,rfl,sa,la⟩:=(i1.mono e2).of_tup;obtain⟨z,ez,iz⟩:=A4 la hw;exact⟨a,xs,i,z,rfl,i2.of_int,sa,ez,post m2 _ H2 (e1.trans e2) sr2 iz⟩
 |ref l=>
  simp only[fIx]at h4;split at h4<;>try cases h4
  ·rename_i us hS;split at h4<;>try cases h4
   rename_i i;obtain⟨w,hw,h5⟩:=Q0.mp h4;cases h5;refine .inl ⟨m,ρ,S,_,S1,sr,lr,h1,fun m1 v1 H1 e1 sr1 i1=>⟨m1,ρ,S1,_,S',sr1,lr.mono e1,h3,fun m2 v2 H2 e2 sr2 i2=>.inl ?_⟩⟩;obtain⟨a,ha,rfl⟩:=(i1.mono e2).of_ref;obtain⟨a',ha',xs,hx,la⟩:=sr2.get hS;rw[ha]at ha';cases ha';obtain⟨z,ez,iz⟩:=A4 la hw;exact⟨a,xs,i,z,rfl,i2.of_int,SqL.of hx,ez,post m2 _ H2 (e1.trans e2) sr2 iz⟩
  ·rename_i kus hS;obtain⟨k,hk,h5⟩:=Q0.mp h4;obtain⟨w,hw,h6⟩:=Q0.mp h5;cases h6;refine .inr ⟨m,ρ,S,_,S1,sr,lr,h1,fun m1 v1 H1 e1 sr1 i1=>⟨m1,ρ,S1,_,S',sr1,lr.mono e1,h3,fun m2 v2 H2 e2 sr2 i2=>?_⟩⟩;obtain⟨a,ha,rfl⟩:=(i1.mono e2).of_ref;obtain⟨a',ha',kvs,hx,ip⟩:=sr2.get hS;rw[ha]at ha';cases ha';have ek:=jw i2 hk;subst ek;have rf:=IsP.val (k:=k) ip;rw[hw]at rf;cases hv:jU kvs k with
   |none=>rw[hv]at rf;exact rf.elim
   |some z=>
    rw[hv]at rf;exact⟨a,z,rfl,by have:=DGet.k (k:=k) hx;rw[hv]at this;exact this,post m2 _ H2 (e1.trans e2) sr2 rf⟩
  ·rename_i ep kus hS;obtain⟨k,hk,h5⟩:=Q0.mp h4;obtain⟨w,hw,h6⟩:=Q0.mp h5;cases h6;refine .inr ⟨m,ρ,S,_,S1,sr,lr,h1,fun m1 v1 H1 e1 sr1 i1=>⟨m1,ρ,S1,_,S',sr1,lr.mono e1,h3,fun m2 v2 H2 e2 sr2 i2=>?_⟩⟩;obtain⟨a,ha,rfl⟩:=(i1.mono e2).of_ref;obtain⟨a',ha',ob,es,kvs,hx,hd,ip⟩:=sr2.get hS;rw[ha]at ha';cases ha';have ek:=jw i2 hk;subst ek;have rf:=IsP.val (k:=k) ip;rw[hw]at rf;cases hv:jU kvs k with
   |none=>rw[hv]at rf;exact rf.elim
   |some z=>
    rw[hv]at rf;exact⟨a,z,rfl,by have:=DGet.kz (k:=k) hx;rw[hv]at this;exact this,post m2 _ H2 (e1.trans e2) sr2 rf⟩
 |kl ns=>
  simp only[fIx]at h4;split at h4<;>try cases h4
  rename_i i;obtain⟨w,hw,h5⟩:=Q0.mp h4;cases h5;refine .inl ⟨m,ρ,S,_,S1,sr,lr,h1,fun m1 v1 H1 e1 sr1 i1=>⟨m1,ρ,S1,_,S',sr1,lr.mono e1,h3,fun m2 v2 H2 e2 sr2 i2=>.inl ?_⟩⟩;obtain⟨a,rfl,ka⟩:=(i1.mono e2).of_kl;obtain⟨z,ez,iz⟩:=A4 (wB (K:=X.K) (m:=m2) (H:=H2) ns) hw;exact⟨a,_,i,z,rfl,i2.of_int,ka.sq,ez,post m2 _ H2 (e1.trans e2) sr2 iz⟩
 |_=>simp[fIx]at h4
def oN:U->U->U->Sto->Option Sto:=fun o i v S=>match o with
 |.ref l=>match S[l]? with
  |some (.lst us)=>(match i with
   |.int k=>(ixN us.length k).bind fun j=>some (S.set l (.lst (us.set j v)))
   |_=>none)
  |some (.dic kus)=>(nr i).bind fun k=>if kus.length<LIM then some (S.set l (.dic (eJ kus k v)))else none
  |_=>none
 |_=>none
def dA(co ci cv:CE):CS:=fun ρ S=>(cv ρ S).bind fun p=>(co ρ p.2).bind fun q=>(ci ρ q.2).bind fun r=>(oN q.1 r.1 p.1 r.2).bind fun S'=>some (.nx,ρ,S')
theorem bS{o i:Expr}{co ci cv:CE}{pos':Pos}(hu:X.A.units+1<cLine)(ho:QE X o co)(hi:QE X i ci)(hv:QE X e cv)
  (hs0:swapsWithSole [.Subscript o i pos'] e pos.line X.env=pure false:=by rfl) (hw:swappedStores [.Subscript o i pos'] e X.env=pure none:=by rfl)
  (h1:(assignEach [.Subscript o i pos'] X.env).map (·.2)=[assign (.Subscript o i pos') X.env]:=by rfl)
  (hs:swapsWith e (some (.Subscript o i pos')) pos.line X.env=pure false:=by rfl)
  (ha:∀v,assign (.Subscript o i pos') X.env v=(do
   let ov <-holding [v] (eval o X.env)
   let iv <-holding [v,ov] (eval i X.env)
   standAt pos'
   holding [v,ov,iv] (setItem ov iv v)
   release [v,ov,iv] []):=by intro _;rfl):QS X (.Assign [.Subscript o i pos'] e pos) (dA co ci cv):=
 ((yk hv (Fd ho hi BR ha) hs0 hw h1).or (vy hu ho hi hv hs)).imp fun D σ H hz=>uv hz fun m ρ S o ρ' S' sr lr hc post=>by
 obtain⟨⟨v,S1⟩,h1,h⟩:=Q0.mp hc;obtain⟨⟨ou,S2⟩,h2,h⟩:=Q0.mp h;obtain⟨⟨iu,S3⟩,h3,h⟩:=Q0.mp h;obtain⟨S4,h4,h⟩:=Q0.mp h;cases h;cases ou with
 |ref l=>
  simp only[oN]at h4;split at h4<;>try cases h4
  ·rename_i us hS;split at h4<;>try cases h4
   rename_i k;obtain⟨j,hj,h5⟩:=Q0.mp h4;cases h5;refine .inl ⟨m,ρ,S,v,S1,sr,lr,h1,fun m1 v1 H1 e1 sr1 i1=>⟨m1,ρ,S1,_,S2,sr1,lr.mono e1,h2,fun m2 v2 H2 e2 sr2 i2=>⟨m2,ρ,S2,_,S3,sr2,lr.mono (e1.trans e2),h3,fun m3 v3 H3 e3 sr3 i3=>?_⟩⟩⟩;obtain⟨a,ha,rfl⟩:=(i2.mono e3).of_ref;obtain⟨a',ha',xs,hx,la⟩:=sr3.get hS;rw[ha]at ha';cases ha';have e13:=(e1.trans e2).trans e3;have ek:Ext X.K m3 H3 m3 (upd H3 a (.lst (xs.set j v1))):=.of (sr3.keep ha _);refine⟨a,xs,k,j,rfl,i3.of_int,hx,by rw[la.length];exact hj,post m3 σ _ (e13.trans ek) (sr3.put ha ⟨_,aN,((la.set (i1.mono (e2.trans e3)))).mono ek⟩) (lr.mono (e13.trans ek))⟩
  ·rename_i kus hS;obtain⟨k,hk,h5⟩:=Q0.mp h4;split at h5<;>try cases h5
   have eK:kus.length<LIM:=by assumption
   refine .inr ⟨m,ρ,S,v,S1,sr,lr,h1,fun m1 v1 H1 e1 sr1 i1=>⟨m1,ρ,S1,_,S2,sr1,lr.mono e1,h2,fun m2 v2 H2 e2 sr2 i2=>⟨m2,ρ,S2,_,S3,sr2,lr.mono (e1.trans e2),h3,fun m3 v3 H3 e3 sr3 i3=>?_⟩⟩⟩;obtain⟨a,ha,rfl⟩:=(i2.mono e3).of_ref;obtain⟨a',ha',kvs,hx,ip⟩:=sr3.get hS;rw[ha]at ha';cases ha';have ek:=jw i3 hk;subst ek;have e13:=(e1.trans e2).trans e3;have ee:Ext X.K m3 H3 m3 (upd H3 a (.dK (pC kvs k v1))):=.of (sr3.keep ha _);exact⟨a,_,rfl,EE.k hx (Hl (by rw[IsP.length ip];exact eK)),post m3 σ _ (e13.trans ee) (sr3.put ha ⟨_,aN,(IsP.put ip (i1.mono (e2.trans e3))).mono ee⟩) (lr.mono (e13.trans ee))⟩
 |_=>simp[oN]at h4
end
theorem lJ{α:Type}[DecidableEq α]:∀{l l':List α},l.Nodup->(∀x∈l,x∈l')->l.length<=l'.length
 |[],_,_,_=>Z7 _
 |x::r,l',nd,s=>by
  obtain⟨h1,h2⟩:=ZG.mp nd;have hx:=s x QU;have:=lJ (l:=r) (l':=l'.erase x) h2 fun y hy=>(List.mem_erase_of_ne (fun z=>h1 (by rw[<-z];exact hy))).mpr (s y (QD _ hy));rw[List.length_erase_of_mem hx]at this;have hp:=List.length_pos_of_mem hx;rw[QY];omega
theorem fQ(f:Str)(v:V):∀fs:List (Str×V),(pI f v fs).map (·.1)=if f∈fs.map (·.1)then fs.map (·.1)else fs.map (·.1)++[f]
 |[]=>by simp[pI]
 |(g,x)::r=>by
  unfold pI;by_cases e:g=f
  ·simp[e]
  ·have ih:=fQ f v r;rw[if_neg e,QX,QX,ih];by_cases c:f∈r.map (·.1)
   ·rw[if_pos c,if_pos (QD _ c)]
   ·rw[if_neg c,if_neg (fun z=>by rcases QM.mp z with z|z;exact e z.symm;exact c z)];rfl
section
variable{X:Cx}{K:Q1}{m:List Addr}{H:Hp}{c:Cl}{fs:List (Str×V)}{fus:List (Option U)}
theorem InF.room(h:InF K m H c fs fus):fs.length<1000:=by
 have:=lJ h.knd h.sub;rw[Q5]at this;have:=h.few;omega
theorem ox{f:Str}:∀{fs:List (Str×V)},f∉fs.map (·.1)->fs.lookup f=none
 |[],_=>rfl
 |(g,x)::r,h=>by
  rw[List.lookup_cons];have h1:(f == g)=false:=by
   apply beq_eq_false_iff_ne.mpr;intro z;exact h (by rw[z];exact QU)
  rw[h1];exact ox fun z=>h (QD _ z)
theorem InF.none_{f:Str}(h:InF K m H c fs fus)(hf:f∉c.ns):fs.lookup f=none:=ox fun z=>hf (h.sub f z)
theorem InF.put{f:Str}{i:Nat}{v:V}{u:U}(h:InF K m H c fs fus)(hi:c.ns[i]?=some f)(hv:Is K m H v u):InF K m H c (pI f v fs) (fus.set i (some u)):=by
 have hfm:f∈c.ns:=List.mem_of_getElem? hi;refine⟨h.nd,h.few,?_,fun x hx=>?_,by simp[h.len],fun j x hj=>?_⟩
 ·rw[fQ];split
  ·exact h.knd
  ·rename_i hn;rw[Qe];exact⟨h.knd,by simp,fun a ha b hb z=>by simp at hb;subst hb;subst z;exact hn ha⟩
 ·rw[fQ]at hx;split at hx
  ·exact h.sub x hx
  ·rcases Qw.mp hx with z|z
   ·exact h.sub x z
   ·simp at z;subst z;exact hfm
 ·rw[kr];by_cases e:i=j
  ·subst e;rw[hi]at hj;cases hj;rw[if_pos rfl];have:i<fus.length:=by rw[h.len];exact(Q9.mp hi).1
   rw[ZP this];exact hv
  ·have ne:x≠f:=fun z=>by
    subst z;obtain⟨p1,e1⟩:=Q9.mp hi;obtain⟨p2,e2⟩:=Q9.mp hj;exact e ((List.getElem_inj h.nd).mp (e1.trans e2.symm))
   rw[if_neg ne,Qy e];exact h.at_ j x hj
theorem InF.new(nd:c.ns.Nodup)(few:c.ns.length<1000):InF K m H c [] (Qh c.ns.length none):=by
 refine⟨nd,few,by simp,fun x hx=>by simp at hx,by simp,fun i x hi=>?_⟩;rw[ZH];split<;>exact trivial
open Classical in
def KI(c:Cl)(i:Nat)(x:U)(S:Sto):Option (U×Sto):=match x with
 |.ref l=>match S[l]? with
  |some (.ins c' fus)=>if c'=c then(fus[i]?).join.bind fun u=>some (u,S)else none
  |_=>none
 |_=>none
def gP(c:Cl)(i:Nat)(ca:CE):CE:=fun ρ S=>(ca ρ S).bind fun p=>KI c i p.1 p.2
open Classical in
def Ar(c:Cl)(i:Nat)(x v:U)(S:Sto):Option Sto:=match x with
 |.ref l=>match S[l]? with
  |some (.ins c' fus)=>if c'=c then some (S.set l (.ins c (fus.set i (some v))))else none
  |_=>none
 |_=>none
def pT(c:Cl)(i:Nat)(ca cv:CE):CS:=fun ρ S=>(cv ρ S).bind fun p=>(ca ρ p.2).bind fun q=>(Ar c i q.1 p.1 q.2).bind fun S'=>some (.nx,ρ,S')
variable{e:Expr}{ca cv:CE}{pos:Pos}{f:Str}{i:Nat}
theorem eQ(hcl:Cls X.K c.C)(hna:ke X.K c.C f)(hi:c.ns[i]?=some f)(h:QE X e ca)(hb:attributeBase e f X.env (eval e X.env)=eval e X.env:=by rfl):QE X (.Attribute e f pos) (gP c i ca):=(Fg h hb).imp fun σ H Q hz=>mF hz fun m ρ S u S' sr lr hc post=>by
 obtain⟨⟨x,S1⟩,h1,h2⟩:=Q0.mp hc;refine⟨m,ρ,S,x,S1,sr,lr,h1,fun m1 v1 H1 e1 sr1 i1=>?_⟩;cases x with
 |ref l=>
  simp only[KI]at h2;split at h2<;>try cases h2
  rename_i c' fus hS;split at h2<;>try cases h2
  rename_i hc';subst hc';obtain⟨w,hw,h3⟩:=Q0.mp h2;cases h3;obtain⟨a,ha,rfl⟩:=i1.of_ref;obtain⟨a',ha',dx,fs,hx,inf⟩:=sr1.get hS;rw[ha]at ha';cases ha';have rf:=inf.at_ i f hi;rw[hw]at rf;cases hv:fs.lookup f with
  |none=>rw[hv]at rf;exact rf.elim
  |some z=>
   rw[hv]at rf;exact⟨a,_,dx,fs,z,rfl,hx,hcl,hna,hv,post m1 _ H1 e1 sr1 rf⟩
 |_=>simp[KI]at h2
theorem jq{o:Expr}{co:CE}{pos':Pos}(hcl:Cls X.K c.C)(hna:ke X.K c.C f)(hi:c.ns[i]?=some f)(ho:QE X o co)(hv:QE X e cv)(hs:swapsWith e (some (.Attribute o f pos')) pos.line X.env=pure false:=by rfl):QS X (.Assign [.Attribute o f pos'] e pos) (pT c i co cv):=(E9 ho hv hs).imp fun D σ H hz=>uv hz fun m ρ S o ρ' S' sr lr hc post=>by
 obtain⟨⟨v,S1⟩,h1,h⟩:=Q0.mp hc;obtain⟨⟨x,S2⟩,h2,h⟩:=Q0.mp h;obtain⟨S3,h3,h⟩:=Q0.mp h;cases h;refine⟨m,ρ,S,v,S1,sr,lr,h1,fun m1 v1 H1 e1 sr1 i1=>⟨m1,ρ,S1,x,S2,sr1,lr.mono e1,h2,fun m2 v2 H2 e2 sr2 i2=>?_⟩⟩;cases x with
 |ref l=>
  simp only[Ar]at h3;split at h3<;>try cases h3
  rename_i c' fus hS;split at h3<;>try cases h3
  have hc':c'=c:=by assumption
  subst hc';obtain⟨a,ha,rfl⟩:=i2.of_ref;obtain⟨a',ha',dx,fs,hx,inf⟩:=sr2.get hS;rw[ha]at ha';cases ha';have ee:Ext X.K m2 H2 m2 (upd H2 a (.ins c'.C dx (pI f v1 fs))):=.of (sr2.keep ha _);have e12:=e1.trans e2;exact⟨a,_,dx,fs,rfl,hx,hcl,hna,inf.room,post m2 σ _ (e12.trans ee) (sr2.put ha ⟨dx,_,aN,(inf.put hi (i1.mono e2)).mono ee⟩) (lr.mono (e12.trans ee))⟩
 |_=>simp[Ar]at h3
structure Bk(P:Program)(w:World)(K:Q1)(mg:Str->Option Value)(base:Heap)(c:Cl)(mn:Str)(k:Nat)(ps:List Str)(f:Fn):Prop where
 ex:∃fa fd,K9 K c.C mn fa/\nc P w K mg base CX0 k fa fd ps (BP K f)/\iT K fd ps []
open Classical in
def As(c:Cl)(f:Fn)(x:U)(S:Sto)(args:Sto->Option (List U×Sto)):Option (U×Sto):=match x with
 |.ref l=>match S[l]? with
  |some (.ins c' _)=>if c'=c then(args S).bind fun q=>f (.ref l::q.1) q.2 else none
  |_=>none
 |_=>none
def ug(c:Cl)(f:Fn)(ca:CE)(cr:CA):CE:=fun ρ S=>(ca ρ S).bind fun p=>As c f p.1 p.2 (cr ρ)
theorem CF{mn:Str}{g:Fn}{co:CE}{cr:CA}(hmn:mn∉c.ns):∀σ H Q,tE K (ug c g co cr) σ H Q->Fv c.C mn (BP K g) [] E0 (tE K co) (tA K cr) σ H Q:=by
 rintro σ H Q ⟨m,ρ,S,u,S',sr,lr,hc,post⟩;obtain⟨⟨x,S1⟩,h1,h2⟩:=Q0.mp hc;refine⟨m,ρ,S,x,S1,sr,lr,h1,fun m1 v1 H1 e1 sr1 i1=>?_⟩;cases x with
 |ref l=>
  simp only[As]at h2;split at h2<;>try cases h2
  rename_i c' fus hS;split at h2<;>try cases h2
  rename_i hc';subst hc';obtain⟨⟨us,S2⟩,h3,h4⟩:=Q0.mp h2;obtain⟨a,ha,rfl⟩:=i1.of_ref;obtain⟨a',ha',dx,fs,hx,inf⟩:=sr1.get hS;rw[ha]at ha';cases ha';refine⟨a,dx,fs,rfl,hx,inf.none_ hmn,m1,ρ,S1,us,S2,sr1,lr.mono e1,h3,fun m2 vs H2 e2 sr2 i2=>?_⟩;exact⟨m2,_,S2,u,S',.cons_ (i1.mono e2) (by simpa using i2),sr2,h4,post.mono (e1.trans e2)⟩
 |_=>simp[As]at h2
theorem vU{mn:Str}{g:Fn}{k:Nat}{ps:List Str}{o:Expr}{es:List Expr}{co:CE}{cr:CA}{apos:Pos}{pl:Sem Bool}(hcl:Cls X.K c.C)(F:Bk X.prog X.w X.K X.mg X.base c mn k ps g)(hr:hU k X.A)(hmn:mn∉c.ns)(ho:QE X o co)(ha:QA X (e::es) cr)
  (hst:starEach (e::es) X.env=(false,eval e X.env)::starEach es X.env:=by rfl) (hpl:(backTo pos (starEach es X.env)).any (·.1)=false:=by rfl) (ht:eval (.Call (.Attribute o mn apos) (e::es) [] pos) X.env=(do
   let ov <-eval o X.env
   standAt apos.atName
   let (f,first) <-holding [ov] (getMethod ov mn pl)
   callWith pos f first (backTo pos (starEach (e::es) X.env)) (backToKw pos (keywordEach [] X.env))):=by rfl):QE X (.Call (.Attribute o mn apos) (e::es) [] pos) (ug c g co cr):=by
 obtain⟨fa,fd,hm,F,hb⟩:=F.ex;exact(Bv ho hcl hm F hr hb .nil Ck ha.h hst hpl ht).imp (CF hmn)
structure CMk(P:Program)(w:World)(K:Q1)(mg:Str->Option Value)(base:Heap)(c:Cl)(x:Str)(k:Nat)(ps:List Str)(f:Fn):Prop where
 ex:∃fa fd,Mk K c.C fa/\nc P w K mg base CX0 k fa fd ps (BP K f)/\iT K fd ps []/\mg x=some (.ref c.C)
 nd:c.ns.Nodup
 few:c.ns.length<1000
def rj(c:Cl)(f:Fn):Fn:=fun us S=>(f (.ref S.length::us) (S++[.ins c (Qh c.ns.length none)])).bind fun p=>match p.1 with
 |.non=>some (.ref S.length,p.2)
 |_=>none
theorem wa{g:Fn}{cr:CA}(nd:c.ns.Nodup)(few:c.ns.length<1000):∀σ H Q,tE K (cCB (rj c g) cr) σ H Q->yK c.C (BP K g) [] E0 (tA K cr) σ H Q:=by
 rintro σ H Q ⟨m,ρ,S,u,S',sr,lr,hc,post⟩;obtain⟨⟨us,S1⟩,h1,h2⟩:=Q0.mp hc;obtain⟨⟨w,S2⟩,h3,h4⟩:=Q0.mp h2;refine⟨m,ρ,S,us,S1,sr,lr,h1,fun m1 vs H1 e1 sr1 i1 x dx hx hdx ne=>?_⟩;cases w with
 |non=>
  cases h4;have s1:vi H1 (upd H1 dx (.own x)):=dR hdx _;have hx2:(upd H1 dx (.own x)) x=none:=by rw[bA (Ne.symm ne)];exact hx
  have ee:Ext K m1 H1 (m1++[x]) (upd (upd H1 dx (.own x)) x (.ins c.C dx [])):=.new ⟨fun b xs q=>(bT hx2 _).t b xs ((gX s1).t b xs q),fun b xs q=>(bT hx2 _).l b xs ((gX s1).l b xs q)⟩;refine⟨m1++[x],.ref S1.length::us,S1++[.ins c (Qh c.ns.length none)],.non,S2,.cons_ (.ref_ (dB sr1.len)) (by simpa using i1.mono ee),(sr1.same s1).new (o:=.ins c (Qh c.ns.length none)) hx2 ⟨dx,[],aN,InF.new nd few⟩,h3,fun m2 v2 H2 e2 sr2 i2=>⟨i2.of_non,?_⟩⟩;exact post m2 _ H2 ((e1.trans ee).trans e2) sr2 (.ref_ (e2.get (dB sr1.len)))
 |_=>simp at h4
theorem Jr{x:Str}{g:Fn}{k:Nat}{ps:List Str}{es:List Expr}{cr:CA}{p:Pos}(M:CMk X.prog X.w X.K X.mg X.base c x k ps g)(hr:hU (k+1) X.A)(hg:Gl X x)(ha:QA X (e::es) cr)
  (hdb:(x == ("__debug__":Str))=false:=by decide) (he:starEach (e::es) X.env=(false,eval e X.env)::starEach es X.env:=by rfl) (hpl:(backTo pos (starEach es X.env)).any (·.1)=false:=by rfl):QE X (.Call (.Name x p) (e::es) [] pos) (cCB (rj c g) cr):=by
 obtain⟨fa,fd,hm,F,hb,hx⟩:=M.ex;exact(Bw hm F hr hg hx hb .nil Ck ha.h hdb he hpl).imp (wa M.nd M.few)
theorem FI{x:Str}{g:Fn}{k:Nat}{ps:List Str}{p:Pos}(M:CMk X.prog X.w X.K X.mg X.base c x k ps g)(hr:hU (k+1) X.A)(hg:Gl X x)
  (hdb:(x == ("__debug__":Str))=false:=by decide):QE X (.Call (.Name x p) [] [] pos) (cCB (rj c g) aG):=by
 obtain⟨fa,fd,hm,F,hb,hx⟩:=M.ex;refine(yo hm F hr hg hx hb .nil Ck hdb).imp fun σ H Q h=>?_;obtain⟨m,ρ,S,us,S',sr,lr,hc,k⟩:=wa M.nd M.few σ H Q h;cases hc;exact k m [] H .refl sr .nil_
def iR:CE:=fun _ S=>some (.ref S.length,S++[.dic []])
theorem gU:QE X (.Dict [] [] pos) iR:=yr.imp fun σ H Q hz=>mF hz fun m ρ S u S' sr lr hc post=>by
 cases hc;exact fun p hp=>post (m++[p]) _ _ (.new (bT hp _)) (sr.new hp ⟨[],aN,.nil_⟩) (.ref_ (dB sr.len))
def mH(cd ck cx:CE):CE:=fun ρ S=>(cd ρ S).bind fun p=>match p.1 with
 |.ref l=>match p.2[l]? with
  |some (.dic _)=>(ck ρ p.2).bind fun q=>(cx ρ q.2).bind fun r=>match r.2[l]? with
   |some (.dic kus)=>(nr q.1).bind fun k=>some ((aS kus k).getD r.1,r.2)
   |_=>none
  |_=>none
 |_=>none
theorem sy{o e f:Expr}{cd ck cx:CE}{apos:Pos}(hu:X.A.units+1<cLine)(ho:QE X o cd)(he:QE X e ck)(hf:QE X f cx)(hm:M2 X o "get" apos e f pos):QE X (.Call (.Attribute o "get" apos) [e,f] [] pos) (mH cd ck cx):=(yt hu ho he hf hm).imp fun σ H Q hz=>mF hz fun m ρ S u S' sr lr hc post=>by
 obtain⟨⟨x,S1⟩,h1,h⟩:=Q0.mp hc;refine⟨m,ρ,S,x,S1,sr,lr,h1,fun m1 v1 H1 e1 sr1 i1=>?_⟩;cases x with
 |ref l=>
  simp only at h;split at h<;>try cases h
  rename_i kus0 hS;obtain⟨⟨ku,S2⟩,h2,h⟩:=Q0.mp h;obtain⟨⟨xu,S3⟩,h3,h⟩:=Q0.mp h;simp only at h;split at h<;>try cases h
  rename_i kus hS3;obtain⟨k,hk,h⟩:=Q0.mp h;cases h;obtain⟨a,ha,rfl⟩:=i1.of_ref;obtain⟨a',ha',kvs0,hx0,_⟩:=sr1.get hS;rw[ha]at ha';cases ha';refine⟨a,rfl,.inl ⟨kvs0,.inl hx0⟩,m1,ρ,S1,ku,S2,sr1,lr.mono e1,h2,fun m2 v2 H2 e2 sr2 i2=>⟨m2,ρ,S2,xu,_,sr2,lr.mono (e1.trans e2),h3,fun m3 v3 H3 e3 sr3 i3=>?_⟩⟩;obtain⟨a',ha',kvs,hx,ip⟩:=sr3.get hS3;rw[(e2.trans e3).get ha]at ha';cases ha';have ek:=jw (i2.mono e3) hk;subst ek;have rf:=IsP.val (k:=k) ip;refine⟨_,DGet.k hx,post m3 _ H3 ((e1.trans e2).trans e3) sr3 ?_⟩;cases hv:jU kvs k with
  |none=>
   cases hw:aS kus k with
   |none=>exact i3
   |some w=>rw[hv,hw]at rf;exact rf.elim
  |some v=>
   cases hw:aS kus k with
   |none=>rw[hv,hw]at rf;exact rf.elim
   |some w=>rw[hv,hw]at rf;exact rf
 |_=>simp at h
end
def ma(n:Nat)(caps:List Nat)(ρ:Rho):Rho:=Qh n none++caps.map fun i=>(ρ[i]?).getD none
open Classical in
def jx(ok:Sto->Prop)(g:CG)(ce:CE)(l:Nat):List U->Rho->Sto->Option Sto
 |[],_,S=>if ok S then some S else none
 |u::us,ρ,S=>if ok S then(g u ρ S).bind fun p=>(ce p.1 p.2).bind fun r=>match r.2[l]? with
  |some (.lst ys)=>if ys.length<LIM then jx ok g ce l us p.1 (r.2.set l (.lst (ys++[r.1])))else none
  |_=>none else none
def fg(ci:CI)(g:CG)(ce:CE)(n:Nat)(caps:List Nat):CE:=fun ρ S=>(ci ρ S).bind fun p=>(jx p.2.1 g ce p.2.2.length p.1 (ma n caps ρ) (p.2.2++[.lst []])).bind fun S'=>some (.ref p.2.2.length,S')
section
variable{X:Cx}{K:Q1}
theorem zL{m:List Addr}{H:Hp}{ρ:Rho}{σ:L2.St}{n:Nat}{caps:List Nat}(lr:Lr K m H ρ σ):Lr K m H (ma n caps ρ) (OG.stC n caps σ):=by
 refine⟨by simp[ma,OG.stC],fun j u e=>?_⟩;unfold ma at e;unfold OG.stC;by_cases c:j<n
 ·rw[QN (by simpa using c),ZH]at e;split at e<;>cases e
 ·rw[Qx (by simp;omega),Qb]at e ⊢;simp only[List.length_replicate]at e ⊢;cases q:caps[j-n]? with
  |none=>rw[q]at e;simp at e
  |some i=>
   rw[q]at e;simp only[Option.map_some,Option.some.injEq]at e ⊢;have e2:ρ[i]?=some (some u):=by
    cases z:ρ[i]? with
    |none=>rw[z]at e;simp at e
    |some y=>rw[z]at e;simp at e;rw[e]
   obtain⟨v,h1,h2⟩:=lr.at_ i u e2;exact⟨v,by rw[h1];rfl,h2⟩
theorem AN{g:CG}{ce:CE}{n:Nat}{caps:List Nat}{J:It}{us:List U}{ok:Sto->Prop}{Q:VK}{m1:List Addr}{H1:Hp}{S1 S':Sto}{ρ:Rho}{σ:L2.St}{l:Addr}(sr1:Sr K m1 S1 H1)(lr:Lr K m1 H1 ρ σ)(ito:Bm K J m1 H1 us ok)(hl:H1 l=none)(h2:jx ok g ce S1.length us (ma n caps ρ) (S1++[.lst []])=some S')
  (post:∀m2 H2,Ext K (m1++[l]) (upd H1 l (.lst [])) m2 H2->Sr K m2 S' H2->Q (.ref l) H2) :
  ∃W:Nat->Nat->L2.St->Hp->Prop,(∃m,W 0 m (OG.stC n caps σ) (upd H1 l (.lst [])))/\
 ∀i m σ' H2,W i m σ' H2->(J.stop i H2/\Q (.ref l) H2)\/(J.go i H2/\∃N:L2.St->Hp->Prop,(∀σ'' H',N σ'' H'->∃m',m'<m/\W (i+1) m' σ'' H')/\
  ∀x H3,J.yld i H2 x H3->tG K g x σ' H3 fun σ2 H4=>tE K ce σ2 H4 fun v H5=>∃ys,H5 l=some (.lst ys)/\ys.length<sizeLine/\N σ2 (upd H5 l (.lst (ys++[v])))):=by
 have ee:Ext K m1 H1 (m1++[l]) (upd H1 l (.lst [])):=.new (bT hl _);let W:Nat->Nat->L2.St->Hp->Prop:=fun i k σ2 H2=>k=us.length-i/\i<=us.length/\∃m2 ρ2 S2,Ext K (m1++[l]) (upd H1 l (.lst [])) m2 H2/\Sr K m2 S2 H2/\Lr K m2 H2 ρ2 σ2/\jx ok g ce S1.length (us.drop i) ρ2 S2=some S'
 refine⟨W,⟨us.length,by simp,Z7 _,m1++[l],ma n caps ρ,S1++[.lst []],.refl,sr1.new (o:=.lst []) hl ⟨[],aN,.nil_⟩,zL (lr.mono ee),by simpa using h2⟩,?_⟩;rintro i k σ2 H2 ⟨rfl,hi,m2,ρ2,S2,e2,sr2,lr2,hl2⟩;by_cases hlt:i<us.length
 ·have hu:=Q8 hlt;rw[oW hu]at hl2;unfold jx at hl2;split at hl2
  ·rename_i hok;obtain⟨⟨ρ3,S3⟩,h3,hl2⟩:=Q0.mp hl2;obtain⟨⟨u4,S4⟩,h4,hl2⟩:=Q0.mp hl2;simp only at hl2;split at hl2<;>try cases hl2
   rename_i ys hys;split at hl2<;>try cases hl2
   rename_i eK;obtain⟨hgo,hy⟩:=(ito m2 S2 H2 i (ee.trans e2) sr2 hok).1 _ hu;refine .inr ⟨hgo,W (i+1) (us.length-(i+1)),fun σ' H' w'=>⟨_,by omega,w'⟩,fun x H3 y=>?_⟩;obtain⟨e3,sr3,ix⟩:=hy x H3 y;refine⟨m2,ρ2,S2,_,ρ3,S3,sr3,lr2.mono e3,ix,h3,fun m4 σ4 H4 e4 sr4 lr4=>⟨m4,ρ3,S3,u4,S4,sr4,lr4,h4,fun m5 v5 H5 e5 sr5 i5=>?_⟩⟩;obtain⟨a',ha',xs,hx,il⟩:=sr5.get hys;have ha:m5[S1.length]?=some l:=(((e2.trans e3).trans e4).trans e5).get (dB sr1.len);rw[ha]at ha';cases ha';have eu:Ext K m5 H5 m5 (upd H5 l (.lst (xs++[v5]))):=.of (sr5.keep ha _);refine⟨xs,hx,Hl (by rw[il.length];exact eK),rfl,hlt,m5,ρ3,_,((((e2.trans e3).trans e4).trans e5).trans eu),sr5.put (o:=.lst (ys++[u4])) ha ⟨_,aN,(il.append (.cons_ i5 .nil_)).mono eu⟩,(lr4.mono (e5.trans eu)),hl2⟩
  ·cases hl2
 ·have e:i=us.length:=by omega
  subst e;rw[List.drop_length]at hl2;unfold jx at hl2;split at hl2
  ·rename_i hok;cases hl2;exact .inl ⟨(ito m2 _ H2 _ (ee.trans e2) sr2 hok).2 (QZ _),post m2 H2 e2 sr2⟩
  ·cases hl2
theorem wN{ci:CI}{g:CG}{ce:CE}{n:Nat}{caps:List Nat}:∀σ H Q,tE K (fg ci g ce n caps) σ H Q->BL (tI K ci) (tG K g) (tE K ce) n caps σ H Q:=by
 rintro σ H Q ⟨m,ρ,S,u,S',sr,lr,hc,post⟩;obtain⟨⟨us,ok,S1⟩,h1,h2⟩:=Q0.mp hc;obtain⟨S2,h2,h3⟩:=Q0.mp h2;cases h3;refine⟨m,ρ,S,us,ok,S1,sr,lr,h1,fun m1 H1 J e1 sr1 ito l hl=>?_⟩;have ee:Ext K m1 H1 (m1++[l]) (upd H1 l (.lst [])):=.new (bT hl _);exact AN sr1 (lr.mono e1) ito hl h2 fun m2 H2 e2 sr2=>post m2 _ H2 ((e1.trans ee).trans e2) sr2 (.ref_ (e2.get (dB sr1.len)))
theorem mW{Nc capN tn:List Str}{scope:Scope}{cl:List (Str×Addr)}{n:Nat}{caps:List Nat}{tg iter elt:Expr}{pos:Pos}{ci:CI}{g:CG}{ce:CE}
  (hc:X.calm=true) (hi:QI X tg iter ci) (hg:∀s3 H3 fp,WG (cxC X Nc scope cl s3 H3 fp) tg (tG X.K g)) (he:∀s3 H3 fp,WE (cxC X Nc scope cl s3 H3 fp) elt (tE X.K ce))
  (hclos:closureFor scope X.env=pure cl) (hkind:scope.kind=.function) (hnl:∀x∈scope.names,x.2=.local->scope.names.lookup x.1=some .local) (hcell:∀x∈scope.names,x.2≠.cell)
  (hcl:ux X.env cl) (hhas:((relabel scope X.env).names.all fun p=>!(p.2 == .cell||p.2 == .free)||(cl.lookup p.1).isSome)=true)
  (hcap:Paired (Cap X scope cl) caps capN) (hN:Nc=tn++capN) (hn:tn.length=n)
  (hs:∀x,foldedSetIterable iter X.env x=pure x:=by intro _;rfl) :
  QE X (.ListComp elt [⟨tg,iter,[],0⟩] scope pos) (fg ci g ce n caps):=(BA hc hi hg he hclos hkind hnl hcell hcl hhas hcap hN hn hs).imp wN
def oP:Fn
 |[.tup us],S=>some (.int us.length,S)
 |[.ref l],S=>match S[l]? with
  |some (.lst us)=>some (.int us.length,S)
  |some (.dic us)=>some (.int us.length,S)
  |_=>none
 |[.kl ns],S=>some (.int ns.length,S)
 |_,_=>none
abbrev N1(K:Q1):List V->Hp->VK->Prop:=fun xs H Q=>(∃p ys,xs=[.ref p]/\(SqL K H p ys\/SqT K H p ys)/\Q (.int ys.length) H)\/∃a kvs,xs=[V.ref a]/\H a=some (.dK kvs)/\Q (.int kvs.length) H
theorem nq:fY X (.builtin "len") (N1 X.K):=uc.or AR
theorem IsL.one{m:List Addr}{H:Hp}{vs:List V}{u:U}(h:IsL K m H vs [u]):∃v,vs=[v]/\Is K m H v u:=by
 obtain⟨x,r,rfl,i,t⟩:=h.of_cons;rw[t.of_nil];exact⟨x,rfl,i⟩
theorem nj:nz K (N1 K) oP:=by
 intro m S H us vs u S' Q sr i hf post;match us,hf with
 |[.tup ws],hf=>
  cases hf;obtain⟨v,rfl,iv⟩:=i.one;obtain⟨a,xs,rfl,sa,la⟩:=iv.of_tup;exact .inl ⟨a,xs,rfl,.inr sa,by rw[la.length];exact post m _ H .refl sr .int_⟩
 |[.ref l],hf=>
  obtain⟨v,rfl,iv⟩:=i.one;obtain⟨a,ha,rfl⟩:=iv.of_ref;simp only[oP]at hf;split at hf<;>try cases hf
  ·rename_i ws hS;obtain⟨a',ha',xs,hx,la⟩:=sr.get hS;rw[ha]at ha';cases ha';exact .inl ⟨a,xs,rfl,.inl (SqL.of hx),by rw[la.length];exact post m _ H .refl sr .int_⟩
  ·rename_i ws hS;obtain⟨a',ha',xs,hx,la⟩:=sr.get hS;rw[ha]at ha';cases ha';exact .inr ⟨a,xs,rfl,hx,by rw[IsP.length la];exact post m _ H .refl sr .int_⟩
 |[.kl ns],hf=>
  cases hf;obtain⟨v,rfl,iv⟩:=i.one;obtain⟨a,rfl,ka⟩:=iv.of_kl;exact .inl ⟨a,_,rfl,.inl ka.sq,by rw[Q5];exact post m _ H .refl sr .int_⟩
def xH:Fn
 |[.tup us],S=>some (.ref S.length,S++[.lst us])
 |[.ref l],S=>match S[l]? with
  |some (.lst us)=>some (.ref S.length,S++[.lst us])
  |_=>none
 |_,_=>none
theorem JY:nz K (fun xs H Q=>∃p ys,xs=[.ref p]/\(SqL K H p ys\/SqT K H p ys)/\∀l,H l=none->Q (.ref l) (upd H l (.lst ys))) xH:=by
 intro m S H us vs u S' Q sr i hf post;match us,hf with
 |[.tup ws],hf=>
  cases hf;obtain⟨v,rfl,iv⟩:=i.one;obtain⟨a,xs,rfl,sa,la⟩:=iv.of_tup;exact⟨a,xs,rfl,.inr sa,fun l hl=>dX sr la post hl⟩
 |[.ref l],hf=>
  obtain⟨v,rfl,iv⟩:=i.one;obtain⟨a,ha,rfl⟩:=iv.of_ref;simp only[xH]at hf;split at hf<;>try cases hf
  rename_i ws hS;obtain⟨a',ha',xs,hx,la⟩:=sr.get hS;rw[ha]at ha';cases ha';exact⟨a,xs,rfl,.inl (SqL.of hx),fun l hl=>dX sr la post hl⟩
def fT:Fn
 |[.tup us],S=>some (.tup us,S)
 |[.ref l],S=>match S[l]? with
  |some (.lst us)=>some (.tup us,S)
  |_=>none
 |_,_=>none
theorem js:nz K (fun xs H Q=>∃p ys,xs=[.ref p]/\((SqL K H p ys/\∀l,H l=none->Q (.ref l) (upd H l (.tup ys)))\/(SqT K H p ys/\Q (.ref p) H))) fT:=by
 intro m S H us vs u S' Q sr i hf post;match us,hf with
 |[.tup ws],hf=>
  cases hf;obtain⟨v,rfl,iv⟩:=i.one;obtain⟨a,xs,rfl,sa,la⟩:=iv.of_tup;exact⟨a,xs,rfl,.inr ⟨sa,post m _ H .refl sr iv⟩⟩
 |[.ref l],hf=>
  obtain⟨v,rfl,iv⟩:=i.one;obtain⟨a,ha,rfl⟩:=iv.of_ref;simp only[fT]at hf;split at hf<;>try cases hf
  rename_i ws hS;obtain⟨a',ha',xs,hx,la⟩:=sr.get hS;rw[ha]at ha';cases ha';exact⟨a,xs,rfl,.inl ⟨SqL.of hx,fun l hl=>qO sr la post hl⟩⟩
def Lv:Fn
 |[.int i],S=>some (.int i,S)
 |[.bl b],S=>some (.int (if b then 1 else 0),S)
 |_,_=>none
theorem MT:nz K (fun xs H Q=>(∃i,xs=[.int i]/\Q (.int i) H)\/∃k,xs=[.bl k]/\Q (.int (if k then 1 else 0)) H) Lv:=by
 intro m S H us vs u S' Q sr i hf post;match us,hf with
 |[.int j],hf=>
  cases hf;obtain⟨v,rfl,iv⟩:=i.one;exact .inl ⟨j,by rw[iv.of_int],post m _ H .refl sr .int_⟩
 |[.bl j],hf=>
  cases hf;obtain⟨v,rfl,iv⟩:=i.one;exact .inr ⟨j,by rw[iv.of_bl],post m _ H .refl sr .int_⟩
def qW:List U->Option (List Int)
 |[]=>some []
 |.int i::r=>(qW r).map (i::·)
 |_=>none
def Ht:List U->Option (List Bool)
 |[]=>some []
 |.bl i::r=>(Ht r).map (i::·)
 |_=>none
theorem lS:∀{us:List U} {ns:List Int},qW us=some ns->us=ns.map U.int
 |[],ns,h=>by cases h;rfl
 |u::r,ns,h=>by
  cases u<;>simp only[qW]at h<;>try cases h
  obtain⟨ms,e,h⟩:=Qn.mp h;subst h;rw[lS e];rfl
theorem fS:∀(ns:List Int),qW (ns.map U.int)=some ns
 |[]=>rfl
 |n::r=>by simp[qW,fS r]
theorem AZ:∀{us:List U} {ns:List Bool},Ht us=some ns->us=ns.map U.bl
 |[],ns,h=>by cases h;rfl
 |u::r,ns,h=>by
  cases u<;>simp only[Ht]at h<;>try cases h
  obtain⟨ms,e,h⟩:=Qn.mp h;subst h;rw[AZ e];rfl
theorem wV:∀(ns:List Bool),Ht (ns.map U.bl)=some ns
 |[]=>rfl
 |n::r=>by simp[Ht,wV r]
theorem IsL.ints{m:List Addr}{H:Hp}:∀{xs:List V} {ns:List Int},IsL K m H xs (ns.map U.int)->xs=ns.map V.int
 |xs,[],h=>h.of_nil
 |xs,n::ns,h=>by
  obtain⟨x,r,rfl,i,t⟩:=h.of_cons;rw[IsL.ints t,i.of_int];rfl
theorem IsL.bls{m:List Addr}{H:Hp}:∀{xs:List V} {ns:List Bool},IsL K m H xs (ns.map U.bl)->xs=ns.map V.bl
 |xs,[],h=>h.of_nil
 |xs,n::ns,h=>by
  obtain⟨x,r,rfl,i,t⟩:=h.of_cons;rw[IsL.bls t,i.of_bl];rfl
theorem iA{m:List Addr}{H:Hp}:∀(ns:List Int),IsL K m H (ns.map V.int) (ns.map U.int)
 |[]=>.nil_
 |n::ns=>.cons_ .int_ (iA ns)
def KJ:Fn
 |[.ref l],S=>match S[l]? with
  |some (.lst us)=>(Ht us).bind fun bs=>some (.bl (bs.all id),S)
  |_=>none
 |_,_=>none
theorem MV:nz K (fun xs H Q=>∃(p:Addr) (bs:List Bool),xs=[.ref p]/\SqL K H p (bs.map V.bl)/\Q (.bl (bs.all id)) H) KJ:=by
 intro m S H us vs u S' Q sr i hf post;match us,hf with
 |[.ref l],hf=>
  obtain⟨v,rfl,iv⟩:=i.one;obtain⟨a,ha,rfl⟩:=iv.of_ref;simp only[KJ]at hf;split at hf<;>try cases hf
  rename_i ws hS;obtain⟨bs,hb,h⟩:=Q0.mp hf;cases h;obtain⟨a',ha',xs,hx,la⟩:=sr.get hS;rw[ha]at ha';cases ha';rw[AZ hb]at la;rw[la.bls]at hx;exact⟨a,bs,rfl,SqL.of hx,post m _ H .refl sr .bl_⟩
inductive Ty where
 |non|bool|int|str|tuple|list|dict
def Ty.nm:Ty->String
 |.non=>"NoneType"|.bool=>"bool"|.int=>"int"|.str=>"str"|.tuple=>"tuple"|.list=>"list"|.dict=>"dict"
def tyU:U->Sto->Option Ty
 |.non,_=>some .non|.bl _,_=>some .bool|.int _,_=>some .int|.str _,_=>some .str|.tup _,_=>some .tuple
 |.ref l,S=>match S[l]? with
  |some (.lst _)=>some .list
  |some (.dic _)=>some .dict
  |_=>none
 |.kl _,_=>none
def BM:Ty->Ty->Bool
 |.non,.non=>true|.bool,.bool=>true|.bool,.int=>true|.int,.int=>true|.str,.str=>true|.tuple,.tuple=>true|.list,.list=>true|.dict,.dict=>true
 |_,_=>false
theorem oF(a b:Ty)(hb:b≠.non):PySem.W.kitOne K (.type a.nm) (.type b.nm)=some (BM a b):=by
 cases b<;>first|exact absurd rfl hb|(cases a<;>rfl)
abbrev OZ(K:Q1):List V->Hp->VK->Prop:=fun xs H Q=>(∃(x:V) (T:String) (t:Value) (k:Bool),xs=[x,.ty T]/\w4 K H x t/\PySem.W.kitOne K t (.type T)=some k/\Q (.bl k) H)\/
 ∃(a:Addr) (ys:List V) (T:String) (k:Bool),xs=[.ref a,.ty T]/\SqT K H a ys/\PySem.W.kitOne K (.type "tuple") (.type T)=some k/\Q (.bl k) H
theorem MY:fY X (.builtin "isinstance") (OZ X.K):=by
 refine vc.or ?_;rintro pins s σ H xs us Q I r ⟨a,ys,T,k,rfl,sq,e,q⟩;obtain⟨u,w',rfl,ru,rw'⟩:=IP r;cases rw';cases ru;obtain⟨its,rv,ht,hz⟩:=I.tuple sq;obtain⟨o,h1,h2,_⟩:=ht;exact PySem.W.kia_one PySem.W.kitx_tuple I.kIn ⟨o,h1,h2⟩ e (fun z=>nomatch z) fun tk=>⟨.bl k,H,I.tok tk,rfl,q⟩
def uw(T:Ty)(ca:CE):CE:=fun ρ S=>(ca ρ S).bind fun p=>(tyU p.1 p.2).bind fun t=>some (.bl (BM t T),p.2)
theorem sv{T:Ty}{e eT:Expr}{ca:CE}{p pos:Pos}(hT0:T≠.non)(he:QE X e ca)(hT:WE X eT (tC (.ty T.nm)))(hg:Gl X "isinstance")(hm:X.mg "isinstance"=none)
  (h1:starEach [e,eT] X.env=(false,eval e X.env)::starEach [eT] X.env:=by rfl) (h2:starEach [eT] X.env=(false,eval eT X.env)::starEach [] X.env:=by rfl) (hpl:(backTo pos (starEach [eT] X.env)).any (·.1)=false:=by rfl) :
  QE X (.Call (.Name "isinstance" p) [e,eT] [] pos) (uw T ca):=(rS MY hg hm OG.o8 (fB he (fB hT mf h2) h1) (by decide) (by decide) h1 hpl).imp fun σ H Q hz=>mF hz fun m ρ S u S' sr lr hc post=>by
 obtain⟨⟨x,S1⟩,h1,h2⟩:=Q0.mp hc;obtain⟨t,ht,h3⟩:=Q0.mp h2;cases h3;refine⟨m,ρ,S,x,_,sr,lr,h1,fun m1 v1 H1 e1 sr1 i1=>?_⟩;have fin:=post m1 _ H1 e1 sr1 (Is.bl_ (b:=BM t T));cases x with
 |non=>cases ht;rw[i1.of_non];exact .inl ⟨_,_,_,_,rfl,.non,oF .non T hT0,fin⟩
 |bl b=>cases ht;rw[i1.of_bl];exact .inl ⟨_,_,_,_,rfl,.bl b,oF .bool T hT0,fin⟩
 |int i=>cases ht;rw[i1.of_int];exact .inl ⟨_,_,_,_,rfl,.int i,oF .int T hT0,fin⟩
 |str i=>cases ht;rw[i1.of_str];exact .inl ⟨_,_,_,_,rfl,.str i,oF .str T hT0,fin⟩
 |tup us=>
  cases ht;obtain⟨a,xs,rfl,sa,la⟩:=i1.of_tup;exact .inr ⟨a,xs,_,_,rfl,sa,oF .tuple T hT0,fin⟩
 |ref l=>
  obtain⟨a,ha,rfl⟩:=i1.of_ref;simp only[tyU]at ht;split at ht<;>try cases ht
  ·rename_i ws hS;obtain⟨a',ha',xs,hx,la⟩:=sr1.get hS;rw[ha]at ha';cases ha';exact .inl ⟨_,_,_,_,rfl,.lst hx,oF .list T hT0,fin⟩
  ·rename_i ws hS;obtain⟨a',ha',xs,hx,la⟩:=sr1.get hS;rw[ha]at ha';cases ha';exact .inl ⟨_,_,_,_,rfl,.dK hx,oF .dict T hT0,fin⟩
 |kl ns=>cases ht
def cBM(f:U->List U->Sto->Option (U×Sto))(co:CE)(cr:CA):CE:=fun ρ S=>(co ρ S).bind fun p=>match p.1 with
 |.ref l=>match p.2[l]? with
  |some (.lst _)=>(cr ρ p.2).bind fun q=>f p.1 q.1 q.2
  |_=>none
 |_=>none
def MtP(K:Q1)(r:V->List V->Hp->VK->Prop)(f:U->List U->Sto->Option (U×Sto)):Prop:=
 ∀m S H x v us vs u S' Q,Sr K m S H->Is K m H v x->IsL K m H vs us->f x us S=some (u,S')->l7 K m H Q u S'->r v vs H Q
theorem uh{r:V->List V->Hp->VK->Prop}{f:U->List U->Sto->Option (U×Sto)}{co:CE}{cr:CA}(hp:MtP K r f):∀σ H Q,tE K (cBM f co cr) σ H Q->tBM K "list" r (tE K co) (tA K cr) σ H Q:=by
 rintro σ H Q ⟨m,ρ,S,u,S',sr,lr,hc,post⟩;obtain⟨⟨x,S1⟩,h1,h2⟩:=Q0.mp hc;refine⟨m,ρ,S,x,S1,sr,lr,h1,fun m1 v1 H1 e1 sr1 i1=>?_⟩;cases x with
 |ref l=>
  simp only at h2;split at h2<;>try cases h2
  rename_i ws hS;obtain⟨⟨us,S2⟩,h3,h4⟩:=Q0.mp h2;obtain⟨a,ha,rfl⟩:=id i1.of_ref;obtain⟨a',ha',xs,hx,la⟩:=sr1.get hS;rw[ha]at ha';cases ha';exact⟨.inl ⟨rfl,xs,SqL.of hx⟩,m1,ρ,S1,us,S2,sr1,lr.mono e1,h3,fun m2 vs H2 e2 sr2 i2=>hp m2 S2 H2 _ _ us vs u S' Q sr2 (i1.mono e2) i2 h4 (post.mono (e1.trans e2))⟩
 |_=>simp at h2
def cq:U->List U->Sto->Option (U×Sto)
 |.ref l,[u],S=>match S[l]? with
  |some (.lst us)=>if us.length<LIM then some (.non,S.set l (.lst (us++[u])))else none
  |_=>none
 |_,_,_=>none
theorem Ct:MtP K y3 cq:=by
 intro m S H x v us vs u S' Q sr ix i hf post;match x,us,hf with
 |.ref l,[w],hf=>
  simp only[cq]at hf;split at hf<;>try cases hf
  rename_i ws hS;split at hf<;>try cases hf
  rename_i hl;obtain⟨a,ha,rfl⟩:=ix.of_ref;obtain⟨a',ha',xs,hx,la⟩:=sr.get hS;rw[ha]at ha';cases ha';obtain⟨y,rfl,iy⟩:=i.one;have eu:Ext K m H m (upd H a (.lst (xs++[y]))):=.of (sr.keep ha _);exact⟨a,xs,y,rfl,rfl,hx,Hl (by rw[la.length];exact hl),post m _ _ eu (sr.put ha ⟨_,aN,(la.append (.cons_ iy .nil_)).mono eu⟩) .non_⟩
variable{e:Expr}{es:List Expr}{co:CE}{cr:CA}{o:Expr}{apos cpos:Pos}
theorem dW (ho : QE X o co) (ha : QA X (e :: es) cr) (hbase : attributeBase o "append" X.env (eval o X.env) = eval o X.env := by rfl) (hfew : ((backTo cpos (starEach (e :: es) X.env)).all (fun x => !x.1) && (backToKw cpos (keywordEach [] X.env)).all (fun x => x.1.isSome)
   && decide ((e::es).length+([]:List Keyword).length+(if ([]:List Keyword).isEmpty then 0 else 1)<30))=true:=by rfl) (hline:(apos.endLine == cpos.line)=true:=by rfl) (hs:starEach (e::es) X.env=(false,eval e X.env)::starEach es X.env:=by rfl) (hplain:(backTo cpos (starEach es X.env)).any (·.1)=false:=by rfl) :
  QE X (.Call (.Attribute o "append" apos) (e::es) [] cpos) (cBM cq co cr):=(vB PySem.F.plainAttrs_list PySem.F.slot_list_append PySem.F.type_list_append om ho ha.h hbase hfew hline hs hplain).imp (uh Ct)
end
structure TC(K:Q1)(c:Cl)(NS:List Str):Prop where
 cl:Cls K c.C
 ns:c.ns=NS
 nas:∀f∈NS,ke K c.C f
section
variable{K:Q1}{c:Cl}{NS:List Str}
theorem TC.ix(T:TC K c NS){i:Nat}{f:Str}(h:NS[i]?=some f):c.ns[i]?=some f:=by rw[T.ns];exact h
theorem TC.na(T:TC K c NS)(i:Nat){f:Str}(h:NS[i]?=some f):ke K c.C f:=T.nas f (List.mem_of_getElem? h)
theorem TC.nm(T:TC K c NS){f:Str}(h:f∉NS):f∉c.ns:=by rw[T.ns];exact h
end
theorem _root_.L2.Fun.pure{P:Program}{w:World}{K:Q1}{mg:Str->Option Value}{base:Heap}{x qual:Str}{st:Stmt}{f:Addr}{fd:FuncData}{N ps:List Str}{k:Nat}{c:CS}(F:Fun K x qual st f fd)(S:aL N ps (ax st))
  (hb:∀(cdv:Value) (A:Around) (outer:List Env) (s:Shared) (H:Hp) (E:XK),hU k (A.deeper (envOfC qual (ax st) s.heap.objs.size f cdv))->
   WSs (wL CX0 P w K mg base N qual (ax st) f cdv A outer s H E).nox (dZ st) (tS K c)):nc P w K mg base CX0 (k+1) f fd ps (BP K (fnU N.length ps.length c)):=
 Fun.okW F S (fun vs H Q E h=>vM h) fun cdv A outer s H vs Q E hr h=>⟨_,hb cdv A outer s H E hr,An (X:=(wL CX0 P w K mg base N qual (ax st) f cdv A outer s H E).nox) (body:=[]) (ps:=ps) rfl h⟩
def SI:Bool->Heap->Addr->Addr->Nat->Prop
 |true,h,it,a,i=>h.IsListIter it a i
 |false,h,it,a,i=>h.IsTupleIter it a i
def SA:Bool->Heap->Addr->Array Value->Prop
 |true,h,a,xs=>h.IsList a xs
 |false,h,a,xs=>h.IsTuple a xs
theorem SI.at_{b:Bool}{h h':Heap}{it a:Addr}{i:Nat}(x:SI b h it a i)(k:∀o,h.get? it=some o->h'.get? it=some o):SI b h' it a i:=by
 cases b with
 |true=>obtain⟨o,e,r⟩:=x;exact⟨o,k o e,r⟩
 |false=>obtain⟨o,e,r⟩:=x;exact⟨o,k o e,r⟩
theorem SA.at_{b:Bool}{h h':Heap}{a:Addr}{xs:Array Value}(x:SA b h a xs)(k:∀o,h.get? a=some o->h'.get? a=some o):SA b h' a xs:=by
 cases b with
 |true=>obtain⟨o,e,r⟩:=x;exact⟨o,k o e,r⟩
 |false=>obtain⟨o,e,r⟩:=x;exact⟨o,k o e,r⟩
theorem SI.obj{b:Bool}{h:Heap}{it a:Addr}{i:Nat}(x:SI b h it a i):∃o,h.get? it=some o/\∀v,o.data≠.cell v:=by
 cases b with
 |true=>obtain⟨o,e,c,d⟩:=x;exact⟨o,e,fun v z=>by rw[d]at z;cases z⟩
 |false=>obtain⟨o,e,c,d⟩:=x;exact⟨o,e,fun v z=>by rw[d]at z;cases z⟩
theorem SA.lt{b:Bool}{h:Heap}{a:Addr}{xs:Array Value}(x:SA b h a xs):a<h.objs.size:=by
 cases b with
 |true=>obtain⟨o,e,_⟩:=x;exact QB e
 |false=>obtain⟨o,e,_⟩:=x;exact QB e
section
variable{prog:Program}{w:World}{A:Around}{E:Value->Shared->Prop}{s:Shared}
theorem BJ{I t:Addr}{j:Nat}{ys:Array Value}{y:Value}{Q:Value->Shared->Prop}(hI:s.heap.IsTupleIter I t j)(hT:s.heap.IsTuple t ys)(hy:ys[j]?=some y)
  (k:∀h',h'.IsTupleIter I t (j+1)->ZT I s.heap h'->Q y { s with heap:=h' }):wpAny (model prog w) A (Builtin.SmallTypes.nextOf (.ref I)) Q E s:=by
 obtain⟨oi,gi,ci,di⟩:=id hI;obtain⟨ot,gt,_,nt,dt⟩:=hT;unfold Builtin.SmallTypes.nextOf;refine Q2 (wpAny_callSpecial?_slot (name:=Str.ofString "__next__") hI.typeIs PySem.F.slot_tuple_iterator_next (wpAny_call_entry PySem.F.slot_tuple_iterator_next hI.typeIs PySem.F.entry_tuple_iterator_next ?_ (PySem.F.args_tuple_iterator_next_1 _)));show wpAny _ _ (field (.ref I) 0 >>= _) _ _ s;refine Q2 (wpAny_field gi di (x:=.ref t) rfl ?_);show wpAny _ _ (ite ((Value.ref t == Value.none)=true) _ _) _ _ s;rw[if_neg (by exact QK)];show wpAny _ _ (field (.ref I) 1 >>= _) _ _ s;refine Q2 (wpAny_field gi di (x:=.int j 0) rfl ?_);show wpAny _ _ (seqItems? (.ref t) >>= _) _ _ s;refine Q2 (wpAny_seqItems gt dt ?_);simp only[hy,Int.toNat_natCast];refine Q2 (wpAny_setField gi di (by simp) (QQ ⟨y,rfl,QQ (k _ ⟨_,Heap.get?_update_self _ gi (Obj.isFreed_of_fields (Obj.data_mapFields di _)),(Obj.cls_mapFields ..).trans ci,?_⟩ (Heap.SameBut.update ..))⟩));rw[Obj.data_mapFields di];simp[rawInt]
theorem rX{I t:Addr}{j:Nat}{ys:Array Value}{Q:Value->Shared->Prop}(hh:A.handled=none)(hI:s.heap.IsTupleIter I t j)(hT:s.heap.IsTuple t ys)(hy:ys[j]?=none)
  (k:∀h' e,Heap.ExtBut I s.heap h'->(∃o,h'.get? e=some o/\o.cls=.type "StopIteration")->E (.ref e) { s with heap:=h' }):wpAny (model prog w) A (Builtin.SmallTypes.nextOf (.ref I)) Q E s:=by
 obtain⟨oi,gi,ci,di⟩:=id hI;obtain⟨ot,gt,_,nt,dt⟩:=hT;unfold Builtin.SmallTypes.nextOf;refine Q2 (wpAny_callSpecial?_slot (name:=Str.ofString "__next__") hI.typeIs PySem.F.slot_tuple_iterator_next (wpAny_call_entry PySem.F.slot_tuple_iterator_next hI.typeIs PySem.F.entry_tuple_iterator_next ?_ (PySem.F.args_tuple_iterator_next_1 _)));show wpAny _ _ (field (.ref I) 0 >>= _) _ _ s;refine Q2 (wpAny_field gi di (x:=.ref t) rfl ?_);show wpAny _ _ (ite ((Value.ref t == Value.none)=true) _ _) _ _ s;rw[if_neg (by exact QK)];show wpAny _ _ (field (.ref I) 1 >>= _) _ _ s;refine Q2 (wpAny_field gi di (x:=.int j 0) rfl ?_);show wpAny _ _ (seqItems? (.ref t) >>= _) _ _ s;refine Q2 (wpAny_seqItems gt dt ?_);simp only[hy,Int.toNat_natCast];refine Q2 (wpAny_rule (Q2 (wpAny_setField gi di (by simp) ?_)));show wpAny _ _ (newExc (.type "StopIteration") [] >>= _) _ _ _;simp only[newExc,newTuple];refine Q2 ?_;refine Q2 (wpAny_newObj_type ?_ (by(size_fits)));refine Q2 (m:=firstArgMember _ _) (wpAny_of_eq (a:=Value.none) (by simp only[firstArgMember]<;>rfl) ?_);refine wpAny_newObj_type ?_ (by(size_fits));simp only[raiseNew];refine Q2 (wpAny_handled ?_);rw[show A.in1.handled=none from hh];exact Q2 (QQ (wpAny_throw (k _ _ (((Heap.SameBut.update ..).extBut.push _).push _) ⟨_,QF _ rfl,rfl⟩)))
theorem Fw{b:Bool}{I t:Addr}{j:Nat}{ys:Array Value}{y:Value}{Q:Value->Shared->Prop}(hI:SI b s.heap I t j)(hT:SA b s.heap t ys)(hy:ys[j]?=some y)
  (k:∀h',SI b h' I t (j+1)->ZT I s.heap h'->Q y { s with heap:=h' }):wpAny (model prog w) A (Builtin.SmallTypes.nextOf (.ref I)) Q E s:=by
 cases b with
 |true=>exact wpAny_nextOf_list_item hI hT hy k
 |false=>exact BJ hI hT hy k
theorem nQ{b:Bool}{I t:Addr}{j:Nat}{ys:Array Value}{Q:Value->Shared->Prop}(hh:A.handled=none)(hI:SI b s.heap I t j)(hT:SA b s.heap t ys)(hy:ys[j]?=none)
  (k:∀h' e,Heap.ExtBut I s.heap h'->(∃o,h'.get? e=some o/\o.cls=.type "StopIteration")->E (.ref e) { s with heap:=h' }):wpAny (model prog w) A (Builtin.SmallTypes.nextOf (.ref I)) Q E s:=by
 cases b with
 |true=>exact wpAny_nextOf_list_end hh hI hT hy k
 |false=>exact rX hh hI hT hy k
def itO(b:Bool)(a:Addr):Obj:={ cls:=.type (if b then "list_iterator" else "tuple_iterator"),data:=.fields #[.ref a,.int 0 0] }
theorem Ks{b:Bool}{a i:Addr}{h:Heap}(e:h.get? i=some (itO b a)):SI b h i a 0:=by
 cases b with
 |true=>exact⟨_,e,rfl,rfl⟩
 |false=>exact⟨_,e,rfl,rfl⟩
end
def Sq(K:Q1):Bool->Hp->Addr->List V->Prop
 |true,H,a,xs=>SqL K H a xs
 |false,H,a,xs=>SqT K H a xs
section
variable{X:Cx}{pins:List (Addr×Obj)}{σ:L2.St}{H:Hp}{s:Shared}{h':Heap}
theorem _root_.L2.Inv.turnedL{t':Nat}{ch:List Addr}(I:Inv X pins σ H s)(k:∀b o,b∉ch->s.heap.get? b=some o->h'.get? b=some o)(hf:∀b∈ch,x6 X pins H b):Inv X pins σ H { s with heap:=h',toks:=t' }:=by
 have nit:∀b u,H b=some u->b∉ch:=fun b u e z=>by rw[(hf b z).1]at e;cases e
 refine I.step (g':=s.gens) (d':=s.drawn) (ch:=ch) (fun b hb=>⟨(hf b hb).2.2.2.1,(hf b hb).2.1,(hf b hb).2.2.2.2.1,(hf b hb).2.2.2.2.2⟩) (fun b o _ _ hc e _=>k b o hc e) (fun b o _ _ hc e _=>⟨o.slots,k b o hc e⟩) (fun _ _ _ _ n=>n)
  (fun b o hc e=>⟨o,k b o hc e⟩) (fun _ _ e=>e) (fun _ _ _ e=>e) (fun b ps e=>⟨#[],by rw[e];simp⟩) (fun m hm=>?_) (fun b u e=>?_) I.bare
 ·obtain⟨o,es,ep,ho,r⟩:=hm;exact⟨o,es,ep,k _ o (fun z=>(hf _ z).2.1 rfl) ho,r⟩
 ·refine(I.hok b u e).stay (fun c v hc q=>k c v ?_ q) (fun _ q=>q) fun _ _ q=>q;rcases hc with z|z
  ·rw[z];exact nit b u e
  ·exact nit c _ z
theorem _root_.L2.Inv.sq{b:Bool}{a:Addr}{xs:List V}(I:Inv X pins σ H s)(h:Sq X.K b H a xs):∃its:List Value,bU xs its/\SA b s.heap a its.toArray:=by
 cases b with
 |true=>obtain⟨its,r,p,_⟩:=I.list h;exact⟨its,r,p.isList⟩
 |false=>obtain⟨its,r,p,_⟩:=I.tuple h;exact⟨its,r,p⟩
theorem _root_.L2.Inv.sq_inj{b:Bool}{a:Addr}{xs ys:List V}(I:Inv X pins σ H s)(h:Sq X.K b H a xs)(h2:Sq X.K b H a ys):xs=ys:=by
 cases b with
 |true=>exact I.list_inj h h2
 |false=>exact I.tuple_inj h h2
end
theorem B6{h:Heap}{ob o:Obj}{e:Addr}(q:(h.push ob).get? e=some o)(ne:e≠h.objs.size):h.get? e=some o:=(Heap.get?_push_ne h e ob ne).symm.trans q
theorem Cn{P:Program}{w:World}{H:Hp}{h:Heap}{a:Addr}{x y:V}{u v:Value}(e:h.get? a=some { cls:=.type "tuple",data:=.seq #[u,v] })(rx:cD x u)(ry:cD y v):cy P w H h a (.tup [x,y]):=
 ⟨by show 2<=sizeLine;decide,[u,v],.cons rx (.cons ry .nil),⟨_,e,rfl,_,rfl⟩⟩
def BU:U->Sto->Option (List U×(Sto->Prop))
 |.tup us,_=>some (us,fun _=>True)
 |.ref l,S=>match S[l]? with
  |some (.lst us)=>some (us,fun S=>S[l]?=some (.lst us))
  |_=>none
 |_,_=>none
theorem Jk{K:Q1}{m:List Addr}{S:Sto}{H:Hp}{u:U}{v:V}{us:List U}{ok:Sto->Prop}(sr:Sr K m S H)(iu:Is K m H v u)(h:BU u S=some (us,ok)) :
  ∃b a,v=.ref a/\(∃xs,Sq K b H a xs)/\∀m2 S2 H2,Ext K m H m2 H2->Sr K m2 S2 H2->ok S2->∃xs,Sq K b H2 a xs/\IsL K m2 H2 xs us:=by
 cases u with
 |tup ws=>
  cases h;obtain⟨a,xs,rfl,sq,il⟩:=iu.of_tup;exact⟨false,a,rfl,⟨xs,sq⟩,fun m2 S2 H2 e _ _=>⟨xs,e.keep.t _ _ sq,il.mono e⟩⟩
 |ref l=>
  simp only[BU]at h;split at h<;>try cases h
  rename_i us hS;obtain⟨a,ha,rfl⟩:=iu.of_ref;obtain⟨a',ha',xs,hx,il⟩:=sr.get hS;rw[ha]at ha';cases ha';refine⟨true,a,rfl,⟨xs,SqL.of hx⟩,fun m2 S2 H2 e sr2 hok=>?_⟩;obtain⟨a',ha',xs,hx,il⟩:=sr2.get hok;rw[e.get ha]at ha';cases ha';exact⟨xs,SqL.of hx,il⟩
 |_=>simp[BU]at h
theorem GP{b:Bool}{prog:Program}{w:World}{A:Around}(hh:A.handled=none)(it a:Addr)(hne:a≠it)(ys:Array Value) :
  Draws prog w A it [it,a] ys.size (fun i v=>ys[i]?=some v) (fun i h=>SI b h it a i/\SA b h a ys) where
 live:=fun _ _ st=>let ⟨o,ho,_⟩:=st.1.obj;⟨o,ho⟩
 frame:=fun _ _ _ st hk=>⟨st.1.at_ fun o e=>hk it (by simp) o e,st.2.at_ fun o e=>hk a (by simp) o e⟩
 item:=fun i s Q E hi st hQ=>Fw st.1 st.2 (y:=ys[i]) (by simp[hi]) fun h' it' s'=>hQ _ h' s.toks (by simp[hi]) ⟨it',st.2.at_ fun o e=>s'.extBut _ _ hne e⟩ s'
 done:=fun s Q E st hE=>nQ hh st.1 st.2 (by simp) hE
structure ESt(b:Bool)(h:Heap)(e it a:Addr)(n:Nat):Prop where
 he:∃old,IsEnum h e it n old
 hi:SI b h it a n
theorem Au(l:Addr)(ys:Array Value)(n:Nat)(dct:Option Addr)(sl:Array (Option Value)) :
  Meets (Builtin.«enumerate.__new__» ⟨[.type "enumerate",.ref l],[]⟩) (fun _ R s=>s.heap.get? l=some { cls:=.type "tuple",dict:=dct,data:=.seq ys n,slots:=sl }/\
   R (.ok (.ret (.ref (s.heap.push (itO false l)).objs.size))) { s with heap:=(s.heap.push (itO false l)).push { cls:=.type "enumerate",data:=.fields #[.none,.bool false,.ref s.heap.objs.size,rawInt 0,.none,.none] } }):=
 .of_wp fun prog w A R s q=>by
  obtain⟨hp,g,d,tk,os⟩:=s;obtain⟨gl,q⟩:=q;have sb:=sub_enumerate;have tl:Heap.IsTuple (Shared.heap ⟨hp,g,d,tk,os⟩) l ys:=⟨_,gl,rfl,n,rfl⟩
  wp_walk using wpAny_loadPart' gl
  refine wpAny_stack_any (fun st=>QQ ?_);split
  ·rename_i c _ _ _ _ _;cases (c == Value.type "enumerate")<;>(wp_walk using wpAny_loadPart' gl,wpAny_pyIter_tuple tl;exact⟨_,rfl,q⟩)
  ·wp_walk using wpAny_loadPart' gl,wpAny_pyIter_tuple tl
   exact⟨_,rfl,q⟩
theorem Av{b:Bool}{prog:Program}{w:World}{A:Around}{E:Value->Shared->Prop}{s:Shared}{a:Addr}{ys:Array Value}{Q:Value->Shared->Prop}(ha:SA b s.heap a ys)
  (k:∀h' e it,e≠it->s.heap.objs.size<=e->s.heap.objs.size<=it->ESt b h' e it a 0->(∀c o,s.heap.get? c=some o->h'.get? c=some o)->Q (.ref e) { s with heap:=h' }) :
  wpAny (model prog w) A (call (.type "enumerate") [.ref a]) Q E s:=by
 cases b with
 |true=>exact call_enumerate_list ha fun h' e1 e2 sz up=>k h' _ _ (by omega) (Nat.le_add_right _ _) (QZ _) ⟨⟨_,e1⟩,e2⟩ up
 |false=>
  obtain⟨⟨c,dct,dt,sl⟩,gl,hc,n,hd⟩:=ha;simp only at hc hd;subst hc hd;refine callType_new PySem.F.called_enumerate (by decide) (PySem.F.typeCall_enumerate_1 _) (PySem.F.newCall_enumerate_1 _) (fun obj=>PySem.F.args_object_init_2 obj _) PySem.F.entry_enumerate_new (Au a ys n dct sl) ⟨gl,?_⟩;have n1:(s.heap.push (itO false a)).objs.size=s.heap.objs.size+1:=Heap.size_push ..;have p2:=QF (s.heap.push (itO false a)) (o:={ cls:=.type "enumerate",data:=.fields #[.none,.bool false,.ref s.heap.objs.size,rawInt 0,.none,.none] }) rfl;have p1:((s.heap.push (itO false a)).push { cls:=.type "enumerate",data:=.fields #[.none,.bool false,.ref s.heap.objs.size,rawInt 0,.none,.none] }).get? s.heap.objs.size=some (itO false a):=Q7 _ (QF _ rfl);rw[n1]at p2;show _/\_;rw[n1];exact⟨⟨_,p2,rfl⟩,k _ (s.heap.objs.size+1) s.heap.objs.size (Nat.ne_of_gt (Nat.lt_succ_self _)) (Nat.le_add_right _ _) (QZ _) ⟨⟨_,p2⟩,Ks p1⟩ fun c o x=>Q7 _ (Q7 _ x)⟩
theorem Dg{b:Bool}{prog:Program}{w:World}{A:Around}{E:Value->Shared->Prop}{s:Shared}{e it a:Addr}{i:Int}{j:Nat}{ys:Array Value}{old:Value}{Q:Option Value->Shared->Prop}(hh:A.in1.handled=none)(he:IsEnum s.heap e it i old)(hi:SI b s.heap it a j)(ha:SA b s.heap a ys)(hx:ys[j]?=none)
  (k:∀h',Heap.ExtBut it s.heap h'->Q none { s with heap:=h' }):wpAny (model prog w) A (pyNext (.ref e)) Q E s:=by
 have ty:s.TypeIs (.ref e) "enumerate":=⟨_,he,rfl⟩;unfold pyNext;refine Q2 (wpAny_attempt (wpAny_callSpecial?_slot (name:=Str.ofString "__next__") ty PySem.F.slot_enumerate_next (wpAny_call_entry PySem.F.slot_enumerate_next ty PySem.F.entry_enumerate_next ?_ (PySem.F.args_enumerate_next_1 _))));show wpAny _ _ (field (.ref e) 2 >>= fun _=>_) _ _ _;refine Q2 (wpAny_field he rfl (x:=.ref it) rfl (Q2 (nQ hh hi ha hx fun h' x he' hx'=>?_)));obtain⟨o,ho,co⟩:=hx';exact Q2 (wpAny_isInstance (T:="StopIteration") (b:=true) ⟨o,ho,co⟩ isSubtype_stop (QQ (k _ he')))
def Ite(K:Q1)(b:Bool)(a:Addr):It:=
  ⟨fun i H=>∃xs x,Sq K b H a xs/\xs[i]?=some x,
   fun i H v H'=>∃p x,v=.ref p/\H p=none/\H'=upd H p (.tup [.int i,x])/\∀xs,Sq K b H a xs->xs[i]?=some x,
   fun i H=>∃xs,Sq K b H a xs/\xs.length<=i⟩
theorem yE{P:Program}{w:World}{K:Q1}{es:List Expr}{k:Nat}{pos:Pos}{b:Bool}{e it a:Addr}(ne:e≠it)(nae:a≠e)(nai:a≠it) :
  Hc P w K (.Tuple es k pos) (Ite K b a) [e,it] e (fun n h=>ESt b h e it a n) where
 mem:=by simp
 obj:=fun n h st c hc=>by
  obtain⟨⟨old,he⟩,hi⟩:=st;simp only[QM,Qc,or_false]at hc;rcases hc with rfl|rfl
  ·exact⟨_,he,fun v q=>by cases q⟩
  ·exact hi.obj
 keep:=fun n h h' st kp=>let ⟨old,he⟩:=st.he;⟨⟨old,kp e (by simp) _ he⟩,st.hi.at_ fun o q=>kp it (by simp) o q⟩
 item:=by
  intro X hP hw hK hc n pins s σ H E Iv hf st hg;subst hP hw hK;obtain⟨xs,x,qa,hx⟩:=hg;obtain⟨ia,ra,sa⟩:=Iv.sq qa;obtain⟨u,hu,ru⟩:=ra.get hx;obtain⟨⟨old,he⟩,hi⟩:=st;have hlt:n<ia.toArray.size:=by simpa using (Q9.mp hu).1
  refine wpAny_pyNext_enum_itemD (GP (b:=b) (show X.A.in1.handled=none from Iv.ok.hd hc) it a nai ia.toArray) he ⟨hi,sa⟩ hlt ne (by simp[ne,Ne.symm nae]) fun y h1 tk py out1 st1 T1 sz1 up1=>⟨_,rfl,wpAny_letOwnedTupleGo_enum out1 fun h2 e2 s2=>?_⟩;have ey:y=u:=by
   have p':ia.toArray[n]?=some y:=py;rw[List.getElem?_toArray,hu]at p';cases p';rfl
  subst ey;have hfr:H s.heap.objs.size=none:=Iv.hok.fresh (QZ _);have elt:e<s.heap.objs.size:=QB he;have ilt:it<s.heap.objs.size:=by obtain⟨o,q,_⟩:=hi.obj;exact QB q
  have sz:∀c∈[e,it],c<s.heap.objs.size:=fun c hc=>by
   simp only[QM,Qc,or_false]at hc;rcases hc with rfl|rfl
   ·exact elt
   ·exact ilt
  have T2:h2.get? s.heap.objs.size=some { cls:=.type "tuple",data:=.seq #[.int n tk,y] }:=s2.extBut _ _ (Nat.ne_of_gt elt) T1;have I1:Inv X pins σ (upd H s.heap.objs.size (.tup [.int n,x])) { s with heap:=s.heap.push { cls:=.type "tuple",data:=.seq #[.int n tk,y] },toks:=s.toks }:=
   Iv.laid (fun b o e=>Q7 _ e) (QZ _) (Cn (QF _ rfl) ⟨tk,rfl⟩ ru)
  have fr2:∀c∈[e,it],(upd H s.heap.objs.size (.tup [.int n,x])) c=none:=fun c hc=>by rw[bA (Qr (sz c hc))];exact(hf c hc).1
  have I2:Inv X pins σ (upd H s.heap.objs.size (.tup [.int n,x])) { s with heap:=h2,toks:=tk+1 }:=
   Inv.turnedL (s:={ s with heap:=s.heap.push { cls:=.type "tuple",data:=.seq #[.int n tk,y] },toks:=s.toks }) (h':=h2) (t':=tk+1) (ch:=[e,it]) I1 (fun c o hn q=>by
    by_cases ce:c=s.heap.objs.size
    ·subst ce;have q':(s.heap.push { cls:=.type "tuple",data:=.seq #[.int n tk,y] }).get? s.heap.objs.size=some o:=q;rw[QF _ rfl]at q';cases q';exact T2
    ·have q':s.heap.get? c=some o:=B6 q ce;simp only[QM,Qc,or_false,not_or]at hn;exact s2.extBut _ _ hn.1 (up1 c o hn.1 hn.2 q')) fun c hc=>⟨fr2 c hc,(hf c hc).2⟩
  refine⟨.ref s.heap.objs.size,_,I2,rfl,⟨_,x,rfl,hfr,rfl,fun xs' q=>by rw[Iv.sq_inj q qa];exact hx⟩,⟨⟨_,by simpa using e2⟩,st1.1.at_ fun o q=>s2.extBut _ _ (Ne.symm ne) q⟩,fr2⟩
 done:=by
  intro X hP hw hK hc n pins s σ H E Iv hf st hg;subst hP hw hK;obtain⟨xs,qa,hx⟩:=hg;obtain⟨ia,ra,sa⟩:=Iv.sq qa;have la:=ra.length;obtain⟨⟨old,he⟩,hi⟩:=st;refine Dg (show X.A.in1.handled=none from Iv.ok.hd hc) he hi sa (by simp;omega) fun h1 up1=>⟨rfl,?_⟩;exact Iv.turnedL (t':=s.toks) (ch:=[e,it]) (fun c o hn q=>by
   simp only[QM,Qc,or_false,not_or]at hn;exact up1 c o hn.2 q) hf
 self:=fun _ _ _ _ _ st h=>let ⟨old,he⟩:=st.he;wpAny_pyIter_enum he h
def Kx(K:Q1)(ta:TA):TI:=fun σ H R=>ta σ H fun vs H2=>∃b a,vs=[.ref a]/\(∃xs,Sq K b H2 a xs)/\R (Ite K b a) H2
theorem AY:bootBuiltins "enumerate"=some (.type "enumerate"):=rfl
section
variable{X:Cx}{pos:Pos}
theorem Fj{es:List Expr}{k:Nat}{tp p:Pos}{a:Expr}{ta:TA}(hg:Gl X "enumerate")(hm:X.mg "enumerate"=none)(ha:WA X [a] ta)
  (hs:starEach [a] X.env=(false,eval a X.env)::starEach [] X.env:=by rfl) (hpl:(backTo pos (starEach [] X.env)).any (·.1)=false:=by rfl):WI X (.Tuple es k tp) (.Call (.Name "enumerate" p) [a] [] pos) (Kx X.K ta):=by
 constructor;intro pins s σ H R I h;refine wpAny_Call_Name_kw (oE I hg hm OP.AY ?_);refine PyProof.Rows.callWith_type1 (thn (ha.h pos pins s σ H _ I h) fun us s1 hz=>?_) hs hpl;obtain⟨vs,H1,I1,r1,q1⟩:=hz;obtain⟨b,aa,rfl,⟨xs,qa⟩,q⟩:=q1;obtain⟨u,rfl,ru⟩:=ng r1;cases ru;obtain⟨ia,ra,sa⟩:=I1.sq qa;refine Av sa fun h1 e it ne he hi st up=>?_;obtain⟨old,hE⟩:=st.he;refine wpAny_pyIter_enum hE ⟨e,[e,it],_,_,H1,rfl,I1.kept (t':=s1.toks) up,yE ne (Qr (Qu sa.lt he)) (Qr (Qu sa.lt hi)),st,fun c hc=>?_,q⟩;simp only[QM,Qc,or_false]at hc;rcases hc with rfl|rfl
 ·exact I1.fpOk he (I1.hok.fresh he)
 ·exact I1.fpOk hi (I1.hok.fresh hi)
def rn(us:List U):List U:=us.zipIdx.map fun p=>.tup [.int p.2,p.1]
def jX(ca:CE):CI:=fun ρ S=>(ca ρ S).bind fun p=>(BU p.1 p.2).bind fun x=>some (rn x.1,x.2,p.2)
theorem n4{es:List Expr}{k:Nat}{tp p:Pos}{a:Expr}{ca:CE}(hg:Gl X "enumerate")(hm:X.mg "enumerate"=none)(ha:QE X a ca)
  (hs:starEach [a] X.env=(false,eval a X.env)::starEach [] X.env:=by rfl) (hpl:(backTo pos (starEach [] X.env)).any (·.1)=false:=by rfl) :
  QI X (.Tuple es k tp) (.Call (.Name "enumerate" p) [a] [] pos) (jX ca):=(Fj hg hm (fB ha mf hs) hs hpl).imp fun σ H R hz=>uv hz fun m ρ S us ok S' sr lr hf post=>by
 obtain⟨⟨x,S1⟩,h1,h⟩:=Q0.mp hf;obtain⟨⟨xs,okx⟩,h3,h⟩:=Q0.mp h;cases h;refine⟨m,ρ,S,x,_,sr,lr,h1,fun m1 v1 H1 e1 sr1 i1=>?_⟩;obtain⟨b,aa,rfl,q1,k1⟩:=Jk sr1 i1 h3;refine⟨b,aa,rfl,q1,post m1 H1 _ e1 sr1 fun m3 S3 H3 i e3 sr3 hok=>?_⟩;obtain⟨vs,sq1,l1⟩:=k1 m3 S3 H3 e3 sr3 hok;have n1:=l1.length;refine⟨fun u hu=>?_,fun hi=>⟨vs,sq1,?_⟩⟩
 ·simp only[rn,Qb,Qn,List.getElem?_zipIdx]at hu;obtain⟨⟨p,q⟩,⟨y,hp,e⟩,rfl⟩:=hu;cases e;obtain⟨vp,ep,ip⟩:=l1.getD hp;refine⟨⟨vs,vp,sq1,ep⟩,fun v H4 hy=>?_⟩;obtain⟨r,x',rfl,hr,rfl,f1⟩:=hy;have:=f1 vs sq1;rw[ep]at this;cases this;have ee:Ext X.K m3 H3 m3 (upd H3 r (.tup [.int i,vp])):=.of (bT hr _);exact⟨ee,sr3.same (dR hr _),.tup_ (SqT.of aN) (.cons_ (by simp only[Nat.zero_add];exact .int_) (.cons_ (ip.mono ee) .nil_))⟩
 ·simp only[rn,Q5,List.length_zipIdx]at hi;omega
def lH:List (CE×CE)->Rho->Sto->Option (List (Key×U)×Sto)
 |[],_,S=>some ([],S)
 |(ck,cv)::r,ρ,S=>(ck ρ S).bind fun p=>(cv ρ p.2).bind fun q=>(nr p.1).bind fun k=>(lH r ρ q.2).bind fun z=>some ((k,q.1)::z.1,z.2)
def zI(kus:List (Key×U))(au:List (Key×U)):List (Key×U):=kus.foldl (fun acc kv=>eJ acc kv.1 kv.2) au
def sL(kus:List (Key×U)):List (Key×U):=zI kus []
def AW(prs:List (CE×CE)):CE:=fun ρ S=>(lH prs ρ (S++[.dic []])).bind fun q=>match q.2[S.length]? with
 |some (.dic [])=>some (.ref S.length,q.2.set S.length (.dic (sL q.1)))
 |_=>none
def QP(X:Cx)(pos:Pos)(keys:List (Option Expr))(values:List Expr)(prs:List (CE×CE)):Prop:=PPs X pos keys values (prs.map fun p=>(tE X.K p.1,tE X.K p.2))
theorem Jo:QP X pos [] [] []:=zp
theorem uC{k v:Expr}{ks:List (Option Expr)}{vs:List Expr}{ck cv:CE}{prs:List (CE×CE)}(hk:QE X k ck)(hv:QE X v cv)(hr:QP X pos ks vs prs):QP X pos (some k::ks) (v::vs) ((ck,cv)::prs):=vX hk.h hv.h hr
theorem sC{K:Q1}{ρ:Rho}{σ:L2.St}:∀{prs:List (CE×CE)} {m:List Addr} {S S':Sto} {H:Hp} {kus:List (Key×U)} {R:List (V×V)->Hp->Prop},Sr K m S H->Lr K m H ρ σ->lH prs ρ S=some (kus,S')->
  (∀m' kvs H',Ext K m H m' H'->Sr K m' S' H'->IsP K m' H' kvs kus->R (kvs.map fun kv=>(kV kv.1,kv.2)) H')->sd (prs.map fun p=>(tE K p.1,tE K p.2)) σ H R
 |[],m,S,S',H,kus,R,sr,lr,hc,k=>by cases hc;exact k m [] H .refl sr .nil_
 |(ck,cv)::r,m,S,S',H,kus,R,sr,lr,hc,k=>by
  obtain⟨⟨x,S1⟩,h1,h⟩:=Q0.mp hc;obtain⟨⟨y,S2⟩,h2,h⟩:=Q0.mp h;obtain⟨kk,h3,h⟩:=Q0.mp h;obtain⟨⟨zs,S3⟩,h4,h⟩:=Q0.mp h;cases h;refine⟨m,ρ,S,x,S1,sr,lr,h1,fun m1 v1 H1 e1 sr1 i1=>⟨m1,ρ,S1,y,S2,sr1,lr.mono e1,h2,fun m2 v2 H2 e2 sr2 i2=>?_⟩⟩;refine sC (prs:=r) sr2 (lr.mono (e1.trans e2)) h4 fun m3 kvs H3 e3 sr3 ip=>?_;have ek:=jw i1 h3;subst ek;exact k m3 ((kk,v2)::kvs) H3 ((e1.trans e2).trans e3) sr3 (.cons_ (i2.mono e3) ip)
theorem qe:∀{prs:List (CE×CE)} {ρ:Rho} {S S':Sto} {kus:List (Key×U)},lH prs ρ S=some (kus,S')->kus.length=prs.length
 |[],_,_,_,_,h=>by cases h;rfl
 |(ck,cv)::r,ρ,S,S',kus,hc=>by
  obtain⟨⟨x,S1⟩,h1,h⟩:=Q0.mp hc;obtain⟨⟨y,S2⟩,h2,h⟩:=Q0.mp h;obtain⟨kk,h3,h⟩:=Q0.mp h;obtain⟨⟨zs,S3⟩,h4,h⟩:=Q0.mp h;cases h;simp[qe h4]
theorem IsP.merge{K:Q1}{m:List Addr}{H:Hp}{kvs:List (Key×V)}{kus:List (Key×U)}(h:IsP K m H kvs kus):∀(av:List (Key×V)) (au:List (Key×U)),IsP K m H av au->IsP K m H (mZ av kvs) (zI kus au):=
 IsP.ind (P:=fun kvs kus=>∀(av:List (Key×V)) (au:List (Key×U)),IsP K m H av au->IsP K m H (mZ av kvs) (zI kus au)) (fun _ _ h=>h) (fun k v u kvs kus i _ ih av au ha=>ih _ _ (ha.put (k:=k) i)) h
theorem Jt{keys:List (Option Expr)}{values:List Expr}{prs:List (CE×CE)}(h:QP X pos keys values prs)(hall:keys.all (·.isSome)=true)(hl:keys.length=values.length)(h0:keys≠[])(h15:keys.length<=15)(hp:prs.length<=15):QE X (.Dict keys values pos) (AW prs):=
 (By h hall hl h0 h15).imp fun σ H Q hz=>mF hz fun m ρ S u S' sr lr hc post=>by
 obtain⟨⟨kus,S1⟩,h1,h2⟩:=Q0.mp hc;simp only at h2;split at h2<;>try cases h2
 rename_i hS;intro p hp';have ee:Ext X.K m H (m++[p]) (upd H p (.dK [])):=.new (bT hp' _);refine sC (sr.new (o:=.dic []) hp' ⟨[],aN,.nil_⟩) (lr.mono ee) h1 fun m1 kvs H1 e1 sr1 ip=>?_;have ha:m1[S.length]?=some p:=e1.get (dB sr.len);obtain⟨a',ha',kv0,hx,ip0⟩:=sr1.get hS;rw[ha]at ha';cases ha';have e0:kv0=[]:=by have:=IsP.length ip0;simpa using this
 subst e0;have eu:Ext X.K m1 H1 m1 (upd H1 p (.dK (mZ [] kvs))):=.of (sr1.keep ha _);refine⟨hx,kvs,rfl,by rw[IsP.length ip,qe h1];exact hp,post m1 _ _ ((ee.trans e1).trans eu) (sr1.put (o:=.dic (sL kus)) ha ⟨_,aN,(IsP.merge ip _ _ .nil_).mono eu⟩) (.ref_ ha)⟩
end
theorem sT:∀{vs:List Value} {ns:List Int},IntsAre vs ns->bU (ns.map V.int) vs
 |_,_,.nil=>.nil
 |_,_,.cons n t r=>.cons ⟨t,rfl⟩ (sT r)
theorem gQ:∀{ns:List Int} {vs:List Value},bU (ns.map V.int) vs->IntsAre vs ns
 |[],_,h=>by cases h;exact .nil
 |n::ns,_,.cons r t=>by
  obtain⟨k,rfl⟩:=r;exact .cons n k (gQ t)
def y0(K:Q1):List V->Hp->VK->Prop:=fun xs H Q=>∃(p:Addr) (ns:List Int),xs=[.ref p]/\(SqL K H p (ns.map V.int)\/∃kvs,H p=some (.dK kvs)/\kvs.map (·.1)=ns.map Sum.inl)/\ns.length<64/\
 ∀(l:Addr) (ms:List Int),H l=none->ms.Perm ns->ms.Pairwise (·<=·)->Q (.ref l) (upd H l (.lst (ms.map V.int)))
theorem zU{κ:Type}:∀{kvs:List (κ×V)} {vs:List (κ×Value)},KV kvs vs->vs.map (·.1)=kvs.map (·.1)
 |_,_,.nil=>rfl
 |_,_,.cons r t=>by rw[QX,QX,zU t,r.1]
theorem uK{P:Program}{w:World}{H:Hp}{h:Heap}{a:Addr}{ms:List Int}{out:Array Value}{e:Nat}(g:h.get? a=some (seqObj "list" out e))(hI:IntsAre out.toList ms)(hl:ms.length<64):cy P w H h a (.lst (ms.map V.int)):=
 ⟨by rw[Q5];exact Nat.le_of_lt (Qu hl (by unfold sizeLine;decide)),out.toList,e,sT hI,by rw[Array.toArray_toList];exact g⟩
theorem qS{X:Cx}(hc:X.calm=true):fY X (.builtin "sorted") (y0 X.K):=by
 rintro pins s σ H xs us Q I r ⟨p,ns,rfl,src,h64,q⟩;obtain⟨u,rfl,ru⟩:=ng r;cases ru;rcases src with hL|⟨kvs,hD,hk⟩
 ·obtain⟨its,rv,pl,hz⟩:=I.list hL;have hI:=gQ rv;have eK:=rv.length;rw[Q5]at eK;refine sorted_ints pl.isList hI (by omega) fun out ms a1 a2 a3=>?_;obtain⟨e,ge⟩:=sortedAll_at s.heap its out;have hf:=I.hok.fresh (Nat.le_succ s.heap.objs.size);exact⟨.ref (s.heap.objs.size+1),_,I.laid (t':=s.toks) (fun b o e=>sortedAll_old e) (Nat.le_succ _) (uK ge a1 (by rw[a2.length_eq];exact h64)),rfl,q _ ms hf a2 a3⟩
 ·obtain⟨z,hd,vs,rel,dd⟩:=Dm I.hok hD;obtain⟨ep,da⟩:=dd.dictAt;have lkv:kvs.length=ns.length:=by have:=congrArg List.length hk;simpa using this
  have lv:vs.length=ns.length:=by rw[<-Paired.length rel];exact lkv
  have ks:vs.map (·.1)=ns.map Sum.inl:=by
   rw[<-hk];exact zU rel
  refine Calls.call_function_entry kind_sorted plain_sorted entry_sorted (args_sorted1 _) ?_;unfold Builtin.«sorted»;refine Q2 (m:=checkCount "sorted" 1 1 _) (QQ (Q2 (PySem.W.kdu_collect (PySem.W.kdl_dict (kvs:=vs) (ep:=ep) hd) (show X.A.in1.handled=none from I.ok.hd hc) da (by rw[lv,<-lkv];exact z) fun h1 tk acc up hac=>?_)));have hla:acc.toList.length=ns.length:=by rw[ZU,hac.1,lv]
  have hI:IntsAre acc.toList ns:=by
   have key:∀(i:Nat) (v:Value),acc.toList[i]?=some v->∃(n:Int) (t:Tok),ns[i]?=some n/\v=Value.int n t:=fun i v e=>by
    obtain⟨k,x,e1,e2⟩:=hac.2 i v (by rw[<-ZI];exact e);have e3:(vs.map (·.1))[i]?=some k:=by rw[Qb,e1];rfl
    rw[ks,Qb]at e3;obtain⟨n,e4,e5⟩:=Qn.mp e3;subst e5;rcases bP (k:=Sum.inl n) e2 with⟨j,t,e6,e7⟩|⟨j,t,e6,e7⟩
    ·cases e6;exact⟨n,t,e4,e7⟩
    ·cases e6
   clear hac;generalize acc.toList=L at key hla;clear ks lv lkv h64 q hk;induction L generalizing ns with
   |nil=>cases ns with
    |nil=>exact .nil
    |cons a b=>simp at hla
   |cons a b ih=>cases ns with
    |nil=>simp at hla
    |cons c d=>
     obtain⟨n,t,e1,e2⟩:=key 0 a (by simp);simp at e1;subst e1;subst e2;exact .cons _ t (ih _ (fun i v e=>by have:=key (i+1) v (by simpa using e);simpa using this) (by simpa using hla))
  refine Q2 (wpAny_newList ?_ (by rw[hla,<-lkv];exact z));have gL:(h1.push { cls:=.type "list",data:=.seq acc.toList.toArray }).get? h1.objs.size=some (seqObj "list" acc.toList.toArray 0):=QF _ rfl;refine Q2 (wpAny_holding (wpAny_call_entry slot_list_sort ⟨_,gL,rfl⟩ entry_list_sort (list_sort_tree (s:={ s with heap:=h1.push { cls:=.type "list",data:=.seq acc.toList.toArray },toks:=tk }) gL hI (by omega) fun out ms a1 a2 a3=>⟨_,rfl,?_⟩) (args_list_sort _)));obtain⟨e,ge⟩:=sortedHeap_at (out:=out) gL;have I1:Inv X pins σ H { s with heap:=h1,toks:=tk }:=I.kept up;have hf:=I1.hok.fresh (QZ h1.objs.size);refine QQ ⟨_,rfl,.ref h1.objs.size,_,Inv.laid (s:={ s with heap:=h1,toks:=tk }) (h':=sortedHeap (h1.push { cls:=.type "list",data:=.seq acc.toList.toArray }) h1.objs.size acc.toList out) (t':=tk) I1 (fun b o g1=>?_) (QZ _) (uK ge a1 (by rw[a2.length_eq];exact h64)),rfl,q _ ms hf a2 a3⟩;have g1:h1.get? b=some o:=g1;have lt1:=QB g1;rw[sortedHeap_old (Qr lt1) (by rw[Heap.size_push];exact Nat.lt_succ_of_lt lt1)];exact Q7 _ g1
def bq(ns:List Int):List Int:=ns.mergeSort (fun a b=>decide (a<=b))
theorem aR(ns:List Int):(bq ns).Perm ns:=List.mergeSort_perm ..
theorem i6(ns:List Int):(bq ns).Pairwise (·<=·):=by
 have:=List.pairwise_mergeSort (le:=fun(a b:Int)=>decide (a<=b)) (fun a b c h1 h2=>by simp at h1 h2 ⊢;omega) (fun a b=>by simp;omega) ns;exact this.imp fun h=>by simpa using h
theorem kR{ns ms:List Int}(p:ms.Perm ns)(s:ms.Pairwise (·<=·)):ms=bq ns:=PySem.W.lks_uniq (p.trans (aR ns).symm) s (i6 ns)
def xw:List (Key×U)->Option (List Int)
 |[]=>some []
 |(.inl n,_)::r=>(xw r).map (n::·)
 |_=>none
theorem wo:∀{kus:List (Key×U)} {ns:List Int},xw kus=some ns->kus.map (·.1)=ns.map Sum.inl
 |[],ns,h=>by cases h;rfl
 |(k,u)::r,ns,h=>by
  cases k<;>simp only[xw]at h<;>try cases h
  obtain⟨ms,e,h⟩:=Qn.mp h;subst h;simp[wo e]
def eD:Fn
 |[.ref l],S=>match S[l]? with
  |some (.lst us)=>(qW us).bind fun ns=>if ns.length<64 then some (.ref S.length,S++[.lst ((bq ns).map U.int)])else none
  |some (.dic kus)=>(xw kus).bind fun ns=>if ns.length<64 then some (.ref S.length,S++[.lst ((bq ns).map U.int)])else none
  |_=>none
 |_,_=>none
theorem qQ{K:Q1}:nz K (y0 K) eD:=by
 intro m S H us vs u S' Q sr i hf post;match us,hf with
 |[.ref l],hf=>
  obtain⟨v,rfl,iv⟩:=i.one;obtain⟨a,ha,rfl⟩:=iv.of_ref;simp only[eD]at hf;split at hf<;>try cases hf
  ·rename_i ws hS;obtain⟨ns,hn,h⟩:=Q0.mp hf;split at h<;>try cases h
   have hc:ns.length<64:=by assumption
   obtain⟨a',ha',xs,hx,la⟩:=sr.get hS;rw[ha]at ha';cases ha';rw[lS hn]at la;rw[la.ints]at hx;refine⟨a,ns,rfl,.inl (SqL.of hx),hc,fun p ms hp pm sm=>?_⟩;rw[kR pm sm];exact dX sr (iA _) post hp
  ·rename_i ws hS;obtain⟨ns,hn,h⟩:=Q0.mp hf;split at h<;>try cases h
   have hc:ns.length<64:=by assumption
   obtain⟨a',ha',kvs,hx,ip⟩:=sr.get hS;rw[ha]at ha';cases ha';refine⟨a,ns,rfl,.inr ⟨kvs,hx,by rw[ip.1,wo hn]⟩,hc,fun p ms hp pm sm=>?_⟩;rw[kR pm sm];exact dX sr (iA _) post hp
section
variable{ρ:Rho}{S:Sto}{c1 c2:CS}{t ta tb:CT}{ca cb cc:CE}{cr:CA}{u x y:U}{us:List U}{i l:Nat}{f g:U->U->Sto->Option (U×Sto)}{b:Bool}
def N4(S:Sto):Option (Option U)->Option (U×Sto)
 |some (some u)=>some (u,S)
 |_=>none
theorem Hy:ag i ρ S=N4 S (ρ[i]?):=rfl
theorem DH:N4 S (some (some u))=some (u,S):=rfl
theorem x_c:cC u ρ S=some (u,S):=rfl
def Na(f:U->U->Sto->Option (U×Sto))(x:U)(q:U×Sto):=f x q.1 q.2
def N9(f:U->U->Sto->Option (U×Sto))(cb:CE)(ρ:Rho)(p:U×Sto):=(cb ρ p.2).bind (Na f p.1)
theorem NJ:cOp f ca cb ρ S=(ca ρ S).bind (N9 f cb ρ):=rfl
theorem HU:N9 f cb ρ (x,S)=(cb ρ S).bind (Na f x):=rfl
theorem HS:Na f x (y,S)=f x y S:=rfl
def Ki:U×Sto->Option (Bool×Sto)
 |(.bl b,S)=>some (b,S)
 |_=>none
theorem HC:aF ca ρ S=(ca ρ S).bind Ki:=by
 unfold aF;congr 1;funext p;obtain⟨u,S⟩:=p;cases u<;>rfl
theorem EI:Ki (.bl b,S)=some (b,S):=rfl
def Nk(tb:CT)(ρ:Rho)(p:Bool×Sto):=if p.1=true then tb ρ p.2 else some (false,p.2)
def kOr(tb:CT)(ρ:Rho)(p:Bool×Sto):=if p.1=true then some (true,p.2)else tb ρ p.2
def Oa(p:Bool×Sto):Option (Bool×Sto):=some (!p.1,p.2)
theorem Mx:pD ta tb ρ S=(ta ρ S).bind (Nk tb ρ):=rfl
theorem IC:Nk tb ρ (true,S)=tb ρ S:=rfl
theorem IB:Nk tb ρ (false,S)=some (false,S):=rfl
theorem OC:cOr ta tb ρ S=(ta ρ S).bind (kOr tb ρ):=rfl
theorem LR:kOr tb ρ (true,S)=some (true,S):=rfl
theorem LQ:kOr tb ρ (false,S)=tb ρ S:=rfl
theorem LS:x5 ta ρ S=(ta ρ S).bind Oa:=rfl
theorem HW:Oa (b,S)=some (!b,S):=rfl
def GF(cb:CE)(ρ:Rho):U×Sto->Option (U×Sto)
 |(.bl true,S)=>cb ρ S
 |(.bl false,S)=>some (.bl false,S)
 |_=>none
def M9(cb:CE)(ρ:Rho):U×Sto->Option (U×Sto)
 |(.bl false,S)=>cb ρ S
 |(.bl true,S)=>some (.bl true,S)
 |_=>none
def Kl:U×Sto->Option (U×Sto)
 |(.bl b,S)=>some (.bl (!b),S)
 |_=>none
theorem IA:rD ca cb ρ S=(ca ρ S).bind (GF cb ρ):=by
 unfold rD;congr 1;funext p;obtain⟨u,S⟩:=p;cases u with
 |bl b=>cases b<;>rfl
 |_=>rfl
theorem EZ:GF cb ρ (.bl true,S)=cb ρ S:=rfl
theorem EY:GF cb ρ (.bl false,S)=some (.bl false,S):=rfl
theorem LP:Lw ca cb ρ S=(ca ρ S).bind (M9 cb ρ):=by
 unfold Lw;congr 1;funext p;obtain⟨u,S⟩:=p;cases u with
 |bl b=>cases b<;>rfl
 |_=>rfl
theorem HR:M9 cb ρ (.bl false,S)=cb ρ S:=rfl
theorem HQ:M9 cb ρ (.bl true,S)=some (.bl true,S):=rfl
theorem HV:xS ca ρ S=(ca ρ S).bind Kl:=by
 unfold xS;congr 1;funext p;obtain⟨u,S⟩:=p;cases u<;>rfl
theorem EJ:Kl (.bl b,S)=some (.bl (!b),S):=rfl
def z5(u:U)(q:List U×Sto):Option (List U×Sto):=some (u::q.1,q.2)
def Ek(cr:CA)(ρ:Rho)(p:U×Sto):=(cr ρ p.2).bind (z5 p.1)
theorem ya:aG ρ S=some ([],S):=rfl
theorem nK:af ca cr ρ S=(ca ρ S).bind (Ek cr ρ):=rfl
theorem nJ:Ek cr ρ (u,S)=(cr ρ S).bind (z5 u):=rfl
theorem nI:z5 u (us,S)=some (u::us,S):=rfl
def N5(p:List U×Sto):Option (U×Sto):=some (.tup p.1,p.2)
def Oc(p:List U×Sto):Option (U×Sto):=some (.ref p.2.length,p.2++[.lst p.1])
theorem EH:gp cr ρ S=(cr ρ S).bind N5:=rfl
theorem x8:N5 (us,S)=some (.tup us,S):=rfl
theorem EO:iU cr ρ S=(cr ρ S).bind Oc:=rfl
theorem DK:Oc (us,S)=some (.ref S.length,S++[.lst us]):=rfl
def kCB(f:Fn)(p:List U×Sto):=f p.1 p.2
theorem Mu{f:Fn}:cCB f cr ρ S=(cr ρ S).bind (kCB f):=rfl
theorem Ip{f:Fn}:kCB f (us,S)=f us S:=rfl
def Od(T:Ty)(p:U×Sto):Option (U×Sto):=(tyU p.1 p.2).bind fun t=>some (.bl (BM t T),p.2)
theorem Mb{T:Ty}:uw T ca ρ S=(ca ρ S).bind (Od T):=rfl
theorem Ig{T:Ty}:Od T (u,S)=(tyU u S).bind fun t=>some (.bl (BM t T),S):=rfl
def Kj(c2:CS):Out×Rho×Sto->Option (Out×Rho×Sto)
 |(.nx,ρ,S)=>c2 ρ S
 |(o,ρ,S)=>some (o,ρ,S)
theorem HD:cf ρ S=some (.nx,ρ,S):=rfl
theorem HK:bj c1 c2 ρ S=(c1 ρ S).bind (Kj c2):=by
 unfold bj;congr 1;funext p;obtain⟨o,ρ,S⟩:=p;cases o<;>rfl
theorem DI:Kj c2 (.nx,ρ,S)=c2 ρ S:=rfl
theorem HJ:Kj c2 (.rt u,ρ,S)=some (.rt u,ρ,S):=rfl
theorem HI:Kj c2 (.bk,ρ,S)=some (.bk,ρ,S):=rfl
theorem HH:Kj c2 (.ct,ρ,S)=some (.ct,ρ,S):=rfl
def Kn(ρ:Rho)(p:U×Sto):Option (Out×Rho×Sto):=some (.nx,ρ,p.2)
def N8(ρ:Rho)(p:U×Sto):Option (Out×Rho×Sto):=some (.rt p.1,ρ,p.2)
theorem DP:fG ca ρ S=(ca ρ S).bind (Kn ρ):=rfl
theorem EU:Kn ρ (u,S)=some (.nx,ρ,S):=rfl
theorem HM:et ca ρ S=(ca ρ S).bind (N8 ρ):=rfl
theorem HL:N8 ρ (u,S)=some (.rt u,ρ,S):=rfl
def Nb(c1 c2:CS)(ρ:Rho)(p:Bool×Sto):=if p.1=true then c1 ρ p.2 else c2 ρ p.2
theorem Il:ff t c1 c2 ρ S=(t ρ S).bind (Nb c1 c2 ρ):=rfl
theorem DM:Nb c1 c2 ρ (true,S)=c1 ρ S:=rfl
theorem Ik:Nb c1 c2 ρ (false,S)=c2 ρ S:=rfl
def N6(i:Nat)(ρ:Rho)(p:U×Sto):Option (Out×Rho×Sto):=some (.nx,ρ.set i (some p.1),p.2)
theorem LM:dI i ca ρ S=(ca ρ S).bind (N6 i ρ):=rfl
theorem HG:N6 i ρ (u,S)=some (.nx,ρ.set i (some u),S):=rfl
def GD(q:Rho×Sto):Option (Out×Rho×Sto):=some (.nx,q.1,q.2)
def Oe(g:CG)(ρ:Rho)(p:U×Sto):=(g p.1 ρ p.2).bind GD
theorem Mv{g:CG}:Hr ca g ρ S=(ca ρ S).bind (Oe g ρ):=rfl
theorem Iy{g:CG}:Oe g ρ (u,S)=(g u ρ S).bind GD:=rfl
theorem Iw:GD (ρ,S)=some (.nx,ρ,S):=rfl
theorem Mf:gNm i u ρ S=some (ρ.set i (some u),S):=rfl
theorem Me{is:List Nat}:gTp is (.tup us) ρ S=(iI is us ρ).bind fun ρ'=>some (ρ',S):=rfl
theorem IE:iI [] [] ρ=some ρ:=rfl
theorem ID{is:List Nat}:iI (i::is) (u::us) ρ=iI is us (ρ.set i (some u)):=rfl
def Kk(ρ:Rho)(S':Sto):Option (Out×Rho×Sto):=some (.nx,ρ,S')
def M7(o v:U)(ρ:Rho)(r:U×Sto):=(oN o r.1 v r.2).bind (Kk ρ)
def M8(ci:CE)(v:U)(ρ:Rho)(q:U×Sto):=(ci ρ q.2).bind (M7 q.1 v ρ)
def kSI(co ci:CE)(ρ:Rho)(p:U×Sto):=(co ρ p.2).bind (M8 ci p.1 ρ)
theorem Ov:dA ca cb cc ρ S=(cc ρ S).bind (kSI ca cb ρ):=rfl
theorem LI:kSI ca cb ρ (u,S)=(ca ρ S).bind (M8 cb u ρ):=rfl
theorem LH:M8 cb y ρ (u,S)=(cb ρ S).bind (M7 u y ρ):=rfl
theorem LG:M7 x y ρ (u,S)=(oN x u y S).bind (Kk ρ):=rfl
theorem LF:Kk ρ S=some (.nx,ρ,S):=rfl
def kIx(y:U)(S:Sto):Option O->Option (U×Sto)
 | some (.lst us)=>(match y with
   |.int i=>(atI us i).bind fun u=>some (u,S)
   |_=>none)
 |some (.dic kus)=>(nr y).bind fun k=>(aS kus k).bind fun u=>some (u,S)
 |some (.fdc _ kus)=>(nr y).bind fun k=>(aS kus k).bind fun u=>some (u,S)
 |_=>none
theorem L5{j:Int}:fIx (.tup us) (.int j) S=(atI us j).bind fun u=>some (u,S):=rfl
theorem L6:fIx (.ref l) y S=kIx y S S[l]?:=by
 unfold fIx kIx;dsimp only<;>(generalize S[l]?=q;rcases q with _|o<;>first|rfl|(cases o<;>rfl))
theorem L7{j:Int}:kIx (.int j) S (some (.lst us))=(atI us j).bind fun u=>some (u,S):=rfl
theorem L8{ep:Nat}{kus:List (Key×U)}:kIx y S (some (.fdc ep kus))=(nr y).bind fun k=>(aS kus k).bind fun u=>some (u,S):=rfl
theorem L9{kus:List (Key×U)}:kIx y S (some (.dic kus))=(nr y).bind fun k=>(aS kus k).bind fun u=>some (u,S):=rfl
def Ln(l:Nat)(i v:U)(S:Sto):Option O->Option Sto
 | some (.lst us)=>(match i with
   |.int k=>(ixN us.length k).bind fun j=>some (S.set l (.lst (us.set j v)))
   |_=>none)
 |some (.dic kus)=>(nr i).bind fun k=>if kus.length<LIM then some (S.set l (.dic (eJ kus k v)))else none
 |_=>none
theorem LC:oN (.ref l) x y S=Ln l x y S S[l]?:=by
 unfold oN Ln;dsimp only<;>(generalize S[l]?=q;rcases q with _|o<;>first|rfl|(cases o<;>rfl))
theorem HE{j:Int}:Ln l (.int j) y S (some (.lst us))=(ixN us.length j).bind fun j=>some (S.set l (.lst (us.set j y))):=rfl
theorem HF{kus:List (Key×U)}:Ln l x y S (some (.dic kus))=(nr x).bind fun k=>if kus.length<LIM then some (S.set l (.dic (eJ kus k y)))else none:=rfl
theorem at0{α:Type}{a:α}{r:List α}:atI (a::r) 0=some a:=by show atI _ ((0:Nat):Int)=_;exact pf rfl
theorem at1{α:Type}{a b:α}{r:List α}:atI (a::b::r) 1=some b:=by show atI _ ((1:Nat):Int)=_;exact pf rfl
theorem at2{α:Type}{a b c:α}{r:List α}:atI (a::b::c::r) 2=some c:=by show atI _ ((2:Nat):Int)=_;exact pf rfl
theorem at3{α:Type}{a b c d:α}{r:List α}:atI (a::b::c::d::r) 3=some d:=by show atI _ ((3:Nat):Int)=_;exact pf rfl
theorem ix0{n:Nat}:ixN (n+1) 0=some 0:=by simp[ixN]
theorem ix1{n:Nat}:ixN (n+1+1) 1=some 1:=by simp[ixN];omega
theorem ix2{n:Nat}:ixN (n+1+1+1) 2=some 2:=by simp[ixN];omega
def Ls(S:Sto):Option O->Option (U×Sto)
 |some (.lst us)=>some (.int us.length,S)
 |some (.dic us)=>some (.int us.length,S)
 |_=>none
theorem H0:oP [.ref l] S=Ls S S[l]?:=by
 unfold oP Ls;dsimp only<;>(generalize S[l]?=q;rcases q with _|o<;>first|rfl|(cases o<;>rfl))
theorem Ia:Ls S (some (.lst us))=some (.int us.length,S):=rfl
theorem Ib{kus:List (Key×U)}:Ls S (some (.dic kus))=some (.int kus.length,S):=rfl
theorem HZ:oP [.tup us] S=some (.int us.length,S):=rfl
variable{j k:Int}
theorem My:j8 (.int j) (.int k) S=some (.int (j+k),S):=rfl
theorem LB:Nr (.int j) (.int k) S=some (.int (j-k),S):=rfl
theorem HX(h:EF j k):oO (.int j) (.int k) S=some (.int (j*k),S):=by simp[oO,fI,h]
theorem EV(h:xZ j k):De (.int j) (.int k) S=some (.int (j / k),S):=by simp[De,fI,h]
theorem w6(h:0<k):tJ (.int j) (.int k) S=some (.int (j % k),S):=by simp[tJ,fI,h]
theorem LN(h:Hw j k):Ho (.int j) (.int k) S=some (.int (j^k.toNat),S):=by simp[Ho,fI,h]
theorem ON:fLt (.int j) (.int k) S=some (.bl (decide (j<k)),S):=rfl
theorem OO:fGt (.int j) (.int k) S=some (.bl (decide (k<j)),S):=rfl
theorem OR:fGe (.int j) (.int k) S=some (.bl (decide (k<=j)),S):=rfl
theorem Ml:fEq (.int j) (.int k) S=some (.bl (decide (j=k)),S):=rfl
theorem LV:fNe (.int j) (.int k) S=some (.bl (!decide (j=k)),S):=rfl
theorem Mj{a c:Str}:fEq (.str a) (.str c) S=some (.bl (decide (a=c)),S):=rfl
theorem LU{a c:Str}:fNe (.str a) (.str c) S=some (.bl (!decide (a=c)),S):=rfl
theorem Mm{a c:Bool}:fEq (.bl a) (.bl c) S=some (.bl (decide (a=c)),S):=rfl
theorem LW{a c:Bool}:fNe (.bl a) (.bl c) S=some (.bl (!decide (a=c)),S):=rfl
def kFn:Out×Rho×Sto->Option (U×Sto)
 |(.rt u,_,S)=>some (u,S)
 |(.nx,_,S)=>some (.non,S)
 |_=>none
theorem iO{n k:Nat}(h:us.length=k):fnU n k c1 us S=(c1 (se n us) S).bind kFn:=by
 unfold fnU;rw[if_pos h];congr 1;funext p;obtain⟨o,ρ,S⟩:=p;cases o<;>rfl
theorem Mh:kFn (.rt u,ρ,S)=some (u,S):=rfl
theorem Mg:kFn (.nx,ρ,S)=some (.non,S):=rfl
end
section
variable{ρ:Rho}{S:Sto}{t:CT}{ca cb cc:CE}{cr:CA}{u x:U}{us:List U}{i l:Nat}{b:Bool}{c:Cl}{fus:List (Option U)}{g:Fn}
open Classical in
def CW(c:Cl)(i:Nat)(S:Sto):Option O->Option (U×Sto)
 |some (.ins c' fus)=>if c'=c then(fus[i]?).join.bind fun u=>some (u,S)else none
 |_=>none
def kA(c:Cl)(i:Nat)(p:U×Sto):=KI c i p.1 p.2
theorem Mi:gP c i ca ρ S=(ca ρ S).bind (kA c i):=rfl
theorem DO:kA c i (.ref l,S)=CW c i S S[l]?:=by
 unfold kA KI CW;dsimp only<;>(generalize S[l]?=q;rcases q with _|o<;>first|rfl|(cases o<;>rfl))
theorem DN:CW c i S (some (.ins c fus))=((fus[i]?).join).bind fun u=>some (u,S):=by
 unfold CW;dsimp only;rw[if_pos rfl]
open Classical in
def Lo(c:Cl)(i l:Nat)(v:U)(S:Sto):Option O->Option Sto
 |some (.ins c' fus)=>if c'=c then some (S.set l (.ins c (fus.set i (some v))))else none
 |_=>none
def Lp(c:Cl)(i:Nat)(v:U)(ρ:Rho)(q:U×Sto):=(Ar c i q.1 v q.2).bind (Kk ρ)
def N7(c:Cl)(i:Nat)(ca:CE)(ρ:Rho)(p:U×Sto):=(ca ρ p.2).bind (Lp c i p.1 ρ)
theorem Ow:pT c i ca cb ρ S=(cb ρ S).bind (N7 c i ca ρ):=rfl
theorem LL:N7 c i ca ρ (u,S)=(ca ρ S).bind (Lp c i u ρ):=rfl
theorem LK:Lp c i u ρ (.ref l,S)=(Lo c i l u S S[l]?).bind (Kk ρ):=by
 unfold Lp Ar Lo;dsimp only<;>(generalize S[l]?=q;rcases q with _|o<;>first|rfl|(cases o<;>rfl))
theorem LJ:Lo c i l u S (some (.ins c fus))=some (S.set l (.ins c (fus.set i (some u)))):=by
 unfold Lo;dsimp only;rw[if_pos rfl]
def z4(g:Fn)(l:Nat)(q:List U×Sto):=g (.ref l::q.1) q.2
open Classical in
def wx(c:Cl)(g:Fn)(cr:CA)(ρ:Rho)(l:Nat)(S:Sto):Option O->Option (U×Sto)
 |some (.ins c' _)=>if c'=c then(cr ρ S).bind (z4 g l)else none
 |_=>none
def GC(c:Cl)(g:Fn)(cr:CA)(ρ:Rho)(p:U×Sto):=As c g p.1 p.2 (cr ρ)
theorem HY:ug c g ca cr ρ S=(ca ρ S).bind (GC c g cr ρ):=rfl
theorem EM:GC c g cr ρ (.ref l,S)=wx c g cr ρ l S S[l]?:=by
 unfold GC As wx;dsimp only<;>(generalize S[l]?=q;rcases q with _|o<;>first|rfl|(cases o<;>rfl))
theorem EL:wx c g cr ρ l S (some (.ins c fus))=(cr ρ S).bind (z4 g l):=by
 unfold wx;dsimp only;rw[if_pos rfl]
theorem EK:z4 g l (us,S)=g (.ref l::us) S:=rfl
def Km(n:Nat):U×Sto->Option (U×Sto)
 |(.non,S)=>some (.ref n,S)
 |_=>none
theorem DJ:rj c g us S=(g (.ref S.length::us) (S++[.ins c (Qh c.ns.length none)])).bind (Km S.length):=by
 unfold rj;congr 1;funext p;obtain⟨u,S⟩:=p;cases u<;>rfl
theorem EN:Km i (.non,S)=some (.ref i,S):=rfl
def kIn(neg:Bool)(x:U)(S:Sto):Option O->Option (U×Sto)
 |some (.lst us)=>if iC x=true/\us.all iC=true then some (.bl (if neg then !inU x us else inU x us),S)else none
 |some (.dic kus)=>(nr x).bind fun k=>some (.bl (if neg then !(aS kus k).isSome else(aS kus k).isSome),S)
 |some (.fdc _ kus)=>(nr x).bind fun k=>some (.bl (if neg then !(aS kus k).isSome else(aS kus k).isSome),S)
 |_=>none
theorem Mc{neg:Bool}:fIn neg x (.ref l) S=kIn neg x S S[l]?:=by
 unfold fIn kIn;dsimp only<;>(generalize S[l]?=q;rcases q with _|o<;>first|rfl|(cases o<;>rfl))
theorem Md{neg:Bool}{kus:List (Key×U)}:kIn neg x S (some (.dic kus))=(nr x).bind fun k=>some (.bl (if neg then !(aS kus k).isSome else(aS kus k).isSome),S):=rfl
theorem Ih{neg:Bool}(h:iC x=true/\us.all iC=true):kIn neg x S (some (.lst us))=some (.bl (if neg then !inU x us else inU x us),S):=by
 unfold kIn;dsimp only;rw[if_pos h]
theorem L4{j:Int}:nr (.int j)=some (.inl j):=rfl
theorem Ie{z:Str}:nr (.str z)=some (.inr z):=rfl
def Ni(f:U->List U->Sto->Option (U×Sto))(x:U)(q:List U×Sto):=f x q.1 q.2
def Nj(f:U->List U->Sto->Option (U×Sto))(cr:CA)(ρ:Rho)(x:U)(S:Sto):Option O->Option (U×Sto)
 |some (.lst _)=>(cr ρ S).bind (Ni f x)
 |_=>none
def kBM(f:U->List U->Sto->Option (U×Sto))(cr:CA)(ρ:Rho):U×Sto->Option (U×Sto)
 |(.ref l,S)=>Nj f cr ρ (.ref l) S S[l]?
 |_=>none
variable{fm:U->List U->Sto->Option (U×Sto)}
theorem NL:cBM fm ca cr ρ S=(ca ρ S).bind (kBM fm cr ρ):=by
 unfold cBM;congr 1;funext p;obtain⟨u,S⟩:=p;cases u<;>try rfl
theorem Iu:kBM fm cr ρ (.ref l,S)=Nj fm cr ρ (.ref l) S S[l]?:=rfl
theorem Ir:Nj fm cr ρ x S (some (.lst us))=(cr ρ S).bind (Ni fm x):=rfl
theorem Iq:Ni fm x (us,S)=fm x us S:=rfl
def Lu(l:Nat)(u:U)(S:Sto):Option O->Option (U×Sto)
 |some (.lst us)=>if us.length<LIM then some (.non,S.set l (.lst (us++[u])))else none
 |_=>none
theorem Mw:cq (.ref l) [u] S=Lu l u S S[l]?:=by
 unfold cq Lu;dsimp only<;>(generalize S[l]?=q;rcases q with _|o<;>first|rfl|(cases o<;>rfl))
theorem iV(h:us.length<LIM):Lu l u S (some (.lst us))=some (.non,S.set l (.lst (us++[u]))):=by
 unfold Lu;dsimp only;rw[if_pos h]
def Nd(ku xu:U)(S:Sto):Option O->Option (U×Sto)
 |some (.dic kus)=>(nr ku).bind fun k=>some ((aS kus k).getD xu,S)
 |_=>none
def Nf(l:Nat)(ku:U)(r:U×Sto):=Nd ku r.1 r.2 r.2[l]?
def Ng(l:Nat)(cx:CE)(ρ:Rho)(q:U×Sto):=(cx ρ q.2).bind (Nf l q.1)
def Nh(l:Nat)(ck cx:CE)(ρ:Rho)(S:Sto):Option O->Option (U×Sto)
 |some (.dic _)=>(ck ρ S).bind (Ng l cx ρ)
 |_=>none
def kDG(ck cx:CE)(ρ:Rho):U×Sto->Option (U×Sto)
 |(.ref l,S)=>Nh l ck cx ρ S S[l]?
 |_=>none
theorem OS:mH ca cb cc ρ S=(ca ρ S).bind (kDG cb cc ρ):=by
 unfold mH;congr 1;funext p;obtain⟨u,S⟩:=p;cases u<;>try rfl
theorem Mr:kDG cb cc ρ (.ref l,S)=Nh l cb cc ρ S S[l]?:=rfl
theorem Mq{kus:List (Key×U)}:Nh l cb cc ρ S (some (.dic kus))=(cb ρ S).bind (Ng l cc ρ):=rfl
theorem Mp:Ng l cc ρ (u,S)=(cc ρ S).bind (Nf l u):=rfl
theorem Mo:Nf l u (x,S)=Nd u x S S[l]?:=rfl
theorem Mn{kus:List (Key×U)}:Nd u x S (some (.dic kus))=(nr u).bind fun k=>some ((aS kus k).getD x,S):=rfl
theorem Im:iR ρ S=some (.ref S.length,S++[.dic []]):=rfl
def kP3(k:Key)(u:U)(z:List (Key×U)×Sto):Option (List (Key×U)×Sto):=some ((k,u)::z.1,z.2)
def kP2(r:List (CE×CE))(ρ:Rho)(x:U)(q:U×Sto):=(nr x).bind fun k=>(lH r ρ q.2).bind (kP3 k q.1)
def kP1(cv:CE)(r:List (CE×CE))(ρ:Rho)(p:U×Sto):=(cv ρ p.2).bind (kP2 r ρ p.1)
variable{pr:List (CE×CE)}
theorem OB:lH [] ρ S=some ([],S):=rfl
theorem x_p:lH ((ca,cb)::pr) ρ S=(ca ρ S).bind (kP1 cb pr ρ):=rfl
theorem OA:kP1 cb pr ρ (u,S)=(cb ρ S).bind (kP2 pr ρ u):=rfl
theorem Oy:kP2 pr ρ x (u,S)=(nr x).bind fun k=>(lH pr ρ S).bind (kP3 k u):=rfl
theorem Ox{k:Key}{z:List (Key×U)}:kP3 k u (z,S)=some ((k,u)::z,S):=rfl
def kD1(n:Nat)(kus:List (Key×U))(S:Sto):Option O->Option (U×Sto)
 |some (.dic [])=>some (.ref n,S.set n (.dic (sL kus)))
 |_=>none
def kD(n:Nat)(q:List (Key×U)×Sto):=kD1 n q.1 q.2 q.2[n]?
theorem Io:AW pr ρ S=(lH pr ρ (S++[.dic []])).bind (kD S.length):=by
 unfold AW;congr 1
theorem EX{z:List (Key×U)}:kD i (z,S)=kD1 i z S S[i]?:=rfl
theorem EW{z:List (Key×U)}:kD1 i z S (some (.dic []))=some (.ref i,S.set i (.dic (sL z))):=rfl
theorem Hz:fT [.tup us] S=some (.tup us,S):=rfl
def M6(S:Sto):Option O->Option (U×Sto)
 |some (.lst us)=>some (.tup us,S)
 |_=>none
theorem HA:fT [.ref l] S=M6 S S[l]?:=by
 unfold fT M6;dsimp only<;>(generalize S[l]?=q;rcases q with _|o<;>first|rfl|(cases o<;>rfl))
theorem HB:M6 S (some (.lst us))=some (.tup us,S):=rfl
theorem ER:xH [.tup us] S=some (.ref S.length,S++[.lst us]):=rfl
def kLs(S:Sto):Option O->Option (U×Sto)
 |some (.lst us)=>some (.ref S.length,S++[.lst us])
 |_=>none
theorem ES:xH [.ref l] S=kLs S S[l]?:=by
 unfold xH kLs;dsimp only<;>(generalize S[l]?=q;rcases q with _|o<;>first|rfl|(cases o<;>rfl))
theorem ET:kLs S (some (.lst us))=some (.ref S.length,S++[.lst us]):=rfl
theorem yd:Lv [.bl b] S=some (.int (if b then 1 else 0),S):=rfl
theorem ga{X:Sto}{n:Nat}:(S++X)[S.length+n]?=X[n]?:=by rw[Qx (Nat.le_add_right _ _),Nat.add_sub_cancel_left]
theorem ga0{X:Sto}:(S++X)[S.length]?=X[0]?:=ga (n:=0)
theorem gs{X:Sto}{n:Nat}{o:O}:(S++X).set (S.length+n) o=S++X.set n o:=by rw[List.set_append_right _ _ (Nat.le_add_right _ _),Nat.add_sub_cancel_left]
theorem gs0{X:Sto}{o:O}:(S++X).set S.length o=S++X.set 0 o:=gs (n:=0)
section
variable{ok:Sto->Prop}{gg:CG}{cbd:CS}{ρ0 ρ1:Rho}{S0 S1:Sto}
theorem fD(h:ok S):d9 ok gg cbd [] ρ S=some (.nx,ρ,S):=by unfold d9;rw[if_pos h]
theorem iw(h:ok S)(hg:gg u ρ S=some (ρ0,S0))(hb:cbd ρ0 S0=some (.nx,ρ1,S1)):d9 ok gg cbd (u::us) ρ S=d9 ok gg cbd us ρ1 S1:=by
 rw[d9];dsimp only;rw[if_pos h,hg,Q4];dsimp only;rw[hb,Q4]
theorem zM(h:ok S)(hg:gg u ρ S=some (ρ0,S0))(hb:cbd ρ0 S0=some (.rt x,ρ1,S1)):d9 ok gg cbd (u::us) ρ S=some (.rt x,ρ1,S1):=by
 rw[d9];dsimp only;rw[if_pos h,hg,Q4];dsimp only;rw[hb,Q4]
theorem BE{n:Nat}(ht:t ρ S=some (true,S0))(hb:cbd ρ S0=some (.nx,ρ1,S1)):eN t cbd (n+1) ρ S=eN t cbd n ρ1 S1:=by
 rw[eN];dsimp only;rw[ht,Q4];dsimp only;rw[if_pos rfl,hb,Q4]
theorem BD{n:Nat}(ht:t ρ S=some (true,S0))(hb:cbd ρ S0=some (.rt x,ρ1,S1)):eN t cbd (n+1) ρ S=some (.rt x,ρ1,S1):=by
 rw[eN];dsimp only;rw[ht,Q4];dsimp only;rw[if_pos rfl,hb,Q4]
theorem yy{n:Nat}(ht:t ρ S=some (false,S0)):eN t cbd (n+1) ρ S=some (.nx,ρ,S0):=by
 rw[eN];dsimp only;rw[ht,Q4];dsimp only;rw[if_neg (by decide)]
theorem t9{ce:CE}{ys:List U}(h:ok S)(hg:gg u ρ S=some (ρ0,S0))(he:ce ρ0 S0=some (x,S1))(hl:S1[l]?=some (.lst ys))(hn:ys.length<LIM):jx ok gg ce l (u::us) ρ S=jx ok gg ce l us ρ0 (S1.set l (.lst (ys++[x]))):=by
 rw[jx,if_pos h,hg,Q4];dsimp only;rw[he,Q4];dsimp only;rw[hl];dsimp only;rw[if_pos hn]
theorem wM{ce:CE}(h:ok S):jx ok gg ce l [] ρ S=some S:=by rw[jx,if_pos h]
end
end
theorem Gy{K:Q1}{H:Hp}{p xs:Addr}{c:CS}{r:Rho}{σ:L2.St}{v0:Option V}{Q:VK}{nx bk ct:L2.St->Hp->Prop}(P:Ot H p xs)
  (ok:∀(ns:List Int) (a b:Int),0<=a->0<=b->∃ρ' S',c (none::some (.ref 1)::r) [.lst (ns.map U.int),.lst [.ref 0,.int a,.int b]]=some (.rt (.bl true),ρ',S')) (q:∀H',Q (.bl true) H')
  (hr:r=Qh r.length none:=by rfl) (hl:σ.length=r.length:=by rfl):tS K c { nx:=nx,rt:=Q,bk:=bk,ct:=ct } (v0::some (.ref p)::σ) H:=by
 obtain⟨ns,a,b,h1,h2,h3,h4,h5⟩:=P;obtain⟨ρ',S',e⟩:=ok ns a b h4 h5;refine⟨[xs,p],_,_,_,ρ',S',⟨rfl,by simp[h3],fun l ad o e1 e2=>?_⟩,⟨by simp[hl],fun i u e1=>?_⟩,e,fun m' v H' _ _ iv=>by rw[iv.of_bl];exact q H'⟩
 ·match l,e1,e2 with
  |0,e1,e2=>
   simp at e1 e2;subst e1;subst e2;exact⟨_,h2,iA ns⟩
  |1,e1,e2=>
   simp at e1 e2;subst e1;subst e2;exact⟨_,h1,.cons_ (.ref_ rfl) (.cons_ .int_ (.cons_ .int_ .nil_))⟩
  |l+2,e1,e2=>simp at e1
 ·match i,e1 with
  |0,e1=>simp at e1
  |1,e1=>
   simp at e1;subst e1;exact⟨.ref p,rfl,.ref_ rfl⟩
  |i+2,e1=>
   simp at e1;rw[hr,ZH]at e1;split at e1<;>cases e1
theorem Hs{p:List Value->Prop}(h:p [])(us:List Value)(e:us.length=0):p us:=by rw[Z8.mp e];exact h
theorem Nw{n:Nat}{p:List Value->Prop}(h:∀a us,us.length=n->p (a::us))(us:List Value)(e:us.length=n+1):p us:=by
 cases us with
 |nil=>cases e
 |cons a us=>exact h a us (Nat.succ.inj e)
def NH(H:Hp)(a:Addr)(ep:Nat)(ks:List Key):Prop:=∃ob es kvs,H a=some (.frz ob (.dK kvs))/\ob.data=.dict es ep/\kvs.map (·.1)=ks
def Itd(a:Addr)(ep:Nat)(ks:List Key):It:=
 ⟨fun i H=>i<ks.length/\NH H a ep ks,fun i H x H'=>H'=H/\∃k,ks[i]?=some k/\x=kV k,fun i H=>ks.length<=i/\NH H a ep ks⟩
theorem Er{P:Program}{w:World}{H:Hp}{h:Heap}{a:Addr}{ob:Obj}{kvs:List (Key×V)}{es:Array DictEntry}{ep:Nat}(ok:HOk P w H h)(e:H a=some (.frz ob (.dK kvs)))(d:ob.data=.dict es ep):∃vs,KV kvs vs/\h.DictAt (cG P w) a vs ep:=by
 obtain⟨e1,_,_,vs,r,o,es',ep',e2,e3,e4,rest⟩:=(show cy P w H h a (.frz ob (.dK kvs))from ok a _ e);rw[e1]at e2;cases e2;rw[d]at e4;cases e4;exact⟨vs,r,ob,es,e1,e3,d,rest⟩
theorem Ej{κ:Type}:∀{kvs:List (κ×V)} {vs:List (κ×Value)} {i:Nat} {k:κ} {v:V},KV kvs vs->kvs[i]?=some (k,v)->∃u,vs[i]?=some (k,u)
 |_,_,i,k,v,.nil,h=>by simp at h
 |_,_,0,k,v,.cons (b:=(k',u)) r t,h=>by
  simp at h;subst h;have:k=k':=r.1;subst this;exact⟨u,by simp⟩
 |_,_,i+1,k,v,.cons r t,h=>by
  obtain⟨u,e⟩:=Ej (i:=i) t (by simpa using h);exact⟨u,by simpa using e⟩
theorem GA{k:Key}{u:Value}(h:uL k u=true):cD (kV k) u:=by
 rcases bP h with⟨i,t,rfl,rfl⟩|⟨i,t,rfl,rfl⟩
 ·exact⟨t,rfl⟩
 ·exact⟨t,rfl⟩
theorem yF{P:Program}{w:World}{K:Q1}{tg:Expr}(a it:Addr){ks:List Key}{ep:Nat} :
  Hc P w K tg (Itd a ep ks) [it] it (fun n h=>h.IsKeyIter it a n ks.length ep) where
 mem:=by simp
 obj:=fun n h st c hc=>by
  simp only[QM,Qc,or_false]at hc;subst hc;obtain⟨o,e,_,q⟩:=st;exact⟨o,e,fun v z=>by rw[q]at z;cases z⟩
 keep:=fun n h h' st kp=>Heap.IsKeyIter.at st fun o q=>kp it (by simp) o q
 item:=by
  intro X hP hw hK hc n pins s σ H E Iv hf st hg;subst hP hw hK;obtain⟨hi,ob,es,kvs,hq,d,ek⟩:=hg;obtain⟨vs,rv,da⟩:=Er Iv.hok hq d;have hl:ks.length=vs.length:=by rw[<-ek,Q5];exact Paired.length rv
  have hi':n<kvs.length:=by rw[<-ek,Q5]at hi;exact hi
  have hx:kvs[n]?=some ((kvs[n]).1,(kvs[n]).2):=Q8 hi';obtain⟨u,hu⟩:=Ej rv hx;obtain⟨f0,f1,f2,f3⟩:=hf it (by simp);have st':s.heap.IsKeyIter it a n vs.length ep:=by rw[<-hl];exact st
  refine wpAny_pyNext_dict_item st' da hu fun key h1 hk st1 sb=>⟨key,rfl,?_⟩;have I1:Inv X pins σ H { s with heap:=h1 }:=Iv.turned (t':=s.toks) (fun b o hb e=>(sb.2 b hb).trans e) f0 f1 f3.1 f3.2.1 f3.2.2;have st2:h1.IsKeyIter it a (n+1) ks.length ep:=by rw[hl];exact st1
  obtain⟨o,e,c,q⟩:=id st2;exact Ah (s:={ s with heap:=h1 }) e c q (by decide) ⟨kV (kvs[n]).1,H,I1,GA hk,⟨rfl,_,by rw[<-ek,Qb,hx];rfl,rfl⟩,st2,fun b hb=>(hf b hb).1⟩
 done:=by
  intro X hP hw hK hc n pins s σ H E Iv hf st hg;subst hP hw hK;obtain⟨hi,ob,es,kvs,hq,d,ek⟩:=hg;obtain⟨vs,rv,da⟩:=Er Iv.hok hq d;have hl:ks.length=vs.length:=by rw[<-ek,Q5];exact Paired.length rv
  obtain⟨f0,f1,f2,f3⟩:=hf it (by simp);have st':s.heap.IsKeyIter it a n vs.length ep:=by rw[<-hl];exact st
  exact wpAny_pyNext_dict_end (Iv.ok.hd hc) st' da (by rw[List.getElem?_eq_none_iff];omega) fun h1 eb=>⟨rfl,Iv.turned (t':=s.toks) (fun b o hb e=>eb b o hb e) f0 f1 f3.1 f3.2.1 f3.2.2⟩
 self:=fun _ _ _ _ _ st h=>wpAny_pyIter_keyiter st h
theorem nD{X:Cx}{pins:List (Addr×Obj)}{σ:L2.St}{H:Hp}{s:Shared}{a:Addr}{o u:HO}(I:Inv X pins σ H s)(e:H a=some o)(nt:∀xs,o≠.tup xs)(no:∀x,o≠.own x)(nb:∀ps,o≠.tbl ps)
  (nf:∀ob u,X.H₀ a≠some (.frz ob u)) (new:cy X.prog X.w (upd H a u) s.heap a u):Inv X pins σ (upd H a u) s:=by
 have nn:∀b,H b=none->upd H a u b=none:=fun b q=>by rw[bA (Ne.symm (cP e q))];exact q
 have ho:∀b x,H b=some (.own x)->upd H a u b=some (.own x):=fun b x q=>by
  rw[bA];exact q;intro z;subst z;rw[e]at q;cases q;exact no _ rfl
 have ht:∀b xs,H b=some (.tup xs)->upd H a u b=some (.tup xs):=fun b x q=>by
  rw[bA];exact q;intro z;subst z;rw[e]at q;cases q;exact nt _ rfl
 refine⟨I.ok,I.os,I.bare,⟨I.base.keep,I.base.slot,fun b ob q1 q2 q3=>nn _ (I.base.free b ob q1 q2 q3),I.base.there,fun b xs q=>ht _ _ (I.base.tups b xs q),fun b ob v q=>?_,fun b ps q=>?_⟩,I.loc,I.cell,nn _ I.free,fun x c q=>nn _ (I.freeC x c q),fun p hp=>?_,fun b v q=>?_,I.len⟩
 ·rw[bA];exact I.base.frzs b ob v q;intro z;subst z;exact nf _ _ q
 ·obtain⟨more,q'⟩:=I.base.tbls b ps q;refine⟨more,?_⟩;rw[bA];exact q';intro z;subst z;rw[e]at q';cases q';exact nb _ rfl
 ·obtain⟨p1,p2,p3⟩:=I.pin p hp;exact⟨p1,nn _ p2,p3⟩
 ·by_cases hb:b=a
  ·subst hb;rw[aN]at q;cases q;exact new
  ·rw[bA hb]at q;exact(I.hok b v q).stay (fun _ _ _ g=>g) (fun c g=>ho c b g) fun c xs g=>ht c xs g
def xX(X:Cx)(a:Addr):Prop:=∀ob u,X.H₀ a≠some (.frz ob u)
def Ky(X:Cx)(tl:TE):TI:=fun σ H R=>tl σ H fun x H1=>∃a kvs,x=.ref a/\H1 a=some (.dK kvs)/\∀ob es ep,xX X a->ob.data=.dict es ep->R (Itd a ep (kvs.map (·.1))) (upd H1 a (.frz ob (.dK kvs)))
theorem Fl{X:Cx}{tg l:Expr}{tl:TE}(hl:WE X l tl):WI X tg l (Ky X tl):=by
 constructor;intro pins s σ H R I h;refine thn (hl.h pins s σ H _ I h) fun v s1 hz=>?_;obtain⟨x,H1,I1,r1,q1⟩:=hz;obtain⟨a,kvs,rfl,hq,q⟩:=q1;cases r1;obtain⟨hz,hs,vs,rv,ob,es,ep,e1,e2,e3,rest⟩:=Dm I1.hok hq;have da:s1.heap.DictAt (cG X.prog X.w) a vs ep:=⟨ob,es,e1,e2,e3,rest⟩;have hl:kvs.length=vs.length:=Paired.length rv;have nf:xX X a:=fun ob' u' z=>by have:=I1.base.frzs a ob' u' z;rw[hq]at this;cases this
 have I2:Inv X pins σ (upd H1 a (.frz ob (.dK kvs))) s1:=nD I1 hq (by simp) (by simp) (by simp) nf ⟨e1,hz,hs,vs,rv,ob,es,ep,e1,e2,e3,rest⟩;refine wpAny_pyIter_dict hs da ?_;refine⟨s1.heap.objs.size,[s1.heap.objs.size],_,_,_,rfl,I2.kept (t':=s1.toks) fun b o g=>Q7 _ g,yF a _,⟨_,QF _ rfl,rfl,by rw[Q5,hl];rfl⟩,fun b hb=>?_,q ob es ep nf e3⟩;simp only[QM,Qc,or_false]at hb;subst hb;exact I2.fpOk (QZ _) (I2.hok.fresh (QZ _))
theorem C3{X:Cx}{pins:List (Addr×Obj)}{σ:L2.St}{H:Hp}{s:Shared}{a:Addr}{ob:Obj}{kvs:List (Key×V)}(I:Inv X pins σ H s)(nf:xX X a)(e:H a=some (.frz ob (.dK kvs))):Inv X pins σ (upd H a (.dK kvs)) s:=
 nD I e (by simp) (by simp) (by simp) nf (show cy X.prog X.w H s.heap a (.frz ob (.dK kvs))from I.hok a _ e).2
def kU:Key->U
 |.inl i=>.int i
 |.inr x=>.str x
theorem El{K:Q1}{m:List Addr}{H:Hp}(k:Key):Is K m H (kV k) (kU k):=by
 cases k with
 |inl i=>exact .int_
 |inr x=>exact .str_
open Classical in
def uni{α:Type}(F:Nat->Option α):Option α:=if h:∃r,∀n,F n=some r then some h.choose else none
theorem DS{α:Type}{F:Nat->Option α}{r:α}(h:∀n,F n=some r):uni F=some r:=by
 have hx:∃r,∀n,F n=some r:=⟨r,h⟩;unfold uni;rw[dif_pos hx];have:=hx.choose_spec 0;rw[h 0]at this;exact this.symm
theorem vH{α:Type}{F:Nat->Option α}{r:α}(h:uni F=some r)(n:Nat):F n=some r:=by
 unfold uni at h;split at h
 ·rename_i hx;cases h;exact hx.choose_spec n
 ·cases h
theorem GH{K:Q1}{m:List Addr}{H:Hp}{a:Addr}{l ep:Nat}{kus:List (Key×U)}(ha:m[l]?=some a):Bm K (Itd a ep (kus.map (·.1))) m H (kus.map fun q=>kU q.1) (fun S'=>S'[l]?=some (.fdc ep kus)):=by
 intro m2 S2 H2 i e sr hok;obtain⟨a',ha',ob,es,kvs,hx,hd,ip⟩:=sr.get hok;have ha2:=e.get ha;rw[ha2]at ha';cases ha';have hz:NH H2 a ep (kus.map (·.1)):=⟨ob,es,kvs,hx,hd,ip.1⟩;refine⟨fun u hu=>?_,fun hu=>⟨by simpa using hu,hz⟩⟩;have hi:i<kus.length:=by have:=(Q9.mp hu).1;simpa using this
 refine⟨⟨by simpa using hi,hz⟩,?_⟩;rintro x H3 ⟨rfl,k,hk,rfl⟩;refine⟨.refl,sr,?_⟩;rw[Qb]at hk hu;rw[Q8 hi]at hk hu;cases hk;cases hu;exact El _
end OP
namespace OG
open PySem PySem.Spec PyProof.Rows L2
def qL(wi:TI)(g:TG)(tt:TT)(te:TE)(n:Nat)(caps:List Nat):TE:=fun σ H Q=>wi σ H fun J H1=>∀l,H1 l=none->∃W:Nat->Nat->L2.St->Hp->Prop,(∃m,W 0 m (stC n caps σ) (upd H1 l (.lst [])))/\
 ∀i m σ' H2,W i m σ' H2->(J.stop i H2/\Q (.ref l) H2)\/(J.go i H2/\∃N:L2.St->Hp->Prop,(∀σ'' H',N σ'' H'->∃m',m'<m/\W (i+1) m' σ'' H')/\
  ∀x H3,J.yld i H2 x H3->g x σ' H3 fun σ2 H4=>tt σ2 H4 fun b H5=>match b with
   |true=>te σ2 H5 fun v H6=>∃ys,H6 l=some (.lst ys)/\ys.length<sizeLine/\N σ2 (upd H6 l (.lst (ys++[v])))
   |false=>N σ2 H5)
theorem pS{prog:Program}{w:World}{A:Around}{R:Result->Shared->Prop}{s:Shared}{elt target iter c:Expr}{scope:Scope}{pos:Pos}{it acc:Value}{env:Env}(I:Nat->Shared->Prop)
  (turn:∀n s,I n s->wpAny (model prog w) A (pyNext it) (fun r s₁=>match r with
   |none=>R (.ok .next) s₁
   |some v=>wpAny (model prog w) A (letOwnedTupleGo target it v) (fun _ s₁'=>wpAny (model prog w) A (assign target env v) (fun _ s₂=>wpAny (model prog w) A (PySem.isTrue c env (eval c env)) (fun b s₂'=>match b with
    |true=>wpAny (model prog w) A (eval elt env) (fun x s₃=>
     wpAny (model prog w) A (call (.builtin "list.append") [acc,x]) (fun _ s₄=>∃m,m<n/\I m s₄) (fun _ _=>False) s₃)
     (fun _ _=>False) s₂'
    |false=>∃m,m<n/\I m s₂') (fun _ _=>False) s₂) (fun _ _=>False) s₁') (fun _ _=>False) s₁) (fun _ _=>False) s)
  (n:Nat) (h:I n s) :
  codeAny (model prog w) A (.compLoop (.ListComp elt [⟨target,iter,[c],0⟩] scope pos) 0 it acc env) R s:=by
 refine codeAny_loop rfl I (fun n s hI=>?_) n h;show wpAny _ _ ((compTurn (.ListComp elt [⟨target,iter,[c],0⟩] scope pos) 0 it acc env).onRaise (fun x=>do noteFrame x env;theTreesLotGoes x)) _ _ s;refine wpAny_noted ?_;rw[compTurn_list];refine Q2 (wpAny_standAt (Q2 (Z9 (turn n s hI) (fun r s₁ h₁=>?_) fun _ _ h'=>h'.elim)));cases r with
 |none=>exact QQ h₁
 |some v=>
  refine Q2 (Z9 h₁ (fun _ s₁' h₁'=>?_) fun _ _ h'=>h'.elim);refine Q2 (Z9 h₁' (fun _ s₂ h₂=>?_) fun _ _ h'=>h'.elim);dsimp only;simp only[List.forIn_cons,List.forIn_nil,if_true,bind_assoc,pure_bind];refine Q2 (Z9 h₂ (fun b s₂' h₂'=>?_) fun _ _ h'=>h'.elim);cases b with
  |true=>
   rw[if_pos rfl];exact Q2 (Z9 h₂' (fun x s₃ h₃=>Q2 (Z9 h₃
    (fun _ s₄ h₄=>QQ ⟨rfl,h₄⟩) fun _ _ h'=>h'.elim)) fun _ _ h'=>h'.elim)
  |false=>
   rw[if_neg QK];exact QQ ⟨rfl,h₂'⟩
theorem qt{X:Cx}{Nc capN tn:List Str}{scope:Scope}{cl:List (Str×Addr)}{n:Nat}{caps:List Nat}{tg iter elt:Expr}{pos:Pos}{wi:TI}{g:TG}{te:TE}{tt:TT}{c:Expr}
  (hc:X.calm=true) (hi:WI X tg iter wi) (hg:∀s3 H3 fp,WG (cxC X Nc scope cl s3 H3 fp) tg g) (he:∀s3 H3 fp,WE (cxC X Nc scope cl s3 H3 fp) elt te)
  (ht:∀s3 H3 fp,WT (cxC X Nc scope cl s3 H3 fp) c tt)
  (hclos:closureFor scope X.env=pure cl) (hkind:scope.kind=.function) (hnl:∀x∈scope.names,x.2=.local->scope.names.lookup x.1=some .local) (hcell:∀x∈scope.names,x.2≠.cell)
  (hcl:ux X.env cl) (hhas:((relabel scope X.env).names.all fun p=>!(p.2 == .cell||p.2 == .free)||(cl.lookup p.1).isSome)=true)
  (hcap:Paired (Cap X scope cl) caps capN) (hN:Nc=tn++capN) (hn:tn.length=n)
  {use:Option (Value->Sem Unit)} {pins:List (Addr×Obj)} {σ:L2.St} {H:Hp} {s:Shared} {Q:VK} {Qf:Value->Shared->Prop} (I:Inv X pins σ H s) (h:qL wi g tt te n caps σ H Q)
  (hend:∀(D C:Addr) (s6:Shared) (H5:Hp) (m:Str->Option Value),Inv X pins σ H5 s6->s6.heap.Ns C m->H5 C=none->C≠X.env.locals->X.s₀.heap.objs.size<=C->(∀x c,X.env.cells.lookup x=some c->c≠C)->(∀p∈X.pn++pins,p.1≠C)->Q (.ref D) H5->compPost (model X.prog X.w) X.A X.xe use Qf (.ref D) C (.ok .next) s6)
  (hs:∀x,foldedSetIterable iter X.env x=pure x) :
  wpAny (model X.prog X.w) X.A (comprehension (.ListComp elt [⟨tg,iter,[c],0⟩] scope pos) scope X.env (firstIterPos [⟨tg,iter,[c],0⟩] pos) (newList []) (firstAsync [⟨tg,iter,[c],0⟩]) (firstIter [⟨tg,iter,[c],0⟩] X.env) use) Qf X.xe s:=by
 refine wpAny_comprehension_free (use:=use) (g:=⟨tg,iter,[c],0⟩) (gs:=[]) rfl hs hclos hkind hnl (thn (hi.h pins s σ H _ I h) fun v s1 h1=>thn h1 fun itv s2 h2=>?_);obtain⟨it,fp,tnn,J,H2,rfl,I2,T,st2,f2,hW⟩:=h2;have hD:=I2.fresh;obtain⟨W,⟨m0,w0⟩,turn⟩:=hW _ hD;refine wpAny_newObj_type (wpAny_newFunctionEnv hcell (by intro y hy;simp at hy) (fun h₁ hns₁ hsb₁=>?_) hkind);dsimp only at hns₁ hsb₁ ⊢;have I3:Inv X pins σ (upd H2 s2.heap.objs.size (.lst [])) { s2 with heap:=s2.heap.push { cls:=.type "list",dict:=none,data:=.seq ([]:List Value).toArray },toks:=s2.toks }:=I2.lnew (its:=[]) .nil (Z7 _);generalize hs3:({ s2 with heap:=s2.heap.push { cls:=.type "list",dict:=none,data:=.seq ([]:List Value).toArray },toks:=s2.toks }:Shared)=s3 at I3;have es3:s3.heap=s2.heap.push { cls:=.type "list",dict:=none,data:=.seq ([]:List Value).toArray }:=by rw[<-hs3]
 generalize hDD:s2.heap.objs.size=D at *;have kept:∀b o,s3.heap.get? b=some o->h₁.get? b=some o:=fun b o e=>by
  have lt:=QB e;rw[es3]at lt e;exact hsb₁.extBut b o (Qr lt) (Q7 _ e)
 have old:∀b o,s2.heap.get? b=some o->s3.heap.get? b=some o:=fun b o e=>by rw[es3];exact Q7 _ e
 have ltD:∀b∈fp,b<D:=fun b hb=>by
  obtain⟨o,e,_⟩:=T.obj 0 _ st2 b hb;rw[<-hDD];exact QB e
 have fo:∀b∈fp,b<s3.heap.objs.size:=fun b hb=>by
  obtain⟨o,e,_⟩:=T.obj 0 _ st2 b hb;exact QB (old _ _ e)
 have f3:∀b∈fp,x6 X pins (upd H2 D (.lst [])) b:=fun b hb=>by
  refine⟨?_,(f2 b hb).2⟩;rw[bA (Qr (ltD b hb))];exact(f2 b hb).1
 rw[<-es3]at hns₁ hsb₁ ⊢;have Ic:=fun t'=>Inv.comp (h1:=h₁) (t':=t') (Nc:=Nc) (n:=n) I3 hc f3 fo hkind hcl hhas hcap tn hN hn hns₁ kept;have stat:∀{H':Hp},(∀b∈fp,H' b=none)->∀b∈fp,x6 (cxC X Nc scope cl s3 (upd H2 D (.lst [])) fp) [] H' b:=fun hn' b hb=>by
  refine⟨hn' b hb,Qr (fo b hb),fun z=>?_,.inl hb,fun x c e=>(f2 b hb).2.2.2.2.1 x c (hcl.look e),fun p hp=>(by simp at hp)⟩;rcases QM.mp (I3.stkSub b z)with q|q
  ·exact(f2 b hb).2.1 q
  ·exact(f2 b hb).2.2.1 q
 have loop:∀s4:Shared,(∃t',s4={ s3 with heap:=h₁,toks:=t' })->codeAny (model X.prog X.w) X.A (.compLoop (.ListComp elt [⟨tg,iter,[c],0⟩] scope pos) 0 (.ref it) (.ref D) (compEnvC scope cl s3.heap.objs.size X.env))
   (compPost (model X.prog X.w) X.A X.xe use Qf (.ref D) s3.heap.objs.size) s4:=by
  rintro s4 ⟨t',rfl⟩;refine pS (fun n' s'=>∃i σ' H',Inv (cxC X Nc scope cl s3 (upd H2 D (.lst [])) fp) [] σ' H' s'/\tnn i s'.heap/\(∀b∈fp,H' b=none)/\W i n' σ' H') ?_ m0
   ⟨0,_,_,Ic t',T.keep 0 _ _ st2 fun b hb o e=>kept _ _ (old _ _ e),fun b hb=>(f3 b hb).1,w0⟩
  rintro n' s5 ⟨i,σ5,H5,I5,st5,fr5,w5⟩;rcases turn i n' σ5 H5 w5 with⟨stop,qn⟩|⟨go,N,hN',step⟩
  ·refine thn (T.done (cxC X Nc scope cl s3 (upd H2 D (.lst [])) fp) rfl rfl rfl hc i [] s5 σ5 H5 (fun _ _=>False) I5 (stat fr5) st5 stop) fun r s6 ⟨hr,I6⟩=>?_;subst hr;obtain⟨m,hm,_⟩:=I6.loc;have I7:Inv X pins σ H5 s6:=Inv.call' (ch:=fp) I3 I6.os I6.base I6.hok I6.bare fun b hb=>⟨(f2 b hb).2.2.2.1,(f2 b hb).2.1,(f2 b hb).2.2.2.2.1,(f2 b hb).2.2.2.2.2⟩;exact hend D _ s6 H5 m I7 hm I6.free (Ne.symm (Qr I3.lt)) I3.sz (fun x c e=>by
     obtain⟨v',o,ho,_⟩:=I3.cell x c e;exact Qr (QB ho)) (fun p hp=>Qr (QB (I3.pin p hp).1)) qn
  ·refine thn (T.item (cxC X Nc scope cl s3 (upd H2 D (.lst [])) fp) rfl rfl rfl hc i [] s5 σ5 H5 (fun _ _=>False) I5 (stat fr5) st5 go) fun r s6 ⟨u,hr,h6⟩=>?_;subst hr;refine thn h6 fun _ s7 hz=>?_;obtain⟨x,H7,I7,r7,y7,st7,fr7⟩:=hz;have I7':=I7.pinned (stat fr7) (T.obj _ _ st7);refine thn ((hg s3 (upd H2 D (.lst [])) fp).h _ s7 σ5 H7 x u _ I7' r7 (step x H7 y7)) fun _ s8 hz=>?_;obtain⟨σ8,H8,I8,q8⟩:=hz;have fin:∀{s10:Shared} {H10:Hp},Inv (cxC X Nc scope cl s3 (upd H2 D (.lst [])) fp) _ σ8 H10 s10->N σ8 H10->∃m',m'<n'/\∃i' σ' H',Inv (cxC X Nc scope cl s3 (upd H2 D (.lst [])) fp) [] σ' H' s10/\tnn i' s10.heap/\(∀b∈fp,H' b=none)/\W i' m' σ' H':=fun{s10 H10} I10 q10=>by
    obtain⟨m',hm,w10⟩:=hN' σ8 H10 q10;refine⟨m',hm,i+1,σ8,H10,Inv.unpinned I10,T.keep _ _ _ st7 fun b hb o e=>(Inv.pin I10 (b,o) (QL _ (QL _ (fH hb e)))).1,fun b hb=>?_,w10⟩;obtain⟨o,e,d⟩:=T.obj _ _ st7 b hb;exact(Inv.pin I10 (b,o) (QL _ (QL _ (fH hb e)))).2.1
   refine thn ((ht s3 (upd H2 D (.lst [])) fp).h _ s8 σ8 H8 _ I8 q8) fun b9 s9' h9=>?_;obtain⟨H9',I9',q9'⟩:=h9;cases b9 with
   |false=>exact fin I9' q9'
   |true=>
    refine thn ((he s3 (upd H2 D (.lst [])) fp).h _ s9' σ8 H9' _ I9' q9') fun v9 s9 hz=>?_;obtain⟨x9,H9,I9,r9,ys,hy,hlt,q9⟩:=hz;exact thn (om (X:=cxC X Nc scope cl s3 (upd H2 D (.lst [])) fp) _ s9 σ8 H9 (.ref D) [x9] (.ref D) [v9] (fun _ H'=>N σ8 H') I9 rfl (.cons r9 .nil) ⟨D,ys,x9,rfl,rfl,hy,hlt,q9⟩) fun _ s10 ⟨_,H10,I10,_,q10⟩=>fin I10 q10
 have e4:∀t',({ s2 with heap:=h₁,toks:=t' }:Shared)={ s3 with heap:=h₁,toks:=t' }:=fun t'=>by rw[<-hs3]
 refine codeAny_compStart_list (loop _ ⟨_,e4 _⟩) (T.self _ 0 _ _ _ (T.keep 0 _ _ st2 fun b hb o e=>kept _ _ (old _ _ e)) (loop _ ⟨_,e4 _⟩))
theorem pW{X:Cx}{Nc capN tn:List Str}{scope:Scope}{cl:List (Str×Addr)}{n:Nat}{caps:List Nat}{tg iter elt:Expr}{pos:Pos}{wi:TI}{g:TG}{te:TE}{tt:TT}{c:Expr}
  (hc:X.calm=true) (hi:WI X tg iter wi) (hg:∀s3 H3 fp,WG (cxC X Nc scope cl s3 H3 fp) tg g) (he:∀s3 H3 fp,WE (cxC X Nc scope cl s3 H3 fp) elt te)
  (ht:∀s3 H3 fp,WT (cxC X Nc scope cl s3 H3 fp) c tt)
  (hclos:closureFor scope X.env=pure cl) (hkind:scope.kind=.function) (hnl:∀x∈scope.names,x.2=.local->scope.names.lookup x.1=some .local) (hcell:∀x∈scope.names,x.2≠.cell)
  (hcl:ux X.env cl) (hhas:((relabel scope X.env).names.all fun p=>!(p.2 == .cell||p.2 == .free)||(cl.lookup p.1).isSome)=true)
  (hcap:Paired (Cap X scope cl) caps capN) (hN:Nc=tn++capN) (hn:tn.length=n)
  (hs:∀x,foldedSetIterable iter X.env x=pure x:=by intro _;rfl) :
  WE X (.ListComp elt [⟨tg,iter,[c],0⟩] scope pos) (qL wi g tt te n caps):=by
 constructor;intro pins s σ H Q I h;rw[eval_ListComp];refine qt hc hi hg he ht hclos hkind hnl hcell hcl hhas hcap hN hn I h (fun D C s6 H5 m I7 hm fr nl sz cn pn qn=>⟨m,hm,fun h' hs'=>?_⟩) hs;exact⟨.ref D,H5,I7.turned (t':=s6.toks) (it:=C) (fun b o hb e=>hs'.extBut b o hb e) fr nl (.inr sz) cn pn,rfl,qn⟩
end OG
namespace OP
open PySem PySem.Spec PyProof.Rows L2 OG
open Classical in
def cK(ok:Sto->Prop)(g:CG)(ct:CT)(ce:CE)(l:Nat):List U->Rho->Sto->Option Sto
 |[],_,S=>if ok S then some S else none
 |u::us,ρ,S=>if ok S then(g u ρ S).bind fun p=>(ct p.1 p.2).bind fun q=>if q.1=true then(ce p.1 q.2).bind fun r=>match r.2[l]? with
  |some (.lst ys)=>if ys.length<LIM then cK ok g ct ce l us p.1 (r.2.set l (.lst (ys++[r.1])))else none
  |_=>none else cK ok g ct ce l us p.1 q.2 else none
def bz(ci:CI)(g:CG)(ct:CT)(ce:CE)(n:Nat)(caps:List Nat):CE:=fun ρ S=>(ci ρ S).bind fun p=>(cK p.2.1 g ct ce p.2.2.length p.1 (ma n caps ρ) (p.2.2++[.lst []])).bind fun S'=>some (.ref p.2.2.length,S')
section
variable{X:Cx}{K:Q1}
theorem o5{g:CG}{ct:CT}{ce:CE}{n:Nat}{caps:List Nat}{J:It}{us:List U}{ok:Sto->Prop}{Q:VK}{m1:List Addr}{H1:Hp}{S1 S':Sto}{ρ:Rho}{σ:L2.St}{l:Addr}(sr1:Sr K m1 S1 H1)(lr:Lr K m1 H1 ρ σ)(ito:Bm K J m1 H1 us ok)(hl:H1 l=none)(h2:cK ok g ct ce S1.length us (ma n caps ρ) (S1++[.lst []])=some S')
  (post:∀m2 H2,Ext K (m1++[l]) (upd H1 l (.lst [])) m2 H2->Sr K m2 S' H2->Q (.ref l) H2) :
  ∃W:Nat->Nat->L2.St->Hp->Prop,(∃m,W 0 m (OG.stC n caps σ) (upd H1 l (.lst [])))/\
 ∀i m σ' H2,W i m σ' H2->(J.stop i H2/\Q (.ref l) H2)\/(J.go i H2/\∃N:L2.St->Hp->Prop,(∀σ'' H',N σ'' H'->∃m',m'<m/\W (i+1) m' σ'' H')/\
  ∀x H3,J.yld i H2 x H3->tG K g x σ' H3 fun σ2 H4=>tT K ct σ2 H4 fun b H5=>match b with
   |true=>tE K ce σ2 H5 fun v H6=>∃ys,H6 l=some (.lst ys)/\ys.length<sizeLine/\N σ2 (upd H6 l (.lst (ys++[v])))
   |false=>N σ2 H5):=by
 have ee:Ext K m1 H1 (m1++[l]) (upd H1 l (.lst [])):=.new (bT hl _);let W:Nat->Nat->L2.St->Hp->Prop:=fun i k σ2 H2=>k=us.length-i/\i<=us.length/\∃m2 ρ2 S2,Ext K (m1++[l]) (upd H1 l (.lst [])) m2 H2/\Sr K m2 S2 H2/\Lr K m2 H2 ρ2 σ2/\cK ok g ct ce S1.length (us.drop i) ρ2 S2=some S'
 refine⟨W,⟨us.length,by simp,Z7 _,m1++[l],ma n caps ρ,S1++[.lst []],.refl,sr1.new (o:=.lst []) hl ⟨[],aN,.nil_⟩,zL (lr.mono ee),by simpa using h2⟩,?_⟩;rintro i k σ2 H2 ⟨rfl,hi,m2,ρ2,S2,e2,sr2,lr2,hl2⟩;by_cases hlt:i<us.length
 ·have hu:=Q8 hlt;rw[oW hu]at hl2;unfold cK at hl2;split at hl2
  ·rename_i hok;obtain⟨⟨ρ3,S3⟩,h3,hl2⟩:=Q0.mp hl2;obtain⟨⟨b4,S4⟩,h4,hl2⟩:=Q0.mp hl2;obtain⟨hgo,hy⟩:=(ito m2 S2 H2 i (ee.trans e2) sr2 hok).1 _ hu;refine .inr ⟨hgo,W (i+1) (us.length-(i+1)),fun σ' H' w'=>⟨_,by omega,w'⟩,fun x H3 y=>?_⟩;obtain⟨e3,sr3,ix⟩:=hy x H3 y;refine⟨m2,ρ2,S2,_,ρ3,S3,sr3,lr2.mono e3,ix,h3,fun m4 σ4 H4 e4 sr4 lr4=>⟨m4,ρ3,S3,b4,S4,sr4,lr4,h4,fun m4' H4' e4' sr4'=>?_⟩⟩;cases b4 with
   |false=>
    rw[if_neg QK]at hl2;exact⟨rfl,hlt,m4',ρ3,_,(((e2.trans e3).trans e4).trans e4'),sr4',lr4.mono e4',hl2⟩
   |true=>
    rw[if_pos rfl]at hl2;obtain⟨⟨u5,S5⟩,h5,hl2⟩:=Q0.mp hl2;simp only at hl2;split at hl2<;>try cases hl2
    rename_i ys hys;split at hl2<;>try cases hl2
    rename_i eK;refine⟨m4',ρ3,S4,u5,S5,sr4',lr4.mono e4',h5,fun m5 v5 H5 e5 sr5 i5=>?_⟩;obtain⟨a',ha',xs,hx,il⟩:=sr5.get hys;have ha:m5[S1.length]?=some l:=((((e2.trans e3).trans e4).trans e4').trans e5).get (dB sr1.len);rw[ha]at ha';cases ha';have eu:Ext K m5 H5 m5 (upd H5 l (.lst (xs++[v5]))):=.of (sr5.keep ha _);exact⟨xs,hx,Hl (by rw[il.length];exact eK),rfl,hlt,m5,ρ3,_,(((((e2.trans e3).trans e4).trans e4').trans e5).trans eu),sr5.put (o:=.lst (ys++[u5])) ha ⟨_,aN,(il.append (.cons_ i5 .nil_)).mono eu⟩,(lr4.mono ((e4'.trans e5).trans eu)),hl2⟩
  ·cases hl2
 ·have e:i=us.length:=by omega
  subst e;rw[List.drop_length]at hl2;unfold cK at hl2;split at hl2
  ·rename_i hok;cases hl2;exact .inl ⟨(ito m2 _ H2 _ (ee.trans e2) sr2 hok).2 (QZ _),post m2 H2 e2 sr2⟩
  ·cases hl2
theorem qr{ci:CI}{g:CG}{ct:CT}{ce:CE}{n:Nat}{caps:List Nat}:∀σ H Q,tE K (bz ci g ct ce n caps) σ H Q->qL (tI K ci) (tG K g) (tT K ct) (tE K ce) n caps σ H Q:=by
 rintro σ H Q ⟨m,ρ,S,u,S',sr,lr,hc,post⟩;obtain⟨⟨us,ok,S1⟩,h1,h2⟩:=Q0.mp hc;obtain⟨S2,h2,h3⟩:=Q0.mp h2;cases h3;refine⟨m,ρ,S,us,ok,S1,sr,lr,h1,fun m1 H1 J e1 sr1 ito l hl=>?_⟩;have ee:Ext K m1 H1 (m1++[l]) (upd H1 l (.lst [])):=.new (bT hl _);exact o5 sr1 (lr.mono e1) ito hl h2 fun m2 H2 e2 sr2=>post m2 _ H2 ((e1.trans ee).trans e2) sr2 (.ref_ (e2.get (dB sr1.len)))
theorem gf{Nc capN tn:List Str}{scope:Scope}{cl:List (Str×Addr)}{n:Nat}{caps:List Nat}{tg iter elt:Expr}{pos:Pos}{ci:CI}{g:CG}{ct:CT}{ce:CE}{c:Expr}
  (hc:X.calm=true) (hi:QI X tg iter ci) (hg:∀s3 H3 fp,WG (cxC X Nc scope cl s3 H3 fp) tg (tG X.K g)) (ht:∀s3 H3 fp,WT (cxC X Nc scope cl s3 H3 fp) c (tT X.K ct)) (he:∀s3 H3 fp,WE (cxC X Nc scope cl s3 H3 fp) elt (tE X.K ce))
  (hclos:closureFor scope X.env=pure cl) (hkind:scope.kind=.function) (hnl:∀x∈scope.names,x.2=.local->scope.names.lookup x.1=some .local) (hcell:∀x∈scope.names,x.2≠.cell)
  (hcl:ux X.env cl) (hhas:((relabel scope X.env).names.all fun p=>!(p.2 == .cell||p.2 == .free)||(cl.lookup p.1).isSome)=true)
  (hcap:Paired (Cap X scope cl) caps capN) (hN:Nc=tn++capN) (hn:tn.length=n)
  (hs:∀x,foldedSetIterable iter X.env x=pure x:=by intro _;rfl) :
  QE X (.ListComp elt [⟨tg,iter,[c],0⟩] scope pos) (bz ci g ct ce n caps):=(pW hc hi hg he ht hclos hkind hnl hcell hcl hhas hcap hN hn hs).imp qr
end
end OP
namespace OP
open PySem PySem.Spec PyProof PyProof.Rows L2 OG
mutual
inductive RdV(K:Q1)(H:Hp):V->PyData->Prop
 |non:RdV K H .non .none
 |bl (b:Bool):RdV K H (.bl b) (.bool b)
 |int (i:Int):RdV K H (.int i) (.int i)
 |str (x:Str):RdV K H (.str x) (.str x)
 |lst {a:Addr} {xs:List V} {ds:List PyData}:SqL K H a xs->Ba K H xs ds->RdV K H (.ref a) (.list ds)
 |tup {a:Addr} {xs:List V} {ds:List PyData}:SqT K H a xs->Ba K H xs ds->RdV K H (.ref a) (.tuple ds)
inductive Ba(K:Q1)(H:Hp):List V->List PyData->Prop
 |nil:Ba K H [] []
 |cons {x:V} {xs:List V} {d:PyData} {ds:List PyData}:RdV K H x d->Ba K H xs ds->Ba K H (x::xs) (d::ds)
end
mutual
inductive Dt(S:Sto):U->PyData->Prop
 |non:Dt S .non .none
 |bl (b:Bool):Dt S (.bl b) (.bool b)
 |int (i:Int):Dt S (.int i) (.int i)
 |str (x:Str):Dt S (.str x) (.str x)
 |lst {l:Nat} {us:List U} {ds:List PyData}:S[l]?=some (.lst us)->DtL S us ds->Dt S (.ref l) (.list ds)
 |tup {us:List U} {ds:List PyData}:DtL S us ds->Dt S (.tup us) (.tuple ds)
inductive DtL(S:Sto):List U->List PyData->Prop
 |nil:DtL S [] []
 |cons {x:U} {xs:List U} {d:PyData} {ds:List PyData}:Dt S x d->DtL S xs ds->DtL S (x::xs) (d::ds)
end
section
variable{X:Cx}{K:Q1}{pins:List (Addr×Obj)}{σ:L2.St}{H:Hp}{s:Shared}
mutual
theorem RdV.reads(I:Inv X pins σ H s):∀{x:V} {d:PyData} {v:Value},RdV X.K H x d->cD x v->∃as,Reads s.heap v d as
 |_,_,_,.non,r=>by cases r;exact⟨_,.none⟩
 |_,_,_,.bl b,r=>by cases r;exact⟨_,.bool b⟩
 |_,_,_,.int i,r=>by obtain⟨t,rfl⟩:=r;exact⟨_,.int i t⟩
 |_,_,_,.str i,r=>by obtain⟨t,rfl⟩:=r;exact⟨_,.str i t⟩
 |_,_,_,.lst (a:=a) h t,r=>by
  cases r;obtain⟨its,rv,pl,_⟩:=I.list h;obtain⟨as,k⟩:=Ba.reads I t rv;obtain⟨o,h1,h2,n,h3⟩:=pl.isList;exact⟨_,.list h1 h2 h3 (by simpa using k)⟩
 |_,_,_,.tup (a:=a) h t,r=>by
  cases r;obtain⟨its,rv,pl,_⟩:=I.tuple h;obtain⟨as,k⟩:=Ba.reads I t rv;obtain⟨o,h1,h2,n,h3⟩:=pl;exact⟨_,.tuple h1 h2 h3 (by simpa using k)⟩
theorem Ba.reads(I:Inv X pins σ H s):∀{xs:List V} {ds:List PyData} {vs:List Value},Ba X.K H xs ds->bU xs vs->∃as,ReadsAll s.heap vs ds as
 |_,_,_,.nil,r=>by cases r;exact⟨_,.nil⟩
 |_,_,_,.cons h t,.cons r rs=>by
  obtain⟨as,a⟩:=RdV.reads I h r;obtain⟨bs,b⟩:=Ba.reads I t rs;exact⟨_,.cons a b⟩
end
mutual
theorem Dt.rd{m:List Addr}{S:Sto}(sr:Sr K m S H):∀{u:U} {d:PyData} {v:V},Dt S u d->Is K m H v u->RdV K H v d
 |_,_,_,.non,i=>by rw[i.of_non];exact .non
 |_,_,_,.bl b,i=>by rw[i.of_bl];exact .bl b
 |_,_,_,.int b,i=>by rw[i.of_int];exact .int b
 |_,_,_,.str b,i=>by rw[i.of_str];exact .str b
 |_,_,_,.lst h t,i=>by
  obtain⟨a,ha,rfl⟩:=i.of_ref;obtain⟨a',ha',xs,hx,il⟩:=sr.get h;rw[ha]at ha';cases ha';exact .lst (SqL.of hx) (DtL.rd sr t il)
 |_,_,_,.tup t,i=>by
  obtain⟨a,xs,rfl,sa,la⟩:=i.of_tup;exact .tup sa (DtL.rd sr t la)
theorem DtL.rd{m:List Addr}{S:Sto}(sr:Sr K m S H):∀{us:List U} {ds:List PyData} {vs:List V},DtL S us ds->IsL K m H vs us->Ba K H vs ds
 |_,_,_,.nil,i=>by rw[i.of_nil];exact .nil
 |_,_,_,.cons h t,i=>by
  obtain⟨x,r,rfl,i1,i2⟩:=i.of_cons;exact .cons (Dt.rd sr h i1) (DtL.rd sr t i2)
end
mutual
theorem Dt.uniq{S:Sto}:∀{u:U} {d e:PyData},Dt S u d->Dt S u e->d=e
 |_,_,_,.non,.non=>rfl
 |_,_,_,.bl _,.bl _=>rfl
 |_,_,_,.int _,.int _=>rfl
 |_,_,_,.str _,.str _=>rfl
 |_,_,_,.lst h t,.lst h' t'=>by
  rw[h]at h';cases h';rw[DtL.uniq t t']
 |_,_,_,.tup t,.tup t'=>by rw[DtL.uniq t t']
theorem DtL.uniq{S:Sto}:∀{us:List U} {ds es:List PyData},DtL S us ds->DtL S us es->ds=es
 |_,_,_,.nil,.nil=>rfl
 |_,_,_,.cons h t,.cons h' t'=>by rw[Dt.uniq h h',DtL.uniq t t']
end
def Bf(d:PyData):Prop:=d.canLay0=true/\d.depth<=60
def ME(K:Q1)(neg:Bool):R2:=fun x y H Q=>(∃dx dy,RdV K H x dx/\RdV K H y dy/\Bf dx/\Bf dy/\Q (.bl (if neg then !dx.eqv dy else dx.eqv dy)) H)\/
 ∃a b xs ys,x=.ref a/\y=.ref b/\SqL K H a xs/\SqL K H b ys/\xs.length≠ys.length/\Q (.bl neg) H
theorem Eg(hu:X.A.units+64<cLine):OpR X (compareOp .Eq) (ME X.K false):=by
 rintro pins s σ H x y v u Q I rx ry (⟨dx,dy,hx,hy,lx,ly,q⟩|⟨a,b,xs,ys,rfl,rfl,ha,hb,ne,q⟩)
 ·obtain⟨as,hx⟩:=hx.reads I rx;obtain⟨bs,hy⟩:=hy.reads I ry;exact SeqAt.compareEq_reads hx hy lx.1 ly.1 (by have:=lx.2;omega) ⟨.bl _,H,I,rfl,q⟩
 ·cases rx;cases ry;obtain⟨i1,r1,p1,_⟩:=I.list ha;obtain⟨i2,r2,p2,_⟩:=I.list hb;have l1:=r1.length;have l2:=r2.length;exact SeqAt.RcAt.lists_lengths p1.isList p2.isList (by simp;omega) (by omega) X.prog X.w X.xe _ ⟨.bl false,H,I,rfl,q⟩
theorem sF(hu:X.A.units+64<cLine):OpR X (compareOp .NotEq) (ME X.K true):=by
 rintro pins s σ H x y v u Q I rx ry (⟨dx,dy,hx,hy,lx,ly,q⟩|⟨a,b,xs,ys,rfl,rfl,ha,hb,ne,q⟩)
 ·obtain⟨as,hx⟩:=hx.reads I rx;obtain⟨bs,hy⟩:=hy.reads I ry;exact SeqAt.compareNe_reads hx hy lx.1 ly.1 (by have:=lx.2;omega) ⟨.bl _,H,I,rfl,q⟩
 ·cases rx;cases ry;obtain⟨i1,r1,p1,_⟩:=I.list ha;obtain⟨i2,r2,p2,_⟩:=I.list hb;have l1:=r1.length;have l2:=r2.length;exact SeqAt.RcNeAt.lists_lengths p1.isList p2.isList (by simp;omega) (by omega) X.prog X.w X.xe _ ⟨.bl true,H,I,rfl,q⟩
def Bn(x y:U)(S:Sto)(b:Bool):Prop:=(∃dx dy,Dt S x dx/\Dt S y dy/\Bf dx/\Bf dy/\b=dx.eqv dy)\/∃l l' us vs,x=.ref l/\y=.ref l'/\S[l]?=some (.lst us)/\S[l']?=some (.lst vs)/\us.length≠vs.length/\b=false
theorem DtL.length{S:Sto}:∀{us:List U} {ds:List PyData},DtL S us ds->us.length=ds.length
 |_,_,.nil=>rfl
 |_,_,.cons _ t=>by rw[QY,QY,DtL.length t]
theorem Bn.mix{l l':Nat}{us vs:List U}{S:Sto}{dx dy:PyData}(h1:Dt S (.ref l) dx)(h2:Dt S (.ref l') dy)(k1:S[l]?=some (.lst us))(k2:S[l']?=some (.lst vs))(ne:us.length≠vs.length):dx.eqv dy=false:=by
 cases h1 with
 |lst a1 t1=>
  cases h2 with
  |lst a2 t2=>
   rw[k1]at a1;cases a1;rw[k2]at a2;cases a2;show PyData.eqvAll _ _=false;exact SeqAt.eqvAll_other_length (by rw[<-t1.length,<-t2.length];exact ne)
theorem Bn.uniq{x y:U}{S:Sto}{b c:Bool}(h:Bn x y S b)(k:Bn x y S c):b=c:=by
 rcases h with⟨dx,dy,h1,h2,_,_,rfl⟩|⟨l,l',us,vs,rfl,rfl,h1,h2,ne,rfl⟩
 ·rcases k with⟨ex,ey,k1,k2,_,_,rfl⟩|⟨l,l',us,vs,rfl,rfl,k1,k2,ne,rfl⟩
  ·rw[h1.uniq k1,h2.uniq k2]
  ·exact Bn.mix h1 h2 k1 k2 ne
 ·rcases k with⟨ex,ey,k1,k2,_,_,rfl⟩|⟨_,_,_,_,_,_,_,_,_,rfl⟩
  ·exact(Bn.mix k1 k2 h1 h2 ne).symm
  ·rfl
open Classical in
def oR(neg:Bool):U->U->Sto->Option (U×Sto):=fun x y S=>if h:∃b,Bn x y S b then some (.bl (if neg then !h.choose else h.choose),S)else none
theorem rm{x y:U}{S:Sto}{b:Bool}(neg:Bool)(h:Bn x y S b):oR neg x y S=some (.bl (if neg then !b else b),S):=by
 unfold oR;rw[dif_pos ⟨b,h⟩];have e:(⟨b,h⟩:∃b,Bn x y S b).choose=b:=(Exists.choose_spec (⟨b,h⟩:∃b,Bn x y S b)).uniq h;rw[e]
theorem uF{neg:Bool}:OpP K (ME K neg) (oR neg):=by
 intro m S H x y v w u S' Q sr ix iy hf post;unfold oR at hf;split at hf<;>try cases hf
 rename_i h;have hb:=h.choose_spec;generalize h.choose=b at hb post;rcases hb with⟨dx,dy,h1,h2,l1,l2,rfl⟩|⟨l,l',us,vs,rfl,rfl,h1,h2,ne,rfl⟩
 ·exact .inl ⟨dx,dy,h1.rd sr ix,h2.rd sr iy,l1,l2,post m _ H .refl sr .bl_⟩
 ·obtain⟨a,ha,rfl⟩:=ix.of_ref;obtain⟨a',ha',xs,hx,la⟩:=sr.get h1;rw[ha]at ha';cases ha';obtain⟨c,hc,rfl⟩:=iy.of_ref;obtain⟨c',hc',ys,hy,lc⟩:=sr.get h2;rw[hc]at hc';cases hc';refine .inr ⟨a,c,xs,ys,rfl,rfl,SqL.of hx,SqL.of hy,by rw[la.length,lc.length];exact ne,?_⟩;have e:(if neg=true then !false else false)=neg:=by cases neg<;>rfl
  have:=post m _ H .refl sr (Is.bl_ (b:=if neg=true then !false else false));rw[e]at this;exact this
def Hq(us:List U)(lo hi:Option Int):List U:=(us.drop (HT.sIx us.length 0 lo)).take (HT.sIx us.length us.length hi-HT.sIx us.length 0 lo)
theorem Ez{m:List Addr}{xs:List V}{us:List U}{lo hi:Option Int}(i:IsL K m H xs us):IsL K m H (AL xs lo hi) (Hq us lo hi):=by
 unfold AL Hq;rw[i.length];exact(i.drop _).take _
def fSl(x:U)(lo hi:Option Int)(S:Sto):Option (U×Sto):=match x with
 |.tup us=>if HT.sIx us.length 0 lo=0/\HT.sIx us.length us.length hi=us.length then none else some (.tup (Hq us lo hi),S)
 |.ref l=>match S[l]? with
  |some (.lst us)=>some (.ref S.length,S++[.lst (Hq us lo hi)])
  |_=>none
 |_=>none
def xR:Option CE->Rho->Sto->Option (Option Int×Sto)
 |none,_,S=>some (none,S)
 |some c,ρ,S=>(c ρ S).bind fun p=>match p.1 with
  |.int i=>some (some i,p.2)
  |_=>none
def cSl(ca:CE)(cl ch:Option CE):CE:=fun ρ S=>(ca ρ S).bind fun p=>(xR cl ρ p.2).bind fun q=>(xR ch ρ q.2).bind fun r=>fSl p.1 q.1 r.1 r.2
def NB(K:Q1)(m:List Addr)(H:Hp)(Q:Option Int->Hp->Prop)(o:Option Int)(S':Sto):Prop:=∀m' H',Ext K m H m' H'->Sr K m' S' H'->Q o H'
def tO(K:Q1)(c:Option CE):TO:=fun σ H Q=>∃m ρ S o S',Sr K m S H/\Lr K m H ρ σ/\xR c ρ S=some (o,S')/\NB K m H Q o S'
abbrev QO(X:Cx)(e:Option Expr)(c:Option CE):Prop:=WO X e (tO X.K c)
theorem FG:QO X none none:=⟨fun pins s σ H Q I hz=>mF hz fun m ρ S o S' sr lr hc post=>vA.h pins s σ H Q I (by cases hc;exact post m H .refl sr)⟩
theorem FF{e:Expr}{ca:CE}(h:QE X e ca):QO X (some e) (some ca):=⟨fun pins s σ H Q I hz=>mF hz fun m ρ S o S' sr lr hc post=>(vz h).h pins s σ H Q I (by
 obtain⟨⟨x,S1⟩,h1,h2⟩:=Q0.mp hc;refine⟨m,ρ,S,x,S1,sr,lr,h1,fun m1 v1 H1 e1 sr1 i1=>?_⟩;cases x<;>simp at h2;obtain⟨rfl,rfl⟩:=h2;exact⟨_,i1.of_int,post m1 H1 e1 sr1⟩)⟩
theorem O0{e:Expr}{lo hi:Option Expr}{ca:CE}{cl ch:Option CE}{pos p2:Pos}(ha:QE X e ca)(hl:QO X lo cl)(hh:QO X hi ch):QE X (.Subscript e (.Slice lo hi none p2) pos) (cSl ca cl ch):=(rR (yR.or Jj) ha hl hh).imp fun σ H Q hz=>mF hz fun m ρ S u S' sr lr hc post=>by
 obtain⟨⟨x,S1⟩,h1,ha⟩:=Q0.mp hc;obtain⟨⟨l,S2⟩,h2,hb⟩:=Q0.mp ha;obtain⟨⟨k,S3⟩,h3,h⟩:=Q0.mp hb;clear ha hb hc;refine⟨m,ρ,S,x,S1,sr,lr,h1,fun m1 v1 H1 e1 sr1 i1=>⟨m1,ρ,S1,l,S2,sr1,lr.mono e1,h2,fun m2 H2 e2 sr2=>⟨m2,ρ,S2,k,S3,sr2,lr.mono (e1.trans e2),h3,fun m3 H3 e3 sr3=>?_⟩⟩⟩;have i3:=i1.mono (e2.trans e3);have e03:=(e1.trans e2).trans e3;cases x with
 |tup us=>
  simp only[fSl]at h;split at h<;>try cases h
  rename_i hw;obtain⟨a,xs,rfl,sa,la⟩:=i3.of_tup;exact .inr ⟨a,xs,rfl,sa,by rw[la.length];exact hw,fun p hp=>qO sr3 (Ez la) (post.mono e03) hp⟩
 |ref r=>
  simp only[fSl]at h;split at h<;>try cases h
  rename_i us hS;obtain⟨a,ha,rfl⟩:=i3.of_ref;obtain⟨a',ha',xs,hx,la⟩:=sr3.get hS;rw[ha]at ha';cases ha';exact .inl ⟨a,xs,rfl,SqL.of hx,fun p hp=>dX sr3 (Ez la) (post.mono e03) hp⟩
 |_=>simp[fSl]at h
end
instance {us:List U}:Decidable (us≠[]):=match us with
 |[]=>.isFalse fun h=>h rfl
 |_::_=>.isTrue fun h=>by cases h
end OP
namespace OG
open PySem PySem.Spec PyProof.Rows L2
theorem Eh{C a:Addr}{m:Str->Option Value}{h h':Heap}(n:h.Ns C m)(s:ZT a h h')(ne:C≠a):h'.Ns C m:=by
 obtain⟨o,es,ep,e,r⟩:=n;exact⟨o,es,ep,(s.2 C ne).trans e,r⟩
theorem w8{X:Cx}{Nc capN tn:List Str}{scope:Scope}{cl:List (Str×Addr)}{n:Nat}{caps:List Nat}{tg iter elt:Expr}{pos:Pos}{wi:TI}{g:TG}{te:TE}
  (hc:X.calm=true) (hi:WI X tg iter wi) (hg:∀s3 H3 fp,WG (cxC X Nc scope cl s3 H3 fp) tg g) (he:∀s3 H3 fp,WE (cxC X Nc scope cl s3 H3 fp) elt te)
  (hclos:closureFor scope X.env=pure cl) (hkind:scope.kind=.function) (hnl:∀x∈scope.names,x.2=.local->scope.names.lookup x.1=some .local) (hcell:∀x∈scope.names,x.2≠.cell)
  (hcl:ux X.env cl) (hhas:((relabel scope X.env).names.all fun p=>!(p.2 == .cell||p.2 == .free)||(cl.lookup p.1).isSome)=true)
  (hcap:Paired (Cap X scope cl) caps capN) (hN:Nc=tn++capN) (hn:tn.length=n)
  {i₀:Nat} {x₀:Str} {pos₀ pos':Pos} (hN0:X.N.Nodup) (hi0:X.N[i₀]?=some x₀) (hx0:X.env.scope.names.lookup x₀=some .local)
  (hsw:swapsWith (.ListComp elt [⟨tg,iter,[],0⟩] scope pos) (some (.Name x₀ pos')) pos₀.line X.env=pure true)
  (hs:∀x,foldedSetIterable iter X.env x=pure x:=by intro _;rfl) :
  WS X (.Assign [.Name x₀ pos'] (.ListComp elt [⟨tg,iter,[],0⟩] scope pos) pos₀) (fun D σ H=>BL wi g te n caps σ H fun v H'=>D.nx (σ.set i₀ (some v)) H'):=by
 constructor;intro pins s σ H Dn I h;rw[exec_Assign_arm];refine Q2 (wpAny_standAt ?_);have hsw':swapsWithSole [.Name x₀ pos'] (.ListComp elt [⟨tg,iter,[],0⟩] scope pos) pos₀.line X.env=pure true:=hsw;rw[hsw'];refine Q2 (QQ ?_);rw[if_pos rfl,arm_evalThenUse_ListComp];refine Q2 (Q2 (wO (Qf:=fun _ s'=>wpAny (model X.prog X.w) X.A (pure ()) (fun _ s'=>wpAny (model X.prog X.w) X.A (pure Flow.next) (SP X pins Dn) X.xe s') X.xe s') hc hi hg he hclos hkind hnl hcell hcl hhas hcap hN hn I h (fun D C s6 H5 m I7 hm fr nl sz cn pn qn=>?_) hs));show wpAny _ _ (assign (.Name x₀ pos') X.env (.ref D)) _ _ s6;rw[arm_assign_Name];refine Q2 (wpAny_standAt (wpAny_bindName (nO (v:=.ref D) I7 hN0 hi0 (.inl hx0) rfl (fun s7 I7' hsb=>?_) (.inr hx0))));obtain⟨a7,hsb,ha7⟩:=hsb;have cNe:C≠a7:=by
  rcases ha7 with z|z
  ·rw[z];exact nl
  ·exact Ne.symm (cn _ _ z)
 refine⟨m,Eh hm hsb cNe,fun h' hs'=>QQ (QQ ⟨_,H5,?_,qn⟩)⟩;exact I7'.turned (t':=s7.toks) (it:=C) (fun b o hb e=>hs'.extBut b o hb e) fr nl (.inr sz) cn pn
theorem rP{X:Cx}{Nc capN tn:List Str}{scope:Scope}{cl:List (Str×Addr)}{n:Nat}{caps:List Nat}{tg iter elt:Expr}{pos:Pos}{wi:TI}{g:TG}{te:TE}{tt:TT}{c:Expr}
  (hc:X.calm=true) (hi:WI X tg iter wi) (hg:∀s3 H3 fp,WG (cxC X Nc scope cl s3 H3 fp) tg g) (he:∀s3 H3 fp,WE (cxC X Nc scope cl s3 H3 fp) elt te)
  (ht:∀s3 H3 fp,WT (cxC X Nc scope cl s3 H3 fp) c tt)
  (hclos:closureFor scope X.env=pure cl) (hkind:scope.kind=.function) (hnl:∀x∈scope.names,x.2=.local->scope.names.lookup x.1=some .local) (hcell:∀x∈scope.names,x.2≠.cell)
  (hcl:ux X.env cl) (hhas:((relabel scope X.env).names.all fun p=>!(p.2 == .cell||p.2 == .free)||(cl.lookup p.1).isSome)=true)
  (hcap:Paired (Cap X scope cl) caps capN) (hN:Nc=tn++capN) (hn:tn.length=n)
  {i₀:Nat} {x₀:Str} {pos₀ pos':Pos} (hN0:X.N.Nodup) (hi0:X.N[i₀]?=some x₀) (hx0:X.env.scope.names.lookup x₀=some .local)
  (hsw:swapsWith (.ListComp elt [⟨tg,iter,[c],0⟩] scope pos) (some (.Name x₀ pos')) pos₀.line X.env=pure true)
  (hs:∀x,foldedSetIterable iter X.env x=pure x:=by intro _;rfl) :
  WS X (.Assign [.Name x₀ pos'] (.ListComp elt [⟨tg,iter,[c],0⟩] scope pos) pos₀) (fun D σ H=>qL wi g tt te n caps σ H fun v H'=>D.nx (σ.set i₀ (some v)) H'):=by
 constructor;intro pins s σ H Dn I h;rw[exec_Assign_arm];refine Q2 (wpAny_standAt ?_);have hsw':swapsWithSole [.Name x₀ pos'] (.ListComp elt [⟨tg,iter,[c],0⟩] scope pos) pos₀.line X.env=pure true:=hsw;rw[hsw'];refine Q2 (QQ ?_);rw[if_pos rfl,arm_evalThenUse_ListComp];refine Q2 (Q2 (qt (Qf:=fun _ s'=>wpAny (model X.prog X.w) X.A (pure ()) (fun _ s'=>wpAny (model X.prog X.w) X.A (pure Flow.next) (SP X pins Dn) X.xe s') X.xe s') hc hi hg he ht hclos hkind hnl hcell hcl hhas hcap hN hn I h (fun D C s6 H5 m I7 hm fr nl sz cn pn qn=>?_) hs));show wpAny _ _ (assign (.Name x₀ pos') X.env (.ref D)) _ _ s6;rw[arm_assign_Name];refine Q2 (wpAny_standAt (wpAny_bindName (nO (v:=.ref D) I7 hN0 hi0 (.inl hx0) rfl (fun s7 I7' hsb=>?_) (.inr hx0))));obtain⟨a7,hsb,ha7⟩:=hsb;have cNe:C≠a7:=by
  rcases ha7 with z|z
  ·rw[z];exact nl
  ·exact Ne.symm (cn _ _ z)
 refine⟨m,Eh hm hsb cNe,fun h' hs'=>QQ (QQ ⟨_,H5,?_,qn⟩)⟩;exact I7'.turned (t':=s7.toks) (it:=C) (fun b o hb e=>hs'.extBut b o hb e) fr nl (.inr sz) cn pn
end OG
namespace OP
open PySem PySem.Spec PyProof.Rows L2 OG
section
variable{X:Cx}{K:Q1}
theorem xi{i₀:Nat}{x₀:Str}{pos₀ pos':Pos}{Nc capN tn:List Str}{scope:Scope}{cl:List (Str×Addr)}{n:Nat}{caps:List Nat}{tg iter elt:Expr}{pos:Pos}{ci:CI}{g:CG}{ce:CE}
  (hc:X.calm=true) (hi:QI X tg iter ci) (hg:∀s3 H3 fp,WG (cxC X Nc scope cl s3 H3 fp) tg (tG X.K g)) (he:∀s3 H3 fp,WE (cxC X Nc scope cl s3 H3 fp) elt (tE X.K ce))
  (hclos:closureFor scope X.env=pure cl) (hkind:scope.kind=.function) (hnl:∀x∈scope.names,x.2=.local->scope.names.lookup x.1=some .local) (hcell:∀x∈scope.names,x.2≠.cell)
  (hcl:ux X.env cl) (hhas:((relabel scope X.env).names.all fun p=>!(p.2 == .cell||p.2 == .free)||(cl.lookup p.1).isSome)=true)
  (hcap:Paired (Cap X scope cl) caps capN) (hN:Nc=tn++capN) (hn:tn.length=n)
  (hN0:X.N.Nodup) (hi0:X.N[i₀]?=some x₀) (hx0:X.env.scope.names.lookup x₀=some .local)
  (hsw:swapsWith (.ListComp elt [⟨tg,iter,[],0⟩] scope pos) (some (.Name x₀ pos')) pos₀.line X.env=pure true)
  (hs:∀x,foldedSetIterable iter X.env x=pure x:=by intro _;rfl) :
  QS X (.Assign [.Name x₀ pos'] (.ListComp elt [⟨tg,iter,[],0⟩] scope pos) pos₀) (dI i₀ (fg ci g ce n caps)):=(w8 hc hi hg he hclos hkind hnl hcell hcl hhas hcap hN hn hN0 hi0 hx0 hsw hs).imp fun D σ H hz=>uv hz fun m ρ S o ρ' S' sr lr hc post=>by
 obtain⟨⟨u,S1⟩,h1,h2⟩:=Q0.mp hc;cases h2;exact wN _ _ _ ⟨m,ρ,S,u,_,sr,lr,h1,fun m1 v1 H1 e1 sr1 i1=>post m1 _ H1 e1 sr1 ((lr.mono e1).set i₀ i1)⟩
theorem mV{i₀:Nat}{x₀:Str}{pos₀ pos':Pos}{Nc capN tn:List Str}{scope:Scope}{cl:List (Str×Addr)}{n:Nat}{caps:List Nat}{tg iter elt:Expr}{pos:Pos}{ci:CI}{g:CG}{ct:CT}{ce:CE}{c:Expr}
  (hc:X.calm=true) (hi:QI X tg iter ci) (hg:∀s3 H3 fp,WG (cxC X Nc scope cl s3 H3 fp) tg (tG X.K g)) (ht:∀s3 H3 fp,WT (cxC X Nc scope cl s3 H3 fp) c (tT X.K ct)) (he:∀s3 H3 fp,WE (cxC X Nc scope cl s3 H3 fp) elt (tE X.K ce))
  (hclos:closureFor scope X.env=pure cl) (hkind:scope.kind=.function) (hnl:∀x∈scope.names,x.2=.local->scope.names.lookup x.1=some .local) (hcell:∀x∈scope.names,x.2≠.cell)
  (hcl:ux X.env cl) (hhas:((relabel scope X.env).names.all fun p=>!(p.2 == .cell||p.2 == .free)||(cl.lookup p.1).isSome)=true)
  (hcap:Paired (Cap X scope cl) caps capN) (hN:Nc=tn++capN) (hn:tn.length=n)
  (hN0:X.N.Nodup) (hi0:X.N[i₀]?=some x₀) (hx0:X.env.scope.names.lookup x₀=some .local)
  (hsw:swapsWith (.ListComp elt [⟨tg,iter,[c],0⟩] scope pos) (some (.Name x₀ pos')) pos₀.line X.env=pure true)
  (hs:∀x,foldedSetIterable iter X.env x=pure x:=by intro _;rfl) :
  QS X (.Assign [.Name x₀ pos'] (.ListComp elt [⟨tg,iter,[c],0⟩] scope pos) pos₀) (dI i₀ (bz ci g ct ce n caps)):=(rP hc hi hg he ht hclos hkind hnl hcell hcl hhas hcap hN hn hN0 hi0 hx0 hsw hs).imp fun D σ H hz=>uv hz fun m ρ S o ρ' S' sr lr hc post=>by
 obtain⟨⟨u,S1⟩,h1,h2⟩:=Q0.mp hc;cases h2;exact qr _ _ _ ⟨m,ρ,S,u,_,sr,lr,h1,fun m1 v1 H1 e1 sr1 i1=>post m1 _ H1 e1 sr1 ((lr.mono e1).set i₀ i1)⟩
end
end OP
namespace OP
open PySem PySem.Spec PyProof PyProof.Rows L2 OG
section
variable{X:Cx}{K:Q1}
def vd(ca:CE):CE:=fun ρ S=>(ca ρ S).bind fun p=>match p.1 with
 |.int i=>some (.int (-i),p.2)
 |_=>none
theorem IQ:UnR X (unaryOp .USub) (fun x H Q=>∃i,x=.int i/\Q (.int (-i)) H):=by
 rintro pins s σ H x v Q I rx ⟨i,rfl,q⟩;obtain⟨t,rfl⟩:=rx;exact PyProof.Rows.neg_int ⟨.int (-i),H,I.tok _,⟨_,rfl⟩,q⟩
theorem xj{a:Expr}{ca:CE}{pos:Pos}(ha:QE X a ca):QE X (.UnaryOp .USub a pos) (vd ca):=(IH IQ ha).imp fun σ H Q hz=>mF hz fun m ρ S u S' sr lr hc post=>by
 obtain⟨⟨x,S1⟩,h1,h2⟩:=Q0.mp hc;refine⟨m,ρ,S,x,S1,sr,lr,h1,fun m1 v1 H1 e1 sr1 i1=>?_⟩;cases x<;>simp at h2;obtain⟨rfl,rfl⟩:=h2;exact⟨_,i1.of_int,post m1 _ H1 e1 sr1 .int_⟩
def mE:U->List U->Sto->Option (U×Sto)
 |.ref l,[.ref b],S=>match S[l]?,S[b]? with
  |some (.lst us),some (.lst vs)=>if us.length+vs.length<=LIM then some (.non,S.set l (.lst (us++vs)))else none
  |_,_=>none
 |_,_,_=>none
theorem Cs:MtP K y1 mE:=by
 intro m S H x v us vs u S' Q sr ix i hf post;match x,us,hf with
 |.ref l,[.ref b],hf=>
  simp only[mE]at hf;split at hf<;>try cases hf
  rename_i xs0 ys0 hS hB;split at hf<;>try cases hf
  rename_i hl;obtain⟨a,ha,rfl⟩:=ix.of_ref;obtain⟨a',ha',xs,hx,la⟩:=sr.get hS;rw[ha]at ha';cases ha';obtain⟨y,rfl,iy⟩:=i.one;obtain⟨c,hc,rfl⟩:=iy.of_ref;obtain⟨c',hc',ys,hy,lb⟩:=sr.get hB;rw[hc]at hc';cases hc';have eu:Ext K m H m (upd H a (.lst (xs++ys))):=.of (sr.keep ha _);exact⟨a,c,xs,ys,rfl,rfl,hx,hy,lim (by rw[la.length,lb.length];exact hl),post m _ _ eu (sr.put ha ⟨_,aN,(la.append lb).mono eu⟩) .non_⟩
def xG:U->List U->Sto->Option (U×Sto)
 |.ref l,[],S=>match S[l]? with
  |some (.lst us)=>(us[us.length-1]?).bind fun u=>some (u,S.set l (.lst us.dropLast))
  |_=>none
 |_,_,_=>none
theorem IsL.dropLast{m:List Addr}{H:Hp}{xs:List V}{us:List U}(h:IsL K m H xs us):IsL K m H xs.dropLast us.dropLast:=by
 rw[List.dropLast_eq_take,List.dropLast_eq_take,h.length];exact h.take _
theorem MS:MtP K NZ xG:=by
 intro m S H x v us vs u S' Q sr ix i hf post;match x,us,hf with
 |.ref l,[],hf=>
  simp only[xG]at hf;split at hf<;>try cases hf
  rename_i ws hS;obtain⟨w,hw,h⟩:=Q0.mp hf;cases h;obtain⟨a,ha,rfl⟩:=ix.of_ref;obtain⟨a',ha',xs,hx,la⟩:=sr.get hS;rw[ha]at ha';cases ha';obtain⟨y,hy,iy⟩:=la.getD hw;have eu:Ext K m H m (upd H a (.lst xs.dropLast)):=.of (sr.keep ha _);exact⟨a,xs,y,rfl,i.of_nil,hx,by rw[la.length];exact hy,post m _ _ eu (sr.put ha ⟨_,aN,la.dropLast.mono eu⟩) (iy.mono eu)⟩
def m7:U->List U->Sto->Option (U×Sto)
 |.ref l,[.int i],S=>match S[l]? with
  |some (.lst us)=>if 0<=i/\i<us.length/\us.length<=LIM then(us[i.toNat]?).bind fun u=>some (u,S.set l (.lst (us.eraseIdx i.toNat)))else none
  |_=>none
 |_,_,_=>none
theorem Ge:MtP K D6 m7:=by
 intro m S H x v us vs u S' Q sr ix i hf post;match x,us,hf with
 |.ref l,[.int k],hf=>
  simp only[m7]at hf;split at hf<;>try cases hf
  rename_i ws hS;split at hf<;>try cases hf
  rename_i hk;obtain⟨w,hw,h⟩:=Q0.mp hf;cases h;obtain⟨a,ha,rfl⟩:=ix.of_ref;obtain⟨a',ha',xs,hx,la⟩:=sr.get hS;rw[ha]at ha';cases ha';obtain⟨y,hy,iy⟩:=la.getD hw;obtain⟨z,rfl,iz⟩:=i.one;have eu:Ext K m H m (upd H a (.lst (xs.eraseIdx k.toNat))):=.of (sr.keep ha _);have hL:ws.length<=100000:=hk.2.2;exact⟨a,xs,k,k.toNat,y,rfl,by rw[iz.of_int],hx,by omega,by omega,seqIndex_of hk.1 (by rw[la.length];exact hk.2.1),hy,post m _ _ eu (sr.put ha ⟨_,aN,(la.erase _).mono eu⟩) (iy.mono eu)⟩
variable{e:Expr}{es:List Expr}{co:CE}{cr:CA}{o:Expr}{apos cpos:Pos}
theorem BY (ho : QE X o co) (ha : QA X (e :: es) cr) (hbase : attributeBase o "extend" X.env (eval o X.env) = eval o X.env := by rfl) (hfew : ((backTo cpos (starEach (e :: es) X.env)).all (fun x => !x.1) && (backToKw cpos (keywordEach [] X.env)).all (fun x => x.1.isSome)
   && decide ((e::es).length+([]:List Keyword).length+(if ([]:List Keyword).isEmpty then 0 else 1)<30))=true:=by rfl) (hline:(apos.endLine == cpos.line)=true:=by rfl) (hs:starEach (e::es) X.env=(false,eval e X.env)::starEach es X.env:=by rfl) (hplain:(backTo cpos (starEach es X.env)).any (·.1)=false:=by rfl) :
  QE X (.Call (.Attribute o "extend" apos) (e::es) [] cpos) (cBM mE co cr):=(vB PySem.F.plainAttrs_list PySem.F.slot_list_extend PySem.F.type_list_extend zH ho ha.h hbase hfew hline hs hplain).imp (uh Cs)
theorem y6 (ho : QE X o co) (ha : QA X (e :: es) cr) (hbase : attributeBase o "pop" X.env (eval o X.env) = eval o X.env := by rfl) (hfew : ((backTo cpos (starEach (e :: es) X.env)).all (fun x => !x.1) && (backToKw cpos (keywordEach [] X.env)).all (fun x => x.1.isSome)
   && decide ((e::es).length+([]:List Keyword).length+(if ([]:List Keyword).isEmpty then 0 else 1)<30))=true:=by rfl) (hline:(apos.endLine == cpos.line)=true:=by rfl) (hs:starEach (e::es) X.env=(false,eval e X.env)::starEach es X.env:=by rfl) (hplain:(backTo cpos (starEach es X.env)).any (·.1)=false:=by rfl) :
  QE X (.Call (.Attribute o "pop" apos) (e::es) [] cpos) (cBM m7 co cr):=(vB PySem.F.plainAttrs_list PySem.F.slot_list_pop PySem.F.type_list_pop CC ho ha.h hbase hfew hline hs hplain).imp (uh Ge)
theorem FH(ho:QE X o co)(hbase:attributeBase o "pop" X.env (eval o X.env)=eval o X.env:=by rfl)(hline:(apos.endLine == cpos.line)=true:=by rfl) :
  QE X (.Call (.Attribute o "pop" apos) [] [] cpos) (cBM xG co aG):=(Fh PySem.F.plainAttrs_list PySem.F.slot_list_pop PySem.F.type_list_pop J7 ho hbase hline).imp fun σ H Q h=>by
 obtain⟨m,ρ,S,u,S',sr,lr,hc,k⟩:=uh (cr:=aG) MS σ H Q h;refine⟨m,ρ,S,u,S',sr,lr,hc,fun m1 v1 H1 e1 sr1 i1=>?_⟩;obtain⟨ty,m2,ρ2,S2,us,S3,sr2,lr2,h4,h5⟩:=k m1 v1 H1 e1 sr1 i1;cases h4;exact⟨ty,h5 m2 [] H1 .refl sr2 .nil_⟩
def mG(cr:CA):CE:=fun ρ S=>(cr ρ S).bind fun p=>match p.1 with
 |[.int j]=>if 0<=j/\j<=1000 then some (.ref p.2.length,p.2++[.lst (eg 0 j.toNat)])else none
 |_=>none
theorem ql:∀(n:Nat) (a:Int) (vs:List Value),vs.length=n->(∀(j:Nat) (v:Value),vs[j]?=some v->∃t,v=Value.int (a+(j:Int)) t)->bU ((Qi n).map fun i:Nat=>V.int (a+(i:Nat))) vs
 |0,a,vs,hl,h=>by
  rw[Z8.mp hl];exact .nil
 |n+1,a,[],hl,h=>by simp at hl
 |n+1,a,v::vs,hl,h=>by
  rw[List.range_succ_eq_map,QX,Qg];refine .cons ?_ ?_
  ·obtain⟨t,e⟩:=h 0 v rfl;exact⟨t,by simpa using e⟩
  ·have:=ql n (a+1) vs (by simpa using hl) fun j x hx=>by
    obtain⟨t,e⟩:=h (j+1) x (by simpa using hx);exact⟨t,by rw[e];congr 1;omega⟩
   have e:(Qi n).map (fun i:Nat=>V.int (a+1+(i:Nat)))=(Qi n).map ((fun i:Nat=>V.int (a+(i:Nat))) ∘ Nat.succ):=ZV fun i _=>by
    simp only[Function.comp];congr 1;omega
   rw[<-e];exact this
theorem rT{a:Expr}{ta:TA}{p1 p2 pos1 pos2:Pos}(hc:X.calm=true)(hgl:Gl X "list")(hml:X.mg "list"=none)(hg:Gl X "range")(hm:X.mg "range"=none)(ha:WA X [a] ta)(hs:starEach [a] X.env=[(false,eval a X.env)])
  (hs1:starEach [Expr.Call (.Name "range" p2) [a] [] pos2] X.env=[(false,eval (.Call (.Name "range" p2) [a] [] pos2) X.env)]) :
  WE X (.Call (.Name "list" p1) [.Call (.Name "range" p2) [a] [] pos2] [] pos1) (fun σ H Q=>ta σ H fun vs H1=>∃j:Int,vs=[.int j]/\0<=j/\j<=1000/\∀p,H1 p=none->Q (.ref p) (upd H1 p (.lst ((Qi j.toNat).map fun i:Nat=>V.int (0+(i:Nat)))))):=by
 constructor;intro pins s σ H Q I h;refine wpAny_Call_Name_kw (oE I hgl hml OG.jA ?_ (by decide) (by decide));refine PyProof.Rows.callWith_type1 ?_ hs1 rfl;rw[hs1];show wpAny _ _ (spliced [(false,eval (.Call (.Name "range" p2) [a] [] pos2) X.env)]) _ _ s;refine Calls.spliced_cons ?_;refine Call_ (oE I hg hm boot_range (PyProof.Rows.callWith_type1 (thn (ha.h pos2 pins s σ H _ I h) fun us s1 ⟨vs,H1,I1,r1,q1⟩=>?_) hs rfl));obtain⟨j,e,j0,j1,q⟩:=q1;subst e;cases r1 with
 |cons r rr=>
  cases rr;obtain⟨t,rfl⟩:=r;refine call_range_1 ?_;refine Calls.spliced_nil ?_;have hsz:Builtin.Range.rangeSize 0 j 1=((j.toNat:Nat):Int):=by
   unfold Builtin.Range.rangeSize;simp;omega
  refine call_list_range (n:=j.toNat) (I1.ok.hd hc) (QF _ rfl) ?_ hsz (by omega) fun h' tk acc c' hk hg' hi=>?_
  ·unfold Builtin.Range.small;rw[hsz];unfold Builtin.Range.rangeFitsLong;simp;omega
  ·have hv:bU ((Qi j.toNat).map fun i:Nat=>V.int (0+(i:Nat))) acc.toList:=ql j.toNat 0 acc.toList (by simpa using hi.1) fun k v hv=>by
    obtain⟨t,e⟩:=hi.2 k v (by simpa using hv);exact⟨t,by rw[e];congr 1;omega⟩
   refine⟨.ref _,_,I1.laid (t':=tk) (o:=.lst ((Qi j.toNat).map fun i:Nat=>V.int (0+(i:Nat)))) (fun b ob q=>hk b ob (Q7 _ q)) (by rw[Heap.size_push];omega) ?_,rfl,q _ (I1.hok.fresh (by rw[Heap.size_push];omega))⟩;exact⟨by rw[Q5,List.length_range];exact Qj (by omega) (show 1000<=sizeLine by decide),_,_,hv,by simpa using hg'⟩
theorem z8{m:List Addr}{H:Hp}(n:Nat):IsL K m H ((Qi n).map fun i:Nat=>V.int (0+(i:Nat))) (eg 0 n):=by
 unfold eg;generalize Qi n=l;induction l with
 |nil=>exact .nil_
 |cons a r ih=>exact .cons_ .int_ ih
theorem uD{a:Expr}{cr:CA}{p1 p2 pos1 pos2:Pos}(hc:X.calm=true)(hgl:Gl X "list")(hml:X.mg "list"=none)(hg:Gl X "range")(hm:X.mg "range"=none)(ha:QA X [a] cr)(hs:starEach [a] X.env=[(false,eval a X.env)])
  (hs1:starEach [Expr.Call (.Name "range" p2) [a] [] pos2] X.env=[(false,eval (.Call (.Name "range" p2) [a] [] pos2) X.env)]) :
  QE X (.Call (.Name "list" p1) [.Call (.Name "range" p2) [a] [] pos2] [] pos1) (mG cr):=(rT hc hgl hml hg hm ha.h hs hs1).imp fun σ H Q hz=>mF hz fun m ρ S u S' sr lr hc post=>by
 obtain⟨⟨ws,S1⟩,h1,h2⟩:=Q0.mp hc;simp only at h2;split at h2<;>try cases h2
 rename_i j;split at h2<;>try cases h2
 rename_i hj;refine⟨m,ρ,S,_,S1,sr,lr,h1,fun m1 v1 H1 e1 sr1 i1=>?_⟩;obtain⟨x,rfl,ix⟩:=i1.one;rw[ix.of_int];exact⟨j,rfl,hj.1,hj.2,fun p hp=>dX sr1 (z8 _) (post.mono e1) hp⟩
end
section
variable{X:Cx}{K:Q1}
theorem Fm{e:Expr}{t:TE}(h:WE X e t):WE X e (fun σ H Q=>t σ H fun v H'=>∃a ob kvs,xX X a/\H' a=some (.frz ob (.dK kvs))/\Q v (upd H' a (.dK kvs))):=
 ⟨fun pins s σ H Q I k=>thn (h.h pins s σ H _ I k) fun u s1 ⟨v,H1,I1,r1,a,ob,kvs,nf,e,q⟩=>⟨v,_,C3 I1 nf e,r1,q⟩⟩
def AU(ce:CE)(f:(Sto->Prop)->Nat->List U->Rho->Sto->Option Sto)(n:Nat)(caps:List Nat):CE:=fun ρ S=>(ce ρ S).bind fun p=>match p.1 with
 |.ref l=>match p.2[l]? with
  |some (.dic kus)=>uni fun ep=>(f (fun S'=>S'[l]?=some (.fdc ep kus)) p.2.length (kus.map fun q=>kU q.1) (ma n caps ρ) (p.2.set l (.fdc ep kus)++[.lst []])).bind fun S'=>match S'[l]? with
   |some (.fdc _ kus')=>some (.ref p.2.length,S'.set l (.dic kus'))
   |_=>none
  |_=>none
 |_=>none
def nE(ce:CE)(g:CG)(ct:CT)(el:CE)(n:Nat)(caps:List Nat):CE:=AU ce (fun ok l=>cK ok g ct el l) n caps
theorem yA{ce:CE}{f:(Sto->Prop)->Nat->List U->Rho->Sto->Option Sto}{n:Nat}{caps:List Nat}{G:It->Hp->L2.St->VK->Prop}
  (core:∀{J:It} {us:List U} {ok:Sto->Prop} {Q:VK} {m1:List Addr} {H1:Hp} {S1 S':Sto} {ρ:Rho} {σ:L2.St},Sr X.K m1 S1 H1->Lr X.K m1 H1 ρ σ->Bm X.K J m1 H1 us ok->f ok S1.length us (ma n caps ρ) (S1++[.lst []])=some S'->
   (∀l,H1 l=none->∀m2 H2,Ext X.K (m1++[l]) (upd H1 l (.lst [])) m2 H2->Sr X.K m2 S' H2->Q (.ref l) H2)->G J H1 σ Q) :
  ∀σ H Q,tE X.K (AU ce f n caps) σ H Q->Ky X (tE X.K ce) σ H fun J H1=>G J H1 σ fun v H'=>∃a ob kvs,xX X a/\H' a=some (.frz ob (.dK kvs))/\Q v (upd H' a (.dK kvs)):=by
 rintro σ H Q ⟨m,ρ,S,u,S',sr,lr,hc,post⟩;obtain⟨⟨x,S1⟩,h1,h⟩:=Q0.mp hc;refine⟨m,ρ,S,x,S1,sr,lr,h1,fun m1 v1 H1 e1 sr1 i1=>?_⟩;cases x with
 |ref l=>
  simp only at h;split at h<;>try cases h
  rename_i kus hS;obtain⟨a,ha,rfl⟩:=i1.of_ref;obtain⟨a',ha',kvs,hx,ip⟩:=sr1.get hS;rw[ha]at ha';cases ha';refine⟨a,kvs,rfl,hx,fun ob es ep nf hd=>?_⟩;obtain⟨S2,h2,h3⟩:=Q0.mp (vH h ep);try simp only at h3
  split at h3<;>try cases h3
  rename_i ep' kus' hS2;have kp:Bl X.K H1 (upd H1 a (.frz ob (.dK kvs))):=sr1.keep ha _;have ee:Ext X.K m1 H1 m1 (upd H1 a (.frz ob (.dK kvs))):=.of kp;have sr2:Sr X.K m1 (S1.set l (.fdc ep kus)) (upd H1 a (.frz ob (.dK kvs))):=sr1.put ha ⟨ob,es,kvs,aN,hd,ip.mono ee⟩;rw[ip.1];have hln:(S1.set l (.fdc ep kus)).length=S1.length:=by simp
  refine core sr2 (lr.mono (e1.trans ee)) (GH ha) (by rw[hln];exact h2) fun p hp m3 H3 e3 sr3=>?_;have en:Ext X.K m1 (upd H1 a (.frz ob (.dK kvs))) (m1++[p]) (upd (upd H1 a (.frz ob (.dK kvs))) p (.lst [])):=.new (bT hp _);have e03:=en.trans e3;obtain⟨a3,ha3,ob3,es3,kvs3,hx3,hd3,ip3⟩:=sr3.get hS2;rw[e03.get ha]at ha3;cases ha3;have e4:Ext X.K m3 H3 m3 (upd H3 a (.dK kvs3)):=.of (sr3.keep (e03.get ha) _);refine⟨a,ob3,kvs3,nf,hx3,post m3 _ _ (((e1.trans ee).trans e03).trans e4) (sr3.put (e03.get ha) ⟨kvs3,aN,ip3.mono e4⟩) ?_⟩;have lg:(m1++[p])[S1.length]?=some p:=dB sr1.len;exact .ref_ (e3.get lg)
 |_=>cases h
variable{Nc capN tn:List Str}{scope:Scope}{cl:List (Str×Addr)}{n:Nat}{caps:List Nat}{tg iter elt c:Expr}{pos:Pos}{ci:CE}{g:CG}{ct:CT}{ce:CE}
theorem zf(hc:X.calm=true)(hi:QE X iter ci)(hg:∀s3 H3 fp,WG (cxC X Nc scope cl s3 H3 fp) tg (tG X.K g))(ht:∀s3 H3 fp,WT (cxC X Nc scope cl s3 H3 fp) c (tT X.K ct))(he:∀s3 H3 fp,WE (cxC X Nc scope cl s3 H3 fp) elt (tE X.K ce))
  (hclos:closureFor scope X.env=pure cl) (hkind:scope.kind=.function) (hnl:∀x∈scope.names,x.2=.local->scope.names.lookup x.1=some .local) (hcell:∀x∈scope.names,x.2≠.cell)
  (hcl:ux X.env cl) (hhas:((relabel scope X.env).names.all fun p=>!(p.2 == .cell||p.2 == .free)||(cl.lookup p.1).isSome)=true)
  (hcap:Paired (Cap X scope cl) caps capN) (hN:Nc=tn++capN) (hn:tn.length=n)
  (hs:∀x,foldedSetIterable iter X.env x=pure x:=by intro _;rfl) :
  QE X (.ListComp elt [⟨tg,iter,[c],0⟩] scope pos) (nE ci g ct ce n caps):=
 (Fm (pW hc (Fl hi) hg he ht hclos hkind hnl hcell hcl hhas hcap hN hn hs)).imp (yA (G:=fun J H1 σ Q=>∀l,H1 l=none->∃W:Nat->Nat->L2.St->Hp->Prop,(∃m,W 0 m (OG.stC n caps σ) (upd H1 l (.lst [])))/\
  ∀i m σ' H2,W i m σ' H2->(J.stop i H2/\Q (.ref l) H2)\/(J.go i H2/\∃N:L2.St->Hp->Prop,(∀σ'' H',N σ'' H'->∃m',m'<m/\W (i+1) m' σ'' H')/\
  ∀x H3,J.yld i H2 x H3->tG X.K g x σ' H3 fun σ2 H4=>tT X.K ct σ2 H4 fun b H5=>match b with
   |true=>tE X.K ce σ2 H5 fun v H6=>∃ys,H6 l=some (.lst ys)/\ys.length<sizeLine/\N σ2 (upd H6 l (.lst (ys++[v])))
   |false=>N σ2 H5)) fun sr lr ito h2 post l hl=>o5 sr lr ito hl h2 (post l hl))
def Ld:List U->Option (List Key)
 |[]=>some []
 |u::r=>(nr u).bind fun k=>(Ld r).map (k::·)
theorem yG{m:List Addr}{H:Hp}:∀{us:List U} {xs:List V} {ks:List Key},IsL K m H xs us->Ld us=some ks->xs=ks.map kV
 |[],xs,ks,i,h=>by cases h;exact i.of_nil
 |u::r,xs,ks,i,h=>by
  obtain⟨x,t,rfl,ix,it⟩:=i.of_cons;obtain⟨k,hk,h⟩:=Q0.mp h;obtain⟨ks',h',rfl⟩:=Qn.mp h;rw[jw ix hk,yG it h'];rfl
def AX:CE:=fun _ S=>some (.ref S.length,S++[.dit []])
theorem FJ{pos:Pos}:QE X (.Dict [] [] pos) AX:=yq.imp fun σ H Q hz=>mF hz fun m ρ S u S' sr lr hc post=>by
 cases hc;exact fun p hp=>post (m++[p]) _ _ (.new (bT hp _)) (sr.new hp ⟨[],aN,.nil_⟩) (.ref_ (dB sr.len))
def o6(co:CE)(cr:CA)(cv:CE):CS:=fun ρ S=>(cv ρ S).bind fun p=>(co ρ p.2).bind fun q=>(cr ρ q.2).bind fun r=>match q.1 with
 |.ref l=>match r.2[l]? with
  |some (.dit kus)=>(Ld r.1).bind fun k=>if kus.length<LIM/\r.1.length<=LIM then some (.nx,ρ,r.2.set l (.dit (eJ kus k p.1)))else none
  |_=>none
 |_=>none
theorem y4{o:Expr}{es:List Expr}{e:Expr}{co cv:CE}{cr:CA}{k2:Nat}{p2 pos pos':Pos}(hu:X.A.units+1<cLine)(ho:QE X o co)(hi:QA X es cr)(hv:QE X e cv)
  (hs:swapsWith e (some (.Subscript o (.Tuple es k2 p2) pos')) pos.line X.env=pure false:=by rfl):QS X (.Assign [.Subscript o (.Tuple es k2 p2) pos'] e pos) (o6 co cr cv):=
 (vy hu ho (ym hi.h) hv hs).imp fun D σ H hz=>uv hz fun m ρ S oo ρ' S' sr lr hc post=>by
 obtain⟨⟨v,S1⟩,h1,ha⟩:=Q0.mp hc;obtain⟨⟨ou,S2⟩,h2,hb⟩:=Q0.mp ha;obtain⟨⟨ius,S3⟩,h3,h⟩:=Q0.mp hb;clear ha hb hc;cases ou with
 |ref l=>
  simp only at h;split at h<;>try cases h
  rename_i kus hS;obtain⟨k,hk,h4⟩:=Q0.mp h;split at h4<;>try cases h4
  rename_i eK;refine⟨m,ρ,S,v,S1,sr,lr,h1,fun m1 v1 H1 e1 sr1 i1=>⟨m1,ρ,S1,_,S2,sr1,lr.mono e1,h2,fun m2 v2 H2 e2 sr2 i2=>⟨m2,ρ,S2,ius,S3,sr2,lr.mono (e1.trans e2),h3,fun m3 vs H3 e3 sr3 i3=>?_⟩⟩⟩;refine⟨lim (by rw[i3.length];exact eK.2),fun p hp=>?_⟩;obtain⟨a,ha,rfl⟩:=(i2.mono e3).of_ref;obtain⟨a',ha',kvs,hx,ip⟩:=sr3.get hS;rw[ha]at ha';cases ha';have hvs:=yG i3 hk;subst hvs;have s3:vi H3 (upd H3 p (.tup (k.map kV))):=dR hp _;have en:Ext X.K m3 H3 m3 (upd H3 p (.tup (k.map kV))):=.of (bT hp _);have srn:=sr3.same s3;have hxn:(upd H3 p (.tup (k.map kV))) a=some (.dT kvs):=s3 _ _ hx;have e13:=((e1.trans e2).trans e3).trans en;have ee:Ext X.K m3 (upd H3 p (.tup (k.map kV))) m3 (upd (upd H3 p (.tup (k.map kV))) a (.dT (pC kvs k v1))):=.of (srn.keep ha _);exact⟨a,_,rfl,EE.t hxn aN (Hl (by rw[IsP.length ip];exact eK.1)),post m3 σ _ (e13.trans ee) (srn.put ha ⟨_,aN,(IsP.put (ip.mono en) (i1.mono ((e2.trans e3).trans en))).mono ee⟩) (lr.mono (e13.trans ee))⟩
 |_=>cases h
end
end OP
namespace OP
open PySem PySem.Spec PyProof PyProof.Rows L2 OG PySem.W
section
variable{cmp:Nat->Nat->(Bool->Shared->Prop)->Shared->Prop}{s:Shared}{n:Nat}{lt:Nat->Nat->Bool}
structure DG(n:Nat)(lt:Nat->Nat->Bool):Prop where
 tr:∀{i j k},i<n->j<n->k<n->lt i j=true->lt j k=true->lt i k=true
 tot:∀{i j},i<n->j<n->i≠j->lt i j=false->lt j i=true
 asym:∀{i j},i<n->j<n->lt i j=true->lt j i=false
def Hx(cmp:Nat->Nat->(Bool->Shared->Prop)->Shared->Prop)(n:Nat)(lt:Nat->Nat->Bool)(s:Shared):Prop:=∀i j C,i<n->j<n->C (lt i j) s->cmp i j C s
structure Pm(n:Nat)(p:Array Nat):Prop where
 sz:p.size=n
 bd:∀i,i<n->p.getD i 0<n
 ne:∀i j,i<j->j<n->p.getD i 0≠p.getD j 0
def Asc(lt:Nat->Nat->Bool)(p:Array Nat)(k:Nat):Prop:=∀i j,i<j->j<k->lt (p.getD i 0) (p.getD j 0)=true
def Dsc(lt:Nat->Nat->Bool)(p:Array Nat)(k:Nat):Prop:=∀i j,i<j->j<k->lt (p.getD j 0) (p.getD i 0)=true
variable{p:Array Nat}
theorem Pm.ne'(P:Pm n p){i j:Nat}(hi:i<n)(hj:j<n)(h:i≠j):p.getD i 0≠p.getD j 0:=by
 rcases Nat.lt_or_gt_of_ne h with z|z
 ·exact P.ne i j z hj
 ·exact Ne.symm (P.ne j i z hi)
theorem Asc.snoc(O:DG n lt)(P:Pm n p){m:Nat}(h1:1<=m)(hm:m<n)(h:Asc lt p m)(h2:lt (p.getD (m-1) 0) (p.getD m 0)=true):Asc lt p (m+1):=fun i j hij hj=>by
 by_cases e:j=m
 ·subst e;by_cases e2:i=j-1
  ·subst e2;exact h2
  ·exact O.tr (P.bd _ (by omega)) (P.bd _ (by omega)) (P.bd _ (by omega)) (h i (j-1) (by omega) (by omega)) h2
 ·exact h i j hij (by omega)
theorem Dsc.snoc(O:DG n lt)(P:Pm n p){m:Nat}(h1:1<=m)(hm:m<n)(h:Dsc lt p m)(h2:lt (p.getD m 0) (p.getD (m-1) 0)=true):Dsc lt p (m+1):=fun i j hij hj=>by
 by_cases e:j=m
 ·subst e;by_cases e2:i=j-1
  ·subst e2;exact h2
  ·exact O.tr (P.bd _ (by omega)) (P.bd _ (by omega)) (P.bd _ (by omega)) h2 (h i (j-1) (by omega) (by omega))
 ·exact h i j hij (by omega)
theorem A7(O:DG n lt)(A:Hx cmp n lt s)(P:Pm n p):∀(f m:Nat) {Q:Nat->Shared->Prop},1<=m->m+f<=n->Asc lt p m->(∀m',m<=m'->m'<=m+f->Asc lt p m'->(m'=m+f\/lt (p.getD m' 0) (p.getD (m'-1) 0)=true)->Q m' s)->(kas_asc p f m).kasWp cmp Q s
 |0,m,Q,h1,h2,h3,q=>q m (QZ _) (by omega) h3 (.inl rfl)
 |f+1,m,Q,h1,h2,h3,q=>by
  refine A _ _ _ (P.bd _ (by omega)) (P.bd _ (by omega)) ?_;cases hc:lt (p.getD m 0) (p.getD (m-1) 0)with
  |true=>exact q m (QZ _) (by omega) h3 (.inr hc)
  |false=>
   have h4:=h3.snoc O P h1 (by omega) (O.tot (P.bd _ (by omega)) (P.bd _ (by omega)) (P.ne' (by omega) (by omega) (by omega)) hc);exact A7 O A P f (m+1) (by omega) (by omega) h4 fun m' a b c d=>q m' (by omega) (by omega) c (by rcases d with d|d;exact .inl (by omega);exact .inr d)
theorem AF(O:DG n lt)(A:Hx cmp n lt s)(P:Pm n p):∀(f m:Nat) {Q:Array Nat×Nat×Nat->Shared->Prop},1<=m->m+f<=n->Dsc lt p m->(∀m',m<=m'->m'<=m+f->Dsc lt p m'->Q (p,m',0) s)->(kas_desc f p m 0).kasWp cmp Q s
 |0,m,Q,h1,h2,h3,q=>q m (QZ _) (by omega) h3
 |f+1,m,Q,h1,h2,h3,q=>by
  refine A _ _ _ (P.bd _ (by omega)) (P.bd _ (by omega)) ?_;cases hc:lt (p.getD m 0) (p.getD (m-1) 0)with
  |true=>exact AF O A P f (m+1) (by omega) (by omega) (h3.snoc O P h1 (by omega) hc) fun m' a b c=>q m' (by omega) (by omega) c
  |false=>
   refine A _ _ _ (P.bd _ (by omega)) (P.bd _ (by omega)) ?_;rw[O.tot (P.bd _ (by omega)) (P.bd _ (by omega)) (P.ne' (by omega) (by omega) (by omega)) hc];exact q m (QZ _) (by omega) h3
theorem oK{p q:Array Nat}{i j:Nat}(h:p[i]?=q[j]?):p.getD i 0=q.getD j 0:=by
 rw[ZO,ZO,h]
theorem nZ{m k:Nat}(hm:m<=p.size):(kas_rev p 0 m).getD k 0=if k<m then p.getD (m-1-k) 0 else p.getD k 0:=by
 unfold kas_rev;have h:=getElem?_mirror_all (i:=0) hm k;split
 ·rename_i c;rw[if_pos ⟨Z7 _,c⟩]at h;exact oK (by rw[h];congr 1;omega)
 ·rename_i c;rw[if_neg (by omega)]at h;exact oK h
theorem Pm.rev(P:Pm n p){m:Nat}(hm:m<=n):Pm n (kas_rev p 0 m) where
 sz:=by rw[kas_rev_size];exact P.sz
 bd:=fun i hi=>by
  rw[nZ (by rw[P.sz];exact hm)];split<;>exact P.bd _ (by omega)
 ne:=fun i j hij hj=>by
  rw[nZ (by rw[P.sz];exact hm),nZ (by rw[P.sz];exact hm)];split<;>split<;>exact P.ne' (by omega) (by omega) (by omega)
theorem Dsc.rev{m:Nat}(P:Pm n p)(hm:m<=n)(h:Dsc lt p m):Asc lt (kas_rev p 0 m) m:=fun i j hij hj=>by
 rw[nZ (by rw[P.sz];exact hm),nZ (by rw[P.sz];exact hm),if_pos (by omega),if_pos hj];exact h _ _ (by omega) (by omega)
theorem Ds(O:DG n lt)(A:Hx cmp n lt s)(P:Pm n p){Q:Nat×Array Nat->Shared->Prop}(h1:1<=n)(q:∀m p',1<=m->m<=n->Pm n p'->Asc lt p' m->Q (m,p') s):(kas_count n p).kasWp cmp Q s:=by
 unfold kas_count;rw[KasT.kasWp_bind];refine A7 O A P (n-1) 1 (QZ _) (by omega) (fun i j a b=>by omega) fun m a b c d=>?_;by_cases e:m=n
 ·rw[if_pos (by rw[e];exact beq_self_eq_true n)];exact q m p a (by omega) P c
 rw[if_neg (by simpa using e)];have d':lt (p.getD m 0) (p.getD (m-1) 0)=true:=by
  rcases d with d|d
  ·omega
  ·exact d
 by_cases g:m>1
 ·rw[if_pos g];refine A _ _ _ (P.bd _ (by omega)) (P.bd _ (by omega)) ?_;rw[c 0 (m-1) (by omega) (by omega)];exact q m p a (by omega) P c
 ·rw[if_neg g];have m1:m=1:=by omega
  subst m1;unfold kas_descPart;rw[KasT.kasWp_bind];have d2:Dsc lt p 2:=fun i j a b=>by
   have e1:i=0:=by omega
   have e2:j=1:=by omega
   subst e1;subst e2;exact d'
  refine AF O A P (n-(1+1)) (1+1) (by omega) (by omega) d2 fun m' a' b' c'=>?_;rw[if_neg (by simp)];unfold kas_tail3;rw[KasT.kasWp_bind];have hm':m'<=n:=by omega
  exact A7 O A (P.rev hm') (n-m') m' (by omega) (by omega) (c'.rev P hm') fun m2 a2 b2 c2 _=>q m2 _ (by omega) (by omega) (P.rev hm') c2
theorem qP(O:DG n lt)(A:Hx cmp n lt s)(P:Pm n p){k:Nat}(hk:k<n)(hs:Asc lt p k):∀(f l r:Nat) {Q:Nat->Shared->Prop},l<=r->r<=k->r-l<=f->(∀i,i<l->lt (p.getD i 0) (p.getD k 0)=true)->(∀i,r<=i->i<k->lt (p.getD k 0) (p.getD i 0)=true)->
  (∀l',l'<=k->(∀i,i<l'->lt (p.getD i 0) (p.getD k 0)=true)->(∀i,l'<=i->i<k->lt (p.getD k 0) (p.getD i 0)=true)->Q l' s)->(kas_place p k f l r).kasWp cmp Q s
 |0,l,r,Q,h1,h2,h3,h4,h5,q=>q l (by omega) h4 fun i a b=>h5 i (by omega) b
 |f+1,l,r,Q,h1,h2,h3,h4,h5,q=>by
  unfold kas_place;by_cases e:l≥r
  ·rw[if_pos e];exact q l (by omega) h4 fun i a b=>h5 i (by omega) b
  ·rw[if_neg e];have hM:(l+r) / 2<k:=by omega
   refine A _ _ _ (P.bd _ hk) (P.bd _ (by omega)) ?_;cases hc:lt (p.getD k 0) (p.getD ((l+r) / 2) 0)with
   |true=>
    refine qP O A P hk hs f l ((l+r) / 2) (by omega) (by omega) (by omega) h4 (fun i a b=>?_) q;by_cases e2:i=(l+r) / 2
    ·subst e2;exact hc
    ·exact O.tr (P.bd _ hk) (P.bd _ (by omega)) (P.bd _ (by omega)) hc (hs _ i (by omega) b)
   |false=>
    have hc':=O.tot (P.bd _ hk) (P.bd _ (show(l+r) / 2<n by omega)) (P.ne' hk (by omega) (by omega)) hc;refine qP O A P hk hs f ((l+r) / 2+1) r (by omega) (by omega) (by omega) (fun i a=>?_) h5 q;by_cases e2:i=(l+r) / 2
    ·subst e2;exact hc'
    ·exact O.tr (P.bd _ (by omega)) (P.bd _ (by omega)) (P.bd _ hk) (hs i ((l+r) / 2) (by omega) hM) hc'
theorem o7{k l i:Nat}(hk:k<p.size)(hl:l<=k):(bubble p k (k-l)).getD i 0=if i=l then p.getD k 0 else if l<i/\i<=k then p.getD (i-1) 0 else p.getD i 0:=by
 have h:=getElem?_bubble hk (k-l) (by omega) i;rw[show k-(k-l)=l by omega]at h;by_cases c:i=l
 ·rw[if_pos c]at h ⊢;exact oK h
 ·rw[if_neg c]at h ⊢;by_cases d:l<i/\i<=k
  ·rw[if_pos d]at h ⊢;exact oK h
  ·rw[if_neg d]at h ⊢;exact oK h
theorem Pm.bub(P:Pm n p){k l:Nat}(hk:k<n)(hl:l<=k):Pm n (bubble p k (k-l)) where
 sz:=by rw[bubble_size];exact P.sz
 bd:=fun i hi=>by
  rw[o7 (by rw[P.sz];exact hk) hl];repeat' split
  all_goals exact P.bd _ (by omega)
 ne:=fun i j hij hj=>by
  rw[o7 (by rw[P.sz];exact hk) hl,o7 (by rw[P.sz];exact hk) hl];repeat' split
  all_goals first|(exfalso;omega)|exact P.ne' (by omega) (by omega) (by omega)
theorem Asc.bub(P:Pm n p){k l:Nat}(hk:k<n)(hl:l<=k)(h:Asc lt p k)(h1:∀i,i<l->lt (p.getD i 0) (p.getD k 0)=true)(h2:∀i,l<=i->i<k->lt (p.getD k 0) (p.getD i 0)=true):Asc lt (bubble p k (k-l)) (k+1):=fun i j hij hj=>by
 rw[o7 (by rw[P.sz];exact hk) hl,o7 (by rw[P.sz];exact hk) hl];repeat' split
 all_goals first|(exfalso;omega)|exact h1 _ (by omega)|exact h2 _ (by omega) (by omega)|exact h _ _ (by omega) (by omega)
theorem EB(O:DG n lt)(A:Hx cmp n lt s):∀(f:Nat) (p:Array Nat) (k:Nat) {Q:Array Nat->Shared->Prop},Pm n p->k+f=n->Asc lt p k->(∀p',Pm n p'->Asc lt p' n->Q p' s)->(kas_bin f p k).kasWp cmp Q s
 |0,p,k,Q,P,h1,h2,q=>q p P (by rw[<-h1];exact h2)
 |f+1,p,k,Q,P,h1,h2,q=>by
  unfold kas_bin;rw[KasT.kasWp_bind];refine qP O A P (k:=k) (by omega) h2 k 0 k (Z7 _) (QZ _) (by omega) (fun i a=>by omega) (fun i a b=>by omega) fun l a b c=>?_;exact EB O A f _ (k+1) (P.bub (by omega) a) (by omega) (h2.bub P (by omega) a b c) q
theorem vY:Pm n (List.toArray (Qi n)):=by
 have g:∀i,i<n->(List.toArray (Qi n)).getD i 0=i:=fun i hi=>by simp[Array.getD,hi]
 exact⟨by simp,fun i hi=>by rw[g i hi];exact hi,fun i j hij hj=>by rw[g i (by omega),g j hj];omega⟩
theorem Fx(O:DG n lt)(A:Hx cmp n lt s){Q:Array Nat->Shared->Prop}(h1:1<=n)(q:∀p',Pm n p'->Asc lt p' n->Q p' s):(kas_sort n).kasWp cmp Q s:=by
 unfold kas_sort;rw[KasT.kasWp_bind];refine Ds O A vY h1 fun m p' a b P c=>?_;by_cases e:m<n
 ·rw[if_pos e];rw[show max m 1=m by omega];exact EB O A _ _ _ P (by omega) c q
 ·rw[if_neg e];exact q p' P (by rw[show n=m by omega];exact c)
end
end OP
namespace OP
open PySem PySem.Spec PyProof PyProof.Rows L2 OG
section
variable{prog:Program}{w:World}{A:Around}{E:Value->Shared->Prop}{s:Shared}{d it:Addr}{o:Obj}{es:Array DictEntry}{ep i:Nat}
theorem vP{Q:Value->Shared->Prop}(hd:(d == sysModules)=false)(ho:s.heap.get? d=some o)(hc:o.ExactDict)(he:o.data=.dict es ep)
  (q:Q (.ref s.heap.objs.size) { s with heap:=s.heap.push { cls:=.type "dict_keyiterator",data:=.fields #[.ref d,.int 0 0,.int es.size 0,.int ep 0] } }):wpAny (model prog w) A (pyIter (.ref d)) Q E s:=by
 have T:s.TypeIs (.ref d) "dict":=⟨o,ho,hc.1⟩;refine wpAny_pyIter_slot T F.slot_dict_iter (wpAny_call_entry F.slot_dict_iter T F.entry_dict_iter ?_ (F.args_dict_iter_1 _));unfold Builtin.«dict.__iter__»;refine Q2 ?_;unfold Builtin.Dict.dictSlotNone;refine Q2 (wpAny_notOrdered_dict T ?_);refine QQ (show wpAny _ _ (Builtin.Dict.showsAll d >>= _) _ _ s from ?_);unfold Builtin.Dict.showsAll;rw[if_neg (by rw[hd];exact QK)];refine Q2 (QQ (Q2 (wpAny_dictEntries ho he (Q2 (wpAny_dictEpoch ho he ?_)))));refine Q2 (wpAny_newObj_type (QQ ⟨_,rfl,"dict_keyiterator",_,⟨_,QF _ rfl,rfl⟩,F.slot_dict_keyiterator_next.lookup,q⟩))
theorem vQ{Q:Option Value->Shared->Prop}(hit:s.heap.IsKeyIter it d i es.size ep)(ho:s.heap.get? d=some o)(he:o.data=.dict es ep)(hi:i<es.size)
  (q:∀h',h'.IsKeyIter it d (i+1) es.size ep->ZT it s.heap h'->Q (some es[i].key) { s with heap:=h' }):wpAny (model prog w) A (pyNext (.ref it)) Q E s:=by
 obtain⟨io,hio,ic,id'⟩:=id hit;unfold pyNext;refine Q2 (wpAny_attempt (wpAny_callSpecial?_slot (name:=Str.ofString "__next__") hit.typeIs F.slot_dict_keyiterator_next (wpAny_call_entry F.slot_dict_keyiterator_next hit.typeIs F.entry_dict_keyiterator_next ?_ (F.args_dict_keyiterator_next_1 _))));refine Q2 (QQ (Q2 (Q2 ?_)));first|refine Q2 (wpAny_typeNameOfWhole_keyiter hit.typeIs (QQ (Q2 (wpAny_fieldsOf hio id' ?_))))|refine Q2 (wpAny_typeNameOf_keyiter hit.typeIs (QQ (Q2 (wpAny_fieldsOf hio id' ?_))))
 simp only[show Builtin.Dict_items.ownsTuple "dict_keyiterator"=false by decide,QC,if_false];refine(show wpAny _ _ (if (Value.ref d == Value.none)=true then _ else _) _ _ s from ?_);rw[if_neg (show ¬((Value.ref d == Value.none)=true)from QK)];refine Q2 (QQ (Q2 (wpAny_dictEntries ho he ?_)));rw[if_neg (by simp)];refine Q2 (QQ (Q2 (wpAny_dictEpoch ho he ?_)));rw[if_neg (by simp)];refine QQ ?_;simp only[show ¬((i:Int)<0)by omega,if_false,Int.toNat_natCast,ZJ hi];refine Q2 ?_;first|refine Q2 (wpAny_typeNameOfWhole_keyiter hit.typeIs (QQ (Q2 (wpAny_isOneOf_keyiter hit.typeIs ?_))))|refine Q2 (wpAny_typeNameOf_keyiter hit.typeIs (QQ (Q2 (wpAny_isOneOf_keyiter hit.typeIs ?_))))
 refine(show wpAny _ _ (setField (.ref it) 1 (rawInt ((i:Int)+1)) >>= _) _ _ s from Q2 (wpAny_setField hio id' (by simp) ?_));have hit2:(s.heap.update it (Obj.mapFields (·.setIfInBounds 1 (rawInt ((i:Int)+1))))).IsKeyIter it d (i+1) es.size ep:=⟨_,Heap.get?_update_self _ hio (Obj.isFreed_of_fields (Obj.data_mapFields id' _)),(Obj.cls_mapFields ..).trans ic,by rw[Obj.data_mapFields id'];simp[rawInt]⟩;refine Q2 (wpAny_holding (Q2 (wpAny_isOneOf_keyiter (s:={ s with heap:=s.heap.update it (Obj.mapFields (·.setIfInBounds 1 (rawInt ((i:Int)+1)))) }) hit2.typeIs ?_)));exact(show wpAny _ _ (pure es[i].key) _ _ _ from QQ (QQ ⟨_,rfl,QQ (q _ hit2 (Heap.SameBut.update ..))⟩))
theorem yY{Q:Option Value->Shared->Prop}(hh:A.handled=none)(hit:s.heap.IsKeyIter it d i es.size ep)(ho:s.heap.get? d=some o)(he:o.data=.dict es ep)(hi:es.size<=i)
  (q:∀h',Heap.ExtBut it s.heap h'->Q none { s with heap:=h' }):wpAny (model prog w) A (pyNext (.ref it)) Q E s:=by
 obtain⟨io,hio,ic,id'⟩:=id hit;unfold pyNext;refine Q2 (wpAny_attempt (wpAny_callSpecial?_slot (name:=Str.ofString "__next__") hit.typeIs F.slot_dict_keyiterator_next (wpAny_call_entry F.slot_dict_keyiterator_next hit.typeIs F.entry_dict_keyiterator_next ?_ (F.args_dict_keyiterator_next_1 _))));refine Q2 (QQ (Q2 (Q2 ?_)));first|refine Q2 (wpAny_typeNameOfWhole_keyiter hit.typeIs (QQ (Q2 (wpAny_fieldsOf hio id' ?_))))|refine Q2 (wpAny_typeNameOf_keyiter hit.typeIs (QQ (Q2 (wpAny_fieldsOf hio id' ?_))))
 simp only[show Builtin.Dict_items.ownsTuple "dict_keyiterator"=false by decide,QC,if_false];refine(show wpAny _ _ (if (Value.ref d == Value.none)=true then _ else _) _ _ s from ?_);rw[if_neg (show ¬((Value.ref d == Value.none)=true)from QK)];refine Q2 (QQ (Q2 (wpAny_dictEntries ho he ?_)));rw[if_neg (by simp)];refine Q2 (QQ (Q2 (wpAny_dictEpoch ho he ?_)));rw[if_neg (by simp)];refine QQ ?_;simp only[show ¬((i:Int)<0)by omega,if_false,Int.toNat_natCast,Array.getElem?_eq_none hi];refine Q2 ?_;first|refine Q2 (wpAny_typeNameOfWhole_keyiter hit.typeIs (QQ ?_));skip|refine Q2 (wpAny_typeNameOf_keyiter hit.typeIs (QQ ?_));skip
 refine(show wpAny _ _ (setField (.ref it) 0 .none >>= _) _ _ s from Q2 (wpAny_setField hio id' (by simp) ?_));refine(show wpAny _ _ (newExc (.type "StopIteration") [] >>= _) _ _ _ from Q2 ?_);simp only[newExc,newTuple];refine Q2 (wpAny_newObj_type ?_ (by size_fits));refine Q2 (m:=firstArgMember _ _) (wpAny_of_eq (a:=Value.none) (by first|rfl|(simp only[firstArgMember];rfl)) (wpAny_newObj_type ?_ (by size_fits)));simp only[raiseNew];refine Q2 (wpAny_handled ?_);rw[show A.in1.handled=none from hh];refine Q2 (QQ (wpAny_throw ?_));refine Q2 (wpAny_isInstance (T:="StopIteration") (b:=true) ⟨_,QF _ rfl,rfl⟩ isSubtype_stop ?_);exact QQ (q _ (((Heap.SameBut.update ..).extBut.push _).push _))
end
def FzT(H:Hp)(a:Addr)(ep:Nat)(ks:List (List Key)):Prop:=∃ob es kvs,H a=some (.frz ob (.dT kvs))/\ob.data=.dict es ep/\kvs.map (·.1)=ks
def Itt(a:Addr)(ep:Nat)(ks:List (List Key)):It:=
 ⟨fun i H=>i<ks.length/\FzT H a ep ks,fun i H x H'=>H'=H/\∃k p,ks[i]?=some k/\x=.ref p/\H p=some (.tup (k.map kV)),fun i H=>ks.length<=i/\FzT H a ep ks⟩
theorem Ak{P:Program}{w:World}{H:Hp}{h:Heap}{a:Addr}{ob:Obj}{kvs:List (List Key×V)}{es:Array DictEntry}{ep:Nat}(ok:HOk P w H h)(e:H a=some (.frz ob (.dT kvs)))(d:ob.data=.dict es ep) :
  h.get? a=some ob/\es.size=kvs.length/\∀(i:Nat) (hi:i<es.size),∃k p,(kvs.map (·.1))[i]?=some k/\es[i].key=.ref p/\H p=some (.tup (k.map kV)):=by
 obtain⟨e1,_,_,xs,r,o,es',ep',e2,e3,e4,e5,_⟩:=(show cy P w H h a (.frz ob (.dT kvs))from ok a _ e);rw[e1]at e2;cases e2;rw[d]at e4;cases e4;have hl:kvs.length=xs.length:=Paired.length r;have hs:es.size=xs.length:=size_of_entries e5;refine⟨e1,by omega,fun i hi=>?_⟩;have key:∀{l:List (List Key×V)} {m:List (List Key×Addr×Value)} {i:Nat} {x:List Key×Addr×Value},Paired (fun(p:List Key×V) (q:List Key×Addr×Value)=>p.1=q.1/\H q.2.1=some (.tup (p.1.map kV))/\cD p.2 q.2.2) l m->m[i]?=some x->∃k,(l.map (·.1))[i]?=some k/\H x.2.1=some (.tup (k.map kV)):=by
  intro l m i x q;induction q generalizing i with
  |nil=>intro z;simp at z
  |@cons p q ps qs hq t ih=>
   intro z;cases i with
   |zero=>simp at z;subst z;exact⟨p.1,by simp,hq.2.1⟩
   |succ i=>obtain⟨k,k1,k2⟩:=ih (by simpa using z);exact⟨k,by simpa using k1,k2⟩
 have hx:xs[i]?=some xs[i]:=Q8 (by omega);obtain⟨k,k1,k2⟩:=key r hx;refine⟨k,(xs[i]).2.1,k1,?_,k2⟩;have h1:=entry_at e5 i;rw[hx,ZJ hi]at h1;have h2:=Option.some.inj h1;rw[h2];rfl
theorem xc{P:Program}{w:World}{K:Q1}{tg:Expr}(a it:Addr){ks:List (List Key)}{ep:Nat} :
  Hc P w K tg (Itt a ep ks) [it] it (fun n h=>h.IsKeyIter it a n ks.length ep) where
 mem:=by simp
 obj:=fun n h st c hc=>by
  simp only[QM,Qc,or_false]at hc;subst hc;obtain⟨o,e,_,q⟩:=st;exact⟨o,e,fun v z=>by rw[q]at z;cases z⟩
 keep:=fun n h h' st kp=>Heap.IsKeyIter.at st fun o q=>kp it (by simp) o q
 item:=by
  intro X hP hw hK hc n pins s σ H E Iv hf st hg;subst hP hw hK;obtain⟨hi,ob,es,kvs,hq,d,ek⟩:=hg;obtain⟨g1,g2,g3⟩:=Ak Iv.hok hq d;have hl:ks.length=es.size:=by rw[<-ek,Q5,g2]
  have hi':n<es.size:=by omega
  obtain⟨k,p,k1,k2,k3⟩:=g3 n hi';obtain⟨f0,f1,f2,f3⟩:=hf it (by simp);refine vQ (by rw[<-hl];exact st) g1 d hi' fun h1 st1 sb=>⟨_,rfl,?_⟩;have I1:Inv X pins σ H { s with heap:=h1 }:=Iv.turned (t':=s.toks) (fun b o hb e=>(sb.2 b hb).trans e) f0 f1 f3.1 f3.2.1 f3.2.2;have st2:h1.IsKeyIter it a (n+1) ks.length ep:=by rw[hl];exact st1
  obtain⟨o,e,c,q⟩:=id st2;exact Ah (s:={ s with heap:=h1 }) e c q (by decide) ⟨.ref p,H,I1,by rw[k2];rfl,⟨rfl,k,p,by rw[<-ek];exact k1,rfl,k3⟩,st2,fun b hb=>(hf b hb).1⟩
 done:=by
  intro X hP hw hK hc n pins s σ H E Iv hf st hg;subst hP hw hK;obtain⟨hi,ob,es,kvs,hq,d,ek⟩:=hg;obtain⟨g1,g2,g3⟩:=Ak Iv.hok hq d;have hl:ks.length=es.size:=by rw[<-ek,Q5,g2]
  obtain⟨f0,f1,f2,f3⟩:=hf it (by simp);exact yY (Iv.ok.hd hc) (by rw[<-hl];exact st) g1 d (by omega) fun h1 eb=>⟨rfl,Iv.turned (t':=s.toks) (fun b o hb e=>eb b o hb e) f0 f1 f3.1 f3.2.1 f3.2.2⟩
 self:=fun _ _ _ _ _ st h=>wpAny_pyIter_keyiter st h
def Eo(X:Cx)(tl:TE):TI:=fun σ H R=>tl σ H fun x H1=>∃a kvs,x=.ref a/\H1 a=some (.dT kvs)/\∀ob es ep,xX X a->ob.data=.dict es ep->R (Itt a ep (kvs.map (·.1))) (upd H1 a (.frz ob (.dT kvs)))
theorem BC{X:Cx}{tg l:Expr}{tl:TE}(hl:WE X l tl):WI X tg l (Eo X tl):=by
 constructor;intro pins s σ H R I h;refine thn (hl.h pins s σ H _ I h) fun v s1 hz=>?_;obtain⟨x,H1,I1,r1,q1⟩:=hz;obtain⟨a,kvs,rfl,hq,q⟩:=q1;have hq0:=hq;cases r1;obtain⟨hz,hs,xs,rv,ob,es,ep,e1,e2,e3,e4,e5⟩:=(show cy X.prog X.w H1 s1.heap a (.dT kvs)from I1.hok a _ hq);have hl:kvs.length=es.size:=by rw[size_of_entries e4];exact Paired.length rv
 have nf:xX X a:=fun ob' u' z=>by have:=I1.base.frzs a ob' u' z;rw[hq]at this;cases this
 have mono:∀{l:List (List Key×V)} {m:List (List Key×Addr×Value)} (fz:HO),Paired (fun(p:List Key×V) (q:List Key×Addr×Value)=>p.1=q.1/\H1 q.2.1=some (.tup (p.1.map kV))/\cD p.2 q.2.2) l m->Paired (fun(p:List Key×V) (q:List Key×Addr×Value)=>p.1=q.1/\(upd H1 a fz) q.2.1=some (.tup (p.1.map kV))/\cD p.2 q.2.2) l m:=by
  intro l m fz z;induction z with
  |nil=>exact .nil
  |cons hq t ih=>exact .cons ⟨hq.1,by rw[bA (fun e=>by rw[e,hq0]at hq;cases hq.2.1)];exact hq.2.1,hq.2.2⟩ ih
 have rv2:=mono (.frz ob (.dT kvs)) rv;have I2:Inv X pins σ (upd H1 a (.frz ob (.dT kvs))) s1:=nD I1 hq (by simp) (by simp) (by simp) nf ⟨e1,hz,hs,xs,rv2,ob,es,ep,e1,e2,e3,e4,e5⟩;refine vP hs e1 e2 e3 ?_;refine⟨s1.heap.objs.size,[s1.heap.objs.size],_,_,_,rfl,I2.kept (t':=s1.toks) fun b o g=>Q7 _ g,xc a _,⟨_,QF _ rfl,rfl,by rw[Q5,hl];rfl⟩,fun b hb=>?_,q ob es ep nf e3⟩;simp only[QM,Qc,or_false]at hb;subst hb;exact I2.fpOk (QZ _) (I2.hok.fresh (QZ _))
def ED(X:Cx)(D:Bo):Bo where
 nx:=fun σ H=>∃a ob kvs,xX X a/\H a=some (.frz ob (.dT kvs))/\D.nx σ (upd H a (.dT kvs))
 rt:=fun v H=>∃a ob kvs,xX X a/\H a=some (.frz ob (.dT kvs))/\D.rt v (upd H a (.dT kvs))
 bk:=fun σ H=>∃a ob kvs,xX X a/\H a=some (.frz ob (.dT kvs))/\D.bk σ (upd H a (.dT kvs))
 ct:=fun σ H=>∃a ob kvs,xX X a/\H a=some (.frz ob (.dT kvs))/\D.ct σ (upd H a (.dT kvs))
theorem lQ{X:Cx}{pins:List (Addr×Obj)}{σ:L2.St}{H:Hp}{s:Shared}{a:Addr}{ob:Obj}{kvs:List (List Key×V)}(I:Inv X pins σ H s)(nf:xX X a)(e:H a=some (.frz ob (.dT kvs))):Inv X pins σ (upd H a (.dT kvs)) s:=by
 obtain⟨_,hz,hs,xs,rv,rest⟩:=(show cy X.prog X.w H s.heap a (.frz ob (.dT kvs))from I.hok a _ e);have mono:∀{l:List (List Key×V)} {m:List (List Key×Addr×Value)} (fz:HO),Paired (fun(p:List Key×V) (q:List Key×Addr×Value)=>p.1=q.1/\H q.2.1=some (.tup (p.1.map kV))/\cD p.2 q.2.2) l m->Paired (fun(p:List Key×V) (q:List Key×Addr×Value)=>p.1=q.1/\(upd H a fz) q.2.1=some (.tup (p.1.map kV))/\cD p.2 q.2.2) l m:=by
  intro l m fz z;induction z with
  |nil=>exact .nil
  |cons hq t ih=>exact .cons ⟨hq.1,by rw[bA (fun q=>by rw[q,e]at hq;cases hq.2.1)];exact hq.2.1,hq.2.2⟩ ih
 exact nD I e (by simp) (by simp) (by simp) nf ⟨hz,hs,xs,mono _ rv,rest⟩
theorem Bp{X:Cx}{st:Stmt}{t:TS}(h:WS X st t):WS X st (fun D σ H=>t (ED X D) σ H):=by
 constructor;intro pins s σ H D I k;refine thn (h.h pins s σ H _ I k) fun f s1 q=>?_;cases f with
 |next=>obtain⟨σ1,H1,I1,a,ob,kvs,nf,e,r⟩:=q;exact⟨σ1,_,lQ I1 nf e,r⟩
 |brk=>obtain⟨σ1,H1,I1,a,ob,kvs,nf,e,r⟩:=q;exact⟨σ1,_,lQ I1 nf e,r⟩
 |cont=>obtain⟨σ1,H1,I1,a,ob,kvs,nf,e,r⟩:=q;exact⟨σ1,_,lQ I1 nf e,r⟩
 |ret u=>obtain⟨v,σ1,H1,I1,rv,a,ob,kvs,nf,e,r⟩:=q;exact⟨v,σ1,_,lQ I1 nf e,rv,r⟩
def AV(ce:CE)(g:CG)(cb:CS):CS:=fun ρ S=>(ce ρ S).bind fun p=>match p.1 with
 |.ref l=>match p.2[l]? with
  |some (.dit kus)=>uni fun ep=>(d9 (fun S'=>S'[l]?=some (.fdt ep kus)) g cb (kus.map fun q=>.tup (q.1.map kU)) ρ (p.2.set l (.fdt ep kus))).bind fun r=>match r.2.2[l]? with
   |some (.fdt _ kus')=>some (r.1,r.2.1,r.2.2.set l (.dit kus'))
   |_=>none
  |_=>none
 |_=>none
theorem wA{K:Q1}{m:List Addr}{H:Hp}:∀ks:List Key,IsL K m H (ks.map kV) (ks.map kU)
 |[]=>.nil_
 |k::r=>.cons_ (El k) (wA r)
theorem CZ{K:Q1}{m:List Addr}{H:Hp}{a:Addr}{l ep:Nat}{kus:List (List Key×U)}(ha:m[l]?=some a):Bm K (Itt a ep (kus.map (·.1))) m H (kus.map fun q=>.tup (q.1.map kU)) (fun S'=>S'[l]?=some (.fdt ep kus)):=by
 intro m2 S2 H2 i e sr hok;obtain⟨a',ha',ob,es,kvs,hx,hd,ip⟩:=sr.get hok;have ha2:=e.get ha;rw[ha2]at ha';cases ha';have hz:FzT H2 a ep (kus.map (·.1)):=⟨ob,es,kvs,hx,hd,ip.1⟩;refine⟨fun u hu=>?_,fun hu=>⟨by simpa using hu,hz⟩⟩;have hi:i<kus.length:=by have:=(Q9.mp hu).1;simpa using this
 refine⟨⟨by simpa using hi,hz⟩,?_⟩;rintro x H3 ⟨rfl,k,p,hk,rfl,hp⟩;refine⟨.refl,sr,?_⟩;rw[Qb]at hk hu;rw[Q8 hi]at hk hu;cases hk;cases hu;exact .tup_ (.inl (.inl hp)) (wA _)
theorem C8{X:Cx}{ce:CE}{g:CG}{cb:CS}:∀D σ H,tS X.K (AV ce g cb) D σ H->Lg (Eo X (tE X.K ce)) (tG X.K g) (tS X.K cb) (ED X D) σ H:=by
 rintro D σ H ⟨m,ρ,S,o,ρ',S',sr,lr,hc,post⟩;obtain⟨⟨x,S1⟩,h1,h⟩:=Q0.mp hc;refine⟨m,ρ,S,x,S1,sr,lr,h1,fun m1 v1 H1 e1 sr1 i1=>?_⟩;cases x with
 |ref l=>
  simp only at h;split at h<;>try cases h
  rename_i kus hS;obtain⟨a,ha,rfl⟩:=i1.of_ref;obtain⟨a',ha',kvs,hx,ip⟩:=sr1.get hS;rw[ha]at ha';cases ha';refine⟨a,kvs,rfl,hx,fun ob es ep nf hd=>?_⟩;obtain⟨⟨o1,ρ1,S2⟩,h2,h3⟩:=Q0.mp (vH h ep);simp only at h3;split at h3<;>try cases h3
  rename_i ep' kus' hS2;have kp:Bl X.K H1 (upd H1 a (.frz ob (.dT kvs))):=sr1.keep ha _;have ee:Ext X.K m1 H1 m1 (upd H1 a (.frz ob (.dT kvs))):=.of kp;have sr2:Sr X.K m1 (S1.set l (.fdt ep kus)) (upd H1 a (.frz ob (.dT kvs))):=sr1.put ha ⟨ob,es,kvs,aN,hd,ip.mono ee⟩;rw[ip.1];refine wb sr2 (lr.mono (e1.trans ee)) (CZ ha) h2 ?_;have back:∀m3 H3,Ext X.K m1 (upd H1 a (.frz ob (.dT kvs))) m3 H3->Sr X.K m3 S2 H3->∃ob' kvs',H3 a=some (.frz ob' (.dT kvs'))/\Ext X.K m3 H3 m3 (upd H3 a (.dT kvs'))/\Sr X.K m3 (S2.set l (.dit kus')) (upd H3 a (.dT kvs')):=fun m3 H3 e3 sr3=>by
   obtain⟨a3,ha3,ob3,es3,kvs3,hx3,hd3,ip3⟩:=sr3.get hS2;rw[e3.get ha]at ha3;cases ha3;have e4:Ext X.K m3 H3 m3 (upd H3 a (.dT kvs3)):=.of (sr3.keep (e3.get ha) _);exact⟨ob3,kvs3,hx3,e4,sr3.put (e3.get ha) ⟨kvs3,aN,ip3.mono e4⟩⟩
  have nxt:∀(R:L2.St->Hp->Prop),iS X.K m H R ρ' (S2.set l (.dit kus'))->iS X.K m1 (upd H1 a (.frz ob (.dT kvs))) (fun σ H=>∃a ob kvs,xX X a/\H a=some (.frz ob (.dT kvs))/\R σ (upd H a (.dT kvs))) ρ' S2:=fun R p m3 σ3 H3 e3 sr3 lr3=>by
   obtain⟨ob3,kvs3,hx3,e4,sr4⟩:=back m3 H3 e3 sr3;exact⟨a,ob3,kvs3,nf,hx3,p m3 σ3 _ (((e1.trans ee).trans e3).trans e4) sr4 (lr3.mono e4)⟩
  cases o with
  |nx=>exact nxt _ post
  |bk=>exact nxt _ post
  |ct=>exact nxt _ post
  | rt v=>
    intro m3 v3 H3 e3 sr3 i3;obtain⟨ob3,kvs3,hx3,e4,sr4⟩:=back m3 H3 e3 sr3;exact⟨a,ob3,kvs3,nf,hx3,post m3 v3 _ (((e1.trans ee).trans e3).trans e4) sr4 (i3.mono e4)⟩
 |_=>cases h
theorem FE{X:Cx}{tg iter:Expr}{body:List Stmt}{ce:CE}{g:CG}{cb:CS}{pos:Pos}(hp:PassesOwn (model X.prog X.w) X.A X.env X.xe)(hc:X.calm=true)(hi:QE X iter ce)(hg:QG X tg g)(hb:QSs X body cb)(hs:∀x,foldedSetIterable iter X.env x=pure x:=by intro _;rfl):QS X (.For tg iter body [] pos) (AV ce g cb):=
 (Bp (yj hp hc (BC hi) hg hb hs)).imp C8
end OP
namespace OP
open PySem PySem.Spec PyProof PyProof.Rows L2 OG PySem.W
theorem qU{prog:Program}{w:World}{A:Around}{E:Value->Shared->Prop}{s:Shared}{a:Addr}{vs:List Value}{n:Nat}{P:PySem.Fin->Shared->Prop}
  (g:s.heap.get? a=some (seqObj "list" vs.toArray n)) (h2:2<=vs.length) (h64:vs.length<64)
  (ask:∀h':Heap,(∀b o,b≠a->s.heap.get? b=some o->h'.get? b=some o)->wpAny (model prog w) A (keyKind' vs.toArray) (fun κ s'=>s'={ s with heap:=h' }/\KasT.kasWp (kas_ask prog w A κ vs) (kas_sort vs.length)
   (fun p s''=>s''={ s with heap:=h' }/\P (Fin.done (Flow.ret Value.none)) { s with heap:=sortedHeap s.heap a vs (p.toList.map fun i=>vs.getD i Value.none).toArray }) { s with heap:=h' }) E { s with heap:=h' }) :
  wpAny (model prog w) A (Builtin.«list.sort» { pos:=[Value.ref a] }) P E s:=by
 rw[list_sort_plain];have hS:vs.toArray.size=vs.length:=by simp
 have hz:vs.length<=sizeLine:=by unfold sizeLine;omega
 have lt:=QB g;refine Q2 (listItems_at g rfl (Q2 (listUpdate_at g rfl ?_ (by rw[hS];exact hz) (by simp))));obtain⟨e1,g1⟩:∃e1,(s.heap.update a (Obj.mapSeq fun _=>#[])).get? a=some (seqObj "list" #[] e1):=⟨_,get?_update_seq g fun _=>#[]⟩;refine Q2 (seqEpoch_at g1 rfl (Q2 (wpAny_newTuple (Q2 (wpAny_newList (wpAny_holding ?_) (by simp))) (by simpa using hz))));have hu:(s.heap.update a (Obj.mapSeq fun _=>#[])).objs.size=s.heap.objs.size:=Heap.size_update ..;have g2:(((s.heap.update a (Obj.mapSeq fun _=>#[])).push (seqObj "tuple" vs.toArray 0)).push (seqObj "list" #[] 0)).get? a=some (seqObj "list" #[] e1):=
  Q7 _ (Q7 _ g1)
 have n2:¬vs.toArray.size<2:=by rw[hS];omega
 dsimp only;rw[if_neg n2];have hk:∀b o,b≠a->s.heap.get? b=some o->(((s.heap.update a (Obj.mapSeq fun _=>#[])).push (seqObj "tuple" vs.toArray 0)).push (seqObj "list" #[] 0)).get? b=some o:=fun b o hb ho=>by
  refine Q7 _ (Q7 _ ?_);rw[Heap.get?_update_ne _ _ _ _ hb];exact ho
 refine Q2 (Z9 (ask _ hk) (fun κ s' hs'=>?_) fun _ _ h'=>h');obtain⟨rfl,hrun⟩:=hs';rw[if_neg n2];refine Q2 (Z9 (kat_run (ks:=vs) (Q:=fun st' s'=>∃p:Array Nat,p.size=vs.length/\arrOf st'=Array.map (kas_item (vs.toArray.zip vs.toArray)) p/\failedOf st'=none/\s'=_/\P (Fin.done (Flow.ret Value.none)) { s with heap:=sortedHeap s.heap a vs (p.toList.map fun i=>vs.getD i Value.none).toArray }) rfl h2 h64 (fun p st' s' hp harr hfail hG=>⟨p,hp,harr,hfail,hG⟩) hrun) (fun r s' hr=>?_) fun _ _ h'=>h');obtain⟨u,st'⟩:=r;obtain⟨p,hp,harr,hfail,rfl,hP⟩:=hr;have hout:Array.map (fun x=>x.snd) (arrOf st')=(p.toList.map fun i=>vs.getD i Value.none).toArray:=kat_snds rfl harr;refine Q2 (seqEpoch_at g2 rfl (Q2 (listUpdate_at g2 rfl ?_ (by simp) ?_)))
 ·dsimp only at hfail ⊢;rw[hfail];simp only[bne_self_eq_false,QC,if_false];have hP':=hP;rw[<-hout]at hP';exact QQ hP'
 ·dsimp only;rw[hout];simp;unfold sizeLine;omega
def pw(h:Heap)(v:Value)(p:Int×Int):Prop:=∃b o t1 t2 e,v=Value.ref b/\h.get? b=some o/\o.cls=Value.type "tuple"/\o.data=Data.seq #[Value.int p.1 t1,Value.int p.2 t2] e
def ltP(p q:Int×Int):Bool:=decide (p.1<q.1\/p.1=q.1/\p.2<q.2)
section
variable{prog:Program}{w:World}{A:Around}{E:Value->Shared->Prop}{s:Shared}
theorem qf{b:Bool}{x y:Int}{t u:Tok}{Q:Bool->Shared->Prop}(h:Q (decide (x<y)) s):wpAny (model prog w) A (oneLt' b (Value.int x t) (Value.int y u)) Q E s:=by
 cases b with
 |true=>exact oneLt_int h
 |false=>
  rw[oneLt'_eq];dsimp only;rw[if_neg QK];exact Q2 (wpAny_lt_int (wpAny_truthy_bool h))
theorem Gb{v v':Value}{p p':Int×Int}{C:Bool->Shared->Prop}(h:pw s.heap v p)(h':pw s.heap v' p')(c:C (ltP p p') s):wpAny (model prog w) A (keyLt' (tuples' true) v v') C E s:=by
 obtain⟨b,o,t1,t2,e,rfl,g,_,d⟩:=h;obtain⟨b',o',t1',t2',e',rfl,g',_,d'⟩:=h';refine kat_lt g d g' d' (kat_cons (wpAny_eqBool_int ?_));by_cases e1:p.1=p'.1
 ·rw[e1,beq_self_eq_true];refine kat_yes (kat_cons (wpAny_eqBool_int ?_));by_cases e2:p.2=p'.2
  ·rw[e2,beq_self_eq_true];refine kat_yes (kat_nil ?_);have:ltP p p'=false:=by simp[ltP,e1,e2]
   rw[this]at c;exact c
  ·rw[beq_eq_false_iff_ne.mpr e2];refine kat_no (qf ?_);have:ltP p p'=decide (p.2<p'.2):=by simp[ltP,e1]
   rw[this]at c;exact c
 ·rw[beq_eq_false_iff_ne.mpr e1];refine kat_no (qf ?_);have:ltP p p'=decide (p.1<p'.1):=by simp[ltP,e1]
  rw[this]at c;exact c
def fk(h:Heap):List Value->List (Int×Int)->Prop
 |[],[]=>True
 |v::vs,p::ps=>pw h v p/\fk h vs ps
 |_,_=>False
theorem n8{h:Heap}:∀{vs:List Value} {ps:List (Int×Int)},fk h vs ps->vs.length=ps.length
 |[],[],_=>rfl
 |_::_,_::_,k=>by rw[QY,QY,n8 k.2]
 |[],_::_,k=>k.elim
 |_::_,[],k=>k.elim
theorem n9{h:Heap}:∀{vs:List Value} {ps:List (Int×Int)} {i:Nat},fk h vs ps->i<ps.length->pw h (vs.getD i Value.none) (ps.getD i (0,0))
 |[],[],_,_,k=>absurd k (Nat.not_lt_zero _)
 |_::_,_::_,0,k,_=>k.1
 |_::vs,_::ps,i+1,k,l=>by
  show pw h (vs.getD i Value.none) (ps.getD i (0,0));exact n9 k.2 (by rw[QY]at l;omega)
 |[],_::_,_,k,_=>k.elim
 |_::_,[],_,k,_=>k.elim
theorem zx{h h':Heap}{v:Value}{p:Int×Int}{a:Addr}(k:pw h v p)(hv:v≠.ref a)(m:∀b o,b≠a->h.get? b=some o->h'.get? b=some o):pw h' v p:=by
 obtain⟨b,o,t1,t2,e,rfl,g,c,d⟩:=k;exact⟨b,o,t1,t2,e,rfl,m b o (fun e=>hv (by rw[e])) g,c,d⟩
theorem my{h h':Heap}{a:Addr}(m:∀b o,b≠a->h.get? b=some o->h'.get? b=some o):∀{vs:List Value} {ps:List (Int×Int)},fk h vs ps->(∀v∈vs,v≠.ref a)->fk h' vs ps
 |[],[],_,_=>trivial
 |v::vs,_::_,k,hv=>⟨zx k.1 (hv v QU) m,my m k.2 fun x hx=>hv x (QD _ hx)⟩
 |[],_::_,k,_=>k.elim
 |_::_,[],k,_=>k.elim
theorem qb{h:Heap}:∀{vs:List Value} {ps:List (Int×Int)},fk h vs ps->∃fs,KatTups h vs fs/\fs.length=vs.length/\∀f∈fs,∃i t,f=Value.int i t
 |[],[],_=>⟨[],trivial,rfl,fun f hf=>by cases hf⟩
 |v::vs,p::ps,k=>by
  obtain⟨fs,h1,h2,h3⟩:=qb k.2;obtain⟨b,o,t1,t2,e,hv,g,c,d⟩:=k.1;refine⟨Value.int p.1 t1::fs,⟨⟨b,o,_,e,hv,g,c,d,rfl⟩,h1⟩,by rw[QY,QY,h2],fun f hf=>?_⟩;rcases QM.mp hf with z|z
  ·exact⟨_,_,z⟩
  ·exact h3 f z
 |[],_::_,k=>k.elim
 |_::_,[],k=>k.elim
theorem xm{vs:List Value}{ps:List (Int×Int)}{Q:SortKind->Shared->Prop}(h:fk s.heap vs ps)(hn:0<vs.length)(q:Q (tuples' true) s):wpAny (model prog w) A (keyKind' vs.toArray) Q E s:=by
 obtain⟨fs,h1,h2,h3⟩:=qb h;refine kat_kind (T:=Value.type "int") h1 (by omega) (fun v hv A Q E s' _ q=>?_) (by decide +kernel) (by exact q);obtain⟨i,t,rfl⟩:=h3 v hv;exact wpAny_typeOf (typeIs_int s' i t) q
end
theorem J9{ps:List (Int×Int)}(nd:ps.Nodup):DG ps.length fun i j=>ltP (ps.getD i (0,0)) (ps.getD j (0,0)) where
 tr:=fun{i j k} hi hj hk h1 h2=>by simp only[ltP,decide_eq_true_eq]at *;omega
 asym:=fun{i j} hi hj h=>by simp only[ltP,decide_eq_true_eq,decide_eq_false_iff_not]at *;omega
 tot:=fun{i j} hi hj hne h=>by
  simp only[ltP,decide_eq_true_eq,decide_eq_false_iff_not]at *;have hd:ps.getD i (0,0)≠ps.getD j (0,0):=by
   rw[Qs,Qs,Q8 hi,Q8 hj];simp only[Qo];exact fun e=>hne ((List.getElem_inj nd).mp e)
  have:¬((ps.getD i (0,0)).1=(ps.getD j (0,0)).1/\(ps.getD i (0,0)).2=(ps.getD j (0,0)).2):=fun e=>hd (Prod.ext e.1 e.2);omega
theorem oA{prog:Program}{w:World}{A:Around}{E:Value->Shared->Prop}{s:Shared}{a:Addr}{vs:List Value}{n:Nat}{P:PySem.Fin->Shared->Prop}
  (g:s.heap.get? a=some (seqObj "list" vs.toArray n)) (h2:vs.length<2) (hP:P (Fin.done (Flow.ret Value.none)) { s with heap:=sortedHeap s.heap a vs vs.toArray }) :
  wpAny (model prog w) A (Builtin.«list.sort» { pos:=[Value.ref a] }) P E s:=by
 rw[list_sort_plain];have hS:vs.toArray.size=vs.length:=by simp
 have hz:vs.length<=sizeLine:=by unfold sizeLine;omega
 refine Q2 (listItems_at g rfl (Q2 (listUpdate_at g rfl ?_ (by rw[hS];exact hz) (by simp))));obtain⟨e1,g1⟩:∃e1,(s.heap.update a (Obj.mapSeq fun _=>#[])).get? a=some (seqObj "list" #[] e1):=⟨_,get?_update_seq g fun _=>#[]⟩;refine Q2 (seqEpoch_at g1 rfl (Q2 (wpAny_newTuple (Q2 (wpAny_newList (wpAny_holding ?_) (by simp))) (by simpa using hz))));have g2:(((s.heap.update a (Obj.mapSeq fun _=>#[])).push (seqObj "tuple" vs.toArray 0)).push (seqObj "list" #[] 0)).get? a=some (seqObj "list" #[] e1):=
  Q7 _ (Q7 _ g1)
 have n2:vs.toArray.size<2:=by rw[hS];omega
 dsimp only;rw[if_pos n2];refine Q2 (QQ ?_);rw[if_pos n2];refine Q2 (QQ ?_);have hout:Array.map (fun x=>x.snd) (arrOf (SortSt.mk' general' (vs.toArray.zip vs.toArray) #[] 7 none))=vs.toArray:=by
  show Array.map (fun x=>x.snd) (vs.toArray.zip vs.toArray)=vs.toArray;simp[List.map_snd_zip]
 refine Q2 (seqEpoch_at g2 rfl (Q2 (listUpdate_at g2 rfl ?_ (by simp) ?_)))
 ·have hfail:failedOf (SortSt.mk' general' (vs.toArray.zip vs.toArray) #[] 7 none)=none:=rfl;dsimp only at hfail ⊢;simp only[hfail,bne_self_eq_false,QC,if_false];have hP':=hP;rw[<-hout]at hP';exact QQ hP'
 ·dsimp only;rw[hout];rw[hS];omega
def LA(ps:List (Int×Int))(q:Array Nat):Prop:=Pm ps.length q/\Asc (fun i j=>ltP (ps.getD i (0,0)) (ps.getD j (0,0))) q ps.length
theorem oB{prog:Program}{w:World}{A:Around}{E:Value->Shared->Prop}{s:Shared}{a:Addr}{vs:List Value}{ps:List (Int×Int)}{n:Nat}{P:PySem.Fin->Shared->Prop}
  (g:s.heap.get? a=some (seqObj "list" vs.toArray n)) (hp:fk s.heap vs ps) (hv:∀v∈vs,v≠.ref a) (nd:ps.Nodup) (h64:ps.length<64)
  (k:∀q:Array Nat,LA ps q->P (Fin.done (Flow.ret Value.none)) { s with heap:=sortedHeap s.heap a vs (q.toList.map fun i=>vs.getD i Value.none).toArray }) :
  wpAny (model prog w) A (Builtin.«list.sort» { pos:=[Value.ref a] }) P E s:=by
 have hl:=n8 hp;by_cases h2:vs.length<2
 ·have hr:((Qi ps.length).toArray.toList.map fun i=>vs.getD i Value.none)=vs:=by
   rw[<-hl];refine List.ext_getElem? fun i=>?_;by_cases hi:i<vs.length
   ·simp[List.getElem?_range hi,Q8 hi]
   ·simp[ZK (Nat.le_of_not_lt hi),hi]
  have:=k (Qi ps.length).toArray ⟨vY,fun i j hij hj=>by omega⟩;rw[hr]at this;exact oA g h2 this
 ·refine qU g (by omega) (by omega) fun h' m=>?_;have hp':fk ({ s with heap:=h' }:Shared).heap vs ps:=my m hp hv;refine xm hp' (by omega) ⟨rfl,?_⟩;have hl':vs.length=ps.length:=hl;rw[hl'];refine Fx (J9 nd) (fun i j C hi hj c=>?_) (by omega) fun q P1 P2=>⟨rfl,k q ⟨P1,P2⟩⟩;exact Gb (n9 hp' hi) (n9 hp' hj) c
theorem mz{h:Heap}:∀{vs:List Value} {ps:List (Int×Int)},fk h vs ps->∀v∈vs,∀a,h.objs.size<=a->v≠.ref a
 |[],[],_,v,hv,_,_=>by cases hv
 |_::_,_::_,k,v,hv,a,ha=>by
  rcases QM.mp hv with z|z
  ·obtain⟨b,o,t1,t2,e,e1,g,_⟩:=k.1;rw[z,e1];intro e2;cases e2;exact absurd (QB g) (Nat.not_lt.mpr ha)
  ·exact mz k.2 v z a ha
 |[],_::_,k,_,_,_,_=>k.elim
 |_::_,[],k,_,_,_,_=>k.elim
theorem sf{prog:Program}{w:World}{A:Around}{E:Value->Shared->Prop}{s:Shared}{l:Addr}{vs:List Value}{ps:List (Int×Int)}{Q:Value->Shared->Prop}
  (hL:s.heap.IsList l vs.toArray) (hp:fk s.heap vs ps) (nd:ps.Nodup) (h64:ps.length<64)
  (k:∀q:Array Nat,LA ps q->Q (Value.ref (s.heap.objs.size+1)) { s with heap:=sortedAll s.heap vs (q.toList.map fun i=>vs.getD i Value.none).toArray }) :
  wpAny (model prog w) A (call (Value.builtin "sorted") [Value.ref l]) Q E s:=by
 have hl:=n8 hp;have hz:vs.length<=sizeLine:=by unfold sizeLine;omega
 refine Calls.call_function_entry kind_sorted plain_sorted entry_sorted (args_sorted1 _) ?_;unfold Builtin.«sorted»;refine Q2 (m:=checkCount "sorted" 1 1 _) (QQ (Q2 (collect_list hL (Q2 (wpAny_newList ?_ hz)) hz)));have hsz:((s.heap.push (seqObj "list" #[] 0)).update s.heap.objs.size (Obj.mapSeq fun x=>x++vs.toArray)).objs.size=s.heap.objs.size+1:=by
  rw[Heap.size_update,size_push']
 have gL:(((s.heap.push (seqObj "list" #[] 0)).update s.heap.objs.size (Obj.mapSeq fun x=>x++vs.toArray)).push (seqObj "list" vs.toArray 0)).get? (s.heap.objs.size+1)=some (seqObj "list" vs.toArray 0):=by
  rw[<-hsz];exact QF _ rfl
 have old:∀b o,s.heap.get? b=some o->(((s.heap.push (seqObj "list" #[] 0)).update s.heap.objs.size (Obj.mapSeq fun x=>x++vs.toArray)).push (seqObj "list" vs.toArray 0)).get? b=some o:=fun b o g=>by
  refine Q7 _ ?_;rw[Heap.get?_update_ne _ _ _ _ (Qr (QB g))];exact Q7 _ g
 show wpAny _ _ _ _ _ { s with heap:=((s.heap.push (seqObj "list" #[] 0)).update s.heap.objs.size (Obj.mapSeq fun x=>x++vs.toArray)).push (seqObj "list" vs.toArray 0) };rw[show Value.ref ((s.heap.push (seqObj "list" #[] 0)).update s.heap.objs.size (Obj.mapSeq fun x=>x++vs.toArray)).objs.size=Value.ref (s.heap.objs.size+1)from by rw[hsz]];refine Q2 (wpAny_holding (wpAny_call_entry slot_list_sort ⟨_,gL,rfl⟩ entry_list_sort (oB (n:=0) gL (my (a:=s.heap.objs.size+1) (fun b o _ g=>old b o g) hp fun v hv=>mz hp v hv _ (by omega)) (fun v hv=>mz hp v hv _ (by omega)) nd h64 fun q hq=>⟨_,rfl,?_⟩) (args_list_sort _)));exact QQ ⟨_,rfl,k q hq⟩
def PrL(K:Q1)(H:Hp):List V->List (Int×Int)->Prop
 |[],[]=>True
 |x::xs,p::ps=>(∃a,x=.ref a/\SqT K H a [.int p.1,.int p.2])/\PrL K H xs ps
 |_,_=>False
def vS(K:Q1):List V->Hp->VK->Prop:=fun xs H Q=>∃(p:Addr) (ys:List V) (ps:List (Int×Int)),xs=[.ref p]/\SqL K H p ys/\PrL K H ys ps/\ps.Nodup/\ps.length<64/\
 ∀(l:Addr) (q:Array Nat),H l=none->LA ps q->Q (.ref l) (upd H l (.lst (q.toList.map fun i=>ys.getD i .non)))
theorem zm{K:Q1}{H:Hp}:∀{ys:List V} {ps:List (Int×Int)},PrL K H ys ps->ys.length=ps.length
 |[],[],_=>rfl
 |_::_,_::_,k=>by rw[QY,QY,zm k.2]
 |[],_::_,k=>k.elim
 |_::_,[],k=>k.elim
theorem Ed{X:Cx}{pins:List (Addr×Obj)}{σ:L2.St}{H:Hp}{s:Shared}(I:Inv X pins σ H s):∀{ys:List V} {ps:List (Int×Int)} {vs:List Value},PrL X.K H ys ps->bU ys vs->fk s.heap vs ps
 |[],[],_,_,r=>by cases r;trivial
 |_::_,p::ps,_,k,r=>by
  cases r with
  |cons r1 r2=>
   refine⟨?_,Ed I k.2 r2⟩;obtain⟨a,rfl,hs⟩:=k.1;obtain⟨its,rv,⟨o,g,c,n,d⟩,_⟩:=I.tuple hs;cases r1;cases rv with
   |cons u1 u2=>cases u2 with
    |cons u3 u4=>
     cases u4;obtain⟨t1,rfl⟩:=u1;obtain⟨t2,rfl⟩:=u3;exact⟨a,o,t1,t2,n,rfl,g,c,d⟩
 |[],_::_,_,k,_=>k.elim
 |_::_,[],_,k,_=>k.elim
theorem BI{ys:List V}{vs:List Value}(r:bU ys vs){i:Nat}(hi:i<ys.length):cD (ys.getD i .non) (vs.getD i Value.none):=by
 induction r generalizing i with
 |nil=>simp at hi
 |cons r1 r2 ih=>
  cases i with
  |zero=>exact r1
  |succ i=>exact ih (by simpa using hi)
theorem vF{ys:List V}{vs:List Value}(r:bU ys vs):∀(is:List Nat),(∀i∈is,i<ys.length)->bU (is.map fun i=>ys.getD i .non) (is.map fun i=>vs.getD i Value.none)
 |[],_=>.nil
 |i::is,h=>.cons (BI r (h i QU)) (vF r is fun j hj=>h j (QD _ hj))
theorem zr{n:Nat}{q:Array Nat}(P:Pm n q):∀i∈q.toList,i<n:=fun i hi=>by
 obtain⟨j,hj,e⟩:=List.mem_iff_getElem.mp hi;have hj':j<q.size:=by simpa using hj
 have:=P.bd j (by rw[<-P.sz];exact hj');rw[ZO,ZJ hj']at this;rw[Array.getElem_toList]at e;rw[<-e];exact this
theorem zC{X:Cx}:fY X (.builtin "sorted") (vS X.K):=by
 rintro pins s σ H xs us Q I r ⟨p,ys,ps,rfl,hL,hp,nd,h64,q⟩;obtain⟨u,rfl,ru⟩:=ng r;cases ru;obtain⟨its,rv,pl,hz⟩:=I.list hL;have eK:=zm hp;refine sf pl.isList (Ed I hp rv) nd h64 fun qa a1=>?_;obtain⟨e,ge⟩:=sortedAll_at s.heap its (qa.toList.map fun i=>its.getD i Value.none).toArray;have hf:=I.hok.fresh (Nat.le_succ s.heap.objs.size);have hq:qa.toList.length=ps.length:=by rw[ZU,a1.1.sz]
 refine⟨.ref (s.heap.objs.size+1),_,I.laid (o:=.lst (qa.toList.map fun i=>ys.getD i .non)) (t':=s.toks) (fun b o e=>sortedAll_old e) (Nat.le_succ _) ⟨by rw[Q5,hq];unfold sizeLine;omega,_,e,vF rv qa.toList (by rw[eK];exact zr a1.1),ge⟩,rfl,q _ qa hf a1⟩
theorem uJ{p:Int×Int}:ltP p p=false:=by simp[ltP]
theorem CL{p q:Int×Int}(h:ltP p q=true)(k:ltP q p=true):False:=by simp only[ltP,decide_eq_true_eq]at h k;omega
theorem wY:∀{L M:List (Int×Int)},L.Pairwise (fun a b=>ltP a b=true)->M.Pairwise (fun a b=>ltP a b=true)->(∀x,x∈L↔x∈M)->L=M
 |[],[],_,_,_=>rfl
 |[],m::M,_,_,h=>by have:=(h m).mpr QU;cases this
 |l::L,[],_,_,h=>by have:=(h l).mp QU;cases this
 |l::L,m::M,h1,h2,h=>by
  obtain⟨a1,b1⟩:=ZN.mp h1;obtain⟨a2,b2⟩:=ZN.mp h2;have e:l=m:=by
   rcases QM.mp ((h l).mp QU)with z|z
   ·exact z
   ·rcases QM.mp ((h m).mpr QU)with y|y
    ·exact y.symm
    ·exact(CL (a2 l z) (a1 m y)).elim
  subst e;congr 1;refine wY b1 b2 fun x=>⟨fun hx=>?_,fun hx=>?_⟩
  ·rcases QM.mp ((h x).mp (QD _ hx))with z|z
   ·subst z;have:=a1 x hx;rw[uJ]at this;cases this
   ·exact z
  ·rcases QM.mp ((h x).mpr (QD _ hx))with z|z
   ·subst z;have:=a2 x hx;rw[uJ]at this;cases this
   ·exact z
open Classical in
def iZ(ps:List (Int×Int)):List (Int×Int):=if h:∃L:List (Int×Int),L.Pairwise (fun a b=>ltP a b=true)/\∀x,x∈L↔x∈ps then h.choose else[]
theorem kQ{L ps:List (Int×Int)}(h1:L.Pairwise (fun a b=>ltP a b=true))(h2:∀x,x∈L↔x∈ps):iZ ps=L:=by
 have h:∃L:List (Int×Int),L.Pairwise (fun a b=>ltP a b=true)/\∀x,x∈L↔x∈ps:=⟨L,h1,h2⟩;unfold iZ;rw[dif_pos h];obtain⟨k1,k2⟩:=h.choose_spec;exact wY k1 h1 fun x=>(k2 x).trans (h2 x).symm
theorem A9{ps:List (Int×Int)}{q:Array Nat}(h:LA ps q):iZ ps=q.toList.map fun i=>ps.getD i (0,0):=by
 obtain⟨P,A⟩:=h;have hl:q.toList.length=ps.length:=by rw[ZU,P.sz]
 have gd:∀i (hi:i<q.toList.length),q.getD i 0=q.toList[i]:=fun i hi=>by
  have hi':i<q.size:=by simpa using hi
  rw[ZO,ZJ hi',Array.getElem_toList];rfl
 have h1:(q.toList.map fun i=>ps.getD i (0,0)).Pairwise (fun a b=>ltP a b=true):=by
  rw[List.pairwise_iff_getElem];intro i j hi hj hij;rw[Q5]at hi hj;rw[List.getElem_map,List.getElem_map,<-gd i hi,<-gd j hj];exact A i j hij (by omega)
 have nd:(q.toList.map fun i=>ps.getD i (0,0)).Nodup:=h1.imp fun{a b} h e=>by subst e;rw[uJ]at h;cases h
 have sub:∀x∈q.toList.map fun i=>ps.getD i (0,0),x∈ps:=fun x hx=>by
  obtain⟨i,hi,rfl⟩:=QR.mp hx;have:=zr P i hi;rw[Qs,Q8 this];exact List.getElem_mem this
 refine kQ h1 fun x=>⟨sub x,fun hx=>?_⟩;refine Classical.byContradiction fun hn=>?_;have:=List.Nodup.length_le_of_subset (ZG.mpr ⟨hn,nd⟩) (l₂:=ps) fun y hy=>by
  rcases QM.mp hy with z|z
  ·rw[z];exact hx
  ·exact sub y z
 rw[QY,Q5,hl]at this;omega
def pP(p:Int×Int):U:=.tup [.int p.1,.int p.2]
def qd:List U->Option (List (Int×Int))
 |[]=>some []
 |.tup [.int a,.int b]::r=>(qd r).map ((a,b)::·)
 |_=>none
theorem qc:∀ps:List (Int×Int),qd (ps.map pP)=some ps
 |[]=>rfl
 |p::ps=>by rw[QX,pP,qd,qc ps];rfl
theorem sD:∀{us:List U} {ps:List (Int×Int)},qd us=some ps->us=ps.map pP
 |[],ps,h=>by cases h;rfl
 |u::us,ps,h=>by
  unfold qd at h;split at h
  ·rename_i e;cases e
  ·rename_i e;injection e with e1 e2;subst e1;subst e2;obtain⟨qs,e,h⟩:=Qn.mp h;subst h;rw[QX,<-sD e];rfl
  ·cases h
section
variable{K:Q1}{m:List Addr}{H:Hp}
theorem Ec:∀{ys:List V} {ps:List (Int×Int)},IsL K m H ys (ps.map pP)->PrL K H ys ps
 |ys,[],h=>by rw[h.of_nil];trivial
 |ys,p::ps,h=>by
  obtain⟨y,r,rfl,i,t⟩:=h.of_cons;obtain⟨a,xs,rfl,hs,il⟩:=i.of_tup;have e:xs=[p.1,p.2].map V.int:=IsL.ints (ns:=[p.1,p.2]) il;subst e;exact⟨⟨a,rfl,hs⟩,Ec t⟩
theorem zo:∀{ys:List V} {ps:List (Int×Int)} {i:Nat},PrL K H ys ps->i<ps.length->Is K m H (ys.getD i .non) (pP (ps.getD i (0,0)))
 |[],[],i,_,h=>by simp at h
 |y::ys,p::ps,0,k,_=>by
  obtain⟨a,e,hs⟩:=k.1;show Is K m H y (pP p);rw[e];exact .tup_ hs (iA [p.1,p.2])
 |y::ys,p::ps,i+1,k,h=>by
  show Is K m H (ys.getD i .non) (pP (ps.getD i (0,0)));exact zo k.2 (by simpa using h)
 |[],_::_,_,k,_=>k.elim
 |_::_,[],_,k,_=>k.elim
theorem zk{ys:List V}{ps:List (Int×Int)}(k:PrL K H ys ps):∀is:List Nat,(∀i∈is,i<ps.length)->IsL K m H (is.map fun i=>ys.getD i .non) (is.map fun i=>pP (ps.getD i (0,0)))
 |[],_=>.nil_
 |i::is,h=>.cons_ (zo k (h i QU)) (zk k is fun j hj=>h j (QD _ hj))
end
open Classical in
def iE:Fn
 |[.ref l],S=>match S[l]? with
  |some (.lst us)=>(qd us).bind fun ps=>if ps.Nodup/\ps.length<64 then some (.ref S.length,S++[.lst ((iZ ps).map pP)])else none
  |_=>none
 |_,_=>none
theorem zy{K:Q1}:nz K (vS K) iE:=by
 intro m S H us vs u S' Q sr i hf post;match us,hf with
 |[.ref l],hf=>
  obtain⟨v,rfl,iv⟩:=i.one;obtain⟨a,ha,rfl⟩:=iv.of_ref;simp only[iE]at hf;split at hf<;>try cases hf
  rename_i ws hS;obtain⟨ps,hn,h⟩:=Q0.mp hf;split at h<;>try cases h
  have hc:ps.Nodup/\ps.length<64:=by assumption
  obtain⟨a',ha',xs,hx,la⟩:=sr.get hS;rw[ha]at ha';cases ha';rw[sD hn]at la;have pr:=Ec la;refine⟨a,xs,ps,rfl,SqL.of hx,pr,hc.1,hc.2,fun p q hp aq=>?_⟩;have il:=zk (m:=m) pr q.toList (zr aq.1);have e:(q.toList.map fun i=>pP (ps.getD i (0,0)))=(iZ ps).map pP:=by rw[A9 aq,Qg];rfl
  rw[e]at il;exact dX sr il post hp
section
variable{X:Cx}{K:Q1}
def D8:V->List V->Hp->VK->Prop:=fun x vs H Q=>∃(l:Addr) (ns:List Int) (z:Int) (j:Nat),x=.ref l/\vs=[.int z]/\H l=some (.lst (ns.map V.int))/\ns[j]?=some z/\(∀m,m<j->ns[m]?≠some z)/\j<1000000/\Q (.int (j:Nat)) H
def Aa(z:Int):Value->Bool
 |.int i _=>i == z
 |_=>false
theorem rW{ns:List Int}{its:List Value}(r:bU (ns.map V.int) its){i:Nat}{v:Value}(h:its[i]?=some v):∃n t,ns[i]?=some n/\v=Value.int n t:=by
 have hi:i<its.length:=(Q9.mp h).1;have hl:=r.length;rw[Q5]at hl;have hn:i<ns.length:=by omega
 obtain⟨u,e1,e2⟩:=r.get (i:=i) (x:=.int ns[i]) (by rw[Qb,Q8 hn];rfl);rw[h]at e1;cases e1;obtain⟨t,e⟩:=e2;exact⟨_,t,Q8 hn,e⟩
theorem CD:MtM X "list.index" D8:=by
 intro pins s σ H x vs v us Q I rx rv h;obtain⟨l,ns,z,j,rfl,rfl,hH,hj,hm,hb,q⟩:=h;cases rx;obtain⟨u,rfl,ru⟩:=rv.one;obtain⟨tz,rfl⟩:=ru;obtain⟨_,its,n,r,hl,e⟩:=I.lstM hH;have eK:=r.length;rw[Q5]at eK;have hj':j<its.toArray.size:=by have:=(Q9.mp hj).1;simp;omega
 have at_:∀(m:Nat) (hm:m<its.toArray.size),∃k t,ns[m]?=some k/\its.toArray[m]=Value.int k t:=fun m hm=>by
  have hm':m<its.length:=by simpa using hm
  obtain⟨k,t,e1,e2⟩:=rW r (Q8 hm');exact⟨k,t,e1,by simpa using e2⟩
 refine call_meets PySem.F.slot_list_index ⟨_,e,rfl⟩ PySem.F.entry_list_index (PySem.F.args_list_index_2 _ _) (PySem.MeetsSeq.list_index l its.toArray n (Value.int z tz) (Aa z) (fun y hy=>?_) j hj' (by omega) ?_ fun m hm1 hm2=>?_) ⟨e,?_⟩
 ·obtain⟨m,hm1,rfl⟩:=Array.mem_iff_getElem.mp hy;obtain⟨k,t,_,e2⟩:=at_ m hm1;rw[e2];exact PySem.MeetsSeq.EqGives.int _ _ _ _
 ·obtain⟨k,t,e1,e2⟩:=at_ j hj';rw[e2];rw[hj]at e1;cases e1;simp[Aa]
 ·obtain⟨k,t,e1,e2⟩:=at_ m hm1;rw[e2];simp only[Aa,beq_eq_false_iff_ne];intro e3;exact hm m hm2 (by rw[e1,e3])
 ·exact⟨.int (j:Nat),_,I.kept (fun b o g=>g),⟨_,rfl⟩,q⟩
theorem En:∀{ns:List Int} {z:Int} {k:Nat} (h:k<ns.length),ns[k]=z->ns.idxOf z<=k
 |[],_,_,h,_=>absurd h (Nat.not_lt_zero _)
 |n::ns,z,0,_,e=>by
  have:n=z:=e;subst this;simp
 |n::ns,z,k+1,h,e=>by
  rw[List.idxOf_cons];have:=En (ns:=ns) (z:=z) (k:=k) (by simpa using h) (by simpa using e);cases (n == z)<;>simp<;>omega
def oQ:U->List U->Sto->Option (U×Sto)
 |.ref l,[.int z],S=>match S[l]? with
  |some (.lst us)=>(qW us).bind fun ns=>if z∈ns/\ns.length<=LIM then some (.int (ns.idxOf z:Nat),S)else none
  |_=>none
 |_,_,_=>none
theorem Gg:MtP K D8 oQ:=by
 intro m S H x v us vs u S' Q sr ix i hf post;match x,us,hf with
 |.ref l,[.int z],hf=>
  simp only[oQ]at hf;split at hf<;>try cases hf
  rename_i ws hS;obtain⟨ns,hn,h⟩:=Q0.mp hf;split at h<;>try cases h
  have hk:z∈ns/\ns.length<=LIM:=by assumption
  obtain⟨a,ha,rfl⟩:=ix.of_ref;obtain⟨a',ha',xs,hx,la⟩:=sr.get hS;rw[ha]at ha';cases ha';obtain⟨y,rfl,iy⟩:=i.one;rw[lS hn]at la;rw[la.ints]at hx;have hlt:ns.idxOf z<ns.length:=List.idxOf_lt_length_of_mem hk.1;have hL:ns.length<=100000:=hk.2;refine⟨a,ns,z,ns.idxOf z,rfl,by rw[iy.of_int],hx,?_,fun k hk e=>?_,by omega,post m _ _ .refl sr .int_⟩
  ·rw[Q8 hlt,List.getElem_idxOf]
  ·obtain⟨h1,h2⟩:=Q9.mp e;exact absurd (En h1 h2) (Nat.not_le.mpr hk)
variable{e:Expr}{es:List Expr}{co:CE}{cr:CA}{o:Expr}{apos cpos:Pos}
theorem zc (ho : QE X o co) (ha : QA X (e :: es) cr) (hbase : attributeBase o "index" X.env (eval o X.env) = eval o X.env := by rfl) (hfew : ((backTo cpos (starEach (e :: es) X.env)).all (fun x => !x.1) && (backToKw cpos (keywordEach [] X.env)).all (fun x => x.1.isSome)
   && decide ((e::es).length+([]:List Keyword).length+(if ([]:List Keyword).isEmpty then 0 else 1)<30))=true:=by rfl) (hline:(apos.endLine == cpos.line)=true:=by rfl) (hs:starEach (e::es) X.env=(false,eval e X.env)::starEach es X.env:=by rfl) (hplain:(backTo cpos (starEach es X.env)).any (·.1)=false:=by rfl) :
  QE X (.Call (.Attribute o "index" apos) (e::es) [] cpos) (cBM oQ co cr):=(vB PySem.F.plainAttrs_list PySem.F.slot_list_index PySem.F.type_list_index CD ho ha.h hbase hfew hline hs hplain).imp (uh Gg)
end
theorem FD{prog:Program}{w:World}{d:Addr}{o:Obj}{es:Array DictEntry}{ep:Nat}(hd:(d == sysModules)=false)(hc:o.ExactDict)(he:o.data=.dict es ep) :
  KdlSrc prog w "dict" d d es.size (fun i v=>∃h:i<es.size,v=es[i].key) (fun h=>h.get? d=some o) where
 type:=fun s g=>⟨o,g,hc.1⟩
 there:=fun h g=>⟨QB g,QB g⟩
 keep:=fun h h' g m=>m d (.inl rfl) o g
 notList:=by decide
 notTuple:=by decide
 hint:=fun A E s Q g q=>kdl_hint_dict ⟨o,g,hc.1⟩ q
 iter:=fun A s hh g=>by
  refine⟨_,fun i h=>h.IsKeyIter s.heap.objs.size d i es.size ep/\h.get? d=some o,fun E Q q=>vP hd g hc he q,?_,⟨⟨_,QF _ rfl,rfl,rfl⟩,Q7 _ g⟩⟩;refine⟨fun b hb=>by simp at hb;simp[hb],fun i h h' st m=>?_,fun i s' Q E hi st k=>?_,fun s' Q E st k=>?_,fun i s' Q E st q=>?_⟩
  ·obtain⟨⟨o1,g1,c1,d1⟩,g2⟩:=st;exact⟨⟨o1,m _ (by simp) o1 g1,c1,d1⟩,m _ (by simp) o g2⟩
  ·refine vQ st.1 st.2 he hi fun h' it' sb=>k _ h' _ ⟨hi,rfl⟩ ⟨it',?_⟩ fun b o' hb g'=>?_
   ·have:d≠s.heap.objs.size:=Qr (QB g);rw[sb.2 d this];exact st.2
   ·rw[sb.2 b (by simpa using hb)];exact g'
  ·exact yY hh st.1 st.2 he (QZ _) fun h' eb=>k h' _ fun b o' hb g'=>eb b o' (by simpa using hb) g'
  ·exact wpAny_pyIter_keyiter st.1 q
end OP
namespace OP
open PySem PySem.Spec PyProof.Rows L2 OG
section
variable{P:Program}{w:World}{K:Q1}{h base:Heap}{mg:Str->Option Value}{x q:Str}{st:Stmt}{f C:Addr}{oc:Value}{od an:Option Addr}{osl:Array (Option Value)}{kV doc pm cdv ct:Value}{ps N:List Str}{k:Nat}{c:CS}{cl:Cl}
def Ou(K:Q1)(x q:Str)(st:Stmt)(f:Addr):Prop:=∃fd,Fun K x q st f fd
abbrev fAt(x q:Str)(st:Stmt)(oc:Value)(od an:Option Addr)(osl:Array (Option Value))(kV doc pm cdv ct:Value):Obj:=⟨oc,od,.func (PySem.W.fnOf x q (kB st) (dZ st) (ax st) .none kV doc pm an cdv ct),osl⟩
def Lb(K:Q1)(x:Str)(st:Stmt):Prop:=∃f,PySem.W.nsIn K mainGlobals x=some (some (.ref f))/\Ou K x x st f
theorem O5(a:PySem.W.nsIn K mainGlobals x=some (some (.ref f)))(l:K.lookup f=some (fAt x x st oc od an osl kV doc pm cdv ct))(c:PySem.W.codeIn K cdv x=true)(k:PySem.W.keepIn K (.ref f)=true):Lb K x st:=⟨f,a,_,Ep l c k⟩
def La(K:Q1):List (Str×Stmt)->Prop
 |[]=>True
 |(x,st)::r=>Lb K x st/\La K r
def K8(K:Q1)(C:Addr)(x q:Str)(st:Stmt):Prop:=∃f,PySem.W.findIn K (.ref C) x=some (some (.ref f))/\PySem.W.isFn K (.ref f)=true/\Ou K x q st f
theorem N3(a:PySem.W.findIn K (.ref C) x=some (some (.ref f)))(i:PySem.W.isFn K (.ref f)=true)(l:K.lookup f=some (fAt x q st oc od an osl kV doc pm cdv ct))(c:PySem.W.codeIn K cdv q=true)(k:PySem.W.keepIn K (.ref f)=true):K8 K C x q st:=⟨f,a,i,_,Ep l c k⟩
def K7(K:Q1)(C:Addr):List (Str×Str×Stmt)->Prop
 |[]=>True
 |(x,q,st)::r=>K8 K C x q st/\K7 K C r
def K6(K:Q1)(C:Addr):List Str->Prop
 |[]=>True
 |x::r=>PySem.W.findIn K (.ref C) x=some none/\K6 K C r
def Lz(K:Q1):List Str->Prop
 |[]=>True
 |x::r=>PySem.W.nsIn K mainGlobals x=some none/\Lz K r
structure Hv(K:Q1)(x:Str)(C:Addr)(ns:List Str)(ms:List (Str×Str×Stmt)):Prop where
 a:PySem.W.nsIn K mainGlobals x=some (some (.ref C))
 pg:PySem.W.plainGet K C Str.empty=true
 hd:PySem.W.hasDictIn K C=true
 po:PySem.W.plainOver K C=true
 sa:PySem.W.findIn K (.ref C) "__setattr__"=some (some (.builtin "object.__setattr__"))
 mc:PySem.W.makesIn K C=true
 kc:PySem.W.keepIn K (.ref C)=true
 nf:K6 K C ns
 ms:K7 K C ms
theorem K6.nas:∀{ns:List Str},K6 K C ns->∀f∈ns,PySem.W.findIn K (.ref C) f=some none
 |[],_,f,h=>by cases h
 |x::r,h,f,hf=>by
  rcases QM.mp hf with rfl|z
  ·exact h.1
  ·exact K6.nas h.2 f z
theorem Hv.tc{ns:List Str}{ms:List (Str×Str×Stmt)}(h:Hv K x C ns ms):TC K (⟨C,ns⟩:Cl) ns:=⟨⟨h.pg,h.hd,h.po,h.sa⟩,rfl,fun f hf=>h.nf.nas f hf⟩
abbrev Bd(x q:Str)(st:Stmt)(ps:List Str):Prop:=∀us:List Value,us.length=ps.length->∀(kV doc pm:Value) (an:Option Addr) (cdv ct:Value),bindArgs (PySem.W.fnOf x q (kB st) (dZ st) (ax st) .none kV doc pm an cdv ct) ⟨us,[]⟩=pure (ps.zip us)
theorem Lb.df(d:Lb K x st)(X:K.In h)(G:h.Ns mainGlobals mg)(b:Bd x x st ps:=by first|exact Hs fun _ _ _ _ _ _=>rfl|(repeat (first|exact Hs fun _ _ _ _ _ _=>rfl|refine Nw fun _=>?_))):Def K mg x st ps:=by
 obtain⟨f,a,fd,F⟩:=d;exact⟨f,fd,F,F.binds fun kV doc pm an cdv ct us hl=>b us hl kV doc pm an cdv ct,PySem.W.mg_of X G a⟩
def MtD(K:Q1)(C:Addr)(x q:Str)(st:Stmt)(ps:List Str):Prop:=∃fa fd,Fun K x q st fa fd/\iT K fd ps []/\K9 K C x fa
theorem K8.mt(d:K8 K C x q st)(b:Bd x q st ps:=by first|exact Hs fun _ _ _ _ _ _=>rfl|(repeat (first|exact Hs fun _ _ _ _ _ _=>rfl|refine Nw fun _=>?_))):MtD K C x q st ps:=by
 obtain⟨f,a,i,fd,F⟩:=d;exact⟨f,fd,F,F.binds fun kV doc pm an cdv ct us hl=>b us hl kV doc pm an cdv ct,a,i,F.kp⟩
theorem MtD.pure(d:MtD K cl.C x q st ps)(S:aL N ps (ax st))
  (hb:∀(f:Addr) (cdv:Value) (A:Around) (outer:List Env) (s:Shared) (H:Hp) (E:XK),hU k (A.deeper (envOfC q (ax st) s.heap.objs.size f cdv))->WSs (wL CX0 P w K mg base N q (ax st) f cdv A outer s H E).nox (dZ st) (tS K c)) :
  Bk P w K mg base cl x (k+1) ps (fnU N.length ps.length c):=by
 obtain⟨fa,fd,F,b,m⟩:=d;exact⟨fa,fd,m,F.pure S (hb fa),b⟩
def MkD(K:Q1)(mg:Str->Option Value)(C:Addr)(x q:Str)(st:Stmt)(ps:List Str):Prop:=∃fa fd,Fun K "__init__" q st fa fd/\iT K fd ps []/\Mk K C fa/\mg x=some (.ref C)
theorem Hv.mkd{ns:List Str}{ms:List (Str×Str×Stmt)}(h0:Hv K x C ns ms)(d:K8 K C "__init__" q st)(X:K.In h)(G:h.Ns mainGlobals mg)(b:Bd "__init__" q st ps:=by first|exact Hs fun _ _ _ _ _ _=>rfl|(repeat (first|exact Hs fun _ _ _ _ _ _=>rfl|refine Nw fun _=>?_))):MkD K mg C x q st ps:=by
 obtain⟨f,a,i,fd,F⟩:=d;exact⟨f,fd,F,F.binds fun kV doc pm an cdv ct us hl=>b us hl kV doc pm an cdv ct,⟨h0.mc,a,i,h0.kc⟩,PySem.W.mg_of X G h0.a⟩
theorem MkD.pure{NS:List Str}(d:MkD K mg cl.C x q st ps)(T:TC K cl NS)(S:aL N ps (ax st))
  (hb:∀(f:Addr) (cdv:Value) (A:Around) (outer:List Env) (s:Shared) (H:Hp) (E:XK),hU k (A.deeper (envOfC q (ax st) s.heap.objs.size f cdv))->WSs (wL CX0 P w K mg base N q (ax st) f cdv A outer s H E).nox (dZ st) (tS K c))
  (nd:NS.Nodup:=by decide +kernel) (few:NS.length<1000:=by decide):CMk P w K mg base cl x (k+1) ps (fnU N.length ps.length c):=by
 obtain⟨fa,fd,F,b,m,g⟩:=d;exact⟨⟨fa,fd,m,F.pure S (hb fa),b,g⟩,by rw[T.ns];exact nd,by rw[T.ns];exact few⟩
def Oq:List Str:=["len","isinstance","int","bool","str","tuple","list","range","min","sum","all","zip","sorted","dict","enumerate","any","max","set"]
theorem Lz.blt(z:Lz K Oq)(X:K.In h)(G:h.Ns mainGlobals mg):Blt mg:=by
 obtain⟨a,b,c,d,e,f,g,i,j,k,l,m,n,o,p,q,r,s,-⟩:=z;constructor<;>(refine PySem.W.mg_none_of X G ?_;assumption)
theorem Kd{sp:Sp}{fa:Addr}(d:Lb K "law" st)(X:K.In h)(G:h.Ns mainGlobals mg)(hfa:mg "law"=some (.ref fa))(ok:∀fd,Fun K "law" "law" st fa fd->∀base:Heap,nc P w K mg base CX0 k fa fd ["script"] sp)
  (b:∀(kV doc pm:Value) (an:Option Addr) (cdv ct v:Value),bindArgs (PySem.W.fnOf "law" "law" (kB st) (dZ st) (ax st) .none kV doc pm an cdv ct) ⟨[v],[]⟩=pure [(("script":Str),v)]:=by intros;rfl) :
  ∃fd:FuncData,(∀(s:Shared) (v:Value),BindsTo s fd ⟨[v],[]⟩ [("script",v)])/\∀base:Heap,K.In base->base.Ns mainGlobals mg->nc P w K mg base CX0 k fa fd ["script"] sp:=by
 obtain⟨f,a,fd,F⟩:=d;cases hfa.symm.trans (PySem.W.mg_of X G a);refine⟨fd,fun s v=>?_,fun base _ _=>ok fd F base⟩;obtain⟨oc,od,kV,doc,pm,an,cdv,ct,osl,rfl,lk,hcd⟩:=F.ex;exact .of_eq (b kV doc pm an cdv ct v)
theorem O7{i:Int}{t:Tok}(X:K.In h)(G:h.Ns mainGlobals mg)(a:PySem.W.nsIn K mainGlobals x=some (some (.int i t))):∃t,mg x=some (.int i t):=⟨_,PySem.W.mg_of X G a⟩
end
end OP
namespace OP
open PySem PySem.Spec PyProof PyProof.Rows L2 OG PySem.W
section
variable{P:Program}{w:World}
def NI(P:Program)(w:World)(h:Heap)(k:List Int)(v:Value):Prop:=∃b,v=.ref b/\IsTupleKey (intKind P w) h k b
def vt(P:Program)(w:World)(h:Heap)(ks:NK)(a:Addr):Prop:=∃o its n,h.get? a=some o/\o.cls=.type "tuple"/\o.data=.seq its n/\Paired (NI P w h) ks its.toList
def dNK(ks:NK):Nat:=(ks.map fun k=>k.length+1).sum
variable{h:Heap}{s:Shared}{A:Around}{E:Value->Shared->Prop}
theorem vt.ty{ks:NK}{a:Addr}(x:vt P w s.heap ks a):s.TypeIs (.ref a) "tuple":=let ⟨o,_,_,g,c,_⟩:=x;⟨o,g,c⟩
theorem Ei:∀{ks ls:NK} {vs:List Value},Paired (NI P w h) ks vs->Paired (NI P w h) ls vs->ks=ls
 |_,_,_,.nil,.nil=>rfl
 |_,_,_,.cons a r,.cons b t=>by
  obtain⟨x,rfl,p⟩:=a;obtain⟨y,e,q⟩:=b;cases e;rw[p.inj q,Ei r t]
theorem vt.inj{ks ls:NK}{a:Addr}(x:vt P w h ks a)(y:vt P w h ls a):ks=ls:=by
 obtain⟨o,its,n,g,_,d,r⟩:=x;obtain⟨o',its',n',g',_,d',r'⟩:=y;rw[g]at g';cases g';rw[d]at d';cases d';exact Ei r r'
theorem vt.keeps{h':Heap}{ks:NK}{a d:Addr}{o:Obj}{es ep}(x:vt P w h ks a)(g0:h.get? d=some o)(d0:o.data=.dict es ep)(sb:ZT d h h'):vt P w h' ks a:=by
 obtain⟨ob,its,n,g,c,e,r⟩:=x;have ne:a≠d:=fun z=>by subst z;rw[g]at g0;cases g0;rw[e]at d0;cases d0
 exact⟨ob,its,n,(sb.2 a ne).trans g,c,e,Paired.mapP r fun k v ⟨b,e1,t⟩=>⟨b,e1,t.keeps g0 d0 sb⟩⟩
theorem Gs{ks:NK}{a:Addr}{Q:Int->Shared->Prop}(hu:A.units+1<cLine)(hk:vt P w s.heap ks a)(q:Q (hNK ks) { s with toks:=s.toks+(dNK ks+1) }):wpAny (model P w) A (pyHash (.ref a)) Q E s:=by
 have T:=hk.ty;obtain⟨o,its,n,g,_,d,r⟩:=hk;have eh:hNK ks=reduceHash (Builtin.Tuple.tupleHashOf (ks.map (tupleKeyHash (intKind P w)))):=rfl;rw[eh]at q;clear eh;unfold pyHash;first|unfold pyHashByItsType|skip
 first|refine Q2 (wpAny_cRoomFor_or (Or.inr (Nat.lt_of_succ_lt hu)) ?_)|skip
 refine Q2 (wpAny_specialOf T PySem.F.slot_tuple_hash.lookup ?_);have nb:¬(some (Value.builtin "tuple.__hash__") == some Value.none)=true:=by rw[beq_builtin_none];exact QK
 dsimp only;rw[if_neg nb];refine Q2 (wpAny_specialOf T PySem.F.slot_tuple_hash.lookup ?_);refine Q2 (wpAny_callSpecialIfBoundUnlessNone?_slot T PySem.F.slot_tuple_hash (wpAny_call_entry PySem.F.slot_tuple_hash T PySem.F.entry_tuple_hash ?_ (PySem.F.args_tuple_hash_1 _)));refine Q2 (m:=Builtin.Tuple.tupleItemsOf (.ref a)) (wpAny_tupleItemsOf g d ?_);refine Q2 ?_;rw[<-Array.forIn_toList];refine wpAny_forIn_list _ (fun rest (b:Array Int) s'=>∃fore aft,ks=fore++aft/\Paired (NI P w s.heap) aft rest/\b.toList=fore.map (tupleKeyHash (intKind P w))/\s'={ s with toks:=s.toks+dNK fore }) _ ?_ ?_ _ _ ⟨[],ks,rfl,r,rfl,rfl⟩
 ·rintro x rest b s' ⟨fore,aft,rfl,hl,hb,rfl⟩;cases hl with
  |@cons k _ ks' _ h1 hl'=>
   obtain⟨c,rfl,t⟩:=h1;refine Q2 (wpAny_pyHash_tuple (s:={ s with toks:=s.toks+dNK fore }) hu t ?_);have fin:∃fore' aft',fore++k::ks'=fore'++aft'/\Paired (NI P w s.heap) aft' rest/\(b.push (tupleKeyHash (intKind P w) k)).toList=fore'.map (tupleKeyHash (intKind P w))/\({ s with toks:=s.toks+dNK fore+(k.length+1) }:Shared)={ s with toks:=s.toks+dNK fore' }:=⟨fore++[k],ks',by simp,hl',by simp[hb],by simp[dNK,Nat.add_assoc]⟩;first
    |exact QQ fin
    |exact Q2 (QQ (QQ fin))
 ·rintro b s' ⟨fore,aft,rfl,hl,hb,rfl⟩;cases hl;rw[QJ]at q;show wpAny _ _ (retInt (Builtin.Tuple.tupleHashOf b.toList)) _ _ _;rw[hb];refine wpAny_ret_mkInt ?_;unfold reduceHash at q;unfold pyHashByItsType.reduced;dsimp only;split at q
  ·rename_i c;rw[if_pos c];exact QQ (by simpa [Nat.add_assoc] using q)
  ·rename_i c;rw[if_neg c];exact Q2 (wpAny_rule (QQ (by simpa [Nat.add_assoc] using q)))
theorem J5{x y:NK}{a b:Addr}{R:PySem.Fin->Shared->Prop}(hu:A.units<cLine)(hx:vt P w s.heap x a)(hy:vt P w s.heap y b)(q:R (.done (.ret (.bool (decide (x=y))))) s) :
  wpAny (model P w) A (Builtin.«tuple.__eq__» ⟨[.ref a,.ref b],[]⟩) R E s:=by
 have T:=hy.ty;obtain⟨oa,xs,na,ga,_,da,ra⟩:=hx;obtain⟨ob,ys,nb,gb,_,db,rb⟩:=hy;refine Q2 (m:=isInstance (.ref b) (.type "tuple")) (wpAny_isInstance T isSubtype_tuple_tuple ?_);simp only[Bool.not_true,QC,if_false];refine Q2 (wpAny_tupleItemsOf ga da (Q2 (wpAny_tupleItemsOf gb db (Q2 ?_))));refine wpAny_forIn_list _ (fun rest r s'=>r.1=none/\s'=s/\∃x' y' us vs,rest=List.zip us vs/\Paired (NI P w s.heap) x' us/\Paired (NI P w s.heap) y' vs/\decide (x'=y')=decide (x=y)/\(us.length == vs.length)=(xs.size == ys.size)) _ ?_ ?_ _ _ ⟨rfl,rfl,x,y,xs.toList,ys.toList,rfl,ra,rb,rfl,by simp⟩
 ·rintro⟨u,v⟩ rest r s' ⟨hr,rfl,x',y',us,vs,hz,h1,h2,hd,hl⟩;cases h1 with
  |nil=>simp at hz
  |@cons k1 _ x2 us2 p1 t1=>cases h2 with
   |nil=>simp at hz
   |@cons k2 _ y2 vs2 p2 t2=>
    rw[List.zip_cons_cons]at hz;injection hz with e1 e2;injection e1 with e3 e4;subst e2;subst e3;subst e4;obtain⟨c1,rfl,q1⟩:=p1;obtain⟨c2,rfl,q2⟩:=p2;refine Q2 (wpAny_eqBool_tuple hu q1 q2 ?_);by_cases hk:k1=k2
    ·subst hk;rw[decide_eq_true rfl];simp only[Bool.not_true,QC,if_false];refine QQ ⟨rfl,rfl,x2,y2,us2,vs2,rfl,t1,t2,?_,by simpa using hl⟩;rw[<-hd];by_cases hxy:x2=y2<;>simp[hxy]
    ·rw[decide_eq_false hk];simp only[Bool.not_false,if_true];have hf:decide (x=y)=false:=by rw[<-hd];simp[hk]
     rw[hf]at q;exact Q2 (QQ (QQ (QQ q)))
 ·rintro⟨r1,r2⟩ s' ⟨hr,rfl,x',y',us,vs,hz,h1,h2,hd,hl⟩;dsimp only at hr;subst hr;refine QQ ?_;have e:(xs.size == ys.size)=decide (x=y):=by
   rw[<-hd,<-hl];cases h1 with
   |nil=>cases h2 with
    |nil=>simp
    |cons _ _=>simp
   |cons _ _=>cases h2 with
    |nil=>simp
    |cons _ _=>simp at hz
  rw[<-e]at q;exact q
theorem MZ{x y:NK}{a b:Addr}{Q:Bool->Shared->Prop}(hu:A.units+1<cLine)(hx:vt P w s.heap x a)(hy:vt P w s.heap y b)(q:Q (decide (x=y)) s):wpAny (model P w) A (eqBool (.ref a) (.ref b)) Q E s:=by
 unfold eqBool;try with_reducible refine wpAny_holding ?_
 dsimp only;by_cases hab:(Value.ref a == Value.ref b)=true
 ·rw[if_pos hab];have e:a=b:=by have:=eq_of_beq hab;injection this
  subst e;obtain rfl:=hx.inj hy;exact Q2 (wpAny_rule (QQ (by simpa using q)))
 ·rw[if_neg hab];exact Q2 (wpAny_richCompare_same_room (op:=.Eq) hx.ty hy.ty PySem.F.slot_tuple_eq (wpAny_call_entry PySem.F.slot_tuple_eq hx.ty PySem.F.entry_tuple_eq (J5 hu hx hy ⟨_,rfl,(fun e=>nomatch e),wpAny_truthy_bool q⟩) (PySem.F.args_tuple_eq_2 _ _)) (Nat.lt_of_succ_lt hu))
theorem zE{ks:List Int}{a:Addr}{n:Nat}{Q:Bool->Shared->Prop}(hk:IsTupleKey (intKind P w) s.heap ks a)(q:Q true s):wpAny (model P w) A (eqIsQuiet (n+1) (.ref a)) Q E s:=by
 have T:=hk.typeIs;obtain⟨o,its,k,g,_,d,i⟩:=hk;unfold eqIsQuiet;refine Q2 (wpAny_specialOf T PySem.F.slot_tuple_eq.lookup ?_);refine Q2 (m:=isInstance (.ref a) (.type "tuple")) (wpAny_isInstance T isSubtype_tuple_tuple ?_);simp only[Bool.not_true,QC,if_false];refine Q2 (wpAny_seqItems g d (Q2 ?_));change wpAny _ _ (forIn its _ _) _ _ s;rw[<-Array.forIn_toList];refine wpAny_forIn_list _ (fun rest r s'=>r.1=none/\s'=s/\∀v∈rest,carriedByValue v=true) _ ?_ ?_ _ _ ⟨rfl,rfl,i.byValue⟩
 ·rintro v rest r s' ⟨hr,rfl,all⟩;rw[eqIsQuiet_byValue _ (all v QU)];refine Q2 (QQ ?_);simp only[Bool.not_true,QC,if_false];exact QQ ⟨rfl,rfl,fun u hu'=>all u (QD _ hu')⟩
 ·rintro⟨r1,r2⟩ s' ⟨hr,rfl,_⟩;dsimp only at hr;subst hr;exact QQ q
theorem Cz{ks:NK}{a:Addr}{Q:Bool->Shared->Prop}(hk:vt P w s.heap ks a)(q:Q true s):wpAny (model P w) A (eqIsQuiet 8 (.ref a)) Q E s:=by
 have T:=hk.ty;obtain⟨o,its,k,g,_,d,i⟩:=hk;unfold eqIsQuiet;refine Q2 (wpAny_specialOf T PySem.F.slot_tuple_eq.lookup ?_);refine Q2 (m:=isInstance (.ref a) (.type "tuple")) (wpAny_isInstance T isSubtype_tuple_tuple ?_);simp only[Bool.not_true,QC,if_false];refine Q2 (wpAny_seqItems g d (Q2 ?_));change wpAny _ _ (forIn its _ _) _ _ s;rw[<-Array.forIn_toList];refine wpAny_forIn_list _ (fun rest r s'=>r.1=none/\s'=s/\∃ls,Paired (NI P w s.heap) ls rest) _ ?_ ?_ _ _ ⟨rfl,rfl,ks,i⟩
 ·rintro v rest r s' ⟨hr,rfl,ls,all⟩;cases all with
  |cons p t=>
   obtain⟨c,rfl,p⟩:=p;refine Q2 (zE p ?_);simp only[Bool.not_true,QC,if_false];exact QQ ⟨rfl,rfl,_,t⟩
 ·rintro⟨r1,r2⟩ s' ⟨hr,rfl,_⟩;dsimp only at hr;subst hr;exact QQ q
end
def iq(P:Program)(w:World):HeapKind P w NK where
 is:=vt P w
 hash:=hNK
 draws:=fun ks=>dNK ks+1
 room:=fun A=>A.units+1<cLine
 inj:=fun x y=>x.inj y
 keeps:=fun x g d sb=>x.keeps g d sb
 pyHash:=fun hu hk q=>Gs hu hk q
 eqBool:=fun hu x y q=>MZ hu x y q
 quiet:=fun hk q=>Cz hk q
section
variable{P:Program}{w:World}{K:Q1}{H:Hp}
theorem wC:∀{ns:List Int} {us:List Value},bU (ns.map V.int) us->ItemsAre (intKind P w) ns us
 |[],_,r=>by cases r;exact .nil
 |n::ns,_,r=>by
  cases r with
  |cons a t=>obtain⟨k,rfl⟩:=a;exact .cons (intKind_is _ _ _ _) (wC t)
theorem vO:∀{cs:List Addr} {us:List Value},bU (cs.map V.ref) us->us=cs.map Value.ref
 |[],_,r=>by cases r;rfl
 |c::cs,_,r=>by
  cases r with
  |cons a t=>cases a;rw[vO t];rfl
variable{X:Cx}{pins:List (Addr×Obj)}{σ:L2.St}{s:Shared}{a b:Addr}{k:NK}{kvs:List ((NK×Addr)×V)}{v:V}{A:Around}{E:Value->Shared->Prop}
theorem zS(I:Inv X pins σ H s)(h:nH X.K H b k):(iq X.prog X.w).is s.heap k b:=by
 obtain⟨cs,p,q⟩:=h;obtain⟨its,r,⟨o,h1,h2,n,h3⟩,hz⟩:=I.tuple p;have e:=vO r;subst e;refine⟨o,_,n,h1,h2,h3,?_⟩;clear p r h3 hz;induction q with
 |nil=>exact .nil
 |cons z _ ih=>
  refine .cons ?_ ih;obtain⟨its,r,⟨o,h1,h2,n,h3⟩,_⟩:=I.tuple z;exact⟨_,rfl,o,its.toArray,n,h1,h2,h3,by simpa using wC r⟩
theorem KN.val{xs:List (NK×Addr×Value)}(r:KN kvs xs)(k:NK):qA (jU (nP kvs) k) ((atKey xs k).map (·.2)):=by
 induction r with
 |nil=>exact True.intro
 |@cons p q ps qs h t ih=>
  obtain⟨h1,_,h2⟩:=h;by_cases e:p.1.1=k
  ·have e':q.1=k:=h1.symm.trans e;have b:atKey (q::qs) k=some q.2:=by simp[atKey,Qt,e']
   have c:jU (nP (p::ps)) k=some p.2:=by simp[jU,nP,Qt,e]
   rw[c,b];exact h2
  ·have e':¬q.1=k:=fun z=>e (h1.trans z);have b:atKey (q::qs) k=atKey qs k:=by simp[atKey,Qt,e']
   have c:jU (nP (p::ps)) k=jU (nP ps) k:=by simp[jU,nP,Qt,e]
   rw[c,b];exact ih
def zh(kvs:List ((NK×Addr)×V))(k:NK)(b:Addr)(v:V):List ((NK×Addr)×V):=if (jU (nP kvs) k).isSome=true then kvs.map fun p=>if p.1.1=k then(p.1,v)else p else kvs++[((k,b),v)]
theorem J6:nP (zh kvs k b v)=pC (nP kvs) k v:=by
 unfold zh pC;have e:((nP kvs).any fun kv=>decide (kv.1=k))=(jU (nP kvs) k).isSome:=by rw[qJ]
 rw[e];split
 ·unfold nP;rw[Qg,Qg];refine ZV fun p _=>?_;dsimp only[Function.comp];by_cases c:p.1.1=k
  ·rw[if_pos c,if_pos c]
  ·rw[if_neg c,if_neg c]
 ·unfold nP;rw[QV];rfl
theorem B3{p:(NK×Addr)×V}(h:p∈zh kvs k b v):(∃q∈kvs,q.1=p.1)\/p.1=(k,b):=by
 unfold zh at h;split at h
 ·obtain⟨q,hq,e⟩:=QR.mp h;refine .inl ⟨q,hq,?_⟩;split at e
  ·rw[<-e]
  ·rw[e]
 ·rcases Qw.mp h with z|z
  ·exact .inl ⟨p,z,rfl⟩
  ·rw[Qv.mp z];exact .inr rfl
theorem B4:(zh kvs k b v).length<=kvs.length+1:=by
 unfold zh;split
 ·rw[Q5];omega
 ·rw[Q6];exact QZ _
theorem KN.put{xs:List (NK×Addr×Value)}{u:Value}(r:KN kvs xs)(ru:cD v u):KN (zh kvs k b v) (storedH xs k b u):=by
 have e:=(r.val k).isSome_eq;rw[Option.isSome_map]at e;unfold zh storedH;rw[e];split
 ·clear e;rename_i hs;clear hs;induction r with
  |nil=>exact .nil
  |@cons p q ps qs h t ih=>
   rw[QX,QX];refine .cons ?_ ih;obtain⟨h1,h2,h3⟩:=h;unfold putAt;by_cases c:p.1.1=k
   ·rw[if_pos c,if_pos (h1.symm.trans c)];exact⟨h1,h2,ru⟩
   ·rw[if_neg c,if_neg (fun z=>c (h1.trans z))];exact⟨h1,h2,h3⟩
 ·exact Paired.snoc r ⟨rfl,rfl,ru⟩
theorem AA(I:Inv X pins σ H s)(e:Rd H a (dNo a kvs))(ky:∀p∈kvs,nH X.K H p.1.2 p.1.1):kvs.length<=sizeLine/\(a == sysModules)=false/\∃xs,KN kvs xs/\s.heap.DictOfH (iq X.prog X.w) a xs:=by
 obtain⟨⟨z,y,xs,r,o,es,ep,h1,h2,h3,h4,h5⟩,rest⟩:=(show cy X.prog X.w H s.heap a (dNo a kvs)from e.ok I.hok);refine⟨z,y,xs,r,o,es,ep,h1,h2,h3,h4,fun x hx=>?_,h5⟩;clear h4 h5 e z rest;induction r with
 |nil=>exact nomatch hx
 |@cons p q ps qs hq t ih=>
  rcases QM.mp hx with e|hx
  ·subst e;have:=zS I (ky p QU);rw[hq.1,hq.2.1]at this;exact this
  ·exact ih (fun p hp=>ky p (QD _ hp)) hx
theorem M5{Q:Value->Shared->Prop}(hu:A.units+2<cLine)(I:Inv X pins σ H s)(e:Rd H a (dNo a kvs))(ky:∀p∈kvs,nH X.K H p.1.2 p.1.1)(kb:nH X.K H b k)(l:jU (nP kvs) k=some v)(q:∀w' s',Inv X pins σ H s'->cD v w'->Q w' s') :
  wpAny (model X.prog X.w) A (getItem (.ref a) (.ref b)) Q E s:=by
 obtain⟨z,hd,xs,rel,dd⟩:=AA I e ky;obtain⟨w',hw,rw'⟩:=qA.some_of (v:=v) (o:=(atKey xs k).map (·.2)) (by rw[<-l];exact rel.val k);obtain⟨p,hp,hp2⟩:=Qn.mp hw;refine wpAny_getItem_heap (knd:=iq X.prog X.w) hu (zS I kb) dd hp ?_;rw[hp2];exact q w' _ (I.tok _) rw'
theorem M4{Q:Value->Shared->Prop}(hu:A.units+2<cLine)(I:Inv X pins σ H s)(e:Rd H a (dNo a kvs))(ky:∀p∈kvs,nH X.K H p.1.2 p.1.1)(kb:nH X.K H b k)(q:∀s',Inv X pins σ H s'->Q (.bool (!(jU (nP kvs) k).isSome)) s') :
  wpAny (model X.prog X.w) A (compareOp .NotIn (.ref b) (.ref a)) Q E s:=by
 obtain⟨z,hd,xs,rel,dd⟩:=AA I e ky;refine wpAny_notIn_heap (knd:=iq X.prog X.w) hu (zS I kb) hd dd ?_;have e1:=(rel.val k).isSome_eq;rw[Option.isSome_map]at e1;rw[<-e1];exact q _ (I.tok _)
theorem AB{h':Heap}{P:Program}{w:World}{xs:List (NK×Addr×Value)}(z:kvs.length<=sizeLine)(hd:(a == sysModules)=false)(rel:KN kvs xs)(dd:h'.DictOfH (iq P w) a xs):cy P w H h' a (dNo a kvs):=by
 obtain⟨o,es,ep,h1,h2,h3,h4,_,h5⟩:=dd;refine⟨⟨z,hd,xs,rel,o,es,ep,h1,h2,h3,h4,h5⟩,⟨o,h1⟩,fun g1 g2 ⟨z,y,xs,r,o,es,ep,h1,h2⟩ k=>⟨z,y,xs,r,o,es,ep,k o h1,h2⟩⟩
theorem M3{u:Value}{Q:Unit->Shared->Prop}(hu:A.units+2<cLine)(I:Inv X pins σ H s)(e:H a=some (dNo a kvs))(ky:∀p∈kvs,nH X.K H p.1.2 p.1.1)(kb:nH X.K H b k)(hl:kvs.length<sizeLine)(ru:cD v u)
  (q:∀s',Inv X pins σ (upd H a (dNo a (zh kvs k b v))) s'->Q () s'):wpAny (model X.prog X.w) A (setItem (.ref a) (.ref b) u) Q E s:=by
 obtain⟨z,hd,xs,rel,dd⟩:=AA I (.inl e) ky;have hz:xs.length<=sizeLine:=by rw[<-Paired.length rel];exact z
 refine wpAny_setItem_heap (hsz:=hz) (knd:=iq X.prog X.w) hu (zS I kb) dd fun h' dd' hs=>q _ ?_;obtain⟨o,es,ep,h1,_⟩:=id dd';exact oX I (by rw[e];exact True.intro) hs ⟨o,h1⟩ (AB (by have:=B4 (kvs:=kvs) (k:=k) (b:=b) (v:=v);omega) hd (rel.put ru) dd')
end
section
variable{X:Cx}{K:Q1}{m:List Addr}{H:Hp}
def v8:List U->Option NK
 |[]=>some []
 |.tup us::r=>(qW us).bind fun k=>(v8 r).map (k::·)
 |_=>none
theorem zD:∀{us:List U} {xs:List V} {ks:NK},IsL K m H xs us->v8 us=some ks->∃cs:List Addr,xs=cs.map V.ref/\Paired (fun(l:List Int) c=>SqT K H c (l.map V.int)) ks cs
 |[],xs,ks,i,h=>by cases h;exact⟨[],i.of_nil,.nil⟩
 |u::us,xs,ks,i,h=>by
  unfold v8 at h;split at h
  ·rename_i e;cases e
  ·rename_i us' r e;injection e with e1 e2;subst e1;subst e2;obtain⟨k,hk,h⟩:=Q0.mp h;obtain⟨ks',hk',rfl⟩:=Qn.mp h;obtain⟨x,r,rfl,ix,ir⟩:=i.of_cons;obtain⟨c,ys,rfl,sq,il⟩:=ix.of_tup;rw[lS hk]at il;rw[IsL.ints il]at sq;obtain⟨cs,rfl,q⟩:=zD ir hk';exact⟨c::cs,rfl,.cons sq q⟩
  ·cases h
theorem CP{us:List U}{v:V}{ks:NK}(i:Is K m H v (.tup us))(h:v8 us=some ks):∃b,v=.ref b/\nH K H b ks:=by
 obtain⟨b,xs,rfl,sq,il⟩:=i.of_tup;obtain⟨cs,rfl,q⟩:=zD il h;exact⟨b,rfl,cs,sq,q⟩
def GQ(S:Sto)(l:Nat):Option (List (NK×U)):=match S[l]? with
 |some (.dnt kus)=>some kus
 |some (.fdn _ kus)=>some kus
 |_=>none
theorem KY{S:Sto}{l:Nat}{kus:List (NK×U)}{a:Addr}(sr:Sr K m S H)(ha:m[l]?=some a)(h:GQ S l=some kus):∃kvs,Rd H a (dNo a kvs)/\(∀p∈kvs,nH K H p.1.2 p.1.1)/\IsP K m H (nP kvs) kus:=by
 unfold GQ at h;split at h<;>try cases h
 ·rename_i hS;obtain⟨a',ha',kvs,hx,ky,ip⟩:=sr.get hS;rw[ha]at ha';cases ha';exact⟨kvs,.inl hx,ky,ip⟩
 ·rename_i ep hS;obtain⟨a',ha',ob,es,kvs,hx,hd,ky,ip⟩:=sr.get hS;rw[ha]at ha';cases ha';exact⟨kvs,.inr ⟨ob,hx⟩,ky,ip⟩
def MA(K:Q1)(td ty:TE):TE:=fun σ H Q=>td σ H fun x H1=>ty σ H1 fun y H2=>∃a b kvs k v,x=.ref a/\y=.ref b/\Rd H2 a (dNo a kvs)/\(∀p∈kvs,nH K H2 p.1.2 p.1.1)/\nH K H2 b k/\jU (nP kvs) k=some v/\Q v H2
theorem Fo{o i:Expr}{td ty:TE}{pos:Pos}(hu:X.A.units+2<cLine)(ho:WE X o td)(hi:WE X i ty)(hs:Hu i):WE X (.Subscript o i pos) (MA X.K td ty):=by
 constructor;intro pins s σ H Q I h;refine yL PySem.F.slot_dict_getitem.lookup hs (thn (ho.h pins s σ H _ I h) fun u s1 hz=>?_);obtain⟨x,H1,I1,rx,q1⟩:=hz;refine thn (hi.h pins s1 σ H1 _ I1 q1) fun iv s2 hz=>?_;obtain⟨y,H2,I2,ry,a,b,kvs,k,v,rfl,rfl,e,ky,kb,l,q2⟩:=hz;cases rx;cases ry;obtain⟨_,_,xs,rel,dd⟩:=AA I2 e ky;exact⟨dd.typeIs,M5 hu I2 e ky kb l fun w' s' I' r=>⟨v,H2,I',r,q2⟩⟩
def Es:U->U->Sto->Option (U×Sto):=fun x y S=>match x with
 |.ref l=>match y with
  |.tup us=>(v8 us).bind fun ks=>(GQ S l).bind fun kus=>(aS kus ks).bind fun u=>some (u,S)
  |_=>none
 |_=>none
theorem Js{a b:Expr}{ca cb:CE}{pos:Pos}(hu:X.A.units+2<cLine)(ha:QE X a ca)(hb:QE X b cb)(hs:Hu b):QE X (.Subscript a b pos) (cOp Es ca cb):=
 (Fo hu ha hb hs).imp fun σ H Q hz=>mF hz fun m ρ S u S' sr lr hc post=>by
 obtain⟨⟨x,S1⟩,h1,h⟩:=Q0.mp hc;obtain⟨⟨y,S2⟩,h3,h4⟩:=Q0.mp h;refine⟨m,ρ,S,_,S1,sr,lr,h1,fun m1 v1 H1 e1 sr1 i1=>⟨m1,ρ,S1,_,S2,sr1,lr.mono e1,h3,fun m2 v2 H2 e2 sr2 i2=>?_⟩⟩;cases x with
 |ref l=>cases y with
  |tup us=>
   simp only[Es]at h4;obtain⟨ks,hk,h5⟩:=Q0.mp h4;obtain⟨kus,hd,h6⟩:=Q0.mp h5;obtain⟨z,hv,h7⟩:=Q0.mp h6;cases h7;obtain⟨a,ha,rfl⟩:=(i1.mono e2).of_ref;obtain⟨b,rfl,kb⟩:=CP i2 hk;obtain⟨kvs,rd,ky,ip⟩:=KY sr2 ha hd;have rf:=IsP.val (k:=ks) ip;rw[hv]at rf;cases hw:jU (nP kvs) ks with
   |none=>rw[hw]at rf;exact rf.elim
   |some w=>
    rw[hw]at rf;exact⟨a,b,kvs,ks,w,rfl,rfl,rd,ky,kb,hw,post m2 _ H2 (e1.trans e2) sr2 rf⟩
  |_=>cases h4
 |_=>cases h4
def IY(K:Q1)(ty td:TE):TE:=fun σ H Q=>ty σ H fun y H1=>td σ H1 fun x H2=>∃a b kvs k,x=.ref a/\y=.ref b/\Rd H2 a (dNo a kvs)/\(∀p∈kvs,nH K H2 p.1.2 p.1.1)/\nH K H2 b k/\Q (.bl (!(jU (nP kvs) k).isSome)) H2
theorem Fp{o i:Expr}{td ty:TE}(hu:X.A.units+2<cLine)(hi:WE X i ty)(ho:WE X o td):WC X .NotIn i o (IY X.K ty td):=by
 constructor;intro pins s σ H Q I h;refine thn (hi.h pins s σ H _ I h) fun iv s1 hz=>?_;obtain⟨y,H1,I1,ry,q1⟩:=hz;refine thn (ho.h pins s1 σ H1 _ I1 q1) fun u s2 hz=>?_;obtain⟨x,H2,I2,rx,a,b,kvs,k,rfl,rfl,e,ky,kb,q2⟩:=hz;cases rx;cases ry;exact M4 hu I2 e ky kb fun s3 I3=>⟨.bl _,H2,I3,rfl,q2⟩
def Dd:U->U->Sto->Option (U×Sto):=fun y x S=>match x with
 |.ref l=>match y with
  |.tup us=>(v8 us).bind fun ks=>(GQ S l).bind fun kus=>some (.bl (!(aS kus ks).isSome),S)
  |_=>none
 |_=>none
theorem Cy{ca cb:CE}:∀σ H Q,tE X.K (cOp Dd ca cb) σ H Q->IY X.K (tE X.K ca) (tE X.K cb) σ H Q:=by
 rintro σ H Q ⟨m,ρ,S,u,S',sr,lr,hc,post⟩;obtain⟨⟨y,S1⟩,h1,h⟩:=Q0.mp hc;obtain⟨⟨x,S2⟩,h3,h4⟩:=Q0.mp h;refine⟨m,ρ,S,_,S1,sr,lr,h1,fun m1 v1 H1 e1 sr1 i1=>⟨m1,ρ,S1,_,S2,sr1,lr.mono e1,h3,fun m2 v2 H2 e2 sr2 i2=>?_⟩⟩;cases x with
 |ref l=>cases y with
  |tup us=>
   simp only[Dd]at h4;obtain⟨ks,hk,h5⟩:=Q0.mp h4;obtain⟨kus,hd,h6⟩:=Q0.mp h5;cases h6;obtain⟨a,ha,rfl⟩:=i2.of_ref;obtain⟨b,rfl,kb⟩:=CP (i1.mono e2) hk;obtain⟨kvs,rd,ky,ip⟩:=KY sr2 ha hd;have rf:=IsP.val (k:=ks) ip;have es:(jU (nP kvs) ks).isSome=(aS kus ks).isSome:=by
    cases h7:jU (nP kvs) ks<;>cases h8:aS kus ks<;>rw[h7,h8]at rf<;>first|rfl|exact rf.elim
   refine⟨a,b,kvs,ks,rfl,rfl,rd,ky,kb,?_⟩;rw[es];exact post m2 _ H2 (e1.trans e2) sr2 .bl_
  |_=>cases h4
 |_=>cases h4
theorem sk{a b:Expr}{ca cb:CE}{pos:Pos}(hu:X.A.units+2<cLine)(ha:QE X a ca)(hb:QE X b cb)(hm:behindInMarks .NotIn b=false):QT X (.Compare a [.NotIn] [b] pos) (aF (cOp Dd ca cb)):=(uz (Fp hu ha hb) hm).imp (kO Cy)
def Mz(K:Q1)(td ty tv:TE):TS:=fun D σ H=>tv σ H fun v H1=>td σ H1 fun x H2=>ty σ H2 fun y H3=>∃a b kvs k,x=.ref a/\y=.ref b/\H3 a=some (dNo a kvs)/\(∀p∈kvs,nH K H3 p.1.2 p.1.1)/\nH K H3 b k/\kvs.length<sizeLine/\D.nx σ (upd H3 a (dNo a (zh kvs k b v)))
theorem E4{o i e:Expr}{td ty tv:TE}{pos pos':Pos}(hu:X.A.units+2<cLine)(ho:WE X o td)(hi:WE X i ty)(hv:WE X e tv)(hs:swapsWith e (some (.Subscript o i pos')) pos.line X.env=pure false):WS X (.Assign [.Subscript o i pos'] e pos) (Mz X.K td ty tv):=by
 constructor;intro pins s σ H D I h;refine wpAny_Assign_Subscript (thn (hv.h pins s σ H _ I h) fun r s1 hz=>?_) hs;obtain⟨v,H1,I1,rv,q1⟩:=hz;refine thn (ho.h pins s1 σ H1 _ I1 q1) fun u s2 hz=>?_;obtain⟨x,H2,I2,rx,q2⟩:=hz;refine thn (hi.h pins s2 σ H2 _ I2 q2) fun iv s3 hz=>?_;obtain⟨y,H3,I3,ry,a,b,kvs,k,rfl,rfl,e1,ky,kb,hl,q3⟩:=hz;cases rx;cases ry;exact M3 hu I3 e1 ky kb hl rv fun s4 I4=>⟨σ,_,I4,q3⟩
def kC(co ci cv:CE):CS:=fun ρ S=>(cv ρ S).bind fun p=>(co ρ p.2).bind fun q=>(ci ρ q.2).bind fun r=>match q.1 with
 |.ref l=>match r.1 with
  |.tup us=>match r.2[l]? with
   |some (.dnt kus)=>(v8 us).bind fun k=>if kus.length<LIM then some (.nx,ρ,r.2.set l (.dnt (eJ kus k p.1)))else none
   |_=>none
  |_=>none
 |_=>none
theorem sh{o i e:Expr}{co ci cv:CE}{pos pos':Pos}(hu:X.A.units+2<cLine)(ho:QE X o co)(hi:QE X i ci)(hv:QE X e cv)(hs:swapsWith e (some (.Subscript o i pos')) pos.line X.env=pure false:=by rfl):QS X (.Assign [.Subscript o i pos'] e pos) (kC co ci cv):=
 (E4 hu ho hi hv hs).imp fun D σ H hz=>uv hz fun m ρ S oo ρ' S' sr lr hc post=>by
 obtain⟨⟨v,S1⟩,h1,ha⟩:=Q0.mp hc;obtain⟨⟨ou,S2⟩,h2,hb⟩:=Q0.mp ha;obtain⟨⟨iu,S3⟩,h3,h⟩:=Q0.mp hb;clear ha hb hc;cases ou with
 |ref l=>cases iu with
  |tup us=>
   simp only at h;split at h<;>try cases h
   rename_i kus hS;obtain⟨k,hk,h4⟩:=Q0.mp h;split at h4<;>try cases h4
   rename_i eK;refine⟨m,ρ,S,v,S1,sr,lr,h1,fun m1 v1 H1 e1 sr1 i1=>⟨m1,ρ,S1,_,S2,sr1,lr.mono e1,h2,fun m2 v2 H2 e2 sr2 i2=>⟨m2,ρ,S2,_,S3,sr2,lr.mono (e1.trans e2),h3,fun m3 v3 H3 e3 sr3 i3=>?_⟩⟩⟩;obtain⟨a,ha,rfl⟩:=(i2.mono e3).of_ref;obtain⟨a',ha',kvs,hx,ky,ip⟩:=sr3.get hS;rw[ha]at ha';cases ha';obtain⟨b,rfl,kb⟩:=CP i3 hk;have e13:=(e1.trans e2).trans e3;have ee:Ext X.K m3 H3 m3 (upd H3 a (dNo a (zh kvs k b v1))):=.of (sr3.keep ha _);have hl:kvs.length<sizeLine:=Hl (by have:=IsP.length ip;unfold nP at this;rw[Q5]at this;rw[this];exact eK);refine⟨a,b,kvs,k,rfl,rfl,hx,ky,kb,hl,post m3 σ _ (e13.trans ee) (sr3.put ha ⟨_,aN,fun p hp=>?_,?_⟩) (lr.mono (e13.trans ee))⟩
   ·rcases B3 hp with⟨q,hq,e⟩|e
    ·rw[<-e];exact(ky q hq).mono ee.keep
    ·rw[e];exact kb.mono ee.keep
   ·rw[J6];exact(IsP.put ip (i1.mono (e2.trans e3))).mono ee
  |_=>cases h
 |_=>cases h
end
section
variable{X:Cx}{K:Q1}{m:List Addr}{H:Hp}{a:Addr}{kvs:List ((NK×Addr)×V)}
def I0(K:Q1)(tk tv:TE):TE:=fun σ H Q=>∀p,H p=none->sd [(tk,tv)] σ (upd H p (dNo p [])) fun ps H2=>H2 p=some (dNo p [])/\∃b k v,ps=[(.ref b,v)]/\nH K H2 b k/\Q (.ref p) (upd H2 p (dNo p [((k,b),v)]))
theorem Dk{P:Program}{w:World}(h:Heap)(hb:sysModules<h.objs.size):cy P w H (h.push { cls:=.type "dict",data:=.dict #[] }) h.objs.size (dNo h.objs.size []):=by
 refine AB (xs:=[]) (Z7 _) (beq_eq_false_iff_ne.mpr (Ne.symm (Qr hb))) .nil ?_;exact⟨_,#[],0,QF _ rfl,⟨rfl,rfl,rfl⟩,rfl,rfl,fun x hx=>(Qc hx).elim,ZQ⟩
theorem BF{k v:Expr}{tk tv:TE}{pos:Pos}(hu:X.A.units+2<cLine)(hk:WE X k tk)(hv:WE X v tv):WE X (.Dict [some k] [v] pos) (I0 X.K tk tv):=by
 constructor;intro pins s σ H Q I q;have hn:=I.hok.fresh (QZ s.heap.objs.size);have I1:=I.laid (a:=s.heap.objs.size) (o:=dNo s.heap.objs.size []) (h':=s.heap.push { cls:=.type "dict",data:=.dict #[] }) (t':=s.toks) (fun _ _ q=>Q7 _ q) (QZ _) (Dk s.heap I.big);refine wpAny_Dict_any rfl rfl (by simp) (by simp) (thn (vX hk.h hv.h zp pins _ σ _ _ I1 (q _ hn)) fun ws s2 hz=>?_);obtain⟨ps,H2,I2,rel,e,b,k,v,rfl,kb,q2⟩:=hz;cases rel with
 |cons r t=>
  cases t;rename_i w0;obtain⟨w1,w2⟩:=w0;obtain⟨r1,r2⟩:=r;cases (show w1=Value.ref b from r1);obtain⟨z,hd,xs,rel,dd⟩:=AA I2 (.inl e) (fun p hp=>(Qc hp).elim);cases rel;unfold storeAll;rw[List.forIn_cons];refine Q2 (Q2 (wpAny_dictSet_heap (hsz:=Z7 _) (knd:=iq X.prog X.w) (Nat.lt_of_succ_lt hu) (zS I2 kb) dd fun h' dd' hs=>QQ ?_));dsimp only;rw[List.forIn_nil];obtain⟨o,es,ep,h1,_⟩:=id dd';refine QQ ⟨.ref s.heap.objs.size,_,oX I2 (by rw[e];exact True.intro) hs ⟨o,h1⟩ (AB (kvs:=[((k,b),v)]) (show 1<=sizeLine by decide) hd (KN.put (kvs:=[]) (k:=k) (b:=b) .nil r2) dd'),rfl,q2⟩
def qy(ck cv:CE):CE:=fun ρ S=>(ck ρ (S++[.dnt []])).bind fun p=>(cv ρ p.2).bind fun q=>match p.1 with
 |.tup us=>(v8 us).bind fun k=>match q.2[S.length]? with
  |some (.dnt [])=>some (.ref S.length,q.2.set S.length (.dnt [(k,q.1)]))
  |_=>none
 |_=>none
theorem ze{k v:Expr}{ck cv:CE}{pos:Pos}(hu:X.A.units+2<cLine)(hk:QE X k ck)(hv:QE X v cv):QE X (.Dict [some k] [v] pos) (qy ck cv):=
 (BF hu hk hv).imp fun σ H Q hz=>mF hz fun m ρ S u S' sr lr hc post=>by
 obtain⟨⟨x,S1⟩,h1,h⟩:=Q0.mp hc;obtain⟨⟨y,S2⟩,h2,h3⟩:=Q0.mp h;cases x with
 |tup us=>
  simp only at h3;obtain⟨kk,hk,h4⟩:=Q0.mp h3;split at h4<;>try cases h4
  rename_i hS;intro p hp;have ee:Ext X.K m H (m++[p]) (upd H p (dNo p [])):=.new (bT hp _);refine⟨m++[p],ρ,_,_,S1,sr.new (o:=.dnt []) hp ⟨[],aN,(fun q hq=>(Qc hq).elim),.nil_⟩,lr.mono ee,h1,fun m1 v1 H1 e1 sr1 i1=>⟨m1,ρ,S1,y,S2,sr1,lr.mono (ee.trans e1),h2,fun m2 v2 H2 e2 sr2 i2=>?_⟩⟩;have ha:m2[S.length]?=some p:=(e1.trans e2).get (dB sr.len);obtain⟨a',ha',kv0,hx,ky,ip0⟩:=sr2.get hS;rw[ha]at ha';cases ha';have e0:kv0=[]:=by have:=IsP.length ip0;unfold nP at this;simpa using this
  subst e0;obtain⟨b,rfl,kb⟩:=CP (i1.mono e2) hk;have eu:Ext X.K m2 H2 m2 (upd H2 p (dNo p [((kk,b),v2)])):=.of (sr2.keep ha _);refine⟨hx,b,kk,v2,rfl,kb,post m2 _ _ (((ee.trans e1).trans e2).trans eu) (sr2.put (o:=.dnt [(kk,y)]) ha ⟨_,aN,fun q hq=>?_,.cons_ (i2.mono eu) .nil_⟩) (.ref_ ha)⟩;rw[Qv.mp hq];exact kb.mono eu.keep
 |_=>cases h3
theorem GK{P:Program}{w:World}{h:Heap}{ob:Obj}{es:Array DictEntry}{ep:Nat}(ok:HOk P w H h)(e:Rd H a (dNo a kvs))(g:h.get? a=some ob)(d:ob.data=.dict es ep) :
  es.size=kvs.length/\∀(i:Nat) (hi:i<es.size),∃q,kvs[i]?=some q/\es[i].key=.ref q.1.2:=by
 obtain⟨⟨_,_,xs,r,o,es',ep',e2,e3,e4,e5,_⟩,_⟩:=(show cy P w H h a (dNo a kvs)from e.ok ok);rw[g]at e2;cases e2;rw[d]at e4;cases e4;have hl:kvs.length=xs.length:=Paired.length r;have hs:es.size=xs.length:=by rw[<-ZU,e5,Q5]
 refine⟨by omega,fun i hi=>?_⟩;have key:∀{l:List ((NK×Addr)×V)} {m:List (NK×Addr×Value)} {i:Nat} {x:NK×Addr×Value},KN l m->m[i]?=some x->∃q,l[i]?=some q/\q.1.2=x.2.1:=by
  intro l m i x q;induction q generalizing i with
  |nil=>intro z;simp at z
  |@cons p q ps qs hq t ih=>
   intro z;cases i with
   |zero=>simp at z;subst z;exact⟨p,rfl,hq.2.1⟩
   |succ i=>exact ih (by simpa using z)
 have hx:xs[i]?=some xs[i]:=Q8 (by omega);obtain⟨q,k1,k2⟩:=key r hx;refine⟨q,k1,?_⟩;have h1:es.toList[i]?=some (⟨hNK xs[i].1,.ref xs[i].2.1,xs[i].2.2⟩:DictEntry):=by rw[e5,Qb,hx];rfl
 rw[ZI,ZJ hi]at h1;rw[Option.some.inj h1,k2]
def nU(k:NK):U:=.tup (k.map fun l=>.tup (l.map U.int))
theorem Nl{p:Addr}{k:NK}(h:nH K H p k):Is K m H (.ref p) (nU k):=by
 obtain⟨cs,sq,q⟩:=h;refine .tup_ sq ?_;clear sq;induction q with
 |nil=>exact .nil_
 |cons z _ ih=>exact .cons_ (.tup_ z (iA _)) ih
variable{c:Expr}
def D7(K:Q1):List V->Hp->VK->Prop:=fun xs H Q=>∃d kvs,xs=[.ref d]/\H d=some (dNo d kvs)/\∀l,H l=none->Q (.ref l) (upd H l (.lst (kvs.map fun p=>.ref p.1.2)))
theorem Gn(hc:X.calm=true):fY X (.type "list") (D7 X.K):=by
 rintro pins s σ H xs us Q I r ⟨d,kvs,rfl,hD,q⟩;obtain⟨u,rfl,ru⟩:=ng r;cases ru;obtain⟨⟨hz,hs,xs,rv,ob,es,ep,e1,e2,e3,e4,e5⟩,st⟩:=(show cy X.prog X.w H s.heap d (dNo d kvs)from I.hok d _ hD);obtain⟨g2,g3⟩:=GK I.hok (.inl hD) e1 e3;refine kdl_call (FD hs e2 e3) (I.ok.hd hc) e1 (by rw[g2];exact hz) fun h' tk acc c up gl hac=>?_;have hv:bU (kvs.map fun p=>V.ref p.1.2) acc.toList:=by
  have ea:acc.toList=kvs.map fun p=>Value.ref p.1.2:=by
   refine List.ext_getElem? fun i=>?_;by_cases hi:i<es.size
   ·have hi':i<acc.size:=by rw[hac.1];exact hi
    obtain⟨_,e6⟩:=hac.2 i acc[i] (ZJ hi');obtain⟨q,k1,k2⟩:=g3 i hi;rw[ZI,ZJ hi',e6,k2,Qb,k1];rfl
   ·rw[ZK (by rw[ZU,hac.1];omega),ZK (by rw[Q5,<-g2];omega)]
  rw[ea];clear hac e4 rv g3 hz g2 hD q st gl ea;induction kvs with
  |nil=>exact .nil
  |cons p r ih=>exact .cons rfl ih
 exact⟨.ref s.heap.objs.size,_,I.laid (o:=.lst (kvs.map fun p=>.ref p.1.2)) (t':=tk) up (QZ _) ⟨by rw[Q5];exact hz,_,c,hv,by rw[gl]⟩,rfl,q _ (I.hok.fresh (QZ _))⟩
def tK:Fn
 |[.ref l],S=>match S[l]? with
  |some (.dnt kus)=>some (.ref S.length,S++[.lst (kus.map fun p=>nU p.1)])
  |_=>none
 |_,_=>none
theorem z9:∀{kvs:List ((NK×Addr)×V)},(∀p∈kvs,nH K H p.1.2 p.1.1)->IsL K m H (kvs.map fun p=>.ref p.1.2) (((nP kvs).map (·.1)).map nU)
 |[],_=>.nil_
 |p::r,h=>.cons_ (Nl (h p QU)) (z9 fun q hq=>h q (QD _ hq))
theorem Gf:nz K (D7 K) tK:=by
 intro m S H us vs u S' Q sr i hf post;match us,hf with
 |[.ref l],hf=>
  obtain⟨v,rfl,iv⟩:=i.one;obtain⟨a,ha,rfl⟩:=iv.of_ref;simp only[tK]at hf;split at hf<;>try cases hf
  rename_i ws hS;obtain⟨a',ha',kvs,hx,ky,ip⟩:=sr.get hS;rw[ha]at ha';cases ha';refine⟨a,kvs,rfl,hx,fun p hp=>?_⟩;have il:=z9 (m:=m) ky;rw[ip.1,Qg]at il;exact dX sr il post hp
end
theorem m6{A:Around}{k:Nat}(hr:hU k A):A.units+2<cLine:=Nat.lt_of_le_of_lt (Nat.add_le_add_left (by decide:2<=64) _) hr.units
section
variable{prog:Program}{w:World}{A:Around}{E:Value->Shared->Prop}{s:Shared}
theorem vb{l:Addr}{vs:List Value}{Q:List Value->Shared->Prop}(ht:IsTup s.heap l vs.toArray)(hz:vs.length<=sizeLine)
  (q:Q vs { s with heap:=(s.heap.push (seqObj "list" #[] 0)).update s.heap.objs.size (Obj.mapSeq fun x=>x++vs.toArray) }):wpAny (model prog w) A (collect (.ref l)) Q E s:=by
 obtain⟨o,g,c,n,d⟩:=id ht;have g':(s.heap.push (seqObj "list" #[] 0)).get? l=some o:=Q7 _ g;have g0:(s.heap.push (seqObj "list" #[] 0)).get? s.heap.objs.size=some (seqObj "list" #[] 0):=QF _ rfl;unfold collect;refine Q2 (wpAny_runValue (codeAny_builtin entry_proto_collect' ?_));refine Q2 (m:=newList []) (wpAny_newList (QQ ⟨Code.quiet_builtin _ (by decide +kernel),codeAny_builtin entry_list_iadd' ?_⟩));refine(show wpAny _ _ (Builtin.List.listExtendWith (.ref s.heap.objs.size) (.ref l) (.ref s.heap.objs.size)) _ _ { s with heap:=s.heap.push (seqObj "list" #[] 0) } from ?_);unfold Builtin.List.listExtendWith;refine Q2 (wpAny_typeOf (T:="tuple") ⟨o,g',c⟩ ?_);have tt:(Value.type "tuple" == Value.type "tuple")=true:=by rfl
 rw[if_pos (by rw[tt,Bool.or_true])];refine Q2 (listItems_at g' d (Q2 (listItems_at g0 rfl ?_)));rw[if_neg (by simp)];refine Q2 (listUpdate_at g0 rfl ?_ (Z7 _) (by simp only[Array.size_append,QH,List.length_nil];omega));refine QQ ?_;refine Q2 (m:=load s.heap.objs.size) (wpAny_load (get?_update_seq g0 fun x=>x++vs.toArray) ?_);dsimp only;have e:((#[]:Array Value)++vs.toArray).toList=vs:=by simp
 show wpAny _ _ (pure ((#[]:Array Value)++vs.toArray).toList) Q E _;rw[e];exact QQ q
theorem xf{l:Addr}{vs:List Value}{ns:List Int}{Q:Value->Shared->Prop}(ht:IsTup s.heap l vs.toArray)(hI:IntsAre vs ns)(h64:vs.length<64)
  (q:∀(out:Array Value) (ms:List Int),IntsAre out.toList ms->ms.Perm ns->ms.Pairwise (·<=·)->Q (.ref (s.heap.objs.size+1)) { s with heap:=sortedAll s.heap vs out }) :
  wpAny (model prog w) A (call (.builtin "sorted") [.ref l]) Q E s:=by
 have hz:vs.length<=sizeLine:=by unfold sizeLine;omega
 refine Calls.call_function_entry kind_sorted plain_sorted entry_sorted (args_sorted1 _) ?_;unfold Builtin.«sorted»;refine Q2 (m:=checkCount "sorted" 1 1 _) (QQ (Q2 (vb ht hz (Q2 (wpAny_newList ?_ hz)))));have sz:((s.heap.push (seqObj "list" #[] 0)).update s.heap.objs.size (Obj.mapSeq fun x=>x++vs.toArray)).objs.size=s.heap.objs.size+1:=by rw[Heap.size_update,size_push']
 have gL:(((s.heap.push (seqObj "list" #[] 0)).update s.heap.objs.size (Obj.mapSeq fun x=>x++vs.toArray)).push (seqObj "list" vs.toArray 0)).get? (s.heap.objs.size+1)=some (seqObj "list" vs.toArray 0):=by
  rw[<-sz];exact QF _ rfl
 refine(show wpAny _ _ _ _ _ { s with heap:=((s.heap.push (seqObj "list" #[] 0)).update s.heap.objs.size (Obj.mapSeq fun x=>x++vs.toArray)).push (seqObj "list" vs.toArray 0) } from ?_);rw[sz];refine Q2 (wpAny_holding (wpAny_call_entry slot_list_sort ⟨_,gL,rfl⟩ entry_list_sort (list_sort_tree gL hI h64 fun out ms a1 a2 a3=>⟨_,rfl,?_⟩) (args_list_sort _)));exact QQ ⟨_,rfl,q out ms a1 a2 a3⟩
end
def vR(K:Q1):List V->Hp->VK->Prop:=fun xs H Q=>∃(p:Addr) (ns:List Int),xs=[.ref p]/\SqT K H p (ns.map V.int)/\ns.length<64/\∀(l:Addr) (ms:List Int),H l=none->ms.Perm ns->ms.Pairwise (·<=·)->Q (.ref l) (upd H l (.lst (ms.map V.int)))
theorem oj{X:Cx}:fY X (.builtin "sorted") (vR X.K):=by
 rintro pins s σ H xs us Q I r ⟨p,ns,rfl,sq,h64,q⟩;obtain⟨u,rfl,ru⟩:=ng r;cases ru;obtain⟨its,rv,tp,hz⟩:=I.tuple sq;have eK:=rv.length;rw[Q5]at eK;refine xf tp (gQ rv) (by omega) fun out ms a1 a2 a3=>?_;obtain⟨e,ge⟩:=sortedAll_at s.heap its out;have hf:=I.hok.fresh (Nat.le_succ s.heap.objs.size);exact⟨.ref (s.heap.objs.size+1),_,I.laid (t':=s.toks) (fun b o e=>sortedAll_old e) (Nat.le_succ _) (uK ge a1 (by rw[a2.length_eq];exact h64)),rfl,q _ ms hf a2 a3⟩
def eM:Fn
 |[.tup us],S=>(qW us).bind fun ns=>if ns.length<64 then some (.ref S.length,S++[.lst ((bq ns).map U.int)])else none
 |_,_=>none
theorem oe{K:Q1}:nz K (vR K) eM:=by
 intro m S H us vs u S' Q sr i hf post;match us,hf with
 |[.tup ws],hf=>
  obtain⟨v,rfl,iv⟩:=i.one;simp only[eM]at hf;obtain⟨ns,hn,h⟩:=Q0.mp hf;split at h<;>try cases h
  have hc:ns.length<64:=by assumption
  obtain⟨a,xs,rfl,sq,il⟩:=iv.of_tup;rw[lS hn]at il;rw[il.ints]at sq;refine⟨a,ns,rfl,sq,hc,fun p ms hp pm sm=>?_⟩;rw[kR pm sm];exact dX sr (iA _) post hp
open PySem.AutoSeq1 (wpAny_loadPart')
end OP
namespace OQ
open PySem PySem.Spec PyProof.Rows L2 OG OP
def eE:CS:=
 (bj (ff (aF (cOp fEq (cOp fIx (ag 0) (cC (.int 2))) (cC (.int 0)))) (bj (dI 2 (cOp fIx (ag 0) (cC (.int 1))))
  (bj (dA (ag 0) (cC (.int 1)) (cOp j8 (ag 2) (cC (.int 1))))
  (bj (dI 3 (cC (.int 0)))
  (bj (ff (aF (cOp fLt (ag 2) (cCB oP (af (cOp fIx (ag 0) (cC (.int 0))) aG)))) (dI 3 (cOp fIx (cOp fIx (ag 0) (cC (.int 0))) (ag 2))) (ff (aF (cOp fGt (cCB oP (af (cOp fIx (ag 0) (cC (.int 0))) aG)) (cC (.int 0)))) (dI 3 (cOp j8 (cOp tJ (cOp fIx (cOp fIx (ag 0) (cC (.int 0))) (cOp tJ (cOp oO (ag 2) (cC (.int 3))) (cCB oP (af (cOp fIx (ag 0) (cC (.int 0))) aG)))) (cC (.int 1000003))) (cOp oO (cC (.int 97)) (ag 2)))) cf))
  (bj (dI 4 (cOp tJ (cOp oO (cOp j8 (cOp j8 (cOp tJ (ag 3) (cC (.int 998244353))) (cOp oO (cC (.int 53)) (ag 2))) (cC (.int 1))) (cC (.int 48271))) (cC (.int 2147483647))))
  (bj (dI 5 (cOp tJ (cOp j8 (cOp j8 (cOp oO (ag 4) (ag 4)) (cOp oO (cC (.int 69621)) (ag 2))) (cC (.int 5))) (cC (.int 1000000007))))
  (bj (dI 6 (cOp tJ (cOp j8 (cOp oO (ag 5) (ag 5)) (ag 4)) (cC (.int 998244353))))
  (bj (dA (ag 0) (cC (.int 2)) (cOp j8 (cOp De (cOp j8 (cOp oO (ag 5) (cC (.int 998244353))) (ag 6)) (cC (.int 16))) (cC (.int 1))))
  (ff (aF (cOp fGe (ag 3) (cOp Ho (cC (.int 10)) (cC (.int 18))))) (dA (ag 0) (cC (.int 2)) (cOp De (ag 3) (cOp Ho (cC (.int 10)) (cC (.int 18))))) cf))))))))) cf)
  (bj (dI 7 (cOp tJ (cOp fIx (ag 0) (cC (.int 2))) (ag 1)))
  (bj (dA (ag 0) (cC (.int 2)) (cOp De (cOp fIx (ag 0) (cC (.int 2))) (ag 1)))
  (et (ag 7)))))
theorem uY{a0 a1:U}{S:Sto}:fnU 8 2 (eE ) [a0,a1] S=((eE ) [some a0,some a1,none,none,none,none,none,none] S).bind kFn:=iO rfl
def eS(aw:Fn):CS:=
 (et (gp (af (cOp j8 (cC (.int 1)) (cCB aw (af (ag 0) (af (cC (.int 6)) aG)))) (af (cOp fIx (iU (af (cC (.int 2)) (af (cC (.int 3)) (af (cC (.int 5)) (af (cC (.int 10)) (af (cOp j8 (cC (.int 2)) (cCB aw (af (ag 0) (af (cC (.int 999)) aG)))) aG)))))) (cCB aw (af (ag 0) (af (cC (.int 5)) aG)))) aG))))
theorem tQ{aw:Fn}{a0:U}{S:Sto}:fnU 1 1 (eS aw) [a0] S=((eS aw) [some a0] S).bind kFn:=iO rfl
def eW(aw:Fn):CS:=
 (et (cCB fT (af (fg (iB (af (cOp fIx (ag 1) (cC (.int 0))) aG)) (gNm 0) (cCB aw (af (ag 1) (af (cOp fIx (ag 2) (cC (.int 1))) aG))) 1 [0,1]) aG)))
theorem tW{aw:Fn}{a0 a1:U}{S:Sto}:fnU 2 2 (eW aw) [a0,a1] S=((eW aw) [some a0,some a1] S).bind kFn:=iO rfl
end OQ
local macro_rules
 | `(tactic| rwa $s:rwRuleSeq) => do
  let ts : Array (Lean.TSyntax `term) := s.raw[1].getSepArgs.map fun r => ⟨r[1]⟩
  let us : Array (Lean.TSyntax `term) := (("Hy DH x_c NJ HU HS HC EI Mx IC IB OC LR LQ LS HW IA EZ EY LP HR HQ HV EJ ya nK nJ nI EH x8 EO DK Mu Ip Mb Ig HD HK DI HJ HI HH DP EU HM HL Il DM Ik LM HG Mv Iy Iw Mf Me IE ID Ov LI LH LG LF L5 L6 L7 L9 LC HE HF H0 Ia Ib HZ My LB ON OO OR Ml LV Mj LU Mm LW Mh Mg at0 at1 at2 at3 ix0 ix1 ix2 Option.bind_some List.getElem?_cons_zero List.getElem?_cons_succ List.set_cons_zero List.set_cons_succ List.length_cons List.length_nil List.map_cons List.map_nil decide_true decide_false Bool.not_true Bool.not_false Mi DO DN Ow LL LK LJ HY EM EL EK EN Mc Md L4 Ie NL Iu Ir Iq Mw OS Mr Mq Mp Mo Mn Im OB x_p OA Oy Ox Io EX EW Hz HA HB ER ES ET yd ga ga0 gs gs0 Option.join_some Nat.add_zero List.cons_append List.nil_append List.append_assoc" : String).splitOn " ").toArray.map fun x => ⟨(Lean.mkIdent ((x.splitOn ".").foldl Lean.Name.str Lean.Name.anonymous)).raw⟩
  let vs:=ts++us
  `(tactic| simp only [$[$vs:term],*])
namespace OQ
open PySem PySem.Spec PyProof.Rows L2 OG OP
def pen(a c:Int):O:=.lst [.ref 0,.int a,.int c]
section
variable{S:Sto}{j k:Int}
theorem yc(h:-(2^64)<k/\k<2^64):oO (.int j) (.int k) S=some (.int (j*k),S):=HX (.inr h)
theorem rO(h:-(2^64)<j/\j<2^64):oO (.int j) (.int k) S=some (.int (j*k),S):=HX (.inl h)
theorem OM:oO (.int j) (.int 3) S=some (.int (j*3),S):=yc (by decide)
theorem LZ:oO (.int 97) (.int k) S=some (.int (97*k),S):=rO (by decide)
theorem L3:oO (.int 53) (.int k) S=some (.int (53*k),S):=rO (by decide)
theorem OK:oO (.int j) (.int 48271) S=some (.int (j*48271),S):=yc (by decide)
theorem OJ:oO (.int 69621) (.int k) S=some (.int (69621*k),S):=rO (by decide)
theorem OI:oO (.int j) (.int 998244353) S=some (.int (j*998244353),S):=yc (by decide)
theorem LY:oO (.int (j % 2147483647)) (.int k) S=some (.int (j % 2147483647*k),S):=rO (by have:=Int.emod_nonneg j (show(2147483647:Int)≠0 by decide);have:=Int.emod_lt_of_pos j (show(0:Int)<2147483647 by decide);omega)
theorem LX:oO (.int (j % 1000000007)) (.int k) S=some (.int (j % 1000000007*k),S):=rO (by have:=Int.emod_nonneg j (show(1000000007:Int)≠0 by decide);have:=Int.emod_lt_of_pos j (show(0:Int)<1000000007 by decide);omega)
theorem OH:tJ (.int j) (.int 998244353) S=some (.int (j % 998244353),S):=w6 (by decide)
theorem OF:tJ (.int j) (.int 2147483647) S=some (.int (j % 2147483647),S):=w6 (by decide)
theorem OE:tJ (.int j) (.int 1000000007) S=some (.int (j % 1000000007),S):=w6 (by decide)
theorem OD:tJ (.int j) (.int 1000003) S=some (.int (j % 1000003),S):=w6 (by decide)
theorem Mt:De (.int j) (.int 16) S=some (.int (j / 16),S):=EV ⟨by decide,by decide +kernel⟩
theorem HP:Ho (.int 10) (.int 18) S=some (.int 1000000000000000000,S):=LN (j:=10) (k:=18) ⟨by decide,by decide,by decide⟩
theorem Ms:De (.int j) (.int 1000000000000000000) S=some (.int (j / 1000000000000000000),S):=EV ⟨by decide,by decide +kernel⟩
theorem atU{ns:List Int}{k:Int}(h0:0<=k)(h1:k<(ns.length:Int)):∃v:Int,atI (ns.map U.int) k=some (.int v):=by
 have hk:k.toNat<ns.length:=by omega
 exact⟨ns[k.toNat],A5 h0 (by rw[Qb,Q8 hk];rfl)⟩
end
def gB:Fn:=fnU 8 2 eE
theorem dQ(ns:List Int)(T:Sto){a c m:Int}(ha:0<=a)(hc:0<=c)(hm:0<m)(hb:m.natAbs.log2<9000) :
  ∃f a' c',gB [.ref 1,.int m] (.lst (ns.map U.int)::pen a c::T)=some (.int f,.lst (ns.map U.int)::pen a' c'::T)/\0<=f/\f<m/\0<=a'/\0<=c':=by
 unfold gB;rw[uY];have dm:∀{j:Int} {S:Sto},De (.int j) (.int m) S=some (.int (j / m),S):=EV ⟨hm,hb⟩;have mm:∀{j:Int} {S:Sto},tJ (.int j) (.int m) S=some (.int (j % m),S):=w6 hm;have fin:∀{a' c':Int},0<=a'->0<=c'->0<=c' % m/\c' % m<m/\0<=a'/\0<=c' / m:=fun h1 h2=>⟨Int.emod_nonneg _ (by omega),Int.emod_lt_of_pos _ hm,h1,Int.ediv_nonneg h2 (by omega)⟩;by_cases c0:c=0
 ·subst c0;have cell : ∃ z : Int, (ff (aF (cOp fLt (ag 2) (cCB oP (af (cOp fIx (ag 0) (cC (U.int 0))) aG))))
              (dI 3 (cOp fIx (cOp fIx (ag 0) (cC (U.int 0))) (ag 2)))
              (ff
               (aF (cOp fGt (cCB oP (af (cOp fIx (ag 0) (cC (U.int 0))) aG)) (cC (U.int 0))))
               (dI 3
                (cOp j8
                 (cOp tJ
                  (cOp fIx (cOp fIx (ag 0) (cC (U.int 0)))
                   (cOp tJ (cOp oO (ag 2) (cC (U.int 3)))
                    (cCB oP (af (cOp fIx (ag 0) (cC (U.int 0))) aG))))
                  (cC (U.int 1000003)))
                 (cOp oO (cC (U.int 97)) (ag 2))))
               cf)) [some (.ref 1),some (.int m),some (.int a),some (.int 0),none,none,none,none] (O.lst (ns.map U.int)::.lst [.ref 0,.int (a+1),.int 0]::T)=some (.nx,[some (.ref 1),some (.int m),some (.int a),some (.int z),none,none,none,none],O.lst (ns.map U.int)::.lst [.ref 0,.int (a+1),.int 0]::T):=by
   by_cases h1:a<(ns.length:Int)
   ·obtain⟨z,hz⟩:=atU ha h1;exact⟨z,by rwa[hz,h1,Q5]⟩
   ·by_cases h2:(0:Int)<(ns.length:Int)
    ·obtain⟨z,hz⟩:=atU (ns:=ns) (k:=a*3 % (ns.length:Int)) (Int.emod_nonneg _ (by omega)) (Int.emod_lt_of_pos _ h2);exact⟨z % 1000003+97*a,by rwa[h1,h2,OM,w6 h2,hz,OD,LZ,Q5]⟩
    ·exact⟨0,by rwa[h1,h2,Q5]⟩
  obtain⟨z,hz⟩:=cell;rwa[eE,pen,hz,OH,OF,OE,L3,OK,OJ,OI,LY,LX,Mt,HP];by_cases h3:(1000000000000000000:Int)<=z
  ·rwa[h3,HP,Ms,mm,dm];exact⟨_,_,_,rfl,fin (by omega) (Int.ediv_nonneg (by omega) (by omega))⟩
  ·rwa[h3,mm,dm];refine⟨_,_,_,rfl,fin (by omega) ?_⟩;exact Int.add_nonneg (Int.ediv_nonneg (Int.add_nonneg (Int.mul_nonneg (Int.emod_nonneg _ (by decide)) (by decide)) (Int.emod_nonneg _ (by decide))) (by decide)) (by decide)
 ·rwa[eE,pen,c0,mm,dm];exact⟨_,_,_,rfl,fin ha hc⟩
theorem l9{m:Int}(h0:0<=m)(h:m<2^60):m.natAbs.log2<9000:=zO h0 h
abbrev scr(ns:List Int):O:=.lst (ns.map U.int)
theorem MK{f g:Int}(g0:0<=g)(g1:g<999)(f0:0<=f)(f1:f<5):∃v:Int,atI [U.int 2,U.int 3,U.int 5,U.int 10,U.int (2+g)] f=some (.int v)/\2<=v/\v<=1000:=by
 have:f=0\/f=1\/f=2\/f=3\/f=4:=by omega
 rcases this with rfl|rfl|rfl|rfl|rfl
 ·exact⟨2,rfl,by omega,by omega⟩
 ·exact⟨3,rfl,by omega,by omega⟩
 ·exact⟨5,rfl,by omega,by omega⟩
 ·exact⟨10,rfl,by omega,by omega⟩
 ·exact⟨2+g,rfl,by omega,by omega⟩
def vm:Fn:=fnU 1 1 (eS gB)
theorem BB(ns:List Int)(T:Sto){a c:Int}(ha:0<=a)(hc:0<=c) :
  ∃n w a' c' G,vm [.ref 1] (scr ns::pen a c::T)=some (.tup [.int n,.int w],scr ns::pen a' c'::(T++G))/\1<=n/\n<=6/\2<=w/\w<=1000/\0<=a'/\0<=c':=by
 unfold vm;rw[tQ];obtain⟨f1,a1,c1,h1,p1,q1,ha1,hc1⟩:=dQ ns T (m:=6) ha hc (by decide) (by decide +kernel);obtain⟨f2,a2,c2,h2,p2,q2,ha2,hc2⟩:=dQ ns T (m:=999) ha1 hc1 (by decide) (by decide +kernel);obtain⟨f3,a3,c3,h3,p3,q3,ha3,hc3⟩:=dQ ns (T++[.lst [.int 2,.int 3,.int 5,.int 10,.int (2+f2)]]) (m:=5) ha2 hc2 (by decide) (by decide +kernel);obtain⟨v,hv,v0,v1⟩:=MK p2 q2 p3 q3;refine⟨1+f1,v,a3,c3,[.lst [.int 2,.int 3,.int 5,.int 10,.int (2+f2)]],?_,by omega,by omega,v0,v1,ha3,hc3⟩;rwa[eS,h1,h2,h3,hv]
def vn:Fn:=fnU 2 2 (eW gB)
theorem yN(ns:List Int)(T:Sto){n w:Int}(w0:2<=w)(w1:w<=1000):∀(us:List U) (r:Option U) (ys:List Int) {a c:Int},0<=a->0<=c->ys.length+us.length<=1000->
  ∃zs a' c',jx (fun _=>True) (gNm 0) (cCB gB (af (ag 1) (af (cOp fIx (ag 2) (cC (.int 1))) aG))) (T.length+1+1) us [r,some (.ref 1),some (.tup [.int n,.int w])] (scr ns::pen a c::(T++[.lst (ys.map U.int)]))
   = some (scr ns::pen a' c'::(T++[.lst ((ys++zs).map U.int)]))/\zs.length=us.length/\(∀z∈zs,0<=z/\z<w)/\0<=a'/\0<=c'
 |[],r,ys,a,c,ha,hc,hl=>⟨[],a,c,by simp[jx],rfl,by simp,ha,hc⟩
 |u::us,r,ys,a,c,ha,hc,hl=>by
  obtain⟨f,a1,c1,h1,p1,q1,ha1,hc1⟩:=dQ ns (T++[.lst (ys.map U.int)]) (m:=w) ha hc (by omega) (l9 (by omega) (by omega));obtain⟨zs,a2,c2,h2,e2,b2,ha2,hc2⟩:=yN ns T (n:=n) w0 w1 us (some u) (ys++[f]) ha1 hc1 (by simp at hl ⊢;omega);refine⟨f::zs,a2,c2,?_,by simp[e2],fun z hz=>?_,ha2,hc2⟩
  ·have eK:(ys.map U.int).length<LIM:=by unfold LIM;simp at hl ⊢;omega
   unfold jx;rwa[h1,if_true,eK];rw[QV]at h2;simp only[QX,Ql]at h2;rw[h2];simp
  ·rcases QM.mp hz with rfl|hz
   ·exact⟨p1,q1⟩
   ·exact b2 z hz
theorem BO(ns:List Int)(T:Sto){a c n w:Int}(ha:0<=a)(hc:0<=c)(n0:1<=n)(n1:n<=6)(w0:2<=w)(w1:w<=1000) :
  ∃(zs:List Int) (a' c':Int) (G:Sto),vn [.ref 1,.tup [.int n,.int w]] (scr ns::pen a c::T)=some (.tup (zs.map U.int),scr ns::pen a' c'::(T++G))/\zs.length=n.toNat/\(∀z∈zs,0<=z/\z<w)/\0<=a'/\0<=c':=by
 unfold vn;rw[tW];obtain⟨zs,a',c',h,e,b,ha',hc'⟩:=yN ns T (n:=n) w0 w1 (eg 0 n.toNat) none [] ha hc (by simp[eg];omega);refine⟨zs,a',c',[.lst (zs.map U.int)],?_,by rw[e];simp[eg],b,ha',hc'⟩;have hr:-(2^62)<=n/\n<2^62:=by omega
 simp only[Ql,Qk]at h;rwa[eW,fg,iB,ma,hr,h,if_true,and_self,Qh,Qo]
def fh(ps:List (Int×Int)):List (Key×U):=ps.map fun p=>(.inl p.1,.int p.2)
theorem ib(b:Int):∀ps:List (Int×Int),aS (fh ps) (.inl b)=(aS ps b).map U.int
 |[]=>rfl
 |(k,v)::r=>by
  have ih:=ib b r;unfold aS fh at ih ⊢;simp only[QX,Qt];by_cases e:k=b
  ·subst e;simp
  ·rw[decide_eq_false (fun z:(Sum.inl k:Key)=Sum.inl b=>e (Sum.inl.inj z)),decide_eq_false e];exact ih
theorem Dz(b:Int)(ps:List (Int×Int)):((fh ps).any fun kv=>decide (kv.1=Sum.inl b))=ps.any fun kv=>decide (kv.1=b):=by
 unfold fh;induction ps with
 |nil=>rfl
 |cons p r ih=>
  simp only[QX,ZR,ih];by_cases e:p.1=b
  ·rw[decide_eq_true e,decide_eq_true (by rw[e])]
  ·rw[decide_eq_false e,decide_eq_false (fun z:(Sum.inl p.1:Key)=Sum.inl b=>e (Sum.inl.inj z))]
theorem qN(b v:Int)(ps:List (Int×Int)):eJ (fh ps) (.inl b) (.int v)=fh (eJ ps b v):=by
 unfold eJ;rw[Dz];split
 ·unfold fh;rw[Qg,Qg];refine ZV fun p _=>?_;simp only[Function.comp];by_cases e:p.1=b
  ·simp[e]
  ·rw[if_neg e,if_neg (fun z:(Sum.inl p.1:Key)=Sum.inl b=>e (Sum.inl.inj z))]
 ·simp[fh]
theorem jV{κ α:Type}[DecidableEq κ](ps:List (κ×α))(b:κ)(v:α):(eJ ps b v).length<=ps.length+1:=by
 unfold eJ;split<;>simp
theorem atF{first:List Int}{b n:Int}(l:first.length=n.toNat)(h0:0<=b)(h1:b<n):atI (first.map U.int) b=some (.int (first.getD b.toNat 0)):=by
 have hk:b.toNat<first.length:=by omega
 refine A5 h0 ?_;rw[Qb,Q8 hk,Qs,Q8 hk];rfl
theorem cU{α:Type}{l:List α}{k:Nat}{x:α}(h:l[k]?=some x):k<l.length:=(Q9.mp h).1
theorem ah{α:Type}{l r:List α}{k:Nat}{x:α}(h:l[k]?=some x):(l++r)[k]?=some x:=by rw[QN (cU h)];exact h
def beh(first:List Int)(ps:List (Int×Int))(k:Nat):List Int:=(first.zipIdx k).map fun p=>(aS ps (p.2:Int)).getD p.1
theorem KD{ls:List Nat}{S0 S':Sto}(len:S0.length<=S'.length)(old:∀l,l<S0.length->S'[l]?=S0[l]?):∃G,S'=S0++G:=by
 refine⟨S'.drop S0.length,List.ext_getElem? fun l=>?_⟩;by_cases c:l<S0.length
 ·rw[old l c,QN c]
 ·rw[Qx (by omega),List.getElem?_drop];congr 1;omega
theorem inI(b:Int):∀l:List Int,inU (.int b) (l.map U.int)=decide (b∈l)
 |[]=>by simp[inU]
 |x::r=>by
  have ih:=inI b r;unfold inU at ih ⊢;rw[QX,ZR,ih,show eqF (.int x) (.int b)=(x == b)from rfl];by_cases e:x=b
  ·subst e;simp
  ·have:(x == b)=false:=by simpa using e
   rw[this];simp[Ne.symm e]
theorem C9(l:List Int):(l.map U.int).all iC=true:=by
 induction l with
 |nil=>rfl
 |cons x r ih=>rw[QX,List.all_cons,ih];rfl
theorem vf(first:List Int)(ps:List (Int×Int))(k:Nat):(beh first ps k).length=first.length:=by simp[beh]
theorem G7(first:List Int)(ps:List (Int×Int))(k i:Nat)(h:i<first.length):(beh first ps k)[i]?=some ((aS ps ((k+i:Nat):Int)).getD (first.getD i 0)):=by
 unfold beh;rw[Qb,List.getElem?_zipIdx,Q8 h];simp[Qs,Q8 h]
section
variable{first:List Int}
theorem A2:beh first [] 0=first:=by
 refine List.ext_getElem? fun i=>?_;by_cases hi:i<first.length
 ·rw[G7 _ _ _ _ hi,Q8 hi];simp[aS,Qs,Q8 hi]
 ·rw[ZK (by rw[vf];omega),ZK (by omega)]
end
theorem DT{us:List U}{S:Sto}:tyU (.tup us) S=some .tuple:=rfl
theorem IU{i:Int}{S:Sto}:tyU (.int i) S=some .int:=rfl
theorem IS{i:Str}{S:Sto}:tyU (.str i) S=some .str:=rfl
theorem IT{l:Nat}{us:List U}{S:Sto}(h:S[l]?=some (.lst us)):tyU (.ref l) S=some .list:=by simp only[tyU,h]
theorem Ma{x:U}{S:Sto}:KH x .non S=some (.bl (C2 x),S):=rfl
theorem Fy{c:CE}{ρ:Rho}{S S':Sto}{i:Int}(h:c ρ S=some (.int i,S')):xR (some c) ρ S=some (some i,S'):=by simp only[xR,h,Q4]
def pU(p:Int×Int):U:=.tup [.int p.1,.int p.2]
theorem qq{ok:Sto->Prop}{g:CG}{ct:CT}{ce:CE}{l:Nat}{ρ:Rho}{S:Sto}(h:ok S):cK ok g ct ce l [] ρ S=some S:=by rw[cK,if_pos h]
theorem ub{ok:Sto->Prop}{g:CG}{ct:CT}{ce:CE}{l:Nat}{ρ ρ0:Rho}{S S0 S1:Sto}{u:U}{us:List U}(h:ok S)(hg:g u ρ S=some (ρ0,S0))(ht:ct ρ0 S0=some (false,S1)):cK ok g ct ce l (u::us) ρ S=cK ok g ct ce l us ρ0 S1:=by
 rw[cK,if_pos h,hg,Q4,ht,Q4,if_neg QK]
theorem qp{ok:Sto->Prop}{g:CG}{ct:CT}{ce:CE}{l:Nat}{ρ ρ0:Rho}{S S0 S1 S2:Sto}{u x:U}{us ys:List U}(h:ok S)(hg:g u ρ S=some (ρ0,S0))(ht:ct ρ0 S0=some (true,S1))(he:ce ρ0 S1=some (x,S2))(hl:S2[l]?=some (.lst ys))(hn:ys.length<LIM) :
  cK ok g ct ce l (u::us) ρ S=cK ok g ct ce l us ρ0 (S2.set l (.lst (ys++[x]))):=by
 rw[cK,if_pos h,hg,Q4,ht,Q4,if_pos rfl,he,Q4];simp only[hl,hn,if_true]
def Lay(k:Nat)(S:Sto)(u:U):Prop:=∃d,Dt S u d/\d.canLay0=true/\d.depth<=k
def mI(k:Nat)(S:Sto)(u v:U):Prop:=∃d,Dt S u d/\Dt S v d/\d.canLay0=true/\d.depth<=k
def iN(k:Nat)(S:Sto)(us vs:List U):Prop:=∃ds,DtL S us ds/\DtL S vs ds/\PyData.canLayAll0 ds=true/\PyData.depthAll ds<=k
section
variable{k:Nat}{S:Sto}{u v:U}{us vs:List U}
theorem Lay.int{i:Int}:Lay k S (.int i):=⟨_,.int i,rfl,Z7 _⟩
theorem Lay.str{x:Str}(h:PyData.strOk x=true):Lay k S (.str x):=⟨_,.str x,h,Z7 _⟩
theorem mI.refl(h:Lay k S u):mI k S u u:=by obtain⟨d,a,b,c⟩:=h;exact⟨d,a,a,b,c⟩
theorem iN.nil:iN k S [] []:=⟨[],.nil,.nil,rfl,Z7 _⟩
theorem iN.cons(h:mI k S u v)(t:iN k S us vs):iN k S (u::us) (v::vs):=by
 obtain⟨d,a,b,c,e⟩:=h;obtain⟨ds,a',b',c',e'⟩:=t;refine⟨d::ds,.cons a a',.cons b b',by unfold PyData.canLayAll0;rw[c,c'];rfl,?_⟩;unfold PyData.depthAll;exact Nat.max_le.mpr ⟨e,e'⟩
theorem iN.all:∀{us:List U},(∀u∈us,Lay k S u)->iN k S us us
 |[],_=>.nil
 |u::us,h=>.cons (.refl (h u QU)) (iN.all fun x hx=>h x (QD _ hx))
theorem mI.tup(h:iN k S us vs):mI (k+1) S (.tup us) (.tup vs):=by
 obtain⟨ds,a,b,c,e⟩:=h;refine⟨.tuple ds,.tup a,.tup b,by unfold PyData.canLay0;exact c,?_⟩;unfold PyData.depth;omega
theorem mI.lst{l l':Nat}(h1:S[l]?=some (.lst us))(h2:S[l']?=some (.lst vs))(h:iN k S us vs):mI (k+1) S (.ref l) (.ref l'):=by
 obtain⟨ds,a,b,c,e⟩:=h;refine⟨.list ds,.lst h1 a,.lst h2 b,by unfold PyData.canLay0;exact c,?_⟩;unfold PyData.depth;omega
theorem Lay.tup(h:∀u∈us,Lay k S u):Lay (k+1) S (.tup us):=by
 obtain⟨d,a,_,b,c⟩:=mI.tup (iN.all h);exact⟨d,a,b,c⟩
theorem mI.ne(h:mI k S u v)(hk:k<=60):oR true u v S=some (.bl false,S):=by
 obtain⟨d,a,b,c,e⟩:=h;exact rm true (.inl ⟨d,d,a,b,⟨c,Qj e hk⟩,⟨c,Qj e hk⟩,(SeqAt.eqv_refl d c).symm⟩)
end
def gJ(aw:Fn):CS:=
 (fG (cBM cq (ag 3) (af (cBM m7 (ag 2) (af (cCB aw (af (ag 0) (af (cCB oP (af (ag 2) aG)) aG))) aG)) aG)))
def e9(aw:Fn):CS:=
 (bj (dI 2 (mG (af (cC (.int 200)) aG)))
  (bj (dI 3 (iU aG))
  (bj (me (iB (af (ag 1) aG)) (gNm 4) (gJ aw))
  (et (ag 3)))))
theorem tZ{aw:Fn}{a0 a1:U}{S:Sto}:fnU 5 2 (e9 aw) [a0,a1] S=((e9 aw) [some a0,some a1,none,none,none] S).bind kFn:=iO rfl
def d3:CS:=
 (et (cCB fT (af (fg (jX (ag 0)) (gTp [0,1]) (mH (ag 2) (ag 0) (ag 1)) 2 [1]) aG)))
theorem rq{a0 a1:U}{S:Sto}:fnU 2 2 (d3 ) [a0,a1] S=((d3 ) [some a0,some a1] S).bind kFn:=iO rfl
def cZ(aw:Fn):CS:=
 (bj (dI 6 (cCB aw (af (ag 0) (af (cC (.int 12)) aG))))
  (bj (dI 7 (cCB aw (af (ag 0) (af (cOp fIx (ag 1) (cC (.int 0))) aG))))
  (bj (ff (aF (cOp fLt (ag 6) (cC (.int 5)))) (bj (dI 8 (cOp fIx (iU (af (cOp fIx (ag 3) (ag 7)) (af (cOp fIx (ag 3) (ag 7)) (af (cOp fIx (ag 5) (ag 7)) (af (cCB aw (af (ag 0) (af (cOp fIx (ag 1) (cC (.int 1))) aG))) aG))))) (cCB aw (af (ag 0) (af (cC (.int 4)) aG)))))
  (et (gp (af (cC (.str "look")) (af (ag 2) (af (ag 7) (af (mH (ag 4) (ag 7) (ag 8)) aG))))))) cf)
  (bj (ff (aF (cOp fLt (ag 6) (cC (.int 8)))) (et (gp (af (cC (.str "put")) (af (ag 2) (af (ag 7) (af (cCB aw (af (ag 0) (af (cOp fIx (ag 1) (cC (.int 1))) aG))) aG)))))) cf)
  (et (gp (af (cOp fIx (iU (af (cC (.str "done")) (af (cC (.str "done")) (af (cC (.str "done")) (af (cC (.str "fall")) aG))))) (cOp Nr (ag 6) (cC (.int 8)))) (af (ag 2) aG))))))))
theorem t5{aw:Fn}{a0 a1 a2 a3 a4 a5:U}{S:Sto}:fnU 9 6 (cZ aw) [a0,a1,a2,a3,a4,a5] S=((cZ aw) [some a0,some a1,some a2,some a3,some a4,some a5,none,none,none] S).bind kFn:=iO rfl
def gw(b6 aw b7 bL:Fn):CS:=
 (ff (pD (aF (cOp (oR true) (ag 5) (iU aG))) (cOr (aF (cOp (oR false) (ag 8) (iU aG))) (aF (cOp fEq (cCB aw (af (ag 0) (af (cC (.int 4)) aG))) (cC (.int 0)))))) (bj (fG (cBM cq (ag 8) (af (gp (af (cBM xG (ag 5) aG) (af (ag 7) (af iR aG)))) aG)))
  (fG (cBM cq (ag 6) (af (gp (af (cC (.str "begin")) (af (cOp fIx (cOp fIx (ag 8) (vd (cC (.int 1)))) (cC (.int 0))) aG))) aG)))) (ff (aF (cOp (oR true) (ag 8) (iU aG))) (bj (dI 10 (cCB aw (af (ag 0) (af (cCB oP (af (ag 8) aG)) aG))))
  (bj (Hr (cOp fIx (ag 8) (ag 10)) (gTp [11,12,13]))
  (bj (fG (cBM cq (ag 6) (af (cCB b7 (af (ag 0) (af (ag 1) (af (ag 11) (af (ag 12) (af (ag 13) (af (ag 7) aG))))))) aG)))
  (bj (ff (aF (cOp fEq (cOp fIx (cOp fIx (ag 6) (vd (cC (.int 1)))) (cC (.int 0))) (cC (.str "put")))) (dA (ag 13) (cOp fIx (cOp fIx (ag 6) (vd (cC (.int 1)))) (cC (.int 2))) (cOp fIx (cOp fIx (ag 6) (vd (cC (.int 1)))) (cC (.int 3)))) (ff (aF (cOp fEq (cOp fIx (cOp fIx (ag 6) (vd (cC (.int 1)))) (cC (.int 0))) (cC (.str "done")))) (dI 7 (cCB bL (af (ag 7) (af (ag 13) aG)))) cf))
  (ff (aF (cOp (fIn false) (cOp fIx (cOp fIx (ag 6) (vd (cC (.int 1)))) (cC (.int 0))) (gp (af (cC (.str "done")) (af (cC (.str "fall")) aG))))) (fG (cBM m7 (ag 8) (af (ag 10) aG))) cf))))) cf))
def g5(b6 aw b7 bL:Fn):CS:=
 (bj (dI 5 (cCB b6 (af (ag 0) (af (cCB aw (af (ag 0) (af (cOp j8 (ag 3) (cC (.int 1))) aG))) aG))))
  (bj (dI 6 (iU aG))
  (bj (dI 7 (ag 2))
  (bj (dI 8 (iU aG))
  (bj (me (iB (af (cCB aw (af (ag 0) (af (cOp j8 (ag 4) (cC (.int 1))) aG))) aG)) (gNm 9) (gw b6 aw b7 bL))
  (et (ag 6)))))))
theorem xM{b6 aw b7 bL:Fn}{a0 a1 a2 a3 a4:U}{S:Sto}:fnU 14 5 (g5 b6 aw b7 bL) [a0,a1,a2,a3,a4] S=((g5 b6 aw b7 bL) [some a0,some a1,some a2,some a3,some a4,none,none,none,none,none,none,none,none,none] S).bind kFn:=iO rfl
def fc:CS:=
 (et (cCB eD (af (bz (iTp (ag 0)) (gNm 0) (aF (cOp fEq (cOp fIx (ag 0) (cC (.int 0))) (cC (.str "begin")))) (cOp fIx (ag 0) (cC (.int 1))) 1 []) aG)))
theorem t6{a0:U}{S:Sto}:fnU 1 1 (fc ) [a0] S=((fc ) [some a0] S).bind kFn:=iO rfl
def a8:CS:=
 (bj (ff (pD (aF (cOp fEq (cOp fIx (ag 4) (cC (.int 1))) (ag 1))) (aF (cOp fEq (cOp fIx (ag 4) (cC (.int 0))) (cC (.str "put"))))) (fG (cBM cq (ag 3) (af (cOp fIx (ag 4) (cC (.int 2))) aG))) cf)
  (ff (pD (aF (cOp fEq (cOp fIx (ag 4) (cC (.int 1))) (ag 1))) (pD (aF (cOp fEq (cOp fIx (ag 4) (cC (.int 0))) (cC (.str "look")))) (aF (cOp (fIn true) (cOp fIx (ag 4) (cC (.int 2))) (ag 3))))) (fG (cBM cq (ag 2) (af (gp (af (cOp fIx (ag 4) (cC (.int 2))) (af (cOp fIx (ag 4) (cC (.int 3))) aG))) aG))) cf))
def fb:CS:=
 (bj (dI 2 (iU aG))
  (bj (dI 3 (iU aG))
  (bj (me (iTp (ag 0)) (gNm 4) (a8 ))
  (et (ag 2)))))
theorem t4{a0 a1:U}{S:Sto}:fnU 5 2 (fb ) [a0,a1] S=((fb ) [some a0,some a1,none,none,none] S).bind kFn:=iO rfl
def bx:CS:=
 (ff (pD (aF (cOp fEq (cOp fIx (ag 3) (cC (.int 1))) (ag 1))) (aF (cOp fEq (cOp fIx (ag 3) (cC (.int 0))) (cC (.str "put"))))) (dA (ag 2) (cOp fIx (ag 3) (cC (.int 2))) (cOp fIx (ag 3) (cC (.int 3)))) cf)
def fV:CS:=
 (bj (dI 2 iR)
  (bj (me (iTp (ag 0)) (gNm 3) (bx ))
  (et (ag 2))))
theorem uZ{a0 a1:U}{S:Sto}:fnU 4 2 (fV ) [a0,a1] S=((fV ) [some a0,some a1,none,none] S).bind kFn:=iO rfl
def bH(ao:Cl):CS:=
 (ff (aF (cOp (fIn true) (ag 2) (cOp fIx (gP ao 3 (ag 0)) (ag 1)))) (bj (fG (cBM cq (cOp fIx (gP ao 1 (ag 0)) (ag 1)) (af (gp (af (ag 2) (af (ag 3) aG))) aG)))
  (o6 (cOp fIx (gP ao 2 (ag 0)) (ag 1)) (af (ag 2) (af (ag 3) aG)) (cC (.bl true)))) cf)
theorem lZ{ao:Cl}{a0 a1 a2 a3:U}{S:Sto}:fnU 4 4 (bH ao) [a0,a1,a2,a3] S=((bH ao) [some a0,some a1,some a2,some a3] S).bind kFn:=iO rfl
def dz(ao:Cl):CS:=
 (bj (dA (gP ao 4 (ag 0)) (ag 1) (nE (gP ao 0 (ag 0)) (gNm 0) (aF (cOp fNe (cOp fIx (gP ao 0 (ag 1)) (ag 0)) (cC (.str "open")))) (ag 0) 1 [0]))
  (bj (dA (gP ao 0 (ag 0)) (ag 1) (cC (.str "open")))
  (bj (dA (gP ao 1 (ag 0)) (ag 1) (iU aG))
  (bj (dA (gP ao 2 (ag 0)) (ag 1) AX)
  (dA (gP ao 3 (ag 0)) (ag 1) iR)))))
theorem pR{ao:Cl}{a0 a1:U}{S:Sto}:fnU 2 2 (dz ao) [a0,a1] S=((dz ao) [some a0,some a1] S).bind kFn:=iO rfl
def bw(cm bt:Fn)(ao:Cl):CS:=
 (bj (dI 2 (cOp fIx (ag 1) (cC (.int 1))))
  (ff (aF (cOp fEq (cOp fIx (ag 1) (cC (.int 0))) (cC (.str "begin")))) (fG (ug ao cm (ag 0) (af (ag 2) aG))) (ff (aF (cOp fEq (cOp fIx (ag 1) (cC (.int 0))) (cC (.str "look")))) (fG (ug ao bt (ag 0) (af (ag 2) (af (cOp fIx (ag 1) (cC (.int 2))) (af (cOp fIx (ag 1) (cC (.int 3))) aG))))) (ff (aF (cOp fEq (cOp fIx (ag 1) (cC (.int 0))) (cC (.str "put")))) (dA (cOp fIx (gP ao 3 (ag 0)) (ag 2)) (cOp fIx (ag 1) (cC (.int 2))) (cOp fIx (ag 1) (cC (.int 3)))) (dA (gP ao 0 (ag 0)) (ag 2) (cOp fIx (ag 1) (cC (.int 0))))))))
theorem oV{cm bt:Fn}{ao:Cl}{a0 a1:U}{S:Sto}:fnU 3 2 (bw cm bt ao) [a0,a1] S=((bw cm bt ao) [some a0,some a1,none] S).bind kFn:=iO rfl
def d4(ao:Cl):CS:=
 (bj (pT ao 0 (ag 0) iR)
  (bj (pT ao 1 (ag 0) iR)
  (bj (pT ao 2 (ag 0) iR)
  (bj (pT ao 3 (ag 0) iR)
  (pT ao 4 (ag 0) iR)))))
theorem rA{ao:Cl}{a0:U}{S:Sto}:fnU 1 1 (d4 ao) [a0] S=((d4 ao) [some a0] S).bind kFn:=iO rfl
def iG(bu bM:Fn)(ao:Cl):CS:=
 (fG (ug ao bu (ag 1) (af (ag 2) aG)))
def fU(bu bM:Fn)(ao:Cl):CS:=
 (bj (dI 1 (cCB (rj ao bM) aG))
  (bj (me (iTp (ag 0)) (gNm 2) (iG bu bM ao))
  (et (ag 1))))
theorem uX{bu bM:Fn}{ao:Cl}{a0:U}{S:Sto}:fnU 3 1 (fU bu bM ao) [a0] S=((fU bu bM ao) [some a0,none,none] S).bind kFn:=iO rfl
section
variable{S:Sto}{l l':Nat}{us:List U}{u:U}{i:Int}
def wt(l:Nat)(i:Int)(S:Sto):Option O->Option (U×Sto)
 |some (.lst us)=>if 0<=i/\i<us.length/\us.length<=LIM then(us[i.toNat]?).bind fun u=>some (u,S.set l (.lst (us.eraseIdx i.toNat)))else none
 |_=>none
theorem uy:m7 (.ref l) [.int i] S=wt l i S S[l]?:=by
 unfold m7 wt;rfl
theorem qB(h0:0<=i)(h1:i<us.length)(hL:us.length<=LIM)(hu:us[i.toNat]?=some u):wt l i S (some (.lst us))=some (u,S.set l (.lst (us.eraseIdx i.toNat))):=by
 simp only[wt];rw[if_pos ⟨h0,h1,hL⟩,hu,Q4]
def Lq(l:Nat)(S:Sto):Option O->Option (U×Sto)
 |some (.lst us)=>(us[us.length-1]?).bind fun u=>some (u,S.set l (.lst us.dropLast))
 |_=>none
theorem LO:xG (.ref l) [] S=Lq l S S[l]?:=by
 unfold xG Lq;rfl
theorem HN{vs:List U}:Lq l S (some (.lst (vs++[u])))=some (u,S.set l (.lst vs)):=by
 unfold Lq;simp
def kNg:U×Sto->Option (U×Sto)
 |(.int i,S)=>some (.int (-i),S)
 |_=>none
theorem yb{ca:CE}{ρ:Rho}:vd ca ρ S=(ca ρ S).bind kNg:=by
 unfold vd;congr 1;funext p;obtain⟨x,S⟩:=p;cases x<;>rfl
theorem rN:kNg (.int i,S)=some (.int (-i),S):=rfl
theorem pd{vs:List U}:atI (vs++[u]) (-1)=some u:=by
 unfold atI ixN;rw[if_neg (by omega),if_pos (by rw[Q6,Qa];omega)];simp only[Q4];have e:((-1:Int)+((vs++[u]).length:Int)).toNat=vs.length:=by rw[Q6,Qa];omega
 rw[e];simp
theorem sJ(neg:Bool)(h:S[l]?=some (.lst us))(h':S[l']?=some (.lst [])):oR neg (.ref l) (.ref l') S=some (.bl (if neg then !decide (us=[])else decide (us=[])),S):=by
 by_cases e:us=[]
 ·subst e;have k:=(mI.lst (k:=0) h h' .nil);obtain⟨d,a,b,c,e⟩:=k;rw[decide_eq_true rfl];exact rm neg (.inl ⟨d,d,a,b,⟨c,Qj e (by omega)⟩,⟨c,Qj e (by omega)⟩,(SeqAt.eqv_refl d c).symm⟩)
 ·rw[decide_eq_false e];exact rm neg (.inr ⟨l,l',us,[],rfl,rfl,h,h',by simpa using e,rfl⟩)
end
theorem qo{α:Type}{l:List α}{k:Nat}(h:k<l.length):(l[k]::l.eraseIdx k).Perm l:=by
 rw[List.eraseIdx_eq_take_drop_succ];refine(List.perm_middle.symm).trans ?_;rw[List.getElem_cons_drop h,List.take_append_drop]
theorem ow{α β:Type}(f:α->β)(l:List α)(k:Nat):(l.eraseIdx k).map f=(l.map f).eraseIdx k:=by
 rw[List.eraseIdx_eq_take_drop_succ,List.eraseIdx_eq_take_drop_succ,QV,List.map_take,List.map_drop]
def mK:Fn:=fnU 5 2 (e9 gB)
theorem qg(ns:List Int)(T:Sto){x1:Option U}:∀(us:List U) (r4:Option U) (left found:List Int) {a c:Int},0<=a->0<=c->left.length+found.length=200->us.length+found.length<=200->(found++left).Nodup->(∀x∈found++left,0<=x/\x<200)->
  ∃(r4':Option U) (left' found':List Int) (a' c':Int),d9 (fun _=>True) (gNm 4) (gJ gB) us [some (.ref 1),x1,some (.ref (T.length+1+1)),some (.ref (T.length+1+1+1)),r4] (scr ns::pen a c::(T++[.lst (left.map U.int),.lst (found.map U.int)]))
   = some (.nx,[some (.ref 1),x1,some (.ref (T.length+1+1)),some (.ref (T.length+1+1+1)),r4'],scr ns::pen a' c'::(T++[.lst (left'.map U.int),.lst (found'.map U.int)]))/\found'.length=found.length+us.length/\found'.Nodup/\(∀x∈found',0<=x/\x<200)/\0<=a'/\0<=c'
 |[],r4,left,found,a,c,ha,hc,hl,hu,hd,hb=>⟨r4,left,found,a,c,fD trivial,by simp,(Qe.mp hd).1,fun x hx=>hb x (Qd _ hx),ha,hc⟩
 |u::us,r4,left,found,a,c,ha,hc,hl,hu,hd,hb=>by
  simp only[QY]at hu;obtain⟨f,a1,c1,e1,p1,q1,ha1,hc1⟩:=dQ ns (T++[.lst (left.map U.int),.lst (found.map U.int)]) (m:=(left.length:Int)) ha hc (by omega) (l9 (by omega) (by omega));have hk:f.toNat<left.length:=by omega
  have hp:(found++[left[f.toNat]]++left.eraseIdx f.toNat).Perm (found++left):=by
   rw[Q3];refine List.Perm.append_left _ ?_;exact qo hk
  obtain⟨r4',left',found',a',c',ih,k1,k2⟩:=qg ns T (x1:=x1) us (some u) (left.eraseIdx f.toNat) (found++[left[f.toNat]]) ha1 hc1 (by rw[List.length_eraseIdx_of_lt hk,Q6,Qa];omega) (by rw[Q6,Qa];omega) (hp.nodup_iff.mpr hd) (fun x hx=>hb x (hp.mem_iff.mp hx));refine⟨r4',left',found',a',c',(iw trivial rfl ?_).trans ih,by rw[k1,Q6,Qa,QY];omega,k2⟩;have hg:(left.map U.int)[f.toNat]?=some (.int left[f.toNat]):=by rw[Qb,Q8 hk];rfl
  have h1:(left.map U.int).length<=LIM:=by unfold LIM;rw[Q5];omega
  have h2:(found.map U.int).length<LIM:=by unfold LIM;rw[Q5];omega
  rwa[gJ,e1,uy,qB p1 (show f<((left.map U.int).length:Int)by rw[Q5];exact q1) h1 hg,iV h2,Q5];rw[QV,ow];rfl
theorem yZ(n:Nat):eg 0 n=((Qi n).map fun i:Nat=>(i:Int)).map U.int:=by
 unfold eg;rw[Qg];refine ZV fun i _=>?_;simp
theorem CB(ns:List Int)(T:Sto){a c m:Int}(ha:0<=a)(hc:0<=c)(m0:0<=m)(m1:m<=200) :
  ∃(left names:List Int) (a' c':Int),mK [.ref 1,.int m] (scr ns::pen a c::T)=some (.ref (T.length+1+1+1),scr ns::pen a' c'::(T++[.lst (left.map U.int),.lst (names.map U.int)]))/\names.length=m.toNat/\names.Nodup/\(∀x∈names,0<=x/\x<200)/\0<=a'/\0<=c':=by
 unfold mK;rw[tZ];have hL:(((Qi 200).map fun i:Nat=>(i:Int))).Nodup:=List.Pairwise.map _ (fun a b h e=>h (by omega)) List.nodup_range;obtain⟨r4,left,names,a',c',e,k1,k2,k3,k4,k5⟩:=qg ns T (x1:=some (.int m)) (eg 0 m.toNat) none ((Qi 200).map fun i:Nat=>(i:Int)) [] ha hc (by simp) (by simp[eg];omega) (by rw[Qk];exact hL) (fun x hx=>by
  rw[Qk]at hx;obtain⟨i,hi,rfl⟩:=QR.mp hx;have:=List.mem_range.mp hi;omega)
 refine⟨left,names,a',c',?_,by rw[k1];simp[eg],k2,k3,k4,k5⟩;have hr:-(2^62)<=m/\m<2^62:=by omega
 have hR:mG (af (cC (.int 200)) aG) [some (.ref 1),some (.int m),none,none,none] (scr ns::pen a c::T)=some (.ref (T.length+1+1),scr ns::pen a c::(T++[.lst (((Qi 200).map fun i:Nat=>(i:Int)).map U.int)])):=by
  rw[<-yZ];rfl
 simp only[Ql]at e;rwa[e9,hR,me,iB,hr,if_true,and_self,Q6,e]
inductive Ev where
 |beg (a:Int)|look (a b x:Int)|put (a b x:Int)|fin (d:Bool) (a:Int)
def hJ(d:Bool):Str:=if d then "done" else "fall"
def Ev.u:Ev->U
 |.beg a=>.tup [.str "begin",.int a]
 |.look a b x=>.tup [.str "look",.int a,.int b,.int x]
 |.put a b x=>.tup [.str "put",.int a,.int b,.int x]
 |.fin d a=>.tup [.str (hJ d),.int a]
structure Att where
 en:Option Bool
 lk:List (Int×Int)
 nd:List (Int×Int)
 ps:List (Int×Int)
 bf:List Int
abbrev St:=List (Int×Att)
def qz(st:St):Att:=⟨none,[],[],[],(st.filter fun p=>p.2.en.isSome).map (·.1)⟩
def Bj(nd:List (Int×Int))(p:Int×Int):List (Int×Int):=if p∈nd then nd else nd++[p]
def Att.ev(t:Att):Ev->Att
 |.beg _=>t
 |.look _ b x=>if (aS t.ps b).isSome then t else { t with lk:=t.lk++[(b,x)],nd:=Bj t.nd (b,x) }
 |.put _ b x=>{ t with ps:=eJ t.ps b x }
 |.fin d _=>{ t with en:=some d }
def Ev.at:Ev->Int
 |.beg a=>a|.look a _ _=>a|.put a _ _=>a|.fin _ a=>a
def Bi(st:St)(a:Int)(f:Att->Att):St:=st.map fun p=>if p.1=a then(p.1,f p.2)else p
def stp(st:St):Ev->St
 |.beg a=>st++[(a,qz st)]
 |e=>Bi st e.at fun t=>t.ev e
def aE(st:St):List Int:=st.map (·.1)
def vv(n w:Int)(st:St):Ev->Prop
 |.beg a=>0<=a/\a<200/\a∉aE st
 |.look a b x=>(0<=b/\b<n/\0<=x/\x<w)/\∃t,aS st a=some t/\t.en=none/\(∀y,aS t.ps b=some y->y=x)
 |.put a b x=>(0<=b/\b<n/\0<=x/\x<w)/\∃t,aS st a=some t/\t.en=none
 |.fin _ a=>∃t,aS st a=some t/\t.en=none
def pF(n w:Int):St->List Ev->Prop
 |_,[]=>True
 |st,e::r=>vv n w st e/\pF n w (stp st e) r
def aQ(st:St)(es:List Ev):St:=es.foldl stp st
theorem oy{n w:Int}{e:Ev}:∀{es:List Ev} {st:St},pF n w st (es++[e])↔pF n w st es/\vv n w (aQ st es) e
 |[],st=>by simp[pF,aQ]
 |x::es,st=>by
  have ih:=oy (n:=n) (w:=w) (e:=e) (es:=es) (st:=stp st x);simp only[Qz,pF,aQ,List.foldl_cons]at ih ⊢;rw[ih,and_assoc]
theorem bW{st:St}{es:List Ev}{e:Ev}:aQ st (es++[e])=stp (aQ st es) e:=by
 unfold aQ;rw[List.foldl_append];rfl
theorem f9{κ α:Type}[DecidableEq κ]{ps:List (κ×α)}{k:κ}{v:α}(h:aS ps k=some v):(k,v)∈ps:=by
 unfold aS at h;obtain⟨p,hp,rfl⟩:=Qn.mp h;have:=List.find?_some hp;have e:p.1=k:=by simpa using this
 subst e;exact List.mem_of_find?_eq_some hp
theorem du{κ α:Type}[DecidableEq κ]{ps:List (κ×α)}{k:κ}:aS ps k=none↔k∉ps.map (·.1):=by
 unfold aS;rw[Option.map_eq_none_iff,List.find?_eq_none];simp only[decide_eq_true_eq,QR,not_exists,not_and]
theorem zX{st:St}{a:Int}{f:Att->Att}:aE (Bi st a f)=aE st:=by
 unfold aE Bi;rw[Qg];refine ZV fun p _=>?_;simp only[Function.comp];split<;>rfl
theorem vG{st:St}{a:Int}{f:Att->Att}{b:Int}:aS (Bi st a f) b=if b=a then(aS st b).map f else aS st b:=by
 unfold aS Bi;induction st with
 |nil=>simp
 |cons p r ih=>
  simp only[QX,Qt];by_cases e:p.1=b
  ·subst e;by_cases e2:p.1=a
   ·subst e2;simp
   ·simp[e2]
  ·have e3:(if p.1=a then(p.1,f p.2)else p).1=p.1:=by split<;>rfl
   rw[e3,decide_eq_false e];exact ih
theorem kM{κ α:Type}[DecidableEq κ]{ps qs:List (κ×α)}{k:κ}:aS (ps++qs) k=(aS ps k).or (aS qs k):=by
 unfold aS;rw[List.find?_append];cases List.find? (fun kv=>decide (kv.1=k)) ps<;>simp
theorem jW{st:St}{e:Ev}:aE (stp st e)=match e with
  |.beg a=>aE st++[a]
  |_=>aE st:=by
 cases e with
 |beg a=>simp[stp,aE]
 |_=>simp only[stp,zX]
theorem bV{st:St}{e:Ev}{b:Int}(h:b≠e.at):aS (stp st e) b=aS st b:=by
 cases e with
 |beg a=>
  have h':a≠b:=Ne.symm h;simp[stp,kM];cases aS st b with
  |some t=>rfl
  |none=>simp[aS,h']
 |_=>simp only[stp,vG,if_neg h]
theorem bN{st:St}{e:Ev}{t:Att}(h:aS st e.at=some t):aS (stp st e) e.at=some (t.ev e):=by
 cases e with
 |beg a=>simp only[stp,kM,Ev.at]at h ⊢;rw[h];rfl
 |_=>simp only[stp,vG,if_pos];rw[h];rfl
theorem eA{st:St}{a:Int}(h:a∉aE st):aS (stp st (.beg a)) a=some (qz st):=by
 simp only[stp,kM];rw[du.mpr h];simp[aS]
theorem dY{n w:Int}{st:St}{e:Ev}(h:(aE st).Nodup)(ok:vv n w st e):(aE (stp st e)).Nodup:=by
 rw[jW];cases e with
 |beg a=>
  refine Qe.mpr ⟨h,by simp,fun x hx y hy e=>?_⟩;simp at hy;subst hy;subst e;exact ok.2.2 hx
 |_=>exact h
def kF:Fn:=fnU 9 6 (cZ gB)
theorem Df(ns:List Int)(T:Sto){a c n w at_:Int}{seen now:List Int}{r:Nat}{ps:List (Int×Int)}(ha:0<=a)(hc:0<=c)(n0:1<=n)(n1:n<=6)(w0:2<=w)(w1:w<=1000)(hr:T[r]?=some (.dic (fh ps)))(hs:seen.length=n.toNat)(bs:∀z∈seen,0<=z/\z<w)(hn:now.length=n.toNat)(bn:∀z∈now,0<=z/\z<w)(bp:∀p∈ps,0<=p.2/\p.2<w) :
  ∃(e:Ev) (a' c':Int) (G:Sto),kF [.ref 1,.tup [.int n,.int w],.int at_,.tup (seen.map U.int),.ref (r+1+1),.tup (now.map U.int)] (scr ns::pen a c::T)=some (e.u,scr ns::pen a' c'::(T++G))/\e.at=at_/\(∀{st:St} {t:Att},aS st at_=some t->t.en=none->t.ps=ps->vv n w st e)/\(∀x,e≠.beg x)/\0<=a'/\0<=c':=by
 unfold kF;rw[t5];obtain⟨way,a1,c1,e1,p1,q1,ha1,hc1⟩:=dQ ns T (m:=12) ha hc (by decide) (by decide +kernel);obtain⟨box,a2,c2,e2,p2,q2,ha2,hc2⟩:=dQ ns T (m:=n) ha1 hc1 (by omega) (l9 (by omega) (by omega));by_cases c5:way<5
 ·obtain⟨f,a3,c3,e3,p3,q3,ha3,hc3⟩:=dQ ns T (m:=w) ha2 hc2 (by omega) (l9 (by omega) (by omega));obtain⟨sb,hsb⟩:∃z,z=seen.getD box.toNat 0:=⟨_,rfl⟩;obtain⟨nb,hnb⟩:∃z,z=now.getD box.toNat 0:=⟨_,rfl⟩;obtain⟨g,a4,c4,e4,p4,q4,ha4,hc4⟩:=dQ ns (T++[.lst [.int sb,.int sb,.int nb,.int f]]) (m:=4) ha3 hc3 (by decide) (by decide +kernel);have k1:=atF hs p2 q2;have k2:=atF hn p2 q2;have hb1:box.toNat<seen.length:=by omega
  have hb2:box.toNat<now.length:=by omega
  have b1:0<=sb/\sb<w:=by
   rw[hsb,Qs,Q8 hb1];exact bs _ (List.getElem_mem hb1)
  have b2:0<=nb/\nb<w:=by
   rw[hnb,Qs,Q8 hb2];exact bn _ (List.getElem_mem hb2)
  rw[<-hsb]at k1;rw[<-hnb]at k2;have pick:∃z:Int,atI [U.int sb,U.int sb,U.int nb,U.int f] g=some (.int z)/\0<=z/\z<w:=by
   have:g=0\/g=1\/g=2\/g=3:=by omega
   rcases this with rfl|rfl|rfl|rfl
   ·exact⟨sb,rfl,b1⟩
   ·exact⟨sb,rfl,b1⟩
   ·exact⟨nb,rfl,b2⟩
   ·exact⟨f,rfl,p3,q3⟩
  obtain⟨z,hz,z0,z1⟩:=pick;have hr':∀G:Sto,(T++G)[r]?=some (.dic (fh ps)):=fun G=>ah hr;obtain⟨v,hv⟩:∃v,v=(aS ps box).getD z:=⟨_,rfl⟩;have hv2:((aS ps box).map U.int).getD (.int z)=.int v:=by rw[hv];cases aS ps box<;>rfl
  refine⟨.look at_ box v,a4,c4,[.lst [.int sb,.int sb,.int nb,.int f]],?_,rfl,fun h1 h2 h3=>⟨⟨p2,q2,?_⟩,_,h1,h2,fun y hy=>?_⟩,(fun x h=>by cases h),ha4,hc4⟩
  ·rwa[cZ,e1,e2,e3,e4,c5,k1,k2,hz,hr',ib,hv2,Ev.u]
  ·rw[hv];cases hq:aS ps box with
   |none=>exact⟨z0,z1⟩
   |some y=>exact bp _ (f9 hq)
  ·rw[h3]at hy;rw[hv,hy];rfl
 by_cases c8:way<8
 ·obtain⟨f,a3,c3,e3,p3,q3,ha3,hc3⟩:=dQ ns T (m:=w) ha2 hc2 (by omega) (l9 (by omega) (by omega));refine⟨.put at_ box f,a3,c3,[],?_,rfl,fun h1 h2 h3=>⟨⟨p2,q2,p3,q3⟩,_,h1,h2⟩,(fun x h=>by cases h),ha3,hc3⟩;rwa[cZ,e1,e2,e3,c5,c8,Ev.u,QJ]
 have pick:∃d:Bool,atI [U.str "done",U.str "done",U.str "done",U.str "fall"] (way-8)=some (.str (hJ d)):=by
  have:way=8\/way=9\/way=10\/way=11:=by omega
  rcases this with rfl|rfl|rfl|rfl
  ·exact⟨true,rfl⟩
  ·exact⟨true,rfl⟩
  ·exact⟨true,rfl⟩
  ·exact⟨false,rfl⟩
 obtain⟨d,hd⟩:=pick;refine⟨.fin d at_,a2,c2,[.lst [.str "done",.str "done",.str "done",.str "fall"]],?_,rfl,fun h1 h2 h3=>⟨_,h1,h2⟩,(fun x h=>by cases h),ha2,hc2⟩;rwa[cZ,e1,e2,c5,c8,hd,Ev.u]
def kE:Fn:=fnU 2 2 d3
theorem mx{S:Sto}{r:Nat}{ps:List (Int×Int)}(hr:S[r]?=some (.dic (fh ps))):∀(xs:List Int) (k:Nat) (ys:List Int) (r0 r1:Option U),ys.length+xs.length<=1000->
  ∃zs,jx (fun _=>True) (gTp [0,1]) (mH (ag 2) (ag 0) (ag 1)) S.length (((xs.map U.int).zipIdx k).map fun p=>.tup [.int p.2,p.1]) [r0,r1,some (.ref r)] (S++[.lst (ys.map U.int)])=some (S++[.lst ((ys++zs).map U.int)])/\zs=beh xs ps k
 |[],k,ys,r0,r1,hl=>⟨[],by simp only[Ql,List.zipIdx_nil,QJ];exact wM trivial,rfl⟩
 |x::xs,k,ys,r0,r1,hl=>by
  obtain⟨v,hv⟩:∃v,v=(aS ps (k:Int)).getD x:=⟨_,rfl⟩;have hv2:((aS ps (k:Int)).map U.int).getD (.int x)=.int v:=by rw[hv];cases aS ps (k:Int)<;>rfl
  obtain⟨zs,h2,e2⟩:=mx hr xs (k+1) (ys++[v]) (some (.int k)) (some (.int x)) (by simp at hl ⊢;omega);refine⟨v::zs,?_,by rw[e2,hv];rfl⟩;have hr':∀G:Sto,(S++G)[r]?=some (.dic (fh ps)):=fun G=>ah hr;simp only[QX,List.zipIdx_cons];refine(t9 (ρ0:=[some (.int k),some (.int x),some (.ref r)]) (S0:=S++[.lst (ys.map U.int)]) (S1:=S++[.lst (ys.map U.int)]) (x:=.int v) (ys:=ys.map U.int) trivial rfl ?_ ?_ (by unfold LIM;simp at hl ⊢;omega)).trans ?_
  ·rwa[hr',ib,hv2]
  ·rwa[]
  ·have e5:(S++[O.lst (ys.map U.int)]).set S.length (.lst (ys.map U.int++[U.int v]))=S++[.lst ((ys++[v]).map U.int)]:=by
    rwa[QV,QX,Ql]
   rw[e5,h2];simp
theorem BZ{S:Sto}{r:Nat}{ps:List (Int×Int)}{now:List Int}(hr:S[r]?=some (.dic (fh ps)))(hl:now.length<=1000) :
  kE [.tup (now.map U.int),.ref r] S=some (.tup ((beh now ps 0).map U.int),S++[.lst ((beh now ps 0).map U.int)]):=by
 unfold kE;rw[rq];obtain⟨zs,h,e⟩:=mx hr now 0 [] none none (by simpa using hl);subst e;simp only[Ql,Qk]at h;have es:BU (.tup (now.map U.int)) S=some (now.map U.int,fun _=>True):=rfl;rwa[d3,fg,jX,es,rn,ma,Qh,Qo,h]
structure Go where
 a:Int
 seen:List Int
 r:Nat
def Go.u(g:Go):U:=.tup [.int g.a,.tup (g.seen.map U.int),.ref (g.r+1+1)]
structure LgI(n w:Int)(N:Nat)(T0 T:Sto)(ln ll lg:Nat)(names:List Int)(evs:List Ev)(g:List Go)(now:List Int):Prop where
 hn:T[ln]?=some (.lst (names.map U.int))
 hl:T[ll]?=some (.lst (evs.map Ev.u))
 hg:T[lg]?=some (.lst (g.map Go.u))
 bn:T0.length<=ln
 bl:T0.length<=ll
 bg:T0.length<=lg
 n1:ln≠ll
 n2:ln≠lg
 n3:ll≠lg
 go:∀x∈g,(T0.length<=x.r/\x.r≠ln/\x.r≠ll/\x.r≠lg/\x.seen.length=n.toNat/\(∀z∈x.seen,0<=z/\z<w))/\∃t,aS (aQ [] evs) x.a=some t/\t.en=none/\T[x.r]?=some (.dic (fh t.ps))
 gd:g.Pairwise fun x y=>x.r≠y.r/\x.a≠y.a
 nd:names.Nodup
 nb:∀x∈names,0<=x/\x<200/\x∉aE (aQ [] evs)
 lo:pF n w [] evs
 kd:(aE (aQ [] evs)).Nodup
 cnt:(aQ [] evs).length+names.length<=N
 gl:g.length<=(aQ [] evs).length
 nw:now.length=n.toNat
 nwb:∀z∈now,0<=z/\z<w
 pb:∀a t,aS (aQ [] evs) a=some t->t.ps.length<=evs.length/\∀p∈t.ps,(0<=p.1/\p.1<n)/\0<=p.2/\p.2<w
 fr:∀i,i<T0.length->T[i]?=T0[i]?
 le:T0.length<=T.length
section
variable{n w:Int}{N:Nat}{T0 T T':Sto}{ln ll lg:Nat}{names:List Int}{evs:List Ev}{g:List Go}{now:List Int}
theorem LgI.app(h:LgI n w N T0 T ln ll lg names evs g now)(G:Sto):LgI n w N T0 (T++G) ln ll lg names evs g now:=
 { h with
  hn:=ah h.hn,hl:=ah h.hl,hg:=ah h.hg
  go:=fun x hx=>by obtain⟨k,t,h1,h2,h3⟩:=h.go x hx;exact⟨k,t,h1,h2,ah h3⟩
  fr:=fun i hi=>by rw[QN (Qu hi h.le)];exact h.fr i hi
  le:=by rw[Q6];have:=h.le;omega }
theorem CH{κ α:Type}[DecidableEq κ]{ps:List (κ×α)}{b:κ}{v:α}{p:κ×α}(h:p∈eJ ps b v):p∈ps\/p=(b,v):=by
 unfold eJ at h;split at h
 ·obtain⟨q,hq,rfl⟩:=QR.mp h;split
  ·rename_i e;right;rw[<-e]
  ·exact .inl hq
 ·rcases Qw.mp h with z|z
  ·exact .inl z
  ·simp at z;exact .inr z
theorem zP{st:St}{e:Ev}(h:∀x,e≠.beg x):(stp st e).length=st.length:=by
 cases e with
 |beg a=>exact absurd rfl (h a)
 |_=>simp[stp,Bi]
theorem LgI.begin{a0:Int}(h:LgI n w N T0 T ln ll lg (names++[a0]) evs g now)(hn:T'[ln]?=some (.lst (names.map U.int)))(hl:T'[ll]?=some (.lst ((evs++[Ev.beg a0]).map Ev.u)))(hg:T'[lg]?=some (.lst ((g++[Go.mk a0 now T.length]).map Go.u)))
  (hd:T'[T.length]?=some (.dic [])) (old:∀i,i≠ln->i≠ll->i≠lg->i<T.length->T'[i]?=T[i]?) (le:T.length<=T'.length):LgI n w N T0 T' ln ll lg names (evs++[.beg a0]) (g++[⟨a0,now,T.length⟩]) now:=by
 have ha:a0∈names++[a0]:=by simp
 obtain⟨a1,a2,a3⟩:=h.nb a0 ha;have ok:vv n w (aQ [] evs) (.beg a0):=⟨a1,a2,a3⟩;have hb:=h.le;have dn:=Qe.mp h.nd;have oth:∀{x:Int},x∈aE (aQ [] evs)->x≠a0:=fun hx e=>a3 (e▸hx);have vk:∀{x:Int} {t:Att},aS (aQ [] evs) x=some t->x∈aE (aQ [] evs):=fun e=>QR.mpr ⟨_,f9 e,rfl⟩;refine { h with hn:=hn,hl:=hl,hg:=hg,nd:=dn.1,lo:=oy.mpr ⟨h.lo,ok⟩,kd:=by rw[bW];exact dY h.kd ok,go:=?go,gd:=?gd,nb:=?nb,cnt:=?cnt,gl:=?gl,pb:=?pb,fr:=?fr,le:=?le };case go=>
  intro x hx;rcases Qw.mp hx with hx|hx
  ·obtain⟨⟨k1,k2,k3,k4,k5⟩,t,h1,h2,h3⟩:=h.go x hx;refine⟨⟨k1,k2,k3,k4,k5⟩,t,?_,h2,?_⟩
   ·rw[bW,bV (show x.a≠(Ev.beg a0).at from oth (vk h1))];exact h1
   ·rw[old _ k2 k3 k4 (cU h3)];exact h3
  ·simp at hx;subst hx;have z1:=cU h.hn;have z2:=cU h.hl;have z3:=cU h.hg;refine⟨⟨hb,by dsimp only;omega,by dsimp only;omega,by dsimp only;omega,h.nw,h.nwb⟩,qz (aQ [] evs),?_,rfl,hd⟩;rw[bW];exact eA a3
 case gd=>
  refine List.pairwise_append.mpr ⟨h.gd,by simp,fun x hx y hy=>?_⟩;simp at hy;subst hy;obtain⟨_,t,h1,h2,h3⟩:=h.go x hx;have:=cU h3;exact⟨by dsimp only;omega,oth (vk h1)⟩
 case nb=>
  intro x hx;obtain⟨b1,b2,b3⟩:=h.nb x (Qd _ hx);refine⟨b1,b2,?_⟩;rw[bW,jW];simp only[Qw,Qv,not_or];exact⟨b3,dn.2.2 x hx a0 (by simp)⟩
 case cnt=>
  have:=h.cnt;rw[bW];simp[stp]at this ⊢;omega
 case gl=>
  have:=h.gl;rw[bW];simp[stp];omega
 case pb=>
  intro a t e;rw[bW]at e;by_cases c:a=a0
  ·subst c;rw[eA a3]at e;cases e;simp[qz]
  ·rw[bV (show a≠(Ev.beg a0).at from c)]at e;obtain⟨k1,k2⟩:=h.pb a t e;exact⟨by rw[Q6];omega,k2⟩
 case fr=>
  intro i hi;have:=h.bn;have:=h.bl;have:=h.bg
  rw[old i (by omega) (by omega) (by omega) (by omega)];exact h.fr i hi
 case le=>
  omega
theorem LgI.ev{e:Ev}{x:Go}{t:Att}{g':List Go}{now':List Int}(h:LgI n w N T0 T ln ll lg names evs g now)(ht:aS (aQ [] evs) x.a=some t)(ea:e.at=x.a)(ok:vv n w (aQ [] evs) e)(nb:∀y,e≠.beg y)(sub:g'.Sublist g)
  (hn:T'[ln]?=T[ln]?) (hl:T'[ll]?=some (.lst ((evs++[e]).map Ev.u))) (hg:T'[lg]?=some (.lst (g'.map Go.u)))
  (oth:∀y∈g',(y=x/\(t.ev e).en=none/\T'[y.r]?=some (.dic (fh (t.ev e).ps)))\/(y.a≠x.a/\T'[y.r]?=T[y.r]?))
  (fr:∀i,i<T0.length->T'[i]?=T[i]?) (le:T.length<=T'.length) (nw:now'.length=n.toNat) (nwb:∀z∈now',0<=z/\z<w):LgI n w N T0 T' ln ll lg names (evs++[e]) g' now':=by
 have hb:=h.le;have ks:aE (stp (aQ [] evs) e)=aE (aQ [] evs):=by
  rw[jW];cases e with
  |beg a=>exact absurd rfl (nb a)
  |_=>rfl
 refine { h with hn:=by rw[hn];exact h.hn,hl:=hl,hg:=hg,lo:=oy.mpr ⟨h.lo,ok⟩,kd:=by rw[bW];exact dY h.kd ok,nw:=nw,nwb:=nwb,gd:=h.gd.sublist sub,nb:=fun y hy=>by rw[bW,ks];exact h.nb y hy,fr:=fun i hi=>by rw[fr i hi];exact h.fr i hi,le:=by omega,cnt:=by rw[bW,zP nb];exact h.cnt,gl:=by rw[bW,zP nb];have:=h.gl;have:=sub.length_le;omega,go:=?go,pb:=?pb };case go=>
  intro y hy;obtain⟨k,u,h1,h2,h3⟩:=h.go y (sub.subset hy);refine⟨k,?_⟩;rcases oth y hy with⟨rfl,o1,o2⟩|⟨o1,o2⟩
  ·refine⟨t.ev e,?_,o1,o2⟩;rw[bW,<-ea];exact bN (by rw[ea];exact ht)
  ·refine⟨u,?_,h2,by rw[o2];exact h3⟩;rw[bW,bV (by rw[ea];exact o1)];exact h1
 case pb=>
  intro a u e1;rw[bW]at e1;by_cases c:a=e.at
  ·subst c;rw[bN (by rw[ea];exact ht)]at e1;cases e1;obtain⟨k1,k2⟩:=h.pb _ _ ht;rw[Q6,Qa];cases e with
   |beg a=>exact absurd rfl (nb a)
   |look a b v=>
    simp only[Att.ev];split
    ·exact⟨by omega,k2⟩
    ·exact⟨by dsimp only;omega,k2⟩
   |put a b v=>
    obtain⟨⟨b1,b2,b3,b4⟩,_⟩:=ok;refine⟨Qj (jV t.ps b v) (by omega),fun p hp=>?_⟩;rcases CH hp with z|z
    ·exact k2 p z
    ·subst z;exact⟨⟨b1,b2⟩,b3,b4⟩
   |fin d a=>exact⟨by simp only[Att.ev];omega,k2⟩
  ·rw[bV c]at e1;obtain⟨k1,k2⟩:=h.pb a u e1;exact⟨by rw[Q6];omega,k2⟩
end
theorem gss{S:Sto}{i:Nat}{o:O}:(S.set i o)[i]?=(S[i]?).map fun _=>o:=by
 by_cases h:i<S.length
 ·rw[ZP h,Q8 h];rfl
 ·rw[ZK (by simpa using h),ZK (by simpa using h)];rfl
theorem gsn{S:Sto}{i j:Nat}{o:O}(h:i≠j):(S.set i o)[j]?=S[j]?:=Qy h
def MG:CS:=(bj (fG (cBM cq (ag 8) (af (gp (af (cBM xG (ag 5) aG) (af (ag 7) (af iR aG)))) aG)))
  (fG (cBM cq (ag 6) (af (gp (af (cC (.str "begin")) (af (cOp fIx (cOp fIx (ag 8) (vd (cC (.int 1)))) (cC (.int 0))) aG))) aG))))
def Hj:CS:=(bj (ff (aF (cOp fEq (cOp fIx (cOp fIx (ag 6) (vd (cC (.int 1)))) (cC (.int 0))) (cC (.str "put")))) (dA (ag 13) (cOp fIx (cOp fIx (ag 6) (vd (cC (.int 1)))) (cC (.int 2))) (cOp fIx (cOp fIx (ag 6) (vd (cC (.int 1)))) (cC (.int 3)))) (ff (aF (cOp fEq (cOp fIx (cOp fIx (ag 6) (vd (cC (.int 1)))) (cC (.int 0))) (cC (.str "done")))) (dI 7 (cCB kE (af (ag 7) (af (ag 13) aG)))) cf))
  (ff (aF (cOp (fIn false) (cOp fIx (cOp fIx (ag 6) (vd (cC (.int 1)))) (cC (.int 0))) (gp (af (cC (.str "done")) (af (cC (.str "fall")) aG))))) (fG (cBM m7 (ag 8) (af (ag 10) aG))) cf))
def rEv:CS:=(bj (dI 10 (cCB gB (af (ag 0) (af (cCB oP (af (ag 8) aG)) aG))))
  (bj (Hr (cOp fIx (ag 8) (ag 10)) (gTp [11,12,13]))
  (bj (fG (cBM cq (ag 6) (af (cCB kF (af (ag 0) (af (ag 1) (af (ag 11) (af (ag 12) (af (ag 13) (af (ag 7) aG))))))) aG))) Hj)))
theorem NA:gw mK gB kF kE=ff (pD (aF (cOp (oR true) (ag 5) (iU aG))) (cOr (aF (cOp (oR false) (ag 8) (iU aG))) (aF (cOp fEq (cCB gB (af (ag 0) (af (cC (.int 4)) aG))) (cC (.int 0)))))) MG (ff (aF (cOp (oR true) (ag 8) (iU aG))) rEv cf):=rfl
section
variable{n w:Int}{N:Nat}{T0 T T':Sto}{ln ll lg:Nat}{names:List Int}{evs:List Ev}{g:List Go}{now:List Int}{x2 x3 x4 x9 x10 x11 x12 x13:Option U}
abbrev pB(n w:Int)(ln ll lg:Nat)(now:List Int)(x2 x3 x4 x9 x10 x11 x12 x13:Option U):Rho:=[some (.ref 1),some (.tup [.int n,.int w]),x2,x3,x4,some (.ref (ln+1+1)),some (.ref (ll+1+1)),some (.tup (now.map U.int)),some (.ref (lg+1+1)),x9,x10,x11,x12,x13]
theorem EC(ns:List Int){a c:Int}{a0:Int}(h:LgI n w N T0 T ln ll lg (names++[a0]) evs g now)(hN:N<=100)(hE:evs.length<=1000) :
  ∃T',MG (pB n w ln ll lg now x2 x3 x4 x9 x10 x11 x12 x13) (scr ns::pen a c::T)=some (.nx,pB n w ln ll lg now x2 x3 x4 x9 x10 x11 x12 x13,scr ns::pen a c::T')/\LgI n w N T0 T' ln ll lg names (evs++[.beg a0]) (g++[⟨a0,now,T.length⟩]) now:=by
 have z1:=cU h.hn;have z2:=cU h.hl;have z3:=cU h.hg;have hG:(g.map Go.u).length<LIM:=by have:=h.gl;have:=h.cnt;unfold LIM;rw[Q5];omega
 have hV:(evs.map Ev.u).length<LIM:=by unfold LIM;rw[Q5];omega
 have u:Go.u ⟨a0,now,T.length⟩=.tup [.int a0,.tup (now.map U.int),.ref (T.length+1+1)]:=rfl;have hn:=h.hn;rw[QV,QX,Ql]at hn;have e1:(T.set ln (.lst (names.map U.int))++[O.dic []])[lg]?=some (.lst (g.map Go.u)):=ah (by rw[gsn h.n2];exact h.hg);have e2:((T.set ln (.lst (names.map U.int))++[O.dic []]).set lg (.lst (g.map Go.u++[.tup [.int a0,.tup (now.map U.int),.ref (T.length+1+1)]])))[ll]?=some (.lst (evs.map Ev.u)):=by
  rw[gsn (Ne.symm h.n3)];exact ah (by rw[gsn h.n1];exact h.hl)
 have e3:((T.set ln (.lst (names.map U.int))++[O.dic []]).set lg (.lst (g.map Go.u++[.tup [.int a0,.tup (now.map U.int),.ref (T.length+1+1)]])))[lg]?=some (.lst (g.map Go.u++[.tup [.int a0,.tup (now.map U.int),.ref (T.length+1+1)]])):=by
  rw[gss,e1];rfl
 refine⟨((T.set ln (.lst (names.map U.int))++[O.dic []]).set lg (.lst (g.map Go.u++[U.tup [.int a0,.tup (now.map U.int),.ref (T.length+1+1)]]))).set ll (.lst (evs.map Ev.u++[U.tup [.str "begin",.int a0]])),?_,?_⟩
 ·rwa[MG,pB,h.hg,h.hl,hn,e1,e2,e3,LO,HN,iV hG,iV hV,yb,rN,pd,List.length_set]
 ·refine h.begin ?_ ?_ ?_ ?_ (fun i i1 i2 i3 hi=>?_) (by simp)
  ·rw[gsn (Ne.symm h.n1),gsn (Ne.symm h.n2)];refine ah ?_;rw[gss,h.hn];rfl
  ·rw[gss,e2,QV];rfl
  ·rw[gsn h.n3,e3,QV,<-u];rfl
  ·rw[gsn (by omega),gsn (by omega)];have:(T.set ln (O.lst (names.map U.int))).length=T.length:=List.length_set;rw[<-this];exact ga0
  ·rw[gsn (Ne.symm i2),gsn (Ne.symm i3),QN (by simpa using hi),gsn (Ne.symm i1)]
theorem Aj:∀{x y:Go},(x.r≠y.r/\x.a≠y.a)->(y.r≠x.r/\y.a≠x.a):=fun h=>⟨Ne.symm h.1,Ne.symm h.2⟩
theorem Nn{k:Nat}(hk:k<g.length)(h:g.Pairwise fun x y=>x.r≠y.r/\x.a≠y.a):(∀y∈g,y=g[k]\/(y.r≠g[k].r/\y.a≠g[k].a))/\∀y∈g.eraseIdx k,y.r≠g[k].r/\y.a≠g[k].a:=by
 have hp:=qo hk;have h1:(g[k]::g.eraseIdx k).Pairwise fun x y=>x.r≠y.r/\x.a≠y.a:=(hp.pairwise_iff Aj).mpr h;have h2:=(ZN.mp h1).1;refine⟨fun y hy=>?_,fun y hy=>Aj (h2 y hy)⟩;rcases QM.mp (hp.mem_iff.mpr hy)with z|z
 ·exact .inl z
 ·exact .inr (Aj (h2 y z))
theorem jP:decide (("look":Str)="put")=false:=by decide +kernel
theorem uA:decide (("look":Str)="done")=false:=by decide +kernel
theorem jR:decide (("done":Str)="put")=false:=by decide +kernel
theorem jQ:decide (("fall":Str)="put")=false:=by decide +kernel
theorem uB:decide (("fall":Str)="done")=false:=by decide +kernel
theorem ef{x:Str}:decide (x=x)=true:=decide_eq_true rfl
theorem gh{x:Str}{S:Sto}:fIn false (.str x) (.tup [.str "done",.str "fall"]) S=some (.bl (inU (.str x) [.str "done",.str "fall"]),S):=rfl
theorem uN:inU (.str "look") [.str "done",.str "fall"]=false:=by decide +kernel
theorem Ac:inU (.str "put") [.str "done",.str "fall"]=false:=by decide +kernel
theorem uP:inU (.str "done") [.str "done",.str "fall"]=true:=by decide +kernel
theorem uO:inU (.str "fall") [.str "done",.str "fall"]=true:=by decide +kernel
theorem K2{now:List Int}{ps:List (Int×Int)}{w:Int}(h:∀z∈now,0<=z/\z<w)(hp:∀p∈ps,0<=p.2/\p.2<w)(k:Nat):∀z∈beh now ps k,0<=z/\z<w:=fun z hz=>by
 unfold beh at hz;obtain⟨p,hp',rfl⟩:=QR.mp hz;cases hv:aS ps (p.2:Int)with
 |some y=>exact hp _ (f9 hv)
 |none=>exact h _ (List.fst_mem_of_mem_zipIdx hp')
theorem KP(ns:List Int){a c:Int}(ha:0<=a)(hc:0<=c)(n0:1<=n)(n1:n<=6)(w0:2<=w)(w1:w<=1000)(h:LgI n w N T0 T ln ll lg names evs g now)(hN:N<=100)(hE:evs.length<=1000)(hg:g≠[]) :
  ∃T' a' c' e g' now' y10 y11 y12 y13,rEv (pB n w ln ll lg now x2 x3 x4 x9 x10 x11 x12 x13) (scr ns::pen a c::T)=some (.nx,pB n w ln ll lg now' x2 x3 x4 x9 y10 y11 y12 y13,scr ns::pen a' c'::T')/\LgI n w N T0 T' ln ll lg names (evs++[e]) g' now'/\0<=a'/\0<=c':=by
 have hgl:=h.gl;have hct:=h.cnt;have gpos:0<g.length:=List.length_pos_iff.mpr hg;obtain⟨f,a1,c1,e1,p1,q1,ha1,hc1⟩:=dQ ns T (m:=(g.length:Int)) ha hc (by omega) (l9 (by omega) (by omega));have hk:f.toNat<g.length:=by omega
 obtain⟨o1,o2⟩:=Nn hk h.gd;have hx:g[f.toNat]∈g:=List.getElem_mem hk;generalize hX:g[f.toNat]=x at o1 o2 hx;obtain⟨⟨k1,k2,k3,k4,k5,k6⟩,t,t1,t2,t3⟩:=h.go x hx;obtain⟨pl,pb⟩:=h.pb _ _ t1;have hat:atI (g.map Go.u) f=some (.tup [.int x.a,.tup (x.seen.map U.int),.ref (x.r+1+1)]):=A5 p1 (by rw[Qb,Q8 hk,hX];rfl);obtain⟨e,a2,c2,G,e2,ea,ok,nb,ha2,hc2⟩:=Df ns T (at_:=x.a) ha1 hc1 n0 n1 w0 w1 t3 k5 k6 h.nw h.nwb fun p hp=>(pb p hp).2;have okE:=ok t1 t2 rfl;have hV:(evs.map Ev.u).length<LIM:=by unfold LIM;rw[Q5];omega
 have hGL:(g.map Go.u).length<=LIM:=by unfold LIM;rw[Q5];omega
 have hPL:(fh t.ps).length<LIM:=by unfold LIM fh;rw[Q5];omega
 have A:=h.app G;have pre:rEv (pB n w ln ll lg now x2 x3 x4 x9 x10 x11 x12 x13) (scr ns::pen a c::T)=Hj (pB n w ln ll lg now x2 x3 x4 x9 (some (.int f)) (some (.int x.a)) (some (.tup (x.seen.map U.int))) (some (.ref (x.r+1+1)))) (scr ns::pen a2 c2::((T++G).set ll (.lst (evs.map Ev.u++[e.u])))):=by
  rwa[rEv,pB,h.hg,h.hl,A.hl,e1,e2,hat,iV hV,Q5]
 rw[pre];have L0:((T++G).set ll (.lst (evs.map Ev.u++[e.u])))[ll]?=some (.lst (evs.map Ev.u++[e.u])):=by rw[gss,A.hl];rfl
 have D0:((T++G).set ll (.lst (evs.map Ev.u++[e.u])))[x.r]?=some (.dic (fh t.ps)):=by rw[gsn (Ne.symm k3)];exact ah t3
 have G0:((T++G).set ll (.lst (evs.map Ev.u++[e.u])))[lg]?=some (.lst (g.map Go.u)):=by rw[gsn h.n3];exact A.hg
 have N0:((T++G).set ll (.lst (evs.map Ev.u++[e.u])))[ln]?=T[ln]?:=by rw[gsn (Ne.symm h.n1)];rw[A.hn,h.hn]
 have F0:∀i,i<T0.length->((T++G).set ll (.lst (evs.map Ev.u++[e.u])))[i]?=T[i]?:=fun i hi=>by
  have:=h.bl;have:=h.le
  rw[gsn (by omega),QN (by omega)]
 have Y0:∀y∈g,((T++G).set ll (.lst (evs.map Ev.u++[e.u])))[y.r]?=T[y.r]?:=fun y hy=>by
  obtain⟨⟨_,_,j3,_⟩,u,_,_,u3⟩:=h.go y hy;rw[gsn (Ne.symm j3),u3];exact ah u3
 have Z0:T.length<=((T++G).set ll (.lst (evs.map Ev.u++[e.u]))).length:=by simp
 have m1:(evs++[e]).map Ev.u=evs.map Ev.u++[e.u]:=by simp
 generalize (T++G).set ll (.lst (evs.map Ev.u++[e.u]))=T1 at L0 D0 G0 N0 F0 Y0 Z0 ⊢;have hP:(g.map Go.u)[f.toNat]?=some (Go.u x):=by rw[Qb,Q8 hk,hX];rfl
 have hpf:f<((g.map Go.u).length:Int):=by rw[Q5];exact q1
 cases e with
 |beg b=>exact absurd rfl (nb b)
 |look b1 b2 b3=>
  refine⟨T1,a2,c2,.look b1 b2 b3,g,now,some (.int f),some (.int x.a),some (.tup (x.seen.map U.int)),some (.ref (x.r+1+1)),?_,h.ev t1 ea okE nb (List.Sublist.refl g) N0 (by rw[m1];exact L0) G0 (fun y hy=>?_) F0 Z0 h.nw h.nwb,ha2,hc2⟩
  ·simp only[Ev.u]at L0;rwa[Hj,pB,L0,yb,rN,pd,jP,uA,gh,uN]
  ·rcases o1 y hy with rfl|z
   ·refine .inl ⟨rfl,?_,?_⟩
    ·simp only[Att.ev];split<;>exact t2
    ·rw[D0];simp only[Att.ev];split<;>rfl
   ·exact .inr ⟨z.2,Y0 y hy⟩
 |put b1 b2 b3=>
  refine⟨T1.set x.r (.dic (fh (eJ t.ps b2 b3))),a2,c2,.put b1 b2 b3,g,now,some (.int f),some (.int x.a),some (.tup (x.seen.map U.int)),some (.ref (x.r+1+1)),?_,h.ev t1 ea okE nb (List.Sublist.refl g) (by rw[gsn k2];exact N0) (by rw[m1,gsn k3];exact L0) (by rw[gsn k4];exact G0) (fun y hy=>?_) (fun i hi=>by rw[gsn (by omega)];exact F0 i hi) (by simpa using Z0) h.nw h.nwb,ha2,hc2⟩
  ·simp only[Ev.u]at L0;have L1:(T1.set x.r (.dic (fh (eJ t.ps b2 b3))))[ll]?=some (.lst (evs.map Ev.u++[U.tup [.str "put",.int b1,.int b2,.int b3]])):=by rw[gsn k3];exact L0
   rwa[Hj,pB,L0,L1,D0,hPL,if_true,qN,yb,rN,pd,ef,gh,Ac]
  ·rcases o1 y hy with rfl|z
   ·exact .inl ⟨rfl,t2,by rw[gss,D0];rfl⟩
   ·exact .inr ⟨z.2,by rw[gsn (Ne.symm z.1)];exact Y0 y hy⟩
 |fin d b1=>
  have bb:∀z∈beh now t.ps 0,0<=z/\z<w:=K2 h.nwb (fun p hp=>(pb p hp).2) 0;have sub:(g.eraseIdx f.toNat).Sublist g:=List.eraseIdx_sublist ..;cases d with
  |true=>
   have eP:=BZ (S:=scr ns::pen a2 c2::T1) (r:=x.r+1+1) (ps:=t.ps) (now:=now) (by simp only[Qq];exact D0) (by have:=h.nw;omega);have L1:(T1++[O.lst ((beh now t.ps 0).map U.int)])[ll]?=some (.lst (evs.map Ev.u++[U.tup [.str "done",.int b1]])):=ah L0;have G1:(T1++[O.lst ((beh now t.ps 0).map U.int)])[lg]?=some (.lst (g.map Go.u)):=ah G0;have gl:∀i,i<T.length->(T1++[O.lst ((beh now t.ps 0).map U.int)])[i]?=T1[i]?:=fun i hi=>QN (by omega);refine⟨(T1++[O.lst ((beh now t.ps 0).map U.int)]).set lg (.lst ((g.map Go.u).eraseIdx f.toNat)),a2,c2,.fin true b1,g.eraseIdx f.toNat,beh now t.ps 0,some (.int f),some (.int x.a),some (.tup (x.seen.map U.int)),some (.ref (x.r+1+1)),?_,h.ev t1 ea okE nb sub (by rw[gsn (Ne.symm h.n2),gl _ (cU h.hn)];exact N0) (by rw[m1,gsn (Ne.symm h.n3)];exact L1) (by rw[gss,G1,ow];rfl) (fun y hy=>?_) (fun i hi=>?_) (by simp;omega) (by rw[vf];exact h.nw) bb,ha2,hc2⟩
   ·simp only[Ev.u,hJ,if_true]at L0;rwa[Hj,pB,L0,L1,G1,eP,yb,rN,pd,jR,ef,gh,uP,uy,qB p1 hpf hGL hP]
   ·have hy':=sub.subset hy;obtain⟨z1,z2⟩:=o2 y hy;obtain⟨⟨_,_,_,j4,_⟩,u,_,_,u3⟩:=h.go y hy';exact .inr ⟨z2,by rw[gsn (Ne.symm j4),gl _ (cU u3)];exact Y0 y hy'⟩
   ·have:=h.bg;have:=h.le
    rw[gsn (by omega),gl i (by omega)];exact F0 i hi
  |false=>
   refine⟨T1.set lg (.lst ((g.map Go.u).eraseIdx f.toNat)),a2,c2,.fin false b1,g.eraseIdx f.toNat,now,some (.int f),some (.int x.a),some (.tup (x.seen.map U.int)),some (.ref (x.r+1+1)),?_,h.ev t1 ea okE nb sub (by rw[gsn (Ne.symm h.n2)];exact N0) (by rw[m1,gsn (Ne.symm h.n3)];exact L0) (by rw[gss,G0,ow];rfl) (fun y hy=>?_) (fun i hi=>?_) (by simpa using Z0) h.nw h.nwb,ha2,hc2⟩
   ·simp only[Ev.u,hJ,QC,if_false]at L0;rwa[Hj,pB,L0,G0,yb,rN,pd,jQ,uB,gh,uO,uy,qB p1 hpf hGL hP]
   ·have hy':=sub.subset hy;obtain⟨z1,z2⟩:=o2 y hy;obtain⟨⟨_,_,_,j4,_⟩,u,_,_,u3⟩:=h.go y hy';exact .inr ⟨z2,by rw[gsn (Ne.symm j4)];exact Y0 y hy'⟩
   ·have:=h.bg;have:=h.le
    rw[gsn (by omega)];exact F0 i hi
end
section
variable{n w:Int}{N:Nat}{T0:Sto}{ln ll lg:Nat}{x2 x3 x4:Option U}
theorem wd(ns:List Int)(n0:1<=n)(n1:n<=6)(w0:2<=w)(w1:w<=1000)(hN:N<=100):∀(us:List U) (T:Sto) (names:List Int) (evs:List Ev) (g:List Go) (now:List Int) (x9 x10 x11 x12 x13:Option U) {a c:Int},0<=a->0<=c->LgI n w N T0 T ln ll lg names evs g now->evs.length+us.length<=1000->
  ∃(T':Sto) (names':List Int) (evs':List Ev) (g':List Go) (now':List Int) (y9 y10 y11 y12 y13:Option U) (a' c':Int),
   d9 (fun _=>True) (gNm 9) (gw mK gB kF kE) us (pB n w ln ll lg now x2 x3 x4 x9 x10 x11 x12 x13) (scr ns::pen a c::T)
    = some (.nx,pB n w ln ll lg now' x2 x3 x4 y9 y10 y11 y12 y13,scr ns::pen a' c'::T')/\LgI n w N T0 T' ln ll lg names' evs' g' now'/\evs'.length<=evs.length+us.length/\0<=a'/\0<=c'
 |[],T,names,evs,g,now,x9,x10,x11,x12,x13,a,c,ha,hc,I,hl=>⟨T,names,evs,g,now,x9,x10,x11,x12,x13,a,c,fD trivial,I,by simp,ha,hc⟩
 |u::us,T,names,evs,g,now,x9,x10,x11,x12,x13,a,c,ha,hc,I,hl=>by
  rw[QY]at hl;have key:∃(T1:Sto) (names1:List Int) (evs1:List Ev) (g1:List Go) (now1:List Int) (z10 z11 z12 z13:Option U) (a1 c1:Int),
    gw mK gB kF kE (pB n w ln ll lg now x2 x3 x4 (some u) x10 x11 x12 x13) (scr ns::pen a c::T)=some (.nx,pB n w ln ll lg now1 x2 x3 x4 (some u) z10 z11 z12 z13,scr ns::pen a1 c1::T1)/\LgI n w N T0 T1 ln ll lg names1 evs1 g1 now1/\evs1.length<=evs.length+1/\0<=a1/\0<=c1:=by
   rw[NA];have E1:=sJ true (S:=scr ns::pen a c::(T++[.lst []])) (l:=ln+1+1) (l':=T.length+1+1) (us:=names.map U.int) (by simp only[Qq];exact ah I.hn) (by simp only[Qq,ga0];rfl);have E2:∀neg:Bool,oR neg (.ref (lg+1+1)) (.ref (T.length+1+1+1)) (scr ns::pen a c::(T++[.lst [],.lst []]))=some (.bl (if neg then !decide (g.map Go.u=[])else decide (g.map Go.u=[])),scr ns::pen a c::(T++[.lst [],.lst []])):=fun neg=>sJ neg (by simp only[Qq];exact ah I.hg) (by simp only[Qq,ga];rfl);have dG:decide (g.map Go.u=[])=decide (g=[]):=by cases g<;>simp
   have dN:decide (names.map U.int=[])=decide (names=[]):=by cases names<;>simp
   rw[dN]at E1;rw[dG]at E2;have sub:(scr ns::pen a c::(T++[.lst []])).length=T.length+1+1+1:=by simp
   rcases List.eq_nil_or_concat names with rfl|⟨names',a0,rfl⟩
   ·by_cases gE:g=[]
    ·subst gE;refine⟨T++[.lst [],.lst []],[],evs,[],now,x10,x11,x12,x13,a,c,?_,I.app _,by omega,ha,hc⟩;rwa[pB,E1,E2,if_true,decide_true,Q6]
    ·have J:=I.app [.lst [],.lst []];obtain⟨T',a',c',e,g',now',y10,y11,y12,y13,h1,h2,h3,h4⟩:=KP (x2:=x2) (x3:=x3) (x4:=x4) (x9:=some u) (x10:=x10) (x11:=x11) (x12:=x12) (x13:=x13) ns ha hc n0 n1 w0 w1 J hN (by omega) gE;refine⟨T',_,_,_,_,y10,y11,y12,y13,a',c',?_,h2,by simp,h3,h4⟩;rw[<-h1];rwa[pB,E1,E2,gE,if_true,decide_true,Q6]
   ·have ne:names'.concat a0≠[]:=by simp
    by_cases gE:g=[]
    ·have J:=I.app [.lst [],.lst []];rw[ZL]at J;obtain⟨T',h1,h2⟩:=EC (x2:=x2) (x3:=x3) (x4:=x4) (x9:=some u) (x10:=x10) (x11:=x11) (x12:=x12) (x13:=x13) ns (a:=a) (c:=c) J hN (by omega);refine⟨T',_,_,_,_,x10,x11,x12,x13,a,c,?_,h2,by simp,ha,hc⟩;rw[<-h1];rwa[pB,E1,E2,ne,gE,if_true,decide_true,Q6,QC,if_false]
    ·obtain⟨f,a1,c1,e1,p1,q1,ha1,hc1⟩:=dQ ns (T++[.lst [],.lst []]) (m:=4) ha hc (by decide) (by decide +kernel);by_cases fE:f=0
     ·have J:=I.app [.lst [],.lst []];rw[ZL]at J;obtain⟨T',h1,h2⟩:=EC (x2:=x2) (x3:=x3) (x4:=x4) (x9:=some u) (x10:=x10) (x11:=x11) (x12:=x12) (x13:=x13) ns (a:=a1) (c:=c1) J hN (by omega);refine⟨T',_,_,_,_,x10,x11,x12,x13,a1,c1,?_,h2,by simp,ha1,hc1⟩;rw[<-h1];rwa[pB,E1,E2,ne,gE,e1,fE,if_true,decide_true,Q6,QC,if_false]
     ·have J:=I.app [.lst [],.lst [],.lst []];have E3:oR true (.ref (lg+1+1)) (.ref (T.length+1+1+1+1)) (scr ns::pen a1 c1::(T++[.lst [],.lst [],.lst []]))=some (.bl true,scr ns::pen a1 c1::(T++[.lst [],.lst [],.lst []])):=by
       have z:=sJ true (S:=scr ns::pen a1 c1::(T++[.lst [],.lst [],.lst []])) (l:=lg+1+1) (l':=T.length+1+1+1+1) (us:=g.map Go.u) (by simp only[Qq];exact ah I.hg) (by
        simp only[Qq];rw[show T.length+1+1=T.length+2 from rfl,ga];rfl)
       rw[dG,decide_eq_false gE]at z;exact z
      obtain⟨T',a',c',e,g',now',y10,y11,y12,y13,h1,h2,h3,h4⟩:=KP (x2:=x2) (x3:=x3) (x4:=x4) (x9:=some u) (x10:=x10) (x11:=x11) (x12:=x12) (x13:=x13) ns ha1 hc1 n0 n1 w0 w1 J hN (by omega) gE;refine⟨T',_,_,_,_,y10,y11,y12,y13,a',c',?_,h2,by simp,h3,h4⟩;rw[<-h1];rwa[pB,E1,E2,E3,ne,gE,e1,fE,if_true,decide_true,Q6,QC,if_false]
  obtain⟨T1,names1,evs1,g1,now1,z10,z11,z12,z13,a1,c1,h1,I1,l1,ha1,hc1⟩:=key;obtain⟨T',names',evs',g',now',y9,y10,y11,y12,y13,a',c',h2,I2,l2,ha2,hc2⟩:=wd ns n0 n1 w0 w1 hN us T1 names1 evs1 g1 now1 (some u) z10 z11 z12 z13 ha1 hc1 I1 (by omega);exact⟨T',names',evs',g',now',y9,y10,y11,y12,y13,a',c',(iw trivial rfl h1).trans h2,I2,by rw[QY];omega,ha2,hc2⟩
end
def He:Fn:=fnU 14 5 (g5 mK gB kF kE)
structure jD(n w:Int)(N:Nat)(evs:List Ev):Prop where
 lo:pF n w [] evs
 kd:(aE (aQ [] evs)).Nodup
 cnt:(aQ [] evs).length<=N
 pb:∀a t,aS (aQ [] evs) a=some t->t.ps.length<=evs.length/\∀p∈t.ps,(0<=p.1/\p.1<n)/\0<=p.2/\p.2<w
theorem Ka (ns : List Int) (T : Sto) {a c n w most size : Int} {state : List Int} (ha : 0 <= a) (hc : 0 <= c) (n0 : 1 <= n) (n1 : n <= 6) (w0 : 2 <= w) (w1 : w <= 1000) (hs : state.length = n.toNat) (bs : ∀ z ∈ state, 0 <= z /\ z < w) (m0 : 0 <= most) (m1 : most <= 99) (s0 : 0 <= size) (s1 : size <= 900) :
    ∃(evs:List Ev) (a' c':Int) (G:Sto) (k:Nat),He [.ref 1,.tup [.int n,.int w],.tup (state.map U.int),.int most,.int size] (scr ns::pen a c::T)=some (.ref (T.length+k+1+1),scr ns::pen a' c'::(T++G))/\G[k]?=some (.lst (evs.map Ev.u))/\jD n w most.toNat evs/\evs.length<=size.toNat/\0<=a'/\0<=c':=by
  unfold He;rw[xM];obtain⟨f,a1,c1,e1,p1,q1,ha1,hc1⟩:=dQ ns T (m:=most+1) ha hc (by omega) (l9 (by omega) (by omega));obtain⟨left,names,a2,c2,e2,l2,d2,b2,ha2,hc2⟩:=CB ns T ha1 hc1 p1 (by omega);obtain⟨h,a3,c3,e3,p3,q3,ha3,hc3⟩:=dQ ns (T++[.lst (left.map U.int),.lst (names.map U.int),.lst [],.lst []]) (m:=size+1) ha2 hc2 (by omega) (l9 (by omega) (by omega));have I:LgI n w most.toNat T (T++[.lst (left.map U.int),.lst (names.map U.int),.lst [],.lst []]) (T.length+1) (T.length+2) (T.length+3) names [] [] state:=
    { hn:=ga,hl:=ga,hg:=ga,bn:=by omega,bl:=by omega,bg:=by omega,n1:=by omega,n2:=by omega,n3:=by omega
      go:=fun x hx=>by cases hx
      gd:=.nil,nd:=d2,nb:=fun x hx=>⟨(b2 x hx).1,(b2 x hx).2,by simp[aQ,aE]⟩,lo:=trivial,kd:=by simp[aQ,aE],cnt:=by simp[aQ];omega,gl:=by simp,nw:=hs,nwb:=bs
      pb:=fun a t e=>by simp[aQ,aS]at e
      fr:=fun i hi=>QN hi,le:=by simp }
  obtain⟨T',names',evs',g',now',y9,y10,y11,y12,y13,a',c',e4,I4,l4,ha4,hc4⟩:=wd (x2:=some (.tup (state.map U.int))) (x3:=some (.int most)) (x4:=some (.int size)) ns n0 n1 w0 w1 (by omega) (eg 0 h.toNat) _ _ _ _ _ none none none none none ha3 hc3 I (by simp[eg];omega);obtain⟨G,rfl⟩:=KD (ls:=[]) I4.le I4.fr;have hl:=I4.hl;rw[ga]at hl;refine⟨evs',a',c',G,2,?_,hl,⟨I4.lo,I4.kd,by have:=I4.cnt;omega,I4.pb⟩,by simp[eg]at l4;omega,ha4,hc4⟩;have hr:-(2^62)<=h/\h<2^62:=by omega
  simp only[pB]at e4;rwa[g5,e1,e2,e3,me,iB,hr,if_true,and_self,e4,Q6]
section
variable{c:Cl}{B:Nat}{E L N P F E':List (Key×U)}{X Y S:Sto}{k:Nat}{o:O}
def hd(c:Cl)(B:Nat)(E L N P F:List (Key×U)):Sto:=[.ins c [some (.ref (B+1)),some (.ref (B+2)),some (.ref (B+3)),some (.ref (B+4)),some (.ref (B+5))],.dic E,.dic L,.dic N,.dic P,.dic F]
theorem hd0:(S++(hd c B E L N P F++X))[S.length]?=some (.ins c [some (.ref (B+1)),some (.ref (B+2)),some (.ref (B+3)),some (.ref (B+4)),some (.ref (B+5))]):=by rw[ga0];rfl
theorem hd1:(S++(hd c B E L N P F++X))[S.length+1]?=some (.dic E):=by rw[ga];rfl
theorem hd2:(S++(hd c B E L N P F++X))[S.length+2]?=some (.dic L):=by rw[ga];rfl
theorem hd3:(S++(hd c B E L N P F++X))[S.length+3]?=some (.dic N):=by rw[ga];rfl
theorem hd4:(S++(hd c B E L N P F++X))[S.length+4]?=some (.dic P):=by rw[ga];rfl
theorem hd5:(S++(hd c B E L N P F++X))[S.length+5]?=some (.dic F):=by rw[ga];rfl
theorem hs1:(S++(hd c B E L N P F++X)).set (S.length+1) (.dic E')=S++(hd c B E' L N P F++X):=by rw[gs];rfl
theorem hs2:(S++(hd c B E L N P F++X)).set (S.length+2) (.dic E')=S++(hd c B E E' N P F++X):=by rw[gs];rfl
theorem hs3:(S++(hd c B E L N P F++X)).set (S.length+3) (.dic E')=S++(hd c B E L E' P F++X):=by rw[gs];rfl
theorem hs4:(S++(hd c B E L N P F++X)).set (S.length+4) (.dic E')=S++(hd c B E L N E' F++X):=by rw[gs];rfl
theorem hs5:(S++(hd c B E L N P F++X)).set (S.length+5) (.dic E')=S++(hd c B E L N P E'++X):=by rw[gs];rfl
theorem eK:(S++(hd c B E L N P F++X)).length=S.length+(6+X.length):=by simp[hd];omega
theorem hgx:(S++(hd c B E L N P F++X))[S.length+(6+k)]?=X[k]?:=by
 rw[ga,Qx (by simp[hd])];congr 1;simp[hd]
theorem hsx:(S++(hd c B E L N P F++X)).set (S.length+(6+k)) o=S++(hd c B E L N P F++X.set k o):=by
 rw[gs,List.set_append_right _ _ (by simp[hd])];congr 3;simp[hd]
theorem O4:S++(hd c B E L N P F++X)++Y=S++(hd c B E L N P F++(X++Y)):=by simp only[Q3]
end
def enS:Option Bool->Str
 |none=>"open"
 |some d=>hJ d
def f6(st:St):List (Key×U):=st.map fun p=>(.inl p.1,.str (enS p.2.en))
def gm(B j:Nat)(st:St)(i:Nat):List (Key×U):=match st with
 |[]=>[]
 |p::r=>(.inl p.1,.ref (B+(6+(4*i+j))))::gm B j r (i+1)
def tM(nd:List (Int×Int)):List (List Key×U):=nd.map fun p=>([.inl p.1,.inl p.2],.bl true)
def blk(t:Att):Sto:=[.lst (t.bf.map U.int),.lst (t.lk.map pU),.dit (tM t.nd),.dic (fh t.ps)]
def pE:St->Sto
 |[]=>[]
 |p::r=>blk p.2++pE r
def crs(c:Cl)(S:Sto)(st:St):Sto:=S++(hd c S.length (f6 st) (gm S.length 1 st 0) (gm S.length 2 st 0) (gm S.length 3 st 0) (gm S.length 0 st 0)++pE st)
theorem gq:∀st:St,(pE st).length=4*st.length
 |[]=>rfl
 |p::r=>by rw[pE,Q6,gq r,QY];simp[blk];omega
theorem iF:∀s r:St,pE (s++r)=pE s++pE r
 |[],r=>rfl
 |p::s,r=>by rw[Qz,pE,pE,iF s r,Q3]
theorem lW{B j:Nat}:∀(s r:St) (i:Nat),gm B j (s++r) i=gm B j s i++gm B j r (i+s.length)
 |[],r,i=>rfl
 |p::s,r,i=>by
  rw[Qz,gm,gm,lW s r (i+1),Qz,QY];congr 3;omega
theorem oS{B j:Nat}:∀(s:St) (i:Nat),(gm B j s i).map (·.1)=(aE s).map Sum.inl
 |[],i=>rfl
 |p::s,i=>by rw[gm,QX,oS s (i+1)];rfl
theorem oT{s:St}:(f6 s).map (·.1)=(aE s).map Sum.inl:=by
 unfold f6 aE;rw[Qg,Qg];rfl
theorem qY{ks:List Int}{a:Int}(h:a∉ks):(Sum.inl a:Key)∉ks.map Sum.inl:=fun z=>by
 obtain⟨b,hb,e⟩:=QR.mp z;cases e;exact h hb
theorem kL{κ α:Type}[DecidableEq κ]{ps qs:List (κ×α)}{k:κ}{v:α}(h:k∉ps.map (·.1)):aS (ps++(k,v)::qs) k=some v:=by
 rw[kM,du.mpr h];simp[aS]
theorem lG{κ α:Type}[DecidableEq κ]{ps:List (κ×α)}{k:κ}{v:α}(h:k∉ps.map (·.1)):eJ ps k v=ps++[(k,v)]:=by
 unfold eJ;rw[if_neg];simp only[List.any_eq_true,decide_eq_true_eq,not_exists,not_and];intro p hp e;exact h (QR.mpr ⟨p,hp,e⟩)
theorem B5{κ α:Type}[DecidableEq κ]{ps qs:List (κ×α)}{k:κ}{v v':α}(h:(ps++(k,v)::qs).map (·.1) |>.Nodup):eJ (ps++(k,v)::qs) k v'=ps++(k,v')::qs:=by
 unfold eJ;rw[if_pos (by simp)];rw[QV,QX]at h;have h1:=Qe.mp h;have h2:=ZG.mp h1.2.1;have keep:∀{l:List (κ×α)},k∉l.map (·.1)->(l.map fun p=>if p.1=k then(p.1,v')else p)=l:=fun{l} hl=>by
  rw[ZV (g:=id) fun p hp=>?_,List.map_id];rw[if_neg fun e=>hl (QR.mpr ⟨p,hp,e⟩)];rfl
 rw[QV,QX];rw[keep fun z=>h1.2.2 k z k QU rfl,keep h2.1,if_pos rfl]
section
variable{c:Cl}{S:Sto}{s1 s2 st:St}{a:Int}{t t':Att}
theorem zG(h:(aE (s1++(a,t)::s2)).Nodup):a∉aE s1:=fun z=>by
 unfold aE at h z;rw[QV,QX]at h;exact(Qe.mp h).2.2 a z a QU rfl
theorem jT{j:Nat}(h:(aE (s1++(a,t)::s2)).Nodup):aS (gm S.length j (s1++(a,t)::s2) 0) (.inl a)=some (.ref (S.length+(6+(4*s1.length+j)))):=by
 rw[lW,gm,Nat.zero_add];exact kL (by rw[oS];exact qY (zG h))
theorem qG(h:(aE (s1++(a,t)::s2)).Nodup):aS (f6 (s1++(a,t)::s2)) (.inl a)=some (.str (enS t.en)):=by
 have e:f6 (s1++(a,t)::s2)=f6 s1++(Sum.inl a,U.str (enS t.en))::f6 s2:=by unfold f6;rw[QV,QX]
 rw[e];exact kL (by rw[oT];exact qY (zG h))
theorem tL{j:Nat}:gm S.length j (s1++(a,t)::s2) 0=gm S.length j (s1++(a,t')::s2) 0:=by
 rw[lW,lW];rfl
theorem Ax(h:t.en=t'.en):f6 (s1++(a,t)::s2)=f6 (s1++(a,t')::s2):=by
 unfold f6;rw[QV,QX,QV,QX,h]
theorem B2{d:Bool}(h:(aE (s1++(a,t)::s2)).Nodup)(e:t'.en=some d):eJ (f6 (s1++(a,t)::s2)) (.inl a) (.str (hJ d))=f6 (s1++(a,t')::s2):=by
 have e1:∀t:Att,f6 (s1++(a,t)::s2)=f6 s1++(Sum.inl a,U.str (enS t.en))::f6 s2:=fun t=>by unfold f6;rw[QV,QX]
 rw[e1,e1,e];refine B5 ?_;rw[<-e1,oT];exact List.Pairwise.map _ (fun a b h e=>h (by cases e;rfl)) h
theorem GZ{j:Nat}(hj:j<4):(pE (s1++(a,t)::s2))[4*s1.length+j]?=(blk t)[j]?:=by
 rw[iF,pE,Qx (by rw[gq];omega),gq,Nat.add_sub_cancel_left,QN (by simp[blk];omega)]
theorem GY{j:Nat}{o:O}(hj:j<4)(h:(blk t).set j o=blk t'):(pE (s1++(a,t)::s2)).set (4*s1.length+j) o=pE (s1++(a,t')::s2):=by
 rw[iF,iF,pE,pE,List.set_append_right _ _ (by rw[gq];omega),gq,Nat.add_sub_cancel_left,List.set_append_left _ _ (by simp[blk];omega),h]
theorem oZ{j:Nat}(hj:j<4):(crs c S (s1++(a,t)::s2))[S.length+(6+(4*s1.length+j))]?=(blk t)[j]?:=by
 unfold crs;rw[hgx,GZ hj]
theorem va{j:Nat}{o:O}(hj:j<4)(he:t.en=t'.en)(h:(blk t).set j o=blk t'):(crs c S (s1++(a,t)::s2)).set (S.length+(6+(4*s1.length+j))) o=crs c S (s1++(a,t')::s2):=by
 unfold crs;rw[hsx,GY hj h,Ax he];simp only[tL (t:=t) (t':=t')]
theorem GV{d:Bool}(h:(aE (s1++(a,t)::s2)).Nodup):(crs c S (s1++(a,t)::s2)).set (S.length+1) (.dic (eJ (f6 (s1++(a,t)::s2)) (.inl a) (.str (hJ d))))=crs c S (s1++(a,{ t with en:=some d })::s2):=by
 unfold crs;rw[hs1,B2 (t':={ t with en:=some d }) h rfl];simp only[tL (t:=t) (t':={ t with en:=some d })];congr 2;rw[iF,iF];rfl
theorem kN{f:Att->Att}(h:(aE (s1++(a,t)::s2)).Nodup):Bi (s1++(a,t)::s2) a f=s1++(a,f t)::s2:=by
 have h0:=h;unfold aE at h;rw[QV,QX]at h;have h1:=Qe.mp h;have h2:=ZG.mp h1.2.1;unfold Bi;have keep:∀{l:St},a∉l.map (·.1)->(l.map fun p=>if p.1=a then(p.1,f p.2)else p)=l:=fun{l} hl=>by
  rw[ZV (g:=id) fun p hp=>?_,List.map_id];rw[if_neg fun e=>hl (QR.mpr ⟨p,hp,e⟩)];rfl
 rw[QV,QX,keep fun z=>h1.2.2 a z a QU rfl,keep h2.1,if_pos rfl]
theorem gR{st:St}(h:aS st a=some t):∃s1 s2,st=s1++(a,t)::s2:=List.append_of_mem (f9 h)
theorem dF{i:Nat}{u:U}{fus:List (Option U)}{Z:Sto}{l:Nat}(h:Z[l]?=some (.ins c fus))(hu:fus[i]?=some (some u)):kA c i (.ref l,Z)=some (u,Z):=by
 rw[DO,h,DN,hu];rfl
theorem LD{co cv:CE}{cr:CA}{ρ:Rho}{Z Z1 Z2 Z3:Sto}{u:U}{l:Nat}{us:List U}{ks:List Key}{kus:List (List Key×U)}(h1:cv ρ Z=some (u,Z1))(h2:co ρ Z1=some (.ref l,Z2))(h3:cr ρ Z2=some (us,Z3))(h4:Z3[l]?=some (.dit kus))(h5:Ld us=some ks)(h6:kus.length<LIM)(h7:us.length<=LIM) :
  o6 co cr cv ρ Z=some (.nx,ρ,Z3.set l (.dit (eJ kus ks u))):=by
 unfold o6;rw[h1,Q4,h2,Q4,h3,Q4];simp only[h4,h5,Q4];rw[if_pos ⟨h6,h7⟩]
theorem B1(nd:List (Int×Int))(b x:Int):eJ (tM nd) [.inl b,.inl x] (.bl true)=tM (Bj nd (b,x)):=by
 have kk:∀p:Int×Int,([Sum.inl p.1,Sum.inl p.2]:List Key)=[.inl b,.inl x]↔p=(b,x):=fun p=>by
  obtain⟨p1,p2⟩:=p;simp
 unfold eJ Bj;have ha:((tM nd).any fun kv=>decide (kv.1=[Sum.inl b,Sum.inl x]))=decide ((b,x)∈nd):=by
  unfold tM;induction nd with
  |nil=>rfl
  |cons p r ih=>
   simp only[QX,ZR,ih,QM,kk];by_cases e:p=(b,x)
   ·simp[e]
   ·simp[e,Ne.symm e]
 rw[ha];by_cases m:(b,x)∈nd
 ·rw[if_pos (decide_eq_true m),if_pos m];unfold tM;rw[Qg];refine ZV fun p _=>?_;simp only[Function.comp];split<;>simp_all
 ·rw[if_neg (by simpa using m),if_neg m];simp[tM]
def Bb(c:Cl):Fn:=fnU 4 4 (bH c)
theorem Gq{b x:Int}(h:(aE (s1++(a,t)::s2)).Nodup)(hl:t.lk.length<=10000)(hn:t.nd.length<=10000):Bb c [.ref S.length,.int a,.int b,.int x] (crs c S (s1++(a,t)::s2))=some (.non,crs c S (s1++(a,t.ev (.look a b x))::s2)):=by
 unfold Bb;rw[lZ];have g3:=oZ (c:=c) (S:=S) (s1:=s1) (s2:=s2) (a:=a) (t:=t) (j:=3) (by omega);have g1:=oZ (c:=c) (S:=S) (s1:=s1) (s2:=s2) (a:=a) (t:=t) (j:=1) (by omega);have v1:=jT (S:=S) (j:=1) h;have v2:=jT (S:=S) (j:=2) h;have v3:=jT (S:=S) (j:=3) h;have f0:∀st:St,(crs c S st)[S.length]?=some (.ins c [some (.ref (S.length+1)),some (.ref (S.length+2)),some (.ref (S.length+3)),some (.ref (S.length+4)),some (.ref (S.length+5))]):=fun st=>hd0;have f2:∀st:St,(crs c S st)[S.length+2]?=some (.dic (gm S.length 1 st 0)):=fun st=>hd2;have f3:∀st:St,(crs c S st)[S.length+3]?=some (.dic (gm S.length 2 st 0)):=fun st=>hd3;have f4:∀st:St,(crs c S st)[S.length+4]?=some (.dic (gm S.length 3 st 0)):=fun st=>hd4;have F1:∀st:St,kA c 1 (.ref S.length,crs c S st)=some (.ref (S.length+2),crs c S st):=fun st=>dF (f0 st) rfl;have F2:∀st:St,kA c 2 (.ref S.length,crs c S st)=some (.ref (S.length+3),crs c S st):=fun st=>dF (f0 st) rfl;have F3:∀st:St,kA c 3 (.ref S.length,crs c S st)=some (.ref (S.length+4),crs c S st):=fun st=>dF (f0 st) rfl;have g3':(crs c S (s1++(a,t)::s2))[S.length+(6+(4*s1.length+3))]?=some (.dic (fh t.ps)):=g3;have g1':(crs c S (s1++(a,t)::s2))[S.length+(6+(4*s1.length+1))]?=some (.lst (t.lk.map pU)):=g1;cases hv:aS t.ps b with
 |some y=>
  have e:t.ev (.look a b x)=t:=by simp[Att.ev,hv]
  rw[e];rwa[bH,F3,f4,v3,g3',ib,hv,Option.map_some,Option.isSome_some,if_true]
 |none=>
  have e:t.ev (.look a b x)={ t with lk:=t.lk++[(b,x)],nd:=Bj t.nd (b,x) }:=by simp[Att.ev,hv]
  rw[e];have hL:(t.lk.map pU).length<LIM:=by unfold LIM;rw[Q5];omega
  have s1':=va (c:=c) (S:=S) (s1:=s1) (s2:=s2) (a:=a) (t:=t) (t':={ t with lk:=t.lk++[(b,x)] }) (j:=1) (o:=.lst (t.lk.map pU++[pU (b,x)])) (by omega) rfl (by unfold blk;rw[QV];rfl);have h':(aE (s1++(a,({ t with lk:=t.lk++[(b,x)] }:Att))::s2)).Nodup:=by unfold aE at h ⊢;rw[QV,QX]at h ⊢;exact h
  have v2':=jT (S:=S) (j:=2) h';have g2:=oZ (c:=c) (S:=S) (s1:=s1) (s2:=s2) (a:=a) (t:={ t with lk:=t.lk++[(b,x)] }) (j:=2) (by omega);have g2':(crs c S (s1++(a,({ t with lk:=t.lk++[(b,x)] }:Att))::s2))[S.length+(6+(4*s1.length+2))]?=some (.dit (tM t.nd)):=g2;have s2':=va (c:=c) (S:=S) (s1:=s1) (s2:=s2) (a:=a) (t:={ t with lk:=t.lk++[(b,x)] }) (t':={ t with lk:=t.lk++[(b,x)],nd:=Bj t.nd (b,x) }) (j:=2) (o:=.dit (tM (Bj t.nd (b,x)))) (by omega) rfl rfl;have e3:o6 (cOp fIx (gP c 2 (ag 0)) (ag 1)) (af (ag 2) (af (ag 3) aG)) (cC (.bl true)) [some (.ref S.length),some (.int a),some (.int b),some (.int x)] (crs c S (s1++(a,({ t with lk:=t.lk++[(b,x)] }:Att))::s2))=some (.nx,[some (.ref S.length),some (.int a),some (.int b),some (.int x)],crs c S (s1++(a,({ t with lk:=t.lk++[(b,x)],nd:=Bj t.nd (b,x) }:Att))::s2)):=by
   rw[LD (u:=.bl true) (us:=[.int b,.int x]) (ks:=[.inl b,.inl x]) (kus:=tM t.nd) (l:=S.length+(6+(4*s1.length+2))) (Z1:=crs c S (s1++(a,({ t with lk:=t.lk++[(b,x)] }:Att))::s2)) (Z2:=crs c S (s1++(a,({ t with lk:=t.lk++[(b,x)] }:Att))::s2)) (Z3:=crs c S (s1++(a,({ t with lk:=t.lk++[(b,x)] }:Att))::s2)) rfl ?_ rfl g2' rfl (by unfold LIM tM;rw[Q5];omega) (by unfold LIM;simp),B1,s2'];rwa[F2,f3,v2']
  have pu:pU (b,x)=.tup [.int b,.int x]:=rfl;rw[pu]at s1';rwa[bH,F1,F3,f2,f4,v1,v3,g1',g3',ib,hv,iV hL,s1',e3,Option.map_none,ZM,QC,if_true,if_false]
theorem GO{o:Option Bool}:decide (enS o=("open":Str))=!o.isSome:=by
 cases o with
 |none=>exact decide_eq_true rfl
 |some d=>cases d<;>(simp only[enS,hJ,if_true,if_false,QC];decide +kernel)
theorem ve{ep:Nat}{E L N P F:List (Key×U)}{X:Sto}(hE:E=f6 st)(hk:(aE st).Nodup):∀(p r:St) (r0:Option U) (ys:List Int),st=p++r->ys.length+r.length<=1000->
  cK (fun S'=>S'[S.length+1]?=some (.fdc ep E)) (gNm 0) (aF (cOp fNe (cOp fIx (gP c 0 (ag 1)) (ag 0)) (cC (.str "open")))) (ag 0) (S.length+(6+X.length)) ((f6 r).map fun q=>kU q.1) [r0,some (.ref S.length)] ((S++(hd c S.length E L N P F++X)).set (S.length+1) (.fdc ep E)++[.lst (ys.map U.int)])
   = some ((S++(hd c S.length E L N P F++X)).set (S.length+1) (.fdc ep E)++[.lst ((ys++(r.filter fun p=>p.2.en.isSome).map (·.1)).map U.int)])
 |p,[],r0,ys,e,hl=>by
  have ok:((S++(hd c S.length E L N P F++X)).set (S.length+1) (.fdc ep E)++[O.lst (ys.map U.int)])[S.length+1]?=some (.fdc ep E):=ah (by rw[gss,hd1];rfl);simp only[List.filter_nil,Ql,QJ];exact qq ok
 |p,(b,t)::r,r0,ys,e,hl=>by
  have hk':(aE (p++(b,t)::r)).Nodup:=by rw[<-e];exact hk
  have ok:∀ys:List Int,((S++(hd c S.length E L N P F++X)).set (S.length+1) (.fdc ep E)++[O.lst (ys.map U.int)])[S.length+1]?=some (.fdc ep E):=fun ys=>ah (by rw[gss,hd1];rfl);have i0:((S++(hd c S.length E L N P F++X)).set (S.length+1) (.fdc ep E)++[O.lst (ys.map U.int)])[S.length]?=some (.ins c [some (.ref (S.length+1)),some (.ref (S.length+2)),some (.ref (S.length+3)),some (.ref (S.length+4)),some (.ref (S.length+5))]):=ah (by rw[gsn (by omega),hd0]);have F0:kA c 0 (.ref S.length,(S++(hd c S.length E L N P F++X)).set (S.length+1) (.fdc ep E)++[O.lst (ys.map U.int)])=some (.ref (S.length+1),(S++(hd c S.length E L N P F++X)).set (S.length+1) (.fdc ep E)++[O.lst (ys.map U.int)]):=dF i0 rfl;have vE:aS E (.inl b)=some (.str (enS t.en)):=by rw[hE,e];exact qG hk'
  have kk:kU (Sum.inl b)=.int b:=rfl;have tst0:∀Z:Sto,kA c 0 (.ref S.length,Z)=some (.ref (S.length+1),Z)->Z[S.length+1]?=some (.fdc ep E)->(aF (cOp fNe (cOp fIx (gP c 0 (ag 1)) (ag 0)) (cC (.str "open")))) [some (.int b),some (.ref S.length)] Z=some (t.en.isSome,Z):=fun Z z1 z2=>by
   have z:(!decide (enS t.en=("open":Str)))=t.en.isSome:=by rw[GO,Bool.not_not]
   rwa[z1,z2,L8,vE,z]
  have tst:=tst0 _ F0 (ok ys);have ln:((S++(hd c S.length E L N P F++X)).set (S.length+1) (.fdc ep E)).length=S.length+(6+X.length):=by rw[List.length_set,eK]
  simp only[f6,QX,kk];cases hs:t.en.isSome with
  |false=>
   have ih:=ve (ep:=ep) (L:=L) (N:=N) (P:=P) (F:=F) (X:=X) hE hk (p++[(b,t)]) r (some (.int b)) ys (by rw[e];simp) (by simp at hl ⊢;omega);refine(ub (ok ys) rfl (by rw[<-hs];exact tst)).trans ?_;rw[List.filter_cons_of_neg (by simpa using hs)];exact ih
  |true=>
   have ih:=ve (ep:=ep) (L:=L) (N:=N) (P:=P) (F:=F) (X:=X) hE hk (p++[(b,t)]) r (some (.int b)) (ys++[b]) (by rw[e];simp) (by simp at hl ⊢;omega);refine(qp (x:=.int b) (ys:=ys.map U.int) (ok ys) rfl (by rw[<-hs];exact tst) rfl (by rw[<-ln,ga0];rfl) (by unfold LIM;simp at hl ⊢;omega)).trans ?_;rw[List.filter_cons_of_pos (by simpa using hs)];have e5:((S++(hd c S.length E L N P F++X)).set (S.length+1) (.fdc ep E)++[O.lst (ys.map U.int)]).set (S.length+(6+X.length)) (.lst (ys.map U.int++[U.int b]))=(S++(hd c S.length E L N P F++X)).set (S.length+1) (.fdc ep E)++[.lst ((ys++[b]).map U.int)]:=by
    rw[<-ln,gs0,QV];rfl
   rw[e5];refine ih.trans ?_;simp
theorem Ny(hk:(aE st).Nodup)(hl:st.length<=900)(x1:Option U):nE (gP c 0 (ag 0)) (gNm 0) (aF (cOp fNe (cOp fIx (gP c 0 (ag 1)) (ag 0)) (cC (.str "open")))) (ag 0) 1 [0] [some (.ref S.length),x1] (crs c S st)=some (.ref (S.length+(6+4*st.length)),crs c S st++[.lst ((qz st).bf.map U.int)]):=by
 have i0:(crs c S st)[S.length]?=some (.ins c [some (.ref (S.length+1)),some (.ref (S.length+2)),some (.ref (S.length+3)),some (.ref (S.length+4)),some (.ref (S.length+5))]):=hd0;have F0:kA c 0 (.ref S.length,crs c S st)=some (.ref (S.length+1),crs c S st):=dF i0 rfl;have ce:gP c 0 (ag 0) [some (.ref S.length),x1] (crs c S st)=some (.ref (S.length+1),crs c S st):=by rwa[F0]
 have ln:(crs c S st).length=S.length+(6+4*st.length):=by unfold crs;rw[eK,gq]
 have f1:(crs c S st)[S.length+1]?=some (.dic (f6 st)):=hd1;unfold nE AU;rw[ce,Q4];simp only[f1];refine DS fun ep=>?_;have h:=ve (c:=c) (S:=S) (ep:=ep) (L:=gm S.length 1 st 0) (N:=gm S.length 2 st 0) (P:=gm S.length 3 st 0) (F:=gm S.length 0 st 0) (X:=pE st) rfl hk [] st none [] rfl (by simp;omega);have e1:ma 1 [0] [some (.ref S.length),x1]=[none,some (.ref S.length)]:=rfl;rw[gq]at h;rw[e1,ln];simp only[Ql,Qk]at h;have h':cK (fun S'=>S'[S.length+1]?=some (.fdc ep (f6 st))) (gNm 0) (aF (cOp fNe (cOp fIx (gP c 0 (ag 1)) (ag 0)) (cC (.str "open")))) (ag 0) (S.length+(6+4*st.length)) ((f6 st).map fun q=>kU q.1) [none,some (.ref S.length)] ((crs c S st).set (S.length+1) (.fdc ep (f6 st))++[.lst []])=some ((crs c S st).set (S.length+1) (.fdc ep (f6 st))++[.lst ((qz st).bf.map U.int)]):=h;rw[h',Q4];have g:((crs c S st).set (S.length+1) (.fdc ep (f6 st))++[O.lst ((qz st).bf.map U.int)])[S.length+1]?=some (.fdc ep (f6 st)):=ah (by rw[gss,f1];rfl);simp only[g];have hlt:S.length+1<(crs c S st).length:=by omega
 rw[List.set_append_left _ _ (by simpa using hlt),List.set_set];congr 3;unfold crs;rw[hs1]
def hc(c:Cl)(S:Sto)(E L N P F:List (Key×U))(X:Sto):Sto:=S++(hd c S.length E L N P F++X)
section
variable{E L N P F E':List (Key×U)}{X Y:Sto}
theorem hc0:(hc c S E L N P F X)[S.length]?=some (.ins c [some (.ref (S.length+1)),some (.ref (S.length+2)),some (.ref (S.length+3)),some (.ref (S.length+4)),some (.ref (S.length+5))]):=hd0
theorem hc1:(hc c S E L N P F X)[S.length+1]?=some (.dic E):=hd1
theorem hc2:(hc c S E L N P F X)[S.length+2]?=some (.dic L):=hd2
theorem hc3:(hc c S E L N P F X)[S.length+3]?=some (.dic N):=hd3
theorem hc4:(hc c S E L N P F X)[S.length+4]?=some (.dic P):=hd4
theorem hc5:(hc c S E L N P F X)[S.length+5]?=some (.dic F):=hd5
theorem ht1:(hc c S E L N P F X).set (S.length+1) (.dic E')=hc c S E' L N P F X:=hs1
theorem ht2:(hc c S E L N P F X).set (S.length+2) (.dic E')=hc c S E E' N P F X:=hs2
theorem ht3:(hc c S E L N P F X).set (S.length+3) (.dic E')=hc c S E L E' P F X:=hs3
theorem ht4:(hc c S E L N P F X).set (S.length+4) (.dic E')=hc c S E L N E' F X:=hs4
theorem ht5:(hc c S E L N P F X).set (S.length+5) (.dic E')=hc c S E L N P E' X:=hs5
theorem hcl:(hc c S E L N P F X).length=S.length+(6+X.length):=eK
theorem hcA:hc c S E L N P F X++Y=hc c S E L N P F (X++Y):=O4
end
def rJ(c:Cl):Fn:=fnU 2 2 (dz c)
theorem Aw{B j:Nat}{p:Int×Att}:gm B j (st++[p]) 0=gm B j st 0++[(.inl p.1,.ref (B+(6+(4*st.length+j))))]:=by
 rw[lW,gm,Nat.zero_add];rfl
theorem wJ{B j:Nat}:∀(s:St) (i:Nat),(gm B j s i).length=s.length
 |[],_=>rfl
 |p::s,i=>by rw[gm,QY,wJ s (i+1),QY]
theorem AQ(hk:(aE st).Nodup)(ha:a∉aE st)(hl:st.length<=900):rJ c [.ref S.length,.int a] (crs c S st)=some (.non,crs c S (st++[(a,qz st)])):=by
 unfold rJ;rw[pR];have B0:=Ny (c:=c) (S:=S) hk hl (some (.int a));have pr:∀j,eJ (gm S.length j st 0) (.inl a) (.ref (S.length+(6+(4*st.length+j))))=gm S.length j (st++[(a,qz st)]) 0:=fun j=>by
  rw[lG (by rw[oS];exact qY ha),Aw]
 have pe:eJ (f6 st) (.inl a) (.str "open")=f6 (st++[(a,qz st)]):=by
  rw[lG (by rw[oT];exact qY ha)];unfold f6;rw[QV];rfl
 have lR:∀j,(gm S.length j st 0).length<LIM:=fun j=>by rw[wJ];unfold LIM;omega
 have lE:(f6 st).length<LIM:=by unfold f6 LIM;rw[Q5];omega
 have l0:(pE st).length=4*st.length:=gq st;have l1:∀o:O,(pE st++[o]).length=4*st.length+1:=fun o=>by rw[Q6,l0];rfl
 have l2:∀o o':O,(pE st++[o,o']).length=4*st.length+2:=fun o o'=>by rw[Q6,l0];rfl
 have l3:∀o o' o'':O,(pE st++[o,o',o'']).length=4*st.length+3:=fun o o' o''=>by rw[Q6,l0];rfl
 have F0:∀{E L N P F:List (Key×U)} {X:Sto},kA c 0 (.ref S.length,hc c S E L N P F X)=some (.ref (S.length+1),hc c S E L N P F X):=dF hc0 rfl;have F1:∀{E L N P F:List (Key×U)} {X:Sto},kA c 1 (.ref S.length,hc c S E L N P F X)=some (.ref (S.length+2),hc c S E L N P F X):=dF hc0 rfl;have F2:∀{E L N P F:List (Key×U)} {X:Sto},kA c 2 (.ref S.length,hc c S E L N P F X)=some (.ref (S.length+3),hc c S E L N P F X):=dF hc0 rfl;have F3:∀{E L N P F:List (Key×U)} {X:Sto},kA c 3 (.ref S.length,hc c S E L N P F X)=some (.ref (S.length+4),hc c S E L N P F X):=dF hc0 rfl;have F4:∀{E L N P F:List (Key×U)} {X:Sto},kA c 4 (.ref S.length,hc c S E L N P F X)=some (.ref (S.length+5),hc c S E L N P F X):=dF hc0 rfl;have dT:∀(ρ:Rho) (Z:Sto),AX ρ Z=some (.ref Z.length,Z++[.dit []]):=fun _ _=>rfl;have fin:crs c S (st++[(a,qz st)])=hc c S (f6 (st++[(a,qz st)])) (gm S.length 1 (st++[(a,qz st)]) 0) (gm S.length 2 (st++[(a,qz st)]) 0) (gm S.length 3 (st++[(a,qz st)]) 0) (gm S.length 0 (st++[(a,qz st)]) 0) (pE st++[.lst ((qz st).bf.map U.int),.lst [],.dit [],.dic []]):=by
  unfold crs hc;rw[iF];rfl
 rw[fin];have p0:=pr 0;have p1:=pr 1;have p2:=pr 2;have p3:=pr 3;rw[Nat.add_zero]at p0;have C0:crs c S st=hc c S (f6 st) (gm S.length 1 st 0) (gm S.length 2 st 0) (gm S.length 3 st 0) (gm S.length 0 st 0) (pE st):=rfl;rw[C0]at B0 ⊢;rwa[dz,B0,hcA,F0,F1,F2,F3,F4,hc1,hc2,hc3,hc4,hc5,ht1,ht2,ht3,ht4,ht5,lR,lE,if_true,p0,p1,p2,p3,pe,dT,hcl,l1,l2,l3]
def nG(c:Cl):Fn:=fnU 3 2 (bw (rJ c) (Bb c) c)
theorem iW:decide (("look":Str)="begin")=false:=by decide +kernel
theorem kf:decide (("put":Str)="begin")=false:=by decide +kernel
theorem pZ:decide (("put":Str)="look")=false:=by decide +kernel
theorem iY:decide (("done":Str)="begin")=false:=by decide +kernel
theorem nM:decide (("done":Str)="look")=false:=by decide +kernel
theorem iX:decide (("fall":Str)="begin")=false:=by decide +kernel
theorem nL:decide (("fall":Str)="look")=false:=by decide +kernel
def Few(st:St)(m:Nat):Prop:=st.length<=m/\∀p∈st,p.2.lk.length<=m/\p.2.nd.length<=m/\p.2.ps.length<=m
theorem Am{n w:Int}{e:Ev}{m:Nat}(hk:(aE st).Nodup)(ok:vv n w st e)(fw:Few st m)(hm:m<=900):nG c [.ref S.length,e.u] (crs c S st)=some (.non,crs c S (stp st e)):=by
 unfold nG;rw[oV];have i0:∀st:St,(crs c S st)[S.length]?=some (.ins c [some (.ref (S.length+1)),some (.ref (S.length+2)),some (.ref (S.length+3)),some (.ref (S.length+4)),some (.ref (S.length+5))]):=fun _=>hd0;cases e with
 |beg a=>
  have h:=AQ (c:=c) (S:=S) hk ok.2.2 (by have:=fw.1;omega);rwa[bw,Ev.u,ef,h,i0,stp]
 |look a b x=>
  obtain⟨_,t,h1,h2,_⟩:=ok;obtain⟨s1,s2,rfl⟩:=gR h1;obtain⟨q1,q2,q3⟩:=fw.2 _ (QL s1 QU);dsimp only at q1 q2;have h:=Gq (c:=c) (S:=S) (b:=b) (x:=x) hk (by omega) (by omega);rwa[bw,Ev.u,iW,ef,h,i0,stp,Ev.at,kN hk]
 |put a b x=>
  obtain⟨_,t,h1,h2⟩:=ok;obtain⟨s1,s2,rfl⟩:=gR h1;obtain⟨q1,q2,q3⟩:=fw.2 _ (QL s1 QU);dsimp only at q3;have F3:kA c 3 (.ref S.length,crs c S (s1++(a,t)::s2))=some (.ref (S.length+4),crs c S (s1++(a,t)::s2)):=dF hd0 rfl;have f4:(crs c S (s1++(a,t)::s2))[S.length+4]?=some (.dic (gm S.length 3 (s1++(a,t)::s2) 0)):=hd4;have v3:=jT (S:=S) (j:=3) hk;have g3:(crs c S (s1++(a,t)::s2))[S.length+(6+(4*s1.length+3))]?=some (.dic (fh t.ps)):=oZ (by omega);have lp:(fh t.ps).length<LIM:=by unfold fh LIM;rw[Q5];omega
  have s3:=va (c:=c) (S:=S) (s1:=s1) (s2:=s2) (a:=a) (t:=t) (t':=t.ev (.put a b x)) (j:=3) (o:=.dic (fh (eJ t.ps b x))) (by omega) rfl rfl;rwa[bw,Ev.u,kf,pZ,ef,i0,F3,f4,v3,g3,lp,if_true,qN,s3,stp,Ev.at,kN hk]
 |fin d a=>
  obtain⟨t,h1,h2⟩:=ok;obtain⟨s1,s2,rfl⟩:=gR h1;have F0:kA c 0 (.ref S.length,crs c S (s1++(a,t)::s2))=some (.ref (S.length+1),crs c S (s1++(a,t)::s2)):=dF hd0 rfl;have f1:(crs c S (s1++(a,t)::s2))[S.length+1]?=some (.dic (f6 (s1++(a,t)::s2))):=hd1;have lE:(f6 (s1++(a,t)::s2)).length<LIM:=by have:=fw.1;unfold f6 LIM;rw[Q5];omega
  have ce:=GV (c:=c) (S:=S) (d:=d) hk;cases d with
  |true=>
   simp only[hJ,if_true]at ce;rwa[bw,Ev.u,hJ,if_true,iY,nM,jR,i0,F0,f1,lE,ce,stp,Ev.at,Att.ev,kN hk]
  |false=>
   simp only[hJ,QC,if_false]at ce;rwa[bw,Ev.u,hJ,QC,if_true,if_false,iX,nL,jQ,i0,F0,f1,lE,ce,stp,Ev.at,Att.ev,kN hk]
def pz(c:Cl):Fn:=fnU 1 1 (d4 c)
theorem Du(hns:c.ns.length=5):rj c (pz c) [] S=some (.ref S.length,crs c S []):=by
 rw[DJ,hns];have h:pz c [.ref S.length] (S++[.ins c (Qh 5 none)])=some (.non,crs c S []):=by
  unfold pz;rw[rA];rwa[d4,Qh,Q6];rfl
 rw[h];rfl
theorem Ao{n w:Int}{e:Ev}{m:Nat}(hk:(aE st).Nodup)(ok:vv n w st e)(fw:Few st m):Few (stp st e) (m+1):=by
  obtain⟨f1,f2⟩:=fw;cases e with
  | beg a=>
    refine⟨by simp[stp];omega,fun p hp=>?_⟩;rcases Qw.mp hp with z|z
    · obtain⟨q1,q2,q3⟩:=f2 p z;exact⟨by omega,by omega,by omega⟩
    · simp at z;subst z;simp[qz]
  | _=>
    refine⟨by simp[stp,Bi];omega,fun p hp=>?_⟩;simp only[stp,Bi]at hp;obtain⟨q,hq,rfl⟩:=QR.mp hp;obtain⟨q1,q2,q3⟩:=f2 q hq;split
    · simp only[Att.ev]
      first
      | (split
         · exact⟨by omega,by omega,by omega⟩
         · refine⟨by simp;omega,?_,by dsimp only;omega⟩
           dsimp only[Bj];split
           · omega
           · simp;omega)
      |exact⟨by omega,by omega,Qj (jV ..) (by omega)⟩
      |exact⟨by omega,by omega,by omega⟩
    · exact⟨by omega,by omega,by omega⟩
def rH(c:Cl):Fn:=fnU 3 1 (fU (nG c) (pz c) c)
theorem o3{n w:Int}{x0:Option U}{ok:Sto->Prop}(hok:∀st,ok (crs c S st)):∀(es:List Ev) (st:St) (m:Nat) (r2:Option U),pF n w st es->(aE st).Nodup->Few st m->m+es.length<=900->
  ∃r2',d9 ok (gNm 2) (iG (nG c) (pz c) c) (es.map Ev.u) [x0,some (.ref S.length),r2] (crs c S st)=some (.nx,[x0,some (.ref S.length),r2'],crs c S (aQ st es))
 |[],st,m,r2,_,_,_,_=>⟨r2,fD (hok st)⟩
 |e::es,st,m,r2,lf,hk,fw,hm=>by
  rw[QY]at hm;obtain⟨oke,lf'⟩:=lf;obtain⟨r2',ih⟩:=o3 hok es (stp st e) (m+1) (some e.u) lf' (dY hk oke) (Ao hk oke fw) (by omega);refine⟨r2',(iw (hok st) rfl ?_).trans ih⟩;have h:=Am (c:=c) (S:=S) hk oke fw (by omega);have i0:(crs c S st)[S.length]?=some (.ins c [some (.ref (S.length+1)),some (.ref (S.length+2)),some (.ref (S.length+3)),some (.ref (S.length+4)),some (.ref (S.length+5))]):=hd0;rwa[iG,i0,h]
theorem AM{n w:Int}{N:Nat}{evs:List Ev}{l:Nat}(hns:c.ns.length=5)(hl:S[l]?=some (.lst (evs.map Ev.u)))(lo:pF n w [] evs)(he:evs.length<=900):rH c [.ref l] S=some (.ref S.length,crs c S (aQ [] evs)):=by
 unfold rH;rw[uX];have hok:∀st,(crs c S st)[l]?=some (.lst (evs.map Ev.u)):=fun st=>by unfold crs;exact ah hl
 obtain⟨r2,h⟩:=o3 (c:=c) (S:=S) (x0:=some (.ref l)) (ok:=fun S=>S[l]?=some (.lst (evs.map Ev.u))) hok evs [] 0 none lo (by simp[aE]) ⟨by simp,by simp⟩ (by omega);rwa[fU,Du hns,me,iTp,hok,h]
end
def g7:CS:=
 (bj (dI 2 (bz (iTp (ag 0)) (gNm 0) (pD (aF (cOp fEq (cOp fIx (ag 0) (cC (.int 1))) (ag 1))) (aF (cOp (fIn false) (cOp fIx (ag 0) (cC (.int 0))) (gp (af (cC (.str "done")) (af (cC (.str "fall")) aG)))))) (cOp fIx (ag 0) (cC (.int 0))) 1 [1]))
  (et (cOp fIx (cOp j8 (ag 2) (iU (af (cC (.str "open")) aG))) (cC (.int 0)))))
theorem xN{a0 a1:U}{S:Sto}:fnU 3 2 (g7 ) [a0,a1] S=((g7 ) [some a0,some a1,none] S).bind kFn:=iO rfl
def fe(aU aP:Fn):CS:=
 (et (bz (iTp (cCB aU (af (ag 0) aG))) (gNm 0) (cOr (aF (ag 1)) (aF (cOp fEq (cCB aP (af (ag 2) (af (ag 0) aG))) (cC (.str "done"))))) (ag 0) 1 [1,0]))
theorem t7{aU aP:Fn}{a0 a1:U}{S:Sto}:fnU 2 2 (fe aU aP) [a0,a1] S=((fe aU aP) [some a0,some a1] S).bind kFn:=iO rfl
def cQ(aP a6:Fn):CS:=
 (bj (dI 3 iR)
  (bj (ff (aF (cOp fEq (cCB aP (af (ag 0) (af (ag 1) aG))) (cC (.str "done")))) (dI 3 (cCB a6 (af (ag 0) (af (ag 1) aG)))) cf)
  (et (cCB fT (af (fg (jX (ag 2)) (gTp [0,1]) (mH (ag 2) (ag 0) (ag 1)) 2 [3]) aG)))))
theorem pQ{aP a6:Fn}{a0 a1 a2:U}{S:Sto}:fnU 4 3 (cQ aP a6) [a0,a1,a2] S=((cQ aP a6) [some a0,some a1,some a2,none] S).bind kFn:=iO rfl
def fW(aT:Fn):CS:=
 (et (cOp (fIn true) (cC (.bl false)) (fg (iTp (cCB aT (af (ag 0) (af (ag 1) aG)))) (gTp [0,1]) (cOp fEq (cOp fIx (ag 2) (ag 0)) (ag 1)) 2 [2])))
theorem u0{aT:Fn}{a0 a1 a2:U}{S:Sto}:fnU 3 3 (fW aT) [a0,a1,a2] S=((fW aT) [some a0,some a1,some a2] S).bind kFn:=iO rfl
def l6(ao:Cl):CS:=
 (ff (aF (cOp fNe (cOp fIx (ag 2) (cOp fIx (ag 3) (cC (.int 0)))) (cOp fIx (ag 3) (cC (.int 1))))) (et (cC (.bl false))) cf)
def qx(ao:Cl):CS:=
 (bj (AV (cOp fIx (gP ao 2 (ag 0)) (ag 1)) (gNm 3) (l6 ao))
  (et (cC (.bl true))))
theorem KU{ao:Cl}{a0 a1 a2:U}{S:Sto}:fnU 4 3 (qx ao) [a0,a1,a2] S=((qx ao) [some a0,some a1,some a2,none] S).bind kFn:=iO rfl
def dH(ao:Cl):CS:=
 (bj (ff (aF (cOp fNe (cOp fIx (gP ao 0 (ag 0)) (ag 1)) (cC (.str "done")))) (et (ag 2)) cf)
  (et (cCB fT (af (fg (jX (ag 2)) (gTp [0,1]) (mH (cOp fIx (gP ao 3 (ag 3)) (ag 2)) (ag 0) (ag 1)) 2 [1,0]) aG))))
theorem tN{ao:Cl}{a0 a1 a2:U}{S:Sto}:fnU 3 3 (dH ao) [a0,a1,a2] S=((dH ao) [some a0,some a1,some a2] S).bind kFn:=iO rfl
def ej(st:St)(a:Int):List (Int×Int):=((aS st a).map (·.lk)).getD []
def gW(st:St)(a:Int):List (Int×Int):=((aS st a).map (·.ps)).getD []
def f7(st:St)(a:Int):Option Bool:=(aS st a).bind (·.en)
section
variable{n w:Int}{st:St}{e:Ev}{a:Int}
theorem mP(ok:vv n w st (.beg a)):aS st a=none:=du.mpr ok.2.2
theorem nC(h:a≠e.at):ej (stp st e) a=ej st a/\gW (stp st e) a=gW st a/\f7 (stp st e) a=f7 st a:=by
 unfold ej gW f7;rw[bV h];exact⟨rfl,rfl,rfl⟩
theorem we(ok:vv n w st (.beg a)):ej (stp st (.beg a)) a=ej st a/\gW (stp st (.beg a)) a=gW st a/\f7 (stp st (.beg a)) a=f7 st a:=by
 unfold ej gW f7;rw[eA ok.2.2,mP ok];exact⟨rfl,rfl,rfl⟩
theorem fj{t:Att}(h:aS st e.at=some t):ej (stp st e) e.at=(t.ev e).lk/\gW (stp st e) e.at=(t.ev e).ps/\f7 (stp st e) e.at=(t.ev e).en:=by
 unfold ej gW f7;rw[bN h];exact⟨rfl,rfl,rfl⟩
end
theorem jS{κ α:Type}[DecidableEq κ]{ps:List (κ×α)}{k b:κ}{v:α}:aS (eJ ps k v) b=if b=k then some v else aS ps b:=by
 by_cases m:k∈ps.map (·.1)
 ·unfold eJ;rw[if_pos (by obtain⟨p,hp,e⟩:=QR.mp m;exact List.any_eq_true.mpr ⟨p,hp,by simp[e]⟩)];induction ps with
  |nil=>simp at m
  |cons p r ih=>
   unfold aS at ih ⊢;simp only[QX,Qt];by_cases e1:p.1=k
   ·simp only[e1,if_true];by_cases e2:b=k
    ·subst e2;simp
    ·rw[decide_eq_false (Ne.symm e2),if_neg e2];by_cases m':k∈r.map (·.1)
     ·have:=ih m';rw[if_neg e2]at this;exact this
     ·rw[ZV (g:=id) fun q hq=>?_,List.map_id];rw[if_neg fun z=>m' (QR.mpr ⟨q,hq,z⟩)];rfl
   ·simp only[e1,if_false];have m':k∈r.map (·.1):=by
     rcases QM.mp m with z|z
     ·exact absurd z.symm e1
     ·exact z
    by_cases e2:p.1=b
    ·rw[decide_eq_true e2];have:b≠k:=fun z=>e1 (e2.trans z);rw[if_neg this]
    ·rw[decide_eq_false e2];exact ih m'
 ·rw[lG m,kM];by_cases e2:b=k
  ·subst e2;rw[du.mpr m,if_pos rfl];simp[aS]
  ·rw[if_neg e2];cases aS ps b with
   |some x=>rfl
   |none=>simp[aS,Ne.symm e2]
def px:Fn:=fnU 5 2 fb
theorem nN:decide (("begin":Str)="put")=false:=by decide +kernel
theorem rV:decide (("begin":Str)="look")=false:=by decide +kernel
theorem DL{neg:Bool}{b:Int}{us:List Int}{S:Sto}:kIn neg (.int b) S (some (.lst (us.map U.int)))=some (.bl (if neg then !decide (b∈us)else decide (b∈us)),S):=by
 rw[Ih ⟨rfl,by simp[iC]⟩];have e:inU (.int b) (us.map U.int)=decide (b∈us):=by
  unfold inU;rw[List.any_map,ZE,List.any_eq_true,decide_eq_true_eq];constructor
  ·rintro⟨x,hx,hh⟩;simp[eqF]at hh;subst hh;exact hx
  ·intro hx;exact⟨b,hx,by simp[eqF]⟩
 rw[e]
theorem qh{n w:Int}{S:Sto}{l:Nat}{us:List U}{a:Int}(hl:S[l]?=some (.lst us)):∀(es:List Ev) (st:St) (fd:List (Int×Int)) (pt:List Int) (r4:Option U),pF n w st es->fd=ej st a->(∀b,b∈pt↔(aS (gW st a) b).isSome=true)->fd.length+es.length<=1000->pt.length+es.length<=1000->
  ∃(r4':Option U) (pt':List Int),d9 (fun S=>S[l]?=some (.lst us)) (gNm 4) a8 (es.map Ev.u) [some (.ref l),some (.int a),some (.ref S.length),some (.ref (S.length+1)),r4] (S++[.lst (fd.map pU),.lst (pt.map U.int)])
   = some (.nx,[some (.ref l),some (.int a),some (.ref S.length),some (.ref (S.length+1)),r4'],S++[.lst ((ej (aQ st es) a).map pU),.lst (pt'.map U.int)])
 |[],st,fd,pt,r4,_,e1,_,_,_=>⟨r4,pt,by subst e1;exact fD (ah hl)⟩
 |e::es,st,fd,pt,r4,lf,e1,e2,h1,h2=>by
  rw[QY]at h1 h2;obtain⟨ok,lf'⟩:=lf;have step:∀(fd':List (Int×Int)) (pt':List Int),fd'=ej (stp st e) a->(∀b,b∈pt'↔(aS (gW (stp st e) a) b).isSome=true)->fd'.length<=fd.length+1->pt'.length<=pt.length+1->
    a8 [some (.ref l),some (.int a),some (.ref S.length),some (.ref (S.length+1)),some e.u] (S++[.lst (fd.map pU),.lst (pt.map U.int)])=some (.nx,[some (.ref l),some (.int a),some (.ref S.length),some (.ref (S.length+1)),some e.u],S++[.lst (fd'.map pU),.lst (pt'.map U.int)])->
    ∃(r4':Option U) (pt':List Int),d9 (fun S=>S[l]?=some (.lst us)) (gNm 4) a8 ((e::es).map Ev.u) [some (.ref l),some (.int a),some (.ref S.length),some (.ref (S.length+1)),r4] (S++[.lst (fd.map pU),.lst (pt.map U.int)])
     = some (.nx,[some (.ref l),some (.int a),some (.ref S.length),some (.ref (S.length+1)),r4'],S++[.lst ((ej (aQ st (e::es)) a).map pU),.lst (pt'.map U.int)]):=fun fd' pt' f1 f2 f3 f4 hb=>by
   obtain⟨r4',pt2,ih⟩:=qh hl es (stp st e) fd' pt' (some e.u) lf' f1 f2 (by omega) (by omega);exact⟨r4',pt2,(iw (ah hl) rfl hb).trans ih⟩
  have hF:(fd.map pU).length<LIM:=by unfold LIM;rw[Q5];omega
  have hP:(pt.map U.int).length<LIM:=by unfold LIM;rw[Q5];omega
  by_cases ea:a=e.at
  ·cases e with
   |beg b=>
    have eb:a=b:=ea;subst eb;obtain⟨k1,k2,_⟩:=we ok;refine step fd pt (by rw[k1];exact e1) (fun b=>by rw[k2];exact e2 b) (by omega) (by omega) ?_;rwa[a8,Ev.u,nN,rV,ef]
   |look b1 b2 b3=>
    have eb:a=b1:=ea;subst eb;obtain⟨_,t,t1,t2,t3⟩:=id ok;obtain⟨k1,k2,_⟩:=fj (e:=.look a b2 b3) t1;simp only[Ev.at]at k1 k2;have ps:gW st a=t.ps:=by unfold gW;rw[t1];rfl
    have lk:ej st a=t.lk:=by unfold ej;rw[t1];rfl
    have hm:=e2 b2;rw[ps]at hm;cases hv:(aS t.ps b2).isSome with
    |true=>
     have hb:b2∈pt:=hm.mpr hv;refine step fd pt (by rw[k1,e1,lk];simp[Att.ev,hv]) (fun b=>by rw[k2,e2 b,ps];simp[Att.ev,hv]) (by omega) (by omega) ?_;rwa[a8,Ev.u,jP,ef,DL,hb,decide_true,if_true]
    |false=>
     have hb:b2∉pt:=fun z=>by rw[hm.mp z]at hv;cases hv
     refine step (fd++[(b2,b3)]) pt (by rw[k1,e1,lk];simp[Att.ev,hv]) (fun b=>by rw[k2,e2 b,ps];simp[Att.ev,hv]) (by simp) (by omega) ?_;have pu:pU (b2,b3)=.tup [.int b2,.int b3]:=rfl;rwa[a8,Ev.u,jP,ef,DL,hb,decide_false,if_true,iV hF,QV,pu]
   |put b1 b2 b3=>
    have eb:a=b1:=ea;subst eb;obtain⟨_,t,t1,t2⟩:=id ok;obtain⟨k1,k2,_⟩:=fj (e:=.put a b2 b3) t1;simp only[Ev.at]at k1 k2;have ps:gW st a=t.ps:=by unfold gW;rw[t1];rfl
    have lk:ej st a=t.lk:=by unfold ej;rw[t1];rfl
    refine step fd (pt++[b2]) (by rw[k1,e1,lk];rfl) (fun b=>?_) (by omega) (by simp) ?_
    ·have hm:=e2 b;rw[ps]at hm;rw[k2,Qw,hm];show _↔(aS (eJ t.ps b2 b3) b).isSome=true;rw[jS];by_cases z:b=b2
     ·subst z;simp
     ·simp[z]
    ·rwa[a8,Ev.u,pZ,ef,iV hP,QV]
   |fin d b1=>
    have eb:a=b1:=ea;subst eb;obtain⟨t,t1,t2⟩:=id ok;obtain⟨k1,k2,_⟩:=fj (e:=.fin d a) t1;simp only[Ev.at]at k1 k2;have ps:gW st a=t.ps:=by unfold gW;rw[t1];rfl
    have lk:ej st a=t.lk:=by unfold ej;rw[t1];rfl
    refine step fd pt (by rw[k1,e1,lk];rfl) (fun b=>by rw[k2,e2 b,ps];rfl) (by omega) (by omega) ?_;cases d with
    |true=>rwa[a8,Ev.u,hJ,if_true,jR,nM,ef]
    |false=>rwa[a8,Ev.u,hJ,QC,if_false,jQ,nL,ef]
  ·obtain⟨k1,k2,_⟩:=nC (st:=st) ea;refine step fd pt (by rw[k1];exact e1) (fun b=>by rw[k2];exact e2 b) (by omega) (by omega) ?_;have ea':e.at≠a:=Ne.symm ea;cases e with
   |fin d b1=>cases d<;>(simp only[Ev.at]at ea';rwa[a8,Ev.u,hJ,ea'])
   |_=>simp only[Ev.at]at ea';rwa[a8,Ev.u,ea']
theorem dc{α:Type}{ok:Sto->Prop}{gg:CG}{ct:CT}{ce:CE}{S:Sto}{f:α->U}{p:α->Bool}{v:α->U}{Rel:Rho->Prop}(hok:∀ys G,ok (S++(.lst ys::G))) :
  ∀(xs:List α) (ys:List U) (G:Sto) (ρ:Rho),Rel ρ->ys.length+xs.length<=9999->
  (∀x∈xs,∀ys G ρ,Rel ρ->∃ρ0 G1,Rel ρ0/\gg (f x) ρ (S++(.lst ys::G))=some (ρ0,S++(.lst ys::G))/\ct ρ0 (S++(.lst ys::G))=some (p x,S++(.lst ys::(G++G1)))/\
   (p x=true->∃G2,ce ρ0 (S++(.lst ys::(G++G1)))=some (v x,S++(.lst ys::(G++G1++G2)))))->
  ∃G',cK ok gg ct ce S.length (xs.map f) ρ (S++(.lst ys::G))=some (S++(.lst (ys++(xs.filter p).map v)::(G++G')))
 |[],ys,G,ρ,_,_,_=>⟨[],by simp only[Ql,List.filter_nil,QJ];exact qq (hok ys G)⟩
 |x::xs,ys,G,ρ,hr,hl,hb=>by
  rw[QY]at hl;obtain⟨ρ0,G1,r0,h1,h2,h3⟩:=hb x QU ys G ρ hr;have hb':=fun x (hx:x∈xs)=>hb x (QD _ hx);cases hp:p x with
  |false=>
   rw[hp]at h2;obtain⟨G',h⟩:=dc hok xs ys (G++G1) ρ0 r0 (by omega) hb';refine⟨G1++G',?_⟩;rw[QX,List.filter_cons_of_neg (by simp[hp])];refine(ub (hok ys G) h1 h2).trans ?_;rw[h,Q3]
  |true=>
   rw[hp]at h2;obtain⟨G2,h4⟩:=h3 hp;obtain⟨G',h⟩:=dc hok xs (ys++[v x]) (G++G1++G2) ρ0 r0 (by simp;omega) hb';refine⟨G1++(G2++G'),?_⟩;rw[QX,List.filter_cons_of_pos hp];refine(qp (hok ys G) h1 h2 h4 (by rw[ga0];rfl) (by unfold LIM;omega)).trans ?_;rw[gs0];simp only[List.set_cons_zero];rw[h];simp only[QX,Q3,Qz,Qk]
theorem l5{α:Type}{ok:Sto->Prop}{gg:CG}{ce:CE}{S:Sto}{f:α->U}{v:α->U}{Rel:Rho->Prop}(hok:∀ys G,ok (S++(.lst ys::G))) :
  ∀(xs:List α) (ys:List U) (G:Sto) (ρ:Rho),Rel ρ->ys.length+xs.length<=9999->
  (∀x∈xs,∀ys G ρ,Rel ρ->∃ρ0 G1,Rel ρ0/\gg (f x) ρ (S++(.lst ys::G))=some (ρ0,S++(.lst ys::G))/\ce ρ0 (S++(.lst ys::G))=some (v x,S++(.lst ys::(G++G1))))->
  ∃G',jx ok gg ce S.length (xs.map f) ρ (S++(.lst ys::G))=some (S++(.lst (ys++xs.map v)::(G++G')))
 |[],ys,G,ρ,_,_,_=>⟨[],by simp only[Ql,QJ];exact wM (hok ys G)⟩
 |x::xs,ys,G,ρ,hr,hl,hb=>by
  rw[QY]at hl;obtain⟨ρ0,G1,r0,h1,h2⟩:=hb x QU ys G ρ hr;obtain⟨G',h⟩:=l5 hok xs (ys++[v x]) (G++G1) ρ0 r0 (by simp;omega) (fun x hx=>hb x (QD _ hx));refine⟨G1++G',?_⟩;rw[QX];refine(t9 (hok ys G) h1 h2 (by rw[ga0];rfl) (by unfold LIM;omega)).trans ?_;rw[gs0];simp only[List.set_cons_zero];rw[h];simp only[QX,Q3,Qz,Qk]
section
variable{n w:Int}{S:Sto}{l:Nat}{evs:List Ev}{a:Int}
theorem wc(hl:S[l]?=some (.lst (evs.map Ev.u)))(lo:pF n w [] evs)(he:evs.length<=900) :
  ∃pt:List Int,px [.ref l,.int a] S=some (.ref S.length,S++[.lst ((ej (aQ [] evs) a).map pU),.lst (pt.map U.int)]):=by
 unfold px;rw[t4];obtain⟨r4,pt,h⟩:=qh (a:=a) hl evs [] [] [] none lo rfl (by simp[gW,aS]) (by simp;omega) (by simp;omega);simp only[Ql]at h;exact⟨pt,by rwa[fb,me,iTp,ah hl,h,Q6,Nat.zero_add]⟩
def uq:Fn:=fnU 4 2 fV
theorem sA{us:List U}(hl:S[l]?=some (.lst us)):∀(es:List Ev) (st:St) (ps:List (Int×Int)) (r3:Option U),pF n w st es->ps=gW st a->ps.length+es.length<=1000->
  ∃r3':Option U,d9 (fun S=>S[l]?=some (.lst us)) (gNm 3) bx (es.map Ev.u) [some (.ref l),some (.int a),some (.ref S.length),r3] (S++[.dic (fh ps)])
   = some (.nx,[some (.ref l),some (.int a),some (.ref S.length),r3'],S++[.dic (fh (gW (aQ st es) a))])
 |[],st,ps,r3,_,e1,_=>⟨r3,by subst e1;exact fD (ah hl)⟩
 |e::es,st,ps,r3,lf,e1,h1=>by
  rw[QY]at h1;obtain⟨ok,lf'⟩:=lf;have step:∀ps':List (Int×Int),ps'=gW (stp st e) a->ps'.length<=ps.length+1->
    bx [some (.ref l),some (.int a),some (.ref S.length),some e.u] (S++[.dic (fh ps)])=some (.nx,[some (.ref l),some (.int a),some (.ref S.length),some e.u],S++[.dic (fh ps')])->
    ∃r3':Option U,d9 (fun S=>S[l]?=some (.lst us)) (gNm 3) bx ((e::es).map Ev.u) [some (.ref l),some (.int a),some (.ref S.length),r3] (S++[.dic (fh ps)])
     = some (.nx,[some (.ref l),some (.int a),some (.ref S.length),r3'],S++[.dic (fh (gW (aQ st (e::es)) a))]):=fun ps' f1 f2 hb=>by
   obtain⟨r3',ih⟩:=sA hl es (stp st e) ps' (some e.u) lf' f1 (by omega);exact⟨r3',(iw (ah hl) rfl hb).trans ih⟩
  have hP:(fh ps).length<LIM:=by unfold LIM fh;rw[Q5];omega
  by_cases ea:a=e.at
  ·cases e with
   |beg b=>
    have eb:a=b:=ea;subst eb;obtain⟨_,k2,_⟩:=we ok;refine step ps (by rw[k2];exact e1) (by omega) ?_;rwa[bx,Ev.u,nN,ef]
   |look b1 b2 b3=>
    have eb:a=b1:=ea;subst eb;obtain⟨_,t,t1,t2,t3⟩:=id ok;obtain⟨_,k2,_⟩:=fj (e:=.look a b2 b3) t1;simp only[Ev.at]at k2;have pt:gW st a=t.ps:=by unfold gW;rw[t1];rfl
    refine step ps (by rw[k2,e1,pt];simp only[Att.ev];split<;>rfl) (by omega) ?_;rwa[bx,Ev.u,jP,ef]
   |put b1 b2 b3=>
    have eb:a=b1:=ea;subst eb;obtain⟨_,t,t1,t2⟩:=id ok;obtain⟨_,k2,_⟩:=fj (e:=.put a b2 b3) t1;simp only[Ev.at]at k2;have pt:gW st a=t.ps:=by unfold gW;rw[t1];rfl
    refine step (eJ ps b2 b3) (by rw[k2,e1,pt];rfl) (jV ..) ?_;rwa[bx,Ev.u,ef,hP,if_true,qN]
   |fin d b1=>
    have eb:a=b1:=ea;subst eb;obtain⟨t,t1,t2⟩:=id ok;obtain⟨_,k2,_⟩:=fj (e:=.fin d a) t1;simp only[Ev.at]at k2;have pt:gW st a=t.ps:=by unfold gW;rw[t1];rfl
    refine step ps (by rw[k2,e1,pt];rfl) (by omega) ?_;cases d with
    |true=>rwa[bx,Ev.u,hJ,if_true,jR,ef]
    |false=>rwa[bx,Ev.u,hJ,QC,if_false,jQ,ef]
  ·obtain⟨_,k2,_⟩:=nC (st:=st) ea;refine step ps (by rw[k2];exact e1) (by omega) ?_;have ea':e.at≠a:=Ne.symm ea;cases e with
   |fin d b1=>cases d<;>(simp only[Ev.at]at ea';rwa[bx,Ev.u,hJ,ea'])
   |_=>simp only[Ev.at]at ea';rwa[bx,Ev.u,ea']
theorem zg(hl:S[l]?=some (.lst (evs.map Ev.u)))(lo:pF n w [] evs)(he:evs.length<=900) :
  uq [.ref l,.int a] S=some (.ref S.length,S++[.dic (fh (gW (aQ [] evs) a))]):=by
 unfold uq;rw[uZ];obtain⟨r3,h⟩:=sA (a:=a) hl evs [] [] none lo rfl (by simp;omega);simp only[fh,Ql]at h;rwa[fV,me,iTp,ah hl,h,fh]
def iD(a:Int):Ev->Option Bool
 |.fin d b=>if b=a then some d else none
 |_=>none
theorem Ew:∀(es:List Ev) (st:St),pF n w st es->f7 (aQ st es) a=(f7 st a).or (es.filterMap (iD a)).head?
 |[],st,_=>by simp[aQ]
 |e::es,st,lf=>by
  obtain⟨ok,lf'⟩:=lf;have ih:=Ew es (stp st e) lf';show f7 (aQ (stp st e) es) a=_;rw[ih];by_cases ea:a=e.at
  ·cases e with
   |beg b=>
    have eb:a=b:=ea;subst eb;obtain⟨_,_,k3⟩:=we ok;rw[k3];rfl
   |look b1 b2 b3=>
    have eb:a=b1:=ea;subst eb;obtain⟨_,t,t1,t2,t3⟩:=id ok;obtain⟨_,_,k3⟩:=fj (e:=.look a b2 b3) t1;simp only[Ev.at]at k3;have pt:f7 st a=t.en:=by unfold f7;rw[t1];rfl
    rw[k3,pt,ZD];simp only[Att.ev,iD];split<;>rfl
   |put b1 b2 b3=>
    have eb:a=b1:=ea;subst eb;obtain⟨_,t,t1,t2⟩:=id ok;obtain⟨_,_,k3⟩:=fj (e:=.put a b2 b3) t1;simp only[Ev.at]at k3;have pt:f7 st a=t.en:=by unfold f7;rw[t1];rfl
    rw[k3,pt];rfl
   |fin d b1=>
    have eb:a=b1:=ea;subst eb;obtain⟨t,t1,t2⟩:=id ok;obtain⟨_,_,k3⟩:=fj (e:=.fin d a) t1;simp only[Ev.at]at k3;have pt:f7 st a=t.en:=by unfold f7;rw[t1];rfl
    rw[k3,pt,t2,ZD];simp[iD,Att.ev]
  ·obtain⟨_,_,k3⟩:=nC (st:=st) ea;rw[k3];have:iD a e=none:=by cases e<;>simp_all [iD,Ev.at,Ne.symm]
   rw[ZD,this]
def uu:Fn:=fnU 3 2 g7
theorem wF:inU (.str "begin") [.str "done",.str "fall"]=false:=by decide +kernel
def Dh:Ev->U
 |.fin d _=>.str (hJ d)
 |_=>.non
theorem wI(a:Int):∀es:List Ev,(es.filter fun e=>(iD a e).isSome).map Dh=(es.filterMap (iD a)).map fun d=>U.str (hJ d)
 |[]=>rfl
 |e::es=>by
  have ih:=wI a es;rw[List.filter_cons,ZD];cases hf:iD a e with
  |none=>simpa [hf] using ih
  |some d=>
   have he:Dh e=.str (hJ d):=by
    cases e with
    |fin d' b=>
     simp only[iD]at hf;split at hf<;>cases hf;rfl
    |_=>simp[iD]at hf
   simpa [hf,he] using ih
theorem wH(hl:S[l]?=some (.lst (evs.map Ev.u)))(lo:pF n w [] evs)(he:evs.length<=900) :
  ∃G:Sto,uu [.ref l,.int a] S=some (.str (enS (f7 (aQ [] evs) a)),S++G):=by
 unfold uu;rw[xN];have hr:=Ew (a:=a) evs [] lo;obtain⟨G',h⟩:=dc (S:=S) (ok:=fun S=>S[l]?=some (.lst (evs.map Ev.u))) (gg:=gNm 0)
  (ct:=pD (aF (cOp fEq (cOp fIx (ag 0) (cC (.int 1))) (ag 1))) (aF (cOp (fIn false) (cOp fIx (ag 0) (cC (.int 0))) (gp (af (cC (.str "done")) (af (cC (.str "fall")) aG))))))
  (ce:=cOp fIx (ag 0) (cC (.int 0))) (f:=Ev.u) (p:=fun e=>(iD a e).isSome) (v:=Dh) (Rel:=fun ρ=>∃r0,ρ=[r0,some (.int a)]) (fun ys G=>ah hl) evs [] [] [none,some (.int a)] ⟨_,rfl⟩ (by simp;omega) (fun e he ys G ρ hρ=>by
   obtain⟨r0,rfl⟩:=hρ;refine⟨[some e.u,some (.int a)],[],⟨_,rfl⟩,rfl,?_,fun hp=>⟨[],?_⟩⟩
   ·cases e with
    |fin d b=>
     by_cases z:b=a
     ·cases d with
      |true=>rwa[Ev.u,hJ,if_true,z,gh,uP,iD,Option.isSome_some,QJ]
      |false=>rwa[Ev.u,hJ,QC,if_false,if_true,z,gh,uO,iD,Option.isSome_some,QJ]
     ·cases d<;>rwa[Ev.u,hJ,z,iD,if_false,ZM,QJ]
    |beg b=>by_cases z:b=a<;>rwa[Ev.u,z,gh,wF,iD,ZM,QJ]
    |look b _ _=>by_cases z:b=a<;>rwa[Ev.u,z,gh,uN,iD,ZM,QJ]
    |put b _ _=>by_cases z:b=a<;>rwa[Ev.u,z,gh,Ac,iD,ZM,QJ]
   ·cases e with
    |fin d b=>rwa[Ev.u,Dh,QJ]
    |_=>simp[iD]at hp)
 rw[wI]at h;simp only[Qk]at h;obtain⟨ds,hds⟩:∃ds,ds=evs.filterMap (iD a):=⟨_,rfl⟩;have hdl:ds.length<=900:=by rw[hds];exact Qj (List.length_filterMap_le ..) he
 rw[<-hds]at h hr;have hen:atI (ds.map (fun d=>U.str (hJ d))++[U.str "open"]) 0=some (.str (enS (f7 (aQ [] evs) a))):=by
  rw[hr];have e0:f7 [] a=none:=rfl;rw[e0];cases ds with
  |nil=>rfl
  |cons d r=>exact at0
 have lcat:j8 (.ref S.length) (.ref (S.length+(G'.length+1))) (S++(.lst (ds.map fun d=>U.str (hJ d))::(G'++[.lst [.str "open"]])))=some (.ref (S.length+(G'.length+1+1)),S++(.lst (ds.map fun d=>U.str (hJ d))::(G'++[.lst [.str "open"],.lst (ds.map (fun d=>U.str (hJ d))++[.str "open"])]))):=by
  have g1:(S++(O.lst (ds.map fun d=>U.str (hJ d))::(G'++[.lst [.str "open"]])))[S.length+(G'.length+1)]?=some (.lst [.str "open"]):=by rw[ga,Qq,Qx (by omega)];simp
  simp only[j8,mD,ga0,ZY,g1];rw[if_pos (by unfold LIM;simp;omega)];simp[Nat.add_assoc]
 refine⟨.lst (ds.map fun d=>U.str (hJ d))::(G'++[.lst [.str "open"],.lst (ds.map (fun d=>U.str (hJ d))++[.str "open"])]),?_⟩;have g2:(S++(O.lst (ds.map fun d=>U.str (hJ d))::(G'++[.lst [.str "open"],.lst (ds.map (fun d=>U.str (hJ d))++[.str "open"])])))[S.length+(G'.length+1+1)]?=some (.lst (ds.map (fun d=>U.str (hJ d))++[.str "open"])):=by
  rw[ga,Qq,Qx (by omega)];simp
 rwa[g7,bz,iTp,hl,ma,Qh,Qo,h,Q6,lcat,g2,hen]
end
def Dy:Ev->U
 |.beg a=>.int a
 |_=>.non
def gZ:Ev->Bool
 |.beg _=>true
 |_=>false
theorem wX:∀(es:List Ev) (st:St),(aE (aQ st es)).map U.int=(aE st).map U.int++(es.filter gZ).map Dy
 |[],st=>by simp[aQ]
 |e::es,st=>by
  have ih:=wX es (stp st e);show(aE (aQ (stp st e) es)).map U.int=_;rw[ih,jW,List.filter_cons];cases e<;>simp[gZ,Dy]
def LkI(n:Int)(st:St):Prop:=∀a t,aS st a=some t->(∀p∈t.lk,0<=p.1/\p.1<n)/\∀p,p∈t.nd↔p∈t.lk
theorem CJ{nd:List (Int×Int)}{p q:Int×Int}:p∈Bj nd q↔p∈nd\/p=q:=by
 unfold Bj;split
 ·exact⟨.inl,fun h=>h.elim id fun e=>e▸‹_›⟩
 ·simp
theorem Gx{n w:Int}{st:St}{e:Ev}(ok:vv n w st e)(h:LkI n st):LkI n (stp st e):=by
 intro a t ht;by_cases ea:a=e.at
 ·cases e with
  |beg b=>
   have eb:a=b:=ea;subst eb;rw[eA ok.2.2]at ht;cases ht;simp[qz]
  |look b1 b2 b3=>
   have eb:a=b1:=ea;subst eb;obtain⟨bd,t0,t1,t2,t3⟩:=id ok;have:=bN (e:=.look a b2 b3) t1;simp only[Ev.at]at this;rw[this]at ht;cases ht;obtain⟨h1,h2⟩:=h a t0 t1;simp only[Att.ev];split
   ·exact⟨h1,h2⟩
   ·refine⟨fun p hp=>?_,fun p=>by rw[CJ,h2];simp⟩;rcases Qw.mp hp with z|z
    ·exact h1 p z
    ·simp at z;subst z;exact⟨bd.1,bd.2.1⟩
  |put b1 b2 b3=>
   have eb:a=b1:=ea;subst eb;obtain⟨_,t0,t1,t2⟩:=id ok;have:=bN (e:=.put a b2 b3) t1;simp only[Ev.at]at this;rw[this]at ht;cases ht;exact h a t0 t1
  |fin d b1=>
   have eb:a=b1:=ea;subst eb;obtain⟨t0,t1,t2⟩:=id ok;have:=bN (e:=.fin d a) t1;simp only[Ev.at]at this;rw[this]at ht;cases ht;exact h a t0 t1
 ·rw[bV ea]at ht;exact h a t ht
theorem oz{n w:Int}:∀(es:List Ev) (st:St),pF n w st es->LkI n st->LkI n (aQ st es)
 |[],st,_,h=>h
 |e::es,st,lf,h=>oz es (stp st e) lf.2 (Gx lf.1 h)
theorem Lm{n:Int}:LkI n []:=fun a t h=>by simp[aS]at h
theorem uW{n w:Int}:∀(es:List Ev) (st:St) (m:Nat),pF n w st es->(aE st).Nodup->Few st m->Few (aQ st es) (m+es.length)
 |[],st,m,_,_,h=>h
 |e::es,st,m,lf,hk,h=>by
  have:=uW es (stp st e) (m+1) lf.2 (dY hk lf.1) (Ao hk lf.1 h);rw[QY,show m+(es.length+1)=m+1+es.length from by omega];exact this
def chg(st:St)(a:Int)(x:List Int):List Int:=if f7 st a=some true then beh x (gW st a) 0 else x
def j7(x:List Int)(p:Int×Int):Bool:=decide (x.getD p.1.toNat 0=p.2)
def Dc(st:St)(a:Int)(x:List Int):Bool:=(ej st a).all (j7 x)
theorem fF{o:Option Bool}:decide (enS o=("done":Str))=decide (o=some true):=by
 rcases o with _|_|_<;>decide +kernel
theorem inB(bs:List Bool):inU (.bl false) (bs.map U.bl)=!bs.all id:=by
 unfold inU;induction bs with
 |nil=>rfl
 |cons b r ih=>rw[QX,ZR,ih];cases b<;>simp[eqF]
theorem EG(x:List Int):rn (x.map U.int)=x.zipIdx.map fun p=>.tup [.int p.2,.int p.1]:=by
 unfold rn;rw[List.zipIdx_map,Qg];rfl
section
variable{n w:Int}{S:Sto}{l:Nat}{evs:List Ev}{a:Int}{N:Nat}
def kG:Fn:=fnU 1 1 fc
theorem wW(hl:S[l]?=some (.lst (evs.map Ev.u)))(lo:jD n w N evs)(he:evs.length<=900)(hN:N<=60) :
  ∃(G:Sto) (k:Nat),kG [.ref l] S=some (.ref (S.length+k),S++G)/\G[k]?=some (.lst ((bq (aE (aQ [] evs))).map U.int)):=by
 unfold kG;rw[t6];obtain⟨G',h⟩:=dc (S:=S) (ok:=fun S=>S[l]?=some (.lst (evs.map Ev.u))) (gg:=gNm 0)
  (ct:=aF (cOp fEq (cOp fIx (ag 0) (cC (.int 0))) (cC (.str "begin"))))
  (ce:=cOp fIx (ag 0) (cC (.int 1))) (f:=Ev.u) (p:=gZ) (v:=Dy) (Rel:=fun ρ=>∃r0,ρ=[r0]) (fun ys G=>ah hl) evs [] [] [none] ⟨_,rfl⟩ (by simp;omega) (fun e he ys G ρ hρ=>by
   obtain⟨r0,rfl⟩:=hρ;refine⟨[some e.u],[],⟨_,rfl⟩,rfl,?_,fun hp=>⟨[],?_⟩⟩
   ·cases e with
    |fin d b=>cases d with
     |true=>rwa[Ev.u,hJ,if_true,iY,gZ,QJ]
     |false=>rwa[Ev.u,hJ,QC,if_false,iX,gZ,QJ]
    |beg b=>rwa[Ev.u,ef,gZ,QJ]
    |look b _ _=>rwa[Ev.u,iW,gZ,QJ]
    |put b _ _=>rwa[Ev.u,kf,gZ,QJ]
   ·cases e with
    |beg b=>rwa[Ev.u,Dy,QJ]
    |_=>simp[gZ]at hp)
 have hk:=wX evs [];simp only[aE,Ql,Qk]at hk h;rw[<-hk]at h;have hc:=lo.cnt;have eK:((aQ [] evs).map (·.1)).length<64:=by rw[Q5];omega
 refine⟨.lst (((aQ [] evs).map (·.1)).map U.int)::(G'++[.lst ((bq (aE (aQ [] evs))).map U.int)]),G'.length+1,?_,?_⟩
 ·have hs:eD [.ref S.length] (S++(.lst (((aQ [] evs).map (·.1)).map U.int)::G'))=some (.ref (S.length+(G'.length+1)),S++(.lst (((aQ [] evs).map (·.1)).map U.int)::(G'++[.lst ((bq (aE (aQ [] evs))).map U.int)]))):=by
   simp only[eD,ga0,ZY,fS,Q4,eK,if_true];simp[aE]
  rwa[fc,bz,iTp,hl,ma,Qh,h,hs]
 ·rw[Qq,Qx (by omega)];simp
def rK:Fn:=fnU 2 2 (fe kG uu)
def l8:Fn:=fnU 4 3 (cQ uu uq)
theorem Ai{Z:Sto}{r:Nat}{ps:List (Int×Int)}(hr:Z[r]?=some (.dic (fh ps)))(x:List Int)(hx:x.length<=100):∃G',jx (fun _=>True) (gTp [0,1]) (mH (ag 2) (ag 0) (ag 1)) Z.length (rn (x.map U.int)) [none,none,some (.ref r)] (Z++[.lst []])=some (Z++(.lst ((beh x ps 0).map U.int)::G')):=by
 obtain⟨zs,h,e⟩:=mx hr x 0 [] none none (by simp;omega);subst e;exact⟨[],h⟩
theorem xP(hl:S[l]?=some (.lst (evs.map Ev.u)))(lo:jD n w N evs)(he:evs.length<=900){x:List Int}(hx:x.length<=100) :
  ∃G:Sto,l8 [.ref l,.int a,.tup (x.map U.int)] S=some (.tup ((chg (aQ [] evs) a x).map U.int),S++G):=by
 unfold l8;rw[pQ];have es:∀Z:Sto,BU (.tup (x.map U.int)) Z=some (x.map U.int,fun _=>True):=fun _=>rfl;have gl:∀Y:Sto,(S++Y)[l]?=some (.lst (evs.map Ev.u)):=fun Y=>ah hl;obtain⟨G1,h1⟩:=wH (a:=a) (gl [.dic []]) lo.lo he;rw[Q3]at h1;have gl':(S++([O.dic []]++G1))[l]?=some (.lst (evs.map Ev.u)):=ah hl;by_cases hd:f7 (aQ [] evs) a=some true
 ·have h2:=zg (a:=a) gl' lo.lo he;obtain⟨G3,h3⟩:=Ai (Z:=S++(([O.dic []]++G1)++[.dic (fh (gW (aQ [] evs) a))])) (r:=S.length+(1+G1.length)) (ps:=gW (aQ [] evs) a) (by rw[ga,Q3,List.singleton_append,Nat.add_comm 1,Qq,Qx (QZ _),Nat.sub_self];rfl) x hx;have hch:chg (aQ [] evs) a x=beh x (gW (aQ [] evs) a) 0:=by unfold chg;rw[if_pos hd]
  rw[hch];refine⟨([O.dic []]++G1)++([.dic (fh (gW (aQ [] evs) a))]++(.lst ((beh x (gW (aQ [] evs) a) 0).map U.int)::G3)),?_⟩;simp only[Q3,Qz,Qk]at h1 h2 h3;have ln:(S++O.dic []::G1).length=S.length+(1+G1.length):=by simp;omega
  rw[ln]at h2;have gz:∀Z:Sto,(S++O.dic []::(G1++O.dic (fh (gW (aQ [] evs) a))::Z))[(S++O.dic []::(G1++[O.dic (fh (gW (aQ [] evs) a))])).length]?=Z[0]?:=fun Z=>by
   have:=ga0 (S:=S++O.dic []::(G1++[O.dic (fh (gW (aQ [] evs) a))])) (X:=Z);simp only[Q3,Qz,Qk]at this;exact this
  rwa[cQ,h1,fF,hd,h2,fg,jX,es,ma,Qh,Qo,h3,gz]
 ·obtain⟨G3,h3⟩:=Ai (Z:=S++([O.dic []]++G1)) (r:=S.length) (ps:=[]) (by rw[ga0];rfl) x hx;have hch:chg (aQ [] evs) a x=x:=by unfold chg;rw[if_neg hd]
  rw[hch];rw[A2]at h3;simp only[Q3,Qz,Qk]at h1 h3;refine⟨.dic []::(G1++(.lst (x.map U.int)::G3)),?_⟩;have gz:∀Z:Sto,(S++O.dic []::(G1++Z))[(S++O.dic []::G1).length]?=Z[0]?:=fun Z=>by
   have:=ga0 (S:=S++O.dic []::G1) (X:=Z);simp only[Q3,Qz,Qk]at this;exact this
  rwa[cQ,h1,fF,hd,fg,jX,es,ma,Qh,Qo,h3,gz]
def rG:Fn:=fnU 3 3 (fW px)
theorem CN(hl:S[l]?=some (.lst (evs.map Ev.u)))(lo:jD n w N evs)(he:evs.length<=900){x:List Int}(hx:x.length=n.toNat) :
  ∃G:Sto,rG [.ref l,.int a,.tup (x.map U.int)] S=some (.bl (Dc (aQ [] evs) a x),S++G):=by
 unfold rG;rw[u0];obtain⟨pt,h1⟩:=wc (a:=a) hl lo.lo he;have hb:∀p∈ej (aQ [] evs) a,0<=p.1/\p.1<n:=fun p hp=>by
  unfold ej at hp;cases hv:aS (aQ [] evs) a with
  |none=>rw[hv]at hp;simp at hp
  |some t=>rw[hv]at hp;exact(oz evs [] lo.lo Lm a t hv).1 p hp
 have eK:(ej (aQ [] evs) a).length<=9999:=by
  have fw:=uW evs [] 0 lo.lo (by simp[aE]) ⟨by simp,by simp⟩;unfold ej;cases hv:aS (aQ [] evs) a with
  |none=>simp
  |some t=>
   have:=(fw.2 _ (f9 hv)).1;show t.lk.length<=9999;dsimp only at this;omega
 obtain⟨G',h⟩:=l5 (S:=S++[.lst ((ej (aQ [] evs) a).map pU),.lst (pt.map U.int)]) (ok:=fun Z=>Z[S.length]?=some (.lst ((ej (aQ [] evs) a).map pU))) (gg:=gTp [0,1])
  (ce:=cOp fEq (cOp fIx (ag 2) (ag 0)) (ag 1)) (f:=pU) (v:=fun p=>U.bl (j7 x p)) (Rel:=fun ρ=>∃r0 r1,ρ=[r0,r1,some (.tup (x.map U.int))]) (fun ys G=>ah (by rw[ga0];rfl)) (ej (aQ [] evs) a) [] [] [none,none,some (.tup (x.map U.int))] ⟨_,_,rfl⟩ (by simpa using eK) (fun p hp ys G ρ hρ=>by
   obtain⟨r0,r1,rfl⟩:=hρ;obtain⟨b0,b1⟩:=hb p hp;refine⟨[some (.int p.1),some (.int p.2),some (.tup (x.map U.int))],[],⟨_,_,rfl⟩,rfl,?_⟩;rwa[atF hx b0 b1,j7,QJ])
 refine⟨[.lst ((ej (aQ [] evs) a).map pU),.lst (pt.map U.int)]++(.lst ((ej (aQ [] evs) a).map fun p=>U.bl (j7 x p))::G'),?_⟩;have g1:(S++[O.lst ((ej (aQ [] evs) a).map pU),.lst (pt.map U.int)])[S.length]?=some (.lst ((ej (aQ [] evs) a).map pU)):=by rw[ga0];rfl
 have hin:inU (.bl false) ((ej (aQ [] evs) a).map fun p=>U.bl (j7 x p))=!Dc (aQ [] evs) a x:=by
  have:=inB ((ej (aQ [] evs) a).map (j7 x));rw[Qg]at this;have e:(U.bl ∘ j7 x)=fun p=>U.bl (j7 x p):=rfl;rw[e]at this;rw[this,List.all_map];rfl
 have hfl:iC (.bl false)=true/\((ej (aQ [] evs) a).map fun p=>U.bl (j7 x p)).all iC=true:=⟨rfl,by simp[iC]⟩;have hi:=Ih (neg:=true) (S:=S++([.lst ((ej (aQ [] evs) a).map pU),.lst (pt.map U.int)]++(.lst ((ej (aQ [] evs) a).map fun p=>U.bl (j7 x p))::G'))) hfl;rw[hin]at hi;simp only[Q3,Qk,Q6]at h;have gz:(S++O.lst (List.map pU (ej (aQ [] evs) a))::O.lst (List.map U.int pt)::O.lst (List.map (fun p=>U.bl (j7 x p)) (ej (aQ [] evs) a))::G')[S.length+(0+1+1)]?=some (O.lst (List.map (fun p=>U.bl (j7 x p)) (ej (aQ [] evs) a))):=by rw[ga];rfl
 simp only[QY,List.length_nil,Qz,Qk]at h hi g1;rwa[fW,fg,iTp,h1,g1,ma,Qh,Q6,Qo,h,gz,hi,if_true,Bool.not_not]
end
section
variable{c:Cl}{n:Int}{S G:Sto}{st:St}{a:Int}{t:Att}{x:List Int}
theorem cF{i:Nat}{u:U}(h:[some (U.ref (S.length+1)),some (.ref (S.length+2)),some (.ref (S.length+3)),some (.ref (S.length+4)),some (.ref (S.length+5))][i]?=some (some u)):kA c i (.ref S.length,crs c S st++G)=some (u,crs c S st++G):=dF (ah hd0) h
theorem cB{j:Nat}(hj:j<4)(h:aS st a=some t)(hk:(aE st).Nodup):∃r,aS (gm S.length j st 0) (.inl a)=some (.ref r)/\∀G,(crs c S st++G)[r]?=(blk t)[j]?:=by
 obtain⟨s1,s2,rfl⟩:=gR h;refine⟨_,jT hk,fun G=>?_⟩;have:=oZ (c:=c) (S:=S) (s1:=s1) (s2:=s2) (a:=a) (t:=t) hj;have hs:∃o,(blk t)[j]?=some o:=by
  have:j<(blk t).length:=by simpa [blk] using hj
  exact⟨_,Q8 this⟩
 obtain⟨o,ho⟩:=hs;rw[ho]at this ⊢;exact ah this
def Bc(c:Cl):Fn:=fnU 4 3 (qx c)
def zR(x:List Int):List (Int×Int)->Option U->Option U
 |[],r=>r
 |p::nd,_=>if j7 x p then zR x nd (some (.tup [.int p.1,.int p.2]))else some (.tup [.int p.1,.int p.2])
theorem tH{Z:Sto}{ok:Sto->Prop}(hz:ok Z){r0 r1:Option U}(hx:x.length=n.toNat):∀(nd:List (Int×Int)) (r3:Option U),(∀p∈nd,0<=p.1/\p.1<n)->
  d9 ok (gNm 3) (l6 c) ((tM nd).map fun q=>.tup (q.1.map kU)) [r0,r1,some (.tup (x.map U.int)),r3] Z=some (if nd.all (j7 x)then .nx else .rt (.bl false),[r0,r1,some (.tup (x.map U.int)),zR x nd r3],Z)
 |[],r3,_=>fD hz
 |p::nd,r3,hb=>by
  obtain⟨b0,b1⟩:=hb p QU;have kk:([Sum.inl p.1,Sum.inl p.2]:List Key).map kU=[.int p.1,.int p.2]:=rfl;have hf:atI (x.map U.int) p.1=some (.int (x.getD p.1.toNat 0)):=atF hx b0 b1;cases e:j7 x p with
  |true=>
   have ih:=tH (r0:=r0) (r1:=r1) hz hx nd (some (.tup [.int p.1,.int p.2])) (fun q hq=>hb q (QD _ hq));rw[List.all_cons,e,Bool.true_and,zR,if_pos e];refine(iw hz rfl ?_).trans ih;have de:decide (x.getD p.1.toNat 0=p.2)=true:=e;rwa[l6,kk,hf,de]
  |false=>
   rw[List.all_cons,e,Bool.false_and,if_neg QK,zR,if_neg (by rw[e];exact QK)];refine zM hz rfl ?_;have de:decide (x.getD p.1.toNat 0=p.2)=false:=e;rwa[l6,kk,hf,de]
theorem BS{Z:Sto}{r:Nat}{o o':O}(h:Z[r]?=some o):(Z.set r o').set r o=Z:=by
 rw[List.set_set];refine List.ext_getElem? fun i=>?_;rw[ZC];split
 ·subst i;obtain⟨h1,h2⟩:=Q9.mp h;simp[h1,h2]
 ·rfl
theorem GN(hk:(aE st).Nodup)(hv:aS st a=some t)(hb:∀p∈t.nd,0<=p.1/\p.1<n)(hx:x.length=n.toNat) :
  Bc c [.ref S.length,.int a,.tup (x.map U.int)] (crs c S st++G)=some (.bl (t.nd.all (j7 x)),crs c S st++G):=by
 unfold Bc;rw[KU];obtain⟨r,v2,g2⟩:=cB (c:=c) (S:=S) (j:=2) (by omega) hv hk;have f3:(crs c S st++G)[S.length+3]?=some (.dic (gm S.length 2 st 0)):=ah hd3;have F2:kA c 2 (.ref S.length,crs c S st++G)=some (.ref (S.length+3),crs c S st++G):=cF rfl;have gr:(crs c S st++G)[r]?=some (.dit (tM t.nd)):=g2 G;have hr:r<(crs c S st++G).length:=(Q9.mp gr).1;have hfor:AV (cOp fIx (gP c 2 (ag 0)) (ag 1)) (gNm 3) (l6 c) [some (.ref S.length),some (.int a),some (.tup (x.map U.int)),none] (crs c S st++G)=some (if t.nd.all (j7 x)then .nx else .rt (.bl false),[some (.ref S.length),some (.int a),some (.tup (x.map U.int)),zR x t.nd none],crs c S st++G):=by
  have h0:cOp fIx (gP c 2 (ag 0)) (ag 1) [some (.ref S.length),some (.int a),some (.tup (x.map U.int)),none] (crs c S st++G)=some (.ref r,crs c S st++G):=by
   rwa[F2,f3,v2]
  unfold AV;rw[h0,Q4];simp only[gr];refine DS fun ep=>?_;have key:=tH (c:=c) (n:=n) (x:=x) (r0:=some (.ref S.length)) (r1:=some (.int a)) (Z:=(crs c S st++G).set r (.fdt ep (tM t.nd))) (ok:=fun S'=>S'[r]?=some (.fdt ep (tM t.nd))) (by rw[ZC,if_pos rfl,if_pos hr]) hx t.nd none hb;rw[key,Q4];have e1:((crs c S st++G).set r (.fdt ep (tM t.nd)))[r]?=some (.fdt ep (tM t.nd)):=by rw[ZC,if_pos rfl,if_pos hr]
  simp only[e1,BS gr]
 cases hc:t.nd.all (j7 x)with
 |true=>
  rw[hc,if_pos rfl]at hfor;rwa[qx,hfor]
 |false=>
  rw[hc,if_neg QK]at hfor;rwa[qx,hfor]
def ND(c:Cl):Fn:=fnU 3 3 (dH c)
theorem MB(hk:(aE st).Nodup)(hv:aS st a=some t)(hx:x.length<=100) :
  ∃G',ND c [.ref S.length,.int a,.tup (x.map U.int)] (crs c S st++G)=some (.tup ((chg st a x).map U.int),crs c S st++(G++G')):=by
 unfold ND;rw[tN];have f1:∀G,(crs c S st++G)[S.length+1]?=some (.dic (f6 st)):=fun G=>ah hd1;have F0:∀G,kA c 0 (.ref S.length,crs c S st++G)=some (.ref (S.length+1),crs c S st++G):=fun G=>cF rfl;have v0:aS (f6 st) (.inl a)=some (.str (enS t.en)):=by
  obtain⟨s1,s2,rfl⟩:=gR hv;exact qG hk
 have he:f7 st a=t.en:=by unfold f7;rw[hv];rfl
 have hp:gW st a=t.ps:=by unfold gW;rw[hv];rfl
 by_cases hd:t.en=some true
 ·have hch:chg st a x=beh x t.ps 0:=by unfold chg;rw[he,if_pos hd,hp]
  obtain⟨r,v3,g3⟩:=cB (c:=c) (S:=S) (j:=3) (by omega) hv hk;have f4:∀G,(crs c S st++G)[S.length+4]?=some (.dic (gm S.length 3 st 0)):=fun G=>ah hd4;have F3:∀G,kA c 3 (.ref S.length,crs c S st++G)=some (.ref (S.length+4),crs c S st++G):=fun G=>cF rfl;have g3':∀G,(crs c S st++G)[r]?=some (.dic (fh t.ps)):=g3;obtain⟨G',h⟩:=l5 (S:=crs c S st++G) (ok:=fun _=>True) (gg:=gTp [0,1]) (ce:=mH (cOp fIx (gP c 3 (ag 3)) (ag 2)) (ag 0) (ag 1)) (f:=fun p:Int×Nat=>.tup [.int p.2,.int p.1]) (v:=fun p=>.int ((aS t.ps (p.2:Int)).getD p.1)) (Rel:=fun ρ=>∃r0 r1,ρ=[r0,r1,some (.int a),some (.ref S.length)]) (fun _ _=>trivial) x.zipIdx [] [] [none,none,some (.int a),some (.ref S.length)] ⟨_,_,rfl⟩ (by simp;omega) (fun p hp ys G2 ρ hρ=>by
   obtain⟨r0,r1,rfl⟩:=hρ;refine⟨[some (.int p.2),some (.int p.1),some (.int a),some (.ref S.length)],[],⟨_,_,rfl⟩,rfl,?_⟩;have hv2:((aS t.ps (p.2:Int)).map U.int).getD (.int p.1)=.int ((aS t.ps (p.2:Int)).getD p.1):=by cases aS t.ps (p.2:Int)<;>rfl
   rwa[F3,f4,v3,g3',ib,hv2,QJ])
  have eb:(x.zipIdx.map fun p=>U.int ((aS t.ps (p.2:Int)).getD p.1))=(beh x t.ps 0).map U.int:=by unfold beh;rw[Qg];rfl
  rw[eb,<-EG]at h;simp only[Qk,Q3]at h;refine⟨.lst ((beh x t.ps 0).map U.int)::G',?_⟩;have es:∀Z:Sto,BU (.tup (x.map U.int)) Z=some (x.map U.int,fun _=>True):=fun _=>rfl;have gz:∀Z:Sto,(crs c S st++(G++Z))[(crs c S st++G).length]?=Z[0]?:=fun Z=>by
   have:=ga0 (S:=crs c S st++G) (X:=Z);simp only[Q3]at this;exact this
  rw[hch];rwa[dH,F0,f1,v0,fF,hd,fg,jX,es,ma,Qh,Qo,h,gz]
 ·have hch:chg st a x=x:=by unfold chg;rw[he,if_neg hd]
  refine⟨[],?_⟩;rw[hch];rwa[dH,F0,f1,v0,fF,hd,QJ]
def lP(st:St)(x:List Int)(os:List Int):List Int:=os.foldl (fun x a=>chg st a x) x
theorem GW{a:Int}:(chg st a x).length=x.length:=by unfold chg;split<;>simp[vf]
end
def fK(ao:Cl):CS:=
 (et (Lw (ag 1) (cOp fEq (cOp fIx (gP ao 0 (ag 0)) (ag 2)) (cC (.str "done")))))
theorem xJ{ao:Cl}{a0 a1 a2:U}{S:Sto}:fnU 3 3 (fK ao) [a0,a1,a2] S=((fK ao) [some a0,some a1,some a2] S).bind kFn:=iO rfl
def g4(bo:Fn)(ao:Cl):CS:=
 (et (bz (iTp (cCB eD (af (gP ao 0 (ag 0)) aG))) (gNm 0) (aF (cCB bo (af (ag 1) (af (ag 2) (af (ag 0) aG))))) (ag 0) 1 [0,1]))
theorem xK{bo:Fn}{ao:Cl}{a0 a1:U}{S:Sto}:fnU 2 2 (g4 bo ao) [a0,a1] S=((g4 bo ao) [some a0,some a1] S).bind kFn:=iO rfl
def d7(c6 bo:Fn)(aC ao:Cl):CS:=
 (dA (gP aC 2 (ag 0)) (ag 3) (bz (iTp (cOp fIx (gP ao 4 (ag 1)) (ag 3))) (gNm 0) (aF (cCB bo (af (ag 1) (af (ag 2) (af (ag 0) aG))))) (ag 0) 1 [1,2]))
def d5(c6 bo:Fn)(aC ao:Cl):CS:=
 (bj (pT aC 0 (ag 0) (ag 1))
  (bj (pT aC 1 (ag 0) (cCB c6 (af (ag 1) (af (ag 2) aG))))
  (bj (pT aC 2 (ag 0) iR)
  (me (iTp (gP aC 1 (ag 0))) (gNm 3) (d7 c6 bo aC ao)))))
theorem rB{c6 bo:Fn}{aC ao:Cl}{a0 a1 a2:U}{S:Sto}:fnU 4 3 (d5 c6 bo aC ao) [a0,a1,a2] S=((d5 c6 bo aC ao) [some a0,some a1,some a2,none] S).bind kFn:=iO rfl
def bK(oM:Fn)(aC:Cl):CS:=
 (et (rD (cCB KJ (af (fg (iTp (cOp fIx (gP aC 2 (ag 0)) (ag 1))) (gNm 0) (cOp (fIn false) (ag 0) (ag 1)) 1 [2]) aG)) (cCB oM (af (gP aC 0 (ag 0)) (af (ag 1) (af (ag 3) aG))))))
theorem jZ{oM:Fn}{aC:Cl}{a0 a1 a2 a3:U}{S:Sto}:fnU 4 4 (bK oM aC) [a0,a1,a2,a3] S=((bK oM aC) [some a0,some a1,some a2,some a3] S).bind kFn:=iO rfl
def vh(st:St)(every:Bool)(a:Int):Bool:=every||decide (f7 st a=some true)
def aW(st:St)(every:Bool):List Int:=(bq (aE st)).filter (vh st every)
def jv(st:St)(every:Bool)(t:Att):List Int:=t.bf.filter (vh st every)
section
variable{c:Cl}{S G:Sto}{st:St}{a:Int}{t:Att}{every:Bool}
theorem qT(h:a∈aE st):∃t,aS st a=some t:=by
 cases hv:aS st a with
 |some t=>exact⟨t,rfl⟩
 |none=>exact absurd h (du.mp hv)
theorem Fs(h:aS st a=some t):a∈aE st:=Classical.byContradiction fun z=>by
 have:=du.mpr z;rw[h]at this;cases this
def gK(c:Cl):Fn:=fnU 3 3 (fK c)
theorem wz(hk:(aE st).Nodup)(hv:aS st a=some t):gK c [.ref S.length,.bl every,.int a] (crs c S st++G)=some (.bl (vh st every a),crs c S st++G):=by
 unfold gK;rw[xJ];have f1:(crs c S st++G)[S.length+1]?=some (.dic (f6 st)):=ah hd1;have F0:kA c 0 (.ref S.length,crs c S st++G)=some (.ref (S.length+1),crs c S st++G):=cF rfl;have v0:aS (f6 st) (.inl a)=some (.str (enS t.en)):=by
  obtain⟨s1,s2,rfl⟩:=gR hv;exact qG hk
 have he:f7 st a=t.en:=by unfold f7;rw[hv];rfl
 cases every with
 |true=>
  have e:vh st true a=true:=rfl;rw[e];rwa[fK]
 |false=>
  have e:vh st false a=decide (t.en=some true):=by unfold vh;rw[he,Bool.false_or]
  rw[e];rwa[fK,F0,f1,v0,fF]
theorem qj:∀st:St,xw (f6 st)=some (aE st)
 |[]=>rfl
 |p::r=>by
  have ih:=qj r;unfold f6 aE at ih ⊢;rw[QX,xw,ih];rfl
def jC(c:Cl):Fn:=fnU 2 2 (g4 (gK c) c)
theorem xT(hk:(aE st).Nodup)(hl:st.length<64):∃G' k,jC c [.ref S.length,.bl every] (crs c S st++G)=some (.ref ((crs c S st++G).length+k),crs c S st++(G++G'))/\G'[k]?=some (.lst ((aW st every).map U.int)):=by
 unfold jC;rw[xK];have f1:(crs c S st++G)[S.length+1]?=some (.dic (f6 st)):=ah hd1;have F0:kA c 0 (.ref S.length,crs c S st++G)=some (.ref (S.length+1),crs c S st++G):=cF rfl;have hlk:(aE st).length<64:=by unfold aE;rw[Q5];exact hl
 have hs:eD [.ref (S.length+1)] (crs c S st++G)=some (.ref (crs c S st++G).length,crs c S st++G++[.lst ((bq (aE st)).map U.int)]):=by
  simp only[eD,f1,qj,Q4,hlk,if_true]
 have hsl:(bq (aE st)).length<64:=by rw[(aR _).length_eq];exact hlk
 obtain⟨G',h⟩:=dc (S:=crs c S st++G++[.lst ((bq (aE st)).map U.int)]) (ok:=fun Y=>Y[(crs c S st++G).length]?=some (.lst ((bq (aE st)).map U.int))) (gg:=gNm 0) (ct:=aF (cCB (gK c) (af (ag 1) (af (ag 2) (af (ag 0) aG))))) (ce:=ag 0) (f:=U.int) (p:=vh st every) (v:=U.int) (Rel:=fun ρ=>∃r0,ρ=[r0,some (.ref S.length),some (.bl every)]) (fun ys G=>ah (by rw[ga0];rfl)) (bq (aE st)) [] [] [none,some (.ref S.length),some (.bl every)] ⟨_,rfl⟩ (by simp;omega) (fun b hb ys G2 ρ hρ=>by
   obtain⟨r0,rfl⟩:=hρ;obtain⟨t,hv⟩:=qT ((aR _).mem_iff.mp hb);have h1:=wz (c:=c) (S:=S) (G:=G++([.lst ((bq (aE st)).map U.int)]++(.lst ys::G2))) (every:=every) hk hv;simp only[Qz,Qk]at h1;refine⟨[some (.int b),some (.ref S.length),some (.bl every)],[],⟨_,rfl⟩,rfl,?_,fun _=>⟨[],?_⟩⟩
   ·rwa[h1,QJ]
   ·rwa[QJ])
 refine⟨[.lst ((bq (aE st)).map U.int)]++(.lst ((aW st every).map U.int)::G'),1,?_,rfl⟩;have g0:(crs c S st++G++[O.lst ((bq (aE st)).map U.int)])[(crs c S st++G).length]?=some (.lst ((bq (aE st)).map U.int)):=by rw[ga0];rfl
 have hc:cCB eD (af (gP c 0 (ag 0)) aG) [some (.ref S.length),some (.bl every)] (crs c S st++G)=some (.ref (crs c S st++G).length,crs c S st++G++[.lst ((bq (aE st)).map U.int)]):=by
  rwa[F0];rw[hs];simp only[Q3]
 have hcomp:bz (iTp (cCB eD (af (gP c 0 (ag 0)) aG))) (gNm 0) (aF (cCB (gK c) (af (ag 1) (af (ag 2) (af (ag 0) aG))))) (ag 0) 1 [0,1] [some (.ref S.length),some (.bl every)] (crs c S st++G)=some (.ref ((crs c S st++G).length+1),crs c S st++G++[.lst ((bq (aE st)).map U.int)]++(.lst ((aW st every).map U.int)::G')):=by
  unfold bz iTp;rw[hc,Q4];have ln:(crs c S st++G++[O.lst ((bq (aE st)).map U.int)]).length=(crs c S st++G).length+1:=by rw[Q6];rfl
  rw[ln]at h;simp only[Qk]at h;simp only[g0,Q4,ma,Qh,QX,Ql,ZY,Qq,Qo,Qz,Qk,ln,h];rfl
 rwa[g4,hcomp]
end
def BfI(st:St):Prop:=∀a t,aS st a=some t->(∀b∈t.bf,b∈aE st/\b≠a)/\t.bf.Nodup
theorem bf0{st:St}:(qz st).bf=(st.filter fun p=>p.2.en.isSome).map (·.1):=rfl
theorem G6{n w:Int}{st:St}{e:Ev}(hk:(aE st).Nodup)(ok:vv n w st e)(h:BfI st):BfI (stp st e):=by
 have sub:∀b,b∈aE st->b∈aE (stp st e):=fun b hb=>by
  rw[jW];cases e with
  |beg a=>exact Qd _ hb
  |_=>exact hb
 intro a t ht;by_cases ea:a=e.at
 ·cases e with
  |beg b=>
   have eb:a=b:=ea;subst eb;rw[eA ok.2.2]at ht;cases ht;rw[bf0];refine⟨fun b hb=>?_,?_⟩
   ·obtain⟨p,hp,rfl⟩:=QR.mp hb;have hm:p.1∈aE st:=QR.mpr ⟨p,(Qp.mp hp).1,rfl⟩;exact⟨sub _ hm,fun z=>ok.2.2 (z▸hm)⟩
   ·have:((st.filter fun p=>p.2.en.isSome).map (·.1)).Sublist (st.map (·.1)):=List.Sublist.map _ List.filter_sublist;exact List.Nodup.sublist this hk
  |look b1 b2 b3=>
   have eb:a=b1:=ea;subst eb;obtain⟨bd,t0,t1,t2,t3⟩:=id ok;have:=bN (e:=.look a b2 b3) t1;simp only[Ev.at]at this;rw[this]at ht;cases ht;have q:=h a t0 t1;have e1:(t0.ev (.look a b2 b3)).bf=t0.bf:=by simp only[Att.ev];split<;>rfl
   rw[e1];exact⟨fun b hb=>⟨sub b (q.1 b hb).1,(q.1 b hb).2⟩,q.2⟩
  |put b1 b2 b3=>
   have eb:a=b1:=ea;subst eb;obtain⟨_,t0,t1,t2⟩:=id ok;have:=bN (e:=.put a b2 b3) t1;simp only[Ev.at]at this;rw[this]at ht;cases ht;have q:=h a t0 t1;exact⟨fun b hb=>⟨sub b (q.1 b hb).1,(q.1 b hb).2⟩,q.2⟩
  |fin d b1=>
   have eb:a=b1:=ea;subst eb;obtain⟨t0,t1,t2⟩:=id ok;have:=bN (e:=.fin d a) t1;simp only[Ev.at]at this;rw[this]at ht;cases ht;have q:=h a t0 t1;exact⟨fun b hb=>⟨sub b (q.1 b hb).1,(q.1 b hb).2⟩,q.2⟩
 ·rw[bV ea]at ht;have q:=h a t ht;exact⟨fun b hb=>⟨sub b (q.1 b hb).1,(q.1 b hb).2⟩,q.2⟩
theorem rE{n w:Int}:∀(es:List Ev) (st:St),pF n w st es->(aE st).Nodup->BfI st->BfI (aQ st es)
 |[],st,_,_,h=>h
 |e::es,st,lf,hk,h=>rE es (stp st e) lf.2 (dY hk lf.1) (G6 hk lf.1 h)
theorem Nz:BfI []:=fun a t h=>by simp[aS]at h
theorem A0{st:St}(hk:(aE st).Nodup)(h:BfI st){a:Int}{t:Att}(hv:aS st a=some t):t.bf.length<=st.length:=by
 have:=List.Nodup.length_le_of_subset (h a t hv).2 (l₂:=aE st) fun b hb=>((h a t hv).1 b hb).1;unfold aE at this;rwa[Q5]at this
section
variable{c cA:Cl}{S G:Sto}{st:St}{a:Int}{t:Att}{every:Bool}
def rL(c cA:Cl):Fn:=fnU 4 3 (d5 (jC c) (gK c) cA c)
def Hh(st:St)(every:Bool)(B:Nat)(as:List Int)(D:List (Key×U))(R:Sto):Prop:=∀a t,a∈as->aS st a=some t->∃r,aS D (.inl a)=some (.ref (B+r))/\R[r]?=some (.lst ((jv st every t).map U.int))
theorem zF{Z R:Sto}{D:List (Key×U)}{fus:List (Option U)}{L B:Nat}(hk:(aE st).Nodup)(bi:BfI st)(hl:st.length<=100)(hv:aS st a=some t)(hZ:∃C,Z=crs c S st++C)(hL:Z[L]?=some (.ins cA fus))(hf:fus[2]?=some (some (.ref Z.length)))(hD:D.length<1000) :
  ∃R',d7 (jC c) (gK c) cA c [some (.ref L),some (.ref S.length),some (.bl every),some (.int a)] (Z++(.dic D::R))=some (.nx,[some (.ref L),some (.ref S.length),some (.bl every),some (.int a)],Z++(.dic (eJ D (.inl a) (.ref (Z.length+1+R.length)))::(R++(.lst ((jv st every t).map U.int)::R')))):=by
 obtain⟨C,rfl⟩:=hZ;obtain⟨r,v0,g0⟩:=cB (c:=c) (S:=S) (j:=0) (by omega) hv hk;have F4:kA c 4 (.ref S.length,crs c S st++(C++(.dic D::R)))=some (.ref (S.length+5),crs c S st++(C++(.dic D::R))):=cF rfl;have f5:(crs c S st++(C++(O.dic D::R)))[S.length+5]?=some (.dic (gm S.length 0 st 0)):=ah hd5;have gr:∀X,(crs c S st++X)[r]?=some (.lst (t.bf.map U.int)):=g0;have bl:=A0 hk bi hv;obtain⟨R',h⟩:=dc (S:=crs c S st++C++(.dic D::R)) (ok:=fun Y=>Y[r]?=some (.lst (t.bf.map U.int))) (gg:=gNm 0) (ct:=aF (cCB (gK c) (af (ag 1) (af (ag 2) (af (ag 0) aG))))) (ce:=ag 0) (f:=U.int) (p:=vh st every) (v:=U.int) (Rel:=fun ρ=>∃r0,ρ=[r0,some (.ref S.length),some (.bl every)]) (fun ys G=>by rw[Q3,Q3];exact gr _) t.bf [] [] [none,some (.ref S.length),some (.bl every)] ⟨_,rfl⟩ (by simp;omega) (fun b hb ys G2 ρ hρ=>by
   obtain⟨r0,rfl⟩:=hρ;obtain⟨t',hv'⟩:=qT ((bi a t hv).1 b hb).1;have h1:=wz (c:=c) (S:=S) (G:=C++((.dic D::R)++(.lst ys::G2))) (every:=every) hk hv';simp only[Qz]at h1;refine⟨[some (.int b),some (.ref S.length),some (.bl every)],[],⟨_,rfl⟩,rfl,?_,fun _=>⟨[],?_⟩⟩
   ·rwa[h1,QJ]
   ·rwa[QJ])
 simp only[Qk]at h;refine⟨R',?_⟩;have hi:cOp fIx (gP c 4 (ag 1)) (ag 3) [some (.ref L),some (.ref S.length),some (.bl every),some (.int a)] (crs c S st++C++(.dic D::R))=some (.ref r,crs c S st++C++(.dic D::R)):=by
  rwa[F4,f5,v0]
 have hcomp:bz (iTp (cOp fIx (gP c 4 (ag 1)) (ag 3))) (gNm 0) (aF (cCB (gK c) (af (ag 1) (af (ag 2) (af (ag 0) aG))))) (ag 0) 1 [1,2] [some (.ref L),some (.ref S.length),some (.bl every),some (.int a)] (crs c S st++C++(.dic D::R))=some (.ref (crs c S st++C++(.dic D::R)).length,crs c S st++C++(.dic D::R)++(.lst ((jv st every t).map U.int)::R')):=by
  unfold bz iTp;rw[hi,Q4];have gr':(crs c S st++C++(O.dic D::R))[r]?=some (.lst (t.bf.map U.int)):=by rw[Q3];exact gr _
  simp only[gr',Q4,ma,Qh,QX,Ql,ZY,Qq,Qo,Qz,Qk,h];rfl
 have ln:(crs c S st++C++(O.dic D::R)).length=(crs c S st++C).length+1+R.length:=by rw[Q6,QY];omega
 rw[ln]at hcomp;generalize hY:crs c S st++C=Y at *;have eL:∀X,(Y++X)[L]?=some (.ins cA fus):=fun X=>ah hL;have FA:∀X,kA cA 2 (.ref L,Y++X)=some (.ref Y.length,Y++X):=fun X=>dF (eL X) hf;have hDL:D.length<LIM:=by unfold LIM;omega
 rwa[d7,hcomp,FA,hDL,if_true]
theorem sI{Z:Sto}{us:List U}{fus:List (Option U)}{L jo:Nat}(hk:(aE st).Nodup)(bi:BfI st)(hl:st.length<=100)(hZ:∃C,Z=crs c S st++C)(hL:Z[L]?=some (.ins cA fus))(hf:fus[2]?=some (some (.ref Z.length)))(ho:Z[jo]?=some (.lst us)):∀(as dn:List Int) (D:List (Key×U)) (R:Sto) (r3:Option U),(∀a∈as,a∈aE st)->Hh st every (Z.length+1) dn D R->D.length+as.length<=900->
  ∃D' R' r3',d9 (fun Y=>Y[jo]?=some (.lst us)) (gNm 3) (d7 (jC c) (gK c) cA c) (as.map U.int) [some (.ref L),some (.ref S.length),some (.bl every),r3] (Z++(.dic D::R))=some (.nx,[some (.ref L),some (.ref S.length),some (.bl every),r3'],Z++(.dic D'::R'))/\Hh st every (Z.length+1) (dn++as) D' R'
 |[],dn,D,R,r3,_,h,_=>⟨D,R,r3,fD (ah ho),by rw[QJ];exact h⟩
 |a::as,dn,D,R,r3,hm,h,hD=>by
  rw[QY]at hD;obtain⟨t,hv⟩:=qT (hm a QU);obtain⟨R1,h1⟩:=zF (c:=c) (cA:=cA) (S:=S) (every:=every) (Z:=Z) (R:=R) (D:=D) (L:=L) (B:=0) hk bi hl hv hZ hL hf (by omega);have I':Hh st every (Z.length+1) (dn++[a]) (eJ D (.inl a) (.ref (Z.length+1+R.length))) (R++(.lst ((jv st every t).map U.int)::R1)):=fun b t' hb hv'=>by
   rw[jS];by_cases e:b=a
   ·subst e;rw[hv]at hv';cases hv';exact⟨R.length,by rw[if_pos rfl],by rw[Qx (QZ _),Nat.sub_self];rfl⟩
   ·rw[if_neg (fun z=>e (Sum.inl.inj z))];rcases Qw.mp hb with z|z
    ·obtain⟨r,e1,e2⟩:=h b t' z hv';exact⟨r,e1,ah e2⟩
    ·exact absurd (Qv.mp z) e
  have hD':(eJ D (.inl a) (.ref (Z.length+1+R.length))).length<=D.length+1:=jV ..;obtain⟨D',R',r3',ih,I2⟩:=sI hk bi hl hZ hL hf ho as (dn++[a]) _ _ (some (.int a)) (fun b hb=>hm b (QD _ hb)) I' (by omega);refine⟨D',R',r3',(iw (ah ho) rfl h1).trans ih,?_⟩;rw[Q3]at I2;exact I2
structure Lc(cA:Cl)(st:St)(every:Bool)(B:Nat)(Y:Sto)(L:Nat):Prop where
 ex:∃r1 r2 D,Y[L]?=some (.ins cA [some (.ref B),some (.ref r1),some (.ref r2)])/\Y[r1]?=some (.lst ((aW st every).map U.int))/\Y[r2]?=some (.dic D)/\∀a t,a∈aW st every->aS st a=some t->∃r,aS D (.inl a)=some (.ref r)/\Y[r]?=some (.lst ((jv st every t).map U.int))
theorem lI{b:Int}(h:b∈aW st every):b∈aE st:=(aR _).mem_iff.mp (Qp.mp h).1
theorem fC:(aW st every).length<=st.length:=by
 unfold aW;refine Qj (List.length_filter_le ..) ?_;rw[(aR _).length_eq];unfold aE;rw[Q5];exact QZ _
theorem Gv(hns:cA.ns.length=3)(hk:(aE st).Nodup)(bi:BfI st)(hl:st.length<64) :
  ∃X,rj cA (rL c cA) [.ref S.length,.bl every] (crs c S st++G)=some (.ref (crs c S st++G).length,crs c S st++(G++X))/\Lc cA st every S.length (crs c S st++(G++X)) (crs c S st++G).length:=by
 rw[DJ,hns];obtain⟨G',k,h1,g1⟩:=xT (c:=c) (S:=S) (G:=G++[.ins cA [some (.ref S.length),none,none]]) (every:=every) hk hl;obtain⟨Y,hY⟩:∃Y,Y=crs c S st++G:=⟨_,rfl⟩;have ln:(crs c S st++(G++[O.ins cA [some (.ref S.length),none,none]])).length+k=Y.length+(1+k):=by rw[<-Q3,<-hY,Q6];simp;omega
 have e1:crs c S st++(G++[O.ins cA [some (.ref S.length),none,none]])=Y++[.ins cA [some (.ref S.length),none,none]]:=by rw[hY,Q3]
 have e2:crs c S st++(G++[O.ins cA [some (.ref S.length),none,none]]++G')=Y++(.ins cA [some (.ref S.length),none,none]::G'):=by rw[hY];simp only[Q3,Qz,Qk]
 rw[ln,e1,e2]at h1;obtain⟨Z,hZ⟩:∃Z,Z=Y++(.ins cA [some (.ref S.length),some (.ref (Y.length+(1+k))),some (.ref (Y.length+(1+G'.length)))]::G'):=⟨_,rfl⟩;have zl:Z.length=Y.length+(1+G'.length):=by rw[hZ];simp;omega
 have gL:Z[Y.length]?=some (.ins cA [some (.ref S.length),some (.ref (Y.length+(1+k))),some (.ref Z.length)]):=by rw[zl,hZ,ga0];rfl
 have gO:Z[Y.length+(1+k)]?=some (.lst ((aW st every).map U.int)):=by rw[hZ,ga,Nat.add_comm 1 k,Qq];exact g1
 have ol:=fC (st:=st) (every:=every);obtain⟨D,R,r3,h2,I⟩:=sI (c:=c) (cA:=cA) (S:=S) (every:=every) (Z:=Z) (L:=Y.length) (jo:=Y.length+(1+k)) hk bi (by omega) ⟨G++(.ins cA [some (.ref S.length),some (.ref (Y.length+(1+k))),some (.ref (Y.length+(1+G'.length)))]::G'),by rw[hZ,hY,Q3]⟩ gL rfl gO (aW st every) [] [] [] none (fun b hb=>lI hb) (fun b t hb=>by cases hb) (by simp;omega);refine⟨.ins cA [some (.ref S.length),some (.ref (Y.length+(1+k))),some (.ref (Y.length+(1+G'.length)))]::(G'++(.dic D::R)),?_,?_⟩
 ·have hi:rL c cA [.ref Y.length,.ref S.length,.bl every] (Y++[.ins cA (Qh 3 none)])=some (.non,Z++(.dic D::R)):=by
   unfold rL;rw[rB];have zd:Y++(O.ins cA [some (.ref S.length),some (.ref (Y.length+(1+k))),some (.ref (Y.length+(1+G'.length)))]::(G'++[.dic []]))=Z++[.dic []]:=by rw[hZ,Q3];rfl
   have gLZ:∀X,(Z++X)[Y.length]?=some (.ins cA [some (.ref S.length),some (.ref (Y.length+(1+k))),some (.ref Z.length)]):=fun X=>ah gL;have gOZ:∀X,(Z++X)[Y.length+(1+k)]?=some (.lst ((aW st every).map U.int)):=fun X=>ah gO;have ly:(Y++O.ins cA [some (.ref S.length),some (.ref (Y.length+(1+k))),none]::G').length=Y.length+(1+G'.length):=by simp;omega
   rwa[d5,Qh,h1,ly,zd,me,iTp,gLZ,gOZ,h2]
  rw[<-hY,hi];have:Z++(O.dic D::R)=Y++(.ins cA [some (.ref S.length),some (.ref (Y.length+(1+k))),some (.ref (Y.length+(1+G'.length)))]::(G'++(.dic D::R))):=by rw[hZ,Q3];rfl
  rw[<-Q3,<-hY,<-this];rfl
 ·have:crs c S st++(G++(O.ins cA [some (.ref S.length),some (.ref (Y.length+(1+k))),some (.ref (Y.length+(1+G'.length)))]::(G'++(.dic D::R))))=Z++(.dic D::R):=by rw[<-Q3,<-hY,hZ,Q3];rfl
  rw[this,<-hY];refine⟨_,_,D,ah gL,ah gO,by rw[ga0];rfl,fun b t hb hv=>?_⟩;obtain⟨r,e1,e2⟩:=I b t (by rw[Qk];exact hb) hv;refine⟨_,e1,?_⟩;rw[Nat.add_assoc,ga,Nat.add_comm 1 r,Qq];exact e2
end
theorem wG:∀ns ms:List Int,PyData.eqv (.list (ns.map PyData.int)) (.list (ms.map PyData.int))=decide (ns=ms)
 |[],[]=>rfl
 |[],_::_=>rfl
 |_::_,[]=>rfl
 |n::ns,m::ms=>by
  have e:PyData.eqv (.list ((n::ns).map PyData.int)) (.list ((m::ms).map PyData.int))=((n == m)&&PyData.eqv (.list (ns.map PyData.int)) (.list (ms.map PyData.int))):=rfl;rw[e,wG ns ms,ZE];simp
theorem rC{S:Sto}:∀ns:List Int,DtL S (ns.map U.int) (ns.map PyData.int)
 |[]=>.nil
 |n::ns=>.cons (.int n) (rC ns)
theorem wj(ns:List Int):Bf (.list (ns.map PyData.int)):=by
 have h:∀ns:List Int,PyData.canLayAll0 (ns.map PyData.int)=true/\PyData.depthAll (ns.map PyData.int)<=0:=fun ns=>by
  induction ns with
  |nil=>exact⟨rfl,QZ _⟩
  |cons n r ih=>
   refine⟨by unfold PyData.canLayAll0;rw[QX];exact ih.1,?_⟩;rw[QX];unfold PyData.depthAll;exact Nat.max_le.mpr ⟨QZ _,ih.2⟩
 refine⟨by unfold PyData.canLay0;exact(h ns).1,?_⟩;unfold PyData.depth;have:=(h ns).2;omega
theorem C4(neg:Bool){S:Sto}{l l':Nat}{ns ms:List Int}(h:S[l]?=some (.lst (ns.map U.int)))(h':S[l']?=some (.lst (ms.map U.int))):oR neg (.ref l) (.ref l') S=some (.bl (if neg then !decide (ns=ms)else decide (ns=ms)),S):=
 rm neg (.inl ⟨_,_,.lst h (rC ns),.lst h' (rC ms),wj ns,wj ms,(wG ns ms).symm⟩)
section
variable{c cA:Cl}{st:St}{a:Int}{t:Att}{every:Bool}{L:Nat}
theorem Lc.app{Y:Sto}{B:Nat}(h:Lc cA st every B Y L)(X:Sto):Lc cA st every B (Y++X) L:=by
 obtain⟨r1,r2,D,h1,h2,h3,h4⟩:=h.ex;exact⟨⟨r1,r2,D,ah h1,ah h2,ah h3,fun a t ha hv=>by
  obtain⟨r,e1,e2⟩:=h4 a t ha hv;exact⟨r,e1,ah e2⟩⟩⟩
def DD(c cA:Cl):Fn:=fnU 4 4 (bK (Bc c) cA)
end
def iQ(st:St)(every:Bool):List Int->List Int->List Int->Bool
 |_,_,[]=>true
 |gn,x,a::os=>(match aS st a with
  |none=>false
  |some t=>(jv st every t).all (fun b=>decide (b∈gn))&&t.nd.all (j7 x))&&iQ st every (a::gn) (chg st a x) os
section
variable{st:St}{a:Int}{t:Att}{L:Nat}
def ny(st:St)(a:Int):List Int:=match aS st a with
 |some t=>t.bf
 |none=>[]
def prA(a:Int)(b:Int):Int×Int:=(b,a)
def zj(st:St)(as:List Int):List (Int×Int):=as.flatMap fun a=>(ny st a).map (prA a)
theorem nB{as:List Int}{b:Int}:(b,a)∈zj st as↔a∈as/\b∈ny st a:=by
 unfold zj;rw[List.mem_flatMap];constructor
 ·rintro⟨d,h1,h2⟩;obtain⟨e,h3,h4⟩:=QR.mp h2;cases h4;exact⟨h1,h3⟩
 ·rintro⟨h1,h2⟩;exact⟨a,h1,QR.mpr ⟨b,h2,rfl⟩⟩
theorem A1(hk:(aE st).Nodup)(bi:BfI st):(ny st a).Nodup/\(ny st a).length<=st.length:=by
 unfold ny;cases hv:aS st a with
 |none=>exact⟨ZQ,Z7 _⟩
 |some t=>exact⟨(bi a t hv).2,A0 hk bi hv⟩
theorem zi(hk:(aE st).Nodup)(bi:BfI st):∀as:List Int,as.Nodup->(zj st as).Nodup
 |[],_=>ZQ
 |a::as,h=>by
  obtain⟨h1,h2⟩:=ZG.mp h;have ih:=zi hk bi as h2;unfold zj at ih ⊢;rw[List.flatMap_cons,Qe];refine⟨?_,ih,fun p hp q hq e=>?_⟩
  ·exact List.Pairwise.map (prA a) (fun u v h e=>h (by cases e;rfl)) (A1 hk bi).1
  ·subst e;obtain⟨b,hb,rfl⟩:=QR.mp hp;exact h1 (nB.mp hq).1
theorem vW(hk:(aE st).Nodup)(bi:BfI st):∀as:List Int,(zj st as).length<=as.length*st.length
 |[]=>Z7 _
 |a::as=>by
  have ih:=vW hk bi as;have h:=(A1 (a:=a) hk bi).2;unfold zj at ih ⊢;rw[List.flatMap_cons,Q6,Q5,QY,Nat.succ_mul];omega
theorem A8(p:Int×Int):∀L:List (Int×Int),L.Pairwise (fun a b=>ltP a b=true)->∃M:List (Int×Int),M.Pairwise (fun a b=>ltP a b=true)/\∀q,q∈M↔q=p\/q∈L
 |[],_=>⟨[p],List.pairwise_singleton _ _,fun q=>by simp⟩
 |y::L,h=>by
  obtain⟨h1,h2⟩:=ZN.mp h;by_cases e:p=y
  ·subst e;exact⟨p::L,h,fun q=>by simp⟩
  ·cases hp:ltP p y with
   |true=>
    refine⟨p::y::L,ZN.mpr ⟨fun z hz=>?_,h⟩,fun q=>by simp⟩;rcases QM.mp hz with rfl|m
    ·exact hp
    ·have:=h1 z m;simp only[ltP,decide_eq_true_eq]at this hp ⊢;omega
   |false=>
    obtain⟨M,m1,m2⟩:=A8 p L h2;refine⟨y::M,ZN.mpr ⟨fun z hz=>?_,m1⟩,fun q=>?_⟩
    ·rcases(m2 z).mp hz with rfl|m
     ·have e':¬(z.1=y.1/\z.2=y.2):=fun k=>e (Prod.ext k.1 k.2);simp only[ltP,decide_eq_true_eq,decide_eq_false_iff_not]at hp ⊢;omega
     ·exact h1 z m
    ·rw[QM,m2 q,QM];constructor
     ·rintro(k|k|k)
      ·exact .inr (.inl k)
      ·exact .inl k
      ·exact .inr (.inr k)
     ·rintro(k|k|k)
      ·exact .inr (.inl k)
      ·exact .inl k
      ·exact .inr (.inr k)
theorem wZ:∀ps:List (Int×Int),∃M:List (Int×Int),M.Pairwise (fun a b=>ltP a b=true)/\∀q,q∈M↔q∈ps
 |[]=>⟨[],List.Pairwise.nil,fun q=>Iff.rfl⟩
 |p::ps=>by
  obtain⟨L,h1,h2⟩:=wZ ps;obtain⟨M,m1,m2⟩:=A8 p L h1;exact⟨M,m1,fun q=>by rw[m2,h2,QM]⟩
theorem sN{ps:List (Int×Int)}{q:Int×Int}:q∈iZ ps↔q∈ps:=by
 obtain⟨M,m1,m2⟩:=wZ ps;rw[kQ m1 m2,m2]
end
def Wp{α:Type}(x:Option α)(Q:α->Prop):Prop:=∃r,x=some r/\Q r
section
variable{α β:Type}{x:Option α}{Q P:α->Prop}
theorem aH{r:α}:Wp (some r) Q=Q r:=propext ⟨fun⟨_,e,h⟩=>by cases e;exact h,fun h=>⟨r,rfl,h⟩⟩
theorem Wp.bind{k:α->Option β}{Q:β->Prop}(h:Wp x fun r=>Wp (k r) Q):Wp (x.bind k) Q:=by
 obtain⟨r,rfl,s,e,q⟩:=h;exact⟨s,e,q⟩
theorem Wp.mono(h:Wp x P)(i:∀r,P r->Q r):Wp x Q:=let ⟨r,e,p⟩:=h;⟨r,e,i r p⟩
theorem Wp.of{r:α}(h:x=some r)(q:Q r):Wp x Q:=⟨r,h,q⟩
end
section
variable{α:Type}{ci:CI}{ca:CE}{gg:CG}{ct t:CT}{ce:CE}{cb:CS}{caps:List Nat}{ρ:Rho}{cs:Rho}{S S1:Sto}{ok:Sto->Prop}{xs:List α}{us:List U}{f v g:α->U}{p:α->Bool}{Q:U×Sto->Prop}{R:Out×Rho×Sto->Prop}{l:Nat}
theorem lT(h:ca ρ S=some (.ref l,S1))(hl:S1[l]?=some (.lst us)):iTp ca ρ S=some (us,fun S=>S[l]?=some (.lst us),S1):=by
 unfold iTp;rw[h,Q4];simp only[hl]
theorem qF(hi:ci ρ S=some (xs.map f,ok,S1))(hok:∀G,ok (S1++G))(hn:xs.length<=9000)(hr:ma 1 caps ρ=none::cs)
  (hb:∀x∈xs,∀G,Wp (ct (some (f x)::cs) (S1++G)) fun s=>s.1=p x/\∃G1,s.2=S1++G++G1/\(p x=true->Wp (ce (some (f x)::cs) (S1++G++G1)) fun t=>t.1=v x/\∃G2,t.2=S1++G++G1++G2))
  (hQ:∀G,Q (.ref S1.length,S1++(.lst ((xs.filter p).map v)::G))):Wp (bz ci (gNm 0) ct ce 1 caps ρ S) Q:=by
 obtain⟨G,e⟩:=dc (S:=S1) (ok:=ok) (gg:=gNm 0) (ct:=ct) (ce:=ce) (f:=f) (p:=p) (v:=v) (Rel:=fun ρ=>∃r0,ρ=r0::cs) (fun ys G=>hok _) xs [] [] (none::cs) ⟨_,rfl⟩ (by simp;omega) (fun x hx ys G ρ hρ=>by
  obtain⟨r0,rfl⟩:=hρ;obtain⟨⟨b,S2⟩,e1,e2,G1,e3,h⟩:=hb x hx (.lst ys::G);dsimp only at e2 e3;subst e2 e3;refine⟨some (f x)::cs,G1,⟨_,rfl⟩,rfl,by rw[e1,Q3,Qz],fun hp=>?_⟩;obtain⟨⟨b,S2⟩,e4,e5,G2,e6⟩:=h hp;dsimp only at e5 e6;subst e5 e6;refine⟨G2,?_⟩;simp only[Q3,Qz]at e4 ⊢;exact e4)
 refine⟨_,?_,hQ G⟩;unfold bz;rw[hi,Q4,hr];dsimp only;rw[e];rfl
theorem IM(hi:ci ρ S=some (xs.map f,ok,S1))(hok:∀G,ok (S1++G))(hn:xs.length<=9000)(hr:ma 1 caps ρ=none::cs)
  (hb:∀x∈xs,∀G,Wp (ce (some (f x)::cs) (S1++G)) fun t=>t.1=v x/\∃G2,t.2=S1++G++G2)
  (hQ:∀G,Q (.ref S1.length,S1++(.lst (xs.map v)::G))):Wp (fg ci (gNm 0) ce 1 caps ρ S) Q:=by
 obtain⟨G,e⟩:=l5 (S:=S1) (ok:=ok) (gg:=gNm 0) (ce:=ce) (f:=f) (v:=v) (Rel:=fun ρ=>∃r0,ρ=r0::cs) (fun ys G=>hok _) xs [] [] (none::cs) ⟨_,rfl⟩ (by simp;omega) (fun x hx ys G ρ hρ=>by
  obtain⟨r0,rfl⟩:=hρ;obtain⟨⟨b,S2⟩,e1,e2,G1,e3⟩:=hb x hx (.lst ys::G);dsimp only at e2 e3;subst e2 e3;exact⟨some (f x)::cs,G1,⟨_,rfl⟩,rfl,by rw[e1,Q3,Qz]⟩)
 refine⟨_,?_,hQ G⟩;unfold fg;rw[hi,Q4,hr];dsimp only;rw[e];rfl
theorem DR(hf:∀x,f x=.tup [g x,v x]){w:α->U}(hi:ci ρ S=some (xs.map f,ok,S1))(hok:∀G,ok (S1++G))(hn:xs.length<=9000)(hr:ma 2 caps ρ=none::none::cs)
  (hb:∀x∈xs,∀G,Wp (ce (some (g x)::some (v x)::cs) (S1++G)) fun t=>t.1=w x/\∃G2,t.2=S1++G++G2)
  (hQ:∀G,Q (.ref S1.length,S1++(.lst (xs.map w)::G))):Wp (fg ci (gTp [0,1]) ce 2 caps ρ S) Q:=by
 obtain⟨G,e⟩:=l5 (S:=S1) (ok:=ok) (gg:=gTp [0,1]) (ce:=ce) (f:=f) (v:=w) (Rel:=fun ρ=>∃r0 r1,ρ=r0::r1::cs) (fun ys G=>hok _) xs [] [] (none::none::cs) ⟨_,_,rfl⟩ (by simp;omega) (fun x hx ys G ρ hρ=>by
  obtain⟨r0,r1,rfl⟩:=hρ;obtain⟨⟨b,S2⟩,e1,e2,G1,e3⟩:=hb x hx (.lst ys::G);dsimp only at e2 e3;subst e2 e3;exact⟨some (g x)::some (v x)::cs,G1,⟨_,_,rfl⟩,by rw[hf];rfl,by rw[e1,Q3,Qz]⟩)
 refine⟨_,?_,hQ G⟩;unfold fg;rw[hi,Q4,hr];dsimp only;rw[e];rfl
theorem OU{F:Fn}(h:Wp (ce ρ S) fun r=>Wp (F [r.1] r.2) Q):Wp (cCB F (af ce aG) ρ S) Q:=by
 obtain⟨⟨u,S2⟩,e,r,e2,q⟩:=h;refine⟨r,?_,q⟩;rw[Mu,nK,e];exact e2
theorem BG(hi:ci ρ S=some (us,ok,S1))(h:Wp (d9 ok gg cb us ρ S1) R):Wp (me ci gg cb ρ S) R:=by
 unfold me;rw[hi];exact h
theorem pG(I:List α->Rho->Sto->Prop)(h0:∀ρ S,I [] ρ S->ok S/\R (.nx,ρ,S))
  (h1:∀x xs ρ S,I (x::xs) ρ S->ok S/\Wp (gg (f x) ρ S) fun r=>Wp (cb r.1 r.2) fun s=>(s.1=.nx/\I xs s.2.1 s.2.2)\/∃v,s.1=.rt v/\R s) :
  ∀(xs:List α) (ρ:Rho) (S:Sto),I xs ρ S->Wp (d9 ok gg cb (xs.map f) ρ S) R
 |[],ρ,S,h=>by
  obtain⟨a,b⟩:=h0 ρ S h;exact .of (fD a) b
 |x::xs,ρ,S,h=>by
  obtain⟨a,⟨ρ0,S0⟩,e1,⟨o,ρ1,S1⟩,e2,c⟩:=h1 x xs ρ S h;rcases c with⟨c,i⟩|⟨v,c,q⟩
  ·cases c;obtain⟨r,e3,q⟩:=pG I h0 h1 xs ρ1 S1 i;exact⟨r,(iw a e1 e2).trans e3,q⟩
  ·cases c;exact⟨_,zM a e1 e2,q⟩
theorem yB(I:Nat->Rho->Sto->Prop)(h:∀n ρ S,I n ρ S->Wp (t ρ S) fun p=>(p.1=false->R (.nx,ρ,p.2))/\(p.1=true->Wp (cb ρ p.2) fun s=>(s.1=.nx/\∃m,m<n/\I m s.2.1 s.2.2)\/∃v,s.1=.rt v/\R s)) :
  ∀(fuel n:Nat) (ρ:Rho) (S:Sto),n<fuel->I n ρ S->Wp (eN t cb fuel ρ S) R
 |0,n,ρ,S,hn,_=>by omega
 |fuel+1,n,ρ,S,hn,i=>by
  obtain⟨⟨b,S0⟩,e1,h0,h1⟩:=h n ρ S i;cases b with
  |false=>exact⟨_,yy e1,h0 rfl⟩
  |true=>
   obtain⟨⟨o,ρ1,S1⟩,e2,c⟩:=h1 rfl;rcases c with⟨c,m,hm,j⟩|⟨v,c,q⟩
   ·cases c;obtain⟨r,e3,q⟩:=yB I h fuel m ρ1 S1 (by omega) j;exact⟨r,(BE e1 e2).trans e3,q⟩
   ·cases c;exact⟨_,BD e1 e2,q⟩
end
def eR(dD cI:Fn)(aC:Cl):CS:=
 (bj (dI 2 (cCB (rj aC cI) (af (cCB dD (af (ag 0) aG)) (af (ag 1) aG))))
  (bj (dI 3 (cCB oP (af (gP aC 1 (ag 2)) aG)))
  (bj (ff (aF (cOp fGt (ag 3) (cC (.int 8)))) uf cf)
  (et (ag 2)))))
theorem tP{dD cI:Fn}{aC:Cl}{a0 a1:U}{S:Sto}:fnU 4 2 (eR dD cI aC) [a0,a1] S=((eR dD cI aC) [some a0,some a1,none,none] S).bind kFn:=iO rfl
def jy(cg ba:Fn)(aC:Cl):CS:=
 (bj (dI 2 (cOp fIx (ag 1) (cC (.int 0))))
  (bj (dI 3 (cOp fIx (ag 1) (cC (.int 1))))
  (et (bz (iTp (gP aC 1 (ag 0))) (gNm 0) (pD (aF (cOp (fIn true) (ag 0) (ag 3))) (aF (ug aC ba (ag 1) (af (ag 0) (af (ag 3) (af (ag 4) aG)))))) (gp (af (ag 0) (af (cCB cg (af (ag 1) (af (ag 2) (af (ag 0) aG)))) aG))) 1 [0,1,2,3]))))
theorem Az{cg ba:Fn}{aC:Cl}{a0 a1:U}{S:Sto}:fnU 4 2 (jy cg ba aC) [a0,a1] S=((jy cg ba aC) [some a0,some a1,none,none] S).bind kFn:=iO rfl
def dv(cW:Fn)(aC:Cl):CS:=
 (et (gp (af (cCB fT (af (cCB eM (af (cOp j8 (cOp fIx (ag 1) (cC (.int 0))) (gp (af (ag 2) aG))) aG)) aG)) (af (cCB cW (af (gP aC 0 (ag 0)) (af (ag 2) (af (cOp fIx (ag 1) (cC (.int 1))) aG)))) aG))))
theorem pO{cW:Fn}{aC:Cl}{a0 a1 a2:U}{S:Sto}:fnU 3 3 (dv cW aC) [a0,a1,a2] S=((dv cW aC) [some a0,some a1,some a2] S).bind kFn:=iO rfl
def d6(cV:Fn)(aC:Cl)(fuel:Nat):CS:=
 (ff (aF (cOp Dd (ag 6) (ag 2))) (bj (kC (ag 2) (ag 6) (cOp j8 (cOp Es (ag 2) (ag 4)) (iU (af (ag 5) aG))))
  (fG (cBM cq (ag 3) (af (ag 6) aG)))) cf)
def gv(cV:Fn)(aC:Cl)(fuel:Nat):CS:=
 (bj (dI 4 (cBM xG (ag 3) aG))
  (bj (ff (aF (cOp fEq (cCB oP (af (cOp fIx (ag 4) (cC (.int 0))) aG)) (cCB oP (af (gP aC 1 (ag 0)) aG)))) (et (gp (af (cC (.str "good")) (af (cOp Es (ag 2) (ag 4)) aG)))) cf)
  (me (iTp (cCB cV (af (ag 0) (af (ag 4) aG)))) (gTp [5,6]) (d6 cV aC fuel))))
def cN(cV:Fn)(aC:Cl)(fuel:Nat):CS:=
 (bj (dI 2 (qy (gp (af (gp aG) (af (ag 1) aG))) (iU aG)))
  (bj (dI 3 (iU (af (gp (af (gp aG) (af (ag 1) aG))) aG)))
  (bj (eN (aF (cOp fGt (cCB oP (af (ag 3) aG)) (cC (.int 0)))) (gv cV aC fuel) fuel)
  (et (gp (af (cC (.str "none")) (af (cCB tK (af (ag 2) aG)) aG)))))))
theorem nv{cV:Fn}{aC:Cl}{fuel:Nat}{a0 a1:U}{S:Sto}:fnU 7 2 (cN cV aC fuel) [a0,a1] S=((cN cV aC fuel) [some a0,some a1,none,none,none,none,none] S).bind kFn:=iO rfl
def ud(bJ cX:Fn):CS:=
 (et (cCB bJ (af (cCB cX (af (ag 2) (af (ag 3) aG))) (af (ag 1) aG))))
theorem KS{bJ cX:Fn}{a0 a1 a2 a3:U}{S:Sto}:fnU 4 4 (ud bJ cX) [a0,a1,a2,a3] S=((ud bJ cX) [some a0,some a1,some a2,some a3] S).bind kFn:=iO rfl
abbrev Pc:=List Int×List Int
def pcU(p:Pc):U:=.tup [.tup (p.1.map U.int),.tup (p.2.map U.int)]
def pcK(p:Pc):NK:=[p.1,p.2]
theorem kq(p:Pc):v8 [.tup (p.1.map U.int),.tup (p.2.map U.int)]=some (pcK p):=by simp only[v8,fS,Q4,Option.map_some,pcK]
def sQ(st:St)(every:Bool)(g y:List Int)(a:Int):Bool:=match aS st a with
 |none=>false
 |some t=>(jv st every t).all (fun b=>decide (b∈g))&&t.nd.all (j7 y)
theorem xo{st:St}{every:Bool}{g g' y:List Int}{a:Int}(h:∀b,b∈g↔b∈g'):sQ st every g y a=sQ st every g' y a:=by
 unfold sQ;have:(fun b=>decide (b∈g))=fun b=>decide (b∈g'):=funext fun b=>by simp only[h b]
 rw[this]
theorem fJ{st:St}{every:Bool}{gn x os:List Int}{a:Int}:iQ st every gn x (a::os)=(sQ st every gn x a&&iQ st every (a::gn) (chg st a x) os):=rfl
theorem mC{st:St}{every:Bool}{a:Int}:∀(os gn x:List Int),iQ st every gn x (os++[a])=(iQ st every gn x os&&sQ st every (os.reverse++gn) (lP st x os) a)
 |[],gn,x=>by
  show(sQ st every gn x a&&true)=(true&&sQ st every gn x a);rw[Bool.and_true,Bool.true_and]
 |b::os,gn,x=>by
  rw[Qz,fJ,mC os,fJ,List.reverse_cons,Q3,List.singleton_append,Bool.and_assoc];rfl
def pV(st:St)(p:Pc)(a:Int):Pc:=(bq (p.1++[a]),chg st a p.2)
def vC(st:St)(every:Bool)(p:Pc)(a:Int):Bool:=!decide (a∈p.1)&&sQ st every p.1 p.2 a
def iP(st:St)(every:Bool)(p:Pc):List (Int×Pc):=((aW st every).filter (vC st every p)).map fun a=>(a,pV st p a)
def wyU(w:Int×Pc):U:=.tup [.int w.1,pcU w.2]
section
variable{c cA:Cl}{n:Int}{S Y:Sto}{st:St}{a:Int}{t:Att}{every:Bool}{L:Nat}
def xW(c cA:Cl):Fn:=fnU 3 3 (dv (ND c) cA)
def nF(c cA:Cl):Fn:=fnU 4 2 (jy (xW c cA) (DD c cA) cA)
structure CrA(c cA:Cl)(S:Sto)(st:St)(every:Bool)(n:Int)(Y:Sto)(L:Nat):Prop where
 ex:∃C,Y=crs c S st++C
 ask:Lc cA st every S.length Y L
 hk:(aE st).Nodup
 bi:BfI st
 hl:st.length<64
 hb:∀a t,aS st a=some t->∀p∈t.nd,0<=p.1/\p.1<n
theorem CrA.app(h:CrA c cA S st every n Y L)(X:Sto):CrA c cA S st every n (Y++X) L:=by
 obtain⟨C,rfl⟩:=h.ex;exact⟨⟨C++X,Q3 ..⟩,h.ask.app X,h.hk,h.bi,h.hl,h.hb⟩
theorem CrA.val(h:CrA c cA S st every n Y L)(ha:a∈aW st every):∃t,aS st a=some t:=by
 cases hv:aS st a with
 |some t=>exact⟨t,rfl⟩
 |none=>exact absurd (lI ha) (du.mp hv)
theorem Gu(h:CrA c cA S st every n Y L){g y:List Int}(ha:a∈aW st every)(hx:y.length=n.toNat):Wp (DD c cA [.ref L,.int a,.tup (g.map U.int),.tup (y.map U.int)] Y) fun r=>r.1=.bl (sQ st every g y a)/\∃G,r.2=Y++G:=by
 obtain⟨t,hv⟩:=h.val ha;obtain⟨C,hC⟩:=h.ex;obtain⟨r1,r2,D2,h1,h2,h3,h4⟩:=h.ask.ex;obtain⟨r,e1,e2⟩:=h4 a t ha hv;have hb0:=A0 h.hk h.bi hv;have hl:=h.hl;have hnl:(jv st every t).length<=100:=by unfold jv;exact Qj (List.length_filter_le ..) (by omega)
 have F2:kA cA 2 (.ref L,Y)=some (.ref r2,Y):=dF h1 rfl;have mb:sQ st every g y a=((jv st every t).all (fun b=>decide (b∈g))&&t.nd.all (j7 y)):=by unfold sQ;rw[hv]
 rw[mb];unfold DD;rw[jZ];unfold bK;rwa[aH];repeat with_reducible refine Wp.bind ?_
 refine IM (S1:=Y) (cs:=[some (.tup (g.map U.int))]) (xs:=jv st every t) (f:=U.int) (v:=fun b=>.bl (decide (b∈g))) (lT (l:=r) (by rwa[F2,h3,e1]) e2) (fun G=>ah e2) (by omega) rfl (fun b hb G=>?_) fun G=>?_
 ·have i1:fIn false (.int b) (.tup (g.map U.int)) (Y++G)=some (.bl (decide (b∈g)),Y++G):=by
   unfold fIn;dsimp only;rw[if_pos ⟨rfl,C9 g⟩,if_neg QK,inI]
  generalize g.map U.int=gu at i1 ⊢;rwa[i1,aH];exact⟨trivial,[],by simp⟩
 obtain⟨Z,hZ⟩:∃Z,Z=Y++(O.lst ((jv st every t).map fun b=>U.bl (decide (b∈g)))::G):=⟨_,rfl⟩;rw[<-hZ];have gz:Z[Y.length]?=some (.lst (((jv st every t).map fun b=>decide (b∈g)).map U.bl)):=by rw[hZ,ga0,Qg];rfl
 have fa:KJ [.ref Y.length] Z=some (.bl ((jv st every t).all fun b=>decide (b∈g)),Z):=by
  simp only[KJ,gz,wV,Q4,List.all_map];rfl
 have hZC:∃C',Z=crs c S st++C':=⟨_,by rw[hZ,hC,Q3]⟩;obtain⟨C',hC'⟩:=hZC;have F0:kA cA 0 (.ref L,Z)=some (.ref S.length,Z):=dF (by rw[hZ];exact ah h1) rfl;have hfit:=GN (c:=c) (S:=S) (G:=C') h.hk hv (h.hb a t hv) hx;rw[<-hC']at hfit;cases hn:(jv st every t).all fun b=>decide (b∈g)with
 |true=>
  rw[hn]at fa;rwa[fa,F0,hfit,aH];exact⟨by rw[Bool.true_and],by rw[hZ];exact⟨_,rfl⟩⟩
 |false=>
  rw[hn]at fa;rwa[fa,aH];exact⟨by rw[Bool.false_and],by rw[hZ];exact⟨_,rfl⟩⟩
theorem JF(h:CrA c cA S st every n Y L){p:Pc}(ha:a∈aW st every)(hx:p.2.length<=100)(hg:p.1.length<60):Wp (xW c cA [.ref L,pcU p,.int a] Y) fun r=>r.1=pcU (pV st p a)/\∃G,r.2=Y++G:=by
 obtain⟨t,hv⟩:=h.val ha;obtain⟨C,hC⟩:=h.ex;obtain⟨r1,r2,D2,h1,h2,h3,h4⟩:=h.ask.ex;obtain⟨Z,hZ⟩:∃Z,Z=Y++[O.lst ((bq (p.1++[a])).map U.int)]:=⟨_,rfl⟩;have cat:∀X,j8 (.tup (p.1.map U.int)) (.tup [.int a]) X=some (.tup ((p.1++[a]).map U.int),X):=fun X=>by
  simp only[j8];rw[if_pos (by unfold LIM;simp;omega),QV];rfl
 have srt:eM [.tup ((p.1++[a]).map U.int)] Y=some (.ref Y.length,Z):=by
  simp only[eM,fS,Q4];rw[if_pos (by simp;omega),hZ]
 have gz:Z[Y.length]?=some (.lst ((bq (p.1++[a])).map U.int)):=by rw[hZ,ga0];rfl
 have F0:kA cA 0 (.ref L,Z)=some (.ref S.length,Z):=dF (by rw[hZ];exact ah h1) rfl;obtain⟨C',hC'⟩:∃C',Z=crs c S st++C':=⟨_,by rw[hZ,hC,Q3]⟩;obtain⟨G',e⟩:=MB (c:=c) (S:=S) (G:=C') h.hk hv hx;rw[<-hC',<-Q3,<-hC']at e;unfold xW pV pcU;rw[pO];unfold dv;generalize (p.1++[a]).map U.int=gu at cat srt;generalize (bq (p.1++[a])).map U.int=su at gz hZ ⊢;generalize p.1.map U.int=pu at cat ⊢;generalize p.2.map U.int=yu at e ⊢;generalize (chg st a p.2).map U.int=cu at e ⊢;rwa[cat,srt,gz,F0,e,aH];exact⟨trivial,by rw[hZ,Q3];exact⟨_,rfl⟩⟩
theorem yz(h:CrA c cA S st every n Y L){p:Pc}(hx:p.2.length=n.toNat)(hn:n<=100)(hg:p.1.length<60):Wp (nF c cA [.ref L,pcU p] Y) fun r=>∃j,r.1=.ref j/\(∃G,r.2=Y++G)/\Y.length<=j/\r.2[j]?=some (.lst ((iP st every p).map wyU)):=by
 obtain⟨r1,r2,D2,h1,h2,h3,h4⟩:=h.ask.ex;have F1:kA cA 1 (.ref L,Y)=some (.ref r1,Y):=dF h1 rfl;have hol:=fC (st:=st) (every:=every);have hl:=h.hl;unfold nF;rw[Az];unfold jy;have x0:∀X,fIx (pcU p) (.int 0) X=some (.tup (p.1.map U.int),X):=fun _=>rfl;have x1:∀X,fIx (pcU p) (.int 1) X=some (.tup (p.2.map U.int),X):=fun _=>rfl;rwa[x0,x1,aH];repeat with_reducible refine Wp.bind ?_
 refine qF (S1:=Y) (cs:=[some (.ref L),some (pcU p),some (.tup (p.1.map U.int)),some (.tup (p.2.map U.int))]) (xs:=aW st every) (f:=U.int) (v:=fun a=>wyU (a,pV st p a)) (p:=vC st every p) (lT (l:=r1) (by rwa[F1]) h2) (fun G=>ah h2) (by omega) rfl (fun a ha G=>?_) fun G=>?_
 ·have hA:=h.app G;obtain⟨r1',r2',D',g1,_⟩:=hA.ask.ex;have i1:fIn true (.int a) (.tup (p.1.map U.int)) (Y++G)=some (.bl (!decide (a∈p.1)),Y++G):=by
   unfold fIn;dsimp only;rw[if_pos ⟨rfl,C9 p.1⟩,if_pos rfl,inI]
  obtain⟨⟨u,Z⟩,em,rfl,G1,hG1⟩:=Gu hA (g:=p.1) (y:=p.2) ha hx;dsimp only at hG1;have hB:=hA.app G1;rw[<-hG1]at hB;obtain⟨⟨u,Z2⟩,eb,rfl,G2,hG2⟩:=JF hB (p:=p) ha (by omega) hg;dsimp only at hG2;have tupe:∀X,gp (af (ag 0) (af (cCB (xW c cA) (af (ag 1) (af (ag 2) (af (ag 0) aG)))) aG)) [some (.int a),some (.ref L),some (pcU p),some (.tup (p.1.map U.int)),some (.tup (p.2.map U.int))] X=(xW c cA [.ref L,pcU p,.int a] X).bind fun r=>some (.tup [.int a,r.1],r.2):=fun X=>by
   generalize pcU p=pu;rwa[];cases xW c cA [.ref L,pu,.int a] X with
   |none=>rfl
   |some r=>rfl
  rw[Q3]at hG1;have eG:Y++G++G1=Z:=by rw[hG1,Q3]
  unfold vC;cases hi:decide (a∈p.1)with
  |true=>
   rw[hi]at i1;generalize p.1.map U.int=gu at *;generalize p.2.map U.int=yu at *;generalize pcU p=pu at *;rwa[i1,aH];exact⟨rfl,[],by simp,fun z=>by cases z⟩
  |false=>
   rw[hi]at i1;cases hm:sQ st every p.1 p.2 a with
   |false=>
    rw[hm]at em;generalize p.1.map U.int=gu at *;generalize p.2.map U.int=yu at *;generalize pcU p=pu at *;rwa[i1,g1,em,aH];exact⟨rfl,G1,by rw[hG1],fun z=>by cases z⟩
   |true=>
    rw[hm]at em;have t1:pD (aF (cOp (fIn true) (ag 0) (ag 3))) (aF (ug cA (DD c cA) (ag 1) (af (ag 0) (af (ag 3) (af (ag 4) aG))))) [some (.int a),some (.ref L),some (pcU p),some (.tup (p.1.map U.int)),some (.tup (p.2.map U.int))] (Y++G)=some (true,Z):=by
     generalize p.1.map U.int=gu at *;generalize p.2.map U.int=yu at *;generalize pcU p=pu at *;rwa[i1,g1,em]
    rw[t1];simp only[aH];refine⟨rfl,G1,eG.symm,fun _=>?_⟩;rw[eG,tupe,eb];simp only[Q4,aH];exact⟨rfl,G2,hG2⟩
 ·rwa[aH];exact⟨Y.length,rfl,⟨_,rfl⟩,QZ _,by rw[ga0];unfold iP;rw[Qg];rfl⟩
end
abbrev Kt:=Pc×Nat×List Int
section
variable{st:St}{every:Bool}{x:List Int}
structure Led(st:St)(every:Bool)(x os:List Int)(p:Pc):Prop where
 nd:os.Nodup
 sub:∀a∈os,a∈aW st every
 good:iQ st every [] x os=true
 eq:p=(bq os,lP st x os)
theorem yP(os:List Int)(a:Int):bq (bq os++[a])=bq (os++[a]):=
 (kR ((aR _).trans (((aR os).symm.append_right [a]).symm.symm.symm)) (i6 _))
theorem qi(os:List Int)(a:Int):lP st x (os++[a])=chg st a (lP st x os):=by unfold lP;rw[List.foldl_append];rfl
theorem zJ{os:List Int}{a:Int}:a∈bq os↔a∈os:=(aR os).mem_iff
theorem uo(os:List Int)(a:Int):pV st (bq os,lP st x os) a=(bq (os++[a]),lP st x (os++[a])):=by
 unfold pV;rw[yP,qi]
theorem sO(os:List Int)(y:List Int)(a:Int):sQ st every (bq os) y a=sQ st every (os.reverse++[]) y a:=xo fun b=>by rw[zJ,QJ,List.mem_reverse]
theorem Led.step{os:List Int}{p:Pc}{a:Int}(h:Led st every x os p)(ha:a∈aW st every)(hw:vC st every p a=true):Led st every x (os++[a]) (pV st p a):=by
 obtain⟨nd,sub,good,rfl⟩:=h;unfold vC at hw;rw[Qm,Bool.not_eq_true',decide_eq_false_iff_not,zJ]at hw;refine⟨Qe.mpr ⟨nd,by simp,fun u hu v hv e=>by rw[Qv.mp hv]at e;exact hw.1 (e▸hu)⟩,fun b hb=>?_,?_,uo os a⟩
 ·rcases Qw.mp hb with z|z
  ·exact sub b z
  ·rw[Qv.mp z];exact ha
 ·rw[mC,good,Bool.true_and,<-sO];exact hw.2
theorem oh(hk:(aE st).Nodup):(aW st every).Nodup:=((aR _).nodup_iff.mpr hk).sublist List.filter_sublist
theorem uG:(aW st every).Pairwise (·<=·):=(i6 _).sublist List.filter_sublist
theorem Led.whole{os:List Int}{p:Pc}(hk:(aE st).Nodup)(h:Led st every x os p)(hl:p.1.length=(aW st every).length):bq os=aW st every:=by
 have e:=h.eq;rw[e]at hl;rw[(aR os).length_eq]at hl;refine(kR ((List.perm_ext_iff_of_nodup (oh hk) h.nd).mpr fun a=>⟨fun ha=>?_,h.sub a⟩) uG).symm;by_cases hc:a∈os
 ·exact hc
 ·have:=List.Nodup.length_le_of_subset (ZG.mpr ⟨hc,h.nd⟩) (fun b hb=>by
   rcases QM.mp hb with rfl|z
   ·exact ha
   ·exact h.sub b z)
  rw[QY]at this;omega
theorem qv{ps:List Pc}(h0:([],x)∈ps)(hc:∀p∈ps,∀w∈iP st every p,w.2∈ps):∀(m:Nat) (os:List Int),os.length=m->os.Nodup->(∀a∈os,a∈aW st every)->iQ st every [] x os=true->(bq os,lP st x os)∈ps:=by
 intro m;induction m with
 |zero=>
  intro os hl _ _ _;rw[Z8.mp hl];have e:bq []=[]:=Z8.mp (aR []).length_eq;rw[e];exact h0
 |succ m ih=>
  intro os hl nd sub hg;rcases List.eq_nil_or_concat os with rfl|⟨q,a,hq⟩
  ·cases hl
  rw[ZL]at hq;subst hq;rw[mC,Qm]at hg;obtain⟨n1,_,n3⟩:=Qe.mp nd;have:=ih q (by rw[Q6]at hl;simpa using hl) n1 (fun b hb=>sub b (Qd _ hb)) hg.1;have hw:=hc _ this (a,pV st (bq q,lP st x q) a) (by
   unfold iP;refine QR.mpr ⟨a,Qp.mpr ⟨sub a (by simp),?_⟩,rfl⟩;unfold vC;rw[Qm,Bool.not_eq_true',decide_eq_false_iff_not,zJ];exact⟨fun z=>n3 a z a (by simp) rfl,by rw[sO];exact hg.2⟩)
  rw[uo]at hw;exact hw
end
def ye(A:List Int):Nat->List (List Int)
 |0=>[[]]
 |n+1=>[]::A.flatMap fun a=>(ye A n).map (a::·)
theorem qC{A:List Int}:∀(n:Nat) {os:List Int},os.length<=n->(∀a∈os,a∈A)->os∈ye A n
 |0,os,h,_=>by
  have e:os=[]:=Z8.mp (by omega);rw[e];exact Qv.mpr rfl
 |n+1,[],_,_=>QU
 |n+1,a::os,h,hm=>QD _ (List.mem_flatMap.mpr ⟨a,hm a QU,QR.mpr ⟨os,qC n (by simpa using h) fun b hb=>hm b (QD _ hb),rfl⟩⟩)
theorem kK{A:List Int}{k:Nat}(hA:A.length<=k):∀n:Nat,(ye A (n+1)).length<=1+k*(ye A n).length:=fun n=>by
 have:∀B:List Int,(B.flatMap fun a=>(ye A n).map (a::·)).length=B.length*(ye A n).length:=fun B=>by
  induction B with
  |nil=>simp
  |cons b B ih=>rw[List.flatMap_cons,Q6,ih,Q5,QY,Nat.succ_mul,Nat.add_comm]
 show(_::_).length<=_;rw[QY,this];have:=Nat.mul_le_mul_right (ye A n).length hA;omega
theorem vw{A:List Int}(hA:A.length<=5):(ye A 5).length<=3906:=by
 have h0:(ye A 0).length=1:=rfl;have h1:=kK hA 0;have h2:=kK hA 1;have h3:=kK hA 2;have h4:=kK hA 3;have h5:=kK hA 4;simp only[Nat.zero_add,Nat.reduceAdd]at h1 h2 h3 h4 h5;omega
def dk(ks:List Kt):List (NK×U):=ks.map fun e=>(pcK e.1,U.ref e.2.1)
abbrev pl(ks:List Kt):List Pc:=ks.map (·.1)
theorem n6{p q:Pc}(h:pcK p=pcK q):p=q:=by
 unfold pcK at h;injection h with h1 h2;injection h2 with h2 _;exact Prod.ext h1 h2
theorem AE(ks:List Kt):(dk ks).map (·.1)=(pl ks).map pcK:=by unfold dk pl;rw[Qg,Qg];rfl
theorem GR{ks:List Kt}{q:Pc}(h:q∉pl ks):aS (dk ks) (pcK q)=none:=du.mpr fun z=>by
 rw[AE]at z;obtain⟨p,hp,e⟩:=QR.mp z;exact h (n6 e▸hp)
theorem AD{ks:List Kt}{e:Kt}(nd:(pl ks).Nodup)(h:e∈ks):aS (dk ks) (pcK e.1)=some (.ref e.2.1):=by
 obtain⟨l,r,rfl⟩:=List.append_of_mem h;have:e.1∉pl l:=fun z=>by
  rw[pl,QV]at nd;exact(Qe.mp nd).2.2 _ z _ QU rfl
 unfold dk;rw[QV,QX];exact kL fun z=>this (by
  obtain⟨f,hf,he⟩:=QR.mp z;obtain⟨g,hg,rfl⟩:=QR.mp hf;exact QR.mpr ⟨g,hg,n6 he⟩)
def Hd(c cA:Cl):Fn:=fnU 7 2 (cN (nF c cA) cA 9000)
section
variable{c cA:Cl}{Y:Sto}{st:St}{every:Bool}{L:Nat}{x:List Int}
structure OkS(st:St)(every:Bool)(x:List Int)(Y:Sto)(ks:List Kt)(stk:List Pc)(Z:Sto):Prop where
 ex:∃G,Z=Y++G
 d:Z[Y.length]?=some (.dnt (dk ks))
 l:Z[Y.length+2]?=some (.lst (stk.map pcU))
 at_:∀e∈ks,Z[e.2.1]?=some (.lst (e.2.2.map U.int))/\e.2.1≠Y.length+2/\Y.length<e.2.1
 nd:(pl ks).Nodup
 led:∀e∈ks,Led st every x e.2.2 e.1
 fst:([],x)∈pl ks
 sub:∀p∈stk,p∈pl ks
theorem OkS.few{ks:List Kt}{stk:List Pc}{Z:Sto}(h:OkS st every x Y ks stk Z)(hl:(aW st every).length<=5):ks.length<=3906:=by
 have n1:(ks.map (·.2.2)).Nodup:=by
  have:=ZF.mp h.nd;refine ZF.mpr (List.pairwise_map.mpr ((List.pairwise_map.mp this).imp_of_mem fun{e f} he hf hn z=>hn ?_));rw[(h.led e he).eq,(h.led f hf).eq,z]
 have:=List.Nodup.length_le_of_subset n1 (l₂:=ye (aW st every) 5) fun os ho=>by
  obtain⟨e,he,rfl⟩:=QR.mp ho;have ld:=h.led e he;exact qC 5 (Qj (List.Nodup.length_le_of_subset ld.nd ld.sub) hl) ld.sub
 rw[Q5]at this;exact Qj this (vw hl)
theorem OkS.app{ks:List Kt}{stk:List Pc}{Z:Sto}(h:OkS st every x Y ks stk Z)(X:Sto):OkS st every x Y ks stk (Z++X):=by
 obtain⟨G,rfl⟩:=h.ex;exact⟨⟨G++X,Q3 ..⟩,ah h.d,ah h.l,fun e he=>⟨ah (h.at_ e he).1,(h.at_ e he).2⟩,h.nd,h.led,h.fst,h.sub⟩
theorem OkS.ni{ks:List Kt}{stk:List Pc}{Z:Sto}(h:OkS st every x Y ks stk Z)(q:Pc):Dd (pcU q) (.ref Y.length) Z=some (.bl (!decide (q∈pl ks)),Z):=by
 have e:(aS (dk ks) (pcK q)).isSome=decide (q∈pl ks):=by
  by_cases hq:q∈pl ks
  ·obtain⟨e,he,rfl⟩:=QR.mp hq;rw[AD h.nd he,decide_eq_true hq];rfl
  ·rw[GR hq,decide_eq_false hq];rfl
 unfold pcU;simp only[Dd,kq,Q4,GQ,h.d,e]
theorem OkS.ix{ks:List Kt}{stk:List Pc}{Z:Sto}(h:OkS st every x Y ks stk Z){e:Kt}(he:e∈ks):Es (.ref Y.length) (pcU e.1) Z=some (.ref e.2.1,Z):=by
 unfold pcU;simp only[Es,kq,Q4,GQ,h.d,AD h.nd he]
theorem Jw{ks:List Kt}{stk:List Pc}{Z:Sto}{e:Kt}{a:Int}{tu:U}(h:OkS st every x Y ks stk Z)(he:e∈ks)(ha:a∈aW st every)(hw:vC st every e.1 a=true)(hl:(aW st every).length<=5)(hs:stk.length<=9000) :
  Wp (d6 (nF c cA) cA 9000 [some (.ref L),some tu,some (.ref Y.length),some (.ref (Y.length+2)),some (pcU e.1),some (.int a),some (pcU (pV st e.1 a))] Z) fun s=>s.1=.nx/\s.2.1=[some (.ref L),some tu,some (.ref Y.length),some (.ref (Y.length+2)),some (pcU e.1),some (.int a),some (pcU (pV st e.1 a))]/\
   ∃ks' stk',OkS st every x Y ks' stk' s.2.2/\pV st e.1 a∈pl ks'/\(∀f∈ks,f∈ks')/\(∀q,q∈pl ks'->q∈pl ks\/q∈stk')/\(∀q∈stk,q∈stk')/\ks'.length-ks.length=stk'.length-stk.length/\ks.length<=ks'.length/\stk.length<=stk'.length/\∀i,i<Z.length->i≠Y.length->i≠Y.length+2->s.2.2[i]?=Z[i]?:=by
 have hni:=h.ni (pV st e.1 a);obtain⟨q,hq⟩:∃q,q=pV st e.1 a:=⟨_,rfl⟩;rw[<-hq]at hni ⊢;unfold d6;by_cases hc:q∈pl ks
 ·rw[decide_eq_true hc]at hni;generalize pcU q=qu at hni ⊢;generalize pcU e.1=pu;rwa[hni,aH];exact⟨trivial,trivial,ks,stk,h,hc,fun f hf=>hf,fun q hq=>.inl hq,fun q hq=>hq,by omega,by omega,by omega,fun i _ _ _=>trivial⟩
 ·rw[decide_eq_false hc]at hni;have hix:=h.ix he;have hfew:=h.few hl;obtain⟨G,hG⟩:=h.ex;have lD:Y.length<Z.length:=(Q9.mp h.d).1;have lK:Y.length+2<Z.length:=(Q9.mp h.l).1;obtain⟨a1,a2,a3⟩:=h.at_ e he;obtain⟨os,hos⟩:∃os,os=e.2.2:=⟨_,rfl⟩;rw[<-hos]at a1;obtain⟨Z1,hZ1⟩:∃Z1,Z1=Z++[O.lst [U.int a]]:=⟨_,rfl⟩;obtain⟨Z2,hZ2⟩:∃Z2,Z2=Z1++[O.lst ((os++[a]).map U.int)]:=⟨_,rfl⟩;have ol:os.length<=5:=by rw[hos];exact Qj (List.Nodup.length_le_of_subset (h.led e he).nd (h.led e he).sub) hl
  have cat:j8 (.ref e.2.1) (.ref Z.length) Z1=some (.ref Z1.length,Z2):=by
   have g1:Z1[e.2.1]?=some (.lst (os.map U.int)):=by rw[hZ1];exact ah a1
   have g2:Z1[Z.length]?=some (.lst [U.int a]):=by rw[hZ1,ga0];rfl
   have ec:j8 (.ref e.2.1) (.ref Z.length) Z1=mD (.ref e.2.1) (.ref Z.length) Z1:=by simp only[j8]
   rw[ec];simp only[mD,g1,g2];rw[if_pos (by unfold LIM;simp;omega),hZ2,QV];rfl
  have d2:Z2[Y.length]?=some (.dnt (dk ks)):=by rw[hZ2,hZ1];exact ah (ah h.d)
  have l2:Z2[Y.length+2]?=some (.lst (stk.map pcU)):=by rw[hZ2,hZ1];exact ah (ah h.l)
  have nk:v8 [.tup (q.1.map U.int),.tup (q.2.map U.int)]=some (pcK q):=kq q;have pn:eJ (dk ks) (pcK q) (.ref Z1.length)=dk (ks++[(q,Z1.length,os++[a])]):=by
   rw[lG (fun z=>by rw[AE]at z;obtain⟨p,hp,e⟩:=QR.mp z;exact hc (n6 e▸hp))];unfold dk;rw[QV];rfl
  obtain⟨Z3,hZ3⟩:∃Z3,Z3=Z2.set Y.length (.dnt (dk (ks++[(q,Z1.length,os++[a])]))):=⟨_,rfl⟩;have lD2:Y.length<Z2.length:=(Q9.mp d2).1;have l3:Z3[Y.length+2]?=some (.lst (stk.map pcU)):=by rw[hZ3,Qy (by omega)];exact l2
  have lK3:Y.length+2<Z3.length:=(Q9.mp l3).1;have sx:∀ρ:Rho,cOp j8 (cOp Es (ag 2) (ag 4)) (iU (af (ag 5) aG)) ρ Z=some (.ref Z1.length,Z2)->ag 2 ρ Z2=some (.ref Y.length,Z2)->ag 6 ρ Z2=some (pcU q,Z2)->kC (ag 2) (ag 6) (cOp j8 (cOp Es (ag 2) (ag 4)) (iU (af (ag 5) aG))) ρ Z=some (.nx,ρ,Z3):=fun ρ h1 h2 h3=>by
   unfold pcU at h3;simp only[kC,h1,h2,h3,d2,nk,Q4];rw[if_pos (by unfold dk LIM;rw[Q5];omega),pn,hZ3]
  have sx':=sx [some (.ref L),some tu,some (.ref Y.length),some (.ref (Y.length+2)),some (pcU e.1),some (.int a),some (pcU q)] (by
   generalize pcU q=qu;generalize pcU e.1=pu at hix ⊢;have hl1:∀ρ:Rho,ag 5 ρ Z=some (.int a,Z)->iU (af (ag 5) aG) ρ Z=some (.ref Z.length,Z1):=fun ρ h=>by
    rw[EO,nK,h,hZ1];rfl
   have hl2:=hl1 [some (.ref L),some tu,some (.ref Y.length),some (.ref (Y.length+2)),some pu,some (.int a),some qu] rfl;rwa[hix,hl2,cat]) rfl rfl
  have hA:(stk.map pcU).length<LIM:=by unfold LIM;rw[Q5];omega
  have em:stk.map pcU++[pcU q]=(stk++[q]).map pcU:=by rw[QV];rfl
  obtain⟨su,hsu⟩:∃su,su=stk.map pcU:=⟨_,rfl⟩;have l3':=l3;rw[<-hsu]at l3' hA;have em':su++[pcU q]=(stk++[q]).map pcU:=by rw[hsu];exact em
  have fin:OkS st every x Y (ks++[(q,Z1.length,os++[a])]) (stk++[q]) (Z3.set (Y.length+2) (.lst ((stk++[q]).map pcU))):=by
   have z2:∃G',Z2=Y++G':=⟨_,by rw[hZ2,hZ1,hG,Q3,Q3]⟩;obtain⟨G',hG'⟩:=z2;refine⟨⟨(G'.set 0 (.dnt (dk (ks++[(q,Z1.length,os++[a])])))).set 2 (.lst ((stk++[q]).map pcU)),by rw[hZ3,hG',gs0,gs]⟩,?_,?_,fun f hf=>?_,?_,fun f hf=>?_,?_,fun p hp=>?_⟩
   ·rw[Qy (by omega),hZ3,ZC,if_pos rfl,if_pos lD2]
   ·rw[ZC,if_pos rfl,if_pos lK3]
   ·rcases Qw.mp hf with z|z
    ·obtain⟨b1,b2,b3⟩:=h.at_ f z;refine⟨?_,b2,b3⟩;rw[Qy (by omega),hZ3,Qy (by omega),hZ2,hZ1];exact ah (ah b1)
    ·rw[Qv.mp z];have lz:Z1.length=Z.length+1:=by rw[hZ1];simp
     refine⟨?_,by dsimp only;omega,by dsimp only;omega⟩;dsimp only;rw[Qy (by omega),hZ3,Qy (by omega),hZ2,ga0];rfl
   ·rw[pl,QV];exact Qe.mpr ⟨h.nd,by simp,fun u hu v hv z=>by rw[Qv.mp hv]at z;have z':u=q:=z;rw[z']at hu;exact hc hu⟩
   ·rcases Qw.mp hf with z|z
    ·exact h.led f z
    ·rw[Qv.mp z,hq,hos];exact(h.led e he).step ha hw
   ·rw[pl,QV];exact Qd _ h.fst
   ·rw[pl,QV];rcases Qw.mp hp with z|z
    ·exact Qd _ (h.sub p z)
    ·exact QL _ (by rw[Qv.mp z];simp)
  generalize pcU q=qu at *;generalize pcU e.1=pu at *;rwa[hni,sx',l3',iV hA,aH];rw[em'];refine⟨trivial,trivial,_,_,fin,?_,fun f hf=>Qd _ hf,fun p hp=>?_,fun p hp=>Qd _ hp,by simp,by simp,by simp,fun i hi n1 n2=>?_⟩
  ·rw[pl,QV];exact QL _ (by simp)
  ·rw[pl,QV]at hp;rcases Qw.mp hp with z|z
   ·exact .inl z
   ·exact .inr (QL _ (by simpa using z))
  ·rw[Qy (by omega),hZ3,Qy (by omega),hZ2,hZ1,QN (by simp;omega),QN hi]
end
section
variable{c cA:Cl}{n:Int}{S Y:Sto}{st:St}{every:Bool}{L:Nat}{x:List Int}
theorem lO:∀(os x:List Int),(lP st x os).length=x.length
 |[],x=>rfl
 |a::os,x=>by
  show(lP st (chg st a x) os).length=_;rw[lO os,GW]
def ClP(st:St)(every:Bool)(ks:List Kt)(stk:List Pc):Prop:=∀p∈pl ks,p∉stk->p.1.length≠(aW st every).length/\∀w∈iP st every p,w.2∈pl ks
def K5(st:St)(every:Bool)(x:List Int)(Y:Sto)(r:U×Sto):Prop:=(∃G,r.2=Y++G)/\∃j,Y.length<=j/\
  ((∃os,r.1=.tup [.str "good",.ref j]/\r.2[j]?=some (.lst (os.map U.int))/\bq os=aW st every/\iQ st every [] x os=true)\/
   (∃ps:List Pc,r.1=.tup [.str "none",.ref j]/\(r.2[j]?=some (.lst (ps.map pcU))/\ps.length<=3906)/\∀os,bq os=aW st every->iQ st every [] x os=false))
theorem J3(h:CrA c cA S st every n Y L)(hx:x.length=n.toNat)(hn:n<=100)(hl:(aW st every).length<=5):Wp (Hd c cA [.ref L,.tup (x.map U.int)] Y) (K5 st every x Y):=by
 obtain⟨r1,r2,D2,h1,h2,h3,h4⟩:=h.ask.ex;unfold Hd;rw[nv];unfold cN;have s0:bq []=[]:=Z8.mp (aR []).length_eq;have hd:qy (gp (af (gp aG) (af (ag 1) aG))) (iU aG) [some (.ref L),some (.tup (x.map U.int)),none,none,none,none,none] Y=some (.ref Y.length,Y++[.dnt (dk [(([],x),Y.length+1,[])]),.lst []]):=by
  have h1:∀ρ:Rho,ag 1 ρ (Y++[.dnt []])=some (.tup (x.map U.int),Y++[.dnt []])->gp (af (gp aG) (af (ag 1) aG)) ρ (Y++[.dnt []])=some (.tup [.tup [],.tup (x.map U.int)],Y++[.dnt []]):=fun ρ h=>by
   generalize x.map U.int=xu at h ⊢;simp only[EH,nK,ya,h,Q4,nJ,nI,x8]
  have nk:v8 [.tup [],.tup (x.map U.int)]=some (pcK ([],x)):=kq ([],x);unfold qy;rw[h1 _ rfl,Q4];have hl:∀ρ:Rho,iU aG ρ (Y++[O.dnt []])=some (.ref (Y.length+1),Y++[.dnt [],.lst []]):=fun ρ=>by
   show some (U.ref (Y++[O.dnt []]).length,Y++[O.dnt []]++[.lst []])=_;rw[Q6,Q3];rfl
  simp only[hl,Q4,nk,ga0,ZY];rw[gs0];rfl
 have kt:∀ρ:Rho,ag 1 ρ (Y++[O.dnt (dk [(([],x),Y.length+1,[])]),.lst []])=some (.tup (x.map U.int),Y++[O.dnt (dk [(([],x),Y.length+1,[])]),.lst []])->iU (af (gp (af (gp aG) (af (ag 1) aG))) aG) ρ (Y++[O.dnt (dk [(([],x),Y.length+1,[])]),.lst []])=some (.ref (Y.length+2),Y++[O.dnt (dk [(([],x),Y.length+1,[])]),.lst [],.lst [pcU ([],x)]]):=fun ρ h=>by
  have ep:pcU ([],x)=.tup [.tup [],.tup (x.map U.int)]:=rfl;rw[ep];generalize x.map U.int=xu at h ⊢;generalize dk [(([],x),Y.length+1,[])]=dd at h ⊢;simp only[EO,EH,nK,ya,h,Q4,nJ,nI,x8,DK];simp
 have kt':=kt [some (.ref L),some (.tup (x.map U.int)),some (.ref Y.length),none,none,none,none] rfl;have ok0:OkS st every x Y [(([],x),Y.length+1,[])] [([],x)] (Y++[O.dnt (dk [(([],x),Y.length+1,[])]),.lst [],.lst [pcU ([],x)]]):=by
  refine⟨⟨_,rfl⟩,by rw[ga0];rfl,by rw[ga];rfl,fun e he=>?_,by simp,fun e he=>?_,by simp,fun p hp=>by simpa using hp⟩
  ·rw[Qv.mp he];exact⟨by rw[ga];rfl,by dsimp only;omega,by dsimp only;omega⟩
  ·rw[Qv.mp he];exact⟨ZQ,fun a ha=>(by cases ha),rfl,by rw[s0];rfl⟩
 generalize hZ0:Y++[O.dnt (dk [(([],x),Y.length+1,[])]),.lst [],.lst [pcU ([],x)]]=Z0 at kt' ok0;generalize hZ00:Y++[O.dnt (dk [(([],x),Y.length+1,[])]),.lst []]=Z00 at kt' hd;obtain⟨xu,hxu⟩:∃xu,xu=x.map U.int:=⟨_,rfl⟩;rw[<-hxu]at hd kt' ⊢;rwa[hd,kt',aH];repeat with_reducible refine Wp.bind ?_
 refine yB (fun m ρ Z=>∃ks stk r4 r5 r6,ρ=[some (.ref L),some (.tup xu),some (.ref Y.length),some (.ref (Y.length+2)),r4,r5,r6]/\OkS st every x Y ks stk Z/\ClP st every ks stk/\m=2*(4000-ks.length)+stk.length/\stk.length<=ks.length) (fun m ρ Z hI=>?_) 9000 (2*(4000-1)+1) _ _ (by omega) ⟨_,_,none,none,none,rfl,ok0,fun p hp hn=>absurd (by simpa using hp) hn,rfl,by simp⟩;obtain⟨ks,stk,r4,r5,r6,rfl,ok,cl,hm,hsk⟩:=hI;have few:=ok.few hl;have hsl:=ok.l;obtain⟨su,hsu⟩:∃su,su=stk.map pcU:=⟨_,rfl⟩;have lsu:su.length=stk.length:=by rw[hsu,Q5]
 have hsl':=hsl;rw[<-hsu]at hsl';have t1:aF (cOp fGt (cCB oP (af (ag 3) aG)) (cC (.int 0))) [some (.ref L),some (.tup xu),some (.ref Y.length),some (.ref (Y.length+2)),r4,r5,r6] Z=some (decide ((stk.length:Int)>0),Z):=by
  rwa[hsl',lsu]
 rw[t1];simp only[aH];refine⟨fun hz=>?_,fun hz=>?_⟩
 ·have hs:stk=[]:=by have:=of_decide_eq_false hz;exact Z8.mp (by omega)
  subst hs;have hL:tK [.ref Y.length] Z=some (.ref Z.length,Z++[.lst ((pl ks).map pcU)]):=by
   simp only[tK,ok.d];unfold dk pl;rw[Qg,Qg];rfl
  obtain⟨pu,hpu⟩:∃pu,pu=(pl ks).map pcU:=⟨_,rfl⟩;rw[<-hpu]at hL;rwa[hL,aH];obtain⟨G,hG⟩:=ok.ex;refine⟨⟨_,by rw[hG,Q3]⟩,Z.length,by rw[hG];simp,.inr ⟨pl ks,rfl,⟨by rw[ga0,hpu];rfl,by rw[Q5];exact few⟩,fun os ho=>?_⟩⟩;cases hg:iQ st every [] x os with
  |false=>rfl
  |true=>
   have pm:=(aR os).symm;rw[ho]at pm;have ond:=oh (every:=every) h.hk;have:=qv (st:=st) (every:=every) ok.fst (fun p hp w hw=>(cl p hp (by simp)).2 w hw) os.length os rfl (pm.nodup_iff.mpr ond) (fun a ha=>pm.mem_iff.mp ha) hg;exact absurd (by rw[ho]) (cl _ this (by simp)).1
 ·have hz':=of_decide_eq_true hz;obtain⟨s',p,rfl⟩:∃s' p,stk=s'++[p]:=by
   rcases List.eq_nil_or_concat stk with rfl|⟨q,a,hq⟩
   ·simp at hz'
   ·exact⟨q,a,by rw[hq,ZL]⟩
  obtain⟨e,he,hep⟩:=QR.mp (ok.sub p (by simp));have hep':e.1=p:=hep;obtain⟨Z1,hZ1⟩:∃Z1,Z1=Z.set (Y.length+2) (.lst (s'.map pcU)):=⟨_,rfl⟩;have lK:Y.length+2<Z.length:=(Q9.mp hsl).1;have pop:xG (.ref (Y.length+2)) [] Z=some (pcU p,Z1):=by
   have e1:(s'++[p]).map pcU=s'.map pcU++[pcU p]:=by rw[QV];rfl
   rw[e1]at hsl;have e2:(s'.map pcU++[pcU p])[(s'.map pcU++[pcU p]).length-1]?=some (pcU p):=by simp
   simp only[xG,hsl,e2,Q4,List.dropLast_concat];rw[hZ1]
  have ok1:OkS st every x Y ks s' Z1:=by
   obtain⟨G,hG⟩:=ok.ex;refine⟨⟨G.set 2 (.lst (s'.map pcU)),by rw[hZ1,hG,gs]⟩,by rw[hZ1,Qy (by omega)];exact ok.d,by rw[hZ1,ZC,if_pos rfl,if_pos lK],fun f hf=>?_,ok.nd,ok.led,ok.fst,fun q hq=>ok.sub q (Qd _ hq)⟩;obtain⟨b1,b2,b3⟩:=ok.at_ f hf;exact⟨by rw[hZ1,Qy (by omega)];exact b1,b2,b3⟩
  have hA:CrA c cA S st every n Z1 L:=by obtain⟨G,hG⟩:=ok1.ex;rw[hG];exact h.app G
  obtain⟨r1',r2',D',g1,g2,_⟩:=hA.ask.ex;have F1:kA cA 1 (.ref L,Z1)=some (.ref r1',Z1):=dF g1 rfl;have led:=ok.led e he;have pl1:p.1.length<=5:=by
   rw[<-hep',led.eq,(aR _).length_eq];exact Qj (List.Nodup.length_le_of_subset led.nd led.sub) hl
  have pl2:p.2.length=n.toNat:=by rw[<-hep',led.eq];exact(lO _ _).trans hx
  have x0:fIx (pcU p) (.int 0) Z1=some (.tup (p.1.map U.int),Z1):=rfl;obtain⟨ou,hou⟩:∃ou,ou=(aW st every).map U.int:=⟨_,rfl⟩;have lou:ou.length=(aW st every).length:=by rw[hou,Q5]
  rw[<-hou]at g2;obtain⟨gu,hgu⟩:∃gu,gu=p.1.map U.int:=⟨_,rfl⟩;have lgu:gu.length=p.1.length:=by rw[hgu,Q5]
  rw[<-hgu]at x0;have hix:=ok1.ix he;rw[hep']at hix;obtain⟨⟨u,Z2⟩,ew,j,rfl,⟨G2,hG2⟩,lj,gj⟩:=yz hA (p:=p) pl2 hn (by omega);dsimp only at hG2 gj;unfold gv;by_cases hw:p.1.length=(aW st every).length
  ·have dw:decide ((p.1.length:Int)=((aW st every).length:Int))=true:=decide_eq_true (by rw[hw]);generalize pcU p=pu at *;rwa[hsl',pop,x0,lgu,F1,g2,lou,dw,hix,aH];refine .inr ⟨_,rfl,ok1.ex,e.2.1,Nat.le_of_lt (ok1.at_ e he).2.2,.inl ⟨e.2.2,rfl,(ok1.at_ e he).1,?_,led.good⟩⟩;exact led.whole h.hk (by rw[hep'];exact hw)
  ·have dw:decide ((p.1.length:Int)=((aW st every).length:Int))=false:=decide_eq_false (by omega);obtain⟨pu,hpu⟩:∃pu,pu=pcU p:=⟨_,rfl⟩;rw[<-hpu]at x0 hix ew pop;rwa[hsl',pop,x0,lgu,F1,g2,lou,dw,aH];refine BG (S1:=Z2) (lT (l:=j) (us:=(iP st every p).map wyU) (by rwa[ew]) gj) (pG (f:=wyU) (fun rest ρ Z'=>∃dn ks' stk' r5 r6,iP st every p=dn++rest/\ρ=[some (.ref L),some (.tup xu),some (.ref Y.length),some (.ref (Y.length+2)),some pu,r5,r6]/\OkS st every x Y ks' stk' Z'/\(∀w∈dn,w.2∈pl ks')/\(∀f∈ks,f∈ks')/\(∀q,q∈pl ks'->q∈pl ks\/q∈stk')/\(∀q∈s',q∈stk')/\ks'.length-ks.length=stk'.length-s'.length/\ks.length<=ks'.length/\s'.length<=stk'.length/\Z'[j]?=some (.lst ((iP st every p).map wyU))) (fun ρ Z' hI=>?_) (fun w rest ρ Z' hI=>?_) (iP st every p) _ _ ⟨[],ks,s',r5,r6,rfl,rfl,by rw[hG2];exact ok1.app G2,fun w hw=>(by cases hw),fun f hf=>hf,fun q hq=>.inl hq,fun q hq=>hq,by omega,by omega,by omega,gj⟩)
   ·obtain⟨dn,ks',stk',r5,r6,hd,rfl,ok',hdn,hks,hnew,hst,e1,e2,e3,gj'⟩:=hI;rw[QJ]at hd;refine⟨gj',.inl ⟨rfl,_,?_,ks',stk',_,_,_,rfl,ok',fun q hq hn=>?_,rfl,?_⟩⟩
    ·have f':=ok'.few hl;rw[Q6,Qa]at hm;omega
    ·have hqk:=(hnew q hq).resolve_right hn;have mono:∀r,r∈pl ks->r∈pl ks':=fun r hr=>by
      obtain⟨f,hf,rfl⟩:=QR.mp hr;exact QR.mpr ⟨f,hks f hf,rfl⟩
     by_cases hqp:q=p
     ·subst hqp;exact⟨hw,fun w hw'=>hdn w (by rw[<-hd];exact hw')⟩
     ·obtain⟨c1,c2⟩:=cl q hqk (fun z=>by
       rcases Qw.mp z with z|z
       ·exact hn (hst q z)
       ·exact hqp (Qv.mp z))
      exact⟨c1,fun w hw'=>mono _ (c2 w hw')⟩
    ·rw[Q6,Qa]at hsk;omega
   ·obtain⟨dn,ks',stk',r5,r6,hd,rfl,ok',hdn,hks,hnew,hst,e1,e2,e3,gj'⟩:=hI;refine⟨gj',?_⟩;have hwm:w∈iP st every p:=by rw[hd];simp
    obtain⟨a,haf,rfl⟩:=QR.mp hwm;obtain⟨ha1,ha2⟩:=Qp.mp haf;refine .of (r:=([some (.ref L),some (.tup xu),some (.ref Y.length),some (.ref (Y.length+2)),some pu,some (.int a),some (pcU (pV st p a))],Z')) rfl ?_;have f':=ok'.few hl;have put:=Jw (c:=c) (cA:=cA) (L:=L) (tu:=.tup xu) ok' (hks e he) (a:=a) ha1 (by rw[hep'];exact ha2) hl (by rw[Q6,Qa]at hsk;omega);rw[hep',<-hpu]at put;have lj':j<Z'.length:=(Q9.mp gj').1;have lZ1:Y.length+2<Z1.length:=(Q9.mp ok1.l).1;refine put.mono fun s hs=>?_;obtain⟨q1,q2,ks2,stk2,q3,q4,q5,q6,q7,q8,q9,q10,q11⟩:=hs;refine .inl ⟨q1,dn++[(a,pV st p a)],ks2,stk2,_,_,by simp[hd],q2,q3,fun w hw=>?_,fun f hf=>q5 f (hks f hf),fun q hq=>?_,fun q hq=>q7 q (hst q hq),by omega,by omega,by omega,by rw[q11 j lj' (by omega) (by omega)];exact gj'⟩
    ·rcases Qw.mp hw with z|z
     ·obtain⟨f,hf,hfe⟩:=QR.mp (hdn w z);rw[<-hfe];exact QR.mpr ⟨f,q5 f hf,rfl⟩
     ·rw[Qv.mp z];exact q4
    ·rcases q6 q hq with z|z
     ·rcases hnew q z with y|y
      ·exact .inl y
      ·exact .inr (q7 q y)
     ·exact .inr z
end
def Be(c cA:Cl):Fn:=fnU 4 2 (eR (rH c) (rL c cA) cA)
def K4(c cA:Cl):Fn:=fnU 4 4 (ud (Hd c cA) (Be c cA))
def Og(st:St)(every:Bool)(x:List Int):Prop:=∃os,bq os=aW st every/\iQ st every [] x os=true
section
variable{c cA:Cl}{n w:Int}{S:Sto}{st:St}{every:Bool}{l:Nat}{x:List Int}{evs:List Ev}{wu:U}
theorem Hb(hns:c.ns.length=5)(hna:cA.ns.length=3)(hl:S[l]?=some (.lst (evs.map Ev.u)))(lg:jD n w 5 evs)(he:evs.length<=900):∃G L,Be c cA [.ref l,.bl every] S=some (.ref L,S++G)/\CrA c cA S (aQ [] evs) every n (S++G) L:=by
 unfold Be;rw[tP];have h1:=AM (c:=c) (S:=S) (N:=5) hns hl lg.lo he;have bi:=rE evs [] lg.lo ZQ Nz;have c5:=lg.cnt;obtain⟨X,h2,ask⟩:=Gv (c:=c) (cA:=cA) (S:=S) (G:=[]) (every:=every) hna lg.kd bi (by omega);simp only[QJ,Qk]at h2 ask;have hb:∀a t,aS (aQ [] evs) a=some t->∀p∈t.nd,0<=p.1/\p.1<n:=fun a t hv p hp=>by
  have:=oz evs [] lg.lo Lm a t hv;exact this.1 p ((this.2 p).mp hp)
 obtain⟨r1,r2,D,i1,i2,i3,i4⟩:=ask.ex;have ol:=fC (st:=aQ [] evs) (every:=every);have F1:kA cA 1 (.ref (crs c S (aQ [] evs)).length,crs c S (aQ [] evs)++X)=some (.ref r1,crs c S (aQ [] evs)++X):=dF i1 rfl;obtain⟨ou,hou⟩:∃ou,ou=(aW (aQ [] evs) every).map U.int:=⟨_,rfl⟩;have lou:ou.length=(aW (aQ [] evs) every).length:=by rw[hou,Q5]
 have dl:decide (((aW (aQ [] evs) every).length:Int)>8)=false:=decide_eq_false (by omega);rw[<-hou]at i2;obtain⟨C,hC⟩:∃C,crs c S (aQ [] evs)=S++C:=⟨_,rfl⟩;refine⟨C++X,(crs c S (aQ [] evs)).length,?_,?_⟩
 ·rw[<-Q3,<-hC];rwa[eR,h1,h2,F1,i2,lou,dl]
 ·rw[<-Q3,<-hC];exact⟨⟨X,rfl⟩,ask,lg.kd,bi,by omega,hb⟩
theorem Np(hns:c.ns.length=5)(hna:cA.ns.length=3)(hl:S[l]?=some (.lst (evs.map Ev.u)))(lg:jD n w 5 evs)(he:evs.length<=900)(hx:x.length=n.toNat)(hn:n<=100):Wp (K4 c cA [wu,.tup (x.map U.int),.ref l,.bl every] S) (K5 (aQ [] evs) every x S):=by
 obtain⟨G,L,h1,h2⟩:=Hb (every:=every) hns hna hl lg he;have ol:=fC (st:=aQ [] evs) (every:=every);have c5:=lg.cnt;obtain⟨⟨u,Z⟩,h3,⟨G2,hG⟩,j,hj,h4⟩:=J3 h2 hx hn (by omega);unfold K4;rw[KS];generalize x.map U.int=xu at h3 ⊢;rwa[ud,h1,h3,aH];refine⟨⟨G++G2,by rw[<-Q3];exact hG⟩,j,?_,h4⟩;rw[Q6]at hj;omega
end
def bO:CS:=
 (ff (aF (cOp (fIn false) (cOp fIx (ag 3) (cC (.int 0))) (gp (af (cC (.str "done")) (af (cC (.str "fall")) aG))))) (fG (cBM mE (ag 1) (af (bz (iTp (cSl (ag 0) (some (ag 2)) none)) (gNm 0) (aF (cOp fEq (cOp fIx (ag 0) (cC (.int 0))) (cC (.str "begin")))) (gp (af (cOp fIx (ag 1) (cC (.int 1))) (af (cOp fIx (ag 0) (cC (.int 1))) aG))) 1 [3]) aG))) cf)
def eU:CS:=
 (bj (dI 1 (iU aG))
  (bj (me (jX (ag 0)) (gTp [2,3]) (bO ))
  (et (cCB iE (af (ag 1) aG)))))
theorem tR{a0:U}{S:Sto}:fnU 4 1 (eU ) [a0] S=((eU ) [some a0,none,none,none] S).bind kFn:=iO rfl
def gI(aU aP aT a6 aK:Fn):CS:=
 (bj (dA (cOp fIx (ag 2) (cC (.str "looks"))) (ag 3) (cCB aT (af (ag 0) (af (ag 3) aG))))
  (bj (dA (cOp fIx (ag 2) (cC (.str "puts"))) (ag 3) iR)
  (ff (aF (cOp fEq (cCB aP (af (ag 0) (af (ag 3) aG))) (cC (.str "done")))) (dA (cOp fIx (ag 2) (cC (.str "puts"))) (ag 3) (cCB a6 (af (ag 0) (af (ag 3) aG)))) cf)))
def e8(aU aP aT a6 aK:Fn):CS:=
 (bj (dI 2 (AW [((cC (.str "all")),(bz (iTp (cCB aU (af (ag 0) aG))) (gNm 0) (cOr (aF (ag 1)) (aF (cOp fEq (cCB aP (af (ag 2) (af (ag 0) aG))) (cC (.str "done"))))) (ag 0) 1 [1,0])),((cC (.str "looks")),iR),((cC (.str "puts")),iR)]))
  (bj (me (iTp (cOp fIx (ag 2) (cC (.str "all")))) (gNm 3) (gI aU aP aT a6 aK))
  (bj (dA (ag 2) (cC (.str "times")) (bz (iTp (cCB aK (af (ag 0) aG))) (gNm 0) (pD (aF (cOp (fIn false) (cOp fIx (ag 0) (cC (.int 0))) (cOp fIx (ag 1) (cC (.str "all"))))) (aF (cOp (fIn false) (cOp fIx (ag 0) (cC (.int 1))) (cOp fIx (ag 1) (cC (.str "all")))))) (ag 0) 1 [2]))
  (et (ag 2)))))
theorem tY{aU aP aT a6 aK:Fn}{a0 a1:U}{S:Sto}:fnU 4 2 (e8 aU aP aT a6 aK) [a0,a1] S=((e8 aU aP aT a6 aK) [some a0,some a1,none,none] S).bind kFn:=iO rfl
def gG:CS:=
 (bj (dI 5 (bz (iTp (cOp fIx (ag 0) (cC (.str "times")))) (gTp [0,1]) (pD (aF (cOp fEq (ag 1) (ag 2))) (aF (cOp (fIn true) (ag 0) (ag 3)))) (ag 0) 2 [4,1]))
  (bj (dI 6 (cOp (fIn true) (cC (.bl false)) (fg (iTp (cOp fIx (cOp fIx (ag 0) (cC (.str "looks"))) (ag 4))) (gTp [0,1]) (cOp fEq (cOp fIx (ag 2) (ag 0)) (ag 1)) 2 [2])))
  (ff (pD (aF (cOp (fIn true) (ag 4) (ag 1))) (pD (aF (cOp (oR false) (ag 5) (iU aG))) (aF (ag 6)))) (fG (cBM cq (ag 3) (af (gp (af (ag 4) (af (cCB fT (af (fg (jX (ag 2)) (gTp [0,1]) (mH (cOp fIx (cOp fIx (ag 3) (cC (.str "puts"))) (ag 2)) (ag 0) (ag 1)) 2 [4,0]) aG)) aG))) aG))) cf)))
def eV:CS:=
 (bj (dI 3 (iU aG))
  (bj (me (iTp (cOp fIx (ag 0) (cC (.str "all")))) (gNm 4) (gG ))
  (et (ag 3))))
theorem tV{a0 a1 a2:U}{S:Sto}:fnU 7 3 (eV ) [a0,a1,a2] S=((eV ) [some a0,some a1,some a2,none,none,none,none] S).bind kFn:=iO rfl
def jB(bD:Fn)(fuel:Nat):CS:=
 (bj (dI 9 (gp (af (cCB fT (af (cCB eM (af (cOp j8 (ag 5) (gp (af (ag 7) aG))) aG)) aG)) (af (ag 8) aG))))
  (ff (aF (cOp Dd (ag 9) (ag 4))) (bj (kC (ag 4) (ag 9) (cC (.bl true)))
  (fG (cBM cq (ag 3) (af (ag 9) aG)))) cf))
def m9(bD:Fn)(fuel:Nat):CS:=
 (bj (Hr (cBM xG (ag 3) aG) (gTp [5,6]))
  (bj (ff (aF (cOp fEq (cCB oP (af (ag 5) aG)) (cCB oP (af (cOp fIx (ag 0) (cC (.str "all"))) aG)))) (et (cC (.bl true))) cf)
  (me (iTp (cCB bD (af (ag 0) (af (ag 5) (af (ag 6) aG))))) (gTp [7,8]) (jB bD fuel))))
def g8(bD:Fn)(fuel:Nat):CS:=
 (bj (dI 3 (iU (af (gp (af (cCB fT (af (cCB eM (af (ag 1) aG)) aG)) (af (ag 2) aG))) aG)))
  (bj (dI 4 (qy (cOp fIx (ag 3) (cC (.int 0))) (cC (.bl true))))
  (bj (eN (aF (cOp (oR true) (ag 3) (iU aG))) (m9 bD fuel) fuel)
  (et (cC (.bl false))))))
theorem xO{bD:Fn}{fuel:Nat}{a0 a1 a2:U}{S:Sto}:fnU 10 3 (g8 bD fuel) [a0,a1,a2] S=((g8 bD fuel) [some a0,some a1,some a2,none,none,none,none,none,none,none] S).bind kFn:=iO rfl
def rM(es:List Ev):List Int:=(es.filter gZ).map Ev.at
def pH(es:List Ev):Ev->List (Int×Int)
 |.fin _ a=>(rM es).map fun b=>(a,b)
 |_=>[]
def p5:List Ev->List (Int×Int)
 |[]=>[]
 |e::es=>pH es e++p5 es
section
variable{n w:Int}{st:St}{e:Ev}{a b:Int}
theorem zK(hk:(aE st).Nodup):b∈(st.filter fun p=>p.2.en.isSome).map (·.1)↔(f7 st b).isSome=true:=by
 constructor
 ·intro h;obtain⟨p,hp,rfl⟩:=QR.mp h;obtain⟨hm,he⟩:=Qp.mp hp;obtain⟨l,r,e⟩:=List.append_of_mem hm;have hv:aS st p.1=some p.2:=by
   unfold aE at hk;rw[e]at hk ⊢;refine kL fun z=>?_;rw[QV,QX]at hk;exact(Qe.mp hk).2.2 _ z _ QU rfl
  unfold f7;rw[hv];exact he
 ·intro h;unfold f7 at h;cases hv:aS st b with
  |none=>rw[hv]at h;cases h
  |some t=>
   rw[hv]at h;exact QR.mpr ⟨(b,t),Qp.mpr ⟨f9 hv,h⟩,rfl⟩
theorem J4(ok:vv n w st e)(h:∀a,e≠.beg a):∃t,aS st e.at=some t/\t.en=none:=by
 cases e with
 |beg a=>exact absurd rfl (h a)
 |look a b x=>obtain⟨_,t,h1,h2,_⟩:=ok;exact⟨t,h1,h2⟩
 |put a b x=>obtain⟨_,t,h1,h2⟩:=ok;exact⟨t,h1,h2⟩
 |fin d a=>exact ok
theorem K1(hk:(aE st).Nodup)(ok:vv n w st e):b∈ny (stp st e) a↔b∈ny st a\/e=.beg a/\(f7 st b).isSome=true:=by
 by_cases h:a=e.at
 ·cases e with
  |beg x=>
   have hx:a=x:=h;subst hx;have e1:ny (stp st (.beg a)) a=(st.filter fun p=>p.2.en.isSome).map (·.1):=by unfold ny;rw[eA ok.2.2];rfl
   have e2:ny st a=[]:=by unfold ny;rw[mP ok]
   rw[e1,e2,zK hk];simp
  |_=>
   obtain⟨t,h1,_⟩:=J4 ok (by intro a z;cases z);rw[h];have e1:=bN h1;have e2:∀t:Att,∀e:Ev,(t.ev e).bf=t.bf:=fun t e=>by cases e<;>simp only[Att.ev]<;>split<;>rfl
   unfold ny;rw[e1,h1];simp only[e2,reduceCtorEq,false_and,or_false]
 ·have e1:ny (stp st e) a=ny st a:=by unfold ny;rw[bV h]
  rw[e1];exact⟨.inl,fun z=>z.elim id fun q=>absurd (by rw[q.1];rfl) h⟩
theorem Ay(ok:vv n w st e):(f7 (stp st e) b).isSome=true↔(f7 st b).isSome=true\/∃d,e=.fin d b:=by
 by_cases h:b=e.at
 ·cases e with
  |beg x=>
   have hx:b=x:=h;subst hx;rw[(we ok).2.2];exact⟨.inl,fun z=>z.elim id fun⟨d,q⟩=>by cases q⟩
  |fin d x=>
   have hx:b=x:=h;subst hx;obtain⟨t,h1,_⟩:=id ok;have:=(fj (e:=.fin d b) h1).2.2;simp only[Ev.at]at this;rw[this];exact⟨fun _=>.inr ⟨d,rfl⟩,fun _=>rfl⟩
  |look x y z=>
   have hx:b=x:=h;subst hx;obtain⟨_,t,h1,_⟩:=id ok;have:=(fj (e:=.look b y z) h1).2.2;simp only[Ev.at]at this;have e2:(t.ev (.look b y z)).en=t.en:=by simp only[Att.ev];split<;>rfl
   rw[this,e2];unfold f7;rw[h1];exact⟨.inl,fun z=>z.elim id fun⟨d,q⟩=>by cases q⟩
  |put x y z=>
   have hx:b=x:=h;subst hx;obtain⟨_,t,h1,_⟩:=id ok;have:=(fj (e:=.put b y z) h1).2.2;simp only[Ev.at]at this;rw[this];unfold f7;rw[h1];exact⟨.inl,fun z=>z.elim id fun⟨d,q⟩=>by cases q⟩
 ·rw[(nC h).2.2];exact⟨.inl,fun z=>z.elim id fun⟨d,q⟩=>absurd (by rw[q];rfl) h⟩
theorem rY:∀(es:List Ev) (st:St),pF n w st es->(aE st).Nodup->(b∈ny (aQ st es) a↔b∈ny st a\/(a∈rM es/\(f7 st b).isSome=true)\/(b,a)∈p5 es)
 |[],st,_,_=>by simp[aQ,rM,p5]
 |e::es,st,lf,hk=>by
  have ih:=rY es (stp st e) lf.2 (dY hk lf.1);have e1:aQ st (e::es)=aQ (stp st e) es:=rfl;have t1:p5 (e::es)=pH es e++p5 es:=rfl;rw[e1,ih,K1 hk lf.1,Ay lf.1,t1,Qw];cases e with
  |beg x=>
   have b1:rM (.beg x::es)=x::rM es:=rfl;rw[b1,QM];simp only[pH,Qc,false_or,reduceCtorEq,exists_false,or_false,Ev.beg.injEq];constructor
   ·rintro((h|⟨h,h'⟩)|⟨h,h'⟩|h)
    ·exact .inl h
    ·exact .inr (.inl ⟨.inl h.symm,h'⟩)
    ·exact .inr (.inl ⟨.inr h,h'⟩)
    ·exact .inr (.inr h)
   ·rintro(h|⟨h|h,h'⟩|h)
    ·exact .inl (.inl h)
    ·exact .inl (.inr ⟨h.symm,h'⟩)
    ·exact .inr (.inl ⟨h,h'⟩)
    ·exact .inr (.inr h)
  |fin d x=>
   have b1:rM (.fin d x::es)=rM es:=rfl;have m1:(b,a)∈pH es (.fin d x)↔a∈rM es/\x=b:=by
    simp only[pH,QR,Prod.mk.injEq];exact⟨fun⟨y,h1,h2,h3⟩=>⟨by rw[<-h3];exact h1,h2⟩,fun⟨h1,h2⟩=>⟨a,h1,h2,rfl⟩⟩
   rw[b1,m1];simp only[reduceCtorEq,false_and,or_false,Ev.fin.injEq,exists_and_right,exists_eq',true_and];constructor
   ·rintro(h|⟨h,h'|h'⟩|h)
    ·exact .inl h
    ·exact .inr (.inl ⟨h,h'⟩)
    ·exact .inr (.inr (.inl ⟨h,h'⟩))
    ·exact .inr (.inr (.inr h))
   ·rintro(h|⟨h,h'⟩|⟨h,h'⟩|h)
    ·exact .inl h
    ·exact .inr (.inl ⟨h,.inl h'⟩)
    ·exact .inr (.inl ⟨h,.inr h'⟩)
    ·exact .inr (.inr h)
  |look x y z=>
   have b1:rM (.look x y z::es)=rM es:=rfl;rw[b1];simp only[pH,Qc,false_or,reduceCtorEq,exists_false,or_false,false_and]
  |put x y z=>
   have b1:rM (.put x y z::es)=rM es:=rfl;rw[b1];simp only[pH,Qc,false_or,reduceCtorEq,exists_false,or_false,false_and]
theorem vJ:∀(es:List Ev) (st:St),pF n w st es->(b,a)∈p5 es->f7 st b=none
 |[],st,_,h=>by cases h
 |e::es,st,lf,h=>by
  rcases Qw.mp (show(b,a)∈pH es e++p5 es from h)with h|h
  ·cases e with
   |fin d x=>
    simp only[pH,QR,Prod.mk.injEq]at h;obtain⟨y,_,rfl,_⟩:=h;obtain⟨t,h1,h2⟩:=lf.1;unfold f7;rw[h1];exact h2
   |_=>cases h
  ·have:=vJ es (stp st e) lf.2 h;cases hn:f7 st b with
   |none=>rfl
   |some d=>
    have:=(Ay (b:=b) lf.1).mpr (.inl (by rw[hn];rfl));rw[‹f7 (stp st e) b=none›]at this;cases this
theorem wm:∀(es:List Ev) (st:St),aE (aQ st es)=aE st++rM es
 |[],st=>by simp[aQ,rM]
 |e::es,st=>by
  have ih:=wm es (stp st e);have e1:aQ st (e::es)=aQ (stp st e) es:=rfl;rw[e1,ih,jW];cases e with
  |beg x=>
   have b1:rM (.beg x::es)=x::rM es:=rfl;rw[b1,Q3];rfl
  |_=>rfl
theorem sH:∀(es:List Ev) (st:St),pF n w st es->(aE st).Nodup->(aE (aQ st es)).Nodup
 |[],st,_,h=>h
 |e::es,st,lf,h=>sH es (stp st e) lf.2 (dY h lf.1)
theorem rZ:∀(es:List Ev) (st:St),pF n w st es->(aE st).Nodup->(p5 es).Nodup
 |[],st,_,_=>ZQ
 |e::es,st,lf,hk=>by
  have ih:=rZ es (stp st e) lf.2 (dY hk lf.1);have nb:(rM es).Nodup:=by
   have:=sH es (stp st e) lf.2 (dY hk lf.1);rw[wm]at this;exact(Qe.mp this).2.1
  show(pH es e++p5 es).Nodup;refine Qe.mpr ⟨?_,ih,fun p hp q hq z=>?_⟩
  ·cases e with
   |fin d x=>
    refine List.pairwise_map.mpr (nb.imp fun h z=>h ?_);exact(Prod.mk.inj z).2
   |_=>exact ZQ
  ·subst z;cases e with
   |fin d x=>
    simp only[pH,QR]at hp;obtain⟨y,_,rfl⟩:=hp;have h1:=vJ es (stp st (.fin d x)) lf.2 hq;have h2:=(Ay (b:=x) lf.1).mpr (.inr ⟨d,rfl⟩);rw[h1]at h2;cases h2
   |_=>cases hp
theorem yO{ps qs:List (Int×Int)}(h:∀x,x∈ps↔x∈qs):iZ ps=iZ qs:=by
 obtain⟨M,h1,h2⟩:=wZ qs;rw[kQ h1 h2,kQ h1 fun x=>(h2 x).trans (h x).symm]
end
section
variable{n w:Int}{N:Nat}{evs:List Ev}
theorem yH(lg:jD n w N evs)(p:Int×Int):p∈p5 evs↔p∈zj (aQ [] evs) (aE (aQ [] evs)):=by
 obtain⟨b,a⟩:=p;rw[nB];have h:=rY (b:=b) (a:=a) evs [] lg.lo ZQ;have h0:ny [] a=[]:=rfl;have h1:f7 [] b=none:=rfl;rw[h0,h1]at h;simp only[Qc,ZM,QC,and_false,false_or]at h;rw[<-h];refine⟨fun z=>⟨?_,z⟩,fun z=>z.2⟩;unfold ny at z;cases hv:aS (aQ [] evs) a with
 |none=>rw[hv]at z;cases z
 |some t=>exact Fs hv
theorem DV(lg:jD n w N evs)(hN:N<=7):(p5 evs).Nodup/\(p5 evs).length<64/\iZ (p5 evs)=iZ (zj (aQ [] evs) (aE (aQ [] evs))):=by
 have bi:=rE evs [] lg.lo ZQ Nz;have nd:=rZ evs [] lg.lo ZQ;refine⟨nd,?_,yO (yH lg)⟩;have pm:=(List.perm_ext_iff_of_nodup nd (zi lg.kd bi _ lg.kd)).mpr (yH lg);have l1:=vW lg.kd bi (aE (aQ [] evs));rw[pm.length_eq];have l2:(aE (aQ [] evs)).length=(aQ [] evs).length:=by unfold aE;rw[Q5]
 have l3:=lg.cnt;rw[l2]at l1;have:(aQ [] evs).length*(aQ [] evs).length<=7*7:=Nat.mul_le_mul (by omega) (by omega);omega
end
section
variable{n w:Int}{evs:List Ev}{x:List Int}{a:Int}{N l:Nat}{S:Sto}
theorem NX{ca cb:CS}{ρ ρ':Rho}{S S':Sto}(h:ca ρ S=some (.nx,ρ',S')):bj ca cb ρ S=cb ρ' S':=by rw[HK,h,Q4,DI]
def mJ:Fn:=fnU 4 1 eU
theorem Dr{us:List U}{i:Nat}(h:i<=us.length):Hq us (some (i:Int)) none=us.drop i:=by
 have h0:HT.sIx us.length us.length none=us.length:=rfl;have h1:HT.sIx us.length 0 (some (i:Int))=i:=by
  unfold HT.sIx;simp only;split<;>omega
 unfold Hq;rw[h0,h1,List.take_of_length_le (by rw[List.length_drop];omega)]
theorem BK(hl:S[l]?=some (.lst (evs.map Ev.u)))(he:evs.length<=900){i:Nat}{e:Ev}{es:List Ev}(hd:evs.drop i=e::es){acc:List (Int×Int)}{G:Sto}(hb:acc.length+(pH es e).length<=5000) :
  ∃G',bO [some (.ref l),some (.ref S.length),some (.int i),some e.u] (S++(.lst (acc.map pP)::G))=some (.nx,[some (.ref l),some (.ref S.length),some (.int i),some e.u],S++(.lst ((acc++pH es e).map pP)::(G++G'))):=by
 cases e with
 |beg x=>exact⟨[],by rwa[pH,QJ,bO,Ev.u,gh,wF]⟩
 |look x y z=>exact⟨[],by rwa[pH,QJ,bO,Ev.u,gh,uN]⟩
 |put x y z=>exact⟨[],by rwa[pH,QJ,bO,Ev.u,gh,Ac]⟩
 |fin d a=>
  obtain⟨Y,hY⟩:∃Y,Y=S++(.lst (acc.map pP)::G):=⟨_,rfl⟩;have gl:Y[l]?=some (.lst (evs.map Ev.u)):=by rw[hY];exact ah hl
  have il:i<=(evs.map Ev.u).length:=by
   rw[Q5];have:=congrArg List.length hd;rw[List.length_drop,QY]at this;omega
  have lsl:es.length<=900:=by
   have:=congrArg List.length hd;rw[List.length_drop,QY]at this;omega
  have ed:(evs.map Ev.u).drop i=(Ev.fin d a::es).map Ev.u:=by rw[<-List.map_drop,hd]
  obtain⟨dr,hdr⟩:∃dr,dr=(Ev.fin d a::es).map Ev.u:=⟨_,rfl⟩;obtain⟨ρ,hρ⟩:∃ρ:Rho,ρ=[some (.ref l),some (.ref S.length),some (.int i),some (Ev.fin d a).u]:=⟨_,rfl⟩;have esl:cSl (ag 0) (some (ag 2)) none ρ Y=some (.ref Y.length,Y++[.lst dr]):=by
   have v0:ag 0 ρ Y=some (.ref l,Y):=by rw[hρ];rfl
   have v2:ag 2 ρ Y=some (.int i,Y):=by rw[hρ];rfl
   have p0:xR none ρ Y=some (none,Y):=rfl;unfold cSl;rw[v0,Q4];simp only[Fy v2,Q4,p0,fSl,gl,Dr il,ed,hdr]
  have gd:(Y++[O.lst dr])[Y.length]?=some (.lst dr):=by rw[ga0];rfl
  obtain⟨G1,h⟩:=dc (S:=Y++[O.lst dr]) (ok:=fun Z=>Z[Y.length]?=some (.lst dr)) (gg:=gNm 0)
   (ct:=aF (cOp fEq (cOp fIx (ag 0) (cC (.int 0))) (cC (.str "begin")))) (ce:=gp (af (cOp fIx (ag 1) (cC (.int 1))) (af (cOp fIx (ag 0) (cC (.int 1))) aG)))
   (f:=Ev.u) (p:=gZ) (v:=fun e=>pP (a,e.at)) (Rel:=fun ρ=>∃r0,ρ=[r0,some (Ev.fin d a).u]) (fun ys G=>ah gd) (Ev.fin d a::es) [] [] [none,some (Ev.fin d a).u] ⟨_,rfl⟩ (by simp;omega) (fun e he ys G ρ hρ=>by
    obtain⟨r0,rfl⟩:=hρ;refine⟨[some e.u,some (Ev.fin d a).u],[],⟨_,rfl⟩,rfl,?_,fun hp=>⟨[],?_⟩⟩
    ·cases e with
     |fin d b=>cases d with
      |true=>rwa[Ev.u,hJ,if_true,iY,gZ,QJ]
      |false=>rwa[Ev.u,hJ,QC,if_false,iX,gZ,QJ]
     |beg b=>rwa[Ev.u,ef,gZ,QJ]
     |look b _ _=>rwa[Ev.u,iW,gZ,QJ]
     |put b _ _=>rwa[Ev.u,kf,gZ,QJ]
    ·cases e with
     |beg b=>rwa[Ev.u,Ev.at,pP,QJ]
     |_=>simp[gZ]at hp)
  have ev:((Ev.fin d a::es).filter gZ).map (fun e=>pP (a,e.at))=(pH es (.fin d a)).map pP:=by
   have:(Ev.fin d a::es).filter gZ=es.filter gZ:=rfl;rw[this];simp only[pH,rM,Qg];rfl
  obtain⟨ts,hts⟩:∃ts,ts=pH es (.fin d a):=⟨_,rfl⟩;rw[ev,Qk,Qk,<-hdr,<-hts]at h;rw[<-hts]at hb ⊢;obtain⟨Z,hZ⟩:∃Z,Z=Y++[O.lst dr]++(.lst (ts.map pP)::G1):=⟨_,rfl⟩;have hcomp:bz (iTp (cSl (ag 0) (some (ag 2)) none)) (gNm 0) (aF (cOp fEq (cOp fIx (ag 0) (cC (.int 0))) (cC (.str "begin")))) (gp (af (cOp fIx (ag 1) (cC (.int 1))) (af (cOp fIx (ag 0) (cC (.int 1))) aG))) 1 [3] ρ Y=some (.ref (Y++[O.lst dr]).length,Z):=by
   have er:ma 1 [3] ρ=[none,some (Ev.fin d a).u]:=by rw[hρ];rfl
   unfold bz iTp;rw[esl,Q4];simp only[gd,Q4,er,h,hZ]
  have eZ:Z=S++(.lst (acc.map pP)::(G++([.lst dr]++(.lst (ts.map pP)::G1)))):=by rw[hZ,hY];simp only[Q3,Qz]
  have ga1:Z[S.length]?=some (.lst (acc.map pP)):=by rw[eZ,ga0];rfl
  have ga2:Z[(Y++[O.lst dr]).length]?=some (.lst (ts.map pP)):=by rw[hZ,ga0];rfl
  have lz:(acc.map pP).length+(ts.map pP).length<=LIM:=by rw[Q5,Q5];unfold LIM;omega
  have hext:mE (.ref S.length) [.ref (Y++[O.lst dr]).length] Z=some (.non,S++(.lst ((acc++ts).map pP)::(G++([.lst dr]++(.lst (ts.map pP)::G1))))):=by
   unfold mE;simp only[ga1,ga2];rw[if_pos lz,eZ,gs0,QV];rfl
  have gY:Y[S.length]?=some (.lst (acc.map pP)):=by rw[hY,ga0];rfl
  refine⟨[.lst dr]++(.lst (ts.map pP)::G1),?_⟩;rw[<-hY,<-hρ];have t3:aF (cOp (fIn false) (cOp fIx (ag 3) (cC (.int 0))) (gp (af (cC (.str "done")) (af (cC (.str "fall")) aG)))) ρ Y=some (true,Y):=by
   rw[hρ];cases d with
   |true=>rwa[Ev.u,hJ,if_true,gh,uP]
   |false=>rwa[Ev.u,hJ,QC,if_false,gh,uO]
  have v1:ag 1 ρ Y=some (.ref S.length,Y):=by rw[hρ];rfl
  unfold bO;generalize bz (iTp (cSl (ag 0) (some (ag 2)) none)) (gNm 0) (aF (cOp fEq (cOp fIx (ag 0) (cC (.int 0))) (cC (.str "begin")))) (gp (af (cOp fIx (ag 1) (cC (.int 1))) (af (cOp fIx (ag 0) (cC (.int 1))) aG))) 1 [3]=cc at hcomp ⊢;rw[Il,t3,Q4,DM,DP,NL,v1,Q4,Iu,gY,Ir,nK,hcomp,Q4,nJ,ya,Q4,nI,Q4,Iq,hext];rfl
theorem vK(hl:S[l]?=some (.lst (evs.map Ev.u)))(he:evs.length<=900):∀(es:List Ev) (i:Nat) (acc:List (Int×Int)) (G:Sto) (r2 r3:Option U),evs.drop i=es->acc.length+(p5 es).length<=5000->
  ∃r2' r3' G',d9 (fun Z=>Z[l]?=some (.lst (evs.map Ev.u))) (gTp [2,3]) bO (((es.map Ev.u).zipIdx i).map fun p=>.tup [.int p.2,p.1]) [some (.ref l),some (.ref S.length),r2,r3] (S++(.lst (acc.map pP)::G))=some (.nx,[some (.ref l),some (.ref S.length),r2',r3'],S++(.lst ((acc++p5 es).map pP)::G'))
 |[],i,acc,G,r2,r3,_,_=>⟨r2,r3,G,by rw[show p5 []=[]from rfl,QJ];exact fD (ah hl)⟩
 |e::es,i,acc,G,r2,r3,hd,hb=>by
  have e1:p5 (e::es)=pH es e++p5 es:=rfl;rw[e1,Q6]at hb;obtain⟨G1,h1⟩:=BK (acc:=acc) (G:=G) hl he hd (by omega);have hd':evs.drop (i+1)=es:=by rw[<-List.drop_drop,hd];rfl
  obtain⟨r2',r3',G',ih⟩:=vK hl he es (i+1) (acc++pH es e) (G++G1) (some (.int i)) (some e.u) hd' (by rw[Q6];omega);refine⟨r2',r3',G',?_⟩;rw[QX,List.zipIdx_cons,QX,e1,<-Q3];exact(iw (ah hl) rfl h1).trans ih
theorem vI(hl:S[l]?=some (.lst (evs.map Ev.u)))(lg:jD n w N evs)(he:evs.length<=900)(hN:N<=7) :
  ∃G k,mJ [.ref l] S=some (.ref (S.length+k),S++G)/\G[k]?=some (.lst ((iZ (zj (aQ [] evs) (aE (aQ [] evs)))).map pP)):=by
 obtain⟨nd,ln,es⟩:=DV lg hN;obtain⟨r2,r3,G,h⟩:=vK hl he evs 0 [] [] none none rfl (by rw[List.length_nil];omega);rw[<-es];rw[Qk]at h;obtain⟨ts,hts⟩:∃ts,ts=p5 evs:=⟨_,rfl⟩;rw[<-hts]at h nd ln ⊢;unfold mJ;rw[tR];have e1:dI 1 (iU aG) [some (.ref l),none,none,none] S=some (.nx,[some (.ref l),some (.ref S.length),none,none],S++[.lst []]):=rfl;have gl:(S++[O.lst []])[l]?=some (.lst (evs.map Ev.u)):=ah hl;have e2:me (jX (ag 0)) (gTp [2,3]) bO [some (.ref l),some (.ref S.length),none,none] (S++[.lst []])=some (.nx,[some (.ref l),some (.ref S.length),r2,r3],S++(.lst (ts.map pP)::G)):=by
  have ei:jX (ag 0) [some (.ref l),some (.ref S.length),none,none] (S++[.lst []])=some (rn (evs.map Ev.u),fun Z=>Z[l]?=some (.lst (evs.map Ev.u)),S++[.lst []]):=by
   have v0:ag 0 [some (.ref l),some (.ref S.length),none,none] (S++[.lst []])=some (.ref l,S++[.lst []]):=rfl;unfold jX;rw[v0,Q4];simp only[BU,gl,Q4]
  unfold me;rw[ei,Q4];exact h
 have gs1:(S++(O.lst (ts.map pP)::G))[S.length]?=some (.lst (ts.map pP)):=by rw[ga0];rfl
 have e3:iE [.ref S.length] (S++(O.lst (ts.map pP)::G))=some (.ref (S++(O.lst (ts.map pP)::G)).length,S++(O.lst (ts.map pP)::G)++[.lst ((iZ ts).map pP)]):=by
  simp only[iE,gs1,qc,Q4];rw[if_pos ⟨nd,ln⟩]
 refine⟨(.lst (ts.map pP)::G)++[.lst ((iZ ts).map pP)],(O.lst (ts.map pP)::G).length,?_,by rw[ga0];rfl⟩;unfold eU;rw[NX e1,NX e2];have e4:et (cCB iE (af (ag 1) aG)) [some (.ref l),some (.ref S.length),r2,r3] (S++(.lst (ts.map pP)::G))=some (.rt (.ref (S++(O.lst (ts.map pP)::G)).length),[some (.ref l),some (.ref S.length),r2,r3],S++(O.lst (ts.map pP)::G)++[.lst ((iZ ts).map pP)]):=by
  rw[HM];show(iE [.ref S.length] (S++(.lst (ts.map pP)::G))).bind _=_;rw[e3];rfl
 rw[e4,Q6,Q3];rfl
end
section
variable{α:Type}{ci:CI}{ct:CT}{ce:CE}{caps:List Nat}{ρ:Rho}{cs:Rho}{S S1:Sto}{ok:Sto->Prop}{xs:List α}{f v g h:α->U}{p:α->Bool}{Q:U×Sto->Prop}
theorem BH(hf:∀x,f x=.tup [g x,h x])(hi:ci ρ S=some (xs.map f,ok,S1))(hok:∀G,ok (S1++G))(hn:xs.length<=9000)(hr:ma 2 caps ρ=none::none::cs)
  (hb:∀x∈xs,∀G,Wp (ct (some (g x)::some (h x)::cs) (S1++G)) fun s=>s.1=p x/\∃G1,s.2=S1++G++G1/\(p x=true->Wp (ce (some (g x)::some (h x)::cs) (S1++G++G1)) fun t=>t.1=v x/\∃G2,t.2=S1++G++G1++G2))
  (hQ:∀G,Q (.ref S1.length,S1++(.lst ((xs.filter p).map v)::G))):Wp (bz ci (gTp [0,1]) ct ce 2 caps ρ S) Q:=by
 obtain⟨G,e⟩:=dc (S:=S1) (ok:=ok) (gg:=gTp [0,1]) (ct:=ct) (ce:=ce) (f:=f) (p:=p) (v:=v) (Rel:=fun ρ=>∃r0 r1,ρ=r0::r1::cs) (fun ys G=>hok _) xs [] [] (none::none::cs) ⟨_,_,rfl⟩ (by simp;omega) (fun x hx ys G ρ hρ=>by
  obtain⟨r0,r1,rfl⟩:=hρ;obtain⟨⟨b,S2⟩,e1,e2,G1,e3,h⟩:=hb x hx (.lst ys::G);dsimp only at e2 e3;subst e2 e3;refine⟨some (g x)::some (_)::cs,G1,⟨_,_,rfl⟩,by rw[hf];rfl,by rw[e1,Q3,Qz],fun hp=>?_⟩;obtain⟨⟨b,S2⟩,e4,e5,G2,e6⟩:=h hp;dsimp only at e5 e6;subst e5 e6;refine⟨G2,?_⟩;simp only[Q3,Qz]at e4 ⊢;exact e4)
 refine⟨_,?_,hQ G⟩;unfold bz;rw[hi,Q4,hr];dsimp only;rw[e];rfl
end
def dps(st:St)(a:Int):List (Int×Int):=if f7 st a=some true then gW st a else[]
def Eb(ra rl rp:Nat):List (Key×U):=[(.inr "all",.ref ra),(.inr "looks",.ref rl),(.inr "puts",.ref rp)]
structure PtI(st:St)(every:Bool)(S:Sto)(j ra rl rp M m:Nat)(dl dp:List Int)(Dl Dp:List (Key×U))(Z:Sto):Prop where
 ex:∃G,Z=S++G
 hj:Z[j]?=some (.dic (Eb ra rl rp))
 ha:Z[ra]?=some (.lst ((aW st every).map U.int))
 hl:Z[rl]?=some (.dic Dl)
 hp:Z[rp]?=some (.dic Dp)
 ll:Dl.length<=m
 lp:Dp.length<=m
 al:∀a∈dl,∃r,M<=r/\aS Dl (.inl a)=some (.ref r)/\Z[r]?=some (.lst ((ej st a).map pU))
 ap:∀a∈dp,∃r,M<=r/\aS Dp (.inl a)=some (.ref r)/\Z[r]?=some (.dic (fh (dps st a)))
structure Sep(S:Sto)(j ra rl rp M:Nat):Prop where
 j0:S.length<=j
 l0:S.length<=rl
 p0:S.length<=rp
 jM:j<M
 aM:ra<M
 lM:rl<M
 pM:rp<M
 jl:j≠rl
 jp:j≠rp
 aj:ra≠j
 al:ra≠rl
 ap:ra≠rp
 lp:rl≠rp
section
variable{st:St}{every:Bool}{S Z:Sto}{j ra rl rp M m r:Nat}{dl dp:List Int}{Dl Dp:List (Key×U)}{a:Int}
theorem kg{G:Sto}{k:Nat}{o:O}(h:S.length<=k):∃G',(S++G).set k o=S++G':=⟨G.set (k-S.length) o,by rw[List.set_append_right _ _ h]⟩
theorem dq{k i:Nat}{o o':O}(h:Z[k]?=some o)(hn:k≠i):(Z.set i o')[k]?=some o:=by rw[Qy (fun z=>hn z.symm)];exact h
theorem qm{i:Nat}{o o':O}(h:Z[i]?=some o'):(Z.set i o)[i]?=some o:=by rw[ZC,if_pos rfl,if_pos (Q9.mp h).1]
theorem PtI.app(h:PtI st every S j ra rl rp M m dl dp Dl Dp Z)(X:Sto):PtI st every S j ra rl rp M m dl dp Dl Dp (Z++X):=by
 obtain⟨G,rfl⟩:=h.ex;exact⟨⟨G++X,Q3 ..⟩,ah h.hj,ah h.ha,ah h.hl,ah h.hp,h.ll,h.lp,fun a ha=>let ⟨r,m,v,e⟩:=h.al a ha;⟨r,m,v,ah e⟩,fun a ha=>let ⟨r,m,v,e⟩:=h.ap a ha;⟨r,m,v,ah e⟩⟩
theorem PtI.putL(h:PtI st every S j ra rl rp M m dl dp Dl Dp Z)(s:Sep S j ra rl rp M)(m1:M<=r)(e1:Z[r]?=some (.lst ((ej st a).map pU))) :
  PtI st every S j ra rl rp M (m+1) (dl++[a]) dp (eJ Dl (.inl a) (.ref r)) Dp (Z.set rl (.dic (eJ Dl (.inl a) (.ref r)))):=by
 have sM:=s.lM;have l1:=jV Dl (.inl a) (.ref r);have k1:=h.ll;have k2:=h.lp;refine⟨?_,dq h.hj s.jl,dq h.ha s.al,qm h.hl,dq h.hp s.lp.symm,by omega,by omega,fun b hb=>?_,fun b hb=>?_⟩
 ·obtain⟨G,rfl⟩:=h.ex;exact kg s.l0
 ·by_cases hba:b=a
  ·subst hba;exact⟨r,m1,by rw[jS,if_pos rfl],dq e1 (by omega)⟩
  ·obtain⟨q,m,v,e⟩:=h.al b ((Qw.mp hb).resolve_right fun z=>hba (Qv.mp z));exact⟨q,m,by rw[jS,if_neg (fun z=>hba (by cases z;rfl))];exact v,dq e (by omega)⟩
 ·obtain⟨q,m,v,e⟩:=h.ap b hb;exact⟨q,m,v,dq e (by omega)⟩
theorem PtI.putX(h:PtI st every S j ra rl rp M m dl dp Dl Dp Z)(s:Sep S j ra rl rp M)(na:a∉dp)(u:U) :
  PtI st every S j ra rl rp M (m+1) dl dp Dl (eJ Dp (.inl a) u) (Z.set rp (.dic (eJ Dp (.inl a) u))):=by
 have sP:=s.pM;have l1:=jV Dp (.inl a) u;have k1:=h.ll;have k2:=h.lp;refine⟨?_,dq h.hj s.jp,dq h.ha s.ap,dq h.hl s.lp,qm h.hp,by omega,by omega,fun b hb=>?_,fun b hb=>?_⟩
 ·obtain⟨G,rfl⟩:=h.ex;exact kg s.p0
 ·obtain⟨q,m,v,e⟩:=h.al b hb;exact⟨q,m,v,dq e (by omega)⟩
 ·obtain⟨q,m,v,e⟩:=h.ap b hb;exact⟨q,m,by rw[jS,if_neg (fun z=>na (by cases z;exact hb))];exact v,dq e (by omega)⟩
theorem PtI.putP(h:PtI st every S j ra rl rp M m dl dp Dl Dp Z)(s:Sep S j ra rl rp M)(na:a∉dp)(m1:M<=r)(e1:Z[r]?=some (.dic (fh (dps st a)))) :
  PtI st every S j ra rl rp M (m+1) dl (dp++[a]) Dl (eJ Dp (.inl a) (.ref r)) (Z.set rp (.dic (eJ Dp (.inl a) (.ref r)))):=by
 have sP:=s.pM;have q:=h.putX s na (.ref r);refine⟨q.ex,q.hj,q.ha,q.hl,q.hp,q.ll,q.lp,q.al,fun b hb=>?_⟩;rcases Qw.mp hb with z|z
 ·exact q.ap b z
 ·rw[Qv.mp z];exact⟨r,m1,by rw[jS,if_pos rfl],dq e1 (by omega)⟩
end
def vq:Fn:=fnU 4 2 (e8 kG uu px uq mJ)
section
variable{n w:Int}{evs:List Ev}{every:Bool}{S Z:Sto}{j ra rl rp M m l N:Nat}{dn:List Int}{Dl Dp:List (Key×U)}{a:Int}
theorem zV:aS (Eb ra rl rp) (.inr "all")=some (.ref ra):=rfl
theorem wk:aS (Eb ra rl rp) (.inr "looks")=some (.ref rl):=rfl
theorem zT:aS (Eb ra rl rp) (.inr "puts")=some (.ref rp):=rfl
theorem zw(h:PtI (aQ [] evs) every S j ra rl rp M m dn dn Dl Dp Z)(s:Sep S j ra rl rp M)(hl:S[l]?=some (.lst (evs.map Ev.u)))(lg:jD n w N evs)(he:evs.length<=900)(hm:m<=100)(hM:M<=Z.length)(na:a∉dn) :
  Wp (gI kG uu px uq mJ [some (.ref l),some (.bl every),some (.ref j),some (.int a)] Z) fun r=>r.1=.nx/\r.2.1=[some (.ref l),some (.bl every),some (.ref j),some (.int a)]/\M<=r.2.2.length/\∃Dl' Dp',PtI (aQ [] evs) every S j ra rl rp M (m+3) (dn++[a]) (dn++[a]) Dl' Dp' r.2.2:=by
 have lh:∀{Z:Sto},(∃G,Z=S++G)->Z[l]?=some (.lst (evs.map Ev.u)):=fun⟨G,e⟩=>by rw[e];exact ah hl
 obtain⟨pt,e1⟩:=wc (a:=a) (lh h.ex) lg.lo he;obtain⟨Z1,hZ1⟩:∃Z1,Z1=Z++[O.lst ((ej (aQ [] evs) a).map pU),.lst (pt.map U.int)]:=⟨_,rfl⟩;rw[<-hZ1]at e1;have h1:PtI (aQ [] evs) every S j ra rl rp M m dn dn Dl Dp Z1:=by rw[hZ1];exact h.app _
 have g1:Z1[Z.length]?=some (.lst ((ej (aQ [] evs) a).map pU)):=by rw[hZ1,ga0];rfl
 have h2:=h1.putL s hM g1;obtain⟨Z2,hZ2⟩:∃Z2,Z2=Z1.set rl (.dic (eJ Dl (.inl a) (.ref Z.length))):=⟨_,rfl⟩;rw[<-hZ2]at h2;obtain⟨Z3,hZ3⟩:∃Z3,Z3=Z2++[O.dic []]:=⟨_,rfl⟩;have h3:PtI (aQ [] evs) every S j ra rl rp M (m+1) (dn++[a]) dn (eJ Dl (.inl a) (.ref Z.length)) Dp Z3:=by rw[hZ3];exact h2.app _
 obtain⟨Z4,hZ4⟩:∃Z4,Z4=Z3.set rp (.dic (eJ Dp (.inl a) (.ref Z2.length))):=⟨_,rfl⟩;have h4:=h3.putX s na (.ref Z2.length);rw[<-hZ4]at h4;obtain⟨G5,e5⟩:=wH (a:=a) (lh h4.ex) lg.lo he;obtain⟨Z5,hZ5⟩:∃Z5,Z5=Z4++G5:=⟨_,rfl⟩;rw[<-hZ5]at e5;have h5:PtI (aQ [] evs) every S j ra rl rp M (m+2) (dn++[a]) dn (eJ Dl (.inl a) (.ref Z.length)) (eJ Dp (.inl a) (.ref Z2.length)) Z5:=by rw[hZ5];exact h4.app _
 have lz:Z.length<=Z1.length/\Z1.length=Z2.length/\Z2.length<=Z3.length/\Z3.length=Z4.length/\Z4.length<=Z5.length:=by
  rw[hZ5,hZ4,hZ3,hZ2,hZ1];simp
 have c1:Dl.length<LIM:=by have:=h.ll;unfold LIM;omega
 have c2:Dp.length<LIM:=by have:=h.lp;unfold LIM;omega
 have c3:(eJ Dp (.inl a) (.ref Z2.length)).length<LIM:=by have:=h5.lp;unfold LIM;omega
 unfold gI;by_cases hd:f7 (aQ [] evs) a=some true
 ·have e6:=zg (a:=a) (lh h5.ex) lg.lo he;obtain⟨Z6,hZ6⟩:∃Z6,Z6=Z5++[O.dic (fh (gW (aQ [] evs) a))]:=⟨_,rfl⟩;rw[<-hZ6]at e6;have h6:PtI (aQ [] evs) every S j ra rl rp M (m+2) (dn++[a]) dn (eJ Dl (.inl a) (.ref Z.length)) (eJ Dp (.inl a) (.ref Z2.length)) Z6:=by rw[hZ6];exact h5.app _
  have g6:Z6[Z5.length]?=some (.dic (fh (dps (aQ [] evs) a))):=by rw[hZ6,ga0];unfold dps;rw[if_pos hd];rfl
  have h7:=h6.putP s na (by omega) g6;have ed:decide (enS (f7 (aQ [] evs) a)=("done":Str))=true:=by rw[fF,decide_eq_true hd]
  rwa[e1,h1.hj,wk,h1.hl,c1,if_true,hZ2.symm,hZ3.symm,h3.hj,zT,h3.hp,c2,hZ4.symm,e5,ed,e6,h6.hj,h6.hp,c3,aH];refine⟨trivial,trivial,?_,_,_,h7⟩;rw[List.length_set,hZ6];simp;omega
 ·have ed:decide (enS (f7 (aQ [] evs) a)=("done":Str))=false:=by rw[fF,decide_eq_false hd]
  have g3:Z3[Z2.length]?=some (.dic (fh (dps (aQ [] evs) a))):=by rw[hZ3,ga0];unfold dps;rw[if_neg hd];rfl
  have h7:=h3.putP s na (by omega) g3;rw[<-hZ4]at h7;rwa[e1,h1.hj,wk,h1.hl,c1,if_true,hZ2.symm,hZ3.symm,h3.hj,zT,h3.hp,c2,hZ4.symm,e5,ed,aH];have h8:=h7.app G5;rw[<-hZ5]at h8;exact⟨trivial,trivial,by omega,_,_,h8.ex,h8.hj,h8.ha,h8.hl,h8.hp,by have:=h8.ll;omega,by have:=h8.lp;omega,h8.al,h8.ap⟩
end
def Ea(ra rl rp rt:Nat):List (Key×U):=[(.inr "all",.ref ra),(.inr "looks",.ref rl),(.inr "puts",.ref rp),(.inr "times",.ref rt)]
structure Prt(st:St)(every:Bool)(j:Nat)(Y:Sto):Prop where
 ex:∃(ra rl rp rt:Nat) (Dl Dp:List (Key×U)) (ts:List (Int×Int)),Y[j]?=some (.dic (Ea ra rl rp rt))/\Y[ra]?=some (.lst ((aW st every).map U.int))/\Y[rl]?=some (.dic Dl)/\Y[rp]?=some (.dic Dp)/\Y[rt]?=some (.lst (ts.map pP))/\ts.length<=900/\
  (∀b a,(b,a)∈ts↔a∈aW st every/\b∈aW st every/\b∈ny st a)/\
  ∀a∈aW st every,(∃r,aS Dl (.inl a)=some (.ref r)/\Y[r]?=some (.lst ((ej st a).map pU)))/\∃r,aS Dp (.inl a)=some (.ref r)/\Y[r]?=some (.dic (fh (dps st a)))
section
variable{ρ:Rho}{S:Sto}{i:Nat}{ce:CE}{c1 c2:CS}{Q:Out×Rho×Sto->Prop}
theorem mh(h:Wp (c1 ρ S) fun r=>r.1=.nx/\Wp (c2 r.2.1 r.2.2) Q):Wp (bj c1 c2 ρ S) Q:=by
 obtain⟨⟨o,ρ1,S1⟩,e,rfl,r,e2,q⟩:=h;refine⟨r,?_,q⟩;unfold bj;rw[e];exact e2
theorem vD(h:Wp (ce ρ S) fun r=>Wp (c2 (ρ.set i (some r.1)) r.2) Q):Wp (bj (dI i ce) c2 ρ S) Q:=by
 obtain⟨⟨u,S1⟩,e,r,e2,q⟩:=h;refine mh (.of (r:=(.nx,ρ.set i (some u),S1)) ?_ ⟨rfl,r,e2,q⟩);unfold dI;rw[e];rfl
end
section
variable{st:St}{n w:Int}{evs:List Ev}{every:Bool}{S Z Y:Sto}{j ra rl rp rt M l N:Nat}{dn:List Int}{Dl Dp:List (Key×U)}{a:Int}{r3:Option U}
theorem Prt.app(h:Prt st every j Y)(X:Sto):Prt st every j (Y++X):=by
 obtain⟨ra,rl,rp,rt,Dl,Dp,ts,h1,h2,h3,h4,h5,h6,h7,h8⟩:=h.ex;exact⟨ra,rl,rp,rt,Dl,Dp,ts,ah h1,ah h2,ah h3,ah h4,ah h5,h6,h7,fun a ha=>let ⟨⟨r,v,g⟩,r',v',g'⟩:=h8 a ha;⟨⟨r,v,ah g⟩,r',v',ah g'⟩⟩
theorem J8:sL [(.inr "all",.ref ra),(.inr "looks",.ref rl),(.inr "puts",.ref rp)]=Eb ra rl rp:=by rfl
theorem CV:eJ (Eb ra rl rp) (.inr "times") (.ref rt)=Ea ra rl rp rt:=by rfl
theorem zW:aS (Ea ra rl rp rt) (.inr "all")=some (.ref ra):=by rfl
theorem CU:aS (Ea ra rl rp rt) (.inr "looks")=some (.ref rl):=by rfl
theorem Gz:aS (Ea ra rl rp rt) (.inr "puts")=some (.ref rp):=by rfl
theorem CQ:aS (Ea ra rl rp rt) (.inr "times")=some (.ref rt):=by rfl
theorem Em(neg:Bool){l:List Int}{b:Int}(h:Z[ra]?=some (.lst (l.map U.int))):fIn neg (.int b) (.ref ra) Z=some (.bl (if neg then !decide (b∈l)else decide (b∈l)),Z):=by
 unfold fIn;simp only[h];rw[if_pos ⟨rfl,C9 l⟩,inI]
theorem zQ(ps:List (Int×Int)):(iZ ps).length<=ps.length:=by
 obtain⟨L,m1,m2⟩:=wZ ps;rw[kQ m1 m2];refine List.Nodup.length_le_of_subset (ZF.mpr (m1.imp fun{a b} h e=>?_)) fun q hq=>(m2 q).mp hq;subst e;simp[ltP]at h
theorem GS(hl:S[l]?=some (.lst (evs.map Ev.u)))(lg:jD n w N evs)(he:evs.length<=900)(hN:N<=7) :
  Wp (AW [((cC (.str "all")),(bz (iTp (cCB kG (af (ag 0) aG))) (gNm 0) (cOr (aF (ag 1)) (aF (cOp fEq (cCB uu (af (ag 2) (af (ag 0) aG))) (cC (.str "done"))))) (ag 0) 1 [1,0])),((cC (.str "looks")),iR),((cC (.str "puts")),iR)] [some (.ref l),some (.bl every),none,none] S)
   fun r=>∃ra rl rp M,r.1=.ref S.length/\Sep S S.length ra rl rp M/\M<=r.2.length/\PtI (aQ [] evs) every S S.length ra rl rp M 0 [] [] [] [] r.2:=by
 obtain⟨G0,k0,h0,g0⟩:=wW (S:=S++[O.dic []]) (ah hl) lg he (by omega);have eK:(bq (aE (aQ [] evs))).length<=60:=by rw[(aR _).length_eq];unfold aE;rw[Q5];exact Qj lg.cnt (by omega)
 have gk:(S++[O.dic []]++G0)[(S++[O.dic []]).length+k0]?=some (.lst ((bq (aE (aQ [] evs))).map U.int)):=by rw[ga];exact g0
 obtain⟨B,hB⟩:∃B,B=S++[O.dic []]++G0:=⟨_,rfl⟩;have hc:Wp (bz (iTp (cCB kG (af (ag 0) aG))) (gNm 0) (cOr (aF (ag 1)) (aF (cOp fEq (cCB uu (af (ag 2) (af (ag 0) aG))) (cC (.str "done"))))) (ag 0) 1 [1,0] [some (.ref l),some (.bl every),none,none] (S++[O.dic []])) fun r=>∃G,r=(.ref B.length,B++(.lst ((aW (aQ [] evs) every).map U.int)::G)):=by
  refine qF (S1:=B) (cs:=[some (.bl every),some (.ref l)]) (xs:=bq (aE (aQ [] evs))) (f:=U.int) (v:=U.int) (p:=vh (aQ [] evs) every) (lT (l:=(S++[O.dic []]).length+k0) ?_ (by rw[hB];exact gk)) (fun G=>by rw[hB];exact ah gk) (by omega) rfl (fun b hb G=>?_) fun G=>⟨G,rfl⟩
  ·rw[Mu,nK,Hy,ZY,DH,Q4,nJ,ya,Q4,nI,Q4,Ip,h0,hB]
  ·obtain⟨G1,h1⟩:=wH (S:=B++G) (a:=b) (by rw[hB];exact ah (ah (ah hl))) lg.lo he;cases every with
   |true=>
    rwa[vh,Bool.true_or,aH];exact⟨trivial,[],by simp,fun _=>⟨trivial,[],by simp⟩⟩
   |false=>
    rw[Q3]at h1;rwa[vh,Bool.false_or,h1,fF,aH];exact⟨trivial,G1,by simp,fun _=>⟨trivial,[],by simp⟩⟩
 obtain⟨r,ec,G,rfl⟩:=hc;obtain⟨X,hX⟩:∃X,X=G0++(O.lst ((aW (aQ [] evs) every).map U.int)::G):=⟨_,rfl⟩;have eX:B++(O.lst ((aW (aQ [] evs) every).map U.int)::G)=S++(.dic []::X):=by rw[hB,hX];simp
 have gx:∀o T,(S++(o::(X++T)))[B.length]?=some (.lst ((aW (aQ [] evs) every).map U.int)):=fun o T=>by
  have lb:B.length=S.length+(1+G0.length):=by rw[hB];simp;omega
  rw[lb,ga,hX,Nat.add_comm,Qq,Q3,ga0];rfl
 have lb:B.length=S.length+(1+G0.length):=by rw[hB];simp;omega
 have lX:X.length=G0.length+(G.length+1):=by rw[hX];simp
 rw[eX]at ec;refine .of (r:=(.ref S.length,S++(.dic (Eb B.length (S.length+(1+X.length)) (S.length+(2+X.length)))::(X++[.dic [],.dic []])))) ?_ ?_
 ·have l1:(S++O.dic []::X).length=S.length+(1+X.length):=by simp;omega
  have l2:(S++O.dic []::(X++[O.dic []])).length=S.length+(2+X.length):=by simp;omega
  rwa[ec,J8,l1,l2]
 ·refine⟨B.length,S.length+(1+X.length),S.length+(2+X.length),S.length+(3+X.length),rfl,?_,by simp;omega,?_⟩
  ·constructor<;>omega
  ·refine⟨⟨_,rfl⟩,by rw[ga0];rfl,gx _ _,?_,?_,by simp,by simp,fun a ha=>(by cases ha),fun a ha=>(by cases ha)⟩
   ·rw[ga,Nat.add_comm 1,Qq,ga0];rfl
   ·rw[ga,show 2+X.length=(X.length+1)+1 by omega,Qq,ga];rfl
theorem Cm(hl:S[l]?=some (.lst (evs.map Ev.u)))(lg:jD n w N evs)(he:evs.length<=900)(hN:N<=7) :
  Wp (vq [.ref l,.bl every] S) fun r=>∃G,r=(.ref S.length,S++G)/\Prt (aQ [] evs) every S.length (S++G):=by
 have ond:=oh (every:=every) lg.kd;have oln:(aW (aQ [] evs) every).length<=7:=Qj fC (Qj lg.cnt hN);unfold vq;rw[tY];unfold e8;refine Wp.bind (vD ((GS (every:=every) hl lg he hN).mono fun r hr=>?_));obtain⟨u,Z⟩:=r;obtain⟨ra,rl,rp,M,rfl,sep,hM,pi⟩:=hr;dsimp only at hM pi;refine mh (BG (S1:=Z) (lT (l:=ra) (us:=(aW (aQ [] evs) every).map U.int) ?_ pi.ha) (pG (f:=U.int) (fun rest ρ Z'=>∃dn Dl Dp r3,aW (aQ [] evs) every=dn++rest/\ρ=[some (.ref l),some (.bl every),some (.ref S.length),r3]/\M<=Z'.length/\PtI (aQ [] evs) every S S.length ra rl rp M (3*dn.length) dn dn Dl Dp Z') (fun ρ Z' hI=>?_) (fun a rest ρ Z' hI=>?_) _ _ _ ⟨[],[],[],none,rfl,rfl,hM,pi⟩))
 ·rwa[List.set,pi.hj,zV]
 ·obtain⟨dn,Dl,Dp,r3,hd,rfl,hM',pi'⟩:=hI;rw[QJ]at hd;refine⟨pi'.ha,rfl,?_⟩;obtain⟨G,hG⟩:=pi'.ex;obtain⟨G1,k,e1,g1⟩:=vI (S:=Z') (by rw[hG];exact ah hl) lg he hN;obtain⟨ts,hts⟩:∃ts,ts=iZ (zj (aQ [] evs) (aE (aQ [] evs))):=⟨_,rfl⟩;rw[<-hts]at g1;have tl:ts.length<=900:=by
   obtain⟨_,t2,t3⟩:=DV lg hN;rw[hts,<-t3];have:=zQ (p5 evs);omega
  have p1:=pi'.app G1;have pj:=fun G=>(p1.app G).hj;have pa:=fun G=>(p1.app G).ha;have c0:(Eb ra rl rp).length<LIM:=by show 3<100000;omega
  obtain⟨Z1,hZ1⟩:∃Z1,Z1=Z'++G1:=⟨_,rfl⟩;rw[<-hZ1]at e1 p1;simp only[<-hZ1]at pj pa;have gt:Z1[Z'.length+k]?=some (.lst (ts.map pP)):=by rw[hZ1,ga];exact g1
  rwa[aH];repeat with_reducible refine Wp.bind ?_
  refine qF (S1:=Z1) (cs:=[some (.ref S.length)]) (xs:=ts) (f:=pP) (v:=pP) (p:=fun q=>decide (q.1∈aW (aQ [] evs) every)&&decide (q.2∈aW (aQ [] evs) every)) (lT (l:=Z'.length+k) (by rwa[e1]) gt) (fun G=>ah gt) (by omega) rfl (fun q hq G=>?_) fun G=>?_
  ·have i1:=fun b=>Em false (b:=b) (pa G);simp only[QC,if_false]at i1;obtain⟨x,y⟩:=q;have ep:pP (x,y)=.tup [.int x,.int y]:=rfl;cases hx:decide (x∈aW (aQ [] evs) every)with
   |true=>
    have ix:=i1 x;rw[hx]at ix;rwa[ep,pj G,zV,ix,i1 y,aH];exact⟨by rw[Bool.true_and],[],by simp,fun _=>⟨trivial,[],by simp⟩⟩
   |false=>
    have ix:=i1 x;rw[hx]at ix;rwa[ep,pj G,zV,ix,aH];exact⟨by rw[Bool.false_and],[],by simp,fun _=>⟨trivial,[],by simp⟩⟩
  ·obtain⟨fs,hfs⟩:∃fs,fs=ts.filter fun q=>decide (q.1∈aW (aQ [] evs) every)&&decide (q.2∈aW (aQ [] evs) every):=⟨_,rfl⟩;rw[<-hfs];have pq:=p1.app (.lst (fs.map pP)::G);have gr:(Z1++(O.lst (fs.map pP)::G))[Z1.length]?=some (.lst (fs.map pP)):=by rw[ga0];rfl
   obtain⟨Z2,hZ2⟩:∃Z2,Z2=Z1++(O.lst (fs.map pP)::G):=⟨_,rfl⟩;rw[<-hZ2]at pq gr ⊢;rwa[pq.hj,c0,if_true,CV,aH];have j0:=sep.j0;obtain⟨G3,hG3⟩:∃G3,Z2.set S.length (.dic (Ea ra rl rp Z1.length))=S++G3:=by
    obtain⟨G4,h4⟩:=pq.ex;rw[h4];exact kg (QZ _)
   rw[hG3];refine⟨G3,rfl,?_⟩;have gz:∀{i:Nat} {o:O},Z2[i]?=some o->i≠S.length->(S++G3)[i]?=some o:=fun h hn=>by rw[<-hG3];exact dq h hn
   have mj:=sep.jM;have lZ1:M<=Z1.length:=by rw[hZ1,Q6];omega
   refine⟨ra,rl,rp,Z1.length,Dl,Dp,fs,by rw[<-hG3];exact qm pq.hj,gz pq.ha sep.aj,gz pq.hl sep.jl.symm,gz pq.hp sep.jp.symm,gz gr (by omega),Qj (by rw[hfs];exact List.length_filter_le ..) tl,fun b a=>?_,fun a ha=>?_⟩
   ·rw[hfs,Qp,hts,sN,nB,Qm,decide_eq_true_eq,decide_eq_true_eq];exact⟨fun⟨⟨_,h1⟩,h2,h3⟩=>⟨h3,h2,h1⟩,fun⟨h1,h2,h3⟩=>⟨⟨lI h1,h3⟩,h2,h1⟩⟩
   ·rw[hd]at ha;obtain⟨r,q1,q2,q3⟩:=pq.al a ha;obtain⟨r',q4,q5,q6⟩:=pq.ap a ha;exact⟨⟨r,q2,gz q3 (by omega)⟩,r',q5,gz q6 (by omega)⟩
 ·obtain⟨dn,Dl,Dp,r3,hd,rfl,hM',pi'⟩:=hI;refine⟨pi'.ha,.of (r:=([some (.ref l),some (.bl every),some (.ref S.length),some (.int a)],Z')) rfl ?_⟩;have na:a∉dn:=fun z=>by
   rw[hd]at ond;exact(Qe.mp ond).2.2 a z a QU rfl
  have ld:dn.length<=7:=by rw[hd,Q6]at oln;omega
  refine(zw pi' sep hl lg he (by omega) hM' na).mono fun r hr=>?_;obtain⟨o,ρ1,Z1⟩:=r;obtain⟨q1,q2,q3,Dl',Dp',q4⟩:=hr;dsimp only at q1 q2 q3 q4;exact .inl ⟨q1,dn++[a],Dl',Dp',some (.int a),by rw[hd];simp,q2,q3,by rw[Q6,Qa];exact q4⟩
end
def stU(w:Int×Pc):U:=.tup [.int w.1,.tup (w.2.2.map U.int)]
def rF:Fn:=fnU 7 3 eV
section
variable{st:St}{n:Int}{every:Bool}{S Z Y:Sto}{j:Nat}{a:Int}{p:Pc}
structure StF(st:St)(n:Int):Prop where
 hk:(aE st).Nodup
 bi:BfI st
 lk:LkI n st
 hl:st.length<=7
 few:∀a t,aS st a=some t->t.lk.length<=900
theorem GX{y:List Int}:beh y (dps st a) 0=chg st a y:=by
 unfold dps chg;split
 ·rfl
 ·exact A2
theorem Di(f:StF st n){ts:List (Int×Int)}(hts:∀b a,(b,a)∈ts↔a∈aW st every/\b∈aW st every/\b∈ny st a)(ha:a∈aW st every){t:Att}(hv:aS st a=some t)(g:List Int) :
  decide ((ts.filter fun q=>decide (q.2=a)&&!decide (q.1∈g))=[])=(jv st every t).all fun b=>decide (b∈g):=by
 have eb:ny st a=t.bf:=by unfold ny;rw[hv]
 rw[ZE,decide_eq_true_eq,List.filter_eq_nil_iff,ZX];constructor
 ·intro h b hb;obtain⟨b1,b2⟩:=Qp.mp hb;have bk:=((f.bi a t hv).1 b b1).1;have:=h (b,a) ((hts b a).mpr ⟨ha,Qp.mpr ⟨(aR _).mem_iff.mpr bk,b2⟩,by rw[eb];exact b1⟩);simpa using this
 ·intro h q hq;obtain⟨b,a'⟩:=q;intro hc;rw[Qm,decide_eq_true_eq,Bool.not_eq_true',decide_eq_false_iff_not]at hc;obtain⟨c1,c2⟩:=hc;dsimp only at c1 c2;subst c1;obtain⟨q1,q2,q3⟩:=(hts b a').mp hq;rw[eb]at q3;exact c2 (of_decide_eq_true (h b (Qp.mpr ⟨q3,(Qp.mp q2).2⟩)))
theorem KG(f:StF st n){t:Att}(hv:aS st a=some t)(y:List Int):((ej st a).map (j7 y)).all id=t.nd.all (j7 y):=by
 have h:=(f.lk a t hv).2;have e:ej st a=t.lk:=by unfold ej;rw[hv];rfl
 rw[e,List.all_map,ZE,ZX,ZX];exact⟨fun q p hp=>q p ((h p).mp hp),fun q p hp=>q p ((h p).mpr hp)⟩
theorem Fu{r:Nat}{ps:List (Int×Int)}{y:List Int}{ρ:Rho}{cd:CE}{cs:Rho}{caps:List Nat}{ci:CI}(hi:ci ρ Z=some ((y.zipIdx 0).map fun q:Int×Nat=>U.tup [.int (q.2:Int),.int q.1],fun _=>True,Z))(hr:ma 2 caps ρ=none::none::cs)(hy:y.length<=900)
  (hd:∀u v G,cd (some u::some v::cs) (Z++G)=some (.ref r,Z++G)) (hg:Z[r]?=some (.dic (fh ps))) :
  Wp (cCB fT (af (fg ci (gTp [0,1]) (mH cd (ag 0) (ag 1)) 2 caps) aG) ρ Z) fun r=>∃G,r=(.tup ((beh y ps 0).map U.int),Z++G):=by
 refine OU ?_;refine DR (f:=fun q:Int×Nat=>U.tup [.int (q.2:Int),.int q.1]) (g:=fun q:Int×Nat=>.int (q.2:Int)) (v:=fun q=>.int q.1) (w:=fun q=>.int ((aS ps (q.2:Int)).getD q.1)) (cs:=cs) (xs:=y.zipIdx 0) (S1:=Z) (fun _=>rfl) hi (fun _=>trivial) (by rw[List.length_zipIdx];omega) hr (fun q hq G=>?_) fun G=>?_
 ·obtain⟨v,k⟩:=q;have hg':(Z++G)[r]?=some (.dic (fh ps)):=ah hg;have hv2:((aS ps (k:Int)).map U.int).getD (.int v)=.int ((aS ps (k:Int)).getD v):=by cases aS ps (k:Int)<;>rfl
  rwa[hd,hg',ib,hv2,aH];exact⟨trivial,[],by simp⟩
 ·have eb:(beh y ps 0).map U.int=(y.zipIdx 0).map fun q:Int×Nat=>U.int ((aS ps (q.2:Int)).getD q.1):=by unfold beh;rw[Qg];rfl
  rw[eb];generalize (y.zipIdx 0).map (fun q:Int×Nat=>U.int ((aS ps (q.2:Int)).getD q.1))=mu;have g0:(Z++(O.lst mu::G))[Z.length]?=some (.lst mu):=by rw[ga0];rfl
  rwa[g0,aH];exact⟨_,rfl⟩
theorem yM(h:Prt st every j Y)(f:StF st n)(ha:a∈aW st every)(hx:p.2.length=n.toNat)(hn:n<=100){acc:List U}{G:Sto}{r5 r6:Option U}(hacc:acc.length<=900) :
  Wp (gG [some (.ref j),some (.tup (p.1.map U.int)),some (.tup (p.2.map U.int)),some (.ref Y.length),some (.int a),r5,r6] (Y++(.lst acc::G))) fun r=>r.1=.nx/\(∃r5' r6',r.2.1=[some (.ref j),some (.tup (p.1.map U.int)),some (.tup (p.2.map U.int)),some (.ref Y.length),some (.int a),r5',r6'])/\∃G',r.2.2=Y++(.lst (acc++if vC st every p a then[stU (a,pV st p a)]else[])::G'):=by
 obtain⟨g,y⟩:=p;dsimp only at hx ⊢;obtain⟨ra,rl,rp,rt,Dl,Dp,ts,h1,h2,h3,h4,h5,h6,h7,h8⟩:=h.ex;obtain⟨⟨r,k1,k2⟩,r',k3,k4⟩:=h8 a ha;obtain⟨t,hv⟩:∃t,aS st a=some t:=by
  cases hv:aS st a with
  |some t=>exact⟨t,rfl⟩
  |none=>exact absurd (lI ha) (du.mp hv)
 obtain⟨gu,hgu⟩:∃gu,gu=g.map U.int:=⟨_,rfl⟩;obtain⟨yu,hyu⟩:∃yu,yu=y.map U.int:=⟨_,rfl⟩;have in1:∀(b:Int) (X:Sto),fIn true (.int b) (.tup gu) X=some (.bl (!decide (b∈g)),X):=fun b X=>by
  unfold fIn;dsimp only;rw[hgu,if_pos ⟨rfl,C9 g⟩,if_pos rfl,inI]
 have elk:ej st a=t.lk:=by unfold ej;rw[hv];rfl
 have llk:(ej st a).length<=900:=by rw[elk];exact f.few a t hv
 obtain⟨Z,hZ⟩:∃Z,Z=Y++(.lst acc::G):=⟨_,rfl⟩;have up:∀{i:Nat} {o:O},Y[i]?=some o->Z[i]?=some o:=fun q=>by rw[hZ];exact ah q
 rw[<-hZ,<-hgu,<-hyu];unfold gG;refine vD (BH (S1:=Z) (cs:=[some (.int a),some (.tup gu)]) (xs:=ts) (f:=pP) (g:=fun q=>.int q.1) (h:=fun q=>.int q.2) (v:=fun q=>.int q.1) (p:=fun q=>decide (q.2=a)&&!decide (q.1∈g)) (fun _=>rfl) (lT (l:=rt) (by rwa[up h1,CQ]) (up h5)) (fun X=>ah (up h5)) (by omega) rfl (fun q hq X=>?_) fun X=>?_)
 ·obtain⟨b,a'⟩:=q;dsimp only;cases hb:decide (a'=a)with
  |true=>
   rwa[hb,in1,aH];exact⟨by rw[Bool.true_and],[],by simp,fun _=>⟨trivial,[],by simp⟩⟩
  |false=>
   rwa[hb,aH];exact⟨by rw[Bool.false_and],[],by simp,fun _=>⟨trivial,[],by simp⟩⟩
 obtain⟨es,hes⟩:∃es,es=((ts.filter fun q=>decide (q.2=a)&&!decide (q.1∈g)).map fun q:Int×Int=>U.int q.1):=⟨_,rfl⟩;have eer:decide (es=[])=(jv st every t).all fun b=>decide (b∈g):=by
  rw[<-Di f h7 ha hv g,hes];simp only[List.map_eq_nil_iff]
 rw[<-hes];obtain⟨Z1,hZ1⟩:∃Z1,Z1=Z++(O.lst es::X):=⟨_,rfl⟩;have up1:∀{i:Nat} {o:O},Y[i]?=some o->Z1[i]?=some o:=fun q=>by rw[hZ1];exact ah (up q)
 have ge:Z1[Z.length]?=some (.lst es):=by rw[hZ1,ga0];rfl
 rw[<-hZ1];dsimp only[List.set];have hq2:Wp (fg (iTp (cOp fIx (cOp fIx (ag 0) (cC (.str "looks"))) (ag 4))) (gTp [0,1]) (cOp fEq (cOp fIx (ag 2) (ag 0)) (ag 1)) 2 [2] [some (.ref j),some (.tup gu),some (.tup yu),some (.ref Y.length),some (.int a),some (.ref Z.length),r6] Z1) fun r=>∃X2,r=(.ref Z1.length,Z1++(.lst (((ej st a).map (j7 y)).map U.bl)::X2)):=by
  refine DR (S1:=Z1) (cs:=[some (.tup yu)]) (xs:=ej st a) (f:=pU) (g:=fun q=>.int q.1) (v:=fun q=>.int q.2) (w:=fun q=>.bl (j7 y q)) (fun _=>rfl) (lT (l:=r) (by rwa[up1 h1,CU,up1 h3,k1]) (up1 k2)) (fun X=>ah (up1 k2)) (by omega) rfl (fun q hq X=>?_) fun X=>⟨X,by rw[Qg];rfl⟩;obtain⟨b,v⟩:=q;rw[elk]at hq;obtain⟨b0,b1⟩:=(f.lk a t hv).1 _ hq;have e1:=atF (first:=y) (b:=b) hx b0 b1;rw[<-hyu]at e1;rwa[e1,aH];exact⟨by unfold j7;rfl,[],by simp⟩
 obtain⟨_,e2,X2,rfl⟩:=hq2;obtain⟨Z2,hZ2⟩:∃Z2,Z2=Z1++(O.lst (((ej st a).map (j7 y)).map U.bl)::X2):=⟨_,rfl⟩;rw[<-hZ2]at e2;have g2:Z2[Z1.length]?=some (.lst (((ej st a).map (j7 y)).map U.bl)):=by rw[hZ2,ga0];rfl
 have i2:fIn true (.bl false) (.ref Z1.length) Z2=some (.bl (t.nd.all (j7 y)),Z2):=by
  unfold fIn;simp only[g2];rw[if_pos ⟨rfl,by rw[List.all_map,ZX];intro b _;rfl⟩,if_pos trivial,inB,Bool.not_not,KG f hv]
 have up2:∀{i:Nat} {o:O},Z1[i]?=some o->Z2[i]?=some o:=fun q=>by rw[hZ2];exact ah q
 refine vD (.of (r:=(.bl (t.nd.all (j7 y)),Z2)) ?_ ?_)
 ·rw[NJ,x_c,Q4,HU,e2,Q4,HS,i2]
 dsimp only[List.set];have z2:∃X3,Z2=Y++(.lst acc::X3):=⟨_,by rw[hZ2,hZ1,hZ];simp only[Q3,Qz];rfl⟩;obtain⟨X3,hX3⟩:=z2;have wy:vC st every (g,y) a=(!decide (a∈g)&&(decide (es=[])&&t.nd.all (j7 y))):=by
  unfold vC sQ;rw[hv,eer]
 rw[wy];have nn:oR false (.ref Z.length) (.ref Z2.length) (Z2++[.lst []])=some (.bl (decide (es=[])),Z2++[.lst []]):=by
  have:=sJ (S:=Z2++[.lst []]) (l:=Z.length) (l':=Z2.length) false (ah (up2 ge)) (by rw[ga0];rfl);rw[this];rfl
 have n1:=in1 a Z2;cases q1:decide (a∈g)with
 |true=>
  rw[q1]at n1;rwa[n1,aH];exact⟨trivial,⟨_,_,rfl⟩,X3,by rw[hX3];simp⟩
 |false=>
  rw[q1]at n1;cases q2:decide (es=[])with
  |false=>
   rw[q2]at nn;rwa[n1,nn,aH];exact⟨trivial,⟨_,_,rfl⟩,X3++[.lst []],by rw[hX3];simp⟩
  |true=>
   rw[q2]at nn;cases q3:t.nd.all (j7 y)with
   |false=>
    rwa[n1,nn,aH];exact⟨trivial,⟨_,_,rfl⟩,X3++[.lst []],by rw[hX3];simp⟩
   |true=>
    obtain⟨Z3,hZ3⟩:∃Z3,Z3=Z2++[O.lst []]:=⟨_,rfl⟩;have up3:∀{i:Nat} {o:O},Y[i]?=some o->Z3[i]?=some o:=fun q=>by rw[hZ3];exact ah (up2 (up1 q))
    rw[<-hZ3]at nn;obtain⟨_,e4,X4,rfl⟩:=Fu (Z:=Z3) (r:=r') (ps:=dps st a) (y:=y) (ρ:=[some (.ref j),some (.tup gu),some (.tup yu),some (.ref Y.length),some (.int a),some (.ref Z.length),some (.bl true)]) (cd:=cOp fIx (cOp fIx (ag 3) (cC (.str "puts"))) (ag 2)) (cs:=[some (.int a),some (.ref j)]) (caps:=[4,0]) (ci:=jX (ag 2)) (by
     have ev:ag 2 [some (.ref j),some (.tup gu),some (.tup yu),some (.ref Y.length),some (.int a),some (.ref Z.length),some (.bl true)] Z3=some (.tup yu,Z3):=rfl;have es2:BU (.tup yu) Z3=some (yu,fun _=>True):=rfl;unfold jX;rw[ev,Q4,es2,Q4,hyu];unfold rn;rw[List.zipIdx_map,Qg];rfl) rfl (by omega) (fun u v X=>by
     have a1:(Z3++X)[j]?=_:=ah (up3 h1);have a2:(Z3++X)[rp]?=_:=ah (up3 h4);rwa[a1,Gz,a2,k3]) (up3 k4)
    rw[GX]at e4;obtain⟨cu,hcu⟩:∃cu,cu=(chg st a y).map U.int:=⟨_,rfl⟩;rw[<-hcu]at e4;have ga3:Z3[Y.length]?=some (.lst acc):=by rw[hZ3,hX3,Q3,ga0];rfl
    have ga4:(Z3++X4)[Y.length]?=some (.lst acc):=ah ga3;have la:acc.length<LIM:=by unfold LIM;omega
    obtain⟨Z4,hZ4⟩:∃Z4,Z4=Z3++X4:=⟨_,rfl⟩;rw[<-hZ4]at e4 ga4;obtain⟨cc,hcc⟩:∃cc,cc=cCB fT (af (fg (jX (ag 2)) (gTp [0,1]) (mH (cOp fIx (cOp fIx (ag 3) (cC (.str "puts"))) (ag 2)) (ag 0) (ag 1)) 2 [4,0]) aG):=⟨_,rfl⟩;rw[<-hcc]at e4 ⊢;rwa[n1,nn,hZ3.symm,ga3,e4,ga4,iV la,aH];refine⟨trivial,⟨_,_,rfl⟩,?_⟩;have:Z4=Y++(.lst acc::(X3++([.lst []]++X4))):=by rw[hZ4,hZ3,hX3];simp only[Q3,Qz]
    rw[this,gs0];refine⟨X3++([.lst []]++X4),?_⟩;rw[hcu];rfl
theorem BN(h:Prt st every j Y)(f:StF st n)(hx:p.2.length=n.toNat)(hn:n<=100) :
  Wp (rF [.ref j,.tup (p.1.map U.int),.tup (p.2.map U.int)] Y) fun r=>∃G,r=(.ref Y.length,Y++(.lst ((iP st every p).map stU)::G)):=by
 have oln:(aW st every).length<=7:=Qj fC f.hl;obtain⟨ra,rl,rp,rt,Dl,Dp,ts,h1,h2,h3,h4,h5,h6,h7,h8⟩:=h.ex;unfold rF;rw[tV];unfold eV;refine Wp.bind (vD (.of (r:=(.ref Y.length,Y++[.lst []])) rfl ?_));dsimp only[List.set];have hj:(Y++[O.lst []])[j]?=some (.dic (Ea ra rl rp rt)):=ah h1;refine mh (BG (S1:=Y++[.lst []]) (lT (l:=ra) (us:=(aW st every).map U.int) (by rwa[hj,zW]) (ah h2)) (pG (f:=U.int) (fun rest ρ Z=>∃dn r4 r5 r6 G,aW st every=dn++rest/\ρ=[some (.ref j),some (.tup (p.1.map U.int)),some (.tup (p.2.map U.int)),some (.ref Y.length),r4,r5,r6]/\Z=Y++(.lst ((dn.filter (vC st every p)).map fun a=>stU (a,pV st p a))::G)) (fun ρ Z hI=>?_) (fun a rest ρ Z hI=>?_) _ _ _ ⟨[],none,none,none,[],rfl,rfl,rfl⟩))
 ·obtain⟨dn,r4,r5,r6,G,hd,rfl,rfl⟩:=hI;rw[QJ]at hd;refine⟨ah h2,rfl,.of rfl ?_⟩;unfold kFn;simp only[aH];refine⟨G,?_⟩;unfold iP;rw[Qg,hd];rfl
 ·obtain⟨dn,r4,r5,r6,G,hd,rfl,rfl⟩:=hI;refine⟨ah h2,.of rfl ?_⟩;have ld:dn.length<=7:=by rw[hd,Q6]at oln;omega
  refine(yM h f (a:=a) (p:=p) (G:=G) (by rw[hd];simp) hx hn (acc:=(dn.filter (vC st every p)).map fun a=>stU (a,pV st p a)) (by
   rw[Q5];exact Qj (List.length_filter_le ..) (by omega))).mono fun r hr=>?_
  obtain⟨o,ρ1,Z1⟩:=r;obtain⟨q1,⟨r5',r6',q2⟩,G',q3⟩:=hr;refine .inl ⟨q1,dn++[a],_,_,_,G',by rw[hd];simp,q2,?_⟩;rw[q3,List.filter_append,QV];congr 3;cases hw:vC st every p a<;>simp[List.filter,hw]
end
def dC(ks:List Kt):List (NK×U):=ks.map fun e=>(pcK e.1,U.bl true)
theorem u9(ks:List Kt):(dC ks).map (·.1)=(pl ks).map pcK:=by unfold dC pl;rw[Qg,Qg];rfl
theorem Nv(ks:List Kt)(q:Pc):(aS (dC ks) (pcK q)).isSome=decide (q∈pl ks):=by
 cases hv:aS (dC ks) (pcK q)with
 |none=>
  have:=du.mp hv;rw[u9]at this;exact(decide_eq_false fun z=>this (QR.mpr ⟨q,z,rfl⟩)).symm
 |some v=>
  have hm:pcK q∈(dC ks).map (·.1):=QR.mpr ⟨_,f9 hv,rfl⟩;rw[u9]at hm;obtain⟨p,hp,e⟩:=QR.mp hm;exact(decide_eq_true (n6 e▸hp)).symm
theorem IL{ρ:Rho}{S:Sto}{c1 c2:CS}{Q:Out×Rho×Sto->Prop}(h:Wp (c1 ρ S) fun r=>(r.1=.nx/\Wp (c2 r.2.1 r.2.2) Q)\/∃v,r.1=.rt v/\Q r):Wp (bj c1 c2 ρ S) Q:=by
 obtain⟨⟨o,ρ1,S1⟩,e,⟨rfl,r,e2,q⟩|⟨v,rfl,q⟩⟩:=h
 ·refine⟨r,?_,q⟩;unfold bj;rw[e];exact e2
 ·refine⟨_,?_,q⟩;unfold bj;rw[e];rfl
def Hf:Fn:=fnU 10 3 (g8 rF 9000)
section
variable{n:Int}{S Y Z:Sto}{st:St}{every:Bool}{j:Nat}{x:List Int}{ks:List Kt}{stk:List Pc}
structure OkC(st:St)(every:Bool)(x:List Int)(Y:Sto)(ks:List Kt)(stk:List Pc)(Z:Sto):Prop where
 ex:∃G,Z=Y++G
 d:Z[Y.length+2]?=some (.dnt (dC ks))
 l:Z[Y.length+1]?=some (.lst (stk.map pcU))
 nd:(pl ks).Nodup
 led:∀e∈ks,Led st every x e.2.2 e.1
 fst:([],x)∈pl ks
 sub:∀p∈stk,p∈pl ks
theorem OkC.few(h:OkC st every x Y ks stk Z)(hl:(aW st every).length<=5):ks.length<=3906:=by
 have n1:(ks.map (·.2.2)).Nodup:=by
  have:=ZF.mp h.nd;refine ZF.mpr (List.pairwise_map.mpr ((List.pairwise_map.mp this).imp_of_mem fun{e f} he hf hn z=>hn ?_));rw[(h.led e he).eq,(h.led f hf).eq,z]
 have:=List.Nodup.length_le_of_subset n1 (l₂:=ye (aW st every) 5) fun os ho=>by
  obtain⟨e,he,rfl⟩:=QR.mp ho;have ld:=h.led e he;exact qC 5 (Qj (List.Nodup.length_le_of_subset ld.nd ld.sub) hl) ld.sub
 rw[Q5]at this;exact Qj this (vw hl)
theorem OkC.app(h:OkC st every x Y ks stk Z)(X:Sto):OkC st every x Y ks stk (Z++X):=by
 obtain⟨G,rfl⟩:=h.ex;exact⟨⟨G++X,Q3 ..⟩,ah h.d,ah h.l,h.nd,h.led,h.fst,h.sub⟩
theorem FL{e:Kt}{a:Int}{tu xu:U}{r9:Option U}(h:OkC st every x Y ks stk Z)(he:e∈ks)(ha:a∈aW st every)(hw:vC st every e.1 a=true)(hl:(aW st every).length<=5)(hs:stk.length<=9000)(hp:e.1.1.length<=5) :
  Wp (jB rF 9000 [some (.ref j),some tu,some xu,some (.ref (Y.length+1)),some (.ref (Y.length+2)),some (.tup (e.1.1.map U.int)),some (.tup (e.1.2.map U.int)),some (.int a),some (.tup ((chg st a e.1.2).map U.int)),r9] Z) fun s=>s.1=.nx/\(∃r9',s.2.1=[some (.ref j),some tu,some xu,some (.ref (Y.length+1)),some (.ref (Y.length+2)),some (.tup (e.1.1.map U.int)),some (.tup (e.1.2.map U.int)),some (.int a),some (.tup ((chg st a e.1.2).map U.int)),r9'])/\
   ∃ks' stk',OkC st every x Y ks' stk' s.2.2/\pV st e.1 a∈pl ks'/\(∀f∈ks,f∈ks')/\(∀q,q∈pl ks'->q∈pl ks\/q∈stk')/\(∀q∈stk,q∈stk')/\ks'.length-ks.length=stk'.length-stk.length/\ks.length<=ks'.length/\stk.length<=stk'.length/\∀i,i<Z.length->i≠Y.length+1->i≠Y.length+2->s.2.2[i]?=Z[i]?:=by
 obtain⟨Z0,hZ0⟩:∃Z0,Z0=Z++[O.lst ((bq (e.1.1++[a])).map U.int)]:=⟨_,rfl⟩;have h0:OkC st every x Y ks stk Z0:=by rw[hZ0];exact h.app _
 have old:∀i,i<Z.length->Z0[i]?=Z[i]?:=fun i hi=>by rw[hZ0,QN hi]
 have cat:∀X,j8 (.tup (e.1.1.map U.int)) (.tup [.int a]) X=some (.tup ((e.1.1++[a]).map U.int),X):=fun X=>by
  simp only[j8];rw[if_pos (by unfold LIM;simp;omega),QV];rfl
 have srt:eM [.tup ((e.1.1++[a]).map U.int)] Z=some (.ref Z.length,Z0):=by
  simp only[eM,fS,Q4];rw[if_pos (by simp;omega),hZ0]
 have gz:Z0[Z.length]?=some (.lst ((bq (e.1.1++[a])).map U.int)):=by rw[hZ0,ga0];rfl
 obtain⟨q,hq⟩:∃q,q=pV st e.1 a:=⟨_,rfl⟩;have eq1:U.tup [.tup ((bq (e.1.1++[a])).map U.int),.tup ((chg st a e.1.2).map U.int)]=pcU q:=by rw[hq];rfl
 rw[<-hq];have hni:Dd (pcU q) (.ref (Y.length+2)) Z0=some (.bl (!decide (q∈pl ks)),Z0):=by
  unfold pcU;simp only[Dd,kq,Q4,GQ,h0.d,Nv]
 have hfew:=h0.few hl;unfold jB;generalize (e.1.1++[a]).map U.int=gu at cat srt;generalize (bq (e.1.1++[a])).map U.int=su at gz eq1 hZ0;generalize e.1.1.map U.int=pu at cat ⊢;generalize e.1.2.map U.int=yu at ⊢;generalize (chg st a e.1.2).map U.int=cu at eq1 ⊢;by_cases hc:q∈pl ks
 ·rw[decide_eq_true hc]at hni;generalize pcU q=qu at hni eq1 ⊢;rwa[cat,srt,gz,eq1,hni,aH];exact⟨trivial,⟨_,rfl⟩,ks,stk,h0,hc,fun f hf=>hf,fun q hq=>.inl hq,fun q hq=>hq,by omega,by omega,by omega,fun i hi _ _=>old i hi⟩
 ·rw[decide_eq_false hc]at hni;have nk:v8 [.tup (q.1.map U.int),.tup (q.2.map U.int)]=some (pcK q):=kq q;obtain⟨os,hos⟩:∃os,os=e.2.2:=⟨_,rfl⟩;have pn:eJ (dC ks) (pcK q) (.bl true)=dC (ks++[(q,0,os++[a])]):=by
   rw[lG (fun z=>by rw[u9]at z;obtain⟨p,hp,e⟩:=QR.mp z;exact hc (n6 e▸hp))];unfold dC;rw[QV];rfl
  obtain⟨Z3,hZ3⟩:∃Z3,Z3=Z0.set (Y.length+2) (.dnt (dC (ks++[(q,0,os++[a])]))):=⟨_,rfl⟩;have l3:Z3[Y.length+1]?=some (.lst (stk.map pcU)):=by rw[hZ3];exact dq h0.l (by omega)
  have sx:∀ρ:Rho,ag 4 ρ Z0=some (.ref (Y.length+2),Z0)->ag 9 ρ Z0=some (pcU q,Z0)->kC (ag 4) (ag 9) (cC (.bl true)) ρ Z0=some (.nx,ρ,Z3):=fun ρ h2 h3=>by
   unfold pcU at h3;have h1:cC (.bl true) ρ Z0=some (.bl true,Z0):=rfl;simp only[kC,h1,h2,h3,h0.d,nk,Q4];rw[if_pos (by unfold dC LIM;rw[Q5];omega),pn,hZ3]
  have sx':=sx [some (.ref j),some tu,some xu,some (.ref (Y.length+1)),some (.ref (Y.length+2)),some (.tup pu),some (.tup yu),some (.int a),some (.tup cu),some (pcU q)] rfl rfl;have hA:(stk.map pcU).length<LIM:=by unfold LIM;rw[Q5];omega
  have em:stk.map pcU++[pcU q]=(stk++[q]).map pcU:=by rw[QV];rfl
  obtain⟨su',hsu⟩:∃su,su=stk.map pcU:=⟨_,rfl⟩;have l3':=l3;rw[<-hsu]at l3' hA;have em':su'++[pcU q]=(stk++[q]).map pcU:=by rw[hsu];exact em
  have fin:OkC st every x Y (ks++[(q,0,os++[a])]) (stk++[q]) (Z3.set (Y.length+1) (.lst ((stk++[q]).map pcU))):=by
   refine⟨?_,dq (by rw[hZ3];exact qm h0.d) (by omega),qm l3,?_,fun f hf=>?_,?_,fun p hp=>?_⟩
   ·obtain⟨G',hG'⟩:=h0.ex;rw[hZ3,hG'];obtain⟨G2,e2⟩:=kg (S:=Y) (G:=G') (k:=Y.length+2) (o:=.dnt (dC (ks++[(q,0,os++[a])]))) (by omega);rw[e2];exact kg (by omega)
   ·rw[pl,QV];exact Qe.mpr ⟨h0.nd,by simp,fun u hu v hv z=>by rw[Qv.mp hv]at z;have z':u=q:=z;rw[z']at hu;exact hc hu⟩
   ·rcases Qw.mp hf with z|z
    ·exact h0.led f z
    ·rw[Qv.mp z,hq,hos];exact(h0.led e he).step ha hw
   ·rw[pl,QV];exact Qd _ h0.fst
   ·rw[pl,QV];rcases Qw.mp hp with z|z
    ·exact Qd _ (h0.sub p z)
    ·exact QL _ (by rw[Qv.mp z];simp)
  generalize pcU q=qu at *;rwa[cat,srt,gz,eq1,hni,sx',l3',iV hA,aH];rw[em'];refine⟨trivial,⟨_,rfl⟩,_,_,fin,?_,fun f hf=>Qd _ hf,fun p hp=>?_,fun p hp=>Qd _ hp,by simp,by simp,by simp,fun i hi n1 n2=>?_⟩
  ·rw[pl,QV];exact QL _ (by simp)
  ·rw[pl,QV]at hp;rcases Qw.mp hp with z|z
   ·exact .inl z
   ·exact .inr (QL _ (by simpa using z))
  ·rw[Qy (by omega),hZ3,Qy (by omega)];exact old i hi
theorem K0(h:Prt st every j Y)(f:StF st n)(hx:x.length=n.toNat)(hn:n<=100)(hl:(aW st every).length<=5):Wp (Hf [.ref j,.tup [],.tup (x.map U.int)] Y) fun r=>∃b G,r=(.bl b,Y++G)/\(b=true↔Og st every x):=by
 unfold Hf;rw[xO];unfold g8;have s0:bq []=[]:=Z8.mp (aR []).length_eq;obtain⟨Z0,hZ0⟩:∃Z0,Z0=Y++[O.lst [],.lst [pcU ([],x)]]:=⟨_,rfl⟩;have hs0:eM [.tup []] Y=some (.ref Y.length,Y++[.lst []]):=by
  show(some (.ref Y.length,Y++[.lst ((bq []).map U.int)]):Option (U×Sto))=_;rw[s0];rfl
 have g0:(Y++[O.lst []])[Y.length]?=some (.lst []):=by rw[ga0];rfl
 refine Wp.bind (vD (.of (r:=(.ref (Y.length+1),Z0)) ?_ ?_))
 ·have ep:pcU ([],x)=.tup [.tup [],.tup (x.map U.int)]:=rfl;rw[hZ0,ep];generalize x.map U.int=xu;rwa[hs0,g0];simp
 dsimp only[List.set];obtain⟨Z1,hZ1⟩:∃Z1,Z1=Y++[O.lst [],.lst [pcU ([],x)],.dnt (dC [(([],x),0,[])])]:=⟨_,rfl⟩;refine vD (.of (r:=(.ref (Y.length+2),Z1)) ?_ ?_)
 ·have nk:v8 [.tup [],.tup (x.map U.int)]=some (pcK ([],x)):=kq ([],x);have lz:Z0.length=Y.length+2:=by rw[hZ0];simp
  have gk:(Z0++[O.dnt []])[Y.length+1]?=some (.lst [pcU ([],x)]):=by rw[hZ0,Q3,ga];rfl
  have h1:∀ρ:Rho,ag 3 ρ (Z0++[.dnt []])=some (.ref (Y.length+1),Z0++[.dnt []])->cOp fIx (ag 3) (cC (.int 0)) ρ (Z0++[.dnt []])=some (pcU ([],x),Z0++[.dnt []]):=fun ρ h=>by
   generalize pcU ([],x)=pu at gk ⊢;rwa[h,gk]
  have hc:∀ρ:Rho,cC (.bl true) ρ (Z0++[.dnt []])=some (.bl true,Z0++[.dnt []]):=fun _=>rfl;have ep:pcU ([],x)=.tup [.tup [],.tup (x.map U.int)]:=rfl;unfold qy;rw[h1 _ rfl,Q4];simp only[hc,Q4,ep,nk,ga0,ZY];rw[gs0,lz,hZ0,hZ1,Q3];rfl
 dsimp only[List.set];have ok0:OkC st every x Y [(([],x),0,[])] [([],x)] Z1:=by
  rw[hZ1];refine⟨⟨_,rfl⟩,by rw[ga];rfl,by rw[ga];rfl,by simp,fun e he=>?_,by simp,fun p hp=>by simpa using hp⟩;rw[Qv.mp he];exact⟨ZQ,fun a ha=>(by cases ha),rfl,by rw[s0];rfl⟩
 obtain⟨xu,hxu⟩:∃xu,xu=x.map U.int:=⟨_,rfl⟩;rw[<-hxu];obtain⟨ra,rl,rp,rt,Dl,Dp,ts,h1,h2,_⟩:=h.ex;refine IL (yB (fun m ρ Z=>∃ks stk r5 r6 r7 r8 r9,ρ=[some (.ref j),some (.tup []),some (.tup xu),some (.ref (Y.length+1)),some (.ref (Y.length+2)),r5,r6,r7,r8,r9]/\OkC st every x Y ks stk Z/\ClP st every ks stk/\m=2*(4000-ks.length)+stk.length/\stk.length<=ks.length) (fun m ρ Z hI=>?_) 9000 (2*(4000-1)+1) _ _ (by omega) ⟨_,_,none,none,none,none,none,rfl,ok0,fun p hp hn=>absurd (by simpa using hp) (by simpa using hn),rfl,by simp⟩);obtain⟨ks,stk,r5,r6,r7,r8,r9,rfl,ok,cl,hm,hsk⟩:=hI;have fw0:=ok.few hl;have nn:oR true (.ref (Y.length+1)) (.ref Z.length) (Z++[.lst []])=some (.bl (!decide (stk.map pcU=[])),Z++[.lst []]):=by
  have:=sJ (S:=Z++[.lst []]) (l:=Y.length+1) (l':=Z.length) true (ah ok.l) (by rw[ga0];rfl);rw[this];rfl
 have ok':=ok.app [.lst []];obtain⟨ZZ,hZZ⟩:∃ZZ,ZZ=Z++[O.lst []]:=⟨_,rfl⟩;rw[<-hZZ]at nn ok';have t1:aF (cOp (oR true) (ag 3) (iU aG)) [some (.ref j),some (.tup []),some (.tup xu),some (.ref (Y.length+1)),some (.ref (Y.length+2)),r5,r6,r7,r8,r9] Z=some (!decide (stk.map pcU=[]),ZZ):=by
  rwa[nn,hZZ.symm]
 rw[t1];simp only[aH];refine⟨fun hz=>?_,fun hz=>?_⟩
 ·have hs:stk=[]:=by
   rw[Bool.not_eq_false',decide_eq_true_eq,List.map_eq_nil_iff]at hz;exact hz
  subst hs;refine .inl ⟨trivial,.of rfl ?_⟩;unfold kFn;simp only[aH];obtain⟨G,hG⟩:=ok'.ex;refine⟨false,G,by rw[hG],⟨fun z=>(by cases z),fun hg=>?_⟩⟩;obtain⟨os,ho,hg⟩:=hg;have pm:=(aR os).symm;rw[ho]at pm;have ond:=oh (every:=every) f.hk;have:=qv (st:=st) (every:=every) ok.fst (fun p hp w hw=>(cl p hp (by simp)).2 w hw) os.length os rfl (pm.nodup_iff.mpr ond) (fun a ha=>pm.mem_iff.mp ha) hg;exact absurd (by rw[ho]) (cl _ this (by simp)).1
 ·have hz':stk≠[]:=fun z=>by rw[z]at hz;simp at hz
  obtain⟨s',p,rfl⟩:∃s' p,stk=s'++[p]:=by
   rcases List.eq_nil_or_concat stk with rfl|⟨q,a,hq⟩
   ·exact absurd rfl hz'
   ·exact⟨q,a,by rw[hq,ZL]⟩
  obtain⟨e,he,hep⟩:=QR.mp (ok.sub p (by simp));have hep':e.1=p:=hep;obtain⟨Z1,hZ1⟩:∃Z1,Z1=ZZ.set (Y.length+1) (.lst (s'.map pcU)):=⟨_,rfl⟩;have hsl:=ok'.l;obtain⟨su,hsu⟩:∃su,su=(s'++[p]).map pcU:=⟨_,rfl⟩;have hsl':=hsl;rw[<-hsu]at hsl';have pop:xG (.ref (Y.length+1)) [] ZZ=some (pcU p,Z1):=by
   have e1:(s'++[p]).map pcU=s'.map pcU++[pcU p]:=by rw[QV];rfl
   rw[e1]at hsl;have e2:(s'.map pcU++[pcU p])[(s'.map pcU++[pcU p]).length-1]?=some (pcU p):=by simp
   simp only[xG,hsl,e2,Q4,List.dropLast_concat];rw[hZ1]
  have ok1:OkC st every x Y ks s' Z1:=by
   rw[hZ1];refine⟨?_,dq ok'.d (by omega),qm hsl,ok.nd,ok.led,ok.fst,fun q hq=>ok.sub q (Qd _ hq)⟩;obtain⟨G,hG⟩:=ok'.ex;rw[hG];exact kg (by omega)
  have hA:Prt st every j Z1:=by obtain⟨G,hG⟩:=ok1.ex;rw[hG];exact h.app G
  obtain⟨ra',rl',rp',rt',Dl',Dp',ts',g1,g2,_⟩:=hA.ex;have led:=ok.led e he;have pl1:p.1.length<=5:=by
   rw[<-hep',led.eq,(aR _).length_eq];exact Qj (List.Nodup.length_le_of_subset led.nd led.sub) hl
  have pl2:p.2.length=n.toNat:=by rw[<-hep',led.eq];exact(lO _ _).trans hx
  obtain⟨ou,hou⟩:∃ou,ou=(aW st every).map U.int:=⟨_,rfl⟩;have lou:ou.length=(aW st every).length:=by rw[hou,Q5]
  rw[<-hou]at g2;obtain⟨_,ew,G2,rfl⟩:=BN hA f (p:=p) pl2 hn;obtain⟨Z2,hZ2⟩:∃Z2,Z2=Z1++(O.lst ((iP st every p).map stU)::G2):=⟨_,rfl⟩;have gj:Z2[Z1.length]?=some (.lst ((iP st every p).map stU)):=by rw[hZ2,ga0];rfl
  have ok2:OkC st every x Y ks s' Z2:=by rw[hZ2];exact ok1.app _
  rw[<-hZ2]at ew;have ep:pcU p=.tup [.tup (p.1.map U.int),.tup (p.2.map U.int)]:=rfl;rw[ep]at pop;obtain⟨gu,hgu⟩:∃gu,gu=p.1.map U.int:=⟨_,rfl⟩;obtain⟨yu,hyu⟩:∃yu,yu=p.2.map U.int:=⟨_,rfl⟩;have lgu:gu.length=p.1.length:=by rw[hgu,Q5]
  rw[<-hgu,<-hyu]at pop ew;have lY:Y.length+2<Z1.length:=(Q9.mp ok1.d).1;unfold m9;by_cases hw:p.1.length=(aW st every).length
  ·have dw:decide ((p.1.length:Int)=((aW st every).length:Int))=true:=decide_eq_true (by rw[hw]);rwa[hsl',pop,lgu,g1,zW,g2,lou,dw,aH];refine .inr ⟨_,rfl,.inr ⟨_,rfl,?_⟩⟩;obtain⟨G,hG⟩:=ok1.ex;exact⟨true,G,by rw[hG],⟨fun _=>⟨e.2.2,led.whole f.hk (by rw[hep'];exact hw),led.good⟩,fun _=>rfl⟩⟩
  ·have dw:decide ((p.1.length:Int)=((aW st every).length:Int))=false:=decide_eq_false (by omega);rwa[hsl',pop,lgu,g1,zW,g2,lou,dw,aH];refine BG (S1:=Z2) (lT (l:=Z1.length) (us:=(iP st every p).map stU) (by rwa[ew]) gj) (pG (f:=stU) (fun rest ρ Z'=>∃dn ks' stk' r7 r8 r9,iP st every p=dn++rest/\ρ=[some (.ref j),some (.tup []),some (.tup xu),some (.ref (Y.length+1)),some (.ref (Y.length+2)),some (.tup gu),some (.tup yu),r7,r8,r9]/\OkC st every x Y ks' stk' Z'/\(∀w∈dn,w.2∈pl ks')/\(∀f∈ks,f∈ks')/\(∀q,q∈pl ks'->q∈pl ks\/q∈stk')/\(∀q∈s',q∈stk')/\ks'.length-ks.length=stk'.length-s'.length/\ks.length<=ks'.length/\s'.length<=stk'.length/\Z'[Z1.length]?=some (.lst ((iP st every p).map stU))) (fun ρ Z' hI=>?_) (fun w rest ρ Z' hI=>?_) _ _ _ ⟨[],ks,s',r7,r8,r9,rfl,rfl,ok2,fun w hw=>(by cases hw),fun f hf=>hf,fun q hq=>.inl hq,fun q hq=>hq,by omega,QZ _,QZ _,gj⟩)
   ·obtain⟨dn,ks',stk',r7',r8',r9',hd,rfl,okk,hdn,hks,hnew,hst,e1,e2,e3,gj'⟩:=hI;rw[QJ]at hd;refine⟨gj',.inl ⟨rfl,_,?_,ks',stk',_,_,_,_,_,rfl,okk,fun q hq hn=>?_,rfl,?_⟩⟩
    ·have f':=okk.few hl;rw[Q6,Qa]at hm;omega
    ·have hqk:=(hnew q hq).resolve_right hn;have mono:∀r,r∈pl ks->r∈pl ks':=fun r hr=>by
      obtain⟨f,hf,rfl⟩:=QR.mp hr;exact QR.mpr ⟨f,hks f hf,rfl⟩
     by_cases hqp:q=p
     ·subst hqp;exact⟨hw,fun w hw'=>hdn w (by rw[<-hd];exact hw')⟩
     ·obtain⟨c1,c2⟩:=cl q hqk (fun z=>by
       rcases Qw.mp z with z|z
       ·exact hn (hst q z)
       ·exact hqp (Qv.mp z))
      exact⟨c1,fun w hw'=>mono _ (c2 w hw')⟩
    ·rw[Q6,Qa]at hsk;omega
   ·obtain⟨dn,ks',stk',r7',r8',r9',hd,rfl,okk,hdn,hks,hnew,hst,e1,e2,e3,gj'⟩:=hI;refine⟨gj',?_⟩;have hwm:w∈iP st every p:=by rw[hd];simp
    obtain⟨a,haf,rfl⟩:=QR.mp hwm;obtain⟨ha1,ha2⟩:=Qp.mp haf;refine .of (r:=([some (.ref j),some (.tup []),some (.tup xu),some (.ref (Y.length+1)),some (.ref (Y.length+2)),some (.tup gu),some (.tup yu),some (.int a),some (.tup ((chg st a p.2).map U.int)),r9'],Z')) rfl ?_;have f':=okk.few hl;have put:=FL (j:=j) (tu:=.tup []) (xu:=.tup xu) (r9:=r9') okk (hks e he) (a:=a) ha1 (by rw[hep'];exact ha2) hl (by rw[Q6,Qa]at hsk;omega) (by rw[hep'];exact pl1);rw[hep',<-hgu,<-hyu]at put;have lj':Z1.length<Z'.length:=(Q9.mp gj').1;refine put.mono fun s hs=>?_;obtain⟨q1,⟨r9'',q2⟩,ks2,stk2,q3,q4,q5,q6,q7,q8,q9,q10,q11⟩:=hs;refine .inl ⟨q1,dn++[(a,pV st p a)],ks2,stk2,_,_,_,by simp[hd],q2,q3,fun w hw=>?_,fun f hf=>q5 f (hks f hf),fun q hq=>?_,fun q hq=>q7 q (hst q hq),by omega,by omega,by omega,by rw[q11 Z1.length lj' (by omega) (by omega)];exact gj'⟩
    ·rcases Qw.mp hw with z|z
     ·obtain⟨f,hf,hfe⟩:=QR.mp (hdn w z);rw[<-hfe];exact QR.mpr ⟨f,q5 f hf,rfl⟩
     ·rw[Qv.mp z];exact q4
    ·rcases q6 q hq with z|z
     ·rcases hnew q z with y|y
      ·exact .inl y
      ·exact .inr (q7 q y)
     ·exact .inr z
end
def eF(bE aK bR bh:Fn):CS:=
 (ff (pD (aF (cOp (fIn false) (ag 4) (ag 3))) (pD (aF (cOp (fIn false) (ag 5) (ag 3))) (aF (cOp fLt (cBM oQ (ag 3) (af (ag 5) aG)) (cBM oQ (ag 3) (af (ag 4) aG)))))) (et (cC (.bl false))) cf)
def g9(bE aK bR bh:Fn):CS:=
 (bj (ff (x5 (aF (cCB bR (af (ag 1) (af (ag 6) (af (ag 0) aG)))))) (et (cC (.bl false))) cf)
  (dI 0 (cCB bh (af (ag 1) (af (ag 6) (af (ag 0) aG))))))
def cY(bE aK bR bh:Fn):CS:=
 (bj (ff (aF (cOp (oR true) (cCB eD (af (ag 3) aG)) (cCB bE (af (ag 1) (af (ag 2) aG))))) (et (cC (.bl false))) cf)
  (bj (me (iTp (cCB aK (af (ag 1) aG))) (gTp [4,5]) (eF bE aK bR bh))
  (bj (me (iTp (ag 3)) (gNm 6) (g9 bE aK bR bh))
  (et (cC (.bl true))))))
theorem oU{bE aK bR bh:Fn}{a0 a1 a2 a3:U}{S:Sto}:fnU 7 4 (cY bE aK bR bh) [a0,a1,a2,a3] S=((cY bE aK bR bh) [some a0,some a1,some a2,some a3,none,none,none] S).bind kFn:=iO rfl
def gH(c9 b5 lV cH br:Fn):CS:=
 (bj (dI 6 (cCB lV (af (ag 0) (af (ag 1) (af (ag 2) (af (ag 3) aG))))))
  (bj (ff (cOr (x5 (aF (uw .tuple (ag 6)))) (cOr (aF (cOp fNe (cCB oP (af (ag 6) aG)) (cC (.int 2)))) (x5 (aF (uw .list (cOp fIx (ag 6) (cC (.int 1)))))))) (et (cC (.bl false))) cf)
  (bj (ff (x5 (aF (cCB cH (af (cOp fIx (ag 6) (cC (.int 0))) (af (cOp fIx (iU (af (cC (.str "none")) (af (cC (.str "good")) aG))) (cCB Lv (af (ag 4) aG))) aG))))) (et (cC (.bl false))) cf)
  (bj (dI 7 (fg (iTp (cOp fIx (ag 6) (cC (.int 1)))) (gNm 0) (rD (uw .int (ag 0)) (xS (uw .bool (ag 0)))) 1 []))
  (bj (ff (pD (aF (ag 4)) (aF (cOp (fIn false) (cC (.bl false)) (ag 7)))) (et (cC (.bl false))) cf)
  (bj (ff (pD (aF (ag 4)) (x5 (aF (cCB br (af (ag 1) (af (ag 2) (af (ag 3) (af (cOp fIx (ag 6) (cC (.int 1))) aG)))))))) (et (cC (.bl false))) cf)
  (fG (cBM cq (cOp fIx (ag 6) (cC (.int 1))) (af (cC (.int 0)) aG)))))))))
def eY(c9 b5 lV cH br:Fn):CS:=
 (bj (dI 4 (cCB c9 (af (cCB b5 (af (ag 2) (af (ag 3) aG))) (af (gp aG) (af (ag 1) aG)))))
  (bj (me (iB (af (cC (.int 2)) aG)) (gNm 5) (gH c9 b5 lV cH br))
  (et (cC (.bl true)))))
theorem tX{c9 b5 lV cH br:Fn}{a0 a1 a2 a3:U}{S:Sto}:fnU 8 4 (eY c9 b5 lV cH br) [a0,a1,a2,a3] S=((eY c9 b5 lV cH br) [some a0,some a1,some a2,some a3,none,none,none,none] S).bind kFn:=iO rfl
def ur:Fn:=fnU 7 4 (cY rK mJ rG l8)
section
variable{n w:Int}{evs:List Ev}{x os:List Int}{a:Int}{t:Att}{N l jo:Nat}{S:Sto}{every:Bool}{st:St}
theorem oJ:∀(l r gn x:List Int),iQ st every gn x (l++r)=(iQ st every gn x l&&iQ st every (l.reverse++gn) (lP st x l) r)
 |[],r,gn,x=>by
  show iQ st every gn x r=(true&&iQ st every gn x r);rw[Bool.true_and]
 |b::l,r,gn,x=>by
  rw[Qz,fJ,oJ l,fJ,List.reverse_cons,Q3,List.singleton_append,Bool.and_assoc];rfl
theorem GB(hg:iQ st every [] x os=true)(nd:os.Nodup){p q:Int}(hp:p∈ny st q)(ap:vh st every p=true)(hq:q∈os):os.idxOf p<os.idxOf q:=by
 obtain⟨l,r,rfl⟩:=List.append_of_mem hq;rw[oJ,fJ,Qm,Qm]at hg;have hm:=hg.2.1;unfold sQ at hm;unfold ny at hp;cases hv:aS st q with
 |none=>rw[hv]at hm;cases hm
 |some t=>
  rw[hv]at hm hp;dsimp only at hm hp;rw[Qm,ZX]at hm;have h1:=of_decide_eq_true (hm.1 p (Qp.mpr ⟨hp,ap⟩));rw[QJ,List.mem_reverse]at h1;have h2:q∉l:=fun z=>(Qe.mp nd).2.2 q z q QU rfl;have h3:=List.idxOf_lt_length_of_mem h1;rw[List.idxOf_append,List.idxOf_append,if_pos h1,if_neg h2];omega
theorem G9(hl:S[l]?=some (.lst (evs.map Ev.u)))(lg:jD n w N evs)(he:evs.length<=900)(hN:N<=60):Wp (rK [.ref l,.bl every] S) fun r=>∃j G,r.1=.ref j/\r.2=S++G/\r.2[j]?=some (.lst ((aW (aQ [] evs) every).map U.int))/\S.length<=j:=by
 obtain⟨G0,k0,h0,g0⟩:=wW hl lg he hN;have eK:(bq (aE (aQ [] evs))).length<=60:=by rw[(aR _).length_eq];unfold aE;rw[Q5];exact Qj lg.cnt hN
 obtain⟨B,hB⟩:∃B,B=S++G0:=⟨_,rfl⟩;have gk:B[S.length+k0]?=some (.lst ((bq (aE (aQ [] evs))).map U.int)):=by rw[hB,ga];exact g0
 rw[<-hB]at h0;unfold rK;rw[t7];unfold fe;rwa[aH];repeat with_reducible refine Wp.bind ?_
 refine qF (S1:=B) (cs:=[some (.bl every),some (.ref l)]) (xs:=bq (aE (aQ [] evs))) (f:=U.int) (v:=U.int) (p:=vh (aQ [] evs) every) (lT (l:=S.length+k0) (by rwa[h0]) gk) (fun G=>ah gk) (by omega) rfl (fun b hb G=>?_) fun G=>?_
 ·obtain⟨G1,h1⟩:=wH (S:=B++G) (a:=b) (by rw[hB];exact ah (ah hl)) lg.lo he;cases every with
  |true=>
   rwa[vh,Bool.true_or,aH];exact⟨trivial,[],by simp,fun _=>⟨trivial,[],by simp⟩⟩
  |false=>
   rw[Q3]at h1;rwa[vh,Bool.false_or,h1,fF,aH];exact⟨trivial,G1,by simp,fun _=>⟨trivial,[],by simp⟩⟩
 ·rwa[aH];exact⟨B.length,_,rfl,by rw[hB,Q3],by rw[ga0];rfl,by rw[hB,Q6];omega⟩
theorem Gw(hl:S[l]?=some (.lst (evs.map Ev.u)))(hlo:S[jo]?=some (.lst (os.map U.int)))(lg:jD n w N evs)(he:evs.length<=900)(hN:N<=7)(hn:n<=100)(hx:x.length=n.toNat)(hs:bq os=aW (aQ [] evs) every)(hg:iQ (aQ [] evs) every [] x os=true) :
  Wp (ur [.tup (x.map U.int),.ref l,.bl every,.ref jo] S) fun r=>∃G,r=(.bl true,S++G):=by
 have on:=oh (every:=every) lg.kd;have nd:os.Nodup:=(aR os).nodup_iff.mp (by rw[hs];exact on);have ol:os.length<=7:=by
  have h1:=(aR os).length_eq;rw[hs]at h1;have h2:=fC (st:=aQ [] evs) (every:=every);have:=lg.cnt;omega
 have hm:∀a,a∈os↔a∈aW (aQ [] evs) every:=fun a=>by rw[<-(aR os).mem_iff,hs]
 have s0:eD [.ref jo] S=some (.ref S.length,S++[.lst ((bq os).map U.int)]):=by
  simp only[eD,hlo,fS,Q4];rw[if_pos (by omega)]
 obtain⟨S1,hS1⟩:∃S1,S1=S++[O.lst ((bq os).map U.int)]:=⟨_,rfl⟩;obtain⟨⟨_,S2⟩,e1,j1,G1,rfl,h2,g1,_⟩:=G9 (every:=every) (S:=S1) (by rw[hS1];exact ah hl) lg he (by omega);dsimp only at h2 g1;have ga1:S2[S.length]?=some (.lst ((bq os).map U.int)):=by rw[h2,hS1];exact ah (by rw[ga0];rfl)
 have q:=C4 true ga1 g1;rw[decide_eq_true hs]at q;rw[<-hS1]at s0;obtain⟨X2,hX2⟩:∃X2,S2=S++X2:=⟨[O.lst ((bq os).map U.int)]++G1,by rw[h2,hS1,Q3]⟩;obtain⟨G3,k3,e3,g3⟩:=vI (S:=S2) (by rw[hX2];exact ah hl) lg he hN;obtain⟨S3,hS3⟩:∃S3,S3=S2++G3:=⟨_,rfl⟩;obtain⟨j3,hj3⟩:∃j,j=S2.length+k3:=⟨_,rfl⟩;rw[<-hS3,<-hj3]at e3;obtain⟨ts,hts⟩:∃ts,ts=iZ (zj (aQ [] evs) (aE (aQ [] evs))):=⟨_,rfl⟩;rw[<-hts]at g3;have gt:S3[j3]?=some (.lst (ts.map pP)):=by rw[hS3,hj3,ga];exact g3
 obtain⟨X3,hX3⟩:∃X3,S3=S++X3:=⟨X2++G3,by rw[hS3,hX2,Q3]⟩;have go3:S3[jo]?=some (.lst (os.map U.int)):=by rw[hX3];exact ah hlo
 unfold ur;rw[oU];unfold cY;obtain⟨xu,hxu⟩:∃xu,xu=x.map U.int:=⟨_,rfl⟩;rw[<-hxu];refine Wp.bind (mh (.of (r:=(.nx,[some (.tup xu),some (.ref l),some (.bl every),some (.ref jo),none,none,none],S2)) ?_ ⟨rfl,?_⟩))
 ·rwa[s0,e1,q,if_true]
 refine mh (BG (S1:=S3) (lT (l:=j3) (us:=ts.map pP) (by rwa[e3]) gt) (pG (f:=pP) (fun rest ρ Y=>(∀p∈rest,p∈ts)/\(∃r4 r5,ρ=[some (.tup xu),some (.ref l),some (.bl every),some (.ref jo),r4,r5,none])/\S3=Y) (fun ρ Y hI=>?_) (fun p rest ρ Y hI=>?_) _ _ _ ⟨fun p hp=>hp,⟨none,none,rfl⟩,rfl⟩))
 ·obtain⟨_,⟨r4,r5,rfl⟩,rfl⟩:=hI;refine⟨gt,rfl,?_⟩;refine mh (BG (S1:=S3) (lT (l:=jo) (us:=os.map U.int) rfl go3) (pG (f:=U.int) (fun rest ρ Y=>∃dn r6 G,os=dn++rest/\ρ=[some (.tup ((lP (aQ [] evs) x dn).map U.int)),some (.ref l),some (.bl every),some (.ref jo),r4,r5,r6]/\Y=S3++G) (fun ρ Y hI=>?_) (fun a rest ρ Y hI=>?_) _ _ _ ⟨[],none,[],rfl,by rw[hxu];rfl,by rw[QJ]⟩))
  ·obtain⟨dn,r6,G,hd,rfl,rfl⟩:=hI;refine⟨ah go3,rfl,.of rfl ?_⟩;unfold kFn;simp only[aH];exact⟨X3++G,by rw[hX3,Q3]⟩
  ·obtain⟨dn,r6,G,hd,rfl,rfl⟩:=hI;obtain⟨y,hy⟩:∃y,y=lP (aQ [] evs) x dn:=⟨_,rfl⟩;rw[<-hy];refine⟨ah go3,.of rfl ?_⟩;have ly:y.length=n.toNat:=by rw[hy];exact(lO _ _).trans hx
   have hgl:∀G:Sto,(S3++G)[l]?=some (.lst (evs.map Ev.u)):=fun G=>by rw[hX3];exact ah (ah hl)
   have hg2:=hg;rw[hd,oJ,fJ,Qm,Qm]at hg2;have hmay:=hg2.2.1;rw[<-hy]at hmay;obtain⟨t,hv⟩:=qT (lI ((hm a).mp (by rw[hd];simp)));unfold sQ at hmay;rw[hv]at hmay;dsimp only at hmay;rw[Qm]at hmay;have ft:Dc (aQ [] evs) a y=true:=by
    have h:=(oz evs [] lg.lo Lm a t hv).2;have e:ej (aQ [] evs) a=t.lk:=by unfold ej;rw[hv];rfl
    unfold Dc;rw[e,ZX];exact fun p hp=>ZX.mp hmay.2 p ((h p).mpr hp)
   obtain⟨G4,e4⟩:=CN (a:=a) (hgl G) lg he ly;rw[ft]at e4;rw[Q3]at e4;obtain⟨G5,e5⟩:=xP (a:=a) (hgl (G++G4)) lg he (x:=y) (by omega);generalize y.map U.int=yu at e4 e5 ⊢;obtain⟨cu,hcu⟩:∃cu,cu=(chg (aQ [] evs) a y).map U.int:=⟨_,rfl⟩;rw[<-hcu]at e5;unfold g9;rwa[e4,e5,aH];refine .inl ⟨trivial,dn++[a],some (.int a),_,by rw[hd];simp,?_,rfl⟩;rw[qi,<-hy,<-hcu]
 ·obtain⟨hr,⟨r4,r5,rfl⟩,rfl⟩:=hI;obtain⟨p,q⟩:=p;refine⟨gt,.of (r:=([some (.tup xu),some (.ref l),some (.bl every),some (.ref jo),some (.int p),some (.int q),none],S3)) rfl ?_⟩;have hpq:=hr (p,q) QU;rw[hts,sN,nB]at hpq;have nx:Wp (eF rK mJ rG l8 [some (.tup xu),some (.ref l),some (.bl every),some (.ref jo),some (.int p),some (.int q),none] S3) fun s=>s=(.nx,[some (.tup xu),some (.ref l),some (.bl every),some (.ref jo),some (.int p),some (.int q),none],S3):=by
   have ix:∀z,z∈os->oQ (.ref jo) [.int z] S3=some (.int (os.idxOf z:Nat),S3):=fun z hz=>by
    have hL:os.length<=LIM:=by unfold LIM;omega
    simp only[oQ,go3,fS,Q4,hz,hL,and_self,if_true]
   have i1:=fun b=>Em false (b:=b) go3;simp only[QC,if_false]at i1;have i1p:=i1 p;have i1q:=i1 q;unfold eF;by_cases h1:p∈os
   ·rw[decide_eq_true h1]at i1p;by_cases h2:q∈os
    ·rw[decide_eq_true h2]at i1q;have lt:=GB hg nd hpq.2 (Qp.mp ((hm p).mp h1)).2 h2;have ic:decide (((os.idxOf q:Nat):Int)<((os.idxOf p:Nat):Int))=false:=decide_eq_false (by omega);rwa[i1p,i1q,go3,ix p h1,ix q h2,ic,aH]
    ·rw[decide_eq_false h2]at i1q;rwa[i1p,i1q,aH]
   ·rw[decide_eq_false h1]at i1p;rwa[i1p,aH]
  refine nx.mono fun s hs=>.inl ?_;subst hs;exact⟨rfl,fun z hz=>hr z (QD _ hz),⟨_,_,rfl⟩,rfl⟩
end
section
variable{c cA:Cl}{n w:Int}{evs:List Ev}{x:List Int}{l j:Nat}{S Z:Sto}{every b:Bool}{wu:U}{fs:Fn}{r5 r6 r7:Option U}{us:List U}
abbrev fR(c cA:Cl)(fs:Fn)(f:Fn->Fn->Fn->Fn->Fn->CS):CS:=f Hf vq (K4 c cA) fs ur
def vo(c cA:Cl)(fs:Fn):Fn:=fnU 8 4 (fR c cA fs eY)
def wdB(b:Bool):Str:=if b then "good" else "none"
theorem yX(gj:Z[j]?=some (.lst us))(lu:us.length<=5000)(sj:S.length<=j)(hZ:∃G,Z=S++G)(hf:∀(s:Str) (S:Sto),fs [.str s,.str s] S=some (.bl true,S))(isI:∀u∈us,∀Y:Sto,rD (uw .int (ag 0)) (xS (uw .bool (ag 0))) [some u] Y=some (.bl b,Y))
  (ho:b=true->∀G,Wp (ur [.tup (x.map U.int),.ref l,.bl every,.ref j] (Z++G)) fun r=>∃G',r=(.bl true,Z++G++G')) :
  Wp (bj (ff (cOr (x5 (aF (uw .tuple (ag 6)))) (cOr (aF (cOp fNe (cCB oP (af (ag 6) aG)) (cC (.int 2)))) (x5 (aF (uw .list (cOp fIx (ag 6) (cC (.int 1)))))))) (et (cC (.bl false))) cf)
  (bj (ff (x5 (aF (cCB fs (af (cOp fIx (ag 6) (cC (.int 0))) (af (cOp fIx (iU (af (cC (.str "none")) (af (cC (.str "good")) aG))) (cCB Lv (af (ag 4) aG))) aG))))) (et (cC (.bl false))) cf)
  (bj (dI 7 (fg (iTp (cOp fIx (ag 6) (cC (.int 1)))) (gNm 0) (rD (uw .int (ag 0)) (xS (uw .bool (ag 0)))) 1 []))
  (bj (ff (pD (aF (ag 4)) (aF (cOp (fIn false) (cC (.bl false)) (ag 7)))) (et (cC (.bl false))) cf)
  (bj (ff (pD (aF (ag 4)) (x5 (aF (cCB ur (af (ag 1) (af (ag 2) (af (ag 3) (af (cOp fIx (ag 6) (cC (.int 1))) aG)))))))) (et (cC (.bl false))) cf)
  (fG (cBM cq (cOp fIx (ag 6) (cC (.int 1))) (af (cC (.int 0)) aG))))))) [some wu,some (.tup (x.map U.int)),some (.ref l),some (.bl every),some (.bl b),r5,some (.tup [.str (wdB b),.ref j]),r7] Z)
   fun r=>r.1=.nx/\∃r7' G,r.2=([some wu,some (.tup (x.map U.int)),some (.ref l),some (.bl every),some (.bl b),r5,some (.tup [.str (wdB b),.ref j]),r7'],S++G):=by
 obtain⟨xu,hxu⟩:∃xu,xu=x.map U.int:=⟨_,rfl⟩;rw[<-hxu]at ho ⊢;have tl:=IT gj;have d2:decide (((0+1+1:Nat):Int)=2)=true:=by decide
 refine mh (.of (r:=(.nx,[some wu,some (.tup xu),some (.ref l),some (.bl every),some (.bl b),r5,some (.tup [.str (wdB b),.ref j]),r7],Z)) ?_ ⟨rfl,?_⟩)
 ·rwa[DT,tl,BM,d2]
 obtain⟨Z2,hZ2⟩:∃Z2,Z2=Z++[O.lst [.str "none",.str "good"]]:=⟨_,rfl⟩;have gk:Z2[Z.length]?=some (.lst [.str "none",.str "good"]):=by rw[hZ2,ga0];rfl
 have gj2:Z2[j]?=some (.lst us):=by rw[hZ2];exact ah gj
 refine mh (.of (r:=(.nx,[some wu,some (.tup xu),some (.ref l),some (.bl every),some (.bl b),r5,some (.tup [.str (wdB b),.ref j]),r7],Z2)) ?_ ⟨rfl,?_⟩)
 ·cases b with
  |true=>
   have h1:=hf (wdB true) Z2;have w1:wdB true="good":=rfl;rw[w1]at h1 ⊢;rwa[hZ2.symm,yd,if_true,gk,h1]
  |false=>
   have h1:=hf (wdB false) Z2;have w1:wdB false="none":=rfl;rw[w1]at h1 ⊢;rwa[hZ2.symm,yd,QC,if_false,gk,h1]
 refine vD (IM (S1:=Z2) (cs:=[]) (xs:=us) (f:=id) (v:=fun _=>.bl b) (lT (l:=j) (by rwa[gj2]) (by rw[List.map_id];exact gj2)) (fun G=>ah (by rw[List.map_id];exact gj2)) (by omega) rfl (fun u hu G=>.of (isI u hu _) ⟨rfl,[],by simp⟩) fun G=>?_);dsimp only[List.set];obtain⟨Z3,hZ3⟩:∃Z3,Z3=Z2++(O.lst ((us.map fun _=>b).map U.bl)::G):=⟨_,rfl⟩;have g3:Z3[Z2.length]?=some (.lst ((us.map fun _=>b).map U.bl)):=by rw[hZ3,ga0];rfl
 have e3:Z2++(O.lst (us.map fun _=>U.bl b)::G)=Z3:=by rw[hZ3,Qg];rfl
 rw[e3];have z3:∃G3,Z3=Z++G3:=⟨_,by rw[hZ3,hZ2,Q3]⟩;obtain⟨G3,hG3⟩:=z3;refine mh (.of (r:=(.nx,[some wu,some (.tup xu),some (.ref l),some (.bl every),some (.bl b),r5,some (.tup [.str (wdB b),.ref j]),some (.ref Z2.length)],Z3)) ?_ ⟨rfl,?_⟩)
 ·cases b with
  |true=>
   have i3:fIn false (.bl false) (.ref Z2.length) Z3=some (.bl false,Z3):=by
    unfold fIn;simp only[g3];rw[if_pos ⟨rfl,by rw[List.all_map,ZX];intro b _;rfl⟩,if_neg QK,inB];simp
   generalize (us.map fun _=>true).map U.bl=vu at g3;rwa[i3]
  |false=>rwa[]
 have app:∀(Y:Sto) (ρ:Rho),(∃G,Y=Z++G)->ρ=[some wu,some (.tup xu),some (.ref l),some (.bl every),some (.bl b),r5,some (.tup [.str (wdB b),.ref j]),some (.ref Z2.length)]->Wp (fG (cBM cq (cOp fIx (ag 6) (cC (.int 1))) (af (cC (.int 0)) aG)) ρ Y) fun r=>r.1=.nx/\∃r7' G,r.2=([some wu,some (.tup xu),some (.ref l),some (.bl every),some (.bl b),r5,some (.tup [.str (wdB b),.ref j]),r7'],S++G):=fun Y ρ hY hρ=>by
  obtain⟨G,hY⟩:=hY;obtain⟨G0,hZ⟩:=hZ;have gy:Y[j]?=some (.lst us):=by rw[hY];exact ah gj
  have la:us.length<LIM:=by unfold LIM;omega
  obtain⟨G5,h5⟩:∃G5,Y.set j (.lst (us++[.int 0]))=S++G5:=by
   rw[hY,hZ,Q3];exact kg sj
  rw[hρ];rwa[gy,iV la,h5,aH];exact⟨trivial,_,_,rfl⟩
 cases b with
 |true=>
  obtain⟨_,e4,G4,rfl⟩:=ho rfl G3;rw[<-hG3]at e4;refine mh (.of (r:=(.nx,[some wu,some (.tup xu),some (.ref l),some (.bl every),some (.bl true),r5,some (.tup [.str (wdB true),.ref j]),some (.ref Z2.length)],Z3++G4)) ?_ ⟨rfl,app _ _ ⟨_,by rw[hG3,Q3]⟩ rfl⟩);rwa[e4]
 |false=>
  refine mh (.of (r:=(.nx,[some wu,some (.tup xu),some (.ref l),some (.bl every),some (.bl false),r5,some (.tup [.str (wdB false),.ref j]),some (.ref Z2.length)],Z3)) ?_ ⟨rfl,app _ _ ⟨_,hG3⟩ rfl⟩);rwa[]
theorem xh(hns:c.ns.length=5)(hna:cA.ns.length=3)(hl:S[l]?=some (.lst (evs.map Ev.u)))(lg:jD n w 5 evs)(he:evs.length<=900)(hx:x.length=n.toNat)(hn:n<=100)(hb:b=true↔Og (aQ [] evs) every x)(hf:∀(s:Str) (S:Sto),fs [.str s,.str s] S=some (.bl true,S)) :
  Wp (fR c cA fs gH [some wu,some (.tup (x.map U.int)),some (.ref l),some (.bl every),some (.bl b),r5,r6,r7] S) fun r=>r.1=.nx/\∃r6' r7' G,r.2=([some wu,some (.tup (x.map U.int)),some (.ref l),some (.bl every),some (.bl b),r5,r6',r7'],S++G):=by
 obtain⟨⟨u,Z⟩,e1,⟨G1,h1⟩,j,hj,o⟩:=Np (wu:=wu) (every:=every) hns hna hl lg he hx hn;dsimp only at h1 o;have set6:∀{v:U},K4 c cA [wu,.tup (x.map U.int),.ref l,.bl every] S=some (v,Z)->cCB (K4 c cA) (af (ag 0) (af (ag 1) (af (ag 2) (af (ag 3) aG)))) [some wu,some (.tup (x.map U.int)),some (.ref l),some (.bl every),some (.bl b),r5,r6,r7] S=some (v,Z):=fun h=>by
  generalize x.map U.int=xu at h ⊢;rwa[h]
 unfold fR gH;rcases o with⟨os,rfl,g,s1,q1⟩|⟨ps,rfl,⟨g,hp⟩,q1⟩
 ·have hbt:b=true:=hb.mpr ⟨os,s1,q1⟩;subst hbt;have ol:os.length<=5:=by
   have h1:=(aR os).length_eq;rw[s1]at h1;have h2:=fC (st:=aQ [] evs) (every:=every);have:=lg.cnt;omega
  refine vD (.of (set6 e1) ?_);refine Wp.mono (yX (S:=S) (x:=x) (l:=l) (every:=every) (b:=true) (us:=os.map U.int) g (by rw[Q5];omega) hj ⟨_,h1⟩ hf (fun u hu Y=>?_) fun _ G=>?_) fun r hr=>⟨hr.1,let ⟨r7',G,h⟩:=hr.2;⟨_,r7',G,h⟩⟩
  ·obtain⟨i,_,rfl⟩:=QR.mp hu;rwa[IU,BM]
  ·exact Gw (by rw[h1];exact ah (ah hl)) (ah g) lg he (by omega) hn hx s1 q1
 ·have hbf:b=false:=by
   cases b with
   |false=>rfl
   |true=>
    obtain⟨os,z1,z2⟩:=hb.mp rfl;rw[q1 os z1]at z2;cases z2
  subst hbf;refine vD (.of (set6 e1) ?_);refine Wp.mono (yX (S:=S) (x:=x) (l:=l) (every:=every) (b:=false) (us:=ps.map pcU) g (by rw[Q5];omega) hj ⟨_,h1⟩ hf (fun u hu Y=>?_) fun z=>by cases z) fun r hr=>⟨hr.1,let ⟨r7',G,h⟩:=hr.2;⟨_,r7',G,h⟩⟩;obtain⟨p,_,rfl⟩:=QR.mp hu;unfold pcU;rwa[DT,BM]
theorem BV(hns:c.ns.length=5)(hna:cA.ns.length=3)(hl:S[l]?=some (.lst (evs.map Ev.u)))(lg:jD n w 5 evs)(he:evs.length<=900)(hx:x.length=n.toNat)(hn:n<=100)(st5:StF (aQ [] evs) n)(hf:∀(s:Str) (S:Sto),fs [.str s,.str s] S=some (.bl true,S)) :
  Wp (vo c cA fs [wu,.tup (x.map U.int),.ref l,.bl every] S) fun r=>∃G,r=(.bl true,S++G):=by
 obtain⟨_,e2,G2,rfl,p2⟩:=Cm (every:=every) hl lg he (by omega);have oln:(aW (aQ [] evs) every).length<=5:=Qj fC lg.cnt;obtain⟨_,e3,b,G3,rfl,hb⟩:=K0 p2 st5 hx hn oln;unfold vo;rw[tX];unfold eY;refine Wp.bind (vD (.of (r:=(.bl b,S++G2++G3)) ?_ ?_))
 ·generalize x.map U.int=xu at e3 ⊢;obtain⟨S2,h2⟩:∃S2,S2=S++G2:=⟨_,rfl⟩;rw[<-h2]at e2 e3 ⊢;rwa[e2,e3]
 dsimp only[List.set];refine mh (BG (us:=(Qi 2).map fun i:Nat=>U.int (i:Int)) (ok:=fun _=>True) (S1:=S++G2++G3) rfl (pG (f:=fun i:Nat=>U.int (i:Int)) (fun rest ρ Z=>∃r5 r6 r7 G,ρ=[some wu,some (.tup (x.map U.int)),some (.ref l),some (.bl every),some (.bl b),r5,r6,r7]/\Z=S++G) (fun ρ Z hI=>?_) (fun e rest ρ Z hI=>?_) _ _ _ ⟨none,none,none,_,rfl,Q3 ..⟩))
 ·obtain⟨r5,r6,r7,G,rfl,rfl⟩:=hI;refine⟨trivial,rfl,.of rfl ?_⟩;unfold kFn;simp only[aH];exact⟨G,rfl⟩
 ·obtain⟨r5,r6,r7,G,rfl,rfl⟩:=hI;refine⟨trivial,.of (r:=([some wu,some (.tup (x.map U.int)),some (.ref l),some (.bl every),some (.bl b),some (.int (e:Int)),r6,r7],S++G)) rfl ?_⟩;refine(xh (S:=S++G) hns hna (ah hl) lg he hx hn hb hf).mono fun r hr=>?_;obtain⟨o,r2⟩:=r;obtain⟨q1,r6',r7',G',q2⟩:=hr;dsimp only at q1 q2;exact .inl ⟨q1,_,r6',r7',G++G',by rw[q2],by rw[q2,Q3]⟩
end
end OQ
namespace OL
open PySem PySem.Spec PyProof.Rows L2 OG OP OQ
def top(i:Nat):Stmt:=PySem.Challenge.pw_oneglance_k19_good_or_none.main.body.getD i (.Pass ⟨0,0,0,0⟩)
abbrev ig:Stmt:=mB (top 5) 0
abbrev fP:Stmt:=mB (top 5) 2
abbrev gF:Stmt:=mB (top 5) 3
abbrev dS:Stmt:=mB (top 5) 4
abbrev kh:Stmt:=top 6
abbrev ik:Stmt:=mB (top 8) 0
abbrev dh:Stmt:=mB (top 8) 1
abbrev mi:Stmt:=top 9
abbrev ml:Stmt:=top 10
abbrev yW:Stmt:=top 11
abbrev ja:Stmt:=top 12
abbrev jb:Stmt:=top 15
abbrev nY:Stmt:=top 16
abbrev gC:Stmt:=top 17
abbrev fi:Stmt:=top 18
abbrev yV:Stmt:=top 19
abbrev mq:Stmt:=top 21
abbrev ki:Stmt:=top 22
abbrev jc:Stmt:=top 23
abbrev jf:Stmt:=top 24
abbrev ji:Stmt:=top 25
abbrev ie:Stmt:=top 26
abbrev jk:Stmt:=top 27
abbrev mr:Stmt:=top 28
abbrev jm:Stmt:=top 29
abbrev mv:Stmt:=top 30
abbrev jj:Stmt:=top 31
abbrev km:Stmt:=top 32
abbrev jd:Stmt:=top 33
abbrev jn:Stmt:=top 34
abbrev gD:Stmt:=top 35
abbrev kn:Stmt:=top 36
abbrev fO:Stmt:=top 37
abbrev jh:Stmt:=top 38
abbrev je:Stmt:=top 39
abbrev mw:Stmt:=top 40
abbrev kj:Stmt:=top 41
abbrev jg:Stmt:=top 42
abbrev FC:Stmt:=top 43
section
variable{P:Program}{w:World}{K:Q1}{mg:Str->Option Value}{base:Heap}
theorem mR:aL ["pen","many","at","cell","one","two","three","found"] ["pen","many"] (ax ki):=⟨rfl,rfl,rfl,by decide +kernel,rfl,by decide +kernel,by decide +kernel⟩
theorem uR{k:Nat}(d:Def K mg "_law_take" ki ["pen","many"])(B:Blt mg):cS P w K mg base "_law_take" (k+1) ["pen","many"] (fnU 8 2 (eE )):=
 d.pure mR fun f cdv A outer s H E hr=>(by
  have hu:=cM hr;have nd:=mR.nd;exact(ar (cE (bc d8 md (bB hu (ab (wpv 0)) (aD ak) (fun _ _=>rfl) (fun _ _=>rfl)) (aD ak) (aY _)) (ar (aZ (i:=2) nd rfl (by trivial) (bB hu (ab (wpv 0)) (aD ak) (fun _ _=>rfl) (fun _ _=>rfl)))
   (ar (bS hu (ab (wpv 0)) (aD ak) (iL ju jt (ab (wpv 2)) (aD ak)))
   (ar (aZ (i:=3) nd rfl (by trivial) (aD ak))
   (ar (cE (bc Cv Ll (ab (wpv 2)) (cw nq nj rfl B.len PySem.boot_len (ae (bB hu (ab (wpv 0)) (aD ak) (fun _ _=>rfl) (fun _ _=>rfl)) ay)) (aY _)) (aA (aZ (i:=3) nd rfl (by trivial) (bB hu (bB hu (ab (wpv 0)) (aD ak) (fun _ _=>rfl) (fun _ _=>rfl)) (ab (wpv 2)) (fun _ _=>rfl) (fun _ _=>rfl)))) (aA (cE (bc Gi MU (cw nq nj rfl B.len PySem.boot_len (ae (bB hu (ab (wpv 0)) (aD ak) (fun _ _=>rfl) (fun _ _=>rfl)) ay)) (aD ak) (aY _)) (aA (aZ (i:=3) nd rfl (by trivial) (iL ju jt (iL og uE (bB hu (bB hu (ab (wpv 0)) (aD ak) (fun _ _=>rfl) (fun _ _=>rfl)) (iL og uE (iL mY sE (ab (wpv 2)) (aD ak)) (cw nq nj rfl B.len PySem.boot_len (ae (bB hu (ab (wpv 0)) (aD ak) (fun _ _=>rfl) (fun _ _=>rfl)) ay))) (fun _ _=>rfl) (fun _ _=>rfl)) (aD ak)) (iL mY sE (aD ak) (ab (wpv 2)))))) bF)))
   (ar (aZ (i:=4) nd rfl (by trivial) (iL og uE (iL mY sE (iL ju jt (iL ju jt (iL og uE (ab (wpv 3)) (aD ak)) (iL mY sE (aD ak) (ab (wpv 2)))) (aD ak)) (aD ak)) (aD ak)))
   (ar (aZ (i:=5) nd rfl (by trivial) (iL og uE (iL ju jt (iL ju jt (iL mY sE (ab (wpv 4)) (ab (wpv 4))) (iL mY sE (aD ak) (ab (wpv 2)))) (aD ak)) (aD ak)))
   (ar (aZ (i:=6) nd rfl (by trivial) (iL og uE (iL ju jt (iL mY sE (ab (wpv 5)) (ab (wpv 5))) (ab (wpv 4))) (aD ak)))
   (ar (bS hu (ab (wpv 0)) (aD ak) (iL ju jt (iL qR Gh (iL ju jt (iL mY sE (ab (wpv 5)) (aD ak)) (ab (wpv 6))) (aD ak)) (aD ak)))
   (aA (cE (bc MW O2 (ab (wpv 3)) (iL Ee JX (aD ak) (aD ak)) (aY _)) (aA (bS hu (ab (wpv 0)) (aD ak) (iL qR Gh (ab (wpv 3)) (iL Ee JX (aD ak) (aD ak))))) bF)))))))))) bF)
   (ar (aZ (i:=7) nd rfl (by trivial) (iL og uE (bB hu (ab (wpv 0)) (aD ak) (fun _ _=>rfl) (fun _ _=>rfl)) (ab (wpv 1))))
   (ar (bS hu (ab (wpv 0)) (aD ak) (iL qR Gh (bB hu (ab (wpv 0)) (aD ak) (fun _ _=>rfl) (fun _ _=>rfl)) (ab (wpv 1))))
   (aA (aX (ab (wpv 7))))))))
theorem kW:aL ["pen"] ["pen"] (ax jc):=⟨rfl,rfl,rfl,by decide +kernel,rfl,by decide +kernel,by decide +kernel⟩
theorem sW{k:Nat}{aw:Fn}(d:Def K mg "_law_world" jc ["pen"])(B:Blt mg)(aJ:cS P w K mg base "_law_take" (k) ["pen","many"] aw):cS P w K mg base "_law_world" (k+1) ["pen"] (fnU 1 1 (eS aw)):=
 d.pure kW fun f cdv A outer s H E hr=>(by
  have hu:=cM hr;have nd:=kW.nd;exact(aA (aX (eC (ae (iL ju jt (aD ak) (aV aJ hr rfl (ae (ab (wpv 0)) (ae (aD ak) ay)))) (ae (bB hu (fZ (ae (aD ak) (ae (aD ak) (ae (aD ak) (ae (aD ak) (ae (iL ju jt (aD ak) (aV aJ hr rfl (ae (ab (wpv 0)) (ae (aD ak) ay)))) ay)))))) (aV aJ hr rfl (ae (ab (wpv 0)) (ae (aD ak) ay))) (fun _ _=>rfl) (fun _ _=>rfl)) ay))))))
theorem kZ:aL ["pen","world"] ["pen","world"] (ax jf):=⟨rfl,rfl,rfl,by decide +kernel,rfl,by decide +kernel,by decide +kernel⟩
theorem sZ{k:Nat}{aw:Fn}(d:Def K mg "_law_state" jf ["pen","world"])(B:Blt mg)(aJ:cS P w K mg base "_law_take" (k) ["pen","many"] aw):cS P w K mg base "_law_state" (k+1) ["pen","world"] (fnU 2 2 (eW aw)):=
 d.pure kZ fun f cdv A outer s H E hr=>(by
  have hu:=cM hr;have nd:=kZ.nd;exact(aA (aX (dU b8 js rfl B.tuple OG.dg (ae (mW (Nc:=["box","pen","world"]) (tn:=["box"]) (capN:=["pen","world"]) (caps:=[0,1]) rfl (jr rfl B.range (ae (bB hu (ab (wpv 1)) (aD ak) (fun _ _=>rfl) (fun _ _=>rfl)) ay)) (fun _ _ _=>(bC (aB (i:=0) (show(["box","pen","world"]:List Str).Nodup by decide +kernel) rfl (by trivial)))) (fun _ _ _=>(aV aJ hr rfl (ae (ab (wpv 1)) (ae (bB hu (ab (wpv 2)) (aD ak) (fun _ _=>rfl) (fun _ _=>rfl)) ay)))) rfl rfl (by decide +kernel) (by decide +kernel) ⟨rfl,rfl,trivial⟩ rfl (.cons ⟨rfl,rfl,rfl,_,rfl⟩ (.cons ⟨rfl,rfl,rfl,_,rfl⟩ .nil)) rfl rfl) ay)))))
theorem k9:aL ["pen","many","left","found","k"] ["pen","many"] (ax ji):=⟨rfl,rfl,rfl,by decide +kernel,rfl,by decide +kernel,by decide +kernel⟩
theorem tm{k:Nat}{aw:Fn}(d:Def K mg "_law_names" ji ["pen","many"])(B:Blt mg)(aJ:cS P w K mg base "_law_take" (k) ["pen","many"] aw):cS P w K mg base "_law_names" (k+1) ["pen","many"] (fnU 5 2 (e9 aw)):=
 d.pure k9 fun f cdv A outer s H E hr=>(by
  have hu:=cM hr;have nd:=k9.nd;exact(ar (aZ (i:=2) nd rfl (by trivial) (uD rfl rfl B.list rfl B.range (ae (aD ak) ay) rfl rfl))
   (ar (aZ (i:=3) nd rfl (by trivial) (fZ ay))
   (ar (fu PassesOwn.never rfl (jr rfl B.range (ae (ab (wpv 1)) ay)) (bC (aB (i:=4) nd rfl (by trivial))) (aA (dj (dW (ab (wpv 3)) (ae (y6 (ab (wpv 2)) (ae (aV aJ hr rfl (ae (ab (wpv 0)) (ae (cw nq nj rfl B.len PySem.boot_len (ae (ab (wpv 2)) ay)) ay))) ay)) ay)))))
   (aA (aX (ab (wpv 3))))))))
theorem j2:aL ["state","puts"] ["state","puts"] (ax ie):=⟨rfl,rfl,rfl,by decide +kernel,rfl,by decide +kernel,by decide +kernel⟩
theorem qZ{k:Nat}(d:Def K mg "_law_put_in" ie ["state","puts"])(B:Blt mg):cS P w K mg base "_law_put_in" (k+1) ["state","puts"] (fnU 2 2 (d3 )):=
 d.pure j2 fun f cdv A outer s H E hr=>(by
  have hu:=cM hr;have nd:=j2.nd;exact(aA (aX (dU b8 js rfl B.tuple OG.dg (ae (mW (Nc:=["box","number","puts"]) (tn:=["box","number"]) (capN:=["puts"]) (caps:=[1]) rfl (n4 rfl B.enumerate (ab (wpv 0))) (fun _ _ _=>(gT rfl (a9 (aB (i:=0) (show(["box","number","puts"]:List Str).Nodup by decide +kernel) rfl (by trivial)) (a9 (aB (i:=1) (show(["box","number","puts"]:List Str).Nodup by decide +kernel) rfl (by trivial)) eB)))) (fun _ _ _=>(sy hu (ab (wpv 2)) (ab (wpv 0)) (ab (wpv 1)) ⟨rfl,rfl,rfl,rfl⟩)) rfl rfl (by decide +kernel) (by decide +kernel) ⟨rfl,trivial⟩ rfl (.cons ⟨rfl,rfl,rfl,_,rfl⟩ .nil) rfl rfl) ay)))))
theorem lA:aL ["pen","world","a","seen","puts","now","way","box","number"] ["pen","world","a","seen","puts","now"] (ax jk):=⟨rfl,rfl,rfl,by decide +kernel,rfl,by decide +kernel,by decide +kernel⟩
theorem tw{k:Nat}{aw:Fn}(d:Def K mg "_law_event" jk ["pen","world","a","seen","puts","now"])(B:Blt mg)(aJ:cS P w K mg base "_law_take" (k) ["pen","many"] aw):cS P w K mg base "_law_event" (k+1) ["pen","world","a","seen","puts","now"] (fnU 9 6 (cZ aw)):=
 d.pure lA fun f cdv A outer s H E hr=>(by
  have hu:=cM hr;have nd:=lA.nd;exact(ar (aZ (i:=6) nd rfl (by trivial) (aV aJ hr rfl (ae (ab (wpv 0)) (ae (aD ak) ay))))
   (ar (aZ (i:=7) nd rfl (by trivial) (aV aJ hr rfl (ae (ab (wpv 0)) (ae (bB hu (ab (wpv 1)) (aD ak) (fun _ _=>rfl) (fun _ _=>rfl)) ay))))
   (ar (cE (bc Cv Ll (ab (wpv 6)) (aD ak) (aY _)) (ar (aZ (i:=8) nd rfl (by trivial) (bB hu (fZ (ae (bB hu (ab (wpv 3)) (ab (wpv 7)) (fun _ _=>rfl) (fun _ _=>rfl)) (ae (bB hu (ab (wpv 3)) (ab (wpv 7)) (fun _ _=>rfl) (fun _ _=>rfl)) (ae (bB hu (ab (wpv 5)) (ab (wpv 7)) (fun _ _=>rfl) (fun _ _=>rfl)) (ae (aV aJ hr rfl (ae (ab (wpv 0)) (ae (bB hu (ab (wpv 1)) (aD ak) (fun _ _=>rfl) (fun _ _=>rfl)) ay))) ay))))) (aV aJ hr rfl (ae (ab (wpv 0)) (ae (aD ak) ay))) (fun _ _=>rfl) (fun _ _=>rfl)))
   (aA (aX (eC (ae (bI aI) (ae (ab (wpv 2)) (ae (ab (wpv 7)) (ae (sy hu (ab (wpv 4)) (ab (wpv 7)) (ab (wpv 8)) ⟨rfl,rfl,rfl,rfl⟩) ay)))))))) bF)
   (ar (cE (bc Cv Ll (ab (wpv 6)) (aD ak) (aY _)) (aA (aX (eC (ae (bI aI) (ae (ab (wpv 2)) (ae (ab (wpv 7)) (ae (aV aJ hr rfl (ae (ab (wpv 0)) (ae (bB hu (ab (wpv 1)) (aD ak) (fun _ _=>rfl) (fun _ _=>rfl)) ay))) ay))))))) bF)
   (aA (aX (eC (ae (bB hu (fZ (ae (bI aI) (ae (bI aI) (ae (bI aI) (ae (bI aI) ay))))) (iL J0 MR (ab (wpv 6)) (aD ak)) (fun _ _=>rfl) (fun _ _=>rfl)) (ae (ab (wpv 2)) ay))))))))))
theorem nV:aL ["pen","world","state","most","size","names","log","now","going","k","at","a","seen","puts"] ["pen","world","state","most","size"] (ax mr):=⟨rfl,rfl,rfl,by decide +kernel,rfl,by decide +kernel,by decide +kernel⟩
theorem xA{k:Nat}{b6 aw b7 bL:Fn}(d:Def K mg "_law_log" mr ["pen","world","state","most","size"])(B:Blt mg)(jL:cS P w K mg base "_law_names" (k) ["pen","many"] b6)(aJ:cS P w K mg base "_law_take" (k) ["pen","many"] aw)(jN:cS P w K mg base "_law_event" (k) ["pen","world","a","seen","puts","now"] b7)(iH:cS P w K mg base "_law_put_in" (k) ["state","puts"] bL):cS P w K mg base "_law_log" (k+1) ["pen","world","state","most","size"] (fnU 14 5 (g5 b6 aw b7 bL)):=
 d.pure nV fun f cdv A outer s H E hr=>(by
  have hu:=cM hr;have nd:=nV.nd;exact(ar (aZ (i:=5) nd rfl (by trivial) (aV jL hr rfl (ae (ab (wpv 0)) (ae (aV aJ hr rfl (ae (ab (wpv 0)) (ae (iL ju jt (ab (wpv 3)) (aD ak)) ay))) ay))))
   (ar (aZ (i:=6) nd rfl (by trivial) (fZ ay))
   (ar (aZ (i:=7) nd rfl (by trivial) (ab (wpv 2)))
   (ar (aZ (i:=8) nd rfl (by trivial) (fZ ay))
   (ar (fu PassesOwn.never rfl (jr rfl B.range (ae (aV aJ hr rfl (ae (ab (wpv 0)) (ae (iL ju jt (ab (wpv 4)) (aD ak)) ay))) ay)) (bC (aB (i:=9) nd rfl (by trivial))) (aA (cE (si (ko (bc (sF hr.units) uF (ab (wpv 5)) (fZ ay) (aY _)) (iM (si (Hk (bc (Eg hr.units) uF (ab (wpv 8)) (fZ ay) (aY _)) (y8 (bc d8 md (aV aJ hr rfl (ae (ab (wpv 0)) (ae (aD ak) ay))) (aD ak) (aY _)))))))) (ar (dj (dW (ab (wpv 8)) (ae (eC (ae (FH (ab (wpv 5))) (ae (ab (wpv 7)) (ae gU ay)))) ay)))
   (aA (dj (dW (ab (wpv 6)) (ae (eC (ae (bI aI) (ae (bB hu (bB hu (ab (wpv 8)) (xj (aD ak)) (fun _ _=>rfl) (fun _ _=>rfl)) (aD ak) (fun _ _=>rfl) (fun _ _=>rfl)) ay))) ay))))) (aA (cE (bc (sF hr.units) uF (ab (wpv 8)) (fZ ay) (aY _)) (ar (aZ (i:=10) nd rfl (by trivial) (aV aJ hr rfl (ae (ab (wpv 0)) (ae (cw nq nj rfl B.len PySem.boot_len (ae (ab (wpv 8)) ay)) ay))))
   (ar (D9 (bB hu (ab (wpv 8)) (ab (wpv 10)) (fun _ _=>rfl) (fun _ _=>rfl)) (gT rfl (a9 (aB (i:=11) nd rfl (by trivial)) (a9 (aB (i:=12) nd rfl (by trivial)) (a9 (aB (i:=13) nd rfl (by trivial)) eB)))))
   (ar (dj (dW (ab (wpv 6)) (ae (aV jN hr rfl (ae (ab (wpv 0)) (ae (ab (wpv 1)) (ae (ab (wpv 11)) (ae (ab (wpv 12)) (ae (ab (wpv 13)) (ae (ab (wpv 7)) ay))))))) ay)))
   (ar (cE (bc d8 md (bB hu (bB hu (ab (wpv 6)) (xj (aD ak)) (fun _ _=>rfl) (fun _ _=>rfl)) (aD ak) (fun _ _=>rfl) (fun _ _=>rfl)) (bI aI) (aY _)) (aA (bS hu (ab (wpv 13)) (bB hu (bB hu (ab (wpv 6)) (xj (aD ak)) (fun _ _=>rfl) (fun _ _=>rfl)) (aD ak) (fun _ _=>rfl) (fun _ _=>rfl)) (bB hu (bB hu (ab (wpv 6)) (xj (aD ak)) (fun _ _=>rfl) (fun _ _=>rfl)) (aD ak) (fun _ _=>rfl) (fun _ _=>rfl)))) (aA (cE (bc d8 md (bB hu (bB hu (ab (wpv 6)) (xj (aD ak)) (fun _ _=>rfl) (fun _ _=>rfl)) (aD ak) (fun _ _=>rfl) (fun _ _=>rfl)) (bI aI) (aY _)) (aA (aZ (i:=7) nd rfl (by trivial) (aV iH hr rfl (ae (ab (wpv 7)) (ae (ab (wpv 13)) ay))))) bF)))
   (aA (cE (so hu (bB hu (bB hu (ab (wpv 6)) (xj (aD ak)) (fun _ _=>rfl) (fun _ _=>rfl)) (aD ak) (fun _ _=>rfl) (fun _ _=>rfl)) (eC (ae (bI aI) (ae (bI aI) ay))) (by with_unfolding_all rfl)) (aA (dj (y6 (ab (wpv 8)) (ae (ab (wpv 10)) ay)))) bF)))))) bF)))))
   (aA (aX (ab (wpv 6))))))))))
theorem lB:aL ["log"] ["log"] (ax jm):=⟨rfl,rfl,rfl,by decide +kernel,rfl,by decide +kernel,by decide +kernel⟩
theorem tD{k:Nat}(d:Def K mg "_law_begun" jm ["log"])(B:Blt mg):cS P w K mg base "_law_begun" (k+1) ["log"] (fnU 1 1 (fc )):=
 d.pure lB fun f cdv A outer s H E hr=>(by
  have hu:=cM hr;have nd:=lB.nd;exact(aA (aX (cw (qS rfl) qQ rfl B.sorted OG.dE (ae (gf (Nc:=["event"]) (tn:=["event"]) (capN:=[]) (caps:=[]) rfl (cL (ab (wpv 0))) (fun _ _ _=>(bC (aB (i:=0) (show(["event"]:List Str).Nodup by decide +kernel) rfl (by trivial)))) (fun _ _ _=>(bc d8 md (bB hu (ab (wpv 0)) (aD ak) (fun _ _=>rfl) (fun _ _=>rfl)) (bI aI) (aY _))) (fun _ _ _=>(bB hu (ab (wpv 0)) (aD ak) (fun _ _=>rfl) (fun _ _=>rfl))) rfl rfl (by decide +kernel) (by decide +kernel) trivial rfl .nil rfl rfl) ay)))))
theorem nW:aL ["log","a","ends"] ["log","a"] (ax mv):=⟨rfl,rfl,rfl,by decide +kernel,rfl,by decide +kernel,by decide +kernel⟩
theorem xB{k:Nat}(d:Def K mg "_law_end" mv ["log","a"])(B:Blt mg):cS P w K mg base "_law_end" (k+1) ["log","a"] (fnU 3 2 (g7 )):=
 d.pure nW fun f cdv A outer s H E hr=>(by
  have hu:=cM hr;have nd:=nW.nd;exact(ar (mV (Nc:=["event","a"]) (tn:=["event"]) (capN:=["a"]) (caps:=[1]) rfl (cL (ab (wpv 0))) (fun _ _ _=>(bC (aB (i:=0) (show(["event","a"]:List Str).Nodup by decide +kernel) rfl (by trivial)))) (fun _ _ _=>(si (ko (bc d8 md (bB hu (ab (wpv 0)) (aD ak) (fun _ _=>rfl) (fun _ _=>rfl)) (ab (wpv 1)) (aY _)) (iM (so hu (bB hu (ab (wpv 0)) (aD ak) (fun _ _=>rfl) (fun _ _=>rfl)) (eC (ae (bI aI) (ae (bI aI) ay))) (by with_unfolding_all rfl)))))) (fun _ _ _=>(bB hu (ab (wpv 0)) (aD ak) (fun _ _=>rfl) (fun _ _=>rfl))) rfl rfl (by decide +kernel) (by decide +kernel) ⟨rfl,trivial⟩ rfl (.cons ⟨rfl,rfl,rfl,_,rfl⟩ .nil) rfl rfl nd rfl rfl rfl)
   (aA (aX (bB hu (iL ju jt (ab (wpv 2)) (fZ (ae (bI aI) ay))) (aD ak) (fun _ _=>rfl) (fun _ _=>rfl))))))
theorem lq:aL ["log","a","found","put","event"] ["log","a"] (ax jj):=⟨rfl,rfl,rfl,by decide +kernel,rfl,by decide +kernel,by decide +kernel⟩
theorem tq{k:Nat}(d:Def K mg "_law_looks" jj ["log","a"])(B:Blt mg):cS P w K mg base "_law_looks" (k+1) ["log","a"] (fnU 5 2 (fb )):=
 d.pure lq fun f cdv A outer s H E hr=>(by
  have hu:=cM hr;have nd:=lq.nd;exact(ar (aZ (i:=2) nd rfl (by trivial) (fZ ay))
   (ar (aZ (i:=3) nd rfl (by trivial) (fZ ay))
   (ar (fu PassesOwn.never rfl (cL (ab (wpv 0))) (bC (aB (i:=4) nd rfl (by trivial))) (ar (cE (si (ko (bc d8 md (bB hu (ab (wpv 4)) (aD ak) (fun _ _=>rfl) (fun _ _=>rfl)) (ab (wpv 1)) (aY _)) (iM (bc d8 md (bB hu (ab (wpv 4)) (aD ak) (fun _ _=>rfl) (fun _ _=>rfl)) (bI aI) (aY _))))) (aA (dj (dW (ab (wpv 3)) (ae (bB hu (ab (wpv 4)) (aD ak) (fun _ _=>rfl) (fun _ _=>rfl)) ay)))) bF)
   (aA (cE (si (ko (bc d8 md (bB hu (ab (wpv 4)) (aD ak) (fun _ _=>rfl) (fun _ _=>rfl)) (ab (wpv 1)) (aY _)) (ko (bc d8 md (bB hu (ab (wpv 4)) (aD ak) (fun _ _=>rfl) (fun _ _=>rfl)) (bI aI) (aY _)) (iM (lF hu (bB hu (ab (wpv 4)) (aD ak) (fun _ _=>rfl) (fun _ _=>rfl)) (ab (wpv 3)) (by with_unfolding_all rfl)))))) (aA (dj (dW (ab (wpv 2)) (ae (eC (ae (bB hu (ab (wpv 4)) (aD ak) (fun _ _=>rfl) (fun _ _=>rfl)) (ae (bB hu (ab (wpv 4)) (aD ak) (fun _ _=>rfl) (fun _ _=>rfl)) ay))) ay)))) bF))))
   (aA (aX (ab (wpv 2))))))))
theorem mT:aL ["log","a","found","event"] ["log","a"] (ax km):=⟨rfl,rfl,rfl,by decide +kernel,rfl,by decide +kernel,by decide +kernel⟩
theorem uT{k:Nat}(d:Def K mg "_law_puts" km ["log","a"])(B:Blt mg):cS P w K mg base "_law_puts" (k+1) ["log","a"] (fnU 4 2 (fV )):=
 d.pure mT fun f cdv A outer s H E hr=>(by
  have hu:=cM hr;have nd:=mT.nd;exact(ar (aZ (i:=2) nd rfl (by trivial) gU)
   (ar (fu PassesOwn.never rfl (cL (ab (wpv 0))) (bC (aB (i:=3) nd rfl (by trivial))) (aA (cE (si (ko (bc d8 md (bB hu (ab (wpv 3)) (aD ak) (fun _ _=>rfl) (fun _ _=>rfl)) (ab (wpv 1)) (aY _)) (iM (bc d8 md (bB hu (ab (wpv 3)) (aD ak) (fun _ _=>rfl) (fun _ _=>rfl)) (bI aI) (aY _))))) (aA (bS hu (ab (wpv 2)) (bB hu (ab (wpv 3)) (aD ak) (fun _ _=>rfl) (fun _ _=>rfl)) (bB hu (ab (wpv 3)) (aD ak) (fun _ _=>rfl) (fun _ _=>rfl)))) bF)))
   (aA (aX (ab (wpv 2)))))))
theorem kX:aL ["log","found","at","event"] ["log"] (ax jd):=⟨rfl,rfl,rfl,by decide +kernel,rfl,by decide +kernel,by decide +kernel⟩
theorem sX{k:Nat}(d:Def K mg "_law_times" jd ["log"])(B:Blt mg):cS P w K mg base "_law_times" (k+1) ["log"] (fnU 4 1 (eU )):=
 d.pure kX fun f cdv A outer s H E hr=>(by
  have hu:=cM hr;have nd:=kX.nd;exact(ar (aZ (i:=1) nd rfl (by trivial) (fZ ay))
   (ar (fu PassesOwn.never rfl (n4 rfl B.enumerate (ab (wpv 0))) (gT rfl (a9 (aB (i:=2) nd rfl (by trivial)) (a9 (aB (i:=3) nd rfl (by trivial)) eB))) (aA (cE (so hu (bB hu (ab (wpv 3)) (aD ak) (fun _ _=>rfl) (fun _ _=>rfl)) (eC (ae (bI aI) (ae (bI aI) ay))) (by with_unfolding_all rfl)) (aA (dj (BY (ab (wpv 1)) (ae (gf (Nc:=["later","event"]) (tn:=["later"]) (capN:=["event"]) (caps:=[3]) rfl (cL (O0 (ab (wpv 0)) (FF (ab (wpv 2))) FG)) (fun _ _ _=>(bC (aB (i:=0) (show(["later","event"]:List Str).Nodup by decide +kernel) rfl (by trivial)))) (fun _ _ _=>(bc d8 md (bB hu (ab (wpv 0)) (aD ak) (fun _ _=>rfl) (fun _ _=>rfl)) (bI aI) (aY _))) (fun _ _ _=>(eC (ae (bB hu (ab (wpv 1)) (aD ak) (fun _ _=>rfl) (fun _ _=>rfl)) (ae (bB hu (ab (wpv 0)) (aD ak) (fun _ _=>rfl) (fun _ _=>rfl)) ay)))) rfl rfl (by decide +kernel) (by decide +kernel) ⟨rfl,trivial⟩ rfl (.cons ⟨rfl,rfl,rfl,_,rfl⟩ .nil) rfl rfl) ay)))) bF)))
   (aA (aX (cw zC zy rfl B.sorted OG.dE (ae (ab (wpv 1)) ay)))))))
theorem lC:aL ["log","every"] ["log","every"] (ax jn):=⟨rfl,rfl,rfl,by decide +kernel,rfl,by decide +kernel,by decide +kernel⟩
theorem tF{k:Nat}{aU aP:Fn}(d:Def K mg "_law_asked" jn ["log","every"])(B:Blt mg)(dP:cS P w K mg base "_law_begun" (k) ["log"] aU)(cR:cS P w K mg base "_law_end" (k) ["log","a"] aP):cS P w K mg base "_law_asked" (k+1) ["log","every"] (fnU 2 2 (fe aU aP)):=
 d.pure lC fun f cdv A outer s H E hr=>(by
  have hu:=cM hr;have nd:=lC.nd;exact(aA (aX (gf (Nc:=["a","every","log"]) (tn:=["a"]) (capN:=["every","log"]) (caps:=[1,0]) rfl (cL (aV dP hr rfl (ae (ab (wpv 0)) ay))) (fun _ _ _=>(bC (aB (i:=0) (show(["a","every","log"]:List Str).Nodup by decide +kernel) rfl (by trivial)))) (fun _ _ _=>(si (Hk (fA (ab (wpv 1))) (y8 (bc d8 md (aV cR hr rfl (ae (ab (wpv 2)) (ae (ab (wpv 0)) ay))) (bI aI) (aY _)))))) (fun _ _ _=>(ab (wpv 0))) rfl rfl (by decide +kernel) (by decide +kernel) ⟨rfl,rfl,trivial⟩ rfl (.cons ⟨rfl,rfl,rfl,_,rfl⟩ (.cons ⟨rfl,rfl,rfl,_,rfl⟩ .nil)) rfl rfl))))
theorem i8:aL ["log","a","state","puts"] ["log","a","state"] (ax gD):=⟨rfl,rfl,rfl,by decide +kernel,rfl,by decide +kernel,by decide +kernel⟩
theorem pK{k:Nat}{aP a6:Fn}(d:Def K mg "_law_changed" gD ["log","a","state"])(B:Blt mg)(cR:cS P w K mg base "_law_end" (k) ["log","a"] aP)(eI:cS P w K mg base "_law_puts" (k) ["log","a"] a6):cS P w K mg base "_law_changed" (k+1) ["log","a","state"] (fnU 4 3 (cQ aP a6)):=
 d.pure i8 fun f cdv A outer s H E hr=>(by
  have hu:=cM hr;have nd:=i8.nd;exact(ar (aZ (i:=3) nd rfl (by trivial) gU)
   (ar (cE (bc d8 md (aV cR hr rfl (ae (ab (wpv 0)) (ae (ab (wpv 1)) ay))) (bI aI) (aY _)) (aA (aZ (i:=3) nd rfl (by trivial) (aV eI hr rfl (ae (ab (wpv 0)) (ae (ab (wpv 1)) ay))))) bF)
   (aA (aX (dU b8 js rfl B.tuple OG.dg (ae (mW (Nc:=["box","number","puts"]) (tn:=["box","number"]) (capN:=["puts"]) (caps:=[3]) rfl (n4 rfl B.enumerate (ab (wpv 2))) (fun _ _ _=>(gT rfl (a9 (aB (i:=0) (show(["box","number","puts"]:List Str).Nodup by decide +kernel) rfl (by trivial)) (a9 (aB (i:=1) (show(["box","number","puts"]:List Str).Nodup by decide +kernel) rfl (by trivial)) eB)))) (fun _ _ _=>(sy hu (ab (wpv 2)) (ab (wpv 0)) (ab (wpv 1)) ⟨rfl,rfl,rfl,rfl⟩)) rfl rfl (by decide +kernel) (by decide +kernel) ⟨rfl,trivial⟩ rfl (.cons ⟨rfl,rfl,rfl,_,rfl⟩ .nil) rfl rfl) ay)))))))
theorem mU:aL ["log","a","state"] ["log","a","state"] (ax kn):=⟨rfl,rfl,rfl,by decide +kernel,rfl,by decide +kernel,by decide +kernel⟩
theorem uU{k:Nat}{aT:Fn}(d:Def K mg "_law_fits" kn ["log","a","state"])(B:Blt mg)(dM:cS P w K mg base "_law_looks" (k) ["log","a"] aT):cS P w K mg base "_law_fits" (k+1) ["log","a","state"] (fnU 3 3 (fW aT)):=
 d.pure mU fun f cdv A outer s H E hr=>(by
  have hu:=cM hr;have nd:=mU.nd;exact(aA (aX (zb hu (n5 cT) (mW (Nc:=["box","number","state"]) (tn:=["box","number"]) (capN:=["state"]) (caps:=[2]) rfl (cL (aV dM hr rfl (ae (ab (wpv 0)) (ae (ab (wpv 1)) ay)))) (fun _ _ _=>(gT rfl (a9 (aB (i:=0) (show(["box","number","state"]:List Str).Nodup by decide +kernel) rfl (by trivial)) (a9 (aB (i:=1) (show(["box","number","state"]:List Str).Nodup by decide +kernel) rfl (by trivial)) eB)))) (fun _ _ _=>(xk d8 md (bB hu (ab (wpv 2)) (ab (wpv 0)) (fun _ _=>rfl) (fun _ _=>rfl)) (ab (wpv 1)) (aY _))) rfl rfl (by decide +kernel) (by decide +kernel) ⟨rfl,trivial⟩ rfl (.cons ⟨rfl,rfl,rfl,_,rfl⟩ .nil) rfl rfl) (by with_unfolding_all rfl)))))
theorem iJ:aL ["state","log","every","order","one","other","a"] ["state","log","every","order"] (ax fO):=⟨rfl,rfl,rfl,by decide +kernel,rfl,by decide +kernel,by decide +kernel⟩
theorem oH{k:Nat}{bE aK bR bh:Fn}(d:Def K mg "_law_is_order" fO ["state","log","every","order"])(B:Blt mg)(jO:cS P w K mg base "_law_asked" (k) ["log","every"] bE)(dJ:cS P w K mg base "_law_times" (k) ["log"] aK)(kJ:cS P w K mg base "_law_fits" (k) ["log","a","state"] bR)(gN:cS P w K mg base "_law_changed" (k) ["log","a","state"] bh):cS P w K mg base "_law_is_order" (k+1) ["state","log","every","order"] (fnU 7 4 (cY bE aK bR bh)):=
 d.pure iJ fun f cdv A outer s H E hr=>(by
  have hu:=cM hr;have nd:=iJ.nd;exact(ar (cE (bc (sF hr.units) uF (cw (qS rfl) qQ rfl B.sorted OG.dE (ae (ab (wpv 3)) ay)) (aV jO hr rfl (ae (ab (wpv 1)) (ae (ab (wpv 2)) ay))) (aY _)) (aA (aX (n5 cT))) bF)
   (ar (fu PassesOwn.never rfl (cL (aV dJ hr rfl (ae (ab (wpv 1)) ay))) (gT rfl (a9 (aB (i:=4) nd rfl (by trivial)) (a9 (aB (i:=5) nd rfl (by trivial)) eB))) (aA (cE (si (ko (so hu (ab (wpv 4)) (ab (wpv 3)) (by with_unfolding_all rfl)) (ko (so hu (ab (wpv 5)) (ab (wpv 3)) (by with_unfolding_all rfl)) (iM (bc Cv Ll (zc (ab (wpv 3)) (ae (ab (wpv 5)) ay)) (zc (ab (wpv 3)) (ae (ab (wpv 4)) ay)) (aY _)))))) (aA (aX (n5 cT))) bF)))
   (ar (fu PassesOwn.never rfl (cL (ab (wpv 3))) (bC (aB (i:=6) nd rfl (by trivial))) (ar (cE (p9 (fA (aV kJ hr rfl (ae (ab (wpv 1)) (ae (ab (wpv 6)) (ae (ab (wpv 0)) ay)))))) (aA (aX (n5 cT))) bF)
   (aA (aZ (i:=0) nd rfl (by trivial) (aV gN hr rfl (ae (ab (wpv 1)) (ae (ab (wpv 6)) (ae (ab (wpv 0)) ay))))))))
   (aA (aX (n5 cT)))))))
theorem k8:aL ["log","every","parts","a"] ["log","every"] (ax jh):=⟨rfl,rfl,rfl,by decide +kernel,rfl,by decide +kernel,by decide +kernel⟩
theorem tj{k:Nat}{aU aP aT a6 aK:Fn}(d:Def K mg "_law_parts" jh ["log","every"])(B:Blt mg)(dP:cS P w K mg base "_law_begun" (k) ["log"] aU)(cR:cS P w K mg base "_law_end" (k) ["log","a"] aP)(dM:cS P w K mg base "_law_looks" (k) ["log","a"] aT)(eI:cS P w K mg base "_law_puts" (k) ["log","a"] a6)(dJ:cS P w K mg base "_law_times" (k) ["log"] aK):cS P w K mg base "_law_parts" (k+1) ["log","every"] (fnU 4 2 (e8 aU aP aT a6 aK)):=
 d.pure k8 fun f cdv A outer s H E hr=>(by
  have hu:=cM hr;have nd:=k8.nd;exact(ar (aZ (i:=2) nd rfl (by trivial) (Jt (uC (bI aI) (gf (Nc:=["a","every","log"]) (tn:=["a"]) (capN:=["every","log"]) (caps:=[1,0]) rfl (cL (aV dP hr rfl (ae (ab (wpv 0)) ay))) (fun _ _ _=>(bC (aB (i:=0) (show(["a","every","log"]:List Str).Nodup by decide +kernel) rfl (by trivial)))) (fun _ _ _=>(si (Hk (fA (ab (wpv 1))) (y8 (bc d8 md (aV cR hr rfl (ae (ab (wpv 2)) (ae (ab (wpv 0)) ay))) (bI aI) (aY _)))))) (fun _ _ _=>(ab (wpv 0))) rfl rfl (by decide +kernel) (by decide +kernel) ⟨rfl,rfl,trivial⟩ rfl (.cons ⟨rfl,rfl,rfl,_,rfl⟩ (.cons ⟨rfl,rfl,rfl,_,rfl⟩ .nil)) rfl rfl) (uC (bI aI) gU (uC (bI aI) gU Jo))) rfl rfl (by simp) (by exact Nat.le_of_ble_eq_true rfl) (by exact Nat.le_of_ble_eq_true rfl)))
   (ar (fu PassesOwn.never rfl (cL (bB hu (ab (wpv 2)) (bI aI) (fun _ _=>rfl) (fun _ _=>rfl))) (bC (aB (i:=3) nd rfl (by trivial))) (ar (bS hu (bB hu (ab (wpv 2)) (bI aI) (fun _ _=>rfl) (fun _ _=>rfl)) (ab (wpv 3)) (aV dM hr rfl (ae (ab (wpv 0)) (ae (ab (wpv 3)) ay))))
   (ar (bS hu (bB hu (ab (wpv 2)) (bI aI) (fun _ _=>rfl) (fun _ _=>rfl)) (ab (wpv 3)) gU)
   (aA (cE (bc d8 md (aV cR hr rfl (ae (ab (wpv 0)) (ae (ab (wpv 3)) ay))) (bI aI) (aY _)) (aA (bS hu (bB hu (ab (wpv 2)) (bI aI) (fun _ _=>rfl) (fun _ _=>rfl)) (ab (wpv 3)) (aV eI hr rfl (ae (ab (wpv 0)) (ae (ab (wpv 3)) ay))))) bF)))))
   (ar (bS hu (ab (wpv 2)) (bI aI) (gf (Nc:=["pair","parts"]) (tn:=["pair"]) (capN:=["parts"]) (caps:=[2]) rfl (cL (aV dJ hr rfl (ae (ab (wpv 0)) ay))) (fun _ _ _=>(bC (aB (i:=0) (show(["pair","parts"]:List Str).Nodup by decide +kernel) rfl (by trivial)))) (fun _ _ _=>(si (ko (so hu (bB hu (ab (wpv 0)) (aD ak) (fun _ _=>rfl) (fun _ _=>rfl)) (bB hu (ab (wpv 1)) (bI aI) (fun _ _=>rfl) (fun _ _=>rfl)) (by with_unfolding_all rfl)) (iM (so hu (bB hu (ab (wpv 0)) (aD ak) (fun _ _=>rfl) (fun _ _=>rfl)) (bB hu (ab (wpv 1)) (bI aI) (fun _ _=>rfl) (fun _ _=>rfl)) (by with_unfolding_all rfl)))))) (fun _ _ _=>(ab (wpv 0))) rfl rfl (by decide +kernel) (by decide +kernel) ⟨rfl,trivial⟩ rfl (.cons ⟨rfl,rfl,rfl,_,rfl⟩ .nil) rfl rfl))
   (aA (aX (ab (wpv 2))))))))
theorem kY:aL ["parts","some","state","found","a","early","fit"] ["parts","some","state"] (ax je):=⟨rfl,rfl,rfl,by decide +kernel,rfl,by decide +kernel,by decide +kernel⟩
theorem sY{k:Nat}(d:Def K mg "_law_steps" je ["parts","some","state"])(B:Blt mg):cS P w K mg base "_law_steps" (k+1) ["parts","some","state"] (fnU 7 3 (eV )):=
 d.pure kY fun f cdv A outer s H E hr=>(by
  have hu:=cM hr;have nd:=kY.nd;exact(ar (aZ (i:=3) nd rfl (by trivial) (fZ ay))
   (ar (fu PassesOwn.never rfl (cL (bB hu (ab (wpv 0)) (bI aI) (fun _ _=>rfl) (fun _ _=>rfl))) (bC (aB (i:=4) nd rfl (by trivial))) (ar (mV (Nc:=["one","other","a","some"]) (tn:=["one","other"]) (capN:=["a","some"]) (caps:=[4,1]) rfl (cL (bB hu (ab (wpv 0)) (bI aI) (fun _ _=>rfl) (fun _ _=>rfl))) (fun _ _ _=>(gT rfl (a9 (aB (i:=0) (show(["one","other","a","some"]:List Str).Nodup by decide +kernel) rfl (by trivial)) (a9 (aB (i:=1) (show(["one","other","a","some"]:List Str).Nodup by decide +kernel) rfl (by trivial)) eB)))) (fun _ _ _=>(si (ko (bc d8 md (ab (wpv 1)) (ab (wpv 2)) (aY _)) (iM (lF hu (ab (wpv 0)) (ab (wpv 3)) (by with_unfolding_all rfl)))))) (fun _ _ _=>(ab (wpv 0))) rfl rfl (by decide +kernel) (by decide +kernel) ⟨rfl,rfl,trivial⟩ rfl (.cons ⟨rfl,rfl,rfl,_,rfl⟩ (.cons ⟨rfl,rfl,rfl,_,rfl⟩ .nil)) rfl rfl nd rfl rfl rfl)
   (ar (aZ (i:=6) nd rfl (by trivial) (zb hu (n5 cT) (mW (Nc:=["box","number","state"]) (tn:=["box","number"]) (capN:=["state"]) (caps:=[2]) rfl (cL (bB hu (bB hu (ab (wpv 0)) (bI aI) (fun _ _=>rfl) (fun _ _=>rfl)) (ab (wpv 4)) (fun _ _=>rfl) (fun _ _=>rfl))) (fun _ _ _=>(gT rfl (a9 (aB (i:=0) (show(["box","number","state"]:List Str).Nodup by decide +kernel) rfl (by trivial)) (a9 (aB (i:=1) (show(["box","number","state"]:List Str).Nodup by decide +kernel) rfl (by trivial)) eB)))) (fun _ _ _=>(xk d8 md (bB hu (ab (wpv 2)) (ab (wpv 0)) (fun _ _=>rfl) (fun _ _=>rfl)) (ab (wpv 1)) (aY _))) rfl rfl (by decide +kernel) (by decide +kernel) ⟨rfl,trivial⟩ rfl (.cons ⟨rfl,rfl,rfl,_,rfl⟩ .nil) rfl rfl) (by with_unfolding_all rfl)))
   (aA (cE (si (ko (lF hu (ab (wpv 4)) (ab (wpv 1)) (by with_unfolding_all rfl)) (ko (bc (Eg hr.units) uF (ab (wpv 5)) (fZ ay) (aY _)) (iM (fA (ab (wpv 6))))))) (aA (dj (dW (ab (wpv 3)) (ae (eC (ae (ab (wpv 4)) (ae (dU b8 js rfl B.tuple OG.dg (ae (mW (Nc:=["box","number","a","parts"]) (tn:=["box","number"]) (capN:=["a","parts"]) (caps:=[4,0]) rfl (n4 rfl B.enumerate (ab (wpv 2))) (fun _ _ _=>(gT rfl (a9 (aB (i:=0) (show(["box","number","a","parts"]:List Str).Nodup by decide +kernel) rfl (by trivial)) (a9 (aB (i:=1) (show(["box","number","a","parts"]:List Str).Nodup by decide +kernel) rfl (by trivial)) eB)))) (fun _ _ _=>(sy hu (bB hu (bB hu (ab (wpv 3)) (bI aI) (fun _ _=>rfl) (fun _ _=>rfl)) (ab (wpv 2)) (fun _ _=>rfl) (fun _ _=>rfl)) (ab (wpv 0)) (ab (wpv 1)) ⟨rfl,rfl,rfl,rfl⟩)) rfl rfl (by decide +kernel) (by decide +kernel) ⟨rfl,rfl,trivial⟩ rfl (.cons ⟨rfl,rfl,rfl,_,rfl⟩ (.cons ⟨rfl,rfl,rfl,_,rfl⟩ .nil)) rfl rfl) ay)) ay))) ay)))) bF)))))
   (aA (aX (ab (wpv 3)))))))
theorem nX:aL ["parts","some","state","rows","known","here","now","a","after","row"] ["parts","some","state"] (ax mw):=⟨rfl,rfl,rfl,by decide +kernel,rfl,by decide +kernel,by decide +kernel⟩
theorem xC{k:Nat}{bD:Fn}{fuel:Nat}(d:Def K mg "_law_can" mw ["parts","some","state"])(B:Blt mg)(jH:cS P w K mg base "_law_steps" (k) ["parts","some","state"] bD):cS P w K mg base "_law_can" (k+1) ["parts","some","state"] (fnU 10 3 (g8 bD fuel)):=
 d.pure nX fun f cdv A outer s H E hr=>(by
  have hu:=cM hr;have nd:=nX.nd;exact(ar (aZ (i:=3) nd rfl (by trivial) (fZ (ae (eC (ae (dU b8 js rfl B.tuple OG.dg (ae (cw oj oe rfl B.sorted OG.dE (ae (ab (wpv 1)) ay)) ay)) (ae (ab (wpv 2)) ay))) ay)))
   (ar (aZ (i:=4) nd rfl (by trivial) (ze (m6 hr) (bB hu (ab (wpv 3)) (aD ak) (fun _ _=>rfl) (fun _ _=>rfl)) (n5 cT)))
   (ar (vT fuel PassesOwn.never (bc (sF hr.units) uF (ab (wpv 3)) (fZ ay) (aY _)) (ar (D9 (FH (ab (wpv 3))) (gT rfl (a9 (aB (i:=5) nd rfl (by trivial)) (a9 (aB (i:=6) nd rfl (by trivial)) eB))))
   (ar (cE (bc d8 md (cw nq nj rfl B.len PySem.boot_len (ae (ab (wpv 5)) ay)) (cw nq nj rfl B.len PySem.boot_len (ae (bB hu (ab (wpv 0)) (bI aI) (fun _ _=>rfl) (fun _ _=>rfl)) ay)) (aY _)) (aA (aX (n5 cT))) bF)
   (aA (fu PassesOwn.never rfl (cL (aV jH hr rfl (ae (ab (wpv 0)) (ae (ab (wpv 5)) (ae (ab (wpv 6)) ay))))) (gT rfl (a9 (aB (i:=7) nd rfl (by trivial)) (a9 (aB (i:=8) nd rfl (by trivial)) eB))) (ar (aZ (i:=9) nd rfl (by trivial) (eC (ae (dU b8 js rfl B.tuple OG.dg (ae (cw oj oe rfl B.sorted OG.dE (ae (iL ju jt (ab (wpv 5)) (eC (ae (ab (wpv 7)) ay))) ay)) ay)) (ae (ab (wpv 8)) ay))))
   (aA (cE (sk (m6 hr) (ab (wpv 9)) (ab (wpv 4)) (by with_unfolding_all rfl)) (ar (sh (m6 hr) (ab (wpv 4)) (ab (wpv 9)) (n5 cT))
   (aA (dj (dW (ab (wpv 3)) (ae (ab (wpv 9)) ay))))) bF))))))))
   (aA (aX (n5 cT)))))))
theorem mS:aL ["found","due"] ["found","due"] (ax kj):=⟨rfl,rfl,rfl,by decide +kernel,rfl,by decide +kernel,by decide +kernel⟩
def ue:CS:=
 (bj (ff (aF (cOp KH (ag 1) (cC .non))) (et (cOp KH (ag 0) (cC .non))) cf)
  (bj (ff (aF (uw .bool (ag 1))) (et (rD (uw .bool (ag 0)) (cOp fEq (ag 0) (ag 1)))) cf)
  (bj (ff (aF (uw .str (ag 1))) (et (rD (uw .str (ag 0)) (cOp fEq (ag 0) (ag 1)))) cf)
  (bj uf
  (bj uf
  uf)))))
theorem KW{a0 a1:U}{S:Sto}:fnU 2 2 (ue ) [a0,a1] S=((ue ) [some a0,some a1] S).bind kFn:=iO rfl
theorem uS{k:Nat}(d:Def K mg "_law_same" kj ["found","due"])(B:Blt mg):cS P w K mg base "_law_same" (k+1) ["found","due"] (fnU 2 2 (ue )):=
 d.pure mS fun f cdv A outer s H E hr=>(by
  have hu:=cM hr;have nd:=mS.nd;exact(ar (cE (bc Ef JZ (ab (wpv 1)) (Jq yn) (aY _)) (aA (aX (xk Ef JZ (ab (wpv 0)) (Jq yn) (aY _)))) bF)
   (ar (cE (fA (sv (T:=.bool) (by intro z;cases z) (ab (wpv 1)) (mO rfl B.bool OG.o9) rfl B.isinstance)) (aA (aX (vV (sv (T:=.bool) (by intro z;cases z) (ab (wpv 0)) (mO rfl B.bool OG.o9) rfl B.isinstance) (za (xk d8 md (ab (wpv 0)) (ab (wpv 1)) (aY _)))))) bF)
   (ar (cE (fA (sv (T:=.str) (by intro z;cases z) (ab (wpv 1)) (mO rfl B.str OG.wR) rfl B.isinstance)) (aA (aX (vV (sv (T:=.str) (by intro z;cases z) (ab (wpv 0)) (mO rfl B.str OG.wR) rfl B.isinstance) (za (xk d8 md (ab (wpv 0)) (ab (wpv 1)) (aY _)))))) bF)
   (ar nA
   (ar nA
   (aA nA)))))))
theorem fN:aL ["self","a","box","number"] ["self","a","box","number"] (ax dS):=⟨rfl,rfl,rfl,by decide +kernel,rfl,by decide +kernel,by decide +kernel⟩
theorem lU{k:Nat}{ao:Cl}(d:MtD K ao.C "note_look" "Course.note_look" dS ["self","a","box","number"])(B:Blt mg)(TCourse:TC K ao ["ends","looks","needs","puts","before"]):Bk P w K mg base ao "note_look" (k+1) ["self","a","box","number"] (fnU 4 4 (bH ao)):=
 d.pure fN fun f cdv A outer s H E hr=>(by
  have hu:=cM hr;have nd:=fN.nd;exact(aA (cE (lF hu (ab (wpv 2)) (bB hu (eQ TCourse.cl (TCourse.na 3 rfl) (TCourse.ix rfl) (ab (wpv 0))) (ab (wpv 1)) (fun _ _=>rfl) (fun _ _=>rfl)) (by with_unfolding_all rfl)) (ar (dj (dW (bB hu (eQ TCourse.cl (TCourse.na 1 rfl) (TCourse.ix rfl) (ab (wpv 0))) (ab (wpv 1)) (fun _ _=>rfl) (fun _ _=>rfl)) (ae (eC (ae (ab (wpv 2)) (ae (ab (wpv 3)) ay))) ay)))
   (aA (y4 hu (bB hu (eQ TCourse.cl (TCourse.na 2 rfl) (TCourse.ix rfl) (ab (wpv 0))) (ab (wpv 1)) (fun _ _=>rfl) (fun _ _=>rfl)) (ae (ab (wpv 2)) (ae (ab (wpv 3)) ay)) (n5 cT)))) bF)))
theorem i9:aL ["self","a"] ["self","a"] (ax gF):=⟨rfl,rfl,rfl,by decide +kernel,rfl,by decide +kernel,by decide +kernel⟩
theorem pL{k:Nat}{ao:Cl}(d:MtD K ao.C "enter" "Course.enter" gF ["self","a"])(B:Blt mg)(TCourse:TC K ao ["ends","looks","needs","puts","before"]):Bk P w K mg base ao "enter" (k+1) ["self","a"] (fnU 2 2 (dz ao)):=
 d.pure i9 fun f cdv A outer s H E hr=>(by
  have hu:=cM hr;have nd:=i9.nd;exact(ar (bS hu (eQ TCourse.cl (TCourse.na 4 rfl) (TCourse.ix rfl) (ab (wpv 0))) (ab (wpv 1)) (zf (Nc:=["one","self"]) (tn:=["one"]) (capN:=["self"]) (caps:=[0]) rfl (eQ TCourse.cl (TCourse.na 0 rfl) (TCourse.ix rfl) (ab (wpv 0))) (fun _ _ _=>(bC (aB (i:=0) (show(["one","self"]:List Str).Nodup by decide +kernel) rfl (by trivial)))) (fun _ _ _=>(bc Cu Lk (bB hu (eQ TCourse.cl (TCourse.na 0 rfl) (TCourse.ix rfl) (ab (wpv 1))) (ab (wpv 0)) (fun _ _=>rfl) (fun _ _=>rfl)) (bI aI) (aY _))) (fun _ _ _=>(ab (wpv 0))) rfl rfl (by decide +kernel) (by decide +kernel) ⟨rfl,trivial⟩ rfl (.cons ⟨rfl,rfl,rfl,_,rfl⟩ .nil) rfl rfl))
   (ar (bS hu (eQ TCourse.cl (TCourse.na 0 rfl) (TCourse.ix rfl) (ab (wpv 0))) (ab (wpv 1)) (bI aI))
   (ar (bS hu (eQ TCourse.cl (TCourse.na 1 rfl) (TCourse.ix rfl) (ab (wpv 0))) (ab (wpv 1)) (fZ ay))
   (ar (bS hu (eQ TCourse.cl (TCourse.na 2 rfl) (TCourse.ix rfl) (ab (wpv 0))) (ab (wpv 1)) FJ)
   (aA (bS hu (eQ TCourse.cl (TCourse.na 3 rfl) (TCourse.ix rfl) (ab (wpv 0))) (ab (wpv 1)) gU)))))))
theorem iK:aL ["self","event","a"] ["self","event"] (ax fP):=⟨rfl,rfl,rfl,by decide +kernel,rfl,by decide +kernel,by decide +kernel⟩
theorem oI{k:Nat}{cm bt:Fn}{ao:Cl}(d:MtD K ao.C "follow" "Course.follow" fP ["self","event"])(B:Blt mg)(TCourse:TC K ao ["ends","looks","needs","puts","before"])(M_Course_enter:Bk P w K mg base ao "enter" (k) ["self","a"] cm)(M_Course_note_look:Bk P w K mg base ao "note_look" (k) ["self","a","box","number"] bt):Bk P w K mg base ao "follow" (k+1) ["self","event"] (fnU 3 2 (bw cm bt ao)):=
 d.pure iK fun f cdv A outer s H E hr=>(by
  have hu:=cM hr;have nd:=iK.nd;exact(ar (aZ (i:=2) nd rfl (by trivial) (bB hu (ab (wpv 1)) (aD ak) (fun _ _=>rfl) (fun _ _=>rfl)))
   (aA (cE (bc d8 md (bB hu (ab (wpv 1)) (aD ak) (fun _ _=>rfl) (fun _ _=>rfl)) (bI aI) (aY _)) (aA (dj (vU TCourse.cl M_Course_enter hr (TCourse.nm (by decide +kernel)) (ab (wpv 0)) (ae (ab (wpv 2)) ay)))) (aA (cE (bc d8 md (bB hu (ab (wpv 1)) (aD ak) (fun _ _=>rfl) (fun _ _=>rfl)) (bI aI) (aY _)) (aA (dj (vU TCourse.cl M_Course_note_look hr (TCourse.nm (by decide +kernel)) (ab (wpv 0)) (ae (ab (wpv 2)) (ae (bB hu (ab (wpv 1)) (aD ak) (fun _ _=>rfl) (fun _ _=>rfl)) (ae (bB hu (ab (wpv 1)) (aD ak) (fun _ _=>rfl) (fun _ _=>rfl)) ay)))))) (aA (cE (bc d8 md (bB hu (ab (wpv 1)) (aD ak) (fun _ _=>rfl) (fun _ _=>rfl)) (bI aI) (aY _)) (aA (bS hu (bB hu (eQ TCourse.cl (TCourse.na 3 rfl) (TCourse.ix rfl) (ab (wpv 0))) (ab (wpv 2)) (fun _ _=>rfl) (fun _ _=>rfl)) (bB hu (ab (wpv 1)) (aD ak) (fun _ _=>rfl) (fun _ _=>rfl)) (bB hu (ab (wpv 1)) (aD ak) (fun _ _=>rfl) (fun _ _=>rfl)))) (aA (bS hu (eQ TCourse.cl (TCourse.na 0 rfl) (TCourse.ix rfl) (ab (wpv 0))) (ab (wpv 2)) (bB hu (ab (wpv 1)) (aD ak) (fun _ _=>rfl) (fun _ _=>rfl))))))))))))
theorem j5:aL ["self"] ["self"] (ax ig):=⟨rfl,rfl,rfl,by decide +kernel,rfl,by decide +kernel,by decide +kernel⟩
theorem q0{k:Nat}{ao:Cl}(d:MkD K mg ao.C "Course" "Course.__init__" ig ["self"])(B:Blt mg)(TCourse:TC K ao ["ends","looks","needs","puts","before"]):CMk P w K mg base ao "Course" (k+1) ["self"] (fnU 1 1 (d4 ao)):=
 d.pure TCourse j5 fun f cdv A outer s H E hr=>(by
  have hu:=cM hr;have nd:=j5.nd;exact(ar (jq TCourse.cl (TCourse.na 0 rfl) (TCourse.ix rfl) (ab (wpv 0)) gU)
   (ar (jq TCourse.cl (TCourse.na 1 rfl) (TCourse.ix rfl) (ab (wpv 0)) gU)
   (ar (jq TCourse.cl (TCourse.na 2 rfl) (TCourse.ix rfl) (ab (wpv 0)) gU)
   (ar (jq TCourse.cl (TCourse.na 3 rfl) (TCourse.ix rfl) (ab (wpv 0)) gU)
   (aA (jq TCourse.cl (TCourse.na 4 rfl) (TCourse.ix rfl) (ab (wpv 0)) gU)))))))
theorem mQ:aL ["log","course","event"] ["log"] (ax kh):=⟨rfl,rfl,rfl,by decide +kernel,rfl,by decide +kernel,by decide +kernel⟩
theorem uQ{k:Nat}{bu bM:Fn}{ao:Cl}(d:Def K mg "course_of" kh ["log"])(B:Blt mg)(TCourse:TC K ao ["ends","looks","needs","puts","before"])(M_Course_follow:Bk P w K mg base ao "follow" (k+1) ["self","event"] bu)(M_Course:CMk P w K mg base ao "Course" k ["self"] bM):cS P w K mg base "course_of" (k+1+1) ["log"] (fnU 3 1 (fU bu bM ao)):=
 d.pure mQ fun f cdv A outer s H E hr=>(by
  have hu:=cM hr;have nd:=mQ.nd;exact(ar (aZ (i:=1) nd rfl (by trivial) (FI M_Course hr rfl))
   (ar (fu PassesOwn.never rfl (cL (ab (wpv 0))) (bC (aB (i:=2) nd rfl (by trivial))) (aA (dj (vU TCourse.cl M_Course_follow hr (TCourse.nm (by decide +kernel)) (ab (wpv 1)) (ae (ab (wpv 2)) ay)))))
   (aA (aX (ab (wpv 1)))))))
theorem nR:aL ["course","every","a"] ["course","every","a"] (ax mi):=⟨rfl,rfl,rfl,by decide +kernel,rfl,by decide +kernel,by decide +kernel⟩
theorem xx{k:Nat}{ao:Cl}(d:Def K mg "is_asked" mi ["course","every","a"])(B:Blt mg)(TCourse:TC K ao ["ends","looks","needs","puts","before"]):cS P w K mg base "is_asked" (k+1) ["course","every","a"] (fnU 3 3 (fK ao)):=
 d.pure nR fun f cdv A outer s H E hr=>(by
  have hu:=cM hr;have nd:=nR.nd;exact(aA (aX (MH (ab (wpv 1)) (za (xk d8 md (bB hu (eQ TCourse.cl (TCourse.na 0 rfl) (TCourse.ix rfl) (ab (wpv 0))) (ab (wpv 2)) (fun _ _=>rfl) (fun _ _=>rfl)) (bI aI) (aY _)))))))
theorem nS:aL ["course","every"] ["course","every"] (ax ml):=⟨rfl,rfl,rfl,by decide +kernel,rfl,by decide +kernel,by decide +kernel⟩
theorem xy{k:Nat}{bo:Fn}{ao:Cl}(d:Def K mg "asked_in" ml ["course","every"])(B:Blt mg)(TCourse:TC K ao ["ends","looks","needs","puts","before"])(fM:cS P w K mg base "is_asked" (k) ["course","every","a"] bo):cS P w K mg base "asked_in" (k+1) ["course","every"] (fnU 2 2 (g4 bo ao)):=
 d.pure nS fun f cdv A outer s H E hr=>(by
  have hu:=cM hr;have nd:=nS.nd;exact(aA (aX (gf (Nc:=["a","course","every"]) (tn:=["a"]) (capN:=["course","every"]) (caps:=[0,1]) rfl (cL (cw (qS rfl) qQ rfl B.sorted OG.dE (ae (eQ TCourse.cl (TCourse.na 0 rfl) (TCourse.ix rfl) (ab (wpv 0))) ay))) (fun _ _ _=>(bC (aB (i:=0) (show(["a","course","every"]:List Str).Nodup by decide +kernel) rfl (by trivial)))) (fun _ _ _=>(fA (aV fM hr rfl (ae (ab (wpv 1)) (ae (ab (wpv 2)) (ae (ab (wpv 0)) ay)))))) (fun _ _ _=>(ab (wpv 0))) rfl rfl (by decide +kernel) (by decide +kernel) ⟨rfl,rfl,trivial⟩ rfl (.cons ⟨rfl,rfl,rfl,_,rfl⟩ (.cons ⟨rfl,rfl,rfl,_,rfl⟩ .nil)) rfl rfl))))
theorem yU:aL ["course","a","state","need"] ["course","a","state"] (ax yW):=⟨rfl,rfl,rfl,by decide +kernel,rfl,by decide +kernel,by decide +kernel⟩
theorem KA{k:Nat}{ao:Cl}(d:Def K mg "fits" yW ["course","a","state"])(B:Blt mg)(TCourse:TC K ao ["ends","looks","needs","puts","before"]):cS P w K mg base "fits" (k+1) ["course","a","state"] (fnU 4 3 (qx ao)):=
 d.pure yU fun f cdv A outer s H E hr=>(by
  have hu:=cM hr;have nd:=yU.nd;exact(ar (FE PassesOwn.never rfl (bB hu (eQ TCourse.cl (TCourse.na 2 rfl) (TCourse.ix rfl) (ab (wpv 0))) (ab (wpv 1)) (fun _ _=>rfl) (fun _ _=>rfl)) (bC (aB (i:=3) nd rfl (by trivial))) (aA (cE (bc Cu Lk (bB hu (ab (wpv 2)) (bB hu (ab (wpv 3)) (aD ak) (fun _ _=>rfl) (fun _ _=>rfl)) (fun _ _=>rfl) (fun _ _=>rfl)) (bB hu (ab (wpv 3)) (aD ak) (fun _ _=>rfl) (fun _ _=>rfl)) (aY _)) (aA (aX (n5 cT))) bF)))
   (aA (aX (n5 cT)))))
theorem kS:aL ["course","a","state"] ["course","a","state"] (ax ja):=⟨rfl,rfl,rfl,by decide +kernel,rfl,by decide +kernel,by decide +kernel⟩
theorem sU{k:Nat}{ao:Cl}(d:Def K mg "state_with" ja ["course","a","state"])(B:Blt mg)(TCourse:TC K ao ["ends","looks","needs","puts","before"]):cS P w K mg base "state_with" (k+1) ["course","a","state"] (fnU 3 3 (dH ao)):=
 d.pure kS fun f cdv A outer s H E hr=>(by
  have hu:=cM hr;have nd:=kS.nd;exact(ar (cE (bc Cu Lk (bB hu (eQ TCourse.cl (TCourse.na 0 rfl) (TCourse.ix rfl) (ab (wpv 0))) (ab (wpv 1)) (fun _ _=>rfl) (fun _ _=>rfl)) (bI aI) (aY _)) (aA (aX (ab (wpv 2)))) bF)
   (aA (aX (dU b8 js rfl B.tuple OG.dg (ae (mW (Nc:=["box","number","a","course"]) (tn:=["box","number"]) (capN:=["a","course"]) (caps:=[1,0]) rfl (n4 rfl B.enumerate (ab (wpv 2))) (fun _ _ _=>(gT rfl (a9 (aB (i:=0) (show(["box","number","a","course"]:List Str).Nodup by decide +kernel) rfl (by trivial)) (a9 (aB (i:=1) (show(["box","number","a","course"]:List Str).Nodup by decide +kernel) rfl (by trivial)) eB)))) (fun _ _ _=>(sy hu (bB hu (eQ TCourse.cl (TCourse.na 3 rfl) (TCourse.ix rfl) (ab (wpv 3))) (ab (wpv 2)) (fun _ _=>rfl) (fun _ _=>rfl)) (ab (wpv 0)) (ab (wpv 1)) ⟨rfl,rfl,rfl,rfl⟩)) rfl rfl (by decide +kernel) (by decide +kernel) ⟨rfl,rfl,trivial⟩ rfl (.cons ⟨rfl,rfl,rfl,_,rfl⟩ (.cons ⟨rfl,rfl,rfl,_,rfl⟩ .nil)) rfl rfl) ay))))))
theorem j6:aL ["self","course","every","a"] ["self","course","every"] (ax ik):=⟨rfl,rfl,rfl,by decide +kernel,rfl,by decide +kernel,by decide +kernel⟩
theorem rg{k:Nat}{c6 bo:Fn}{aC ao:Cl}(d:MkD K mg aC.C "Asking" "Asking.__init__" ik ["self","course","every"])(B:Blt mg)(TAsking:TC K aC ["course","ones","needed"])(TCourse:TC K ao ["ends","looks","needs","puts","before"])(mL:cS P w K mg base "asked_in" (k) ["course","every"] c6)(fM:cS P w K mg base "is_asked" (k) ["course","every","a"] bo):CMk P w K mg base aC "Asking" (k+1) ["self","course","every"] (fnU 4 3 (d5 c6 bo aC ao)):=
 d.pure TAsking j6 fun f cdv A outer s H E hr=>(by
  have hu:=cM hr;have nd:=j6.nd;exact(ar (jq TAsking.cl (TAsking.na 0 rfl) (TAsking.ix rfl) (ab (wpv 0)) (ab (wpv 1)))
   (ar (jq TAsking.cl (TAsking.na 1 rfl) (TAsking.ix rfl) (ab (wpv 0)) (aV mL hr rfl (ae (ab (wpv 1)) (ae (ab (wpv 2)) ay))))
   (ar (jq TAsking.cl (TAsking.na 2 rfl) (TAsking.ix rfl) (ab (wpv 0)) gU)
   (aA (fu PassesOwn.never rfl (cL (eQ TAsking.cl (TAsking.na 1 rfl) (TAsking.ix rfl) (ab (wpv 0)))) (bC (aB (i:=3) nd rfl (by trivial))) (aA (bS hu (eQ TAsking.cl (TAsking.na 2 rfl) (TAsking.ix rfl) (ab (wpv 0))) (ab (wpv 3)) (gf (Nc:=["one","course","every"]) (tn:=["one"]) (capN:=["course","every"]) (caps:=[1,2]) rfl (cL (bB hu (eQ TCourse.cl (TCourse.na 4 rfl) (TCourse.ix rfl) (ab (wpv 1))) (ab (wpv 3)) (fun _ _=>rfl) (fun _ _=>rfl))) (fun _ _ _=>(bC (aB (i:=0) (show(["one","course","every"]:List Str).Nodup by decide +kernel) rfl (by trivial)))) (fun _ _ _=>(fA (aV fM hr rfl (ae (ab (wpv 1)) (ae (ab (wpv 2)) (ae (ab (wpv 0)) ay)))))) (fun _ _ _=>(ab (wpv 0))) rfl rfl (by decide +kernel) (by decide +kernel) ⟨rfl,rfl,trivial⟩ rfl (.cons ⟨rfl,rfl,rfl,_,rfl⟩ (.cons ⟨rfl,rfl,rfl,_,rfl⟩ .nil)) rfl rfl)))))))))
theorem eO:aL ["self","a","gone","state"] ["self","a","gone","state"] (ax dh):=⟨rfl,rfl,rfl,by decide +kernel,rfl,by decide +kernel,by decide +kernel⟩
theorem jY{k:Nat}{oM:Fn}{aC:Cl}(d:MtD K aC.C "may_be_next" "Asking.may_be_next" dh ["self","a","gone","state"])(B:Blt mg)(TAsking:TC K aC ["course","ones","needed"])(Bh:cS P w K mg base "fits" (k) ["course","a","state"] oM):Bk P w K mg base aC "may_be_next" (k+1) ["self","a","gone","state"] (fnU 4 4 (bK oM aC)):=
 d.pure eO fun f cdv A outer s H E hr=>(by
  have hu:=cM hr;have nd:=eO.nd;exact(aA (aX (vV (cw (Dw rfl) MV rfl B.all OG.Dx (ae (mW (Nc:=["one","gone"]) (tn:=["one"]) (capN:=["gone"]) (caps:=[2]) rfl (cL (bB hu (eQ TAsking.cl (TAsking.na 2 rfl) (TAsking.ix rfl) (ab (wpv 0))) (ab (wpv 1)) (fun _ _=>rfl) (fun _ _=>rfl))) (fun _ _ _=>(bC (aB (i:=0) (show(["one","gone"]:List Str).Nodup by decide +kernel) rfl (by trivial)))) (fun _ _ _=>(O1 hu (ab (wpv 0)) (ab (wpv 1)) (by with_unfolding_all rfl))) rfl rfl (by decide +kernel) (by decide +kernel) ⟨rfl,trivial⟩ rfl (.cons ⟨rfl,rfl,rfl,_,rfl⟩ .nil) rfl rfl) ay)) (za (aV Bh hr rfl (ae (eQ TAsking.cl (TAsking.na 0 rfl) (TAsking.ix rfl) (ab (wpv 0))) (ae (ab (wpv 1)) (ae (ab (wpv 3)) ay)))))))))
theorem kT:aL ["log","every","asking","many"] ["log","every"] (ax jb):=⟨rfl,rfl,rfl,by decide +kernel,rfl,by decide +kernel,by decide +kernel⟩
theorem sV{k:Nat}{dD cI:Fn}{aC:Cl}(d:Def K mg "asking_few" jb ["log","every"])(B:Blt mg)(C_MOST_ASKED:∃t,mg "MOST_ASKED"=some (.int (8) t))(TAsking:TC K aC ["course","ones","needed"])(kH:cS P w K mg base "course_of" (k+1) ["log"] dD)(M_Asking:CMk P w K mg base aC "Asking" k ["self","course","every"] cI):cS P w K mg base "asking_few" (k+1+1) ["log","every"] (fnU 4 2 (eR dD cI aC)):=
 d.pure kT fun f cdv A outer s H E hr=>(by
  have hu:=cM hr;have nd:=kT.nd;exact(ar (aZ (i:=2) nd rfl (by trivial) (Jr M_Asking hr rfl (ae (aV kH hr rfl (ae (ab (wpv 0)) ay)) (ae (ab (wpv 1)) ay))))
   (ar (aZ (i:=3) nd rfl (by trivial) (cw nq nj rfl B.len PySem.boot_len (ae (eQ TAsking.cl (TAsking.na 1 rfl) (TAsking.ix rfl) (ab (wpv 2))) ay)))
   (ar (cE (bc Gi MU (ab (wpv 3)) (aD (Bx rfl C_MOST_ASKED)) (aY _)) (aA nA) bF)
   (aA (aX (ab (wpv 2))))))))
theorem i7:aL ["asking","place","a"] ["asking","place","a"] (ax gC):=⟨rfl,rfl,rfl,by decide +kernel,rfl,by decide +kernel,by decide +kernel⟩
theorem pJ{k:Nat}{cW:Fn}{aC:Cl}(d:Def K mg "place_behind" gC ["asking","place","a"])(B:Blt mg)(TAsking:TC K aC ["course","ones","needed"])(jE:cS P w K mg base "state_with" (k) ["course","a","state"] cW):cS P w K mg base "place_behind" (k+1) ["asking","place","a"] (fnU 3 3 (dv cW aC)):=
 d.pure i7 fun f cdv A outer s H E hr=>(by
  have hu:=cM hr;have nd:=i7.nd;exact(aA (aX (eC (ae (dU b8 js rfl B.tuple OG.dg (ae (cw oj oe rfl B.sorted OG.dE (ae (iL ju jt (bB hu (ab (wpv 1)) (aD ak) (fun _ _=>rfl) (fun _ _=>rfl)) (eC (ae (ab (wpv 2)) ay))) ay)) ay)) (ae (aV jE hr rfl (ae (eQ TAsking.cl (TAsking.na 0 rfl) (TAsking.ix rfl) (ab (wpv 0))) (ae (ab (wpv 2)) (ae (bB hu (ab (wpv 1)) (aD ak) (fun _ _=>rfl) (fun _ _=>rfl)) ay)))) ay))))))
theorem p8:aL ["asking","place","gone","state"] ["asking","place"] (ax nY):=⟨rfl,rfl,rfl,by decide +kernel,rfl,by decide +kernel,by decide +kernel⟩
theorem Ag{k:Nat}{cg ba:Fn}{aC:Cl}(d:Def K mg "ways_on" nY ["asking","place"])(B:Blt mg)(TAsking:TC K aC ["course","ones","needed"])(gM:cS P w K mg base "place_behind" (k) ["asking","place","a"] cg)(M_Asking_may_be_next:Bk P w K mg base aC "may_be_next" (k) ["self","a","gone","state"] ba):cS P w K mg base "ways_on" (k+1) ["asking","place"] (fnU 4 2 (jy cg ba aC)):=
 d.pure p8 fun f cdv A outer s H E hr=>(by
  have hu:=cM hr;have nd:=p8.nd;exact(ar (aZ (i:=2) nd rfl (by trivial) (bB hu (ab (wpv 1)) (aD ak) (fun _ _=>rfl) (fun _ _=>rfl)))
   (ar (aZ (i:=3) nd rfl (by trivial) (bB hu (ab (wpv 1)) (aD ak) (fun _ _=>rfl) (fun _ _=>rfl)))
   (aA (aX (gf (Nc:=["a","asking","place","gone","state"]) (tn:=["a"]) (capN:=["asking","place","gone","state"]) (caps:=[0,1,2,3]) rfl (cL (eQ TAsking.cl (TAsking.na 1 rfl) (TAsking.ix rfl) (ab (wpv 0)))) (fun _ _ _=>(bC (aB (i:=0) (show(["a","asking","place","gone","state"]:List Str).Nodup by decide +kernel) rfl (by trivial)))) (fun _ _ _=>(si (ko (lF hu (ab (wpv 0)) (ab (wpv 3)) (by with_unfolding_all rfl)) (iM (fA (vU TAsking.cl M_Asking_may_be_next hr (TAsking.nm (by decide +kernel)) (ab (wpv 1)) (ae (ab (wpv 0)) (ae (ab (wpv 3)) (ae (ab (wpv 4)) ay))))))))) (fun _ _ _=>(eC (ae (ab (wpv 0)) (ae (aV gM hr rfl (ae (ab (wpv 1)) (ae (ab (wpv 2)) (ae (ab (wpv 0)) ay)))) ay)))) rfl rfl (by decide +kernel) (by decide +kernel) ⟨rfl,rfl,rfl,rfl,trivial⟩ rfl (.cons ⟨rfl,rfl,rfl,_,rfl⟩ (.cons ⟨rfl,rfl,rfl,_,rfl⟩ (.cons ⟨rfl,rfl,rfl,_,rfl⟩ (.cons ⟨rfl,rfl,rfl,_,rfl⟩ .nil)))) rfl rfl))))))
theorem gS:aL ["asking","state","orders","left","place","a","reached"] ["asking","state"] (ax fi):=⟨rfl,rfl,rfl,by decide +kernel,rfl,by decide +kernel,by decide +kernel⟩
theorem nu{k:Nat}{cV:Fn}{aC:Cl}{fuel:Nat}(d:Def K mg "order_or_table" fi ["asking","state"])(B:Blt mg)(TAsking:TC K aC ["course","ones","needed"])(pA:cS P w K mg base "ways_on" (k) ["asking","place"] cV):cS P w K mg base "order_or_table" (k+1) ["asking","state"] (fnU 7 2 (cN cV aC fuel)):=
 d.pure gS fun f cdv A outer s H E hr=>(by
  have hu:=cM hr;have nd:=gS.nd;exact(ar (aZ (i:=2) nd rfl (by trivial) (ze (m6 hr) (eC (ae (eC ay) (ae (ab (wpv 1)) ay))) (fZ ay)))
   (ar (aZ (i:=3) nd rfl (by trivial) (fZ (ae (eC (ae (eC ay) (ae (ab (wpv 1)) ay))) ay)))
   (ar (vT fuel PassesOwn.never (bc Gi MU (cw nq nj rfl B.len PySem.boot_len (ae (ab (wpv 3)) ay)) (aD ak) (aY _)) (ar (aZ (i:=4) nd rfl (by trivial) (FH (ab (wpv 3))))
   (ar (cE (bc d8 md (cw nq nj rfl B.len PySem.boot_len (ae (bB hu (ab (wpv 4)) (aD ak) (fun _ _=>rfl) (fun _ _=>rfl)) ay)) (cw nq nj rfl B.len PySem.boot_len (ae (eQ TAsking.cl (TAsking.na 1 rfl) (TAsking.ix rfl) (ab (wpv 0))) ay)) (aY _)) (aA (aX (eC (ae (bI aI) (ae (Js (m6 hr) (ab (wpv 2)) (ab (wpv 4)) (fun _ _=>rfl)) ay))))) bF)
   (aA (fu PassesOwn.never rfl (cL (aV pA hr rfl (ae (ab (wpv 0)) (ae (ab (wpv 4)) ay)))) (gT rfl (a9 (aB (i:=5) nd rfl (by trivial)) (a9 (aB (i:=6) nd rfl (by trivial)) eB))) (aA (cE (sk (m6 hr) (ab (wpv 6)) (ab (wpv 2)) (by with_unfolding_all rfl)) (ar (sh (m6 hr) (ab (wpv 2)) (ab (wpv 6)) (iL ju jt (Js (m6 hr) (ab (wpv 2)) (ab (wpv 4)) (fun _ _=>rfl)) (fZ (ae (ab (wpv 5)) ay))))
   (aA (dj (dW (ab (wpv 3)) (ae (ab (wpv 6)) ay))))) bF)))))))
   (aA (aX (eC (ae (bI aI) (ae (dU (Gn rfl) Gf rfl B.list OG.jA (ae (ab (wpv 2)) ay)) ay)))))))))
theorem yT:aL ["world","state","log","every"] ["world","state","log","every"] (ax yV):=⟨rfl,rfl,rfl,by decide +kernel,rfl,by decide +kernel,by decide +kernel⟩
theorem Kz{k:Nat}{bJ cX:Fn}(d:Def K mg "good" yV ["world","state","log","every"])(B:Blt mg)(fq:cS P w K mg base "order_or_table" (k) ["asking","state"] bJ)(jF:cS P w K mg base "asking_few" (k) ["log","every"] cX):cS P w K mg base "good" (k+1) ["world","state","log","every"] (fnU 4 4 (ud bJ cX)):=
 d.pure yT fun f cdv A outer s H E hr=>(by
  have hu:=cM hr;have nd:=yT.nd;exact(aA (aX (aV fq hr rfl (ae (aV jF hr rfl (ae (ab (wpv 2)) (ae (ab (wpv 3)) ay))) (ae (ab (wpv 1)) ay))))))
theorem k7:aL ["world","state","log","every","can","again","found","whole"] ["world","state","log","every"] (ax jg):=⟨rfl,rfl,rfl,by decide +kernel,rfl,by decide +kernel,by decide +kernel⟩
theorem tf{k:Nat}{c9 b5 lV cH br:Fn}(d:Def K mg "_law_right" jg ["world","state","log","every"])(B:Blt mg)(mN:cS P w K mg base "_law_can" (k) ["parts","some","state"] c9)(jK:cS P w K mg base "_law_parts" (k) ["log","every"] b5)(Bg:cS P w K mg base "good" (k) ["world","state","log","every"] lV)(kI:cS P w K mg base "_law_same" (k) ["found","due"] cH)(fX:cS P w K mg base "_law_is_order" (k) ["state","log","every","order"] br):cS P w K mg base "_law_right" (k+1) ["world","state","log","every"] (fnU 8 4 (eY c9 b5 lV cH br)):=
 d.pure k7 fun f cdv A outer s H E hr=>(by
  have hu:=cM hr;have nd:=k7.nd;exact(ar (aZ (i:=4) nd rfl (by trivial) (aV mN hr rfl (ae (aV jK hr rfl (ae (ab (wpv 2)) (ae (ab (wpv 3)) ay))) (ae (eC ay) (ae (ab (wpv 1)) ay)))))
   (ar (fu PassesOwn.never rfl (jr rfl B.range (ae (aD ak) ay)) (bC (aB (i:=5) nd rfl (by trivial))) (ar (aZ (i:=6) nd rfl (by trivial) (aV Bg hr rfl (ae (ab (wpv 0)) (ae (ab (wpv 1)) (ae (ab (wpv 2)) (ae (ab (wpv 3)) ay))))))
   (ar (cE (si (Hk (p9 (fA (sv (T:=.tuple) (by intro z;cases z) (ab (wpv 6)) (mO rfl B.tuple OG.dg) rfl B.isinstance))) (Hk (bc Cu Lk (cw nq nj rfl B.len PySem.boot_len (ae (ab (wpv 6)) ay)) (aD ak) (aY _)) (y8 (p9 (fA (sv (T:=.list) (by intro z;cases z) (bB hu (ab (wpv 6)) (aD ak) (fun _ _=>rfl) (fun _ _=>rfl)) (mO rfl B.list OG.jA) rfl B.isinstance))))))) (aA (aX (n5 cT))) bF)
   (ar (cE (p9 (fA (aV kI hr rfl (ae (bB hu (ab (wpv 6)) (aD ak) (fun _ _=>rfl) (fun _ _=>rfl)) (ae (bB hu (fZ (ae (bI aI) (ae (bI aI) ay))) (dU AS MT rfl B.int OG.wU (ae (ab (wpv 4)) ay)) (fun _ _=>rfl) (fun _ _=>rfl)) ay))))) (aA (aX (n5 cT))) bF)
   (ar (xi (Nc:=["a"]) (tn:=["a"]) (capN:=[]) (caps:=[]) rfl (cL (bB hu (ab (wpv 6)) (aD ak) (fun _ _=>rfl) (fun _ _=>rfl))) (fun _ _ _=>(bC (aB (i:=0) (show(["a"]:List Str).Nodup by decide +kernel) rfl (by trivial)))) (fun _ _ _=>(vV (sv (T:=.int) (by intro z;cases z) (ab (wpv 0)) (mO rfl B.int OG.wU) rfl B.isinstance) (za (Jp (sv (T:=.bool) (by intro z;cases z) (ab (wpv 0)) (mO rfl B.bool OG.o9) rfl B.isinstance))))) rfl rfl (by decide +kernel) (by decide +kernel) trivial rfl .nil rfl rfl nd rfl rfl rfl)
   (ar (cE (si (ko (fA (ab (wpv 4))) (iM (so hu (n5 cT) (ab (wpv 7)) (by with_unfolding_all rfl))))) (aA (aX (n5 cT))) bF)
   (ar (cE (si (ko (fA (ab (wpv 4))) (iM (p9 (fA (aV fX hr rfl (ae (ab (wpv 1)) (ae (ab (wpv 2)) (ae (ab (wpv 3)) (ae (bB hu (ab (wpv 6)) (aD ak) (fun _ _=>rfl) (fun _ _=>rfl)) ay)))))))))) (aA (aX (n5 cT))) bF)
   (aA (dj (dW (bB hu (ab (wpv 6)) (aD ak) (fun _ _=>rfl) (fun _ _=>rfl)) (ae (aD ak) ay)))))))))))
   (aA (aX (n5 cT))))))
theorem D4:aL ["script","pen","world","state","turn","log","handed","every"] ["script"] (ax FC):=⟨rfl,rfl,rfl,by decide +kernel,rfl,by decide +kernel,by decide +kernel⟩
def A3(bX bY c7 bZ:Fn):CS:=
 (ff (cOr (x5 (aF (cCB bZ (af (ag 2) (af (ag 3) (af (ag 6) (af (ag 7) aG))))))) (aF (cOp (oR true) (ag 6) (ag 5)))) (et (cC (.bl false))) cf)
def vg(bX bY c7 bZ:Fn):CS:=
 (bj (dI 5 (cCB c7 (af (ag 1) (af (ag 2) (af (ag 3) (af (cC (.int 5)) (af (cC (.int 24)) aG)))))))
  (bj (dI 6 (cCB xH (af (ag 5) aG)))
  (me (iTp (gp (af (cC (.bl true)) (af (cC (.bl false)) aG)))) (gNm 7) (A3 bX bY c7 bZ))))
def xQ(bX bY c7 bZ:Fn):CS:=
 (bj (dI 2 (cCB bX (af (ag 1) aG)))
  (bj (dI 3 (cCB bY (af (ag 1) (af (ag 2) aG))))
  (bj (me (iB (af (cC (.int 3)) aG)) (gNm 4) (vg bX bY c7 bZ))
  (et (cC (.bl true))))))
theorem Nm{k:Nat}{bX bY c7 bZ:Fn}{fa:Addr}{fd:FuncData}(F:Fun K "law" "law" FC fa fd)(B:Blt mg)(xY:Has P w K mg base "_law_pen" k ["script"] (D1 K))(jG:cS P w K mg base "_law_world" k ["pen"] bX)(jI:cS P w K mg base "_law_state" k ["pen","world"] bY)(mM:cS P w K mg base "_law_log" k ["pen","world","state","most","size"] c7)(jJ:cS P w K mg base "_law_right" k ["world","state","log","every"] bZ)
  (ok:∀(ns:List Int) (a c:Int),0<=a->0<=c->∃ρ' S',xQ bX bY c7 bZ [none,some (.ref 1),none,none,none,none,none,none] [.lst (ns.map U.int),.lst [.ref 0,.int a,.int c]]=some (.rt (.bl true),ρ',S')):nc P w K mg base CX0 (k+1) fa fd ["script"] (BQ K):=by
 refine Fun.okW F D4 (fun vs H Q E h=>(by obtain⟨a,ns,rfl,_⟩:=h;rfl)) fun cdv A outer s H vs Q E hr h=>?_;obtain⟨a,ns,rfl,hS,eK,q⟩:=h;have hu:=cM hr;have nd:=D4.nd;refine⟨_,rQ (u:=tS K (xQ bX bY c7 bZ)) (yg (i:=1) nd rfl (by trivial) (DQ xY hr rfl (fB (wpv 0) mf))) (ar (aZ (i:=2) nd rfl (by trivial) (aV jG hr rfl (ae (ab (wpv 1)) ay)))
   (ar (aZ (i:=3) nd rfl (by trivial) (aV jI hr rfl (ae (ab (wpv 1)) (ae (ab (wpv 2)) ay))))
   (ar (fu PassesOwn.never rfl (jr rfl B.range (ae (aD ak) ay)) (bC (aB (i:=4) nd rfl (by trivial))) (ar (aZ (i:=5) nd rfl (by trivial) (aV mM hr rfl (ae (ab (wpv 1)) (ae (ab (wpv 2)) (ae (ab (wpv 3)) (ae (aD ak) (ae (aD ak) ay)))))))
   (ar (aZ (i:=6) nd rfl (by trivial) (dU m8 JY rfl B.list OG.jA (ae (ab (wpv 5)) ay)))
   (aA (fu PassesOwn.never rfl (cL (eC (ae (n5 cT) (ae (n5 cT) ay)))) (bC (aB (i:=7) nd rfl (by trivial))) (aA (cE (si (Hk (p9 (fA (aV jJ hr rfl (ae (ab (wpv 2)) (ae (ab (wpv 3)) (ae (ab (wpv 6)) (ae (ab (wpv 7)) ay))))))) (y8 (bc (sF hr.units) uF (ab (wpv 6)) (ab (wpv 5)) (aY _))))) (aA (aX (n5 cT))) bF)))))))
   (aA (aX (n5 cT)))))),?_⟩
 refine⟨_,rfl,a,ns,rfl,hS,fun p xs H1 s1 P1 n1=>?_⟩;exact Gy P1 ok q
end
theorem Kb{S:Sto}(e:Ev):Lay 1 S e.u:=by
 have two:∀(x:Str) (a:Int),PyData.strOk x=true->Lay 1 S (.tup [.str x,.int a]):=fun x a h=>.tup fun u hu=>by
  simp only[QM,Qc,or_false]at hu;rcases hu with rfl|rfl
  ·exact .str h
  ·exact .int
 have four:∀(x:Str) (a b y:Int),PyData.strOk x=true->Lay 1 S (.tup [.str x,.int a,.int b,.int y]):=fun x a b y h=>.tup fun u hu=>by
  simp only[QM,Qc,or_false]at hu;rcases hu with rfl|rfl|rfl|rfl
  ·exact .str h
  ·exact .int
  ·exact .int
  ·exact .int
 cases e with
 |fin d a=>cases d<;>exact two _ a (by decide +kernel)
 |beg a=>exact two _ a (by decide +kernel)
 |look a b x=>exact four _ a b x (by decide +kernel)
 |put a b x=>exact four _ a b x (by decide +kernel)
theorem KO{S:Sto}{l l':Nat}{es:List Ev}(h:S[l]?=some (.lst (es.map Ev.u)))(h':S[l']?=some (.lst (es.map Ev.u))):oR true (.ref l) (.ref l') S=some (.bl false,S):=
 mI.ne (k:=2) (mI.lst h h' (iN.all fun u hu=>by obtain⟨e,_,rfl⟩:=QR.mp hu;exact Kb e)) (by omega)
def Ly:Fn:=fnU 2 2 ue
abbrev fL(c cA:Cl)(f:Fn->Fn->Fn->Fn->CS):CS:=f vm vn He (vo c cA Ly)
section
variable{c cA:Cl}{n w:Int}{x:List Int}{evs:List Ev}{N:Nat}{S:Sto}{wu:U}{r4 r5 r6 r7:Option U}{ρ:Rho}
theorem Ji(s:Str)(S:Sto):Ly [.str s,.str s] S=some (.bl true,S):=by
 unfold Ly;rw[KW];rwa[ue,Ma,C2,IS,BM,eq_self]
theorem Jh(lg:jD n w N evs)(hN:N<=7)(he:evs.length<=900):StF (aQ [] evs) n:=by
 refine⟨lg.kd,rE _ [] lg.lo ZQ Nz,oz _ [] lg.lo Lm,Qj lg.cnt hN,fun a t hv=>?_⟩;have:=((uW evs [] 0 lg.lo (by simp[aE]) ⟨by simp,by simp⟩).2 _ (f9 hv)).1;dsimp only at this;omega
theorem Ft(hns:c.ns.length=5)(hna:cA.ns.length=3)(ns:List Int)(T:Sto){a c1:Int}(ha:0<=a)(hc:0<=c1)(n0:1<=n)(n1:n<=6)(w0:2<=w)(w1:w<=1000)(hs:x.length=n.toNat)(bs:∀z∈x,0<=z/\z<w) :
  Wp (fL c cA vg [none,some (.ref 1),some (.tup [.int n,.int w]),some (.tup (x.map U.int)),r4,r5,r6,r7] (scr ns::pen a c1::T)) fun r=>r.1=.nx/\∃r5' r6' r7' a' c1' G,r.2=([none,some (.ref 1),some (.tup [.int n,.int w]),some (.tup (x.map U.int)),r4,r5',r6',r7'],scr ns::pen a' c1'::(T++G))/\0<=a'/\0<=c1':=by
 obtain⟨evs,a1,c2,G,k,e1,g1,lg,le,ha1,hc1⟩:=Ka ns T (most:=5) (size:=24) (state:=x) ha hc n0 n1 w0 w1 hs bs (by omega) (by omega) (by omega) (by omega);have le':evs.length<=24:=le;unfold fL vg;refine vD (.of (r:=(.ref (T.length+k+1+1),scr ns::pen a1 c2::(T++G))) ?_ ?_)
 ·generalize x.map U.int=xu at e1 ⊢;rwa[e1]
 have gl:(scr ns::pen a1 c2::(T++G))[T.length+k+1+1]?=some (.lst (evs.map Ev.u)):=by
  rw[Qq,Qq,ga];exact g1
 obtain⟨S1,h1⟩:∃S1,S1=scr ns::pen a1 c2::(T++G):=⟨_,rfl⟩;have pre:∀X,S1++X=scr ns::pen a1 c2::(T++(G++X)):=fun X=>by rw[h1,Qz,Qz,Q3]
 obtain⟨lp,hlp⟩:∃lp,lp=T.length+k+1+1:=⟨_,rfl⟩;rw[<-h1,<-hlp]at gl;rw[<-h1,<-hlp];dsimp only[List.set];refine vD (.of (r:=(.ref S1.length,S1++[.lst (evs.map Ev.u)])) ?_ ?_)
 ·generalize x.map U.int=xu;generalize evs.map Ev.u=eu at gl ⊢;rwa[gl]
 dsimp only[List.set];obtain⟨S2,h2⟩:∃S2,S2=S1++[O.lst (evs.map Ev.u)]:=⟨_,rfl⟩;have gl2:S2[lp]?=some (.lst (evs.map Ev.u)):=by rw[h2];exact ah gl
 have gh2:S2[S1.length]?=some (.lst (evs.map Ev.u)):=by rw[h2,ga0];rfl
 rw[<-h2];refine Wp.mono (BG (us:=[true,false].map U.bl) (ok:=fun _=>True) (S1:=S2) rfl (pG (R:=fun r=>r.1=.nx/\∃r7' G,r.2=([none,some (.ref 1),some (.tup [.int n,.int w]),some (.tup (x.map U.int)),r4,some (.ref lp),some (.ref S1.length),r7'],S2++G)) (f:=U.bl) (fun rest ρ Z=>∃r7 G,ρ=[none,some (.ref 1),some (.tup [.int n,.int w]),some (.tup (x.map U.int)),r4,some (.ref lp),some (.ref S1.length),r7]/\Z=S2++G) (fun ρ Z hI=>?_) (fun e rest ρ Z hI=>?_) _ _ _ ⟨r7,[],rfl,by rw[QJ]⟩)) fun r hr=>?_
 ·obtain⟨r7',G,rfl,rfl⟩:=hI;exact⟨trivial,rfl,r7',G,rfl⟩
 ·obtain⟨r7',G3,rfl,rfl⟩:=hI;refine⟨trivial,.of (r:=([none,some (.ref 1),some (.tup [.int n,.int w]),some (.tup (x.map U.int)),r4,some (.ref lp),some (.ref S1.length),some (.bl e)],S2++G3)) rfl ?_⟩;obtain⟨_,e4,G4,rfl⟩:=BV (c:=c) (cA:=cA) (wu:=.tup [.int n,.int w]) (every:=e) (fs:=Ly) hns hna (S:=S2++G3) (ah gh2) lg (by omega) hs (by omega) (Jh lg (by omega) (by omega)) Ji;have e5:=KO (S:=S2++G3++G4) (ah (ah gh2)) (ah (ah gl2));generalize x.map U.int=xu at e4 ⊢;obtain⟨S4,h4⟩:∃S4,S4=S2++G3++G4:=⟨_,rfl⟩;rw[<-h4]at e4 e5;unfold A3;rwa[e4,e5,aH];exact .inl ⟨trivial,_,G3++G4,rfl,by rw[h4,Q3]⟩
 ·obtain⟨o,r2⟩:=r;obtain⟨q1,r7',G3,q2⟩:=hr;dsimp only at q1 q2;refine⟨q1,some (.ref lp),some (.ref S1.length),r7',a1,c2,G++([.lst (evs.map Ev.u)]++G3),?_,ha1,hc1⟩;dsimp only;rw[q2,h2,Q3,pre]
theorem Kc(hns:c.ns.length=5)(hna:cA.ns.length=3)(ns:List Int)(a c1:Int)(ha:0<=a)(hc:0<=c1):∃ρ' S',(fL c cA xQ) [none,some (.ref 1),none,none,none,none,none,none] [.lst (ns.map U.int),.lst [.ref 0,.int a,.int c1]]=some (.rt (.bl true),ρ',S'):=by
 have go:Wp ((fL c cA xQ) [none,some (.ref 1),none,none,none,none,none,none] [.lst (ns.map U.int),.lst [.ref 0,.int a,.int c1]]) fun r=>r.1=.rt (.bl true):=by
  obtain⟨n,w,a1,c2,G,e1,n0,n1,w0,w1,ha1,hc1⟩:=BB ns [] ha hc;rw[Qk]at e1;obtain⟨x,a2,c3,G2,e2,hs,bs,ha2,hc2⟩:=BO ns G ha1 hc1 n0 n1 w0 w1;obtain⟨T,hT⟩:∃T,T=G++G2:=⟨_,rfl⟩;rw[<-hT]at e2;show Wp (fL c cA xQ _ [scr ns,pen a c1]) _;unfold fL xQ;refine vD (.of (r:=(.tup [.int n,.int w],scr ns::pen a1 c2::G)) ?_ ?_)
  ·rwa[e1]
  refine vD (.of (r:=(.tup (x.map U.int),scr ns::pen a2 c3::T)) ?_ ?_)
  ·rwa[e2,List.set]
  dsimp only[List.set];refine mh (BG (us:=(Qi 3).map fun i:Nat=>U.int (i:Int)) (ok:=fun _=>True) (S1:=scr ns::pen a2 c3::T) rfl (pG (f:=fun i:Nat=>U.int (i:Int)) (fun rest ρ Z=>∃r4 r5 r6 r7 a' c' G,ρ=[none,some (.ref 1),some (.tup [.int n,.int w]),some (.tup (x.map U.int)),r4,r5,r6,r7]/\Z=scr ns::pen a' c'::(T++G)/\0<=a'/\0<=c') (fun ρ Z hI=>?_) (fun e rest ρ Z hI=>?_) _ _ _ ⟨none,none,none,none,a2,c3,[],rfl,by rw[QJ],ha2,hc2⟩))
  ·obtain⟨r4,r5,r6,r7,a',c',G,rfl,rfl,_⟩:=hI;exact⟨trivial,rfl,.of rfl rfl⟩
  ·obtain⟨r4,r5,r6,r7,a',c',G,rfl,rfl,ha',hc'⟩:=hI;refine⟨trivial,.of (r:=([none,some (.ref 1),some (.tup [.int n,.int w]),some (.tup (x.map U.int)),some (.int (e:Int)),r5,r6,r7],scr ns::pen a' c'::(T++G))) rfl ?_⟩;refine Wp.mono (Ft (c:=c) (cA:=cA) hns hna ns (T++G) ha' hc' n0 n1 w0 w1 hs bs) fun r hr=>?_;obtain⟨q,r5',r6',r7',a'',c'',G',hr,h1,h2⟩:=hr;exact .inl ⟨q,_,_,_,_,a'',c'',G++G',by rw[hr],by rw[hr,Q3],h1,h2⟩
 obtain⟨⟨o,ρ',S'⟩,e,rfl⟩:=go;exact⟨ρ',S',e⟩
end
section
variable{P:Program}{w:World}{K:Q1}{mg:Str->Option Value}{base:Heap}
theorem nT:aL ["script"] ["script"] (ax mq):=⟨rfl,rfl,rfl,by decide +kernel,rfl,by decide +kernel,by decide +kernel⟩
theorem GI{k:Nat}(B:Blt mg)(d:Def K mg "_law_pen" mq ["script"]):Has P w K mg base "_law_pen" (k+1) ["script"] (D1 K):=by
 refine d.has nT (fun vs H Q E h=>?_) (fun f cdv A outer s H vs Q E hr h=>?_)
 ·obtain⟨a,ns,rfl,_⟩:=h;rfl
 obtain⟨a,ns,rfl,hS,q⟩:=h;have nd:=nT.nd;refine⟨_,(vx (yh (yp (fB (pX m8 rfl B.list OG.jA (fB (rR yR (wpv 0) vA (vz ak)) mf)) (fB ak (fB ak mf)))))),?_⟩;refine⟨_,rfl,_,rfl,a,_,rfl,hS,fun p hp=>⟨p,_,rfl,.inl (SqL.of aN),fun l hl=>⟨(by show 3<=sizeLine;decide),fun r hr'=>?_⟩⟩⟩;obtain⟨ms,em⟩:∃ms:List Int,AL (ns.map V.int) none (some 63)=ms.map V.int:=⟨_,Dq _ _ _⟩;rw[em]at hl hr' ⊢;refine q r l _ (((dR hp _).trans (dR hl _)).trans (dR hr' _)) ⟨ms,0,0,aN,?_,cP aN hr',by decide,by decide⟩ ?_
 ·rw[bA (cP aN hr')];exact aN
 ·exact(((dR hp _).trans (dR hl _))).free hr'
end
theorem K3{l:PySem.W.OpenLaw}{w:World}{K:Q1}{h:Heap}{mg:Str->Option Value}{fa:Addr}(X:K.In h)(G:h.Ns mainGlobals mg)(hfa:mg "law"=some (.ref fa))
  {CCourse:Addr}
  {CAsking:Addr}
  {tk1:Tok}
  (ds:La K (("_law_take",ki)::("_law_world",jc)::("_law_state",jf)::("_law_names",ji)::("_law_put_in",ie)::("_law_event",jk)::("_law_log",mr)::("_law_begun",jm)::("_law_end",mv)::("_law_looks",jj)::("_law_puts",km)::("_law_times",jd)::("_law_asked",jn)::[("_law_changed",gD),("_law_fits",kn),("_law_is_order",fO),("_law_parts",jh),("_law_steps",je),("_law_can",mw),("_law_same",kj),("course_of",kh),("is_asked",mi),("asked_in",ml),("fits",yW),("state_with",ja),("asking_few",jb),("place_behind",gC),("ways_on",nY),("order_or_table",fi),("good",yV),("_law_right",jg),("_law_pen",mq),("law",FC)]))
  (cl_Course:Hv K "Course" CCourse ["ends","looks","needs","puts","before"] [("__init__","Course.__init__",ig),("note_look","Course.note_look",dS),("enter","Course.enter",gF),("follow","Course.follow",fP)])
  (cl_Asking:Hv K "Asking" CAsking ["course","ones","needed"] [("__init__","Asking.__init__",ik),("may_be_next","Asking.may_be_next",dh)])
  (g1:PySem.W.nsIn K mainGlobals "MOST_ASKED"=some (some (.int (8) tk1)))
  (zs:Lz K Oq) :
  ∃fd:FuncData,(∀(s:Shared) (v:Value),BindsTo s fd ⟨[v],[]⟩ [("script",v)])/\∀base:Heap,K.In base->base.Ns mainGlobals mg->nc l.prog w K mg base CX0 8 fa fd ["script"] (BQ K):=by
 obtain⟨d__law_take,d__law_world,d__law_state,d__law_names,d__law_put_in,d__law_event,d__law_log,d__law_begun,d__law_end,d__law_looks,d__law_puts,d__law_times,d__law_asked,d__law_changed,d__law_fits,d__law_is_order,d__law_parts,d__law_steps,d__law_can,d__law_same,d_course_of,d_is_asked,d_asked_in,d_fits,d_state_with,d_asking_few,d_place_behind,d_ways_on,d_order_or_table,d_good,d__law_right,d__law_pen,d_law,-⟩:=ds;obtain⟨m_Course_init,m_Course_note_look,m_Course_enter,m_Course_follow,-⟩:=cl_Course.ms;have TCourse:=cl_Course.tc;obtain⟨m_Asking_init,m_Asking_may_be_next,-⟩:=cl_Asking.ms;have TAsking:=cl_Asking.tc;have C_MOST_ASKED:=O7 X G g1;have B:=zs.blt X G;refine Kd d_law X G hfa fun fd F_law base=>?_;have Gp:=GI (P:=l.prog) (w:=w) (base:=base) (k:=0) B (d__law_pen.df X G);have aJ:=uR (P:=l.prog) (w:=w) (base:=base) (k:=0) (d__law_take.df X G) B;have jG:=sW (P:=l.prog) (w:=w) (base:=base) (k:=1) (d__law_world.df X G) B aJ;have jI:=sZ (P:=l.prog) (w:=w) (base:=base) (k:=1) (d__law_state.df X G) B aJ;have jL:=tm (P:=l.prog) (w:=w) (base:=base) (k:=1) (d__law_names.df X G) B aJ;have iH:=qZ (P:=l.prog) (w:=w) (base:=base) (k:=0) (d__law_put_in.df X G) B;have jN:=tw (P:=l.prog) (w:=w) (base:=base) (k:=1) (d__law_event.df X G) B aJ;have mM:=xA (P:=l.prog) (w:=w) (base:=base) (k:=2) (d__law_log.df X G) B jL (Has.mono aJ (by decide)) jN (Has.mono iH (by decide));have dP:=tD (P:=l.prog) (w:=w) (base:=base) (k:=0) (d__law_begun.df X G) B;have cR:=xB (P:=l.prog) (w:=w) (base:=base) (k:=0) (d__law_end.df X G) B;have dM:=tq (P:=l.prog) (w:=w) (base:=base) (k:=0) (d__law_looks.df X G) B;have eI:=uT (P:=l.prog) (w:=w) (base:=base) (k:=0) (d__law_puts.df X G) B;have dJ:=sX (P:=l.prog) (w:=w) (base:=base) (k:=0) (d__law_times.df X G) B;have jO:=tF (P:=l.prog) (w:=w) (base:=base) (k:=1) (d__law_asked.df X G) B dP cR;have gN:=pK (P:=l.prog) (w:=w) (base:=base) (k:=1) (d__law_changed.df X G) B cR eI;have kJ:=uU (P:=l.prog) (w:=w) (base:=base) (k:=1) (d__law_fits.df X G) B dM;have fX:=oH (P:=l.prog) (w:=w) (base:=base) (k:=2) (d__law_is_order.df X G) B jO (Has.mono dJ (by decide)) kJ gN;have jK:=tj (P:=l.prog) (w:=w) (base:=base) (k:=1) (d__law_parts.df X G) B dP cR dM eI dJ;have jH:=sY (P:=l.prog) (w:=w) (base:=base) (k:=0) (d__law_steps.df X G) B;have mN:=xC (P:=l.prog) (w:=w) (base:=base) (k:=1) (fuel:=9000) (d__law_can.df X G) B jH;have kI:=uS (P:=l.prog) (w:=w) (base:=base) (k:=0) (d__law_same.df X G) B;have M_Course_note_look:=lU (P:=l.prog) (w:=w) (base:=base) (k:=0) (m_Course_note_look.mt) B TCourse;have M_Course_enter:=pL (P:=l.prog) (w:=w) (base:=base) (k:=0) (m_Course_enter.mt) B TCourse;have M_Course_follow:=oI (P:=l.prog) (w:=w) (base:=base) (k:=1) (m_Course_follow.mt) B TCourse M_Course_enter M_Course_note_look;have M_Course_init:=q0 (P:=l.prog) (w:=w) (base:=base) (k:=0) (cl_Course.mkd m_Course_init X G) B TCourse;have kH:=uQ (P:=l.prog) (w:=w) (base:=base) (k:=1) (d_course_of.df X G) B TCourse M_Course_follow M_Course_init;have fM:=xx (P:=l.prog) (w:=w) (base:=base) (k:=0) (d_is_asked.df X G) B TCourse;have mL:=xy (P:=l.prog) (w:=w) (base:=base) (k:=1) (d_asked_in.df X G) B TCourse fM;have Bh:=KA (P:=l.prog) (w:=w) (base:=base) (k:=0) (d_fits.df X G) B TCourse;have jE:=sU (P:=l.prog) (w:=w) (base:=base) (k:=0) (d_state_with.df X G) B TCourse;have M_Asking_init:=rg (P:=l.prog) (w:=w) (base:=base) (k:=2) (cl_Asking.mkd m_Asking_init X G) B TAsking TCourse mL (Has.mono fM (by decide));have M_Asking_may_be_next:=jY (P:=l.prog) (w:=w) (base:=base) (k:=1) (m_Asking_may_be_next.mt) B TAsking Bh;have jF:=sV (P:=l.prog) (w:=w) (base:=base) (k:=3) (d_asking_few.df X G) B C_MOST_ASKED TAsking (Has.mono kH (by decide)) M_Asking_init;have gM:=pJ (P:=l.prog) (w:=w) (base:=base) (k:=1) (d_place_behind.df X G) B TAsking jE;have pA:=Ag (P:=l.prog) (w:=w) (base:=base) (k:=2) (d_ways_on.df X G) B TAsking gM M_Asking_may_be_next;have fq:=nu (P:=l.prog) (w:=w) (base:=base) (k:=3) (fuel:=9000) (d_order_or_table.df X G) B TAsking pA;have Bg:=Kz (P:=l.prog) (w:=w) (base:=base) (k:=5) (d_good.df X G) B (Has.mono fq (by decide)) jF;have jJ:=tf (P:=l.prog) (w:=w) (base:=base) (k:=6) (d__law_right.df X G) B (Has.mono mN (by decide)) (Has.mono jK (by decide)) Bg (Has.mono kI (by decide)) (Has.mono fX (by decide));exact Nm (P:=l.prog) (w:=w) (base:=base) (k:=7) F_law B (Has.mono Gp (by decide)) (Has.mono jG (by decide)) (Has.mono jI (by decide)) (Has.mono mM (by decide)) jJ fun ns a c ha hc=>Kc (c:=⟨CCourse,_⟩) (cA:=⟨CAsking,_⟩) rfl rfl ns a c ha hc
theorem OT{l:PySem.W.OpenLaw}{q:Program}{loose:List Str}{XP:(Str->Option Value)->Heap->Prop}{YP:World->Heap->Prop}{d:DefRec}{K:Params->Q1}(hn:l.most=some 63)(hdf:d.params.defaults=[])
  (hY:∀(w:World) (h:Heap),YP w h->(K w.params).In h)
  (F:∀(w:World) (mg:Str->Option Value) (fa:Addr) (h:Heap),(K w.params).In h->h.Ns mainGlobals mg->mg d.name=some (.ref fa)->
   ∃fd:FuncData,(∀(s:Shared) (u:Value),BindsTo s fd ⟨[u],[]⟩ [("script",u)])/\∀base:Heap,(K w.params).In base->base.Ns mainGlobals mg->nc l.prog w (K w.params) mg base CX0 8 fa fd ["script"] (BQ (K w.params))) :
  PySem.W.WalkO q loose XP YP l.row.toRowW d [] (fun f vs=>PySem.call f vs):=
 L2.Fq (n:=63) (k:=8) (x:="script") (CX:=fun _=>CX0) (sp:=fun w=>BQ (K w.params)) hn (by decide) hdf ⟨rfl,by decide,by decide,rfl⟩ hY F (fun _ _ a ns hl _ hS=>⟨a,ns,rfl,hS,hl,fun _=>rfl⟩) fun _ _ _ _ _ z=>z
end OL
namespace PySem.W.Fast
def tw10924597546594654680:=0
def tw18243654082280562018:=0
def tw17790889907167069571:=0
def tw6406867999547980025:=0
def tw12037578263914017500:=0
def tw10097013282342677005:=0
def tw14448002404916296971:=0
def tw6836814681696181650:=0
def tw14628371275095301602:=0
def tw1148217314118709015:=0
def tw17652116884094031275:=0
def tw11580800144844634803:=0
def tw3516299814532671203:=0
def tw3045511765702092020:=0
def tw16287289936196760691:=0
def tw17407212390148179842:=0
def tw17765925656259569800:=0
def tw16832174665452761956:=0
def tw10672695922376083612:=0
def tw14018290965963330654:=0
def tw5590207582602666637:=0
def tw4744400487769803835:=0
def tw10553290754938582809:=0
def tw7604242616735873857:=0
def tw3460046661814561064:=0
def tw16834065530488419447:=0
def tw8343395464179293890:=0
def tw4681919805983566391:=0
def tw9586216012143552611:=0
def tw6076872955016738754:=0
def tw15671454184096864107:=0
def tw15374499457021174810:=0
def tw15885284358931415076:=0
def tw3703590378995184141:=0
def tw17787269644235178061:=0
def tw12516579287334434148:=0
def tw16999642320407749185:=0
def tw12518069457327552877:=0
def tw11186454922445834466:=0
def tw2887545035846124967:=0
def tw1494887740784270233:=0
def tw2244845158163300609:=0
def tw11225711101729712239:=0
def tw5832164024504359236:=0
def tw6268155523148960339:=0
def tw17971278883866776237:=0
def tw7593682884328560904:=0
def tw1651759438769148815:=0
def tw2905764093000774333:=0
def tw13181949149629880753:=0
def tw2415168758273202524:=0
def tw12873008756091016659:=0
def tw12701076236406352747:=0
def tw13793651828747759696:=0
def tw5530370545362724194:=0
def tw10379354818807440409:=0
def tw13901407232163107149:=0
def tw6396222658955725399:=0
def tw14933078086380091923:=0
def tw11531177211001868382:=0
def tw16041370964342171040:=0
def tw9225952764483729174:=0
def tw1469194969233968358:=0
def tw9237197618099752322:=0
def tw11242837893661873403:=0
def tw5343679840093371601:=0
def tw12839987114184357555:=0
def tw18120799819632579697:=0
def tw12763005997092328914:=0
def tw9763176546586968660:=0
def tw9169691501021805631:=0
def tw2075269563282660273:=0
def tw4113372834758865078:=0
def tw11670205666570089855:=0
def tw2686999374068398097:=0
def tw432845583926207073:=0
def tw11177985892117303449:=0
def tw1242816139675489557:=0
def tw12321213277165182752:=0
def tw1228762494637894488:=0
def tw6573507246858315434:=0
def tw305957996863526698:=0
def tw15474216216506355388:=0
def tw5869708974392248190:=0
def tw18148366496984143852:=0
def tw13539281590204312381:=0
def tw15664758580381875671:=0
def tw7818004870263490452:=0
def tw9215397054631781790:=0
def tw18031318057662164082:=0
def tw7601992544972456388:=0
def tw7610178752728100288:=0
def tw15153821207774425766:=0
def tw6443387923058671756:=0
def tw11239053235333712396:=0
def tw16652191057424194456:=0
def tw6020031484585193776:=0
def tw13151221465695949468:=0
def tw12413350311659323424:=0
def tw12062590042633219488:=0
def tw3562677270957796240:=0
def tw13423499238267035058:=0
def tw7430575966586546913:=0
def tw5398491969121495317:=0
def tw6402691170510758581:=0
def tw8297417613566996538:=0
def tw17261631733627127404:=0
def tw2072928423854030112:=0
def tw9265097392262044624:=0
def tw12813853008094582724:=0
def tw11133629383932164813:=0
def tw1019729281818107433:=0
def tw18281097196788924280:=0
def tw1428757918779077735:=0
def tw6357960182233787839:=0
def tw6866050792323987404:=0
def tw7917306895792293699:=0
def tw171000331420439482:=0
def tw10139152787281519892:=0
def tw12707988314429160817:=0
def tw9762231473201320833:=0
def tw9972520505444588583:=0
def tw8326402935512910494:=0
def tw13187006202243150510:=0
def tw11453858795743188569:=0
def tw8076741733552950823:=0
def tw12253434517751125550:=0
def tw2601568198079796742:=0
def tw8357090056248419169:=0
def tw5223176571789795272:=0
def tw15104620757676455651:=0
def tw10903069845759981497:=0
def tw3438605693101784791:=0
def tw12012089706663218442:=0
def tw15855062352436119394:=0
def tw14229547946239756667:=0
def tw6629729506736875207:=0
def tw5750227573749815629:=0
def tw706475947414844558:=0
def tw14472363191647832944:=0
def tw826482183371477154:=0
def tw17720320189989455817:=0
def tw2274840247507387128:=0
def tw7120441647255362720:=0
def tw11689540674014595272:=0
def tw11281504028978402038:=0
def tw2661161855954915772:=0
def tw2703583714842526278:=0
def tw4827884494727141863:=0
def tw4647783408487557453:=0
def tw2424006924572355:=0
def tw12952817560197799818:=0
def tw17964440750699743996:=0
def tw6362445960118914709:=0
def tw1593888849504251170:=0
def tw2594559380484329208:=0
def tw15781804434236783958:=0
def tw7948894825061233832:=0
def tw7449503022295481348:=0
def tw9385375684703305786:=0
def tw15916772005194536762:=0
def tw5826282088940411448:=0
def tw2188003014581206753:=0
def tw16804826600524685633:=0
def tw4479409044146934374:=0
def tw480935797400394959:=0
def tw2616849985794813101:=0
def tw14435486699147080000:=0
def tw15796064555791186041:=0
def tw583749875731401685:=0
def tw8603485950385997454:=0
def tw16915502189288607927:=0
def tw9010127245408492383:=0
def tw9663372524257704542:=0
def tw7063398372730949848:=0
def tw7646963578924882584:=0
def tw16450954428720298959:=0
def tw17584195368366503867:=0
def tw13416932200273176007:=0
def tw7573667688121266017:=0
def tw16221287879053851304:=0
def tw17486158214606873368:=0
def tw5113789825584550674:=0
def tw127969147691945262:=0
def tw15953660427603081313:=0
def tw10117306190629093736:=0
def tw17543225275202065089:=0
def tw16010733999383607573:=0
def tw4913133571331128155:=0
def tw15339273023087129331:=0
def tw15868664590647000159:=0
end PySem.W.Fast
open PySem PySem.W PyProof.Rows
open OP in
set_option maxRecDepth 100000 in
set_option maxHeartbeats 0 in
theorem PySem.Challenge.cw_oneglance_k19_good_or_none_holds : PySem.Challenge.rw_oneglance_k19_good_or_none.Holds := by
 w_on; o_law; k_head; (case hw => w_witness2)
 k_fill
 refine OL.OT (l := PySem.Challenge.rw_oneglance_k19_good_or_none) rfl rfl (fun w h Y => PySem.W.kIn_of Y) ?F;case F =>
  intro w mg fa h KX G hmg;refine' OL.K3 KX G hmg ?ds ?cl_Course ?cl_Asking ?g1 ?zs
  (case ds => (repeat (refine' ⟨O5 ?a ?l ?c ?k, ?_⟩; (case a => k_is); (case l => k_is); (case c => k_is); (case k => k_is))); exact trivial)
  (case cl_Course => (refine' ⟨?a, ?b, ?c, ?d, ?e, ?f, ?g, ?n, ?m⟩; (case a => k_is); (case b => k_is); (case c => k_is); (case d => k_is); (case e => k_is); (case f => k_is); (case g => k_is); (case n => (repeat (refine' ⟨?a, ?_⟩; (case a => k_is))); exact trivial); (case m => (repeat (refine' ⟨N3 ?a ?i ?l ?c ?k, ?_⟩; (case a => k_is); (case i => k_is); (case l => k_is); (case c => k_is); (case k => k_is))); exact trivial)))
  (case cl_Asking => (refine' ⟨?a, ?b, ?c, ?d, ?e, ?f, ?g, ?n, ?m⟩; (case a => k_is); (case b => k_is); (case c => k_is); (case d => k_is); (case e => k_is); (case f => k_is); (case g => k_is); (case n => (repeat (refine' ⟨?a, ?_⟩; (case a => k_is))); exact trivial); (case m => (repeat (refine' ⟨N3 ?a ?i ?l ?c ?k, ?_⟩; (case a => k_is); (case i => k_is); (case l => k_is); (case c => k_is); (case k => k_is))); exact trivial)))
  (case g1 => k_is)
  (case zs => (repeat (refine' ⟨?a, ?_⟩; (case a => k_is))); exact trivial)
